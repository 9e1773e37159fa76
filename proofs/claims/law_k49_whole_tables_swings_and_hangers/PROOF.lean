import PyProof.Rows.All
import Wide.All
import OpenK.AllK
import Wide.FinOn
import Lean
import PyProof.EqAt
import PyProof.EqKinds
import PyProof.TupleCall
import KE.KUnpack
import KE.KTab
import KE.LcSums
import KE.KSortTup
import KE.KDictAny
import PyProof.WalkInts
import PyProof.MinMaxWalk
import PyProof.P3In
import KE.KxIndex
import KE.KTryMore
import PyProof.NsDelKeeps
import KE.KIsNot
import KE.KIsAll
import PyProof.ExcArgsOwn
import PyProof.ExcAttrAll.ValueError
import PyProof.StrBlockH
import KE.KIntText
import PyProof.StrBlockL
import PyProof.StrLawsIn
import PyProof.StrLawsOcc
import PyProof.StrLawsChain
import PyProof.StrReplace2
import PyProof.StrCalls2
import PyProof.Rows.StrSplitAre
import PySem.Challenge.RW_hangrings_k49_whole_tables_swings_and_ha
set_option linter.all false
set_option maxRecDepth 100000
set_option Elab.async false
set_option maxHeartbeats 4000000
set_option exponentiation.threshold 200000
section
set_option maxHeartbeats 0
namespace TopT
open PySem PySem.W
noncomputable def sS (tb:String->Option Builtin) (p:Program) (w:World) (n₀:Nat) (ann:Option Value):Nat->SharedT->Thread->Option SharedT
  | 0,_,_=>none
  | n+1, s, t => match through t with
    | true=>some s
    | false=>match stepOk n₀ ann t with
      | false=>none
      | true=>match stepT (denote tb) p w s t with
        | some (s',t')=>sS tb p w n₀ ann n s' t'
        | none=>none
theorem zbN {tb:String->Option Builtin} {p:Program} {w:World} {n₀:Nat} {ann:Option Value}:∀ {n:Nat} {s s':SharedT} {t:Thread},sS tb p w n₀ ann n s t=some s'->topRun tb p w n₀ ann n s.abs t=some s'.abs
  | 0,_,_,_,h=>by cases h
  | n+1, s, s', t, h => by
    unfold sS at h
    unfold topRun
    cases he:through t with
    | true=>rw [he] at h;cases h;rfl
    | false =>
      rw [he] at h
      cases hk:stepOk n₀ ann t with
      | false=>rw [hk] at h;cases h
      | true =>
        rw [hk] at h
        cases hs:stepT (denote tb) p w s t with
        | none=>rw [hs] at h;cases h
        | some r=>obtain ⟨s₂,t₂⟩:=r;rw [hs] at h;rw [stepT_spec hs];exact zbN h
noncomputable def ofL:BT->Nat->List Obj->BT
 | t,_,[]=>t
 | t,n,o::l=>ofL (t.ins n o) (n+1) l
noncomputable def bt (P:Params):BT:=ofL .nil 0 (boot_heap P).objs.toList
theorem ybQ (P:Params):absHeap (bt P) 11 {}=boot_heap P:=by kernel_rfl
theorem yfZ (P:Params):((boot_heap P).isNs mainGlobals,(boot_heap P).objs.size,(boot_heap P).nsMap mainGlobals "__annotations__")=(true,11,some (.ref 6)):=by kernel_rfl
noncomputable def goes (p:Program) (M:Nat) (T:BT) (w:World) (os:OsState):Option SharedT:=sS treeTable p w 11 (some (.ref 6)) M ⟨T,11,{}, #[],{},181,os⟩ (topStub p)
theorem leftT {p q:Program} {loose:List Str} {Xt:Shared->Bool} {α:Type} {Yf:Shared->α} {Ya:World->α} {N:Nat} (M:Nat)
  {R:BT->World->OsState->Option SharedT} (hR:goes p M=R) (e:opening p=plainProg p.main.scope.names) (f:∀ s,fenceModules? p s=some s) (hN:Nat.ble 600 N=true) (le:Nat.ble M N=true)
  (A:∀ w os,(R (bt w.params) w os).map (fun s=>staticsOk (importedModules p.main.body) (boot_heap w.params) s.abs.heap && namesBound p s.abs.heap && gensDone s.abs && laidKept (boot_heap w.params) s.abs.heap)=some true)
  (B:∀ w os,(R (bt w.params) w os).map (fun s=>openSeen q loose (importedModules p.main.body) Xt true s.abs)=some (openGood q loose))
  (C:∀ w os,(R (bt w.params) w os).map (fun s=>Yf s.abs)=some (Ya w)):LeftO p q loose Xt Yf Ya N:=fun w=>by
 subst hR
 obtain ⟨⟨h,gs,d,k,os⟩,e,e'⟩:=Option.map_eq_some_iff.mp (boot_open e hN f w)
 obtain ⟨rfl,rfl,rfl,rfl⟩:h=boot_heap w.params/\gs = #[]/\d=boot_drawn/\k=boot_toks:=by simpa using e'
 obtain ⟨z1,z2,z3⟩:_/\_/\_:=by simpa only [Prod.mk.injEq] using yfZ w.params
 obtain ⟨s,hs,l1⟩:=Option.map_eq_some_iff.mp (A w os)
 have b:=B w os;rw [hs] at b
 have c:=C w os;rw [hs] at c
 have r:=topRun_mono (N - M) _ _ _ _ (zbN hs)
 rw [show M+(N - M)=N by have:=Nat.le_of_ble_eq_true le;omega] at r
 have r':topRun treeTable p w 11 (some (.ref 6)) N ⟨boot_heap w.params, #[],boot_drawn,boot_toks,os⟩ (topStub p)=some s.abs:=by
  rw [<- ybQ];exact r
 have t:topFrom treeTable p w N ⟨boot_heap w.params, #[],boot_drawn,boot_toks,os⟩=some s.abs:=by
  unfold topFrom
  dsimp only
  rw [z1,z2,z3,r']
  show (match staticsOk (importedModules p.main.body) (boot_heap w.params) s.abs.heap && namesBound p s.abs.heap && gensDone s.abs && laidKept (boot_heap w.params) s.abs.heap with|true=>_|false=>_)=_
  rw [l1]
 unfold openEnds
 rw [e]
 show (topFrom treeTable p w N _).map _=_
 rw [t]
 exact congrArg some (Prod.ext (Option.some.inj b) (Option.some.inj c))
theorem byR (row:String) {P:World->OsState->Prop} (hf:∀ (w:World) os,P (w.withFollow row false) os) (ht:∀ (w:World) os,P (w.withFollow row true) os):∀ w os,P w os:=fun w os=>byRow2 row (P:=fun w=>P w os) (fun w=>hf w os) (fun w=>ht w os) w
theorem comb {A B C R:Prop} (f:A->B->C->R) (h:A/\B) (c:C):R:=f h.1 h.2 c
abbrev oneOf {P:World->OsState->Prop} {B R:Prop} (_:(∀ w os,P w os)/\B->R) (w:World) (os:OsState):Prop:=P w os
end TopT
end
section
namespace L2
open PySem PySem.Spec PyProof.Rows
abbrev Key:=Sum Int Str
def zyZ:Key->Value->Bool
 | .inl k,v=>Value.isInt k v
 | .inr x,v=>Value.isStrOf x v
def yiT (w:World):Key->Int
 | .inl k=>hashInt k
 | .inr x=>hashStr w x
theorem yZ:∀ {k:Key} {v:Value},zyZ k v=true->(∃ i t,k=Sum.inl i/\v=Value.int i t)\/(∃ x t,k=Sum.inr x/\v=Value.str x t)
  | .inl i,v,h=>by
    obtain ⟨t,e⟩:=Value.isInt_shape (k:=i) (v:=v) h
    exact .inl ⟨i,t,rfl,e⟩
  | .inr x,v,h=>by
    obtain ⟨t,e⟩:=Value.isStrOf_shape (x:=x) (v:=v) h
    exact .inr ⟨x,t,rfl,e⟩
theorem ybE (a b:Int):decide ((Sum.inl a:Key)=Sum.inl b)=(a == b):=by
 by_cases e:a=b
 ·subst e;simp
 ·have h:¬ (Sum.inl a:Key)=Sum.inl b:=fun q=>e (Sum.inl.inj q)
  rw [decide_eq_false h]
  exact (beq_eq_false_iff_ne.mpr e).symm
theorem ycD (a b:Str):decide ((Sum.inr a:Key)=Sum.inr b)=decide (a=b):=by
 by_cases e:a=b
 ·subst e;simp
 ·have h:¬ (Sum.inr a:Key)=Sum.inr b:=fun q=>e (Sum.inr.inj q)
  rw [decide_eq_false h,decide_eq_false e]
theorem ydO (a:Int) (b:Str):decide ((Sum.inl a:Key)=Sum.inr b)=false:=decide_eq_false (fun q=>nomatch q)
theorem yaT (a:Str) (b:Int):decide ((Sum.inr a:Key)=Sum.inl b)=false:=decide_eq_false (fun q=>nomatch q)
def zjK (prog:Program) (w:World):PySem.KeyKind prog w Key where
 is:=zyZ
 hash:=yiT w
 inj := fun v a b ha hb => by
  rcases yZ ha with ⟨i,t,rfl,rfl⟩|⟨x,t,rfl,rfl⟩
  ·rcases yZ hb with ⟨j,u,rfl,e⟩|⟨y,u,rfl,e⟩
   ·injection e with e1 _;rw [e1]
   ·exact nomatch e
  ·rcases yZ hb with ⟨j,u,rfl,e⟩|⟨y,u,rfl,e⟩
   ·exact nomatch e
   ·injection e with e1 _;rw [e1]
 byValue:=fun k v h=>by
  rcases yZ h with ⟨i,t,rfl,rfl⟩|⟨x,t,rfl,rfl⟩ <;> rfl
 pyHash:=fun hv h=>by
  rcases yZ hv with ⟨i,t,rfl,rfl⟩|⟨x,t,rfl,rfl⟩
  ·exact wpAny_pyHash_int h
  ·exact wpAny_pyHash_str h
 eqBool:=fun hu hv h=>by
  rcases yZ hu with ⟨i,t,rfl,rfl⟩|⟨x,t,rfl,rfl⟩
  ·rcases yZ hv with ⟨j,u,rfl,rfl⟩|⟨y,u,rfl,rfl⟩
   ·rw [ybE] at h;exact wpAny_eqBool_int h
   ·rw [ydO] at h;exact SeqAt.EqAt.int_str i t y u _ _ _ _ h
  ·rcases yZ hv with ⟨j,u,rfl,rfl⟩|⟨y,u,rfl,rfl⟩
   ·rw [yaT] at h;exact SeqAt.EqAt.str_int x t j u _ _ _ _ h
   ·rw [ycD] at h;exact wpAny_eqBool_str h
 «strs» := fun k x t v h=>by
  rcases yZ h with ⟨i,u,rfl,e⟩|⟨y,u,rfl,e⟩
  ·exact nomatch e
  ·injection e with e1 _
   subst e1
   cases v <;> rfl
end L2
namespace L2
open PySem PySem.Spec PyProof.Rows
inductive V where
 | non|bl (b:Bool)|int (i:Int)|str (x:Str)|byt (b:Array UInt8)|flt (b:UInt64)|ref (a:Addr)|ty (n:String)
 deriving DecidableEq
def RelV:V->Value->Prop
 | .non,u=>u=Value.none
 | .bl b,u=>u=Value.bool b
 | .int i,u=>∃ t,u=Value.int i t
 | .str x,u=>∃ t,u=Value.str x t
 | .byt b,u=>∃ t,u=Value.bytes b t
 | .flt b,u=>∃ t,u=Value.float b t
 | .ref a,u=>u=Value.ref a
 | .ty n,u=>u=Value.type n
abbrev Vals:List V->List Value->Prop:=Paired RelV
theorem Vals.length {xs:List V} {us:List Value} (r:Vals xs us):xs.length=us.length:=Paired.length r
theorem Vals.get:∀ {xs:List V} {us:List Value} {i:Nat} {x:V},Vals xs us->xs[i]?=some x->∃ u,us[i]?=some u/\RelV x u
  | _,_,_,_,.nil,e=>by simp at e
  | _,_,0,_,.cons r _,e=>by simp at e;subst e;exact ⟨_,rfl,r⟩
  | _,_,i+1,x,.cons _ t,e=>by
    obtain ⟨u,h1,h2⟩:=Vals.get (i:=i) (x:=x) t (by simpa using e)
    exact ⟨u,by simpa using h1,h2⟩
theorem Vals.set {x:V} {u:Value} (r:RelV x u):∀ {xs:List V} {us:List Value} (i:Nat),Vals xs us->Vals (xs.set i x) (us.set i u)
 | _,_,_,.nil=>.nil
 | _,_,0,.cons _ t=>.cons r t
 | _,_,i+1,.cons q t=>.cons q (Vals.set r i t)
theorem Vals.append:∀ {xs ys:List V} {us ws:List Value},Vals xs us->Vals ys ws->Vals (xs++ys) (us++ws)
 | _,_,_,_,.nil,s=>s
 | _,_,_,_,.cons r t,s=>.cons r (Vals.append t s)
theorem Vals.take:∀ {xs:List V} {us:List Value} (n:Nat),Vals xs us->Vals (xs.take n) (us.take n)
 | _,_,0,_=>.nil
 | _,_,_+1,.nil=>.nil
 | _,_,n+1,.cons r t=>.cons r (Vals.take n t)
theorem Vals.drop:∀ {xs:List V} {us:List Value} (n:Nat),Vals xs us->Vals (xs.drop n) (us.drop n)
 | _,_,0,r=>r
 | _,_,_+1,.nil=>.nil
 | _,_,n+1,.cons _ t=>Vals.drop n t
def ygH:Option V->Option Value->Prop
 | some v,some u=>RelV v u
 | none,none=>True
 | _,_=>False
def KV {κ:Type}:List (κ × V)->List (κ × Value)->Prop:=Paired fun (p:κ × V) (q:κ × Value)=>p.1=q.1/\RelV p.2 q.2
def kV:Key->V
 | .inl i=>.int i
 | .inr x=>.str x
inductive HO where
 | lst (xs:List V)
 | tup (xs:List V)
 | dK (kvs:List (Key × V))|dT (kvs:List (List Key × V))
 | set (S:Int->Bool) (n:Nat)
 | ins (C dx:Addr) (fs:List (Str × V))
 | own (x:Addr)
 | xd (fs:List (Str × V))
 | met (f x:Addr)
 | rng (lo hi:Int)
 | frz (o:Obj) (u:HO)
 | tbl (ps:Array Value)
 | ext (φ:Heap->Prop)
abbrev Hp:=Addr->Option HO
def upd (H:Hp) (a:Addr) (o:HO):Hp:=fun b=>if b=a then some o else H b
theorem zJ {H:Hp} {a:Addr} {o:HO}:upd H a o a=some o:=by unfold upd;rw [if_pos rfl]
theorem zP {H:Hp} {a b:Addr} {o:HO} (h:b≠a):upd H a o b=H b:=by unfold upd;rw [if_neg h]
theorem zkT {H:Hp} {a b:Addr} {o u:HO} (h:H a=some o) (h':H b=some u) (d:o≠u):a≠b:=by
 intro e;subst e;rw [h] at h';exact d (Option.some.inj h')
theorem zZ {H:Hp} {a b:Addr} {o:HO} (h:H a=some o) (h':H b=none):a≠b:=by
 intro e;subst e;rw [h] at h';cases h'
section
variable (P:Program) (w:World)
def ObjOk (H:Hp) (h:Heap) (a:Addr):HO->Prop
 | .lst xs=>xs.length<=sizeLine/\∃ (its:List Value) (n:Nat),Vals xs its/\h.get? a=some { cls:=.type "list",data:=.seq its.toArray n }
 | .tup xs=>xs.length<=sizeLine/\∃ its:List Value,Vals xs its/\IsTup h a its.toArray
 | .dK kvs=>kvs.length<=sizeLine/\(a == sysModules)=false/\∃ vs,KV kvs vs/\h.DictOf (zjK P w) a vs
 | .dT kvs=>kvs.length<=sizeLine/\(a == sysModules)=false/\∃ xs:List (List Key × Addr × Value),
   Paired (fun (p:List Key × V) (q:List Key × Addr × Value)=>p.1=q.1/\H q.2.1=some (.tup (p.1.map kV))/\RelV p.2 q.2.2) kvs xs /\
   ∃ o es ep,h.get? a=some o/\o.ExactDict/\o.data = .dict es ep/\es.toList=xs.map (entryOfKey (tupleKind (zjK P w)))/\(xs.map (·.1)).Nodup
 | .set S n=>h.SetOf (intKind P w) a S n
 | .ins C dx fs=>H dx=some (.own a)/\fs.length<=1000/\dx≠a/\h.get? a=some (PySem.W.instObj C dx) /\
   ∃ mA,h.Ns1 dx mA/\(∀ f,ygH (fs.lookup f) (mA f))/\PySem.Within mA (fs.map (·.1))
 | .own _=>∃ o,h.get? a=some o
 | .xd fs=>∃ mA,h.Ns1 a mA/\∀ f,ygH (fs.lookup f) (mA f)
 | .rng lo hi=>∃ t u v,h.get? a=some { cls:=.type "range",data:=.fields #[.int lo t,.int hi u,.int 1 v] }
 | .frz o u=>h.get? a=some o/\ObjOk H h a u
 | .tbl ps=>h.get? a=some { cls:=.none,data:=.fields ps }
 | .met f x=>h.get? a=some (PySem.W.methodObj (.ref f) (.ref x))
 | .ext φ=>φ h/\(∃ o,h.get? a=some o)/\∀ h1 h2:Heap,φ h1->(∀ o,h1.get? a=some o->h2.get? a=some o)->φ h2
def HOk (H:Hp) (h:Heap):Prop:=∀ a o,H a=some o->ObjOk P w H h a o
end
section
variable {P:Program} {w:World} {H H':Hp} {h h':Heap} {a:Addr} {o:HO}
theorem ObjOk.lt (x:ObjOk P w H h a o):a<h.objs.size:=by
 cases o with
 | lst xs=>obtain ⟨_,_,_,_,e⟩:=x;exact Heap.lt_size e
 | tup xs=>obtain ⟨_,_,_,p⟩:=x;exact p.lt
 | dK kvs=>obtain ⟨_,_,_,_,o,_,_,e,_⟩:=x;exact Heap.lt_size e
 | dT kvs=>obtain ⟨_,_,_,_,o,_,_,e,_⟩:=x;exact Heap.lt_size e
 | set S n=>obtain ⟨o,_,_,_,e,_⟩:=x;exact Heap.lt_size e
 | ins C dx fs=>obtain ⟨_,_,_,e,_⟩:=x;exact Heap.lt_size e
 | own y=>obtain ⟨_,e⟩:=x;exact Heap.lt_size e
 | xd fs=>obtain ⟨_,⟨_,_,_,e,_⟩,_⟩:=x;exact Heap.lt_size e
 | rng lo hi=>obtain ⟨_,_,_,e⟩:=x;exact Heap.lt_size e
 | frz ob u=>obtain ⟨e,_⟩:=x;exact Heap.lt_size e
 | tbl ps=>exact Heap.lt_size (show h.get? a=some _ from x)
 | met f y=>exact Heap.lt_size (show h.get? a=some _ from x)
 | ext φ=>obtain ⟨_,⟨_,e⟩,_⟩:=x;exact Heap.lt_size e
theorem ay {α β:Type} {F G:α->β->Prop}:∀ {l₁:List α} {l₂:List β},Paired F l₁ l₂->(∀ a b,F a b->G a b)->Paired G l₁ l₂
 | _,_,.nil,_=>.nil
 | _,_,.cons r t,f=>.cons (f _ _ r) (ay t f)
theorem ObjOk.stay (x:ObjOk P w H h a o) (k:∀ b u,(b=a\/H b=some (.own a))->h.get? b=some u->h'.get? b=some u)
    (ho:∀ b,H b=some (.own a)->H' b=some (.own a)) (ht:∀ b xs,H b=some (.tup xs)->H' b=some (.tup xs)):ObjOk P w H' h' a o:=by
  induction o with
  | lst xs=>obtain ⟨z,its,n,r,e⟩:=x;exact ⟨z,its,n,r,k _ _ (.inl rfl) e⟩
  | tup xs=>obtain ⟨z,its,r,ob,e,c⟩:=x;exact ⟨z,its,r,ob,k _ _ (.inl rfl) e,c⟩
  | dK kvs=>obtain ⟨z,y,vs,r,ob,es,ep,e,c⟩:=x;exact ⟨z,y,vs,r,ob,es,ep,k _ _ (.inl rfl) e,c⟩
  | dT kvs =>
    obtain ⟨z,y,xs,r,ob,es,ep,e,c⟩:=x
    exact ⟨z,y,xs,ay r fun p q z=>⟨z.1,ht _ _ z.2.1,z.2.2⟩,ob,es,ep,k _ _ (.inl rfl) e,c⟩
  | set S n=>obtain ⟨ob,es,ep,t,e,c⟩:=x;exact ⟨ob,es,ep,t,k _ _ (.inl rfl) e,c⟩
  | ins C dx fs =>
    obtain ⟨d,z,ne,e,mA,⟨od,es,ep,e2,c⟩,r⟩:=x
    exact ⟨ho _ d,z,ne,k _ _ (.inl rfl) e,mA,⟨od,es,ep,k _ _ (.inr d) e2,c⟩,r⟩
  | own y=>obtain ⟨ob,e⟩:=x;exact ⟨ob,k _ _ (.inl rfl) e⟩
  | xd fs=>obtain ⟨mA,⟨od,es,ep,e,c⟩,r⟩:=x;exact ⟨mA,⟨od,es,ep,k _ _ (.inl rfl) e,c⟩,r⟩
  | rng lo hi=>obtain ⟨t,u,v,e⟩:=x;exact ⟨t,u,v,k _ _ (.inl rfl) e⟩
  | frz ob u ih=>obtain ⟨e,q⟩:=x;exact ⟨k _ _ (.inl rfl) e,ih q⟩
  | tbl ps =>
    have e:h.get? a=some { cls:=.none,data:=.fields ps }:=x
    show h'.get? a=some { cls:=.none,data:=.fields ps }
    exact k a _ (.inl rfl) e
  | met f y =>
    have e:h.get? a=some (PySem.W.methodObj (.ref f) (.ref y)):=x
    show h'.get? a=some (PySem.W.methodObj (.ref f) (.ref y))
    exact k a _ (.inl rfl) e
  | ext φ=>obtain ⟨p,⟨o,e⟩,st⟩:=x;exact ⟨st _ _ p fun o q=>k _ _ (.inl rfl) q,⟨o,k _ _ (.inl rfl) e⟩,st⟩
theorem HOk.lt (x:HOk P w H h) (e:H a=some o):a<h.objs.size:=(x a o e).lt
theorem HOk.fresh (x:HOk P w H h) (e:h.objs.size<=a):H a=none:=by
 cases q:H a with
 | none=>rfl
 | some u=>exact absurd (Nat.lt_of_lt_of_le (x.lt q) e) (Nat.lt_irrefl _)
theorem HOk.kept (x:HOk P w H h) (k:∀ b u,h.get? b=some u->h'.get? b=some u):HOk P w H h':=fun a o e =>
 (x a o e).stay (fun b u _ q=>k b u q) (fun _ q=>q) fun _ _ q=>q
theorem HOk.laid (x:HOk P w H h) (k:∀ b u,h.get? b=some u->h'.get? b=some u) (hp:h.objs.size<=a) (new:ObjOk P w (upd H a o) h' a o):HOk P w (upd H a o) h':=fun b u e=>by
 have hn:=x.fresh hp
 by_cases hb:b=a
 ·subst hb;rw [zJ] at e;cases e;exact new
 ·rw [zP hb] at e
  exact (x b u e).stay (fun c v _ q=>k c v q) (fun c q=>by rw [zP (zZ q hn)];exact q) fun c xs q=>by rw [zP (zZ q hn)];exact q
end
def Rd (H:Hp) (a:Addr) (u:HO):Prop:=H a=some u\/∃ o,H a=some (.frz o u)
theorem Rd.ok {P:Program} {w:World} {H:Hp} {h:Heap} {a:Addr} {u:HO} (r:Rd H a u) (x:HOk P w H h):ObjOk P w H h a u:=by
 rcases r with r|⟨o,r⟩
 ·exact x a u r
 ·obtain ⟨_,q⟩:=x a _ r
  exact q
def Mut:Option HO->Prop
 | some (.lst _)=>True
 | some (.dK _)=>True
 | some (.dT _)=>True
 | some (.set _ _)=>True
 | some (.ins _ _ _)=>True
 | some (.ext _)=>True
 | _=>False
section
variable {P:Program} {w:World} {H:Hp} {h h':Heap} {x e:Addr} {o':HO}
theorem HOk.write (ok:HOk P w H h) (mu:Mut (H x)) (he:e=x\/H e=some (.own x)) (k:∀ b u,b≠e->h.get? b=some u->h'.get? b=some u) (heo:∃ u,h'.get? e=some u)
  (new:ObjOk P w (upd H x o') h' x o'):HOk P w (upd H x o') h':=fun b u q=>by
 have nown:∀ c y,H c=some (.own y)->c≠x:=fun c y r z=>by subst z;rw [r] at mu;exact mu
 have ntup:∀ c xs,H c=some (.tup xs)->c≠x:=fun c xs r z=>by subst z;rw [r] at mu;exact mu
 by_cases hb:b=x
 ·subst hb;rw [zJ] at q;cases q;exact new
 ·rw [zP hb] at q
  by_cases hbe:b=e
  ·have q':H b=some (.own x):=by
    rcases he with z|z
    ·exact absurd (hbe.trans z) hb
    ·rw [hbe];exact z
   rw [q] at q';cases q'
   obtain ⟨v,hv⟩:=heo
   exact ⟨v,by rw [hbe];exact hv⟩
  ·refine (ok b u q).stay (fun c v hc r=>k c v ?_ r) (fun c r=>by rw [zP (nown c b r)];exact r) fun c xs r=>by rw [zP (ntup c xs r)];exact r
   rcases hc with rfl|hc
   ·exact hbe
   ·rintro rfl
    rcases he with z|z
    ·exact nown c b hc z
    ·rw [hc] at z;cases z;exact hb rfl
end
structure Un (fs ex:List Addr) (H H':Hp) (h h':Heap):Prop where
 keep:∀ b o,h.get? b=some o->H b=none->b ∉ fs->b ∉ ex->h'.get? b=some o
 slot:∀ b o,h.get? b=some o->H b=none->b∈fs->b ∉ ex->∃ sl,h'.get? b=some { o with slots:=sl }
 free:∀ b o,h.get? b=some o->H b=none->b ∉ ex->H' b=none
 there:∀ b o,h.get? b=some o->b ∉ ex->∃ o',h'.get? b=some o'
 tups:∀ b xs,H b=some (.tup xs)->H' b=some (.tup xs)
 frzs:∀ b o u,H b=some (.frz o u)->H' b=some (.frz o u)
 tbls:∀ b ps,H b=some (.tbl ps)->∃ more,H' b=some (.tbl (ps++more))
section
variable {fs ex:List Addr} {H H1 H2:Hp} {h h1 h2 h':Heap} {a x e:Addr} {o:HO}
theorem Un.any (u:Un fs ex H H1 h h1) {b:Addr} {ob:Obj} (q:h.get? b=some ob) (n:H b=none) (hx:b ∉ ex):∃ sl,h1.get? b=some { ob with slots:=sl }:=by
 by_cases hb:b∈fs
 ·exact u.slot b ob q n hb hx
 ·exact ⟨ob.slots,u.keep b ob q n hb hx⟩
theorem Un.kept (k:∀ b u,h.get? b=some u->h'.get? b=some u):Un fs ex H H h h' :=
 ⟨fun b ob q _ _ _=>k b ob q,fun b ob q _ _ _=>⟨ob.slots,k b ob q⟩,fun _ _ _ n _=>n,fun b ob q _=>⟨ob,k b ob q⟩,fun _ _ q=>q,fun _ _ _ q=>q,fun _ ps q=>⟨#[],by rw [q];simp⟩⟩
theorem Un.refl:Un fs ex H H h h:=Un.kept fun _ _ q=>q
theorem Un.laid (k:∀ b u,h.get? b=some u->h'.get? b=some u) (hp:h.objs.size<=a) (hn:H a=none):Un fs ex H (upd H a o) h h' where
 keep:=fun b u q _ _ _=>k b u q
 slot:=fun b u q _ _ _=>⟨u.slots,k b u q⟩
 free:=fun b u q n _=>by rw [zP (Nat.ne_of_lt (Nat.lt_of_lt_of_le (Heap.lt_size q) hp))];exact n
 there:=fun b u q _=>⟨u,k b u q⟩
 tups:=fun b xs q=>by rw [zP (zZ q hn)];exact q
 frzs:=fun b u xs q=>by rw [zP (zZ q hn)];exact q
 tbls:=fun b ps q=>⟨#[],by rw [zP (zZ q hn),q];simp⟩
theorem Un.write (mu:Mut (H x)) (he:e=x\/H e=some (.own x)) (k:∀ b u,b≠e->h.get? b=some u->h'.get? b=some u) (heo:∃ u,h'.get? e=some u):Un fs ex H (upd H x o) h h':=by
 have hx:∀ b,H b=none->b≠x:=fun b n z=>by subst z;rw [n] at mu;exact mu
 have hb:∀ b,H b=none->b≠e:=fun b n z=>by
  subst z
  rcases he with r|r
  ·exact hx b n r
  ·rw [n] at r;cases r
 have hm:∀ b u,H b=some u->¬ Mut (some u)->b≠x:=fun b u q nm z=>by subst z;rw [q] at mu;exact nm mu
 refine ⟨fun b u q n _ _=>k b u (hb b n) q,fun b u q n _ _=>⟨u.slots,k b u (hb b n) q⟩,fun b u q n _=>by rw [zP (hx b n)];exact n,fun b u q _=>?_,
  fun b xs q=>by rw [zP (hm b _ q fun z=>z)];exact q,fun b u xs q=>by rw [zP (hm b _ q fun z=>z)];exact q,fun b ps q=>⟨#[],by rw [zP (hm b _ q fun z=>z),q];simp⟩⟩
 by_cases hbe:b=e
 ·subst hbe;exact heo
 ·exact ⟨u,k b u hbe q⟩
end
def trk (h:Heap) (H:Hp):List Addr:=(List.range h.objs.size).filter fun a=>(H a).isSome
def zeV (h:Heap) (H:Hp):Heap:=PySem.W.hideAll h (trk h H)
theorem znS (h:Heap) (H:Hp):(zeV h H).objs.size=h.objs.size:=PySem.W.hideAll_size _ _
theorem zuB {h:Heap} {H:Hp} {b:Addr} {o:Obj} (e:h.get? b=some o) (n:H b=none):(zeV h H).get? b=some o :=
 PySem.W.hideAll_get _ e fun hm=>by
  have q:(H b).isSome=true:=(List.mem_filter.mp hm).2
  rw [n] at q;simp at q
theorem zuP {h:Heap} {H:Hp} {b:Addr} {o:Obj} (e:(zeV h H).get? b=some o):h.get? b=some o/\H b=none:=by
  have e':h.get? b=some o:=PySem.W.of_hideAll (trk h H) e
  refine ⟨e',?_⟩
  cases q:H b with
  | none=>rfl
  | some x =>
    have hm:b∈trk h H:=List.mem_filter.mpr ⟨List.mem_range.mpr (Heap.lt_size e'),by simp [q]⟩
    have z:(zeV h H).get? b=none:=PySem.W.hideAll_none (trk h H) hm
    rw [z] at e;cases e
def zvJ (g h:Heap) (L:Addr):List (Addr × Obj):=(List.range h.objs.size).filterMap fun a=>if a=L\/(g.get? a).isSome=true then none else (h.get? a).map fun o=>(a,o)
def rest (g h:Heap) (L d:Addr):List (Addr × Obj):=(zvJ g h L).filter fun p=>decide (p.1≠d)
end L2
namespace L2
open PySem PySem.Spec PyProof.Rows
structure Mod (K:PySem.W.Frag) (mg:Str->Option Value) (base:Heap):Prop where
 kin:K.In base
 glob:base.Ns mainGlobals mg
 blt:∃ mb,base.Ns builtinsNs mb/\∀ x:Str,x ≠ "__name__" -> mb x=bootBuiltins x
 nolimit:base.NoLimit
structure Cx where
 prog:Program
 w:World
 K:PySem.W.Frag
 mg:Str->Option Value
 base:Heap
 A:Around
 N:List Str
 s₀:Shared
 H₀:Hp
 env:Env
 outer:List Env
 stack:List Env
 ex:List Addr
 fn:Str->Bool
 calm:Bool
 pn:List (Addr × Obj)
 xe:Value->Shared->Prop
def frs (l:List Env):List Addr:=l.filterMap (·.frame)
abbrev Cx.fs (X:Cx):List Addr:=frs X.outer
def Vis (sc:Scope) (x:Str):Prop:=sc.names.lookup x=some .local\/sc.names.lookup x=some .cell\/sc.names.lookup x=some .free
def Loc (sc:Scope) (x:Str):Prop:=sc.names.lookup x=some .local\/sc.names.lookup x=some .cell
def yiW (env:Env) (h:Heap) (m:Str->Option Value) (x:Str) (u:Value):Prop :=
 (env.kindOf x=some .local/\m x=some u)\/((env.kindOf x=some .cell\/env.kindOf x=some .free)/\∃ c,env.cells.lookup x=some c/\h.IsCell c (some u))
structure Cx.Ok (X:Cx):Prop where
 mod:Mod X.K X.mg X.base
 kind:X.env.scope.kind = .function
 glob:X.env.globals=mainGlobals
 blt:X.env.builtins=builtinsNs
 above:X.s₀.heap.objs.size<=X.env.locals
 inj:∀ x y c,X.env.cells.lookup x=some c->X.env.cells.lookup y=some c->x=y
 has:∀ x,(X.env.kindOf x=some .cell\/X.env.kindOf x=some .free)->∃ c,X.env.cells.lookup x=some c
 cab:∀ x c,X.fn x=true->X.env.cells.lookup x=some c->X.s₀.heap.objs.size<=c
 hd:X.calm=true->X.A.handled=none
 frames:X.A.frames=some X.stack
 stk:X.stack=X.outer\/(X.stack=X.env::X.outer/\X.env.frame=some X.env.locals)
 exf:∀ b∈X.ex,b≠X.env.locals/\∀ x c,X.env.cells.lookup x=some c->c≠b
 bs:∀ b o,X.base.get? b=some o->X.s₀.heap.get? b=some o/\X.H₀ b=none
 bsz:X.base.objs.size<=X.s₀.heap.objs.size
 noex:∀ b o,X.base.get? b=some o->b ∉ X.ex
 exfs:∀ b∈X.ex,b ∉ X.fs
 funs:X.s₀.heap.FunFrames X.base X.outer
 frf:∀ b∈X.fs,X.H₀ b=none
structure Inv (X:Cx) (pins:List (Addr × Obj)) (σ:List (Option V)) (H:Hp) (s:Shared):Prop where
 ok:X.Ok
 os:s.os=X.s₀.os
 bare:AllBare s.gens
 base:Un X.fs X.ex X.H₀ H X.s₀.heap s.heap
 loc:∃ m,s.heap.Ns X.env.locals m/\∀ (i:Nat) (x:Str) (v:V),X.N[i]?=some x->σ[i]?=some (some v)->Vis X.env.scope x->∃ u,RelV v u/\yiW X.env s.heap m x u
 cell:∀ x c,X.env.cells.lookup x=some c->∃ v,s.heap.IsCell c v
 free:H X.env.locals=none
 freeC:∀ x c,X.env.cells.lookup x=some c->H c=none
 pin:∀ p∈X.pn++pins,s.heap.get? p.1=some p.2/\H p.1=none/\p.1≠X.env.locals/\p.1 ∉ X.fs/\∀ v,p.2.data ≠ .cell v
 hok:HOk X.prog X.w H s.heap
 len:σ.length=X.N.length
section
variable {X:Cx} {pins:List (Addr × Obj)} {σ:List (Option V)} {H H':Hp} {s:Shared} {h':Heap}
theorem Cx.Ok.nofr (ok:X.Ok) {b:Addr} {o:Obj} (e:X.base.get? b=some o):b ∉ X.fs:=fun hb=>by
 have:=(ok.funs.mem hb).1
 rw [e] at this;cases this
theorem Inv.bs (I:Inv X pins σ H s):∀ b o,X.base.get? b=some o->s.heap.get? b=some o/\H b=none:=fun b o e =>
 ⟨I.base.keep b o (I.ok.bs b o e).1 (I.ok.bs b o e).2 (I.ok.nofr e) (I.ok.noex b o e),I.base.free b o (I.ok.bs b o e).1 (I.ok.bs b o e).2 (I.ok.noex b o e)⟩
theorem Inv.bk (I:Inv X pins σ H s):∀ b o,X.base.get? b=some o->s.heap.get? b=some o:=fun b o e=>(I.bs b o e).1
theorem Inv.mod (I:Inv X pins σ H s):Mod X.K X.mg X.base:=I.ok.mod
theorem Inv.kIn (I:Inv X pins σ H s):X.K.In s.heap:=I.ok.mod.kin.keeps I.bk
theorem Inv.nolimit (I:Inv X pins σ H s):s.heap.NoLimit:=I.ok.mod.nolimit.keeps I.bk
theorem Inv.fr (I:Inv X pins σ H s):∃ m,Fr X.base X.env.locals s.heap m :=
 let ⟨m,hn,_⟩:=I.loc
 ⟨m,hn,I.bk,Nat.le_trans I.ok.bsz I.ok.above⟩
theorem Inv.lt (I:Inv X pins σ H s):X.env.locals<s.heap.objs.size:=let ⟨_,hn,_⟩:=I.loc;hn.lt
theorem Inv.sz (I:Inv X pins σ H s):X.s₀.heap.objs.size<=s.heap.objs.size:=Nat.le_trans I.ok.above (Nat.le_of_lt I.lt)
theorem Inv.nofs (I:Inv X pins σ H s) {a:Addr} (h:s.heap.objs.size<=a):a ∉ X.fs:=fun hb=>by
 obtain ⟨_,o,ho,_⟩:=I.ok.funs.mem hb
 exact absurd (Nat.lt_of_lt_of_le (Heap.lt_size ho) (Nat.le_trans I.sz h)) (Nat.lt_irrefl _)
theorem Inv.cne (I:Inv X pins σ H s):∀ x c,X.env.cells.lookup x=some c->c≠X.env.locals:=fun x c e z=>by
 obtain ⟨v,o,ho,hd⟩:=I.cell x c e
 obtain ⟨m,⟨o',es,ep,ho',hd',_⟩,_⟩:=I.loc
 rw [z,ho'] at ho;cases ho;rw [hd'] at hd;cases hd
theorem Inv.funs (I:Inv X pins σ H s):s.heap.FunFrames X.base X.outer:=by
  have all:∀ (l:List Env),(∀ b∈frs l,b∈X.fs)->X.s₀.heap.FunFrames X.base l->s.heap.FunFrames X.base l:=by
    intro l
    induction l with
    | nil=>intro _ _;trivial
    | cons env r ih =>
      intro hs hl
      obtain ⟨hk,⟨L,o,hf,hn,ho,hd⟩,hr⟩:=hl
      have hL:L∈X.fs:=hs L (by unfold frs;rw [List.filterMap_cons,hf];exact List.mem_cons_self)
      obtain ⟨sl,e⟩:=I.base.slot L o ho (I.ok.frf L hL) hL fun z=>I.ok.exfs L z hL
      exact ⟨hk,⟨L,_,hf,hn,e,hd⟩,ih (fun b hb=>hs b (by unfold frs;rw [List.filterMap_cons,hf];exact List.mem_cons_of_mem _ hb)) hr⟩
  exact all X.outer (fun _ hb=>hb) I.ok.funs
theorem Inv.stack (I:Inv X pins σ H s):s.heap.FunFrames X.base X.stack:=by
 rcases I.ok.stk with e|⟨e,hf⟩
 ·rw [e];exact I.funs
 ·rw [e]
  obtain ⟨m,hn,_⟩:=I.loc
  refine .cons (by rw [I.ok.kind];decide) hf hn ?_ I.funs
  exact Heap.get?_none_of_le (Nat.le_trans I.ok.bsz I.ok.above)
theorem Inv.stkSub (I:Inv X pins σ H s):∀ b∈frs X.stack,b∈X.env.locals::X.fs:=fun b hb=>by
 rcases I.ok.stk with e|⟨e,hf⟩
 ·rw [e] at hb;exact List.mem_cons_of_mem _ hb
 ·rw [e] at hb
  unfold frs at hb
  rw [List.filterMap_cons,hf] at hb
  exact hb
theorem Inv.stkFree (I:Inv X pins σ H s):∀ b∈frs X.stack,H b=none:=fun b hb=>by
 rcases List.mem_cons.mp (I.stkSub b hb) with e|hb
 ·rw [e];exact I.free
 ·obtain ⟨_,o,ho,_⟩:=I.ok.funs.mem hb
  exact I.base.free b o ho (I.ok.frf b hb) fun z=>I.ok.exfs b z hb
theorem Inv.step {g':Array GenState} {t':Nat} {d':Drawn} {ch:List Addr} (I:Inv X pins σ H s)
  (hch:∀ b∈ch,(b∈X.ex\/X.s₀.heap.objs.size<=b)/\b≠X.env.locals/\(∀ x c,X.env.cells.lookup x=some c->c≠b)/\∀ p∈X.pn++pins,p.1≠b)
  (keep:∀ b o,b≠X.env.locals->b ∉ X.fs->b ∉ ch->s.heap.get? b=some o->H b=none->h'.get? b=some o)
  (slot:∀ b o,b≠X.env.locals->b∈X.fs->b ∉ ch->s.heap.get? b=some o->H b=none->∃ sl,h'.get? b=some { o with slots:=sl }) (free:∀ b o,b ∉ ch->s.heap.get? b=some o->H b=none->H' b=none)
  (there:∀ b o,b ∉ ch->s.heap.get? b=some o->∃ o',h'.get? b=some o')
  (tups:∀ b xs,H b=some (.tup xs)->H' b=some (.tup xs)) (frzs:∀ b o u,H b=some (.frz o u)->H' b=some (.frz o u)) (tbls:∀ b ps,H b=some (.tbl ps)->∃ more,H' b=some (.tbl (ps++more)))
  (ns:∀ m,s.heap.Ns X.env.locals m->h'.Ns X.env.locals m) (hok:HOk X.prog X.w H' h') (hg:AllBare g') :
  Inv X pins σ H' { s with heap:=h',gens:=g',drawn:=d',toks:=t' }:=by
 have neL:∀ b o,X.s₀.heap.get? b=some o->b≠X.env.locals:=fun b o e=>Nat.ne_of_lt (Nat.lt_of_lt_of_le (Heap.lt_size e) I.ok.above)
 have neC:∀ b o,X.s₀.heap.get? b=some o->b ∉ X.ex->b ∉ ch:=fun b o e hx hb=>by
  rcases (hch b hb).1 with z|z
  ·exact hx z
  ·exact absurd (Nat.lt_of_lt_of_le (Heap.lt_size e) z) (Nat.lt_irrefl _)
 have cellK:∀ x c,X.env.cells.lookup x=some c->∀ v,s.heap.IsCell c v->h'.IsCell c v:=fun x c e v ⟨o,ho,hd⟩=>by
  have nch:c ∉ ch:=fun z=>(hch c z).2.2.1 x c e rfl
  by_cases hc:c∈X.fs
  ·obtain ⟨sl,q⟩:=slot c o (I.cne x c e) hc nch ho (I.freeC x c e)
   exact ⟨_,q,hd⟩
  ·exact ⟨o,keep c o (I.cne x c e) hc nch ho (I.freeC x c e),hd⟩
 refine ⟨I.ok,I.os,hg,⟨fun b o e n hb hx=>?_,fun b o e n hb hx=>?_,fun b o e n hx=>?_,fun b o e hx=>?_,fun b xs e=>tups b xs (I.base.tups b xs e),fun b o xs e=>frzs b o xs (I.base.frzs b o xs e),fun b ps e=>?_⟩,?_,fun x c e=>?_,?_,fun x c e=>?_,fun p hp=>?_,hok,I.len⟩
 ·exact keep b o (neL b o e) hb (neC b o e hx) (I.base.keep b o e n hb hx) (I.base.free b o e n hx)
 ·obtain ⟨sl,e1⟩:=I.base.slot b o e n hb hx
  obtain ⟨sl',e2⟩:=slot b _ (neL b o e) hb (neC b o e hx) e1 (I.base.free b o e n hx)
  exact ⟨sl',e2⟩
 ·obtain ⟨o',e1⟩:=I.base.there b o e hx
  exact free b o' (neC b o e hx) e1 (I.base.free b o e n hx)
 ·obtain ⟨o',e1⟩:=I.base.there b o e hx
  exact there b o' (neC b o e hx) e1
 ·obtain ⟨m1,e1⟩:=I.base.tbls b ps e
  obtain ⟨m2,e2⟩:=tbls b _ e1
  exact ⟨m1++m2,by rw [e2,Array.append_assoc]⟩
 ·obtain ⟨m,hn,hl⟩:=I.loc
  refine ⟨m,ns m hn,fun i x v e1 e2 e3=>?_⟩
  obtain ⟨u,r,l⟩:=hl i x v e1 e2 e3
  refine ⟨u,r,?_⟩
  rcases l with l|⟨k,c,e,z⟩
  ·exact .inl l
  ·exact .inr ⟨k,c,e,cellK x c e _ z⟩
 ·obtain ⟨v,z⟩:=I.cell x c e
  exact ⟨v,cellK x c e v z⟩
 ·obtain ⟨m,⟨o,_,_,ho,_⟩,_⟩:=I.loc
  exact free _ o (fun z=>(hch _ z).2.1 rfl) ho I.free
 ·obtain ⟨v,o,ho,hd⟩:=I.cell x c e
  exact free c o (fun z=>(hch c z).2.2.1 x c e rfl) ho (I.freeC x c e)
 ·obtain ⟨e,n,ne,nf,d⟩:=I.pin p hp
  have nch:p.1 ∉ ch:=fun z=>(hch p.1 z).2.2.2 p hp rfl
  exact ⟨keep p.1 p.2 ne nf nch e n,free p.1 p.2 nch e n,ne,nf,d⟩
theorem Inv.un {t':Nat} (I:Inv X pins σ H s) (u:Un X.fs [] H H' s.heap h') (hok:HOk X.prog X.w H' h'):Inv X pins σ H' { s with heap:=h',toks:=t' }:=by
 obtain ⟨m,⟨o,es,ep,ho,r⟩,_⟩:=id I.loc
 obtain ⟨sl,hL⟩:=u.any ho I.free (by simp)
 exact I.step (g':=s.gens) (d':=s.drawn) (ch:=[]) (fun _ z=>nomatch z) (fun b o _ hb _ e n=>u.keep b o e n hb (by simp)) (fun b o _ hb _ e n=>u.slot b o e n hb (by simp)) (fun b o _ e n=>u.free b o e n (by simp)) (fun b o _ e=>u.there b o e (by simp)) u.tups u.frzs u.tbls (fun m' hm=>by
  obtain ⟨o',es',ep',ho',r'⟩:=hm
  rw [ho] at ho';cases ho'
  exact ⟨_,es',ep',hL,r'⟩) hok I.bare
theorem Inv.call {g':Array GenState} {t':Nat} {d':Drawn} {ch:List Addr} (I:Inv X pins σ H s) (u:Un (frs X.stack) ch H H' s.heap h') (hok:HOk X.prog X.w H' h') (hg:AllBare g')
  (hch:∀ b∈ch,(b∈X.ex\/X.s₀.heap.objs.size<=b)/\b≠X.env.locals/\(∀ x c,X.env.cells.lookup x=some c->c≠b)/\∀ p∈X.pn++pins,p.1≠b) :
  Inv X pins σ H' { s with heap:=h',gens:=g',drawn:=d',toks:=t' }:=by
 obtain ⟨m,⟨o,es,ep,ho,r⟩,_⟩:=id I.loc
 obtain ⟨sl,hL⟩:=u.any ho I.free fun z=>(hch _ z).2.1 rfl
 exact I.step (ch:=ch) hch (fun b o hL hb hc e n=>u.keep b o e n (fun z=>(List.mem_cons.mp (I.stkSub b z)).elim hL hb) hc) (fun b o _ _ hc e n=>u.any e n hc) (fun b o hc e n=>u.free b o e n hc) (fun b o hc e=>u.there b o e hc) u.tups u.frzs u.tbls (fun m' hm=>by
  obtain ⟨o',es',ep',ho',r'⟩:=hm
  rw [ho] at ho';cases ho'
  exact ⟨_,es',ep',hL,r'⟩) hok hg
theorem Inv.turned {t':Nat} {it:Addr} (I:Inv X pins σ H s) (k:∀ b o,b≠it->s.heap.get? b=some o->h'.get? b=some o) (hn:H it=none) (hL:it≠X.env.locals)
  (h1:it∈X.ex\/X.s₀.heap.objs.size<=it) (h2:∀ x c,X.env.cells.lookup x=some c->c≠it) (h3:∀ p∈X.pn++pins,p.1≠it):Inv X pins σ H { s with heap:=h',toks:=t' }:=by
 have nit:∀ b u,H b=some u->b≠it:=fun b u e z=>by rw [z,hn] at e;cases e
 refine I.step (g':=s.gens) (d':=s.drawn) (ch:=[it]) (fun b hb=>?_) (fun b o _ _ hc e _=>k b o (fun z=>hc (by simp [z])) e) (fun b o _ _ hc e _=>⟨o.slots,k b o (fun z=>hc (by simp [z])) e⟩) (fun _ _ _ _ n=>n)
  (fun b o hc e=>⟨o,k b o (fun z=>hc (by simp [z])) e⟩) (fun _ _ e=>e) (fun _ _ _ e=>e) (fun b ps e=>⟨#[],by rw [e];simp⟩) (fun m hm=>?_) (fun b u e=>?_) I.bare
 ·have e:b=it:=by simpa using hb
  subst e
  exact ⟨h1,hL,h2,h3⟩
 ·obtain ⟨o,es,ep,ho,r⟩:=hm
  exact ⟨o,es,ep,k _ o (Ne.symm hL) ho,r⟩
 ·refine (I.hok b u e).stay (fun c v hc q=>k c v ?_ q) (fun _ q=>q) fun _ _ q=>q
  rcases hc with z|z
  ·rw [z];exact nit b u e
  ·exact nit c _ z
theorem Inv.tok (I:Inv X pins σ H s) (t:Nat):Inv X pins σ H { s with toks:=t }:=I.un (h':=s.heap) (t':=t) Un.refl I.hok
theorem Inv.kept {t':Nat} (I:Inv X pins σ H s) (k:∀ b u,s.heap.get? b=some u->h'.get? b=some u):Inv X pins σ H { s with heap:=h',toks:=t' }:=I.un (Un.kept k) (I.hok.kept k)
theorem Inv.laid {a:Addr} {o:HO} {t':Nat} (I:Inv X pins σ H s) (k:∀ b u,s.heap.get? b=some u->h'.get? b=some u) (hp:s.heap.objs.size<=a) (new:ObjOk X.prog X.w (upd H a o) h' a o) :
  Inv X pins σ (upd H a o) { s with heap:=h',toks:=t' }:=I.un (Un.laid k hp (I.hok.fresh hp)) (I.hok.laid k hp new)
theorem Inv.write {x e:Addr} {o:HO} {t':Nat} (I:Inv X pins σ H s) (mu:Mut (H x)) (he:e=x\/H e=some (.own x)) (k:∀ b u,b≠e->s.heap.get? b=some u->h'.get? b=some u) (heo:∃ u,h'.get? e=some u)
  (new:ObjOk X.prog X.w (upd H x o) h' x o):Inv X pins σ (upd H x o) { s with heap:=h',toks:=t' }:=I.un (Un.write mu he k heo) (I.hok.write mu he k heo new)
theorem Inv.pins_of {pins':List (Addr × Obj)} (I:Inv X pins σ H s) (h:∀ p∈pins',s.heap.get? p.1=some p.2/\H p.1=none/\p.1≠X.env.locals/\p.1 ∉ X.fs/\∀ v,p.2.data ≠ .cell v):Inv X pins' σ H s :=
 ⟨I.ok,I.os,I.bare,I.base,I.loc,I.cell,I.free,I.freeC,fun p hp=>(List.mem_append.mp hp).elim (fun z=>I.pin p (List.mem_append_left _ z)) (h p),I.hok,I.len⟩
theorem zeZ {N:List Str} (hN:N.Nodup) {i j:Nat} {x:Str} (a:N[i]?=some x) (b:N[j]?=some x):i=j:=by
 obtain ⟨h1,e1⟩:=List.getElem?_eq_some_iff.mp a
 obtain ⟨h2,e2⟩:=List.getElem?_eq_some_iff.mp b
 exact (List.getElem_inj hN).mp (e1.trans e2.symm)
theorem zcK {M:Model} {A:Around} {E:Value->Shared->Prop} {i:Nat} {x:Str} {v:V} {u:Value} {Q:Unit->Shared->Prop} (I:Inv X pins σ H s) (hN:X.N.Nodup) (hi:X.N[i]?=some x) (hx:Loc X.env.scope x) (r:RelV v u)
  (h:∀ s',Inv X pins (σ.set i (some v)) H s'->(∃ a,Heap.SameBut a s.heap s'.heap/\(a=X.env.locals\/X.env.cells.lookup x=some a))->Q () s') (hf:X.fn x=true\/X.env.scope.names.lookup x=some .local:=by first|exact .inl rfl|exact .inr rfl|assumption):wpAny M A (storeName X.env x u) Q E s:=by
 obtain ⟨m,hn,hl⟩:=id I.loc
 have hcls:(X.env.scope.kind == .class || (X.env.scope.kind == .module && X.env.locals != X.env.globals))=false:=by rw [I.ok.kind];rfl
 have hiσ:i < σ.length:=by rw [I.len];exact (List.getElem?_eq_some_iff.mp hi).1
 have cne:=I.cne
 have tracked:∀ {a:Addr} {h':Heap},(∃ o,s.heap.get? a=some o/\H a=none)->Heap.SameBut a s.heap h'->HOk X.prog X.w H h':=fun {a h'} ha hs b ob e=>by
  obtain ⟨_,_,hfree⟩:=ha
  refine (I.hok b ob e).stay (fun c w' hc q=>(hs.2 c ?_).trans q) (fun _ q=>q) fun _ _ q=>q
  rintro rfl
  rcases hc with rfl|hc
  ·rw [hfree] at e;cases e
  ·rw [hfree] at hc;cases hc
 rcases hx with hk|hk
 ·refine wpAny_storeName_local hk hn (fun h' hn' hs=>?_) hcls
  obtain ⟨oL,_,_,hoL,_⟩:=id hn
  refine h _ ⟨I.ok,I.os,I.bare,⟨fun b o e n hb hx=>?_,fun b o e n hb hx=>?_,I.base.free,fun b o e hx=>?_,I.base.tups,I.base.frzs,I.base.tbls⟩,⟨_,hn',fun j y v' e1 e2 e3=>?_⟩,fun y c e=>?_,I.free,I.freeC,fun p hp=>?_,tracked ⟨oL,hoL,I.free⟩ hs,by simpa using I.len⟩ ⟨_,hs,.inl rfl⟩
  ·exact (hs.2 b (Nat.ne_of_lt (Nat.lt_of_lt_of_le (Heap.lt_size e) I.ok.above))).trans (I.base.keep b o e n hb hx)
  ·obtain ⟨sl,e1⟩:=I.base.slot b o e n hb hx
   exact ⟨sl,(hs.2 b (Nat.ne_of_lt (Nat.lt_of_lt_of_le (Heap.lt_size e) I.ok.above))).trans e1⟩
  ·obtain ⟨o',e1⟩:=I.base.there b o e hx
   exact ⟨o',(hs.2 b (Nat.ne_of_lt (Nat.lt_of_lt_of_le (Heap.lt_size e) I.ok.above))).trans e1⟩
  ·by_cases hj:j=i
   ·subst hj
    rw [hi] at e1;cases e1
    rw [List.getElem?_set_self hiσ] at e2
    cases e2
    exact ⟨u,r,.inl ⟨hk,by simp⟩⟩
   ·rw [List.getElem?_set_ne (Ne.symm hj)] at e2
    obtain ⟨u',r',q⟩:=hl j y v' e1 e2 e3
    refine ⟨u',r',?_⟩
    rcases q with ⟨k,e⟩|⟨k,c,e,z⟩
    ·refine .inl ⟨k,?_⟩
     have:y≠x:=fun e=>hj (zeZ hN e1 (e ▸ hi))
     simp [this,e]
    ·exact .inr ⟨k,c,e,z.sameBut hs (cne y c e)⟩
  ·obtain ⟨w',z⟩:=I.cell y c e
   exact ⟨w',z.sameBut hs (cne y c e)⟩
  ·obtain ⟨e,n,ne,nf,d⟩:=I.pin p hp
   exact ⟨(hs.2 p.1 ne).trans e,n,ne,nf,d⟩
 ·have hfn:X.fn x=true:=by
   rcases hf with z|z
   ·exact z
   ·rw [z] at hk;cases hk
  obtain ⟨c,hc⟩:=I.ok.has x (.inl hk)
  obtain ⟨w',z⟩:=I.cell x c hc
  refine wpAny_storeName_cell I.ok.kind hk hc z (fun h' hc' hs=>?_)
  obtain ⟨oc,hoc,hocd⟩:=id z
  refine h { s with heap:=h' } ⟨I.ok,I.os,I.bare,⟨fun b o e n hb hx=>?_,fun b o e n hb hx=>?_,I.base.free,fun b o e hx=>?_,I.base.tups,I.base.frzs,I.base.tbls⟩,⟨m,hn.sameBut hs (Ne.symm (cne x c hc)),fun j y v' e1 e2 e3=>?_⟩,fun y c' e=>?_,I.free,I.freeC,fun p hp=>?_,tracked ⟨oc,hoc,I.freeC x c hc⟩ hs,by simpa using I.len⟩ ⟨c,hs,.inr hc⟩
  ·exact (hs.2 b (Nat.ne_of_lt (Nat.lt_of_lt_of_le (Heap.lt_size e) (I.ok.cab x c hfn hc)))).trans (I.base.keep b o e n hb hx)
  ·obtain ⟨sl,e1⟩:=I.base.slot b o e n hb hx
   exact ⟨sl,(hs.2 b (Nat.ne_of_lt (Nat.lt_of_lt_of_le (Heap.lt_size e) (I.ok.cab x c hfn hc)))).trans e1⟩
  ·obtain ⟨o',e1⟩:=I.base.there b o e hx
   exact ⟨o',(hs.2 b (Nat.ne_of_lt (Nat.lt_of_lt_of_le (Heap.lt_size e) (I.ok.cab x c hfn hc)))).trans e1⟩
  ·by_cases hj:j=i
   ·subst hj
    rw [hi] at e1;cases e1
    rw [List.getElem?_set_self hiσ] at e2
    cases e2
    exact ⟨u,r,.inr ⟨.inl hk,c,hc,hc'⟩⟩
   ·rw [List.getElem?_set_ne (Ne.symm hj)] at e2
    obtain ⟨u',r',q⟩:=hl j y v' e1 e2 e3
    refine ⟨u',r',?_⟩
    rcases q with q|⟨k,c',e,z'⟩
    ·exact .inl q
    ·refine .inr ⟨k,c',e,z'.sameBut hs ?_⟩
     rintro rfl
     exact hj (zeZ hN e1 (I.ok.inj _ _ _ e hc ▸ hi))
  ·by_cases hcc:c'=c
   ·subst hcc;exact ⟨_,hc'⟩
   ·obtain ⟨w2,z2⟩:=I.cell y c' e
    exact ⟨w2,z2.sameBut hs hcc⟩
  ·obtain ⟨e,n,ne,nf,d⟩:=I.pin p hp
   refine ⟨(hs.2 p.1 ?_).trans e,n,ne,nf,d⟩
   intro q
   rw [q,hoc] at e
   have q':oc=p.2:=Option.some.inj e
   exact d w' (by rw [<- q'];exact hocd)
theorem zgP {M:Model} {A:Around} {E:Value->Shared->Prop} {i:Nat} {x:Str} {v:V} {u:Value} {Q:Unit->Shared->Prop} (I:Inv X pins σ H s) (hN:X.N.Nodup) (hi:X.N[i]?=some x) (hx:Loc X.env.scope x) (r:RelV v u)
  (h:∀ s',Inv X pins (σ.set i (some v)) H s'->Q () s') (hf:X.fn x=true\/X.env.scope.names.lookup x=some .local:=by first|exact .inl rfl|exact .inr rfl|assumption):wpAny M A (storeName X.env x u) Q E s :=
 zcK I hN hi hx r (fun s' I' _=>h s' I') hf
theorem Inv.call' {s':Shared} {ch:List Addr} (I:Inv X pins σ H s) (ho:s'.os=s.os) (u:Un (frs X.stack) ch H H' s.heap s'.heap) (hok:HOk X.prog X.w H' s'.heap) (hg:AllBare s'.gens)
  (hch:∀ b∈ch,(b∈X.ex\/X.s₀.heap.objs.size<=b)/\b≠X.env.locals/\(∀ x c,X.env.cells.lookup x=some c->c≠b)/\∀ p∈X.pn++pins,p.1≠b):Inv X pins σ H' s':=by
 obtain ⟨h',g',d',t',o'⟩:=s'
 have e:o'=s.os:=ho
 subst e
 exact I.call (g':=g') (t':=t') (d':=d') u hok hg hch
end
abbrev XK:=Value->Option Addr->Hp->Prop
abbrev St:=List (Option V)
abbrev VK:=V->Hp->Prop
abbrev TE:=St->Hp->VK->Prop
abbrev TT:=St->Hp->(Bool->Hp->Prop)->Prop
abbrev TA:=St->Hp->(List V->Hp->Prop)->Prop
structure Ends where
 nx:St->Hp->Prop
 rt:VK
 bk:St->Hp->Prop:=fun _ _=>False
 ct:St->Hp->Prop:=fun _ _=>False
abbrev TS:=Ends->St->Hp->Prop
def EP (X:Cx) (pins:List (Addr × Obj)) (σ:St) (Q:VK) (u:Value) (s':Shared):Prop:=∃ v H',Inv X pins σ H' s'/\RelV v u/\Q v H'
def TP (X:Cx) (pins:List (Addr × Obj)) (σ:St) (Q:Bool->Hp->Prop) (b:Bool) (s':Shared):Prop:=∃ H',Inv X pins σ H' s'/\Q b H'
def AP (X:Cx) (pins:List (Addr × Obj)) (σ:St) (Q:List V->Hp->Prop) (us:List Value) (s':Shared):Prop:=∃ vs H',Inv X pins σ H' s'/\Vals vs us/\Q vs H'
def SP (X:Cx) (pins:List (Addr × Obj)) (D:Ends) (f:Flow) (s':Shared):Prop :=
 match f with
 | .next=>∃ σ' H',Inv X pins σ' H' s'/\D.nx σ' H'
 | .brk=>∃ σ' H',Inv X pins σ' H' s'/\D.bk σ' H'
 | .cont=>∃ σ' H',Inv X pins σ' H' s'/\D.ct σ' H'
 | .ret u=>∃ v σ' H',Inv X pins σ' H' s'/\RelV v u/\D.rt v H'
def PE (X:Cx) (e:Expr) (t:TE):Prop :=
 ∀ (pins:List (Addr × Obj)) (s:Shared) (σ:St) (H:Hp) (Q:VK),Inv X pins σ H s->t σ H Q->wpAny (model X.prog X.w) X.A (eval e X.env) (EP X pins σ Q) X.xe s
def PT (X:Cx) (e:Expr) (t:TT):Prop :=
 ∀ (pins:List (Addr × Obj)) (s:Shared) (σ:St) (H:Hp) (Q:Bool->Hp->Prop),Inv X pins σ H s->t σ H Q->wpAny (model X.prog X.w) X.A (isTrue e X.env (eval e X.env)) (TP X pins σ Q) X.xe s
def PW (X:Cx) (e:Expr) (t:TT):Prop :=
 ∀ (whole:Sem Value) (pins:List (Addr × Obj)) (s:Shared) (σ:St) (H:Hp) (Q:Bool->Hp->Prop),Inv X pins σ H s->t σ H Q->wpAny (model X.prog X.w) X.A (isTrue e X.env whole) (TP X pins σ Q) X.xe s
theorem PW.pt {X:Cx} {e:Expr} {t:TT} (h:PW X e t):PT X e t:=h _
def PA (X:Cx) (es:List Expr) (t:TA):Prop :=
 ∀ (pos:Pos) (pins:List (Addr × Obj)) (s:Shared) (σ:St) (H:Hp) (Q:List V->Hp->Prop),Inv X pins σ H s->t σ H Q->wpAny (model X.prog X.w) X.A (spliced (backTo pos (starEach es X.env))) (AP X pins σ Q) X.xe s
def PS (X:Cx) (st:Stmt) (t:TS):Prop :=
 ∀ (pins:List (Addr × Obj)) (s:Shared) (σ:St) (H:Hp) (D:Ends),Inv X pins σ H s->t D σ H->wpAny (model X.prog X.w) X.A (exec st X.env) (SP X pins D) X.xe s
def PSs (X:Cx) (st:List Stmt) (t:TS):Prop :=
 ∀ (pins:List (Addr × Obj)) (s:Shared) (σ:St) (H:Hp) (D:Ends),Inv X pins σ H s->t D σ H->wpAny (model X.prog X.w) X.A (execs st X.env) (SP X pins D) X.xe s
theorem xQ {α:Type} {t:Sem α} {Q Q':α->Shared->Prop} {M:Model} {A:Around} {E:Value->Shared->Prop} {s:Shared} (h:wpAny M A t Q E s) (hQ:∀ a s,Q a s->Q' a s):wpAny M A t Q' E s:=wpAny_mono h hQ fun _ _ x=>x
end L2
namespace L2
open PySem PySem.Spec PyProof.Rows
section
variable {X:Cx}
theorem bin {a b:Expr} {ta tb:TE} (ha:PE X a ta) (hb:PE X b tb) {pins:List (Addr × Obj)} {s:Shared} {σ:St} {H:Hp} {R:V->V->Hp->Prop} (I:Inv X pins σ H s) (h:ta σ H fun x H1=>tb σ H1 fun y H2=>R x y H2)
  {α:Type} {Q:α->Shared->Prop} {f:Value->Value->Sem α}
  (hf:∀ v u s2 x y H2,Inv X pins σ H2 s2->RelV x v->RelV y u->R x y H2->wpAny (model X.prog X.w) X.A (f v u) Q X.xe s2) :
  wpAny (model X.prog X.w) X.A (eval a X.env) (fun v s₁=>wpAny (model X.prog X.w) X.A (eval b X.env) (fun u s₂=>wpAny (model X.prog X.w) X.A (f v u) Q X.xe s₂) X.xe s₁) X.xe s:=by
 refine xQ (ha pins s σ H _ I h) fun v s1 ⟨x,H1,I1,r1,q1⟩=>?_
 refine xQ (hb pins s1 σ H1 _ I1 q1) fun u s2 ⟨y,H2,I2,r2,q2⟩=>?_
 exact hf v u s2 x y H2 I2 r1 r2 q2
def kK (i:Nat):TE:=fun σ H Q=>∃ v,σ[i]?=some (some v)/\Q v H
def tC (v:V):TE:=fun _ H Q=>Q v H
theorem yeK {i:Nat} {x:Str} {pos:Pos} (hN:X.N[i]?=some x) (hv:Vis X.env.scope x) (hd:(x == ("__debug__" : Str))=false:=by decide) (hcd:(x == ("__classdict__" : Str))=false:=by decide):PE X (.Name x pos) (kK i):=by
 intro pins s σ H Q I h
 obtain ⟨v,e,h⟩:=h
 obtain ⟨m,hn,hl⟩:=I.loc
 obtain ⟨u,r,l⟩:=hl i x v hN e hv
 have fin:EP X pins σ Q u s:=⟨v,H,I,r,h⟩
 rcases l with ⟨hk,hm⟩|⟨hk,c,hc,hcell⟩
 ·exact wpAny_Name (wpAny_loadName_local I.ok.kind hk hn hm fin) hd
 ·rcases hk with hk|hk
  ·exact wpAny_Name (wpAny_loadName_cell I.ok.kind hk hc hcell fin) hd
  ·exact wpAny_Name (wpAny_loadName_free I.ok.kind hk hc hcell fin hcd) hd
theorem zqX {i j pos}:PE X (.Constant (.int i) j pos) (tC (.int i)):=fun _ _ _ H _ I h=>wpAny_Constant_int ⟨.int i,H,I.tok _,⟨_,rfl⟩,h⟩
theorem yhR {b j pos}:PE X (.Constant (.bool b) j pos) (tC (.bl b)):=fun _ _ _ H _ I h=>Constant_bool ⟨.bl b,H,I,rfl,h⟩
theorem ydP {j pos}:PE X (.Constant .none j pos) (tC .non):=fun _ _ _ H _ I h=>Constant_none ⟨.non,H,I,rfl,h⟩
theorem ybZ {x j pos}:PE X (.Constant (.str x) j pos) (tC (.str x)):=fun _ _ _ H _ I h=>Calls.Constant_str ⟨.str x,H,I.tok _,⟨_,rfl⟩,h⟩
def Gl (X:Cx) (x:Str):Prop:=X.env.kindOf x=some .globalImplicit
theorem zdA {E:Value->Shared->Prop} {pins:List (Addr × Obj)} {s:Shared} {σ:St} {H:Hp} {x:Str} {u:Value} {pos:Pos} {Q:Value->Shared->Prop} (I:Inv X pins σ H s) (hg:Gl X x) (hm:X.mg x=some u) (h:Q u s)
  (hd:(x == ("__debug__" : Str))=false:=by decide):wpAny (model X.prog X.w) X.A (eval (.Name x pos) X.env) Q E s :=
 Calls.Name_function_global I.ok.kind hg (Calls.loadGlobal_global (by rw [I.ok.glob];exact I.mod.glob.keeps I.bk) hm h) hd
theorem rX {E:Value->Shared->Prop} {pins:List (Addr × Obj)} {s:Shared} {σ:St} {H:Hp} {x:Str} {u:Value} {pos:Pos} {Q:Value->Shared->Prop} (I:Inv X pins σ H s) (hg:Gl X x) (hm:X.mg x=none) (hv:bootBuiltins x=some u) (h:Q u s)
  (hn:x ≠ "__name__" := by decide) (hd:(x == ("__debug__" : Str))=false:=by decide):wpAny (model X.prog X.w) X.A (eval (.Name x pos) X.env) Q E s:=by
 obtain ⟨mb,h1,h2⟩:=I.mod.blt
 exact Calls.Name_function_global I.ok.kind hg (Calls.loadGlobal_builtin (by rw [I.ok.glob];exact I.mod.glob.keeps I.bk) hm (by rw [I.ok.blt];exact h1.keeps I.bk) ((h2 x hn).trans hv) h) hd
theorem zvL {x:Str} {v:V} {u:Value} {pos:Pos} (hg:Gl X x) (hm:X.mg x=some u) (r:RelV v u) (hd:(x == ("__debug__" : Str))=false:=by decide):PE X (.Name x pos) (tC v) :=
 fun _ _ _ H _ I h=>zdA I hg hm ⟨v,H,I,r,h⟩ hd
variable {a b:Expr} {ta tb:TE} {pos:Pos}
def PC (X:Cx) (op:CmpOp) (a b:Expr) (t:TE):Prop :=
 ∀ (pins:List (Addr × Obj)) (s:Shared) (σ:St) (H:Hp) (Q:VK),Inv X pins σ H s->t σ H Q ->
  wpAny (model X.prog X.w) X.A (eval a X.env) (fun v s₁=>wpAny (model X.prog X.w) X.A (eval b X.env) (fun u s₂=>wpAny (model X.prog X.w) X.A (compareOp op v u) (EP X pins σ Q) X.xe s₂) X.xe s₁) X.xe s
def tB (t:TE):TT:=fun σ H Q=>t σ H fun x H1=>∃ c,x = .bl c/\Q c H1
theorem yiN {op:CmpOp} {t:TE} (h:PC X op a b t) (h1:behindInMarks op b=false:=by first|exact nobehind _ (by decide) (by decide)|rfl):PT X (.Compare a [op] [b] pos) (tB t):=by
 intro pins s σ H Q I hw
 refine wpAny_isTrue_Compare1 (xQ (h pins s σ H _ I hw) fun v s1 h1=>xQ h1 fun u s2 h2=>xQ h2 fun c s3 ⟨x,H1,I1,r1,q1⟩=>?_) h1
 obtain ⟨d,rfl,q⟩:=q1
 cases r1
 exact wpAny_truthy_bool ⟨H1,I1,q⟩
theorem ybX {e:Expr} {t:TE} (h:PE X e t) (he:∀ whole,isTrue e X.env whole=(do let v <- whole;standAt e.pos;holding [v] (truthy v)):=by intro _;rfl):PT X e (tB t):=by
 intro pins s σ H Q I hw
 refine isTrue_plain (xQ (h pins s σ H _ I hw) fun v s1 ⟨x,H1,I1,r1,q1⟩=>?_) (he _)
 obtain ⟨d,rfl,q⟩:=q1
 cases r1
 exact wpAny_truthy_bool ⟨H1,I1,q⟩
variable {tA tB':TT} {rest:List Expr}
def zmB (t u:TT):TT:=fun σ H Q=>t σ H fun c H1=>if c=true then u σ H1 Q else Q false H1
def tOr (t u:TT):TT:=fun σ H Q=>t σ H fun c H1=>if c=true then Q true H1 else u σ H1 Q
def zwZ (t:TT):TT:=fun σ H Q=>t σ H fun c H1=>Q (!c) H1
theorem zuK (ha:PT X a tA):PW X (.BoolOp .And [a] pos) tA:=by
 intro wh pins s σ H Q I h
 refine isTrue_and (xQ (ha pins s σ H Q I h) fun c s1 e=>?_)
 cases c with
 | true=>exact isTrue_and_nil e
 | false=>exact e
theorem ycQ (ha:PT X a tA):PW X (.BoolOp .Or [a] pos) tA:=by
 intro wh pins s σ H Q I h
 refine isTrue_or (xQ (ha pins s σ H Q I h) fun c s1 e=>?_)
 cases c with
 | false=>exact isTrue_or_nil e
 | true=>exact e
theorem yaG (ha:PT X a tA) (hb:PW X (.BoolOp .And (b::rest) pos) tB'):PW X (.BoolOp .And (a::b::rest) pos) (zmB tA tB'):=by
 intro wh pins s σ H Q I h
 refine isTrue_and (xQ (ha pins s σ H _ I h) fun c s1 ⟨H1,I1,q1⟩=>?_)
 cases c with
 | true=>exact hb wh pins s1 σ H1 Q I1 q1
 | false=>exact ⟨H1,I1,q1⟩
theorem ygG (ha:PT X a tA) (hb:PW X (.BoolOp .Or (b::rest) pos) tB'):PW X (.BoolOp .Or (a::b::rest) pos) (tOr tA tB'):=by
 intro wh pins s σ H Q I h
 refine isTrue_or (xQ (ha pins s σ H _ I h) fun c s1 ⟨H1,I1,q1⟩=>?_)
 cases c with
 | true=>exact ⟨H1,I1,q1⟩
 | false=>exact hb wh pins s1 σ H1 Q I1 q1
theorem ybL (ha:PT X a tA):PT X (.UnaryOp .Not a pos) (zwZ tA):=by
 intro pins s σ H Q I h
 exact isTrue_not (ha pins s σ H (fun c H1=>Q (!c) H1) I h)
def zpN (ta tb:TE):TE:=fun σ H Q=>ta σ H fun x H1=>∃ c,x = .bl c/\if c=true then tb σ H1 Q else Q (.bl false) H1
def ydC (ta tb:TE):TE:=fun σ H Q=>ta σ H fun x H1=>∃ c,x = .bl c/\if c=true then Q (.bl true) H1 else tb σ H1 Q
theorem yfD {op} {t:TE} (h:PE X a t):PE X (.BoolOp op [a] pos) t:=fun pins s σ H Q I hw=>BoolOp_one (h pins s σ H Q I hw)
theorem ycT (ha:PE X a ta) (hb:PE X (.BoolOp .And (b::rest) pos) tb):PE X (.BoolOp .And (a::b::rest) pos) (zpN ta tb):=by
 intro pins s σ H Q I h
 refine BoolOp_and (xQ (ha pins s σ H _ I h) fun v s1 ⟨x,H1,I1,r1,q1⟩=>?_)
 obtain ⟨c,rfl,q1⟩:=q1
 cases r1
 refine wpAny_truthy_bool ?_
 cases c with
 | true=>exact hb pins s1 σ H1 Q I1 q1
 | false=>exact ⟨.bl false,H1,I1,rfl,q1⟩
theorem ygM (ha:PE X a ta) (hb:PE X (.BoolOp .Or (b::rest) pos) tb):PE X (.BoolOp .Or (a::b::rest) pos) (ydC ta tb):=by
 intro pins s σ H Q I h
 refine BoolOp_or (xQ (ha pins s σ H _ I h) fun v s1 ⟨x,H1,I1,r1,q1⟩=>?_)
 obtain ⟨c,rfl,q1⟩:=q1
 cases r1
 refine wpAny_truthy_bool ?_
 cases c with
 | false=>exact hb pins s1 σ H1 Q I1 q1
 | true=>exact ⟨.bl true,H1,I1,rfl,q1⟩
def tIf (t:TT) (ta tb:TE):TE:=fun σ H Q=>t σ H fun c H1=>if c=true then ta σ H1 Q else tb σ H1 Q
theorem zqK {c:Expr} (hc:PT X c tA) (ha:PE X a ta) (hb:PE X b tb):PE X (.IfExp c a b pos) (tIf tA ta tb):=by
 intro pins s σ H Q I h
 refine wpAny_IfExp (xQ (hc pins s σ H _ I h) fun d s1 ⟨H1,I1,q1⟩=>?_)
 cases d with
 | true=>exact ha pins s1 σ H1 Q I1 q1
 | false=>exact hb pins s1 σ H1 Q I1 q1
end
end L2
namespace L2
open PySem PySem.Spec PyProof.Rows
def SqL (K:PySem.W.Frag) (H:Hp) (a:Addr) (xs:List V):Prop :=
 Rd H a (.lst xs) \/
  ∃ (o:Obj) (its:Array Value) (n:Nat),K.lookup a=some o/\o.cls = .type "list" /\ o.dict=none/\o.data = .seq its n/\its.size<=sizeLine/\Vals xs its.toList
def SqT (K:PySem.W.Frag) (H:Hp) (a:Addr) (xs:List V):Prop :=
 Rd H a (.tup xs) \/
  ∃ (o:Obj) (its:Array Value) (n:Nat),K.lookup a=some o/\o.cls = .type "tuple" /\ o.data = .seq its n/\its.size<=sizeLine/\Vals xs its.toList
def yjT:Value->Option V
 | .none=>some .non
 | .bool b=>some (.bl b)
 | .int i _=>some (.int i)
 | .str x _=>some (.str x)
 | .bytes b _=>some (.byt b)
 | .float b _=>some (.flt b)
 | .ref a=>some (.ref a)
 | .type n=>some (.ty n)
 | _=>none
theorem RelV.abs {x:V} {u:Value} (r:RelV x u):yjT u=some x:=by
 cases x with
 | non=>cases r;rfl
 | bl _=>cases r;rfl
 | int _=>obtain ⟨t,rfl⟩:=r;rfl
 | str _=>obtain ⟨t,rfl⟩:=r;rfl
 | byt _=>obtain ⟨t,rfl⟩:=r;rfl
 | flt _=>obtain ⟨t,rfl⟩:=r;rfl
 | ref _=>cases r;rfl
 | ty _=>cases r;rfl
theorem RelV.inj {x y:V} {u:Value} (r:RelV x u) (q:RelV y u):x=y:=Option.some.inj (r.abs.symm.trans q.abs)
theorem Vals.inj:∀ {xs ys:List V} {us:List Value},Vals xs us->Vals ys us->xs=ys
 | _,_,_,.nil,.nil=>rfl
 | _,_,_,.cons r t,.cons r' t'=>by rw [r.inj r',Vals.inj t t']
section
variable {X:Cx} {pins:List (Addr × Obj)} {σ:St} {H:Hp} {s:Shared} {a:Addr} {xs ys:List V}
theorem SqL.of {K:PySem.W.Frag} (h:H a=some (.lst xs)):SqL K H a xs:=.inl (.inl h)
theorem SqT.of {K:PySem.W.Frag} (h:H a=some (.tup xs)):SqT K H a xs:=.inl (.inl h)
theorem Inv.list (I:Inv X pins σ H s) (h:SqL X.K H a xs):∃ its:List Value,Vals xs its/\PlainL s.heap a its.toArray/\xs.length<=sizeLine:=by
 rcases h with h|⟨o,its,n,hk,hc,hd,hs,hz,r⟩
 ·obtain ⟨z,its,n,r,e⟩:=h.ok I.hok
  exact ⟨its,r,⟨_,n,e,rfl,rfl,rfl⟩,z⟩
 ·refine ⟨its.toList,r,⟨o,n,I.kIn a o hk,hc,hd,by simpa using hs⟩,?_⟩
  have e:=r.length
  simp only [Array.length_toList] at e
  omega
theorem Inv.tuple (I:Inv X pins σ H s) (h:SqT X.K H a xs):∃ its:List Value,Vals xs its/\IsTup s.heap a its.toArray/\xs.length<=sizeLine:=by
 rcases h with h|⟨o,its,n,hk,hc,hs,hz,r⟩
 ·obtain ⟨z,its,r,p⟩:=h.ok I.hok
  exact ⟨its,r,p,z⟩
 ·refine ⟨its.toList,r,⟨o,I.kIn a o hk,hc,n,by simpa using hs⟩,?_⟩
  have e:=r.length
  simp only [Array.length_toList] at e
  omega
theorem Inv.list_inj (I:Inv X pins σ H s) (h:SqL X.K H a xs) (h':SqL X.K H a ys):xs=ys:=by
 obtain ⟨its,r,⟨o,n,e,_,_,d⟩,_⟩:=I.list h
 obtain ⟨its',r',⟨o',n',e',_,_,d'⟩,_⟩:=I.list h'
 rw [e] at e';cases e'
 rw [d] at d'
 injection d' with d1 _
 have:its=its':=by simpa using congrArg Array.toList d1
 subst this
 exact r.inj r'
theorem Inv.tuple_inj (I:Inv X pins σ H s) (h:SqT X.K H a xs) (h':SqT X.K H a ys):xs=ys:=by
 obtain ⟨its,r,⟨o,e,_,n,d⟩,_⟩:=I.tuple h
 obtain ⟨its',r',⟨o',e',_,n',d'⟩,_⟩:=I.tuple h'
 rw [e] at e';cases e'
 rw [d] at d'
 injection d' with d1 _
 have:its=its':=by simpa using congrArg Array.toList d1
 subst this
 exact r.inj r'
end
abbrev Cx.wish (X:Cx) (E:Value->Shared->Prop):Cx:={ X with xe:=E }
abbrev Cx.nox (X:Cx):Cx:=X.wish fun _ _=>False
theorem Cx.Ok.wish {X:Cx} (ok:X.Ok) (E:Value->Shared->Prop):(X.wish E).Ok :=
 ⟨ok.mod,ok.kind,ok.glob,ok.blt,ok.above,ok.inj,ok.has,ok.cab,ok.hd,ok.frames,ok.stk,ok.exf,ok.bs,ok.bsz,ok.noex,ok.exfs,ok.funs,ok.frf⟩
theorem Cx.Ok.unwish {X:Cx} {E:Value->Shared->Prop} (ok:(X.wish E).Ok):X.Ok :=
 ⟨ok.mod,ok.kind,ok.glob,ok.blt,ok.above,ok.inj,ok.has,ok.cab,ok.hd,ok.frames,ok.stk,ok.exf,ok.bs,ok.bsz,ok.noex,ok.exfs,ok.funs,ok.frf⟩
section
variable {X:Cx} {pins:List (Addr × Obj)} {σ:St} {H:Hp} {s:Shared} {E:Value->Shared->Prop}
theorem Inv.wish (I:Inv X pins σ H s) (E:Value->Shared->Prop):Inv (X.wish E) pins σ H s:=⟨I.ok.wish E,I.os,I.bare,I.base,I.loc,I.cell,I.free,I.freeC,I.pin,I.hok,I.len⟩
theorem Inv.unwish (I:Inv (X.wish E) pins σ H s):Inv X pins σ H s:=⟨I.ok.unwish,I.os,I.bare,I.base,I.loc,I.cell,I.free,I.freeC,I.pin,I.hok,I.len⟩
theorem SP.unwish {D:Ends} {f:Flow} {s':Shared} (h:SP (X.wish E) pins D f s'):SP X pins D f s':=by
 cases f with
 | next=>obtain ⟨σ',H',I,q⟩:=h;exact ⟨σ',H',I.unwish,q⟩
 | brk=>obtain ⟨σ',H',I,q⟩:=h;exact ⟨σ',H',I.unwish,q⟩
 | cont=>obtain ⟨σ',H',I,q⟩:=h;exact ⟨σ',H',I.unwish,q⟩
 | ret u=>obtain ⟨v,σ',H',I,r,q⟩:=h;exact ⟨v,σ',H',I.unwish,r,q⟩
theorem PSs.nox {st:List Stmt} {t:TS} (h:PSs X.nox st t):PSs X st t:=fun pins s σ H D I hw =>
 wpAny_mono (h pins s σ H D (I.wish _) hw) (fun _ _ q=>q.unwish) fun _ _ z=>False.elim z
end
section
variable {X:Cx} {st:Stmt} {rest:List Stmt} {t u:TS} {e:Expr} {te:TE} {pos:Pos}
def zfB:TS:=fun D σ H=>D.nx σ H
def jV (t u:TS):TS:=fun D σ H=>t { D with nx:=u D } σ H
theorem zuR:PSs X [] zfB:=fun _ _ σ H _ I h=>wpAny_execs_nil ⟨σ,H,I,h⟩
theorem zpQ (h1:PS X st t) (h2:PSs X rest u):PSs X (st::rest) (jV t u):=by
  intro pins s σ H D I h
  refine wpAny_execs_cons (xQ (h1 pins s σ H { D with nx:=u D } I h) fun f s1 q=>?_)
  cases f with
  | next =>
    obtain ⟨σ',H',I',q⟩:=q
    exact h2 pins s1 σ' H' D I' q
  | ret v=>exact q
  | brk=>exact q
  | cont=>exact q
theorem zwD (h1:PS X st t):PSs X [st] t:=by
 intro pins s σ H D I h
 refine wpAny_execs_cons (xQ (h1 pins s σ H D I h) fun f s1 q=>?_)
 cases f with
 | next=>exact wpAny_execs_nil q
 | ret v=>exact q
 | brk=>exact q
 | cont=>exact q
theorem Inv.quiet {pins:List (Addr × Obj)} {σ:St} {H:Hp} {s:Shared} (I:Inv X pins σ H s):interactive X.env=false:=by simp [interactive,I.ok.kind]
def zcE (te:TE):TS:=fun D σ H=>te σ H fun _ H1=>D.nx σ H1
theorem zyJ (he:PE X e te) (hs:swapsWith e none pos.line X.env=pure false:=by rfl):PS X (.Expr e pos) (zcE te):=by
 intro pins s σ H D I h
 exact wpAny_Expr_any (xQ (he pins s σ H _ I h) fun v s1 ⟨x,H1,I1,r1,q1⟩=>⟨σ,H1,I1,q1⟩) I.quiet hs
def ziW (te:TE):TS:=fun D σ H=>te σ H D.rt
theorem ycY (he:PE X e te):PS X (.Return (some e) pos) (ziW te):=by
 intro pins s σ H D I h
 exact wpAny_Return_some (xQ (he pins s σ H _ I h) fun v s1 ⟨x,H1,I1,r1,q1⟩=>⟨x,σ,H1,I1,r1,q1⟩)
def zcR (c:TT) (t u:TS):TS:=fun D σ H=>c σ H fun b H1=>if b=true then t D σ H1 else u D σ H1
theorem ygY {c:Expr} {a b:List Stmt} {tc:TT} (hc:PT X c tc) (ha:PSs X a t) (hb:PSs X b u):PS X (.If c a b pos) (zcR tc t u):=by
 intro pins s σ H D I h
 refine wpAny_If (xQ (hc pins s σ H _ I h) fun d s1 ⟨H1,I1,q1⟩=>?_)
 cases d with
 | true=>exact ha pins s1 σ H1 D I1 q1
 | false=>exact hb pins s1 σ H1 D I1 q1
def ztG:TS:=fun _ _ _=>False
theorem ztO:PS X st ztG:=fun _ _ _ _ _ _ h=>h.elim
end
abbrev TG:=V->St->Hp->(St->Hp->Prop)->Prop
abbrev TGs:=List V->St->Hp->(St->Hp->Prop)->Prop
def PG (X:Cx) (target:Expr) (t:TG):Prop :=
 ∀ (pins:List (Addr × Obj)) (s:Shared) (σ:St) (H:Hp) (v:V) (u:Value) (Q:St->Hp->Prop),Inv X pins σ H s->RelV v u->t v σ H Q ->
  wpAny (model X.prog X.w) X.A (assign target X.env u) (fun _ s'=>∃ σ' H',Inv X pins σ' H' s'/\Q σ' H') X.xe s
def PGs (X:Cx) (ts:List Expr) (t:TGs):Prop :=
 ∀ (pins:List (Addr × Obj)) (s:Shared) (σ:St) (H:Hp) (vs:List V) (us:List Value) (Q:St->Hp->Prop),Inv X pins σ H s->Vals vs us->t vs σ H Q ->
  wpAny (model X.prog X.w) X.A (assignInOrder ((assignEach ts X.env).map (·.2)) us) (fun _ s'=>∃ σ' H',Inv X pins σ' H' s'/\Q σ' H') X.xe s
abbrev zxR:=V->V->V->Hp->(Hp->Prop)->Prop
def ybK (X:Cx) (t:zxR):Prop :=
 ∀ (pins:List (Addr × Obj)) (s:Shared) (σ:St) (H:Hp) (o i v:V) (ov iv u:Value) (Q:Hp->Prop),Inv X pins σ H s->RelV o ov->RelV i iv->RelV v u->t o i v H Q ->
  wpAny (model X.prog X.w) X.A (setItem ov iv u) (fun _ s'=>∃ H',Inv X pins σ H' s'/\Q H') X.xe s
section
variable {X:Cx} {pos:Pos}
def yK (i:Nat):TG:=fun v σ H Q=>Q (σ.set i (some v)) H
theorem zdJ {i:Nat} {x:Str} (hN:X.N.Nodup) (hi:X.N[i]?=some x) (hx:Loc X.env.scope x) (hf:X.fn x=true\/X.env.scope.names.lookup x=some .local:=by first|exact .inl rfl|exact .inr rfl|assumption):PG X (.Name x pos) (yK i):=by
 intro pins s σ H v u Q I r h
 exact wpAny_assign_Name (zgP I hN hi hx r (fun s' I'=>⟨_,H,I',h⟩) hf)
def zyD:TGs:=fun vs σ H Q=>vs=[]/\Q σ H
def zbV (t:TG) (u:TGs):TGs:=fun vs σ H Q=>∃ v r,vs=v::r/\t v σ H fun σ' H'=>u r σ' H' Q
theorem zjW:PGs X [] zyD:=by
 intro pins s σ H vs us Q I r h
 obtain ⟨e,h⟩:=h
 subst e
 cases r
 exact assignInOrder_nil ⟨σ,H,I,h⟩
theorem zaL {e:Expr} {es:List Expr} {t:TG} {u:TGs} (h1:PG X e t) (h2:PGs X es u)
    (hs:(assignEach (e::es) X.env).map (·.2)=assign e X.env::(assignEach es X.env).map (·.2):=by rfl):PGs X (e::es) (zbV t u):=by
  intro pins s σ H vs us Q I r h
  obtain ⟨v,vr,e1,h⟩:=h
  subst e1
  cases r with
  | cons r rr =>
    rw [hs]
    refine assignInOrder_cons (xQ (h1 pins s σ H _ _ _ I r h) fun _ s1 ⟨σ1,H1,I1,q1⟩=>?_)
    exact h2 pins s1 σ1 H1 _ _ Q I1 rr q1
def zxJ (K:PySem.W.Frag) (n:Nat) (t:TGs):TG:=fun v σ H Q=>∃ a xs,v = .ref a/\SqT K H a xs/\xs.length=n/\t xs σ H Q
theorem ztX {es:List Expr} {k:Nat} {t:TGs} {n:Nat} (hc:X.calm=true) (h:PGs X es t)
  (hn:(assignEach es X.env).length=n:=by rfl) (hst:(assignEach es X.env).findIdx? (·.1)=none:=by rfl):PG X (.Tuple es k pos) (zxJ X.K n t):=by
 intro pins s σ H v u Q I r hw
 obtain ⟨a,xs,e1,hq,hl,hw⟩:=hw
 subst e1
 cases r
 obtain ⟨its,rv,ht,hz⟩:=I.tuple hq
 refine assign_Tuple_tuple (I.ok.hd hc) ht (by simp [hn, <- hl,rv.length]) hst fun h' hx=>?_
 have I1:Inv X pins σ H { s with heap:=h' }:=I.kept (t':=s.toks) fun b o e=>hx b o (Nat.ne_of_lt (Heap.lt_size e)) e
 exact h pins _ σ H xs _ Q I1 (by simpa using rv) hw
def zvZ (to ti:TE) (t:zxR):TG:=fun v σ H Q=>to σ H fun o H1=>ti σ H1 fun i H2=>t o i v H2 fun H3=>Q σ H3
theorem ycK {o i:Expr} {to ti:TE} {t:zxR} (ho:PE X o to) (hi:PE X i ti) (hs:ybK X t)
  (ha:∀ v,assign (.Subscript o i pos) X.env v=(do
   let ov <- holding [v] (eval o X.env)
   let iv <- holding [v,ov] (eval i X.env)
   standAt pos
   holding [v,ov,iv] (setItem ov iv v)
   release [v,ov,iv] []):=by intro _;rfl):PG X (.Subscript o i pos) (zvZ to ti t):=by
 intro pins s σ H v u Q I r h
 rw [ha]
 refine wpAny_bind (wpAny_holding (xQ (ho pins s σ H _ I h) fun ov s1 ⟨x,H1,I1,r1,q1⟩=>?_))
 refine wpAny_bind (wpAny_holding (xQ (hi pins s1 σ H1 _ I1 q1) fun iv s2 ⟨y,H2,I2,r2,q2⟩=>?_))
 refine wpAny_bind (wpAny_standAt (wpAny_bind (wpAny_holding (xQ (hs pins s2 σ H2 x y v ov iv u _ I2 r1 r2 r q2) fun _ s3 ⟨H3,I3,q3⟩=>?_))))
 exact wpAny_release ⟨σ,H3,I3,q3⟩
def jP (te:TE) (g:TG):TS:=fun D σ H=>te σ H fun x H1=>g x σ H1 D.nx
theorem ycB {tg e:Expr} {te:TE} {g:TG} (he:PE X e te) (hg:PG X tg g) (hs:swapsWithSole [tg] e pos.line X.env=pure false:=by rfl) (hw:swappedStores [tg] e X.env=pure none:=by rfl)
  (h1:(assignEach [tg] X.env).map (·.2)=[assign tg X.env]:=by rfl):PS X (.Assign [tg] e pos) (jP te g):=by
 intro pins s σ H D I h
 refine wpAny_Assign_stores (xQ (he pins s σ H _ I h) fun v s1 ⟨x,H1,I1,r1,q1⟩=>?_) hs hw
 rw [h1]
 exact xQ (hg pins s1 σ H1 x v _ I1 r1 q1) fun _ s2 q=>q
theorem yaV {i:Nat} {x:Str} {e:Expr} {te:TE} {pos':Pos} (hN:X.N.Nodup) (hi:X.N[i]?=some x) (hx:Loc X.env.scope x) (he:PE X e te) (hs:swapsWith e (some (.Name x pos')) pos.line X.env=pure false:=by rfl) (hf:X.fn x=true\/X.env.scope.names.lookup x=some .local:=by first|exact .inl rfl|exact .inr rfl|assumption) :
  PS X (.Assign [.Name x pos'] e pos) (jP te (yK i)):=by
 intro pins s σ H D I h
 refine wpAny_Assign_Name (xQ (he pins s σ H _ I h) fun v s1 ⟨y,H1,I1,r1,q1⟩=>?_) hs
 exact zgP I1 hN hi hx r1 (fun s2 I2=>⟨_,H1,I2,q1⟩) hf
end
section
variable {X:Cx} {pos:Pos}
def zeS (c:TT) (tb:TS):TS:=fun D σ H=>∃ W:Nat->St->Hp->Prop,(∃ m,W m σ H)/\∀ m σ H,W m σ H ->
 c σ H fun b H1=>if b=true then ∃ N:St->Hp->Prop,(∀ σ' H',N σ' H'->∃ m',m'<m/\W m' σ' H')/\tb { D with nx:=N,ct:=N,bk:=D.nx } σ H1 else D.nx σ H1
theorem ztD {c:Expr} {body:List Stmt} {tc:TT} {tb:TS} (hp:PassesOwn (model X.prog X.w) X.A X.env X.xe) (hc:PT X c tc) (hb:PSs X body tb):PS X (.While c body [] pos) (zeS tc tb):=by
  intro pins s σ H D I h
  obtain ⟨W,⟨m0,w0⟩,turn⟩:=h
  refine wpAny_While (codeAny_whileLoop (fun n s'=>∃ σ' H',Inv X pins σ' H' s'/\W n σ' H') ?_ m0 ⟨σ,H,I,w0⟩)
  rintro n s1 ⟨σ1,H1,I1,w1⟩
  refine wpAny_passesOwn hp (xQ (hc pins s1 σ1 H1 _ I1 (turn n σ1 H1 w1)) fun b s2 ⟨H2,I2,q2⟩=>?_)
  cases b with
  | true =>
    obtain ⟨N,hN,q2⟩:=q2
    rw [if_pos rfl]
    refine wpAny_passesOwn hp (xQ (hb pins s2 σ1 H2 _ I2 q2) fun f s3 q3=>?_)
    cases f with
    | next =>
      obtain ⟨σ3,H3,I3,n3⟩:=q3
      obtain ⟨m',hm,w3⟩:=hN σ3 H3 n3
      exact ⟨m',hm,σ3,H3,I3,w3⟩
    | cont =>
      obtain ⟨σ3,H3,I3,n3⟩:=q3
      obtain ⟨m',hm,w3⟩:=hN σ3 H3 n3
      exact ⟨m',hm,σ3,H3,I3,w3⟩
    | brk=>exact q3
    | ret v=>exact q3
  | false =>
    rw [if_neg Bool.false_ne_true]
    exact wpAny_execs_nil ⟨σ1,H2,I2,q2⟩
end
structure It where
 go:Nat->Hp->Prop
 yld:Nat->Hp->V->Hp->Prop
 stop:Nat->Hp->Prop
def rY (X:Cx) (pins:List (Addr × Obj)) (H:Hp) (b:Addr):Prop :=
 H b=none/\b≠X.env.locals/\b ∉ X.fs/\(b∈X.ex\/X.s₀.heap.objs.size<=b)/\(∀ x c,X.env.cells.lookup x=some c->c≠b)/\∀ p∈X.pn++pins,p.1≠b
theorem Inv.fpOk {X:Cx} {pins:List (Addr × Obj)} {σ:St} {H H':Hp} {s:Shared} {b:Addr} (I:Inv X pins σ H s) (hb:s.heap.objs.size<=b) (hn:H' b=none):rY X pins H' b:=by
 refine ⟨hn,Nat.ne_of_gt (Nat.lt_of_lt_of_le I.lt hb),I.nofs hb,.inr (Nat.le_trans I.sz hb),fun x c e z=>?_,fun p hp z=>?_⟩
 ·obtain ⟨v,q⟩:=I.cell x c e
  exact absurd (Nat.lt_of_lt_of_le q.lt (by rw [z];exact hb)) (Nat.lt_irrefl _)
 ·exact absurd (Nat.lt_of_lt_of_le (Heap.lt_size (I.pin p hp).1) (by rw [z];exact hb)) (Nat.lt_irrefl _)
structure Turn (P:Program) (w:World) (K:PySem.W.Frag) (tg:Expr) (J:It) (fp:List Addr) (it:Addr) (tn:Nat->Heap->Prop):Prop where
 mem:it∈fp
 obj:∀ i h,tn i h->∀ b∈fp,∃ o,h.get? b=some o/\∀ v,o.data ≠ .cell v
 keep:∀ i h h',tn i h->(∀ b∈fp,∀ o,h.get? b=some o->h'.get? b=some o)->tn i h'
 item:∀ (X:Cx),X.prog=P->X.w=w->X.K=K->X.calm=true->∀ (i:Nat) (pins:List (Addr × Obj)) (s:Shared) (σ:St) (H:Hp) (E:Value->Shared->Prop),Inv X pins σ H s->(∀ b∈fp,rY X pins H b)->tn i s.heap->J.go i H ->
  wpAny (model P w) X.A (pyNext (.ref it)) (fun r s1=>∃ u,r=some u /\
   wpAny (model P w) X.A (letOwnedTupleGo tg (.ref it) u) (fun _ s2=>∃ x H',Inv X pins σ H' s2/\RelV x u/\J.yld i H x H'/\tn (i+1) s2.heap/\∀ b∈fp,H' b=none) E s1) E s
 done:∀ (X:Cx),X.prog=P->X.w=w->X.K=K->X.calm=true->∀ (i:Nat) (pins:List (Addr × Obj)) (s:Shared) (σ:St) (H:Hp) (E:Value->Shared->Prop),Inv X pins σ H s->(∀ b∈fp,rY X pins H b)->tn i s.heap->J.stop i H ->
  wpAny (model P w) X.A (pyNext (.ref it)) (fun r s1=>r=none/\Inv X pins σ H s1) E s
 self:∀ (A:Around) (i:Nat) (s:Shared) (Q:Value->Shared->Prop) (E:Value->Shared->Prop),tn i s.heap->Q (.ref it) s->wpAny (model P w) A (pyIter (.ref it)) Q E s
abbrev TI:=St->Hp->(It->Hp->Prop)->Prop
def PIE (X:Cx) (pins:List (Addr × Obj)) (σ:St) (tg:Expr) (R:It->Hp->Prop) (itv:Value) (s2:Shared):Prop :=
 ∃ (it:Addr) (fp:List Addr) (tn:Nat->Heap->Prop) (J:It) (H':Hp),itv = .ref it/\Inv X pins σ H' s2/\Turn X.prog X.w X.K tg J fp it tn/\tn 0 s2.heap/\(∀ b∈fp,rY X pins H' b)/\R J H'
def PI (X:Cx) (tg iter:Expr) (wi:TI):Prop :=
 ∀ (pins:List (Addr × Obj)) (s:Shared) (σ:St) (H:Hp) (R:It->Hp->Prop),Inv X pins σ H s->wi σ H R ->
  wpAny (model X.prog X.w) X.A (eval iter X.env) (fun v s1=>wpAny (model X.prog X.w) X.A (pyIter v) (PIE X pins σ tg R) X.xe s1) X.xe s
theorem zjX {M:Model} {A:Around} {E:Value->Shared->Prop} {s:Shared} {tg:Expr} {it:Addr} {u:Value} {o:Obj} {n:String} {vs:Array Value} {Q:Unit->Shared->Prop} (ho:s.heap.get? it=some o) (hc:o.cls = .type n) (hd:o.data = .fields vs)
    (hn:["enumerate","zip","dict_itemiterator","dict_reverseitemiterator","odict_iterator","itertools.zip_longest","itertools.pairwise"].contains n=false) (hQ:Q () s):wpAny M A (letOwnedTupleGo tg (.ref it) u) Q E s:=by
  unfold letOwnedTupleGo
  cases tg <;> first
    | exact wpAny_pure hQ
    | (cases u <;> first
        | exact wpAny_pure hQ
        | (refine wpAny_bind (wpAny_load ho ?_)
           rw [hc,hd]
           show wpAny M A (if (["enumerate","zip","dict_itemiterator","dict_reverseitemiterator","odict_iterator","itertools.zip_longest","itertools.pairwise"].contains n && vs[0]? == some (rawInt _))=true then _ else _) Q E s
           rw [if_neg (by intro h;rw [hn,Bool.false_and] at h;cases h)]
           exact wpAny_pure hQ))
def Itl (K:PySem.W.Frag) (a:Addr):It :=
 ⟨fun i H=>∃ xs x,SqL K H a xs/\xs[i]?=some x,fun i H x H'=>H'=H/\∀ xs,SqL K H a xs->xs[i]?=some x,fun i H=>∃ xs,SqL K H a xs/\xs.length<=i⟩
def Itt (K:PySem.W.Frag) (a:Addr):It :=
 ⟨fun i H=>∃ xs x,SqT K H a xs/\xs[i]?=some x,fun i H x H'=>H'=H/\∀ xs,SqT K H a xs->xs[i]?=some x,fun i H=>∃ xs,SqT K H a xs/\xs.length<=i⟩
def Itr (lo:Int) (n:Nat):It:=⟨fun i _=>i<n,fun i H x H'=>H'=H/\x = .int (lo+i),fun i _=>n<=i⟩
theorem znI {P:Program} {w:World} {K:PySem.W.Frag} {tg:Expr} (a it:Addr):Turn P w K tg (Itl K a) [it] it (fun i h=>h.IsListIter it a i) where
 mem:=by simp
 obj:=fun i h st b hb=>by
  have e:b=it:=by simpa using hb
  subst e
  obtain ⟨o,e,c,d⟩:=st
  exact ⟨o,e,fun v z=>by rw [d] at z;cases z⟩
 keep:=fun i h h' st k=>st.at fun o e=>k it (by simp) o e
 item:=by
  intro X hP hw hK hc i pins s σ H E I hf st hg
  subst hP hw hK
  obtain ⟨xs,x,hq,hx⟩:=hg
  obtain ⟨its,rv,p,hz⟩:=I.list hq
  obtain ⟨u,hu,ru⟩:=rv.get hx
  obtain ⟨f0,f1,f2,f3,f4,f5⟩:=hf it (by simp)
  refine wpAny_pyNext_list_item st p.isList (x:=u) (by simpa using hu) fun h' st' sb=>?_
  have I1:Inv X pins σ H { s with heap:=h' }:=I.turned (t':=s.toks) (fun b o hb e=>(sb.2 b hb).trans e) f0 f1 f3 f4 f5
  obtain ⟨o,e,c,d⟩:=id st'
  exact ⟨u,rfl,zjX (s:={ s with heap:=h' }) e c d (by decide) ⟨x,H,I1,ru,⟨rfl,fun ys hy=>by rw [I.list_inj hy hq];exact hx⟩,st',fun b hb=>(hf b hb).1⟩⟩
 done:=by
  intro X hP hw hK hc i pins s σ H E I hf st hg
  subst hP hw hK
  obtain ⟨xs,hq,hx⟩:=hg
  obtain ⟨its,rv,p,hz⟩:=I.list hq
  obtain ⟨f0,f1,f2,f3,f4,f5⟩:=hf it (by simp)
  have hl:=rv.length
  exact wpAny_pyNext_list_end (I.ok.hd hc) st p.isList (by simp;omega) fun h' eb=>⟨rfl,I.turned (t':=s.toks) (fun b o hb e=>eb b o hb e) f0 f1 f3 f4 f5⟩
 self:=fun _ _ _ _ _ st h=>wpAny_pyIter_listiter st h
theorem zhD {P:Program} {w:World} {K:PySem.W.Frag} {tg:Expr} (a it:Addr):Turn P w K tg (Itt K a) [it] it (fun i h=>h.IsTupleIter it a i) where
 mem:=by simp
 obj:=fun i h st b hb=>by
  have e:b=it:=by simpa using hb
  subst e
  obtain ⟨o,e,c,d⟩:=st
  exact ⟨o,e,fun v z=>by rw [d] at z;cases z⟩
 keep:=fun i h h' st k=>st.at fun o e=>k it (by simp) o e
 item:=by
  intro X hP hw hK hc i pins s σ H E I hf st hg
  subst hP hw hK
  obtain ⟨xs,x,hq,hx⟩:=hg
  obtain ⟨its,rv,p,hz⟩:=I.tuple hq
  obtain ⟨u,hu,ru⟩:=rv.get hx
  obtain ⟨f0,f1,f2,f3,f4,f5⟩:=hf it (by simp)
  refine wpAny_pyNext_tuple_item st (show s.heap.IsTuple a its.toArray from p) (x:=u) (by simpa using hu) fun h' st' sb=>?_
  have I1:Inv X pins σ H { s with heap:=h' }:=I.turned (t':=s.toks) (fun b o hb e=>(sb.2 b hb).trans e) f0 f1 f3 f4 f5
  obtain ⟨o,e,c,d⟩:=id st'
  exact ⟨u,rfl,zjX (s:={ s with heap:=h' }) e c d (by decide) ⟨x,H,I1,ru,⟨rfl,fun ys hy=>by rw [I.tuple_inj hy hq];exact hx⟩,st',fun b hb=>(hf b hb).1⟩⟩
 done:=by
  intro X hP hw hK hc i pins s σ H E I hf st hg
  subst hP hw hK
  obtain ⟨xs,hq,hx⟩:=hg
  obtain ⟨its,rv,p,hz⟩:=I.tuple hq
  obtain ⟨f0,f1,f2,f3,f4,f5⟩:=hf it (by simp)
  have hl:=rv.length
  exact wpAny_pyNext_tuple_end (I.ok.hd hc) st (show s.heap.IsTuple a its.toArray from p) (by simp;omega) fun h' eb=>⟨rfl,I.turned (t':=s.toks) (fun b o hb e=>eb b o hb e) f0 f1 f3 f4 f5⟩
 self:=fun _ _ _ _ _ st h=>wpAny_pyIter_tupleiter st h
theorem zhA {P:Program} {w:World} {K:PySem.W.Frag} {tg:Expr} (it:Addr) (lo:Int) (n:Nat):Turn P w K tg (Itr lo n) [it] it (fun i h=>IsRangeIter h it (lo+(i:Nat)*1) ((n:Int) - (i:Nat)) 1) where
 mem:=by simp
 obj := fun i h st b hb => by
  have e:b=it:=by simpa using hb
  subst e
  exact ⟨_,st,fun v z=>by
   have z':Data.fields _=Data.cell v:=z
   cases z'⟩
 keep:=fun i h h' st k=>k it (by simp) _ st
 item:=by
  intro X hP hw hK hc i pins s σ H E I hf st hg
  subst hP hw hK
  obtain ⟨f0,f1,f2,f3,f4,f5⟩:=hf it (by simp)
  have W:=Walks.range (prog:=X.prog) (w:=X.w) (I.ok.hd hc) it lo 1 n
  refine W.item i s _ _ hg st fun v h' tk hv st' kk=>?_
  obtain ⟨t,rfl⟩:=hv
  have I1:Inv X pins σ H { s with heap:=h',toks:=tk }:=I.turned (fun b o hb e=>kk b o (by simpa using hb) e) f0 f1 f3 f4 f5
  refine ⟨_,rfl,zjX (s:={ s with heap:=h',toks:=tk }) (n := "range_iterator") st' rfl rfl (by decide) ⟨.int (lo+i),H,I1,⟨t,?_⟩,⟨rfl,rfl⟩,st',fun b hb=>(hf b hb).1⟩⟩
  rw [Int.mul_one]
 done:=by
  intro X hP hw hK hc i pins s σ H E I hf st hg
  subst hP hw hK
  obtain ⟨f0,f1,f2,f3,f4,f5⟩:=hf it (by simp)
  exact wpAny_pyNext_range_end (I.ok.hd hc) st (by have:n<=i:=hg;omega) fun h' eb=>⟨rfl,I.turned (t':=s.toks) (fun b o hb e=>eb b o hb e) f0 f1 f3 f4 f5⟩
 self:=fun _ _ _ _ _ st h=>wpAny_pyIter_rangeiter st h
end L2
namespace L2
open PySem PySem.Spec PyProof.Rows
section
variable {X:Cx} {tg:Expr}
def zqG (K:PySem.W.Frag) (tl:TE):TI:=fun σ H R=>tl σ H fun x H1=>∃ a,x = .ref a/\(∃ xs,SqL K H1 a xs)/\R (Itl K a) H1
def yeW (K:PySem.W.Frag) (tl:TE):TI:=fun σ H R=>tl σ H fun x H1=>∃ a,x = .ref a/\(∃ xs,SqT K H1 a xs)/\R (Itt K a) H1
theorem zuZ {l:Expr} {tl:TE} (hl:PE X l tl):PI X tg l (zqG X.K tl):=by
 intro pins s σ H R I h
 refine xQ (hl pins s σ H _ I h) fun v s1 ⟨x,H1,I1,r1,q1⟩=>?_
 obtain ⟨a,e,⟨xs,hq⟩,q⟩:=q1
 subst e
 cases r1
 obtain ⟨its,rv,p,hz⟩:=I1.list hq
 refine wpAny_pyIter_list p.isList ?_
 refine ⟨s1.heap.objs.size,[s1.heap.objs.size],_,_,H1,rfl,I1.kept (t':=s1.toks) fun b o e=>Heap.get?_push_of_some _ e,znI a _,⟨_,Heap.get?_push_size _ rfl,rfl,rfl⟩,fun b hb=>?_,q⟩
 have e:b=s1.heap.objs.size:=by simpa using hb
 subst e
 exact I1.fpOk (Nat.le_refl _) (I1.hok.fresh (Nat.le_refl _))
theorem yeQ {l:Expr} {tl:TE} (hl:PE X l tl):PI X tg l (yeW X.K tl):=by
 intro pins s σ H R I h
 refine xQ (hl pins s σ H _ I h) fun v s1 ⟨x,H1,I1,r1,q1⟩=>?_
 obtain ⟨a,e,⟨xs,hq⟩,q⟩:=q1
 subst e
 cases r1
 obtain ⟨its,rv,p,hz⟩:=I1.tuple hq
 refine wpAny_pyIter_tuple (show s1.heap.IsTuple a its.toArray from p) ?_
 refine ⟨s1.heap.objs.size,[s1.heap.objs.size],_,_,H1,rfl,I1.kept (t':=s1.toks) fun b o e=>Heap.get?_push_of_some _ e,zhD a _,⟨_,Heap.get?_push_size _ rfl,rfl,rfl⟩,fun b hb=>?_,q⟩
 have e:b=s1.heap.objs.size:=by simpa using hb
 subst e
 exact I1.fpOk (Nat.le_refl _) (I1.hok.fresh (Nat.le_refl _))
theorem zoK {pins:List (Addr × Obj)} {σ:St} {H:Hp} {s:Shared} {R:It->Hp->Prop} {E:Value->Shared->Prop} {lo hi:Int} {t u v:Tok} {tk:Nat} (I:Inv X pins σ H s) (h1 : -(2 ^ 62)<=lo) (h2:lo<2 ^ 62) (h3 : -(2 ^ 62)<=hi) (h4:hi<2 ^ 62)
  (q:R (Itr lo (hi - lo).toNat) H):wpAny (model X.prog X.w) X.A (pyIter (.ref s.heap.objs.size)) (PIE X pins σ tg R) E { s with heap:=s.heap.push { cls:=.type "range",data:=.fields #[.int lo t,.int hi u,.int 1 v] },toks:=tk }:=by
 refine wpAny_pyIter_range (IsRange.new ..) (small_one h1 h2 h3 h4) ?_
 have I1:Inv X pins σ H { s with heap:=s.heap.push { cls:=.type "range",data:=.fields #[.int lo t,.int hi u,.int 1 v] },toks:=tk }:=I.kept fun b o e=>Heap.get?_push_of_some _ e
 refine ⟨(s.heap.push { cls:=.type "range",data:=.fields #[.int lo t,.int hi u,.int 1 v] }).objs.size,[(s.heap.push { cls:=.type "range",data:=.fields #[.int lo t,.int hi u,.int 1 v] }).objs.size],_,_,H,rfl,
  I1.kept (t':=tk) fun b o e=>Heap.get?_push_of_some _ e,zhA _ lo (hi - lo).toNat,?_,fun b hb=>?_,q⟩
 ·have e1:lo+((0:Nat):Int)*1=lo:=by simp
  have e2:(((hi - lo).toNat:Nat):Int) - ((0:Nat):Int)=Builtin.Range.rangeSize lo hi 1:=by rw [rangeSize_one];split <;> omega
  show IsRangeIter _ _ (lo+((0:Nat):Int)*1) ((((hi - lo).toNat:Nat):Int) - ((0:Nat):Int)) 1
  rw [e1,e2]
  exact Heap.get?_push_size _ rfl
 ·have e:b=(s.heap.push { cls:=.type "range",data:=.fields #[.int lo t,.int hi u,.int 1 v] }).objs.size:=by simpa using hb
  subst e
  exact I1.fpOk (Nat.le_refl _) (I1.hok.fresh (Nat.le_refl _))
def zkL (ta:TA):TI:=fun σ H R=>ta σ H fun vs H1=>∃ j:Int,vs=[.int j] /\ -(2 ^ 62)<=j/\j<2 ^ 62/\R (Itr 0 j.toNat) H1
theorem zmI {a:Expr} {ta:TA} {p pos:Pos} (hg:Gl X "range") (hm:X.mg "range" = none) (ha:PA X [a] ta) (hs:starEach [a] X.env=[(false,eval a X.env)]:=by rfl):PI X tg (.Call (.Name "range" p) [a] [] pos) (zkL ta):=by
  intro pins s σ H R I h
  refine Call_ (rX I hg hm boot_range (PyProof.Rows.callWith_type1 (xQ (ha pos pins s σ H _ I h) fun us s1 ⟨vs,H1,I1,r1,q1⟩=>?_) hs rfl))
  obtain ⟨j,e,q1,q2,q⟩:=q1
  subst e
  cases r1 with
  | cons r rr =>
    cases rr
    obtain ⟨t,rfl⟩:=r
    exact call_range_1 (zoK I1 (by omega) (by omega) q1 q2 (by simpa using q))
def ydS (wi:TI) (g:TG) (tb:TS):TS:=fun D σ H=>wi σ H fun J H1=>∃ W:Nat->Nat->St->Hp->Prop,(∃ m,W 0 m σ H1)/\∀ i m σ H,W i m σ H ->
 (J.stop i H/\D.nx σ H)\/(J.go i H/\∃ N:St->Hp->Prop,(∀ σ' H',N σ' H'->∃ m',m'<m/\W (i+1) m' σ' H')/\∀ x H',J.yld i H x H'->g x σ H' fun σ2 H2=>tb { D with nx:=N,ct:=N,bk:=D.nx } σ2 H2)
def zaD (fp:List Addr) (h:Heap):List (Addr × Obj):=fp.filterMap fun b=>(h.get? b).map fun o=>(b,o)
theorem jC {fp:List Addr} {h:Heap} {b:Addr} {o:Obj} (hb:b∈fp) (e:h.get? b=some o):(b,o)∈zaD fp h:=List.mem_filterMap.mpr ⟨b,hb,by rw [e];rfl⟩
theorem znJ {fp:List Addr} {h:Heap} {p:Addr × Obj} (hp:p∈zaD fp h):p.1∈fp/\h.get? p.1=some p.2:=by
  obtain ⟨b,hb,e⟩:=List.mem_filterMap.mp hp
  cases q:h.get? b with
  | none=>rw [q] at e;cases e
  | some o =>
    rw [q] at e
    have e':(b,o)=p:=Option.some.inj e
    subst e'
    exact ⟨hb,q⟩
theorem Inv.pinned {pins:List (Addr × Obj)} {σ:St} {H:Hp} {s:Shared} {fp:List Addr} (I:Inv X pins σ H s) (hf:∀ b∈fp,rY X pins H b) (ho:∀ b∈fp,∃ o,s.heap.get? b=some o/\∀ v,o.data ≠ .cell v):Inv X (pins++zaD fp s.heap) σ H s :=
 I.pins_of fun p hp=>(List.mem_append.mp hp).elim (fun z=>I.pin p (List.mem_append_right _ z)) fun z=>by
  obtain ⟨hb,e⟩:=znJ z
  obtain ⟨f0,f1,f2,_⟩:=hf p.1 hb
  obtain ⟨o,e',d⟩:=ho p.1 hb
  rw [e] at e';cases e'
  exact ⟨e,f0,f1,f2,d⟩
theorem Inv.unpinned {pins pl:List (Addr × Obj)} {σ:St} {H:Hp} {s:Shared} (I:Inv X (pins++pl) σ H s):Inv X pins σ H s:=I.pins_of fun p hp=>I.pin p (List.mem_append_right _ (List.mem_append_left _ hp))
theorem yeL {iter:Expr} {body:List Stmt} {wi:TI} {g:TG} {tb:TS} {pos:Pos} (hp:PassesOwn (model X.prog X.w) X.A X.env X.xe) (hc:X.calm=true) (hi:PI X tg iter wi) (hg:PG X tg g) (hb:PSs X body tb)
  (hs:∀ x,foldedSetIterable iter X.env x=pure x:=by intro _;rfl):PS X (.For tg iter body [] pos) (ydS wi g tb):=by
 intro pins s σ H D I h
 refine wpAny_For (xQ (hi pins s σ H _ I h) fun v s1 h1=>xQ h1 fun itv s2 h2=>?_) hs
 obtain ⟨it,fp,tn,J,H2,e,I2,T,st2,f2,W,⟨m0,w0⟩,turn⟩:=h2
 subst e
 have stat:∀ {H':Hp},(∀ b∈fp,H' b=none)->∀ b∈fp,rY X pins H' b:=fun hn b hb=>⟨hn b hb,(f2 b hb).2⟩
 refine codeAny_forLoop_any (fun n s'=>∃ i σ' H',Inv X pins σ' H' s'/\tn i s'.heap/\(∀ b∈fp,H' b=none)/\W i n σ' H') ?_ m0 ⟨0,σ,H2,I2,st2,fun b hb=>(f2 b hb).1,w0⟩
 rintro n s3 ⟨i,σ3,H3,I3,st3,fr3,w3⟩
 rcases turn i n σ3 H3 w3 with ⟨stop,qn⟩|⟨go,N,hN,step⟩
 ·refine wpAny_passesOwn hp (xQ (T.done X rfl rfl rfl hc i pins s3 σ3 H3 X.xe I3 (stat fr3) st3 stop) fun r s4 ⟨hr,I4⟩=>?_)
  subst hr
  exact wpAny_execs_nil ⟨σ3,H3,I4,qn⟩
 ·refine wpAny_passesOwn hp (xQ (T.item X rfl rfl rfl hc i pins s3 σ3 H3 X.xe I3 (stat fr3) st3 go) fun r s4 ⟨u,hr,h4⟩=>?_)
  subst hr
  refine wpAny_passesOwn hp (xQ h4 fun _ s5 ⟨x,H5,I5,r5,y5,st5,fr5⟩=>?_)
  have I5':=I5.pinned (stat fr5) (T.obj _ _ st5)
  refine wpAny_passesOwn hp (xQ (hg _ s5 σ3 H5 x u _ I5' r5 (step x H5 y5)) fun _ s6 ⟨σ6,H6,I6,q6⟩=>?_)
  refine wpAny_passesOwn hp (xQ (hb _ s6 σ6 H6 _ I6 q6) fun f s7 q7=>?_)
  have again:∀ {σ7:St} {H7:Hp},Inv X (pins++zaD fp s5.heap) σ7 H7 s7->N σ7 H7->∃ m,m<n/\∃ i σ' H',Inv X pins σ' H' s7/\tn i s7.heap/\(∀ b∈fp,H' b=none)/\W i m σ' H':=fun {σ7 H7} I7 n7=>by
   obtain ⟨m',hm,w7⟩:=hN σ7 H7 n7
   refine ⟨m',hm,i+1,σ7,H7,I7.unpinned,T.keep _ _ _ st5 fun b hb o e=>(I7.pin (b,o) (List.mem_append_right _ (List.mem_append_right _ (jC hb e)))).1,fun b hb=>?_,w7⟩
   obtain ⟨o,e,d⟩:=T.obj _ _ st5 b hb
   exact (I7.pin (b,o) (List.mem_append_right _ (List.mem_append_right _ (jC hb e)))).2.1
  cases f with
  | next=>obtain ⟨σ7,H7,I7,n7⟩:=q7;exact again I7 n7
  | cont=>obtain ⟨σ7,H7,I7,n7⟩:=q7;exact again I7 n7
  | brk=>obtain ⟨σ7,H7,I7,q7⟩:=q7;exact ⟨σ7,H7,I7.unpinned,q7⟩
  | ret v=>obtain ⟨x7,σ7,H7,I7,r7,q7⟩:=q7;exact ⟨x7,σ7,H7,I7.unpinned,r7,q7⟩
end
theorem ztL {K:PySem.W.Frag} {a:Addr} {xs:List V} {g:TG} {tb:TS} {D:Ends} {σ:St} {H:Hp} (Pv:Nat->St->Hp->Prop) (h0:Pv 0 σ H) (hl:∀ i σ H,i<=xs.length->Pv i σ H->SqL K H a xs)
  (hs:∀ i x σ H,xs[i]?=some x->Pv i σ H->g x σ H fun σ2 H2=>tb { D with nx:=Pv (i+1),ct:=Pv (i+1),bk:=D.nx } σ2 H2) (hd:∀ σ H,Pv xs.length σ H->D.nx σ H) :
  ∃ W:Nat->Nat->St->Hp->Prop,(∃ m,W 0 m σ H)/\∀ i m σ H,W i m σ H ->
   ((Itl K a).stop i H/\D.nx σ H)\/((Itl K a).go i H/\∃ N:St->Hp->Prop,(∀ σ' H',N σ' H'->∃ m',m'<m/\W (i+1) m' σ' H')/\∀ x H',(Itl K a).yld i H x H'->g x σ H' fun σ2 H2=>tb { D with nx:=N,ct:=N,bk:=D.nx } σ2 H2):=by
 refine ⟨fun i m σ H=>m=xs.length - i/\i<=xs.length/\Pv i σ H,⟨xs.length,by simp,Nat.zero_le _,h0⟩,?_⟩
 rintro i m σ H ⟨rfl,hi,p⟩
 have q:=hl i σ H hi p
 by_cases hlt:i<xs.length
 ·refine .inr ⟨⟨xs,xs[i],q,by simp [hlt]⟩,Pv (i+1),fun σ' H' p'=>⟨xs.length - (i+1),by omega,rfl,hlt,p'⟩,fun x H' y=>?_⟩
  obtain ⟨e,y⟩:=y
  subst e
  exact hs i x σ _ (y xs q) p
 ·have e:i=xs.length:=by omega
  subst e
  exact .inl ⟨⟨xs,q,Nat.le_refl _⟩,hd σ H p⟩
theorem zxB {K:PySem.W.Frag} {a:Addr} {xs:List V} {g:TG} {tb:TS} {D:Ends} {σ:St} {H:Hp} (Pv:Nat->St->Hp->Prop) (h0:Pv 0 σ H) (hl:∀ i σ H,i<=xs.length->Pv i σ H->SqT K H a xs)
  (hs:∀ i x σ H,xs[i]?=some x->Pv i σ H->g x σ H fun σ2 H2=>tb { D with nx:=Pv (i+1),ct:=Pv (i+1),bk:=D.nx } σ2 H2) (hd:∀ σ H,Pv xs.length σ H->D.nx σ H) :
  ∃ W:Nat->Nat->St->Hp->Prop,(∃ m,W 0 m σ H)/\∀ i m σ H,W i m σ H ->
   ((Itt K a).stop i H/\D.nx σ H)\/((Itt K a).go i H/\∃ N:St->Hp->Prop,(∀ σ' H',N σ' H'->∃ m',m'<m/\W (i+1) m' σ' H')/\∀ x H',(Itt K a).yld i H x H'->g x σ H' fun σ2 H2=>tb { D with nx:=N,ct:=N,bk:=D.nx } σ2 H2):=by
 refine ⟨fun i m σ H=>m=xs.length - i/\i<=xs.length/\Pv i σ H,⟨xs.length,by simp,Nat.zero_le _,h0⟩,?_⟩
 rintro i m σ H ⟨rfl,hi,p⟩
 have q:=hl i σ H hi p
 by_cases hlt:i<xs.length
 ·refine .inr ⟨⟨xs,xs[i],q,by simp [hlt]⟩,Pv (i+1),fun σ' H' p'=>⟨xs.length - (i+1),by omega,rfl,hlt,p'⟩,fun x H' y=>?_⟩
  obtain ⟨e,y⟩:=y
  subst e
  exact hs i x σ _ (y xs q) p
 ·have e:i=xs.length:=by omega
  subst e
  exact .inl ⟨⟨xs,q,Nat.le_refl _⟩,hd σ H p⟩
theorem zbT {lo:Int} {n:Nat} {g:TG} {tb:TS} {D:Ends} {σ:St} {H:Hp} (Pv:Nat->St->Hp->Prop) (h0:Pv 0 σ H)
  (hs:∀ i σ H,i<n->Pv i σ H->g (.int (lo+i)) σ H fun σ2 H2=>tb { D with nx:=Pv (i+1),ct:=Pv (i+1),bk:=D.nx } σ2 H2) (hd:∀ σ H,Pv n σ H->D.nx σ H) :
  ∃ W:Nat->Nat->St->Hp->Prop,(∃ m,W 0 m σ H)/\∀ i m σ H,W i m σ H ->
   ((Itr lo n).stop i H/\D.nx σ H)\/((Itr lo n).go i H/\∃ N:St->Hp->Prop,(∀ σ' H',N σ' H'->∃ m',m'<m/\W (i+1) m' σ' H')/\∀ x H',(Itr lo n).yld i H x H'->g x σ H' fun σ2 H2=>tb { D with nx:=N,ct:=N,bk:=D.nx } σ2 H2):=by
 refine ⟨fun i m σ H=>m=n - i/\i<=n/\Pv i σ H,⟨n,by simp,Nat.zero_le _,h0⟩,?_⟩
 rintro i m σ H ⟨rfl,hi,p⟩
 by_cases hlt:i<n
 ·refine .inr ⟨hlt,Pv (i+1),fun σ' H' p'=>⟨n - (i+1),by omega,rfl,hlt,p'⟩,fun x H' y=>?_⟩
  obtain ⟨e,y⟩:=y
  subst e y
  exact hs i σ _ hlt p
 ·have e:i=n:=by omega
  subst e
  exact .inl ⟨Nat.le_refl _,hd σ H p⟩
theorem zqH {c:TT} {tb:TS} {D:Ends} {σ:St} {H:Hp} (Pv:St->Hp->Prop) (μ:St->Hp->Nat) (h0:Pv σ H)
  (hs:∀ σ H,Pv σ H->c σ H fun b H1=>if b=true then tb { D with nx:=fun σ' H'=>Pv σ' H'/\μ σ' H' < μ σ H,ct:=fun σ' H'=>Pv σ' H'/\μ σ' H' < μ σ H,bk:=D.nx } σ H1 else D.nx σ H1)
  (mono:∀ σ H Q Q',(∀ b H1,Q b H1->Q' b H1)->c σ H Q->c σ H Q'):zeS c tb D σ H:=by
 refine ⟨fun m σ H=>m=μ σ H/\Pv σ H,⟨_,rfl,h0⟩,?_⟩
 rintro m σ H ⟨rfl,p⟩
 refine mono σ H _ _ (fun b H1 q=>?_) (hs σ H p)
 cases b with
 | true=>exact ⟨_,fun σ' H' ⟨p',l⟩=>⟨_,l,rfl,p'⟩,q⟩
 | false=>exact q
end L2
namespace L2
open PySem PySem.Spec PyProof.Rows
abbrev R2:=V->V->Hp->VK->Prop
def jQ (X:Cx) (f:Value->Value->Sem Value) (r:R2):Prop :=
 ∀ (pins:List (Addr × Obj)) (s:Shared) (σ:St) (H:Hp) (x y:V) (v u:Value) (Q:VK),Inv X pins σ H s->RelV x v->RelV y u->r x y H Q ->
  wpAny (model X.prog X.w) X.A (f v u) (EP X pins σ Q) X.xe s
def UnR (X:Cx) (f:Value->Sem Value) (r:V->Hp->VK->Prop):Prop :=
 ∀ (pins:List (Addr × Obj)) (s:Shared) (σ:St) (H:Hp) (x:V) (v:Value) (Q:VK),Inv X pins σ H s->RelV x v->r x H Q ->
  wpAny (model X.prog X.w) X.A (f v) (EP X pins σ Q) X.xe s
def wZ (X:Cx) (f:Value) (r:List V->Hp->VK->Prop):Prop :=
 ∀ (pins:List (Addr × Obj)) (s:Shared) (σ:St) (H:Hp) (xs:List V) (us:List Value) (Q:VK),Inv X pins σ H s->Vals xs us->r xs H Q ->
  wpAny (model X.prog X.w) X.A (call f us) (EP X pins σ Q) X.xe s
def wO (r:R2) (ta tb:TE):TE:=fun σ H Q=>ta σ H fun x H1=>tb σ H1 fun y H2=>r x y H2 Q
def tUn (r:V->Hp->VK->Prop) (ta:TE):TE:=fun σ H Q=>ta σ H fun x H1=>r x H1 Q
def rI (C:Int->Int->Prop) (g:Int->Int->V):R2:=fun x y H Q=>∃ i j,x = .int i/\y = .int j/\C i j/\Q (g i j) H
def rI0 (g:Int->Int->V):R2:=fun x y H Q=>∃ i j,x = .int i/\y = .int j/\Q (g i j) H
def rU (g:Int->V):V->Hp->VK->Prop:=fun x H Q=>∃ i,x = .int i/\Q (g i) H
section
variable {X:Cx} {a b c:Expr} {ta tb tc:TE} {pos:Pos}
theorem zsT (ha:PE X a ta) (hb:PE X b tb) {pins:List (Addr × Obj)} {s:Shared} {σ:St} {H:Hp} {R:V->V->Hp->Prop} (I:Inv X pins σ H s)
  (h:ta σ H fun x H1=>tb σ H1 fun y H2=>R x y H2) {Q:Value->Shared->Prop} {f:Value->Value->Sem Value}
  (hf:∀ v u s2 x y H2,Inv X pins σ H2 s2->RelV x v->RelV y u->R x y H2->wpAny (model X.prog X.w) X.A (f v u) Q X.xe s2) :
  wpAny (model X.prog X.w) X.A (eval a X.env) (fun v s₁=>wpAny (model X.prog X.w) X.A (eval b X.env) (fun u s₂=>wpAny (model X.prog X.w) X.A (f v u) Q X.xe s₂) X.xe s₁) X.xe s:=by
 refine xQ (ha pins s σ H _ I h) fun v s1 ⟨x,H1,I1,r1,q1⟩=>?_
 refine xQ (hb pins s1 σ H1 _ I1 q1) fun u s2 ⟨y,H2,I2,r2,q2⟩=>?_
 exact hf v u s2 x y H2 I2 r1 r2 q2
theorem yhU {op:Operator} {r:R2} (ho:jQ X (binaryOp op) r) (ha:PE X a ta) (hb:PE X b tb):PE X (.BinOp a op b pos) (wO r ta tb):=by
 intro pins s σ H Q I h
 exact wpAny_BinOp (zsT ha hb I h fun v u s2 x y H2 I2 rx ry q=>ho pins s2 σ H2 x y v u Q I2 rx ry q)
theorem yhO {op:UnaryOp} {r:V->Hp->VK->Prop} (ho:UnR X (unaryOp op) r) (ha:PE X a ta):PE X (.UnaryOp op a pos) (tUn r ta):=by
 intro pins s σ H Q I h
 exact UnaryOp_ (xQ (ha pins s σ H _ I h) fun v s1 ⟨x,H1,I1,r1,q1⟩=>ho pins s1 σ H1 x v Q I1 r1 q1)
theorem opI {f:Value->Value->Sem Value} {C:Int->Int->Prop} {g:Int->Int->Int}
  (rule:∀ (i j:Int) (t u:Tok) (s:Shared) (Q:Value->Shared->Prop) (E:Value->Shared->Prop),C i j->Q (.int (g i j) s.toks) { s with toks:=s.toks+1 }->wpAny (model X.prog X.w) X.A (f (.int i t) (.int j u)) Q E s) :
  jQ X f (rI C fun i j=>.int (g i j)):=by
 intro pins s σ H x y v u Q I rx ry h
 obtain ⟨i,j,rfl,rfl,hc,q⟩:=h
 obtain ⟨t,rfl⟩:=rx
 obtain ⟨t',rfl⟩:=ry
 exact rule i j t t' s _ _ hc ⟨.int (g i j),H,I.tok _,⟨_,rfl⟩,q⟩
theorem opI0 {f:Value->Value->Sem Value} {g:Int->Int->Int}
  (rule:∀ (i j:Int) (t u:Tok) (s:Shared) (Q:Value->Shared->Prop) (E:Value->Shared->Prop),Q (.int (g i j) s.toks) { s with toks:=s.toks+1 }->wpAny (model X.prog X.w) X.A (f (.int i t) (.int j u)) Q E s) :
  jQ X f (rI0 fun i j=>.int (g i j)):=by
 intro pins s σ H x y v u Q I rx ry h
 obtain ⟨i,j,rfl,rfl,q⟩:=h
 obtain ⟨t,rfl⟩:=rx
 obtain ⟨t',rfl⟩:=ry
 exact rule i j t t' s _ _ ⟨.int (g i j),H,I.tok _,⟨_,rfl⟩,q⟩
theorem ydU {f:Value->Value->Sem Value} {g:Int->Int->Bool}
  (rule:∀ (i j:Int) (t u:Tok) (s:Shared) (Q:Value->Shared->Prop) (E:Value->Shared->Prop),Q (.bool (g i j)) s->wpAny (model X.prog X.w) X.A (f (.int i t) (.int j u)) Q E s) :
  jQ X f (rI0 fun i j=>.bl (g i j)):=by
 intro pins s σ H x y v u Q I rx ry h
 obtain ⟨i,j,rfl,rfl,q⟩:=h
 obtain ⟨t,rfl⟩:=rx
 obtain ⟨t',rfl⟩:=ry
 exact rule i j t t' s _ _ ⟨.bl (g i j),H,I,rfl,q⟩
def ziF (i j:Int):Prop:=0<=j/\j<=1000000/\i.natAbs<2 ^ 64
def CMul (i j:Int):Prop:=(-(2 ^ 64)<i/\i<2 ^ 64)\/(-(2 ^ 64)<j/\j<2 ^ 64)
theorem CMul.ok {i j:Int} (h:CMul i j):IntMulOk i j:=by
 rcases h with ⟨h1,h2⟩|⟨h1,h2⟩
 ·exact .of_left (intBits_le_64 h1 h2)
 ·exact .of_right (intBits_le_64 h1 h2)
theorem yD:jQ X (binaryOp .Add) (rI0 fun i j=>.int (i+j)):=opI0 fun _ _ _ _ _ _ _ q=>add_int q
theorem yI:jQ X (binaryOp .Sub) (rI0 fun i j=>.int (i - j)):=opI0 fun _ _ _ _ _ _ _ q=>sub_int q
theorem kZ:jQ X (binaryOp .Mult) (rI CMul fun i j=>.int (i*j)):=opI fun _ _ _ _ _ _ _ hc q=>mul_int q hc.ok
theorem qG:jQ X (binaryOp .Mod) (rI (fun _ j=>0<j) fun i j=>.int (i % j)):=opI fun i j _ _ _ _ _ hc q=>by
 have h1:(0:Int)<j:=hc
 exact mod_int' (by omega) (by rw [Int.fmod_eq_emod_of_nonneg i (by omega)];exact q)
theorem rG:jQ X (binaryOp .Pow) (rI ziF fun i j=>.int (i ^ j.toNat)):=opI fun _ _ _ _ _ _ _ hc q=>pow_int_small hc.1 hc.2.1 hc.2.2 q
theorem yaO:jQ X (binaryOp .LShift) (rI ziF fun i j=>.int (i*2 ^ j.toNat)):=opI fun _ _ _ _ _ _ _ hc q=>lshift_int_small hc.1 hc.2.1 hc.2.2 q
theorem unI {f:Value->Sem Value} {g:Int->Int}
  (rule:∀ (i:Int) (t:Tok) (s:Shared) (Q:Value->Shared->Prop) (E:Value->Shared->Prop),Q (.int (g i) s.toks) { s with toks:=s.toks+1 }->wpAny (model X.prog X.w) X.A (f (.int i t)) Q E s) :
  UnR X f (rU fun i=>.int (g i)):=by
 intro pins s σ H x v Q I rx h
 obtain ⟨i,rfl,q⟩:=h
 obtain ⟨t,rfl⟩:=rx
 exact rule i t s _ _ ⟨.int (g i),H,I.tok _,⟨_,rfl⟩,q⟩
theorem xZ:UnR X (unaryOp .USub) (rU fun i=>.int (-i)):=unI fun _ _ _ _ _ q=>neg_int q
end
def ygC:V->V->Bool
 | .non,.non=>true | .non,.int _=>true | .int _,.non=>true | .non,.bl _=>true | .bl _,.non=>true | .non,.str _=>true | .str _,.non=>true
 | .int _,.int _=>true | .bl _,.bl _=>true | .str _,.str _=>true | .byt _,.byt _=>true
 | .int _,.str _=>true | .str _,.int _=>true | .bl _,.str _=>true | .str _,.bl _=>true
 | _,_=>false
def rEq:R2:=fun x y H Q=>ygC x y=true/\Q (.bl (decide (x=y))) H
def rNe:R2:=fun x y H Q=>ygC x y=true/\Q (.bl (!decide (x=y))) H
theorem zlS {i j:Int}:decide (V.int i=V.int j)=(i == j):=by
 rw [Bool.eq_iff_iff]
 simp
theorem zpB {i j:Bool}:decide (V.bl i=V.bl j)=(i == j):=by
 rw [Bool.eq_iff_iff]
 simp
theorem zkA {i j:Str}:decide (V.str i=V.str j)=(i == j):=by
 rw [Bool.eq_iff_iff]
 simp
theorem zkU {i j:Array UInt8}:decide (V.byt i=V.byt j)=(i.toList == j.toList):=by
 rw [Bool.eq_iff_iff]
 cases i
 cases j
 simp
section
variable {X:Cx} {a b c:Expr} {ta tb tc:TE} {pos:Pos}
theorem yG {pins:List (Addr × Obj)} {σ:St} {H:Hp} {s:Shared} {Q:VK} {k k':Bool} (I:Inv X pins σ H s) (q:Q (.bl k) H) (e:k=k'):EP X pins σ Q (.bool k') s:=by
 subst e
 exact ⟨.bl k,H,I,rfl,q⟩
theorem wG:jQ X (compareOp .Eq) rEq:=by
  intro pins s σ H x y v u Q I rx ry h
  obtain ⟨hs,q⟩:=h
  cases x with
  | non =>
    cases rx
    cases y with
    | non=>cases ry;exact PySem.EqNone.eq_none_none (yG I q (by simp))
    | bl j=>cases ry;exact PySem.EqNone.eq_none_bool (yG I q (by simp))
    | int j=>obtain ⟨t',rfl⟩:=ry;exact PySem.EqNone.eq_none_int (yG I q (by simp))
    | str j=>obtain ⟨t',rfl⟩:=ry;exact PySem.EqNone.eq_none_str (yG I q (by simp))
    | _=>exact absurd (show false=true from hs) Bool.false_ne_true
  | bl i =>
    cases rx
    cases y with
    | non=>cases ry;exact PySem.EqNone.eq_bool_none (yG I q (by simp))
    | bl j=>cases ry;exact eq_bool (yG I q zpB)
    | str j=>obtain ⟨t',rfl⟩:=ry;exact PySem.EqMixed.eq_bool_str (yG I q (by simp))
    | _=>exact absurd (show false=true from hs) Bool.false_ne_true
  | int i =>
    obtain ⟨t,rfl⟩:=rx
    cases y with
    | non=>cases ry;exact PySem.EqNone.eq_int_none (yG I q (by simp))
    | int j=>obtain ⟨t',rfl⟩:=ry;exact eq_int (yG I q zlS)
    | str j=>obtain ⟨t',rfl⟩:=ry;exact PySem.EqMixed.eq_int_str (yG I q (by simp))
    | _=>exact absurd (show false=true from hs) Bool.false_ne_true
  | str i =>
    obtain ⟨t,rfl⟩:=rx
    cases y with
    | non=>cases ry;exact PySem.EqNone.eq_str_none (yG I q (by simp))
    | bl j=>cases ry;exact PySem.EqMixed.eq_str_bool (yG I q (by simp))
    | int j=>obtain ⟨t',rfl⟩:=ry;exact PySem.EqMixed.eq_str_int (yG I q (by simp))
    | str j=>obtain ⟨t',rfl⟩:=ry;exact eq_str (yG I q zkA)
    | _=>exact absurd (show false=true from hs) Bool.false_ne_true
  | byt i =>
    obtain ⟨t,rfl⟩:=rx
    cases y with
    | byt j=>obtain ⟨t',rfl⟩:=ry;exact PySem.W.eq_bytes (yG I q zkU)
    | _=>exact absurd (show false=true from hs) Bool.false_ne_true
  | _=>cases y <;> exact absurd (show false=true from hs) Bool.false_ne_true
theorem jR:jQ X (compareOp .NotEq) rNe:=by
  intro pins s σ H x y v u Q I rx ry h
  obtain ⟨hs,q⟩:=h
  cases x with
  | non =>
    cases rx
    cases y with
    | non=>cases ry;exact PySem.EqNone.ne_none_none (yG I q (by simp))
    | bl j=>cases ry;exact PySem.EqNone.ne_none_bool (yG I q (by simp))
    | int j=>obtain ⟨t',rfl⟩:=ry;exact PySem.EqNone.ne_none_int (yG I q (by simp))
    | str j=>obtain ⟨t',rfl⟩:=ry;exact PySem.EqNone.ne_none_str (yG I q (by simp))
    | _=>exact absurd (show false=true from hs) Bool.false_ne_true
  | bl i =>
    cases rx
    cases y with
    | non=>cases ry;exact PySem.EqNone.ne_bool_none (yG I q (by simp))
    | bl j=>cases ry;exact ne_bool (yG I q (congrArg not zpB))
    | str j=>obtain ⟨t',rfl⟩:=ry;exact PySem.EqMixed.ne_bool_str (yG I q (by simp))
    | _=>exact absurd (show false=true from hs) Bool.false_ne_true
  | int i =>
    obtain ⟨t,rfl⟩:=rx
    cases y with
    | non=>cases ry;exact PySem.EqNone.ne_int_none (yG I q (by simp))
    | int j=>obtain ⟨t',rfl⟩:=ry;exact ne_int (yG I q (congrArg not zlS))
    | str j=>obtain ⟨t',rfl⟩:=ry;exact PySem.EqMixed.ne_int_str (yG I q (by simp))
    | _=>exact absurd (show false=true from hs) Bool.false_ne_true
  | str i =>
    obtain ⟨t,rfl⟩:=rx
    cases y with
    | non=>cases ry;exact PySem.EqNone.ne_str_none (yG I q (by simp))
    | bl j=>cases ry;exact PySem.EqMixed.ne_str_bool (yG I q (by simp))
    | int j=>obtain ⟨t',rfl⟩:=ry;exact PySem.EqMixed.ne_str_int (yG I q (by simp))
    | str j=>obtain ⟨t',rfl⟩:=ry;exact ne_str (yG I q (congrArg not zkA))
    | _=>exact absurd (show false=true from hs) Bool.false_ne_true
  | byt i =>
    obtain ⟨t,rfl⟩:=rx
    cases y with
    | byt j=>obtain ⟨t',rfl⟩:=ry;exact PySem.W.ne_bytes (yG I q (congrArg not zkU))
    | _=>exact absurd (show false=true from hs) Bool.false_ne_true
  | _=>cases y <;> exact absurd (show false=true from hs) Bool.false_ne_true
theorem zoB:jQ X (compareOp .Lt) (rI0 fun i j=>.bl (decide (i<j))):=ydU fun _ _ _ _ _ _ _ q=>lt_int q
theorem zyW:jQ X (compareOp .Gt) (rI0 fun i j=>.bl (decide (j<i))):=ydU fun _ _ _ _ _ _ _ q=>gt_int q
theorem yhI:jQ X (compareOp .GtE) (rI0 fun i j=>.bl (decide (j<=i))):=ydU fun _ _ _ _ _ _ _ q=>ge_int q
theorem zbZ:jQ X (compareOp .In) (fun x y H Q=>∃ i j,x = .str i/\y = .str j/\Q (.bl (!(Builtin.Str.occurrences j i 0 j.length 1).isEmpty)) H):=by
 intro pins s σ H x y v u Q I rx ry h
 obtain ⟨i,j,rfl,rfl,q⟩:=h
 obtain ⟨t,rfl⟩:=rx
 obtain ⟨t',rfl⟩:=ry
 exact in_str (yG I q rfl)
theorem zdX:jQ X (compareOp .Is) (fun x y H Q=>y = .non/\Q (.bl (decide (x = .non))) H):=by
 intro pins s σ H x y v u Q I rx ry h
 obtain ⟨rfl,q⟩:=h
 cases ry
 refine is_none_gen (yG I q ?_)
 cases x <;> first
  | (cases rx;rfl)
  | (obtain ⟨t,rfl⟩:=rx;rfl)
theorem zwV:jQ X (compareOp .IsNot) (fun x y H Q=>y = .non/\Q (.bl (!decide (x = .non))) H):=by
 intro pins s σ H x y v u Q I rx ry h
 obtain ⟨rfl,q⟩:=h
 cases ry
 refine isnot_none_gen (yG I q ?_)
 cases x <;> first
  | (cases rx;rfl)
  | (obtain ⟨t,rfl⟩:=rx;rfl)
theorem zdD:jQ X (compareOp .NotIn) (fun x y H Q=>∃ i j,x = .str i/\y = .str j/\Q (.bl (!(!(Builtin.Str.occurrences j i 0 j.length 1).isEmpty))) H):=by
 intro pins s σ H x y v u Q I rx ry h
 obtain ⟨i,j,rfl,rfl,q⟩:=h
 obtain ⟨t,rfl⟩:=rx
 obtain ⟨t',rfl⟩:=ry
 exact notIn_str (yG I q rfl)
theorem zT (b:Expr) {op:CmpOp} (h:op ≠ .In:=by decide) (h2:op ≠ .NotIn:=by decide):behindInMarks op b=false:=by
 have e1:(op == CmpOp.In)=false:=by cases op <;> first|rfl|exact absurd rfl h
 have e2:(op == CmpOp.NotIn)=false:=by cases op <;> first|rfl|exact absurd rfl h2
 cases b <;> simp [behindInMarks,e1,e2]
theorem zuX {op:CmpOp} {r:R2} (ho:jQ X (compareOp op) r) (ha:PE X a ta) (hb:PE X b tb) (hm:behindInMarks op b=false):PE X (.Compare a [op] [b] pos) (wO r ta tb):=by
 intro pins s σ H Q I h
 exact wpAny_Compare1 (zsT ha hb I h fun v u s2 x y H2 I2 rx ry q=>ho pins s2 σ H2 x y v u Q I2 rx ry q) hm
def zcB (t:TE):TT:=fun σ H Q=>t σ H fun x H'=>∃ k,x = .bl k/\Q k H'
theorem zuJ {op:CmpOp} {r:R2} (ho:jQ X (compareOp op) r) (ha:PE X a ta) (hb:PE X b tb) (hm:behindInMarks op b=false):PT X (.Compare a [op] [b] pos) (zcB (wO r ta tb)):=by
 intro pins s σ H Q I h
 refine wpAny_isTrue_Compare1 (xQ (ha pins s σ H _ I h) fun v s1 ⟨x,H1,I1,r1,q1⟩=>xQ (hb pins s1 σ H1 _ I1 q1) fun u s2 ⟨y,H2,I2,r2,q2⟩ =>
  xQ (ho pins s2 σ H2 x y v u _ I2 r1 r2 q2) fun c s3 ⟨z,H3,I3,r3,k,e,q3⟩=>?_) hm
 subst e
 cases r3
 exact wpAny_truthy_bool ⟨H3,I3,q3⟩
theorem tW:(sizeLine:Nat)<2 ^ 63:=by rw [sizeLine_eq];decide
theorem xO:jQ X (binaryOp .Add) (fun x y H Q=>∃ i j,x = .str i/\y = .str j/\i.length+j.length<=sizeLine/\Q (.str (i++j)) H):=by
 intro pins s σ H x y v u Q I rx ry h
 obtain ⟨i,j,rfl,rfl,hz,q⟩:=h
 obtain ⟨t,rfl⟩:=rx
 obtain ⟨t',rfl⟩:=ry
 exact add_str (fun t' tk=>⟨.str (i++j),H,I.tok _,⟨_,rfl⟩,q⟩) hz
theorem qW {x:V} {us:List Value} (r:Vals [x] us):∃ u,us=[u]/\RelV x u:=by
 cases r with
 | cons r1 r2=>cases r2;exact ⟨_,rfl,r1⟩
theorem rK:wZ X (.builtin "abs") (fun xs H Q=>∃ i,xs=[.int i]/\Q (.int (if i<0 then -i else i)) H):=by
 intro pins s σ H xs us Q I r h
 obtain ⟨i,rfl,q⟩:=h
 obtain ⟨u,rfl,t,rfl⟩:=qW r
 exact call_abs_int fun u tk=>⟨.int (if i<0 then -i else i),H,I.tok _,⟨_,rfl⟩,q⟩
theorem zmR:wZ X (.type "int") (fun xs H Q=>(∃ i,xs=[.int i]/\Q (.int i) H)\/∃ k,xs=[.bl k]/\Q (.int (if k then 1 else 0)) H):=by
 intro pins s σ H xs us Q I r h
 rcases h with ⟨i,rfl,q⟩|⟨k,rfl,q⟩
 ·obtain ⟨u,rfl,t,rfl⟩:=qW r
  exact call_int_int ⟨.int i,H,I,⟨_,rfl⟩,q⟩
 ·obtain ⟨u,rfl,r1⟩:=qW r
  cases r1
  exact call_int_bool ⟨.int (if k then 1 else 0),H,I.tok _,⟨_,rfl⟩,q⟩
end
end L2
namespace L2
open PySem PySem.Spec PyProof.Rows
section
variable {prog:Program} {w:World} {A:Around} {E:Value->Shared->Prop} {s:Shared} {K:PySem.W.Frag} {x dx C f:Addr} {mA:Str->Option Value} {name:Str} {v:Value}
end
section
variable {P:Program} {w:World} {H H':Hp} {h h':Heap} {a C dx:Addr} {fs:List (Str × V)}
end
structure Con (K:PySem.W.Frag) (C:Addr) (f:Str) (v:V) (u:Value):Prop where
 at_:PySem.W.findIn K (.ref C) f=some (some u)
 rel:RelV v u
 get:PySem.W.specialIn K u "__get__" = some none
 cp:PySem.W.copiedNames.contains f=false
section
variable {X:Cx} {pins:List (Addr × Obj)} {σ:St} {H:Hp} {s:Shared} {a C dx:Addr} {fs:List (Str × V)} {f:Str} {v:V} {A:Around} {E:Value->Shared->Prop}
end
section
variable {X:Cx} {o e value:Expr} {f:Str} {pos pos':Pos} {ta:TE}
end
section
variable {X:Cx} {pins:List (Addr × Obj)} {σ:St} {H:Hp} {s:Shared} {A:Around} {E:Value->Shared->Prop} {Q:Value->Shared->Prop} {c:Value} {b:Bool}
end
end L2
namespace L2
open PySem PySem.Spec PyProof.Rows
structure Room (k:Nat) (A:Around):Prop where
 hd:A.handled=none
 dp:A.depth+3*k+5<recursionLimit
 un:A.units+16*k+200<cLine
theorem Room.mono {j k:Nat} {A:Around} (r:Room k A) (h:j<=k):Room j A:=⟨r.hd,by have:=r.dp;omega,by have:=r.un;omega⟩
theorem Room.deeper {k:Nat} {A:Around} (r:Room (k+1) A) (env:Env):Room k (A.deeper env) :=
 ⟨r.hd,by have:=r.dp;show A.depth+1+3*k+5<_;omega,by have:=r.un;show A.units+3+16*k+200<_;omega⟩
theorem Room.depth {k:Nat} {A:Around} (r:Room k A):A.depth<recursionLimit:=by have:=r.dp;omega
theorem Room.units {k:Nat} {A:Around} (r:Room k A):A.units+64<cLine:=by have:=r.un;omega
theorem Room.units0 {k:Nat} {A:Around} (r:Room k A):A.units<cLine:=by have:=r.un;omega
def vJ:TA:=fun _ H Q=>Q [] H
def yN (ta:TE) (tr:TA):TA:=fun σ H Q=>ta σ H fun x H1=>tr σ H1 fun xs H2=>Q (x::xs) H2
section
variable {X:Cx} {e:Expr} {es:List Expr} {te:TE} {t:TA} {pos:Pos}
theorem zaT:PA X [] vJ:=fun _ _ _ _ H Q I h=>Calls.spliced_nil ⟨[],H,I,.nil,h⟩
theorem xS (ha:PE X e te) (hr:PA X es t) (hs:starEach (e::es) X.env=(false,eval e X.env)::starEach es X.env:=by rfl):PA X (e::es) (yN te t):=by
 intro pos pins s σ H Q I h
 rw [hs]
 show wpAny _ _ (spliced ((false,eval e X.env)::backTo pos (starEach es X.env))) _ _ s
 refine Calls.spliced_cons (xQ (ha pins s σ H _ I h) fun u s1 ⟨x,H1,I1,r1,q1⟩=>?_)
 exact xQ (hr pos pins s1 σ H1 _ I1 q1) fun us s2 ⟨xs,H2,I2,r2,q2⟩=>⟨x::xs,H2,I2,.cons r1 r2,q2⟩
def zxA (t:TA):TE:=fun σ H Q=>t σ H fun xs H1=>xs.length<=sizeLine/\∀ p,H1 p=none->Q (.ref p) (upd H1 p (.tup xs))
def znO (t:TA):TE:=fun σ H Q=>t σ H fun xs H1=>xs.length<=sizeLine/\∀ p,H1 p=none->Q (.ref p) (upd H1 p (.lst xs))
theorem yfA {x1} (h:PA X es t):PE X (.Tuple es x1 pos) (zxA t):=by
 intro pins s σ H Q I hq
 refine wpAny_Tuple_spliced (xQ (h pos pins s σ H _ I hq) fun us s1 ⟨xs,H1,I1,r,z,q⟩=>⟨by rw [<- r.length];exact z,?_⟩)
 have hf:H1 s1.heap.objs.size=none:=I1.hok.fresh (Nat.le_refl _)
 refine ⟨.ref s1.heap.objs.size,upd H1 s1.heap.objs.size (.tup xs),I1.laid (t':=s1.toks) (fun b u e=>Heap.get?_push_of_some _ e) (Nat.le_refl _) ?_,rfl,q _ hf⟩
 exact ⟨z,us,r,⟨_,Heap.get?_push_size _ rfl,rfl,_,rfl⟩⟩
theorem ydA (h:PA X es t):PE X (.List es pos) (znO t):=by
 intro pins s σ H Q I hq
 refine wpAny_List_spliced (xQ (h pos pins s σ H _ I hq) fun us s1 ⟨xs,H1,I1,r,z,q⟩=>⟨by rw [<- r.length];exact z,?_⟩)
 have hf:H1 s1.heap.objs.size=none:=I1.hok.fresh (Nat.le_refl _)
 refine ⟨.ref s1.heap.objs.size,upd H1 s1.heap.objs.size (.lst xs),I1.laid (t':=s1.toks) (fun b u e=>Heap.get?_push_of_some _ e) (Nat.le_refl _) ?_,rfl,q _ hf⟩
 exact ⟨z,us,0,r,Heap.get?_push_size _ rfl⟩
end
abbrev Sp:=List V->Hp->VK->XK->Prop
abbrev CXT:=List Env->Hp->Shared->XK->Value->Shared->Prop
structure Env0 (P:Program) (w:World) (K:PySem.W.Frag) (mg:Str->Option Value) (base:Heap) (A:Around) (outer:List Env) (s:Shared) (H:Hp):Prop where
 frames:A.frames=some outer
 mod:Mod K mg base
 bs:∀ b o,base.get? b=some o->s.heap.get? b=some o/\H b=none
 bsz:base.objs.size<=s.heap.objs.size
 funs:s.heap.FunFrames base outer
 frf:∀ b∈frs outer,H b=none
 hok:HOk P w H s.heap
 bare:AllBare s.gens
def CE (outer:List Env) (P:Program) (w:World) (H:Hp) (s:Shared) (Q:VK) (u:Value) (s':Shared):Prop :=
 ∃ v H',s'.os=s.os/\AllBare s'.gens/\Un (frs outer) [] H H' s.heap s'.heap/\HOk P w H' s'.heap/\RelV v u/\Q v H'
def CR (CX:CXT) (outer:List Env) (P:Program) (w:World) (H:Hp) (s:Shared) (Q:VK) (E:XK) (r:Result) (s':Shared):Prop :=
 match r with
 | .ok (.ret u)=>CE outer P w H s Q u s'
 | .ok _=>False
 | .error e=>CX outer H s E e s'
structure FnOk (P:Program) (w:World) (K:PySem.W.Frag) (mg:Str->Option Value) (base:Heap) (CX:CXT) (k:Nat) (f:Addr) (fd:FuncData) (ps:List Str) (sp:Sp):Prop where
 len:∀ vs H Q E,sp vs H Q E->vs.length=ps.length
 run:∀ (A:Around) (outer:List Env) (s:Shared) (H:Hp) (args:Args) (us:List Value) (vs:List V) (Q:VK) (E:XK),Room k A->Env0 P w K mg base A outer s H->BindsTo s fd args (ps.zip us)->Vals vs us->sp vs H Q E ->
  codeAny (model P w) A (.call (.ref f) args) (CR CX outer P w H s Q E) s
section
variable {X:Cx} {pins:List (Addr × Obj)} {σ:St} {H:Hp} {s s':Shared}
theorem Inv.env0 (I:Inv X pins σ H s):Env0 X.prog X.w X.K X.mg X.base X.A X.stack s H :=
 ⟨I.ok.frames,I.ok.mod,I.bs,Nat.le_trans I.ok.bsz I.sz,I.stack,I.stkFree,I.hok,I.bare⟩
theorem Inv.after {Q:VK} {u:Value} (I:Inv X pins σ H s) (h:CE X.stack X.prog X.w H s Q u s'):EP X pins σ Q u s':=by
 obtain ⟨v,H',os,bare,un,hok,r,q⟩:=h
 obtain ⟨hh,g,d,t,os'⟩:=s'
 obtain rfl:os'=s.os:=os
 exact ⟨v,H',I.call (h':=hh) (g':=g) (d':=d) (t':=t) (ch:=[]) un hok bare (fun b z=>absurd z (by simp)),r,q⟩
end
def yY (sp:Sp) (dvs:List V) (E:XK) (t:TA):TE:=fun σ H Q=>t σ H fun vs H1=>sp (vs++dvs) H1 Q E
def Binds (K:PySem.W.Frag) (fd:FuncData) (ps:List Str) (ds:List Value):Prop :=
 ∀ (s:Shared) (us:List Value),K.In s.heap->(us++ds).length=ps.length->BindsTo s fd ⟨us,[]⟩ (ps.zip (us++ds))
theorem Binds.all {K:PySem.W.Frag} {fd:FuncData} {ps:List Str} (h:∀ us:List Value,us.length=ps.length->bindArgs fd ⟨us,[]⟩=pure (ps.zip us)):Binds K fd ps []:=fun s us _ hl=>by
 rw [List.append_nil] at hl ⊢
 exact .of_eq (h us hl)
def tN (CX:CXT) (X:Cx) (E:XK):Prop:=∀ (pins:List (Addr × Obj)) (σ:St) (H:Hp) (s:Shared) (e:Value) (s':Shared),Inv X pins σ H s->CX X.stack H s E e s'->X.xe e s'
section
variable {X:Cx} {CX:CXT} {k:Nat} {f C:Addr} {fd:FuncData} {ps:List Str} {sp:Sp} {dvs:List V} {ds:List Value} {E:XK} {x m:Str} {p pos apos:Pos} {e o:Expr} {es:List Expr} {ta:TE} {t:TA}
theorem zoS {pins:List (Addr × Obj)} {σ:St} {H:Hp} {s:Shared} {Q:VK} {us:List Value} {vs:List V} (F:FnOk X.prog X.w X.K X.mg X.base CX k f fd ps sp) (hr:Room k X.A) (hb:Binds X.K fd ps ds) (hd:Vals dvs ds) (hx:tN CX X E)
    (I:Inv X pins σ H s) (r:Vals vs us) (h:sp (vs++dvs) H Q E):wpAny (model X.prog X.w) X.A (call (.ref f) us) (EP X pins σ Q) X.xe s:=by
  have r2:Vals (vs++dvs) (us++ds):=r.append hd
  have hl:(us++ds).length=ps.length:=by rw [<- r2.length];exact F.len _ _ _ _ h
  refine wpAny_call (codeAny_mono (F.run X.A X.stack s H ⟨us,[]⟩ (us++ds) (vs++dvs) Q E hr I.env0 (hb s us I.kIn hl) r2 h) fun r s' hq=>?_)
  cases r with
  | error e=>exact hx pins σ H s e s' I hq
  | ok fl =>
    cases fl with
    | ret u=>exact I.after hq
    | next=>exact False.elim hq
    | brk=>exact False.elim hq
    | cont=>exact False.elim hq
theorem zyO (F:FnOk X.prog X.w X.K X.mg X.base CX k f fd ps sp) (hr:Room k X.A) (hg:Gl X x) (hm:X.mg x=some (.ref f)) (hk:PySem.W.keepIn X.K (.ref f)=true) (hb:Binds X.K fd ps ds) (hd:Vals dvs ds) (hx:tN CX X E)
  (ha:PA X (e::es) t) (hdb:(x == ("__debug__" : Str))=false:=by decide) (he:starEach (e::es) X.env=(false,eval e X.env)::starEach es X.env:=by rfl) (hpl:(backTo pos (starEach es X.env)).any (·.1)=false:=by rfl) :
  PE X (.Call (.Name x p) (e::es) [] pos) (yY sp dvs E t):=by
 intro pins s σ H Q I h
 refine wpAny_Call_Name_kw (zdA I hg hm ?_ hdb)
 refine PySem.W.callWith_K (h₀:=X.base) I.ok.mod.kin hk (xQ (ha pos pins s σ H _ I h) fun us s1 ⟨vs,H1,I1,r,q⟩=>⟨I1.kIn,?_⟩) he hpl
 exact zoS F hr hb hd hx I1 r q
theorem zpD (F:FnOk X.prog X.w X.K X.mg X.base CX k f fd ps sp) (hr:Room k X.A) (hg:Gl X x) (hm:X.mg x=some (.ref f)) (hk:PySem.W.keepIn X.K (.ref f)=true) (hb:Binds X.K fd ps ds) (hd:Vals dvs ds) (hx:tN CX X E)
  (hdb:(x == ("__debug__" : Str))=false:=by decide):PE X (.Call (.Name x p) [] [] pos) (yY sp dvs E vJ):=by
 intro pins s σ H Q I h
 refine wpAny_Call_Name_kw (zdA I hg hm ?_ hdb)
 exact PySem.W.callWith_K0 I.kIn hk (zoS (us:=[]) F hr hb hd hx I .nil h)
end
section
variable {X:Cx} {CX:CXT} {k:Nat} {f C:Addr} {fd:FuncData} {ps:List Str} {sp:Sp} {E:XK} {x m:Str} {p pos apos:Pos} {e o:Expr} {es:List Expr} {te ta:TE} {t tk:TA} {nm:Option Str}
variable {g:List Value->List Value->List Value}
end
structure FnScope (N P:List Str) (sc:Scope):Prop where
 kind:sc.kind = .function
 co:sc.isCoroutine=false
 gen:sc.isGenerator=false
 nd:N.Nodup
 pre:N.take P.length=P
 par:∀ x∈P,sc.names.lookup x=some .local\/sc.names.lookup x=some .cell
 nofree:∀ y∈sc.names,y.2 ≠ .free
theorem fsK {N P:List Str} {sc:Scope} (kind:sc.kind = .function:=by rfl) (co:sc.isCoroutine=false:=by rfl) (gen:sc.isGenerator=false:=by rfl) (nd:N.Nodup:=by decide +kernel) (pre:N.take P.length=P:=by rfl) (par:∀ x∈P,sc.names.lookup x=some .local\/sc.names.lookup x=some .cell:=by decide +kernel) (nofree:∀ y∈sc.names,y.2 ≠ .free:=by decide +kernel):FnScope N P sc:=⟨kind,co,gen,nd,pre,par,nofree⟩
theorem zcH {kindOf:Str->Option NameKind} {x:Str}:∀ {binds:List (Str × Value)} {m:Str->Option Value},(∀ v,(x,v) ∉ binds)->bindL kindOf binds m x=m x
  | [],_,_=>rfl
  | (n,v)::r,m,h=>by
    unfold bindL
    rw [zcH fun w hw=>h w (List.mem_cons_of_mem _ hw)]
    split
    . have:x≠n:=by rintro rfl;exact h v List.mem_cons_self
      simp [this]
    . rfl
theorem zbQ {kindOf:Str->Option NameKind} {x:Str}:∀ {binds:List (Str × Value)} {m:Str->Option Value},(∀ v,(x,v) ∉ binds)->bindC kindOf binds m x=m x
  | [],_,_=>rfl
  | (n,v)::r,m,h=>by
    unfold bindC
    rw [zbQ fun w hw=>h w (List.mem_cons_of_mem _ hw)]
    split
    . rfl
    . have:x≠n:=by rintro rfl;exact h v List.mem_cons_self
      simp [this]
theorem zbG {kindOf:Str->Option NameKind} {x:Str} {v:Value}:∀ {P:List Str} {vs:List Value} {i:Nat} {m:Str->Option Value},P.Nodup->P[i]?=some x->vs[i]?=some v->kindOf x=some .local ->
    bindL kindOf (P.zip vs) m x=some v
  | [],_,_,_,_,h,_,_=>by simp at h
  | _::_,[],_,_,_,_,h,_=>by simp at h
  | p::P,w::vs,0,m,nd,h1,h2,hk=>by
    simp at h1 h2;subst h1;subst h2
    show bindL kindOf ((p,w)::P.zip vs) m p=_
    unfold bindL
    rw [zcH fun v hv=>(List.nodup_cons.mp nd).1 (List.of_mem_zip hv).1,if_pos hk]
    simp
  | p::P,w::vs,i+1,m,nd,h1,h2,hk=>by
    show bindL kindOf ((p,w)::P.zip vs) m x=_
    unfold bindL
    exact zbG (i:=i) (List.nodup_cons.mp nd).2 (by simpa using h1) (by simpa using h2) hk
theorem zbM {kindOf:Str->Option NameKind} {x:Str} {v:Value}:∀ {P:List Str} {vs:List Value} {i:Nat} {m:Str->Option Value},P.Nodup->P[i]?=some x->vs[i]?=some v->kindOf x≠some .local ->
    bindC kindOf (P.zip vs) m x=some v
  | [],_,_,_,_,h,_,_=>by simp at h
  | _::_,[],_,_,_,_,h,_=>by simp at h
  | p::P,w::vs,0,m,nd,h1,h2,hk=>by
    simp at h1 h2;subst h1;subst h2
    show bindC kindOf ((p,w)::P.zip vs) m p=_
    unfold bindC
    rw [zbQ fun v hv=>(List.nodup_cons.mp nd).1 (List.of_mem_zip hv).1,if_neg hk]
    simp
  | p::P,w::vs,i+1,m,nd,h1,h2,hk=>by
    show bindC kindOf ((p,w)::P.zip vs) m x=_
    unfold bindC
    exact zbM (i:=i) (List.nodup_cons.mp nd).2 (by simpa using h1) (by simpa using h2) hk
def start (N:List Str) (vs:List V):St:=vs.map some++List.replicate (N.length - vs.length) none
def zaN (CX:CXT) (P:Program) (w:World) (K:PySem.W.Frag) (mg:Str->Option Value) (base:Heap) (N:List Str) (qual:Str) (scope:Scope) (f:Addr) (cd:Value) (A:Around) (outer:List Env) (s:Shared) (H:Hp) (E:XK):Cx where
 prog:=P
 w:=w
 K:=K
 mg:=mg
 base:=base
 A:=A.deeper (envOfC qual scope s.heap.objs.size f cd)
 N:=N
 s₀:=s
 H₀:=H
 env:=envOfC qual scope s.heap.objs.size f cd
 outer:=outer
 stack:=envOfC qual scope s.heap.objs.size f cd::outer
 ex:=[]
 calm:=true
 fn:=fun _=>true
 pn:=[]
 xe:=fun e s'=>wpAny (model P w) (A.deeper (envOfC qual scope s.heap.objs.size f cd)) (leaving (envOfC qual scope s.heap.objs.size f cd) e) (fun _ s''=>CX outer H s E e s'') (fun e' s''=>CX outer H s E e' s'') s'
theorem zfD {sc:Scope} {n:Nat} {x:Str} (h:sc.names.lookup x=some .cell):∃ c,(cellsFrom n sc.names []).lookup x=some c:=by
 have q:=PySem.W.cellsFrom_some sc.names n [] (.inl h)
 exact Option.isSome_iff_exists.mp q
theorem zlW {CX:CXT} {P:Program} {w:World} {K:PySem.W.Frag} {mg:Str->Option Value} {base:Heap} {N ps:List Str} {qual:Str} {scope:Scope} {f:Addr} {cd:Value} {A:Around} {outer:List Env} {s s1:Shared} {H:Hp} {E:XK} {us:List Value} {vs:List V}
  (S:FnScope N ps scope) (hd:A.handled=none) (e0:Env0 P w K mg base A outer s H) (hl:vs.length=ps.length) (r:Vals vs us)
  (x:InCallC s s.heap.objs.size (bindL (envOfC qual scope s.heap.objs.size f cd).kindOf (ps.zip us) fun _=>none) (cellsFrom (s.heap.objs.size+1) scope.names []) (bindC (envOfC qual scope s.heap.objs.size f cd).kindOf (ps.zip us) fun _=>none) s1) :
  Inv (zaN CX P w K mg base N qual scope f cd A outer s H E) [] (start N vs) H s1:=by
 have hpl:ps.length<=N.length:=by have:=congrArg List.length S.pre;rw [List.length_take] at this;omega
 obtain ⟨h1,tk,rfl,hk⟩:=x.done
 have noA:∀ b:Addr,b ∉ (zaN CX P w K mg base N qual scope f cd A outer s H E).ex:=fun b z=>absurd (show b∈([]:List Addr) from z) (by simp)
 refine ⟨⟨e0.mod,S.kind,rfl,rfl,Nat.le_refl _,fun y z c h1 h2=>?_,fun y hy=>?_,fun y c _ h=>?_,fun _=>hd,Around.frames_deeper e0.frames,.inr ⟨rfl,rfl⟩,fun b z=>absurd z (noA b),e0.bs,e0.bsz,fun b _ _=>noA b,fun b z=>absurd z (noA b),e0.funs,e0.frf⟩,
  rfl,e0.bare,Un.kept hk,⟨_,x.toInCall.ns,fun i y v h1 h2 h3=>?_⟩,fun y c h=>⟨_,x.cell y c h⟩,e0.hok.fresh (Nat.le_refl _),fun y c h=>?_,fun p hp=>absurd (show p∈([]:List (Addr × Obj)) from hp) (by simp),e0.hok.kept hk,?_⟩
 ·exact name_of_addr x.apart (PySem.mem_of_lookup h1) (PySem.mem_of_lookup h2)
 ·have hy:scope.names.lookup y=some .cell\/scope.names.lookup y=some .free:=hy
  rcases hy with hy|hy
  ·exact zfD hy
  ·exact absurd rfl (S.nofree _ (PySem.mem_of_lookup hy))
 ·exact Nat.le_of_lt (x.above y c (PySem.mem_of_lookup h))
 ·have hi:i<vs.length:=by
   unfold start at h2
   by_cases hi:i<vs.length
   ·exact hi
   ·rw [List.getElem?_append_right (by simpa using hi)] at h2
    rw [List.getElem?_replicate] at h2
    split at h2 <;> cases h2
  have ha:vs[i]?=some v:=by
   unfold start at h2
   rw [List.getElem?_append_left (by simpa using hi),List.getElem?_map] at h2
   cases e:vs[i]? with
   | none=>rw [e] at h2;cases h2
   | some a=>rw [e] at h2;cases h2;rfl
  obtain ⟨u,hu,rv⟩:=r.get ha
  have hp:ps[i]?=some y:=by
   rw [<- S.pre,List.getElem?_take_of_lt (by omega)];exact h1
  have ndP:ps.Nodup:=by rw [<- S.pre];exact S.nd.sublist (List.take_sublist _ _)
  refine ⟨u,rv,?_⟩
  rcases S.par y (List.mem_of_getElem? hp) with k|k
  ·exact .inl ⟨k,zbG ndP hp hu k⟩
  ·obtain ⟨c,e⟩:=zfD (n:=s.heap.objs.size+1) k
   refine .inr ⟨.inl k,c,e,?_⟩
   have q:=x.cell y c e
   rw [zbM ndP hp hu (by show scope.names.lookup y≠_;rw [k];decide)] at q
   exact q
 ·exact e0.hok.fresh (Nat.le_of_lt (x.above y c (PySem.mem_of_lookup h)))
 ·unfold start
  show _=N.length
  rw [List.length_append,List.length_map,List.length_replicate]
  omega
theorem yhM {CX:CXT} {P:Program} {w:World} {K:PySem.W.Frag} {mg:Str->Option Value} {base:Heap} {k:Nat} {f:Addr} {name qual:Str} {params:Arguments} {body:List Stmt} {scope:Scope} {dV kV doc pm cdv ct oc:Value} {an od:Option Addr}
    {osl:Array (Option Value)} {N ps:List Str} {sp:Sp} (lk:K.lookup f=some ⟨oc,od,.func (PySem.W.fnOf name qual params body scope dV kV doc pm an cdv ct),osl⟩) (hcd:PySem.W.codeIn K cdv qual=true) (S:FnScope N ps scope)
    (len:∀ vs H Q E,sp vs H Q E->vs.length=ps.length)
    (hbody:∀ (A:Around) (outer:List Env) (s:Shared) (H:Hp) (vs:List V) (Q:VK) (E:XK),Room k (A.deeper (envOfC qual scope s.heap.objs.size f cdv))->sp vs H Q E ->
      ∃ t,PSs (zaN CX P w K mg base N qual scope f cdv A outer s H E) body t/\t { nx:=fun _ H'=>Q .non H',rt:=Q } (start N vs) H) :
    FnOk P w K mg base CX (k+1) f (PySem.W.fnOf name qual params body scope dV kV doc pm an cdv ct) ps sp:=by
  refine ⟨len,fun A outer s H args us vs Q E hr e0 hb r hsp=>?_⟩
  have hl:=len _ _ _ _ hsp
  have KX:K.In s.heap:=e0.mod.kin.keeps fun b o e=>(e0.bs b o e).1
  have lim:s.heap.NoLimit:=e0.mod.nolimit.keeps fun b o e=>(e0.bs b o e).1
  have hkind:∀ y∈ps.zip us,scope.names.lookup y.1=some .local\/(scope.names.lookup y.1=some .cell/\((cellsFrom (s.heap.objs.size+1) scope.names []).lookup y.1).isSome=true):=fun ⟨n,v⟩ hy=>by
    rcases S.par n (List.of_mem_zip hy).1 with q|q
    . exact .inl q
    . exact .inr ⟨q,PySem.W.cellsFrom_some _ _ _ (.inl q)⟩
  refine codeAny_call_function hr.depth (KX _ _ lk) rfl S.co S.gen rfl (PySem.W.codeRec_of KX hcd) (hb _ _ _ _ ?_)
  refine wpAny_newFunctionEnv_cells S.kind hkind fun env he s1 x=>?_
  subst he
  refine ⟨lim.keeps x.toInCall.keep,codeAny_func ?_⟩
  obtain ⟨t,ht,hq⟩:=hbody A outer s H vs Q E (hr.deeper _) hsp
  have I:Inv (zaN CX P w K mg base N qual scope f cdv A outer s H E) [] (start N vs) H s1:=zlW S hr.hd e0 hl r x
  refine wpAny_mono (ht [] s1 (start N vs) H _ I hq) (fun fl s' hs=>?_) fun e s' hs=>hs
  have fin:∀ {σ':St} {H':Hp} {v:V} {u:Value},Inv (zaN CX P w K mg base N qual scope f cdv A outer s H E) [] σ' H' s'->RelV v u->Q v H'->CE outer P w H s Q u s' :=
    fun {σ' H' v u} J rv q=>⟨v,H',J.os,J.bare,J.base,J.hok,rv,q⟩
  cases fl with
  | ret u =>
    obtain ⟨v,σ',H',J,rv,q⟩:=hs
    exact fin J rv q
  | next =>
    obtain ⟨σ',H',J,q⟩:=hs
    exact fin (v:=V.non) (u:=Value.none) J rfl q
  | brk =>
    obtain ⟨_,_,_,q⟩:=hs
    exact False.elim q
  | cont =>
    obtain ⟨_,_,_,q⟩:=hs
    exact False.elim q
end L2
namespace L2
open PySem PySem.Spec PyProof.Rows
section
variable {X:Cx} {x:Str} {p pos:Pos} {e:Expr} {es:List Expr} {t:TA} {id T:String} {r:List V->Hp->VK->Prop}
def tCB (r:List V->Hp->VK->Prop) (t:TA):TE:=fun σ H Q=>t σ H fun vs H1=>r vs H1 Q
theorem zpU (hc:wZ X (.builtin id) r) (hg:Gl X x) (hm:X.mg x=none) (hv:bootBuiltins x=some (.builtin id)) (ha:PA X (e::es) t) (hn:x ≠ "__name__" := by decide) (hdb:(x == ("__debug__" : Str))=false:=by decide)
  (he:starEach (e::es) X.env=(false,eval e X.env)::starEach es X.env:=by rfl) (hpl:(backTo pos (starEach es X.env)).any (·.1)=false:=by rfl):PE X (.Call (.Name x p) (e::es) [] pos) (tCB r t):=by
 intro pins s σ H Q I h
 refine wpAny_Call_Name_kw (rX I hg hm hv ?_ hn hdb)
 exact PyProof.Rows.callWith_builtin1 (xQ (ha pos pins s σ H _ I h) fun us s1 ⟨vs,H1,I1,r1,q1⟩=>hc pins s1 σ H1 vs us Q I1 r1 q1) he hpl
theorem zmT (hc:wZ X (.type T) r) (hg:Gl X x) (hm:X.mg x=none) (hv:bootBuiltins x=some (.type T)) (ha:PA X (e::es) t) (hn:x ≠ "__name__" := by decide) (hdb:(x == ("__debug__" : Str))=false:=by decide)
  (he:starEach (e::es) X.env=(false,eval e X.env)::starEach es X.env:=by rfl) (hpl:(backTo pos (starEach es X.env)).any (·.1)=false:=by rfl):PE X (.Call (.Name x p) (e::es) [] pos) (tCB r t):=by
 intro pins s σ H Q I h
 refine wpAny_Call_Name_kw (rX I hg hm hv ?_ hn hdb)
 exact PyProof.Rows.callWith_type1 (xQ (ha pos pins s σ H _ I h) fun us s1 ⟨vs,H1,I1,r1,q1⟩=>hc pins s1 σ H1 vs us Q I1 r1 q1) he hpl
end
end L2
namespace HT
open PySem PyProof.Rows
def lexLt:List Int->List Int->Bool
 | [],[]=>false
 | [],_::_=>true
 | _::_,[]=>false
 | x::xs,y::ys=>if x=y then lexLt xs ys else decide (x<y)
theorem lexLt_cons (x y:Int) (xs ys:List Int):lexLt (x::xs) (y::ys)=if x=y then lexLt xs ys else decide (x<y):=rfl
theorem zaW:lexLt [] []=false:=rfl
theorem rC (y:Int) (ys:List Int):lexLt [] (y::ys)=true:=rfl
theorem zaQ (x:Int) (xs:List Int):lexLt (x::xs) []=false:=rfl
theorem zqR (A:Around) (s:Shared) (a:Int) (t:Tok) (c:Int) (u:Tok):∃ e,SeqAt.EqAt A s (.int a t) (.int c u) e/\(e=true ↔ a=c) :=
 ⟨(a == c),SeqAt.EqAt.int_int a t c u,by simp⟩
theorem ztS (A:Around) (s:Shared) (a:Int) (t:Tok) (c:Int) (u:Tok) (prog:Program) (w:World) (E:Value->Shared->Prop) (Q:Value->Shared->Prop) (h:Q (.bool (decide (a<c))) s) :
  wpAny (model prog w) A (richCompare .Lt (.int a t) (.int c u)) Q E s :=
 (PyProof.Rows.lt_int h:wpAny (model prog w) A (compareOp .Lt (.int a t) (.int c u)) Q E s)
section
open PySem.SeqAt
open PySem.AutoSeq1 (wpAny_loadPart')
open PySem.MeetsSeq PySem.MeetsSeq2 PySem.MeetsSeq3
theorem zbB (l b:Addr) (items items2:Array Value) (n n2:Nat) (dd dd2:Option Addr) (sl sl2:Array (Option Value)) (ns ms:List Int) (hi:IntsAre items.toList ns) (hj:IntsAre items2.toList ms) :
    Meets (Builtin.«tuple.__lt__» ⟨[.ref l,.ref b],[]⟩)
      (fun _ R s=>s.heap.get? l=some { cls:=.type "tuple",dict:=dd,data:=.seq items n,slots:=sl }/\s.heap.get? b=some { cls:=.type "tuple",dict:=dd2,data:=.seq items2 n2,slots:=sl2 } /\
        R (.ok (.ret (.bool (lexLt ns ms)))) s) :=
  .of_wp fun prog w A R s h=>by
    obtain ⟨hp,g,d,tk,os⟩:=s;obtain ⟨hl,hb,h⟩:=h
    have f2:=AutoSeq1.sub_tuple_tuple
    have z1:items.size=ns.length:=by rw [<- hi.length];simp
    have z2:items2.size=ms.length:=by rw [<- hj.length];simp
    wp_walk using wpAny_loadPart' hl,wpAny_loadPart' hb,wpAny_forIn_list _ (fun rest b s'=>b.1=none/\s'=⟨hp,g,d,tk,os⟩/\∃ (vs ws:List Value) (ns' ms':List Int),rest=vs.zip ws /\
      IntsAre vs ns'/\IntsAre ws ms'/\ns'.length+items2.size=ms'.length+items.size/\R (.ok (.ret (.bool (lexLt ns' ms')))) ⟨hp,g,d,tk,os⟩) _
    case turn =>
      rintro ⟨y,x⟩ rest b s' ⟨hb',rfl,vs,ws,ns',ms',hz,hvi,hwi,hlen,hR⟩
      cases hvi with
      | nil=>rw [List.zip_nil_left] at hz;cases hz
      | cons a t hvi' =>
        cases hwi with
        | nil=>rw [List.zip_nil_right] at hz;cases hz
        | cons c u hwi' =>
          rw [List.zip_cons_cons] at hz
          injection hz with hyx hrest
          injection hyx with hy hx
          subst hy hx
          rw [lexLt_cons] at hR
          simp only [List.length_cons] at hlen
          obtain ⟨e,he,hiff⟩:=zqR A.in1 ⟨hp,g,d,tk,os⟩ a t c u
          refine wpAny_bind (he prog w _ _ ?_)
          cases e with
          | true =>
            rw [if_pos (hiff.mp rfl)] at hR
            wp_walk
            exact ⟨rfl,rfl,_,_,_,_,hrest,hvi',hwi',by omega,hR⟩
          | false =>
            rw [if_neg (fun q=>absurd (hiff.mpr q) Bool.false_ne_true)] at hR
            have hri:=ztS A.in1 ⟨hp,g,d,tk,os⟩ a t c u prog w
            wp_walk using hri
            exact ⟨_,rfl,by simpa using hR⟩
    case fin =>
      rintro ⟨b1,b2⟩ s' ⟨hb',rfl,vs,ws,ns',ms',hz,hvi,hwi,hlen,hR⟩
      simp only at hb'
      subst hb'
      have hv:lexLt ns' ms'=decide (items.size<items2.size):=by
        cases hvi with
        | nil =>
          cases hwi with
          | nil =>
            simp only [List.length_nil] at hlen
            rw [zaW]
            exact (decide_eq_false (by omega)).symm
          | cons c u hw =>
            simp only [List.length_nil,List.length_cons] at hlen
            rw [rC]
            exact (decide_eq_true (by omega)).symm
        | cons a t hv =>
          cases hwi with
          | nil =>
            simp only [List.length_nil,List.length_cons] at hlen
            rw [zaQ]
            exact (decide_eq_false (by omega)).symm
          | cons c u hw =>
            rw [List.zip_cons_cons] at hz
            cases hz
      rw [hv] at hR
      wp_walk
      exact ⟨_,rfl,by simpa [Builtin.Tuple.tupleCompareSizes] using hR⟩
    case h =>
      exact ⟨rfl,rfl,items.toList,items2.toList,ns,ms,rfl,hi,hj,by omega,h⟩
end
section
variable {prog:Program} {w:World} {A:Around} {E:Value->Shared->Prop} {s:Shared}
theorem lt_tupInts {l b:Addr} {items items2:Array Value} {ns ms:List Int} {Q:Value->Shared->Prop} (hl:IsTup s.heap l items) (hb:IsTup s.heap b items2) (hi:IntsAre items.toList ns) (hj:IntsAre items2.toList ms)
  (hu:A.units<cLine) (h:Q (.bool (lexLt ns ms)) s):wpAny (model prog w) A (compareOp .Lt (.ref l) (.ref b)) Q E s:=by
 obtain ⟨⟨cls,dd,data,sl⟩,ho,hc,n,hd⟩:=id hl
 obtain ⟨⟨cls2,dd2,data2,sl2⟩,ho2,hc2,n2,hd2⟩:=id hb
 simp only at hc hd hc2 hd2
 subst hc hd hc2 hd2
 exact richCompare_meets_room (op:=.Lt) ⟨_,ho,rfl⟩ ⟨_,ho2,rfl⟩ PySem.F.slot_tuple_lt PySem.F.entry_tuple_lt (PySem.F.args_tuple_lt_2 _ _) (zbB l b items items2 n n2 dd dd2 sl sl2 ns ms hi hj)
  ⟨ho,ho2,show Value.bool (lexLt ns ms)≠Value.notImplemented/\Q (.bool (lexLt ns ms)) s from ⟨(fun x=>nomatch x),h⟩⟩ hu
theorem cat_tup {t b:Addr} {vs ws:List Value} {Q:Value->Shared->Prop} (ht:IsTup s.heap t vs.toArray) (hb:IsTup s.heap b ws.toArray) (hv:vs≠[])
  (h1:ws=[]->Q (.ref t) s) (h2:ws≠[]->Q (.ref s.heap.objs.size) { s with heap:=s.heap.push { cls:=.type "tuple",data:=.seq (vs++ws).toArray } })
  (hsz:vs.length+ws.length<=sizeLine):wpAny (model prog w) A (binaryOp .Add (.ref t) (.ref b)) Q E s:=by
 obtain ⟨⟨cls,dd,data,sl⟩,ho,hc,n,hd⟩:=id ht
 obtain ⟨⟨cls2,dd2,data2,sl2⟩,ho2,hc2,n2,hd2⟩:=id hb
 simp only at hc hd hc2 hd2
 subst hc hd hc2 hd2
 have e:vs.toArray++ws.toArray=(vs++ws).toArray:=by simp
 by_cases hw:ws=[]
 ·exact concat_meets ⟨_,ho,rfl⟩ ⟨_,ho2,rfl⟩ noFill_tuple_add seq_tuple_add PySem.F.slot_tuple_add PySem.F.entry_tuple_add (PySem.F.args_tuple_add_2 _ _)
   (tuple_addW1 t b vs.toArray ws.toArray n n2 dd dd2 sl sl2 (by simpa using hv) (by simp [hw])) ⟨ho,ho2,h1 hw⟩
 ·refine concat_meets ⟨_,ho,rfl⟩ ⟨_,ho2,rfl⟩ noFill_tuple_add seq_tuple_add PySem.F.slot_tuple_add PySem.F.entry_tuple_add (PySem.F.args_tuple_add_2 _ _)
   (tuple_addW2 t b vs.toArray ws.toArray n n2 dd dd2 sl sl2 (by simpa using hv) (by simpa using hw) (by rw [List.size_toArray,List.size_toArray];exact hsz)) ⟨ho,ho2,?_⟩
  rw [e]
  exact h2 hw
def sIx (n d:Nat):Option Int->Nat
 | none=>d
 | some v=>if v<0 then (v+(n:Int)).toNat else min v.toNat n
theorem sIx_none (n d:Nat):sIx n d none=d:=rfl
theorem sIx_nat (n d k:Nat):sIx n d (some (k:Int))=min k n:=by
 show (if (k:Int)<0 then ((k:Int)+(n:Int)).toNat else min (k:Int).toNat n)=min k n
 rw [if_neg (by omega),Int.toNat_natCast]
theorem yeB (n d:Nat) (hd:d<=n) (o:Option Int):sIx n d o<=n:=by
  cases o with
  | none=>exact hd
  | some v =>
    show (if v<0 then (v+(n:Int)).toNat else min v.toNat n)<=n
    by_cases hv:v<0
    . rw [if_pos hv];omega
    . rw [if_neg hv];exact Nat.min_le_right _ _
theorem zaG (a b:Nat):((min a b:Nat):Int)=min (a:Int) (b:Int):=by
 rcases Nat.le_total a b with h|h
 ·rw [Nat.min_eq_left h,Int.min_eq_left (Int.ofNat_le.mpr h)]
 ·rw [Nat.min_eq_right h,Int.min_eq_right (Int.ofNat_le.mpr h)]
theorem clip_two (i:Int) (n d:Nat):max 0 (min (if i<0 then i+(n:Int) else i) (n:Int))=((HT.sIx n d (some i):Nat):Int):=by
 show _=(((if i<0 then (i+(n:Int)).toNat else min i.toNat n):Nat):Int)
 by_cases hv:i<0
 ·rw [if_pos hv,if_pos hv,Int.toNat_eq_max,Int.min_eq_left (by omega),Int.max_comm]
 ·rw [if_neg hv,if_neg hv,zaG,Int.toNat_of_nonneg (Int.not_lt.mp hv),Int.max_eq_right]
  exact Int.le_min.mpr ⟨Int.not_lt.mp hv,Int.natCast_nonneg n⟩
theorem zjJ (v:Int) (n d:Nat):(if v<0 then max (v+(n:Int)) 0 else min v (n:Int))=((sIx n d (some v):Nat):Int):=by
 show (if v<0 then max (v+(n:Int)) 0 else min v (n:Int))=(((if v<0 then (v+(n:Int)).toNat else min v.toNat n):Nat):Int)
 by_cases hv:v<0
 ·rw [if_pos hv,if_pos hv,Int.toNat_eq_max]
 ·rw [if_neg hv,if_neg hv,zaG,Int.toNat_of_nonneg (Int.not_lt.mp hv)]
theorem ziD (lo hi:Option Int) (n:Nat):Builtin.Slice.sliceAdjust lo hi 1 (n:Int)=(((sIx n 0 lo:Nat):Int),((sIx n n hi:Nat):Int)):=by
 have h1:¬ ((1:Int)<0):=by omega
 unfold Builtin.Slice.sliceAdjust
 simp only [h1,if_false]
 refine Prod.ext ?_ ?_
 ·cases lo with
  | none=>rfl
  | some v=>exact zjJ v n 0
 ·cases hi with
  | none=>rfl
  | some v=>exact zjJ v n n
theorem zhJ (i j:Nat):Builtin.Slice.slicePlaces (i:Int) (j:Int) 1=j - i:=by
 unfold Builtin.Slice.slicePlaces
 have h1:(1:Int) > 0:=by omega
 simp only [h1,if_true,Int.ediv_one]
 split <;> omega
theorem rE {v:Value} {o:Option Int} {Q:Option Int->Shared->Prop} (p:IsPart v o) (h:Q o s):wpAny (model prog w) A (Builtin.Slice.slicePartIndex v) Q E s:=by
 cases p with
 | none=>exact slicePart_none h
 | int i t=>exact slicePart_int h
theorem sC {sl:Addr} {vl vu:Value} {lo hi:Option Int} {n:Nat} {Q:Int × Int × Nat->Shared->Prop} (hs:s.heap.IsSliceOf sl vl vu .none) (pl:IsPart vl lo) (pu:IsPart vu hi)
  (h:Q (((sIx n 0 lo:Nat):Int),1,sIx n n hi - sIx n 0 lo) s):wpAny (model prog w) A (Builtin.Slice.sliceApplied (.ref sl) (pure (n:Int))) Q E s:=by
 obtain ⟨os,hos,hcs,hds⟩:=id hs
 unfold Builtin.Slice.sliceApplied Builtin.Slice.sliceFields
 refine wpAny_bind (wpAny_bind (wpAny_field hos hds (x:=vl) rfl (wpAny_bind (wpAny_field hos hds (x:=vu) rfl (wpAny_bind (wpAny_field hos hds (x:=.none) rfl (wpAny_pure ?_)))))))
 refine wpAny_bind (slicePart_none ?_)
 show wpAny _ _ (if ((1:Int) == 0)=true then _ else _) _ _ s
 rw [if_neg (by decide)]
 refine wpAny_bind (rE pl (wpAny_bind (rE pu (wpAny_bind (wpAny_pure ?_)))))
 show wpAny _ _ (match Builtin.Slice.sliceAdjust lo hi 1 (n:Int) with|(lo,hi)=>pure (lo,(1:Int),Builtin.Slice.slicePlaces lo hi 1)) _ _ s
 rw [ziD lo hi n]
 show wpAny _ _ (pure (((sIx n 0 lo:Nat):Int),(1:Int),Builtin.Slice.slicePlaces ((sIx n 0 lo:Nat):Int) ((sIx n n hi:Nat):Int) 1)) _ _ s
 rw [zhJ]
 exact wpAny_pure h
theorem zrK (xs:Array Value) (i k:Nat):((List.range k).filterMap fun (m:Nat)=>xs[((i:Int)+(m:Int)*1).toNat]?).toArray=((xs.toList.drop i).take k).toArray:=by
 have e:(fun (m:Nat)=>xs[((i:Int)+(m:Int)*1).toNat]?)=fun m=>xs[i+m]?:=by
  funext m
  have:((i:Int)+(m:Int)*1).toNat=i+m:=by omega
  rw [this]
 rw [e]
 have:=pick_run xs i k
 rw [List.filterMap_map] at this
 have e2:((fun x=>xs[x]?) ∘ fun x=>i+x)=fun m=>xs[i+m]?:=rfl
 rw [e2] at this
 rw [this]
theorem getItem_tuple_cut {t sl:Addr} {items:Array Value} {vl vu:Value} {lo hi:Option Int} {Q:Value->Shared->Prop} (ht:IsTup s.heap t items) (hs:s.heap.IsSliceOf sl vl vu .none) (pl:IsPart vl lo) (pu:IsPart vu hi)
  (hw:¬ (sIx items.size 0 lo=0/\sIx items.size items.size hi=items.size))
  (h:Q (.ref s.heap.objs.size) { s with heap:=s.heap.push { cls:=.type "tuple",data:=.seq ((items.toList.drop (sIx items.size 0 lo)).take (sIx items.size items.size hi - sIx items.size 0 lo)).toArray } })
  (hsz:items.size<=sizeLine):wpAny (model prog w) A (getItem (.ref t) (.ref sl)) Q E s:=by
 have htake:sizeOk (.seq ((items.toList.drop (sIx items.size 0 lo)).take (sIx items.size items.size hi - sIx items.size 0 lo)).toArray):=by
  show ((items.toList.drop (sIx items.size 0 lo)).take (sIx items.size items.size hi - sIx items.size 0 lo)).toArray.size<=sizeLine
  rw [List.size_toArray,List.length_take,List.length_drop,Array.length_toList]
  omega
 have hj:sIx items.size items.size hi<=items.size:=yeB _ _ (Nat.le_refl _) hi
 obtain ⟨os,hos,hcs,hds⟩:=id hs
 have hTs:s.TypeIs (.ref sl) "slice" := ⟨os,hos,hcs⟩
 unfold getItem
 try with_reducible refine wpAny_holding ?_
 first|refine wpAny_bind (wpAny_pure ?_)|skip
 refine wpAny_bind (wpAny_sequenceKey ht.typeIs (by decide) ?_)
 refine wpAny_bind (wpAny_callSpecial?_slot (name:=Str.ofString "__getitem__") ht.typeIs PyProof.Rows.slot_tuple_getitem
  (wpAny_call_entry PyProof.Rows.slot_tuple_getitem ht.typeIs entry_tuple_getitem ?_ (args_tuple_getitem _ _)))
 show wpAny _ _ (Builtin.Tuple.tupleItemsOf (.ref t) >>= _) _ _ s
 refine wpAny_bind (tupleItemsOf_ ht ?_)
 refine wpAny_bind (wpAny_typeOf hTs ?_)
 rw [if_pos (by decide)]
 refine wpAny_bind (sC hs pl pu ?_)
 have hno:¬ ((((sIx items.size 0 lo:Nat):Int) == 0 && (1:Int) == 1 && (sIx items.size items.size hi - sIx items.size 0 lo) == items.size)=true):=by
  intro q
  rw [Bool.and_eq_true,Bool.and_eq_true] at q
  have q1:((sIx items.size 0 lo:Nat):Int)=0:=eq_of_beq q.1.1
  have q2:sIx items.size items.size hi - sIx items.size 0 lo=items.size:=eq_of_beq q.2
  exact hw ⟨by omega,by omega⟩
 show wpAny _ _ (if (((sIx items.size 0 lo:Nat):Int) == 0 && (1:Int) == 1 && (sIx items.size items.size hi - sIx items.size 0 lo) == items.size)=true then _ else _) _ _ s
 rw [if_neg hno,zrK]
 first
  | exact wpAny_bind (m:=Builtin.Tuple.tupleExact _) (wpAny_newObj_type (wpAny_pure ⟨_,rfl,wpAny_pure h⟩) htake)
  | exact wpAny_bind (m:=Builtin.Tuple.tupleExact _) (wpAny_newObj_type (wpAny_bind (wpAny_pure (wpAny_pure ⟨_,rfl,wpAny_pure h⟩))) htake)
  | exact wpAny_bind (wpAny_bind (m:=Builtin.Tuple.tupleExact _) (wpAny_newObj_type (wpAny_pure (wpAny_pure ⟨_,rfl,wpAny_pure h⟩)) htake))
  | exact wpAny_bind (wpAny_bind (m:=Builtin.Tuple.tupleExact _) (wpAny_newObj_type (wpAny_pure ⟨_,rfl,wpAny_pure h⟩) htake))
end
end HT
namespace L2
open PySem PySem.Spec PyProof.Rows
abbrev TO:=St->Hp->(Option Int->Hp->Prop)->Prop
def PO (X:Cx) (e:Option Expr) (t:TO):Prop :=
 ∀ (pins:List (Addr × Obj)) (s:Shared) (σ:St) (H:Hp) (Q:Option Int->Hp->Prop),Inv X pins σ H s->t σ H Q ->
  wpAny (model X.prog X.w) X.A (evalPart e X.env) (fun u s'=>∃ o H',Inv X pins σ H' s'/\IsPart u o/\Q o H') X.xe s
def zeH:TO:=fun _ H Q=>Q none H
def zqJ (t:TE):TO:=fun σ H Q=>t σ H fun x H1=>∃ i,x = .int i/\Q (some i) H1
theorem jF {ns:List Int}:∀ {us:List Value},Vals (ns.map V.int) us->IntsAre us ns:=by
  induction ns with
  | nil=>intro us r;rw [List.map_nil] at r;cases r;exact .nil
  | cons n ns ih =>
    intro us r
    rw [List.map_cons] at r
    cases r with
    | cons r1 r2 =>
      obtain ⟨t,e⟩:=r1
      subst e
      exact .cons n t (ih r2)
section
variable {X:Cx} {e:Expr} {te:TE} {lo hi:Option Expr} {tl th:TO} {pos p2:Pos}
theorem zwX:PO X none zeH:=by
 intro pins s σ H Q I h
 rw [evalPart_none]
 exact wpAny_pure ⟨none,H,I,.none,h⟩
theorem zwY (h:PE X e te):PO X (some e) (zqJ te):=by
 intro pins s σ H Q I hw
 rw [evalPart_some]
 refine xQ (h pins s σ H _ I hw) fun u s1 ⟨x,H1,I1,r1,q1⟩=>?_
 obtain ⟨i,rfl,q⟩:=q1
 obtain ⟨t,rfl⟩:=r1
 exact ⟨some i,H1,I1,.int i t,q⟩
def SlR (X:Cx) (r:V->Option Int->Option Int->Hp->VK->Prop):Prop :=
 ∀ (pins:List (Addr × Obj)) (s:Shared) (σ:St) (H:Hp) (x:V) (v vl vu:Value) (lo hi:Option Int) (sl:Addr) (Q:VK),Inv X pins σ H s->RelV x v->s.heap.IsSliceOf sl vl vu .none->IsPart vl lo->IsPart vu hi->r x lo hi H Q ->
  ∃ T id,typeLookup (.type T) "__getitem__" = pure (some (.builtin id))/\s.TypeIs v T/\wpAny (model X.prog X.w) X.A (getItem v (.ref sl)) (EP X pins σ Q) X.xe s
def tSl (r:V->Option Int->Option Int->Hp->VK->Prop) (te:TE) (tl th:TO):TE:=fun σ H Q=>te σ H fun x H1=>tl σ H1 fun l H2=>th σ H2 fun u H3=>r x l u H3 Q
theorem zsR {r:V->Option Int->Option Int->Hp->VK->Prop} (hr:SlR X r) (he:PE X e te) (hl:PO X lo tl) (hu:PO X hi th):PE X (.Subscript e (.Slice lo hi none p2) pos) (tSl r te tl th):=by
 intro pins s σ H Q I h
 refine Subscript_ (xQ (he pins s σ H _ I h) fun v s1 ⟨x,H1,I1,r1,q1⟩=>?_)
 refine wpAny_Slice (xQ (hl pins s1 σ H1 _ I1 q1) fun vl s2 ⟨l,H2,I2,pl,q2⟩=>xQ (hu pins s2 σ H2 _ I2 q2) fun vu s3 ⟨u,H3,I3,pu,q3⟩=>?_)
 rw [evalPart_none]
 refine wpAny_pure ?_
 have I4:Inv X pins σ H3 { s3 with heap:=s3.heap.push { cls:=.type "slice",data:=.fields #[vl,vu,.none] } }:=I3.kept (t':=s3.toks) fun b ob q=>Heap.get?_push_of_some _ q
 obtain ⟨T,id,hT,ht,hg⟩:=hr pins { s3 with heap:=s3.heap.push { cls:=.type "slice",data:=.fields #[vl,vu,.none] } } σ H3 x v vl vu l u s3.heap.objs.size Q I4 r1 (Heap.IsSliceOf.new ..) pl pu q3
 show wpAny (model X.prog X.w) X.A (subscriptTail e (.Slice lo hi none p2) v (.ref s3.heap.objs.size)) (EP X pins σ Q) X.xe { s3 with heap:=s3.heap.push { cls:=.type "slice",data:=.fields #[vl,vu,.none] } }
 exact tail_any (ops:=[.ref s3.heap.objs.size,v]) ht hT hg (by with_unfolding_all rfl)
def zaO (xs:List V) (lo hi:Option Int):List V:=(xs.drop (HT.sIx xs.length 0 lo)).take (HT.sIx xs.length xs.length hi - HT.sIx xs.length 0 lo)
theorem sI (xs:List V) (lo hi:Option Int):(zaO xs lo hi).length<=xs.length:=by
 unfold zaO
 rw [List.length_take,List.length_drop]
 omega
def yeU (K:PySem.W.Frag):V->Option Int->Option Int->Hp->VK->Prop:=fun x lo hi H Q=>∃ a xs,x = .ref a/\SqT K H a xs /\
 ¬ (HT.sIx xs.length 0 lo=0/\HT.sIx xs.length xs.length hi=xs.length)/\∀ p,H p=none->Q (.ref p) (upd H p (.tup (zaO xs lo hi)))
theorem zcY:SlR X (yeU X.K):=by
 intro pins s σ H x v vl vu lo hi sl Q I rx hs pl pu h
 obtain ⟨a,xs,rfl,hx,hw,q⟩:=h
 cases rx
 obtain ⟨its,r,ht,hz⟩:=I.tuple hx
 have hlen:its.toArray.size=xs.length:=by rw [List.size_toArray];exact r.length.symm
 refine ⟨"tuple",_,PyProof.Rows.slot_tuple_getitem.lookup,ht.typeIs,?_⟩
 refine HT.getItem_tuple_cut ht hs pl pu (by rw [hlen];exact hw) ?_ (by rw [hlen];exact hz)
 rw [hlen]
 refine ⟨.ref s.heap.objs.size,_,I.laid (t':=s.toks) (o:=.tup (zaO xs lo hi)) (fun b ob q=>Heap.get?_push_of_some _ q) (Nat.le_refl _) ?_,rfl,q _ (I.hok.fresh (Nat.le_refl _))⟩
 exact ⟨Nat.le_trans (sI xs lo hi) hz,_,(r.drop (HT.sIx xs.length 0 lo)).take (HT.sIx xs.length xs.length hi - HT.sIx xs.length 0 lo),IsTup.new _ _⟩
def yjH (K:PySem.W.Frag):R2:=fun x y H Q=>∃ a b ns ms,x = .ref a/\y = .ref b/\SqT K H a (ns.map V.int)/\SqT K H b (ms.map V.int)/\Q (.bl (HT.lexLt ns ms)) H
theorem ybM (hu:X.A.units<cLine):jQ X (compareOp .Lt) (yjH X.K):=by
 intro pins s σ H x y v u Q I rx ry h
 obtain ⟨a,b,ns,ms,rfl,rfl,ha,hb,q⟩:=h
 cases rx
 cases ry
 obtain ⟨its,r1,p1,_⟩:=I.tuple ha
 obtain ⟨its2,r2,p2,_⟩:=I.tuple hb
 have i1:IntsAre its.toArray.toList ns:=jF r1
 have i2:IntsAre its2.toArray.toList ms:=jF r2
 exact HT.lt_tupInts p1 p2 i1 i2 hu ⟨.bl (HT.lexLt ns ms),H,I,rfl,q⟩
def ygI (K:PySem.W.Frag):R2:=fun x y H Q=>∃ a b xs ys,x = .ref a/\y = .ref b/\SqT K H a xs/\SqT K H b ys/\xs≠[]/\xs.length+ys.length<=sizeLine /\
 (ys=[]->Q (.ref a) H)/\(ys≠[]->∀ p,H p=none->Q (.ref p) (upd H p (.tup (xs++ys))))
theorem Vals.nil_iff {xs:List V} {us:List Value} (r:Vals xs us):us=[] ↔ xs=[]:=by
 cases r with
 | nil=>simp
 | cons _ _=>simp
theorem zxU:jQ X (binaryOp .Add) (ygI X.K):=by
 intro pins s σ H x y v u Q I rx ry h
 obtain ⟨a,b,xs,ys,rfl,rfl,ha,hb,hx,hz,q1,q2⟩:=h
 cases rx
 cases ry
 obtain ⟨its,r1,p1,_⟩:=I.tuple ha
 obtain ⟨its2,r2,p2,_⟩:=I.tuple hb
 refine HT.cat_tup p1 p2 (fun z=>hx (r1.nil_iff.mp z)) (fun z=>⟨.ref a,H,I,rfl,q1 (r2.nil_iff.mp z)⟩) (fun z=>?_) (by rw [<- r1.length, <- r2.length];exact hz)
 refine ⟨.ref s.heap.objs.size,_,I.laid (t':=s.toks) (o:=.tup (xs++ys)) (fun b ob q=>Heap.get?_push_of_some _ q) (Nat.le_refl _) ?_,rfl,q2 (fun w=>z (r2.nil_iff.mpr w)) _ (I.hok.fresh (Nat.le_refl _))⟩
 exact ⟨by rw [List.length_append];exact hz,_,r1.append r2,IsTup.new _ _⟩
end
end L2
namespace L2
open PySem PySem.Spec PyProof.Rows
def ixN (n:Nat) (i:Int):Option Nat:=if 0<=i then (if i<n then some i.toNat else none) else if -(n:Int)<=i then some (i+n).toNat else none
def kQ {α:Type} (xs:List α) (i:Int):Option α:=(ixN xs.length i).bind fun j=>xs[j]?
theorem zlR {n:Nat} {i:Int} {j:Nat} (h:ixN n i=some j):seqIndex? i n=some j/\j<n /\ -(n:Int)<=i/\i<n:=by
 unfold ixN at h
 by_cases h0:0<=i
 ·rw [if_pos h0] at h
  by_cases h1:i<n
  ·rw [if_pos h1] at h
   have e:i.toNat=j:=Option.some.inj h
   exact ⟨by rw [seqIndex_of h0 h1,e],by omega,by omega,h1⟩
  ·rw [if_neg h1] at h;cases h
 ·rw [if_neg h0] at h
  by_cases h1 : -(n:Int)<=i
  ·rw [if_pos h1] at h
   have e:(i+n).toNat=j:=Option.some.inj h
   exact ⟨by rw [seqIndex_neg (by omega) h1,e],by omega,h1,by omega⟩
  ·rw [if_neg h1] at h;cases h
theorem zeL {α:Type} {xs:List α} {i:Int} {v:α} (h:kQ xs i=some v):∃ j,seqIndex? i xs.length=some j/\xs[j]?=some v/\j<xs.length /\ -(xs.length:Int)<=i/\i<xs.length:=by
  unfold kQ at h
  cases e:ixN xs.length i with
  | none=>rw [e] at h;cases h
  | some j =>
    rw [e] at h
    obtain ⟨h1,h2,h3,h4⟩:=zlR e
    exact ⟨j,h1,h,h2,h3,h4⟩
theorem jJ {α:Type} {xs:List α} {j:Nat} {v:α} (h:xs[j]?=some v):kQ xs (j:Int)=some v:=by
 have hj:j<xs.length:=(List.getElem?_eq_some_iff.mp h).1
 have e:ixN xs.length (j:Int)=some j:=by
  unfold ixN
  rw [if_pos (by omega),if_pos (by omega)];simp
 unfold kQ;rw [e];exact h
def qV (b:Expr):Prop:=∀ o i,subscripted b false o i=operate [o,i] (getItem o i)
def IxR (X:Cx) (r:R2):Prop :=
 ∀ (value slice:Expr) (pins:List (Addr × Obj)) (s:Shared) (σ:St) (H:Hp) (x y:V) (v u:Value) (Q:VK),Inv X pins σ H s->RelV x v->RelV y u->r x y H Q ->
  subscripted slice false v u=operate [v,u] (getItem v u)->wpAny (model X.prog X.w) X.A (subscriptTail value slice v u) (EP X pins σ Q) X.xe s
def MtR (X:Cx) (id:String) (r:V->List V->Hp->VK->Prop):Prop :=
 ∀ (pins:List (Addr × Obj)) (s:Shared) (σ:St) (H:Hp) (x:V) (xs:List V) (v:Value) (us:List Value) (Q:VK),Inv X pins σ H s->RelV x v->Vals xs us->r x xs H Q ->
  wpAny (model X.prog X.w) X.A (call (.builtin id) (v::us)) (EP X pins σ Q) X.xe s
section
variable {X:Cx} {a b:Expr} {ta tb:TE} {pos:Pos}
theorem ygX {r:R2} (hr:IxR X r) (ha:PE X a ta) (hb:PE X b tb) (hs:qV b):PE X (.Subscript a b pos) (wO r ta tb):=by
 intro pins s σ H Q I h
 exact Subscript_ (zsT ha hb I h fun v u s2 x y H2 I2 rx ry q=>hr a b pins s2 σ H2 x y v u Q I2 rx ry q (hs _ _))
def zmS (K:PySem.W.Frag):R2:=fun x y H Q=>∃ p xs i v,x = .ref p/\y = .int i/\SqL K H p xs/\kQ xs i=some v/\Q v H
def yaP (K:PySem.W.Frag):R2:=fun x y H Q=>∃ p xs i v,x = .ref p/\y = .int i/\SqT K H p xs/\kQ xs i=some v/\Q v H
def ygQ:R2:=fun x y H Q=>∃ z i c,x = .str z/\y = .int i/\z.length<=sizeLine/\kQ z.cps.toList i=some c/\Q (.str ⟨#[c]⟩) H
theorem yQ:IxR X (zmS X.K):=by
 intro value slice pins s σ H x y v u Q I rx ry h hs
 obtain ⟨p,xs,i,z,rfl,rfl,hq,he,q⟩:=h
 cases rx
 obtain ⟨t,rfl⟩:=ry
 obtain ⟨its,r,pl,hz⟩:=I.list hq
 obtain ⟨j,h1,h2,h3,h4,h5⟩:=zeL he
 obtain ⟨w,ew,rw'⟩:=r.get h2
 have hl:=r.length
 have hn:=tW
 have fin:EP X pins σ Q w s:=⟨z,H,I,rw',q⟩
 by_cases h0:0<=i
 ·have hj:i.toNat=j:=by
   rw [seqIndex_of h0 h5] at h1
   exact Option.some.inj h1
  exact item_listR pl.isList h0 (by omega) (by rw [hj];simpa using ew) fin hs
 ·have hj:(i+(its.toArray.size:Int)).toNat=j:=by
   rw [seqIndex_neg (by omega) h4] at h1
   rw [List.size_toArray, <- hl]
   exact Option.some.inj h1
  exact subscriptTail_builtinR (x:=w) pl.isList.typeIs slot_list_getitem.lookup
   (wpAny_getItem_list_neg (Q:=fun r s'=>r=w/\EP X pins σ Q r s') pl.isList (by omega) (by rw [List.size_toArray] <;> omega) (by omega) (by rw [hj];simpa using ew) ⟨rfl,fin⟩) hs
theorem zE:IxR X (yaP X.K):=by
 intro value slice pins s σ H x y v u Q I rx ry h hs
 obtain ⟨p,xs,i,z,rfl,rfl,hq,he,q⟩:=h
 cases rx
 obtain ⟨t,rfl⟩:=ry
 obtain ⟨its,r,pl,hz⟩:=I.tuple hq
 obtain ⟨j,h1,h2,h3,h4,h5⟩:=zeL he
 obtain ⟨w,ew,rw'⟩:=r.get h2
 have hl:=r.length
 have hn:=tW
 have fin:EP X pins σ Q w s:=⟨z,H,I,rw',q⟩
 exact subscriptTail_builtinR (x:=w) pl.typeIs slot_tuple_getitem.lookup
  (getItem_tuple (j:=j) (Q:=fun r s'=>r=w/\EP X pins σ Q r s') pl (by omega) (by omega) (by rw [List.size_toArray, <- hl];exact h1) (by simpa using ew) ⟨rfl,fin⟩) hs
theorem xE:IxR X ygQ:=by
 intro value slice pins s σ H x y v u Q I rx ry h hs
 obtain ⟨z,i,c,rfl,rfl,hz,he,q⟩:=h
 obtain ⟨t,rfl⟩:=rx
 obtain ⟨t',rfl⟩:=ry
 obtain ⟨j,h1,h2,h3,h4,h5⟩:=zeL he
 have hl:z.cps.toList.length=z.length:=by simp [Str.length]
 rw [hl] at h1 h4 h5
 have hn:=tW
 exact tail_any (typeIs_str s z t) slot_str_getitem.lookup (getItem_str (c:=c) (by
  have e1:decide (i < -(2 ^ 63:Int))=false:=decide_eq_false (by omega)
  have e2:decide (i ≥ 2 ^ 63)=false:=decide_eq_false (by omega)
  rw [e1,e2,Bool.or_false]) (by rw [h1];simpa using h2) ⟨.str ⟨#[c]⟩,H,I.tok _,⟨_,rfl⟩,q⟩) hs
theorem ziP (its:List Value) (n j:Nat) (u:Value):Obj.mapSeq (·.setIfInBounds j u) { cls:=.type "list",data:=.seq its.toArray n }={ cls:=.type "list",data:=.seq (its.set j u).toArray n }:=by
 simp [Obj.mapSeq]
theorem Inv.lst {pins:List (Addr × Obj)} {σ:St} {H:Hp} {s:Shared} {p:Addr} {xs:List V} (I:Inv X pins σ H s) (h:H p=some (.lst xs)) :
  ∃ (its:List Value) (n:Nat),Vals xs its/\s.heap.get? p=some { cls:=.type "list",data:=.seq its.toArray n }/\xs.length<=sizeLine:=by
 obtain ⟨z,its,n,r,e⟩:=I.hok p _ h
 exact ⟨its,n,r,e,z⟩
theorem Inv.lstUpd {pins:List (Addr × Obj)} {σ:St} {H:Hp} {s:Shared} {p:Addr} {xs ys:List V} {its its':List Value} {n n':Nat} {f:Obj->Obj} (I:Inv X pins σ H s) (h:H p=some (.lst xs))
  (ho:s.heap.get? p=some { cls:=.type "list",data:=.seq its.toArray n }) (hf:f { cls:=.type "list",data:=.seq its.toArray n }={ cls:=.type "list",data:=.seq its'.toArray n' }) (r:Vals ys its') (hz:ys.length<=sizeLine) (t:Nat) :
  Inv X pins σ (upd H p (.lst ys)) { s with heap:=s.heap.update p f,toks:=t }:=by
 have e:(s.heap.update p f).get? p=some { cls:=.type "list",data:=.seq its'.toArray n' }:=by
  rw [Heap.get?_update_self f ho (by rw [hf] <;> rfl),hf]
 refine I.write (x:=p) (e:=p) (by rw [h];trivial) (.inl rfl) (fun b u hb q=>(Heap.get?_update_other _ _ (Ne.symm hb)).trans q) ⟨_,e⟩ ?_
 exact ⟨hz,its',n',r,e⟩
def zoJ:V->V->V->Hp->(Hp->Prop)->Prop:=fun o i v H Q=>∃ p xs k j,o = .ref p/\i = .int k/\H p=some (.lst xs)/\ixN xs.length k=some j/\Q (upd H p (.lst (xs.set j v)))
theorem jW:ybK X zoJ:=by
 intro pins s σ H o i v ov iv u Q I ro ri rv h
 obtain ⟨p,xs,k,j,rfl,rfl,hp,hj,q⟩:=h
 cases ro
 obtain ⟨t,rfl⟩:=ri
 obtain ⟨its,n,r,ho,hz⟩:=I.lst hp
 obtain ⟨h1,h2,h3,h4⟩:=zlR hj
 have hl:=r.length
 have hn:=tW
 have I':Inv X pins σ (upd H p (.lst (xs.set j v))) { s with heap:=s.heap.update p (Obj.mapSeq (·.setIfInBounds j u)) } :=
  I.lstUpd hp ho (ziP its n j u) (r.set rv j) (by rw [List.length_set];exact hz) s.toks
 by_cases h0:0<=k
 ·have hk:k.toNat=j:=by
   rw [seqIndex_of h0 h4] at h1
   exact Option.some.inj h1
  exact PySem.W.ki_setAt ho h0 (by omega) (by rw [List.size_toArray, <- hl];exact h4) (by rw [hk];exact ⟨_,I',q⟩)
 ·have hk:(k+(its.toArray.size:Int)).toNat=j:=by
   rw [seqIndex_neg (by omega) h3] at h1
   rw [List.size_toArray, <- hl]
   exact Option.some.inj h1
  exact PySem.W.ki_setBack ho (by omega) (by rw [List.size_toArray, <- hl];exact h3) (by omega) (by rw [hk];exact ⟨_,I',q⟩)
theorem zdR (lo hi:Option Int) (n:Nat):(sliceBounds lo hi none n).1=((HT.sIx n 0 lo:Nat):Int)/\(sliceBounds lo hi none n).2.1=((HT.sIx n n hi:Nat):Int)/\(sliceBounds lo hi none n).2.2=1:=by
 refine ⟨?_,?_,rfl⟩
 ·cases lo with
  | none=>rfl
  | some i=>exact HT.clip_two i n 0
 ·cases hi with
  | none=>rfl
  | some i=>exact HT.clip_two i n n
theorem zaY (its:List Value) (lo hi:Option Int):slicePick its.toArray lo hi none=((its.drop (HT.sIx its.length 0 lo)).take (HT.sIx its.length its.length hi - HT.sIx its.length 0 lo)).toArray:=by
 obtain ⟨h1,h2,h3⟩:=zdR lo hi its.toArray.size
 unfold slicePick
 rw [h1,h2,h3]
 simp only [sliceRange_one,pick_run,List.size_toArray] <;> rfl
def yjD (K:PySem.W.Frag):V->Option Int->Option Int->Hp->VK->Prop:=fun x lo hi H Q=>∃ a xs,x = .ref a/\SqL K H a xs/\∀ p,H p=none->Q (.ref p) (upd H p (.lst (zaO xs lo hi)))
theorem zuI:SlR X (yjD X.K):=by
 intro pins s σ H x v vl vu lo hi sl Q I rx hs pl pu h
 obtain ⟨a,xs,rfl,hx,q⟩:=h
 cases rx
 obtain ⟨its,r,ht,hz⟩:=I.list hx
 have hlen:=r.length
 refine ⟨"list",_,slot_list_getitem.lookup,ht.isList.typeIs,?_⟩
 refine wpAny_getItem_list_slice ht.isList hs pl pu .none (by simp) ?_ (by rw [List.size_toArray] <;> omega)
 rw [zaY, <- hlen]
 refine ⟨.ref s.heap.objs.size,_,I.laid (t':=s.toks) (o:=.lst (zaO xs lo hi)) (fun b ob q=>Heap.get?_push_of_some _ q) (Nat.le_refl _) ?_,rfl,q _ (I.hok.fresh (Nat.le_refl _))⟩
 exact ⟨Nat.le_trans (sI xs lo hi) hz,_,0,(r.drop (HT.sIx xs.length 0 lo)).take (HT.sIx xs.length xs.length hi - HT.sIx xs.length 0 lo),Heap.get?_push_size _ rfl⟩
theorem tK:wZ X (.builtin "len") (fun xs H Q=>∃ p ys,xs=[.ref p]/\(SqL X.K H p ys\/SqT X.K H p ys)/\Q (.int ys.length) H):=by
 intro pins s σ H xs us Q I r h
 obtain ⟨p,ys,rfl,hq,q⟩:=h
 obtain ⟨u,rfl,rx⟩:=qW r
 cases rx
 have hn:=tW
 rcases hq with hq|hq
 ·obtain ⟨its,r',pl,hz⟩:=I.list hq
  have hlen:=r'.length
  exact Calls.call_len_list pl.isList (by simp only [List.size_toArray] <;> omega) ⟨.int ys.length,H,I.tok _,⟨s.toks+1,by rw [List.size_toArray,hlen]⟩,q⟩
 ·obtain ⟨its,r',pl,hz⟩:=I.tuple hq
  have hlen:=r'.length
  exact len_tuple pl (by simp only [List.size_toArray] <;> omega) ⟨.int ys.length,H,I.tok _,⟨s.toks+1,by rw [List.size_toArray,hlen]⟩,q⟩
theorem jG:wZ X (.builtin "len") (fun xs H Q=>∃ z,xs=[.str z]/\z.length<=sizeLine/\Q (.int z.length) H):=by
 intro pins s σ H xs us Q I r h
 obtain ⟨z,rfl,hz,q⟩:=h
 obtain ⟨u,rfl,t,rfl⟩:=qW r
 have hn:=tW
 exact len_str (by omega) ⟨.int z.length,H,I.tok _,⟨_,rfl⟩,q⟩
theorem yF:wZ X (.type "tuple") (fun xs H Q=>∃ p ys,xs=[.ref p]/\((SqL X.K H p ys/\∀ l,H l=none->Q (.ref l) (upd H l (.tup ys)))\/(SqT X.K H p ys/\Q (.ref p) H))):=by
 intro pins s σ H xs us Q I r h
 obtain ⟨p,ys,rfl,h⟩:=h
 obtain ⟨u,rfl,rx⟩:=qW r
 cases rx
 rcases h with ⟨hq,q⟩|⟨hq,q⟩
 ·obtain ⟨its,r',pl,hz⟩:=I.list hq
  have hlen:=r'.length
  refine call_tuple_list pl.isList (fun h' kp=>?_) (by simp only [List.size_toArray] <;> omega)
  have I1:Inv X pins σ H { s with heap:=h' }:=I.kept (t':=s.toks) kp
  have I2:Inv X pins σ (upd H h'.objs.size (.tup ys)) { s with heap:=h'.push { cls:=.type "tuple",data:=.seq its.toArray } } :=
   I1.laid (t':=s.toks) (fun b o e=>Heap.get?_push_of_some _ e) (Nat.le_refl _) (show ObjOk X.prog X.w _ _ _ (.tup ys) from ⟨hz,its,r',IsTup.new _ _⟩)
  exact ⟨.ref h'.objs.size,_,I2,rfl,q _ (I1.hok.fresh (Nat.le_refl _))⟩
 ·obtain ⟨its,r',pl,hz⟩:=I.tuple hq
  exact call_tuple_same pl ⟨.ref p,H,I,rfl,q⟩
def tyV (K:PySem.W.Frag) (T:String) (x:V) (H:Hp):Prop:=match x with
 | .str _=>T = "str"
 | .int _=>T = "int"
 | .ref p=>(T = "list" /\ ∃ xs,SqL K H p xs)\/(T = "tuple" /\ ∃ o,K.lookup p=some o/\o.cls = .type "tuple" /\ o.dict=none) \/
   (T = "dict" /\ ((∃ kvs,H p=some (.dK kvs))\/∃ kvs,H p=some (.dT kvs)))\/(T = "set" /\ ∃ S n,H p=some (.set S n))
 | _=>False
theorem zoN {pins:List (Addr × Obj)} {σ:St} {H:Hp} {s:Shared} {T:String} {x:V} {v:Value} (I:Inv X pins σ H s) (r:RelV x v) (ty:tyV X.K T x H) :
    s.TypeIs v T/\∀ a,v = .ref a->∃ ob,s.heap.get? a=some ob/\ob.dict=none:=by
  cases x with
  | str z =>
    obtain ⟨t,rfl⟩:=r
    cases (show T = "str" from ty)
    exact ⟨typeIs_str s z t,fun _ e=>nomatch e⟩
  | int i =>
    obtain ⟨t,rfl⟩:=r
    cases (show T = "int" from ty)
    exact ⟨typeIs_int s i t,fun _ e=>nomatch e⟩
  | ref p =>
    cases r
    rcases ty with ⟨rfl,xs,hq⟩|⟨rfl,o,hk,hc,hd⟩|⟨rfl,hk⟩|⟨rfl,S,n,hk⟩
    . obtain ⟨its,_,pl,_⟩:=I.list hq
      refine ⟨pl.isList.typeIs,fun a e=>?_⟩
      cases e
      obtain ⟨o,n,e,c,hd,_⟩:=pl
      exact ⟨o,e,hd⟩
    . refine ⟨⟨o,I.kIn p o hk,hc⟩,fun a e=>?_⟩
      cases e
      exact ⟨o,I.kIn _ o hk,hd⟩
    . have z:∃ o,s.heap.get? p=some o/\o.ExactDict:=by
        rcases hk with ⟨kvs,hk⟩|⟨kvs,hk⟩
        . obtain ⟨_,_,_,_,o,_,_,e,ex,_⟩:=I.hok p _ hk
          exact ⟨o,e,ex⟩
        . obtain ⟨_,_,_,_,o,_,_,e,ex,_⟩:=I.hok p _ hk
          exact ⟨o,e,ex⟩
      obtain ⟨o,e,ex⟩:=z
      refine ⟨⟨o,e,ex.1⟩,fun a e2=>?_⟩
      cases e2
      exact ⟨o,e,ex.2.1⟩
    . obtain ⟨o,_,_,_,e,ex,_⟩:=I.hok p _ hk
      refine ⟨⟨o,e,ex.1⟩,fun a e2=>?_⟩
      cases e2
      exact ⟨o,e,ex.2.1⟩
  | _=>exact False.elim ty
def yeE (K:PySem.W.Frag) (T:String) (r:V->List V->Hp->VK->Prop) (to:TE):TE:=fun σ H Q=>to σ H fun x H1=>tyV K T x H1/\r x [] H1 Q
def tBM (K:PySem.W.Frag) (T:String) (r:V->List V->Hp->VK->Prop) (to:TE) (t:TA):TE:=fun σ H Q=>to σ H fun x H1=>tyV K T x H1/\t σ H1 fun xs H2=>r x xs H2 Q
variable {o e:Expr} {es:List Expr} {to:TE} {t:TA} {name:Str} {apos cpos:Pos} {T id:String} {r:V->List V->Hp->VK->Prop}
theorem ybG (pa:PlainAttrs T) (slot:Slot T name id) (hty:typeOf (.builtin id)=pure (.type "method_descriptor")) (hm:MtR X id r) (ho:PE X o to)
  (hbase:attributeBase o name X.env (eval o X.env)=eval o X.env:=by rfl) (hline:(apos.endLine == cpos.line)=true:=by rfl):PE X (.Call (.Attribute o name apos) [] [] cpos) (yeE X.K T r to):=by
 intro pins s σ H Q I h
 refine wpAny_Call_method0_late hbase hline (xQ (ho pins s σ H _ I h) fun v s1 ⟨x,H1,I1,r1,ty,q1⟩=>?_)
 obtain ⟨h1,h2⟩:=zoN I1 r1 ty
 exact ⟨T,id,pa,slot,hty,h1,h2,Calls.callWith_builtin rfl (PySem.evalArgs_none (hm pins s1 σ H1 x [] v [] Q I1 r1 .nil q1))⟩
theorem zlI (pa:PlainAttrs T) (slot:Slot T name id) (hty:typeOf (.builtin id)=pure (.type "method_descriptor")) (hm:MtR X id r) (ho:PE X o to) (ha:PA X (e::es) t)
  (hbase:attributeBase o name X.env (eval o X.env)=eval o X.env:=by rfl)
  (hfew:((backTo cpos (starEach (e::es) X.env)).all (fun x => !x.1) && (backToKw cpos (keywordEach [] X.env)).all (fun x=>x.1.isSome)
   && decide ((e::es).length+([]:List Keyword).length+(if ([]:List Keyword).isEmpty then 0 else 1)<30))=true:=by rfl)
  (hline:(apos.endLine == cpos.line)=true:=by rfl) (hs:starEach (e::es) X.env=(false,eval e X.env)::starEach es X.env:=by rfl) (hplain:(backTo cpos (starEach es X.env)).any (·.1)=false:=by rfl) :
  PE X (.Call (.Attribute o name apos) (e::es) [] cpos) (tBM X.K T r to t):=by
 intro pins s σ H Q I h
 refine wpAny_Call_method_late hbase hfew hline rfl (xQ (ho pins s σ H _ I h) fun v s1 ⟨x,H1,I1,r1,ty,q1⟩=>?_)
 obtain ⟨h1,h2⟩:=zoN I1 r1 ty
 refine ⟨T,id,pa,slot,hty,h1,h2,?_⟩
 have hA:=ha cpos pins s1 σ H1 _ I1 q1
 rw [hs] at hA ⊢
 refine Calls.callWith_builtin (by show (false || (backTo cpos (starEach es X.env)).any (·.1))=false;rw [hplain] <;> rfl) (Calls.evalArgs_plain ?_)
 exact xQ hA fun us s2 ⟨vs,H2,I2,r2,q2⟩=>hm pins s2 σ H2 x vs v us Q I2 r1 r2 q2
end
end L2
namespace L2
open PySem PySem.Spec PyProof.Rows
def MtM (X:Cx) (id:String) (r:V->List V->Hp->VK->Prop):Prop :=
 ∀ (pins:List (Addr × Obj)) (s:Shared) (σ:St) (H:Hp) (x:V) (xs:List V) (v:Value) (us:List Value) (Q:VK),Inv X pins σ H s->RelV x v->Vals xs us->r x xs H Q ->
  wpAny (model X.prog X.w) X.A (call (.builtin id) (v::us)) (EP X pins σ Q) X.xe s
theorem Vals.one:∀ {x:V} {us:List Value},Vals [x] us->∃ u,us=[u]/\RelV x u
 | _,_,.cons r .nil=>⟨_,rfl,r⟩
section
variable {X:Cx} {pins:List (Addr × Obj)} {σ:St} {H:Hp} {s:Shared} {l b:Addr} {xs ys zs:List V}
theorem Inv.lset {its its':List Value} {n:Nat} {f:Array Value->Array Value} {t':Nat} (I:Inv X pins σ H s) (hH:H l=some (.lst xs))
  (e:s.heap.get? l=some { cls:=.type "list",data:=.seq its.toArray n }) (hf:f its.toArray=its'.toArray) (hv:Vals ys its') (hz:ys.length<=sizeLine) :
  Inv X pins σ (upd H l (.lst ys)) { s with heap:=s.heap.update l (Obj.mapSeq f),toks:=t' }:=by
 have q:=PySem.IsL.update e f
 rw [hf] at q
 refine I.write (x:=l) (e:=l) (by rw [hH];exact trivial) (.inl rfl) (fun b' u hb hu=>(Heap.get?_update_other s.heap (Obj.mapSeq f) (Ne.symm hb)).trans hu) ⟨_,q⟩ ?_
 exact ⟨hz,its',_,hv,q⟩
theorem Inv.lnew {its:List Value} {t':Nat} (I:Inv X pins σ H s) (hv:Vals ys its) (hz:ys.length<=sizeLine) :
  Inv X pins σ (upd H s.heap.objs.size (.lst ys)) { s with heap:=s.heap.push { cls:=.type "list",data:=.seq its.toArray },toks:=t' } :=
 I.laid (fun _ _ q=>Heap.get?_push_of_some _ q) (Nat.le_refl _) ⟨hz,its,0,hv,Heap.get?_push_size _ rfl⟩
theorem Inv.fresh (I:Inv X pins σ H s):H s.heap.objs.size=none:=I.hok.fresh (Nat.le_refl _)
theorem Inv.lstM (I:Inv X pins σ H s) (hH:H l=some (.lst xs)):xs.length<=sizeLine/\∃ (its:List Value) (n:Nat),Vals xs its/\xs.length=its.length/\s.heap.get? l=some { cls:=.type "list",data:=.seq its.toArray n }:=by
 obtain ⟨z,its,n,r,e⟩:=I.hok l _ hH
 exact ⟨z,its,n,r,r.length,e⟩
theorem znX {n:Nat} (h:n<=sizeLine):Builtin.List.listTooLong n=false:=by
 unfold Builtin.List.listTooLong
 exact decide_eq_false (by omega)
end
section
variable {X:Cx}
def sQ:V->List V->Hp->VK->Prop:=fun x vs H Q=>∃ l xs y,x = .ref l/\vs=[y]/\H l=some (.lst xs)/\xs.length<sizeLine/\Q .non (upd H l (.lst (xs++[y])))
theorem zcF:MtM X "list.append" sQ:=by
 intro pins s σ H x vs v us Q I rx rv h
 obtain ⟨l,xs,y,rfl,rfl,hH,hz,q⟩:=h
 cases rx
 obtain ⟨u,rfl,ru⟩:=rv.one
 obtain ⟨z,its,n,r,hl,e⟩:=I.lstM hH
 refine call_meets F.slot_list_append ⟨_,e,rfl⟩ F.entry_list_append (F.args_list_append_2 _ _) (PySem.list_append l its.toArray n u (by rw [List.size_toArray];omega)) ⟨e,?_⟩
 refine ⟨.non,_,I.lset (its':=its++[u]) hH e (by simp) (r.append (.cons ru .nil)) ?_,rfl,q⟩
 rw [List.length_append,List.length_singleton]
 omega
def zyI:V->List V->Hp->VK->Prop:=fun x vs H Q=>∃ l b xs zs,x = .ref l/\vs=[.ref b]/\H l=some (.lst xs)/\H b=some (.lst zs)/\xs.length+zs.length<=sizeLine/\Q .non (upd H l (.lst (xs++zs)))
theorem yfI:MtM X "list.extend" zyI:=by
 intro pins s σ H x vs v us Q I rx rv h
 obtain ⟨l,b,xs,zs,rfl,rfl,hH,hB,hz,q⟩:=h
 cases rx
 obtain ⟨u,rfl,ru⟩:=rv.one
 cases ru
 obtain ⟨z,its,n,r,hl,e⟩:=I.lstM hH
 obtain ⟨z2,its2,n2,r2,hl2,e2⟩:=I.lstM hB
 have hsz:its.toArray.size+its2.toArray.size<=sizeLine:=by rw [List.size_toArray,List.size_toArray];omega
 have hlong:¬ (!its.toArray.isEmpty && Builtin.List.listTooLong (its.toArray.size+its2.toArray.size))=true:=by
  rw [znX hsz,Bool.and_false]
  exact Bool.false_ne_true
 refine call_meets F.slot_list_extend ⟨_,e,rfl⟩ F.entry_list_extend (F.args_list_extend_2 _ _)
  (AutoSeq1.list_extend_list_list_0 l its.toArray n b its2.toArray n2 hlong (by rw [List.size_toArray];omega) (by omega)) ⟨e,e2,?_⟩
 refine ⟨.non,_,I.lset (its':=its++its2) hH e (by simp) (r.append r2) ?_,rfl,q⟩
 rw [List.length_append]
 omega
def yiX:R2:=fun x y H Q=>∃ l b xs zs,x = .ref l/\y = .ref b/\H l=some (.lst xs)/\H b=some (.lst zs)/\xs.length+zs.length<=sizeLine/\∀ p,H p=none->Q (.ref p) (upd H p (.lst (xs++zs)))
theorem ycZ:jQ X (binaryOp .Add) yiX:=by
 intro pins s σ H x y v u Q I rx ry h
 obtain ⟨l,b,xs,zs,rfl,rfl,hH,hB,hz,q⟩:=h
 cases rx
 cases ry
 obtain ⟨z,its,n,r,hl,e⟩:=I.lstM hH
 obtain ⟨z2,its2,n2,r2,hl2,e2⟩:=I.lstM hB
 refine PySem.P.add_list e e2 ?_ (by rw [List.size_toArray,List.size_toArray];omega)
 have ea:its.toArray++its2.toArray=(its++its2).toArray:=by simp
 rw [ea]
 exact ⟨.ref _,_,I.lnew (t':=s.toks) (r.append r2) (by rw [List.length_append];omega),rfl,q _ I.fresh⟩
end
section
variable {prog:Program} {w:World} {A:Around} {E:Value->Shared->Prop} {s:Shared}
end
section
variable {X:Cx}
end
end L2
namespace Att
open PySem PySem.W PySem.Calls PyProof.Rows
theorem sK {P:Params} {h:Heap}:∀ (ns:List Int) (vs:List Value),WellAll P h vs (ns.map WData.int)->IntsAre vs ns:=by
  intro ns
  induction ns with
  | nil =>
    intro vs w
    rw [List.map_nil] at w
    cases w
    exact .nil
  | cons n ns ih =>
    intro vs w
    rw [List.map_cons] at w
    cases w with
    | cons a b =>
      cases a
      exact .cons _ _ (ih _ b)
theorem script_of {l:OpenLaw} {n:Nat} (hn:l.most=some n) {P:Params} {h:Heap} {args:List WData} {vals:List Value}
    (hpre:l.row.toRowW.claim.pre args=true) (hwl:WellAll P h vals args) :
    ∃ a vs ns,vals=[Value.ref a]/\args=[WData.list (ns.map WData.int)]/\h.get? a=some { cls:=.type "list",data:=.seq vs.toArray }/\IntsAre vs ns/\ns.length<=n:=by
  have hsh:WShape.hasAll [] args [.list .int]=true:=(pre_splitW hpre).1
  have hc:l.pre.holds [] { args:=args }=true:=(pre_splitW hpre).2
  obtain ⟨d,r,rfl,h1,h2⟩:=hasAllW_cons hsh
  obtain rfl:=hasAllW_nil h2
  obtain ⟨xs,rfl,h3⟩:=hasW_list h1
  obtain ⟨ns,rfl⟩:=items_int h3
  have hlen:ns.length<=n:=by
    unfold OpenLaw.pre at hc
    have h4:(WTm.not (.lt (.lit (.int (n:Int))) (.len (.arg 0)))).holds [] { args:=[.list (ns.map .int)] }=true:=by
      have h4:=(holds_andW hc).1
      rw [hn] at h4
      exact h4
    have h5:=condW_of h4 (w_not (w_lt w_lit (w_len_list (w_arg rfl))))
    rw [List.length_map] at h5
    refine Nat.le_of_not_lt fun q=>?_
    have q':(n:Int)<((ns.length:Nat):Int):=by omega
    first
      | (rw [decide_eq_true q'] at h5;exact absurd h5 (by decide))
      | (simp at h5;omega)
  cases hwl with
  | cons w1 w2 =>
    cases w2
    cases w1 with
    | list ho hall=>exact ⟨_,_,ns,rfl,rfl,ho,sK ns _ hall,hlen⟩
theorem post_true (l:OpenLaw) (args:List WData):l.row.toRowW.claim.post args (.bool true) args=true :=
 postW_of (r:=l.row.toRowW) (X:=(true == true))
  (show WShape.has [] (.bool true) .bool=true by first|rfl|decide|simp [WShape.has,WShape.arms,WShape.armsAll])
  (show (WTm.eq .res (.lit (.bool true))).value [] { args:=args,res:=some (.bool true),after:=args }=some (.bool (true == true)) from w_eq_bool (w_res rfl) w_lit) rfl
section
variable {prog:Program} {w:World} {A:Around} {E:Value->Shared->Prop} {s:Shared} {K:Frag}
def noObjs (h:Heap):Heap:={ h with objs := #[] }
theorem noObjs_get (h:Heap) (b:Addr):(noObjs h).get? b=none:=by
 cases e:(noObjs h).get? b with
 | none=>rfl
 | some o=>exact absurd (Heap.lt_size e) (Nat.not_lt_zero _)
def ledger (h:Heap) (L d:Addr):List (Addr × Obj):=(List.range h.objs.size).filterMap fun a=>if a=L\/a=d then none else (h.get? a).map fun o=>(a,o)
theorem mem_ledger {h:Heap} {L d a:Addr} {o:Obj}:(a,o)∈ledger h L d ↔ a≠L/\a≠d/\h.get? a=some o:=by
 unfold ledger
 rw [List.mem_filterMap]
 constructor
 ·rintro ⟨b,_,e⟩
  split at e
  ·cases e
  ·rename_i hb
   obtain ⟨o',ho,e'⟩:=Option.map_eq_some_iff.mp e
   cases e'
   exact ⟨fun q=>hb (.inl q),fun q=>hb (.inr q),ho⟩
 ·rintro ⟨n1,n2,ho⟩
  refine ⟨a,List.mem_range.mpr (Heap.lt_size ho),?_⟩
  rw [if_neg (show ¬ (a=L\/a=d) from fun q=>q.elim n1 n2),ho] <;> rfl
theorem fr_all {h:Heap} {L:Addr} {m:Str->Option Value} (n:h.Ns L m):Fr (noObjs h) L h m :=
 ⟨n,fun b o e=>(by rw [noObjs_get] at e;cases e),Nat.zero_le _⟩
end
end Att
namespace L2
open PySem PySem.Spec PyProof.Rows
theorem zbE:∀ {vs:List Value} {ns:List Int},IntsAre vs ns->Vals (ns.map V.int) vs
 | _,_,.nil=>.nil
 | _,_,.cons n t h=>.cons ⟨t,rfl⟩ (zbE h)
def ybC (H:Hp):Prop:=∀ b,H b=none\/∃ o xs,H b=some (.frz o (.lst xs))
theorem zoL {P:Program} {w:World} {K:PySem.W.Frag} {mg mb:Str->Option Value} {CX:CXT} {k:Nat} {fa a:Addr} {fd:FuncData} {x:Str} {sp:Sp} {s₁:Shared} {vs:List Value} {ns:List Int}
    (KX:K.In s₁.heap) (hns:s₁.heap.Ns mainGlobals mg) (hb:s₁.heap.Ns builtinsNs mb) (hbb:∀ x:Str,x ≠ "__name__" -> mb x=bootBuiltins x) (hlim:s₁.heap.NoLimit) (hg:s₁.gens = #[])
    (ha:s₁.heap.get? a=some { cls:=.type "list",data:=.seq vs.toArray }) (hi:IntsAre vs ns) (hl:ns.length<=sizeLine) (hr:Room k callerA)
    (F:∀ base:Heap,K.In base->base.Ns mainGlobals mg->FnOk P w K mg base CX k fa fd [x] sp) (hbind:∀ (s:Shared) (u:Value),BindsTo s fd ⟨[u],[]⟩ [(x,u)])
    (hsp:∀ H:Hp,ybC H->SqL K H a (ns.map V.int)->sp [.ref a] H (fun v _=>v = .bl true) fun _ _ _=>False)
    (hCX:∀ H e s',CX [] H s₁ (fun _ _ _=>False) e s'->False) :
    codeAny (model P w) callerA (.call (.ref fa) ⟨[.ref a],[]⟩) (fun r s'=>r = .ok (.ret (.bool true))/\OldK s₁.heap s'.heap/\s'.os=s₁.os/\AllBare s'.gens) s₁:=by
  have rv:=zbE hi
  have lenV:=hi.length
  have core : ∀ H : Hp, ybC H -> SqL K H a (ns.map V.int) -> HOk P w H s₁.heap -> (∀ b, H b≠none -> b=a) -> (H a≠none -> K.lookup a=none) ->
      codeAny (model P w) callerA (.call (.ref fa) ⟨[.ref a],[]⟩) (fun r s'=>r = .ok (.ret (.bool true))/\OldK s₁.heap s'.heap/\s'.os=s₁.os/\AllBare s'.gens) s₁:=by
    intro H hO hS hok hA hK
    have base_of:∀ {b:Addr} {o:Obj},s₁.heap.get? b=some o->H b=none->(zeV s₁.heap H).get? b=some o:=fun e n=>zuB e n
    have noA:∀ {b:Addr} {o:Obj} {es:Array DictEntry} {ep:Nat},s₁.heap.get? b=some o->o.data = .dict es ep->H b=none:=fun {b o es ep} e d=>by
      cases q:H b with
      | none=>rfl
      | some u =>
        have e':b=a:=hA b (by rw [q];simp)
        subst e'
        rw [ha] at e;cases e
        have d':Data.seq vs.toArray _=Data.dict es ep:=d
        cases d'
    have nsK:∀ {b:Addr} {m:Str->Option Value},s₁.heap.Ns b m->(zeV s₁.heap H).Ns b m:=fun {b m} ⟨o,es,ep,e,d,r⟩=>⟨o,es,ep,base_of e (noA e d),d,r⟩
    have hKb:K.In (zeV s₁.heap H):=fun b o e=>base_of (KX b o e) (by
      cases q:H b with
      | none=>rfl
      | some u =>
        have e':b=a:=hA b (by rw [q];simp)
        subst e'
        rw [hK (by rw [q];simp)] at e;cases e)
    have hM:Mod K mg (zeV s₁.heap H):=⟨hKb,nsK hns,⟨mb,nsK hb,hbb⟩,let ⟨mc,h1,h2⟩:=hlim;⟨mc,nsK h1,h2⟩⟩
    have e0:Env0 P w K mg (zeV s₁.heap H) callerA [] s₁ H:=⟨rfl,hM,fun b o e=>zuP e,Nat.le_of_eq (znS _ _),trivial,fun b hb=>absurd (show b∈([]:List Addr) from hb) (by simp),hok,.of_eq hg⟩
    refine codeAny_mono ((F _ hKb (nsK hns)).run callerA [] s₁ H ⟨[.ref a],[]⟩ [.ref a] [.ref a] _ _ hr e0 (hbind s₁ (.ref a)) (.cons rfl .nil) (hsp H hO hS)) fun r s' h=>?_
    cases r with
    | error e=>exact (hCX H e s' h).elim
    | ok fl =>
      cases fl with
      | next=>exact False.elim h
      | brk=>exact False.elim h
      | cont=>exact False.elim h
      | ret u =>
        obtain ⟨v,H',os,bare,un,hok',r',q⟩:=h
        have q':v = .bl true:=q
        subst q'
        obtain rfl:u=Value.bool true:=r'
        refine ⟨rfl,OldK.of_keep fun b o e=>?_,os,bare⟩
        cases q:H b with
        | none=>exact un.keep b o e q (by intro z;exact absurd (show b∈([]:List Addr) from z) (by simp)) (by simp)
        | some u =>
          rcases hO b with z|⟨ob,xs,z⟩
          . rw [q] at z;cases z
          . have z2:=un.frzs b ob _ z
            obtain ⟨e1,_⟩:=hok b _ z
            obtain ⟨e2,_⟩:=hok' b _ z2
            rw [e] at e1;cases e1
            exact e2
  cases hk:K.lookup a with
  | some o =>
    have e:=KX a o hk
    rw [ha] at e
    cases e
    refine core (fun _=>none) (fun _=>.inl rfl) (.inr ⟨_,vs.toArray,_,hk,rfl,rfl,rfl,by rw [List.size_toArray,lenV];exact hl,by simpa using rv⟩) (fun b u z=>by have z':(none:Option HO)=some u:=z;cases z') (fun b z=>absurd rfl z) fun z=>absurd rfl z
  | none =>
    refine core (fun b=>if b=a then some (.frz { cls:=.type "list",data:=.seq vs.toArray } (.lst (ns.map V.int))) else none) (fun b=>?_) (.inl (.inr ⟨{ cls:=.type "list",data:=.seq vs.toArray },if_pos rfl⟩)) (fun b u z=>?_) (fun b z=>?_) fun _=>hk
    . by_cases hb:b=a
      . exact .inr ⟨_,_,if_pos hb⟩
      . exact .inl (if_neg hb)
    . by_cases hb:b=a
      . have z':=(if_pos hb).symm.trans z
        cases z'
        subst hb
        exact ⟨ha,by rw [List.length_map];exact hl,vs,_,rv,ha⟩
      . have z':=(if_neg hb).symm.trans z
        cases z'
    . by_cases hb:b=a
      . exact hb
      . exact absurd (if_neg hb) z
end L2
namespace L2
open PySem PySem.Spec PyProof.Rows
end L2
namespace L2
open PySem PySem.Spec PyProof.Rows
def jL (s:Stmt):Arguments:=match s with
 | .FunctionDef _ a _ _ _ _ _ _ _ _=>a
 | _=>{ posonlyargs:=[],args:=[],vararg:=none,kwonlyargs:=[],kw_defaults:=[],kwarg:=none,defaults:=[] }
def xT (s:Stmt):List Stmt:=match s with
 | .FunctionDef _ _ b _ _ _ _ _ _ _=>b
 | _=>[]
def zI (s:Stmt):Scope:=match s with
 | .FunctionDef _ _ _ _ _ _ sc _ _ _=>sc
 | _=>{ kind:=.function,names:=[],isGenerator:=false,isCoroutine:=false }
abbrev zW:CXT:=fun _ _ _ _ _ _=>False
abbrev E0:XK:=fun _ _ _=>False
theorem zK {X:Cx}:tN zW X E0:=fun _ _ _ _ _ _ _ h=>h.elim
structure Fun (K:PySem.W.Frag) (x qual:Str) (st:Stmt) (f:Addr) (fd:FuncData):Prop where
 ex:∃ (oc:Value) (od:Option Addr) (kV doc pm:Value) (an:Option Addr) (cdv ct:Value) (osl:Array (Option Value)),
  fd=PySem.W.fnOf x qual (jL st) (xT st) (zI st) .none kV doc pm an cdv ct/\K.lookup f=some ⟨oc,od,.func fd,osl⟩/\PySem.W.codeIn K cdv qual=true
 kp:PySem.W.keepIn K (.ref f)=true
section
variable {P:Program} {w:World} {K:PySem.W.Frag} {mg:Str->Option Value} {base:Heap}
theorem Fun.ok {x qual:Str} {st:Stmt} {f:Addr} {fd:FuncData} {N ps:List Str} {k:Nat} {sp:Sp} (F:Fun K x qual st f fd) (S:FnScope N ps (zI st)) (len:∀ vs H Q E,sp vs H Q E->vs.length=ps.length)
  (hbody:∀ (cdv:Value) (A:Around) (outer:List Env) (s:Shared) (H:Hp) (vs:List V) (Q:VK) (E:XK),Room k (A.deeper (envOfC qual (zI st) s.heap.objs.size f cdv))->sp vs H Q E ->
   ∃ t,PSs (zaN zW P w K mg base N qual (zI st) f cdv A outer s H E).nox (xT st) t/\t { nx:=fun _ H'=>Q .non H',rt:=Q } (start N vs) H):FnOk P w K mg base zW (k+1) f fd ps sp:=by
 obtain ⟨oc,od,kV,doc,pm,an,cdv,ct,osl,rfl,lk,hcd⟩:=F.ex
 refine yhM lk hcd S len fun A outer s H vs Q E hr hsp=>?_
 obtain ⟨t,h,q⟩:=hbody cdv A outer s H vs Q E hr hsp
 exact ⟨t,h.nox,q⟩
theorem Fun.binds {x qual:Str} {st:Stmt} {f:Addr} {fd:FuncData} {ps:List Str} (F:Fun K x qual st f fd)
  (h:∀ (kV doc pm:Value) (an:Option Addr) (cdv ct:Value) (us:List Value),us.length=ps.length->bindArgs (PySem.W.fnOf x qual (jL st) (xT st) (zI st) .none kV doc pm an cdv ct) ⟨us,[]⟩=pure (ps.zip us)):Binds K fd ps []:=by
 obtain ⟨oc,od,kV,doc,pm,an,cdv,ct,osl,rfl,lk,hcd⟩:=F.ex
 exact .all (h kV doc pm an cdv ct)
theorem zqB {x qual:Str} {st:Stmt} {f:Addr} {oc:Value} {od an:Option Addr} {osl:Array (Option Value)} {kV doc pm cdv ct:Value} (l:K.lookup f=some ⟨oc,od,.func (PySem.W.fnOf x qual (jL st) (xT st) (zI st) .none kV doc pm an cdv ct),osl⟩)
  (c:PySem.W.codeIn K cdv qual=true) (k:PySem.W.keepIn K (.ref f)=true):Fun K x qual st f (PySem.W.fnOf x qual (jL st) (xT st) (zI st) .none kV doc pm an cdv ct):=⟨⟨oc,od,kV,doc,pm,an,cdv,ct,osl,rfl,l,c⟩,k⟩
end
theorem kB {n:Nat} (h:n<=1000):n<sizeLine:=Nat.lt_of_le_of_lt h (by decide)
section
variable {X:Cx}
end
theorem zeQ {c A B:Prop} [Decidable c] (h1:c->A) (h2:¬ c->B):if c then A else B:=by
 by_cases h:c
 ·rw [if_pos h]
  exact h1 h
 ·rw [if_neg h]
  exact h2 h
def Same (H H':Hp):Prop:=∀ b o,H b=some o->H' b=some o
theorem aH (H:Hp):Same H H:=fun _ _ h=>h
theorem Same.trans {H H1 H2:Hp} (a:Same H H1) (b:Same H1 H2):Same H H2:=fun c o h=>b c o (a c o h)
theorem Same.free {H H':Hp} (e:Same H H') {l:Addr} (h:H' l=Option.none):H l=Option.none:=by
  cases q:H l with
  | none=>rfl
  | some o =>
    rw [e l o q] at h
    cases h
theorem Same.seq {K:PySem.W.Frag} {H H':Hp} {a:Addr} {xs:List V} (e:Same H H') (h:SqL K H a xs):SqL K H' a xs:=by
 rcases h with (h|⟨o,h⟩)|h
 ·exact .inl (.inl (e _ _ h))
 ·exact .inl (.inr ⟨o,e _ _ h⟩)
 ·exact .inr h
end L2
end
section
namespace L2
open PySem PySem.Spec PyProof.Rows
section
variable {κ:Type} [DecidableEq κ]
end
section
end
section
variable {X:Cx} {o:Option V}
end
section
variable {X:Cx}
end
section
variable {X:Cx} {o e:Expr}
end
section
variable {X:Cx}
end
structure M1 (X:Cx) (o:Expr) (m:Str) (apos:Pos) (e:Expr) (cpos:Pos):Prop where
 base:attributeBase o m X.env (eval o X.env)=eval o X.env
 few:((backTo cpos (starEach [e] X.env)).all (fun x => !x.1) && (backToKw cpos (keywordEach [] X.env)).all (fun x=>x.1.isSome)
  && decide (([e]:List Expr).length+([]:List Keyword).length+(if ([]:List Keyword).isEmpty then 0 else 1)<30))=true
 line:(apos.endLine == cpos.line)=true
 trees:backTo cpos (starEach [e] X.env)=[(false,eval e X.env)]
section
variable {X:Cx} {o:Option V}
end
section
variable {X:Cx} {o e:Expr} {apos cpos:Pos}
end
section
variable {X:Cx}
end
section
variable {X:Cx}
end
end L2
namespace L2
open PySem PySem.Spec PyProof.Rows
section
variable {X:Cx}
end
section
variable {κ:Type} [DecidableEq κ]
end
end L2
end
section
namespace L2
open PySem PySem.Spec PyProof.Rows
section
variable {prog:Program} {w:World} {A:Around} {R:Result->Shared->Prop} {s:Shared}
theorem zcU {elt target iter:Expr} {ifs:List Expr} {scope:Scope} {pos:Pos} {it acc:Value} {env:Env} (I:Nat->Shared->Prop)
    (turn : ∀ n s, I n s -> wpAny (model prog w) A (pyNext it) (fun r s₁ => match r with
      | none=>R (.ok .next) s₁
      | some v=>wpAny (model prog w) A (letOwnedTupleGo target it v) (fun _ s₁=>wpAny (model prog w) A (assign target env v) (fun _ s₂ =>
          wpAny (model prog w) A (forIn ifs true fun c r=>if r=true then do let ok <- isTrue c env (eval c env);pure (ForInStep.yield ok) else pure (ForInStep.yield r)) (fun ok s₃ =>
            if ok=true then wpAny (model prog w) A (eval elt env) (fun x s₄ =>
              wpAny (model prog w) A (call (.builtin "list.append") [acc,x]) (fun _ s₅=>∃ m,m<n/\I m s₅) (fun _ _=>False) s₄) (fun _ _=>False) s₃
            else ∃ m,m<n/\I m s₃) (fun _ _=>False) s₂) (fun _ _=>False) s₁) (fun _ _=>False) s₁) (fun _ _=>False) s)
    (n:Nat) (h:I n s) :
    codeAny (model prog w) A (.compLoop (.ListComp elt [⟨target,iter,ifs,0⟩] scope pos) 0 it acc env) R s:=by
  refine codeAny_loop rfl I (fun n s hI=>?_) n h
  show wpAny _ A ((compTurn (.ListComp elt [⟨target,iter,ifs,0⟩] scope pos) 0 it acc env).onRaise (fun x=>do noteFrame x env;theTreesLotGoes x)) _ _ s
  refine wpAny_noted ?_
  rw [compTurn_list]
  refine wpAny_bind (wpAny_standAt (wpAny_bind (wpAny_mono (turn n s hI) (fun r s₁ h₁=>?_) fun _ _ h'=>h'.elim)))
  cases r with
  | none=>exact wpAny_pure h₁
  | some v =>
    refine wpAny_bind (wpAny_mono h₁ (fun _ s₁ h₁=>?_) fun _ _ h'=>h'.elim)
    refine wpAny_bind (wpAny_mono h₁ (fun _ s₂ h₂=>wpAny_bind (wpAny_mono h₂ (fun ok s₃ h₃=>?_) fun _ _ h'=>h'.elim)) fun _ _ h'=>h'.elim)
    cases ok with
    | false=>exact wpAny_pure ⟨rfl,h₃⟩
    | true =>
      exact wpAny_bind (wpAny_bind (wpAny_mono h₃ (fun x s₄ h₄=>wpAny_bind (wpAny_mono h₄ (fun _ s₅ h₅=>wpAny_pure (wpAny_pure ⟨rfl,h₅⟩)) fun _ _ h'=>h'.elim)) fun _ _ h'=>h'.elim))
end
def jX (cells:List (Str × Addr)):List (Str × NameKind)->List (Str × Addr)->List (Str × Addr)
 | [],acc=>acc
 | (n,k)::r,acc=>jX cells r (if k == .free then match cells.lookup n with|some c=>(n,c)::acc|none=>acc else acc)
theorem kO {env:Env}:∀ (names:List (Str × NameKind)) (acc:List (Str × Addr)),(∀ y∈names,y.2 = .free->∃ c,env.cells.lookup y.1=some c) ->
    (forIn names acc (fun (x:Str × NameKind) (cs:List (Str × Addr))=>(if x.2 == .free then (do let a <- cellOf env x.1;pure (ForInStep.yield ((x.1,a)::cs))) else pure (ForInStep.yield cs):Sem (ForInStep (List (Str × Addr))))))=pure (jX env.cells names acc)
  | [],acc,_=>rfl
  | (n,k)::r,acc,h=>by
    rw [List.forIn_cons]
    have hr:=fun a=>kO r a fun y hy=>h y (List.mem_cons_of_mem _ hy)
    by_cases hk:k = .free
    . subst hk
      obtain ⟨c,e⟩:=h (n,.free) List.mem_cons_self rfl
      have ec:cellOf env n=pure c:=by unfold cellOf;rw [e]
      simp only [beq_self_eq_true,if_true,ec,jX,e]
      exact hr _
    . have hb:(k == NameKind.free)=false:=by simpa using hk
      simp only [hb,Bool.false_eq_true,if_false,jX]
      exact hr _
theorem zbA {scope:Scope} {env:Env} (h:∀ y∈scope.names,y.2 = .free->∃ c,env.cells.lookup y.1=some c):closureFor scope env=pure (jX env.cells scope.names []):=by
 have q:=kO (env:=env) scope.names [] h
 unfold closureFor
 show (forIn scope.names [] _ >>= fun cs=>pure cs)=_
 first
  | (rw [show (forIn scope.names [] _:Sem (List (Str × Addr)))=_ from q];rfl)
  | (erw [q];rfl)
end L2
end
section
namespace L2
open PySem PySem.Spec PyProof.Rows
def zpK (y:Str):Str:=⟨#[0]++y.cps⟩
def kP (own N:List Str):List Str:=own++N.map fun y=>if own.contains y then zpK y else y
def yA (X:Cx) (own:List Str) (scope:Scope) (C:Addr) (fp:List Addr) (s:Shared) (H:Hp):Cx :=
 { X with N:=kP own X.N,s₀:=s,H₀:=H,env:=compEnvC scope (jX X.env.cells scope.names []) C X.env,outer:=X.stack,stack:=X.stack,ex:=fp,fn:=fun x=>own.contains x,pn:=[],xe:=fun _ _=>False }
structure CompScope (own N:List Str) (sc scope:Scope):Prop where
 nd:(kP own N).Nodup
 kind:scope.kind = .function
 nocell:∀ y∈scope.names,y.2 ≠ .cell
 loc:∀ y∈scope.names,y.2 = .local->scope.names.lookup y.1=some .local
 fr:∀ y∈scope.names,y.2 = .free->scope.names.lookup y.1=some .free
 up:∀ y∈scope.names,y.2 = .free->sc.names.lookup y.1=some .cell\/sc.names.lookup y.1=some .free
 ow:∀ x∈own,scope.names.lookup x=some .local
 mask:∀ x∈own,scope.names.lookup (zpK x)=none
 only:∀ y∈scope.names,y.2 = .local->y.1∈own\/y.1 ∉ N
theorem csK {own N:List Str} {sc scope:Scope} (nd:(kP own N).Nodup:=by decide +kernel) (kind:scope.kind = .function:=by rfl) (nocell:∀ y∈scope.names,y.2 ≠ .cell:=by decide +kernel) (loc:∀ y∈scope.names,y.2 = .local->scope.names.lookup y.1=some .local:=by decide +kernel) (fr:∀ y∈scope.names,y.2 = .free->scope.names.lookup y.1=some .free:=by decide +kernel) (up:∀ y∈scope.names,y.2 = .free->sc.names.lookup y.1=some .cell\/sc.names.lookup y.1=some .free:=by decide +kernel) (ow:∀ x∈own,scope.names.lookup x=some .local:=by decide +kernel) (mask:∀ x∈own,scope.names.lookup (zpK x)=none:=by decide +kernel) (only:∀ y∈scope.names,y.2 = .local->y.1∈own\/y.1 ∉ N:=by decide +kernel):CompScope own N sc scope:=⟨nd,kind,nocell,loc,fr,up,ow,mask,only⟩
theorem vD {β:Type}:∀ {l:List (Str × β)} {x:Str} {k:β},l.lookup x=some k->(x,k)∈l
  | [],_,_,h=>by simp at h
  | (n,k')::r,x,k,h=>by
    rw [List.lookup_cons] at h
    by_cases e:x=n
    . subst e;simp at h;subst h;exact List.mem_cons_self
    . have:(x == n)=false:=by simpa using e
      rw [this] at h
      exact List.mem_cons_of_mem _ (vD h)
theorem tL {cells:List (Str × Addr)}:∀ (names:List (Str × NameKind)) (acc:List (Str × Addr)) (x:Str) (c:Addr),(jX cells names acc).lookup x=some c->(cells.lookup x=some c/\(x,NameKind.free)∈names)\/acc.lookup x=some c
  | [],acc,x,c,h=>.inr h
  | (n, k)::r, acc, x, c, h => by
    rw [jX] at h
    rcases tL r _ x c h with ⟨h1,h2⟩|h1
    . exact .inl ⟨h1,List.mem_cons_of_mem _ h2⟩
    . by_cases hk:k = .free
      . subst hk
        simp only [beq_self_eq_true,if_true] at h1
        cases e:cells.lookup n with
        | none=>rw [e] at h1;exact .inr h1
        | some c' =>
          rw [e] at h1
          dsimp only at h1
          rw [List.lookup_cons] at h1
          by_cases ex:x=n
          . subst ex;simp at h1;subst h1;exact .inl ⟨e,List.mem_cons_self⟩
          . have:(x == n)=false:=by simpa using ex
            rw [this] at h1;exact .inr h1
      . have hb:(k == NameKind.free)=false:=by simpa using hk
        rw [hb] at h1;exact .inr h1
theorem zfH {cells:List (Str × Addr)}:∀ (names:List (Str × NameKind)) (acc:List (Str × Addr)) (x:Str),(acc.lookup x).isSome=true->((jX cells names acc).lookup x).isSome=true
  | [],acc,x,h=>h
  | (n, k)::r, acc, x, h => by
    rw [jX]
    refine zfH r _ x ?_
    split
    . split
      . rw [List.lookup_cons];split
        . rfl
        . exact h
      . exact h
    . exact h
theorem zaR {cells:List (Str × Addr)}:∀ (names:List (Str × NameKind)) (acc:List (Str × Addr)) (x:Str) (c:Addr),(x,NameKind.free)∈names->cells.lookup x=some c->((jX cells names acc).lookup x).isSome=true
  | (n,k)::r,acc,x,c,hm,e=>by
    rw [jX]
    rcases List.mem_cons.mp hm with z|z
    . cases z
      refine zfH r _ _ ?_
      simp [e]
    . exact zaR r _ x c z e
section
variable {X:Cx} {own:List Str} {scope:Scope} {C:Addr} {fp:List Addr} {s:Shared} {H:Hp}
theorem wE {env:Env}:∀ {names:List (Str × NameKind)} {x:Str} {k:NameKind},
    (names.map fun (n,k)=>if (k == NameKind.free && env.scope.kind == .function && env.kindOf n == some .cell) then (n,NameKind.cell) else (n,k)).lookup x=some k ->
    ∃ k',names.lookup x=some k'/\(k=k'\/(k = .cell/\k' = .free))
  | [],_,_,h=>by simp at h
  | (n, k0)::r, x, k, h => by
    have ih:=@wE env r x k
    rw [List.map_cons] at h
    by_cases ex:x=n
    . subst ex
      refine ⟨k0,by simp,?_⟩
      dsimp only at h
      split at h
      . rename_i hc
        simp at h
        have:k0 = .free:=by
          simp only [Bool.and_eq_true,beq_iff_eq] at hc
          exact hc.1.1
        exact .inr ⟨h.symm,this⟩
      . simp at h;exact .inl h.symm
    . have hb:(x == n)=false:=by simpa using ex
      have h2:(r.map fun (n,k)=>if (k == NameKind.free && env.scope.kind == .function && env.kindOf n == some .cell) then (n,NameKind.cell) else (n,k)).lookup x=some k:=by
        dsimp only at h
        split at h <;> (rw [List.lookup_cons,hb] at h;exact h)
      obtain ⟨k',e,q⟩:=ih h2
      exact ⟨k',by rw [List.lookup_cons,hb];exact e,q⟩
theorem kN {env:Env} {x:Str}:(relabel scope env).names.lookup x=some .local->scope.names.lookup x=some .local:=fun h=>by
 obtain ⟨k',e,q⟩:=wE (env:=env) h
 rcases q with q|⟨q,_⟩
 ·rw [e, <- q]
 ·cases q
theorem qE {env:Env} {x:Str} (nc:∀ y∈scope.names,y.2 ≠ .cell):((relabel scope env).names.lookup x=some .cell\/(relabel scope env).names.lookup x=some .free)->scope.names.lookup x=some .free:=fun h=>by
 rcases h with h|h
 ·obtain ⟨k',e,q⟩:=wE (env:=env) h
  rcases q with q|⟨_,q⟩
  ·rw [<- q] at e;exact absurd rfl (nc _ (vD e))
  ·rw [e,q]
 ·obtain ⟨k',e,q⟩:=wE (env:=env) h
  rcases q with q|⟨q,_⟩
  ·rw [e, <- q]
  ·cases q
theorem zmA {pins:List (Addr × Obj)} {σ:St} (S:CompScope own X.N X.env.scope scope) (I:Inv X pins σ H s) (hC:s.heap.objs.size<=C) (hf:∀ b∈fp,rY X pins H b) (ho:∀ b∈fp,∃ o,s.heap.get? b=some o):(yA X own scope C fp s H).Ok:=by
 have cl:∀ x c,(jX X.env.cells scope.names []).lookup x=some c->X.env.cells.lookup x=some c/\(x,NameKind.free)∈scope.names:=fun x c e=>by
  rcases tL _ _ _ _ e with q|q
  ·exact q
  ·simp at q
 refine ⟨I.ok.mod,S.kind,I.ok.glob,I.ok.blt,hC,fun x y c h1 h2=>I.ok.inj x y c (cl x c h1).1 (cl y c h2).1,fun x hx=>?_,fun x c h1 h2=>?_,I.ok.hd,I.ok.frames,.inl rfl,fun b hb=>⟨?_,fun x c e=>(hf b hb).2.2.2.2.1 x c (cl x c e).1⟩,I.bs,Nat.le_trans I.ok.bsz I.sz,fun b o e hb=>?_,fun b hb z=>?_,I.stack,I.stkFree⟩
 ·have hx':((relabel scope X.env).names.lookup x=some .cell\/(relabel scope X.env).names.lookup x=some .free):=hx
  have q:=qE S.nocell hx'
  have m:=vD q
  obtain ⟨c,e⟩:=I.ok.has x (by rcases S.up _ m rfl with z|z;exact .inl z;exact .inr z)
  exact Option.isSome_iff_exists.mp (zaR scope.names [] x c m e)
 ·have h1':own.contains x=true:=h1
  have m:=(cl x c h2).2
  have l:=S.ow x (by simpa using h1')
  rw [S.fr _ m rfl] at l;cases l
 ·obtain ⟨o,e⟩:=ho b hb
  exact Nat.ne_of_lt (Nat.lt_of_lt_of_le (Heap.lt_size e) hC)
 ·rcases (hf b hb).2.2.2.1 with z|z
  ·exact I.ok.noex b o e z
  ·exact absurd (Nat.lt_of_lt_of_le (Heap.lt_size e) (Nat.le_trans I.ok.bsz z)) (Nat.lt_irrefl _)
 ·have z':b∈frs X.stack:=z
  rcases List.mem_cons.mp (I.stkSub b z') with q|q
  ·exact (hf b hb).2.1 q
  ·exact (hf b hb).2.2.1 q
theorem zjF {pins:List (Addr × Obj)} {σ:St} {h':Heap} {t':Nat} {m:Str->Option Value} {H':Hp} (S:CompScope own X.N X.env.scope scope) (I:Inv X pins σ H s) (hC:s.heap.objs.size<=C) (hf:∀ b∈fp,rY X pins H b) (ho:∀ b∈fp,∃ o,s.heap.get? b=some o)
    (hk:∀ b o,s.heap.get? b=some o->h'.get? b=some o) (hn:h'.Ns C m) (hU:Un (frs X.stack) fp H H' s.heap h') (hok:HOk X.prog X.w H' h') (hC0:H' C=none) (hle:∀ b,b<s.heap.objs.size->H' b=H b) :
    Inv (yA X own scope C fp s H) [] (List.replicate own.length none ++ σ) H' { s with heap:=h',toks:=t' }:=by
  have cl:∀ x c,(jX X.env.cells scope.names []).lookup x=some c->X.env.cells.lookup x=some c/\(x,NameKind.free)∈scope.names:=fun x c e=>by
    rcases tL _ _ _ _ e with q|q
    . exact q
    . simp at q
  refine ⟨zmA S I hC hf ho,rfl,I.bare,hU,⟨m,hn,fun i x v h1 h2 h3=>?_⟩,fun x c e=>?_,hC0,fun x c e=>?_,fun p hp=>?_,hok,?_⟩
  . have h1':(kP own X.N)[i]?=some x:=h1
    by_cases hi:i<own.length
    . rw [List.getElem?_append_left (by simpa using hi),List.getElem?_replicate] at h2
      split at h2 <;> cases h2
    . rw [List.getElem?_append_right (by simpa using hi),List.length_replicate] at h2
      unfold kP at h1'
      rw [List.getElem?_append_right (by simpa using hi),List.getElem?_map] at h1'
      cases ey:X.N[i - own.length]? with
      | none=>rw [ey] at h1';cases h1'
      | some y =>
        rw [ey] at h1'
        have ex:(if own.contains y then zpK y else y)=x:=by simpa using h1'
        have h3':(relabel scope X.env).names.lookup x=some .local\/(relabel scope X.env).names.lookup x=some .cell\/(relabel scope X.env).names.lookup x=some .free:=h3
        by_cases hyo:own.contains y=true
        . rw [if_pos hyo] at ex
          subst ex
          have none:=S.mask y (by simpa using hyo)
          rcases h3' with z|z
          . rw [kN z] at none;cases none
          . rw [qE S.nocell z] at none;cases none
        . rw [if_neg hyo] at ex
          subst ex
          rcases h3' with z|z
          . rcases S.only _ (vD (kN z)) rfl with q|q
            . exact absurd (by simpa using q) hyo
            . exact absurd (List.mem_of_getElem? ey) q
          . have q:=qE S.nocell z
            have mm:=vD q
            have up:=S.up _ mm rfl
            obtain ⟨m0,_,hl⟩:=I.loc
            obtain ⟨u,r,l⟩:=hl _ y v ey h2 (.inr up)
            refine ⟨u,r,.inr ⟨z,?_⟩⟩
            rcases l with ⟨k,_⟩|⟨k,c,e,ic⟩
            . have k':X.env.scope.names.lookup y=some .local:=k
              rcases up with u1|u1 <;> (rw [u1] at k';cases k')
            . obtain ⟨c',e'⟩:=Option.isSome_iff_exists.mp (zaR scope.names [] y c mm e)
              have e2:=(cl y c' e').1
              rw [e] at e2;cases e2
              obtain ⟨o,g1,g2⟩:=ic
              exact ⟨c,e',o,hk _ _ g1,g2⟩
  . obtain ⟨v,o,g1,g2⟩:=I.cell x c (cl x c e).1
    exact ⟨v,o,hk _ _ g1,g2⟩
  . obtain ⟨v,o,g1,g2⟩:=I.cell x c (cl x c e).1
    rw [hle c (Heap.lt_size g1)]
    exact I.freeC x c (cl x c e).1
  . exact absurd (show p∈([]:List (Addr × Obj)) from hp) (by simp)
  . show (List.replicate own.length none ++ σ).length=(kP own X.N).length
    unfold kP
    rw [List.length_append,List.length_append,List.length_replicate,List.length_map,I.len]
theorem Inv.behind {pins:List (Addr × Obj)} {σ σ':St} {pins':List (Addr × Obj)} {H':Hp} {s':Shared} (I:Inv X pins σ H s) (hf:∀ b∈fp,rY X pins H b) (J:Inv (yA X own scope C fp s H) pins' σ' H' s'):Inv X pins σ H' s':=by
 refine I.call' J.os J.base J.hok J.bare fun b hb=>?_
 obtain ⟨h0,h1,h2,h3,h4,h5⟩:=hf b hb
 exact ⟨h3,h1,h4,h5⟩
end
end L2
end
section
namespace L2
open PySem PySem.Spec PyProof.Rows
def PTs (Y:Cx) (ifs:List Expr) (t:TT):Prop :=
 ∀ (pins:List (Addr × Obj)) (s:Shared) (σ:St) (H:Hp) (Q:Bool->Hp->Prop),Inv Y pins σ H s->t σ H Q ->
  wpAny (model Y.prog Y.w) Y.A (forIn ifs true fun c r=>if r=true then do let ok <- isTrue c Y.env (eval c Y.env);pure (ForInStep.yield ok) else pure (ForInStep.yield r)) (TP Y pins σ Q) Y.xe s
def vB:TT:=fun _ H Q=>Q true H
theorem zxM {Y:Cx}:PTs Y [] vB:=fun _ _ _ H _ I h=>wpAny_tests_nil ⟨H,I,h⟩
theorem zuV {Y:Cx} {c:Expr} {t:TT} (h:PT Y c t):PTs Y [c] t:=fun pins s σ H Q I q=>wpAny_tests_one (h pins s σ H Q I q)
def jY (no:Nat) (J:It) (g:TG) (tt:TT) (te:TE) (σ:St) (H1:Hp) (Q:VK):Prop:=∀ D,H1 D=none ->
 ∃ W : Nat -> Nat -> St -> Hp -> Prop, (∃ m, W 0 m (List.replicate no none ++ σ) (upd H1 D (.lst []))) /\ ∀ i m σ' H', W i m σ' H' ->
  (J.stop i H'/\Q (.ref D) H')\/(J.go i H'/\∀ x H2,J.yld i H' x H2->g x σ' H2 fun σ3 H3=>tt σ3 H3 fun b H4 =>
   if b=true then te σ3 H4 fun v H5=>∃ xs,H5 D=some (.lst xs)/\xs.length<sizeLine/\∃ m',m'<m/\W (i+1) m' σ3 (upd H5 D (.lst (xs++[v]))) else ∃ m',m'<m/\W (i+1) m' σ3 H4)
def wK (no:Nat) (wi:TI) (g:TG) (tt:TT) (te:TE):TE:=fun σ H Q=>wi σ H fun J H1=>jY no J g tt te σ H1 Q
section
variable {X:Cx} {own:List Str} {scope:Scope} {elt tg iter:Expr} {ifs:List Expr} {pos:Pos} {wi:TI} {g:TG} {tt:TT} {te:TE}
theorem zaJ {pins:List (Addr × Obj)} {σ:St} {H:Hp} {s:Shared} {it:Addr} {fp:List Addr} {tn:Nat->Heap->Prop} {J:It} {Q:VK} {RR:Value->Addr->Result->Shared->Prop} {E:Value->Shared->Prop}
    (hc:X.calm=true) (S:CompScope own X.N X.env.scope scope)
    (hg:∀ C fp s H,PG (yA X own scope C fp s H) tg g) (ht:∀ C fp s H,PTs (yA X own scope C fp s H) ifs tt) (he:∀ C fp s H,PE (yA X own scope C fp s H) elt te)
    (I:Inv X pins σ H s) (T:Turn X.prog X.w X.K tg J fp it tn) (st:tn 0 s.heap) (hf:∀ b∈fp,rY X pins H b)
    (h:jY own.length J g tt te σ H Q)
    (hRR:∀ D C s' H' m,Inv X pins σ H' s'->s'.heap.Ns C m->H' C=none->s.heap.objs.size<=C->Q (.ref D) H'->RR (.ref D) C (.ok .next) s') :
    wpAny (model X.prog X.w) X.A (newList []) (fun acc s₃=>wpAny (model X.prog X.w) X.A (newFunctionEnv scope X.env.globals (jX X.env.cells scope.names []) [] X.env.qual none .none (some X.env)) (fun cenv s₄ =>
      codeAny (model X.prog X.w) X.A (.compStart (.ListComp elt [⟨tg,iter,ifs,0⟩] scope pos) 0 (.ref it) acc { cenv with scope:=relabel scope X.env }) (RR acc cenv.locals) s₄) E s₃) E s:=by
  refine wpAny_newObj_type (wpAny_newFunctionEnv S.nocell (by intro y hy;simp at hy) (fun h₁ hns₁ hsb₁=>?_) S.kind)
  dsimp only at hns₁ hsb₁ ⊢
  generalize hH2:s.heap.push { cls:=.type "list",dict:=none,data:=.seq ([]:List Value).toArray }=H2 at hns₁ hsb₁ ⊢
  have hC:H2.objs.size=s.heap.objs.size+1:=by rw [<- hH2,Heap.size_push]
  have hDC:s.heap.objs.size≠H2.objs.size:=by rw [hC];exact Nat.ne_of_lt (Nat.lt_succ_self _)
  have hCle:s.heap.objs.size<=H2.objs.size:=by rw [hC];exact Nat.le_succ _
  have below:∀ b,b<s.heap.objs.size->b≠H2.objs.size:=fun b hb=>by rw [hC];exact Nat.ne_of_lt (Nat.lt_succ_of_lt hb)
  have old:∀ b o,s.heap.get? b=some o->h₁.get? b=some o:=fun b o e=>hsb₁.extBut b o (below b (Heap.lt_size e)) (Heap.get?_push_of_some _ (hH2 ▸ Heap.get?_push_of_some _ e))
  have hacc:h₁.get? s.heap.objs.size=some { cls:=.type "list",dict:=none,data:=.seq ([]:List Value).toArray }:=hsb₁.extBut _ _ hDC (Heap.get?_push_of_some _ (hH2 ▸ Heap.get?_push_size _ rfl))
  have ho:∀ b∈fp,∃ o,s.heap.get? b=some o:=fun b hb=>let ⟨o,e,_⟩:=T.obj _ _ st b hb;⟨o,e⟩
  have fresh:∀ a,s.heap.objs.size<=a->H a=none:=fun a ha=>I.hok.fresh ha
  generalize hD:s.heap.objs.size=D at *
  generalize hCC:H2.objs.size=C at *
  have I1:Inv (yA X own scope C fp s H) [] (List.replicate own.length none ++ σ) (upd H D (.lst [])) { s with heap:=h₁,toks:=s.toks+([]:List (Str × Value)).length }:=by
    refine zjF S I (by rw [hD];exact hCle) hf ho old hns₁ (Un.laid old (by rw [hD];exact Nat.le_refl _) (fresh D (Nat.le_refl _))) (I.hok.laid old (by rw [hD];exact Nat.le_refl _) ?_) ?_ fun b hb=>?_
    . exact ⟨Nat.zero_le _,[],0,.nil,hacc⟩
    . rw [zP (Ne.symm hDC)];exact fresh C hCle
    . rw [hD] at hb;rw [zP (Nat.ne_of_lt hb)]
  obtain ⟨W,⟨m0,w0⟩,turn⟩:=h D (fresh D (Nat.le_refl _))
  have fpY:∀ {H':Hp},(∀ b∈fp,H' b=none)->∀ b∈fp,rY (yA X own scope C fp s H) [] H' b:=fun hn b hb=>by
    obtain ⟨q0,q1,q2,q3,q4,q5⟩:=hf b hb
    refine ⟨hn b hb,I1.ok.exf b hb |>.1,I1.ok.exfs b hb,.inl hb,I1.ok.exf b hb |>.2,fun p hp=>absurd (show p∈([]:List (Addr × Obj)) from hp) (by simp)⟩
  have loop:codeAny (model X.prog X.w) X.A (.compLoop (.ListComp elt [⟨tg,iter,ifs,0⟩] scope pos) 0 (.ref it) (.ref D) (compEnvC scope (jX X.env.cells scope.names []) C X.env)) (RR (.ref D) C) { s with heap:=h₁,toks:=s.toks+([]:List (Str × Value)).length }:=by
    refine zcU (fun n s'=>∃ i σ' H',Inv (yA X own scope C fp s H) [] σ' H' s'/\tn i s'.heap/\(∀ b∈fp,H' b=none)/\W i n σ' H') ?_ m0
      ⟨0,_,_,I1,T.keep _ _ _ st fun b _ o e=>old b o e,fun b hb=>?_,w0⟩
    . rintro n s3 ⟨i,σ3,H3,I3,st3,fr3,w3⟩
      rcases turn i n σ3 H3 w3 with ⟨stop,qn⟩|⟨go,step⟩
      . refine xQ (T.done (yA X own scope C fp s H) rfl rfl rfl hc i [] s3 σ3 H3 _ I3 (fpY fr3) st3 stop) fun r s4 ⟨hr,I4⟩=>?_
        subst hr
        obtain ⟨m,hm,_⟩:=I4.loc
        exact hRR D C s4 H3 m (I.behind hf I4) hm I4.free hCle qn
      . refine xQ (T.item (yA X own scope C fp s H) rfl rfl rfl hc i [] s3 σ3 H3 _ I3 (fpY fr3) st3 go) fun r s4 ⟨u,hr,h4⟩=>?_
        subst hr
        dsimp only
        refine xQ h4 fun _ s5 ⟨x,H5,I5,r5,y5,st5,fr5⟩=>?_
        have I5':=I5.pinned (fpY fr5) (T.obj _ _ st5)
        refine xQ (hg C fp s H _ s5 σ3 H5 x u _ I5' r5 (step x H5 y5)) fun _ s6 ⟨σ6,H6,I6,q6⟩=>?_
        refine xQ (ht C fp s H _ s6 σ6 H6 _ I6 q6) fun b s7 ⟨H7,I7,q7⟩=>?_
        have again:∀ {s8:Shared} {σ7:St} {H7:Hp},Inv (yA X own scope C fp s H) ([]++zaD fp s5.heap) σ7 H7 s8->(∃ m',m'<n/\W (i+1) m' σ7 H7)->∃ m,m<n/\∃ i σ' H',Inv (yA X own scope C fp s H) [] σ' H' s8/\tn i s8.heap/\(∀ b∈fp,H' b=none)/\W i m σ' H':=fun {s8 σ7 H7} I7 n7=>by
          obtain ⟨m',hm,w7⟩:=n7
          refine ⟨m',hm,i+1,σ7,H7,I7.unpinned,T.keep _ _ _ st5 fun b hb o e=>(I7.pin (b,o) (List.mem_append_right _ (List.mem_append_right _ (jC hb e)))).1,fun b hb=>?_,w7⟩
          obtain ⟨o,e,d⟩:=T.obj _ _ st5 b hb
          exact (I7.pin (b,o) (List.mem_append_right _ (List.mem_append_right _ (jC hb e)))).2.1
        cases b with
        | false =>
          rw [if_neg (by simp)] at q7
          exact again I7 q7
        | true =>
          rw [if_pos rfl] at q7 ⊢
          refine xQ (he C fp s H _ s7 σ6 H7 _ I7 q7) fun u8 s8 ⟨v,H8,I8,r8,xs,hx,hz,q8⟩=>?_
          refine xQ (zcF (X:=yA X own scope C fp s H) _ s8 σ6 H8 (.ref D) [v] (.ref D) [u8] (fun _ H9=>∃ m',m'<n/\W (i+1) m' σ6 H9) I8 rfl (.cons r8 .nil) ⟨D,xs,v,rfl,rfl,hx,hz,q8⟩) fun _ s9 ⟨_,H9,I9,_,q9⟩=>?_
          exact again I9 q9
    . have lt:b<D:=by
        obtain ⟨o,e⟩:=ho b hb
        exact hD ▸ Heap.lt_size e
      rw [zP (Nat.ne_of_lt lt)]
      exact (hf b hb).1
  exact codeAny_compStart_list loop (T.self _ 0 _ _ _ (T.keep _ _ _ st fun b _ o e=>old b o e) loop)
theorem zbW {pins:List (Addr × Obj)} {σ:St} {H:Hp} {s:Shared} (S:CompScope own X.N X.env.scope scope) (I:Inv X pins σ H s):closureFor scope X.env=pure (jX X.env.cells scope.names []) :=
 zbA fun y hy hk=>I.ok.has y.1 (by rcases S.up y hy hk with z|z;exact .inl z;exact .inr z)
theorem Inv.letgo {pins:List (Addr × Obj)} {σ:St} {H':Hp} {s':Shared} {h':Heap} {C:Addr} {z:Nat} (I:Inv X pins σ H' s') (hC:H' C=none) (h0:X.s₀.heap.objs.size<=z) (hz:z<=C) (hL:X.env.locals<z) (hcl:∀ x c,X.env.cells.lookup x=some c->c<z) (hp:∀ p∈X.pn++pins,p.1<z) (hs:Heap.SameBut C s'.heap h'):Inv X pins σ H' { s' with heap:=h' } :=
 I.turned (t':=s'.toks) (it:=C) (fun b o hb e=>hs.extBut b o hb e) hC (Nat.ne_of_gt (Nat.lt_of_lt_of_le hL hz)) (.inr (Nat.le_trans h0 hz)) (fun x c e=>Nat.ne_of_lt (Nat.lt_of_lt_of_le (hcl x c e) hz)) fun p hq=>Nat.ne_of_lt (Nat.lt_of_lt_of_le (hp p hq) hz)
theorem zxG {N0 P0:List Str} {sc:Scope} (S0:FnScope N0 P0 sc) (hc:X.calm=true) (S1:CompScope own N0 sc scope) (hi:PI X tg iter wi)
  (hg:∀ C fp s H,(kP own N0).Nodup->PG (yA X own scope C fp s H) tg g) (ht:∀ C fp s H,PTs (yA X own scope C fp s H) ifs tt) (he:∀ C fp s H,PE (yA X own scope C fp s H) elt te)
  (hs:∀ x,foldedSetIterable iter X.env x=pure x:=by intro _;rfl) (hN0:X.N=N0:=by rfl) (hsc:X.env.scope=sc:=by rfl):PE X (.ListComp elt [⟨tg,iter,ifs,0⟩] scope pos) (wK own.length wi g tt te):=by
 intro pins s σ H Q I h
 subst hN0 hsc
 have S:=S1
 replace hg:=fun C fp s H=>hg C fp s H S1.nd
 rw [eval_ListComp]
 refine wpAny_comprehension_free (use:=none) rfl hs (zbW S I) S.kind S.loc (xQ (hi pins s σ H _ I h) fun xv s₁ h₁=>xQ h₁ fun itv s₂ h₂=>?_)
 obtain ⟨it,fp,tn,J,H2,rfl,I2,T,st2,f2,q2⟩:=h₂
 refine zaJ (Q:=Q) hc S hg ht he I2 T st2 f2 q2 ?_
 intro D C s' H' m I' hm hC hCle q
 refine ⟨m,hm,fun h' hs'=>⟨.ref D,H',?_,rfl,q⟩⟩
 exact I'.letgo hC I2.sz hCle I2.lt (fun x c e=>let ⟨v,z⟩:=I2.cell x c e;z.lt) (fun p hp=>Heap.lt_size (I2.pin p hp).1) hs'
theorem zvW {i:Nat} {x:Str} {pos' spos:Pos} {N0 P0:List Str} {sc:Scope} (S0:FnScope N0 P0 sc) (hc:X.calm=true) (S1:CompScope own N0 sc scope) (hi:PI X tg iter wi)
  (hg:∀ C fp s H,(kP own N0).Nodup->PG (yA X own scope C fp s H) tg g) (ht:∀ C fp s H,PTs (yA X own scope C fp s H) ifs tt) (he:∀ C fp s H,PE (yA X own scope C fp s H) elt te)
  (hN:X.N.Nodup) (hiN:X.N[i]?=some x) (hx:Loc X.env.scope x)
  (hsw:swapsWith (.ListComp elt [⟨tg,iter,ifs,0⟩] scope pos) (some (.Name x pos')) spos.line X.env=pure true)
  (hs:∀ x,foldedSetIterable iter X.env x=pure x:=by intro _;rfl) (hf:X.fn x=true\/X.env.scope.names.lookup x=some .local:=by first|exact .inl rfl|exact .inr rfl|assumption) (hN0:X.N=N0:=by rfl) (hsc:X.env.scope=sc:=by rfl) :
  PS X (.Assign [.Name x pos'] (.ListComp elt [⟨tg,iter,ifs,0⟩] scope pos) spos) (jP (wK own.length wi g tt te) (yK i)):=by
 intro pins s σ H D I h
 subst hN0 hsc
 have S:=S1
 replace hg:=fun C fp s H=>hg C fp s H S1.nd
 rw [exec_Assign_Name_used _ _ _ _ hsw]
 refine wpAny_bind (wpAny_standAt (wpAny_bind ?_))
 show wpAny _ X.A (do let _ <- comprehension (.ListComp elt [⟨tg,iter,ifs,0⟩] scope pos) scope X.env _ (newList []) false (eval iter X.env) (some (assign (.Name x pos') X.env))) _ _ s
 refine wpAny_bind (wpAny_mono (wpAny_comprehension_free (use:=some (assign (.Name x pos') X.env)) (Q:=fun _ s'=>SP X pins D .next s') rfl hs (zbW S I) S.kind S.loc
  (xQ (hi pins s σ H _ I h) fun xv s₁ h₁=>xQ h₁ fun itv s₂ h₂=>?_)) (fun _ s' hq=>wpAny_pure (wpAny_pure hq)) fun _ _ e=>e)
 obtain ⟨it,fp,tn,J,H2,rfl,I2,T,st2,f2,q2⟩:=h₂
 refine zaJ (Q:=fun v H=>D.nx (σ.set i (some v)) H) hc S hg ht he I2 T st2 f2 q2 ?_
 intro Dl C s' H' m I' hm hC hCle q
 have hL:=I2.lt
 have hcl:∀ x c,X.env.cells.lookup x=some c->c<s₂.heap.objs.size:=fun x c e=>let ⟨v,z⟩:=I2.cell x c e;z.lt
 show wpAny _ X.A (assign (.Name x pos') X.env (.ref Dl)) _ _ _
 refine wpAny_assign_Name (zcK I' hN hiN hx (v:=.ref Dl) rfl (fun s'' I'' ⟨a,sb,ha⟩=>?_) hf)
 have ne:C≠a:=by
  rcases ha with rfl|ha
  ·exact Nat.ne_of_gt (Nat.lt_of_lt_of_le hL hCle)
  ·exact Nat.ne_of_gt (Nat.lt_of_lt_of_le (hcl _ _ ha) hCle)
 refine ⟨m,hm.sameBut sb ne,fun h' hs'=>⟨_,H',?_,q⟩⟩
 exact I''.letgo hC I2.sz hCle hL hcl (fun p hp=>Heap.lt_size (I2.pin p hp).1) hs'
end
end L2
end
section
namespace L2
open PySem PySem.Spec PyProof.Rows
open PySem.W (Dat kqdP kqdPs kqdOk)
section
variable {X:Cx}
theorem zL:jQ X (binaryOp .Mult) (rI IntMulOk fun i j=>.int (i*j)):=opI fun _ _ _ _ _ _ _ hc q=>mul_int q hc
def zfF (i j:Int):Prop:=j≠0/\j.natAbs.log2<9000
theorem wH:jQ X (binaryOp .FloorDiv) (rI zfF fun i j=>.int (i.fdiv j)):=opI fun _ _ _ _ _ _ _ hc q=>floordiv_int hc.1 q (.inl (PyProof.noPylong_of_log2 hc.2))
end
def IsX (C:Value) (e:Addr):Heap->Prop:=fun h=>∃ o,h.get? e=some o/\o.cls=C/\o.dict=none/\∃ fs,o.data = .fields fs
def XN (K:PySem.W.Frag) (c:Array UInt8) (C:Value):Prop:=PySem.W.nsIn K mainGlobals ⟨c.map (·.toNat)⟩=some (some C)
def XAt (K:PySem.W.Frag) (H:Hp) (a:Addr) (c:Array UInt8):Prop:=∃ ob C,H a=some (.frz ob (.ext (IsX C a)))/\XN K c C
mutual
inductive Is (K:PySem.W.Frag) (H:Hp):V->Dat->Prop
 | none:Is K H .non .none
 | bool (b:Bool):Is K H (.bl b) (.bool b)
 | int (i:Int):Is K H (.int i) (.int i)
 | str (x:Str):Is K H (.str x) (.str x)
 | tup {a:Addr} {xs:List V} {ds:List Dat}:SqT K H a xs->Iss K H xs ds->Is K H (.ref a) (.tuple ds)
 | lst {a:Addr} {xs:List V} {ds:List Dat}:SqL K H a xs->Iss K H xs ds->Is K H (.ref a) (.list ds)
 | exc {a:Addr} {c:Array UInt8}:XAt K H a c->Is K H (.ref a) (.bytes c)
inductive Iss (K:PySem.W.Frag) (H:Hp):List V->List Dat->Prop
 | nil:Iss K H [] []
 | cons {x:V} {d:Dat} {xs:List V} {ds:List Dat}:Is K H x d->Iss K H xs ds->Iss K H (x::xs) (d::ds)
end
theorem Same.tup {K:PySem.W.Frag} {H H':Hp} {a:Addr} {xs:List V} (e:Same H H') (h:SqT K H a xs):SqT K H' a xs:=by
 rcases h with (h|⟨o,h⟩)|h
 ·exact .inl (.inl (e _ _ h))
 ·exact .inl (.inr ⟨o,e _ _ h⟩)
 ·exact .inr h
theorem Same.new {H:Hp} {p:Addr} (h:H p=Option.none) (o:HO):Same H (upd H p o):=fun b u q=>by rw [zP (zZ q h)];exact q
section
variable {K:PySem.W.Frag} {H H':Hp}
theorem aS (ns:List Int):Iss K H (ns.map V.int) (ns.map Dat.int):=by
 induction ns with
 | nil=>exact .nil
 | cons n ns ih=>exact .cons (.int n) ih
end
section
variable {X:Cx} {pins:List (Addr × Obj)} {σ:St} {H:Hp} {s:Shared}
mutual
theorem Is.reads (I:Inv X pins σ H s):∀ {v:V} {d:Dat} {u:Value},Is X.K H v d->∀ n,kqdOk n d=true->RelV v u->∃ as,Reads s.heap u (kqdP d) as
  | _,_,_,.none,_,_,r=>by cases (show _=Value.none from r);exact ⟨_,.none⟩
  | _,_,_,.bool b,_,_,r=>by cases (show _=Value.bool b from r);exact ⟨_,.bool b⟩
  | _,_,_,.int i,_,_,r=>by obtain ⟨t,rfl⟩:=r;exact ⟨_,.int i t⟩
  | _,_,_,.str x,_,_,r=>by obtain ⟨t,rfl⟩:=r;exact ⟨_,.str x t⟩
  | _,_,_,.tup (a:=a) h q,0,ok,r=>by simp [kqdOk] at ok
  | _,_,_,.tup (a:=a) h q,n+1,ok,r=>by
    cases (show _=Value.ref a from r)
    obtain ⟨its,rv,⟨o,e,c,n2,d⟩,_⟩:=I.tuple h
    obtain ⟨as,z⟩:=Iss.reads I q n (by rw [kqdOk] at ok;exact ok) rv
    rw [kqdP]
    exact ⟨as,.tuple e c d (by simpa using z)⟩
  | _,_,_,.lst (a:=a) h q,0,ok,r=>by simp [kqdOk] at ok
  | _,_,_,.lst (a:=a) h q,n+1,ok,r=>by
    cases (show _=Value.ref a from r)
    obtain ⟨its,rv,⟨o,n2,e,c,_,d⟩,_⟩:=I.list h
    obtain ⟨as,z⟩:=Iss.reads I q n (by rw [kqdOk] at ok;exact ok) rv
    rw [kqdP]
    exact ⟨_,.list e c d (by simpa using z)⟩
  | _,_,_,.exc h,n,ok,r=>by cases n <;> simp [kqdOk] at ok
theorem Iss.reads (I:Inv X pins σ H s):∀ {v:List V} {d:List Dat} {u:List Value},Iss X.K H v d->∀ n,d.all (kqdOk n)=true->Vals v u->∃ as,ReadsAll s.heap u (kqdPs d) as
  | _,_,_,.nil,_,_,.nil=>⟨_,.nil⟩
  | _,_,_,.cons a r,n,ok,.cons b t=>by
    rw [List.all_cons,Bool.and_eq_true] at ok
    obtain ⟨as,p⟩:=Is.reads I a n ok.1 b
    obtain ⟨bs,q⟩:=Iss.reads I r n ok.2 t
    rw [kqdPs]
    exact ⟨_,.cons p q⟩
end
end
open Classical in
noncomputable def deq (d e:Dat):Bool:=decide (d=e)
open Classical in
theorem wQ (d:Dat):deq d d=true:=decide_eq_true rfl
open Classical in
theorem zqE {d e:Dat} (h:d=e):deq d e=true:=decide_eq_true h
open Classical in
theorem zhG {d e:Dat} (h:d≠e):deq d e=false:=decide_eq_false h
noncomputable def zgT (K:PySem.W.Frag) (n:Bool):R2:=fun x y H Q=>∃ d e,Is K H x d/\Is K H y e/\kqdOk 9 d=true/\kqdOk 9 e=true/\Q (.bl (if n then !deq d e else deq d e)) H
theorem zlD {d e:Dat} (h1:kqdOk 9 d=true) (h2:kqdOk 9 e=true):PyData.eqv (kqdP d) (kqdP e)=deq d e:=by
 have q:=PySem.W.kqd_eqv 9 d e 9 h1 h2
 by_cases z:d=e
 ·rw [zqE z];exact q.mpr z
 ·rw [zhG z];exact Bool.eq_false_iff.mpr fun x=>z (q.mp x)
theorem sM {d:Dat} (h:kqdOk 9 d=true):SeqAt.shaped (kqdP d)=true:=by
 have l:=PySem.W.kqd_lay 9 d h
 unfold SeqAt.shaped
 rw [l.1,Bool.true_and]
 exact decide_eq_true (Nat.le_trans l.2 (by decide))
section
variable {X:Cx}
theorem vG (hu:X.A.units+64<cLine):jQ X (compareOp .Eq) (zgT X.K false):=by
 intro pins s σ H x y v u Q I rx ry h
 obtain ⟨d,e,hd,he,o1,o2,q⟩:=h
 obtain ⟨as,ra⟩:=hd.reads I 9 o1 rx
 obtain ⟨bs,rb⟩:=he.reads I 9 o2 ry
 refine PyProof.Rows.eq_dataH ra rb (sM o1) (sM o2) hu ?_
 rw [zlD o1 o2]
 exact ⟨.bl _,H,I,rfl,q⟩
theorem tZ (hu:X.A.units+64<cLine):jQ X (compareOp .NotEq) (zgT X.K true):=by
 intro pins s σ H x y v u Q I rx ry h
 obtain ⟨d,e,hd,he,o1,o2,q⟩:=h
 obtain ⟨as,ra⟩:=hd.reads I 9 o1 rx
 obtain ⟨bs,rb⟩:=he.reads I 9 o2 ry
 refine PyProof.Rows.ne_dataH ra rb (sM o1) (sM o2) hu ?_
 rw [zlD o1 o2]
 exact ⟨.bl _,H,I,rfl,q⟩
theorem zmL (hc:X.calm=true):wZ X (.builtin "sum") (fun xs H Q=>∃ (a:Addr) (ns:List Int),xs=[.ref a]/\SqL X.K H a (ns.map V.int)/\Q (.int ns.sum) H):=by
  intro pins s σ H xs us Q I r h
  obtain ⟨a,ns,rfl,hl,q⟩:=h
  cases r with
  | cons r1 r2 =>
    cases r2
    cases (show _=Value.ref a from r1)
    obtain ⟨its,rv,pl,_⟩:=I.list hl
    obtain ⟨m,F⟩:=I.fr
    have hi:IntsAre its ns:=jF rv
    obtain ⟨xs,hxs⟩:=(IntsAre.allInts hi).items
    have e:numsOf its=ns:=hi.numsOf
    refine sum_intListG (xs:=xs) (I.ok.hd hc) (by rw [<- hxs];exact pl.isList) fun h' tk t' hk=>?_
    refine ⟨.int ns.sum,H,I.kept (t':=tk) hk,⟨t',?_⟩,q⟩
    have e2:numsOf its=(xs.map Prod.fst).toList:=by
      have:=nums_intItems (xs:=xs)
      rw [<- hxs] at this
      simpa using this
    rw [preSum_eq,List.take_of_length_le (by simp)]
    rw [<- e,e2,Array.toList_map]
end
end L2
end
section
namespace L2
open PySem PySem.Spec PyProof.Rows
section
variable {prog:Program} {w:World} {A:Around} {E:Value->Shared->Prop} {s:Shared}
theorem zdW {it t:Addr} {i:Nat} {its:Array Value} {x:Value} {Q:Value->Shared->Prop} (hit:s.heap.IsTupleIter it t i) (ht:s.heap.IsTuple t its) (hx:its[i]?=some x)
  (k:∀ g,g.IsTupleIter it t (i+1)->Heap.SameBut it s.heap g->Q x { s with heap:=g }):wpAny (model prog w) A (Builtin.SmallTypes.nextOf (.ref it)) Q E s:=by
 obtain ⟨o,g1,g2,g3⟩:=id hit
 obtain ⟨p,q1,_,n,q2⟩:=ht
 unfold Builtin.SmallTypes.nextOf
 refine wpAny_bind (wpAny_callSpecial?_slot (name:=Str.ofString "__next__") hit.typeIs F.slot_tuple_iterator_next (wpAny_call_entry F.slot_tuple_iterator_next hit.typeIs F.entry_tuple_iterator_next ?_ (F.args_tuple_iterator_next_1 _)))
 show wpAny _ _ (field (.ref it) 0 >>= _) _ _ s;refine wpAny_bind (wpAny_field g1 g3 (x:=.ref t) rfl ?_);show wpAny _ _ (if (Value.ref t == Value.none)=true then _ else _) _ _ s
 rw [if_neg (show ¬ ((Value.ref t == Value.none)=true) from Bool.false_ne_true)];show wpAny _ _ (field (.ref it) 1 >>= _) _ _ s;refine wpAny_bind (wpAny_field g1 g3 (x:=.int i 0) rfl ?_)
 show wpAny _ _ (seqItems? (.ref t) >>= _) _ _ s;refine wpAny_bind (wpAny_seqItems q1 q2 ?_);simp only [Int.toNat_natCast,hx]
 refine wpAny_bind (wpAny_setField g1 g3 (by simp) (wpAny_pure ⟨x,rfl,wpAny_pure (k _ ⟨_,Heap.get?_update_self _ g1 (Obj.isFreed_of_fields (Obj.data_mapFields g3 _)),(Obj.cls_mapFields ..).trans g2,?_⟩ (Heap.SameBut.update ..))⟩))
 rw [Obj.data_mapFields g3];simp [rawInt]
theorem ziZ {it t:Addr} {i:Nat} {its:Array Value} {Q:Value->Shared->Prop} (hh:A.handled=none) (hit:s.heap.IsTupleIter it t i) (ht:s.heap.IsTuple t its) (hx:its[i]?=none)
  (k:∀ g e,Heap.ExtBut it s.heap g->(∃ o,g.get? e=some o/\o.cls = .type "StopIteration")->E (.ref e) { s with heap:=g }):wpAny (model prog w) A (Builtin.SmallTypes.nextOf (.ref it)) Q E s:=by
 obtain ⟨o,g1,g2,g3⟩:=id hit
 obtain ⟨p,q1,_,n,q2⟩:=ht
 unfold Builtin.SmallTypes.nextOf
 refine wpAny_bind (wpAny_callSpecial?_slot (name:=Str.ofString "__next__") hit.typeIs F.slot_tuple_iterator_next (wpAny_call_entry F.slot_tuple_iterator_next hit.typeIs F.entry_tuple_iterator_next ?_ (F.args_tuple_iterator_next_1 _)))
 show wpAny _ _ (field (.ref it) 0 >>= _) _ _ s;refine wpAny_bind (wpAny_field g1 g3 (x:=.ref t) rfl ?_);show wpAny _ _ (if (Value.ref t == Value.none)=true then _ else _) _ _ s
 rw [if_neg (show ¬ ((Value.ref t == Value.none)=true) from Bool.false_ne_true)];show wpAny _ _ (field (.ref it) 1 >>= _) _ _ s;refine wpAny_bind (wpAny_field g1 g3 (x:=.int i 0) rfl ?_)
 show wpAny _ _ (seqItems? (.ref t) >>= _) _ _ s;refine wpAny_bind (wpAny_seqItems q1 q2 ?_);simp only [Int.toNat_natCast,hx]
 refine wpAny_bind (wpAny_rule (wpAny_bind (wpAny_setField g1 g3 (by simp) ?_)));show wpAny _ _ (newExc (.type "StopIteration") [] >>= _) _ _ _
 refine wpAny_bind ?_;simp only [newExc,newTuple];refine wpAny_bind (wpAny_newObj_type ?_ (by size_fits))
 refine wpAny_bind (m:=firstArgMember _ _) (wpAny_of_eq (a:=Value.none) (by first|rfl|(simp only [firstArgMember];rfl)) ?_);refine wpAny_newObj_type ?_ (by size_fits)
 simp only [raiseNew];refine wpAny_bind (wpAny_handled ?_);first|rw [show A.in1.handled=none from hh]|rw [hh]
 refine wpAny_bind (wpAny_pure (wpAny_throw ?_));exact k _ _ (((Heap.SameBut.update ..).extBut.push _).push _) ⟨_,Heap.get?_push_size _ rfl,rfl⟩
structure ZipAt (h:Heap) (z a b i1 i2 l1 l2:Addr) (xs ys:Array Value) (k:Nat) (f:Value):Prop where
 z:IsZip h z a b f
 a:IsPair h a (.ref i1) (.ref i2)
 b:∃ u v,IsPair h b u v
 i1:h.IsTupleIter i1 l1 k
 i2:h.IsTupleIter i2 l2 k
 l1:h.IsTuple l1 xs
 l2:h.IsTuple l2 ys
theorem zxP {z a b i1 i2 l1 l2:Addr} {k:Nat} {xs ys:Array Value} {x y:Value} {Q:Option Value->Shared->Prop} (D:ZipApart z a b i1 i2 l1 l2) (Z:ZipAt s.heap z a b i1 i2 l1 l2 xs ys k .none) (hx:xs[k]?=some x) (hy:ys[k]?=some y)
  (kq:∀ g,ZipAt g z a b i1 i2 l1 l2 xs ys (k+1) (rawInt s.heap.objs.size)->IsPair g s.heap.objs.size x y->(∀ c o,c≠z->c≠b->c≠i1->c≠i2->s.heap.get? c=some o->g.get? c=some o)->Q (some (.ref s.heap.objs.size)) { s with heap:=g }) :
  wpAny (model prog w) A (pyNext (.ref z)) Q E s:=by
 obtain ⟨hz,ha,⟨u,v,hb⟩,h1,h2,t1,t2⟩:=Z
 have hT:s.TypeIs (.ref z) "zip" := ⟨_,hz,rfl⟩
 unfold pyNext
 refine wpAny_bind (wpAny_attempt (wpAny_callSpecial?_slot (name:=Str.ofString "__next__") hT F.slot_zip_next (wpAny_call_entry F.slot_zip_next hT F.entry_zip_next ?_ (F.args_zip_next_1 _))))
 show wpAny _ _ (field (.ref z) 2 >>= _) _ _ _;refine wpAny_bind (wpAny_field hz rfl (x:=.bool false) rfl ?_);show wpAny _ _ (field (.ref z) 3 >>= _) _ _ _
 refine wpAny_bind (wpAny_field hz rfl (x:=.ref a) rfl ?_);refine wpAny_bind (wpAny_seqItems ha rfl ?_);show wpAny _ _ (Builtin.SmallTypes.ownedTupleIsFree (.ref z) >>= _) _ _ _
 refine wpAny_bind ?_;unfold Builtin.SmallTypes.ownedTupleIsFree;refine wpAny_bind (wpAny_field hz rfl (x:=.none) rfl (wpAny_pure ?_))
 simp only [if_true];refine wpAny_bind (wpAny_rule ?_);refine wpAny_bind (wpAny_field hz rfl (x:=.ref b) rfl ?_)
 refine wpAny_bind (wpAny_setField_rec hz (by simp) fun g₁ e₁ s₁=>?_)
 replace e₁:IsZip g₁ z a b .ellipsis:=e₁
 refine wpAny_bind ?_;simp only [List.zipIdx_cons,List.zipIdx_nil,List.forIn_cons,List.forIn_nil]
 refine wpAny_bind (wpAny_bind (wpAny_onRaise ?_));show wpAny _ _ (Builtin.SmallTypes.nextOf (.ref i1) >>= _) _ _ _
 refine wpAny_bind (zdW (h1.extBut s₁.extBut D.i1z) (t1.extBut s₁.extBut D.l1z) hx fun g₂ f₂ s₂=>wpAny_pure ?_)
 have b₂:IsPair g₂ b u v:=s₂.extBut _ _ D.TOi1 (s₁.extBut _ _ D.TOz hb)
 refine wpAny_bind (wpAny_seqItems b₂ rfl ?_);refine wpAny_bind (wpAny_updateSeq_pair b₂ fun g₃ b₃ s₃=>?_)
 replace b₃:IsPair g₃ b x v:=b₃
 refine wpAny_bind (wpAny_letGo (wpAny_pure ?_));refine wpAny_bind (wpAny_bind (wpAny_onRaise ?_));show wpAny _ _ (Builtin.SmallTypes.nextOf (.ref i2) >>= _) _ _ _
 refine wpAny_bind (zdW (((h2.extBut s₁.extBut D.i2z).extBut s₂.extBut D.i12.symm).extBut s₃.extBut D.TOi2.symm) (((t2.extBut s₁.extBut D.l2z).extBut s₂.extBut D.l2i1).extBut s₃.extBut D.l2TO) hy fun g₄ f₄ s₄=>wpAny_pure ?_)
 have b₄:IsPair g₄ b x v:=s₄.extBut _ _ D.TOi2 b₃
 refine wpAny_bind (wpAny_seqItems b₄ rfl ?_);refine wpAny_bind (wpAny_updateSeq_pair b₄ fun g₅ b₅ s₅=>?_)
 replace b₅:IsPair g₅ b x y:=b₅
 refine wpAny_bind (wpAny_letGo (wpAny_pure (wpAny_pure ?_)));refine wpAny_bind (wpAny_seqItems b₅ rfl ?_);refine wpAny_bind (wpAny_newTuple ?_)
 have sz:g₅.objs.size=s.heap.objs.size:=by rw [s₅.1,s₄.1,s₃.1,s₂.1,s₁.1]
 have e₅:IsZip g₅ z a b .ellipsis:=s₅.extBut _ _ D.TOz.symm (s₄.extBut _ _ D.i2z.symm (s₃.extBut _ _ D.TOz.symm (s₂.extBut _ _ D.i1z.symm e₁)))
 have k₅:∀ c o,c≠z->c≠b->c≠i1->c≠i2->s.heap.get? c=some o->g₅.get? c=some o:=fun c o c1 c2 c3 c4 e=>s₅.extBut _ _ c2 (s₄.extBut _ _ c4 (s₃.extBut _ _ c2 (s₂.extBut _ _ c3 (s₁.extBut _ _ c1 e))))
 have m₁:g₅.IsTupleIter i1 l1 (k+1):=((f₂.extBut s₃.extBut D.TOi1.symm).extBut s₄.extBut D.i12).extBut s₅.extBut D.TOi1.symm
 have m₂:g₅.IsTupleIter i2 l2 (k+1):=f₄.extBut s₅.extBut D.TOi2.symm
 have lz:z<g₅.objs.size:=Heap.lt_size e₅
 show wpAny _ _ (Builtin.SmallTypes.ownedTupleHandOut (.ref z) (.ref g₅.objs.size) >>= _) _ _ _;refine wpAny_bind ?_;unfold Builtin.SmallTypes.ownedTupleHandOut
 have e₆:IsZip (g₅.push { cls:=.type "tuple",data:=.seq #[x,y] }) z a b .ellipsis:=Heap.get?_push_of_some _ e₅
 refine wpAny_bind (wpAny_setField_rec e₆ (by simp) fun g₇ e₇ s₇=>?_)
 replace e₇:IsZip g₇ z a b (rawInt g₅.objs.size):=e₇
 refine wpAny_setField_rec e₇ (by simp) fun g₈ e₈ s₈=>?_
 replace e₈:IsZip g₈ z a b (rawInt g₅.objs.size):=e₈
 have up:∀ c o,c≠z->g₅.get? c=some o->g₈.get? c=some o:=fun c o c1 e=>s₈.extBut _ _ c1 (s₇.extBut _ _ c1 (Heap.get?_push_of_some _ e))
 have p₈:IsPair g₈ g₅.objs.size x y:=s₈.extBut _ _ (Nat.ne_of_gt lz) (s₇.extBut _ _ (Nat.ne_of_gt lz) (Heap.get?_push_size _ rfl))
 rw [sz] at e₈ p₈
 refine wpAny_pure ⟨_,rfl,wpAny_pure ?_⟩
 show Q (some (.ref g₅.objs.size)) _;rw [sz]
 have all:∀ c o,c≠z->c≠b->c≠i1->c≠i2->s.heap.get? c=some o->g₈.get? c=some o:=fun c o c1 c2 c3 c4 e=>up c o c1 (k₅ c o c1 c2 c3 c4 e)
 exact kq g₈ ⟨e₈,all _ _ D.TIz D.TITO D.TIi1 D.TIi2 ha,⟨_,_,up _ _ D.TOz b₅⟩,m₁.at fun o e=>up _ o D.i1z e,m₂.at fun o e=>up _ o D.i2z e,t1.at fun o e=>all _ o D.l1z D.l1TO D.l1i1 D.l1i2 e,t2.at fun o e=>all _ o D.l2z D.l2TO D.l2i1 D.l2i2 e⟩ p₈ all
theorem ydV {z a b i1 i2 l1 l2:Addr} {k:Nat} {xs ys:Array Value} {Q:Option Value->Shared->Prop} (hh:A.handled=none) (D:ZipApart z a b i1 i2 l1 l2) (Z:ZipAt s.heap z a b i1 i2 l1 l2 xs ys k .none) (hx:xs[k]?=none)
  (kq:∀ g,(∀ c o,c≠z->c≠b->c≠i1->c≠i2->s.heap.get? c=some o->g.get? c=some o)->Q none { s with heap:=g }):wpAny (model prog w) A (pyNext (.ref z)) Q E s:=by
 obtain ⟨hz,ha,⟨u,v,hb⟩,h1,h2,t1,t2⟩:=Z
 have hT:s.TypeIs (.ref z) "zip" := ⟨_,hz,rfl⟩
 unfold pyNext
 refine wpAny_bind (wpAny_attempt (wpAny_callSpecial?_slot (name:=Str.ofString "__next__") hT F.slot_zip_next (wpAny_call_entry F.slot_zip_next hT F.entry_zip_next ?_ (F.args_zip_next_1 _))))
 show wpAny _ _ (field (.ref z) 2 >>= _) _ _ _;refine wpAny_bind (wpAny_field hz rfl (x:=.bool false) rfl ?_);show wpAny _ _ (field (.ref z) 3 >>= _) _ _ _
 refine wpAny_bind (wpAny_field hz rfl (x:=.ref a) rfl ?_);refine wpAny_bind (wpAny_seqItems ha rfl ?_);show wpAny _ _ (Builtin.SmallTypes.ownedTupleIsFree (.ref z) >>= _) _ _ _
 refine wpAny_bind ?_;unfold Builtin.SmallTypes.ownedTupleIsFree;refine wpAny_bind (wpAny_field hz rfl (x:=.none) rfl (wpAny_pure ?_))
 simp only [if_true];refine wpAny_bind (wpAny_rule ?_);refine wpAny_bind (wpAny_field hz rfl (x:=.ref b) rfl ?_)
 refine wpAny_bind (wpAny_setField_rec hz (by simp) fun g₁ e₁ s₁=>?_)
 replace e₁:IsZip g₁ z a b .ellipsis:=e₁
 refine wpAny_bind ?_;simp only [List.zipIdx_cons,List.zipIdx_nil,List.forIn_cons,List.forIn_nil]
 refine wpAny_bind (wpAny_bind (wpAny_onRaise ?_));show wpAny _ _ (Builtin.SmallTypes.nextOf (.ref i1) >>= _) _ _ _
 refine wpAny_bind (ziZ hh (h1.extBut s₁.extBut D.i1z) (t1.extBut s₁.extBut D.l1z) hx fun g₂ e s₂ he=>?_)
 obtain ⟨oe,he1,he2⟩:=he
 have e₂:IsZip g₂ z a b .ellipsis:=s₂ _ _ D.i1z.symm e₁
 have hez:e≠z:=fun x=>by subst x;rw [e₂] at he1;cases he1;simp at he2
 refine wpAny_setField_rec e₂ (by simp) fun g₃ _ s₃=>?_
 refine wpAny_bind (wpAny_isInstance (T := "StopIteration") (b:=true) ⟨oe,s₃.extBut _ _ hez he1,he2⟩ isSubtype_stop ?_)
 exact wpAny_pure (kq _ fun c o c1 _ c3 _ x=>s₃.extBut _ _ c1 (s₂ _ _ c3 (s₁.extBut _ _ c1 x)))
abbrev zh (h:Heap) (l:Addr):Heap:=h.push { cls:=.type "tuple_iterator",data:=.fields #[.ref l,.int 0 0] }
theorem zgN (l1 l2:Addr) (xs ys:Array Value) :
  Meets (Builtin.«zip.__new__» ⟨[.type "zip",.ref l1,.ref l2],[]⟩) (fun _ R s=>s.heap.IsTuple l1 xs/\s.heap.IsTuple l2 ys/\∀ g,g=(((zh (zh s.heap l1) l2).push { cls:=.type "tuple",data:=.seq #[.ref s.heap.objs.size,.ref (zh s.heap l1).objs.size] }).push { cls:=.type "tuple",data:=.seq #[.none,.none] }) ->
   R (.ok (.ret (.ref g.objs.size))) { s with heap:=g.push { cls:=.type "zip",data:=.fields #[.none,.bool false,.bool false,.ref (zh (zh s.heap l1) l2).objs.size,.ref ((zh (zh s.heap l1) l2).push { cls:=.type "tuple",data:=.seq #[.ref s.heap.objs.size,.ref (zh s.heap l1).objs.size] }).objs.size] } }) :=
 .of_wp fun prog w A R s h=>by
  obtain ⟨hp,g,d,tk,os⟩:=s;obtain ⟨q1,q2,h⟩:=h
  have hsub:=sub_zip
  have L1:Heap.IsTuple (Shared.heap ⟨hp,g,d,tk,os⟩) l1 xs:=q1
  have L2:Heap.IsTuple (Shared.heap ⟨zh hp l1,g,d,tk,os⟩) l2 ys:=q2.at fun o e=>Heap.get?_push_of_some _ e
  wp_walk using wpAny_pyIter_tuple L1,wpAny_pyIter_tuple L2
  exact ⟨_,rfl,h _ rfl⟩
theorem zwJ {l1 l2:Addr} {xs ys:Array Value} {Q:Value->Shared->Prop} (h1:s.heap.IsTuple l1 xs) (h2:s.heap.IsTuple l2 ys)
  (k:∀ g,ZipAt g (s.heap.objs.size+4) (s.heap.objs.size+2) (s.heap.objs.size+3) s.heap.objs.size (s.heap.objs.size+1) l1 l2 xs ys 0 .none->(∀ c o,s.heap.get? c=some o->g.get? c=some o)->Q (.ref (s.heap.objs.size+4)) { s with heap:=g }) :
  wpAny (model prog w) A (call (.type "zip") [.ref l1,.ref l2]) Q E s:=by
 refine callType_new F.called_zip (by decide) (F.typeCall_zip_2 _ _) (F.newCall_zip_2 _ _) (fun obj=>F.args_object_init_3 obj _ _) F.entry_zip_new (zgN l1 l2 xs ys) ⟨h1,h2,fun g hg=>?_⟩
 generalize e1:zh s.heap l1=a1 at *
 generalize e2:zh a1 l2=a2 at *
 generalize e3:a2.push { cls:=.type "tuple",data:=.seq #[.ref s.heap.objs.size,.ref a1.objs.size] }=a3 at *
 have n1:a1.objs.size=s.heap.objs.size+1:=by rw [<- e1];exact Heap.size_push ..
 have n2:a2.objs.size=s.heap.objs.size+2:=by rw [<- e2,Heap.size_push,n1]
 have n3:a3.objs.size=s.heap.objs.size+3:=by rw [<- e3,Heap.size_push,n2]
 have n4:g.objs.size=s.heap.objs.size+4:=by rw [hg,Heap.size_push,n3]
 have up1:∀ c o,s.heap.get? c=some o->a1.get? c=some o:=fun c o x=>e1 ▸ Heap.get?_push_of_some _ x
 have up2:∀ c o,a1.get? c=some o->a2.get? c=some o:=fun c o x=>e2 ▸ Heap.get?_push_of_some _ x
 have up3:∀ c o,a2.get? c=some o->a3.get? c=some o:=fun c o x=>e3 ▸ Heap.get?_push_of_some _ x
 have up4:∀ c o,a3.get? c=some o->g.get? c=some o:=fun c o x=>hg ▸ Heap.get?_push_of_some _ x
 have x1:a1.get? s.heap.objs.size=some { cls:=.type "tuple_iterator",data:=.fields #[.ref l1,.int 0 0] }:=e1 ▸ Heap.get?_push_size _ rfl
 have x2:a2.get? (s.heap.objs.size+1)=some { cls:=.type "tuple_iterator",data:=.fields #[.ref l2,.int 0 0] }:=by rw [<- n1];exact e2 ▸ Heap.get?_push_size _ rfl
 have x3:a3.get? (s.heap.objs.size+2)=some { cls:=.type "tuple",data:=.seq #[.ref s.heap.objs.size,.ref a1.objs.size] }:=by rw [<- n2];exact e3 ▸ Heap.get?_push_size _ rfl
 have x4:g.get? (s.heap.objs.size+3)=some { cls:=.type "tuple",data:=.seq #[.none,.none] }:=by rw [<- n3];exact hg ▸ Heap.get?_push_size _ rfl
 have x5:(g.push { cls:=.type "zip",data:=.fields #[.none,.bool false,.bool false,.ref a2.objs.size,.ref a3.objs.size] }).get? (s.heap.objs.size+4)=some { cls:=.type "zip",data:=.fields #[.none,.bool false,.bool false,.ref a2.objs.size,.ref a3.objs.size] }:=by rw [<- n4];exact Heap.get?_push_size _ rfl
 rw [n2,n3] at x5
 rw [n1] at x3
 show _/\_
 rw [n4,n2,n3]
 have all:∀ c o,s.heap.get? c=some o->(g.push { cls:=.type "zip",data:=.fields #[.none,.bool false,.bool false,.ref (s.heap.objs.size+2),.ref (s.heap.objs.size+3)] }).get? c=some o:=fun c o x=>Heap.get?_push_of_some _ (up4 _ _ (up3 _ _ (up2 _ _ (up1 _ _ x))))
 refine ⟨⟨_,x5,rfl⟩,k _ ⟨x5,Heap.get?_push_of_some _ (up4 _ _ x3),⟨_,_,Heap.get?_push_of_some _ x4⟩,⟨_,Heap.get?_push_of_some _ (up4 _ _ (up3 _ _ (up2 _ _ x1))),rfl,rfl⟩,⟨_,Heap.get?_push_of_some _ (up4 _ _ (up3 _ _ x2)),rfl,rfl⟩,h1.at fun o e=>all _ o e,h2.at fun o e=>all _ o e⟩ all⟩
end
end L2
end
section
namespace L2
open PySem PySem.Spec PyProof.Rows
def Itz (K:PySem.W.Frag) (l1 l2:Addr):It :=
  ⟨fun i H=>∃ xs ys x y,SqT K H l1 xs/\SqT K H l2 ys/\xs[i]?=some x/\ys[i]?=some y,
   fun i H v H'=>∃ p,H p=none/\v = .ref p/\∀ xs ys x y,SqT K H l1 xs->SqT K H l2 ys->xs[i]?=some x->ys[i]?=some y->H'=upd H p (.tup [x,y]),
   fun i H=>∃ xs,SqT K H l1 xs/\xs.length<=i/\∃ ys,SqT K H l2 ys⟩
def znt (z a b i1 i2 l1 l2:Addr) (i:Nat) (h:Heap):Prop:=IsZip h z a b .none/\IsPair h a (.ref i1) (.ref i2)/\(∃ u v,IsPair h b u v)/\h.IsTupleIter i1 l1 i/\h.IsTupleIter i2 l2 i
theorem zoG {P:Program} {w:World} {K:PySem.W.Frag} {elts:List Expr} {x1} {pos:Pos} {z a b i1 i2 l1 l2:Addr} (D:ZipApart z a b i1 i2 l1 l2):Turn P w K (.Tuple elts x1 pos) (Itz K l1 l2) [z,a,b,i1,i2] z (znt z a b i1 i2 l1 l2) where
 mem:=by simp
 obj:=fun i h st c hc=>by
  obtain ⟨h1,h2,⟨u,v,h3⟩,⟨o4,h4,_,d4⟩,⟨o5,h5,_,d5⟩⟩:=st
  simp only [List.mem_cons,List.mem_nil_iff,or_false] at hc
  rcases hc with rfl|rfl|rfl|rfl|rfl
  ·exact ⟨_,h1,fun v z=>by cases z⟩
  ·exact ⟨_,h2,fun v z=>by cases z⟩
  ·exact ⟨_,h3,fun v z=>by cases z⟩
  ·exact ⟨_,h4,fun v z=>by rw [d4] at z;cases z⟩
  ·exact ⟨_,h5,fun v z=>by rw [d5] at z;cases z⟩
 keep:=fun i h h' st k=>by
  obtain ⟨h1,h2,⟨u,v,h3⟩,h4,h5⟩:=st
  exact ⟨k _ (by simp) _ h1,k _ (by simp) _ h2,⟨u,v,k _ (by simp) _ h3⟩,h4.at fun o e=>k _ (by simp) o e,h5.at fun o e=>k _ (by simp) o e⟩
 item := by
  intro X hP hw hK hc i pins s σ H E I hf st hg
  subst hP hw hK
  obtain ⟨xs,ys,x,y,q1,q2,hx,hy⟩:=hg
  obtain ⟨its,rv,p,hz⟩:=I.tuple q1
  obtain ⟨its',rv',p',hz'⟩:=I.tuple q2
  obtain ⟨u,hu,ru⟩:=rv.get hx
  obtain ⟨u',hu',ru'⟩:=rv'.get hy
  obtain ⟨h1,h2,h3,h4,h5⟩:=id st
  refine zxP D ⟨h1,h2,h3,h4,h5,p,p'⟩ (x:=u) (y:=u') (by simpa using hu) (by simpa using hu') fun g Z pr all=>⟨_,rfl,?_⟩
  refine wpAny_letOwnedTupleGo_zip (s:={ s with heap:=g }) Z.z fun g2 e2 s2=>?_
  have hn:H s.heap.objs.size=none:=I.hok.fresh (Nat.le_refl _)
  have lt:∀ c∈[z,a,b,i1,i2],c<s.heap.objs.size:=fun c hc=>by
   have:=(hf c hc)
   obtain ⟨w1,w2,⟨_,_,w3⟩,⟨_,w4,_⟩,⟨_,w5,_⟩⟩:=st
   simp only [List.mem_cons,List.mem_nil_iff,or_false] at hc
   rcases hc with rfl|rfl|rfl|rfl|rfl
   ·exact Heap.lt_size w1
   ·exact Heap.lt_size w2
   ·exact Heap.lt_size w3
   ·exact Heap.lt_size w4
   ·exact Heap.lt_size w5
  have kp:∀ c o,c ∉ [z,a,b,i1,i2]->s.heap.get? c=some o->g2.get? c=some o:=fun c o hc e=>by
   simp only [List.mem_cons,List.mem_nil_iff,or_false,not_or] at hc
   exact s2.extBut _ _ hc.1 (all c o hc.1 hc.2.2.1 hc.2.2.2.1 hc.2.2.2.2 e)
  have trk:∀ c u,H c=some u->c ∉ [z,a,b,i1,i2]:=fun c u e hc=>by rw [(hf c hc).1] at e;cases e
  have pr2:g2.get? s.heap.objs.size=some { cls:=.type "tuple",data:=.seq #[u,u'] }:=s2.extBut _ _ (Nat.ne_of_gt (lt z (by simp))) pr
  have I2:Inv X pins σ (upd H s.heap.objs.size (.tup [x,y])) { s with heap:=g2 }:=by
   refine I.step (g':=s.gens) (d':=s.drawn) (t':=s.toks) (ch:=[z,a,b,i1,i2]) (fun c hc=>?_) (fun c o _ _ hc e _=>kp c o hc e) (fun c o _ _ hc e _=>⟨o.slots,kp c o hc e⟩) (fun c o _ e n=>?_)
    (fun c o hc e=>⟨o,kp c o hc e⟩) (fun c vs e=>?_) (fun c o vs e=>?_) (fun c ps e=>⟨#[],?_⟩) (fun m hm=>?_) (fun c v e=>?_) I.bare
   ·obtain ⟨f0,f1,f2,f3,f4,f5⟩:=hf c hc
    exact ⟨f3,f1,f4,f5⟩
   ·rw [zP (Nat.ne_of_lt (Heap.lt_size e))];exact n
   ·rw [zP (zZ e hn)];exact e
   ·rw [zP (zZ e hn)];exact e
   ·rw [zP (zZ e hn),e];simp
   ·obtain ⟨o,es,ep,ho,r⟩:=hm
    exact ⟨o,es,ep,kp _ o (fun hc=>(hf _ hc).2.1 rfl) ho,r⟩
   ·by_cases hb:c=s.heap.objs.size
    ·subst hb
     rw [zJ] at e;cases e
     exact ⟨by show 2<=sizeLine;decide,[u,u'],.cons ru (.cons ru' .nil),⟨_,pr2,rfl,_,rfl⟩⟩
    ·rw [zP hb] at e
     refine (I.hok c v e).stay (fun d o hd q=>kp d o ?_ q) (fun d q=>by rw [zP (zZ q hn)];exact q) fun d ts q=>by rw [zP (zZ q hn)];exact q
     rcases hd with rfl|hd
     ·exact trk _ _ e
     ·exact trk _ _ hd
  refine ⟨.ref s.heap.objs.size,_,I2,rfl,⟨_,hn,rfl,fun xs' ys' x' y' a1 a2 a3 a4=>?_⟩,⟨e2,s2.extBut _ _ D.TIz Z.a,?_,Z.i1.extBut s2.extBut D.i1z,Z.i2.extBut s2.extBut D.i2z⟩,fun c hc=>?_⟩
  ·rw [I.tuple_inj a1 q1,hx] at a3
   rw [I.tuple_inj a2 q2,hy] at a4
   cases a3;cases a4;rfl
  ·obtain ⟨v1,v2,e3⟩:=Z.b
   exact ⟨v1,v2,s2.extBut _ _ D.TOz e3⟩
  ·rw [zP (Nat.ne_of_lt (lt c hc))];exact (hf c hc).1
 done:=by
  intro X hP hw hK hc i pins s σ H E I hf st hg
  subst hP hw hK
  obtain ⟨xs,q1,hx,ys,q2⟩:=hg
  obtain ⟨its,rv,p,hz⟩:=I.tuple q1
  obtain ⟨its',rv',p',hz'⟩:=I.tuple q2
  obtain ⟨h1,h2,h3,h4,h5⟩:=id st
  have hl:=rv.length
  refine ydV (I.ok.hd hc) D ⟨h1,h2,h3,h4,h5,p,p'⟩ (by simp;omega) fun g all=>⟨rfl,?_⟩
  have kp:∀ c o,c ∉ [z,a,b,i1,i2]->s.heap.get? c=some o->g.get? c=some o:=fun c o hc e=>by
   simp only [List.mem_cons,List.mem_nil_iff,or_false,not_or] at hc
   exact all c o hc.1 hc.2.2.1 hc.2.2.2.1 hc.2.2.2.2 e
  have trk:∀ c u,H c=some u->c ∉ [z,a,b,i1,i2]:=fun c u e hc=>by rw [(hf c hc).1] at e;cases e
  refine I.step (g':=s.gens) (d':=s.drawn) (t':=s.toks) (ch:=[z,a,b,i1,i2]) (fun c hc=>?_) (fun c o _ _ hc e _=>kp c o hc e) (fun c o _ _ hc e _=>⟨o.slots,kp c o hc e⟩) (fun c o _ e n=>n)
    (fun c o hc e=>⟨o,kp c o hc e⟩) (fun c vs e=>e) (fun c o vs e=>e) (fun c ps e=>⟨#[],by rw [e];simp⟩) (fun m hm=>?_) (fun c v e=>?_) I.bare
  ·obtain ⟨f0,f1,f2,f3,f4,f5⟩:=hf c hc
   exact ⟨f3,f1,f4,f5⟩
  ·obtain ⟨o,es,ep,ho,r⟩:=hm
   exact ⟨o,es,ep,kp _ o (fun hc=>(hf _ hc).2.1 rfl) ho,r⟩
  ·refine (I.hok c v e).stay (fun d o hd q=>kp d o ?_ q) (fun d q=>q) fun d ts q=>q
   rcases hd with rfl|hd
   ·exact trk _ _ e
   ·exact trk _ _ hd
 self:=fun _ _ _ _ _ st h=>wpAny_pyIter_zip st.1 h
section
variable {X:Cx}
def ydB (K:PySem.W.Frag) (ta:TA):TI:=fun σ H R=>ta σ H fun vs H1=>∃ l1 l2,vs=[.ref l1,.ref l2]/\(∃ xs,SqT K H1 l1 xs)/\(∃ ys,SqT K H1 l2 ys)/\R (Itz K l1 l2) H1
theorem ydF {a b : Expr} {ta : TA} {p pos pt : Pos} {elts : List Expr} {x1} (hg : Gl X "zip") (hm : X.mg "zip" = none) (ha : PA X [a, b] ta) (hs : starEach [a, b] X.env=[(false, eval a X.env), (false, eval b X.env)] := by rfl) (hs2 : starEach [b] X.env=[(false, eval b X.env)] := by rfl) :
    PI X (.Tuple elts x1 pt) (.Call (.Name "zip" p) [a,b] [] pos) (ydB X.K ta):=by
  intro pins s σ H R I h
  refine Call_ (rX I hg hm boot_zip (PyProof.Rows.callWith_type1 (xQ (ha pos pins s σ H _ I h) fun us s1 ⟨vs,H1,I1,r1,q1⟩=>?_) (by rw [hs,hs2]) (by rw [hs2];rfl)))
  obtain ⟨l1,l2,e,⟨xs,q1⟩,⟨ys,q2⟩,q⟩:=q1
  subst e
  cases r1 with
  | cons r rr =>
    cases rr with
    | cons r' rr =>
      cases rr
      cases (show _=Value.ref l1 from r)
      cases (show _=Value.ref l2 from r')
      obtain ⟨its,rv,p1,_⟩:=I1.tuple q1
      obtain ⟨its',rv',p2,_⟩:=I1.tuple q2
      have a1:l1<s1.heap.objs.size:=by obtain ⟨_,e,_⟩:=p1;exact Heap.lt_size e
      have a2:l2<s1.heap.objs.size:=by obtain ⟨_,e,_⟩:=p2;exact Heap.lt_size e
      refine zwJ (show s1.heap.IsTuple l1 its.toArray from p1) (show s1.heap.IsTuple l2 its'.toArray from p2) fun g Z all=>?_
      refine wpAny_pyIter_zip (s:={ s1 with heap:=g }) Z.z ?_
      refine ⟨_,_,_,_,H1,rfl,I1.kept (t':=s1.toks) all,zoG (PyProof.Rows.zipApart_new a1 a2),⟨Z.z,Z.a,Z.b,Z.i1,Z.i2⟩,fun b hb=>?_,q⟩
      have ge:s1.heap.objs.size<=b:=by
        simp only [List.mem_cons,List.mem_nil_iff,or_false] at hb
        rcases hb with rfl|rfl|rfl|rfl|rfl
        . exact Nat.le_add_right _ 4
        . exact Nat.le_add_right _ 2
        . exact Nat.le_add_right _ 3
        . exact Nat.le_refl _
        . exact Nat.le_add_right _ 1
      exact I1.fpOk ge (I1.hok.fresh ge)
end
end L2
end
section
namespace L2
open PySem PySem.Spec PyProof.Rows
theorem zbS:∀ (ns:List Int) (n:Int),n∈ns->PySem.W.WData.weight (.int n)<=PySem.W.WData.weightAll (ns.map PySem.W.WData.int)
  | m::ns, n, h => by
    rw [List.map_cons,PySem.W.WData.weightAll]
    rcases List.mem_cons.mp h with rfl|h
    . omega
    . have:=zbS ns n h
      omega
theorem walkB {l:PySem.W.OpenLaw} {n k:Nat} {q:Program} {loose:List Str} {XP:(Str->Option Value)->Heap->Prop} {YP:World->Heap->Prop} {d:DefRec} {K:Params->PySem.W.Frag} {sp:PySem.W.Frag->Sp} {x:Str}
  (hn:l.most=some n) (hn2:n<=sizeLine) (hdf:d.params.defaults=[]) (hr:Room k callerA) (hY:∀ (w:World) (h:Heap),YP w h->(K w.params).In h)
  (F:∀ (w:World) (mg:Str->Option Value) (fa:Addr) (h:Heap),(K w.params).In h->h.Ns mainGlobals mg->mg d.name=some (.ref fa) ->
   ∃ fd:FuncData,(∀ (s:Shared) (u:Value),BindsTo s fd ⟨[u],[]⟩ [(x,u)])/\∀ base:Heap,(K w.params).In base->base.Ns mainGlobals mg->FnOk l.prog w (K w.params) mg base zW k fa fd [x] (sp (K w.params)))
  (hsp:∀ (K:PySem.W.Frag) (H:Hp) (a:Addr) (ns:List Int),ns.length<=n->(∀ v∈ns,Builtin.Int.intBits v<=2 ^ 20)->SqL K H a (ns.map V.int)->sp K [.ref a] H (fun v _=>v = .bl true) fun _ _ _=>False) :
  PySem.W.WalkO q loose XP YP l.row.toRowW d [] (fun f vs=>PySem.call f vs):=by
 intro w s₀ s₁ mg mb G Y fa o pm cd doc dV kV ho hd hcd hD hmg hg args vals as hpre hlay hrd hwl hlo
 obtain rfl:dV = .none:=PySem.W.Dflts.none hD hdf
 obtain rfl:kV = .none:=PySem.W.Dflts.noKw hD
 obtain ⟨a,vs,ns,rfl,rfl,hobj,hints,hlen⟩:=Att.script_of hn hpre hwl
 have bits:∀ v∈ns,Builtin.Int.intBits v<=2 ^ 20:=fun v hv=>by
  have h1:PySem.W.WData.layable (.list (ns.map PySem.W.WData.int))=true:=by
   have h2:[PySem.W.WData.list (ns.map PySem.W.WData.int)].all PySem.W.WData.layable=true:=hlay
   simpa only [List.all_cons,List.all_nil,Bool.and_true] using h2
  have h3:=(PySem.W.layableW_iff.mp h1).2.2
  have h4:=zbS ns v hv
  rw [PySem.W.WData.weight] at h3
  have h5:PySem.W.WData.weight (.int v)=Builtin.Int.intBits v:=by first|rfl|simp only [PySem.W.WData.weight,Builtin.Int.intBits]
  omega
 have KX:=hY w _ Y
 obtain ⟨fd,hb,hF⟩:=F w mg fa _ KX G.T.g hmg
 have call:=zoL KX G.T.g G.T.b G.T.builtins G.T.nolimit hg hobj hints (Nat.le_trans hlen hn2) hr hF hb (fun H hO hS=>hsp (K w.params) H a ns hlen bits hS) fun H e s' z=>z
 refine PySem.W.enter_call (codeAny_mono call fun r s' hq=>?_)
 obtain ⟨rfl,h2,h3,h4⟩:=hq
 exact ⟨.inl ⟨.bool true,.bool true,[],rfl,fun _=>rfl,.bool true,Att.post_true l _,fun _=>⟨List.Pairwise.nil,fun _ hm=>(nomatch hm)⟩⟩,h2,h3,h4⟩
end L2
end
section
namespace L2
open PySem PySem.Spec PyProof.Rows
open PySem.W (Dat kqdP kqdPs kqdOk)
def Tm (H H':Hp):Prop:=∀ (K:PySem.W.Frag) (a:Addr) (xs:List V),SqT K H a xs->SqT K H' a xs
theorem Tm.refl (H:Hp):Tm H H:=fun _ _ _ h=>h
theorem Tm.trans {H H1 H2:Hp} (a:Tm H H1) (b:Tm H1 H2):Tm H H2:=fun K c o h=>b K c o (a K c o h)
theorem Same.tm {H H':Hp} (e:Same H H'):Tm H H':=fun _ _ _ h=>e.tup h
theorem Tm.lst {H:Hp} {D:Addr} {ys:List V} (h:H D=some (.lst ys)) (o:HO):Tm H (upd H D o):=fun K a xs q=>by
 rcases q with (q|⟨ob,q⟩)|q
 ·exact .inl (.inl (by rw [zP (zkT q h (fun z=>by cases z))];exact q))
 ·exact .inl (.inr ⟨ob,by rw [zP (zkT q h (fun z=>by cases z))];exact q⟩)
 ·exact .inr q
def SB (p:Addr) (H H':Hp):Prop:=∀ b o,b≠p->H b=some o->H' b=some o
theorem SB.refl (p:Addr) (H:Hp):SB p H H:=fun _ _ _ h=>h
theorem SB.trans {p:Addr} {H H1 H2:Hp} (a:SB p H H1) (b:SB p H1 H2):SB p H H2:=fun c o n h=>b c o n (a c o n h)
theorem Same.sb {p:Addr} {H H':Hp} (e:Same H H'):SB p H H':=fun b o _ h=>e b o h
theorem SB.upd {p:Addr} {H:Hp} {o:HO}:SB p H (upd H p o):=fun b u n h=>by rw [zP n];exact h
theorem SB.tm {p:Addr} {H H':Hp} {ys:List V} (e:SB p H H') (h:H p=some (.lst ys)):Tm H H':=fun K a xs q=>by
 rcases q with (q|⟨ob,q⟩)|q
 ·exact .inl (.inl (e _ _ (zkT q h (fun z=>by cases z)) q))
 ·exact .inl (.inr ⟨ob,e _ _ (zkT q h (fun z=>by cases z)) q⟩)
 ·exact .inr q
theorem Same.snoc {H H5:Hp} {D:Addr} {o:HO} (h:Same H H5) (hn:H D=Option.none):Same H (upd H5 D o):=fun b u e=>by rw [zP (zZ e hn)];exact h b u e
mutual
inductive Fz (K:PySem.W.Frag) (H:Hp):V->Dat->Prop
 | none:Fz K H .non .none
 | bool (b:Bool):Fz K H (.bl b) (.bool b)
 | int (i:Int):Fz K H (.int i) (.int i)
 | str (x:Str):Fz K H (.str x) (.str x)
 | tup {a:Addr} {xs:List V} {ds:List Dat}:SqT K H a xs->Fzs K H xs ds->Fz K H (.ref a) (.tuple ds)
inductive Fzs (K:PySem.W.Frag) (H:Hp):List V->List Dat->Prop
 | nil:Fzs K H [] []
 | cons {x:V} {d:Dat} {xs:List V} {ds:List Dat}:Fz K H x d->Fzs K H xs ds->Fzs K H (x::xs) (d::ds)
end
section
variable {K:PySem.W.Frag} {H H':Hp}
mutual
theorem Fz.tm (e:Tm H H'):∀ {v:V} {d:Dat},Fz K H v d->Fz K H' v d
 | _,_,.none=>.none
 | _,_,.bool b=>.bool b
 | _,_,.int i=>.int i
 | _,_,.str x=>.str x
 | _,_,.tup h r=>.tup (e _ _ _ h) (Fzs.tm e r)
theorem Fzs.tm (e:Tm H H'):∀ {v:List V} {d:List Dat},Fzs K H v d->Fzs K H' v d
 | _,_,.nil=>.nil
 | _,_,.cons h r=>.cons (Fz.tm e h) (Fzs.tm e r)
end
theorem Fzs.length:∀ {v:List V} {d:List Dat},Fzs K H v d->v.length=d.length
 | _,_,.nil=>rfl
 | _,_,.cons _ r=>by rw [List.length_cons,List.length_cons,Fzs.length r]
theorem Fzs.snoc:∀ {v:List V} {d:List Dat} {x:V} {e:Dat},Fzs K H v d->Fz K H x e->Fzs K H (v++[x]) (d++[e])
 | _,_,_,_,.nil,h=>.cons h .nil
 | _,_,_,_,.cons a r,h=>.cons a (Fzs.snoc r h)
theorem Fzs.ints_inv:∀ {vs:List V} {ns:List Int},Fzs K H vs (ns.map Dat.int)->vs=ns.map V.int
  | _,[],h=>by cases h;rfl
  | _,n::ns,h=>by
    cases h with
    | cons a r =>
      cases a
      rw [Fzs.ints_inv r];rfl
end
section
variable {K:PySem.W.Frag} {te:TE} {σ:St} {H:Hp} {Q:VK}
theorem zlQ {J:It} {g:TG} {no n:Nat} (ds:List Dat) (hn:ds.length=n) (hz:n<=sizeLine) {Pσ:Nat->St->Prop} (h0:Pσ 0 (List.replicate no none ++ σ))
  (stop:∀ H',Same H H'->J.stop n H') (go:∀ i H',i<n->Same H H'->J.go i H')
  (turn:∀ i σ' H' d,ds[i]?=some d->Same H H'->Pσ i σ'->∀ x H2,J.yld i H' x H2->g x σ' H2 fun σ3 H3=>te σ3 H3 fun v H5=>Pσ (i+1) σ3/\Same H' H5/\Fz K H5 v d)
  (mono:∀ x σ' H2 Q1 Q2,(∀ σ3 H3,Q1 σ3 H3->Q2 σ3 H3)->g x σ' H2 Q1->g x σ' H2 Q2) (monoE:∀ σ' H2 Q1 Q2,(∀ v H3,Q1 v H3->Q2 v H3)->te σ' H2 Q1->te σ' H2 Q2)
  (fin:∀ D H' ys,Same H H'->H' D=some (.lst ys)->H D=Option.none->Fzs K H' ys ds->Q (.ref D) H') :
  jY no (J) g vB te σ H Q:=by
 intro D hD
 refine ⟨fun i m σ' H'=>m=n - i/\i<=n/\Pσ i σ'/\Same H H'/\∃ ys,H' D=some (.lst ys)/\Fzs K H' ys (ds.take i),⟨n,by omega,Nat.zero_le _,h0,Same.new hD _,[],zJ,.nil⟩,?_⟩
 rintro i m σ' H' ⟨rfl,hi,hp,hs,ys,hy,hf⟩
 by_cases hlt:i<n
 ·refine .inr ⟨go i H' hlt hs,fun x H2 hy2=>?_⟩
  obtain ⟨d,hd⟩:∃ d,ds[i]?=some d:=⟨ds[i],by simp⟩
  refine mono _ _ _ _ _ (fun σ3 H3 h3=>?_) (turn i σ' H' d hd hs hp x H2 hy2)
  unfold vB
  dsimp only
  rw [if_pos rfl]
  refine monoE _ _ _ _ (fun v H5 h5=>?_) h3
  obtain ⟨p5,s5,f5⟩:=h5
  have l:ys.length=i:=by rw [hf.length,List.length_take];omega
  refine ⟨ys,s5 _ _ hy,by omega,n - (i+1),by omega,rfl,hlt,p5,(hs.trans s5).snoc hD,ys++[v],zJ,?_⟩
  have tm:=Tm.lst (s5 _ _ hy) (.lst (ys++[v]))
  rw [List.take_add_one,hd]
  exact ((hf.tm s5.tm).tm tm).snoc (f5.tm tm)
 ·have e:i=n:=by omega
  subst e
  refine .inl ⟨stop H' hs,fin D H' ys hs hy hD ?_⟩
  rw [<- hn,List.take_length] at hf
  exact hf
theorem ziQ {i:Nat}:∀ x σ' H2 Q1 Q2,(∀ σ3 H3,Q1 σ3 H3->Q2 σ3 H3)->yK i x σ' H2 Q1->yK i x σ' H2 Q2:=fun _ _ _ _ _ h q=>h _ _ q
theorem zfP {a:Addr} {xs:List V} (ds:List Dat) (hS:SqT K H a xs) (hn:ds.length=xs.length) (hz:xs.length<=sizeLine)
  (turn:∀ (i:Nat) x H' d,xs[i]?=some x->ds[i]?=some d->Same H H'->te (some x :: σ) H' fun v H5=>Same H' H5/\Fz K H5 v d)
  (monoE:∀ σ' H2 Q1 Q2,(∀ v H3,Q1 v H3->Q2 v H3)->te σ' H2 Q1->te σ' H2 Q2)
  (fin:∀ D H' ys,Same H H'->H' D=some (.lst ys)->H D=Option.none->Fzs K H' ys ds->Q (.ref D) H') :
  jY 1 (Itt K a) (yK 0) vB te σ H Q:=by
 refine zlQ (J:=Itt K a) (K:=K) ds hn hz (Pσ:=fun _ σ'=>∃ o,σ'=o :: σ) ⟨none,rfl⟩ (fun H' s=>⟨xs,s.tup hS,Nat.le_refl _⟩) (fun i H' hi s=>⟨xs,xs[i],s.tup hS,by simp [hi]⟩) ?_ ziQ monoE fin
 rintro i σ' H' d hd s ⟨o,rfl⟩ x H2 ⟨rfl,hy⟩
 have hx:=hy xs (s.tup hS)
 refine monoE _ _ _ _ (fun v H3 h=>?_) (turn i x H2 d hx hd s)
 exact ⟨⟨_,rfl⟩,h⟩
def zfR (K:PySem.W.Frag):TG:=zxJ K 2 (zbV (yK 0) (zbV (yK 1) zyD))
theorem zqW {l1 l2:Addr} {xs ys:List V} (ds:List Dat) (h1:SqT K H l1 xs) (h2:SqT K H l2 ys) (hl:ys.length=xs.length) (hn:ds.length=xs.length) (hz:xs.length<=sizeLine)
  (turn:∀ (i:Nat) x y H' d,xs[i]?=some x->ys[i]?=some y->ds[i]?=some d->Same H H'->te (some x::some y :: σ) H' fun v H5=>Same H' H5/\Fz K H5 v d)
  (monoE:∀ σ' H2 Q1 Q2,(∀ v H3,Q1 v H3->Q2 v H3)->te σ' H2 Q1->te σ' H2 Q2)
  (fin:∀ D H' ys,Same H H'->H' D=some (.lst ys)->H D=Option.none->Fzs K H' ys ds->Q (.ref D) H') :
  jY 2 (Itz K l1 l2) (zfR K) vB te σ H Q:=by
 refine zlQ (J:=Itz K l1 l2) (K:=K) ds hn hz (Pσ:=fun _ σ'=>∃ o p,σ'=o::p :: σ) ⟨none,none,rfl⟩ (fun H' s=>⟨xs,s.tup h1,Nat.le_refl _,ys,s.tup h2⟩) (fun i H' hi s=>⟨xs,ys,xs[i],ys[i],s.tup h1,s.tup h2,by simp [hi],by simp [hl,hi]⟩) ?_ ?_ monoE fin
 ·rintro i σ' H' d hd s ⟨o,o',rfl⟩ x H2 ⟨p,hp,rfl,hy⟩
  have hi:i<xs.length:=by
   have:=(List.getElem?_eq_some_iff.mp hd).1
   omega
  have ex:xs[i]?=some xs[i]:=by simp [hi]
  have ey:ys[i]?=some (ys[i]'(by omega)):=by simp [hl,hi]
  have e2:=hy xs ys _ _ (s.tup h1) (s.tup h2) ex ey
  subst e2
  have s2:Same H' (upd H' p (.tup [xs[i],ys[i]'(by omega)])):=Same.new hp _
  refine ⟨p,_,rfl,SqT.of zJ,rfl,_,_,rfl,_,_,rfl,rfl,?_⟩
  refine monoE _ _ _ _ (fun v H3 h=>?_) (turn i _ _ _ d ex ey hd (s.trans s2))
  exact ⟨⟨_,_,rfl⟩,s2.trans h.1,h.2⟩
 ·rintro x σ' H2 Q1 Q2 hq ⟨a,vs,e1,e2,e3,v1,r1,e4,v2,r2,e5,e6,q⟩
  exact ⟨a,vs,e1,e2,e3,v1,r1,e4,v2,r2,e5,e6,hq _ _ q⟩
theorem zvV {X:Cx} {own:List Str} {scope:Scope} {C:Addr} {fp:List Addr} {s:Shared} {H:Hp} {x y:Str} {px py pos:Pos} {k:Nat} (hc:X.calm=true) (nd:(yA X own scope C fp s H).N.Nodup) (h0:(yA X own scope C fp s H).N[0]?=some x) (h1:(yA X own scope C fp s H).N[1]?=some y)
  (l0:(yA X own scope C fp s H).env.scope.names.lookup x=some .local) (l1:(yA X own scope C fp s H).env.scope.names.lookup y=some .local):PG (yA X own scope C fp s H) (.Tuple [.Name x px,.Name y py] k pos) (zfR X.K) :=
 ztX (X:=yA X own scope C fp s H) (n:=2) hc (zaL (zdJ (i:=0) nd h0 (Or.inl l0) (Or.inr l0)) (zaL (zdJ (i:=1) nd h1 (Or.inl l1) (Or.inr l1)) zjW))
end
end L2
end
section
namespace L2
open PySem PySem.Spec PyProof.Rows
section
variable {X:Cx} {es:List Expr} {t:TA} {te:TE}
theorem yjO {i:Int} {j:Nat} {p:Pos} (hr:PA X es t):PA X (.Constant (.int i) j p::es) (yN (tC (.int i)) t):=xS zqX hr rfl
theorem yjS {x:Str} {p:Pos} (ha:PE X (.Name x p) te) (hr:PA X es t):PA X (.Name x p::es) (yN te t):=xS ha hr rfl
theorem yjZ {a b:Expr} {op:Operator} {p:Pos} (ha:PE X (.BinOp a op b p) te) (hr:PA X es t):PA X (.BinOp a op b p::es) (yN te t):=xS ha hr rfl
theorem yjV {a:Expr} {op:UnaryOp} {p:Pos} (ha:PE X (.UnaryOp op a p) te) (hr:PA X es t):PA X (.UnaryOp op a p::es) (yN te t):=xS ha hr rfl
theorem yjB {a b:Expr} {p:Pos} (ha:PE X (.Subscript a b p) te) (hr:PA X es t):PA X (.Subscript a b p::es) (yN te t):=xS ha hr rfl
theorem yjI {f:Expr} {a:List Expr} {k:List Keyword} {p:Pos} (ha:PE X (.Call f a k p) te) (hr:PA X es t):PA X (.Call f a k p::es) (yN te t):=xS ha hr rfl
theorem ykD {a:List Expr} {p:Pos} {k:Nat} (ha:PE X (.Tuple a k p) te) (hr:PA X es t):PA X (.Tuple a k p::es) (yN te t):=xS ha hr rfl
theorem yjQ {a:List Expr} {p:Pos} (ha:PE X (.List a p) te) (hr:PA X es t):PA X (.List a p::es) (yN te t):=xS ha hr rfl
theorem jT {f:Expr} {a:List Expr} {k:List Keyword} {p:Pos}:qV (.Call f a k p):=fun _ _=>rfl
theorem vP {a b:Expr} {p:Pos} {t:Option Expr} {l:Nat} {env:Env}:swapsWith (.Subscript a b p) t l env=pure false:=rfl
end
end L2
end
section
namespace L2
open PySem PySem.Spec PyProof.Rows
open PySem.W (Dat)
def Src (J:It) (H:Hp) (xs:List V):Prop:=∀ H',Same H H'->J.stop xs.length H'/\∀ i x,xs[i]?=some x->J.go i H'/\∀ y H2,J.yld i H' y H2->H'=H2/\x=y
section
variable {K:PySem.W.Frag} {H:Hp} {σ:St} {te:TE} {tt:TT} {Q:VK} {J:It} {xs:List V}
theorem zkV {a:Addr} (h:SqT K H a xs):Src (Itt K a) H xs:=fun H' s=>⟨⟨xs,s.tup h,Nat.le_refl _⟩,fun i x hx=>⟨⟨xs,x,s.tup h,hx⟩,fun y H2 ⟨e,q⟩=>⟨e.symm,by
 have:=q xs (s.tup h)
 rw [hx] at this;cases this;rfl⟩⟩⟩
theorem zwQ {a:Addr} (h:SqL K H a xs):Src (Itl K a) H xs:=fun H' s=>⟨⟨xs,s.seq h,Nat.le_refl _⟩,fun i x hx=>⟨⟨xs,x,s.seq h,hx⟩,fun y H2 ⟨e,q⟩=>⟨e.symm,by
 have:=q xs (s.seq h)
 rw [hx] at this;cases this;rfl⟩⟩⟩
theorem zsO (S:Src J H xs) (kp:V->Bool) (dv:V->Dat) (hz:xs.length<=sizeLine)
  (test:∀ x∈xs,∀ H',Same H H'->∀ R:Bool->Hp->Prop,(∀ H4,Same H' H4->R (kp x) H4)->tt (some x :: σ) H' R)
  (turn:∀ x∈xs,kp x=true->∀ H',Same H H'->∀ R:VK,(∀ v H5,Same H' H5->Fz K H5 v (dv x)->R v H5)->te (some x :: σ) H' R)
  (fin:∀ D H' ys,Same H H'->H' D=some (.lst ys)->H D=none->Fzs K H' ys ((xs.filter kp).map dv)->Q (.ref D) H') :
  jY 1 J (yK 0) tt te σ H Q:=by
 intro D hD
 refine ⟨fun i m σ' H'=>m=xs.length - i/\i<=xs.length/\(∃ o,σ'=o :: σ)/\Same H H'/\∃ ys,H' D=some (.lst ys)/\Fzs K H' ys (((xs.take i).filter kp).map dv),⟨xs.length,by omega,Nat.zero_le _,⟨_,rfl⟩,Same.new hD _,[],zJ,.nil⟩,?_⟩
 rintro i m σ' H' ⟨rfl,hi,⟨o,rfl⟩,hs,ys,hy,hf⟩
 obtain ⟨stop,each⟩:=S H' hs
 by_cases hlt:i<xs.length
 ·obtain ⟨go,yl⟩:=each i xs[i] (by simp [hlt])
  have hm:xs[i]∈xs:=List.getElem_mem hlt
  refine .inr ⟨go,fun y H2 q=>?_⟩
  obtain ⟨rfl,rfl⟩:=yl y H2 q
  show tt (some xs[i] :: σ) H' _
  refine test _ hm H' hs _ fun H4 s4=>?_
  have tk:xs.take (i+1)=xs.take i++[xs[i]]:=by rw [List.take_add_one];simp [hlt]
  by_cases hk:kp xs[i]=true
  ·rw [if_pos hk]
   refine turn _ hm hk H4 (hs.trans s4) _ fun v H5 s5 f5=>?_
   have l:ys.length<=i:=by
    rw [hf.length,List.length_map]
    exact Nat.le_trans (List.length_filter_le _ _) (by rw [List.length_take];omega)
   have hy5:=s5 _ _ (s4 _ _ hy)
   refine ⟨ys,hy5,by omega,xs.length - (i+1),by omega,rfl,hlt,⟨_,rfl⟩,(hs.trans (s4.trans s5)).snoc hD,ys++[v],zJ,?_⟩
   have tm:=Tm.lst hy5 (.lst (ys++[v]))
   rw [tk,List.filter_append,List.map_append]
   have:[xs[i]].filter kp=[xs[i]]:=by simp [hk]
   rw [this]
   exact ((hf.tm (s4.trans s5).tm).tm tm).snoc (f5.tm tm)
  ·rw [if_neg hk]
   refine ⟨xs.length - (i+1),by omega,rfl,hlt,⟨_,rfl⟩,hs.trans s4,ys,s4 _ _ hy,?_⟩
   rw [tk,List.filter_append]
   have:[xs[i]].filter kp=[]:=by simp [hk]
   rw [this,List.append_nil]
   exact hf.tm s4.tm
 ·have e:i=xs.length:=by omega
  subst e
  refine .inl ⟨stop,fin D H' ys hs hy hD ?_⟩
  rw [List.take_length] at hf
  exact hf
theorem zqD (S:Src J H xs) (dv:V->Dat) (hz:xs.length<=sizeLine)
  (turn:∀ x∈xs,∀ H',Same H H'->∀ R:VK,(∀ v H5,Same H' H5->Fz K H5 v (dv x)->R v H5)->te (some x :: σ) H' R)
  (fin:∀ D H' ys,Same H H'->H' D=some (.lst ys)->H D=none->Fzs K H' ys (xs.map dv)->Q (.ref D) H') :
  jY 1 J (yK 0) vB te σ H Q :=
 zsO S (fun _=>true) dv hz (fun x _ H' _ R q=>q H' (aH _)) (fun x hx _=>turn x hx) fun D H' ys s h n f=>fin D H' ys s h n (by
  have e:xs.filter (fun _=>true)=xs:=List.filter_eq_self.mpr fun _ _=>rfl
  rw [e] at f;exact f)
theorem zlZ {ns:List Int} (S:Src J H (ns.map V.int)) (fn:Int->Int) (hz:ns.length<=sizeLine)
  (turn:∀ n∈ns,∀ H',Same H H'->∀ R:VK,(∀ H5,Same H' H5->R (.int (fn n)) H5)->te (some (.int n) :: σ) H' R)
  (fin:∀ D H',Same H H'->H' D=some (.lst ((ns.map fn).map V.int))->H D=none->Q (.ref D) H') :
  jY 1 J (yK 0) vB te σ H Q:=by
 refine zqD (K:=[]) S (fun v=>match v with | .int n=>.int (fn n)|_=>.none) (by rw [List.length_map];exact hz) (fun x hx H' s R q=>?_) fun D H' ys s h n f=>?_
 ·obtain ⟨n,hn,rfl⟩:=List.mem_map.mp hx
  exact turn n hn H' s R fun H5 s5=>q _ _ s5 (.int _)
 ·rw [List.map_map] at f
  have e:ys=(ns.map fn).map V.int:=Fzs.ints_inv (by rw [List.map_map];exact f)
  subst e
  exact fin D H' s h n
theorem zsZ {lo:Int} {n:Nat} (hz:n<=sizeLine) (Iv:Addr->Nat->Hp->List V->Prop) (h0:∀ D,H D=none->Iv D 0 (upd H D (.lst [])) [])
  (turn:∀ D i H' ys,i<n->H D=none->H' D=some (.lst ys)->ys.length=i->Iv D i H' ys->∀ R:VK,(∀ v H5,H5 D=some (.lst ys)->Iv D (i+1) (upd H5 D (.lst (ys++[v]))) (ys++[v])->R v H5)->te (some (.int (lo+i)) :: σ) H' R)
  (fin:∀ D H' ys,H D=none->H' D=some (.lst ys)->ys.length=n->Iv D n H' ys->Q (.ref D) H') :
  jY 1 (Itr lo n) (yK 0) vB te σ H Q:=by
 intro D hD
 refine ⟨fun i m σ' H'=>m=n - i/\i<=n/\(∃ o,σ'=o :: σ)/\∃ ys,H' D=some (.lst ys)/\ys.length=i/\Iv D i H' ys,⟨n,by omega,Nat.zero_le _,⟨_,rfl⟩,[],zJ,rfl,h0 D hD⟩,?_⟩
 rintro i m σ' H' ⟨rfl,hi,⟨o,rfl⟩,ys,hy,hl,hv⟩
 by_cases hlt:i<n
 ·refine .inr ⟨hlt,fun y H2 ⟨e1,e2⟩=>?_⟩
  subst e1 e2
  unfold yK vB
  dsimp only
  rw [if_pos rfl]
  show te (some (V.int (lo+i)) :: σ) H2 _
  refine turn D i H2 ys hlt hD hy hl hv _ fun v H5 h5 q=>?_
  exact ⟨ys,h5,by omega,n - (i+1),by omega,rfl,hlt,⟨_,rfl⟩,ys++[v],zJ,by rw [List.length_append,hl];rfl,q⟩
 ·have e:i=n:=by omega
  subst e
  exact .inl ⟨Nat.le_refl _,fin D H' ys hD hy hl hv⟩
end
theorem SB.snoc {p D:Addr} {H H5:Hp} {o:HO} (h:SB p H H5) (hn:H D=Option.none):SB p H (L2.upd H5 D o):=fun b u e q=>by rw [zP (zZ q hn)];exact h b u e q
theorem yaM {n i:Nat} (h:i<n):ixN n (0+(i:Int))=some i:=by
 unfold ixN
 rw [Int.zero_add,if_pos (by omega),if_pos (by omega)]
 rfl
theorem zoE {n:Nat} {d:Int} (h0:0<=d) (h1:d<(n:Int)):ixN n d=some d.toNat:=by
 unfold ixN
 rw [if_pos h0,if_pos h1]
theorem zrV {t r:TS} {D:Ends} {σ:St} {H:Hp} (Mid:St->Hp->Prop) (h1:∀ N:St->Hp->Prop,(∀ σ H,Mid σ H->N σ H)->t { D with nx:=N } σ H) (h2:∀ σ H,Mid σ H->r D σ H):jV t r D σ H:=h1 _ h2
theorem zfV (ns:List Int) (n:Nat):(ns.map Dat.int).all (PySem.W.kqdOk n)=true:=by
 rw [List.all_map,List.all_eq_true]
 intro x _
 cases n <;> rfl
theorem zjS {ns:List Int}:PySem.W.kqdOk 9 (.list (ns.map .int))=true:=zfV ns 8
theorem yE {ns:List Int}:PySem.W.kqdOk 9 (.tuple (ns.map .int))=true:=zfV ns 8
theorem sF {ns ms:List Int} (h:ns.map Dat.int=ms.map Dat.int):ns=ms:=by
  induction ns generalizing ms with
  | nil=>cases ms with
    | nil=>rfl
    | cons b r=>cases h
  | cons a r ih=>cases ms with
    | nil=>cases h
    | cons b r' =>
      rw [List.map_cons,List.map_cons] at h
      injection h with h1 h2
      injection h1 with h1
      rw [h1,ih h2]
theorem zxE {ns ms:List Int}:deq (.list (ns.map .int)) (.list (ms.map .int))=decide (ns=ms):=by
 by_cases h:ns=ms
 ·subst h;rw [wQ,decide_eq_true rfl]
 ·rw [decide_eq_false h]
  exact zhG fun z=>h (sF (by injection z))
theorem jK {ns ms:List Int}:deq (.tuple (ns.map .int)) (.tuple (ms.map .int))=decide (ns=ms):=by
 by_cases h:ns=ms
 ·subst h;rw [wQ,decide_eq_true rfl]
 ·rw [decide_eq_false h]
  exact zhG fun z=>h (sF (by injection z))
end L2
end
section
namespace L2
open PySem PySem.Spec PyProof.Rows
def DefAt (K:PySem.W.Frag) (x:Str) (st:Stmt):Prop:=∃ (f:Addr) (oc:Value) (od:Option Addr) (kV dc pm:Value) (an:Option Addr) (cd ct:Value) (sl:Array (Option Value)),
 PySem.W.nsIn K mainGlobals x=some (some (.ref f))/\K.lookup f=some ⟨oc,od,.func (PySem.W.fnOf x x (jL st) (xT st) (zI st) .none kV dc pm an cd ct),sl⟩/\PySem.W.codeIn K cd x=true/\PySem.W.keepIn K (.ref f)=true
theorem DefAt.mk {K:PySem.W.Frag} {x:Str} {st:Stmt} {f:Addr} {oc:Value} {od:Option Addr} {kV dc pm:Value} {an:Option Addr} {cd ct:Value} {sl:Array (Option Value)} (a:PySem.W.nsIn K mainGlobals x=some (some (.ref f)))
  (l:K.lookup f=some ⟨oc,od,.func (PySem.W.fnOf x x (jL st) (xT st) (zI st) .none kV dc pm an cd ct),sl⟩) (c:PySem.W.codeIn K cd x=true) (k:PySem.W.keepIn K (.ref f)=true):DefAt K x st:=⟨f,oc,od,kV,dc,pm,an,cd,ct,sl,a,l,c,k⟩
theorem DefAt.get {K:PySem.W.Frag} {x:Str} {st:Stmt} {h:Heap} {mg:Str->Option Value} (d:DefAt K x st) (X:K.In h) (G:h.Ns mainGlobals mg):∃ (f:Addr) (fd:FuncData),Fun K x x st f fd/\mg x=some (.ref f)/\PySem.W.keepIn K (.ref f)=true:=by
 obtain ⟨f,oc,od,kV,dc,pm,an,cd,ct,sl,a,l,c,k⟩:=d
 exact ⟨f,_,zqB l c k,PySem.W.mg_of X G a,k⟩
theorem DefAt.law {K:PySem.W.Frag} {x y:Str} {st:Stmt} {h:Heap} {mg:Str->Option Value} {fa:Addr} (d:DefAt K x st) (X:K.In h) (G:h.Ns mainGlobals mg) (hfa:mg x=some (.ref fa))
  (hb:∀ (kV doc pm:Value) (an:Option Addr) (cdv ct:Value) (u:Value),bindArgs (PySem.W.fnOf x x (jL st) (xT st) (zI st) .none kV doc pm an cdv ct) ⟨[u],[]⟩=pure [(y,u)]):∃ (fd:FuncData),Fun K x x st fa fd/\∀ (s:Shared) (v:Value),BindsTo s fd ⟨[v],[]⟩ [(y,v)]:=by
 obtain ⟨f,oc,od,kV,dc,pm,an,cd,ct,sl,a,l,c,k⟩:=d
 have e:=hfa.symm.trans (PySem.W.mg_of X G a)
 cases e
 exact ⟨_,zqB l c k,fun s v=>.of_eq (hb kV dc pm an cd ct v)⟩
end L2
end
section
namespace L2
open PySem PySem.Spec PyProof.Rows
structure ZE (X:Cx) (e:Expr) (t:TE):Prop where out:PE X e t
structure ZT (X:Cx) (e:Expr) (t:TT):Prop where out:PT X e t
structure ZW (X:Cx) (e:Expr) (t:TT):Prop where out:PW X e t
structure ZA (X:Cx) (es:List Expr) (t:TA):Prop where out:PA X es t
structure ZS (X:Cx) (st:Stmt) (t:TS):Prop where out:PS X st t
structure ZSs (X:Cx) (st:List Stmt) (t:TS):Prop where out:PSs X st t
structure ZG (X:Cx) (e:Expr) (t:TG):Prop where out:PG X e t
structure ZGs (X:Cx) (es:List Expr) (t:TGs):Prop where out:PGs X es t
structure ZI (X:Cx) (tg iter:Expr) (wi:TI):Prop where out:PI X tg iter wi
structure ZTs (X:Cx) (es:List Expr) (t:TT):Prop where out:PTs X es t
structure ZO (X:Cx) (e:Option Expr) (t:TO):Prop where out:PO X e t
section
variable {X:Cx} {a b c e tg:Expr} {es:List Expr} {te ta tb tc:TE} {t:TA} {pos p p2:Pos} {x:Str}
theorem zX:ZSs X [] zfB:=⟨zuR⟩
theorem zC {st:Stmt} {rest:List Stmt} {t u:TS} (h1:ZS X st t) (h2:ZSs X rest u):ZSs X (st::rest) (jV t u):=⟨zpQ h1.out h2.out⟩
theorem zF {st:Stmt} {t:TS} (h1:ZS X st t):ZSs X [st] t:=⟨zwD h1.out⟩
theorem zM {i:Nat} {pos':Pos} (hN:X.N.Nodup) (hi:X.N[i]?=some x) (hx:Loc X.env.scope x) (he:ZE X e te) (hs:swapsWith e (some (.Name x pos')) pos.line X.env=pure false:=by rfl) (hf:X.fn x=true\/X.env.scope.names.lookup x=some .local:=by first|exact .inl rfl|exact .inr rfl|assumption) :
  ZS X (.Assign [.Name x pos'] e pos) (jP te (yK i)):=⟨yaV hN hi hx he.out hs hf⟩
theorem wT {iter:Expr} {body:List Stmt} {wi:TI} {g:TG} {tb:TS} (hp:PassesOwn (model X.prog X.w) X.A X.env X.xe) (hc:X.calm=true) (hi:ZI X tg iter wi) (hg:ZG X tg g) (hb:ZSs X body tb)
  (hs:∀ x,foldedSetIterable iter X.env x=pure x:=by intro _;rfl):ZS X (.For tg iter body [] pos) (ydS wi g tb):=⟨yeL hp hc hi.out hg.out hb.out hs⟩
theorem zgB {body:List Stmt} {tc:TT} {tb:TS} (hp:PassesOwn (model X.prog X.w) X.A X.env X.xe) (hc:ZT X c tc) (hb:ZSs X body tb):ZS X (.While c body [] pos) (zeS tc tb):=⟨ztD hp hc.out hb.out⟩
theorem yM {l m:List Stmt} {tc:TT} {t u:TS} (hc:ZT X c tc) (ha:ZSs X l t) (hb:ZSs X m u):ZS X (.If c l m pos) (zcR tc t u):=⟨ygY hc.out ha.out hb.out⟩
theorem zN (he:ZE X e te):ZS X (.Return (some e) pos) (ziW te):=⟨ycY he.out⟩
theorem zeE (he:ZE X e te) (hs:swapsWith e none pos.line X.env=pure false:=by rfl):ZS X (.Expr e pos) (zcE te):=⟨zyJ he.out hs⟩
theorem zaA {g:TG} (he:ZE X e te) (hg:ZG X tg g) (hs:swapsWithSole [tg] e pos.line X.env=pure false:=by rfl) (hw:swappedStores [tg] e X.env=pure none:=by rfl)
  (h1:(assignEach [tg] X.env).map (·.2)=[assign tg X.env]:=by rfl):ZS X (.Assign [tg] e pos) (jP te g):=⟨ycB he.out hg.out hs hw h1⟩
theorem zA {i j}:ZE X (.Constant (.int i) j pos) (tC (.int i)):=⟨zqX⟩
theorem vW {b j}:ZE X (.Constant (.bool b) j pos) (tC (.bl b)):=⟨yhR⟩
theorem jD {j}:ZE X (.Constant .none j pos) (tC .non):=⟨ydP⟩
theorem yJ {x:Str} {j}:ZE X (.Constant (.str x) j pos) (tC (.str x)):=⟨ybZ⟩
theorem zv (i:Nat) (hN:X.N[i]?=some x:=by rfl) (hv:Vis X.env.scope x:=by first|exact Or.inl rfl|exact Or.inr (Or.inl rfl)|exact Or.inr (Or.inr rfl)) (hd:(x == ("__debug__" : Str))=false:=by decide)
  (hcd:(x == ("__classdict__" : Str))=false:=by decide):ZE X (.Name x pos) (kK i):=⟨yeK hN hv hd hcd⟩
theorem wM {v:V} {u:Value} (hg:Gl X x) (hm:X.mg x=some u) (r:RelV v u) (hd:(x == ("__debug__" : Str))=false:=by decide):ZE X (.Name x pos) (tC v):=⟨zvL hg hm r hd⟩
theorem zH {op:Operator} {r:R2} (ho:jQ X (binaryOp op) r) (ha:ZE X a ta) (hb:ZE X b tb):ZE X (.BinOp a op b pos) (wO r ta tb):=⟨yhU ho ha.out hb.out⟩
theorem vE {op:UnaryOp} {r:V->Hp->VK->Prop} (ho:UnR X (unaryOp op) r) (ha:ZE X a ta):ZE X (.UnaryOp op a pos) (tUn r ta):=⟨yhO ho ha.out⟩
theorem wD {op:CmpOp} {r:R2} (ho:jQ X (compareOp op) r) (ha:ZE X a ta) (hb:ZE X b tb) (hm:behindInMarks op b=false):ZE X (.Compare a [op] [b] pos) (wO r ta tb):=⟨zuX ho ha.out hb.out hm⟩
theorem zR {op:CmpOp} {r:R2} (ho:jQ X (compareOp op) r) (ha:ZE X a ta) (hb:ZE X b tb) (hm:behindInMarks op b=false):ZT X (.Compare a [op] [b] pos) (zcB (wO r ta tb)):=⟨zuJ ho ha.out hb.out hm⟩
theorem vF {t:TE} (h:ZE X e t) (he:∀ whole,isTrue e X.env whole=(do let v <- whole;standAt e.pos;holding [v] (truthy v)):=by intro _;rfl):ZT X e (tB t):=⟨ybX h.out he⟩
theorem vO {tA:TT} (ha:ZT X a tA):ZT X (.UnaryOp .Not a pos) (zwZ tA):=⟨ybL ha.out⟩
theorem ZW.pt {t:TT} (h:ZW X e t):ZT X e t:=⟨h.out.pt⟩
theorem kD {tA:TT} (ha:ZT X a tA):ZW X (.BoolOp .And [a] pos) tA:=⟨zuK ha.out⟩
theorem sA {tA:TT} (ha:ZT X a tA):ZW X (.BoolOp .Or [a] pos) tA:=⟨ycQ ha.out⟩
theorem tS {tA tB':TT} (ha:ZT X a tA) (hb:ZW X (.BoolOp .And (b::es) pos) tB'):ZW X (.BoolOp .And (a::b::es) pos) (zmB tA tB'):=⟨yaG ha.out hb.out⟩
theorem qQ {tA tB':TT} (ha:ZT X a tA) (hb:ZW X (.BoolOp .Or (b::es) pos) tB'):ZW X (.BoolOp .Or (a::b::es) pos) (tOr tA tB'):=⟨ygG ha.out hb.out⟩
theorem ziY {op} (h:ZE X a ta):ZE X (.BoolOp op [a] pos) ta:=⟨yfD h.out⟩
theorem zpT (ha:ZE X a ta) (hb:ZE X (.BoolOp .And (b::es) pos) tb):ZE X (.BoolOp .And (a::b::es) pos) (zpN ta tb):=⟨ycT ha.out hb.out⟩
theorem yhW (ha:ZE X a ta) (hb:ZE X (.BoolOp .Or (b::es) pos) tb):ZE X (.BoolOp .Or (a::b::es) pos) (ydC ta tb):=⟨ygM ha.out hb.out⟩
theorem zG {r:R2} (hr:IxR X r) (ha:ZE X a ta) (hb:ZE X b tb) (hs:qV b):ZE X (.Subscript a b pos) (wO r ta tb):=⟨ygX hr ha.out hb.out hs⟩
theorem vV {lo hi:Option Expr} {tl th:TO} {r:V->Option Int->Option Int->Hp->VK->Prop} (hr:SlR X r) (he:ZE X e te) (hl:ZO X lo tl) (hu:ZO X hi th):ZE X (.Subscript e (.Slice lo hi none p2) pos) (tSl r te tl th):=⟨zsR hr he.out hl.out hu.out⟩
theorem kF:ZO X none zeH:=⟨zwX⟩
theorem kJ (h:ZE X e te):ZO X (some e) (zqJ te):=⟨zwY h.out⟩
theorem xX (h:ZA X es t):ZE X (.List es pos) (znO t):=⟨ydA h.out⟩
theorem zS {x1} (h:ZA X es t):ZE X (.Tuple es x1 pos) (zxA t):=⟨yfA h.out⟩
theorem zD {CX:CXT} {k:Nat} {f:Addr} {fd:FuncData} {ps:List Str} {sp:Sp} {ds:List Value} {dvs:List V} {E:XK} (F:FnOk X.prog X.w X.K X.mg X.base CX k f fd ps sp) (hr:Room k X.A) (hg:Gl X x) (hm:X.mg x=some (.ref f)) (hk:PySem.W.keepIn X.K (.ref f)=true) (hb:Binds X.K fd ps ds) (hd:Vals dvs ds) (hx:tN CX X E)
  (ha:ZA X (e::es) t) (hdb:(x == ("__debug__" : Str))=false:=by decide) (he:starEach (e::es) X.env=(false,eval e X.env)::starEach es X.env:=by rfl) (hpl:(backTo pos (starEach es X.env)).any (·.1)=false:=by rfl) :
  ZE X (.Call (.Name x p) (e::es) [] pos) (yY sp dvs E t):=⟨zyO F hr hg hm hk hb hd hx ha.out hdb he hpl⟩
theorem xG {id:String} {r:List V->Hp->VK->Prop} (hc:wZ X (.builtin id) r) (hg:Gl X x) (hm:X.mg x=none) (hv:bootBuiltins x=some (.builtin id)) (ha:ZA X (e::es) t) (hn:x ≠ "__name__" := by decide) (hdb:(x == ("__debug__" : Str))=false:=by decide)
  (he:starEach (e::es) X.env=(false,eval e X.env)::starEach es X.env:=by rfl) (hpl:(backTo pos (starEach es X.env)).any (·.1)=false:=by rfl):ZE X (.Call (.Name x p) (e::es) [] pos) (tCB r t):=⟨zpU hc hg hm hv ha.out hn hdb he hpl⟩
theorem yH {T:String} {r:List V->Hp->VK->Prop} (hc:wZ X (.type T) r) (hg:Gl X x) (hm:X.mg x=none) (hv:bootBuiltins x=some (.type T)) (ha:ZA X (e::es) t) (hn:x ≠ "__name__" := by decide) (hdb:(x == ("__debug__" : Str))=false:=by decide)
  (he:starEach (e::es) X.env=(false,eval e X.env)::starEach es X.env:=by rfl) (hpl:(backTo pos (starEach es X.env)).any (·.1)=false:=by rfl):ZE X (.Call (.Name x p) (e::es) [] pos) (tCB r t):=⟨zmT hc hg hm hv ha.out hn hdb he hpl⟩
theorem zB:ZA X [] vJ:=⟨zaT⟩
theorem zQ (ha:ZE X e te) (hr:ZA X es t) (hs:starEach (e::es) X.env=(false,eval e X.env)::starEach es X.env:=by rfl):ZA X (e::es) (yN te t):=⟨xS ha.out hr.out hs⟩
theorem yC {i:Int} {j:Nat} (hr:ZA X es t):ZA X (.Constant (.int i) j p::es) (yN (tC (.int i)) t):=⟨yjO hr.out⟩
theorem zO (ha:ZE X (.Name x p) te) (hr:ZA X es t):ZA X (.Name x p::es) (yN te t):=⟨yjS ha.out hr.out⟩
theorem xD {op:Operator} (ha:ZE X (.BinOp a op b p) te) (hr:ZA X es t):ZA X (.BinOp a op b p::es) (yN te t):=⟨yjZ ha.out hr.out⟩
theorem sJ {op:UnaryOp} (ha:ZE X (.UnaryOp op a p) te) (hr:ZA X es t):ZA X (.UnaryOp op a p::es) (yN te t):=⟨yjV ha.out hr.out⟩
theorem xI (ha:ZE X (.Subscript a b p) te) (hr:ZA X es t):ZA X (.Subscript a b p::es) (yN te t):=⟨yjB ha.out hr.out⟩
theorem wL {f:Expr} {l:List Expr} {k:List Keyword} (ha:ZE X (.Call f l k p) te) (hr:ZA X es t):ZA X (.Call f l k p::es) (yN te t):=⟨yjI ha.out hr.out⟩
theorem wR {l:List Expr} {k:Nat} (ha:ZE X (.Tuple l k p) te) (hr:ZA X es t):ZA X (.Tuple l k p::es) (yN te t):=⟨ykD ha.out hr.out⟩
theorem yiV {l:List Expr} (ha:ZE X (.List l p) te) (hr:ZA X es t):ZA X (.List l p::es) (yN te t):=⟨yjQ ha.out hr.out⟩
theorem yB {i:Nat} (hN:X.N.Nodup) (hi:X.N[i]?=some x) (hx:Loc X.env.scope x) (hf:X.fn x=true\/X.env.scope.names.lookup x=some .local:=by first|exact .inl rfl|exact .inr rfl|assumption):ZG X (.Name x pos) (yK i):=⟨zdJ hN hi hx hf⟩
theorem sY {o i:Expr} {to ti:TE} {t:zxR} (ho:ZE X o to) (hi:ZE X i ti) (hs:ybK X t) (ha:∀ v,assign (.Subscript o i pos) X.env v=(do
   let ov <- holding [v] (eval o X.env)
   let iv <- holding [v,ov] (eval i X.env)
   standAt pos
   holding [v,ov,iv] (setItem ov iv v)
   release [v,ov,iv] []):=by intro _;rfl):ZG X (.Subscript o i pos) (zvZ to ti t):=⟨ycK ho.out hi.out hs ha⟩
theorem zkF:ZGs X [] zyD:=⟨zjW⟩
theorem qS {t:TG} {u:TGs} (h1:ZG X e t) (h2:ZGs X es u) (hs:(assignEach (e::es) X.env).map (·.2)=assign e X.env::(assignEach es X.env).map (·.2):=by rfl):ZGs X (e::es) (zbV t u):=⟨zaL h1.out h2.out hs⟩
theorem zsS {k:Nat} {t:TGs} {n:Nat} (hc:X.calm=true) (h:ZGs X es t) (hn:(assignEach es X.env).length=n:=by rfl) (hst:(assignEach es X.env).findIdx? (·.1)=none:=by rfl):ZG X (.Tuple es k pos) (zxJ X.K n t):=⟨ztX hc h.out hn hst⟩
theorem jA (hl:ZE X e te):ZI X tg e (zqG X.K te):=⟨zuZ hl.out⟩
theorem vA (hl:ZE X e te):ZI X tg e (yeW X.K te):=⟨yeQ hl.out⟩
theorem wY {ta:TA} (hg:Gl X "range") (hm:X.mg "range" = none) (ha:ZA X [a] ta) (hs:starEach [a] X.env=[(false,eval a X.env)]:=by rfl):ZI X tg (.Call (.Name "range" p) [a] [] pos) (zkL ta):=⟨zmI hg hm ha.out hs⟩
theorem yR:ZTs X [] vB:=⟨zxM⟩
theorem zdE {t:TT} (h:ZT X c t):ZTs X [c] t:=⟨zuV h.out⟩
theorem yP {own:List Str} {scope sc:Scope} {iter elt:Expr} {ifs:List Expr} {wi:TI} {g:TG} {tt:TT} {N0 P0:List Str} (S0:FnScope N0 P0 sc) (hc:X.calm=true) (S1:CompScope own N0 sc scope) (hi:ZI X tg iter wi)
  (hg:∀ C fp s H,(kP own N0).Nodup->ZG (yA X own scope C fp s H) tg g) (ht:∀ C fp s H,ZTs (yA X own scope C fp s H) ifs tt) (he:∀ C fp s H,ZE (yA X own scope C fp s H) elt te)
  (hs:∀ x,foldedSetIterable iter X.env x=pure x:=by intro _;rfl) (hN0:X.N=N0:=by rfl) (hsc:X.env.scope=sc:=by rfl):ZE X (.ListComp elt [⟨tg,iter,ifs,0⟩] scope pos) (wK own.length wi g tt te) :=
 ⟨zxG S0 hc S1 hi.out (fun C fp s H n=>(hg C fp s H n).out) (fun C fp s H=>(ht C fp s H).out) (fun C fp s H=>(he C fp s H).out) hs hN0 hsc⟩
theorem zuM {own:List Str} {scope sc:Scope} {iter elt:Expr} {ifs:List Expr} {wi:TI} {g:TG} {tt:TT} {i:Nat} {pos' spos:Pos} {N0 P0:List Str} (S0:FnScope N0 P0 sc) (hc:X.calm=true) (S1:CompScope own N0 sc scope) (hi:ZI X tg iter wi)
  (hg:∀ C fp s H,(kP own N0).Nodup->ZG (yA X own scope C fp s H) tg g) (ht:∀ C fp s H,ZTs (yA X own scope C fp s H) ifs tt) (he:∀ C fp s H,ZE (yA X own scope C fp s H) elt te)
  (hN:X.N.Nodup) (hiN:X.N[i]?=some x) (hx:Loc X.env.scope x)
  (hsw:swapsWith (.ListComp elt [⟨tg,iter,ifs,0⟩] scope pos) (some (.Name x pos')) spos.line X.env=pure true)
  (hs:∀ x,foldedSetIterable iter X.env x=pure x:=by intro _;rfl) (hf:X.fn x=true\/X.env.scope.names.lookup x=some .local:=by first|exact .inl rfl|exact .inr rfl|assumption) (hN0:X.N=N0:=by rfl) (hsc:X.env.scope=sc:=by rfl) :
  ZS X (.Assign [.Name x pos'] (.ListComp elt [⟨tg,iter,ifs,0⟩] scope pos) spos) (jP (wK own.length wi g tt te) (yK i)) :=
 ⟨zvW S0 hc S1 hi.out (fun C fp s H n=>(hg C fp s H n).out) (fun C fp s H=>(ht C fp s H).out) (fun C fp s H=>(he C fp s H).out) hN hiN hx hsw hs hf hN0 hsc⟩
theorem ziG {ta:TA} {pt:Pos} {elts:List Expr} {x1} (hg:Gl X "zip") (hm:X.mg "zip" = none) (ha:ZA X [a,b] ta) (hs:starEach [a,b] X.env=[(false,eval a X.env),(false,eval b X.env)]:=by rfl) (hs2:starEach [b] X.env=[(false,eval b X.env)]:=by rfl) :
  ZI X (.Tuple elts x1 pt) (.Call (.Name "zip" p) [a,b] [] pos) (ydB X.K ta):=⟨ydF hg hm ha.out hs hs2⟩
theorem zkW {own:List Str} {scope:Scope} {C:Addr} {fp:List Addr} {s:Shared} {H:Hp} {x y:Str} {px py:Pos} {k:Nat} (hc:X.calm=true) (nd:(yA X own scope C fp s H).N.Nodup) (h0:(yA X own scope C fp s H).N[0]?=some x) (h1:(yA X own scope C fp s H).N[1]?=some y)
  (l0:(yA X own scope C fp s H).env.scope.names.lookup x=some .local) (l1:(yA X own scope C fp s H).env.scope.names.lookup y=some .local):ZG (yA X own scope C fp s H) (.Tuple [.Name x px,.Name y py] k pos) (zfR X.K):=⟨zvV hc nd h0 h1 l0 l1⟩
end
section
variable {P:Program} {w:World} {K:PySem.W.Frag} {mg:Str->Option Value} {base:Heap}
theorem Fun.okZ {x qual:Str} {st:Stmt} {f:Addr} {fd:FuncData} {N ps:List Str} {k:Nat} {sp:Sp} (F:Fun K x qual st f fd) (S:FnScope N ps (zI st)) (len:∀ vs H Q E,sp vs H Q E->vs.length=ps.length)
  (hbody:∀ (cdv:Value) (A:Around) (outer:List Env) (s:Shared) (H:Hp) (vs:List V) (Q:VK) (E:XK),Room k (A.deeper (envOfC qual (zI st) s.heap.objs.size f cdv))->sp vs H Q E ->
   ∃ t,ZSs (zaN zW P w K mg base N qual (zI st) f cdv A outer s H E).nox (xT st) t/\t { nx:=fun _ H'=>Q .non H',rt:=Q } (start N vs) H):FnOk P w K mg base zW (k+1) f fd ps sp :=
 F.ok S len fun cdv A outer s H vs Q E hr h=>let ⟨t,b,q⟩:=hbody cdv A outer s H vs Q E hr h;⟨t,b.out,q⟩
end
end L2
end
section
namespace L2
open PySem PySem.Spec PyProof.Rows
open PySem.W (Dat)
def NL (H H':Hp):Prop:=∀ b o,(∀ ys,o≠HO.lst ys)->H b=some o->H' b=some o
theorem Same.nl {H H':Hp} (e:Same H H'):NL H H':=fun b o _ h=>e b o h
theorem NL.upd {H:Hp} {D:Addr} {ys:List V} {o:HO} (h:H D=some (.lst ys)):NL H (L2.upd H D o):=fun b u n q=>by
 rw [zP (fun z=>?_)]
 ·exact q
 ·subst z;rw [h] at q;cases q;exact n ys rfl
theorem NL.trans {H H1 H2:Hp} (a:NL H H1) (b:NL H1 H2):NL H H2:=fun c o n h=>b c o n (a c o n h)
section
variable {K:PySem.W.Frag} {H:Hp} {σ:St} {te:TE} {Q:VK} {J:It} {xs:List V}
theorem zgG (S:Src J H xs) (hz:xs.length<=sizeLine) (Pd:Nat->V->Hp->Prop) (hst:∀ i v H H',NL H H'->Pd i v H->Pd i v H')
  (turn:∀ i x,xs[i]?=some x->∀ H',Same H H'->∀ R:VK,(∀ v H5,Same H' H5->Pd i v H5->R v H5)->te (some x :: σ) H' R)
  (fin:∀ D H' ys,Same H H'->H' D=some (.lst ys)->H D=none->ys.length=xs.length->(∀ i v,ys[i]?=some v->Pd i v H')->Q (.ref D) H') :
  jY 1 J (yK 0) vB te σ H Q:=by
 intro D hD
 refine ⟨fun i m σ' H'=>m=xs.length - i/\i<=xs.length/\(∃ o,σ'=o :: σ)/\Same H H'/\∃ ys,H' D=some (.lst ys)/\ys.length=i/\∀ j v,ys[j]?=some v->Pd j v H',⟨xs.length,by omega,Nat.zero_le _,⟨_,rfl⟩,Same.new hD _,[],zJ,rfl,fun j v e=>by simp at e⟩,?_⟩
 rintro i m σ' H' ⟨rfl,hi,⟨o,rfl⟩,hs,ys,hy,hl,hf⟩
 obtain ⟨stop,each⟩:=S H' hs
 by_cases hlt:i<xs.length
 ·have hx:xs[i]?=some xs[i]:=by simp [hlt]
  obtain ⟨go,yl⟩:=each i xs[i] hx
  refine .inr ⟨go,fun y H2 q=>?_⟩
  obtain ⟨rfl,rfl⟩:=yl y H2 q
  unfold yK vB
  dsimp only
  rw [if_pos rfl]
  show te (some xs[i] :: σ) H' _
  refine turn i _ hx H' hs _ fun v H5 s5 f5=>?_
  have hy5:=s5 _ _ hy
  refine ⟨ys,hy5,by omega,xs.length - (i+1),by omega,rfl,hlt,⟨_,rfl⟩,(hs.trans s5).snoc hD,ys++[v],zJ,by rw [List.length_append,hl];rfl,fun j u e=>?_⟩
  have nl:=NL.upd (o:=.lst (ys++[v])) hy5
  by_cases hj:j<ys.length
  ·rw [List.getElem?_append_left hj] at e
   exact hst _ _ _ _ (s5.nl.trans nl) (hf j u e)
  ·rw [List.getElem?_append_right (by omega)] at e
   have ej:j - ys.length=0:=by
    have:=(List.getElem?_eq_some_iff.mp e).1
    simp at this;omega
   rw [ej] at e
   cases e
   have:j=i:=by omega
   subst this
   exact hst _ _ _ _ nl f5
 ·have e:i=xs.length:=by omega
  subst e
  exact .inl ⟨stop,fin D H' ys hs hy hD hl hf⟩
theorem zjH {α:Type} {x1 x2 x3 x:α} {i:Nat} (h:[x1,x2,x3][i]?=some x):(i=0/\x1=x)\/(i=1/\x2=x)\/(i=2/\x3=x):=by
 match i,h with
 | 0,h=>exact .inl ⟨rfl,by simpa using h⟩
 | 1,h=>exact .inr (.inl ⟨rfl,by simpa using h⟩)
 | 2,h=>exact .inr (.inr ⟨rfl,by simpa using h⟩)
theorem qP {α:Type} {ys:List α} (h:ys.length=3):∃ a b c,ys=[a,b,c]:=by
 match ys,h with
 | [a,b,c],_=>exact ⟨a,b,c,rfl⟩
theorem yaR {x1 x2 x3:V} {n1 n2 n3:List V} (S:Src J H [x1,x2,x3])
  (t1:∀ H',Same H H'->∀ R:VK,(∀ p H5,Same H' H5->H5 p=some (.tup n1)->R (.ref p) H5)->te (some x1 :: σ) H' R)
  (t2:∀ H',Same H H'->∀ R:VK,(∀ p H5,Same H' H5->H5 p=some (.tup n2)->R (.ref p) H5)->te (some x2 :: σ) H' R)
  (t3:∀ H',Same H H'->∀ R:VK,(∀ p H5,Same H' H5->H5 p=some (.tup n3)->R (.ref p) H5)->te (some x3 :: σ) H' R)
  (fin:∀ D H' p1 p2 p3,Same H H'->H' D=some (.lst [.ref p1,.ref p2,.ref p3])->H D=none->H' p1=some (.tup n1)->H' p2=some (.tup n2)->H' p3=some (.tup n3)->Q (.ref D) H') :
  jY 1 J (yK 0) vB te σ H Q:=by
 refine zgG S (show 3<=sizeLine by decide) (fun i v H'=>∃ p n,v = .ref p/\[n1,n2,n3][i]?=some n/\H' p=some (.tup n)) (fun i v H H' nl h=>?_) (fun i x hx H' s R k=>?_) fun D H' ys s h n l p=>?_
 ·obtain ⟨p,n,e1,e2,e3⟩:=h
  exact ⟨p,n,e1,e2,nl _ _ (fun ys z=>by cases z) e3⟩
 ·rcases zjH hx with ⟨rfl,rfl⟩|⟨rfl,rfl⟩|⟨rfl,rfl⟩
  ·exact t1 H' s R fun p H5 s5 h5=>k _ _ s5 ⟨p,_,rfl,rfl,h5⟩
  ·exact t2 H' s R fun p H5 s5 h5=>k _ _ s5 ⟨p,_,rfl,rfl,h5⟩
  ·exact t3 H' s R fun p H5 s5 h5=>k _ _ s5 ⟨p,_,rfl,rfl,h5⟩
 ·obtain ⟨a,b,c,rfl⟩:=qP l
  obtain ⟨p1,m1,rfl,e1,h1⟩:=p 0 a rfl
  obtain ⟨p2,m2,rfl,e2,h2⟩:=p 1 b rfl
  obtain ⟨p3,m3,rfl,e3,h3⟩:=p 2 c rfl
  cases e1;cases e2;cases e3
  exact fin D H' p1 p2 p3 s h n h1 h2 h3
end
section
variable {X:Cx} {e o:Expr} {to te:TE} {apos cpos:Pos}
theorem zmE (ho:ZE X o to) (ha:ZE X e te) (hbase:attributeBase o "append" X.env (eval o X.env)=eval o X.env:=by rfl)
  (hfew:((backTo cpos (starEach [e] X.env)).all (fun x => !x.1) && (backToKw cpos (keywordEach [] X.env)).all (fun x=>x.1.isSome)
   && decide ([e].length+([]:List Keyword).length+(if ([]:List Keyword).isEmpty then 0 else 1)<30))=true:=by rfl)
  (hline:(apos.endLine == cpos.line)=true:=by rfl) (hs:starEach [e] X.env=(false,eval e X.env)::starEach [] X.env:=by rfl) :
  ZE X (.Call (.Attribute o "append" apos) [e] [] cpos) (tBM X.K "list" sQ to (yN te vJ)) :=
 ⟨zlI PySem.F.plainAttrs_list slot_list_append (by rfl) zcF ho.out (xS ha.out zaT hs) hbase hfew hline hs⟩
end
section
variable {X:Cx} {own:List Str} {scope:Scope} {C:Addr} {fp:List Addr} {s:Shared} {H:Hp}
theorem sO:IxR (yA X own scope C fp s H) (yaP X.K):=zE
theorem zxL (hu:(yA X own scope C fp s H).A.units+64<cLine):jQ (yA X own scope C fp s H) (compareOp .NotEq) (zgT X.K true):=tZ hu
end
def zzB (K:PySem.W.Frag):R2:=fun x y H Q=>∃ a b xs ys,x = .ref a/\y = .ref b/\SqT K H a xs/\SqT K H b ys/\xs.length+ys.length<=sizeLine/\∀ p H',Same H H'->SqT K H' p (xs++ys)->Q (.ref p) H'
section
variable {X:Cx}
theorem zeP:jQ X (binaryOp .Add) (zzB X.K):=by
 intro pins s σ H x y v u Q I rx ry h
 obtain ⟨a,b,xs,ys,rfl,rfl,ha,hb,hz,q⟩:=h
 by_cases hx:xs=[]
 ·subst hx
  cases rx
  cases ry
  obtain ⟨its,r1,p1,_⟩:=I.tuple ha
  obtain ⟨its2,r2,p2,_⟩:=I.tuple hb
  obtain ⟨m,F⟩:=I.fr
  have e:its=[]:=r1.nil_iff.mpr rfl
  refine add_tuples (news:=[]) F (fun p hp=>by simp at hp) p1 p2 (fun _=>⟨.ref b,H,I,rfl,q b H (aH _) (by simpa using hb)⟩) (fun n=>absurd e n) (fun n=>absurd e n) ?_
  rw [<- r1.length, <- r2.length];exact hz
 ·refine zxU pins s σ H _ _ v u Q I rx ry ⟨a,b,xs,ys,rfl,rfl,ha,hb,hx,hz,fun e=>?_,fun e p hp=>?_⟩
  ·subst e;exact q a H (aH _) (by rw [List.append_nil];exact ha)
  ·exact q p _ (Same.new hp _) (SqT.of zJ)
end
end L2
end
section
namespace Num
def gcdN (ns:List Int):Nat:=ns.foldl (fun d n=>Nat.gcd d n.natAbs) 0
theorem zmX (ns:List Int) (n:Int):gcdN (ns++[n])=Nat.gcd (gcdN ns) n.natAbs:=by
 unfold gcdN;rw [List.foldl_append];rfl
theorem znF (ns:List Int):∀ d:Nat,ns.foldl (fun d n=>Nat.gcd d n.natAbs) d=Nat.gcd d (gcdN ns):=by
  induction ns with
  | nil=>intro d;simp [gcdN]
  | cons n ns ih =>
    intro d
    unfold gcdN
    rw [List.foldl_cons,List.foldl_cons,ih,ih,Nat.gcd_assoc,Nat.gcd_zero_left]
theorem xJ (n:Int) (ns:List Int):gcdN (n::ns)=Nat.gcd n.natAbs (gcdN ns):=by
 show List.foldl _ _ _=_
 rw [List.foldl_cons,znF,Nat.gcd_zero_left]
theorem xP:∀ {ns:List Int} {n:Int},n∈ns->(gcdN ns:Int) ∣ n
  | m::ns,n,h=>by
    rw [xJ]
    rcases List.mem_cons.mp h with rfl|h
    . exact Int.ofNat_dvd_left.mpr (Nat.gcd_dvd_left _ _)
    . exact Int.dvd_trans (Int.natCast_dvd_natCast.mpr (Nat.gcd_dvd_right _ _)) (xP h)
theorem zcG:∀ {ns:List Int},gcdN ns=0->∀ n∈ns,n=0
  | m::ns,h,n,hn=>by
    rw [xJ] at h
    obtain ⟨h1,h2⟩:=Nat.gcd_eq_zero_iff.mp h
    rcases List.mem_cons.mp hn with rfl|hn
    . omega
    . exact zcG h2 n hn
theorem xN {ns:List Int} (h:∃ n∈ns,n≠0):0<gcdN ns:=by
 obtain ⟨n,hn,h0⟩:=h
 rcases Nat.eq_zero_or_pos (gcdN ns) with z|z
 ·exact absurd (zcG z n hn) h0
 ·exact z
theorem tH (c:Int) (ns:List Int):gcdN (ns.map (c * ·))=c.natAbs*gcdN ns:=by
 induction ns with
 | nil=>simp [gcdN]
 | cons n ns ih=>rw [List.map_cons,xJ,xJ,ih,Int.natAbs_mul,Nat.gcd_mul_left]
theorem zjQ {ns:List Int} {n:Int} (h:n∈ns) (h0:n≠0):gcdN ns<=n.natAbs:=Nat.le_of_dvd (by omega) (Int.ofNat_dvd_left.mp (xP h))
def xW:List Int->Int
 | []=>0
 | x::r=>if x=0 then xW r else x
theorem qU (c:Int):∀ ns:List Int,xW (ns.map (c * ·))=c*xW ns
  | []=>by simp [xW]
  | x::r => by
    rw [List.map_cons,xW,xW,qU c r]
    by_cases hc:c=0
    . subst hc;simp
    . by_cases hx:x=0
      . simp [hx]
      . rw [if_neg (Int.mul_ne_zero hc hx),if_neg hx]
theorem zkE:∀ {ns:List Int},(∃ n∈ns,n≠0)->xW ns≠0
  | x::r, ⟨n, hn, h0⟩ => by
    rw [xW]
    split
    . rename_i hx
      rcases List.mem_cons.mp hn with rfl|hn
      . exact absurd hx h0
      . exact zkE ⟨n,hn,h0⟩
    . assumption
def xA (ns:List Int):Int:=if xW ns<0 then -(gcdN ns:Int) else gcdN ns
def pl (ns:List Int):List Int:=ns.map fun n=>n / xA ns
theorem vM {ns:List Int} (h:∃ n∈ns,n≠0):xA ns≠0:=by
 have:=xN h
 unfold xA;split <;> omega
theorem vC {ns:List Int} {n:Int} (h:n∈ns):xA ns ∣ n:=by
 unfold xA;split
 ·exact Int.neg_dvd.mpr (xP h)
 ·exact xP h
theorem kA {ns:List Int}:(pl ns).map (xA ns * ·)=ns:=by
 unfold pl
 rw [List.map_map]
 conv=>rhs;rw [<- List.map_id ns]
 refine List.map_congr_left fun n hn=>?_
 show xA ns*(n / xA ns)=n
 exact Int.mul_ediv_cancel' (vC hn)
theorem sG (ns:List Int):(xA ns).natAbs=gcdN ns:=by
 unfold xA;split <;> omega
theorem ziN {ns:List Int} (h:∃ n∈ns,n≠0):gcdN (pl ns)=1:=by
 have e:=tH (xA ns) (pl ns)
 rw [kA,sG] at e
 have p:=xN h
 exact Nat.eq_of_mul_eq_mul_left p (by omega)
theorem kW {ns:List Int} (h:∃ n∈ns,n≠0):0<xW (pl ns):=by
 have e:=qU (xA ns) (pl ns)
 rw [kA] at e
 have p:=xN h
 have f:=zkE h
 by_cases hn:xW ns<0
 ·have u:xA ns = -(gcdN ns:Int):=if_pos hn
  rw [u] at e
  refine Int.not_le.mp fun z=>?_
  have:0 <= -(gcdN ns:Int)*xW (pl ns):=Int.mul_nonneg_of_nonpos_of_nonpos (by omega) z
  omega
 ·have u:xA ns=(gcdN ns:Int):=if_neg hn
  rw [u] at e
  refine Int.not_le.mp fun z=>?_
  have:(gcdN ns:Int)*xW (pl ns)<=0:=Int.mul_nonpos_of_nonneg_of_nonpos (by omega) z
  omega
theorem xC {ns:List Int} (h:∃ n∈ns,n≠0):∃ n∈pl ns,n≠0:=by
 obtain ⟨n,hn,h0⟩:=h
 refine ⟨n / xA ns,List.mem_map.mpr ⟨n,hn,rfl⟩,fun z=>h0 ?_⟩
 have:=Int.mul_ediv_cancel' (vC hn)
 rw [z] at this;omega
theorem sB {ms:List Int} {c:Int} (hc:c≠0) (hg:gcdN ms=1) (hf:0<xW ms):pl (ms.map (c * ·))=ms:=by
 have u:xA (ms.map (c * ·))=c:=by
  unfold xA
  rw [tH,hg,qU]
  by_cases h:c<0
  ·rw [if_pos (Int.mul_neg_of_neg_of_pos h hf)];omega
  ·rw [if_neg (by have:=Int.mul_pos (show 0<c by omega) hf;omega)];omega
 unfold pl
 rw [u,List.map_map]
 conv=>rhs;rw [<- List.map_id ms]
 refine List.map_congr_left fun n hn=>?_
 show c*n / c=n
 exact Int.mul_ediv_cancel_left n hc
theorem wJ {ns:List Int} {c:Int} (hc:c≠0) (h:∃ n∈ns,n≠0):pl (ns.map (c * ·))=pl ns:=by
 have e:ns.map (c * ·)=(pl ns).map ((c*xA ns) * ·):=by
  conv=>lhs;rw [<- kA (ns:=ns)]
  rw [List.map_map]
  refine List.map_congr_left fun n _=>?_
  show c*(xA ns*n)=c*xA ns*n
  rw [Int.mul_assoc]
 rw [e]
 exact sB (Int.mul_ne_zero hc (vM h)) (ziN h) (kW h)
theorem zkX {ns:List Int} (h:∃ n∈ns,n≠0):pl (pl ns)=pl ns:=by
 have:=sB (ms:=pl ns) (c:=1) (by decide) (ziN h) (kW h)
 simpa using this
theorem zY (ns:List Int):(pl ns).length=ns.length:=List.length_map _
theorem ygK {ns:List Int} (h:∃ n∈ns,n≠0) {m:Int} (hm:m∈pl ns):∃ n∈ns,m.natAbs<=n.natAbs:=by
 obtain ⟨n,hn,rfl⟩:=List.mem_map.mp hm
 refine ⟨n,hn,?_⟩
 have e:=Int.mul_ediv_cancel' (vC hn)
 have e2:=congrArg Int.natAbs e
 rw [Int.natAbs_mul,sG] at e2
 have p:=xN h
 calc (n / xA ns).natAbs=1*(n / xA ns).natAbs:=by omega
  _<=gcdN ns*(n / xA ns).natAbs:=Nat.mul_le_mul_right _ p
  _=n.natAbs:=e2
end Num
end
section
namespace Num
def qm:List Int->List Int->List Int
 | [a,b,c,d],[e,f,g,h]=>[a*e - b*f - c*g - d*h,a*f+b*e+c*h - d*g,a*g - b*h+c*e+d*f,a*h+b*g - c*f+d*e]
 | _,_=>[]
def cj:List Int->List Int
 | [a,b,c,d]=>[a, -b, -c, -d]
 | _=>[]
def yU:List Int->Int
 | [a,b,c,d]=>a*a+b*b+c*c+d*d
 | _=>0
theorem zU {ns:List Int} (h:ns.length=4):∃ a b c d,ns=[a,b,c,d]:=by
 match ns,h with
 | [a,b,c,d],_=>exact ⟨a,b,c,d,rfl⟩
theorem yhH (a b c d e f g h:Int):(a*e - b*f - c*g - d*h)*(a*e - b*f - c*g - d*h)+(a*f+b*e+c*h - d*g)*(a*f+b*e+c*h - d*g)+(a*g - b*h+c*e+d*f)*(a*g - b*h+c*e+d*f)+(a*h+b*g - c*f+d*e)*(a*h+b*g - c*f+d*e)=(a*a+b*b+c*c+d*d)*(e*e+f*f+g*g+h*h):=by
 grind
theorem xB {ns ms:List Int} (h:ns.length=4) (h2:ms.length=4):(qm ns ms).length=4:=by
 obtain ⟨a,b,c,d,rfl⟩:=zU h
 obtain ⟨e,f,g,i,rfl⟩:=zU h2
 rfl
theorem rN {ns:List Int} (h:ns.length=4):(cj ns).length=4:=by
 obtain ⟨a,b,c,d,rfl⟩:=zU h
 rfl
theorem yeT {ns ms:List Int} (h:ns.length=4) (h2:ms.length=4):yU (qm ns ms)=yU ns*yU ms:=by
 obtain ⟨a,b,c,d,rfl⟩:=zU h
 obtain ⟨e,f,g,i,rfl⟩:=zU h2
 exact yhH a b c d e f g i
theorem sq_nn (a:Int):0<=a*a:=by
 rcases Int.le_total 0 a with h|h
 ·exact Int.mul_nonneg h h
 ·exact Int.mul_nonneg_of_nonpos_of_nonpos h h
theorem zaC {a:Int} (h:a≠0):0<a*a:=by
 have:=sq_nn a
 have:a*a≠0:=Int.mul_ne_zero h h
 omega
theorem yW {ns:List Int} (h:ns.length=4) (hz:∃ n∈ns,n≠0):0<yU ns:=by
 obtain ⟨a,b,c,d,rfl⟩:=zU h
 obtain ⟨n,hn,h0⟩:=hz
 have ha:=sq_nn a
 have hb:=sq_nn b
 have hc:=sq_nn c
 have hd:=sq_nn d
 have hp:=zaC h0
 show 0<a*a+b*b+c*c+d*d
 simp only [List.mem_cons,List.mem_nil_iff,or_false] at hn
 rcases hn with rfl|rfl|rfl|rfl <;> omega
theorem ztM {ns:List Int} (h:ns.length=4) (hz:0<yU ns):∃ n∈ns,n≠0:=by
 obtain ⟨a,b,c,d,rfl⟩:=zU h
 by_cases ha:a=0
 ·by_cases hb:b=0
  ·by_cases hc:c=0
   ·by_cases hd:d=0
    ·subst ha hb hc hd;exact absurd hz (by decide)
    ·exact ⟨d,by simp,hd⟩
   ·exact ⟨c,by simp,hc⟩
  ·exact ⟨b,by simp,hb⟩
 ·exact ⟨a,by simp,ha⟩
theorem vL {ns ms:List Int} (h:ns.length=4) (h2:ms.length=4) (hz:∃ n∈ns,n≠0) (hz2:∃ n∈ms,n≠0):∃ n∈qm ns ms,n≠0:=by
 refine ztM (xB h h2) ?_
 rw [yeT h h2]
 exact Int.mul_pos (yW h hz) (yW h2 hz2)
theorem ycE {ns:List Int} (h:ns.length=4):yU (cj ns)=yU ns:=by
 obtain ⟨a,b,c,d,rfl⟩:=zU h
 show a*a + -b * -b + -c * -c + -d * -d=a*a+b*b+c*c+d*d
 grind
theorem rJ {ns:List Int} (h:ns.length=4) (hz:∃ n∈ns,n≠0):∃ n∈cj ns,n≠0 :=
 ztM (rN h) (by rw [ycE h];exact yW h hz)
theorem zxI {ns ms:List Int} {k:Int} (h:ns.length=4) (h2:ms.length=4):qm (ns.map (k * ·)) ms=(qm ns ms).map (k * ·):=by
 obtain ⟨a,b,c,d,rfl⟩:=zU h
 obtain ⟨e,f,g,i,rfl⟩:=zU h2
 simp only [List.map_cons,List.map_nil,qm]
 congr 1
 ·grind
 congr 1
 ·grind
 congr 1
 ·grind
 congr 1
 ·grind
theorem zwT {ns ms:List Int} {k:Int} (h:ns.length=4) (h2:ms.length=4):qm ns (ms.map (k * ·))=(qm ns ms).map (k * ·):=by
 obtain ⟨a,b,c,d,rfl⟩:=zU h
 obtain ⟨e,f,g,i,rfl⟩:=zU h2
 simp only [List.map_cons,List.map_nil,qm]
 congr 1
 ·grind
 congr 1
 ·grind
 congr 1
 ·grind
 congr 1
 ·grind
theorem ydI {ns:List Int} (h:ns.length=4):qm (cj ns) ns=[1,0,0,0].map (yU ns * ·):=by
 obtain ⟨a,b,c,d,rfl⟩:=zU h
 simp only [List.map_cons,List.map_nil,qm,cj,yU]
 congr 1
 ·grind
 congr 1
 ·grind
 congr 1
 ·grind
 congr 1
 ·grind
theorem zwR {ns:List Int} (h:ns.length=4):qm ns [1,0,0,0]=ns:=by
 obtain ⟨a,b,c,d,rfl⟩:=zU h
 simp [qm]
theorem ztV {ns ms ks:List Int} (h:ns.length=4) (h2:ms.length=4) (h3:ks.length=4):qm (qm ns ms) ks=qm ns (qm ms ks):=by
 obtain ⟨a,b,c,d,rfl⟩:=zU h
 obtain ⟨e,f,g,i,rfl⟩:=zU h2
 obtain ⟨x,y,z,u,rfl⟩:=zU h3
 simp only [qm]
 congr 1
 ·grind
 congr 1
 ·grind
 congr 1
 ·grind
 congr 1
 ·grind
theorem zrB {k:Int} (h:k≠0):pl ([1,0,0,0].map (k * ·))=[1,0,0,0]:=sB h (by decide) (by decide)
theorem zaP {ns ms:List Int} (h:ns.length=4) (h2:ms.length=4) (hz:∃ n∈ns,n≠0) (hz2:∃ n∈ms,n≠0):pl (qm (pl ns) ms)=pl (qm ns ms):=by
 have hp:(pl ns).length=4:=by rw [zY];exact h
 have e:qm ns ms=(qm (pl ns) ms).map (xA ns * ·):=by
  rw [<- zxI hp h2,kA]
 rw [e,wJ (vM hz) (vL hp h2 (xC hz) hz2)]
theorem zcV {ns ms:List Int} (h:ns.length=4) (h2:ms.length=4) (hz:∃ n∈ns,n≠0) (hz2:∃ n∈ms,n≠0):pl (qm ns (pl ms))=pl (qm ns ms):=by
 have hp:(pl ms).length=4:=by rw [zY];exact h2
 have e:qm ns ms=(qm ns (pl ms)).map (xA ms * ·):=by
  rw [<- zwT h hp,kA]
 rw [e,wJ (vM hz2) (vL h hp hz (xC hz2))]
def Bd (b:Nat) (ns:List Int):Prop:=∀ n∈ns,n.natAbs<=b
theorem sH {ns ms:List Int} {x y:Nat} (h:ns.length=4) (h2:ms.length=4) (hx:Bd x ns) (hy:Bd y ms):Bd (4*(x*y)) (qm ns ms):=by
 obtain ⟨a,b,c,d,rfl⟩:=zU h
 obtain ⟨e,f,g,i,rfl⟩:=zU h2
 have q:∀ {p r:Int},p∈[a,b,c,d]->r∈[e,f,g,i]->(p*r).natAbs<=x*y:=fun {p r} hp hr=>by
  rw [Int.natAbs_mul];exact Nat.mul_le_mul (hx p hp) (hy r hr)
 have ad:∀ {u v:Int} {m n:Nat},u.natAbs<=m->v.natAbs<=n->(u+v).natAbs<=m+n:=fun hu hv=>Nat.le_trans (Int.natAbs_add_le _ _) (Nat.add_le_add hu hv)
 have sb:∀ {u v:Int} {m n:Nat},u.natAbs<=m->v.natAbs<=n->(u - v).natAbs<=m+n:=fun hu hv=>Nat.le_trans (Int.natAbs_sub_le _ _) (Nat.add_le_add hu hv)
 have e4:4*(x*y)=x*y+x*y+x*y+x*y:=by
  rw [show 4=1+1+1+1 from rfl,Nat.add_mul,Nat.add_mul,Nat.add_mul,Nat.one_mul]
 have m1:a∈[a,b,c,d]:=.head _
 have m2:b∈[a,b,c,d]:=.tail _ (.head _)
 have m3:c∈[a,b,c,d]:=.tail _ (.tail _ (.head _))
 have m4:d∈[a,b,c,d]:=.tail _ (.tail _ (.tail _ (.head _)))
 have k1:e∈[e,f,g,i]:=.head _
 have k2:f∈[e,f,g,i]:=.tail _ (.head _)
 have k3:g∈[e,f,g,i]:=.tail _ (.tail _ (.head _))
 have k4:i∈[e,f,g,i]:=.tail _ (.tail _ (.tail _ (.head _)))
 intro n hn
 rw [e4]
 simp only [qm,List.mem_cons,List.mem_nil_iff,or_false] at hn
 rcases hn with rfl|rfl|rfl|rfl
 ·exact sb (sb (sb (q m1 k1) (q m2 k2)) (q m3 k3)) (q m4 k4)
 ·exact sb (ad (ad (q m1 k2) (q m2 k1)) (q m3 k4)) (q m4 k3)
 ·exact ad (ad (sb (q m1 k3) (q m2 k4)) (q m3 k1)) (q m4 k2)
 ·exact ad (sb (ad (q m1 k4) (q m2 k3)) (q m3 k2)) (q m4 k1)
theorem zzD {ns:List Int} {x:Nat} (h:ns.length=4) (hx:Bd x ns):Bd x (cj ns):=by
 obtain ⟨a,b,c,d,rfl⟩:=zU h
 intro n hn
 simp only [cj,List.mem_cons,List.mem_nil_iff,or_false] at hn
 have:=hx a (by simp);have:=hx b (by simp);have:=hx c (by simp);have:=hx d (by simp)
 rcases hn with rfl|rfl|rfl|rfl <;> omega
theorem wB {ns:List Int} {x:Nat} (hz:∃ n∈ns,n≠0) (hx:Bd x ns):Bd x (pl ns):=fun m hm=>let ⟨n,hn,hle⟩:=ygK hz hm;Nat.le_trans hle (hx n hn)
end Num
end
section
namespace K0
open PySem L2 Num
section
variable {K:PySem.W.Frag}
def zrS (K:PySem.W.Frag):Sp:=fun vs H Q _=>∃ (a:Addr) (ns:List Int),vs=[.ref a]/\SqT K H a (ns.map V.int)/\Q (.int (gcdN ns)) H
theorem zoA {a b:Int} (ha:0<=a) (hb:0<b):Nat.gcd b.toNat (a % b).toNat=Nat.gcd a.toNat b.toNat:=by
 have h1:(a % b).toNat=a.toNat % b.toNat:=by
  have e:=Int.toNat_emod ha (Int.le_of_lt hb)
  exact e
 rw [h1,Nat.gcd_comm, <- Nat.gcd_rec,Nat.gcd_comm]
def Sm (ns:List Int):Prop:=∀ n∈ns,n.natAbs<2 ^ 9000
def spT (K:PySem.W.Frag) (pre:List Int->Prop) (fn:List Int->List Int):Sp:=fun vs H Q _=>∃ (a:Addr) (ns:List Int),vs=[.ref a]/\SqT K H a (ns.map V.int)/\ns.length<=1000/\pre ns /\
 ∀ (r:Addr) (H':Hp),Same H H'->H' r=some (.tup ((fn ns).map V.int))->Q (.ref r) H'
def jO (ns:List Int):List Int:=ns.map fun n=>n / (gcdN ns:Int)
theorem znB {ns:List Int} (h:∃ n∈ns,n≠0) (hs:Sm ns):((gcdN ns:Nat):Int).natAbs.log2<9000:=by
 obtain ⟨n,hn,h0⟩:=h
 have h1:=zjQ hn h0
 have h2:=hs n hn
 have h3:((gcdN ns:Nat):Int).natAbs<2 ^ 9000:=by
  rw [Int.natAbs_natCast]
  exact Nat.lt_of_le_of_lt h1 h2
 exact (Nat.log2_lt (by have:=xN ⟨n,hn,h0⟩;omega)).mpr h3
def wX (ns ms:List Int):Int:=(List.zipWith (· * ·) ns ms).sum
theorem rQ {i j:Int} (hi:i.natAbs<2 ^ 100000) (hj:j.natAbs<2 ^ 100000):IntMulOk i j:=by
 have b:∀ k:Int,k.natAbs<2 ^ 100000->Builtin.Int.intBits k<=2 ^ 20:=fun k hk=>by
  unfold Builtin.Int.intBits
  split
  ·exact Nat.zero_le _
  ·rename_i h0
   have hne:k.natAbs≠0:=by
    intro z
    apply h0
    have:k=0:=by omega
    simp [this]
   have:=(Nat.log2_lt hne).mpr hk
   omega
 exact IntMulOk.of_bits (b i hi) (b j hj)
theorem vS {n:Nat} (h:n<2 ^ 9000):n<2 ^ 100000:=Nat.lt_of_lt_of_le h (Nat.pow_le_pow_right (by decide) (by decide))
def zfS (K:PySem.W.Frag):Sp:=fun vs H Q _=>∃ (a b:Addr) (ns ms:List Int),vs=[.ref a,.ref b]/\SqT K H a (ns.map V.int)/\SqT K H b (ms.map V.int)/\ns.length<=1000/\ms.length=ns.length/\Sm ns/\Sm ms /\
 ∀ (H':Hp),Same H H'->Q (.int (wX ns ms)) H'
def kX (K:PySem.W.Frag):Sp:=fun vs H Q _=>∃ (a:Addr) (ns:List Int),vs=[.ref a]/\SqT K H a (ns.map V.int)/\ns.length<=1000/\Sm ns/\∀ (H':Hp),Same H H'->Q (.int (wX ns ns)) H'
theorem zgO:∀ {l:List Int} {n:Nat},l.length=n->HT.lexLt l (List.replicate n 0)=decide (xW l<0)
  | [],n,h=>by subst h;rfl
  | x::r,n,h=>by
    subst h
    rw [List.length_cons,List.replicate_succ,HT.lexLt_cons,xW,zgO rfl]
    by_cases hx:x=0
    . rw [if_pos hx,if_pos hx]
    . rw [if_neg hx,if_neg hx]
theorem zlM (ns:List Int):(jO ns).map ((gcdN ns:Int) * ·)=ns:=by
 unfold jO
 rw [List.map_map]
 conv=>rhs;rw [<- List.map_id ns]
 refine List.map_congr_left fun n hn=>?_
 exact Int.mul_ediv_cancel' (xP hn)
theorem zrD {ns:List Int} (h:∃ n∈ns,n≠0):(if xW (jO ns)<0 then (jO ns).map (fun n => -n) else jO ns)=pl ns:=by
 have e:=qU (gcdN ns) (jO ns)
 rw [zlM] at e
 have p:=xN h
 by_cases hn:xW (jO ns)<0
 ·rw [if_pos hn]
  have u:xA ns = -(gcdN ns:Int):=if_pos (by rw [e];exact Int.mul_neg_of_pos_of_neg (by omega) hn)
  unfold pl jO
  rw [u,List.map_map]
  refine List.map_congr_left fun n _=>?_
  show -(n / (gcdN ns:Int))=n / -(gcdN ns:Int)
  rw [Int.ediv_neg]
 ·rw [if_neg hn]
  have u:xA ns=(gcdN ns:Int):=if_neg (by rw [e];have:=Int.mul_nonneg (show (0:Int)<=gcdN ns by omega) (show 0<=xW (jO ns) by omega);omega)
  unfold pl jO
  rw [u]
def xM (ns:List Int):Prop:=ns.length=4/\(∃ n∈ns,n≠0)/\Sm ns
def zjT:Sp:=fun vs H Q _=>∃ (c k:Int),vs=[.int c,.int k]/\Builtin.Int.intBits c<=2 ^ 20/\0<=k/\k<=64/\∀ d,0<=d->d<2147483587->Q (.int d) H
def Pu (H:Hp) (p:Addr):Prop:=∃ a b:Int,H p=some (.lst [.int a,.int b])
def jS:Sp:=fun vs H Q _=>∃ (p:Addr) (m:Int),vs=[.ref p,.int m]/\Pu H p/\0<m/\m<2 ^ 200/\∀ (d:Int) (H':Hp),0<=d->d<m->SB p H H'->Pu H' p->Q (.int d) H'
def zeD (K:PySem.W.Frag):Sp:=fun vs H Q _=>∃ (a:Addr) (ns:List Int),vs=[.ref a]/\SqL K H a (ns.map V.int)/\ns.length<=63/\(∀ v∈ns,Builtin.Int.intBits v<=2 ^ 20)/\∀ (p:Addr) (H':Hp),H p=none->Same H H'->Pu H' p->Q (.ref p) H'
theorem ygA {ns:List Int} (h:ns.length<=63):zaO (ns.map V.int) none (some 63)=ns.map V.int:=by
 have h2:HT.sIx (ns.map V.int).length (ns.map V.int).length (some 63)=(ns.map V.int).length:=by
  rw [List.length_map]
  unfold HT.sIx
  dsimp only
  rw [if_neg (by decide)]
  omega
 unfold zaO
 rw [h2]
 show List.take ((ns.map V.int).length - 0) (List.drop 0 (ns.map V.int))=_
 rw [List.drop_zero,Nat.sub_zero,List.take_length]
theorem tJ {ms:List Int} {d:Int} (h0:0<=d) (h1:d<(ms.length:Int)):∃ m∈ms,kQ (ms.map V.int) d=some (.int m):=by
 obtain ⟨j,rfl⟩:=Int.eq_ofNat_of_zero_le h0
 have hj:j<ms.length:=by omega
 refine ⟨ms[j],List.getElem_mem hj,?_⟩
 exact jJ (by rw [List.getElem?_map];simp [hj])
def zfW:Sp:=fun vs H Q _=>∃ (p:Addr),vs=[.ref p]/\Pu H p/\∀ (d:Int) (H':Hp),d.natAbs<=10 ^ 28->SB p H H'->Pu H' p->Q (.int d) H'
theorem Pu.ne {H:Hp} {p l:Addr} (h:Pu H p) (hl:H l=none):l≠p:=by
 obtain ⟨a,b,e⟩:=h
 intro z;subst z;rw [hl] at e;cases e
theorem Pu.same {H H':Hp} {p:Addr} (h:Pu H p) (s:Same H H'):Pu H' p:=by
 obtain ⟨a,b,e⟩:=h;exact ⟨a,b,s _ _ e⟩
def zhB (K:PySem.W.Frag):Sp:=fun vs H Q _=>∃ (p:Addr),vs=[.ref p]/\Pu H p/\∀ (r:Addr) (ns:List Int) (H':Hp),ns.length=4->(∃ n∈ns,n≠0)->(∀ n∈ns,n.natAbs<=12*10 ^ 28)->SB p H H'->Pu H' p->SqT K H' r (ns.map V.int)->Q (.ref r) H'
theorem Pu.off {H:Hp} {p D:Addr} {o:HO} (h:Pu H p) (n:D≠p):Pu (upd H D o) p:=by
 obtain ⟨a,b,e⟩:=h
 exact ⟨a,b,by rw [zP (Ne.symm n)];exact e⟩
def zfU (K:PySem.W.Frag):Sp:=fun vs H Q _=>∃ (a:Addr) (ns:List Int),vs=[.ref a]/\SqL K H a (ns.map V.int)/\ns.length<=63/\(∀ v∈ns,Builtin.Int.intBits v<=2 ^ 20)/\∀ (H':Hp),Q (.bl true) H'
theorem zgI {ns:List Int} {b:Nat} (h:Bd b ns) (hb:b<2 ^ 9000):Sm ns:=fun n hn=>Nat.lt_of_le_of_lt (h n hn) hb
theorem wU {ns ms:List Int} (h:Sm ns) (h2:Sm ms) {a b:Int} (ha:a∈ns) (hb:b∈ms):IntMulOk a b:=rQ (vS (h a ha)) (vS (h2 b hb))
def sp2 (K:PySem.W.Frag) (fn:List Int->List Int->List Int):Sp:=fun vs H Q _=>∃ (x y:Addr) (ns ms:List Int),vs=[.ref x,.ref y]/\SqT K H x (ns.map V.int)/\SqT K H y (ms.map V.int)/\ns.length=4/\ms.length=4/\Sm ns/\Sm ms /\
 ∀ (r:Addr) (H':Hp),Same H H'->H' r=some (.tup ((fn ns ms).map V.int))->Q (.ref r) H'
def rV (K:PySem.W.Frag):Sp:=fun vs H Q _=>∃ (x y:Addr) (ns ms:List Int),vs=[.ref x,.ref y]/\SqT K H x (ns.map V.int)/\SqT K H y (ms.map V.int)/\ns.length=4/\ms.length=4/\(∃ n∈ns,n≠0)/\(∃ n∈ms,n≠0)/\Bd (2 ^ 4000) ns/\Bd (2 ^ 4000) ms /\
 ∀ (r:Addr) (H':Hp),Same H H'->H' r=some (.tup ((pl (qm ms ns)).map V.int))->Q (.ref r) H'
theorem yS {ns:List Int} {a b:Nat} (h:Bd a ns) (hab:a<=b):Bd b ns:=fun n hn=>Nat.le_trans (h n hn) hab
theorem zvH:(2:Nat) ^ 4000<2 ^ 9000:=Nat.pow_lt_pow_right (by decide) (by decide)
theorem zuT:4*((2:Nat) ^ 4000*2 ^ 4000)<2 ^ 9000:=by
 have e:4*((2:Nat) ^ 4000*2 ^ 4000)=2 ^ 8002:=by
  rw [<- Nat.pow_add,show (4:Nat)=2 ^ 2 from rfl, <- Nat.pow_add]
 rw [e]
 exact Nat.pow_lt_pow_right (by decide) (by decide)
theorem zoM {ns:List Int} (h:Bd (2 ^ 4000) ns):Sm ns:=zgI h zvH
theorem sL {a b c d:Int}:kQ ([a,b,c,d].map V.int) 0=some (.int a):=rfl
theorem zaV {a b c d:Int}:kQ ([a,b,c,d].map V.int) 1=some (.int b):=rfl
theorem zaZ {a b c d:Int}:kQ ([a,b,c,d].map V.int) 2=some (.int c):=rfl
theorem zaX {a b c d:Int}:kQ ([a,b,c,d].map V.int) 3=some (.int d):=rfl
theorem zoI {a b c:Int}:kQ ([a,b,c].map V.int) 0=some (.int a):=rfl
theorem zoU {a b c:Int}:kQ ([a,b,c].map V.int) 1=some (.int b):=rfl
theorem ztA {a b c:Int}:kQ ([a,b,c].map V.int) 2=some (.int c):=rfl
theorem yeY {a b:Int}:kQ ([a,b].map V.int) 0=some (.int a):=rfl
theorem yhZ {a b:Int}:kQ ([a,b].map V.int) 1=some (.int b):=rfl
theorem ygL {ns:List Int} (h:ns.length=4) (hz:∃ n∈ns,n≠0):pl (qm (pl (cj ns)) ns)=[1,0,0,0]:=by
 rw [zaP (rN h) h (rJ h hz) hz,ydI h]
 exact zrB (by have:=yW h hz;omega)
end
end K0
end
section
namespace K0
open PySem L2 Num
theorem zbU {ns:List Int} {c:Int} (hc:0<c):jO (ns.map (c * ·))=jO ns:=by
 unfold jO
 rw [List.map_map,tH]
 refine List.map_congr_left fun n _=>?_
 show c*n / ((c.natAbs*gcdN ns:Nat):Int)=n / (gcdN ns:Int)
 rw [Int.natCast_mul,Int.natAbs_of_nonneg (Int.le_of_lt hc),Int.mul_ediv_mul_of_pos _ _ hc]
def fr (t b:Int):List Int:=jO [t,b]
theorem zyY {t b t' b':Int} (hb:0<b) (hb':0<b') (h:t*b'=t'*b):fr t b=fr t' b':=by
 unfold fr
 rw [<- zbU (ns:=[t,b]) hb', <- zbU (ns:=[t',b']) hb]
 simp only [List.map_cons,List.map_nil]
 rw [Int.mul_comm b' t,h,Int.mul_comm b t',Int.mul_comm b' b]
theorem zrZ (t b:Int):∃ t' b',fr t b=[t',b']:=⟨_,_,rfl⟩
theorem zdG {t b t' b':Int} (hb:0<b) (h:fr t b=[t',b']):0<b'/\b'.natAbs<=b.natAbs/\t'.natAbs<=t.natAbs/\t*b'=t'*b/\Nat.gcd t'.natAbs b'.natAbs=1:=by
 have hg:0<gcdN [t,b]:=xN ⟨b,by simp,by omega⟩
 have d1:(gcdN [t,b]:Int) ∣ t:=xP (by simp)
 have d2:(gcdN [t,b]:Int) ∣ b:=xP (by simp)
 have e1:t'=t / (gcdN [t,b]:Int):=by injection h with h1 _;exact h1.symm
 have e2:b'=b / (gcdN [t,b]:Int):=by injection h with _ h2;injection h2 with h2 _;exact h2.symm
 obtain ⟨u,hu⟩:=d1
 obtain ⟨v,hv⟩:=d2
 have hgi:(0:Int)<(gcdN [t,b]:Int):=by omega
 have eg:gcdN [t,b]=gcdN [t,b]*Nat.gcd u.natAbs v.natAbs:=by
  have:gcdN ([u,v].map ((gcdN [t,b]:Int) * ·))=gcdN [t,b]*gcdN [u,v]:=by rw [tH,Int.natAbs_natCast]
  rw [List.map_cons,List.map_cons,List.map_nil, <- hu, <- hv] at this
  have e:gcdN [u,v]=Nat.gcd u.natAbs v.natAbs:=by rw [xJ,xJ];simp [gcdN]
  rw [e] at this
  exact this
 generalize gcdN [t,b]=g at *
 have eu:t'=u:=by rw [e1,hu,Int.mul_ediv_cancel_left _ (by omega)]
 have ev:b'=v:=by rw [e2,hv,Int.mul_ediv_cancel_left _ (by omega)]
 subst eu ev
 have vp:0<b':=by
  rcases Int.lt_trichotomy b' 0 with z|z|z
  ·have:=Int.mul_neg_of_pos_of_neg hgi z;omega
  ·subst z;simp at hv;omega
  ·exact z
 refine ⟨vp,?_,?_,?_,?_⟩
 ·rw [hv,Int.natAbs_mul,Int.natAbs_natCast];exact Nat.le_mul_of_pos_left _ hg
 ·rw [hu,Int.natAbs_mul,Int.natAbs_natCast];exact Nat.le_mul_of_pos_left _ hg
 ·rw [hu,hv,Int.mul_assoc,Int.mul_left_comm]
 ·have:g*1=g*Nat.gcd t'.natAbs b'.natAbs:=by omega
  exact (Nat.eq_of_mul_eq_mul_left hg this).symm
structure Pt (H:Hp) (p:Addr) (f1 f2 f3:List Int):Prop where
 ex:∃ p1 p2 p3,H p=some (.tup [.ref p1,.ref p2,.ref p3])/\H p1=some (.tup (f1.map V.int))/\H p2=some (.tup (f2.map V.int))/\H p3=some (.tup (f3.map V.int))
theorem Pt.same {H H':Hp} {p:Addr} {f1 f2 f3:List Int} (h:Pt H p f1 f2 f3) (e:Same H H'):Pt H' p f1 f2 f3:=by
 obtain ⟨p1,p2,p3,h0,h1,h2,h3⟩:=h.ex
 exact ⟨p1,p2,p3,e _ _ h0,e _ _ h1,e _ _ h2,e _ _ h3⟩
def Bt (n:Int) (k:Nat):Prop:=n.natAbs<=2 ^ k
theorem Bt.mul {a b:Int} {x y:Nat} (ha:Bt a x) (hb:Bt b y):Bt (a*b) (x+y):=by
 unfold Bt at *
 rw [Int.natAbs_mul,Nat.pow_add];exact Nat.mul_le_mul ha hb
theorem Bt.add {a b:Int} {x:Nat} (ha:Bt a x) (hb:Bt b x):Bt (a+b) (x+1):=by
 unfold Bt at *
 rw [Nat.pow_succ,Nat.mul_two]
 exact Nat.le_trans (Int.natAbs_add_le a b) (Nat.add_le_add ha hb)
theorem Bt.sub {a b:Int} {x:Nat} (ha:Bt a x) (hb:Bt b x):Bt (a - b) (x+1):=by
 unfold Bt at *
 rw [Nat.pow_succ,Nat.mul_two]
 exact Nat.le_trans (Int.natAbs_sub_le a b) (Nat.add_le_add ha hb)
theorem Bt.up {a:Int} {x y:Nat} (h:Bt a x) (hxy:x<=y):Bt a y:=Nat.le_trans h (Nat.pow_le_pow_right (by decide) hxy)
theorem Bt.lt {a:Int} {x:Nat} (h:Bt a x) (hx:x<9000):a.natAbs<2 ^ 9000:=Nat.lt_of_le_of_lt h (Nat.pow_lt_pow_right (by decide) hx)
theorem Bt.mulOk {a b:Int} {x y:Nat} (ha:Bt a x) (hb:Bt b y) (hx:x<9000:=by decide) (hy:y<9000:=by decide):IntMulOk a b:=rQ (vS (ha.lt hx)) (vS (hb.lt hy))
theorem Bt.log {a:Int} {x:Nat} (h:Bt a x) (h0:a≠0) (hx:x<9000:=by decide):a.natAbs.log2<9000:=(Nat.log2_lt (by omega)).mpr (h.lt hx)
theorem sm2 {a b:Int} {x:Nat} (ha:Bt a x) (hb:Bt b x) (hx:x<9000:=by decide):Sm [a,b]:=fun n hn=>by
 simp only [List.mem_cons,List.mem_nil_iff,or_false] at hn
 rcases hn with rfl|rfl
 ·exact ha.lt hx
 ·exact hb.lt hx
def yaD (K:PySem.W.Frag):Sp:=fun vs H Q _=>∃ (a:Addr) (bs:List Int) (C:Int),vs=[.ref a]/\SqL K H a (bs.map V.int)/\(∀ b∈bs,0<b/\b ∣ C)/\0<C/\Bt C 3000 /\
 ∀ (L:Int) (H':Hp),Same H H'->0<L->(∀ b∈bs,b ∣ L)->L ∣ C->Q (.int L) H'
theorem tT {a C:Int} {k:Nat} (h:a ∣ C) (hC:0<C) (b:Bt C k):Bt a k:=by
 obtain ⟨u,hu⟩:=h
 refine Nat.le_trans ?_ b
 have:u≠0:=fun z=>by subst z;simp at hu;omega
 rw [hu,Int.natAbs_mul];exact Nat.le_mul_of_pos_right _ (by omega)
def zzW (K:PySem.W.Frag):Sp:=fun vs H Q _=>∃ (p q:Addr) (n1 n2 n3 b:Int),vs=[.ref p]/\H p=some (.tup [.ref q,.int b])/\H q=some (.tup ([n1,n2,n3].map V.int))/\0<b/\Bt n1 8900/\Bt n2 8900/\Bt n3 8900/\Bt b 8900 /\
 ∀ (r:Addr) (H':Hp),Same H H'->Pt H' r (fr n1 b) (fr n2 b) (fr n3 b)->Q (.ref r) H'
def rw1 (a b c d:Int):List Int:=[a*a+b*b - c*c - d*d,2*(b*c - a*d),2*(b*d+a*c)]
def rw2 (a b c d:Int):List Int:=[2*(b*c+a*d),a*a - b*b+c*c - d*d,2*(c*d - a*b)]
def rw3 (a b c d:Int):List Int:=[2*(b*d - a*c),2*(c*d+a*b),a*a - b*b - c*c+d*d]
def zwH (K:PySem.W.Frag):Sp:=fun vs H Q _=>∃ (x:Addr) (a b c d:Int),vs=[.ref x]/\SqT K H x ([a,b,c,d].map V.int)/\Bd (2 ^ 1000) [a,b,c,d] /\
 ∀ (r:Addr) (H':Hp),Same H H'->Pt H' r (rw1 a b c d) (rw2 a b c d) (rw3 a b c d)->Q (.ref r) H'
def tp (rw:List Int) (t1 b1 t2 b2 t3 b3:Int):Int:=wX rw [t1*(b2*b3),t2*(b1*b3),t3*(b1*b2)]
theorem ydY (t b:Int):gcdN [t,b]=Nat.gcd t.natAbs b.natAbs:=by rw [xJ,xJ];simp [gcdN]
theorem zxS {m n C:Int} (hm:0<m) (hn:0<n) (hC:0<C) (dm:m ∣ C) (dn:n ∣ C) (bC:Bt C 3000):((gcdN [m,n]:Nat):Int)≠0/\((gcdN [m,n]:Nat):Int).natAbs.log2<9000/\Bt (m.fdiv (gcdN [m,n]:Nat)) 3000 /\
  0<m.fdiv (gcdN [m,n]:Nat)*n/\m ∣ m.fdiv (gcdN [m,n]:Nat)*n/\n ∣ m.fdiv (gcdN [m,n]:Nat)*n/\m.fdiv (gcdN [m,n]:Nat)*n ∣ C:=by
 have hg:0<gcdN [m,n]:=xN ⟨n,by simp,by omega⟩
 have hl:gcdN [m,n]<=n.natAbs:=zjQ (by simp) (by omega)
 have d1:(gcdN [m,n]:Int) ∣ m:=xP (by simp)
 have d2:(gcdN [m,n]:Int) ∣ n:=xP (by simp)
 have bn:=tT dn hC bC
 have bm:=tT dm hC bC
 have bg:Bt ((gcdN [m,n]:Nat):Int) 3000:=by unfold Bt;rw [Int.natAbs_natCast];exact Nat.le_trans hl bn
 have lc:m.fdiv (gcdN [m,n]:Nat)*n ∣ C:=by
  rw [Int.fdiv_eq_ediv_of_dvd d1]
  obtain ⟨M,rfl⟩:=Int.eq_ofNat_of_zero_le (Int.le_of_lt hm)
  obtain ⟨N,rfl⟩:=Int.eq_ofNat_of_zero_le (Int.le_of_lt hn)
  obtain ⟨c,rfl⟩:=Int.eq_ofNat_of_zero_le (Int.le_of_lt hC)
  rw [ydY,Int.natAbs_natCast,Int.natAbs_natCast]
  have e:((M:Int) / (Nat.gcd M N:Nat)*(N:Int))=((Nat.lcm M N:Nat):Int):=by
   rw [<- Int.natCast_ediv, <- Int.natCast_mul]
   congr 1
   unfold Nat.lcm
   rw [Nat.div_mul_right_comm (Nat.gcd_dvd_left M N)]
  rw [e]
  exact Int.natCast_dvd_natCast.mpr (Nat.lcm_dvd (Int.natCast_dvd_natCast.mp dm) (Int.natCast_dvd_natCast.mp dn))
 rw [Int.fdiv_eq_ediv_of_dvd d1] at lc ⊢
 obtain ⟨u,hu⟩:=d1
 obtain ⟨v,hv⟩:=d2
 generalize gcdN [m,n]=g at *
 have eu:m / (g:Int)=u:=by rw [hu,Int.mul_ediv_cancel_left _ (by omega)]
 rw [eu] at lc ⊢
 have up:0<u:=by
  rcases Int.lt_trichotomy u 0 with z|z|z
  ·have:=Int.mul_neg_of_pos_of_neg (show (0:Int)<g by omega) z;omega
  ·subst z;simp at hu;omega
  ·exact z
 refine ⟨by omega,bg.log (by omega),?_,Int.mul_pos up hn,⟨v,?_⟩,⟨u,Int.mul_comm _ _⟩,lc⟩
 ·refine Nat.le_trans ?_ bm
  rw [hu,Int.natAbs_mul,Int.natAbs_natCast];exact Nat.le_mul_of_pos_left _ hg
 ·rw [hu,hv];grind
theorem zpG {L b:Int} (hb:0<b) (hL:0<L) (hd:b ∣ L) (bL:Bt L 3000):L.fdiv b*b=L/\Bt (L.fdiv b) 3000:=by
 rw [Int.fdiv_eq_ediv_of_dvd hd]
 obtain ⟨u,hu⟩:=hd
 have e:L / b=u:=by rw [hu,Int.mul_ediv_cancel_left _ (by omega)]
 rw [e]
 refine ⟨by rw [hu,Int.mul_comm],Nat.le_trans ?_ bL⟩
 rw [hu,Int.natAbs_mul];exact Nat.le_mul_of_pos_left _ (by omega)
theorem atA {x y:V}:kQ [x,y] 0=some x:=rfl
theorem atB {x y:V}:kQ [x,y] 1=some y:=rfl
theorem ztW (a b c d e f:Int):wX [a,b,c] [d,e,f]=a*d+b*e+c*f:=by
 simp only [wX,List.zipWith_cons_cons,List.zipWith_nil_right,List.sum_cons,List.sum_nil];omega
theorem tP (a b c d:Int):wX [a,b,c,d] [a,b,c,d]=yU [a,b,c,d]:=by
 simp only [wX,yU,List.zipWith_cons_cons,List.zipWith_nil_right,List.sum_cons,List.sum_nil];omega
theorem two1:Bt 2 1:=by unfold Bt;decide
theorem sq3 {a b c d:Int} (ha:Bt a 2000) (hb:Bt b 2000) (hc:Bt c 2000) (hd:Bt d 2000):Bt (a+b - c - d) 2003:=((ha.add hb).sub (hc.up (by decide))).sub (hd.up (by decide))
theorem yiZ {a b c d:Int} (ha:Bt a 2000) (hb:Bt b 2000) (hc:Bt c 2000) (hd:Bt d 2000):Bt (a - b+c - d) 2003:=((ha.sub hb).add (hc.up (by decide))).sub (hd.up (by decide))
theorem yiB {a b c d:Int} (ha:Bt a 2000) (hb:Bt b 2000) (hc:Bt c 2000) (hd:Bt d 2000):Bt (a - b - c+d) 2003:=((ha.sub hb).sub (hc.up (by decide))).add (hd.up (by decide))
theorem tw {a b:Int} (ha:Bt a 2000) (hb:Bt b 2000):Bt (2*(a - b)) 2003:=(two1.mul (ha.sub hb)).up (by decide)
theorem tw' {a b:Int} (ha:Bt a 2000) (hb:Bt b 2000):Bt (2*(a+b)) 2003:=(two1.mul (ha.add hb)).up (by decide)
theorem zwU {a b c d:Int} (h:Bd (2 ^ 1000) [a,b,c,d]):(∀ n∈rw1 a b c d,Bt n 2003)/\(∀ n∈rw2 a b c d,Bt n 2003)/\(∀ n∈rw3 a b c d,Bt n 2003):=by
 have ha:Bt a 1000:=h a (by simp)
 have hb:Bt b 1000:=h b (by simp)
 have hc:Bt c 1000:=h c (by simp)
 have hd:Bt d 1000:=h d (by simp)
 have m:∀ {x y:Int},Bt x 1000->Bt y 1000->Bt (x*y) 2000:=fun hx hy=>hx.mul hy
 refine ⟨fun n hn=>?_,fun n hn=>?_,fun n hn=>?_⟩
 ·simp only [rw1,List.mem_cons,List.mem_nil_iff,or_false] at hn
  rcases hn with rfl|rfl|rfl
  ·exact sq3 (m ha ha) (m hb hb) (m hc hc) (m hd hd)
  ·exact tw (m hb hc) (m ha hd)
  ·exact tw' (m hb hd) (m ha hc)
 ·simp only [rw2,List.mem_cons,List.mem_nil_iff,or_false] at hn
  rcases hn with rfl|rfl|rfl
  ·exact tw' (m hb hc) (m ha hd)
  ·exact yiZ (m ha ha) (m hb hb) (m hc hc) (m hd hd)
  ·exact tw (m hc hd) (m ha hb)
 ·simp only [rw3,List.mem_cons,List.mem_nil_iff,or_false] at hn
  rcases hn with rfl|rfl|rfl
  ·exact tw (m hb hd) (m ha hc)
  ·exact tw' (m hc hd) (m ha hb)
  ·exact yiB (m ha ha) (m hb hb) (m hc hc) (m hd hd)
theorem zaS {a b c d:Int} (h:Bd (2 ^ 1000) [a,b,c,d]):Bt (yU [a,b,c,d]) 2003:=by
 have ha:Bt a 1000:=h a (by simp)
 have hb:Bt b 1000:=h b (by simp)
 have hc:Bt c 1000:=h c (by simp)
 have hd:Bt d 1000:=h d (by simp)
 exact (((ha.mul ha).add (hb.mul hb)).add ((hc.mul hc).up (by decide))).add ((hd.mul hd).up (by decide))
theorem bts {ns:List Int} {k:Nat} (h:∀ n∈ns,Bt n k) (hk:k<9000:=by decide):Sm ns:=fun n hn=>(h n hn).lt hk
theorem yhN (t b:Int):gcdN [t,b]=Nat.gcd t.natAbs b.natAbs:=by rw [xJ,xJ];simp [gcdN]
def ptD (f1 f2 f3:List Int):PySem.W.Dat:=.tuple [.tuple (f1.map .int),.tuple (f2.map .int),.tuple (f3.map .int)]
end K0
end
section
namespace K0
open PySem L2 Num
def qv (t b:Int):Rat:=(t:Rat) / (b:Rat)
theorem wN {b:Int} (h:b≠0):(b:Rat)≠0:=fun z=>h (by exact_mod_cast z)
theorem yhX {t b t' b':Int} (hb:0<b) (hb':0<b') (h:qv t b=qv t' b'):fr t b=fr t' b':=by
 refine zyY hb hb' ?_
 have h1:=wN (show b≠0 by omega)
 have h2:=wN (show b'≠0 by omega)
 unfold qv at h
 have:(t:Rat)*b'=t'*b:=by grind
 exact_mod_cast this
theorem zzA {t b t' b':Int} (hb:b≠0) (hb':b'≠0) (h:t*b'=t'*b):qv t b=qv t' b':=by
 have h1:=wN hb
 have h2:=wN hb'
 unfold qv
 have:(t:Rat)*b'=t'*b:=by exact_mod_cast h
 grind
def R1 (a b c d x y z:Rat):Rat:=(a*a+b*b - c*c - d*d)*x+2*(b*c - a*d)*y+2*(b*d+a*c)*z
def R2 (a b c d x y z:Rat):Rat:=2*(b*c+a*d)*x+(a*a - b*b+c*c - d*d)*y+2*(c*d - a*b)*z
def R3 (a b c d x y z:Rat):Rat:=2*(b*d - a*c)*x+2*(c*d+a*b)*y+(a*a - b*b - c*c+d*d)*z
def N4 (a b c d:Rat):Rat:=a*a+b*b+c*c+d*d
structure Lo (k:Nat) (t b:Int) (x:Rat):Prop where
 pos:0<b
 low:Nat.gcd t.natAbs b.natAbs=1
 bt:Bt t k
 bb:Bt b k
 val:qv t b=x
theorem Lo.fr {k:Nat} {t b:Int} {x:Rat} (h:Lo k t b x):fr t b=[t,b]:=by
 unfold K0.fr jO
 rw [yhN,h.low]
 simp
theorem Lo.eq {k k':Nat} {t b t' b':Int} {x:Rat} (h:Lo k t b x) (h':Lo k' t' b' x):[t,b]=[t',b']:=by
 rw [<- h.fr, <- h'.fr]
 exact yhX h.pos h'.pos (by rw [h.val,h'.val])
theorem Lo.of {k:Nat} {T B t b:Int} {x:Rat} (hB:0<B) (hT:Bt T k) (hb:Bt B k) (h:K0.fr T B=[t,b]) (hv:qv T B=x):Lo k t b x:=by
 obtain ⟨h1,h2,h3,h4,h5⟩:=zdG hB h
 refine ⟨h1,h5,Nat.le_trans h3 hT,Nat.le_trans h2 hb,?_⟩
 rw [<- hv]
 exact (zzA (by omega) (by omega) h4).symm
theorem zfG {m:Nat} {a b c d:Int} (h:Bd (2 ^ m) [a,b,c,d]):(∀ n∈rw1 a b c d,Bt n (2*m+3))/\(∀ n∈rw2 a b c d,Bt n (2*m+3))/\(∀ n∈rw3 a b c d,Bt n (2*m+3)):=by
 have ha:Bt a m:=h a (by simp)
 have hb:Bt b m:=h b (by simp)
 have hc:Bt c m:=h c (by simp)
 have hd:Bt d m:=h d (by simp)
 have q:∀ {x y:Int},Bt x m->Bt y m->Bt (x*y) (2*m):=fun hx hy=>(hx.mul hy).up (by omega)
 have s1:∀ {w x y z:Int},Bt w (2*m)->Bt x (2*m)->Bt y (2*m)->Bt z (2*m)->Bt (w+x - y - z) (2*m+3):=fun hw hx hy hz=>((hw.add hx).sub (hy.up (by omega))).sub (hz.up (by omega))
 have s2:∀ {w x y z:Int},Bt w (2*m)->Bt x (2*m)->Bt y (2*m)->Bt z (2*m)->Bt (w - x+y - z) (2*m+3):=fun hw hx hy hz=>((hw.sub hx).add (hy.up (by omega))).sub (hz.up (by omega))
 have s3:∀ {w x y z:Int},Bt w (2*m)->Bt x (2*m)->Bt y (2*m)->Bt z (2*m)->Bt (w - x - y+z) (2*m+3):=fun hw hx hy hz=>((hw.sub hx).sub (hy.up (by omega))).add (hz.up (by omega))
 have d1:∀ {x y:Int},Bt x (2*m)->Bt y (2*m)->Bt (2*(x - y)) (2*m+3):=fun hx hy=>(two1.mul (hx.sub hy)).up (by omega)
 have d2:∀ {x y:Int},Bt x (2*m)->Bt y (2*m)->Bt (2*(x+y)) (2*m+3):=fun hx hy=>(two1.mul (hx.add hy)).up (by omega)
 refine ⟨fun n hn=>?_,fun n hn=>?_,fun n hn=>?_⟩
 ·simp only [rw1,List.mem_cons,List.mem_nil_iff,or_false] at hn
  rcases hn with rfl|rfl|rfl
  ·exact s1 (q ha ha) (q hb hb) (q hc hc) (q hd hd)
  ·exact d1 (q hb hc) (q ha hd)
  ·exact d2 (q hb hd) (q ha hc)
 ·simp only [rw2,List.mem_cons,List.mem_nil_iff,or_false] at hn
  rcases hn with rfl|rfl|rfl
  ·exact d2 (q hb hc) (q ha hd)
  ·exact s2 (q ha ha) (q hb hb) (q hc hc) (q hd hd)
  ·exact d1 (q hc hd) (q ha hb)
 ·simp only [rw3,List.mem_cons,List.mem_nil_iff,or_false] at hn
  rcases hn with rfl|rfl|rfl
  ·exact d1 (q hb hd) (q ha hc)
  ·exact d2 (q hc hd) (q ha hb)
  ·exact s3 (q ha ha) (q hb hb) (q hc hc) (q hd hd)
theorem zkS {m:Nat} {a b c d:Int} (h:Bd (2 ^ m) [a,b,c,d]):Bt (yU [a,b,c,d]) (2*m+3):=by
 have ha:Bt a m:=h a (by simp)
 have hb:Bt b m:=h b (by simp)
 have hc:Bt c m:=h c (by simp)
 have hd:Bt d m:=h d (by simp)
 have q:∀ {x y:Int},Bt x m->Bt y m->Bt (x*y) (2*m):=fun hx hy=>(hx.mul hy).up (by omega)
 exact (((q ha ha).add (q hb hb)).add ((q hc hc).up (by omega))).add ((q hd hd).up (by omega))
theorem tE {ns:List Int} {a b c d:Int} (e:ns=[a,b,c,d]) (hz:∃ n∈ns,n≠0):N4 a b c d≠0:=by
 subst e
 have np:=yW (ns:=[a,b,c,d]) rfl hz
 have cN:((yU [a,b,c,d]:Int):Rat)=N4 a b c d:=by unfold yU N4;push_cast;rfl
 rw [<- cN]
 exact wN (by omega)
theorem wV {x n y m:Rat} (hn:n≠0) (hm:m≠0) (h:x / n=y / m):x*m=y*n:=by grind
def zbC (a b c d e f g h x y z:Rat):Prop:=R1 a b c d x y z / N4 a b c d=R1 e f g h x y z / N4 e f g h/\R2 a b c d x y z / N4 a b c d=R2 e f g h x y z / N4 e f g h/\R3 a b c d x y z / N4 a b c d=R3 e f g h x y z / N4 e f g h
theorem ygO {a b c d e f g h:Rat} (n:N4 a b c d≠0) (m:N4 e f g h≠0) (h1:zbC a b c d e f g h 1 0 0) (h2:zbC a b c d e f g h 2 1 0) (h3:zbC a b c d e f g h (-1) 3 1) :
  (a*a*N4 e f g h=e*e*N4 a b c d/\a*b*N4 e f g h=e*f*N4 a b c d/\a*c*N4 e f g h=e*g*N4 a b c d/\a*d*N4 e f g h=e*h*N4 a b c d) /\
  (b*b*N4 e f g h=f*f*N4 a b c d/\b*c*N4 e f g h=f*g*N4 a b c d/\b*d*N4 e f g h=f*h*N4 a b c d)/\(c*c*N4 e f g h=g*g*N4 a b c d/\c*d*N4 e f g h=g*h*N4 a b c d)/\d*d*N4 e f g h=h*h*N4 a b c d:=by
 obtain ⟨p1,p2,p3⟩:=h1
 obtain ⟨q1,q2,q3⟩:=h2
 obtain ⟨r1,r2,r3⟩:=h3
 replace p1:=wV n m p1
 replace p2:=wV n m p2
 replace p3:=wV n m p3
 replace q1:=wV n m q1
 replace q2:=wV n m q2
 replace q3:=wV n m q3
 replace r1:=wV n m r1
 replace r2:=wV n m r2
 replace r3:=wV n m r3
 have eN:N4 a b c d=a*a+b*b+c*c+d*d:=rfl
 have eM:N4 e f g h=e*e+f*f+g*g+h*h:=rfl
 generalize N4 a b c d=N at *
 generalize N4 e f g h=M at *
 unfold R1 at p1 q1 r1
 unfold R2 at p2 q2 r2
 unfold R3 at p3 q3 r3
 refine ⟨⟨?_,?_,?_,?_⟩,⟨?_,?_,?_⟩,⟨?_,?_⟩,?_⟩ <;> grind
theorem qK {ns ms:List Int} {k l:Int} (hk:k≠0) (hl:l≠0) (h:ns.map (k * ·)=ms.map (l * ·)) (z1:∃ n∈ns,n≠0) (z2:∃ n∈ms,n≠0):pl ns=pl ms:=by
 rw [<- wJ hk z1,h,wJ hl z2]
theorem zsN {a b c d e f g h:Int} (z1:∃ n∈[a,b,c,d],n≠0) (z2:∃ n∈[e,f,g,h],n≠0) (h1:zbC a b c d e f g h 1 0 0) (h2:zbC a b c d e f g h 2 1 0) (h3:zbC a b c d e f g h (-1) 3 1):pl [a,b,c,d]=pl [e,f,g,h]:=by
 have n:=tE rfl z1
 have m:=tE rfl z2
 obtain ⟨⟨aa,ab,ac,ad⟩,⟨bb,bc,bd⟩,⟨cc,cd⟩,dd⟩:=ygO n m h1 h2 h3
 have cN:((yU [a,b,c,d]:Int):Rat)=N4 a b c d:=by unfold yU N4;push_cast;rfl
 have cM:((yU [e,f,g,h]:Int):Rat)=N4 e f g h:=by unfold yU N4;push_cast;rfl
 have pn:=yW (ns:=[a,b,c,d]) rfl z1
 have pm:=yW (ns:=[e,f,g,h]) rfl z2
 rw [<- cN, <- cM] at aa ab ac ad bb bc bd cc cd dd
 generalize yU [a,b,c,d]=N at *
 generalize yU [e,f,g,h]=M at *
 replace aa:a*a*M=e*e*N:=by exact_mod_cast aa
 replace ab:a*b*M=e*f*N:=by exact_mod_cast ab
 replace ac:a*c*M=e*g*N:=by exact_mod_cast ac
 replace ad:a*d*M=e*h*N:=by exact_mod_cast ad
 replace bb:b*b*M=f*f*N:=by exact_mod_cast bb
 replace bc:b*c*M=f*g*N:=by exact_mod_cast bc
 replace bd:b*d*M=f*h*N:=by exact_mod_cast bd
 replace cc:c*c*M=g*g*N:=by exact_mod_cast cc
 replace cd:c*d*M=g*h*N:=by exact_mod_cast cd
 replace dd:d*d*M=h*h*N:=by exact_mod_cast dd
 have key:∀ x y:Int,x≠0->x*x*M=y*y*N->x*M≠0/\y*N≠0:=fun x y hx e=>by
  have h1:x*M≠0:=Int.mul_ne_zero hx (by omega)
  refine ⟨h1,fun z=>?_⟩
  have h2:x*(x*M)=y*(y*N):=by rw [<- Int.mul_assoc,e,Int.mul_assoc]
  rw [z,Int.mul_zero] at h2
  exact Int.mul_ne_zero hx h1 h2
 have four:∀ {x1 x2 x3 x4 y1 y2 y3 y4:Int},x1=y1->x2=y2->x3=y3->x4=y4->[x1,x2,x3,x4]=[y1,y2,y3,y4]:=fun h1 h2 h3 h4=>by rw [h1,h2,h3,h4]
 by_cases ha:a=0
 ·by_cases hb:b=0
  ·by_cases hc:c=0
   ·by_cases hd:d=0
    ·subst ha hb hc hd
     obtain ⟨x,hx,h0⟩:=z1
     simp at hx;exact absurd hx h0
    ·obtain ⟨k1,k2⟩:=key d h hd dd
     exact qK k1 k2 (four (by grind) (by grind) (by grind) (by grind)) z1 z2
   ·obtain ⟨k1,k2⟩:=key c g hc cc
    exact qK k1 k2 (four (by grind) (by grind) (by grind) (by grind)) z1 z2
  ·obtain ⟨k1,k2⟩:=key b f hb bb
   exact qK k1 k2 (four (by grind) (by grind) (by grind) (by grind)) z1 z2
 ·obtain ⟨k1,k2⟩:=key a e ha aa
  exact qK k1 k2 (four (by grind) (by grind) (by grind) (by grind)) z1 z2
end K0
end
section
namespace K0
open PySem L2 Num
structure PC (H:Hp) (r:Addr) (c:Nat) (x y z:Rat):Prop where
 ex:∃ t1 b1 t2 b2 t3 b3,Pt H r [t1,b1] [t2,b2] [t3,b3]/\Lo c t1 b1 x/\Lo c t2 b2 y/\Lo c t3 b3 z/\∃ C T1 T2 T3:Int,0<C/\Bt C c/\Bt T1 c/\Bt T2 c/\Bt T3 c/\qv T1 C=x/\qv T2 C=y/\qv T3 C=z
def bk (n:List Int):List Int:=pl (cj n)
end K0
end
section
namespace K0
open PySem L2 Num
theorem okL {i j:Int} (h1 : -(2 ^ 64)<i) (h2:i<2 ^ 64):IntMulOk i j:=CMul.ok (.inl ⟨h1,h2⟩)
theorem Pt.nl {H H':Hp} {p:Addr} {f1 f2 f3:List Int} (h:Pt H p f1 f2 f3) (e:NL H H'):Pt H' p f1 f2 f3:=by
 obtain ⟨p1,p2,p3,h0,h1,h2,h3⟩:=h.ex
 have t:∀ {a:Addr} {xs:List V},H a=some (.tup xs)->H' a=some (.tup xs):=fun h=>e _ _ (fun ys z=>by cases z) h
 exact ⟨p1,p2,p3,t h0,t h1,t h2,t h3⟩
structure Tb (H:Hp) (r:Addr) (f11 f12 f13 f21 f22 f23 f31 f32 f33:List Int):Prop where
 ex:∃ p1 p2 p3,H r=some (.tup [.ref p1,.ref p2,.ref p3])/\Pt H p1 f11 f12 f13/\Pt H p2 f21 f22 f23/\Pt H p3 f31 f32 f33
def tbD (f11 f12 f13 f21 f22 f23 f31 f32 f33:List Int):PySem.W.Dat:=.tuple [ptD f11 f12 f13,ptD f21 f22 f23,ptD f31 f32 f33]
def ybP (H:Hp) (r:Addr) (a b c d:Int):Prop :=
 Tb H r (fr (a*a+b*b - c*c - d*d) (yU [a,b,c,d])) (fr (2*(b*c - a*d)) (yU [a,b,c,d])) (fr (2*(b*d+a*c)) (yU [a,b,c,d]))
  (fr (2*(b*c+a*d)) (yU [a,b,c,d])) (fr (a*a - b*b+c*c - d*d) (yU [a,b,c,d])) (fr (2*(c*d - a*b)) (yU [a,b,c,d]))
  (fr (2*(b*d - a*c)) (yU [a,b,c,d])) (fr (2*(c*d+a*b)) (yU [a,b,c,d])) (fr (a*a - b*b - c*c+d*d) (yU [a,b,c,d]))
def zeN (K:PySem.W.Frag):Sp:=fun vs H Q _=>∃ (x:Addr) (a b c d:Int),vs=[.ref x]/\SqT K H x ([a,b,c,d].map V.int)/\(∃ n∈[a,b,c,d],n≠0)/\Bd (2 ^ 1000) [a,b,c,d]/\∀ (r:Addr) (H':Hp),Same H H'->ybP H' r a b c d->Q (.ref r) H'
end K0
end
section
namespace L2
open PySem PySem.Spec PyProof.Rows
end L2
namespace K0
open PySem L2 Num
open PySem.W (Dat)
def rs (ns:List Int):List Int:=match ns with|[a,_,_,_]=>fr (a*a) (yU ns)|_=>[]
theorem ycJ {a b c d:Int} (hz:∃ n∈[a,b,c,d],n≠0):rs [a,b,c,d]=[1,1] ↔ [b,c,d]=[0,0,0]:=by
 have p:=yW (ns:=[a,b,c,d]) rfl hz
 refine ⟨fun h=>?_,fun h=>?_⟩
 ·have e:=(zdG p (show fr (a*a) (yU [a,b,c,d])=[1,1] from h)).2.2.2.1
  replace e:a*a*1=1*(a*a+b*b+c*c+d*d):=e
  have hb:=sq_nn b
  have hc:=sq_nn c
  have hd:=sq_nn d
  have zb:b=0:=by
   by_cases y:b=0
   ·exact y
   ·have:=zaC y;omega
  have zc:c=0:=by
   by_cases y:c=0
   ·exact y
   ·have:=zaC y;omega
  have zd:d=0:=by
   by_cases y:d=0
   ·exact y
   ·have:=zaC y;omega
  rw [zb,zc,zd]
 ·injection h with h1 h2
  injection h2 with h2 h3
  injection h3 with h3 _
  subst h1 h2 h3
  have e:fr (a*a) (yU [a,0,0,0])=fr 1 1:=zyY p (by decide) (by unfold yU;grind)
  show fr (a*a) (yU [a,0,0,0])=_
  rw [e];decide
def zhX (K:PySem.W.Frag):Sp:=fun vs H Q _=>∃ (x:Addr) (ns:List Int),vs=[.ref x]/\SqT K H x (ns.map V.int)/\ns.length=4/\(∃ n∈ns,n≠0)/\Bd (2 ^ 1000) ns/\∀ (r:Addr) (H':Hp),Same H H'->H' r=some (.tup ((rs ns).map V.int))->Q (.ref r) H'
def ax (ns:List Int):Option (List Int):=if (pl ns).drop 1=[0,0,0] then none else some (jO ((pl ns).drop 1))
def AxV (H:Hp) (v:V) (o:Option (List Int)):Prop:=match o with|none=>v = .non|some l=>∃ r,v = .ref r/\H r=some (.tup (l.map V.int))
def axD (o:Option (List Int)):Dat:=match o with|none=>.none|some l=>.tuple (l.map .int)
def ziB (K:PySem.W.Frag):Sp:=fun vs H Q _=>∃ (x:Addr) (ns:List Int),vs=[.ref x]/\SqT K H x (ns.map V.int)/\ns.length=4/\(∃ n∈ns,n≠0)/\Bd (2 ^ 1000) ns/\∀ (v:V) (H':Hp),Same H H'->AxV H' v (ax ns)->Q v H'
def qZ (K:PySem.W.Frag):Sp:=fun vs H Q _=>∃ (x y:Addr) (p t u k l:Int),vs=[.ref x,.ref y]/\SqT K H x ([p,t,u].map V.int)/\SqT K H y ([k,l].map V.int)/\(∃ n∈[l,k*p,k*t,k*u],n≠0)/\Bd (2 ^ 1000) [p,t,u]/\Bd (2 ^ 1000) [k,l] /\
 ∀ (r:Addr) (H':Hp),Same H H'->H' r=some (.tup ((pl [l,k*p,k*t,k*u]).map V.int))->Q (.ref r) H'
theorem zsF {k l a b c:Int} (hk:k≠0\/l≠0) (nz:∃ n∈[a,b,c],n≠0):∃ n∈[l,k*a,k*b,k*c],n≠0:=by
 by_cases hl:l=0
 ·have hk':k≠0:=by omega
  obtain ⟨n,hn,h0⟩:=nz
  refine ⟨k*n,?_,Int.mul_ne_zero hk' h0⟩
  simp only [List.mem_cons,List.mem_nil_iff,or_false] at hn
  rcases hn with rfl|rfl|rfl <;> simp
 ·exact ⟨l,by simp,hl⟩
def cr (a b c d e f:Int):List Int:=[b*f - c*e,c*d - a*f,a*e - b*d]
def zlK (K:PySem.W.Frag):Sp:=fun vs H Q _=>∃ (x y:Addr) (a b c d e f:Int),vs=[.ref x,.ref y]/\SqT K H x ([a,b,c].map V.int)/\SqT K H y ([d,e,f].map V.int)/\Bd (2 ^ 4000) [a,b,c]/\Bd (2 ^ 4000) [d,e,f]/\∀ (r:Addr) (H':Hp),Same H H'->H' r=some (.tup ((cr a b c d e f).map V.int))->Q (.ref r) H'
def zcQ (K:PySem.W.Frag):Sp:=fun vs H Q _=>∃ (x y:Addr) (a b c d e f:Int),vs=[.ref x,.ref y]/\SqT K H x ([a,b,c].map V.int)/\SqT K H y ([d,e,f].map V.int)/\Bd (2 ^ 4000) [a,b,c]/\Bd (2 ^ 4000) [d,e,f]/\∀ (H':Hp),Same H H'->Q (.bl (decide (cr a b c d e f=[0,0,0]))) H'
def ps (k l:Int):List Int:=[k / xA [l,k],l / xA [l,k]]
theorem ybB (k l:Int):Nat.gcd k.natAbs l.natAbs=gcdN [l,k]:=by
 show _=Nat.gcd (Nat.gcd 0 l.natAbs) k.natAbs
 rw [Nat.gcd_zero_left,Nat.gcd_comm]
theorem zyV (k l:Int):xA [l,k]=if l<0\/(l=0/\k<0) then -(gcdN [l,k]:Int) else gcdN [l,k]:=by
 unfold xA
 have e:xW [l,k]<0 ↔ l<0\/(l=0/\k<0):=by
  simp only [xW]
  split
  ·split <;> omega
  ·omega
 by_cases h:xW [l,k]<0
 ·rw [if_pos h,if_pos (e.mp h)]
 ·rw [if_neg h,if_neg (fun y=>h (e.mpr y))]
theorem ydR {k l:Int} (h:∃ n∈[l,k],n≠0):(l / (gcdN [k,l]:Int)<0\/(k / (gcdN [k,l]:Int) = -1/\l / (gcdN [k,l]:Int)=0)) ↔ (l<0\/(l=0/\k<0)):=by
 have h':∃ n∈[k,l],n≠0:=by
  obtain ⟨n,hn,h0⟩:=h
  exact ⟨n,by simp at hn ⊢;omega,h0⟩
 have gp:=xN h'
 have e:Nat.gcd l.natAbs k.natAbs=gcdN [k,l]:=ybB l k
 obtain ⟨a,ha⟩:=xP (ns:=[k,l]) (n:=k) (by simp)
 obtain ⟨b,hb⟩:=xP (ns:=[k,l]) (n:=l) (by simp)
 generalize gcdN [k,l]=g at *
 have gp':(0:Int)<g:=by omega
 have ka:k / (g:Int)=a:=by rw [ha];exact Int.mul_ediv_cancel_left _ (by omega)
 have lb:l / (g:Int)=b:=by rw [hb];exact Int.mul_ediv_cancel_left _ (by omega)
 rw [ka,lb]
 have n1:b<0 ↔ l<0:=by
  rw [hb]
  constructor
  ·intro y;exact Int.mul_neg_of_pos_of_neg gp' y
  ·intro y
   apply Decidable.byContradiction
   intro z
   have:=Int.mul_nonneg (Int.le_of_lt gp') (show 0<=b by omega)
   omega
 have n2:b=0 ↔ l=0:=by
  rw [hb]
  constructor
  ·intro y;rw [y,Int.mul_zero]
  ·intro y
   rcases Int.mul_eq_zero.mp y with y|y
   ·omega
   ·exact y
 have n3:l=0->(a = -1 ↔ k<0):=fun l0=>by
  rw [l0] at e
  have e2:k.natAbs=g:=by rw [<- e];simp
  constructor
  ·intro y;rw [y] at ha;omega
  ·intro y
   have:k = -(g:Int):=by omega
   rw [this] at ha
   have z:(g:Int)*(a+1)=0:=by rw [Int.mul_add, <- ha];omega
   rcases Int.mul_eq_zero.mp z with y|y <;> omega
 constructor
 ·rintro (y|⟨y,z⟩)
  ·exact .inl (n1.mp y)
  ·exact .inr ⟨n2.mp z,(n3 (n2.mp z)).mp y⟩
 ·rintro (y|⟨y,z⟩)
  ·exact .inl (n1.mpr y)
  ·exact .inr ⟨(n3 y).mpr z,n2.mpr y⟩
theorem zgL (k l:Int):gcdN [k,l]=gcdN [l,k]:=by rw [<- ybB l k,Nat.gcd_comm,ybB]
theorem ydH {k l:Int} (h:l<0\/(l=0/\k<0)):(jO [k,l]).map (fun n => -n)=ps k l:=by
 show [-(k / (gcdN [k,l]:Int)), -(l / (gcdN [k,l]:Int))]=[_,_]
 rw [zyV,if_pos h,zgL,Int.ediv_neg,Int.ediv_neg]
theorem yaS {k l:Int} (h:¬ (l<0\/(l=0/\k<0))):jO [k,l]=ps k l:=by
 show [(k / (gcdN [k,l]:Int)),(l / (gcdN [k,l]:Int))]=[_,_]
 rw [zyV,if_neg h,zgL]
def zbP (K:PySem.W.Frag):Sp:=fun vs H Q _=>∃ (x:Addr) (k l:Int),vs=[.ref x]/\SqT K H x ([k,l].map V.int)/\(∃ n∈[l,k],n≠0)/\Sm [l,k]/\∀ (r:Addr) (H':Hp),Same H H'->H' r=some (.tup ((ps k l).map V.int))->Q (.ref r) H'
end K0
end
section
namespace L2
open PySem PySem.Spec PyProof.Rows
theorem znP {prog:Program} {w:World} {A:Around} (hh:A.handled=none) (it l:Addr) (hne:l≠it) (items:Array Value) :
  Draws prog w A it [it,l] items.size (fun i v=>items[i]?=some v) (fun i h=>h.IsTupleIter it l i/\h.IsTuple l items) where
 live:=fun _ _ st=>let ⟨o,ho,_⟩:=st.1;⟨o,ho⟩
 frame:=fun _ _ _ st hk=>⟨st.1.at fun o e=>hk it (by simp) o e,st.2.at fun o e=>hk l (by simp) o e⟩
 item:=fun i s Q E hi st hQ=>by
  refine zdW st.1 st.2 (x:=items[i]) (by simp [hi]) fun h' hit' hs'=>?_
  exact hQ _ h' s.toks (by simp [hi]) ⟨hit',st.2.extBut hs'.extBut hne⟩ hs'
 done:=fun s Q E st hE=>ziZ hh st.1 st.2 (by simp) hE
abbrev eh (h:Heap) (l:Addr):Heap:=h.push { cls:=.type "tuple_iterator",data:=.fields #[.ref l,.int 0 0] }
theorem zdQ (l:Addr) (xs:Array Value) :
  Meets (Builtin.«enumerate.__new__» ⟨[.type "enumerate",.ref l],[]⟩) (fun _ R s=>s.heap.IsTuple l xs /\
   R (.ok (.ret (.ref (eh s.heap l).objs.size)))
    { s with heap:=(eh s.heap l).push { cls:=.type "enumerate",data:=.fields #[.none,.bool false,.ref s.heap.objs.size,rawInt 0,.none,.none] } }) :=
 .of_wp fun prog w A R s h=>by
  obtain ⟨hp,g,d,tk,os⟩:=s;obtain ⟨hl,h⟩:=h
  have hsub:=sub_enumerate
  have hL:Heap.IsTuple (Shared.heap ⟨hp,g,d,tk,os⟩) l xs:=hl
  wp_walk using wpAny_pyIter_tuple hL
  refine wpAny_stack_any fun st=>wpAny_pure ?_
  split
  ·rename_i c _ _ _ _ _
   cases (c == Value.type "enumerate")
   ·wp_walk using wpAny_pyIter_tuple hL
    exact ⟨_,rfl,h⟩
   ·wp_walk using wpAny_pyIter_tuple hL
    exact ⟨_,rfl,h⟩
  ·wp_walk using wpAny_pyIter_tuple hL
   exact ⟨_,rfl,h⟩
end L2
end
section
namespace L2
open PySem PySem.Spec PyProof.Rows
section
variable {prog:Program} {w:World} {A:Around} {E:Value->Shared->Prop} {s:Shared}
theorem zsE {l:Addr} {xs:Array Value} {Q:Value->Shared->Prop} (hL:s.heap.IsTuple l xs)
  (h:∀ h',IsEnum h' (s.heap.objs.size+1) s.heap.objs.size 0 .none->h'.IsTupleIter s.heap.objs.size l 0->(∀ b o,s.heap.get? b=some o->h'.get? b=some o)->Q (.ref (s.heap.objs.size+1)) { s with heap:=h' }) :
  wpAny (model prog w) A (call (.type "enumerate") [.ref l]) Q E s:=by
 refine callType_new F.called_enumerate (by decide) (F.typeCall_enumerate_1 _) (F.newCall_enumerate_1 _) (fun obj=>F.args_object_init_2 obj _) F.entry_enumerate_new (zdQ l xs) ⟨hL,?_⟩
 have hz:(eh s.heap l).objs.size=s.heap.objs.size+1:=Heap.size_push ..
 show _/\_
 rw [hz]
 have he:IsEnum ((eh s.heap l).push { cls:=.type "enumerate",data:=.fields #[.none,.bool false,.ref s.heap.objs.size,rawInt 0,.none,.none] }) (s.heap.objs.size+1) s.heap.objs.size 0 .none:=by
  have:=Heap.get?_push_size (eh s.heap l) (o:={ cls:=.type "enumerate",data:=.fields #[.none,.bool false,.ref s.heap.objs.size,rawInt 0,.none,.none] }) rfl
  rw [hz] at this;exact this
 exact ⟨⟨_,he,rfl⟩,h _ he ⟨_,Heap.get?_push_of_some _ (Heap.get?_push_size _ rfl),rfl,rfl⟩ fun b o x=>Heap.get?_push_of_some _ (Heap.get?_push_of_some _ x)⟩
end
def Ite (K:PySem.W.Frag) (l:Addr):It :=
  ⟨fun i H=>∃ xs x,SqT K H l xs/\xs[i]?=some x,
   fun i H v H'=>∃ p,H p=none/\v = .ref p/\∀ xs x,SqT K H l xs->xs[i]?=some x->H'=upd H p (.tup [.int i,x]),
   fun i H=>∃ xs,SqT K H l xs/\xs.length<=i⟩
def ent (e it l:Addr) (i:Nat) (h:Heap):Prop:=(∃ old,IsEnum h e it i old)/\h.IsTupleIter it l i
theorem zmK {P:Program} {w:World} {K:PySem.W.Frag} {elts:List Expr} {x1} {pos:Pos} {e it l:Addr} (ei:e≠it) (el:e≠l) (li:l≠it):Turn P w K (.Tuple elts x1 pos) (Ite K l) [e,it] e (ent e it l) where
 mem:=by simp
 obj:=fun i h st c hc=>by
  obtain ⟨⟨old,h1⟩,⟨o4,h4,_,d4⟩⟩:=st
  simp only [List.mem_cons,List.mem_nil_iff,or_false] at hc
  rcases hc with rfl|rfl
  ·exact ⟨_,h1,fun v z=>by cases z⟩
  ·exact ⟨_,h4,fun v z=>by rw [d4] at z;cases z⟩
 keep:=fun i h h' st k=>by
  obtain ⟨⟨old,h1⟩,h4⟩:=st
  exact ⟨⟨old,k _ (by simp) _ h1⟩,h4.at fun o e=>k _ (by simp) o e⟩
 item := by
  intro X hP hw hK hc i pins s σ H E I hf st hg
  subst hP hw hK
  obtain ⟨xs,x,q1,hx⟩:=hg
  obtain ⟨its,rv,p,hz⟩:=I.tuple q1
  obtain ⟨u,hu,ru⟩:=rv.get hx
  obtain ⟨⟨old,h1⟩,h4⟩:=id st
  have hlt:i<its.toArray.size:=by
   have:=(List.getElem?_eq_some_iff.mp hu).1
   simpa using this
  refine wpAny_pyNext_enum_itemD (znP (A:=X.A.in1) (I.ok.hd hc) it l li its.toArray) h1 ⟨h4,p⟩ hlt ei (by simp [ei,el]) fun u' g tk hP' ho hst' pr hsz all=>⟨_,rfl,?_⟩
  have eu:u'=u:=by
   have h:=hP'
   have h2:its.toArray[i]?=some u:=by simpa using hu
   rw [h2] at h;cases h;rfl
  subst eu
  refine wpAny_letOwnedTupleGo_enum (s:={ s with heap:=g,toks:=tk+1 }) ho fun g2 e2 s2=>?_
  have hn:H s.heap.objs.size=none:=I.hok.fresh (Nat.le_refl _)
  have lt:∀ c∈[e,it],c<s.heap.objs.size:=fun c hc=>by
   obtain ⟨⟨_,w1⟩,⟨_,w4,_⟩⟩:=st
   simp only [List.mem_cons,List.mem_nil_iff,or_false] at hc
   rcases hc with rfl|rfl
   ·exact Heap.lt_size w1
   ·exact Heap.lt_size w4
  have kp:∀ c o,c ∉ [e,it]->s.heap.get? c=some o->g2.get? c=some o:=fun c o hc e=>by
   simp only [List.mem_cons,List.mem_nil_iff,or_false,not_or] at hc
   exact s2.extBut _ _ hc.1 (all c o hc.1 hc.2 e)
  have trk:∀ c u,H c=some u->c ∉ [e,it]:=fun c u e hc=>by rw [(hf c hc).1] at e;cases e
  have pr2:g2.get? s.heap.objs.size=some { cls:=.type "tuple",data:=.seq #[.int i tk,u'] }:=s2.extBut _ _ (Nat.ne_of_gt (lt e (by simp))) pr
  have I2:Inv X pins σ (upd H s.heap.objs.size (.tup [.int i,x])) { s with heap:=g2,toks:=tk+1 }:=by
   refine I.step (g':=s.gens) (d':=s.drawn) (t':=tk+1) (ch:=[e,it]) (fun c hc=>?_) (fun c o _ _ hc e _=>kp c o hc e) (fun c o _ _ hc e _=>⟨o.slots,kp c o hc e⟩) (fun c o _ e n=>?_)
    (fun c o hc e=>⟨o,kp c o hc e⟩) (fun c vs e=>?_) (fun c o vs e=>?_) (fun c ps e=>⟨#[],?_⟩) (fun m hm=>?_) (fun c v e=>?_) I.bare
   ·obtain ⟨f0,f1,f2,f3,f4,f5⟩:=hf c hc
    exact ⟨f3,f1,f4,f5⟩
   ·rw [zP (Nat.ne_of_lt (Heap.lt_size e))];exact n
   ·rw [zP (zZ e hn)];exact e
   ·rw [zP (zZ e hn)];exact e
   ·rw [zP (zZ e hn),e];simp
   ·obtain ⟨o,es,ep,ho,r⟩:=hm
    exact ⟨o,es,ep,kp _ o (fun hc=>(hf _ hc).2.1 rfl) ho,r⟩
   ·by_cases hb:c=s.heap.objs.size
    ·subst hb
     rw [zJ] at e;cases e
     exact ⟨by show 2<=sizeLine;decide,[.int i tk,u'],.cons ⟨tk,rfl⟩ (.cons ru .nil),⟨_,pr2,rfl,_,rfl⟩⟩
    ·rw [zP hb] at e
     refine (I.hok c v e).stay (fun d o hd q=>kp d o ?_ q) (fun d q=>by rw [zP (zZ q hn)];exact q) fun d ts q=>by rw [zP (zZ q hn)];exact q
     rcases hd with rfl|hd
     ·exact trk _ _ e
     ·exact trk _ _ hd
  refine ⟨.ref s.heap.objs.size,_,I2,rfl,⟨_,hn,rfl,fun xs' x' a1 a3=>?_⟩,⟨⟨_,by simpa using e2⟩,hst'.1.extBut s2.extBut ei.symm⟩,fun c hc=>?_⟩
  ·rw [I.tuple_inj a1 q1,hx] at a3
   cases a3;rfl
  ·rw [zP (Nat.ne_of_lt (lt c hc))];exact (hf c hc).1
 done:=by
  intro X hP hw hK hc i pins s σ H E I hf st hg
  subst hP hw hK
  obtain ⟨xs,q1,hx⟩:=hg
  obtain ⟨its,rv,p,hz⟩:=I.tuple q1
  obtain ⟨⟨old,h1⟩,h4⟩:=id st
  have hl:=rv.length
  have kp0:∀ g:Heap,Heap.ExtBut it s.heap g->∀ c o,c ∉ [e,it]->s.heap.get? c=some o->g.get? c=some o:=fun g x c o hc h=>by
   simp only [List.mem_cons,List.mem_nil_iff,or_false,not_or] at hc
   exact x c o hc.2 h
  have hT:s.TypeIs (.ref e) "enumerate" := ⟨_,h1,rfl⟩
  unfold pyNext
  refine wpAny_bind (wpAny_attempt (wpAny_callSpecial?_slot (name:=Str.ofString "__next__") hT F.slot_enumerate_next (wpAny_call_entry F.slot_enumerate_next hT F.entry_enumerate_next ?_ (F.args_enumerate_next_1 _))))
  show wpAny _ _ (field (.ref e) 2 >>= _) _ _ _
  refine wpAny_bind (wpAny_field h1 rfl (x:=.ref it) rfl ?_)
  refine wpAny_bind (ziZ (show X.A.in1.handled=none from I.ok.hd hc) h4 p (by simp;omega) fun g x he' hx'=>?_)
  obtain ⟨o,ho,hc'⟩:=hx'
  refine wpAny_bind (wpAny_isInstance (T := "StopIteration") (b:=true) ⟨o,ho,hc'⟩ isSubtype_stop ?_)
  refine wpAny_pure ⟨rfl,?_⟩
  have kp:=kp0 g he'
  have trk:∀ c u,H c=some u->c ∉ [e,it]:=fun c u e hc=>by rw [(hf c hc).1] at e;cases e
  refine I.step (g':=s.gens) (d':=s.drawn) (t':=s.toks) (ch:=[e,it]) (fun c hc=>?_) (fun c o _ _ hc e _=>kp c o hc e) (fun c o _ _ hc e _=>⟨o.slots,kp c o hc e⟩) (fun c o _ e n=>n)
    (fun c o hc e=>⟨o,kp c o hc e⟩) (fun c vs e=>e) (fun c o vs e=>e) (fun c ps e=>⟨#[],by rw [e];simp⟩) (fun m hm=>?_) (fun c v e=>?_) I.bare
  ·obtain ⟨f0,f1,f2,f3,f4,f5⟩:=hf c hc
   exact ⟨f3,f1,f4,f5⟩
  ·obtain ⟨o,es,ep,ho,r⟩:=hm
   exact ⟨o,es,ep,kp _ o (fun hc=>(hf _ hc).2.1 rfl) ho,r⟩
  ·refine (I.hok c v e).stay (fun d o hd q=>kp d o ?_ q) (fun d q=>q) fun d ts q=>q
   rcases hd with rfl|hd
   ·exact trk _ _ e
   ·exact trk _ _ hd
 self:=fun _ _ _ _ _ st h=>by obtain ⟨⟨old,h1⟩,_⟩:=st;exact wpAny_pyIter_enum h1 h
section
variable {X:Cx}
def ztT (K:PySem.W.Frag) (ta:TA):TI:=fun σ H R=>ta σ H fun vs H1=>∃ l,vs=[.ref l]/\(∃ xs,SqT K H1 l xs)/\R (Ite K l) H1
theorem zyP {a:Expr} {ta:TA} {p pos pt:Pos} {elts:List Expr} {x1} (hg:Gl X "enumerate") (hm:X.mg "enumerate" = none) (ha:PA X [a] ta) (hs:starEach [a] X.env=[(false,eval a X.env)]:=by rfl) :
  PI X (.Tuple elts x1 pt) (.Call (.Name "enumerate" p) [a] [] pos) (ztT X.K ta):=by
 intro pins s σ H R I h
 refine Call_ (rX I hg hm (u:=.type "enumerate") (by rfl) (PyProof.Rows.callWith_type1 (xQ (ha pos pins s σ H _ I h) fun us s1 ⟨vs,H1,I1,r1,q1⟩=>?_) hs rfl))
 obtain ⟨l,e,⟨xs,q1⟩,q⟩:=q1
 subst e
 obtain ⟨u,rfl,ru⟩:=qW r1
 cases (show _=Value.ref l from ru)
 obtain ⟨its,rv,p1,_⟩:=I1.tuple q1
 have a1:l<s1.heap.objs.size:=by obtain ⟨_,e,_⟩:=p1;exact Heap.lt_size e
 refine zsE (show s1.heap.IsTuple l its.toArray from p1) fun g E4 T4 all=>?_
 refine wpAny_pyIter_enum (s:={ s1 with heap:=g }) E4 ?_
 refine ⟨_,_,_,_,H1,rfl,I1.kept (t':=s1.toks) all,zmK (e:=s1.heap.objs.size+1) (it:=s1.heap.objs.size) (l:=l) (Nat.ne_of_gt (Nat.lt_succ_self _)) (Nat.ne_of_gt (Nat.lt_succ_of_lt a1)) (Nat.ne_of_lt a1),⟨⟨_,E4⟩,T4⟩,fun b hb=>?_,q⟩
 have ge:s1.heap.objs.size<=b:=by
  simp only [List.mem_cons,List.mem_nil_iff,or_false] at hb
  rcases hb with rfl|rfl
  ·exact Nat.le_add_right _ 1
  ·exact Nat.le_refl _
 exact I1.fpOk ge (I1.hok.fresh ge)
theorem zvA {a:Expr} {ta:TA} {p pos pt:Pos} {elts:List Expr} {x1} (hg:Gl X "enumerate") (hm:X.mg "enumerate" = none) (ha:ZA X [a] ta) (hs:starEach [a] X.env=[(false,eval a X.env)]:=by rfl):ZI X (.Tuple elts x1 pt) (.Call (.Name "enumerate" p) [a] [] pos) (ztT X.K ta):=⟨zyP hg hm ha.out hs⟩
end
end L2
end
section
namespace D
open PySem L2 K0
open PySem.W (Dat)
def SqN (N:Addr->Prop) (K:PySem.W.Frag) (H:Hp) (a:Addr) (xs:List V):Prop:=(N a/\Rd H a (.lst xs))\/SqL K (fun _=>none) a xs
theorem SqN.sq {N:Addr->Prop} {K:PySem.W.Frag} {H:Hp} {a:Addr} {xs:List V} (h:SqN N K H a xs):SqL K H a xs:=by
 rcases h with ⟨_,h⟩|(h|⟨o,h⟩)|h
 ·exact .inl h
 ·cases h
 ·cases h
 ·exact .inr h
mutual
inductive Dz (N:Addr->Prop) (K:PySem.W.Frag) (H:Hp):V->Dat->Prop
 | none:Dz N K H .non .none
 | bool (b:Bool):Dz N K H (.bl b) (.bool b)
 | int (i:Int):Dz N K H (.int i) (.int i)
 | str (x:Str):Dz N K H (.str x) (.str x)
 | tup {a:Addr} {xs:List V} {ds:List Dat}:SqT K H a xs->Dzs N K H xs ds->Dz N K H (.ref a) (.tuple ds)
 | lst {a:Addr} {xs:List V} {ds:List Dat}:SqN N K H a xs->Dzs N K H xs ds->Dz N K H (.ref a) (.list ds)
 | exc {a:Addr} {c:Array UInt8}:N a->XAt K H a c->Dz N K H (.ref a) (.bytes c)
inductive Dzs (N:Addr->Prop) (K:PySem.W.Frag) (H:Hp):List V->List Dat->Prop
 | nil:Dzs N K H [] []
 | cons {x:V} {d:Dat} {xs:List V} {ds:List Dat}:Dz N K H x d->Dzs N K H xs ds->Dzs N K H (x::xs) (d::ds)
end
structure Ev (W:Addr->Prop) (H H':Hp):Prop where
 keep:∀ b o,¬ W b->H b=some o->H' b=some o
 tm:Tm H H'
theorem aE {W:Addr->Prop} {H:Hp}:Ev W H H:=⟨fun _ _ _ h=>h,Tm.refl _⟩
theorem Ev.trans {W:Addr->Prop} {H H1 H2:Hp} (a:Ev W H H1) (b:Ev W H1 H2):Ev W H H2:=⟨fun c o n h=>b.keep c o n (a.keep c o n h),a.tm.trans b.tm⟩
theorem Ev.of {W:Addr->Prop} {H H':Hp} (s:Same H H'):Ev W H H':=⟨fun c o _ h=>s c o h,s.tm⟩
theorem Ev.mono {W W':Addr->Prop} {H H':Hp} (a:Ev W H H') (m:∀ b,W b->W' b):Ev W' H H':=⟨fun c o n h=>a.keep c o (fun z=>n (m c z)) h,a.tm⟩
structure Own where
 R:(Addr->Prop)->PySem.W.Frag->Hp->Addr->List Addr->Prop
 ev:∀ {N W:Addr->Prop} {K:PySem.W.Frag} {H H':Hp} {a:Addr} {l:List Addr},R N K H a l->Ev W H H'->(∀ a,N a->¬ W a)->(∀ b o,b∈l->H b=some o->H' b=some o)->R N K H' a l
 wide:∀ {N N':Addr->Prop} {K:PySem.W.Frag} {H:Hp} {a:Addr} {l:List Addr},R N K H a l->(∀ a o,N a->H a=some o->N' a)->R N' K H a l
 al:∀ {N:Addr->Prop} {K:PySem.W.Frag} {H:Hp} {a:Addr} {l:List Addr},R N K H a l->∀ b,b∈l->∃ o,H b=some o
inductive Sl where
 | un|dat (d:Dat)|pu|own (ds:List Dat)|vw (ds:List Dat)|dt (o:Own)
section
variable {N N':Addr->Prop} {K:PySem.W.Frag} {H H':Hp}
mutual
theorem Dz.ev {W:Addr->Prop} (e:Ev W H H') (nw:∀ a,N a->¬ W a):∀ {v:V} {d:Dat},Dz N K H v d->Dz N K H' v d
 | _,_,.none=>.none
 | _,_,.bool b=>.bool b
 | _,_,.int i=>.int i
 | _,_,.str x=>.str x
 | _,_,.tup h r=>.tup (e.tm _ _ _ h) (Dzs.ev e nw r)
 | _,_,.lst h r=>.lst (by
   rcases h with ⟨n,h|⟨o,h⟩⟩|h
   ·exact .inl ⟨n,.inl (e.keep _ _ (nw _ n) h)⟩
   ·exact .inl ⟨n,.inr ⟨o,e.keep _ _ (nw _ n) h⟩⟩
   ·exact .inr h) (Dzs.ev e nw r)
 | _,_,.exc n h=>.exc n (let ⟨ob,C,q,z⟩:=h;⟨ob,C,e.keep _ _ (nw _ n) q,z⟩)
theorem Dzs.ev {W:Addr->Prop} (e:Ev W H H') (nw:∀ a,N a->¬ W a):∀ {v:List V} {d:List Dat},Dzs N K H v d->Dzs N K H' v d
 | _,_,.nil=>.nil
 | _,_,.cons h r=>.cons (Dz.ev e nw h) (Dzs.ev e nw r)
end
mutual
theorem Dz.mono (m:∀ a,N a->N' a):∀ {v:V} {d:Dat},Dz N K H v d->Dz N' K H v d
 | _,_,.none=>.none
 | _,_,.bool b=>.bool b
 | _,_,.int i=>.int i
 | _,_,.str x=>.str x
 | _,_,.tup h r=>.tup h (Dzs.mono m r)
 | _,_,.lst h r=>.lst (h.elim (fun z=>.inl ⟨m _ z.1,z.2⟩) .inr) (Dzs.mono m r)
 | _,_,.exc n h=>.exc (m _ n) h
theorem Dzs.mono (m:∀ a,N a->N' a):∀ {v:List V} {d:List Dat},Dzs N K H v d->Dzs N' K H v d
 | _,_,.nil=>.nil
 | _,_,.cons h r=>.cons (Dz.mono m h) (Dzs.mono m r)
end
mutual
theorem Dz.is:∀ {v:V} {d:Dat},Dz N K H v d->Is K H v d
 | _,_,.none=>.none
 | _,_,.bool b=>.bool b
 | _,_,.int i=>.int i
 | _,_,.str x=>.str x
 | _,_,.tup h r=>.tup h (Dzs.is r)
 | _,_,.lst h r=>.lst h.sq (Dzs.is r)
 | _,_,.exc _ h=>.exc h
theorem Dzs.is:∀ {v:List V} {d:List Dat},Dzs N K H v d->Iss K H v d
 | _,_,.nil=>.nil
 | _,_,.cons h r=>.cons (Dz.is h) (Dzs.is r)
end
theorem Dzs.len:∀ {v:List V} {d:List Dat},Dzs N K H v d->v.length=d.length
 | _,_,.nil=>rfl
 | _,_,.cons _ r=>by rw [List.length_cons,List.length_cons,Dzs.len r]
theorem Dzs.app:∀ {v v':List V} {d d':List Dat},Dzs N K H v d->Dzs N K H v' d'->Dzs N K H (v++v') (d++d')
 | _,_,_,_,.nil,h=>h
 | _,_,_,_,.cons a r,h=>.cons a (Dzs.app r h)
theorem Dzs.get:∀ {v:List V} {d:List Dat} {i:Nat} {e:Dat},Dzs N K H v d->d[i]?=some e->∃ x,v[i]?=some x/\Dz N K H x e
  | _,_,_,_,.nil,h=>by simp at h
  | _,_,0,_,.cons a r,h=>by simp at h;subst h;exact ⟨_,rfl,a⟩
  | _,_,i+1,e,.cons a r,h=>by
    obtain ⟨x,q,z⟩:=Dzs.get (i:=i) r (by simpa using h)
    exact ⟨x,by simpa using q,z⟩
theorem Dzs.drop:∀ {v:List V} {d:List Dat} (n:Nat),Dzs N K H v d->Dzs N K H (v.drop n) (d.drop n)
 | _,_,0,h=>h
 | _,_,n+1,.nil=>.nil
 | _,_,n+1,.cons a r=>by simpa using Dzs.drop n r
theorem Dzs.take:∀ {v:List V} {d:List Dat} (n:Nat),Dzs N K H v d->Dzs N K H (v.take n) (d.take n)
 | _,_,0,h=>by simpa using Dzs.nil
 | _,_,n+1,.nil=>.nil
 | _,_,n+1,.cons a r=>by simpa using Dzs.cons a (Dzs.take n r)
theorem aw (ns:List Int):Dzs N K H (ns.map V.int) (ns.map Dat.int):=by
 induction ns with
 | nil=>exact .nil
 | cons n ns ih=>exact .cons (.int n) ih
theorem Dzs.inv:∀ {vs:List V} {ns:List Int},Dzs N K H vs (ns.map Dat.int)->vs=ns.map V.int
  | _,[],h=>by cases h;rfl
  | _,n::ns,h=>by
    cases h with
    | cons a r=>cases a;rw [Dzs.inv r];rfl
theorem Dzs.set:∀ {v:List V} {d:List Dat} {x:V} {e:Dat} (i:Nat),Dzs N K H v d->Dz N K H x e->Dzs N K H (v.set i x) (d.set i e)
 | _,_,_,_,_,.nil,_=>.nil
 | _,_,_,_,0,.cons a r,h=>.cons h r
 | _,_,_,_,i+1,.cons a r,h=>.cons a (Dzs.set i r h)
end
mutual
def tF:Dat->Bool
 | .tuple ds=>xR ds
 | .list _=>false
 | .none=>true
 | .bool _=>true
 | .int _=>true
 | .str _=>true
 | _=>false
def xR:List Dat->Bool
 | []=>true
 | d::r=>tF d && xR r
end
section
variable {N N':Addr->Prop} {K:PySem.W.Frag} {H H':Hp}
mutual
theorem Dz.free:∀ {v:V} {d:Dat},Dz N K H v d->tF d=true->Dz N' K H v d
 | _,_,.none,_=>.none
 | _,_,.bool b,_=>.bool b
 | _,_,.int i,_=>.int i
 | _,_,.str x,_=>.str x
 | _,_,.tup h r,z=>.tup h (Dzs.free r (by rw [tF] at z;exact z))
 | _,_,.lst h r,z=>by rw [tF] at z;cases z
 | _,_,.exc _ h,z=>by simp [tF] at z
theorem Dzs.free:∀ {v:List V} {d:List Dat},Dzs N K H v d->xR d=true->Dzs N' K H v d
  | _,_,.nil,_=>.nil
  | _,_,.cons h r,z=>by
    rw [xR,Bool.and_eq_true] at z
    exact .cons (Dz.free h z.1) (Dzs.free r z.2)
end
end
theorem yV (ns:List Int):xR (ns.map .int)=true:=by
 induction ns with
 | nil=>rw [List.map_nil,xR]
 | cons n r ih=>rw [List.map_cons,xR,ih,tF];rfl
section
variable {N N':Addr->Prop} {K:PySem.W.Frag} {H:Hp}
end
structure Ok (p:Option Addr) (W:Addr->Prop) (H:Hp):Prop where
 pu:∀ q,p=some q->Pu H q/\W q
 al:∀ a,W a->∃ ys,H a=some ys
inductive Rs (p:Option Addr) (W:Addr->Prop) (K:PySem.W.Frag) (H:Hp):List Addr->St->List Sl->Prop
 | nil:Rs p W K H [] [] []
 | un {L:List Addr} {σ:St} {τ:List Sl} {o:Option V}:Rs p W K H L σ τ->Rs p W K H L (o :: σ) (.un :: τ)
 | dat {L:List Addr} {σ:St} {τ:List Sl} {v:V} {d:Dat}:Dz (fun a=>¬ W a) K H v d->Rs p W K H L σ τ->Rs p W K H L (some v :: σ) (.dat d :: τ)
 | pu {L:List Addr} {σ:St} {τ:List Sl} {q:Addr}:p=some q->Rs p W K H L σ τ->Rs p W K H L (some (.ref q) :: σ) (.pu :: τ)
 | own {L:List Addr} {σ:St} {τ:List Sl} {a:Addr} {vs:List V} {ds:List Dat}:W a->p≠some a->a ∉ L->H a=some (.lst vs)->Dzs (fun a=>¬ W a) K H vs ds->Rs p W K H L σ τ->Rs p W K H (a::L) (some (.ref a) :: σ) (.own ds :: τ)
 | dt {L l:List Addr} {σ:St} {τ:List Sl} {a:Addr} {o:Own}:(∀ b,b∈l->W b)->(∀ b,b∈l->p≠some b)->(∀ b,b∈l->b ∉ L)->o.R (fun a=>¬ W a) K H a l->Rs p W K H L σ τ->Rs p W K H (l++L) (some (.ref a) :: σ) (.dt o :: τ)
def Rv (p:Option Addr) (W:Addr->Prop) (K:PySem.W.Frag) (H H':Hp) (v:V):Sl->Prop
 | .un=>True
 | .dat d=>Dz (fun a=>¬ W a) K H' v d
 | .pu=>∃ q,p=some q/\v = .ref q
 | .own ds=>∃ a vs,v = .ref a/\H a=none/\H' a=some (.lst vs)/\Dzs (fun a=>¬ W a) K H' vs ds
 | .dt o=>∃ a l,v = .ref a/\(∀ b,b∈l->H b=none)/\o.R (fun a=>¬ W a) K H' a l
 | .vw ds=>∃ a vs,v = .ref a/\SqN (fun a=>p≠some a) K H' a vs/\Dzs (fun a=>¬ W a) K H' vs ds
inductive Rvs (p:Option Addr) (W:Addr->Prop) (K:PySem.W.Frag) (H H':Hp):List V->List Sl->Prop
 | nil:Rvs p W K H H' [] []
 | cons {v:V} {s:Sl} {vs:List V} {ss:List Sl}:Rv p W K H H' v s->Rvs p W K H H' vs ss->Rvs p W K H H' (v::vs) (s::ss)
def Pp (p:Option Addr):Addr->Prop:=fun a=>p=some a
section
variable {p:Option Addr} {W:Addr->Prop} {K:PySem.W.Frag} {H H1 H':Hp} {σ:St} {τ:List Sl} {L:List Addr} {v:V} {s:Sl}
theorem Ok.ev (o:Ok p W H) (e:Ev (Pp p) H H') (q:∀ q,p=some q->Pu H' q):Ok p W H':=⟨fun a ha=>⟨q a ha,(o.pu a ha).2⟩,fun a ha=>by
 by_cases z:p=some a
 ·obtain ⟨x,y,h⟩:=q a z;exact ⟨_,h⟩
 ·obtain ⟨ys,h⟩:=o.al a ha;exact ⟨ys,e.keep _ _ z h⟩⟩
theorem Rs.ev (r:Rs p W K H L σ τ) (e:Ev (Pp p) H H') (pw:∀ q,p=some q->W q):Rs p W K H' L σ τ:=by
 have nw:∀ a,¬ W a->¬ Pp p a:=fun a n z=>n (pw a z)
 induction r with
 | nil=>exact .nil
 | un _ ih=>exact .un ih
 | dat h _ ih=>exact .dat (h.ev e nw) ih
 | pu h _ ih=>exact .pu h ih
 | own h1 h2 h3 h4 h5 _ ih=>exact .own h1 h2 h3 (e.keep _ _ h2 h4) (h5.ev e nw) ih
 | dt h1 h2 h3 h4 _ ih=>exact .dt h1 h2 h3 (Own.ev _ h4 e nw fun b o hb h=>e.keep _ _ (h2 b hb) h) ih
theorem Rs.get_dat (r:Rs p W K H L σ τ):∀ {i:Nat} {d:Dat},τ[i]?=some (.dat d)->∃ v,σ[i]?=some (some v)/\Dz (fun a=>¬ W a) K H v d:=by
  induction r with
  | nil=>intro i d h;simp at h
  | un _ ih =>
    intro i d h
    match i,h with
    | 0,h=>simp at h
    | i+1,h=>exact ih (i:=i) (by simpa using h)
  | dat z _ ih =>
    intro i d h
    match i,h with
    | 0,h=>simp at h;subst h;exact ⟨_,rfl,z⟩
    | i+1,h=>exact ih (i:=i) (by simpa using h)
  | pu _ _ ih =>
    intro i d h
    match i,h with
    | 0,h=>simp at h
    | i+1,h=>exact ih (i:=i) (by simpa using h)
  | own _ _ _ _ _ _ ih =>
    intro i d h
    match i,h with
    | 0,h=>simp at h
    | i+1,h=>exact ih (i:=i) (by simpa using h)
  | dt _ _ _ _ _ ih =>
    intro i d h
    match i,h with
    | 0,h=>simp at h
    | i+1,h=>exact ih (i:=i) (by simpa using h)
theorem Rs.get_pu (r:Rs p W K H L σ τ):∀ {i:Nat},τ[i]?=some .pu->∃ q,p=some q/\σ[i]?=some (some (.ref q)):=by
  induction r with
  | nil=>intro i h;simp at h
  | un _ ih =>
    intro i h
    match i,h with
    | 0,h=>simp at h
    | i+1,h=>exact ih (i:=i) (by simpa using h)
  | dat z _ ih =>
    intro i h
    match i,h with
    | 0,h=>simp at h
    | i+1,h=>exact ih (i:=i) (by simpa using h)
  | pu z _ ih =>
    intro i h
    match i,h with
    | 0,h=>exact ⟨_,z,rfl⟩
    | i+1,h=>exact ih (i:=i) (by simpa using h)
  | own _ _ _ _ _ _ ih =>
    intro i h
    match i,h with
    | 0,h=>simp at h
    | i+1,h=>exact ih (i:=i) (by simpa using h)
  | dt _ _ _ _ _ ih =>
    intro i h
    match i,h with
    | 0,h=>simp at h
    | i+1,h=>exact ih (i:=i) (by simpa using h)
theorem Rs.get_own (r:Rs p W K H L σ τ):∀ {i:Nat} {ds:List Dat},τ[i]?=some (.own ds)->∃ a vs,σ[i]?=some (some (.ref a))/\W a/\p≠some a/\a∈L/\H a=some (.lst vs)/\Dzs (fun a=>¬ W a) K H vs ds:=by
  induction r with
  | nil=>intro i ds h;simp at h
  | un _ ih =>
    intro i ds h
    match i,h with
    | 0,h=>simp at h
    | i+1,h=>exact ih (i:=i) (by simpa using h)
  | dat z _ ih =>
    intro i ds h
    match i,h with
    | 0,h=>simp at h
    | i+1,h=>exact ih (i:=i) (by simpa using h)
  | pu z _ ih =>
    intro i ds h
    match i,h with
    | 0,h=>simp at h
    | i+1,h=>exact ih (i:=i) (by simpa using h)
  | own h1 h2 h3 h4 h5 _ ih =>
    intro i ds h
    match i,h with
    | 0,h=>simp at h;subst h;exact ⟨_,_,rfl,h1,h2,List.mem_cons_self,h4,h5⟩
    | i+1,h =>
      obtain ⟨a,vs,e1,e2,e3,e4,e5⟩:=ih (i:=i) (by simpa using h)
      exact ⟨a,vs,by simpa using e1,e2,e3,List.mem_cons_of_mem _ e4,e5⟩
  | dt h1 h2 h3 h4 _ ih =>
    intro i ds h
    match i,h with
    | 0,h=>simp at h
    | i+1,h =>
      obtain ⟨a,vs,e1,e2,e3,e4,e5⟩:=ih (i:=i) (by simpa using h)
      exact ⟨a,vs,by simpa using e1,e2,e3,List.mem_append_right _ e4,e5⟩
theorem Rs.set (r:Rs p W K H L σ τ) {v:V} {s:Sl} (hs:(s = .un)\/(∃ d,s = .dat d/\Dz (fun a=>¬ W a) K H v d)\/(s = .pu/\∃ q,p=some q/\v = .ref q)):∀ (i:Nat),∃ L',(∀ a,a∈L'->a∈L)/\Rs p W K H L' (σ.set i (some v)) (τ.set i s):=by
  induction r with
  | nil=>intro i;exact ⟨[],fun _ h=>h,.nil⟩
  | un r ih =>
    intro i
    match i with
    | 0 =>
      rcases hs with rfl|⟨d,rfl,z⟩|⟨rfl,q,z,rfl⟩
      . exact ⟨_,fun _ h=>h,.un r⟩
      . exact ⟨_,fun _ h=>h,.dat z r⟩
      . exact ⟨_,fun _ h=>h,.pu z r⟩
    | i+1=>obtain ⟨L',h1,h2⟩:=ih i;exact ⟨L',h1,.un h2⟩
  | dat y r ih =>
    intro i
    match i with
    | 0 =>
      rcases hs with rfl|⟨d,rfl,z⟩|⟨rfl,q,z,rfl⟩
      . exact ⟨_,fun _ h=>h,.un r⟩
      . exact ⟨_,fun _ h=>h,.dat z r⟩
      . exact ⟨_,fun _ h=>h,.pu z r⟩
    | i+1=>obtain ⟨L',h1,h2⟩:=ih i;exact ⟨L',h1,.dat y h2⟩
  | pu y r ih =>
    intro i
    match i with
    | 0 =>
      rcases hs with rfl|⟨d,rfl,z⟩|⟨rfl,q,z,rfl⟩
      . exact ⟨_,fun _ h=>h,.un r⟩
      . exact ⟨_,fun _ h=>h,.dat z r⟩
      . exact ⟨_,fun _ h=>h,.pu z r⟩
    | i+1=>obtain ⟨L',h1,h2⟩:=ih i;exact ⟨L',h1,.pu y h2⟩
  | own h1 h2 h3 h4 h5 r ih =>
    intro i
    match i with
    | 0 =>
      rcases hs with rfl|⟨d,rfl,z⟩|⟨rfl,q,z,rfl⟩
      . exact ⟨_,fun _ h=>List.mem_cons_of_mem _ h,.un r⟩
      . exact ⟨_,fun _ h=>List.mem_cons_of_mem _ h,.dat z r⟩
      . exact ⟨_,fun _ h=>List.mem_cons_of_mem _ h,.pu z r⟩
    | i+1 =>
      obtain ⟨L',g1,g2⟩:=ih i
      refine ⟨_::L',fun b hb=>?_,.own h1 h2 (fun z=>h3 (g1 _ z)) h4 h5 g2⟩
      rcases List.mem_cons.mp hb with rfl|hb
      . exact List.mem_cons_self
      . exact List.mem_cons_of_mem _ (g1 b hb)
  | dt h1 h2 h3 h4 r ih =>
    intro i
    match i with
    | 0 =>
      rcases hs with rfl|⟨d,rfl,z⟩|⟨rfl,q,z,rfl⟩
      . exact ⟨_,fun _ h=>List.mem_append_right _ h,.un r⟩
      . exact ⟨_,fun _ h=>List.mem_append_right _ h,.dat z r⟩
      . exact ⟨_,fun _ h=>List.mem_append_right _ h,.pu z r⟩
    | i+1 =>
      obtain ⟨L',g1,g2⟩:=ih i
      exact ⟨_++L',fun b hb=>(List.mem_append.mp hb).elim (List.mem_append_left _) (fun z=>List.mem_append_right _ (g1 b z)),.dt h1 h2 (fun b hb z=>h3 b hb (g1 _ z)) h4 g2⟩
theorem Rs.wide {W':Addr->Prop} (r:Rs p W K H L σ τ) (m:∀ a,W a->W' a) (n:∀ a,W' a->¬ W a->H a=none):Rs p W' K H L σ τ:=by
 induction r with
 | nil=>exact .nil
 | un _ ih=>exact .un ih
 | dat h _ ih=>exact .dat (wideZ h) ih
 | pu h _ ih=>exact .pu h ih
 | own h1 h2 h3 h4 h5 _ ih=>exact .own (m _ h1) h2 h3 h4 (wideZs h5) ih
 | dt h1 h2 h3 h4 _ ih=>exact .dt (fun b hb=>m _ (h1 b hb)) h2 h3 (Own.wide _ h4 fun a o na ha wa=>by rw [n a wa na] at ha;cases ha) ih
where
 wideZ : ∀ {v : V} {d : Dat}, Dz (fun a => ¬ W a) K H v d -> Dz (fun a => ¬ W' a) K H v d
  | _,_,.none=>.none
  | _,_,.bool b=>.bool b
  | _,_,.int i=>.int i
  | _,_,.str x=>.str x
  | _,_,.tup h r=>.tup h (wideZs r)
  | _,_,.lst h r=>.lst (by
    rcases h with ⟨nn,h⟩|h
    ·refine .inl ⟨fun z=>?_,h⟩
     have e1:=n _ z nn
     rcases h with h|⟨o,h⟩
     ·rw [e1] at h;cases h
     ·rw [e1] at h;cases h
    ·exact .inr h) (wideZs r)
  | _,_,.exc nn h=>.exc (fun z=>by obtain ⟨_,_,q,_⟩:=h;rw [n _ z nn] at q;cases q) h
 wideZs:∀ {v:List V} {d:List Dat},Dzs (fun a=>¬ W a) K H v d->Dzs (fun a=>¬ W' a) K H v d
  | _,_,.nil=>.nil
  | _,_,.cons h r=>.cons (wideZ h) (wideZs r)
end
end D
end
section
namespace D
open PySem L2 K0
open PySem.W (Dat)
section
variable (p:Option Addr) (K:PySem.W.Frag)
def E (te:TE) (τ:List Sl) (C:Sl->Prop):Prop:=∀ (W:Addr->Prop) (L:List Addr) (σ:St) (H:Hp) (Q:VK),Rs p W K H L σ τ->Ok p W H->(∀ v H' s,C s->Ev (Pp p) H H'->Ok p W H'->Rv p W K H H' v s->Q v H')->te σ H Q
def E1 (te:TE) (τ:List Sl) (s:Sl):Prop:=E p K te τ (fun x=>s=x)
def A (ta:TA) (τ:List Sl) (C:List Sl->Prop):Prop:=∀ (W:Addr->Prop) (L:List Addr) (σ:St) (H:Hp) (Q:List V->Hp->Prop),Rs p W K H L σ τ->Ok p W H->(∀ vs H' ss,C ss->Ev (Pp p) H H'->Ok p W H'->Rvs p W K H H' vs ss->Q vs H')->ta σ H Q
def A1 (ta:TA) (τ:List Sl) (ss:List Sl):Prop:=A p K ta τ (fun x=>ss=x)
def T (tt:TT) (τ:List Sl) (C:Bool->Prop):Prop:=∀ (W:Addr->Prop) (L:List Addr) (σ:St) (H:Hp) (Q:Bool->Hp->Prop),Rs p W K H L σ τ->Ok p W H->(∀ b H',C b->Ev (Pp p) H H'->Ok p W H'->Q b H')->tt σ H Q
def T1 (tt:TT) (τ:List Sl) (b:Bool):Prop:=T p K tt τ (fun x=>b=x)
end
section
variable {p:Option Addr} {K:PySem.W.Frag} {W:Addr->Prop} {L:List Addr} {σ:St} {H H0 H1 H2:Hp} {τ:List Sl} {ta tb te:TE} {tas:TA} {v:V} {s:Sl}
theorem Ok.pw (o:Ok p W H):∀ q,p=some q->W q:=fun q h=>(o.pu q h).2
theorem Ok.nw (o:Ok p W H):∀ a,¬ W a->¬ Pp p a:=fun a n z=>n (o.pw a z)
theorem Ok.same (o:Ok p W H) (s:Same H H1):Ok p W H1:=o.ev (Ev.of s) fun q h=>(o.pu q h).1.same s
theorem Ok.back (o:Ok p W H1) (e:Ev (Pp p) H H1) {a:Addr} (h:H1 a=none):H a=none:=by
  cases q:H a with
  | none=>rfl
  | some u =>
    by_cases z:p=some a
    . obtain ⟨x,y,e2⟩:=(o.pu a z).1;rw [h] at e2;cases e2
    . rw [e.keep _ _ z q] at h;cases h
theorem Ok.fresh (o:Ok p W H) {a:Addr} (h:H a=none):¬ W a:=fun z=>by
 obtain ⟨ys,e⟩:=o.al a z;rw [h] at e;cases e
theorem Ok.np (o:Ok p W H) {a:Addr} (h:H a=none):p≠some a:=fun z=>o.fresh h (o.pw a z)
theorem Rv.ev (h:Rv p W K H0 H v s) (e:Ev (Pp p) H H1) (o:Ok p W H) (o0:Ok p W H0):Rv p W K H0 H1 v s:=by
  cases s with
  | un=>trivial
  | dat d=>exact Dz.ev e o.nw h
  | pu=>exact h
  | own ds =>
    obtain ⟨a,vs,rfl,h1,h2,h3⟩:=h
    exact ⟨a,vs,rfl,h1,e.keep _ _ (o0.np h1) h2,h3.ev e o.nw⟩
  | dt ds =>
    obtain ⟨a,l,rfl,h1,h2⟩:=h
    exact ⟨a,l,rfl,h1,Own.ev _ h2 e o.nw fun b u hb h=>e.keep _ _ (o0.np (h1 b hb)) h⟩
  | vw ds =>
    obtain ⟨a,vs,rfl,h2,h3⟩:=h
    refine ⟨a,vs,rfl,?_,h3.ev e o.nw⟩
    rcases h2 with ⟨z,h2|⟨u,h2⟩⟩|h2
    . exact .inl ⟨z,.inl (e.keep _ _ z h2)⟩
    . exact .inl ⟨z,.inr ⟨u,e.keep _ _ z h2⟩⟩
    . exact .inr h2
theorem Rv.base (h:Rv p W K H1 H v s) (e:Ev (Pp p) H0 H1) (o1:Ok p W H1):Rv p W K H0 H v s:=by
 cases s with
 | own ds=>obtain ⟨a,vs,rfl,h1,h2⟩:=h;exact ⟨a,vs,rfl,o1.back e h1,h2⟩
 | dt ds=>obtain ⟨a,vs,rfl,h1,h2⟩:=h;exact ⟨a,vs,rfl,fun b hb=>o1.back e (h1 b hb),h2⟩
 | _=>exact h
theorem Rvs.base {vs:List V} {ss:List Sl} (h:Rvs p W K H1 H vs ss) (e:Ev (Pp p) H0 H1) (o1:Ok p W H1):Rvs p W K H0 H vs ss:=by
 induction h with
 | nil=>exact .nil
 | cons a _ ih=>exact .cons (a.base e o1) ih
theorem E.mono {C C':Sl->Prop} (h:E p K te τ C) (m:∀ s,C s->C' s):E p K te τ C':=fun W L σ H Q r o q=>h W L σ H Q r o fun v H' s c=>q v H' s (m s c)
theorem aA {i:Nat} {d:Dat} (h:τ[i]?=some (.dat d)):E1 p K (kK i) τ (.dat d):=fun W L σ H Q r o q=>by
 obtain ⟨v,e,z⟩:=r.get_dat h
 exact ⟨v,e,q v H _ rfl aE o z⟩
theorem aN {i:Nat} (h:τ[i]?=some .pu):E1 p K (kK i) τ .pu:=fun W L σ H Q r o q=>by
 obtain ⟨a,e,z⟩:=r.get_pu h
 exact ⟨_,z,q _ H _ rfl aE o ⟨a,e,rfl⟩⟩
theorem ai {i:Nat} {ds:List Dat} (h:τ[i]?=some (.own ds)):E1 p K (kK i) τ (.vw ds):=fun W L σ H Q r o q=>by
 obtain ⟨a,vs,e,w,n,_,h1,z⟩:=r.get_own h
 exact ⟨_,e,q _ H _ rfl aE o ⟨a,vs,rfl,.inl ⟨n,.inl h1⟩,z⟩⟩
theorem bi {i:Nat} {ds:List Dat} (h:τ[i]?=some (.dat (.list ds))):E1 p K (kK i) τ (.vw ds):=fun W L σ H Q r o q=>by
 obtain ⟨v,e,z⟩:=r.get_dat h
 cases z with
 | lst h1 h2=>exact ⟨_,e,q _ H _ rfl aE o ⟨_,_,rfl,h1.elim (fun z=>.inl ⟨fun y=>z.1 (o.pw _ y),z.2⟩) .inr,h2⟩⟩
theorem E1.int {i:Int}:E1 p K (tC (.int i)) τ (.dat (.int i)):=fun W L σ H Q r o q=>q _ H _ rfl aE o (.int i)
theorem E1.bl {i:Bool}:E1 p K (tC (.bl i)) τ (.dat (.bool i)):=fun W L σ H Q r o q=>q _ H _ rfl aE o (.bool i)
theorem E1.non:E1 p K (tC .non) τ (.dat .none):=fun W L σ H Q r o q=>q _ H _ rfl aE o .none
theorem E1.str {x:Str}:E1 p K (tC (.str x)) τ (.dat (.str x)):=fun W L σ H Q r o q=>q _ H _ rfl aE o (.str x)
theorem ae {ds:List Dat} (h:E1 p K te τ (.own ds)):E1 p K te τ (.vw ds):=fun W L σ H Q r o q=>h W L σ H Q r o fun v H' s e ev o' rv=>by
 subst e
 obtain ⟨a,vs,rfl,h1,h2,h3⟩:=rv
 exact q _ H' _ rfl ev o' ⟨a,vs,rfl,.inl ⟨o.np h1,.inl h2⟩,h3⟩
theorem bX {r:R2} {A B C:Sl->Prop} {B':Sl->Sl->Prop} (ha:E p K ta τ A) (hb:∀ s,A s->E p K tb τ (B' s))
  (hr:∀ s t,A s->B' s t->∀ (W:Addr->Prop) (H0 H:Hp) (x y:V) (Q:VK),Ok p W H0->Ok p W H->Rv p W K H0 H x s->Rv p W K H0 H y t->(∀ v H' u,C u->Ev (Pp p) H H'->Ok p W H'->Rv p W K H0 H' v u->Q v H')->r x y H Q):E p K (wO r ta tb) τ C :=
 fun W L σ H Q rs o q=>ha W L σ H _ rs o fun x H1 s cs e1 o1 rv1=>hb s cs W L σ H1 _ (rs.ev e1 o.pw) o1 fun y H2 t ct e2 o2 rv2 =>
  hr s t cs ct W H H2 x y _ o o2 (rv1.ev e2 o1 o) (rv2.base e1 o1) fun v H' u cu e3 o3 rv3=>q v H' u cu ((e1.trans e2).trans e3) o3 rv3
theorem aL {r:R2} {a b c:Sl} (ha:E1 p K ta τ a) (hb:E1 p K tb τ b)
  (hr:∀ (W:Addr->Prop) (H0 H:Hp) (x y:V) (Q:VK),Ok p W H0->Ok p W H->Rv p W K H0 H x a->Rv p W K H0 H y b->(∀ v H',Ev (Pp p) H H'->Ok p W H'->Rv p W K H0 H' v c->Q v H')->r x y H Q):E1 p K (wO r ta tb) τ c :=
 bX (B:=fun _=>True) (B':=fun _ x=>b=x) ha (fun _ _=>hb) fun s t hs ht W H0 H x y Q o0 o r1 r2 q=>by
  subst hs ht
  exact hr W H0 H x y Q o0 o r1 r2 fun v H'=>q v H' c rfl
theorem Rv.int_inv {i:Int} (h:Rv p W K H0 H v (.dat (.int i))):v = .int i:=by cases h;rfl
theorem Rv.bl_inv {i:Bool} (h:Rv p W K H0 H v (.dat (.bool i))):v = .bl i:=by cases h;rfl
theorem Rv.non_inv (h:Rv p W K H0 H v (.dat .none)):v = .non:=by cases h;rfl
theorem bE {g:Int->Int->V} {i j:Int} {d:Dat} (ha:E1 p K ta τ (.dat (.int i))) (hb:E1 p K tb τ (.dat (.int j))) (hd:∀ (N:Addr->Prop) (K:PySem.W.Frag) (H:Hp),Dz N K H (g i j) d):E1 p K (wO (rI0 g) ta tb) τ (.dat d) :=
 aL ha hb fun W H0 H x y Q o0 o r1 r2 q=>⟨i,j,r1.int_inv,r2.int_inv,q _ H aE o (hd _ K H)⟩
theorem bo {g:Int->Int->V} {Cn:Int->Int->Prop} {i j:Int} {d:Dat} (ha:E1 p K ta τ (.dat (.int i))) (hb:E1 p K tb τ (.dat (.int j))) (hc:Cn i j) (hd:∀ (N:Addr->Prop) (K:PySem.W.Frag) (H:Hp),Dz N K H (g i j) d):E1 p K (wO (rI Cn g) ta tb) τ (.dat d) :=
 aL ha hb fun W H0 H x y Q o0 o r1 r2 q=>⟨i,j,r1.int_inv,r2.int_inv,hc,q _ H aE o (hd _ K H)⟩
section
variable {i j:Int} (ha:E1 p K ta τ (.dat (.int i))) (hb:E1 p K tb τ (.dat (.int j)))
include ha hb
theorem E1.add:E1 p K (wO (rI0 fun i j=>.int (i+j)) ta tb) τ (.dat (.int (i+j))):=bE ha hb fun _ _ _=>.int _
theorem E1.sub:E1 p K (wO (rI0 fun i j=>.int (i - j)) ta tb) τ (.dat (.int (i - j))):=bE ha hb fun _ _ _=>.int _
theorem E1.mul (hc:IntMulOk i j):E1 p K (wO (rI IntMulOk fun i j=>.int (i*j)) ta tb) τ (.dat (.int (i*j))):=bo ha hb hc fun _ _ _=>.int _
theorem E1.fdiv (hc:zfF i j):E1 p K (wO (rI zfF fun i j=>.int (i.fdiv j)) ta tb) τ (.dat (.int (i.fdiv j))):=bo ha hb hc fun _ _ _=>.int _
theorem E1.pow (hc:ziF i j):E1 p K (wO (rI ziF fun i j=>.int (i ^ j.toNat)) ta tb) τ (.dat (.int (i ^ j.toNat))):=bo ha hb hc fun _ _ _=>.int _
theorem E1.lt:E1 p K (wO (rI0 fun i j=>.bl (decide (i<j))) ta tb) τ (.dat (.bool (decide (i<j)))):=bE ha hb fun _ _ _=>.bool _
theorem E1.gt:E1 p K (wO (rI0 fun i j=>.bl (decide (j<i))) ta tb) τ (.dat (.bool (decide (j<i)))):=bE ha hb fun _ _ _=>.bool _
theorem E1.eq:E1 p K (wO rEq ta tb) τ (.dat (.bool (decide (i=j)))):=aL ha hb fun W H0 H x y Q o0 o r1 r2 q=>by
 cases r1.int_inv;cases r2.int_inv
 refine ⟨rfl,q _ H aE o ?_⟩
 have e:decide (V.int i=V.int j)=decide (i=j):=by rw [decide_eq_decide];exact ⟨fun h=>by injection h,fun h=>by rw [h]⟩
 rw [e];exact .bool _
theorem E1.ne:E1 p K (wO rNe ta tb) τ (.dat (.bool (!decide (i=j)))):=aL ha hb fun W H0 H x y Q o0 o r1 r2 q=>by
 cases r1.int_inv;cases r2.int_inv
 refine ⟨rfl,q _ H aE o ?_⟩
 have e:decide (V.int i=V.int j)=decide (i=j):=by rw [decide_eq_decide];exact ⟨fun h=>by injection h,fun h=>by rw [h]⟩
 rw [e];exact .bool _
end
theorem bv {i:Int} (ha:E1 p K ta τ (.dat (.int i))):E1 p K (tUn (rU fun i=>.int (-i)) ta) τ (.dat (.int (-i))):=fun W L σ H Q rs o q=>ha W L σ H _ rs o fun x H1 s e e1 o1 rv=>by
 subst e;cases rv.int_inv
 exact ⟨i,rfl,q _ H1 _ rfl e1 o1 (.int _)⟩
def tG:Sl->Option Dat
 | .dat d=>some d
 | .vw ds=>some (.list ds)
 | .own ds=>some (.list ds)
 | _=>none
theorem Rv.isD {d:Dat} (h:Rv p W K H0 H v s) (e:tG s=some d):Is K H v d:=by
 cases s with
 | un=>cases e
 | pu=>cases e
 | dat d'=>cases e;exact Dz.is h
 | own ds=>cases e;obtain ⟨a,vs,rfl,_,h2,h3⟩:=h;exact .lst (SqL.of h2) h3.is
 | dt ds=>cases e
 | vw ds=>cases e;obtain ⟨a,vs,rfl,h2,h3⟩:=h;exact .lst h2.sq h3.is
theorem am {a b:Sl} {d e:Dat} (ha:E1 p K ta τ a) (hb:E1 p K tb τ b) (ea:tG a=some d) (eb:tG b=some e) (k1:PySem.W.kqdOk 9 d=true) (k2:PySem.W.kqdOk 9 e=true):E1 p K (wO (zgT K false) ta tb) τ (.dat (.bool (deq d e))) :=
 aL ha hb fun W H0 H x y Q o0 o r1 r2 q=>⟨d,e,r1.isD ea,r2.isD eb,k1,k2,q _ H aE o (.bool _)⟩
theorem E1.neD {a b:Sl} {d e:Dat} (ha:E1 p K ta τ a) (hb:E1 p K tb τ b) (ea:tG a=some d) (eb:tG b=some e) (k1:PySem.W.kqdOk 9 d=true) (k2:PySem.W.kqdOk 9 e=true):E1 p K (wO (zgT K true) ta tb) τ (.dat (.bool (!deq d e))) :=
 aL ha hb fun W H0 H x y Q o0 o r1 r2 q=>⟨d,e,r1.isD ea,r2.isD eb,k1,k2,q _ H aE o (.bool _)⟩
theorem zpA {N:Addr->Prop} {xs:List V} {ds:List Dat} {i:Int} {d:Dat} (h:Dzs N K H xs ds) (e:kQ ds i=some d):∃ x,kQ xs i=some x/\Dz N K H x d:=by
  unfold kQ at e ⊢
  rw [h.len]
  cases q:ixN ds.length i with
  | none=>rw [q] at e;cases e
  | some j =>
    rw [q] at e
    obtain ⟨x,e1,e2⟩:=h.get (i:=j) (by simpa using e)
    exact ⟨x,by simpa using e1,e2⟩
theorem aB {ds:List Dat} {i:Int} {d:Dat} (ha:E1 p K ta τ (.dat (.tuple ds))) (hb:E1 p K tb τ (.dat (.int i))) (h:kQ ds i=some d):E1 p K (wO (yaP K) ta tb) τ (.dat d) :=
  aL ha hb fun W H0 H x y Q o0 o r1 r2 q=>by
    cases r2.int_inv
    cases r1 with
    | tup h1 h2 =>
      obtain ⟨x,e1,e2⟩:=zpA h2 h
      exact ⟨_,_,i,x,rfl,rfl,h1,e1,q _ H aE o e2⟩
theorem aj {ds:List Dat} {i:Int} {d:Dat} (ha:E1 p K ta τ (.vw ds)) (hb:E1 p K tb τ (.dat (.int i))) (h:kQ ds i=some d):E1 p K (wO (zmS K) ta tb) τ (.dat d) :=
 aL ha hb fun W H0 H x y Q o0 o r1 r2 q=>by
  cases r2.int_inv
  obtain ⟨a,vs,rfl,h1,h2⟩:=r1
  obtain ⟨x,e1,e2⟩:=zpA h2 h
  exact ⟨_,_,i,x,rfl,rfl,h1.sq,e1,q _ H aE o e2⟩
theorem E1.isN {d:Dat} (ha:E1 p K ta τ (.dat d)) (hb:E1 p K tb τ (.dat .none)):E1 p K (wO (fun x y H Q=>y = .non/\Q (.bl (decide (x = .non))) H) ta tb) τ (.dat (.bool (match d with | .none=>true|_=>false))) :=
 aL ha hb fun W H0 H x y Q o0 o r1 r2 q=>by
  refine ⟨r2.non_inv,q _ H aE o ?_⟩
  cases r1 <;> exact .bool _
theorem E1.notN {d:Dat} (ha:E1 p K ta τ (.dat d)) (hb:E1 p K tb τ (.dat .none)):E1 p K (wO (fun x y H Q=>y = .non/\Q (.bl (!decide (x = .non))) H) ta tb) τ (.dat (.bool (match d with | .none=>false|_=>true))) :=
 aL ha hb fun W H0 H x y Q o0 o r1 r2 q=>by
  refine ⟨r2.non_inv,q _ H aE o ?_⟩
  cases r1 <;> exact .bool _
theorem A1.nil:A1 p K vJ τ []:=fun W L σ H Q rs o q=>q [] H _ rfl aE o .nil
theorem A.cons {C1:Sl->Prop} {C2:Sl->List Sl->Prop} {C:List Sl->Prop} (ha:E p K te τ C1) (hr:∀ s,C1 s->A p K tas τ (C2 s)) (m:∀ s ss,C1 s->C2 s ss->C (s::ss)):A p K (yN te tas) τ C:=fun W L σ H Q rs o q =>
 ha W L σ H _ rs o fun x H1 s c1 e1 o1 rv1=>hr s c1 W L σ H1 _ (rs.ev e1 o.pw) o1 fun xs H2 ss c2 e2 o2 rv2=>q _ H2 _ (m s ss c1 c2) (e1.trans e2) o2 (.cons (rv1.ev e2 o1 o) (rv2.base e1 o1))
theorem A1.cons {ss:List Sl} (ha:E1 p K te τ s) (hr:A1 p K tas τ ss):A1 p K (yN te tas) τ (s::ss):=A.cons (C2:=fun _ x=>ss=x) ha (fun _ _=>hr) fun s ss h1 h2=>by rw [h1,h2]
theorem Rvs.dats {ds:List Dat} {vs:List V} (h:Rvs p W K H0 H vs (ds.map .dat)):Dzs (fun a=>¬ W a) K H vs ds:=by
  induction ds generalizing vs with
  | nil=>cases h;exact .nil
  | cons d r ih =>
    cases h with
    | cons a t=>exact .cons a (ih t)
theorem Rvs.len {ss:List Sl} {vs:List V} (h:Rvs p W K H0 H vs ss):vs.length=ss.length:=by
 induction h with
 | nil=>rfl
 | cons _ _ ih=>rw [List.length_cons,List.length_cons,ih]
theorem E1.tup {ds:List Dat} (h:A1 p K tas τ (ds.map .dat)) (hz:ds.length<=sizeLine):E1 p K (zxA tas) τ (.dat (.tuple ds)):=fun W L σ H Q rs o q =>
 h W L σ H _ rs o fun vs H1 ss e e1 o1 rv=>by
  subst e
  refine ⟨by rw [rv.len,List.length_map];exact hz,fun a ha=>?_⟩
  have s1:=Same.new ha (.tup vs)
  exact q _ _ _ rfl (e1.trans (Ev.of s1)) (o1.same s1) (.tup (SqT.of zJ) (rv.dats.ev (W:=Pp p) (Ev.of s1) o1.nw))
theorem E1.lst {ds:List Dat} (h:A1 p K tas τ (ds.map .dat)) (hz:ds.length<=sizeLine):E1 p K (znO tas) τ (.own ds):=fun W L σ H Q rs o q =>
 h W L σ H _ rs o fun vs H1 ss e e1 o1 rv=>by
  subst e
  refine ⟨by rw [rv.len,List.length_map];exact hz,fun a ha=>?_⟩
  have s1:=Same.new ha (.lst vs)
  exact q _ _ _ rfl (e1.trans (Ev.of s1)) (o1.same s1) ⟨a,vs,rfl,o1.back e1 ha,zJ,rv.dats.ev (W:=Pp p) (Ev.of s1) o1.nw⟩
theorem aG {s':Sl} (h:E1 p K te τ s) (e:s=s'):E1 p K te τ s':=e ▸ h
theorem aC {b:Bool} (h:E1 p K te τ (.dat (.bool b))):T1 p K (zcB te) τ b:=fun W L σ H Q rs o q=>h W L σ H _ rs o fun v H' s e e1 o1 rv=>by
 subst e;cases rv.bl_inv;exact ⟨b,rfl,q b H' rfl e1 o1⟩
theorem T1.val {b:Bool} (h:E1 p K te τ (.dat (.bool b))):T1 p K (tB te) τ b:=fun W L σ H Q rs o q=>h W L σ H _ rs o fun v H' s e e1 o1 rv=>by
 subst e;cases rv.bl_inv;exact ⟨b,rfl,q b H' rfl e1 o1⟩
theorem bY {tt:TT} {b:Bool} (h:T1 p K tt τ b):T1 p K (zwZ tt) τ (!b):=fun W L σ H Q rs o q=>h W L σ H _ rs o fun v H' e e1 o1=>by
 subst e;exact q _ H' rfl e1 o1
theorem T.and {tt tu:TT} {C D:Bool->Prop} (h:T p K tt τ C) (ht:C true->T p K tu τ D) (hf:C false->D false):T p K (zmB tt tu) τ D:=fun W L σ H Q rs o q=>h W L σ H _ rs o fun v H' c e1 o1=>by
 cases v with
 | true=>rw [if_pos rfl];exact ht c W L σ H' _ (rs.ev e1 o.pw) o1 fun b H2 d e2=>q b H2 d (e1.trans e2)
 | false=>rw [if_neg (by decide)];exact q _ H' (hf c) e1 o1
theorem T.or {tt tu:TT} {C D:Bool->Prop} (h:T p K tt τ C) (ht:C true->D true) (hf:C false->T p K tu τ D):T p K (tOr tt tu) τ D:=fun W L σ H Q rs o q=>h W L σ H _ rs o fun v H' c e1 o1=>by
 cases v with
 | false=>rw [if_neg (by decide)];exact hf c W L σ H' _ (rs.ev e1 o.pw) o1 fun b H2 d e2=>q b H2 d (e1.trans e2)
 | true=>rw [if_pos rfl];exact q _ H' (ht c) e1 o1
theorem ar {tt tu:TT} (h:T1 p K tt τ false) (h2:T1 p K tu τ false):T1 p K (tOr tt tu) τ false:=T.or h (fun z=>by cases z) fun _=>h2
theorem T1.or1 {tt tu:TT} {b c:Bool} (h:T1 p K tt τ b) (h2:T1 p K tu τ c):T1 p K (tOr tt tu) τ (b || c):=T.or h (fun z=>by rw [z];rfl) fun z=>by rw [z];exact h2
theorem bZ {tt tu:TT} {b c:Bool} (h:T1 p K tt τ b) (h2:T1 p K tu τ c):T1 p K (zmB tt tu) τ (b && c):=T.and h (fun z=>by rw [z];exact h2) fun z=>by rw [z];rfl
theorem E1.andV {b c:Bool} (h:E1 p K ta τ (.dat (.bool b))) (h2:b=true->E1 p K tb τ (.dat (.bool c))) (hc:b=false->c=false):E1 p K (zpN ta tb) τ (.dat (.bool c)):=fun W L σ H Q rs o q=>h W L σ H _ rs o fun v H' s e e1 o1 rv=>by
 subst e;cases rv.bl_inv
 refine ⟨b,rfl,?_⟩
 cases b with
 | true=>rw [if_pos rfl];exact h2 rfl W L σ H' _ (rs.ev e1 o.pw) o1 fun v H2 s e e2 o2 rv=>q v H2 s e (e1.trans e2) o2 (rv.base e1 o1)
 | false=>rw [if_neg (by decide)];rw [hc rfl] at q;exact q _ H' _ rfl e1 o1 (.bool _)
theorem E1.orV {b c:Bool} (h:E1 p K ta τ (.dat (.bool b))) (h2:b=false->E1 p K tb τ (.dat (.bool c))) (hc:b=true->c=true):E1 p K (ydC ta tb) τ (.dat (.bool c)):=fun W L σ H Q rs o q=>h W L σ H _ rs o fun v H' s e e1 o1 rv=>by
 subst e;cases rv.bl_inv
 refine ⟨b,rfl,?_⟩
 cases b with
 | false=>rw [if_neg (by decide)];exact h2 rfl W L σ H' _ (rs.ev e1 o.pw) o1 fun v H2 s e e2 o2 rv=>q v H2 s e (e1.trans e2) o2 (rv.base e1 o1)
 | true=>rw [if_pos rfl];rw [hc rfl] at q;exact q _ H' _ rfl e1 o1 (.bool _)
end
end D
end
section
namespace D
open PySem L2 K0
open PySem.W (Dat)
def Rr (p:Option Addr) (W:Addr->Prop) (K:PySem.W.Frag) (L:List Addr) (H H':Hp) (v:V):Sl->Prop
 | .own ds=>∃ a vs,v = .ref a/\(a∈L\/H a=none)/\H' a=some (.lst vs)/\Dzs (fun a=>¬ W a) K H' vs ds
 | .dt o=>∃ a l,v = .ref a/\(∀ b,b∈l->b∈L\/H b=none)/\o.R (fun a=>¬ W a) K H' a l
 | s=>Rv p W K H H' v s
section
variable (p:Option Addr) (K:PySem.W.Frag)
def S (ts:TS) (τ:List Sl) (nx:List Sl->Prop) (rt:Sl->Prop):Prop:=∀ (W:Addr->Prop) (L:List Addr) (σ:St) (H:Hp) (D:Ends),Rs p W K H L σ τ->Ok p W H ->
 (∀ (W':Addr->Prop) (L':List Addr) σ' H' τ',nx τ'->Ev W H H'->Ok p W' H'->(∀ a,W a->∃ ys,H' a=some ys)->(∀ a,W' a->W a\/H a=none)->(∀ a,a∈L'->a∈L\/H a=none)->Rs p W' K H' L' σ' τ'->D.nx σ' H') ->
 (∀ (W':Addr->Prop) H' v s,rt s->Ev W H H'->Ok p W' H'->(∀ a,W a->∃ ys,H' a=some ys)->(∀ a,W' a->W a\/H a=none)->Rr p W' K L H H' v s->D.rt v H')->ts D σ H
end
section
variable {p:Option Addr} {K:PySem.W.Frag} {W:Addr->Prop} {L:List Addr} {σ:St} {H H0 H1 H2:Hp} {τ:List Sl} {te:TE} {v:V} {s:Sl} {nx:List Sl->Prop} {rt:Sl->Prop} {t u:TS}
theorem Rv.rr (h:Rv p W K H0 H v s):Rr p W K L H0 H v s:=by
 cases s with
 | own ds=>obtain ⟨a,vs,e,h1,h2⟩:=h;exact ⟨a,vs,e,.inr h1,h2⟩
 | dt ds=>obtain ⟨a,vs,e,h1,h2⟩:=h;exact ⟨a,vs,e,fun b hb=>.inr (h1 b hb),h2⟩
 | _=>exact h
theorem Rr.base {L':List Addr} (h:Rr p W K L' H1 H v s) (hn:∀ a,H1 a=none->H0 a=none) (hl:∀ a,a∈L'->a∈L\/H0 a=none):Rr p W K L H0 H v s:=by
 cases s with
 | own ds=>obtain ⟨a,vs,e,h1,h2⟩:=h;exact ⟨a,vs,e,h1.elim (hl a) fun z=>.inr (hn a z),h2⟩
 | dt ds=>obtain ⟨a,vs,e,h1,h2⟩:=h;exact ⟨a,vs,e,fun b hb=>(h1 b hb).elim (hl b) fun z=>.inr (hn b z),h2⟩
 | _=>exact h
theorem Ev.ofP (e:Ev (Pp p) H H1) (o:Ok p W H):Ev W H H1:=e.mono o.pw
theorem Ev.chain {W W':Addr->Prop} (e:Ev W H H1) (e2:Ev W' H1 H2) (n:∀ a,W' a->W a\/H a=none):Ev W H H2:=⟨fun b o nb h=>e2.keep b o (fun z=>by
 rcases n b z with y|y
 ·exact nb y
 ·rw [h] at y;cases y) (e.keep b o nb h),e.tm.trans e2.tm⟩
theorem Ev.none (e:Ev W H H1) (al:∀ a,W a->∃ ys,H1 a=some ys) {a:Addr} (h:H1 a=none):H a=none:=by
  cases q:H a with
  | none=>rfl
  | some u =>
    by_cases z:W a
    . obtain ⟨ys,e2⟩:=al a z;rw [h] at e2;cases e2
    . rw [e.keep _ _ z q] at h;cases h
theorem wF {W W1:Addr->Prop} (w1:∀ a,W a->∃ ys,H1 a=some ys) (w2:∀ a,W1 a->∃ ys,H2 a=some ys) (e2:Ev W1 H1 H2):∀ a,W a->∃ ys,H2 a=some ys:=fun a ha=>by
 by_cases z:W1 a
 ·exact w2 a z
 ·obtain ⟨ys,h⟩:=w1 a ha;exact ⟨ys,e2.keep _ _ z h⟩
theorem S.seq {M:List Sl->Prop} (h1:S p K t τ M rt) (h2:∀ τ',M τ'->S p K u τ' nx rt):S p K (jV t u) τ nx rt:=fun W L σ H D r o q1 q2 =>
 h1 W L σ H _ r o (fun W1 L1 σ1 H1 τ1 m e1 o1 w1 n1 l1 r1=>by
  have hn:∀ a,H1 a=none->H a=none:=fun a ha=>e1.none w1 ha
  exact h2 τ1 m W1 L1 σ1 H1 D r1 o1 (fun W2 L2 σ2 H2 τ2 c e2 o2 w2 n2 l2 r2=>q1 W2 L2 σ2 H2 τ2 c (e1.chain e2 n1) o2 (wF w1 w2 e2)
    (fun a ha=>(n2 a ha).elim (n1 a) fun z=>.inr (hn a z)) (fun a ha=>(l2 a ha).elim (l1 a) fun z=>.inr (hn a z)) r2)
   fun W2 H2 v s c e2 o2 w2 n2 rv=>q2 W2 H2 v s c (e1.chain e2 n1) o2 (wF w1 w2 e2) (fun a ha=>(n2 a ha).elim (n1 a) fun z=>.inr (hn a z)) (rv.base hn l1)) q2
theorem S.next (h:nx τ):S p K zfB τ nx rt:=fun W L σ H D r o q1 q2=>q1 W L σ H τ h aE o o.al (fun _ h=>.inl h) (fun _ h=>.inl h) r
theorem S.ret {C:Sl->Prop} (h:E p K te τ C) (m:∀ s,C s->rt s):S p K (ziW te) τ nx rt:=fun W L σ H D r o q1 q2=>h W L σ H _ r o fun v H' s c e o' rv=>q2 W H' v s (m s c) (e.ofP o) o' o'.al (fun _ h=>.inl h) rv.rr
theorem aD (h:E1 p K te τ s) (m:rt s):S p K (ziW te) τ nx rt:=S.ret h fun x e=>e ▸ m
theorem S.retO {i:Nat} {ds:List Dat} (h:τ[i]?=some (.own ds)) (m:rt (.own ds)):S p K (ziW (kK i)) τ nx rt:=fun W L σ H D r o q1 q2=>by
 obtain ⟨a,vs,e,w,n,l,h1,z⟩:=r.get_own h
 exact ⟨_,e,q2 W H _ _ m aE o o.al (fun _ h=>.inl h) ⟨a,vs,rfl,.inl l,h1,z⟩⟩
theorem S.iff {tc:TT} {C:Bool->Prop} (h:T p K tc τ C) (ht:C true->S p K t τ nx rt) (hf:C false->S p K u τ nx rt):S p K (zcR tc t u) τ nx rt:=fun W L σ H D r o q1 q2=>h W L σ H _ r o fun b H1 c e o1=>by
 have e1:=e.ofP o
 have hn:∀ a,H1 a=none->H a=none:=fun a ha=>e1.none (fun a h=>o1.al a h) ha
 have go:∀ {t:TS},S p K t τ nx rt->t D σ H1:=fun h=>h W L σ H1 D (r.ev e o.pw) o1 (fun W2 L2 σ2 H2 τ2 c e2 o2 w2 n2 l2 r2=>q1 W2 L2 σ2 H2 τ2 c (e1.trans e2) o2 (wF o1.al w2 e2) (fun a ha=>(n2 a ha).elim .inl fun z=>.inr (hn a z)) (fun a ha=>(l2 a ha).elim .inl fun z=>.inr (hn a z)) r2)
   fun W2 H2 v s c e2 o2 w2 n2 rv=>q2 W2 H2 v s c (e1.trans e2) o2 (wF o1.al w2 e2) (fun a ha=>(n2 a ha).elim .inl fun z=>.inr (hn a z)) (rv.base hn fun _ h=>.inl h)
 cases b with
 | true=>rw [if_pos rfl];exact go (ht c)
 | false=>rw [if_neg (by decide)];exact go (hf c)
theorem af {tc:TT} {b:Bool} (h:T1 p K tc τ b) (ht:b=true->S p K t τ nx rt) (hf:b=false->S p K u τ nx rt):S p K (zcR tc t u) τ nx rt:=S.iff h ht hf
theorem au {tc:TT} (h:T1 p K tc τ false) (hf:S p K u τ nx rt):S p K (zcR tc t u) τ nx rt:=S.iff h (fun z=>by cases z) fun _=>hf
theorem S.ifT {tc:TT} (h:T1 p K tc τ true) (hf:S p K t τ nx rt):S p K (zcR tc t u) τ nx rt:=S.iff h (fun _=>hf) (fun z=>by cases z)
theorem aW {tc:TT} {b:Bool} (h:T1 p K tc τ b) (ht:b=true->S p K t τ (fun τ'=>S p K u τ' nx rt) rt) (hf:b=false->S p K u τ nx rt):S p K (jV (zcR tc t zfB) u) τ nx rt :=
 S.seq (M:=fun τ'=>S p K u τ' nx rt) (af h ht fun z=>S.next (hf z)) fun _ h=>h
theorem aJ {tc:TT} (h:T1 p K tc τ false) (hf:S p K u τ nx rt):S p K (jV (zcR tc t zfB) u) τ nx rt:=aW h (fun z=>by cases z) fun _=>hf
def zyE:Sl->Bool
 | .own _=>false
 | .dt _=>false
 | .vw _=>false
 | _=>true
theorem S.asg {C:Sl->Prop} {i:Nat} (h:E p K te τ C) (hf:∀ s,C s->zyE s=true) (m:∀ s,C s->nx (τ.set i s)):S p K (jP te (yK i)) τ nx rt:=fun W L σ H D r o q1 q2=>h W L σ H _ r o fun v H1 s c e o1 rv=>by
 have z:=hf s c
 obtain ⟨L',l,r'⟩:=(r.ev e o.pw).set (v:=v) (s:=s) (by
  cases s with
  | un=>exact .inl rfl
  | dat d=>exact .inr (.inl ⟨d,rfl,rv⟩)
  | pu=>exact .inr (.inr ⟨rfl,rv⟩)
  | own ds=>cases z
  | dt ds=>cases z
  | vw ds=>cases z) i
 exact q1 W L' _ H1 _ (m s c) (e.ofP o) o1 o1.al (fun _ h=>.inl h) (fun a ha=>.inl (l a ha)) r'
theorem aP {C:Sl->Prop} {i:Nat} (h:E p K te τ C) (hf:∀ s,C s->zyE s=true) (m:∀ s,C s->S p K u (τ.set i s) nx rt):S p K (jV (jP te (yK i)) u) τ nx rt :=
 S.seq (M:=fun τ'=>∃ s,C s/\τ'=τ.set i s) (S.asg h hf fun s c=>⟨s,c,rfl⟩) fun τ' ⟨s,c,e⟩=>e ▸ m s c
theorem aF {i:Nat} {τ':List Sl} (h:E1 p K te τ s) (m:S p K u τ' nx rt) (e:τ.set i s=τ':=by rfl) (hf:zyE s=true:=by rfl):S p K (jV (jP te (yK i)) u) τ nx rt :=
 aP h (fun x y=>y ▸ hf) fun x y=>by subst y;rw [e];exact m
theorem S.asg1 {i:Nat} {τ':List Sl} (h:E1 p K te τ s) (m:nx τ') (e:τ.set i s=τ':=by rfl) (hf:zyE s=true:=by rfl):S p K (jP te (yK i)) τ nx rt :=
 S.asg h (fun x y=>y ▸ hf) fun x y=>by subst y;rw [e];exact m
theorem Rs.setO (r:Rs p W K H L σ τ) {a:Addr} {vs:List V} {ds:List Dat} (wa:W a) (np:p≠some a) (nl:a ∉ L) (h:H a=some (.lst vs)) (z:Dzs (fun a=>¬ W a) K H vs ds):∀ (i:Nat),∃ L',(∀ b,b∈L'->b=a\/b∈L)/\Rs p W K H L' (σ.set i (some (.ref a))) (τ.set i (.own ds)):=by
  induction r with
  | nil=>intro i;exact ⟨[],fun _ h=>.inr h,.nil⟩
  | un r ih =>
    intro i
    match i with
    | 0=>exact ⟨_,fun b hb=>by simpa using hb,.own wa np nl h z r⟩
    | i+1=>obtain ⟨L',h1,h2⟩:=ih nl i;exact ⟨L',h1,.un h2⟩
  | dat y r ih =>
    intro i
    match i with
    | 0=>exact ⟨_,fun b hb=>by simpa using hb,.own wa np nl h z r⟩
    | i+1=>obtain ⟨L',h1,h2⟩:=ih nl i;exact ⟨L',h1,.dat y h2⟩
  | pu y r ih =>
    intro i
    match i with
    | 0=>exact ⟨_,fun b hb=>by simpa using hb,.own wa np nl h z r⟩
    | i+1=>obtain ⟨L',h1,h2⟩:=ih nl i;exact ⟨L',h1,.pu y h2⟩
  | own g1 g2 g3 g4 g5 r ih =>
    intro i
    have nl':=fun y=>nl (List.mem_cons_of_mem _ y)
    match i with
    | 0=>exact ⟨_,fun b hb=>(List.mem_cons.mp hb).imp id (List.mem_cons_of_mem _),.own wa np nl' h z r⟩
    | i+1 =>
      obtain ⟨L',h1,h2⟩:=ih nl' i
      refine ⟨_::L',fun b hb=>?_,.own g1 g2 (fun y=>?_) g4 g5 h2⟩
      . rcases List.mem_cons.mp hb with rfl|hb
        . exact .inr List.mem_cons_self
        . exact (h1 b hb).imp id (List.mem_cons_of_mem _)
      . rcases h1 _ y with y|y
        . exact nl (y ▸ List.mem_cons_self)
        . exact g3 y
  | dt g1 g2 g3 g4 r ih =>
    intro i
    have nl':=fun y=>nl (List.mem_append_right _ y)
    match i with
    | 0=>exact ⟨_,fun b hb=>(List.mem_cons.mp hb).imp id (List.mem_append_right _),.own wa np nl' h z r⟩
    | i+1 =>
      obtain ⟨L',h1,h2⟩:=ih nl' i
      refine ⟨_++L',fun b hb=>?_,.dt g1 g2 (fun b hb y=>?_) g4 h2⟩
      . rcases List.mem_append.mp hb with hb|hb
        . exact .inr (List.mem_append_left _ hb)
        . exact (h1 b hb).imp id (List.mem_append_right _)
      . rcases h1 _ y with y|y
        . exact nl (y ▸ List.mem_append_left _ hb)
        . exact g3 b hb y
theorem Rs.own_in (r:Rs p W K H L σ τ):∀ a,a∈L->∃ vs,H a=some vs:=by
  induction r with
  | nil=>intro a h;cases h
  | un _ ih=>exact ih
  | dat _ _ ih=>exact ih
  | pu _ _ ih=>exact ih
  | own _ _ _ h4 _ _ ih => intro a h; rcases List.mem_cons.mp h with rfl|h
                           . exact ⟨_,h4⟩
                           . exact ih a h
  | dt _ _ _ h4 _ ih =>
    intro a h;rcases List.mem_append.mp h with h|h
    . exact Own.al _ h4 a h
    . exact ih a h
theorem Dzs.wide {W W':Addr->Prop} {vs:List V} {ds:List Dat} (h:Dzs (fun a=>¬ W a) K H vs ds) (n:∀ a,W' a->¬ W a->H a=none):Dzs (fun a=>¬ W' a) K H vs ds:=by
 exact go n h
where
 go {W W':Addr->Prop} (n:∀ a,W' a->¬ W a->H a=none):∀ {vs:List V} {ds:List Dat},Dzs (fun a=>¬ W a) K H vs ds->Dzs (fun a=>¬ W' a) K H vs ds
  | _,_,.nil=>.nil
  | _,_,.cons h r=>.cons (go1 n h) (go n r)
 go1 {W W':Addr->Prop} (n:∀ a,W' a->¬ W a->H a=none):∀ {v:V} {d:Dat},Dz (fun a=>¬ W a) K H v d->Dz (fun a=>¬ W' a) K H v d
  | _,_,.none=>.none
  | _,_,.bool b=>.bool b
  | _,_,.int i=>.int i
  | _,_,.str x=>.str x
  | _,_,.tup h r=>.tup h (go n r)
  | _,_,.lst h r=>.lst (by
    rcases h with ⟨nn,h⟩|h
    ·refine .inl ⟨fun z=>?_,h⟩
     have e1:=n _ z nn
     rcases h with h|⟨o,h⟩
     ·rw [e1] at h;cases h
     ·rw [e1] at h;cases h
    ·exact .inr h) (go n r)
  | _,_,.exc nn h=>.exc (fun z=>by obtain ⟨_,_,q,_⟩:=h;rw [n _ z nn] at q;cases q) h
theorem aY {W W':Addr->Prop} {H H':Hp} (e:Ev W H H') (n:∀ a,W' a->W a\/H a=none):∀ {vs:List V} {ds:List Dat},Dzs (fun a=>¬ W a) K H vs ds->Dzs (fun a=>¬ W' a) K H' vs ds
  | _,_,.nil=>.nil
  | _,_,.cons h r=>.cons (go1 h) (aY e n r)
where
  go1 : ∀ {v : V} {d : Dat}, Dz (fun a => ¬ W a) K H v d -> Dz (fun a => ¬ W' a) K H' v d
    | _,_,.none=>.none
    | _,_,.bool b=>.bool b
    | _,_,.int i=>.int i
    | _,_,.str x=>.str x
    | _,_,.tup h r=>.tup (e.tm _ _ _ h) (aY e n r)
    | _, _, .lst h r => .lst (by
        rcases h with ⟨nn,h⟩|h
        . refine .inl ⟨fun z=>?_,?_⟩
          . have e1:=(n _ z).resolve_left nn
            rcases h with h|⟨o,h⟩
            . rw [e1] at h;cases h
            . rw [e1] at h;cases h
          . exact h.imp (e.keep _ _ nn) fun ⟨o,h⟩=>⟨o,e.keep _ _ nn h⟩
        . exact .inr h) (aY e n r)
    | _,_,.exc nn h=>.exc (fun z=>by obtain ⟨_,_,q,_⟩:=h;rw [(n _ z).resolve_left nn] at q;cases q) (let ⟨ob,C,q,z⟩:=h;⟨ob,C,e.keep _ _ nn q,z⟩)
theorem S.letOC {C:List Dat->Prop} {i:Nat} (h:E p K te τ (fun s=>∃ ds,s = .own ds/\xR ds=true/\C ds)) (m:∀ ds,C ds->S p K u (τ.set i (.own ds)) nx rt):S p K (jV (jP te (yK i)) u) τ nx rt:=by
 refine S.seq (M:=fun τ'=>∃ ds,C ds/\τ'=τ.set i (.own ds)) (fun W L σ H D r o q1 q2=>?_) fun τ' ⟨ds,c,e⟩=>e ▸ m ds c
 refine h W L σ H _ r o fun v H1 s c e o1 rv=>?_
 obtain ⟨ds,rfl,nl,cd⟩:=c
 obtain ⟨a,vs,rfl,h1,h2,h3⟩:=rv
 have nw:=o.fresh h1
 have wid:∀ b,(W b\/b=a)->¬ W b->H b=none:=fun b hb nb=>(hb.resolve_left nb) ▸ h1
 have r1:Rs p (fun b=>W b\/b=a) K H1 L σ τ:=(r.wide (fun _ h=>.inl h) wid).ev e fun q hq=>.inl (o.pw q hq)
 have al:a ∉ L:=fun z=>by obtain ⟨_,y⟩:=r.own_in a z;rw [h1] at y;cases y
 obtain ⟨L',l,r2⟩:=r1.setO (.inr rfl) (o.np h1) al h2 (h3.free nl) i
 refine q1 _ L' _ H1 _ ⟨ds,cd,rfl⟩ (e.ofP o) ⟨fun q hq=>⟨(o1.pu q hq).1,.inl (o1.pw q hq)⟩,fun b hb=>?_⟩ o1.al (fun b hb=>hb.imp id fun (z:b=a)=>by rw [z];exact h1) (fun b hb=>?_) r2
 ·rcases hb with hb|rfl
  ·exact o1.al b hb
  ·exact ⟨_,h2⟩
 ·rcases l b hb with rfl|hb
  ·exact .inr h1
  ·exact .inl hb
theorem bO {ds:List Dat} {i:Nat} {τ':List Sl} (h:E1 p K te τ (.own ds)) (nl:xR ds=true) (m:S p K u τ' nx rt) (e:τ.set i (.own ds)=τ':=by rfl):S p K (jV (jP te (yK i)) u) τ nx rt :=
 S.letOC (C:=fun x=>ds=x) (E.mono h fun s hs=>⟨ds,hs.symm,nl,rfl⟩) fun x hx=>by subst hx;rw [e];exact m
theorem Rs.chg (r:Rs p W K H L σ τ) {a:Addr} {vs0 vs:List V} (ha:W a) (h0:H a=some (.lst vs0)):a ∉ L->Rs p W K (upd H a (.lst vs)) L σ τ:=by
  have ev:Ev (fun b=>b=a) H (upd H a (.lst vs)):=⟨fun b o n h=>by rw [zP n];exact h,Tm.lst h0 _⟩
  have nw:∀ b,¬ W b->¬ b=a:=fun b n z=>n (z ▸ ha)
  induction r with
  | nil=>intro _;exact .nil
  | un _ ih=>intro h;exact .un (ih h)
  | dat h _ ih=>intro n;exact .dat (h.ev ev nw) (ih n)
  | pu h _ ih=>intro n;exact .pu h (ih n)
  | own h1 h2 h3 h4 h5 _ ih =>
    intro n
    refine .own h1 h2 h3 ?_ (h5.ev ev nw) (ih fun z=>n (List.mem_cons_of_mem _ z))
    rw [zP (fun z=>n (by rw [<- z];exact List.mem_cons_self))];exact h4
  | dt h1 h2 h3 h4 _ ih =>
    intro n
    exact .dt h1 h2 h3 (Own.ev _ h4 ev nw fun b o hb h=>by rw [zP (fun (z:b=a)=>n (z ▸ List.mem_append_left _ hb))];exact h) (ih fun z=>n (List.mem_append_right _ z))
theorem Rs.chgO {a:Addr} {vs0 vs:List V} {ds:List Dat} (ha:W a) (h0:H a=some (.lst vs0)) (hz:Dzs (fun a=>¬ W a) K (upd H a (.lst vs)) vs ds):∀ {L:List Addr} {σ:St} {τ:List Sl},Rs p W K H L σ τ->∀ {i:Nat} {ds0:List Dat},τ[i]?=some (.own ds0)->σ[i]?=some (some (.ref a))->Rs p W K (upd H a (.lst vs)) L σ (τ.set i (.own ds)):=by
  have ev:Ev (fun b=>b=a) H (upd H a (.lst vs)):=⟨fun b o n h=>by rw [zP n];exact h,Tm.lst h0 _⟩
  have nw:∀ b,¬ W b->¬ b=a:=fun b n z=>n (z ▸ ha)
  intro L σ τ r
  induction r with
  | nil=>intro i ds0 h;simp at h
  | un r ih =>
    intro i ds0 h e
    match i,h,e with
    | 0,h,_=>simp at h
    | i+1,h,e=>exact .un (ih (i:=i) (by simpa using h) (by simpa using e))
  | dat y r ih =>
    intro i ds0 h e
    match i,h,e with
    | 0,h,_=>simp at h
    | i+1,h,e=>exact .dat (y.ev ev nw) (ih (i:=i) (by simpa using h) (by simpa using e))
  | pu y r ih =>
    intro i ds0 h e
    match i,h,e with
    | 0,h,_=>simp at h
    | i+1,h,e=>exact .pu y (ih (i:=i) (by simpa using h) (by simpa using e))
  | own h1 h2 h3 h4 h5 r ih =>
    intro i ds0 h e
    match i,h,e with
    | 0,h,e =>
      simp at e;subst e
      exact .own h1 h2 h3 zJ hz (r.chg h1 h4 h3)
    | i+1,h,e =>
      have e':_:=e
      simp only [List.getElem?_cons_succ] at e'
      obtain ⟨a',vs',g1,g2,g3,g4,g5,g6⟩:=r.get_own (i:=i) (by simpa using h)
      rw [e'] at g1;cases g1
      refine .own h1 h2 h3 ?_ (h5.ev ev nw) (ih (i:=i) (by simpa using h) e')
      rw [zP (fun z=>h3 (by rw [z];exact g4))];exact h4
  | dt h1 h2 h3 h4 r ih =>
    intro i ds0 h e
    match i,h,e with
    | 0,h,e =>
      simp at h
    | i+1,h,e =>
      have e':_:=e
      simp only [List.getElem?_cons_succ] at e'
      obtain ⟨a',vs',g1,g2,g3,g4,g5,g6⟩:=r.get_own (i:=i) (by simpa using h)
      rw [e'] at g1;cases g1
      exact .dt h1 h2 h3 (Own.ev _ h4 ev nw fun b o hb h=>by rw [zP (fun (z:b=a)=>h3 b hb (z ▸ g4))];exact h) (ih (i:=i) (by simpa using h) e')
theorem S.append {i:Nat} {ds:List Dat} {C:Dat->Prop} (h:τ[i]?=some (.own ds)) (he:E p K te τ (fun s=>∃ d,s = .dat d/\tF d=true/\C d)) (hz:ds.length<sizeLine) (m:∀ d,C d->nx (τ.set i (.own (ds++[d])))):S p K (zcE (tBM K "list" sQ (kK i) (yN te vJ))) τ nx rt:=fun W L σ H D r o q1 q2=>by
  obtain ⟨a,vs,e,w,n,l,h1,z⟩:=r.get_own h
  refine ⟨_,e,.inl ⟨rfl,_,SqL.of h1⟩,he W L σ H _ r o fun v H1 s c e1 o1 rv=>?_⟩
  obtain ⟨d,rfl,nl,cd⟩:=c
  have r1:=r.ev e1 o.pw
  obtain ⟨a',vs',e',w',n',l',h1',z'⟩:=r1.get_own h
  rw [e] at e';cases e'
  have ev:Ev (fun b=>b=a) H1 (upd H1 a (.lst (vs'++[v]))):=⟨fun b o n h=>by rw [zP n];exact h,Tm.lst h1' _⟩
  have nw:∀ b,¬ W b->¬ b=a:=fun b n z=>n (z ▸ w)
  refine ⟨a,vs',v,rfl,rfl,h1',by rw [z'.len];exact hz,?_⟩
  refine q1 W L σ _ _ (m d cd) ((e1.ofP o).trans (ev.mono fun b hb=>hb ▸ w)) ⟨fun q hq=>⟨?_,o1.pw q hq⟩,fun b hb=>?_⟩ ?_ (fun _ h=>.inl h) (fun _ h=>.inl h) (Rs.chgO w h1' ((z'.app (.cons rv .nil)).ev ev nw) r1 h e)
  . obtain ⟨x,y,u⟩:=(o1.pu q hq).1
    exact ⟨x,y,by rw [zP (fun z=>n' (by rw [<- z];exact hq))];exact u⟩
  all_goals
    first
    | (by_cases z:b=a
       . subst z;exact ⟨_,zJ⟩
       . rw [zP z];exact o1.al b hb)
    | (intro b hb
       by_cases z:b=a
       . subst z;exact ⟨_,zJ⟩
       . rw [zP z];exact o1.al b hb)
theorem S.append1 {i:Nat} {ds:List Dat} {d:Dat} {τ':List Sl} (h:τ[i]?=some (.own ds)) (he:E1 p K te τ (.dat d)) (nl:tF d=true) (hz:ds.length<sizeLine) (m:nx τ') (e:τ.set i (.own (ds++[d]))=τ':=by rfl):S p K (zcE (tBM K "list" sQ (kK i) (yN te vJ))) τ nx rt :=
 S.append (C:=fun x=>d=x) h (E.mono he fun s hs=>⟨d,hs.symm,nl,rfl⟩) hz fun x hx=>by subst hx;rw [e];exact m
end
end D
end
section
namespace D
open PySem L2 K0
open PySem.W (Dat)
def Jd (W:Addr->Prop) (K:PySem.W.Frag) (J:It) (H:Hp) (ds:List Dat):Prop:=∀ (W':Addr->Prop) (H':Hp),Ev W H H'->(∀ a,W' a->W a\/H a=none)->J.stop ds.length H'/\∀ i d,ds[i]?=some d->J.go i H'/\∀ y H2,J.yld i H' y H2->Same H' H2/\Dz (fun a=>¬ W' a) K H2 y d
section
variable (p:Option Addr) (K:PySem.W.Frag)
def Wk (wi:TI) (τ:List Sl) (ds:List Dat):Prop:=∀ (W:Addr->Prop) (L:List Addr) (σ:St) (H:Hp) (R:It->Hp->Prop),Rs p W K H L σ τ->Ok p W H->(∀ J H1,Ev (Pp p) H H1->Ok p W H1->Jd W K J H1 ds->R J H1)->wi σ H R
def Gd (g:TG) (d:Dat) (τ τ':List Sl):Prop:=∀ (W:Addr->Prop) (L:List Addr) (σ:St) (H:Hp) (v:V) (Q:St->Hp->Prop),Rs p W K H L σ τ->Dz (fun a=>¬ W a) K H v d->(∀ L' σ',(∀ a,a∈L'->a∈L)->Rs p W K H L' σ' τ'->Q σ' H)->g v σ H Q
end
section
variable {p:Option Addr} {K:PySem.W.Frag} {W:Addr->Prop} {L:List Addr} {σ:St} {H H1 H2:Hp} {τ τ':List Sl} {tb te:TE} {tas:TA} {v:V} {s:Sl} {nx:List Sl->Prop} {rt:Sl->Prop} {t:TS} {ds:List Dat} {wi:TI}
theorem Wk.tup (h:E1 p K te τ (.dat (.tuple ds))):Wk p K (yeW K te) τ ds:=fun W L σ H R r o q=>h W L σ H _ r o fun v H1 s e e1 o1 rv=>by
  subst e
  cases rv with
  | tup h1 h2 =>
    rename_i a xs
    refine ⟨a,rfl,⟨xs,h1⟩,q _ H1 e1 o1 fun W' H' ev n=>?_⟩
    have h1':=ev.tm _ _ _ h1
    have h2':=aY ev n h2
    refine ⟨⟨xs,h1',by rw [h2.len];exact Nat.le_refl _⟩,fun i d hd=>?_⟩
    obtain ⟨x,ex,zx⟩:=h2'.get hd
    exact ⟨⟨xs,x,h1',ex⟩,fun y H2 ⟨e,q⟩=>by
      subst e
      have:=q xs h1'
      rw [ex] at this;cases this
      exact ⟨aH _,zx⟩⟩
theorem Wk.lst (h:E1 p K te τ (.dat (.list ds))):Wk p K (zqG K te) τ ds:=fun W L σ H R r o q=>h W L σ H _ r o fun v H1 s e e1 o1 rv=>by
  subst e
  cases rv with
  | lst h1 h2 =>
    rename_i a xs
    refine ⟨a,rfl,⟨xs,h1.sq⟩,q _ H1 e1 o1 fun W' H' ev n=>?_⟩
    have h1':SqL K H' a xs:=by
      rcases h1 with ⟨nn,h1⟩|h1
      . exact .inl (h1.imp (ev.keep _ _ nn) fun ⟨o,h⟩=>⟨o,ev.keep _ _ nn h⟩)
      . exact SqN.sq (N:=fun _=>True) (.inr h1)
    have h2':=aY ev n h2
    refine ⟨⟨xs,h1',by rw [h2.len];exact Nat.le_refl _⟩,fun i d hd=>?_⟩
    obtain ⟨x,ex,zx⟩:=h2'.get hd
    exact ⟨⟨xs,x,h1',ex⟩,fun y H2 ⟨e,q⟩=>by
      subst e
      have:=q xs h1'
      rw [ex] at this;cases this
      exact ⟨aH _,zx⟩⟩
def kY (lo:Int) (n:Nat):List Dat:=(List.range n).map fun (i:Nat)=>.int (lo+i)
theorem zjC {lo:Int} {n i:Nat} {d:Dat} (h:(kY lo n)[i]?=some d):i<n/\d = .int (lo+i):=by
  unfold kY at h
  rw [List.getElem?_map] at h
  cases e:(List.range n)[i]? with
  | none=>rw [e] at h;cases h
  | some j =>
    rw [e] at h;cases h
    have hi:i<n:=by simpa using (List.getElem?_eq_some_iff.mp e).1
    have hj:j=i:=by
      have:=(List.getElem?_eq_some_iff.mp e).2
      simpa using this.symm
    subst hj
    exact ⟨hi,rfl⟩
theorem zhC {lo:Int} {n:Nat}:(kY lo n).length=n:=by unfold kY;simp
theorem yaB {lo:Int} {n:Nat}:Jd W K (Itr lo n) H (kY lo n):=fun W' H' ev nn=>⟨by show n<=_;rw [zhC];exact Nat.le_refl _,fun i d hd=>by
 obtain ⟨hi,rfl⟩:=zjC hd
 exact ⟨hi,fun y H2 ⟨e1,e2⟩=>by subst e1 e2;exact ⟨aH _,.int _⟩⟩⟩
theorem Wk.rng {j:Int} {n:Nat} (h:A1 p K tas τ [.dat (.int j)]) (hn:j.toNat=n) (h1 : -(2 ^ 62)<=j:=by decide) (h2:j<2 ^ 62:=by decide):Wk p K (zkL tas) τ (kY 0 n):=fun W L σ H R r o q=>h W L σ H _ r o fun vs H1 ss e e1 o1 rv=>by
  subst e hn
  cases rv with
  | cons a t =>
    cases t
    cases a.int_inv
    exact ⟨j,rfl,h1,h2,q _ H1 e1 o1 yaB⟩
def zaH:List Dat->List Dat->List Dat:=List.zipWith fun x y=>.tuple [x,y]
theorem zfT:∀ {xs ys:List Dat} {i:Nat} {d:Dat},(zaH xs ys)[i]?=some d->∃ x y,xs[i]?=some x/\ys[i]?=some y/\d = .tuple [x,y]:=by
  intro xs ys i d h
  unfold zaH at h
  rw [List.getElem?_zipWith] at h
  cases e1:xs[i]? with
  | none=>rw [e1] at h;simp at h
  | some x =>
    cases e2:ys[i]? with
    | none=>rw [e1,e2] at h;simp at h
    | some y=>rw [e1,e2] at h;simp at h;exact ⟨x,y,rfl,rfl,h.symm⟩
theorem Wk.zip {xs ys:List Dat} (h:A1 p K tas τ [.dat (.tuple xs),.dat (.tuple ys)]) (hl:ys.length=xs.length):Wk p K (ydB K tas) τ (zaH xs ys):=fun W L σ H R r o q=>h W L σ H _ r o fun vs H1 ss e e1 o1 rv=>by
  subst e
  cases rv with
  | cons a t =>
    cases t with
    | cons b t =>
      cases t
      cases a with
      | tup h1 h2 =>
        cases b with
        | tup h3 h4 =>
          rename_i a1 x1 a2 x2
          refine ⟨a1,a2,rfl,⟨_,h1⟩,⟨_,h3⟩,q _ H1 e1 o1 fun W' H' ev n=>?_⟩
          have g1:=ev.tm _ _ _ h1
          have g3:=ev.tm _ _ _ h3
          have g2:=aY ev n h2
          have g4:=aY ev n h4
          have ll:(zaH xs ys).length=xs.length:=by unfold zaH;rw [List.length_zipWith,hl,Nat.min_self]
          refine ⟨⟨_,g1,by rw [g2.len,ll];exact Nat.le_refl _,_,g3⟩,fun i d hd=>?_⟩
          obtain ⟨x,y,ex,ey,rfl⟩:=zfT hd
          obtain ⟨vx,ux,zx⟩:=g2.get ex
          obtain ⟨vy,uy,zy⟩:=g4.get ey
          refine ⟨⟨_,_,vx,vy,g1,g3,ux,uy⟩,fun z H2 ⟨a,ha,e,q⟩=>?_⟩
          have:=q _ _ _ _ g1 g3 ux uy
          subst this e
          have s:=Same.new ha (.tup [vx,vy])
          have e:Ev (fun _=>False) H' (upd H' a (.tup [vx,vy])):=Ev.of s
          exact ⟨s,.tup (SqT.of zJ) (.cons (zx.ev e fun _ _ h=>h) (.cons (zy.ev e fun _ _ h=>h) .nil))⟩
theorem Gd.name {i:Nat} {d:Dat} (e:τ.set i (.dat d)=τ':=by rfl):Gd p K (yK i) d τ τ':=fun W L σ H v Q r z q=>by
 obtain ⟨L',l,r'⟩:=r.set (v:=v) (s:=.dat d) (.inr (.inl ⟨d,rfl,z⟩)) i
 rw [e] at r'
 exact q L' _ l r'
theorem aO {i j : Nat} {x y : Dat} (e : (τ.set i (.dat x)).set j (.dat y) = τ' := by rfl) : Gd p K (zxJ K 2 (zbV (yK i) (zbV (yK j) zyD))) (.tuple [x, y]) τ τ' := fun W L σ H v Q r z q => by
  cases z with
  | tup h1 h2 =>
    cases h2 with
    | cons za t =>
      cases t with
      | cons zb t =>
        cases t
        obtain ⟨L1,l1,r1⟩:=r.set (s:=.dat x) (.inr (.inl ⟨x,rfl,za⟩)) i
        obtain ⟨L2,l2,r2⟩:=r1.set (s:=.dat y) (.inr (.inl ⟨y,rfl,zb⟩)) j
        rw [e] at r2
        exact ⟨_,_,rfl,h1,rfl,_,_,rfl,_,_,rfl,rfl,q L2 _ (fun a h=>l1 a (l2 a h)) r2⟩
theorem ak {g:TG} {tb:TS} (hw:Wk p K wi τ ds) (I:Nat->List Sl->Prop) (h0:I 0 τ) (turn:∀ i d τ1,ds[i]?=some d->I i τ1->∃ τ2,Gd p K g d τ1 τ2/\S p K tb τ2 (I (i+1)) rt) (done:∀ τ1,I ds.length τ1->nx τ1):S p K (ydS wi g tb) τ nx rt:=fun W L σ H D r o q1 q2=>by
 refine hw W L σ H _ r o fun J H1 e1 o1 jd=>?_
 have ew:=e1.ofP o
 have hn:∀ a,H1 a=none->H a=none:=fun a ha=>ew.none o1.al ha
 refine ⟨fun i m σ' H'=>m=ds.length - i/\i<=ds.length/\∃ (W':Addr->Prop) (L':List Addr) (τ1:List Sl),I i τ1/\Ev W H1 H'/\Ok p W' H'/\(∀ a,W a->∃ ys,H' a=some ys)/\(∀ a,W' a->W a\/H1 a=none)/\(∀ a,a∈L'->a∈L\/H1 a=none)/\Rs p W' K H' L' σ' τ1,
  ⟨ds.length,by omega,Nat.zero_le _,W,L,τ,h0,aE,o1,o1.al,fun _ h=>.inl h,fun _ h=>.inl h,r.ev e1 o.pw⟩,?_⟩
 rintro i m σ' H' ⟨rfl,hi,W',L',τ1,hI,ev,ok,al,nn,ll,rs⟩
 obtain ⟨stop,each⟩:=jd W' H' ev nn
 by_cases hlt:i<ds.length
 ·have hd:ds[i]?=some ds[i]:=by simp [hlt]
  obtain ⟨go,yl⟩:=each i _ hd
  obtain ⟨τ2,hg,hb⟩:=turn i _ τ1 hd hI
  refine .inr ⟨go,fun σ'' H''=>ds.length - (i+1)=ds.length - (i+1)/\i+1<=ds.length/\∃ (W':Addr->Prop) (L':List Addr) (τ1:List Sl),I (i+1) τ1/\Ev W H1 H''/\Ok p W' H''/\(∀ a,W a->∃ ys,H'' a=some ys)/\(∀ a,W' a->W a\/H1 a=none)/\(∀ a,a∈L'->a∈L\/H1 a=none)/\Rs p W' K H'' L' σ'' τ1,fun σ'' H'' h=>⟨_,by omega,h⟩,fun x H2 y=>?_⟩
  obtain ⟨s2,z2⟩:=yl x H2 y
  have e2:Ev (Pp p) H' H2:=Ev.of s2
  have o2:=ok.same s2
  have ev2:Ev W H1 H2:=ev.trans (Ev.of s2)
  have al2:∀ a,W a->∃ ys,H2 a=some ys:=fun a ha=>let ⟨ys,h⟩:=al a ha;⟨ys,s2 _ _ h⟩
  have hn2:∀ a,H2 a=none->H1 a=none:=fun a ha=>ev2.none al2 ha
  refine hg W' L' σ' H2 x _ (rs.ev e2 ok.pw) z2 fun L3 σ3 l3 rs3=>?_
  refine hb W' L3 σ3 H2 _ rs3 o2 (fun W4 L4 σ4 H4 τ4 c e4 o4 w4 n4 l4 r4=>?_) (fun W4 H4 v s c e4 o4 w4 n4 rv=>?_)
  ·exact ⟨rfl,hlt,W4,L4,τ4,c,ev2.chain e4 nn,o4,wF al2 w4 e4,fun a ha=>(n4 a ha).elim (nn a) fun z=>.inr (hn2 a z),fun a ha=>(l4 a ha).elim (fun z=>ll a (l3 a z)) fun z=>.inr (hn2 a z),r4⟩
  ·have nn':∀ a,W' a->W a\/H a=none:=fun a ha=>(nn a ha).imp id (hn a)
   refine q2 W4 H4 v s c ((ew.trans ev2).chain e4 nn') o4 (wF al2 w4 e4) (fun a ha=>(n4 a ha).elim (nn' a) fun z=>.inr (hn a (hn2 a z))) (rv.base (fun a z=>hn a (hn2 a z)) fun a ha=>?_)
   exact (ll a (l3 a ha)).imp id (hn a)
 ·have e:i=ds.length:=by omega
  subst e
  exact .inl ⟨stop,q1 W' L' σ' H' τ1 (done τ1 hI) (ew.trans ev) ok al (fun a ha=>(nn a ha).imp id (hn a)) (fun a ha=>(ll a ha).imp id (hn a)) rs⟩
theorem S.while {tc:TT} {tb:TS} (I:Nat->List Sl->Prop) {m0:Nat} (h0:I m0 τ) (turn:∀ m τ1,I m τ1->∃ C:Bool->Prop,T p K tc τ1 C/\(C true->S p K tb τ1 (fun τ2=>∃ m',m'<m/\I m' τ2) rt)/\(C false->nx τ1)):S p K (zeS tc tb) τ nx rt:=fun W L σ H D r o q1 q2=>by
  refine ⟨fun m σ' H'=>∃ (W':Addr->Prop) (L':List Addr) (τ1:List Sl),I m τ1/\Ev W H H'/\Ok p W' H'/\(∀ a,W a->∃ ys,H' a=some ys)/\(∀ a,W' a->W a\/H a=none)/\(∀ a,a∈L'->a∈L\/H a=none)/\Rs p W' K H' L' σ' τ1,
    ⟨m0,W,L,τ,h0,aE,o,o.al,fun _ h=>.inl h,fun _ h=>.inl h,r⟩,?_⟩
  rintro m σ' H' ⟨W',L',τ1,hI,ev,ok,al,nn,ll,rs⟩
  obtain ⟨C,ht,hb,hx⟩:=turn m τ1 hI
  refine ht W' L' σ' H' _ rs ok fun b H2 c e2 o2=>?_
  have e2w:=e2.ofP ok
  have hn0:∀ a,H2 a=none->H' a=none:=fun a ha=>e2w.none o2.al ha
  have ev2:Ev W H H2:=ev.chain e2w nn
  have al2:∀ a,W a->∃ ys,H2 a=some ys:=wF al o2.al e2w
  have hn2:∀ a,H2 a=none->H a=none:=fun a ha=>ev2.none al2 ha
  have rs2:=rs.ev e2 ok.pw
  cases b with
  | false=>rw [if_neg (by decide)];exact q1 W' L' σ' H2 τ1 (hx c) ev2 o2 al2 nn ll rs2
  | true =>
    rw [if_pos rfl]
    refine ⟨fun σ4 H4=>∃ m',m'<m/\∃ (W':Addr->Prop) (L':List Addr) (τ1:List Sl),I m' τ1/\Ev W H H4/\Ok p W' H4/\(∀ a,W a->∃ ys,H4 a=some ys)/\(∀ a,W' a->W a\/H a=none)/\(∀ a,a∈L'->a∈L\/H a=none)/\Rs p W' K H4 L' σ4 τ1,fun σ4 H4 h=>h,?_⟩
    refine hb c W' L' σ' H2 _ rs2 o2 (fun W4 L4 σ4 H4 τ4 c e4 o4 w4 n4 l4 r4=>?_) (fun W4 H4 v s c e4 o4 w4 n4 rv=>?_)
    . obtain ⟨m',hm,hI'⟩:=c
      exact ⟨m',hm,W4,L4,τ4,hI',ev2.chain e4 nn,o4,wF al2 w4 e4,fun a ha=>(n4 a ha).elim (nn a) fun z=>.inr (hn2 a z),fun a ha=>(l4 a ha).elim (ll a) fun z=>.inr (hn2 a z),r4⟩
    . exact q2 W4 H4 v s c (ev2.chain e4 nn) o4 (wF al2 w4 e4) (fun a ha=>(n4 a ha).elim (nn a) fun z=>.inr (hn2 a z)) (rv.base hn2 ll)
end
end D
end
section
namespace D
open PySem L2 K0
open PySem.W (Dat)
section
variable {p:Option Addr} {K:PySem.W.Frag} {W:Addr->Prop} {L:List Addr} {σ:St} {H H1 H2:Hp} {τ:List Sl} {te:TE} {v:V} {s:Sl} {nx:List Sl->Prop} {t u:TS} {ds:List Dat} {wi:TI} {tt:TT}
def Gc (p:Option Addr) (K:PySem.W.Frag) (no:Nat) (g:TG) (d:Dat) (own:List Sl):Prop:=∀ (W:Addr->Prop) (L:List Addr) (ρ σ:St) (τ:List Sl) (H:Hp) (v:V) (Q:St->Hp->Prop),ρ.length=no->Rs p W K H L σ τ->Dz (fun a=>¬ W a) K H v d->(∀ ρ',ρ'.length=no->Rs p W K H L (ρ' ++ σ) (own ++ τ)->Q (ρ' ++ σ) H)->g v (ρ ++ σ) H Q
theorem Gc.name {d:Dat}:Gc p K 1 (yK 0) d [.dat d]:=fun W L ρ σ τ H v Q l r z q=>by
 match ρ,l with
 | [o],_=>exact q [some v] rfl (.dat z r)
theorem Gc.pair {x y:Dat}:Gc p K 2 (zfR K) (.tuple [x,y]) [.dat x,.dat y]:=fun W L ρ σ τ H v Q l r z q=>by
  match ρ,l with
  | [o, o'], _ =>
    cases z with
    | tup h1 h2 =>
      cases h2 with
      | cons za t =>
        cases t with
        | cons zb t =>
          cases t
          exact ⟨_,_,rfl,h1,rfl,_,_,rfl,_,_,rfl,rfl,q [some _,some _] rfl (.dat za (.dat zb r))⟩
theorem Rs.evx {X:Addr->Prop} {H':Hp} (r:Rs p W K H L σ τ) (e:Ev X H H') (nx:∀ a,¬ W a->¬ X a) (no:∀ a o,H a=some o->p≠some a->¬ X a):Rs p W K H' L σ τ:=by
 induction r with
 | nil=>exact .nil
 | un _ ih=>exact .un ih
 | dat h _ ih=>exact .dat (h.ev e nx) ih
 | pu h _ ih=>exact .pu h ih
 | own h1 h2 h3 h4 h5 _ ih=>exact .own h1 h2 h3 (e.keep _ _ (no _ _ h4 h2) h4) (h5.ev e nx) ih
 | dt h1 h2 h3 h4 _ ih=>exact .dt h1 h2 h3 (Own.ev _ h4 e nx fun b o hb h=>e.keep _ _ (no _ _ h (h2 b hb)) h) ih
theorem E.comp {no:Nat} {g:TG} (hw:Wk p K wi τ ds) (own:Dat->List Sl) (hg:∀ d,d∈ds->Gc p K no g d (own d)) (kp:Dat->Bool) (Cd:Dat->Dat->Prop) (ht:∀ d,d∈ds->T1 p K tt (own d ++ τ) (kp d))
  (turn:∀ d,d∈ds->kp d=true->E p K te (own d ++ τ) (fun s=>∃ e,s = .dat e/\Cd d e)) (hz:ds.length<=sizeLine) :
  E p K (wK no wi g tt te) τ (fun s=>∃ es,s = .own es/\es.length=(ds.filter kp).length/\∀ (i:Nat) (e:Dat),es[i]?=some e->∃ d,(ds.filter kp)[i]?=some d/\Cd d e):=fun W L σ H Q r o q=>by
 refine hw W L σ H _ r o fun J H1 e1 o1 jd=>?_
 intro D hD
 have nD:=o1.fresh hD
 have pD:=o1.np hD
 have r1:=r.ev e1 o.pw
 have r1':Rs p (fun b=>W b\/b=D) K H1 L σ τ:=r1.wide (fun _ h=>.inl h) fun b hb nb=>(hb.resolve_left nb) ▸ hD
 refine ⟨fun i m σ' H'=>m=ds.length - i/\i<=ds.length/\(∃ ρ,ρ.length=no/\σ'=ρ ++ σ)/\Ev (fun a=>Pp p a\/a=D) H1 H'/\(∀ q,p=some q->Pu H' q)/\∃ (vs:List V) (es:List Dat),H' D=some (.lst vs)/\Dzs (fun b=>¬ (W b\/b=D)) K H' vs es/\es.length=((ds.take i).filter kp).length/\∀ (j:Nat) (e:Dat),es[j]?=some e->∃ d,((ds.take i).filter kp)[j]?=some d/\Cd d e,
  ⟨ds.length,by omega,Nat.zero_le _,⟨List.replicate no none,by simp,rfl⟩,⟨fun b u nb h=>by rw [zP (fun z=>nb (.inr z))];exact h,(Same.new hD _).tm⟩,fun q hq=>(o1.pu q hq).1.same (Same.new hD _),[],[],zJ,.nil,by simp,fun j e h=>by simp at h⟩,?_⟩
 rintro i m σ' H' ⟨rfl,hi,⟨ρ,lρ,rfl⟩,ev,pu,vs,es,hv,zv,le,hes⟩
 have evW:Ev W H1 H':=⟨fun b u nb h=>ev.keep b u (fun z=>z.elim (fun y=>nb (o1.pw b y)) fun y=>by rw [y] at h;rw [hD] at h;cases h) h,ev.tm⟩
 have ok':Ok p (fun b=>W b\/b=D) H':=⟨fun q hq=>⟨pu q hq,.inl (o1.pw q hq)⟩,fun b hb=>by
  by_cases z:b=D
  ·subst z;exact ⟨_,hv⟩
  ·by_cases y:p=some b
   ·obtain ⟨x1,x2,h⟩:=pu b y;exact ⟨_,h⟩
   ·obtain ⟨ys,h⟩:=o1.al b (hb.resolve_right z)
    exact ⟨ys,ev.keep _ _ (fun w=>w.elim y z) h⟩⟩
 have evD:Ev (fun b=>W b\/b=D) H1 H':=evW.mono fun _ h=>.inl h
 have rs':Rs p (fun b=>W b\/b=D) K H' L σ τ:=by
  refine Rs.evx r1' ev (fun a ha z=>?_) fun a u ha np z=>?_
  ·rcases z with z|z
   ·exact ha (.inl (o1.pw a z))
   ·exact ha (.inr z)
  ·rcases z with z|z
   ·exact np z
   ·rw [z,hD] at ha;cases ha
 obtain ⟨stop,each⟩:=jd (fun b=>W b\/b=D) H' evW fun a ha=>ha.imp id fun z=>by rw [z];exact hD
 have o1f:H D=none:=o1.back e1 hD
 by_cases hlt:i<ds.length
 ·have hd : ds[i]? = some ds[i] := by simp [hlt]
  have hm:ds[i]∈ds:=List.getElem_mem hlt
  obtain ⟨go,yl⟩:=each i _ hd
  have tk:ds.take (i+1)=ds.take i++[ds[i]]:=by rw [List.take_add_one];simp [hlt]
  refine .inr ⟨go,fun x H2 y=>?_⟩
  obtain ⟨s2,z2⟩:=yl x H2 y
  have ok2:=ok'.same s2
  refine hg _ hm _ L ρ σ τ H2 x _ lρ (rs'.ev (Ev.of s2) ok'.pw) z2 fun ρ' lρ' rs2=>?_
  refine ht _ hm _ L _ H2 _ rs2 ok2 fun b H4 eb e4 o4=>?_
  have pvH:Ev (fun a=>Pp p a\/a=D) H' H4:=(Ev.of s2).trans (e4.mono fun _ h=>.inl h)
  have hv4:H4 D=some (.lst vs):=e4.keep _ _ pD (s2 _ _ hv)
  have zv4:Dzs (fun b=>¬ (W b\/b=D)) K H4 vs es:=(zv.ev (W:=fun _=>False) (Ev.of s2) fun _ _ h=>h).ev e4 fun a ha z=>ha (.inl (o1.pw a z))
  subst eb
  by_cases hk:kp ds[i]=true
  ·rw [if_pos hk]
   refine turn _ hm hk _ L _ H4 _ (rs2.ev e4 ok2.pw) o4 fun v H5 s c e5 o5 rv=>?_
   obtain ⟨e,rfl,ce⟩:=c
   have hv5:H5 D=some (.lst vs):=e5.keep _ _ pD hv4
   have zv5:=zv4.ev e5 fun a ha z=>ha (.inl (o1.pw a z))
   have ll:vs.length<=i:=by rw [zv.len,le];exact Nat.le_trans (List.length_filter_le _ _) (by rw [List.length_take];omega)
   have evu:Ev (fun b=>b=D) H5 (upd H5 D (.lst (vs++[v]))):=⟨fun b o n h=>by rw [zP n];exact h,Tm.lst hv5 _⟩
   refine ⟨vs,hv5,by omega,ds.length - (i+1),by omega,rfl,hlt,⟨ρ',lρ',rfl⟩,(ev.trans (pvH.trans (e5.mono fun _ h=>.inl h))).trans (evu.mono fun _ h=>.inr h),fun q hq=>?_,vs++[v],es++[e],zJ,(zv5.app (.cons rv .nil)).ev evu fun b hb z=>hb (.inr z),?_,fun j f hj=>?_⟩
   ·obtain ⟨x1,x2,h⟩:=(o5.pu q hq).1
    exact ⟨x1,x2,by rw [zP (fun z=>pD (by rw [<- z];exact hq))];exact h⟩
   ·rw [tk,List.filter_append,List.length_append,List.length_append,le];simp [hk]
   ·rw [tk,List.filter_append]
    have h1:[ds[i]].filter kp=[ds[i]]:=by simp [hk]
    rw [h1]
    by_cases hj2:j<es.length
    ·rw [List.getElem?_append_left hj2] at hj
     rw [List.getElem?_append_left (by rw [<- le];exact hj2)]
     exact hes j f hj
    ·rw [List.getElem?_append_right (by omega)] at hj
     have ej:j - es.length=0:=by
      have:=(List.getElem?_eq_some_iff.mp hj).1
      simp at this;omega
     rw [ej] at hj
     cases hj
     rw [List.getElem?_append_right (by omega), <- le,ej]
     exact ⟨_,rfl,ce⟩
  ·rw [if_neg hk]
   refine ⟨ds.length - (i+1),by omega,rfl,hlt,⟨ρ',lρ',rfl⟩,ev.trans pvH,fun q hq=>(o4.pu q hq).1,vs,es,hv4,zv4,?_,fun j f hj=>?_⟩
   ·rw [tk,List.filter_append,List.length_append,le];simp [hk]
   ·obtain ⟨d,h1,h2⟩:=hes j f hj
    rw [tk,List.filter_append]
    have h3:[ds[i]].filter kp=[]:=by simp [hk]
    rw [h3,List.append_nil]
    exact ⟨d,h1,h2⟩
 ·have e:i=ds.length:=by omega
  subst e
  rw [List.take_length] at le hes
  have evP:Ev (Pp p) H1 H':=⟨fun b u nb h=>ev.keep b u (fun z=>z.elim nb fun y=>by rw [y] at h;rw [hD] at h;cases h) h,ev.tm⟩
  refine .inl ⟨stop,q _ H' _ ⟨es,rfl,le,hes⟩ (e1.trans evP) (o1.ev evP pu) ⟨D,vs,rfl,o1f,hv,zv.mono fun a ha z=>ha (.inl z)⟩⟩
end
end D
end
section
namespace D
open PySem L2 K0
open PySem.W (Dat)
section
variable {p:Option Addr} {K:PySem.W.Frag} {W:Addr->Prop} {L:List Addr} {σ:St} {H H0 H1 H2:Hp} {τ τ':List Sl} {ta tb te:TE} {tas:TA} {v:V} {s:Sl} {t:TS} {ds:List Dat} {wi:TI} {tt:TT}
theorem T1.all:T1 p K vB τ true:=fun W L σ H Q r o q=>q true H rfl aE o
theorem zgE (ds:List Dat):ds.filter (fun _=>true)=ds:=List.filter_eq_self.mpr fun _ _=>rfl
theorem cE {Cd:Dat->Dat->Prop} (hw:Wk p K wi τ ds) (turn:∀ d,d∈ds->E p K te (.dat d :: τ) (fun s=>∃ e,s = .dat e/\Cd d e)) (hz:ds.length<=sizeLine) :
  E p K (wK 1 wi (yK 0) vB te) τ (fun s=>∃ es,s = .own es/\es.length=ds.length/\∀ (i:Nat) (e:Dat),es[i]?=some e->∃ d,ds[i]?=some d/\Cd d e):=by
 have h:=E.comp (tt:=vB) hw (fun d=>[.dat d]) (fun d _=>Gc.name) (fun _=>true) Cd (fun _ _=>T1.all) (fun d hd _=>turn d hd) hz
 rw [zgE] at h
 exact h
theorem ziK {f:Dat->Dat} {es:List Dat} (l:es.length=ds.length) (h:∀ (i:Nat) (e:Dat),es[i]?=some e->∃ d,ds[i]?=some d/\f d=e):es=ds.map f:=by
  apply List.ext_getElem?
  intro i
  rw [List.getElem?_map]
  cases q:es[i]? with
  | none =>
    have:=List.getElem?_eq_none_iff.mp q
    rw [List.getElem?_eq_none (by omega)];rfl
  | some e=>obtain ⟨d,h1,h2⟩:=h i e q;rw [h1, <- h2];rfl
theorem aU {f:Dat->Dat} (hw:Wk p K wi τ ds) (turn:∀ d,d∈ds->E1 p K te (.dat d :: τ) (.dat (f d))) (hz:ds.length<=sizeLine):E1 p K (wK 1 wi (yK 0) vB te) τ (.own (ds.map f)):=by
 refine E.mono (cE (Cd:=fun d e=>f d=e) hw (fun d hd=>E.mono (turn d hd) fun s hs=>⟨_,hs.symm,rfl⟩) hz) fun s hs=>?_
 obtain ⟨es,rfl,l,h⟩:=hs
 rw [ziK l h]
theorem E1.compF {f:Dat->Dat} {kp:Dat->Bool} (hw:Wk p K wi τ ds) (ht:∀ d,d∈ds->T1 p K tt (.dat d :: τ) (kp d)) (turn:∀ d,d∈ds->kp d=true->E1 p K te (.dat d :: τ) (.dat (f d))) (hz:ds.length<=sizeLine):E1 p K (wK 1 wi (yK 0) tt te) τ (.own ((ds.filter kp).map f)):=by
 refine E.mono (E.comp hw (fun d=>[.dat d]) (fun d _=>Gc.name) kp (fun d e=>f d=e) ht (fun d hd hk=>E.mono (turn d hd hk) fun s hs=>⟨_,hs.symm,rfl⟩) hz) fun s hs=>?_
 obtain ⟨es,rfl,l,h⟩:=hs
 rw [ziK l h]
def p1:Dat->Dat
 | .tuple [x,_]=>x
 | d=>d
def p2:Dat->Dat
 | .tuple [_,y]=>y
 | d=>d
theorem bS {r:List V->Hp->VK->Prop} {a c:Sl} (ha:A1 p K tas τ [a]) (hr:∀ (W:Addr->Prop) (H0 H:Hp) (x:V) (Q:VK),Ok p W H0->Ok p W H->Ev (Pp p) H0 H->Rv p W K H0 H x a->(∀ v H',Ev (Pp p) H H'->Ok p W H'->Rv p W K H0 H' v c->Q v H')->r [x] H Q):E1 p K (tCB r tas) τ c:=fun W L σ H Q rs o q =>
  ha W L σ H _ rs o fun vs H1 ss e e1 o1 rv=>by
    subst e
    cases rv with
    | cons a t =>
      cases t
      exact hr W H H1 _ _ o o1 e1 a fun v H' e2 o2 rv=>q v H' _ rfl (e1.trans e2) o2 rv
theorem aT {ds:List Dat} (ha:A1 p K tas τ [.vw ds]):E1 p K (tCB (fun xs H Q=>∃ p ys,xs=[.ref p]/\((SqL K H p ys/\∀ l,H l=none->Q (.ref l) (upd H l (.tup ys)))\/(SqT K H p ys/\Q (.ref p) H))) tas) τ (.dat (.tuple ds)) :=
 bS ha fun W H0 H x Q o0 o _ r q=>by
  obtain ⟨a,vs,rfl,h1,h2⟩:=r
  refine ⟨a,vs,rfl,.inl ⟨h1.sq,fun l hl=>?_⟩⟩
  have s:=Same.new hl (.tup vs)
  exact q _ _ (Ev.of s) (o.same s) (.tup (SqT.of zJ) (h2.ev (W:=Pp p) (Ev.of s) o.nw))
theorem E1.lenL {ds:List Dat} (ha:A1 p K tas τ [.vw ds]):E1 p K (tCB (fun xs H Q=>∃ p ys,xs=[.ref p]/\(SqL K H p ys\/SqT K H p ys)/\Q (.int ys.length) H) tas) τ (.dat (.int ds.length)) :=
 bS ha fun W H0 H x Q o0 o _ r q=>by
  obtain ⟨a,vs,rfl,h1,h2⟩:=r
  refine ⟨a,vs,rfl,.inl h1.sq,?_⟩
  rw [h2.len]
  exact q _ H aE o (.int _)
def zsX {α:Type} (xs:List α) (lo hi:Option Int):List α:=(xs.drop (HT.sIx xs.length 0 lo)).take (HT.sIx xs.length xs.length hi - HT.sIx xs.length 0 lo)
def O1 (p:Option Addr) (K:PySem.W.Frag) (to:TO) (τ:List Sl) (i:Option Int):Prop:=∀ (W:Addr->Prop) (L:List Addr) (σ:St) (H:Hp) (Q:Option Int->Hp->Prop),Rs p W K H L σ τ->Ok p W H->(∀ H',Ev (Pp p) H H'->Ok p W H'->Q i H')->to σ H Q
theorem O1.none:O1 p K zeH τ Option.none:=fun W L σ H Q r o q=>q H aE o
theorem bA {i:Int} (h:E1 p K te τ (.dat (.int i))):O1 p K (zqJ te) τ (Option.some i):=fun W L σ H Q r o q=>h W L σ H _ r o fun v H1 s e e1 o1 rv=>by
 subst e;cases rv.int_inv;exact ⟨i,rfl,q H1 e1 o1⟩
theorem ycO {N:Addr->Prop} {vs:List V} {ds:List Dat} {lo hi:Option Int} (h:Dzs N K H vs ds):Dzs N K H (zaO vs lo hi) (zsX ds lo hi):=by
 unfold zaO zsX
 rw [h.len]
 exact (h.drop _).take _
theorem E1.slT {ds:List Dat} {lo hi:Option Int} {tl th:TO} (h:E1 p K te τ (.dat (.tuple ds))) (hl:O1 p K tl τ lo) (hh:O1 p K th τ hi) (hn:¬ (HT.sIx ds.length 0 lo=0/\HT.sIx ds.length ds.length hi=ds.length)):E1 p K (tSl (yeU K) te tl th) τ (.dat (.tuple (zsX ds lo hi))):=fun W L σ H Q r o q =>
  h W L σ H _ r o fun v H1 s e e1 o1 rv => by
    subst e
    refine hl W L σ H1 _ (r.ev e1 o.pw) o1 fun H2 e2 o2=>hh W L σ H2 _ ((r.ev e1 o.pw).ev e2 o.pw) o2 fun H3 e3 o3=>?_
    cases (rv.ev (e2.trans e3) o1 o) with
    | tup h1 h2 =>
      rename_i a vs
      refine ⟨a,vs,rfl,h1,by rw [h2.len];exact hn,fun l hl=>?_⟩
      have s:=Same.new hl (.tup (zaO vs lo hi))
      exact q _ _ _ rfl ((e1.trans (e2.trans e3)).trans (Ev.of s)) (o3.same s) (.tup (SqT.of zJ) ((ycO h2).ev (W:=Pp p) (Ev.of s) o3.nw))
theorem cD {xs ys:List Dat} (ha:E1 p K ta τ (.dat (.tuple xs))) (hb:E1 p K tb τ (.dat (.tuple ys))) (hz:xs.length+ys.length<=sizeLine):E1 p K (wO (zzB K) ta tb) τ (.dat (.tuple (xs++ys))) :=
  aL ha hb fun W H0 H x y Q o0 o r1 r2 q=>by
    cases r1 with
    | tup h1 h2 =>
      cases r2 with
      | tup h3 h4 =>
        refine ⟨_,_,_,_,rfl,rfl,h1,h3,by rw [h2.len,h4.len];exact hz,fun a H' s h=>?_⟩
        exact q _ H' (Ev.of s) (o.same s) (.tup h ((h2.app h4).ev (W:=Pp p) (Ev.of s) o.nw))
end
def yT (K:PySem.W.Frag) (R:List Dat->Dat->Prop):Sp:=fun vs H Q _=>∃ ds d,Dzs (fun _=>True) K H vs ds/\R ds d/\∀ v H',Same H H'->Dz (fun a=>H a=none) K H' v d->Q v H'
def spU (K:PySem.W.Frag) (R:List Dat->(Dat->Prop)->Prop):Sp:=fun vs H Q _=>∃ q us ds C,vs = .ref q::us/\Dzs (fun a=>a≠q) K H us ds/\Pu H q/\R ds C/\∀ v H' d,C d->Ev (fun a=>a=q) H H'->Pu H' q->Dz (fun a=>H a=none) K H' v d->Q v H'
section
variable {p:Option Addr} {K:PySem.W.Frag} {W:Addr->Prop} {L:List Addr} {σ:St} {H H0 H1 H2:Hp} {τ τ':List Sl} {ta tb te:TE} {tas:TA} {v:V} {s:Sl} {t:TS} {ds:List Dat} {E':XK}
def tY:List Sl->Option (List Dat)
  | []=>some []
  | s::r=>match tG s,tY r with
    | some d,some ds=>some (d::ds)
    | _,_=>none
theorem Rvs.dz {ss:List Sl} {vs:List V} (h:Rvs p W K H0 H vs ss):∀ {ds:List Dat},tY ss=some ds->Dzs (fun _=>True) K H vs ds:=by
  induction h with
  | nil=>intro ds e;cases e;exact .nil
  | cons a t ih =>
    rename_i v s vs ss
    intro ds e
    unfold tY at e
    cases e1:tG s with
    | none=>rw [e1] at e;simp at e
    | some d =>
      cases e2:tY ss with
      | none=>rw [e1,e2] at e;simp at e
      | some r =>
        rw [e1,e2] at e;cases e
        refine .cons ?_ (ih e2)
        cases s with
        | un=>cases e1
        | pu=>cases e1
        | dat d'=>cases e1;exact Dz.mono (fun _ _=>trivial) a
        | own ds=>cases e1;obtain ⟨a,vs,rfl,_,h2,h3⟩:=a;exact .lst (.inl ⟨trivial,.inl h2⟩) (h3.mono fun _ _=>trivial)
        | dt ds=>cases e1
        | vw ds=>cases e1;obtain ⟨a,vs,rfl,h2,h3⟩:=a;exact .lst (h2.elim (fun z=>.inl ⟨trivial,z.2⟩) .inr) (h3.mono fun _ _=>trivial)
theorem E1.call {R:List Dat->Dat->Prop} {ss:List Sl} {ds:List Dat} {d:Dat} (ha:A1 p K tas τ ss) (hr:R ds d) (hd:tY ss=some ds:=by rfl):E1 p K (yY (yT K R) [] E' tas) τ (.dat d):=fun W L σ H Q rs o q=>ha W L σ H _ rs o fun vs H1 ss e e1 o1 rv=>by
 subst e
 rw [List.append_nil]
 exact ⟨ds,d,rv.dz hd,hr,fun v H' s z=>q v H' _ rfl (e1.trans (Ev.of s)) (o1.same s) (z.mono fun a ha=>o1.fresh ha)⟩
theorem Rvs.dzp {q:Addr} {vs:List V} {ds:List Dat} (h:Rvs (some q) W K H0 H vs (ds.map .dat)) (w:W q):Dzs (fun a=>a≠q) K H vs ds:=h.dats.mono fun a n z=>n (by rw [z];exact w)
theorem bJ {R:List Dat->(Dat->Prop)->Prop} {ds:List Dat} {C:Dat->Prop} (ha:A1 p K tas τ (.pu::ds.map .dat)) (hr:R ds C):E p K (yY (spU K R) [] E' tas) τ (fun s=>∃ d,s = .dat d/\C d):=fun W L σ H Q rs o q=>ha W L σ H _ rs o fun vs H1 ss e e1 o1 rv=>by
  subst e
  rw [List.append_nil]
  cases rv with
  | cons a t =>
    obtain ⟨q0,rfl,rfl⟩:=a
    have w:=o1.pw q0 rfl
    refine ⟨q0,_,ds,C,rfl,Rvs.dzp t w,(o1.pu q0 rfl).1,hr,fun v H' d c ev pu z=>?_⟩
    have e2:Ev (Pp (some q0)) H1 H':=ev.mono fun a h=>by rw [h];rfl
    exact q v H' _ ⟨d,rfl,c⟩ (e1.trans e2) (o1.ev e2 fun q hq=>by cases hq;exact pu) (z.mono fun a ha=>o1.fresh ha)
def ztP (d:Dat):Sl->Prop
 | .dat e=>d=e/\tF d=true
 | .own ds=>d = .list ds/\xR ds=true
 | _=>False
theorem vX {N:Addr->Prop}:∀ {vs:List V} {ds:List Dat} (n:Nat),Dzs N K H vs ds->(∀ a,N a->¬ W a)->Rs p W K H [] (vs.map some++List.replicate n none) (ds.map .dat++List.replicate n .un)
  | _,_,0,.nil,_=>.nil
  | _,_,n+1,.nil,h=>by
    have:=vX n (Dzs.nil (N:=N) (K:=K) (H:=H)) h
    rw [List.replicate_succ,List.replicate_succ]
    exact .un this
  | _,_,n,.cons a r,h=>.dat (a.mono h) (vX n r h)
variable {P:Program} {w:World} {mg:Str->Option Value} {base:Heap}
theorem jM {x qual:Str} {st:Stmt} {f:Addr} {fd:FuncData} {N ps:List Str} {k:Nat} {R:List Dat->Dat->Prop} (F:Fun K x qual st f fd) (S0:FnScope N ps (zI st)) (len:∀ ds d,R ds d->ds.length=ps.length)
    (body:∀ (cdv:Value) (A:Around) (outer:List Env) (s:Shared) (H:Hp) (E:XK),Room k (A.deeper (PyProof.Rows.envOfC qual (zI st) s.heap.objs.size f cdv)) ->
      ∃ t,ZSs (zaN zW P w K mg base N qual (zI st) f cdv A outer s H E).nox (xT st) t/\∀ ds d,R ds d->S none K t (ds.map .dat++List.replicate (N.length - ps.length) .un) (fun _=>d = .none) (ztP d)):FnOk P w K mg base zW (k+1) f fd ps (yT K R):=by
  refine F.okZ S0 (fun vs H Q E h=>?_) (fun cdv A outer s H vs Q E hr h=>?_)
  . obtain ⟨ds,d,z,r,_⟩:=h;rw [z.len];exact len ds d r
  . obtain ⟨ds,d,z,r,q⟩:=h
    obtain ⟨t,hz,hs⟩:=body cdv A outer s H E hr
    refine ⟨t,hz,?_⟩
    have l:vs.length=ps.length:=by rw [z.len];exact len ds d r
    have r0:Rs none (fun _=>False) K H [] (L2.start N vs) (ds.map .dat++List.replicate (N.length - ps.length) .un):=by
      unfold L2.start
      rw [l]
      exact vX _ z fun a _ h=>h
    have same:∀ {H':Hp},Ev (fun _=>False) H H'->Same H H':=fun e b o h=>e.keep b o (fun z=>z) h
    refine hs ds d r (fun _=>False) [] _ H _ r0 ⟨fun q h=>(by cases h),fun a h=>False.elim h⟩ (fun W' L' σ' H' τ' e ev o' al n l r'=>?_) (fun W' H' v s e ev o' al n rv=>?_)
    . subst e;exact q .non H' (same ev) .none
    . cases s with
      | dat d' =>
        obtain ⟨rfl,nl⟩:=e
        exact q v H' (same ev) (Dz.free rv nl)
      | own es =>
        obtain ⟨rfl,nl⟩:=e
        obtain ⟨a,vs,rfl,h1,h2,h3⟩:=rv
        exact q _ H' (same ev) (.lst (.inl ⟨h1.resolve_left (fun z=>by cases z),.inl h2⟩) (h3.free nl))
      | dt es=>cases e
      | un=>cases e
      | pu=>cases e
      | vw ds=>cases e
theorem okU {x qual:Str} {st:Stmt} {f:Addr} {fd:FuncData} {N ps:List Str} {k:Nat} {R:List Dat->(Dat->Prop)->Prop} (F:Fun K x qual st f fd) (S0:FnScope N ps (zI st)) (len:∀ ds C,R ds C->ds.length+1=ps.length)
    (body:∀ (cdv:Value) (A:Around) (outer:List Env) (s:Shared) (H:Hp) (E:XK),Room k (A.deeper (PyProof.Rows.envOfC qual (zI st) s.heap.objs.size f cdv)) ->
      ∃ t,ZSs (zaN zW P w K mg base N qual (zI st) f cdv A outer s H E).nox (xT st) t/\∀ (q:Addr) ds C,R ds C->S (some q) K t (.pu::ds.map .dat++List.replicate (N.length - ps.length) .un) (fun _=>False) (fun s=>∃ d,C d/\ztP d s)):FnOk P w K mg base zW (k+1) f fd ps (spU K R):=by
  refine F.okZ S0 (fun vs H Q E h=>?_) (fun cdv A outer s H vs Q E hr h=>?_)
  . obtain ⟨q,us,ds,C,rfl,z,_,r,_⟩:=h;rw [List.length_cons,z.len];exact len ds C r
  . obtain ⟨q0,us,ds,C,rfl,z,pu,r,q⟩:=h
    obtain ⟨t,hz,hs⟩:=body cdv A outer s H E hr
    refine ⟨t,hz,?_⟩
    have l:(V.ref q0::us).length=ps.length:=by rw [List.length_cons,z.len];exact len ds C r
    have r0:Rs (some q0) (fun a=>a=q0) K H [] (L2.start N (.ref q0::us)) (.pu::ds.map .dat++List.replicate (N.length - ps.length) .un):=by
      unfold L2.start
      rw [l]
      exact .pu rfl (vX _ z fun a h=>h)
    have o0:Ok (some q0) (fun a=>a=q0) H:=⟨fun q h=>(by cases h;exact ⟨pu,rfl⟩),fun a h=>by obtain ⟨x,y,e⟩:=pu;exact ⟨_,by rw [h];exact e⟩⟩
    refine hs q0 ds C r (fun a=>a=q0) [] _ H _ r0 o0 (fun W' L' σ' H' τ' e ev o' al n l r'=>e.elim) (fun W' H' v s e ev o' al n rv=>?_)
    obtain ⟨d,c,e⟩:=e
    cases s with
    | dat d' =>
      obtain ⟨rfl,nl⟩:=e
      exact q v H' _ c ev (o'.pu q0 rfl).1 (Dz.free rv nl)
    | own es =>
      obtain ⟨rfl,nl⟩:=e
      obtain ⟨a,vs,rfl,h1,h2,h3⟩:=rv
      exact q _ H' _ c ev (o'.pu q0 rfl).1 (.lst (.inl ⟨h1.resolve_left (fun z=>by cases z),.inl h2⟩) (h3.free nl))
    | dt es=>cases e
    | un=>cases e
    | pu=>cases e
    | vw ds=>cases e
end
end D
end
section
namespace L2
open PySem PySem.Spec PyProof.Rows
open PySem.W (Dat)
end L2
namespace D
open PySem L2 K0 Num
open PySem.W (Dat)
abbrev tI (ns:List Int):Dat:=.tuple (ns.map .int)
section
variable {p:Option Addr} {K:PySem.W.Frag} {W:Addr->Prop} {L:List Addr} {σ:St} {H H0 H1:Hp} {τ:List Sl} {ta tb te:TE} {tas:TA} {v:V} {s:Sl} {t:TS} {ds:List Dat} {E':XK}
def dOf:List Sl->Option (List Dat)
  | []=>some []
  | .dat d::r=>match dOf r with
    | some ds=>some (d::ds)
    | none=>none
  | _=>none
theorem ziT:∀ {ss:List Sl} {ds:List Dat},dOf ss=some ds->ss=ds.map .dat
  | [],ds,h=>by cases h;rfl
  | .dat d::r,ds,h=>by
    unfold dOf at h
    cases e:dOf r with
    | none=>rw [e] at h;cases h
    | some es=>rw [e] at h;cases h;rw [ziT e];rfl
  | .un::_,_,h=>by cases h
  | .pu::_,_,h=>by cases h
  | .own _::_,_,h=>by cases h
  | .dt _::_,_,h=>by cases h
  | .vw _::_,_,h=>by cases h
theorem aK {ss:List Sl} {ds:List Dat} (h:A1 p K tas τ ss) (e:dOf ss=some ds) (hz:ds.length<=sizeLine):E1 p K (zxA tas) τ (.dat (.tuple ds)):=E1.tup (ziT e ▸ h) hz
theorem bQ {ss:List Sl} {ds:List Dat} (h:A1 p K tas τ ss) (e:dOf ss=some ds) (hz:ds.length<=sizeLine):E1 p K (znO tas) τ (.own ds):=E1.lst (ziT e ▸ h) hz
theorem sV {N:Addr->Prop} {ns:List Int} {v:V} (h:Dz N K H v (tI ns)):∃ a,v = .ref a/\SqT K H a (ns.map V.int):=by
 cases h with
 | tup h1 h2=>have e:=h2.inv;subst e;exact ⟨_,rfl,h1⟩
theorem qI {N:Addr->Prop} {ns:List Int} {r:Addr} (h:H r=some (.tup (ns.map V.int))):Dz N K H (.ref r) (tI ns):=.tup (SqT.of h) (aw _)
theorem E.c1 {sp:Sp} {ns:List Int} {C:Sl->Prop} (ha:A1 p K tas τ [.dat (tI ns)]) (h:∀ (W:Addr->Prop) (H:Hp) (a:Addr) (Q:VK),SqT K H a (ns.map V.int)->(∀ v H' s,C s->Same H H'->(∀ W,Rv p W K H H' v s)->Q v H')->sp [.ref a] H Q E'):E p K (yY sp [] E' tas) τ C:=fun W L σ H Q rs o q=>ha W L σ H _ rs o fun vs H1 ss e e1 o1 rv=>by
  subst e
  cases rv with
  | cons a t =>
    cases t
    obtain ⟨r,rfl,z⟩:=sV a
    exact h W H1 r _ z fun v H' s c sm z=>q v H' s c (e1.trans (Ev.of sm)) (o1.same sm) ((z W).base e1 o1)
theorem E.c2 {sp:Sp} {ns ms:List Int} {C:Sl->Prop} (ha:A1 p K tas τ [.dat (tI ns),.dat (tI ms)]) (h:∀ (W:Addr->Prop) (H:Hp) (a b:Addr) (Q:VK),SqT K H a (ns.map V.int)->SqT K H b (ms.map V.int)->(∀ v H' s,C s->Same H H'->(∀ W,Rv p W K H H' v s)->Q v H')->sp [.ref a,.ref b] H Q E'):E p K (yY sp [] E' tas) τ C:=fun W L σ H Q rs o q=>ha W L σ H _ rs o fun vs H1 ss e e1 o1 rv=>by
  subst e
  cases rv with
  | cons a t =>
    cases t with
    | cons b t =>
      cases t
      obtain ⟨r,rfl,z⟩:=sV a
      obtain ⟨r2,rfl,z2⟩:=sV b
      exact h W H1 r r2 _ z z2 fun v H' s c sm z=>q v H' s c (e1.trans (Ev.of sm)) (o1.same sm) ((z W).base e1 o1)
theorem E1.cT {pre:List Int->Prop} {fn:List Int->List Int} {ns:List Int} (ha:A1 p K tas τ [.dat (tI ns)]) (hl:ns.length<=1000) (hp:pre ns):E1 p K (yY (spT K pre fn) [] E' tas) τ (.dat (tI (fn ns))) :=
 E.c1 ha fun W H a Q z q=>⟨a,ns,rfl,z,hl,hp,fun r H' s h=>q _ H' _ rfl s fun W=>qI h⟩
theorem E1.cCD {ns:List Int} (ha:A1 p K tas τ [.dat (tI ns)]):E1 p K (yY (zrS K) [] E' tas) τ (.dat (.int (gcdN ns))) :=
 E.c1 ha fun W H a Q z q=>⟨a,ns,rfl,z,q _ H _ rfl (aH _) fun W=>.int _⟩
theorem av {ns:List Int} (ha:A1 p K tas τ [.dat (tI ns)]) (hl:ns.length<=1000) (hs:Sm ns):E1 p K (yY (kX K) [] E' tas) τ (.dat (.int (wX ns ns))) :=
 E.c1 ha fun W H a Q z q=>⟨a,ns,rfl,z,hl,hs,fun H' s=>q _ H' _ rfl s fun W=>.int _⟩
theorem E1.cRest {ns:List Int} (ha:A1 p K tas τ [.dat (tI ns)]) (hl:ns.length=4) (nz:∃ n∈ns,n≠0) (bd:Bd (2 ^ 1000) ns):E1 p K (yY (zhX K) [] E' tas) τ (.dat (tI (rs ns))) :=
 E.c1 ha fun W H a Q z q=>⟨a,ns,rfl,z,hl,nz,bd,fun r H' s h=>q _ H' _ rfl s fun W=>qI h⟩
theorem E1.cAxis {ns:List Int} (ha:A1 p K tas τ [.dat (tI ns)]) (hl:ns.length=4) (nz:∃ n∈ns,n≠0) (bd:Bd (2 ^ 1000) ns):E1 p K (yY (ziB K) [] E' tas) τ (.dat (axD (ax ns))) :=
 E.c1 ha fun W H a Q z q=>⟨a,ns,rfl,z,hl,nz,bd,fun v H' s h=>q _ H' _ rfl s fun W=>by
  cases e:ax ns with
  | none=>rw [e] at h;cases (show v = .non from h);exact .none
  | some l=>rw [e] at h;obtain ⟨r,rfl,h⟩:=h;exact qI h⟩
theorem ap {k l:Int} (ha:A1 p K tas τ [.dat (tI [k,l])]) (nz:∃ n∈[l,k],n≠0) (sm:Sm [l,k]):E1 p K (yY (zbP K) [] E' tas) τ (.dat (tI (ps k l))) :=
 E.c1 ha fun W H a Q z q=>⟨a,k,l,rfl,z,nz,sm,fun r H' s h=>q _ H' _ rfl s fun W=>qI h⟩
theorem E1.c22 {fn:List Int->List Int->List Int} {ns ms:List Int} (ha:A1 p K tas τ [.dat (tI ns),.dat (tI ms)]) (l1:ns.length=4) (l2:ms.length=4) (s1:Sm ns) (s2:Sm ms):E1 p K (yY (sp2 K fn) [] E' tas) τ (.dat (tI (fn ns ms))) :=
 E.c2 ha fun W H a b Q z z2 q=>⟨a,b,ns,ms,rfl,z,z2,l1,l2,s1,s2,fun r H' s h=>q _ H' _ rfl s fun W=>qI h⟩
theorem ao {ns ms:List Int} (ha:A1 p K tas τ [.dat (tI ns),.dat (tI ms)]) (l1:ns.length=4) (l2:ms.length=4) (n1:∃ n∈ns,n≠0) (n2:∃ n∈ms,n≠0) (s1:Bd (2 ^ 4000) ns) (s2:Bd (2 ^ 4000) ms):E1 p K (yY (rV K) [] E' tas) τ (.dat (tI (pl (qm ms ns)))) :=
 E.c2 ha fun W H a b Q z z2 q=>⟨a,b,ns,ms,rfl,z,z2,l1,l2,n1,n2,s1,s2,fun r H' s h=>q _ H' _ rfl s fun W=>qI h⟩
theorem bI {ns ms:List Int} (ha:A1 p K tas τ [.dat (tI ns),.dat (tI ms)]) (l1:ns.length<=1000) (l2:ms.length=ns.length) (s1:Sm ns) (s2:Sm ms):E1 p K (yY (zfS K) [] E' tas) τ (.dat (.int (wX ns ms))) :=
 E.c2 ha fun W H a b Q z z2 q=>⟨a,b,ns,ms,rfl,z,z2,l1,l2,s1,s2,fun H' s=>q _ H' _ rfl s fun W=>.int _⟩
theorem ag {x y z k l:Int} (ha:A1 p K tas τ [.dat (tI [x,y,z]),.dat (tI [k,l])]) (nz:∃ n∈[l,k*x,k*y,k*z],n≠0) (b1:Bd (2 ^ 1000) [x,y,z]) (b2:Bd (2 ^ 1000) [k,l]):E1 p K (yY (qZ K) [] E' tas) τ (.dat (tI (pl [l,k*x,k*y,k*z]))) :=
 E.c2 ha fun W H a b Q z1 z2 q=>⟨a,b,x,y,z,k,l,rfl,z1,z2,nz,b1,b2,fun r H' s h=>q _ H' _ rfl s fun W=>qI h⟩
theorem E1.cAlong {a b c d e f:Int} (ha:A1 p K tas τ [.dat (tI [a,b,c]),.dat (tI [d,e,f])]) (b1:Bd (2 ^ 4000) [a,b,c]) (b2:Bd (2 ^ 4000) [d,e,f]):E1 p K (yY (zcQ K) [] E' tas) τ (.dat (.bool (decide (cr a b c d e f=[0,0,0])))) :=
 E.c2 ha fun W H x y Q z1 z2 q=>⟨x,y,a,b,c,d,e,f,rfl,z1,z2,b1,b2,fun H' s=>q _ H' _ rfl s fun W=>.bool _⟩
theorem zzC {q:Addr} {H H':Hp} (s:SB q H H') (pu:Pu H q):Ev (Pp (some q)) H H':=⟨fun b o n h=>s b o (fun z=>n (by rw [z];rfl)) h,by obtain ⟨x,y,e⟩:=pu;exact s.tm e⟩
def EI (p:Option Addr) (K:PySem.W.Frag) (te:TE) (τ:List Sl) (P:Int->Prop):Prop:=E p K te τ (fun s=>∃ i,s = .dat (.int i)/\P i)
theorem EI.of {i:Int} {P:Int->Prop} (h:E1 p K te τ (.dat (.int i))) (hp:P i):EI p K te τ P:=E.mono h fun s e=>⟨i,e.symm,hp⟩
theorem EI.mono {P P':Int->Prop} (h:EI p K te τ P) (m:∀ i,P i->P' i):EI p K te τ P':=E.mono h fun s ⟨i,e,hp⟩=>⟨i,e,m i hp⟩
theorem bU {g:Int->Int->Int} {P Q:Int->Prop} (ha:EI p K ta τ P) (hb:EI p K tb τ Q):EI p K (wO (rI0 fun i j=>.int (g i j)) ta tb) τ (fun k=>∃ i j,P i/\Q j/\k=g i j) :=
 bX (B:=fun _=>True) ha (fun _ _=>hb) fun s t ⟨i,e1,h1⟩ ⟨j,e2,h2⟩ W H0 H x y R o0 o r1 r2 q=>by
  subst e1 e2
  exact ⟨i,j,r1.int_inv,r2.int_inv,q _ H _ ⟨_,rfl,i,j,h1,h2,rfl⟩ aE o (.int _)⟩
theorem EI.opC {g:Int->Int->Int} {Cn:Int->Int->Prop} {P Q:Int->Prop} (ha:EI p K ta τ P) (hb:EI p K tb τ Q) (hc:∀ i j,P i->Q j->Cn i j):EI p K (wO (rI Cn fun i j=>.int (g i j)) ta tb) τ (fun k=>∃ i j,P i/\Q j/\k=g i j) :=
 bX (B:=fun _=>True) ha (fun _ _=>hb) fun s t ⟨i,e1,h1⟩ ⟨j,e2,h2⟩ W H0 H x y R o0 o r1 r2 q=>by
  subst e1 e2
  exact ⟨i,j,r1.int_inv,r2.int_inv,hc i j h1 h2,q _ H _ ⟨_,rfl,i,j,h1,h2,rfl⟩ aE o (.int _)⟩
theorem aX {m:Int} (ha:A1 p K tas τ [.pu,.dat (.int m)]) (h0:0<m) (h1:m<2 ^ 200):EI p K (yY jS [] E' tas) τ (fun d=>0<=d/\d<m):=fun W L σ H Q rs o q=>ha W L σ H _ rs o fun vs H1 ss e e1 o1 rv=>by
  subst e
  cases rv with
  | cons a t =>
    cases t with
    | cons b t =>
      cases t
      obtain ⟨q0,rfl,rfl⟩:=a
      cases b.int_inv
      have pu:=(o1.pu q0 rfl).1
      refine ⟨q0,m,rfl,pu,h0,h1,fun d H' d0 d1 sb pu'=>?_⟩
      have ev:=zzC sb pu
      exact q _ H' _ ⟨d,rfl,d0,d1⟩ (e1.trans ev) (o1.ev ev fun q hq=>by cases hq;exact pu') (.int _)
def ER (p:Option Addr) (K:PySem.W.Frag) (te:TE) (τ:List Sl) (P:List Int->Prop):Prop:=E p K te τ (fun s=>∃ ns,s = .dat (tI ns)/\P ns)
theorem ER.four (ha:A1 p K tas τ [.pu]):ER p K (yY (zhB K) [] E' tas) τ (fun ns=>ns.length=4/\(∃ n∈ns,n≠0)/\Bd (12*10 ^ 28) ns):=fun W L σ H Q rs o q=>ha W L σ H _ rs o fun vs H1 ss e e1 o1 rv=>by
  subst e
  cases rv with
  | cons a t =>
    cases t
    obtain ⟨q0,rfl,rfl⟩:=a
    have pu:=(o1.pu q0 rfl).1
    refine ⟨q0,rfl,pu,fun r ns H' l nz bd sb pu' h=>?_⟩
    have ev:=zzC sb pu
    exact q _ H' _ ⟨ns,rfl,l,nz,bd⟩ (e1.trans ev) (o1.ev ev fun q hq=>by cases hq;exact pu') (.tup h (aw _))
end
theorem aM {a b:Int} {x y:Nat} (ha:Bt a x) (hb:Bt b y):Bt (a+b) (max x y+1):=(ha.up (Nat.le_max_left _ _)).add (hb.up (Nat.le_max_right _ _))
theorem aq {a b:Int} {x y:Nat} (ha:Bt a x) (hb:Bt b y):Bt (a - b) (max x y+1):=(ha.up (Nat.le_max_left _ _)).sub (hb.up (Nat.le_max_right _ _))
theorem aZ {a:Int} {x:Nat} (ha:Bt a x):Bt (-a) x:=by unfold Bt at *;rw [Int.natAbs_neg];exact ha
theorem bt2:Bt 2 1:=by unfold Bt;decide
theorem ziO {k:Nat} {a b c:Int} (h:Bd (2 ^ k) [a,b,c]):Bt a k/\Bt b k/\Bt c k:=⟨h a (by simp),h b (by simp),h c (by simp)⟩
theorem qA {k:Nat} {a b c d:Int} (h:Bd (2 ^ k) [a,b,c,d]):Bt a k/\Bt b k/\Bt c k/\Bt d k:=⟨h a (by simp),h b (by simp),h c (by simp),h d (by simp)⟩
theorem yjJ {k:Nat} {a b c:Int} (h1:Bt a k) (h2:Bt b k) (h3:Bt c k):Bd (2 ^ k) [a,b,c]:=fun n hn=>by
 simp only [List.mem_cons,List.mem_nil_iff,or_false] at hn
 rcases hn with rfl|rfl|rfl
 ·exact h1
 ·exact h2
 ·exact h3
theorem zdT {k:Nat} {a b c d:Int} (h1:Bt a k) (h2:Bt b k) (h3:Bt c k) (h4:Bt d k):Bd (2 ^ k) [a,b,c,d]:=fun n hn=>by
 simp only [List.mem_cons,List.mem_nil_iff,or_false] at hn
 rcases hn with rfl|rfl|rfl|rfl
 ·exact h1
 ·exact h2
 ·exact h3
 ·exact h4
theorem ybJ {k:Nat} {a b:Int} (h1:Bt a k) (h2:Bt b k):Bd (2 ^ k) [a,b]:=fun n hn=>by
 simp only [List.mem_cons,List.mem_nil_iff,or_false] at hn
 rcases hn with rfl|rfl
 ·exact h1
 ·exact h2
section
variable {p:Option Addr} {K:PySem.W.Frag} {τ:List Sl} {te:TE} {ds:List Dat}
theorem ycU {α:Type} {d:α} {ds:List α}:zsX (d::ds) (some 1) none=ds:=by
 have e:HT.sIx (d::ds).length 0 (some 1)=1:=by
  rw [show (1:Int)=((1:Nat):Int) from rfl,HT.sIx_nat,List.length_cons];omega
 unfold zsX
 rw [e,HT.sIx_none,List.drop_succ_cons,List.drop_zero]
 exact List.take_of_length_le (by rw [List.length_cons];omega)
theorem E1.sl1 {d:Dat} {tl th:TO} (h:E1 p K te τ (.dat (.tuple (d::ds)))) (hl:O1 p K tl τ (some 1)) (hh:O1 p K th τ none):E1 p K (tSl (yeU K) te tl th) τ (.dat (.tuple ds)):=by
 have e:=E1.slT h hl hh (fun z=>by
  have e:HT.sIx (d::ds).length 0 (some 1)=1:=by
   rw [show (1:Int)=((1:Nat):Int) from rfl,HT.sIx_nat,List.length_cons];omega
  rw [e] at z;exact absurd z.1 (by decide))
 rw [ycU] at e
 exact e
theorem vZ {α:Type} {l:List α} {n:Nat} (h:l.length=n) (hn:n<=sizeLine):l.length<=sizeLine:=h ▸ hn
theorem z1:1<=sizeLine:=by decide
theorem z2:2<=sizeLine:=by decide
theorem z3:3<=sizeLine:=by decide
theorem z4:4<=sizeLine:=by decide
theorem z0:0<=sizeLine:=by decide
end
end D
end
namespace D
open PySem L2 K0 Num
open PySem.W (Dat)
section
def tw0 (x y z a b c e:Int):List Int:=[a*wX [x,y,z] [x,y,z],wX [x,y,z] [b,c,e]*x,wX [x,y,z] [b,c,e]*y,wX [x,y,z] [b,c,e]*z]
def sw0 (x y z a b c e:Int):List Int:=qm [a,b,c,e] (pl (cj (pl (tw0 x y z a b c e))))
def prt (x y z a b c e:Int):Dat:=if a=0/\wX [x,y,z] [b,c,e]=0 then .tuple [.str "lock"] else .tuple [.str "parted",tI (pl (sw0 x y z a b c e)),tI (pl (tw0 x y z a b c e))]
def zeK:List Dat->Dat->Prop:=fun ds d=>∃ x y z a b c e:Int,ds=[tI [x,y,z],tI [a,b,c,e]]/\(∃ n∈[x,y,z],n≠0)/\(∃ n∈[a,b,c,e],n≠0)/\Bd (2 ^ 200) [x,y,z]/\Bd (2 ^ 500) [a,b,c,e]/\d=prt x y z a b c e
theorem zsH {x y z:Int} (h:∃ n∈[x,y,z],n≠0):0<wX [x,y,z] [x,y,z]:=by
 rw [ztW]
 obtain ⟨n,hn,h0⟩:=h
 have hx:=sq_nn x
 have hy:=sq_nn y
 have hz:=sq_nn z
 have hp:=zaC h0
 simp only [List.mem_cons,List.mem_nil_iff,or_false] at hn
 rcases hn with rfl|rfl|rfl <;> omega
theorem zpV {x y z a b c e:Int} (nw:∃ n∈[x,y,z],n≠0) (h:¬ (a=0/\wX [x,y,z] [b,c,e]=0)):∃ n∈tw0 x y z a b c e,n≠0:=by
 unfold tw0
 have hn:=zsH nw
 generalize wX [x,y,z] [x,y,z]=n at *
 generalize wX [x,y,z] [b,c,e]=g at *
 by_cases ha:a=0
 ·have hg:g≠0:=fun z=>h ⟨ha,z⟩
  obtain ⟨m,hm,h0⟩:=nw
  simp only [List.mem_cons,List.mem_nil_iff,or_false] at hm
  rcases hm with rfl|rfl|rfl
  ·exact ⟨g*m,by simp,Int.mul_ne_zero hg h0⟩
  ·exact ⟨g*m,by simp,Int.mul_ne_zero hg h0⟩
  ·exact ⟨g*m,by simp,Int.mul_ne_zero hg h0⟩
 ·exact ⟨a*n,by simp,Int.mul_ne_zero ha (by omega)⟩
theorem xY {k:Nat} {ns:List Int} (h:Bd (2 ^ k) ns) (hk:k<9000:=by decide):Sm ns:=zgI h (Nat.pow_lt_pow_right (by decide) hk)
theorem yL {k l:Nat} {ns:List Int} (h:Bd (2 ^ k) ns) (hk:k<=l:=by decide):Bd (2 ^ l) ns:=yS h (Nat.pow_le_pow_right (by decide) hk)
theorem zkK {k:Nat} {a b c e:Int} (h:Bd k [a,b,c,e]):Bd k [b,c,e]:=fun n hn=>h n (List.mem_cons_of_mem _ hn)
theorem zoC {ns:List Int} {k:Nat} {m:Int}:(ns.map Dat.int).set k (.int m)=(ns.set k m).map Dat.int:=by rw [List.map_set]
theorem zbI {ns:List Int} (l:ns.length=3) (h:ns≠[0,0,0]):∃ n∈ns,n≠0:=by
 obtain ⟨a,b,c,rfl⟩:=qP l
 by_cases ha:a=0
 ·by_cases hb:b=0
  ·by_cases hc:c=0
   ·subst ha hb hc;exact absurd rfl h
   ·exact ⟨c,by simp,hc⟩
  ·exact ⟨b,by simp,hb⟩
 ·exact ⟨a,by simp,ha⟩
theorem yeH {k:Int} (h0:0<=k) (h1:k<=1000000):ziF 10 k:=⟨h0,h1,by decide⟩
theorem zsQ {x y z a b c e:Int} (nt:∃ n∈tw0 x y z a b c e,n≠0) (nf:∃ n∈[a,b,c,e],n≠0):pl (qm (pl (sw0 x y z a b c e)) (pl (tw0 x y z a b c e)))=pl [a,b,c,e]:=by
 have lt:(pl (tw0 x y z a b c e)).length=4:=by rw [zY];rfl
 have np:=xC nt
 have nc:=rJ lt np
 have lc:=rN lt
 have lv:(pl (cj (pl (tw0 x y z a b c e)))).length=4:=by rw [zY];exact lc
 have nv:=xC nc
 have ls:(sw0 x y z a b c e).length=4:=xB (ns:=[a,b,c,e]) rfl lv
 have ns:∃ n∈sw0 x y z a b c e,n≠0:=vL (ns:=[a,b,c,e]) rfl lv nf nv
 rw [zaP ls lt ns np]
 unfold sw0
 rw [ztV (ns:=[a,b,c,e]) rfl lv lt, <- zcV (ns:=[a,b,c,e]) rfl (xB lv lt) nf (vL lv lt nv np),ygL lt np,zwR (ns:=[a,b,c,e]) rfl]
section
variable {p:Option Addr} {K:PySem.W.Frag} {τ:List Sl} {ta tb:TE}
theorem bP {x y:Str} (ha:E1 p K ta τ (.dat (.str x))) (hb:E1 p K tb τ (.dat (.str y))):E1 p K (wO rNe ta tb) τ (.dat (.bool (!decide (x=y)))):=aL ha hb fun W H0 H u v Q o0 o r1 r2 q=>by
 cases r1;cases r2
 refine ⟨rfl,q _ H aE o ?_⟩
 have e:decide (V.str x=V.str y)=decide (x=y):=by rw [decide_eq_decide];exact ⟨fun h=>by injection h,fun h=>by rw [h]⟩
 rw [e];exact .bool _
theorem aQ {x y:Str} (ha:E1 p K ta τ (.dat (.str x))) (hb:E1 p K tb τ (.dat (.str y))):E1 p K (wO rEq ta tb) τ (.dat (.bool (decide (x=y)))):=aL ha hb fun W H0 H u v Q o0 o r1 r2 q=>by
 cases r1;cases r2
 refine ⟨rfl,q _ H aE o ?_⟩
 have e:decide (V.str x=V.str y)=decide (x=y):=by rw [decide_eq_decide];exact ⟨fun h=>by injection h,fun h=>by rw [h]⟩
 rw [e];exact .bool _
end
theorem T1.eqn {p:Option Addr} {K:PySem.W.Frag} {τ:List Sl} {tt:TT} {b c:Bool} (h:T1 p K tt τ b) (e:b=c):T1 p K tt τ c:=e ▸ h
section
variable {p:Option Addr} {K:PySem.W.Frag} {τ:List Sl} {tt:TT}
theorem aV (h:T1 p K tt τ true):T1 p K (zwZ tt) τ false:=bY h
theorem ah {p:Option Addr} {K:PySem.W.Frag} {τ:List Sl} {ta tb:TE} {a b:Sl} {d:Dat} (ha:E1 p K ta τ a) (hb:E1 p K tb τ b) (ea:tG a=some d) (eb:tG b=some d) (k1:PySem.W.kqdOk 9 d=true):T1 p K (zcB (wO (zgT K true) ta tb)) τ false:=(aC (E1.neD ha hb ea eb k1 k1)).eqn (by rw [wQ];rfl)
end
end
section
section
variable {p:Option Addr} {K:PySem.W.Frag} {W:Addr->Prop} {L:List Addr} {σ:St} {H H0 H1 H2:Hp} {τ τ':List Sl} {ta tb te ti:TE} {tas:TA} {v:V} {s:Sl} {nx:List Sl->Prop} {rt:Sl->Prop} {t u:TS} {ds:List Dat} {E':XK} {wi:TI}
theorem T.cmpI {g:Int->Int->Bool} {P Q:Int->Prop} (ha:EI p K ta τ P) (hb:EI p K tb τ Q):T p K (zcB (wO (rI0 fun i j=>.bl (g i j)) ta tb)) τ (fun b=>∃ i j,P i/\Q j/\b=g i j):=fun W L σ H R rs o q =>
 ha W L σ H _ rs o fun x H1 s ⟨i,e,h1⟩ e1 o1 rv1=>hb W L σ H1 _ (rs.ev e1 o.pw) o1 fun y H2 t ⟨j,e',h2⟩ e2 o2 rv2=>by
  subst e e'
  cases rv1.int_inv;cases rv2.int_inv
  exact ⟨i,j,rfl,rfl,_,rfl,q _ H2 ⟨i,j,h1,h2,rfl⟩ (e1.trans e2) o2⟩
theorem EI.lit {i:Int}:EI p K (tC (.int i)) τ (fun k=>k=i):=EI.of E1.int rfl
theorem EI.pick {ms:List Int} {P:Int->Prop} (hl:E1 p K ta τ (.vw (ms.map .int))) (hd:EI p K tb τ P) (hp:∀ d,P d->0<=d/\d<(ms.length:Int)):EI p K (wO (zmS K) ta tb) τ (fun m=>m∈ms) :=
 bX (B:=fun _=>True) (A:=fun x=>(Sl.vw (ms.map .int))=x) hl (fun _ _=>hd) fun s t e ⟨d,e2,h2⟩ W H0 H x y R o0 o r1 r2 q=>by
  subst e e2
  cases r2.int_inv
  obtain ⟨a,vs,rfl,h1,hz⟩:=r1
  have e:=hz.inv
  subst e
  obtain ⟨d0,d1⟩:=hp d h2
  obtain ⟨m,hm,e⟩:=tJ d0 d1
  exact ⟨a,_,d,_,rfl,rfl,h1.sq,e,q _ H _ ⟨m,rfl,hm⟩ aE o (.int _)⟩
theorem zlE {P:Int->Prop}:∀ {es:List Dat},(∀ (i:Nat) (e:Dat),es[i]?=some e->∃ n,e = .int n/\P n)->∃ ns:List Int,es=ns.map .int/\∀ n∈ns,P n
  | [],_=>⟨[],rfl,fun n hn=>by cases hn⟩
  | e::r,h=>by
    obtain ⟨n,rfl,hn⟩:=h 0 e rfl
    obtain ⟨ns,rfl,hs⟩:=zlE (es:=r) fun i e he=>h (i+1) e (by simpa using he)
    exact ⟨n::ns,rfl,fun m hm=>(List.mem_cons.mp hm).elim (fun z=>by rw [z];exact hn) (hs m)⟩
def EL (p:Option Addr) (K:PySem.W.Frag) (te:TE) (τ:List Sl) (n:Nat) (P:Int->Prop):Prop:=E p K te τ (fun s=>∃ ns:List Int,s = .own (ns.map .int)/\ns.length=n/\∀ m∈ns,P m)
theorem EL.comp {P:Int->Prop} {n:Nat} (hw:Wk p K wi τ ds) (hn:ds.length=n) (turn:∀ d,d∈ds->EI p K te (.dat d :: τ) P) (hz:n<=sizeLine):EL p K (wK 1 wi (yK 0) vB te) τ n P:=by
 refine E.mono (cE (Cd:=fun _ e=>∃ i,e = .int i/\P i) hw (fun d hd=>E.mono (turn d hd) fun s ⟨i,e,hp⟩=>⟨_,e,i,rfl,hp⟩) (by omega)) fun s ⟨es,e,l,h⟩=>?_
 obtain ⟨ns,rfl,hs⟩:=zlE (P:=P) (es:=es) fun i e he=>let ⟨d,_,h⟩:=h i e he;h
 exact ⟨ns,e,by rw [List.length_map] at l;omega,hs⟩
theorem EL.row {n:Nat} {P:Int->Prop} (h:EL p K te τ n P):ER p K (tCB (fun xs H Q=>∃ p ys,xs=[.ref p]/\((SqL K H p ys/\∀ l,H l=none->Q (.ref l) (upd H l (.tup ys)))\/(SqT K H p ys/\Q (.ref p) H))) (yN te vJ)) τ (fun ns=>ns.length=n/\∀ m∈ns,P m):=fun W L σ H Q rs o q =>
 h W L σ H _ rs o fun v H1 s ⟨ns,e,l,hp⟩ e1 o1 rv=>by
  subst e
  obtain ⟨a,vs,rfl,h0,h1,h2⟩:=rv
  have e:=h2.inv
  subst e
  refine ⟨a,_,rfl,.inl ⟨SqL.of h1,fun r hr=>?_⟩⟩
  have s:=Same.new hr (.tup (ns.map V.int))
  exact q _ _ _ ⟨ns,rfl,l,hp⟩ (e1.trans (Ev.of s)) (o1.same s) (qI zJ)
theorem S.setit {i:Nat} {C:Dat->Prop} {P:Int->Prop} (h:τ[i]?=some (.own ds)) (he:E p K te τ (fun s=>∃ d,s = .dat d/\tF d=true/\C d)) (hi:EI p K ti τ P) (hP:∀ k,P k->0<=k/\k<(ds.length:Int)) (m:∀ d (k:Int),C d->P k->nx (τ.set i (.own (ds.set k.toNat d)))):S p K (jP te (zvZ (kK i) ti zoJ)) τ nx rt:=fun W L σ H D r o q1 q2 =>
 he W L σ H _ r o fun v H1 s ⟨d,e0,nl,cd⟩ e1 o1 rv=>by
  subst e0
  have r1:=r.ev e1 o.pw
  obtain ⟨a,vs,e,w,n,l,h1,z⟩:=r1.get_own h
  refine ⟨_,e,hi W L σ H1 _ r1 o1 fun y H2 t ⟨k,e3,hk⟩ e2 o2 rv2=>?_⟩
  subst e3
  cases rv2.int_inv
  have r2:=r1.ev e2 o1.pw
  obtain ⟨a',vs',e',w',n',l',h1',z'⟩:=r2.get_own h
  rw [e] at e';cases e'
  obtain ⟨k0,k1⟩:=hP k hk
  have rv':Dz (fun a=>¬ W a) K H2 v d:=Dz.ev e2 o1.nw rv
  have ev:Ev (fun b=>b=a) H2 (upd H2 a (.lst (vs'.set k.toNat v))):=⟨fun b o n h=>by rw [zP n];exact h,Tm.lst h1' _⟩
  have nw:∀ b,¬ W b->¬ b=a:=fun b n z=>n (z ▸ w)
  refine ⟨a,vs',k,k.toNat,rfl,rfl,h1',zoE k0 (by rw [z'.len];exact k1),?_⟩
  have alw:∀ b,W b->∃ ys,upd H2 a (.lst (vs'.set k.toNat v)) b=some ys:=fun b hb=>by
   by_cases zz:b=a
   ·subst zz;exact ⟨_,zJ⟩
   ·rw [zP zz];exact o2.al b hb
  refine q1 W L σ _ _ (m d k cd hk) (((e1.trans e2).ofP o).trans (ev.mono fun b hb=>hb ▸ w)) ⟨fun q hq=>⟨?_,o2.pw q hq⟩,alw⟩ alw (fun _ h=>.inl h) (fun _ h=>.inl h) (Rs.chgO w h1' ((z'.set k.toNat rv').ev ev nw) r2 h e)
  obtain ⟨x,y,u⟩:=(o2.pu q hq).1
  exact ⟨x,y,by rw [zP (fun z=>n' (by rw [<- z];exact hq))];exact u⟩
def forget:Sl->Sl
 | .pu=>.un
 | s=>s
theorem Rs.forget {q:Addr} (r:Rs (some q) W K H L σ τ):Rs none W K H L σ (τ.map forget):=by
 induction r with
 | nil=>exact .nil
 | un _ ih=>exact .un ih
 | dat h _ ih=>exact .dat h ih
 | pu h _ ih=>exact .un ih
 | own h1 h2 h3 h4 h5 _ ih=>exact .own h1 (fun z=>by cases z) h3 h4 h5 ih
 | dt h1 h2 h3 h4 _ ih=>exact .dt h1 (fun b hb z=>by cases z) h3 h4 ih
theorem Rs.learn {q:Addr} {i:Nat} (r:Rs none W K H L σ τ) (nq:H q=none) (hw:∀ a,W a->∃ ys,H a=some ys):Rs (some q) (fun a=>W a\/a=q) K H L σ τ:=by
  have n:∀ a,(W a\/a=q)->¬ W a->H a=Option.none:=fun a h z=>(h.resolve_left z) ▸ nq
  induction r with
  | nil=>exact .nil
  | un _ ih=>exact .un ih
  | dat h _ ih =>
    refine .dat ?_ ih
    cases Dzs.wide (W':=fun a=>W a\/a=q) (.cons h .nil) n with
    | cons a _=>exact a
  | pu h _ ih=>cases h
  | own h1 h2 h3 h4 h5 _ ih=>exact .own (.inl h1) (fun z=>by cases z;rw [nq] at h4;cases h4) h3 h4 (Dzs.wide h5 n) ih
  | dt h1 h2 h3 h4 _ ih=>exact .dt (fun b hb=>.inl (h1 b hb)) (fun b hb z=>by cases z;obtain ⟨o,ho⟩:=Own.al _ h4 _ hb;rw [nq] at ho;cases ho) h3 (Own.wide _ h4 fun a o na ha wa=>by rw [n a wa na] at ha;cases ha) ih
theorem S.withPurse {sp:Sp} {ss:List Sl} {i:Nat} (ha:A1 none K tas τ ss) (hs:∀ (W:Addr->Prop) (H0 H:Hp) (vs:List V) (Q:VK),Rvs none W K H0 H vs ss->(∀ (q:Addr) (H':Hp),H q=none->Same H H'->Pu H' q->Q (.ref q) H')->sp (vs++[]) H Q E')
  (m:∀ q,S (some q) K u (τ.set i .pu) (fun τ'=>nx (τ'.map forget)) rt) (hrt:∀ s,rt s->∃ d,s = .dat d):S none K (jV (jP (yY sp [] E' tas) (yK i)) u) τ nx rt:=fun W L σ H D r o q1 q2 =>
 ha W L σ H _ r o fun vs H1 ss e e1 o1 rv=>by
  subst e
  refine hs W H H1 vs _ rv fun q H2 hq s2 pu=>?_
  have r1:=r.ev e1 o.pw
  have e2:Ev (Pp (some q)) H1 H2:=Ev.of s2
  have hq0:H q=none:=o1.back e1 hq
  have r2:Rs (some q) (fun a=>W a\/a=q) K H2 L σ τ:=(Rs.learn (i:=0) r1 hq o1.al).ev e2 fun a ha=>by cases ha;exact .inr rfl
  obtain ⟨L',l,r3⟩:=r2.set (v:=.ref q) (s:=.pu) (.inr (.inr ⟨rfl,q,rfl,rfl⟩)) i
  have o2:Ok (some q) (fun a=>W a\/a=q) H2:=⟨fun a ha=>by cases ha;exact ⟨pu,.inr rfl⟩,fun a ha=>by
   rcases ha with ha|rfl
   ·obtain ⟨ys,h⟩:=o1.al a ha;exact ⟨ys,s2 _ _ h⟩
   ·obtain ⟨x,y,h⟩:=pu;exact ⟨_,h⟩⟩
  have e02:Ev W H H2:=(e1.ofP o).trans (Ev.of s2)
  have n1:∀ a,(W a\/a=q)->W a\/H a=none:=fun a ha=>ha.imp id fun z=>by rw [z];exact hq0
  have al2:∀ a,W a->∃ ys,H2 a=some ys:=fun a ha=>let ⟨ys,h⟩:=o1.al a ha;⟨ys,s2 _ _ h⟩
  have hn:∀ a,H2 a=none->H a=none:=fun a ha=>e02.none al2 ha
  refine m q _ L' _ H2 _ r3 o2 (fun W4 L4 σ4 H4 τ4 c e4 o4 w4 n4 l4 r4=>?_) (fun W4 H4 v s c e4 o4 w4 n4 rv=>?_)
  ·exact q1 W4 L4 σ4 H4 _ c (e02.chain e4 n1) ⟨fun q h=>(by cases h),o4.al⟩ (fun a ha=>w4 a (.inl ha)) (fun a ha=>(n4 a ha).elim (n1 a) fun z=>.inr (hn a z)) (fun a ha=>(l4 a ha).elim (fun z=>.inl (l a z)) fun z=>.inr (hn a z)) r4.forget
  ·obtain ⟨d,rfl⟩:=hrt s c
   exact q2 W4 H4 v _ c (e02.chain e4 n1) ⟨fun q h=>(by cases h),o4.al⟩ (fun a ha=>w4 a (.inl ha)) (fun a ha=>(n4 a ha).elim (n1 a) fun z=>.inr (hn a z)) rv
theorem S.purse1 {i:Nat} {ns:List Int} (ha:A1 none K tas τ [.dat (.list (ns.map .int))]) (hl:ns.length<=63) (hb:∀ v∈ns,Builtin.Int.intBits v<=2 ^ 20) (m:∀ q,S (some q) K u (τ.set i .pu) (fun τ'=>nx (τ'.map forget)) rt) (hrt:∀ s,rt s->∃ d,s = .dat d):S none K (jV (jP (yY (zeD K) [] E' tas) (yK i)) u) τ nx rt :=
  S.withPurse ha (fun W H0 H vs Q rv q=>by
    cases rv with
    | cons a t =>
      cases t
      cases a with
      | lst h1 h2 =>
        have e:=h2.inv
        subst e
        exact ⟨_,ns,rfl,h1.sq,hl,hb,q⟩) m hrt
variable {P:Program} {w:World} {mg:Str->Option Value} {base:Heap}
theorem okL {x qual:Str} {st:Stmt} {f:Addr} {fd:FuncData} {N ps:List Str} {k:Nat} (F:Fun K x qual st f fd) (S0:FnScope N ps (zI st)) (len:ps.length=1)
  (body:∀ (cdv:Value) (A:Around) (outer:List Env) (s:Shared) (H:Hp) (E:XK),Room k (A.deeper (PyProof.Rows.envOfC qual (zI st) s.heap.objs.size f cdv)) ->
   ∃ t,ZSs (zaN zW P w K mg base N qual (zI st) f cdv A outer s H E).nox (xT st) t/\∀ ns:List Int,ns.length<=63->(∀ v∈ns,Builtin.Int.intBits v<=2 ^ 20)->S none K t (.dat (.list (ns.map .int))::List.replicate (N.length - 1) .un) (fun _=>False) (fun s=>s = .dat (.bool true))):FnOk P w K mg base zW (k+1) f fd ps (zfU K):=by
 refine F.okZ S0 (fun vs H Q E h=>?_) (fun cdv A outer s H vs Q E hr h=>?_)
 ·obtain ⟨a,ns,rfl,_⟩:=h;rw [len];rfl
 ·obtain ⟨a,ns,rfl,hS,hl,hb,q⟩:=h
  obtain ⟨t,hz,hs⟩:=body cdv A outer s H E hr
  refine ⟨t,hz,?_⟩
  have z:Dzs (fun _=>True) K H [.ref a] [.list (ns.map .int)]:=.cons (.lst (by
   rcases hS with h|h
   ·exact .inl ⟨trivial,h⟩
   ·exact .inr (.inr h)) (aw _)) .nil
  have r0:Rs none (fun _=>False) K H [] (L2.start N [.ref a]) (.dat (.list (ns.map .int))::List.replicate (N.length - 1) .un):=by
   unfold L2.start
   exact vX _ z fun a _ h=>h
  refine hs ns hl hb (fun _=>False) [] _ H _ r0 ⟨fun q h=>(by cases h),fun a h=>False.elim h⟩ (fun W' L' σ' H' τ' e ev o' al n l r'=>e.elim) (fun W' H' v s e ev o' al n rv=>?_)
  subst e
  cases (Rv.bl_inv (p:=none) (H0:=H) rv)
  exact q H'
end
end
end D
section
namespace D
open PySem L2 K0
open PySem.W (Dat)
section
variable {p:Option Addr} {K:PySem.W.Frag} {W:Addr->Prop} {L:List Addr} {σ:St} {H H1 H2:Hp} {τ:List Sl} {te:TE} {tas:TA} {v:V} {s:Sl} {u:TS} {ds:List Dat} {wi:TI}
theorem E.compX {no:Nat} {g:TG} (hw:Wk p K wi τ ds) (own:Dat->List Sl) (hg:∀ d,d∈ds->Gc p K no g d (own d)) (Cd:Nat->Dat->Prop)
  (turn:∀ (i:Nat) d,ds[i]?=some d->E p K te (own d ++ τ) (fun s=>∃ e,s = .dat e/\Cd i e)) (hz:ds.length<=sizeLine) :
  E p K (wK no wi g vB te) τ (fun s=>∃ es,s = .own es/\es.length=ds.length/\∀ (i:Nat) (e:Dat),es[i]?=some e->Cd i e):=fun W L σ H Q r o q=>by
 refine hw W L σ H _ r o fun J H1 e1 o1 jd=>?_
 intro D hD
 have nD:=o1.fresh hD
 have pD:=o1.np hD
 have r1:=r.ev e1 o.pw
 have r1':Rs p (fun b=>W b\/b=D) K H1 L σ τ:=r1.wide (fun _ h=>.inl h) fun b hb nb=>(hb.resolve_left nb) ▸ hD
 refine ⟨fun i m σ' H'=>m=ds.length - i/\i<=ds.length/\(∃ ρ,ρ.length=no/\σ'=ρ ++ σ)/\Ev (fun a=>Pp p a\/a=D) H1 H'/\(∀ q,p=some q->Pu H' q)/\∃ (vs:List V) (es:List Dat),H' D=some (.lst vs)/\Dzs (fun b=>¬ (W b\/b=D)) K H' vs es/\es.length=i/\∀ (j:Nat) (e:Dat),es[j]?=some e->Cd j e,
  ⟨ds.length,by omega,Nat.zero_le _,⟨List.replicate no none,by simp,rfl⟩,⟨fun b u nb h=>by rw [zP (fun z=>nb (.inr z))];exact h,(Same.new hD _).tm⟩,fun q hq=>(o1.pu q hq).1.same (Same.new hD _),[],[],zJ,.nil,rfl,fun j e h=>by simp at h⟩,?_⟩
 rintro i m σ' H' ⟨rfl,hi,⟨ρ,lρ,rfl⟩,ev,pu,vs,es,hv,zv,le,hes⟩
 have evW:Ev W H1 H':=⟨fun b u nb h=>ev.keep b u (fun z=>z.elim (fun y=>nb (o1.pw b y)) fun y=>by rw [y] at h;rw [hD] at h;cases h) h,ev.tm⟩
 have ok':Ok p (fun b=>W b\/b=D) H':=⟨fun q hq=>⟨pu q hq,.inl (o1.pw q hq)⟩,fun b hb=>by
  by_cases z:b=D
  ·subst z;exact ⟨_,hv⟩
  ·by_cases y:p=some b
   ·obtain ⟨x1,x2,h⟩:=pu b y;exact ⟨_,h⟩
   ·obtain ⟨ys,h⟩:=o1.al b (hb.resolve_right z)
    exact ⟨ys,ev.keep _ _ (fun w=>w.elim y z) h⟩⟩
 have evD:Ev (fun b=>W b\/b=D) H1 H':=evW.mono fun _ h=>.inl h
 have rs':Rs p (fun b=>W b\/b=D) K H' L σ τ:=by
  refine Rs.evx r1' ev (fun a ha z=>?_) fun a u ha np z=>?_
  ·rcases z with z|z
   ·exact ha (.inl (o1.pw a z))
   ·exact ha (.inr z)
  ·rcases z with z|z
   ·exact np z
   ·rw [z,hD] at ha;cases ha
 obtain ⟨stop,each⟩:=jd (fun b=>W b\/b=D) H' evW fun a ha=>ha.imp id fun z=>by rw [z];exact hD
 have o1f:H D=none:=o1.back e1 hD
 by_cases hlt:i<ds.length
 ·have hd:ds[i]?=some ds[i]:=by simp [hlt]
  have hm:ds[i]∈ds:=List.getElem_mem hlt
  obtain ⟨go,yl⟩:=each i _ hd
  refine .inr ⟨go,fun x H2 y=>?_⟩
  obtain ⟨s2,z2⟩:=yl x H2 y
  have ok2:=ok'.same s2
  refine hg _ hm _ L ρ σ τ H2 x _ lρ (rs'.ev (Ev.of s2) ok'.pw) z2 fun ρ' lρ' rs2=>?_
  have hv4:H2 D=some (.lst vs):=s2 _ _ hv
  have zv4:Dzs (fun b=>¬ (W b\/b=D)) K H2 vs es:=zv.ev (W:=fun _=>False) (Ev.of s2) fun _ _ h=>h
  show vB _ _ _
  unfold vB
  dsimp only
  rw [if_pos rfl]
  refine turn i _ hd _ L _ H2 _ rs2 ok2 fun v H5 s c e5 o5 rv=>?_
  obtain ⟨e,rfl,ce⟩:=c
  have hv5:H5 D=some (.lst vs):=e5.keep _ _ pD hv4
  have zv5:=zv4.ev e5 fun a ha z=>ha (.inl (o1.pw a z))
  have ll:vs.length<=i:=by rw [zv.len,le];exact Nat.le_refl _
  have evu:Ev (fun b=>b=D) H5 (upd H5 D (.lst (vs++[v]))):=⟨fun b o n h=>by rw [zP n];exact h,Tm.lst hv5 _⟩
  have pvH:Ev (fun a=>Pp p a\/a=D) H' H2:=Ev.of s2
  refine ⟨vs,hv5,by omega,ds.length - (i+1),by omega,rfl,hlt,⟨ρ',lρ',rfl⟩,(ev.trans (pvH.trans (e5.mono fun _ h=>.inl h))).trans (evu.mono fun _ h=>.inr h),fun q hq=>?_,vs++[v],es++[e],zJ,(zv5.app (.cons rv .nil)).ev evu fun b hb z=>hb (.inr z),?_,fun j f hj=>?_⟩
  ·obtain ⟨x1,x2,h⟩:=(o5.pu q hq).1
   exact ⟨x1,x2,by rw [zP (fun z=>pD (by rw [<- z];exact hq))];exact h⟩
  ·rw [List.length_append,le];rfl
  ·by_cases hj2:j<es.length
   ·rw [List.getElem?_append_left hj2] at hj
    exact hes j f hj
   ·rw [List.getElem?_append_right (by omega)] at hj
    have ej:j - es.length=0:=by
     have:=(List.getElem?_eq_some_iff.mp hj).1
     simp at this;omega
    rw [ej] at hj
    cases hj
    have:j=i:=by omega
    rw [this];exact ce
 ·have e:i=ds.length:=by omega
  subst e
  have evP:Ev (Pp p) H1 H':=⟨fun b u nb h=>ev.keep b u (fun z=>z.elim nb fun y=>by rw [y] at h;rw [hD] at h;cases h) h,ev.tm⟩
  refine .inl ⟨stop,q _ H' _ ⟨es,rfl,le,hes⟩ (e1.trans evP) (o1.ev evP pu) ⟨D,vs,rfl,o1f,hv,zv.mono fun a ha z=>ha (.inl z)⟩⟩
theorem ycI {es fs:List Dat} (l:es.length=fs.length) (h:∀ (i:Nat) (e:Dat),es[i]?=some e->fs[i]?=some e):es=fs:=by
  apply List.ext_getElem?
  intro i
  cases q:es[i]? with
  | none =>
    have:=List.getElem?_eq_none_iff.mp q
    rw [List.getElem?_eq_none (by omega)]
  | some e=>rw [h i e q]
theorem bR {no:Nat} {g:TG} (fs:List Dat) (hw:Wk p K wi τ ds) (own:Dat->List Sl) (hg:∀ d,d∈ds->Gc p K no g d (own d)) (hl:fs.length=ds.length) (turn:∀ (i:Nat) d f,ds[i]?=some d->fs[i]?=some f->E1 p K te (own d ++ τ) (.dat f)) (hz:ds.length<=sizeLine):E1 p K (wK no wi g vB te) τ (.own fs):=by
 refine E.mono (E.compX hw own hg (fun i e=>fs[i]?=some e) (fun i d hd=>?_) hz) fun s ⟨es,e,l,h⟩=>?_
 ·have hi:i<fs.length:=by rw [hl];exact (List.getElem?_eq_some_iff.mp hd).1
  have hf:fs[i]?=some fs[i]:=by simp [hi]
  exact E.mono (turn i d _ hd hf) fun s hs=>⟨_,hs.symm,hf⟩
 ·rw [e,ycI (by rw [l,hl]) h]
theorem E1.comp3 {d1 d2 d3 e1 e2 e3:Dat} (hw:Wk p K wi τ [d1,d2,d3]) (h1:E1 p K te (.dat d1 :: τ) (.dat e1)) (h2:E1 p K te (.dat d2 :: τ) (.dat e2)) (h3:E1 p K te (.dat d3 :: τ) (.dat e3)):E1 p K (wK 1 wi (yK 0) vB te) τ (.own [e1,e2,e3]) :=
 bR [e1,e2,e3] hw (fun d=>[.dat d]) (fun d _=>Gc.name) rfl (fun i d f hd hf=>by
  rcases zjH hd with ⟨rfl,rfl⟩|⟨rfl,rfl⟩|⟨rfl,rfl⟩
  ·cases hf;exact h1
  ·cases hf;exact h2
  ·cases hf;exact h3) (by show 3<=sizeLine;decide)
theorem zoR:kY 0 3=[.int 0,.int 1,.int 2]:=rfl
theorem Wk.r3 (h:A1 p K tas τ [.dat (.int 3)]):Wk p K (zkL tas) τ [.int 0,.int 1,.int 2]:=zoR ▸ Wk.rng h rfl
end
end D
end
namespace D
open PySem L2 K0 Num
open PySem.W (Dat)
section
section
variable {p:Option Addr} {K:PySem.W.Frag} {τ:List Sl} {ta tb te:TE} {v:V} {s:Sl} {t:TS} {ds:List Dat}
theorem E.cmpB {g:Int->Int->Bool} {P Q:Int->Prop} (ha:EI p K ta τ P) (hb:EI p K tb τ Q):E p K (wO (rI0 fun i j=>.bl (g i j)) ta tb) τ (fun s=>∃ b,s = .dat (.bool b)) :=
 bX (B:=fun _=>True) ha (fun _ _=>hb) fun s t ⟨i,e1,h1⟩ ⟨j,e2,h2⟩ W H0 H x y R o0 o r1 r2 q=>by
  subst e1 e2
  exact ⟨i,j,r1.int_inv,r2.int_inv,q _ H _ ⟨_,rfl⟩ aE o (.bool _)⟩
theorem EI.boolInt (h:E p K te τ (fun s=>∃ b,s = .dat (.bool b))):EI p K (tCB (fun xs H Q=>(∃ i,xs=[.int i]/\Q (.int i) H)\/∃ k,xs=[.bl k]/\Q (.int (if k then 1 else 0)) H) (yN te vJ)) τ (fun i=>i=0\/i=1):=fun W L σ H Q rs o q =>
 h W L σ H _ rs o fun v H1 s ⟨b,e⟩ e1 o1 rv=>by
  subst e
  cases rv.bl_inv
  exact .inr ⟨b,rfl,q _ H1 _ ⟨_,rfl,by cases b <;> simp⟩ e1 o1 (.int _)⟩
end
def zwI (b:Nat):List Dat->(Dat->Prop)->Prop:=fun ds C=>ds=[]/\C=fun d=>∃ n:Int,d = .int n/\n.natAbs<=b
def yeP:List Dat->(Dat->Prop)->Prop:=fun ds C=>ds=[]/\C=fun d=>∃ k l:Int,d=tI [k,l]/\(k≠0\/l≠0)/\Bd (10 ^ 12) [k,l]
end
section
section
variable {p:Option Addr} {K:PySem.W.Frag} {τ:List Sl} {te:TE} {tas:TA} {s:Sl} {t:TS} {ds:List Dat} {wi:TI} {tt:TT}
def zcA (ds:List Dat):List Dat:=zaH ((List.range ds.length).map fun (i:Nat)=>.int (i:Int)) ds
theorem zlX {ds:List Dat} {i:Nat} {d:Dat} (h:(zcA ds)[i]?=some d):∃ x,ds[i]?=some x/\d = .tuple [.int i,x]:=by
 obtain ⟨a,b,h1,h2,rfl⟩:=zfT h
 refine ⟨b,h2,?_⟩
 rw [List.getElem?_map] at h1
 have hi:i<ds.length:=(List.getElem?_eq_some_iff.mp h2).1
 rw [List.getElem?_range hi] at h1
 cases h1;rfl
theorem znG {ds:List Dat}:(zcA ds).length=ds.length:=by unfold zcA zaH;simp
theorem Wk.enum (h:A1 p K tas τ [.dat (.tuple ds)]):Wk p K (ztT K tas) τ (zcA ds):=fun W L σ H R r o q=>h W L σ H _ r o fun vs H1 ss e e1 o1 rv=>by
  subst e
  cases rv with
  | cons a t =>
    cases t
    cases a with
    | tup h1 h2 =>
      rename_i a1 x1
      refine ⟨a1,rfl,⟨_,h1⟩,q _ H1 e1 o1 fun W' H' ev n=>?_⟩
      have g1:=ev.tm _ _ _ h1
      have g2:=aY ev n h2
      refine ⟨⟨_,g1,by rw [g2.len,znG];exact Nat.le_refl _⟩,fun i d hd=>?_⟩
      obtain ⟨x,ex,rfl⟩:=zlX hd
      obtain ⟨vx,ux,zx⟩:=g2.get ex
      refine ⟨⟨_,vx,g1,ux⟩,fun z H2 ⟨a,ha,e,q⟩=>?_⟩
      have:=q _ _ g1 ux
      subst this e
      have s:=Same.new ha (.tup [.int i,vx])
      have e:Ev (fun _=>False) H' (upd H' a (.tup [.int i,vx])):=Ev.of s
      exact ⟨s,.tup (SqT.of zJ) (.cons (.int _) (.cons (zx.ev e fun _ _ h=>h) .nil))⟩
theorem E1.compPF {f:Dat->Dat->Dat} {kp:Dat->Dat->Bool} (hw:Wk p K wi τ ds) (hp:∀ d,d∈ds->∃ x y,d = .tuple [x,y]) (ht:∀ x y,Dat.tuple [x,y]∈ds->T1 p K tt (.dat x :: .dat y :: τ) (kp x y)) (turn:∀ x y,Dat.tuple [x,y]∈ds->kp x y=true->E1 p K te (.dat x :: .dat y :: τ) (.dat (f x y))) (hz:ds.length<=sizeLine) :
  E1 p K (wK 2 wi (zfR K) tt te) τ (.own ((ds.filter fun d=>kp (p1 d) (p2 d)).map fun d=>f (p1 d) (p2 d))):=by
 refine E.mono (E.comp hw (fun d=>[.dat (p1 d),.dat (p2 d)]) (fun d hd=>?_) (fun d=>kp (p1 d) (p2 d)) (fun d e=>f (p1 d) (p2 d)=e) (fun d hd=>?_) (fun d hd hk=>?_) hz) fun s hs=>?_
 ·obtain ⟨x,y,rfl⟩:=hp d hd;exact Gc.pair
 ·obtain ⟨x,y,rfl⟩:=hp d hd;exact ht x y hd
 ·obtain ⟨x,y,rfl⟩:=hp d hd;exact E.mono (turn x y hd hk) fun s hs=>⟨_,hs.symm,rfl⟩
 ·obtain ⟨es,rfl,l,h⟩:=hs
  rw [ziK l h]
def ff:List Int->Int
 | []=>0
 | n::r=>if n=0 then ff r+1 else 0
end
theorem ff3 {a b c:Int} (h:∃ n∈[a,b,c],n≠0):ff [a,b,c]=if a=0 then (if b=0 then 2 else 1) else 0:=by
 unfold ff
 by_cases ha:a=0
 ·rw [if_pos ha,if_pos ha]
  unfold ff
  by_cases hb:b=0
  ·rw [if_pos hb,if_pos hb]
   unfold ff
   have hc:c≠0:=by
    obtain ⟨n,hn,h0⟩:=h
    simp only [List.mem_cons,List.mem_nil_iff,or_false] at hn
    rcases hn with rfl|rfl|rfl
    ·exact absurd ha h0
    ·exact absurd hb h0
    ·exact h0
   rw [if_neg hc];rfl
  ·rw [if_neg hb,if_neg hb];rfl
 ·rw [if_neg ha,if_neg ha]
def RFF:List Dat->Dat->Prop:=fun ds d=>∃ a b c:Int,ds=[tI [a,b,c]]/\(∃ n∈[a,b,c],n≠0)/\d = .int (ff [a,b,c])
end
section
def qf (x:Rat):List Int:=[x.num,(x.den:Int)]
theorem zdL (x:Rat):qv x.num x.den=x:=by
 unfold qv
 rw [<- Rat.divInt_eq_div,Rat.num_divInt_den]
theorem sN (n:Int):∃ k,Bt n k:=⟨n.natAbs,by unfold Bt;exact Nat.le_of_lt Nat.lt_two_pow_self⟩
theorem ygN (x:Rat) {k:Nat} (h1:Bt x.num k) (h2:Bt (x.den:Int) k):Lo k x.num x.den x:=⟨by have:=x.den_pos;omega,by rw [Int.natAbs_natCast];exact x.reduced,h1,h2,zdL x⟩
theorem zpE (x:Rat):∃ k,Lo k x.num x.den x:=by
 obtain ⟨k1,h1⟩:=sN x.num
 obtain ⟨k2,h2⟩:=sN (x.den:Int)
 exact ⟨max k1 k2,ygN x (h1.up (Nat.le_max_left _ _)) (h2.up (Nat.le_max_right _ _))⟩
theorem yhA {t b:Int} (hb:0<b):fr t b=qf (qv t b):=by
 obtain ⟨t',b',e⟩:=zrZ t b
 obtain ⟨k1,h1⟩:=sN t
 obtain ⟨k2,h2⟩:=sN b
 have l:=Lo.of hb (h1.up (Nat.le_max_left k1 k2)) (h2.up (Nat.le_max_right k1 k2)) e rfl
 obtain ⟨k,l2⟩:=zpE (qv t b)
 rw [e]
 exact l.eq l2
theorem yhS {k:Nat} {t b:Int} {x:Rat} (h:Lo k t b x):[t,b]=qf x:=by
 obtain ⟨k',l⟩:=zpE x
 exact h.eq l
def ptQ (x y z:Rat):Dat:=ptD (qf x) (qf y) (qf z)
theorem zkH {c:Nat} {T C:Int} {x:Rat} (h0:0<C) (hC:Bt C c) (hT:Bt T c) (e:qv T C=x):Lo c x.num x.den x:=by
 obtain ⟨t,b,e2⟩:=zrZ T C
 have l:=Lo.of h0 hT hC e2 e
 have:=yhS l
 injection this with h1 h2
 injection h2 with h2 _
 rw [h1,h2] at l;exact l
section
variable {K:PySem.W.Frag} {W:Addr->Prop} {H:Hp}
theorem zoV {N:Addr->Prop} {f1 f2 f3:List Int} {r:Addr} (h:Pt H r f1 f2 f3):Dz N K H (.ref r) (ptD f1 f2 f3):=by
 obtain ⟨p1,p2,p3,h0,h1,h2,h3⟩:=h.ex
 exact .tup (SqT.of h0) (.cons (qI h1) (.cons (qI h2) (.cons (qI h3) .nil)))
end
def sa (x y z a b c e:Int):Option (List Int):=if cr x y z b c e=[0,0,0] then some (if x=0 then (if y=0 then ps e (a*z) else ps c (a*y)) else ps b (a*x)) else none
def RSA:List Dat->Dat->Prop:=fun ds d=>∃ x y z a b c e:Int,ds=[tI [x,y,z],tI [a,b,c,e]]/\(∃ n∈[x,y,z],n≠0)/\(∃ n∈[a,b,c,e],n≠0)/\Bd (2 ^ 1000) [x,y,z]/\Bd (2 ^ 1000) [a,b,c,e]/\d=axD (sa x y z a b c e)
theorem zzF {x y z a b c e:Int} (h:cr x y z b c e=[0,0,0]) (nf:∃ n∈[a,b,c,e],n≠0):(x≠0->∃ n∈[a*x,b],n≠0)/\(y≠0->∃ n∈[a*y,c],n≠0)/\(z≠0->∃ n∈[a*z,e],n≠0):=by
 unfold cr at h
 simp only [List.cons.injEq,and_true] at h
 obtain ⟨h1,h2,h3⟩:=h
 have key:∀ {w n:Int},w≠0->(a=0->n=0->b=0/\c=0/\e=0)->∃ m∈[a*w,n],m≠0:=fun {w n} hw hk=>by
  by_cases ha:a=0
  ·by_cases hn:n=0
   ·obtain ⟨hb,hc,he⟩:=hk ha hn
    obtain ⟨m,hm,h0⟩:=nf
    simp only [List.mem_cons,List.mem_nil_iff,or_false] at hm
    rcases hm with rfl|rfl|rfl|rfl
    ·exact absurd ha h0
    ·exact absurd hb h0
    ·exact absurd hc h0
    ·exact absurd he h0
   ·exact ⟨n,by simp,hn⟩
  ·exact ⟨a*w,by simp,Int.mul_ne_zero ha hw⟩
 refine ⟨fun hx=>key hx fun _ hb=>?_,fun hy=>key hy fun _ hc=>?_,fun hz=>key hz fun _ he=>?_⟩
 ·subst hb
  have hc:x*c=0:=by omega
  have he:x*e=0:=by omega
  exact ⟨rfl,(Int.mul_eq_zero.mp hc).resolve_left hx,(Int.mul_eq_zero.mp he).resolve_left hx⟩
 ·subst hc
  have hb:y*b=0:=by omega
  have he:y*e=0:=by omega
  exact ⟨(Int.mul_eq_zero.mp hb).resolve_left hy,rfl,(Int.mul_eq_zero.mp he).resolve_left hy⟩
 ·subst he
  have hb:z*b=0:=by omega
  have hc:z*c=0:=by omega
  exact ⟨(Int.mul_eq_zero.mp hb).resolve_left hz,(Int.mul_eq_zero.mp hc).resolve_left hz,rfl⟩
end
section
theorem yiC {x y z a b c:Int} (h:cr x y z a b c=[0,0,0]):(y:Rat)*c=z*b/\(z:Rat)*a=x*c/\(x:Rat)*b=y*a:=by
 unfold cr at h
 simp only [List.cons.injEq,and_true] at h
 obtain ⟨h1,h2,h3⟩:=h
 have e1:y*c=z*b:=by omega
 have e2:z*a=x*c:=by omega
 have e3:x*b=y*a:=by omega
 exact ⟨by exact_mod_cast e1,by exact_mod_cast e2,by exact_mod_cast e3⟩
theorem zpI {x y z a b c e k l:Int} (nw:∃ n∈[x,y,z],n≠0) (nf:∃ n∈[a,b,c,e],n≠0) (h:sa x y z a b c e=some [k,l]):(k≠0\/l≠0)/\pl [l,k*x,k*y,k*z]=pl [a,b,c,e]:=by
 unfold sa at h
 by_cases hc:cr x y z b c e=[0,0,0]
 ·rw [if_pos hc] at h
  obtain ⟨m1,m2,m3⟩:=zzF hc nf
  unfold cr at hc
  simp only [List.cons.injEq,and_true] at hc
  obtain ⟨h1,h2,h3⟩:=hc
  have key:∀ {w n:Int},w≠0->(∃ m∈[a*w,n],m≠0)->n*x=w*b->n*y=w*c->n*z=w*e->ps n (a*w)=[k,l]->(k≠0\/l≠0)/\pl [l,k*x,k*y,k*z]=pl [a,b,c,e]:=fun {w n} hw hz e1 e2 e3 hp=>by
   have hu:=vM hz
   have d1:xA [a*w,n] ∣ n:=vC (by simp)
   have d2:xA [a*w,n] ∣ a*w:=vC (by simp)
   unfold ps at hp
   simp only [List.cons.injEq,and_true] at hp
   obtain ⟨p1,p2⟩:=hp
   have q1:xA [a*w,n]*k=n:=by rw [<- p1];exact Int.mul_ediv_cancel' d1
   have q2:xA [a*w,n]*l=a*w:=by rw [<- p2];exact Int.mul_ediv_cancel' d2
   generalize xA [a*w,n]=u at *
   have hk:k≠0\/l≠0:=by
    by_cases zk:k=0
    ·refine .inr fun zl=>?_
     rw [zk,Int.mul_zero] at q1
     rw [zl,Int.mul_zero] at q2
     obtain ⟨m,hm,h0⟩:=hz
     simp only [List.mem_cons,List.mem_nil_iff,or_false] at hm
     rcases hm with rfl|rfl
     ·exact h0 q2.symm
     ·exact h0 q1.symm
    ·exact .inl zk
   refine ⟨hk,?_⟩
   have nk:=zsF hk nw
   have e:[l,k*x,k*y,k*z].map (u * ·)=[a,b,c,e].map (w * ·):=by
    simp only [List.map_cons,List.map_nil,List.cons.injEq,and_true]
    refine ⟨by rw [q2,Int.mul_comm],?_,?_,?_⟩
    ·rw [<- Int.mul_assoc,q1];exact e1
    ·rw [<- Int.mul_assoc,q1];exact e2
    ·rw [<- Int.mul_assoc,q1];exact e3
   exact qK hu hw e nk nf
  by_cases hx:x=0
  ·rw [if_pos hx] at h
   by_cases hy:y=0
   ·rw [if_pos hy] at h
    have hz:z≠0:=by
     obtain ⟨n,hn,h0⟩:=nw
     simp only [List.mem_cons,List.mem_nil_iff,or_false] at hn
     rcases hn with rfl|rfl|rfl
     ·exact absurd hx h0
     ·exact absurd hy h0
     ·exact h0
    injection h with h
    exact key hz (m3 hz) (by rw [Int.mul_comm e x];omega) (by rw [Int.mul_comm e y];omega) (by rw [Int.mul_comm]) h
   ·rw [if_neg hy] at h
    injection h with h
    exact key hy (m2 hy) (by rw [Int.mul_comm c x];omega) (by rw [Int.mul_comm]) (by rw [Int.mul_comm c z];omega) h
  ·rw [if_neg hx] at h
   injection h with h
   exact key hx (m1 hx) (by rw [Int.mul_comm]) (by rw [Int.mul_comm b y];omega) (by rw [Int.mul_comm b z];omega) h
 ·rw [if_neg hc] at h;cases h
def isNo:Dat->Bool
 | .none=>true
 | _=>false
section
variable {p:Option Addr} {K:PySem.W.Frag} {τ:List Sl} {ta tb:TE}
theorem bH {d:Dat} (ha:E1 p K ta τ (.dat d)) (hb:E1 p K tb τ (.dat .none)):E1 p K (wO (fun x y H Q=>y = .non/\Q (.bl (decide (x = .non))) H) ta tb) τ (.dat (.bool (D.isNo d))) :=
 aL ha hb fun W H0 H x y Q o0 o r1 r2 q=>by
  refine ⟨r2.non_inv,q _ H aE o ?_⟩
  cases r1 <;> exact .bool _
end
end
section
end
theorem zjY (k l:Int):ps k l=(pl [l,k]).reverse:=rfl
theorem zfX {c k l:Int} (hc:c≠0) (nz:∃ n∈[l,k],n≠0):ps (c*k) (c*l)=ps k l:=by
 rw [zjY,zjY]
 have:=wJ (c:=c) hc nz
 simp only [List.map_cons,List.map_nil] at this
 rw [this]
section
structure LB (c:Nat) (T1 T2 T3 C:Int) (x y z:Rat):Prop where
 pos:0<C
 bc:Bt C c
 b1:Bt T1 c
 b2:Bt T2 c
 b3:Bt T3 c
 e1:qv T1 C=x
 e2:qv T2 C=y
 e3:qv T3 C=z
section
variable {p:Option Addr} {K:PySem.W.Frag} {W:Addr->Prop} {H:Hp} {τ:List Sl} {tas:TA} {E':XK}
theorem EI.cCM {C:Int} {bs:List Int} (ha:A1 p K tas τ [.vw (bs.map .int)]) (hb:∀ b∈bs,0<b/\b ∣ C) (h0:0<C) (bC:Bt C 3000):EI p K (yY (yaD K) [] E' tas) τ (fun L=>0<L/\(∀ b∈bs,b ∣ L)/\L ∣ C):=fun W L σ H Q rs o q=>ha W L σ H _ rs o fun vs H1 ss e e1 o1 rv=>by
  subst e
  cases rv with
  | cons a t =>
    cases t
    obtain ⟨a,vs,rfl,h1,h2⟩:=a
    have e:=h2.inv
    subst e
    exact ⟨a,bs,C,rfl,h1.sq,hb,h0,bC,fun L H' s l0 l1 l2=>q _ H' _ ⟨L,rfl,l0,l1,l2⟩ (e1.trans (Ev.of s)) (o1.same s) (.int _)⟩
end
end
section
abbrev Q1 (a b d e:Int) (x y z:Rat):Rat:=K0.R1 a b d e x y z / N4 a b d e
abbrev Q2 (a b d e:Int) (x y z:Rat):Rat:=K0.R2 a b d e x y z / N4 a b d e
abbrev Q3 (a b d e:Int) (x y z:Rat):Rat:=K0.R3 a b d e x y z / N4 a b d e
section
variable {W:Addr->Prop}
end
end
def MM (p q r x y z w v:Rat):Rat:=v - 2*(p*x+q*y+r*z) / (p*p+q*q+r*r)*w
abbrev M1 (p q r:Int) (x y z:Rat):Rat:=MM p q r x y z p x
def ftR (k l N v D w c:Rat):Rat:=(k*(N*v - D*w)+l*c) / (2*k*N)
abbrev F1 (p q r k l:Int) (x y z:Rat):Rat:=ftR k l ((p:Rat)*p+q*q+r*r) x (p*x+q*y+r*z) p (q*z - r*y)
abbrev F2 (p q r k l:Int) (x y z:Rat):Rat:=ftR k l ((p:Rat)*p+q*q+r*r) y (p*x+q*y+r*z) q (r*x - p*z)
abbrev sl (p q r:Int) (x y z:Rat):Rat:=((p:Rat)*x+q*y+r*z) / ((p:Rat)*p+q*q+r*r)
end D
section
namespace L2
open PySem PySem.Spec PyProof.Rows
section
abbrev zl (h:Heap) (l:Addr):Heap:=h.push { cls:=.type "list_iterator",data:=.fields #[.ref l,.int 0 0] }
end
end L2
end
namespace D
open PySem L2 K0 Num
open PySem.W (Dat)
theorem ygD {a b c e:Int} {B:Nat} (nf:∃ n∈[a,b,c,e],n≠0) (bf:Bd (2 ^ B) [a,b,c,e]) :
  (ax [a,b,c,e]=none/\pl [a,b,c,e]=[1,0,0,0])\/∃ p q r k l:Int,ax [a,b,c,e]=some [p,q,r]/\sa p q r a b c e=some [k,l]/\(∃ n∈[p,q,r],n≠0)/\Bd (2 ^ B) [p,q,r]/\Bd (2 ^ B) [k,l]/\0<k/\∃ U g:Int,U≠0/\0<g/\a=U*(g*l)/\b=U*(g*(k*p))/\c=U*(g*(k*q))/\e=U*(g*(k*r)):=by
 have np:=xC nf
 have bp:=wB nf bf
 have hu:=vM nf
 have em:=kA (ns:=[a,b,c,e])
 have fp:=kW nf
 obtain ⟨P0,P1,P2,P3,hP⟩:=zU (show (pl [a,b,c,e]).length=4 by rw [zY];rfl)
 rw [hP] at np bp em fp
 generalize xA [a,b,c,e]=U at *
 have em:[U*P0,U*P1,U*P2,U*P3]=[a,b,c,e]:=em
 injection em with a0 em
 injection em with a1 em
 injection em with a2 em
 injection em with a3 em
 have p0:0<=P0:=by
  rw [xW] at fp
  split at fp
  ·omega
  ·omega
 unfold ax
 rw [hP]
 show ((if [P1,P2,P3]=[0,0,0] then none else some (jO [P1,P2,P3]))=none/\_)\/∃ p q r k l:Int,(if [P1,P2,P3]=[0,0,0] then none else some (jO [P1,P2,P3]))=some [p,q,r]/\_
 by_cases hz:[P1,P2,P3]=[0,0,0]
 ·left
  rw [if_pos hz]
  refine ⟨rfl,?_⟩
  injection hz with z1 hz
  injection hz with z2 hz
  injection hz with z3 hz
  subst z1 z2 z3
  have h0:P0≠0:=by
   obtain ⟨n,hn,h0⟩:=np
   simp at hn
   rcases hn with h|h
   ·rw [<- h];exact h0
   ·exact absurd h h0
  have e1:[P0,0,0,0]=[1,0,0,0].map (P0 * ·):=by simp
  rw [<- hP, <- zkX nf,hP,e1,zrB h0]
 ·right
  rw [if_neg hz]
  have nv:∃ n∈[P1,P2,P3],n≠0:=zbI rfl hz
  have gp:=xN nv
  have er:=zlM [P1,P2,P3]
  obtain ⟨p,q,r,hr⟩:=qP (show (jO [P1,P2,P3]).length=3 from rfl)
  rw [hr] at er ⊢
  generalize gcdN [P1,P2,P3]=g at *
  have er:[(g:Int)*p,(g:Int)*q,(g:Int)*r]=[P1,P2,P3]:=er
  injection er with r1 er
  injection er with r2 er
  injection er with r3 er
  have nw:∃ n∈[p,q,r],n≠0:=zbI rfl fun h=>hz (by
   injection h with h1 h
   injection h with h2 h
   injection h with h3 h
   rw [<- r1, <- r2, <- r3,h1,h2,h3,Int.mul_zero])
  have ng:∃ n∈[P0,(g:Int)],n≠0:=⟨g,by simp,by omega⟩
  have hps:sa p q r a b c e=some (ps g P0):=by
   unfold sa
   rw [if_pos (by
    rw [<- a1, <- a2, <- a3, <- r1, <- r2, <- r3]
    show [q*(U*((g:Int)*r)) - r*(U*((g:Int)*q)),r*(U*((g:Int)*p)) - p*(U*((g:Int)*r)),p*(U*((g:Int)*q)) - q*(U*((g:Int)*p))]=[0,0,0]
    rw [show q*(U*((g:Int)*r)) - r*(U*((g:Int)*q))=0 by grind,show r*(U*((g:Int)*p)) - p*(U*((g:Int)*r))=0 by grind,show p*(U*((g:Int)*q)) - q*(U*((g:Int)*p))=0 by grind])]
   congr 1
   have one:∀ {f w:Int},U*((g:Int)*w)=f->w≠0->ps f (a*w)=ps g P0:=fun {f w} hf hw=>by
    rw [<- hf, <- a0,show U*((g:Int)*w)=U*w*g by grind,show U*P0*w=U*w*P0 by grind]
    exact zfX (Int.mul_ne_zero hu hw) ng
   split
   ·split
    ·rename_i h1 h2
     exact one (by rw [r3,a3]) fun h3=>by
      obtain ⟨n,hn,h0⟩:=nw
      simp only [List.mem_cons,List.mem_nil_iff,or_false] at hn
      rcases hn with h|h|h <;> omega
    ·rename_i h1 h2
     exact one (by rw [r2,a2]) h2
   ·rename_i h1
    exact one (by rw [r1,a1]) h1
  have fq:=kW ng
  have eq:=kA (ns:=[P0,(g:Int)])
  have hq:=vM ng
  have bq:=wB ng (show Bd (2 ^ B) [P0,(g:Int)] from fun n hn=>by
   simp only [List.mem_cons,List.mem_nil_iff,or_false] at hn
   rcases hn with rfl|rfl
   ·exact bp n (by simp)
   ·obtain ⟨n,hn,h0⟩:=nw
    have hg:∀ w P:Int,(g:Int)*w=P->w≠0->P.natAbs<=2 ^ B->(g:Int).natAbs<=2 ^ B:=fun w P h1 h2 h3=>by
     rw [<- h1,Int.natAbs_mul] at h3
     exact Nat.le_trans (Nat.le_mul_of_pos_right _ (by omega)) h3
    simp only [List.mem_cons,List.mem_nil_iff,or_false] at hn
    rcases hn with rfl|rfl|rfl
    ·exact hg _ _ r1 h0 (bp _ (by simp))
    ·exact hg _ _ r2 h0 (bp _ (by simp))
    ·exact hg _ _ r3 h0 (bp _ (by simp)))
  obtain ⟨l,k,hlk⟩:∃ l k,pl [P0,(g:Int)]=[l,k]:=⟨_,_,rfl⟩
  rw [hlk] at fq eq bq
  generalize xA [P0,(g:Int)]=u at *
  have eq:[u*l,u*k]=[P0,(g:Int)]:=eq
  injection eq with e1 eq
  injection eq with e2 eq
  have up : 0<u /\ 0<k := by
   rw [xW,xW,xW] at fq
   split at fq
   ·split at fq
    ·omega
    ·refine ⟨?_,fq⟩
     rcases Int.lt_trichotomy u 0 with h|h|h
     ·have:u*k<0:=Int.mul_neg_of_neg_of_pos h fq
      omega
     ·exact absurd h hq
     ·exact h
   ·have:0<u:=by
     rcases Int.lt_trichotomy u 0 with h|h|h
     ·have:u*l<0:=Int.mul_neg_of_neg_of_pos h fq
      omega
     ·exact absurd h hq
     ·exact h
    refine ⟨this,?_⟩
    rcases Int.lt_or_le 0 k with h|h
    ·exact h
    ·have:u*k<=0:=Int.mul_nonpos_of_nonneg_of_nonpos (by omega) h
     omega
  refine ⟨p,q,r,k,l,rfl,by rw [hps,zjY,hlk];rfl,nw,?_,?_,up.2,U,u,hu,up.1,?_,?_,?_,?_⟩
  ·intro n hn
   have hg:∀ w P:Int,(g:Int)*w=P->P.natAbs<=2 ^ B->w.natAbs<=2 ^ B:=fun w P h1 h3=>by
    rw [<- h1,Int.natAbs_mul,Int.natAbs_natCast] at h3
    exact Nat.le_trans (Nat.le_mul_of_pos_left _ gp) h3
   simp only [List.mem_cons,List.mem_nil_iff,or_false] at hn
   rcases hn with rfl|rfl|rfl
   ·exact hg _ _ r1 (bp _ (by simp))
   ·exact hg _ _ r2 (bp _ (by simp))
   ·exact hg _ _ r3 (bp _ (by simp))
  ·intro n hn
   simp only [List.mem_cons,List.mem_nil_iff,or_false] at hn
   rcases hn with rfl|rfl
   ·exact bq _ (by simp)
   ·exact bq _ (by simp)
  ·rw [e1,a0]
  ·rw [<- a1, <- r1, <- e2];grind
  ·rw [<- a2, <- r2, <- e2];grind
  ·rw [<- a3, <- r3, <- e2];grind
section
def tbQ (a b d e:Int):Dat:=.tuple [ptQ (Q1 a b d e 1 0 0) (Q1 a b d e 0 1 0) (Q1 a b d e 0 0 1),ptQ (Q2 a b d e 1 0 0) (Q2 a b d e 0 1 0) (Q2 a b d e 0 0 1),ptQ (Q3 a b d e 1 0 0) (Q3 a b d e 0 1 0) (Q3 a b d e 0 0 1)]
theorem jE {a b d e t:Int} {x:Rat} (nz:∃ n∈[a,b,d,e],n≠0) (h:(t:Rat)=x):fr t (yU [a,b,d,e])=qf (x / N4 a b d e):=by
 rw [yhA (yW rfl nz), <- h]
 congr 1
 unfold qv N4 yU
 push_cast
 rfl
section
variable {p:Option Addr} {K:PySem.W.Frag} {W:Addr->Prop} {H:Hp} {τ:List Sl} {tas:TA} {te:TE} {E':XK}
theorem yhP {N:Addr->Prop} {f1 f2 f3 g1 g2 g3 h1 h2 h3:List Int} {r:Addr} (h:Tb H r f1 f2 f3 g1 g2 g3 h1 h2 h3):Dz N K H (.ref r) (tbD f1 f2 f3 g1 g2 g3 h1 h2 h3):=by
 obtain ⟨p1,p2,p3,e0,e1,e2,e3⟩:=h.ex
 exact .tup (SqT.of e0) (.cons (zoV e1) (.cons (zoV e2) (.cons (zoV e3) .nil)))
theorem zuH {N:Addr->Prop} {a b d e:Int} {r:Addr} (nz:∃ n∈[a,b,d,e],n≠0) (h:ybP H r a b d e):Dz N K H (.ref r) (tbQ a b d e):=by
 unfold ybP at h
 rw [jE (x:=K0.R1 a b d e 1 0 0) nz (by unfold K0.R1;push_cast;grind),jE (x:=K0.R1 a b d e 0 1 0) nz (by unfold K0.R1;push_cast;grind),jE (x:=K0.R1 a b d e 0 0 1) nz (by unfold K0.R1;push_cast;grind),
  jE (x:=K0.R2 a b d e 1 0 0) nz (by unfold K0.R2;push_cast;grind),jE (x:=K0.R2 a b d e 0 1 0) nz (by unfold K0.R2;push_cast;grind),jE (x:=K0.R2 a b d e 0 0 1) nz (by unfold K0.R2;push_cast;grind),
  jE (x:=K0.R3 a b d e 1 0 0) nz (by unfold K0.R3;push_cast;grind),jE (x:=K0.R3 a b d e 0 1 0) nz (by unfold K0.R3;push_cast;grind),jE (x:=K0.R3 a b d e 0 0 1) nz (by unfold K0.R3;push_cast;grind)] at h
 exact yhP h
theorem E1.cTable {a b d e:Int} (ha:A1 p K tas τ [.dat (tI [a,b,d,e])]) (nz:∃ n∈[a,b,d,e],n≠0) (bd:Bd (2 ^ 1000) [a,b,d,e]):E1 p K (yY (zeN K) [] E' tas) τ (.dat (tbQ a b d e)):=fun W L σ H Q rs o q=>ha W L σ H _ rs o fun vs H1 ss e0 e1 o1 rv=>by
  subst e0
  cases rv with
  | cons u t =>
    cases t
    obtain ⟨r,rfl,z1⟩:=sV u
    exact ⟨r,a,b,d,e,rfl,z1,nz,bd,fun r3 H' s h=>q _ H' _ rfl (e1.trans (Ev.of s)) (o1.same s) (zuH nz h)⟩
theorem E.tupC {C:List Dat->Prop} (h:E p K te τ (fun s=>∃ es,s = .own es/\C es)):E p K (tCB (fun xs H Q=>∃ p ys,xs=[.ref p]/\((SqL K H p ys/\∀ l,H l=none->Q (.ref l) (upd H l (.tup ys)))\/(SqT K H p ys/\Q (.ref p) H))) (yN te vJ)) τ (fun s=>∃ es,s = .dat (.tuple es)/\C es):=fun W L σ H Q rs o q =>
 h W L σ H _ rs o fun v H1 s ⟨es,e,c⟩ e1 o1 rv=>by
  subst e
  obtain ⟨a,vs,rfl,h0,h1,h2⟩:=rv
  refine ⟨a,_,rfl,.inl ⟨SqL.of h1,fun r hr=>?_⟩⟩
  have s:=Same.new hr (.tup vs)
  refine q _ _ _ ⟨es,rfl,c⟩ (e1.trans (Ev.of s)) (o1.same s) ?_
  exact .tup (SqT.of zJ) (h2.ev (W:=fun _=>False) (Ev.of s) fun _ _ z=>z)
end
abbrev Lw (x:Rat):Prop:=Lo 310 x.num x.den x
structure Row3 where
 x:Rat
 y:Rat
 z:Rat
def Row3.d (r:Row3):Dat:=ptQ r.x r.y r.z
def Row3.lw (r:Row3):Prop:=Lw r.x/\Lw r.y/\Lw r.z
def Row3.dot (r s:Row3):Rat:=r.x*s.x+r.y*s.y+r.z*s.z
def yaU (a b c:Row3):Prop:=a.dot a=1/\a.dot b=0/\a.dot c=0/\b.dot a=0/\b.dot b=1/\b.dot c=0/\c.dot a=0/\c.dot b=0/\c.dot c=1
def kR (a b d e:Int):Row3:=⟨Q1 a b d e 1 0 0,Q1 a b d e 0 1 0,Q1 a b d e 0 0 1⟩
def kS (a b d e:Int):Row3:=⟨Q2 a b d e 1 0 0,Q2 a b d e 0 1 0,Q2 a b d e 0 0 1⟩
def qM (a b d e:Int):Row3:=⟨Q3 a b d e 1 0 0,Q3 a b d e 0 1 0,Q3 a b d e 0 0 1⟩
theorem zeB {a b d e:Int} (nz:∃ n∈[a,b,d,e],n≠0):yaU (kR a b d e) (kS a b d e) (qM a b d e)/\(kR a b d e).y*(kS a b d e).z+(kR a b d e).z * -(kS a b d e).y=(qM a b d e).x/\(kR a b d e).z*(kS a b d e).x+(kR a b d e).x * -(kS a b d e).z=(qM a b d e).y/\(kR a b d e).x*(kS a b d e).y+(kR a b d e).y * -(kS a b d e).x=(qM a b d e).z:=by
 have hn:=tE (rfl:[a,b,d,e]=[a,b,d,e]) nz
 unfold yaU Row3.dot kR kS qM Q1 Q2 Q3 K0.R1 K0.R2 K0.R3
 dsimp only
 generalize (a:Rat)=A at *
 generalize (b:Rat)=B at *
 generalize (d:Rat)=D at *
 generalize (e:Rat)=E at *
 unfold N4 at *
 generalize hN:A*A+B*B+D*D+E*E=N at *
 refine ⟨⟨?_,?_,?_,?_,?_,?_,?_,?_,?_⟩,?_,?_,?_⟩ <;> grind
end
end D
section
namespace L2
open PySem PySem.Spec PyProof.Rows
def zeO:V->List V->Hp->VK->Prop:=fun x vs H Q=>∃ i,x = .int i/\vs=[]/\Q (.int (Builtin.Int.intBits i:Nat)) H
section
variable {X:Cx} {a b c e o:Expr} {to te ta tb:TE} {tA:TT} {apos cpos pos:Pos}
theorem zmU:MtR X "int.bit_length" zeO:=by
 intro pins s σ H x vs v us Q I rx rv h
 obtain ⟨i,rfl,rfl,q⟩:=h
 obtain ⟨t,rfl⟩:=rx
 cases rv
 exact call_int_bit_length ⟨.int _,H,I.tok _,⟨_,rfl⟩,q⟩
theorem zmV (ho:ZE X o to) (hbase:attributeBase o "bit_length" X.env (eval o X.env)=eval o X.env:=by rfl) (hline:(apos.endLine == cpos.line)=true:=by rfl) :
  ZE X (.Call (.Attribute o "bit_length" apos) [] [] cpos) (yeE X.K "int" zeO to) :=
 ⟨ybG PySem.F.plainAttrs_int PyProof.Rows.slot_int_bit_length (by rfl) zmU ho.out hbase hline⟩
theorem zdS (hc:ZT X c tA) (ha:ZE X a ta) (hb:ZE X b tb):ZE X (.IfExp c a b pos) (tIf tA ta tb):=⟨zqK hc.out ha.out hb.out⟩
end
end L2
namespace D
open PySem L2 K0 Num
open PySem.W (Dat)
section
variable {p:Option Addr} {K:PySem.W.Frag} {W:Addr->Prop} {H:Hp} {τ:List Sl} {te ta tb:TE} {tt:TT}
theorem E1.bitlen {i:Int} (h:E1 p K te τ (.dat (.int i))):E1 p K (yeE K "int" zeO te) τ (.dat (.int (Builtin.Int.intBits i:Nat))):=fun W L σ H Q rs o q =>
 h W L σ H _ rs o fun v H1 s e e1 o1 rv=>by
  subst e
  cases rv.int_inv
  exact ⟨rfl,i,rfl,rfl,q _ H1 _ rfl e1 o1 (.int _)⟩
theorem E1.shl {i j:Int} (ha:E1 p K ta τ (.dat (.int i))) (hb:E1 p K tb τ (.dat (.int j))) (hc:ziF i j):E1 p K (wO (rI ziF fun i j=>.int (i*2 ^ j.toNat)) ta tb) τ (.dat (.int (i*2 ^ j.toNat))):=bo ha hb hc fun _ _ _=>.int _
theorem E.ifx {C:Bool->Prop} {D:Sl->Prop} (h:T p K tt τ C) (ht:C true->E p K ta τ D) (hf:C false->E p K tb τ D):E p K (tIf tt ta tb) τ D:=fun W L σ H Q rs o q=>h W L σ H _ rs o fun b H1 c e1 o1=>by
 have rs1:=rs.ev e1 o.pw
 cases b with
 | true=>exact ht c W L σ H1 Q rs1 o1 fun v H' s d e2 o2 rv=>q v H' s d (e1.trans e2) o2 (rv.base e1 o1)
 | false=>exact hf c W L σ H1 Q rs1 o1 fun v H' s d e2 o2 rv=>q v H' s d (e1.trans e2) o2 (rv.base e1 o1)
theorem cB {s:Sl} (h:T1 p K tt τ true) (ha:E1 p K ta τ s):E1 p K (tIf tt ta tb) τ s:=E.ifx h (fun _=>ha) (fun z=>by cases z)
theorem cC {s:Sl} (h:T1 p K tt τ false) (ha:E1 p K tb τ s):E1 p K (tIf tt ta tb) τ s:=E.ifx h (fun z=>by cases z) (fun _=>ha)
end
def zmG (n r:Int):Prop:=0<=r/\r*r<=n/\n<(r+1)*(r+1)
def zrO:List Dat->Dat->Prop:=fun ds d=>∃ n r:Int,ds=[.int n]/\0<=n/\Bt n 4000/\zmG n r/\d = .int r
theorem zcW {a b:Int} (ha:0<=a) (h:a<=b):a*a<=b*b:=Int.mul_le_mul h h ha (Int.le_trans ha h)
theorem zaE {n r s:Int} (h:zmG n r) (g:zmG n s):r=s:=by
 obtain ⟨h0,h1,h2⟩:=h
 obtain ⟨g0,g1,g2⟩:=g
 rcases Int.lt_trichotomy r s with z|z|z
 ·have:=zcW (show 0<=r+1 by omega) (show r+1<=s by omega)
  omega
 ·exact z
 ·have:=zcW (show 0<=s+1 by omega) (show s+1<=r by omega)
  omega
theorem zxK (n:Int) (h:0<=n):∃ r,zmG n r:=by
  have:∀ m:Nat,∃ r:Nat,r*r<=m/\m<(r+1)*(r+1):=by
    intro m
    induction m with
    | zero=>exact ⟨0,by decide,by decide⟩
    | succ m ih =>
      obtain ⟨r,h1,h2⟩:=ih
      by_cases h3:m+1<(r+1)*(r+1)
      . exact ⟨r,by omega,h3⟩
      . refine ⟨r+1,by omega,?_⟩
        have:(r+1+1)*(r+1+1)=(r+1)*(r+1)+2*(r+1)+1:=by grind
        omega
  obtain ⟨r,h1,h2⟩:=this n.toNat
  refine ⟨r,by omega,?_,?_⟩
  . have:((r*r:Nat):Int)<=(n.toNat:Int):=by exact_mod_cast h1
    rw [Int.toNat_of_nonneg h] at this
    push_cast at this;exact this
  . have:(n.toNat:Int)<(((r+1)*(r+1):Nat):Int):=by exact_mod_cast h2
    rw [Int.toNat_of_nonneg h] at this
    push_cast at this;exact this
theorem zyF {n:Int} (h:0<n):n<2 ^ (Builtin.Int.intBits n):=by
 unfold Builtin.Int.intBits
 rw [if_neg (by simp;omega)]
 have h1:n.natAbs<2 ^ (n.natAbs.log2+1):=Nat.lt_log2_self
 have h2:(n.natAbs:Int)<((2 ^ (n.natAbs.log2+1):Nat):Int):=by exact_mod_cast h1
 rw [Int.natAbs_of_nonneg (by omega)] at h2
 push_cast at h2
 exact h2
theorem zwK {n:Int} {k:Nat} (h0:0<n) (h:Bt n k):Builtin.Int.intBits n<=k+1:=by
 unfold Builtin.Int.intBits
 rw [if_neg (by simp;omega)]
 have h1:n.natAbs.log2<=k:=by
  have h2:2 ^ n.natAbs.log2<=2 ^ k:=Nat.le_trans (Nat.log2_self_le (by omega)) h
  exact (Nat.pow_le_pow_iff_right (by decide)).mp h2
 omega
theorem yeC (k:Nat):(2:Int) ^ k*2 ^ k=2 ^ (2*k):=by rw [Nat.two_mul,Int.pow_add]
theorem zrX (k:Nat):(0:Int)<2 ^ k:=Int.pow_pos (by decide)
theorem zuG {k l:Nat} (h:k<=l):(2:Int) ^ k<=2 ^ l:=by
 have:=Nat.pow_le_pow_right (n:=2) (by decide) h
 exact_mod_cast this
theorem yeF {n g q s:Int} (hg:0<g) (hq:q=n / g) (hs:s=(g+q) / 2) (hn:0<=n):n<(s+1)*(s+1):=by
 have h1:n<g*(q+1):=by
  have:=Int.lt_mul_ediv_self_add (x:=n) hg
  rw [hq]
  have e:g*(n / g+1)=g*(n / g)+g:=by grind
  omega
 have h2:g+q+1<=2*(s+1):=by omega
 have q0:0<=q:=by rw [hq];exact Int.ediv_nonneg hn (by omega)
 have h3:=zcW (show 0<=g+q+1 by omega) h2
 have h4:4*(g*(q+1))<=(g+q+1)*(g+q+1):=by
  have:=sq_nn (g - (q+1))
  have e:(g+q+1)*(g+q+1)=4*(g*(q+1))+(g - (q+1))*(g - (q+1)):=by grind
  omega
 have e:2*(s+1)*(2*(s+1))=4*((s+1)*(s+1)):=by grind
 omega
theorem zgA {n g:Int} (hg:0<g) (h:g<=(g+n / g) / 2):g*g<=n:=by
 have h1:g<=n / g:=by omega
 have h2:=Int.mul_le_mul_of_nonneg_left h1 (show 0<=g by omega)
 have h3:=Int.mul_ediv_self_le (x:=n) (k:=g) (by omega)
 omega
def kU:List Dat->Dat->Prop:=fun ds d=>∃ n:Int,ds=[.int n]/\0<=n/\Bt n 4000/\((∃ r,0<=r/\r*r=n/\d = .int r)\/((∀ r:Int,r*r≠n)/\d = .none))
theorem zrR {r:Int} (h:0<=r):zmG (r*r) r:=by
 refine ⟨h,Int.le_refl _,?_⟩
 have:(r+1)*(r+1)=r*r+2*r+1:=by grind
 omega
theorem zzQ {n r:Int} {k:Nat} (h:zmG n r) (hb:Bt n k):Bt r k:=by
 obtain ⟨h0,h1,_⟩:=h
 unfold Bt at *
 have:r<=r*r:=by
  rcases Int.lt_or_eq_of_le h0 with z|z
  ·have:=Int.mul_le_mul_of_nonneg_left (show 1<=r by omega) h0
   omega
  ·rw [<- z];decide
 omega
def zjU:List Dat->Dat->Prop:=fun ds d=>∃ (ns:List Int) (a b c e:Int),ds=[tI ns]/\ns.length=4/\(∃ n∈ns,n≠0)/\Bd (2 ^ 1000) ns/\pl ns=[a,b,c,e]/\((∃ r,0<=r/\r*r=yU [a,b,c,e]/\d=tI (pl [a+r,b,c,e]))\/((∀ r:Int,r*r≠yU [a,b,c,e])/\d = .none))
theorem zlL {a b c e r:Int} (nz:∃ n∈[a,b,c,e],n≠0) (hf:0<xW [a,b,c,e]) (hr:0<=r) (h:r*r=yU [a,b,c,e]):0<a+r/\0<=a:=by
 have h0:0<=a:=by
  unfold xW at hf
  split at hf
  ·omega
  ·omega
 refine ⟨?_,h0⟩
 have hp:=yW (ns:=[a,b,c,e]) rfl nz
 rcases Int.lt_or_eq_of_le hr with z|z
 ·omega
 ·subst z;omega
end D
namespace D
open PySem L2 K0 Num
open PySem.W (Dat)
end D
namespace D
open PySem L2 K0 Num
open PySem.W (Dat)
section
variable {p:Option Addr} {K:PySem.W.Frag} {W:Addr->Prop} {H:Hp} {L:List Addr} {σ:St} {τ:List Sl} {t:TS} {nx:List Sl->Prop} {rt:Sl->Prop}
theorem Rs.less {a:Addr} (r:Rs p W K H L σ τ):a ∉ L->Rs p (fun b=>W b/\b≠a) K H L σ τ:=by
 induction r with
 | nil=>exact fun _=>.nil
 | un _ ih=>exact fun h=>.un (ih h)
 | dat h _ ih=>exact fun n=>.dat (h.mono fun _ nb z=>nb z.1) (ih n)
 | pu h _ ih=>exact fun n=>.pu h (ih n)
 | own h1 h2 h3 h4 h5 _ ih=>exact fun n=>.own ⟨h1,fun z=>n (z ▸ List.mem_cons_self)⟩ h2 h3 h4 (h5.mono fun _ nb z=>nb z.1) (ih fun z=>n (List.mem_cons_of_mem _ z))
 | dt h1 h2 h3 h4 _ ih=>exact fun n=>.dt (fun b hb=>⟨h1 b hb,fun z=>n (z ▸ List.mem_append_left _ hb)⟩) h2 h3 (Own.wide _ h4 fun _ _ nb _ z=>nb z.1) (ih fun z=>n (List.mem_append_right _ z))
theorem Rs.frz (r:Rs p W K H L σ τ):∀ {i:Nat} {ds:List Dat},τ[i]?=some (.own ds)->∃ (a:Addr) (L':List Addr),(∀ b,b∈L'->b∈L)/\a∈L/\W a/\p≠some a/\(∃ vs,H a=some (.lst vs))/\Rs p (fun b=>W b/\b≠a) K H L' σ (τ.set i (.dat (.list ds))):=by
  induction r with
  | nil=>exact fun h=>by simp at h
  | un r ih =>
    intro i ds h
    cases i with
    | zero=>cases h
    | succ i =>
      obtain ⟨a,L',h1,h2,h3,h4,h5,h6⟩:=ih (i:=i) h
      exact ⟨a,L',h1,h2,h3,h4,h5,.un h6⟩
  | dat z r ih =>
    intro i ds h
    cases i with
    | zero=>cases h
    | succ i =>
      obtain ⟨a,L',h1,h2,h3,h4,h5,h6⟩:=ih (i:=i) h
      exact ⟨a,L',h1,h2,h3,h4,h5,.dat (z.mono fun _ nb z=>nb z.1) h6⟩
  | pu z r ih =>
    intro i ds h
    cases i with
    | zero=>cases h
    | succ i =>
      obtain ⟨a,L',h1,h2,h3,h4,h5,h6⟩:=ih (i:=i) h
      exact ⟨a,L',h1,h2,h3,h4,h5,.pu z h6⟩
  | @own L σ τ a vs es h1 h2 h3 h4 h5 r ih =>
    intro i ds h
    cases i with
    | zero =>
      cases h
      exact ⟨a,L,fun b hb=>List.mem_cons_of_mem _ hb,List.mem_cons_self,h1,h2,⟨vs,h4⟩,.dat (.lst (.inl ⟨fun z=>z.2 rfl,.inl h4⟩) (h5.mono fun _ nb z=>nb z.1)) (r.less h3)⟩
    | succ i =>
      obtain ⟨c,L',g1,g2,g3,g4,g5,g6⟩:=ih (i:=i) h
      refine ⟨c,a::L',fun b hb=>?_,List.mem_cons_of_mem _ g2,g3,g4,g5,.own ⟨h1,fun z=>h3 (z ▸ g2)⟩ h2 (fun z=>h3 (g1 _ z)) h4 (h5.mono fun _ nb z=>nb z.1) g6⟩
      rcases List.mem_cons.mp hb with rfl|hb
      . exact List.mem_cons_self
      . exact List.mem_cons_of_mem _ (g1 _ hb)
  | @dt L l σ τ a o h1 h2 h3 h4 r ih =>
    intro i ds h
    cases i with
    | zero=>cases h
    | succ i =>
      obtain ⟨c,L',g1,g2,g3,g4,g5,g6⟩:=ih (i:=i) h
      refine ⟨c,l++L',fun b hb=>?_,List.mem_append_right _ g2,g3,g4,g5,.dt (fun b hb=>⟨h1 b hb,fun z=>h3 b hb (z ▸ g2)⟩) h2 (fun b hb z=>h3 b hb (g1 _ z)) (Own.wide _ h4 fun _ _ nb _ z=>nb z.1) g6⟩
      rcases List.mem_append.mp hb with hb|hb
      . exact List.mem_append_left _ hb
      . exact List.mem_append_right _ (g1 _ hb)
theorem S.frz {i : Nat} {ds : List Dat} {τ' : List Sl} (h : τ[i]? = some (.own ds)) (m : S p K t τ' nx rt) (e : τ.set i (.dat (.list ds)) = τ' := by rfl) : S p K t τ nx rt := fun W L σ H D r o q1 q2 => by
  subst e
  obtain ⟨a,L',h1,h2,h3,h4,⟨vs,h5⟩,h6⟩:=r.frz h
  have keep:∀ {H':Hp},Ev (fun b=>W b/\b≠a) H H'->H' a=some (.lst vs):=fun ev=>ev.keep _ _ (fun z=>z.2 rfl) h5
  refine m _ L' σ H D h6 ⟨fun q hq=>⟨(o.pu q hq).1,(o.pu q hq).2,fun z=>h4 (z ▸ hq)⟩,fun b hb=>o.al b hb.1⟩ (fun W' L2 σ' H' τ' n ev ok al wn ln rs=>?_) fun W' H' v s n ev ok al wn rr=>?_
  . refine q1 W' L2 σ' H' τ' n (ev.mono fun _ z=>z.1) ok (fun b hb=>?_) (fun b hb=>(wn b hb).imp (fun z=>z.1) id) (fun b hb=>(ln b hb).imp (h1 b) id) rs
    by_cases z:b=a
    . exact ⟨_,z ▸ keep ev⟩
    . exact al b ⟨hb,z⟩
  . refine q2 W' H' v s n (ev.mono fun _ z=>z.1) ok (fun b hb=>?_) (fun b hb=>(wn b hb).imp (fun z=>z.1) id) ?_
    . by_cases z:b=a
      . exact ⟨_,z ▸ keep ev⟩
      . exact al b ⟨hb,z⟩
    . cases s with
      | own ds' =>
        obtain ⟨a',vs',e1,e2,e3,e4⟩:=rr
        exact ⟨a',vs',e1,e2.imp (h1 _) id,e3,e4⟩
      | dt ds' =>
        obtain ⟨a',vs',e1,e2,e3⟩:=rr
        exact ⟨a',vs',e1,fun b hb=>(e2 b hb).imp (h1 _) id,e3⟩
      | _=>exact rr
end
end D
end
section
namespace D
open PySem L2 K0 Num
open PySem.W (Dat)
theorem zyG {a b c e r:Int} (h:r*r=yU [a,b,c,e]):qm [a+r,b,c,e] [a+r,b,c,e]=[a,b,c,e].map (2*(a+r) * ·):=by
 have h:r*r=a*a+b*b+c*c+e*e:=h
 show [_,_,_,_]=[_,_,_,_]
 rw [List.cons.injEq,List.cons.injEq,List.cons.injEq,List.cons.injEq]
 refine ⟨?_,?_,?_,?_,rfl⟩ <;> grind
theorem ziC {a b c e r w x y z:Int} (nz:∃ n∈[a,b,c,e],n≠0) (hp:pl [a,b,c,e]=[a,b,c,e]) (hr:0<=r) (h:r*r=yU [a,b,c,e]) (hw:pl [a+r,b,c,e]=[w,x,y,z]) :
  0<a+r/\0<=a/\pl [w,x,y,z]=[w,x,y,z]/\(∃ n∈[w,x,y,z],n≠0)/\pl (qm [w,x,y,z] [w,x,y,z])=[a,b,c,e] /\
  ∃ u:Int,u≠0/\u*w=a+r/\u*x=b/\u*y=c/\u*z=e:=by
 have fp:=kW nz
 rw [hp] at fp
 obtain ⟨h1,h2⟩:=zlL nz fp hr h
 have nh:∃ n∈[a+r,b,c,e],n≠0:=⟨a+r,by simp,by omega⟩
 have nw:=xC nh
 rw [hw] at nw
 refine ⟨h1,h2,?_,nw,?_,xA [a+r,b,c,e],vM nh,?_⟩
 ·rw [<- hw];exact zkX nh
 ·rw [<- hw,zaP rfl (by rw [zY];rfl) nh (xC nh),zcV rfl rfl nh nh,zyG h,wJ (by omega) nz,hp]
 ·have em:=kA (ns:=[a+r,b,c,e])
  rw [hw] at em
  generalize xA [a+r,b,c,e]=u at *
  have em:[u*w,u*x,u*y,u*z]=[a+r,b,c,e]:=em
  injection em with a0 em
  injection em with a1 em
  injection em with a2 em
  injection em with a3 em
  exact ⟨a0,a1,a2,a3⟩
end D
namespace L2
open PySem PySem.Spec PyProof.Rows
end L2
namespace D
open PySem L2 K0 Num
end D
end
namespace D
open PySem L2 K0 Num
open PySem.W (Dat)
section
section
variable {W:Addr->Prop}
end
def rb (ns ms:List Int):List Int:=fr (wX ns ms*wX ns ms) (yU ns*yU ms)
theorem zuO {f:List Int} (l:f.length=4):wX f f=yU f:=by
 obtain ⟨a0,a1,a2,a3,rfl⟩:=zU l
 exact tP _ _ _ _
end
end D
section
namespace L2
open PySem PySem.Spec PyProof.Rows
abbrev jn (sep:Str) (ys:List Str):Str:=Txt.join sep ys
def zqM (K:PySem.W.Frag):V->List V->Hp->VK->Prop:=fun x vs H Q=>∃ (sep:Str) (a:Addr) (ys:List Str),x = .str sep/\vs=[.ref a]/\SqL K H a (ys.map V.str)/\(ys.map (·.length)).sum+ys.length*sep.length<=16777216/\Q (.str (Txt.join sep ys)) H
theorem zjV:∀ {ys:List Str} {vs:List Value},Vals (ys.map V.str) vs->StrsAre vs ys
  | [],_,h=>by cases h;exact .nil
  | y::r, _, h => by
    cases h with
    | cons h1 h2 =>
      obtain ⟨t,rfl⟩:=h1
      exact .cons y t (zjV h2)
section
variable {X:Cx} {a e o:Expr} {to te ta tb:TE} {apos cpos:Pos}
theorem zyN:MtR X "str.join" (zqM X.K):=by
 intro pins s σ H x vs v us Q I rx rv h
 obtain ⟨sep,a,ys,rfl,rfl,hs,hb,q⟩:=h
 obtain ⟨t,rfl⟩:=rx
 obtain ⟨u,rfl,ru⟩:=rv.one
 cases ru
 obtain ⟨its,r,p,_⟩:=I.list hs
 exact join_list p.isList (by simpa using zjV r) hb fun t' k=>⟨.str _,H,I.tok _,⟨_,rfl⟩,q⟩
theorem zdM (ho:ZE X o to) (ha:ZE X e te) (hbase:attributeBase o "join" X.env (eval o X.env)=eval o X.env:=by rfl)
  (hfew:((backTo cpos (starEach [e] X.env)).all (fun x => !x.1) && (backToKw cpos (keywordEach [] X.env)).all (fun x=>x.1.isSome)
   && decide ([e].length+([]:List Keyword).length+(if ([]:List Keyword).isEmpty then 0 else 1)<30))=true:=by rfl)
  (hline:(apos.endLine == cpos.line)=true:=by rfl) (hs:starEach [e] X.env=(false,eval e X.env)::starEach [] X.env:=by rfl) :
  ZE X (.Call (.Attribute o "join" apos) [e] [] cpos) (tBM X.K "str" (zqM X.K) to (yN te vJ)) :=
 ⟨zlI PySem.F.plainAttrs_str PySem.F.slot_str_join (by rfl) zyN ho.out (xS ha.out zaT hs) hbase hfew hline hs⟩
end
end L2
namespace D
open PySem L2 K0 Num
open PySem.W (Dat)
section
variable {p:Option Addr} {K:PySem.W.Frag} {W:Addr->Prop} {H H0:Hp} {τ:List Sl} {te ta tb:TE}
theorem Rv.str_inv {x:Str} {v:V} (h:Rv p W K H0 H v (.dat (.str x))):v = .str x:=by cases h;rfl
theorem Dzs.strs:∀ {N:Addr->Prop} {vs:List V} {ys:List Str},Dzs N K H vs (ys.map Dat.str)->vs=ys.map V.str
  | _,_,[],h=>by cases h;rfl
  | _,_,y::r,h=>by
    cases h with
    | cons h1 h2=>cases h1;rw [Dzs.strs h2];rfl
theorem aR {x y:Str} (ha:E1 p K ta τ (.dat (.str x))) (hb:E1 p K tb τ (.dat (.str y))) (h:x.length+y.length<=sizeLine):E1 p K (wO (fun x y H Q=>∃ i j,x = .str i/\y = .str j/\i.length+j.length<=sizeLine/\Q (.str (i++j)) H) ta tb) τ (.dat (.str (x++y))) :=
 aL ha hb fun W H0 H u v Q o0 o r1 r2 q=>by
  cases r1.str_inv
  cases r2.str_inv
  exact ⟨x,y,rfl,rfl,h,q _ H aE o (.str _)⟩
theorem E1.join {sep:Str} {ys:List Str} (ha:E1 p K ta τ (.dat (.str sep))) (hb:E1 p K tb τ (.own (ys.map .str))) (h:(ys.map (·.length)).sum+ys.length*sep.length<=16777216):E1 p K (tBM K "str" (zqM K) ta (yN tb vJ)) τ (.dat (.str (jn sep ys))):=fun W L σ H Q rs o q =>
 ha W L σ H _ rs o fun v H1 s e e1 o1 rv=>by
  subst e
  cases rv.str_inv
  refine ⟨rfl,hb W L σ H1 _ (rs.ev e1 o.pw) o1 fun v2 H2 s2 e2 e3 o2 rv2=>?_⟩
  subst e2
  obtain ⟨a,vs,rfl,h0,h1,h2⟩:=rv2
  have ev:=h2.strs
  subst ev
  exact ⟨sep,a,ys,rfl,rfl,SqL.of h1,h,q _ H2 _ rfl (e1.trans e3) o2 (.str _)⟩
end
section
variable {p:Option Addr} {K:PySem.W.Frag} {W:Addr->Prop} {L:List Addr} {σ:St} {H H0 H1 H2:Hp} {τ:List Sl} {ta tb te:TE} {v:V} {s:Sl} {t u:TS}
end
end D
end
namespace D
open PySem L2 K0 Num
open PySem.W (Dat)
def vK (i:Int):Str:=toString i
theorem ygP:16777216<=sizeLine:=by decide
theorem zdU (a b:Str):(a++b).length=a.length+b.length:=by simp [Str.length,PySem.Str.cps_append]
def nd (kind:Int):Nat:=if kind=0 then 1 else if kind=4 then 3 else 2
theorem zaI (sep:Str):∀ (ys:List Str),(jn sep ys).length<=(ys.map (·.length)).sum+ys.length*sep.length:=by
 intro ys
 show (Builtin.Str.glued sep ys).length<=_
 rw [StrLaws.glued_eq_join]
 exact StrLaws.join_length_le sep ys
theorem T1.andT {p:Option Addr} {K:PySem.W.Frag} {τ:List Sl} {tt tu:TT} {c:Bool} (h:T1 p K tt τ true) (h2:T1 p K tu τ c):T1 p K (zmB tt tu) τ c:=T.and h (fun _=>h2) fun z=>by cases z
theorem T1.andF {p:Option Addr} {K:PySem.W.Frag} {τ:List Sl} {tt tu:TT} (h:T1 p K tt τ false):T1 p K (zmB tt tu) τ false:=T.and h (fun z=>by cases z) fun _=>rfl
def pw (ns:List Int):Nat->List Int
 | 0=>ns
 | k+1=>qm ns (pw ns k)
section
end
def tn (ns:List Int):Nat->List Int
 | 0=>[1,0,0,0]
 | k+1=>pl (pw ns k)
end D
section
namespace L2
open PySem PySem.Spec PyProof.Rows
inductive EntS (K:PySem.W.Frag):List DictEntry->List (Str × List Int)->Prop
 | nil:EntS K [] []
 | cons {g:Int} {x:Str} {t:Tok} {a:Addr} {o:Obj} {its:Array Value} {n:Nat} {ks:List Int} {es:List DictEntry} {D:List (Str × List Int)}:K.lookup a=some o->o.cls = .type "tuple" -> o.data = .seq its n->its.size<=sizeLine->Vals (ks.map V.int) its.toList->EntS K es D->EntS K (⟨g,.str x t,.ref a⟩::es) ((x,ks)::D)
def TabS (K:PySem.W.Frag) (d:Addr) (D:List (Str × List Int)):Prop:=∃ o es ep,K.lookup d=some o/\o.ExactDict/\o.data = .dict es ep/\EntS K es.toList D/\(d == sysModules)=false
def AtT (K:PySem.W.Frag) (ks:List Int) (v:Value):Prop:=∃ a o its n,v = .ref a/\K.lookup a=some o/\o.cls = .type "tuple" /\ o.data = .seq its n/\its.size<=sizeLine/\Vals (ks.map V.int) its.toList
theorem EntS.rows {K:PySem.W.Frag} {es:List DictEntry} {D:List (Str × List Int)} (h:EntS K es D):KTD.Rows (AtT K) es D:=by
 induction h with
 | nil=>exact .nil
 | cons h1 h2 h3 h4 h5 h6 ih=>exact .cons rfl ⟨_,_,_,_,rfl,h1,h2,h3,h4,h5⟩ ih
theorem TabS.of {X:Cx} {pins:List (Addr × Obj)} {σ:List (Option V)} {H:Hp} {s:Shared} (I:Inv X pins σ H s) {d:Addr} {D:List (Str × List Int)} (h:TabS X.K d D):KTD.TabOf (AtT X.K) s.heap d D:=by
 obtain ⟨o,es,ep,h1,h2,h3,h4,h5⟩:=h
 exact ⟨h5,o,es,ep,I.kIn d o h1,h2,h3,h4.rows⟩
theorem zfM:∀ {ks:List Int} {vs:List Value},Vals (ks.map V.int) vs->KTD.Flats vs (ks.map PyData.int)
  | [],_,h=>by cases h;exact .nil
  | k::r, _, h => by
    cases h with
    | cons h1 h2 =>
      obtain ⟨t,rfl⟩:=h1
      exact .cons (.int _ _) (zfM h2)
theorem TabS.text {X:Cx} {pins:List (Addr × Obj)} {σ:List (Option V)} {H:Hp} {s:Shared} (I:Inv X pins σ H s) {d:Addr} {D:List (Str × List Int)} (h:TabS X.K d D):KTD.TextTab s.heap d (D.map fun p=>(p.1,KTD.Dat.tup (p.2.map PyData.int))):=by
 obtain ⟨h5,o,es,ep,h1,h2,h3,h4⟩:=h.of I
 refine ⟨h5,o,es,ep,h1,h2,h3,h4.mono (f:=fun ks:List Int=>KTD.Dat.tup (ks.map PyData.int)) fun ks v ⟨a,o,its,n,e,g1,g2,g3,g4,g5⟩=>?_⟩
 exact ⟨a,its.toList,e,⟨o,I.kIn a o g1,g2,n,by simpa using g3⟩,zfM g5⟩
theorem zpP {prog:Program} {w:World} {A:Around} {E:Value->Shared->Prop} {s:Shared} {a:Addr} {K:PySem.W.Frag} {D:List (Str × List Int)} {k:Str} {tk:Tok} {ks:List Int} {Q:Option Value->Shared->Prop}
    (T:KTD.TabOf (AtT K) s.heap a D) (hk:KTD.datumAt k D=some ks) (h:∀ v,AtT K ks v->Q (some v) { s with toks:=s.toks+1 }):wpAny (model prog w) A (dictGet a (.str k tk)) Q E s:=by
  obtain ⟨_,o,es,ep,ho,hc,hd,hr⟩:=T
  obtain ⟨v,hv,hfl⟩:=hr.find_some hk
  have hq:=h v hfl
  unfold dictGet
  try with_reducible refine wpAny_holding ?_
  refine wpAny_bind (wpAny_pyHash_str (wpAny_bind (KTD.kt_dictFind_strs (s:={ s with toks:=s.toks+1 }) ho hd (by obtain ⟨l⟩:=es;simpa using hr.exact) ?_)))
  have hf:findBy (fun k v=>v.isStr k) es k=some v:=by
    rw [<- hv]
    obtain ⟨l⟩:=es
    simp [findBy]
  rw [findBy_of_findIdx?] at hf
  cases hi:es.findIdx? fun e=>e.key.isStr k with
  | none=>rw [hi] at hf;cases hf
  | some i =>
    rw [hi] at hf
    refine wpAny_bind (wpAny_dictEntries (s:={ s with toks:=s.toks+1 }) ho hd (wpAny_pure ?_))
    rw [show some v=_ from hf.symm] at hq
    exact hq
def yhC (K:PySem.W.Frag):R2:=fun x y H Q=>∃ d k D ks,x = .ref d/\y = .str k/\TabS K d D/\KTD.datumAt k D=some ks/\∀ a,SqT K H a (ks.map V.int)->Q (.ref a) H
def ybV (K:PySem.W.Frag):R2:=fun x y H Q=>∃ d k D,y = .ref d/\x = .str k/\TabS K d D/\Q (.bl (KTD.inKeys k D)) H
section
variable {X:Cx} {b:Expr} {ta tb:TE} {pos ps:Pos} {x:Str}
theorem ybY:jQ X (compareOp .In) (ybV X.K):=by
 intro pins s σ H x y v u Q I rx ry h
 obtain ⟨d,k,D,rfl,rfl,t,q⟩:=h
 obtain ⟨tk,rfl⟩:=rx
 cases ry
 refine KTD.in_text (h₀:=s.heap) ⟨t.text I,fun _ _ h=>h⟩ ?_
 have e:KTD.inKeys k (D.map fun p=>(p.1,KTD.Dat.tup (p.2.map PyData.int)))=KTD.inKeys k D:=by
  clear q t
  induction D with
  | nil=>rfl
  | cons p D ih=>show (decide (k=p.1) || _)=(decide (k=p.1) || _);rw [ih]
 rw [e]
 exact ⟨.bl _,H,I.tok _,rfl,q⟩
theorem zgY (ha:ZE X (.Name x ps) ta) (hb:ZE X b tb) (hs:qV b):ZE X (.Subscript (.Name x ps) b pos) (wO (yhC X.K) ta tb):=by
 refine ⟨?_⟩
 intro pins s σ H Q I h
 refine Subscript_ (zsT ha.out hb.out I h fun v u s2 x y H2 I2 rx ry q=>?_)
 obtain ⟨d,k,D,ks,rfl,rfl,t,hk,q⟩:=q
 obtain ⟨tk,rfl⟩:=ry
 cases rx
 have T:=t.of I2
 have hT:s2.TypeIs (.ref d) "dict" := let ⟨_,o,_,_,ho,hc,_⟩:=T;⟨o,ho,hc.1⟩
 refine subscriptTail_builtin hT slot_dict_getitem.lookup ?_ (hs _ _) (by intro _;with_unfolding_all rfl)
 unfold getItem
 try with_reducible refine wpAny_holding ?_
 refine wpAny_bind (wpAny_sequenceKey hT (by decide) ?_)
 refine wpAny_bind (wpAny_callSpecial?_slot (name:=Str.ofString "__getitem__") hT slot_dict_getitem
  (wpAny_call_entry slot_dict_getitem hT entry_dict_getitem ?_ (args_dict_getitem _ _)))
 show wpAny _ _ (dictGet d (.str k tk) >>= _) _ _ s2
 refine wpAny_bind (zpP T hk fun v hv=>wpAny_pure ⟨v,rfl,wpAny_pure ?_⟩)
 obtain ⟨a,o,its,n,rfl,g1,g2,g3,g4,g5⟩:=hv
 exact ⟨.ref a,H2,I2.tok _,rfl,q a (.inr ⟨o,its,n,g1,g2,g3,g4,g5⟩)⟩
theorem vT {st:Stmt}:ZS X st ztG:=⟨ztO⟩
end
end L2
end
section
namespace L2
open PySem PySem.Spec PyProof.Rows
def Its (x:Str):It:=⟨fun i _=>i<x.cps.size,fun i H v H'=>H'=H/\∃ c,x.cps[i]?=some c/\v = .str ⟨#[c]⟩,fun i _=>x.cps.size<=i⟩
theorem ztQ {P:Program} {w:World} {K:PySem.W.Frag} {tg:Expr} (it:Addr) (x:Str) (t:Tok):Turn P w K tg (Its x) [it] it (fun i h=>h.IsStrIter it "str_ascii_iterator" x t i) where
 mem:=by simp
 obj:=fun i h st b hb=>by
  have e:b=it:=by simpa using hb
  subst e
  obtain ⟨o,e,c,d⟩:=st
  exact ⟨o,e,fun v z=>by rw [d] at z;cases z⟩
 keep:=fun i h h' st k=>by
  obtain ⟨o,e,c,d⟩:=st
  exact ⟨o,k it (by simp) o e,c,d⟩
 item:=by
  intro X hP hw hK hc i pins s σ H E I hf st hg
  subst hP hw hK
  obtain ⟨f0,f1,f2,f3,f4,f5⟩:=hf it (by simp)
  have W:=Walks.strAscii (prog:=X.prog) (w:=X.w) (I.ok.hd hc) it x t
  refine W.item i s _ _ hg st fun v h' tk hv st' kk=>?_
  obtain ⟨c,u,hc',rfl⟩:=hv
  have I1:Inv X pins σ H { s with heap:=h',toks:=tk }:=I.turned (fun b o hb e=>kk b o (by simpa using hb) e) f0 f1 f3 f4 f5
  obtain ⟨o,e,ec,ed⟩:=id st'
  exact ⟨_,rfl,zjX (s:={ s with heap:=h',toks:=tk }) e ec ed (by decide) ⟨.str ⟨#[c]⟩,H,I1,⟨u,rfl⟩,⟨rfl,c,hc',rfl⟩,st',fun b hb=>(hf b hb).1⟩⟩
 done:=by
  intro X hP hw hK hc i pins s σ H E I hf st hg
  subst hP hw hK
  obtain ⟨f0,f1,f2,f3,f4,f5⟩:=hf it (by simp)
  exact wpAny_pyNext_ascii_end (I.ok.hd hc) st (by have:x.cps.size<=i:=hg;simpa using this) fun h' eb=>⟨rfl,I.turned (t':=s.toks) (fun b o hb e=>eb b o hb e) f0 f1 f3 f4 f5⟩
 self:=fun _ _ _ _ _ st h=>wpAny_pyIter_striter_ascii st h
def yfW (tl:TE):TI:=fun σ H R=>tl σ H fun x H1=>∃ z,x = .str z/\z.cps.all (· < 128)=true/\R (Its z) H1
section
variable {X:Cx} {tg l:Expr} {tl:TE}
theorem tO (hl:ZE X l tl):ZI X tg l (yfW tl):=by
 refine ⟨?_⟩
 intro pins s σ H R I h
 refine xQ (hl.out pins s σ H _ I h) fun v s1 ⟨x,H1,I1,r1,q1⟩=>?_
 obtain ⟨z,e,ha,q⟩:=q1
 subst e
 obtain ⟨t,rfl⟩:=r1
 refine wpAny_pyIter_ascii ha ?_
 refine ⟨s1.heap.objs.size,[s1.heap.objs.size],_,_,H1,rfl,I1.kept (t':=s1.toks) fun b o e=>Heap.get?_push_of_some _ e,ztQ _ z t,⟨_,Heap.get?_push_size _ rfl,rfl,rfl⟩,fun b hb=>?_,q⟩
 have e:b=s1.heap.objs.size:=by simpa using hb
 subst e
 exact I1.fpOk (Nat.le_refl _) (I1.hok.fresh (Nat.le_refl _))
end
end L2
namespace D
open PySem L2 K0 Num
open PySem.W (Dat)
section
variable {p:Option Addr} {K:PySem.W.Frag} {W:Addr->Prop} {H:Hp} {τ:List Sl} {te ta tb:TE}
def jZ (z:Str):List Dat:=z.cps.toList.map fun c=>.str ⟨#[c]⟩
theorem Wk.str {z:Str} (h:E1 p K te τ (.dat (.str z))) (ha:z.cps.all (· < 128)=true):Wk p K (yfW te) τ (jZ z):=fun W L σ H R r o q=>h W L σ H _ r o fun v H1 s e e1 o1 rv=>by
  subst e
  cases rv.str_inv
  refine ⟨z,rfl,ha,q _ H1 e1 o1 fun W' H' ev n=>⟨?_,fun i d hd=>?_⟩⟩
  . show z.cps.size<=(jZ z).length
    unfold jZ
    rw [List.length_map,Array.length_toList]
    exact Nat.le_refl _
  . unfold jZ at hd
    rw [List.getElem?_map,Array.getElem?_toList] at hd
    cases hc:z.cps[i]? with
    | none=>rw [hc] at hd;cases hd
    | some c =>
      rw [hc] at hd
      cases hd
      refine ⟨(Array.getElem?_eq_some_iff.mp hc).1,fun y H2 ⟨e1,c',e2,e3⟩=>?_⟩
      subst e1 e3
      rw [hc] at e2;cases e2
      exact ⟨aH _,.str _⟩
theorem aI {z:Str} {i:Int} {c:Nat} (ha:E1 p K ta τ (.dat (.str z))) (hb:E1 p K tb τ (.dat (.int i))) (hz:z.length<=sizeLine) (h:kQ z.cps.toList i=some c):E1 p K (wO ygQ ta tb) τ (.dat (.str ⟨#[c]⟩)) :=
 aL ha hb fun W H0 H x y Q o0 o r1 r2 q=>by
  cases r1.str_inv
  cases r2.int_inv
  exact ⟨z,i,c,rfl,rfl,hz,h,q _ H aE o (.str _)⟩
theorem cA {z:Str} {tas:TA} (ha:A1 p K tas τ [.dat (.str z)]) (hz:z.length<=sizeLine):E1 p K (tCB (fun xs H Q=>∃ z,xs=[.str z]/\z.length<=sizeLine/\Q (.int z.length) H) tas) τ (.dat (.int z.length)) :=
 bS ha fun W H0 H x Q o0 o _ r q=>by cases r.str_inv;exact ⟨z,rfl,hz,q _ H aE o (.int _)⟩
theorem E1.tin {k:Str} {d:Addr} {Dl:List (Str × List Int)} (t:TabS K d Dl) (ha:E1 p K ta τ (.dat (.str k))):E1 p K (wO (ybV K) ta (tC (.ref d))) τ (.dat (.bool (PyProof.Rows.KTD.inKeys k Dl))):=fun W L σ H Q rs o q=>ha W L σ H _ rs o fun v H1 s e e1 o1 rv=>by
 subst e
 cases rv.str_inv
 exact ⟨d,k,Dl,rfl,rfl,t,q _ H1 _ rfl e1 o1 (.bool _)⟩
theorem E1.tix {k:Str} {d:Addr} {Dl:List (Str × List Int)} {ks:List Int} (t:TabS K d Dl) (hb:E1 p K tb τ (.dat (.str k))) (hk:PyProof.Rows.KTD.datumAt k Dl=some ks):E1 p K (wO (yhC K) (tC (.ref d)) tb) τ (.dat (tI ks)):=fun W L σ H Q rs o q=>hb W L σ H _ rs o fun v H1 s e e1 o1 rv=>by
 subst e
 cases rv.str_inv
 exact ⟨d,k,Dl,ks,rfl,rfl,t,hk,fun a ha=>q _ H1 _ rfl e1 o1 (.tup ha (aw _))⟩
theorem S.drop {nx:List Sl->Prop} {rt:Sl->Prop} {s:Sl} (h:E1 p K te τ s) (m:nx τ):S p K (zcE te) τ nx rt:=fun W L σ H Dn r o q1 q2=>h W L σ H _ r o fun v H' s c e o' rv=>q1 W L σ H' τ m (e.ofP o) o' o'.al (fun _ h=>.inl h) (fun _ h=>.inl h) (r.ev e o.pw)
theorem S.dropS {nx:List Sl->Prop} {rt:Sl->Prop} {s:Sl} {u:TS} (h:E1 p K te τ s) (m:S p K u τ nx rt):S p K (jV (zcE te) u) τ nx rt:=S.seq (M:=fun τ'=>τ'=τ) (S.drop h rfl) fun τ' e=>by subst e;exact m
end
end D
end
section
namespace L2
open PySem PySem.Spec PyProof.Rows
def ygJ (K:PySem.W.Frag):List V->Hp->VK->Prop:=fun xs H Q=>∃ (a:Addr) (bs:List Bool),xs=[.ref a]/\SqL K H a (bs.map V.bl)/\Q (.bl (bs.all id)) H
theorem ziS:∀ (bs:List Bool),((List.range bs.length).all fun i=>(bs[i]?).getD true)=bs.all id:=by
 intro bs
 rw [Bool.eq_iff_iff]
 simp only [List.all_eq_true,List.mem_range,id]
 constructor
 ·intro h b hb
  obtain ⟨i,hi,rfl⟩:=List.getElem_of_mem hb
  have:=h i hi
  rwa [List.getElem?_eq_getElem hi] at this
 ·intro h i hi
  rw [List.getElem?_eq_getElem hi]
  exact h _ (List.getElem_mem hi)
section
variable {X:Cx} {o e:Expr}
theorem zcI (hc:X.calm=true):wZ X (.builtin "all") (ygJ X.K):=by
  intro pins s σ H xs us Q I r h
  obtain ⟨a,bs,rfl,hl,q⟩:=h
  cases r with
  | cons r1 r2 =>
    cases r2
    cases (show _=Value.ref a from r1)
    obtain ⟨its,rv,pl,_⟩:=I.list hl
    have hi:=pl.isList
    have hlt:a<s.heap.objs.size:=by obtain ⟨_,e,_⟩:=hi;exact Heap.lt_size e
    have hlen:its.length=bs.length:=by have:=rv.length;simpa using this.symm
    refine call_all_walk (wpAny_pyIter_list hi ?_)
    refine ⟨s.heap.objs.size,[s.heap.objs.size,a],[s.heap.objs.size],its.toArray.size,_,_,fun i=>(bs[i]?).getD true,rfl,Walks.list (A:=X.A.in1) (I.ok.hd hc) _ a (Nat.ne_of_lt hlt) its.toArray,
      ⟨⟨_,Heap.get?_push_size _ rfl,rfl,rfl⟩,hi.push _⟩,fun i v s' Q' E' hP hQ=>?_,fun h' tk hk=>?_⟩
    . have hP:its[i]?=some v:=by simpa using hP
      have hb:i<bs.length:=by have:=(List.getElem?_eq_some_iff.mp hP).1;omega
      obtain ⟨u,hu,ru⟩:=rv.get (x:=.bl bs[i]) (i:=i) (by rw [List.getElem?_map,List.getElem?_eq_getElem hb];rfl)
      rw [hP] at hu
      cases hu
      cases (show v=Value.bool bs[i] from ru)
      simp only [List.getElem?_eq_getElem hb,Option.getD_some] at hQ
      exact wpAny_truthy_bool hQ
    . have e:((List.range its.toArray.size).all fun i=>(bs[i]?).getD true)=bs.all id:=by
        rw [List.size_toArray,hlen];exact ziS bs
      rw [e]
      exact ⟨.bl _,H,I.kept (t':=tk) fun b x e=>hk b x (fun hm=>by rw [List.mem_singleton.mp hm] at e;exact Nat.lt_irrefl _ (Heap.lt_size e)) (Heap.get?_push_of_some _ e),rfl,q⟩
end
end L2
namespace D
open PySem L2 K0 Num
open PySem.W (Dat)
section
variable {p:Option Addr} {K:PySem.W.Frag} {τ:List Sl} {ta:TE}
theorem Dzs.bls {H:Hp}:∀ {N:Addr->Prop} {vs:List V} {bs:List Bool},Dzs N K H vs (bs.map Dat.bool)->vs=bs.map V.bl
  | _,_,[],h=>by cases h;rfl
  | _,_,y::r,h=>by
    cases h with
    | cons h1 h2=>cases h1;rw [Dzs.bls h2];rfl
theorem E1.allL {bs:List Bool} (ha:E1 p K ta τ (.own (bs.map .bool))):E1 p K (tCB (ygJ K) (yN ta vJ)) τ (.dat (.bool (bs.all id))):=fun W L σ H Q rs o q =>
 ha W L σ H _ rs o fun v H1 s e e1 o1 rv=>by
  subst e
  obtain ⟨a,vs,rfl,h0,h1,h2⟩:=rv
  have ev:=h2.bls
  subst ev
  exact ⟨a,bs,rfl,SqL.of h1,q _ H1 _ rfl e1 o1 (.bool _)⟩
end
end D
end
section
namespace L2
open PySem PySem.Spec PyProof.Rows
section
abbrev zs (h:Heap) (sx:Str) (t:Tok):Heap:=h.push { cls:=.type "str_ascii_iterator",data:=.fields #[.str sx t,.int 0 0] }
end
section
end
end L2
end
section
namespace L2
open PySem PySem.Spec PyProof.Rows
section
variable {X:Cx} {own:List Str} {scope:Scope} {C:Addr} {fp:List Addr} {s:Shared} {H:Hp}
theorem zyK:jQ (yA X own scope C fp s H) (compareOp .In) (ybV X.K):=ybY
end
def TabSAt (K:PySem.W.Frag) (x:Str) (D:List (Str × List Int)):Prop:=∃ d,PySem.W.nsIn K mainGlobals x=some (some (.ref d))/\TabS K d D
theorem TabSAt.get {K:PySem.W.Frag} {x:Str} {D:List (Str × List Int)} {h:Heap} {mg:Str->Option Value} (t:TabSAt K x D) (Y:K.In h) (G:h.Ns mainGlobals mg):∃ d,mg x=some (.ref d)/\TabS K d D:=by
 obtain ⟨d,a,t⟩:=t
 exact ⟨d,PySem.W.mg_of Y G a,t⟩
theorem EntS.three {K:PySem.W.Frag} {g:Int} {x:Str} {t:Tok} {a:Addr} {o:Obj} {p q r:Int} {t1 t2 t3:_} {n:Nat} {es:List DictEntry} {D:List (Str × List Int)} (l:K.lookup a=some o) (c:o.cls = .type "tuple") (d:o.data = .seq #[.int p t1,.int q t2,.int r t3] n) (e:EntS K es D):EntS K (⟨g,.str x t,.ref a⟩::es) ((x,[p,q,r])::D) :=
 .cons l c d (show 3<=sizeLine by decide) (.cons ⟨_,rfl⟩ (.cons ⟨_,rfl⟩ (.cons ⟨_,rfl⟩ .nil))) e
theorem TabSAt.mk {K:PySem.W.Frag} {x:Str} {D:List (Str × List Int)} {d:Addr} {o:Obj} {es:List DictEntry} {ep:Nat} (a:PySem.W.nsIn K mainGlobals x=some (some (.ref d))) (l:K.lookup d=some o) (c:o.ExactDict) (e:o.data = .dict es.toArray ep) (n:EntS K es D) (m:(d == sysModules)=false):TabSAt K x D :=
 ⟨d,a,o,_,ep,l,c,e,n,m⟩
end L2
namespace D
open PySem L2 K0 Num
open PySem.W (Dat)
section
variable {p:Option Addr} {K:PySem.W.Frag}
end
def vQ (i:Nat):Str:=⟨#[120+i]⟩
def hg (i j k:Nat):Str:=⟨#[120+i,120+j,120+k]⟩
def w1 (i:Nat):Int:=if i=0 then 1 else 0
def w2 (i:Nat):Int:=if i=1 then 1 else 0
def w3 (i:Nat):Int:=if i=2 then 1 else 0
def zrF:List (Str × List Int):=[("x",[1,0,0]),("y",[0,1,0]),("z",[0,0,1])]
def rf (i:Nat) (k l:Int):List Int:=[l,k*w1 i,k*w2 i,k*w3 i]
theorem zsK:∀ i,i<3->∀ j,j<3->∀ k,k<3->(hg i j k).cps.all (· < 128)=true:=by decide +kernel
theorem zhT:∀ i,i<3->PyProof.Rows.KTD.datumAt (vQ i) zrF=some [w1 i,w2 i,w3 i]:=by decide +kernel
theorem zhL:∀ i,i<3->PyProof.Rows.KTD.inKeys (vQ i) zrF=true:=by decide +kernel
theorem zhO:∀ i:Nat,i<3->kQ (("xyz" : Str)).cps.toList (i:Int)=some (120+i):=by decide +kernel
theorem zkJ {i j:Nat} (h:i≠j):vQ i≠vQ j:=fun z=>by
 have:(#[120+i]:Array Nat) = #[120+j]:=congrArg Str.cps z
 simp at this
 omega
theorem yaY:∀ i,i<3->Bd 1 [w1 i,w2 i,w3 i]:=by unfold Bd;decide
theorem yhY {i:Nat} (h:i<3):(w1 i=1/\w2 i=0/\w3 i=0)\/(w1 i=0/\w2 i=1/\w3 i=0)\/(w1 i=0/\w2 i=0/\w3 i=1):=by
 match i,h with
 | 0,_=>exact .inl ⟨rfl,rfl,rfl⟩
 | 1,_=>exact .inr (.inl ⟨rfl,rfl,rfl⟩)
 | 2,_=>exact .inr (.inr ⟨rfl,rfl,rfl⟩)
theorem vU {i:Nat} {k l:Int} (h:i<3) (nz:k≠0\/l≠0):∃ n∈rf i k l,n≠0:=by
 unfold rf
 rcases nz with nz|nz
 ·rcases yhY h with ⟨e1,e2,e3⟩|⟨e1,e2,e3⟩|⟨e1,e2,e3⟩ <;> rw [e1,e2,e3]
  ·exact ⟨k*1,by simp,by omega⟩
  ·exact ⟨k*1,by simp,by omega⟩
  ·exact ⟨k*1,by simp,by omega⟩
 ·exact ⟨l,by simp,nz⟩
theorem kM {i:Nat} {k l:Int} {m:Nat} (h:i<3) (b:Bd (2 ^ m) [k,l]):Bd (2 ^ m) (rf i k l):=by
 have bk:=b k (by simp)
 have bl:=b l (by simp)
 intro n hn
 unfold rf at hn
 simp only [List.mem_cons,List.mem_nil_iff,or_false] at hn
 rcases yhY h with ⟨e1,e2,e3⟩|⟨e1,e2,e3⟩|⟨e1,e2,e3⟩ <;> rw [e1,e2,e3] at hn <;> (rcases hn with rfl|rfl|rfl|rfl <;> first|omega|(simp only [Int.mul_one,Int.mul_zero];first|omega|exact Nat.zero_le _))
theorem yaH {i:Nat} {k l:Int} (h:i<3):[l,0,0,0].set (i+1) k=rf i k l:=by
 unfold rf
 match i,h with
 | 0,_=>show [l,k,0,0]=[l,k*1,k*0,k*0];simp
 | 1,_=>show [l,0,k,0]=[l,k*0,k*1,k*0];simp
 | 2,_=>show [l,0,0,k]=[l,k*0,k*0,k*1];simp
def hu (f g h:List Int):List Int:=pl (qm f (qm g h))
section
variable {f g h:List Int}
theorem zvS (l1:f.length=4) (l2:g.length=4) (l3:h.length=4) (n1:∃ n∈f,n≠0) (n2:∃ n∈g,n≠0) (n3:∃ n∈h,n≠0):pl (qm (pl f) (pl (qm (pl g) (pl h))))=hu f g h:=by
 unfold hu
 have lg:(pl g).length=4:=by rw [zY];exact l2
 have lh:(pl h).length=4:=by rw [zY];exact l3
 have lgh:=xB l2 l3
 have ngh:=vL l2 l3 n2 n3
 have l':=xB lg lh
 have n':=vL lg lh (xC n2) (xC n3)
 rw [zaP l1 (by rw [zY];exact l') n1 (xC n'),zaP l2 lh n2 (xC n3),zcV l2 l3 n2 n3,zcV l1 lgh n1 ngh]
end
def Hg (i j k:Nat):Prop:=i<3/\j<3/\k<3/\i≠j/\j≠k
def yfC:List Dat->Dat->Prop:=fun ds d=>∃ i j k:Nat,ds=[.str (hg i j k)]/\Hg i j k/\d = .bool true
def zgC:List Dat->Dat->Prop:=fun ds d=>∃ i j k:Nat,ds=[.str (hg i j k)]/\Hg i j k/\d = .none
def zcM:List Dat->(Dat->Prop)->Prop:=fun ds C=>ds=[]/\C=fun d=>∃ i j k:Nat,d = .str (hg i j k)/\Hg i j k
end D
end
section
namespace L2
open PySem PySem.Spec PyProof.Rows
inductive EntI:List DictEntry->List (Str × Int)->Prop
 | nil:EntI [] []
 | cons {g:Int} {x:Str} {t t':Tok} {v:Int} {es:List DictEntry} {D:List (Str × Int)}:EntI es D->EntI (⟨g,.str x t,.int v t'⟩::es) ((x,v)::D)
def TabI (K:PySem.W.Frag) (d:Addr) (D:List (Str × Int)):Prop:=∃ o es ep,K.lookup d=some o/\o.ExactDict/\o.data = .dict es ep/\EntI es.toList D/\(d == sysModules)=false
theorem EntI.rows {es:List DictEntry} {D:List (Str × Int)} (h:EntI es D):KTD.Rows (fun (i:Int) v=>∃ t,v=Value.int i t) es D:=by
 induction h with
 | nil=>exact .nil
 | cons h ih=>exact .cons rfl ⟨_,rfl⟩ ih
theorem TabI.of {X:Cx} {pins:List (Addr × Obj)} {σ:List (Option V)} {H:Hp} {s:Shared} (I:Inv X pins σ H s) {d:Addr} {D:List (Str × Int)} (h:TabI X.K d D):KTD.TabOf (fun (i:Int) v=>∃ t,v=Value.int i t) s.heap d D:=by
 obtain ⟨o,es,ep,h1,h2,h3,h4,h5⟩:=h
 exact ⟨h5,o,es,ep,I.kIn d o h1,h2,h3,h4.rows⟩
theorem znE {prog:Program} {w:World} {A:Around} {E:Value->Shared->Prop} {s:Shared} {a:Addr} {δ:Type} {R:δ->Value->Prop} {D:List (Str × δ)} {k:Str} {tk:Tok} {ks:δ} {Q:Option Value->Shared->Prop}
    (T:KTD.TabOf R s.heap a D) (hk:KTD.datumAt k D=some ks) (h:∀ v,R ks v->Q (some v) { s with toks:=s.toks+1 }):wpAny (model prog w) A (dictGet a (.str k tk)) Q E s:=by
  obtain ⟨_,o,es,ep,ho,hc,hd,hr⟩:=T
  obtain ⟨v,hv,hfl⟩:=hr.find_some hk
  have hq:=h v hfl
  unfold dictGet
  try with_reducible refine wpAny_holding ?_
  refine wpAny_bind (wpAny_pyHash_str (wpAny_bind (KTD.kt_dictFind_strs (s:={ s with toks:=s.toks+1 }) ho hd (by obtain ⟨l⟩:=es;simpa using hr.exact) ?_)))
  have hf:findBy (fun k v=>v.isStr k) es k=some v:=by
    rw [<- hv]
    obtain ⟨l⟩:=es
    simp [findBy]
  rw [findBy_of_findIdx?] at hf
  cases hi:es.findIdx? fun e=>e.key.isStr k with
  | none=>rw [hi] at hf;cases hf
  | some i =>
    rw [hi] at hf
    refine wpAny_bind (wpAny_dictEntries (s:={ s with toks:=s.toks+1 }) ho hd (wpAny_pure ?_))
    rw [show some v=_ from hf.symm] at hq
    exact hq
def yfT (K:PySem.W.Frag):R2:=fun x y H Q=>∃ d k D i,x = .ref d/\y = .str k/\TabI K d D/\KTD.datumAt k D=some i/\Q (.int i) H
section
variable {X:Cx} {b:Expr} {ta tb:TE} {pos ps:Pos} {x:Str}
theorem zcT (ha:ZE X (.Name x ps) ta) (hb:ZE X b tb) (hs:qV b):ZE X (.Subscript (.Name x ps) b pos) (wO (yfT X.K) ta tb):=by
 refine ⟨?_⟩
 intro pins s σ H Q I h
 refine Subscript_ (zsT ha.out hb.out I h fun v u s2 x y H2 I2 rx ry q=>?_)
 obtain ⟨d,k,D,i,rfl,rfl,t,hk,q⟩:=q
 obtain ⟨tk,rfl⟩:=ry
 cases rx
 have T:=t.of I2
 have hT:s2.TypeIs (.ref d) "dict" := let ⟨_,o,_,_,ho,hc,_⟩:=T;⟨o,ho,hc.1⟩
 refine subscriptTail_builtin hT slot_dict_getitem.lookup ?_ (hs _ _) (by intro _;with_unfolding_all rfl)
 unfold getItem
 try with_reducible refine wpAny_holding ?_
 refine wpAny_bind (wpAny_sequenceKey hT (by decide) ?_)
 refine wpAny_bind (wpAny_callSpecial?_slot (name:=Str.ofString "__getitem__") hT slot_dict_getitem
  (wpAny_call_entry slot_dict_getitem hT entry_dict_getitem ?_ (args_dict_getitem _ _)))
 show wpAny _ _ (dictGet d (.str k tk) >>= _) _ _ s2
 refine wpAny_bind (znE T hk fun v hv=>wpAny_pure ⟨v,rfl,wpAny_pure ?_⟩)
 obtain ⟨t',rfl⟩:=hv
 exact ⟨.int i,H2,I2.tok _,⟨_,rfl⟩,q⟩
end
def TabIAt (K:PySem.W.Frag) (x:Str) (D:List (Str × Int)):Prop:=∃ d,PySem.W.nsIn K mainGlobals x=some (some (.ref d))/\TabI K d D
theorem TabIAt.get {K:PySem.W.Frag} {x:Str} {D:List (Str × Int)} {h:Heap} {mg:Str->Option Value} (t:TabIAt K x D) (Y:K.In h) (G:h.Ns mainGlobals mg):∃ d,mg x=some (.ref d)/\TabI K d D:=by
 obtain ⟨d,a,t⟩:=t
 exact ⟨d,PySem.W.mg_of Y G a,t⟩
theorem TabIAt.mk {K:PySem.W.Frag} {x:Str} {D:List (Str × Int)} {d:Addr} {o:Obj} {es:List DictEntry} {ep:Nat} (a:PySem.W.nsIn K mainGlobals x=some (some (.ref d))) (l:K.lookup d=some o) (c:o.ExactDict) (e:o.data = .dict es.toArray ep) (n:EntI es D) (m:(d == sysModules)=false):TabIAt K x D :=
 ⟨d,a,o,_,ep,l,c,e,n,m⟩
end L2
namespace D
open PySem L2 K0 Num
open PySem.W (Dat)
section
variable {p:Option Addr} {K:PySem.W.Frag} {τ:List Sl} {ta tb:TE}
theorem bj {k:Str} {d:Addr} {Dl:List (Str × Int)} {i:Int} (t:TabI K d Dl) (hb:E1 p K tb τ (.dat (.str k))) (hk:PyProof.Rows.KTD.datumAt k Dl=some i):E1 p K (wO (yfT K) (tC (.ref d)) tb) τ (.dat (.int i)):=fun W L σ H Q rs o q=>hb W L σ H _ rs o fun v H1 s e e1 o1 rv=>by
 subst e
 cases rv.str_inv
 exact ⟨d,k,Dl,i,rfl,rfl,t,hk,q _ H1 _ rfl e1 o1 (.int _)⟩
theorem E1.inS {x y:Str} (ha:E1 p K ta τ (.dat (.str x))) (hb:E1 p K tb τ (.dat (.str y))):E1 p K (wO (fun x y H Q=>∃ i j,x = .str i/\y = .str j/\Q (.bl (!(Builtin.Str.occurrences j i 0 j.length 1).isEmpty)) H) ta tb) τ (.dat (.bool (!(Builtin.Str.occurrences y x 0 y.length 1).isEmpty))) :=
 aL ha hb fun W H0 H u v Q o0 o r1 r2 q=>by
  cases r1.str_inv
  cases r2.str_inv
  exact ⟨x,y,rfl,rfl,q _ H aE o (.bool _)⟩
end
def zhH:List (Str × Int):=[("x",1),("y",2),("z",3)]
theorem qY:∀ i:Nat,i<3->PyProof.Rows.KTD.datumAt (vQ i) zhH=some ((i:Int)+1):=by decide +kernel
def xF (i j:Nat):Nat:=3 - i - j
def hd (i j:Nat):Int:=if (i+1) % 3=j then 1 else -1
def zV (i j k:Nat):Int:=if i=k then 0 else hd i j
theorem zoD {i j:Nat} (hi:i<3) (hj:j<3) (h:i≠j):xF i j<3/\xF i j≠i/\xF i j≠j:=by unfold xF;omega
def kp3 (i j:Nat):Dat->Bool:=fun d=>match d with | .str z=>(!decide (z=vQ i)) && (!decide (z=vQ j))|_=>false
theorem ybW {i j:Nat} (hi:i<3) (hj:j<3) (h:i≠j):((jZ ("xyz" : Str)).filter (kp3 i j))=[.str (vQ (xF i j))]:=by
 rcases (by omega:i=0\/i=1\/i=2) with rfl|rfl|rfl <;> rcases (by omega:j=0\/j=1\/j=2) with rfl|rfl|rfl <;> first|exact absurd rfl h|rfl
theorem yhQ:∀ i,i<3->∀ j,j<3->i≠j->(!(Builtin.Str.occurrences ("xyzxy" : Str) (hg i j (xF i j)) 0 (("xyzxy" : Str)).length 1).isEmpty)=decide (hd i j=1):=by decide +kernel
def znD:List Dat->Dat->Prop:=fun ds d=>∃ i j k:Nat,ds=[.str (hg i j k)]/\Hg i j k/\d = .str (vQ (xF i j))
def zgD:List Dat->Dat->Prop:=fun ds d=>∃ i j k:Nat,ds=[.str (hg i j k)]/\Hg i j k/\d = .int (hd i j)
def zfE:List Dat->Dat->Prop:=fun ds d=>∃ i j k:Nat,ds=[.str (hg i j k)]/\Hg i j k/\d = .int (zV i j k)
def jo (k l m n:Int):List Int:=[k*n+l*m,l*n - k*m]
def zcC:List Dat->Dat->Prop:=fun ds d=>∃ (x y:Nat) (k l m n:Int),ds=[tI [k,l],tI [m,n]]/\Bt k x/\Bt l x/\Bt m y/\Bt n y/\x<9000/\y<9000/\d=tI (jo k l m n)
def ziE:List Dat->Dat->Prop:=fun ds d=>∃ k l:Int,ds=[tI [k,l]]/\d=tI [-k,l]
def wA (j:Nat) (le:Int) (ns:List Int):List Int:=qm (pl ns) (rf j (-le) 1)
def ydN:List Dat->Dat->Prop:=fun ds d=>∃ (i j k:Nat) (ns:List Int),ds=[.str (hg i j k),tI ns]/\Hg i j k/\ns.length=4/\(∃ n∈ns,n≠0)/\Bd (2 ^ 1000) ns /\
 d = .tuple [tI [(wA j (zV i j k) ns).getD (i+1) 0,(wA j (zV i j k) ns).getD 0 0],tI [hd i j*(wA j (zV i j k) ns).getD (xF i j+1) 0,(wA j (zV i j k) ns).getD (j+1) 0]]
theorem zaF (i j:Nat):hd i j=1\/hd i j = -1:=by
 unfold hd
 split
 ·exact .inl rfl
 ·exact .inr rfl
theorem kL (i j k:Nat):zV i j k=0\/zV i j k=1\/zV i j k = -1:=by
 unfold zV
 split
 ·exact .inl rfl
 ·exact .inr (zaF i j)
theorem sU {ns:List Int} (l:ns.length=4) {i:Nat} (h:i<4):kQ (ns.map Dat.int) (i:Int)=some (.int (ns.getD i 0)):=by
 refine jJ ?_
 rw [List.getElem?_map,List.getElem?_eq_getElem (by omega),List.getD_eq_getElem?_getD,List.getElem?_eq_getElem (by omega)]
 rfl
theorem wI {ns:List Int} (l:ns.length=4) {i:Nat} (h:i<4):ns.getD i 0∈ns:=by
 rw [List.getD_eq_getElem?_getD,List.getElem?_eq_getElem (by omega)]
 exact List.getElem_mem _
end D
end
namespace D
open PySem L2 K0 Num
open PySem.W (Dat)
theorem qO {a b:Int} (h:a*a+b*b=0):a=0/\b=0:=by
 have h1:=sq_nn a
 have h2:=sq_nn b
 have e1:a*a=0:=by omega
 have e2:b*b=0:=by omega
 exact ⟨by rcases Int.mul_eq_zero.mp e1 with q|q <;> exact q,by rcases Int.mul_eq_zero.mp e2 with q|q <;> exact q⟩
theorem zkG {k l m n:Int} (h1:k≠0\/l≠0) (h2:m≠0\/n≠0):k*n+l*m≠0\/l*n - k*m≠0:=by
 by_cases z:k*n+l*m=0/\l*n - k*m=0
 ·exfalso
  have e:(k*k+l*l)*(m*m+n*n)=(k*n+l*m)*(k*n+l*m)+(l*n - k*m)*(l*n - k*m):=by grind
  rw [z.1,z.2] at e
  have e':(k*k+l*l)*(m*m+n*n)=0:=by omega
  rcases Int.mul_eq_zero.mp e' with q|q
  ·obtain ⟨a,b⟩:=qO q
   rcases h1 with h|h
   ·exact h a
   ·exact h b
  ·obtain ⟨a,b⟩:=qO q
   rcases h2 with h|h
   ·exact h a
   ·exact h b
 ·by_cases y:k*n+l*m=0
  ·exact .inr fun w=>z ⟨y,w⟩
  ·exact .inl y
theorem nz2 {k l:Int} (h:k≠0\/l≠0):∃ n∈[l,k],n≠0:=by
 rcases h with h|h
 ·exact ⟨k,by simp,h⟩
 ·exact ⟨l,by simp,h⟩
theorem sm2 {k l:Int} {x:Nat} (h1:Bt k x) (h2:Bt l x) (hx:x<9000):Sm [l,k]:=xY (k:=x) (fun n hn=>by
 simp only [List.mem_cons,List.mem_nil_iff,or_false] at hn
 rcases hn with rfl|rfl
 ·exact h2
 ·exact h1) hx
def lea (i j k:Nat) (m n:Int):List Int:=ps (m*1+n*zV i j k) (n*1 - m*zV i j k)
def znN:List Dat->Dat->Prop:=fun ds d=>∃ (x i j k:Nat) (m n:Int),ds=[.str (hg i j k),tI [m,n]]/\Hg i j k/\(m≠0\/n≠0)/\Bt m x/\Bt n x/\x<8000/\d=tI (lea i j k m n)
def lok (i j k:Nat) (p q r s:Int):Dat:=if r=0/\s=0 then .tuple [.str "lock",tI (lea i j k 0 1),.str "with",tI (ps p q)] else .tuple [.str "lock",tI (lea i j k 1 0),.str "against",tI (ps r s)]
def yaC:List Dat->Dat->Prop:=fun ds d=>∃ (x i j k:Nat) (p q r s:Int),ds=[.str (hg i j k),.tuple [tI [p,q],tI [r,s]]]/\Hg i j k/\((r=0/\s=0)->p≠0\/q≠0)/\Bt p x/\Bt q x/\Bt r x/\Bt s x/\x<8000/\d=lok i j k p q r s
def xU (p q r s m n:Int):Int × Int:=if p*m+r*n=0/\q*m+s*n=0 then (p*m*0+q*m*1,q*m*0 - p*m*1) else (p*m+r*n,q*m+s*n)
def sby (i j k:Nat) (p q r s m n:Int):Dat:=.tuple [tI (ps (xU p q r s m n).1 (xU p q r s m n).2),tI (lea i j k m n),tI (ps (p*m*(xU p q r s m n).2+q*m * -(xU p q r s m n).1) (q*m*(xU p q r s m n).2 - p*m * -(xU p q r s m n).1))]
def zyL:List Dat->Dat->Prop:=fun ds d=>∃ (i j k:Nat) (p q r s m n:Int),ds=[.str (hg i j k),.tuple [tI [p,q],tI [r,s]],tI [m,n]]/\Hg i j k/\(p≠0\/q≠0)/\m≠0/\Bt p 1000/\Bt q 1000/\Bt r 1000/\Bt s 1000/\Bt m 2010/\Bt n 2010/\d=sby i j k p q r s m n
theorem zcP {p q r s m n:Int} (h:p≠0\/q≠0) (hm:m≠0):(xU p q r s m n).1≠0\/(xU p q r s m n).2≠0:=by
 unfold xU
 split
 ·show p*m*0+q*m*1≠0\/q*m*0 - p*m*1≠0
  rcases h with h|h
  ·have:=Int.mul_ne_zero h hm
   exact .inr (by omega)
  ·have:=Int.mul_ne_zero h hm
   exact .inl (by omega)
 ·rename_i z
  show p*m+r*n≠0\/q*m+s*n≠0
  by_cases y:p*m+r*n=0
  ·exact .inr fun w=>z ⟨y,w⟩
  ·exact .inl y
end D
section
namespace L2
open PySem PySem.Spec PyProof.Rows
open PySem.W (KatLex KatGo KatTups KasT kas_sort kas_ask KasFin UpdF kas_asc)
def rlt:List (List Int)->List (List Int)->Bool
 | x::xs,y::ys=>if x=y then rlt xs ys else HT.lexLt x y
 | _,_=>false
def TupsAt (h:Heap):List Addr->List (List Int)->Prop
 | [],[]=>True
 | a::as,r::rows=>(∃ its:Array Value,IsTup h a its/\IntsAre its.toList r)/\TupsAt h as rows
 | _,_=>False
theorem qB {P:Program} {w:World}:∀ {ks:List Int} {vs:List Value},IntsAre vs ks->ItemsAre (intKind P w) ks vs
 | _,_,.nil=>.nil
 | _,_,.cons n t h=>.cons (by show Value.isInt n (.int n t)=true;simp [Value.isInt]) (qB h)
section
variable {prog:Program} {w:World} {A:Around} {E:Value->Shared->Prop} {s:Shared}
theorem zbJ (hu:A.units<cLine) {Q:Bool->Shared->Prop}:∀ {as bs:List Addr} {xs ys:List (List Int)} {i:Nat},TupsAt s.heap as xs->TupsAt s.heap bs ys->as.length=bs.length->Q (rlt xs ys) s ->
    KatLex prog w A false false Q ((as.map Value.ref).zip (bs.map Value.ref)) i s
  | [],[],[],[],i,_,_,_,h=>PySem.W.kat_nil h
  | a::as, b::bs, x::xs, y::ys, i, h1, h2, hl, h => by
    obtain ⟨⟨its,t1,i1⟩,h1⟩:=h1
    obtain ⟨⟨its2,t2,i2⟩,h2⟩:=h2
    obtain ⟨o,ho,hc,n,hd⟩:=id t1
    obtain ⟨o2,ho2,hc2,n2,hd2⟩:=id t2
    refine PySem.W.kat_cons (wpAny_eqBool_tuple (knd:=intKind prog w) (x:=x) (y:=y) hu ⟨o,its,n,ho,hc,hd,qB i1⟩ ⟨o2,its2,n2,ho2,hc2,hd2,qB i2⟩ ?_)
    refine PySem.W.kat_go (fun e=>PySem.W.kat_yes ?_) (fun e=>PySem.W.kat_no ?_)
    . have e:=of_decide_eq_true e
      refine zbJ hu h1 h2 (by simpa using hl) ?_
      have:rlt (x::xs) (y::ys)=rlt xs ys:=by show (if x=y then _ else _)=_;rw [if_pos e]
      rw [this] at h
      exact h
    . have e:=of_decide_eq_false e
      have:rlt (x::xs) (y::ys)=HT.lexLt x y:=by show (if x=y then _ else _)=_;rw [if_neg e]
      rw [this] at h
      exact PySem.W.kat_one _ _ (HT.lt_tupInts t1 t2 i1 i2 hu (show PySem.W.BoolBack Q (.bool (HT.lexLt x y)) s from h))
  | [],_::_,_,_,_,_,_,hl,_=>by cases hl
  | _::_,[],_,_,_,_,_,hl,_=>by cases hl
  | [],[],_::_,_,_,h1,_,_,_=>h1.elim
  | [],[],[],_::_,_,_,h2,_,_=>h2.elim
  | _::_,_::_,[],_,_,h1,_,_,_=>h1.elim
  | _::_,_::_,_::_,[],_,_,h2,_,_=>h2.elim
theorem zlT {cmp:Nat->Nat->(Bool->Shared->Prop)->Shared->Prop} {Q:Array Nat->Shared->Prop} (h:cmp 1 0 (fun c s'=>if c=true then Q #[1,0] s' else Q #[0,1] s') s):(kas_sort 2).kasWp cmp Q s:=by
 have e:(kas_sort 2).kasWp cmp Q s=cmp 1 0 (fun c s'=>if c=true then Q #[1,0] s' else Q #[0,1] s') s:=by
  show cmp 1 0 _ s=cmp 1 0 _ s
  congr 1
  funext c s'
  cases c
  ·rfl
  ·rfl
 rw [e];exact h
end
def ydK (K:PySem.W.Frag) (H:Hp) (p:Addr) (rows:List (List Int)):Prop:=∃ as:List Addr,SqT K H p (as.map V.ref)/\as.length=rows.length/\∀ (i:Nat) (a:Addr) (r:List Int),as[i]?=some a->rows[i]?=some r->SqT K H a (r.map V.int)
theorem sR:∀ {as:List Addr} {vs:List Value},Vals (as.map V.ref) vs->vs=as.map Value.ref
  | [],_,h=>by cases h;rfl
  | a::as, _, h => by
    cases h with
    | cons h1 h2 =>
      cases (show _=Value.ref a from h1)
      rw [sR h2];rfl
theorem zdB {X:Cx} {pins:List (Addr × Obj)} {σ:List (Option V)} {H:Hp} {s:Shared} (I:Inv X pins σ H s):∀ {as:List Addr} {rows:List (List Int)},as.length=rows.length->(∀ (i:Nat) (a:Addr) (r:List Int),as[i]?=some a->rows[i]?=some r->SqT X.K H a (r.map V.int))->TupsAt s.heap as rows
  | [],[],_,_=>trivial
  | a::as,r::rows,l,h=>by
    obtain ⟨its,rv,p,_⟩:=I.tuple (h 0 a r rfl rfl)
    exact ⟨⟨its.toArray,p,by simpa using jF rv⟩,zdB I (by simpa using l) fun i b q h1 h2=>h (i+1) b q h1 h2⟩
  | [],_::_,l,_=>by cases l
  | _::_,[],l,_=>by cases l
theorem TupsAt.keep {h h':Heap}:∀ {as:List Addr} {rows:List (List Int)},TupsAt h as rows->(∀ a its,IsTup h a its->IsTup h' a its)->TupsAt h' as rows
 | [],[],_,_=>trivial
 | a::as,r::rows,⟨⟨its,t,i⟩,q⟩,k=>⟨⟨its,k a its t,i⟩,q.keep k⟩
 | [],_::_,x,_=>x.elim
 | _::_,[],x,_=>x.elim
def ztK (K:PySem.W.Frag):List V->Hp->VK->Prop:=fun xs H Q=>∃ l p q x y,xs=[.ref l]/\SqL K H l [.ref p,.ref q]/\ydK K H p x/\ydK K H q y/\0<x.length/\x.length=y.length/\∀ D,H D=none->Q (.ref D) (upd H D (.lst (if rlt y x then [.ref q,.ref p] else [.ref p,.ref q])))
theorem zsP {P:Program} {w:World} {H:Hp} {h:Heap} {a:Addr} {o:HO} (x:ObjOk P w H h a o):∃ ob,h.get? a=some ob:=by
 cases o with
 | lst xs=>obtain ⟨_,_,_,_,e⟩:=x;exact ⟨_,e⟩
 | tup xs=>obtain ⟨_,_,_,ob,e,_⟩:=x;exact ⟨_,e⟩
 | dK kvs=>obtain ⟨_,_,_,_,o,_,_,e,_⟩:=x;exact ⟨_,e⟩
 | dT kvs=>obtain ⟨_,_,_,_,o,_,_,e,_⟩:=x;exact ⟨_,e⟩
 | set S n=>obtain ⟨o,_,_,_,e,_⟩:=x;exact ⟨_,e⟩
 | ins C dx fs=>obtain ⟨_,_,_,e,_⟩:=x;exact ⟨_,e⟩
 | own y=>obtain ⟨_,e⟩:=x;exact ⟨_,e⟩
 | xd fs=>obtain ⟨_,⟨_,_,_,e,_⟩,_⟩:=x;exact ⟨_,e⟩
 | rng lo hi=>obtain ⟨_,_,_,e⟩:=x;exact ⟨_,e⟩
 | frz ob u=>obtain ⟨e,_⟩:=x;exact ⟨_,e⟩
 | tbl ps=>exact ⟨_,show h.get? a=some _ from x⟩
 | met f y=>exact ⟨_,show h.get? a=some _ from x⟩
 | ext φ=>obtain ⟨_,⟨_,e⟩,_⟩:=x;exact ⟨_,e⟩
section
variable {X:Cx}
theorem zlG {pins:List (Addr × Obj)} {σ:List (Option V)} {H:Hp} {s:Shared} (I:Inv X pins σ H s) {D:Addr} (hD:s.heap.get? D=none):H D=none:=by
 cases e:H D with
 | none=>rfl
 | some u=>obtain ⟨ob,q⟩:=zsP (I.hok D u e);rw [hD] at q;cases q
theorem zjI {pins:List (Addr × Obj)} {σ:List (Option V)} {H:Hp} {s:Shared} (I:Inv X pins σ H s) {m:Str->Option Value} {h':Heap} {D c:Nat} {out:List V} {its:List Value} (hl:out.length<=sizeLine) (rv:Vals out its) (hD:s.heap.get? D=none)
  (hn:∀ m,s.heap.Ns X.env.locals m->h'.Ns X.env.locals m) (hk:∀ b o,b≠X.env.locals->s.heap.get? b=some o->h'.get? b=some o) (hd:h'.get? D=some { cls:=.type "list",data:=.seq its.toArray c }):Inv X pins σ (upd H D (.lst out)) { s with heap:=h' }:=by
 have hHD:H D=none:=zlG I hD
 have trk:∀ b u,H b=some u->b≠X.env.locals:=fun b u e z=>by rw [z,I.free] at e;cases e
 refine I.step (g':=s.gens) (d':=s.drawn) (t':=s.toks) (ch:=[]) (fun b hb=>nomatch hb) (fun b o n _ _ e _=>hk b o n e) (fun b o n _ _ e _=>⟨o.slots,hk b o n e⟩) (fun b o _ e n=>?_) (fun b o _ e=>?_) (fun b xs e=>?_) (fun b o u e=>?_) (fun b ps e=>⟨#[],?_⟩) hn (fun b v e=>?_) I.bare
 ·rw [zP (fun z=>by rw [z,hD] at e;cases e)];exact n
 ·by_cases z:b=X.env.locals
  ·obtain ⟨m,hm,_⟩:=I.loc
   obtain ⟨o',_,_,ho',_⟩:=hn m hm
   exact ⟨o',z ▸ ho'⟩
  ·exact ⟨o,hk b o z e⟩
 ·rw [zP (zZ e hHD)];exact e
 ·rw [zP (zZ e hHD)];exact e
 ·rw [zP (zZ e hHD),e];simp
 ·by_cases z:b=D
  ·subst z
   rw [zJ] at e;cases e
   exact ⟨hl,its,c,rv,hd⟩
  ·rw [zP z] at e
   refine (I.hok b v e).stay (fun d o hd q=>hk d o ?_ q) (fun d q=>by rw [zP (zZ q hHD)];exact q) fun d ts q=>by rw [zP (zZ q hHD)];exact q
   rcases hd with rfl|hd
   ·exact trk _ _ e
   ·exact trk _ _ hd
theorem zeI (hu:X.A.units+64<cLine):wZ X (.builtin "sorted") (ztK X.K):=by
  intro pins s σ H xs us Q I r h
  obtain ⟨l,p,q,x,y,rfl,hl,⟨as,sp,la,ha⟩,⟨bs,sq,lb,hb⟩,h0,hxy,k⟩:=h
  cases r with
  | cons r1 r2 =>
    cases r2
    cases (show _=Value.ref l from r1)
    obtain ⟨its,rv,pl,_⟩:=I.list hl
    have ei:its=[Value.ref p,Value.ref q]:=sR (as:=[p,q]) rv
    subst ei
    obtain ⟨ps,rp,tp,_⟩:=I.tuple sp
    obtain ⟨qs,rq,tq,_⟩:=I.tuple sq
    have ep:=sR rp
    have eq:=sR rq
    subst ep eq
    obtain ⟨m,hm,_⟩:=I.loc
    have lt:X.env.locals<s.heap.objs.size:=I.lt
    have nt:∀ {a:Addr} {its:Array Value},IsTup s.heap a its->a≠X.env.locals:=fun {a its} ⟨o,ho,_,n,hd⟩ z=>by
      obtain ⟨o',es,ep,ho',hd',_⟩:=hm
      rw [<- z,ho] at ho'
      cases ho'
      rw [hd] at hd';cases hd'
    refine PySem.W.kat_sorted (h₀:=Att.noObjs s.heap) (L:=X.env.locals) (m:=m) (news:=Att.ledger s.heap X.env.locals X.env.locals) (vs:=[Value.ref p,Value.ref q]) (Att.fr_all hm) (fun ⟨b,o⟩ hp=>by
      obtain ⟨n1,_,e⟩:=Att.mem_ledger.mp hp
      exact ⟨e,n1,Att.noObjs_get _ _⟩) pl.isList (by show 2<=2;decide) (by show 2<64;decide) fun D e1_ h' F' N' lD=>?_
    have kp:∀ b o,b≠X.env.locals->s.heap.get? b=some o->h'.get? b=some o:=fun b o n e=>(N' (b,o) (List.mem_cons_of_mem _ (Att.mem_ledger.mpr ⟨n,n,e⟩))).1
    have kt:∀ a its,IsTup s.heap a its->IsTup h' a its:=fun a its t=>by
      have n:=nt t
      obtain ⟨o,ho,r⟩:=t
      exact ⟨o,kp a o n ho,r⟩
    have TA:=(zdB I la ha).keep kt
    have TB:=(zdB I lb hb).keep kt
    have tp':=kt _ _ tp
    have tq':=kt _ _ tq
    obtain ⟨op,hop,hcp,np,hdp⟩:=id tp'
    obtain ⟨oq,hoq,hcq,nq,hdq⟩:=id tq'
    have hD:s.heap.get? D=none:=by
      cases e:s.heap.get? D with
      | none=>rfl
      | some o =>
        have n:=(N' (D,_) List.mem_cons_self).2.1
        exact absurd (lD (D,o) (Att.mem_ledger.mpr ⟨n,n,e⟩)) (Nat.lt_irrefl _)
    have hHD:=zlG I hD
    have kk:=k D hHD
    cases as with
    | nil=>simp at la;omega
    | cons a0 as =>
    cases bs with
    | nil=>simp at lb;omega
    | cons b0 bs =>
    cases x with
    | nil=>simp at la
    | cons x0 x =>
    cases y with
    | nil=>simp at lb
    | cons y0 y =>
    have ta0:=TA.1
    have tb0:=TB.1
    have e0:(Value.type "tuple" != Value.type "tuple")=false:=by decide
    refine PySem.W.kat_kind (s:={ s with heap:=h' }) (fs:=[Value.ref a0,Value.ref b0]) (T:=.type "tuple") (PySem.W.KatTups.cons hop hcp hdp rfl (PySem.W.KatTups.cons hoq hcq hdq rfl PySem.W.KatTups.nil)) (by show 0<2;decide) (fun v hv=>?_) (by decide) ?_
    . obtain ⟨i1,⟨o1,ho1,hc1,_⟩,_⟩:=ta0
      obtain ⟨i2,⟨o2,ho2,hc2,_⟩,_⟩:=tb0
      simp only [List.mem_cons,List.mem_nil_iff,or_false] at hv
      rcases hv with rfl|rfl
      . exact fun A Q E s2 kp2 hq=>wpAny_typeOf ⟨o1,kp2 _ _ ho1,hc1⟩ hq
      . exact fun A Q E s2 kp2 hq=>wpAny_typeOf ⟨o2,kp2 _ _ ho2,hc2⟩ hq
    rw [e0]
    refine zlT ?_
    have ln:(b0::bs).length=(a0::as).length:=by rw [la,lb];exact hxy.symm
    have e1:decide ((List.map Value.ref (b0::bs)).toArray.size<(List.map Value.ref (a0::as)).toArray.size)=false:=by
      rw [List.size_toArray,List.size_toArray,List.length_map,List.length_map,ln];simp
    refine PySem.W.kat_lt (s:={ s with heap:=h' }) hoq hdq hop hdp ?_
    rw [e1]
    refine zbJ (show X.A.units+1+1<cLine by omega) TB TA ln ?_
    have fin:∀ (out:List V) (its:List Value),out.length<=sizeLine->Vals out its->Q (.ref D) (upd H D (.lst out))->KasFin (Att.noObjs s.heap) X.env.locals m D e1_ its (fun s3=>EP X pins σ Q (.ref D) s3) { s with heap:=h' }:=fun out its ho rv hq =>
      PySem.W.KasFin.intro F' N' (UpdF.head fun q hq=>Nat.ne_of_lt (lD q hq)) fun h2 c F2 N2=>⟨.ref D,_,zjI (m:=m) I ho rv hD (fun m' hm'=>by have:=hm'.eq_nsMap.trans hm.eq_nsMap.symm;rw [this];exact F2.ns) (fun b o n e=>(N2 (b,o) (List.mem_cons_of_mem _ (Att.mem_ledger.mpr ⟨n,n,e⟩))).1) (N2 _ List.mem_cons_self).1,rfl,hq⟩
    by_cases z:rlt (y0::y) (x0::x)=true
    . rw [if_pos z] at kk ⊢
      exact fin [.ref q,.ref p] [.ref q,.ref p] (by show 2<=sizeLine;decide) (.cons (show Value.ref q=Value.ref q from rfl) (.cons (show Value.ref p=Value.ref p from rfl) .nil)) kk
    . rw [if_neg z] at kk ⊢
      exact fin [.ref p,.ref q] [.ref p,.ref q] (by show 2<=sizeLine;decide) (.cons (show Value.ref p=Value.ref p from rfl) (.cons (show Value.ref q=Value.ref q from rfl) .nil)) kk
end
end L2
end
namespace D
open PySem L2 K0 Num
open PySem.W (Dat)
section
def wS (x:List (List Int)):Dat:=.tuple (x.map tI)
section
variable {p:Option Addr} {K:PySem.W.Frag} {τ:List Sl} {ta:TE}
theorem Dzs.ints_inv {N:Addr->Prop} {H:Hp}:∀ {vs:List V} {ns:List Int},Dzs N K H vs (ns.map Dat.int)->vs=ns.map V.int
  | _,[],h=>by cases h;rfl
  | _,n::r,h=>by
    cases h with
    | cons h1 h2=>cases h1;rw [Dzs.ints_inv h2];rfl
theorem zkZ {N:Addr->Prop} {H:Hp}:∀ {vs:List V} {x:List (List Int)},Dzs N K H vs (x.map tI)->∃ as:List Addr,vs=as.map V.ref/\as.length=x.length/\∀ (i:Nat) (a:Addr) (r:List Int),as[i]?=some a->x[i]?=some r->SqT K H a (r.map V.int)
  | _,[],h=>by cases h;exact ⟨[],rfl,rfl,fun i a r h=>by cases h⟩
  | _,r::x,h=>by
    cases h with
    | cons h1 h2 =>
      obtain ⟨as,e,l,q⟩:=zkZ h2
      subst e
      cases h1 with
      | tup g1 g2 =>
        rename_i a xs
        have ex:=g2.ints_inv
        subst ex
        refine ⟨a::as,rfl,by rw [List.length_cons,List.length_cons,l],fun i b r' h3 h4=>?_⟩
        cases i with
        | zero=>cases h3;cases h4;exact g1
        | succ i=>exact q i b r' h3 h4
theorem zzU {N:Addr->Prop} {H:Hp} {v:V} {x:List (List Int)} (h:Dz N K H v (wS x)):∃ a,v = .ref a/\ydK K H a x:=by
  cases h with
  | tup h1 h2 =>
    obtain ⟨as,e,l,q⟩:=zkZ h2
    subst e
    exact ⟨_,rfl,as,h1,l,q⟩
theorem E1.sort2 {x y:List (List Int)} (ha:E1 p K ta τ (.own [wS x,wS y])) (h0:0<x.length) (hxy:x.length=y.length):E1 p K (tCB (ztK K) (yN ta vJ)) τ (.own (if rlt y x then [wS y,wS x] else [wS x,wS y])):=fun W L σ H Q rs o q =>
  ha W L σ H _ rs o fun v H1 s e e1 o1 rv=>by
    subst e
    obtain ⟨a,vs,rfl,h1,h2,h3⟩:=rv
    cases h3 with
    | cons z1 t =>
      cases t with
      | cons z2 t =>
        cases t
        obtain ⟨b,rfl,r1⟩:=zzU z1
        obtain ⟨c,rfl,r2⟩:=zzU z2
        refine ⟨a,b,c,x,y,rfl,SqL.of h2,r1,r2,h0,hxy,fun D hD=>?_⟩
        have sm:=Same.new hD (.lst (if rlt y x then [V.ref c,V.ref b] else [V.ref b,V.ref c]))
        refine q _ _ _ rfl (e1.trans (Ev.of sm)) (o1.same sm) ⟨D,_,rfl,o1.back e1 hD,zJ,?_⟩
        have ev:Ev (fun _=>False) H1 (upd H1 D (.lst (if rlt y x then [V.ref c,V.ref b] else [V.ref b,V.ref c]))):=Ev.of sm
        have y1:=z1.ev (W:=fun _=>False) ev fun _ _ z=>z
        have y2:=z2.ev (W:=fun _=>False) ev fun _ _ z=>z
        by_cases z:rlt y x=true
        . rw [if_pos z] at y1 y2 ⊢
          rw [if_pos z]
          exact .cons y2 (.cons y1 .nil)
        . rw [if_neg z] at y1 y2 ⊢
          rw [if_neg z]
          exact .cons y1 (.cons y2 .nil)
end
end
def jI (i j k:Nat) (p q r s m n:Int):List (List Int):=[ps (xU p q r s m n).1 (xU p q r s m n).2,lea i j k m n,ps (p*m*(xU p q r s m n).2+q*m * -(xU p q r s m n).1) (q*m*(xU p q r s m n).2 - p*m * -(xU p q r s m n).1)]
theorem zkB {i j k:Nat} {p q r s m n:Int}:sby i j k p q r s m n=wS (jI i j k p q r s m n):=rfl
def SofA (i j k:Nat) (p q r s:Int) (d:Dat):Prop :=
 ((p*p+q*q)*(r*r+s*s)=0/\d=lok i j k p q r s) \/
 ((p*p+q*q)*(r*r+s*s)≠0/\(∀ t:Int,t*t≠(p*p+q*q)*(r*r+s*s))/\d = .tuple [.str "none",.int ((p*p+q*q)*(r*r+s*s))]) \/
 (∃ t:Int,0<t/\t*t=(p*p+q*q)*(r*r+s*s)/\d=if rlt (jI i j k p q r s (-t) (p*p+q*q)) (jI i j k p q r s t (p*p+q*q)) then .tuple [.str "set",sby i j k p q r s (-t) (p*p+q*q),sby i j k p q r s t (p*p+q*q)] else .tuple [.str "set",sby i j k p q r s t (p*p+q*q),sby i j k p q r s (-t) (p*p+q*q)])
def yaE:List Dat->Dat->Prop:=fun ds d=>∃ (i j k:Nat) (ns:List Int),ds=[.str (hg i j k),tI ns]/\Hg i j k/\ns.length=4/\(∃ n∈ns,n≠0)/\Bd (2 ^ 300) ns /\
 SofA i j k ((wA j (zV i j k) ns).getD (i+1) 0) ((wA j (zV i j k) ns).getD 0 0) (hd i j*(wA j (zV i j k) ns).getD (xF i j+1) 0) ((wA j (zV i j k) ns).getD (j+1) 0) d
theorem zzZ (a b c d:Int):wX [a,b] [c,d]=a*c+b*d:=by simp [wX]
theorem zzE {i j k:Nat} {ns:List Int} (h:Hg i j k) (l:ns.length=4) (nz:∃ n∈ns,n≠0):¬ ((wA j (zV i j k) ns).getD (i+1) 0=0/\(wA j (zV i j k) ns).getD 0 0=0/\hd i j*(wA j (zV i j k) ns).getD (xF i j+1) 0=0/\(wA j (zV i j k) ns).getD (j+1) 0=0):=by
 obtain ⟨hi,hj,hk,ij,jk⟩:=h
 rintro ⟨h1,h2,h3,h4⟩
 have h3:(wA j (zV i j k) ns).getD (xF i j+1) 0=0:=by
  rcases Int.mul_eq_zero.mp h3 with z|z
  ·rcases zaF i j with e|e <;> rw [e] at z <;> cases z
  ·exact z
 have lp:(pl ns).length=4:=by rw [zY];exact l
 have lq:(wA j (zV i j k) ns).length=4:=xB lp rfl
 obtain ⟨n,hn,h0⟩:=vL (ms:=rf j (-zV i j k) 1) lp rfl (xC nz) (vU hj (.inr (by decide)))
 obtain ⟨a,b,c,d,e⟩:=zU lq
 have hn:n∈wA j (zV i j k) ns:=hn
 rw [e] at h1 h2 h3 h4 hn
 have ha:a=0:=h2
 have key:∀ m,m<3->[a,b,c,d].getD (m+1) 0=0:=fun m hm=>by
  have:m=i\/m=j\/m=xF i j:=by unfold xF;omega
  rcases this with rfl|rfl|rfl
  ·exact h1
  ·exact h4
  ·exact h3
 have hb:b=0:=key 0 (by decide)
 have hc:c=0:=key 1 (by decide)
 have hd':d=0:=key 2 (by decide)
 subst ha hb hc hd'
 simp only [List.mem_cons,List.mem_nil_iff,or_false,or_self] at hn
 exact h0 hn
theorem zvN (x:List (List Int)):tF (wS x)=true:=by
  show xR (x.map tI)=true
  induction x with
  | nil=>rfl
  | cons a r ih =>
    show (tF (tI a) && xR (r.map tI))=true
    rw [ih]
    have:tF (tI a)=true:=yV a
    rw [this];rfl
section
section
variable {p:Option Addr}
end
theorem zrU {α:Type} {x:α} {r:List α}:kQ (x::r) 0=some x:=by
 unfold kQ ixN
 rw [if_pos (by decide),if_pos (by rw [List.length_cons];omega)]
 rfl
def Sof (i j k:Nat) (ns:List Int) (d:Dat):Prop:=SofA i j k ((wA j (zV i j k) ns).getD (i+1) 0) ((wA j (zV i j k) ns).getD 0 0) (hd i j*(wA j (zV i j k) ns).getD (xF i j+1) 0) ((wA j (zV i j k) ns).getD (j+1) 0) d
theorem SofA.ex (i j k:Nat) (p q r s:Int):∃ d,SofA i j k p q r s d:=by
 by_cases h:(p*p+q*q)*(r*r+s*s)=0
 ·exact ⟨_,.inl ⟨h,rfl⟩⟩
 by_cases g:∃ t:Int,t*t=(p*p+q*q)*(r*r+s*s)
 ·obtain ⟨t,ht⟩:=g
  have t0:t≠0:=fun e=>h (by rw [<- ht,e];rfl)
  rcases Int.lt_or_gt_of_ne t0 with l|l
  ·exact ⟨_,.inr (.inr ⟨-t,by omega,by rw [Int.neg_mul_neg];exact ht,rfl⟩)⟩
  ·exact ⟨_,.inr (.inr ⟨t,l,ht,rfl⟩)⟩
 ·exact ⟨_,.inr (.inl ⟨h,fun t ht=>g ⟨t,ht⟩,rfl⟩)⟩
end
section
def Pu3 (N:Nat) (H:Hp) (q:Addr):Prop:=∃ x c n:Int,H q=some (.lst [.int x,.int c,.int n])/\0<=n/\n<=N
structure P3 (q:Addr) (ip N:Nat) (W:Addr->Prop) (L:List Addr) (σ:St) (H:Hp):Prop where
 wq:W q
 lq:q ∉ L
 sq:σ[ip]?=some (some (.ref q))
 pu:Pu3 N H q
section
variable (q:Addr) (ip N M:Nat) (K:PySem.W.Frag)
def T2 (tt:TT) (τ:List Sl) (C:Bool->Prop):Prop:=∀ (W:Addr->Prop) (L:List Addr) (σ:St) (H:Hp) (Q:Bool->Hp->Prop),Rs none W K H L σ τ->Ok none W H->P3 q ip N W L σ H->(∀ b H',C b->Ev (fun a=>a=q) H H'->Ok none W H'->Pu3 M H' q->Q b H')->tt σ H Q
def S2 (ts:TS) (τ:List Sl) (nx:List Sl->Prop) (rt:Sl->Prop):Prop:=∀ (W:Addr->Prop) (L:List Addr) (σ:St) (H:Hp) (D:Ends),Rs none W K H L σ τ->Ok none W H->P3 q ip N W L σ H ->
 (∀ (W':Addr->Prop) (L':List Addr) σ' H' τ',nx τ'->Ev W H H'->Ok none W' H'->(∀ a,W a->∃ ys,H' a=some ys)->(∀ a,W' a->W a\/H a=none)->(∀ a,a∈L'->a∈L\/H a=none)->Rs none W' K H' L' σ' τ'->P3 q ip M W' L' σ' H'->D.nx σ' H') ->
 (∀ (W':Addr->Prop) H' v s,rt s->Ev W H H'->Ok none W' H'->(∀ a,W a->∃ ys,H' a=some ys)->(∀ a,W' a->W a\/H a=none)->Rr none W' K L H H' v s->Pu3 M H' q->D.rt v H')->ts D σ H
end
section
variable {q:Addr} {ip N M:Nat} {K:PySem.W.Frag} {W:Addr->Prop} {L:List Addr} {σ:St} {H H':Hp} {τ τ':List Sl} {v:V} {s:Sl} {nx:List Sl->Prop} {rt:Sl->Prop} {tt:TT}
end
end
end D
section
namespace L2
open PySem PySem.Spec PyProof.Rows
end L2
namespace D
open PySem L2 K0 Num
open PySem.W (Dat)
section
variable {q:Addr} {ip N M:Nat} {K:PySem.W.Frag} {W:Addr->Prop} {L:List Addr} {σ:St} {H H1:Hp} {τ:List Sl} {ds:List Dat} {wi:TI}
def W2 (q:Addr) (ip N M:Nat) (K:PySem.W.Frag) (wi:TI) (τ:List Sl) (P:List Dat->Prop):Prop:=∀ (W:Addr->Prop) (L:List Addr) (σ:St) (H:Hp) (R:It->Hp->Prop),Rs none W K H L σ τ->Ok none W H->P3 q ip N W L σ H->(∀ ds J H1,P ds->Ev (fun a=>a=q) H H1->Ok none W H1->Pu3 M H1 q->Jd W K J H1 ds->R J H1)->wi σ H R
end
end D
end
namespace D
open PySem L2 K0 Num
open PySem.W (Dat)
section
theorem wP {i j k:Nat} (h:Hg i j k) (a b c e f g:Int) :
    (qm (qm (rf i a b) (qm (rf j c e) (rf k f g))) (rf j (-zV i j k) 1)).getD (i+1) 0=(e+zV i j k*c)*(a*g+b*f) /\
    (qm (qm (rf i a b) (qm (rf j c e) (rf k f g))) (rf j (-zV i j k) 1)).getD 0 0=(e+zV i j k*c)*(b*g - a*f) /\
    hd i j*(qm (qm (rf i a b) (qm (rf j c e) (rf k f g))) (rf j (-zV i j k) 1)).getD (xF i j+1) 0=(c - zV i j k*e)*(a*g - b*f) /\
    (qm (qm (rf i a b) (qm (rf j c e) (rf k f g))) (rf j (-zV i j k) 1)).getD (j+1) 0=(c - zV i j k*e)*(b*g+a*f):=by
  obtain ⟨hi,hj,hk,ij,jk⟩:=h
  rcases (by omega:i=0\/i=1\/i=2) with rfl|rfl|rfl <;> rcases (by omega:j=0\/j=1\/j=2) with rfl|rfl|rfl <;> rcases (by omega:k=0\/k=1\/k=2) with rfl|rfl|rfl <;>
    first
    | exact absurd rfl ij
    | exact absurd rfl jk
    | (simp only [zV,hd,xF,rf,w1,w2,w3,qm,List.getD,List.getElem?_cons_zero,List.getElem?_cons_succ,Option.getD_some]
       simp
       refine ⟨?_,?_,?_,?_⟩ <;> grind)
theorem qT {a b:Int} (h:a≠0\/b≠0):0<a*a+b*b:=by
 have h1:=sq_nn a
 have h2:=sq_nn b
 by_cases k:a*a+b*b=0
 ·obtain ⟨x,y⟩:=qO k
  rcases h with h|h
  ·exact absurd x h
  ·exact absurd y h
 ·omega
section
variable {a b c e f g:Int} {i j k:Nat}
end
end
section
theorem zlA {u:Int} {x y:List Int} (h1:x.length=4) (h2:y.length=4):qm (x.map (u * ·)) y=(qm x y).map (u * ·):=by
 obtain ⟨a,b,c,d,rfl⟩:=zU h1
 obtain ⟨f,g,h,i,rfl⟩:=zU h2
 show [_,_,_,_]=[_,_,_,_]
 congr 1
 ·grind
 congr 1
 ·grind
 congr 1
 ·grind
 congr 1
 grind
def huQ (i j k:Nat) (a b c e f g:Int):List Int:=qm (rf i a b) (qm (rf j c e) (rf k f g))
theorem zuS (i j k:Nat) (a b c e f g:Int):(huQ i j k a b c e f g).length=4:=xB rfl (xB rfl rfl)
section
variable {i j k:Nat} {a b c e f g:Int}
theorem zjO {l:Int} {x:List Int} (hj:j<3) (h:x.length=4):qm (qm x (rf j (-l) 1)) (rf j l 1)=x.map ((1+l*l) * ·):=by
 obtain ⟨a,b,c,d,rfl⟩:=zU h
 rcases (by omega:j=0\/j=1\/j=2) with rfl|rfl|rfl
 all_goals
  simp only [rf,w1,w2,w3,qm,List.map]
  simp
  refine ⟨?_,?_,?_,?_⟩ <;> grind
theorem zfL {X Y:Int} {A B:List Int} (h:Hg i j k) (lA:A.length=4) (lB:B.length=4) (hX:X≠0) (hY:Y≠0) (nB:∃ n∈B,n≠0)
  (e1:X*(qm A (rf j (-zV i j k) 1)).getD (i+1) 0=Y*(qm B (rf j (-zV i j k) 1)).getD (i+1) 0) (e2:X*(qm A (rf j (-zV i j k) 1)).getD 0 0=Y*(qm B (rf j (-zV i j k) 1)).getD 0 0)
  (e3:X*(hd i j*(qm A (rf j (-zV i j k) 1)).getD (xF i j+1) 0)=Y*(hd i j*(qm B (rf j (-zV i j k) 1)).getD (xF i j+1) 0)) (e4:X*(qm A (rf j (-zV i j k) 1)).getD (j+1) 0=Y*(qm B (rf j (-zV i j k) 1)).getD (j+1) 0):pl A=pl B:=by
 obtain ⟨hi,hj,hk,ij,jk⟩:=h
 have e3':X*(qm A (rf j (-zV i j k) 1)).getD (xF i j+1) 0=Y*(qm B (rf j (-zV i j k) 1)).getD (xF i j+1) 0:=by
  rcases zaF i j with z|z <;> rw [z] at e3 <;> grind
 have lTA:(qm A (rf j (-zV i j k) 1)).length=4:=xB lA rfl
 have lTB:(qm B (rf j (-zV i j k) 1)).length=4:=xB lB rfl
 have et:(qm A (rf j (-zV i j k) 1)).map (X * ·)=(qm B (rf j (-zV i j k) 1)).map (Y * ·):=by
  obtain ⟨a0,a1,a2,a3,ea⟩:=zU lTA
  obtain ⟨b0,b1,b2,b3,eb⟩:=zU lTB
  rw [ea,eb] at e1 e2 e3' e4 ⊢
  have key:∀ m,m<3->X*[a0,a1,a2,a3].getD (m+1) 0=Y*[b0,b1,b2,b3].getD (m+1) 0:=fun m hm=>by
   rcases (show m=i\/m=j\/m=xF i j by unfold xF;omega) with rfl|rfl|rfl
   ·exact e1
   ·exact e4
   ·exact e3'
  have k0:X*a0=Y*b0:=e2
  have k1:X*a1=Y*b1:=key 0 (by decide)
  have k2:X*a2=Y*b2:=key 1 (by decide)
  have k3:X*a3=Y*b3:=key 2 (by decide)
  show [X*a0,X*a1,X*a2,X*a3]=[Y*b0,Y*b1,Y*b2,Y*b3]
  rw [k0,k1,k2,k3]
 have eu:A.map ((X*(1+zV i j k*zV i j k)) * ·)=B.map ((Y*(1+zV i j k*zV i j k)) * ·):=by
  have q1:=zlA (u:=X) (y:=rf j (zV i j k) 1) lTA rfl
  have q2:=zlA (u:=Y) (y:=rf j (zV i j k) 1) lTB rfl
  rw [et,q2,zjO hj lA,zjO hj lB,List.map_map,List.map_map] at q1
  have c1:∀ (u:Int) (z:List Int),z.map ((fun x=>u*x) ∘ fun x=>(1+zV i j k*zV i j k)*x)=z.map ((u*(1+zV i j k*zV i j k)) * ·):=fun u z=>by
   apply List.map_congr_left;intro y _;show u*((1+zV i j k*zV i j k)*y)=_;rw [Int.mul_assoc]
  rw [c1,c1] at q1
  exact q1.symm
 have sq:1+zV i j k*zV i j k≠0:=by rcases kL i j k with z|z|z <;> rw [z] <;> decide
 have x0:=Int.mul_ne_zero hX sq
 have y0:=Int.mul_ne_zero hY sq
 have nA:∃ n∈A,n≠0:=by
  obtain ⟨n,hn,n0⟩:=nB
  have:Y*(1+zV i j k*zV i j k)*n∈A.map ((X*(1+zV i j k*zV i j k)) * ·):=by rw [eu];exact List.mem_map.mpr ⟨n,hn,rfl⟩
  obtain ⟨m,hm,em⟩:=List.mem_map.mp this
  exact ⟨m,hm,fun z=>Int.mul_ne_zero y0 n0 (by rw [<- em,z,Int.mul_zero])⟩
 rw [<- wJ x0 nA,eu,wJ y0 nB]
end
end
section
theorem zlB:∀ {x y:List Int},HT.lexLt x y=false->HT.lexLt y x=false->x=y
  | [],[],_,_=>rfl
  | [],_::_,h,_=>by cases h
  | _::_,[],_,h=>by cases h
  | a::x, b::y, h, g => by
    have h:(if a=b then HT.lexLt x y else decide (a<b))=false:=h
    have g:(if b=a then HT.lexLt y x else decide (b<a))=false:=g
    by_cases e:a=b
    . subst e;rw [if_pos rfl] at h g;rw [zlB h g]
    . rw [if_neg e] at h;rw [if_neg (fun z=>e z.symm)] at g
      have h:=of_decide_eq_false h
      have g:=of_decide_eq_false g
      omega
theorem zlJ:∀ {x y:List (List Int)},x.length=y.length->rlt x y=false->rlt y x=false->x=y
  | [],[],_,_,_=>rfl
  | [],_::_,l,_,_=>by cases l
  | _::_,[],l,_,_=>by cases l
  | a::x, b::y, l, h, g => by
    have h:(if a=b then rlt x y else HT.lexLt a b)=false:=h
    have g:(if b=a then rlt y x else HT.lexLt b a)=false:=g
    by_cases e:a=b
    . subst e;rw [if_pos rfl] at h g;rw [zlJ (by simpa using l) h g]
    . rw [if_neg e] at h;rw [if_neg (fun z=>e z.symm)] at g
      exact absurd (zlB h g) e
section
variable {a b e g:Int} {k:Nat}
theorem wC {k l:Int} (h:k≠0\/l≠0):∃ w x y:Int,w≠0/\ps k l=[x,y]/\k=w*x/\l=w*y:=by
 refine ⟨xA [l,k],_,_,vM (nz2 h),rfl,?_,?_⟩
 ·exact (Int.mul_ediv_cancel' (vC (by simp))).symm
 ·exact (Int.mul_ediv_cancel' (vC (by simp))).symm
end
end
section
end
theorem zjL {i j k:Nat} {c e:Int} (n2:c≠0\/e≠0) (m0:c - zV i j k*e=0):e+zV i j k*c≠0:=fun z=>by
 have hc:c=zV i j k*e:=by omega
 have he:e*(1+zV i j k*zV i j k)=0:=by rw [hc] at z;grind
 have e0:e=0:=by
  rcases Int.mul_eq_zero.mp he with q|q
  ·exact q
  ·rcases kL i j k with w|w|w <;> rw [w] at q <;> cases q
 rw [e0,Int.mul_zero] at hc
 rcases n2 with q|q
 ·exact q hc
 ·exact q e0
theorem zpS {k l a b:Int} (h1:k≠0\/l≠0) (h2:a≠0\/b≠0) (e:ps k l=ps a b):k*b=a*l:=by
 obtain ⟨w,x,y,w0,r,s,t⟩:=wC h1
 obtain ⟨w',x',y',w0',r',s',t'⟩:=wC h2
 rw [r,r'] at e
 injection e with e1 e
 injection e with e2 _
 subst e1 e2
 rw [s,t,s',t'];grind
theorem vN {k l x y:Int} (h:k≠0\/l≠0) (e:ps k l=[x,y]):(0<y/\Nat.gcd x.natAbs y.natAbs=1)\/(x=1/\y=0):=by
 have nz:=nz2 h
 have g:=ziN nz
 have f:=kW nz
 have er:pl [l,k]=[y,x]:=by
  rw [zjY] at e
  have:=congrArg List.reverse e
  rw [List.reverse_reverse] at this
  exact this
 rw [er] at g f
 have g':Nat.gcd (Nat.gcd 0 y.natAbs) x.natAbs=1:=g
 rw [Nat.gcd_zero_left] at g'
 by_cases y0:y=0
 ·subst y0
  have f':0<x:=by
   by_cases x0:x=0
   ·subst x0;simp [xW] at f
   ·simpa [xW,x0] using f
  right
  refine ⟨?_,rfl⟩
  rw [show (0:Int).natAbs=0 from rfl,Nat.gcd_zero_left] at g'
  omega
 ·left
  have f':0<y:=by
   rw [xW,if_neg y0] at f;exact f
  exact ⟨f',by rw [Nat.gcd_comm];exact g'⟩
def Good (x y:Int):Prop:=(0<y/\Nat.gcd x.natAbs y.natAbs=1)\/(x=1/\y=0)
theorem Good.nz {x y:Int} (h:Good x y):x≠0\/y≠0:=by
 rcases h with ⟨h,_⟩|⟨h,_⟩
 ·exact .inr (by omega)
 ·exact .inl (by omega)
section
end
section
section
variable {p:Option Addr} {K:PySem.W.Frag} {τ:List Sl} {ta tb:TE} {E':XK}
theorem E.call2C {R:List Dat->Dat->Prop} {A0 C:Dat->Prop} {ds:Dat} (h0:E1 p K ta τ (.dat ds)) (ha:E p K tb τ (fun s=>∃ d,s = .dat d/\A0 d)) (hr:∀ d,A0 d->∃ d',R [ds,d] d'/\C d'):E p K (yY (yT K R) [] E' (yN ta (yN tb vJ))) τ (fun s=>∃ d,s = .dat d/\C d):=fun W L σ H Q rs o k =>
 h0 W L σ H _ rs o fun v0 H0 s0 e0 ev0 o0 rv0=>ha W L σ H0 _ (rs.ev ev0 o.pw) o0 fun v H1 s ⟨d,es,ad⟩ e1 o1 rv=>by
  subst e0 es
  obtain ⟨d',r0,cd⟩:=hr d ad
  show yT K R ([v0,v]++[]) H1 Q E'
  rw [List.append_nil]
  have z0:Dz (fun a=>¬ W a) K H1 v0 ds:=rv0.ev e1 o0 o
  have z:Dz (fun a=>¬ W a) K H1 v d:=rv
  exact ⟨[ds,d],d',.cons (z0.mono fun _ _=>trivial) (.cons (z.mono fun _ _=>trivial) .nil),r0,fun v H' s z=>k v H' _ ⟨d',rfl,cd⟩ ((ev0.trans e1).trans (Ev.of s)) (o1.same s) (z.mono fun a ha=>o1.fresh ha)⟩
end
end
section
section
variable {p q r s m n a2 b2 c2 e2 f2 g2 X Y:Int} {i j k:Nat} {F:List Int}
theorem rB (h:Hg i j k) (lF:F.length=4) (nF:∃ n∈F,n≠0) (hX:X≠0) (hY:Y≠0)
  (hp:p=(wA j (zV i j k) F).getD (i+1) 0) (hq:q=(wA j (zV i j k) F).getD 0 0) (hr:r=hd i j*(wA j (zV i j k) F).getD (xF i j+1) 0) (hs:s=(wA j (zV i j k) F).getD (j+1) 0)
  (k1:X*((e2+zV i j k*c2)*(a2*g2+b2*f2))=Y*p) (k2:X*((e2+zV i j k*c2)*(b2*g2 - a2*f2))=Y*q)
  (k3:X*((c2 - zV i j k*e2)*(a2*g2 - b2*f2))=Y*r) (k4:X*((c2 - zV i j k*e2)*(b2*g2+a2*f2))=Y*s) :
  hu (rf i a2 b2) (rf j c2 e2) (rf k f2 g2)=pl F:=by
 obtain ⟨q1,q2,q3,q4⟩:=wP h a2 b2 c2 e2 f2 g2
 have lp:(pl F).length=4:=by rw [zY];exact lF
 have e:=zfL (A:=huQ i j k a2 b2 c2 e2 f2 g2) (B:=pl F) h (zuS ..) lp hX hY (xC nF) (by unfold huQ;rw [q1,k1,hp];rfl) (by unfold huQ;rw [q2,k2,hq];rfl) (by unfold huQ;rw [q3,k3,hr];rfl) (by unfold huQ;rw [q4,k4,hs];rfl)
 rw [zkX nF] at e
 exact e
theorem zxT (hm:m≠0) (hn:n=p*p+q*q) (n0:n≠0) (hmm:m*m=n*(r*r+s*s)) {F1 F2:Int} (hF:(F1,F2)=xU p q r s m n) :
  ∃ y:Int,y≠0/\n*(F1*(q*m*F2 - p*m * -F1)+F2*(p*m*F2+q*m * -F1))=y*p/\n*(F2*(q*m*F2 - p*m * -F1) - F1*(p*m*F2+q*m * -F1))=y*q /\
   m*(F1*(q*m*F2 - p*m * -F1) - F2*(p*m*F2+q*m * -F1))=y*r/\m*(F2*(q*m*F2 - p*m * -F1)+F1*(p*m*F2+q*m * -F1))=y*s:=by
 have pq:p≠0\/q≠0:=by
  by_cases p0:p=0
  ·refine .inr fun q0=>n0 (by rw [hn,p0,q0];rfl)
  ·exact .inl p0
 have nz:F1≠0\/F2≠0:=by
  have:=zcP (r:=r) (s:=s) (n:=n) pq hm
  rw [<- hF] at this;exact this
 have fp:=qT nz
 refine ⟨n*m*(F1*F1+F2*F2),Int.mul_ne_zero (Int.mul_ne_zero n0 hm) (by omega),by grind,by grind,?_⟩
 have key:m*(F2*q+F1*p)=n*(s*F2+r*F1)/\m*(F1*q - F2*p)=n*(r*F2 - s*F1):=by
  unfold xU at hF
  by_cases z:p*m+r*n=0/\q*m+s*n=0
  ·rw [if_pos z] at hF
   obtain ⟨h1,h2⟩:=Prod.mk.inj hF
   obtain ⟨z1,z2⟩:=z
   have e1:F1=q*m:=by rw [h1];grind
   have e2:F2 = -(p*m):=by rw [h2];grind
   have rn:r*n = -(p*m):=by omega
   have sn:s*n = -(q*m):=by omega
   constructor
   ·rw [e1,e2]
    have:n*(s * -(p*m)+r*(q*m))=m*(-(s*n)*p+(r*n)*q):=by grind
    rw [this,rn,sn];grind
   ·rw [e1,e2]
    have:n*(r * -(p*m) - s*(q*m))=m*(-(r*n)*p - (s*n)*q):=by grind
    rw [this,rn,sn];grind
  ·rw [if_neg z] at hF
   obtain ⟨h1,h2⟩:=Prod.mk.inj hF
   constructor
   ·rw [h1,h2]
    have e1:m*((q*m+s*n)*q+(p*m+r*n)*p)=m*m*(p*p+q*q)+m*n*(q*s+p*r):=by grind
    have e2:n*(s*(q*m+s*n)+r*(p*m+r*n))=m*n*(q*s+p*r)+n*(n*(r*r+s*s)):=by grind
    rw [e1,e2, <- hmm, <- hn];grind
   ·rw [h1,h2];grind
 obtain ⟨ka,kb⟩:=key
 constructor
 ·have e1:m*(F1*(q*m*F2 - p*m * -F1) - F2*(p*m*F2+q*m * -F1))=m*(F1*(m*(F2*q+F1*p))+F2*(m*(F1*q - F2*p))):=by grind
  rw [e1,ka,kb];grind
 ·have e1:m*(F2*(q*m*F2 - p*m * -F1)+F1*(p*m*F2+q*m * -F1))=m*(F2*(m*(F2*q+F1*p)) - F1*(m*(F1*q - F2*p))):=by grind
  rw [e1,ka,kb];grind
end
end
section
def zyX (i j k:Nat) (F:List Int) (R:List (List Int)):Prop:=∃ x1 y1 x2 y2 x3 y3:Int,R=[[x1,y1],[x2,y2],[x3,y3]]/\Good x1 y1/\Good x2 y2/\Good x3 y3/\hu (rf i x1 y1) (rf j x2 y2) (rf k x3 y3)=F
section
variable {p q r s m n:Int} {i j k:Nat} {F:List Int}
theorem zcD (h:Hg i j k) (lF:F.length=4) (nF:∃ n∈F,n≠0)
  (hp:p=(wA j (zV i j k) F).getD (i+1) 0) (hq:q=(wA j (zV i j k) F).getD 0 0) (hr:r=hd i j*(wA j (zV i j k) F).getD (xF i j+1) 0) (hs:s=(wA j (zV i j k) F).getD (j+1) 0)
  (hm:m≠0) (hn:n=p*p+q*q) (n0:n≠0) (hmm:m*m=n*(r*r+s*s)):zyX i j k (pl F) (jI i j k p q r s m n):=by
 obtain ⟨F1,F2,hF⟩:∃ F1 F2,(F1,F2)=xU p q r s m n:=⟨_,_,rfl⟩
 obtain ⟨y,y0,k1,k2,k3,k4⟩:=zxT hm hn n0 hmm hF
 have pq:p≠0\/q≠0:=by
  by_cases p0:p=0
  ·refine .inr fun q0=>n0 (by rw [hn,p0,q0];rfl)
  ·exact .inl p0
 have nz:F1≠0\/F2≠0:=by
  have:=zcP (r:=r) (s:=s) (n:=n) pq hm
  rw [<- hF] at this;exact this
 have f1:(xU p q r s m n).1=F1:=by rw [<- hF]
 have f2:(xU p q r s m n).2=F2:=by rw [<- hF]
 have sq:1+zV i j k*zV i j k≠0:=by rcases kL i j k with z|z|z <;> rw [z] <;> decide
 have nl:m*1+n*zV i j k≠0\/n*1 - m*zV i j k≠0:=by
  by_cases z:m*1+n*zV i j k=0
  ·refine .inr fun w=>Int.mul_ne_zero hm sq ?_
   have e:m*(1+zV i j k*zV i j k)=(m*1+n*zV i j k) - (n*1 - m*zV i j k)*zV i j k:=by grind
   rw [e,z,w];simp
  ·exact .inl z
 generalize hL1:p*m*F2+q*m * -F1=L1 at *
 generalize hL2:q*m*F2 - p*m * -F1=L2 at *
 have nL:L1≠0\/L2≠0:=by
  by_cases z:L1=0
  ·refine .inr fun w=>?_
   rw [z,w] at k1 k2
   rcases pq with u|u
   ·exact Int.mul_ne_zero y0 u (by rw [<- k1];simp)
   ·exact Int.mul_ne_zero y0 u (by rw [<- k2];simp)
  ·exact .inl z
 obtain ⟨w1,x1,y1,w10,r1,s1,t1⟩:=wC nz
 obtain ⟨w2,x2,y2,w20,r2,s2,t2⟩:=wC nl
 obtain ⟨w3,x3,y3,w30,r3,s3,t3⟩:=wC nL
 refine ⟨x1,y1,x2,y2,x3,y3,?_,vN nz r1,vN nl r2,vN nL r3,?_⟩
 ·unfold jI lea
  rw [f1,f2,hL1,hL2,r1,r2,r3]
 have en:w2*y2+zV i j k*(w2*x2)=n*(1+zV i j k*zV i j k):=by rw [<- s2, <- t2];grind
 have em:w2*x2 - zV i j k*(w2*y2)=m*(1+zV i j k*zV i j k):=by rw [<- s2, <- t2];grind
 refine rB (X:=w1*w2*w3) (Y:=y*(1+zV i j k*zV i j k)) h lF nF (Int.mul_ne_zero (Int.mul_ne_zero w10 w20) w30) (Int.mul_ne_zero y0 sq) hp hq hr hs ?_ ?_ ?_ ?_
 ·have:w1*w2*w3*((y2+zV i j k*x2)*(x1*y3+y1*x3))=(w2*y2+zV i j k*(w2*x2))*((w1*x1)*(w3*y3)+(w1*y1)*(w3*x3)):=by grind
  rw [this,en, <- s1, <- t1, <- s3, <- t3]
  have:n*(1+zV i j k*zV i j k)*(F1*L2+F2*L1)=(1+zV i j k*zV i j k)*(n*(F1*L2+F2*L1)):=by grind
  rw [this,k1];grind
 ·have:w1*w2*w3*((y2+zV i j k*x2)*(y1*y3 - x1*x3))=(w2*y2+zV i j k*(w2*x2))*((w1*y1)*(w3*y3) - (w1*x1)*(w3*x3)):=by grind
  rw [this,en, <- s1, <- t1, <- s3, <- t3]
  have:n*(1+zV i j k*zV i j k)*(F2*L2 - F1*L1)=(1+zV i j k*zV i j k)*(n*(F2*L2 - F1*L1)):=by grind
  rw [this,k2];grind
 ·have:w1*w2*w3*((x2 - zV i j k*y2)*(x1*y3 - y1*x3))=(w2*x2 - zV i j k*(w2*y2))*((w1*x1)*(w3*y3) - (w1*y1)*(w3*x3)):=by grind
  rw [this,em, <- s1, <- t1, <- s3, <- t3]
  have:m*(1+zV i j k*zV i j k)*(F1*L2 - F2*L1)=(1+zV i j k*zV i j k)*(m*(F1*L2 - F2*L1)):=by grind
  rw [this,k3];grind
 ·have:w1*w2*w3*((x2 - zV i j k*y2)*(y1*y3+x1*x3))=(w2*x2 - zV i j k*(w2*y2))*((w1*y1)*(w3*y3)+(w1*x1)*(w3*x3)):=by grind
  rw [this,em, <- s1, <- t1, <- s3, <- t3]
  have:m*(1+zV i j k*zV i j k)*(F2*L2+F1*L1)=(1+zV i j k*zV i j k)*(m*(F2*L2+F1*L1)):=by grind
  rw [this,k4];grind
end
end
end D
section
namespace L2
open PySem PySem.Spec PyProof.Rows
theorem zqF {X:Cx} {pos p:Pos} {x:Str} {CX:CXT} {k:Nat} {f:Addr} {fd:FuncData} {ps:List Str} {sp:Sp} {ds:List Value} {dvs:List V} {E:XK} (F:FnOk X.prog X.w X.K X.mg X.base CX k f fd ps sp) (hr:Room k X.A) (hg:Gl X x) (hm:X.mg x=some (.ref f)) (hk:PySem.W.keepIn X.K (.ref f)=true) (hb:Binds X.K fd ps ds) (hd:Vals dvs ds) (hx:tN CX X E)
  (hdb:(x == ("__debug__" : Str))=false:=by decide):ZE X (.Call (.Name x p) [] [] pos) (yY sp dvs E vJ):=⟨zpD F hr hg hm hk hb hd hx hdb⟩
end L2
namespace D
open PySem L2 K0 Num
open PySem.W (Dat)
section
variable {p:Option Addr} {K:PySem.W.Frag} {τ:List Sl}
theorem S.asgO {te:TE} {ds:List Dat} {i:Nat} {nx:List Sl->Prop} {rt:Sl->Prop} {τ':List Sl} (h:E1 p K te τ (.own ds)) (nl:xR ds=true) (m:nx τ') (e0:τ.set i (.own ds)=τ':=by rfl):S p K (jP te (yK i)) τ nx rt:=fun W L σ H D r o q1 q2=>by
 refine h W L σ H _ r o fun v H1 s c e o1 rv=>?_
 subst c
 obtain ⟨a,vs,rfl,h1,h2,h3⟩:=rv
 have nw:=o.fresh h1
 have wid:∀ b,(W b\/b=a)->¬ W b->H b=none:=fun b hb nb=>(hb.resolve_left nb) ▸ h1
 have r1:Rs p (fun b=>W b\/b=a) K H1 L σ τ:=(r.wide (fun _ h=>.inl h) wid).ev e fun q hq=>.inl (o.pw q hq)
 have al:a ∉ L:=fun z=>by obtain ⟨_,y⟩:=r.own_in a z;rw [h1] at y;cases y
 obtain ⟨L',l,r2⟩:=r1.setO (.inr rfl) (o.np h1) al h2 (h3.free nl) i
 refine q1 _ L' _ H1 _ (e0 ▸ m) (e.ofP o) ⟨fun q hq=>⟨(o1.pu q hq).1,.inl (o1.pw q hq)⟩,fun b hb=>?_⟩ o1.al (fun b hb=>hb.imp id fun (z:b=a)=>by rw [z];exact h1) (fun b hb=>?_) r2
 ·rcases hb with hb|rfl
  ·exact o1.al b hb
  ·exact ⟨_,h2⟩
 ·rcases l b hb with rfl|hb
  ·exact .inr h1
  ·exact .inl hb
end
theorem zpO {x y:List Int}:deq (tI x) (tI y)=decide (x=y):=jK
end D
end
namespace D
open PySem L2 K0 Num
open PySem.W (Dat)
section
theorem yhF {k l x y:Int} (h:ps k l=[x,y]):x.natAbs<=k.natAbs/\y.natAbs<=l.natAbs:=by
 have h:[k / xA [l,k],l / xA [l,k]]=[x,y]:=h
 injection h with h1 h2
 injection h2 with h2 _
 rw [<- h1, <- h2]
 exact ⟨Int.natAbs_ediv_le_natAbs ..,Int.natAbs_ediv_le_natAbs ..⟩
theorem rM {k l x y:Int} {m:Nat} (h:ps k l=[x,y]) (h1:Bt k m) (h2:Bt l m):Bd (2 ^ m) [x,y]:=fun z hz=>by
 obtain ⟨a,b⟩:=yhF h
 simp only [List.mem_cons,List.mem_nil_iff,or_false] at hz
 rcases hz with rfl|rfl
 ·exact Nat.le_trans a h1
 ·exact Nat.le_trans b h2
section
variable {p q r s m n:Int} {i j k:Nat} {F:List Int}
theorem ydM (hm:m≠0) (n0:n≠0):jI i j k p q r s m n≠jI i j k p q r s (-m) n:=fun z=>by
 unfold jI at z
 injection z with _ z
 injection z with z _
 have sq:1+zV i j k*zV i j k≠0:=by rcases kL i j k with z|z|z <;> rw [z] <;> decide
 have nl:∀ {m:Int},m≠0->(m*1+n*zV i j k≠0\/n*1 - m*zV i j k≠0):=fun {m} hm=>by
  by_cases z:m*1+n*zV i j k=0
  ·refine .inr fun w=>Int.mul_ne_zero hm sq ?_
   have e:m*(1+zV i j k*zV i j k)=(m*1+n*zV i j k) - (n*1 - m*zV i j k)*zV i j k:=by grind
   rw [e,z,w];simp
  ·exact .inl z
 unfold lea at z
 have c:=zpS (nl hm) (nl (m := -m) (by omega)) z
 refine Int.mul_ne_zero (Int.mul_ne_zero (show (2:Int)≠0 by decide) (Int.mul_ne_zero hm n0)) sq ?_
 grind
def zbF (i j k:Nat) (F:List Int):Int:=(((wA j (zV i j k) F).getD (i+1) 0)*((wA j (zV i j k) F).getD (i+1) 0)+((wA j (zV i j k) F).getD 0 0)*((wA j (zV i j k) F).getD 0 0))*((hd i j*(wA j (zV i j k) F).getD (xF i j+1) 0)*(hd i j*(wA j (zV i j k) F).getD (xF i j+1) 0)+((wA j (zV i j k) F).getD (j+1) 0)*((wA j (zV i j k) F).getD (j+1) 0))
def zzY (i j k:Nat) (F:List Int) (c e K L:Int) (w:Str):Prop :=
 (w = "with" /\ ∀ x y f g:Int,(x≠0\/y≠0)->ps (K*y+(0 - x)*L) (L*y - K*(0 - x))=[f,g]->(f≠0\/g≠0)/\hu (rf i x y) (rf j c e) (rf k f g)=pl F) \/
 (w = "against" /\ ∀ x y f g:Int,(x≠0\/y≠0)->ps (x*L+(0 - K)*y) (y*L - x*(0 - K))=[f,g]->(f≠0\/g≠0)/\hu (rf i x y) (rf j c e) (rf k f g)=pl F)
theorem kC {k l x y:Int} (h:k≠0\/l≠0) (e:ps k l=[x,y]):x≠0\/y≠0:=Good.nz (vN h e)
end
end
end D
section
namespace L2
open PySem PySem.Spec PyProof.Rows
end L2
namespace D
open PySem L2 K0 Num
open PySem.W (Dat)
theorem yeX (i j k:Nat) (ns:List Int):∃ d,Sof i j k ns d:=SofA.ex i j k _ _ _ _
end D
end
namespace D
open PySem L2 K0 Num
open PySem.W (Dat)
def n4 (a b c e:Int):Int:=a*a+b*b+c*c+e*e
end D
section
namespace D
open PySem L2 K0 Num
open PySem.W (Dat)
section
variable {p:Option Addr} {K:PySem.W.Frag} {τ:List Sl} {tas:TA} {tb:TE}
theorem E.pickA {C:Dat->Prop} {P:Int->Prop} {n:Nat} (ha:A p K tas τ (fun ss=>∃ ds:List Dat,ss=ds.map .dat/\ds.length=n/\∀ d∈ds,C d)) (hz:n<=sizeLine) (hd:EI p K tb τ P) (hp:∀ d,P d->0<=d/\d<(n:Int)):E p K (wO (zmS K) (znO tas) tb) τ (fun s=>∃ d,s = .dat d/\C d):=by
 have hl:E p K (znO tas) τ (fun s=>∃ ds:List Dat,s = .own ds/\ds.length=n/\∀ d∈ds,C d):=fun W L σ H Q rs o q=>by
  refine ha W L σ H _ rs o fun vs H1 ss ⟨ds,e,l,hn⟩ e1 o1 rv=>?_
  subst e
  have z:=rv.dats
  refine ⟨by rw [z.len,l];exact hz,fun r hr=>?_⟩
  have s:=Same.new hr (.lst vs)
  exact q _ _ _ ⟨ds,rfl,l,hn⟩ (e1.trans (Ev.of s)) (o1.same s) ⟨r,vs,rfl,o1.back e1 hr,zJ,z.ev (W:=fun _=>False) (Ev.of s) fun _ _ z=>z⟩
 exact bX (B:=fun _=>True) (A:=fun s=>∃ ds:List Dat,s = .own ds/\ds.length=n/\∀ d∈ds,C d) (B':=fun _ s=>∃ i,s = .dat (.int i)/\P i) hl (fun _ _=>hd) fun s t ⟨ds,e,l,hn⟩ ⟨i,e2,hi⟩ W H0 H x y Q o0 o r1 r2 q=>by
  subst e e2
  cases r2.int_inv
  obtain ⟨a,vs,rfl,h0,h1,h2⟩:=r1
  obtain ⟨d0,d1⟩:=hp i hi
  obtain ⟨j,rfl⟩:=Int.eq_ofNat_of_zero_le d0
  have hj:j<ds.length:=by omega
  obtain ⟨x,e1,e2⟩:=h2.get (i:=j) (e:=ds[j]) (by simp [hj])
  exact ⟨a,_,j,_,rfl,rfl,SqL.of h1,jJ e1,q _ H _ ⟨ds[j],rfl,hn _ (List.getElem_mem hj)⟩ aE o e2⟩
end
end D
namespace D
open PySem L2 K0 Num
open PySem.W (Dat)
end D
namespace D
open PySem L2 K0 Num
end D
end
namespace D
open PySem L2 K0 Num
open PySem.W (Dat)
section
def spQ (K:PySem.W.Frag) (R:List Dat->(Dat->Prop)->Prop):Sp:=fun vs H Q _=>∃ ds C,Dzs (fun _=>True) K H vs ds/\R ds C/\∀ v H' d,C d->Same H H'->Dz (fun a=>H a=none) K H' v d->Q v H'
section
variable {p:Option Addr} {K:PySem.W.Frag} {W:Addr->Prop} {L:List Addr} {σ:St} {H H1:Hp} {τ τ':List Sl} {tas:TA} {v:V} {s:Sl} {t:TS} {ds:List Dat} {E':XK}
theorem bK {R:List Dat->(Dat->Prop)->Prop} {ss:List Sl} {ds:List Dat} {C:Dat->Prop} (ha:A1 p K tas τ ss) (hr:R ds C) (hd:tY ss=some ds:=by rfl):E p K (yY (spQ K R) [] E' tas) τ (fun s=>∃ d,s = .dat d/\C d):=fun W L σ H Q rs o q=>ha W L σ H _ rs o fun vs H1 ss e e1 o1 rv=>by
 subst e
 rw [List.append_nil]
 exact ⟨ds,C,rv.dz hd,hr,fun v H' d c s z=>q v H' _ ⟨d,rfl,c⟩ (e1.trans (Ev.of s)) (o1.same s) (z.mono fun a ha=>o1.fresh ha)⟩
variable {P:Program} {w:World} {mg:Str->Option Value} {base:Heap}
theorem okQ {x qual:Str} {st:Stmt} {f:Addr} {fd:FuncData} {N ps:List Str} {k:Nat} {R:List Dat->(Dat->Prop)->Prop} (F:Fun K x qual st f fd) (S0:FnScope N ps (zI st)) (len:∀ ds C,R ds C->ds.length=ps.length)
    (body:∀ (cdv:Value) (A:Around) (outer:List Env) (s:Shared) (H:Hp) (E:XK),Room k (A.deeper (PyProof.Rows.envOfC qual (zI st) s.heap.objs.size f cdv)) ->
      ∃ t,ZSs (zaN zW P w K mg base N qual (zI st) f cdv A outer s H E).nox (xT st) t/\∀ ds C,R ds C->S none K t (ds.map .dat++List.replicate (N.length - ps.length) .un) (fun _=>False) (fun s=>∃ d,C d/\ztP d s)):FnOk P w K mg base zW (k+1) f fd ps (spQ K R):=by
  refine F.okZ S0 (fun vs H Q E h=>?_) (fun cdv A outer s H vs Q E hr h=>?_)
  . obtain ⟨ds,C,z,r,_⟩:=h;rw [z.len];exact len ds C r
  . obtain ⟨ds,C,z,r,q⟩:=h
    obtain ⟨t,hz,hs⟩:=body cdv A outer s H E hr
    refine ⟨t,hz,?_⟩
    have l:vs.length=ps.length:=by rw [z.len];exact len ds C r
    have r0:Rs none (fun _=>False) K H [] (L2.start N vs) (ds.map .dat++List.replicate (N.length - ps.length) .un):=by
      unfold L2.start
      rw [l]
      exact vX _ z fun a _ h=>h
    have same:∀ {H':Hp},Ev (fun _=>False) H H'->Same H H':=fun e b o h=>e.keep b o (fun z=>z) h
    refine hs ds C r (fun _=>False) [] _ H _ r0 ⟨fun q h=>(by cases h),fun a h=>False.elim h⟩ (fun W' L' σ' H' τ' e ev o' al n l r'=>e.elim) (fun W' H' v s e ev o' al n rv=>?_)
    obtain ⟨d,c,e⟩:=e
    cases s with
    | dat d' =>
      obtain ⟨rfl,nl⟩:=e
      exact q v H' _ c (same ev) (Dz.free rv nl)
    | own es =>
      obtain ⟨rfl,nl⟩:=e
      obtain ⟨a,vs,rfl,h1,h2,h3⟩:=rv
      have h0:H a=none:=h1.resolve_left (fun z=>by cases z)
      exact q _ H' _ c (same ev) (.lst (.inl ⟨h0,.inl h2⟩) (Dzs.free h3 nl))
    | _=>exact e.elim
end
def In (a b c d e f x y z:Int):Prop:=∃ m1 m2 m3:Int,x=m1*a+m2*b+m3*d/\y=m2*c+m3*e/\z=m3*f
structure Hnf (a b c d e f:Int):Prop where
 a0:0<a
 c0:0<c
 f0:0<f
 b0:0<=b
 b1:b<a
 d0:0<=d
 d1:d<a
 e0:0<=e
 e1:e<c
end
end D
section
namespace L2
open PySem PySem.Spec PyProof.Rows
end L2
namespace D
open PySem L2 K0 Num
open PySem.W (Dat)
def units:List (List Int):=[[1,0,0],[0,1,0],[0,0,1]]
def Kpt (F:List Int) (x y z:Int):Prop:=∀ a b c e:Int,pl F=[a,b,c,e]->(wX (pl F) (pl F) ∣ wX (rw1 a b c e) [x,y,z])/\(wX (pl F) (pl F) ∣ wX (rw2 a b c e) [x,y,z])/\(wX (pl F) (pl F) ∣ wX (rw3 a b c e) [x,y,z])
def yjU (fs:List (List Int)) (x y z:Int):Prop:=∀ F∈fs,Kpt F x y z
def Rows (fs:List (List Int)) (a b c d e f:Int):Prop:=Hnf a b c d e f/\∀ x y z,In a b c d e f x y z ↔ yjU fs x y z
end D
end
namespace D
open PySem L2 K0 Num
open PySem.W (Dat)
theorem E1.cWT {p:Option Addr} {K:PySem.W.Frag} {τ:List Sl} {tas:TA} {E':XK} {a b c d:Int} (ha:A1 p K tas τ [.dat (tI [a,b,c,d])]) (bd:Bd (2 ^ 1000) [a,b,c,d]):E1 p K (yY (zwH K) [] E' tas) τ (.dat (.tuple [tI (rw1 a b c d),tI (rw2 a b c d),tI (rw3 a b c d)])) :=
 E.c1 ha fun W H x Q z q=>⟨x,a,b,c,d,rfl,z,bd,fun r H' s h=>q _ H' _ rfl s fun W=>by
  obtain ⟨r1,r2,r3,h0,h1,h2,h3⟩:=h
  exact .tup (xs:=[.ref r1,.ref r2,.ref r3]) (.inl (.inl h0)) (.cons (qI h1) (.cons (qI h2) (.cons (qI h3) .nil)))⟩
section
end
theorem yjP {α:Type} {x:α} {l:List α}:kQ (x::l) 0=some x:=by
 unfold kQ ixN
 rw [if_pos (by decide),if_pos (by rw [List.length_cons];omega)]
 rfl
section
def FB (C:Int) (c:Nat) (x:Rat):Prop:=∃ t:Int,Bt t c/\qv t C=x
def RP (P:Rat->Prop) (r:Row3):Prop:=P r.x/\P r.y/\P r.z
def TabP (P:Rat->Prop) (a b d:Row3):Prop:=RP P a/\RP P b/\RP P d
def tbD (a b d:Row3):Dat:=.tuple [a.d,b.d,d.d]
def TB (c:Nat) (a b d:Row3):Prop:=∃ C:Int,0<C/\Bt C c/\TabP (FB C c) a b d
abbrev Lv (x:Rat):Prop:=Lo 950 x.num x.den x
theorem RP.mono {P Q:Rat->Prop} {r:Row3} (h:RP P r) (m:∀ x,P x->Q x):RP Q r:=⟨m _ h.1,m _ h.2.1,m _ h.2.2⟩
theorem TabP.mono {P Q:Rat->Prop} {a b d:Row3} (h:TabP P a b d) (m:∀ x,P x->Q x):TabP Q a b d:=⟨h.1.mono m,h.2.1.mono m,h.2.2.mono m⟩
theorem FB.lv {C:Int} {c:Nat} {x:Rat} (h:FB C c x) (h0:0<C) (hC:Bt C c) (hc:c<=950):Lv x:=by
 obtain ⟨t,ht,e⟩:=h
 exact zkH h0 (hC.up hc) (ht.up hc) e
theorem FB.up {C:Int} {c c':Nat} {x:Rat} (h:FB C c x) (l:c<=c'):FB C c' x:=by
 obtain ⟨t,ht,e⟩:=h
 exact ⟨t,ht.up l,e⟩
section
variable {C:Int} {c:Nat} {x y:Rat}
end
def SO (a b d:Row3):Prop:=yaU a b d/\a.y*b.z+a.z * -b.y=d.x/\a.z*b.x+a.x * -b.z=d.y/\a.x*b.y+a.y * -b.x=d.z
def TOf (a b d:Row3) (w x y z:Int):Prop:=a=kR w x y z/\b=kS w x y z/\d=qM w x y z
theorem ygU {a b d:Row3} {w x y z:Int} (nz:∃ n∈[w,x,y,z],n≠0) (h:TOf a b d w x y z):SO a b d:=by
 obtain ⟨rfl,rfl,rfl⟩:=h
 exact zeB nz
theorem sP {t0 t1 t2 t3 t4 t5 t6 t7 t8:Rat} (h1:t0*t0+t1*t1+t2*t2=1) (h2:t0*t3+t1*t4+t2*t5=0) (h3:t3*t3+t4*t4+t5*t5=1) (c6:t6=t1*t5 - t2*t4) (c7:t7=t2*t3 - t0*t5) (c8:t8=t0*t4 - t1*t3) :
  (t0=t4*t8 - t5*t7/\t1=t5*t6 - t3*t8/\t2=t3*t7 - t4*t6)/\(t3=t7*t2 - t8*t1/\t4=t8*t0 - t6*t2/\t5=t6*t1 - t7*t0):=by
 refine ⟨⟨?_,?_,?_⟩,?_,?_,?_⟩ <;> grind
theorem sW {t0 t1 t2 t3 t4 t5 t6 t7 t8:Rat} (h1:t0*t0+t1*t1+t2*t2=1) (h2:t0*t3+t1*t4+t2*t5=0) (h3:t3*t3+t4*t4+t5*t5=1) (c0:t0=t4*t8 - t5*t7) (c1:t1=t5*t6 - t3*t8) (c2:t2=t3*t7 - t4*t6) (c3:t3=t7*t2 - t8*t1) (c4:t4=t8*t0 - t6*t2) (c5:t5=t6*t1 - t7*t0) (c6:t6=t1*t5 - t2*t4) (c7:t7=t2*t3 - t0*t5) (c8:t8=t0*t4 - t1*t3) :
  t0*t0+t3*t3+t6*t6=1/\t1*t1+t4*t4+t7*t7=1/\t2*t2+t5*t5+t8*t8=1/\t0*t1+t3*t4+t6*t7=0/\t0*t2+t3*t5+t6*t8=0/\t1*t2+t4*t5+t7*t8=0/\t6*t6+t7*t7+t8*t8=1/\t0*t6+t1*t7+t2*t8=0/\t3*t6+t4*t7+t5*t8=0:=by
 refine ⟨?_,?_,?_,?_,?_,?_,?_,?_,?_⟩ <;> grind
theorem zyS {t0 t1 t2 t3 t4 t5 t6 t7 t8:Rat} (h1:t0*t0+t1*t1+t2*t2=1) (h2:t0*t3+t1*t4+t2*t5=0) (h3:t3*t3+t4*t4+t5*t5=1) (c6:t6=t1*t5 - t2*t4) (c7:t7=t2*t3 - t0*t5) (c8:t8=t0*t4 - t1*t3) :
  (t7 - t5)*(t7 - t5)=(1+t0+t4+t8)*(1+t0 - t4 - t8)/\(t7 - t5)*(t2 - t6)=(1+t0+t4+t8)*(t1+t3)/\(t7 - t5)*(t3 - t1)=(1+t0+t4+t8)*(t2+t6)/\(t2 - t6)*(t2 - t6)=(1+t0+t4+t8)*(1 - t0+t4 - t8)/\(t2 - t6)*(t3 - t1)=(1+t0+t4+t8)*(t5+t7)/\(t3 - t1)*(t3 - t1)=(1+t0+t4+t8)*(1 - t0 - t4+t8):=by
 obtain ⟨⟨c0,c1,c2⟩,c3,c4,c5⟩:=sP h1 h2 h3 c6 c7 c8
 obtain ⟨k1,k2,k3,k4,k5,k6,h4,h5,h6⟩:=sW h1 h2 h3 c0 c1 c2 c3 c4 c5 c6 c7 c8
 refine ⟨?_,?_,?_,?_,?_,?_⟩ <;> grind
theorem zxN {t0 t1 t2 t3 t4 t5 t6 t7 t8:Rat} (h1:t0*t0+t1*t1+t2*t2=1) (h2:t0*t3+t1*t4+t2*t5=0) (h3:t3*t3+t4*t4+t5*t5=1) (c6:t6=t1*t5 - t2*t4) (c7:t7=t2*t3 - t0*t5) (c8:t8=t0*t4 - t1*t3) :
  (t7 - t5)*(t7 - t5)=(1+t0 - t4 - t8)*(1+t0+t4+t8)/\(t7 - t5)*(t1+t3)=(1+t0 - t4 - t8)*(t2 - t6)/\(t7 - t5)*(t2+t6)=(1+t0 - t4 - t8)*(t3 - t1)/\(t1+t3)*(t1+t3)=(1+t0 - t4 - t8)*(1 - t0+t4 - t8)/\(t1+t3)*(t2+t6)=(1+t0 - t4 - t8)*(t5+t7)/\(t2+t6)*(t2+t6)=(1+t0 - t4 - t8)*(1 - t0 - t4+t8):=by
 obtain ⟨⟨c0,c1,c2⟩,c3,c4,c5⟩:=sP h1 h2 h3 c6 c7 c8
 obtain ⟨k1,k2,k3,k4,k5,k6,h4,h5,h6⟩:=sW h1 h2 h3 c0 c1 c2 c3 c4 c5 c6 c7 c8
 refine ⟨?_,?_,?_,?_,?_,?_⟩ <;> grind
theorem zvD {t0 t1 t2 t3 t4 t5 t6 t7 t8:Rat} (h1:t0*t0+t1*t1+t2*t2=1) (h2:t0*t3+t1*t4+t2*t5=0) (h3:t3*t3+t4*t4+t5*t5=1) (c6:t6=t1*t5 - t2*t4) (c7:t7=t2*t3 - t0*t5) (c8:t8=t0*t4 - t1*t3) :
  (t2 - t6)*(t2 - t6)=(1 - t0+t4 - t8)*(1+t0+t4+t8)/\(t2 - t6)*(t1+t3)=(1 - t0+t4 - t8)*(t7 - t5)/\(t2 - t6)*(t5+t7)=(1 - t0+t4 - t8)*(t3 - t1)/\(t1+t3)*(t1+t3)=(1 - t0+t4 - t8)*(1+t0 - t4 - t8)/\(t1+t3)*(t5+t7)=(1 - t0+t4 - t8)*(t2+t6)/\(t5+t7)*(t5+t7)=(1 - t0+t4 - t8)*(1 - t0 - t4+t8):=by
 obtain ⟨⟨c0,c1,c2⟩,c3,c4,c5⟩:=sP h1 h2 h3 c6 c7 c8
 obtain ⟨k1,k2,k3,k4,k5,k6,h4,h5,h6⟩:=sW h1 h2 h3 c0 c1 c2 c3 c4 c5 c6 c7 c8
 refine ⟨?_,?_,?_,?_,?_,?_⟩ <;> grind
theorem zwM {t0 t1 t2 t3 t4 t5 t6 t7 t8:Rat} (h1:t0*t0+t1*t1+t2*t2=1) (h2:t0*t3+t1*t4+t2*t5=0) (h3:t3*t3+t4*t4+t5*t5=1) (c6:t6=t1*t5 - t2*t4) (c7:t7=t2*t3 - t0*t5) (c8:t8=t0*t4 - t1*t3) :
  (t3 - t1)*(t3 - t1)=(1 - t0 - t4+t8)*(1+t0+t4+t8)/\(t3 - t1)*(t2+t6)=(1 - t0 - t4+t8)*(t7 - t5)/\(t3 - t1)*(t5+t7)=(1 - t0 - t4+t8)*(t2 - t6)/\(t2+t6)*(t2+t6)=(1 - t0 - t4+t8)*(1+t0 - t4 - t8)/\(t2+t6)*(t5+t7)=(1 - t0 - t4+t8)*(t1+t3)/\(t5+t7)*(t5+t7)=(1 - t0 - t4+t8)*(1 - t0+t4 - t8):=by
 obtain ⟨⟨c0,c1,c2⟩,c3,c4,c5⟩:=sP h1 h2 h3 c6 c7 c8
 obtain ⟨k1,k2,k3,k4,k5,k6,h4,h5,h6⟩:=sW h1 h2 h3 c0 c1 c2 c3 c4 c5 c6 c7 c8
 refine ⟨?_,?_,?_,?_,?_,?_⟩ <;> grind
theorem yO {t n N:Rat} (hN:N≠0) (h:t*N=n):t=n / N:=by grind
theorem SO.eqs {a b d:Row3} (h:SO a b d):(a.x*a.x+a.y*a.y+a.z*a.z=1/\a.x*b.x+a.y*b.y+a.z*b.z=0/\b.x*b.x+b.y*b.y+b.z*b.z=1)/\d.x=a.y*b.z - a.z*b.y/\d.y=a.z*b.x - a.x*b.z/\d.z=a.x*b.y - a.y*b.x:=by
 obtain ⟨⟨o1,o2,o3,o4,o5,o6,o7,o8,o9⟩,c6,c7,c8⟩:=h
 unfold Row3.dot at o1 o2 o5
 exact ⟨⟨o1,o2,o5⟩,by grind,by grind,by grind⟩
theorem yjL {a b d:Row3} (h:SO a b d) {L:Rat} {w x y z:Int} (hw:(w:Rat)=L*(1+a.x+b.y+d.z)) (hx:(x:Rat)=L*(d.y - b.z)) (hy:(y:Rat)=L*(a.z - d.x)) (hz:(z:Rat)=L*(b.x - a.y)) (nz:∃ n∈[w,x,y,z],n≠0):TOf a b d w x y z:=by
 obtain ⟨⟨h1,h2,h3⟩,c6,c7,c8⟩:=h.eqs
 obtain ⟨m1,m2,m3,m4,m5,m6⟩:=zyS h1 h2 h3 c6 c7 c8
 have hn:=tE (rfl:[w,x,y,z]=[w,x,y,z]) nz
 obtain ⟨t0,t1,t2⟩:=a
 obtain ⟨t3,t4,t5⟩:=b
 obtain ⟨t6,t7,t8⟩:=d
 unfold TOf kR kS qM Q1 Q2 Q3 K0.R1 K0.R2 K0.R3
 dsimp only at *
 clear h nz h1 h2 h3 c6 c7 c8
 generalize (w:Rat)=A at *
 generalize (x:Rat)=B at *
 generalize (y:Rat)=D at *
 generalize (z:Rat)=E at *
 refine ⟨?_,?_,?_⟩
 ·rw [<- yO (t:=t0) hn (by unfold N4;grind), <- yO (t:=t1) hn (by unfold N4;grind), <- yO (t:=t2) hn (by unfold N4;grind)]
 ·rw [<- yO (t:=t3) hn (by unfold N4;grind), <- yO (t:=t4) hn (by unfold N4;grind), <- yO (t:=t5) hn (by unfold N4;grind)]
 ·rw [<- yO (t:=t6) hn (by unfold N4;grind), <- yO (t:=t7) hn (by unfold N4;grind), <- yO (t:=t8) hn (by unfold N4;grind)]
theorem yjC {a b d:Row3} (h:SO a b d) {L:Rat} {w x y z:Int} (hw:(w:Rat)=L*(d.y - b.z)) (hx:(x:Rat)=L*(1+a.x - b.y - d.z)) (hy:(y:Rat)=L*(a.y+b.x)) (hz:(z:Rat)=L*(a.z+d.x)) (nz:∃ n∈[w,x,y,z],n≠0):TOf a b d w x y z:=by
 obtain ⟨⟨h1,h2,h3⟩,c6,c7,c8⟩:=h.eqs
 obtain ⟨m1,m2,m3,m4,m5,m6⟩:=zxN h1 h2 h3 c6 c7 c8
 have hn:=tE (rfl:[w,x,y,z]=[w,x,y,z]) nz
 obtain ⟨t0,t1,t2⟩:=a
 obtain ⟨t3,t4,t5⟩:=b
 obtain ⟨t6,t7,t8⟩:=d
 unfold TOf kR kS qM Q1 Q2 Q3 K0.R1 K0.R2 K0.R3
 dsimp only at *
 clear h nz h1 h2 h3 c6 c7 c8
 generalize (w:Rat)=A at *
 generalize (x:Rat)=B at *
 generalize (y:Rat)=D at *
 generalize (z:Rat)=E at *
 refine ⟨?_,?_,?_⟩
 ·rw [<- yO (t:=t0) hn (by unfold N4;grind), <- yO (t:=t1) hn (by unfold N4;grind), <- yO (t:=t2) hn (by unfold N4;grind)]
 ·rw [<- yO (t:=t3) hn (by unfold N4;grind), <- yO (t:=t4) hn (by unfold N4;grind), <- yO (t:=t5) hn (by unfold N4;grind)]
 ·rw [<- yO (t:=t6) hn (by unfold N4;grind), <- yO (t:=t7) hn (by unfold N4;grind), <- yO (t:=t8) hn (by unfold N4;grind)]
theorem yjR {a b d:Row3} (h:SO a b d) {L:Rat} {w x y z:Int} (hw:(w:Rat)=L*(a.z - d.x)) (hx:(x:Rat)=L*(a.y+b.x)) (hy:(y:Rat)=L*(1 - a.x+b.y - d.z)) (hz:(z:Rat)=L*(b.z+d.y)) (nz:∃ n∈[w,x,y,z],n≠0):TOf a b d w x y z:=by
 obtain ⟨⟨h1,h2,h3⟩,c6,c7,c8⟩:=h.eqs
 obtain ⟨m1,m2,m3,m4,m5,m6⟩:=zvD h1 h2 h3 c6 c7 c8
 have hn:=tE (rfl:[w,x,y,z]=[w,x,y,z]) nz
 obtain ⟨t0,t1,t2⟩:=a
 obtain ⟨t3,t4,t5⟩:=b
 obtain ⟨t6,t7,t8⟩:=d
 unfold TOf kR kS qM Q1 Q2 Q3 K0.R1 K0.R2 K0.R3
 dsimp only at *
 clear h nz h1 h2 h3 c6 c7 c8
 generalize (w:Rat)=A at *
 generalize (x:Rat)=B at *
 generalize (y:Rat)=D at *
 generalize (z:Rat)=E at *
 refine ⟨?_,?_,?_⟩
 ·rw [<- yO (t:=t0) hn (by unfold N4;grind), <- yO (t:=t1) hn (by unfold N4;grind), <- yO (t:=t2) hn (by unfold N4;grind)]
 ·rw [<- yO (t:=t3) hn (by unfold N4;grind), <- yO (t:=t4) hn (by unfold N4;grind), <- yO (t:=t5) hn (by unfold N4;grind)]
 ·rw [<- yO (t:=t6) hn (by unfold N4;grind), <- yO (t:=t7) hn (by unfold N4;grind), <- yO (t:=t8) hn (by unfold N4;grind)]
theorem yiM {a b d:Row3} (h:SO a b d) {L:Rat} {w x y z:Int} (hw:(w:Rat)=L*(b.x - a.y)) (hx:(x:Rat)=L*(a.z+d.x)) (hy:(y:Rat)=L*(b.z+d.y)) (hz:(z:Rat)=L*(1 - a.x - b.y+d.z)) (nz:∃ n∈[w,x,y,z],n≠0):TOf a b d w x y z:=by
 obtain ⟨⟨h1,h2,h3⟩,c6,c7,c8⟩:=h.eqs
 obtain ⟨m1,m2,m3,m4,m5,m6⟩:=zwM h1 h2 h3 c6 c7 c8
 have hn:=tE (rfl:[w,x,y,z]=[w,x,y,z]) nz
 obtain ⟨t0,t1,t2⟩:=a
 obtain ⟨t3,t4,t5⟩:=b
 obtain ⟨t6,t7,t8⟩:=d
 unfold TOf kR kS qM Q1 Q2 Q3 K0.R1 K0.R2 K0.R3
 dsimp only at *
 clear h nz h1 h2 h3 c6 c7 c8
 generalize (w:Rat)=A at *
 generalize (x:Rat)=B at *
 generalize (y:Rat)=D at *
 generalize (z:Rat)=E at *
 refine ⟨?_,?_,?_⟩
 ·rw [<- yO (t:=t0) hn (by unfold N4;grind), <- yO (t:=t1) hn (by unfold N4;grind), <- yO (t:=t2) hn (by unfold N4;grind)]
 ·rw [<- yO (t:=t3) hn (by unfold N4;grind), <- yO (t:=t4) hn (by unfold N4;grind), <- yO (t:=t5) hn (by unfold N4;grind)]
 ·rw [<- yO (t:=t6) hn (by unfold N4;grind), <- yO (t:=t7) hn (by unfold N4;grind), <- yO (t:=t8) hn (by unfold N4;grind)]
end
def Row3.neg (r:Row3):Row3:=⟨-r.x, -r.y, -r.z⟩
def zaB:List Dat->(Dat->Prop)->Prop:=fun ds C=>∃ (a b d:Row3),ds=[tbD a b d]/\TB 940 a b d/\C=fun g=>∃ w x y z:Int,g=tI [w,x,y,z]/\(∃ n∈[w,x,y,z],n≠0)/\Bd (2 ^ 950) [w,x,y,z]/\(SO a b d->TOf a b d w x y z)
def qN:List Dat->Dat->Prop:=fun ds g=>∃ (a b d:Row3) (w x y z:Int) (v:Bool),ds=[tbD a b d,tI [w,x,y,z]]/\TB 940 a b d/\(∃ n∈[w,x,y,z],n≠0)/\Bd (2 ^ 950) [w,x,y,z]/\(v=true ↔ TOf a b d w x y z)/\g = .bool v
def rA:List Dat->Dat->Prop:=fun ds g=>∃ (a b d:Row3) (v:Bool),ds=[tbD a b d]/\TB 940 a b d/\(v=true ↔ SO a b d)/\g = .bool v
theorem TB.lv {c:Nat} {a b d:Row3} (h:TB c a b d) (hc:c<=950):TabP Lv a b d:=by
 obtain ⟨C,h0,hC,t⟩:=h
 exact t.mono fun x hx=>hx.lv h0 hC hc
theorem TB.up {c c':Nat} {a b d:Row3} (h:TB c a b d) (hc:c<=c'):TB c' a b d:=by
 obtain ⟨C,h0,hC,t⟩:=h
 exact ⟨C,h0,hC.up hc,t.mono fun x hx=>hx.up hc⟩
theorem zzM {w x y z:Int}:kR w x y z=⟨qv (w*w+x*x - y*y - z*z) (yU [w,x,y,z]),qv (2*(x*y - w*z)) (yU [w,x,y,z]),qv (2*(x*z+w*y)) (yU [w,x,y,z])⟩ /\
  kS w x y z=⟨qv (2*(x*y+w*z)) (yU [w,x,y,z]),qv (w*w - x*x+y*y - z*z) (yU [w,x,y,z]),qv (2*(y*z - w*x)) (yU [w,x,y,z])⟩ /\
  qM w x y z=⟨qv (2*(x*z - w*y)) (yU [w,x,y,z]),qv (2*(y*z+w*x)) (yU [w,x,y,z]),qv (w*w - x*x - y*y+z*z) (yU [w,x,y,z])⟩:=by
 have cN:((yU [w,x,y,z]:Int):Rat)=N4 w x y z:=by unfold yU N4;push_cast;rfl
 unfold kR kS qM Q1 Q2 Q3 K0.R1 K0.R2 K0.R3 qv
 rw [cN]
 push_cast
 refine ⟨?_,?_,?_⟩ <;> congr 2 <;> grind
theorem zzX {w x y z:Int} {m:Nat} (nz:∃ n∈[w,x,y,z],n≠0) (bd:Bd (2 ^ m) [w,x,y,z]):TB (2*m+3) (kR w x y z) (kS w x y z) (qM w x y z):=by
 have np:=yW (ns:=[w,x,y,z]) rfl nz
 obtain ⟨W1,W2,W3⟩:=zfG bd
 obtain ⟨e1,e2,e3⟩:=zzM (w:=w) (x:=x) (y:=y) (z:=z)
 rw [e1,e2,e3]
 unfold rw1 at W1
 unfold rw2 at W2
 unfold rw3 at W3
 exact ⟨yU [w,x,y,z],np,zkS bd,⟨⟨_,W1 (w*w+x*x - y*y - z*z) (by simp),rfl⟩,⟨_,W1 (2*(x*y - w*z)) (by simp),rfl⟩,⟨_,W1 (2*(x*z+w*y)) (by simp),rfl⟩⟩,⟨⟨_,W2 (2*(x*y+w*z)) (by simp),rfl⟩,⟨_,W2 (w*w - x*x+y*y - z*z) (by simp),rfl⟩,⟨_,W2 (2*(y*z - w*x)) (by simp),rfl⟩⟩,⟨⟨_,W3 (2*(x*z - w*y)) (by simp),rfl⟩,⟨_,W3 (2*(y*z+w*x)) (by simp),rfl⟩,⟨_,W3 (w*w - x*x - y*y+z*z) (by simp),rfl⟩⟩⟩
theorem xH {q:Rat} {t N:Int} (hN:N≠0):q.num*N=q.den*t ↔ q=qv t N:=by
 have hd:(q.den:Int)≠0:=by have:=q.den_pos;omega
 constructor
 ·intro h
  rw [<- zdL q]
  exact zzA hd hN (by rw [h];grind)
 ·intro h
  have e:=zdL q
  have c1:=wN hd
  have c2:=wN hN
  have:(q.num:Rat)*N=q.den*t:=by
   unfold qv at e h
   push_cast at c1 e
   rw [h] at e
   rw [<- h] at e
   grind
  exact_mod_cast this
theorem zjD {r:Row3} {t1 t2 t3 N:Int}:(r=⟨qv t1 N,qv t2 N,qv t3 N⟩) ↔ r.x=qv t1 N/\r.y=qv t2 N/\r.z=qv t3 N:=by
 constructor
 ·intro h;rw [h];exact ⟨rfl,rfl,rfl⟩
 ·intro ⟨h1,h2,h3⟩
  cases r
  dsimp only at h1 h2 h3
  rw [h1,h2,h3]
section
def Row3.sum (r s:Row3) (p q:Rat):Row3:=⟨r.x*p+s.x*q,r.y*p+s.y*q,r.z*p+s.z*q⟩
def Row3.cr (r s:Row3):Row3:=⟨r.y*s.z+r.z * -s.y,r.z*s.x+r.x * -s.z,r.x*s.y+r.y * -s.x⟩
section
variable {r s:Row3}
end
end
def tw (P1 P2 P3:Prop):Nat->Prop
 | 0=>True
 | 1=>P1
 | 2=>P1/\P2
 | _=>P1/\P2/\P3
def jB (L:Int) (q:Rat):Int:=q.num*(L / q.den)
def ygR:Dat->Dat
 | .tuple [_,e]=>e
 | d=>d
def yhD (L:Int):Dat->Dat
 | .tuple [.int n,.int m]=>.int (n*(L / m))
 | d=>d
theorem yaL (q:Rat):ygR (tI (qf q)) = .int (q.den:Int):=rfl
theorem yfG (L:Int) (q:Rat):yhD L (tI (qf q)) = .int (jB L q):=rfl
def ztR:List Dat->(Dat->Prop)->Prop:=fun ds C=>∃ (qs:List Rat) (B:Int) (c:Nat),ds=[.tuple (qs.map fun q=>tI (qf q))]/\qs.length<=100/\0<B/\Bt B c/\c<=2900/\(∀ q∈qs,FB B c q)/\C=fun g=>∃ L:Int,g = .tuple [tI (qs.map (jB L)),.int L]/\0<L/\L ∣ B/\∀ q∈qs,(q.den:Int) ∣ L
theorem FB.den {B:Int} {c:Nat} {q:Rat} (h:FB B c q) (h0:0<B):(q.den:Int) ∣ B:=by
 obtain ⟨t,_,e⟩:=h
 have h1:q.num*B=q.den*t:=(xH (by omega)).mpr e.symm
 have h2:(q.den:Int) ∣ q.num*B:=⟨t,h1⟩
 have h3:q.den ∣ (q.num*B).natAbs:=by
  have:=Int.natAbs_dvd_natAbs.mpr h2
  rw [Int.natAbs_natCast] at this;exact this
 rw [Int.natAbs_mul] at h3
 have h4:q.den ∣ B.natAbs:=(Nat.Coprime.symm q.reduced).dvd_of_dvd_mul_left h3
 obtain ⟨n,rfl⟩:=Int.eq_ofNat_of_zero_le (Int.le_of_lt h0)
 exact Int.natCast_dvd_natCast.mpr (by simpa using h4)
theorem xV {L:Int} {q:Rat} (h:(q.den:Int) ∣ L):(jB L q:Rat)=L*q:=by
 obtain ⟨k,rfl⟩:=h
 have hd:(q.den:Int)≠0:=by have:=q.den_pos;omega
 unfold jB
 rw [Int.mul_ediv_cancel_left _ hd]
 have e:=zdL q
 have c1:=wN hd
 unfold qv at e
 push_cast at e c1 ⊢
 grind
theorem wW {B L:Int} {c:Nat} {q:Rat} (h:FB B c q) (h0:0<B) (L0:0<L) (d1:L ∣ B) (d2:(q.den:Int) ∣ L):Bt (jB L q) c:=by
 obtain ⟨t,ht,e⟩:=h
 have h1:=xV d2
 obtain ⟨k,rfl⟩:=d1
 have k0:k≠0:=fun z=>by subst z;omega
 have e2:jB L q*k=t:=by
  have c1:=wN (show L≠0 by omega)
  have c2:=wN k0
  have:((jB L q:Int):Rat)*k=t:=by
   rw [h1, <- e]
   unfold qv
   push_cast
   grind
  exact_mod_cast this
 unfold Bt at ht ⊢
 rw [<- e2,Int.natAbs_mul] at ht
 exact Nat.le_trans (Nat.le_mul_of_pos_right _ (by omega)) ht
theorem qJ {α:Type} {kp:α->Bool}:∀ {ds:List α},(∃ d∈ds,kp d=true)->∃ d r,ds.filter kp=d::r/\d∈ds/\kp d=true
  | [],h=>by obtain ⟨d,hd,_⟩:=h;cases hd
  | x::ds, h => by
    cases hx:kp x with
    | true=>exact ⟨x,ds.filter kp,by rw [List.filter_cons_of_pos hx],List.mem_cons_self,hx⟩
    | false =>
      obtain ⟨d,hd,h2⟩:=h
      rcases List.mem_cons.mp hd with rfl|hd
      . rw [hx] at h2;cases h2
      . obtain ⟨e,r,h3,h4,h5⟩:=qJ ⟨d,hd,h2⟩
        exact ⟨e,r,by rw [List.filter_cons_of_neg (by rw [hx];decide),h3],List.mem_cons_of_mem _ h4,h5⟩
theorem jU {w x y z:Int} (h:[w,x,y,z]≠[0,0,0,0]):∃ n∈[w,x,y,z],n≠0:=by
 by_cases h1:w=0
 ·by_cases h2:x=0
  ·by_cases h3:y=0
   ·by_cases h4:z=0
    ·subst h1 h2 h3 h4;exact absurd rfl h
    ·exact ⟨z,by simp,h4⟩
   ·exact ⟨y,by simp,h3⟩
  ·exact ⟨x,by simp,h2⟩
 ·exact ⟨w,by simp,h1⟩
theorem zcX {w x y z:Int} {k:Nat} (h1:Bt w k) (h2:Bt x k) (h3:Bt y k) (h4:Bt z k):Bd (2 ^ k) [w,x,y,z]:=fun n hn=>by
 simp only [List.mem_cons,List.mem_nil_iff,or_false] at hn
 rcases hn with rfl|rfl|rfl|rfl
 ·exact h1
 ·exact h2
 ·exact h3
 ·exact h4
theorem zoY {a b d:Row3} {L t0 t1 t2 t3 t4 t5 t6 t7 t8:Int} (L0:0<L) (bL:Bt L 940) (bt:∀ n∈[t0,t1,t2,t3,t4,t5,t6,t7,t8],Bt n 940)
  (e0:(t0:Rat)=L*a.x) (e1:(t1:Rat)=L*a.y) (e2:(t2:Rat)=L*a.z) (e3:(t3:Rat)=L*b.x) (e4:(t4:Rat)=L*b.y) (e5:(t5:Rat)=L*b.z) (e6:(t6:Rat)=L*d.x) (e7:(t7:Rat)=L*d.y) (e8:(t8:Rat)=L*d.z) :
  ∀ r∈[[L+t0+t4+t8,t7 - t5,t2 - t6,t3 - t1],[t7 - t5,L+t0 - t4 - t8,t1+t3,t2+t6],[t2 - t6,t1+t3,L - t0+t4 - t8,t5+t7],[t3 - t1,t2+t6,t5+t7,L - t0 - t4+t8]],r≠[0,0,0,0]->∃ w x y z:Int,r=[w,x,y,z]/\(∃ n∈[w,x,y,z],n≠0)/\Bd (2 ^ 950) [w,x,y,z]/\(SO a b d->TOf a b d w x y z):=by
 intro r hr ne
 have b0:=bt t0 (by simp)
 have b1:=bt t1 (by simp)
 have b2:=bt t2 (by simp)
 have b3:=bt t3 (by simp)
 have b4:=bt t4 (by simp)
 have b5:=bt t5 (by simp)
 have b6:=bt t6 (by simp)
 have b7:=bt t7 (by simp)
 have b8:=bt t8 (by simp)
 have up:∀ {n:Int},Bt n 943->Bt n 950:=fun h=>h.up (by decide)
 have p2:∀ {x y:Int},Bt x 940->Bt y 940->Bt (x+y) 943:=fun h g=>(h.add g).up (by decide)
 have m2:∀ {x y:Int},Bt x 940->Bt y 940->Bt (x - y) 943:=fun h g=>by rw [Int.sub_eq_add_neg];exact p2 h (aZ g)
 have q4:∀ {x y z u:Int},Bt x 940->Bt y 940->Bt z 940->Bt u 940->Bt (x+y+z+u) 943:=fun h1 h2 h3 h4=>(((h1.add h2).add (h3.up (by decide))).add (h4.up (by decide))).up (by decide)
 have n0:=aZ b0
 have n4:=aZ b4
 have n8:=aZ b8
 simp only [List.mem_cons,List.mem_nil_iff,or_false] at hr
 rcases hr with rfl|rfl|rfl|rfl
 ·exact ⟨_,_,_,_,rfl,jU ne,zcX (up (q4 bL b0 b4 b8)) (up (m2 b7 b5)) (up (m2 b2 b6)) (up (m2 b3 b1)),fun h=>yjL h (L:=L) (by push_cast;grind) (by push_cast;grind) (by push_cast;grind) (by push_cast;grind) (jU ne)⟩
 ·exact ⟨_,_,_,_,rfl,jU ne,zcX (up (m2 b7 b5)) (up (by rw [Int.sub_eq_add_neg,Int.sub_eq_add_neg];exact q4 bL b0 n4 n8)) (up (p2 b1 b3)) (up (p2 b2 b6)),fun h=>yjC h (L:=L) (by push_cast;grind) (by push_cast;grind) (by push_cast;grind) (by push_cast;grind) (jU ne)⟩
 ·exact ⟨_,_,_,_,rfl,jU ne,zcX (up (m2 b2 b6)) (up (p2 b1 b3)) (up (by rw [Int.sub_eq_add_neg,Int.sub_eq_add_neg];exact q4 bL n0 b4 n8)) (up (p2 b5 b7)),fun h=>yjR h (L:=L) (by push_cast;grind) (by push_cast;grind) (by push_cast;grind) (by push_cast;grind) (jU ne)⟩
 ·exact ⟨_,_,_,_,rfl,jU ne,zcX (up (m2 b3 b1)) (up (p2 b2 b6)) (up (p2 b5 b7)) (up (by rw [Int.sub_eq_add_neg,Int.sub_eq_add_neg];exact q4 bL n0 n4 b8)),fun h=>yiM h (L:=L) (by push_cast;grind) (by push_cast;grind) (by push_cast;grind) (by push_cast;grind) (jU ne)⟩
theorem zmO {L t0 t1 t2 t3 t4 t5 t6 t7 t8:Int} (L0:0<L):∃ r∈[[L+t0+t4+t8,t7 - t5,t2 - t6,t3 - t1],[t7 - t5,L+t0 - t4 - t8,t1+t3,t2+t6],[t2 - t6,t1+t3,L - t0+t4 - t8,t5+t7],[t3 - t1,t2+t6,t5+t7,L - t0 - t4+t8]],r≠[0,0,0,0]:=by
 by_cases h1:L+t0+t4+t8=0
 ·by_cases h2:L+t0 - t4 - t8=0
  ·by_cases h3:L - t0+t4 - t8=0
   ·have h4:L - t0 - t4+t8≠0:=by omega
    exact ⟨_,List.mem_cons_of_mem _ (List.mem_cons_of_mem _ (List.mem_cons_of_mem _ List.mem_cons_self)),fun h=>h4 (by injection h with _ h;injection h with _ h;injection h with _ h;injection h)⟩
   ·exact ⟨_,List.mem_cons_of_mem _ (List.mem_cons_of_mem _ List.mem_cons_self),fun h=>h3 (by injection h with _ h;injection h with _ h;injection h)⟩
  ·exact ⟨_,List.mem_cons_of_mem _ List.mem_cons_self,fun h=>h2 (by injection h with _ h;injection h)⟩
 ·exact ⟨_,List.mem_cons_self,fun h=>h1 (by injection h)⟩
theorem zvU {xs:List Int} {L:Int}:tF (.tuple [tI xs,.int L])=true:=by
 rw [tF,xR,xR,xR,tF,yV]
 rfl
theorem zkQ {P:Rat->Prop} {a b d:Row3} (h:TabP P a b d):∀ q∈[a.x,a.y,a.z,b.x,b.y,b.z,d.x,d.y,d.z],P q:=fun q hq=>by
 simp only [List.mem_cons,List.mem_nil_iff,or_false] at hq
 obtain ⟨⟨h1,h2,h3⟩,⟨h4,h5,h6⟩,h7,h8,h9⟩:=h
 rcases hq with rfl|rfl|rfl|rfl|rfl|rfl|rfl|rfl|rfl <;> assumption
theorem znZ {P:Int->Prop} {t0 t1 t2 t3 t4 t5 t6 t7 t8:Int} (h0:P t0) (h1:P t1) (h2:P t2) (h3:P t3) (h4:P t4) (h5:P t5) (h6:P t6) (h7:P t7) (h8:P t8):∀ n∈[t0,t1,t2,t3,t4,t5,t6,t7,t8],P n:=fun n hn=>by
 simp only [List.mem_cons,List.mem_nil_iff,or_false] at hn
 rcases hn with rfl|rfl|rfl|rfl|rfl|rfl|rfl|rfl|rfl <;> assumption
theorem zvK {rs:List (List Int)} {d:Dat} (h:d∈rs.map tI):PySem.W.kqdOk 9 d=true:=by
 obtain ⟨r,_,rfl⟩:=List.mem_map.mp h
 exact yE
section
def Row3.sub (r s:Row3):Row3:=⟨r.x - s.x,r.y - s.y,r.z - s.z⟩
def Row3.add (r s:Row3):Row3:=⟨r.x+s.x,r.y+s.y,r.z+s.z⟩
def Row3.sm (k:Rat) (r:Row3):Row3:=⟨k*r.x,k*r.y,k*r.z⟩
def nq (w:Rat) (v:Row3):Rat:=N4 w v.x v.y v.z
section
variable {w:Rat} {v r s:Row3} {k:Rat}
end
def r0:Row3:=⟨0,0,0⟩
section
variable {w:Rat} {v r s:Row3} {k:Rat}
end
end
def TnQ (w x y z:Int) (r s:Row3):Prop:=Q1 w x y z r.x r.y r.z=s.x/\Q2 w x y z r.x r.y r.z=s.y/\Q3 w x y z r.x r.y r.z=s.z
def Tb (r1 r2 s1 s2:Row3):Dat->Prop:=fun g=>∃ w x y z:Int,g=tI [w,x,y,z]/\(∃ n∈[w,x,y,z],n≠0)/\pl [w,x,y,z]=[w,x,y,z]/\Bd (2 ^ 1000) [w,x,y,z]/\TnQ w x y z r1 s1/\TnQ w x y z r2 s2
def d2 (a b:Row3):Rat:=(b.sub a).dot (b.sub a)
structure ybC (p0 p1 p2 o0 o1 o2:Row3) (w x y z:Int) (u v t:Rat):Prop where
 nz:∃ n∈[w,x,y,z],n≠0
 p:pl [w,x,y,z]=[w,x,y,z]
 b:Bd (2 ^ 1000) [w,x,y,z]
 h1:TnQ w x y z (p1.sub p0) (o1.sub o0)
 h2:TnQ w x y z (p2.sub p0) (o2.sub o0)
 su:u=o0.x + -Q1 w x y z p0.x p0.y p0.z
 sv:v=o0.y + -Q2 w x y z p0.x p0.y p0.z
 st:t=o0.z + -Q3 w x y z p0.x p0.y p0.z
def rq (f g:List Int):Rat:=qv (wX f g*wX f g) (yU f*yU g)
end D
section
namespace D
open PySem L2 K0 Num
open PySem.W (Dat)
section
variable {p:Option Addr} {K:PySem.W.Frag} {W:Addr->Prop} {τ:List Sl} {te:TE}
end
end D
namespace D
open PySem L2 K0 Num
open PySem.W (Dat)
section
variable {p:Option Addr} {K:PySem.W.Frag} {τ:List Sl} {te:TE} {s:Sl}
theorem A.lastE {C:Sl->Prop} (h:E p K te τ C):A p K (yN te vJ) τ (fun ss=>∃ s,ss=[s]/\C s):=A.cons (C2:=fun _ x=>[]=x) h (fun _ _=>A1.nil) fun x ss h1 h2=>⟨x,by rw [<- h2],h1⟩
end
end D
end
namespace D
open PySem L2 K0 Num
open PySem.W (Dat)
section
def Own.Reads (o:Own) (d:Dat):Prop:=∀ (N:Addr->Prop) (K:PySem.W.Frag) (H:Hp) (a:Addr) (l:List Addr),o.R N K H a l->Dz (fun _=>True) K H (.ref a) d
section
variable {K:PySem.W.Frag} {W:Addr->Prop} {H:Hp} {o:Own}
end
end
section
section
variable {W:Addr->Prop}
end
inductive Con (A:Nat->Nat->Prop):Nat->Nat->Prop
 | refl (i:Nat):Con A i i
 | step {i j k:Nat}:Con A i j->A j k->Con A i k
section
variable {A:Nat->Nat->Prop}
noncomputable def yjG (A:Nat->Nat->Prop) (i j:Nat):Bool:=@decide (Con A i j) (Classical.propDecidable _)
noncomputable def cls (A:Nat->Nat->Prop) (n i:Nat):List Nat:=(List.range n).filter (yjG A i)
end
end
end D
section
namespace L2
open PySem PySem.Spec PyProof.Rows
def ydD (n:Int) (d:Value):Prop:=∃ t,d = .int n t
def IntTAt (K:PySem.W.Frag) (x:Str) (n:Int):Prop:=∃ t,PySem.W.nsIn K mainGlobals x=some (some (.int n t))
theorem IntTAt.mk {K:PySem.W.Frag} {x:Str} {n:Int} {t:_} (a:PySem.W.nsIn K mainGlobals x=some (some (.int n t))):IntTAt K x n:=⟨t,a⟩
theorem IntTAt.get {K:PySem.W.Frag} {x:Str} {n:Int} {h:Heap} {mg:Str->Option Value} (t:IntTAt K x n) (Y:K.In h) (G:h.Ns mainGlobals mg):∃ d,mg x=some d/\ydD n d:=by
 obtain ⟨d,a⟩:=t
 exact ⟨_,PySem.W.mg_of Y G a,_,rfl⟩
theorem ztH {X:Cx} {x:Str} {pos:Pos} {n:Int} {d:Value} (hg:Gl X x) (hm:X.mg x=some d) (r:ydD n d) (hd:(x == ("__debug__" : Str))=false:=by decide):ZE X (.Name x pos) (tC (.int n)):=wM hg hm (by obtain ⟨t,rfl⟩:=r;exact ⟨t,rfl⟩) hd
end L2
namespace D
open PySem L2 K0 Num
open PySem.W (Dat)
end D
end
namespace D
open PySem L2 K0 Num
open PySem.W (Dat)
section
section
variable {W:Addr->Prop}
end
def zzV (f:List Int):Prop:=f.length=4/\(∃ n∈f,n≠0)/\Bd (2 ^ 3) f
instance (f:List Int):Decidable (zzV f):=by unfold zzV Bd;infer_instance
section
end
end
end D
section
namespace L2
open PySem PySem.Spec PyProof.Rows
section
end
end L2
namespace D
open PySem L2 K0 Num
open PySem.W (Dat)
section
variable {W:Addr->Prop}
end
theorem yaN {ns:List Int}:tF (tI ns)=true:=yV ns
end D
end
namespace D
open PySem L2 K0 Num
open PySem.W (Dat)
structure Fw where
 t:Int
 b:Int
def Fw.q (f:Fw):Rat:=qv f.t f.b
def Fw.d (f:Fw):Dat:=tI [f.t,f.b]
def lf (l:List (List Int)):List Int:=l.foldl (fun P f=>pl (qm f P)) [1,0,0,0]
def tq (f:List Int) (v:Rat × Rat × Rat):Rat × Rat × Rat:=match f with
 | [a,b,d,e]=>(Q1 a b d e v.1 v.2.1 v.2.2,Q2 a b d e v.1 v.2.1 v.2.2,Q3 a b d e v.1 v.2.1 v.2.2)
 | _=>v
def pQ (v:Rat × Rat × Rat):Dat:=ptQ v.1 v.2.1 v.2.2
section
end
end D
section
namespace L2
open PySem PySem.Spec PyProof.Rows
namespace RvT
section
variable {t:Addr}
def Is (h:Heap) (a t:Addr) (i:Int):Prop:=∃ o,h.get? a=some o/\o.cls = .type "reversed" /\ o.data = .fields #[.ref t,rawInt i]
end
end RvT
section
end
end L2
end
namespace D
open PySem L2 K0 Num
open PySem.W (Dat)
section
end
abbrev V3:=Rat × Rat × Rat
structure Jt where
 x:Int
 y:Int
 z:Int
 a:V3
 k:Int
 l:Int
def Jt.d (j:Jt):Dat:=.tuple [tI [j.x,j.y,j.z],pQ j.a,tI [j.k,j.l]]
def Jt.t (j:Jt):List Int:=pl [j.l,j.k*j.x,j.k*j.y,j.k*j.z]
def Jt.w (j:Jt):V3:=(j.x,j.y,j.z)
end D
section
namespace L2
open PySem PySem.Spec PyProof.Rows
def ybS (z:Str) (d:Value):Prop:=∃ t,d = .str z t
def StrTAt (K:PySem.W.Frag) (x:Str) (z:Str):Prop:=∃ t,PySem.W.nsIn K mainGlobals x=some (some (.str z t))
theorem StrTAt.mk {K:PySem.W.Frag} {x z:Str} {t:_} (a:PySem.W.nsIn K mainGlobals x=some (some (.str z t))):StrTAt K x z:=⟨t,a⟩
theorem StrTAt.get {K:PySem.W.Frag} {x z:Str} {h:Heap} {mg:Str->Option Value} (t:StrTAt K x z) (Y:K.In h) (G:h.Ns mainGlobals mg):∃ d,mg x=some d/\ybS z d:=by
 obtain ⟨d,a⟩:=t
 exact ⟨_,PySem.W.mg_of Y G a,_,rfl⟩
theorem ztI {X:Cx} {x z:Str} {pos:Pos} {d:Value} (hg:Gl X x) (hm:X.mg x=some d) (r:ybS z d) (hd:(x == ("__debug__" : Str))=false:=by decide):ZE X (.Name x pos) (tC (.str z)):=wM hg hm (by obtain ⟨t,rfl⟩:=r;exact ⟨t,rfl⟩) hd
end L2
namespace D
open PySem L2 K0 Num
open PySem.W (Dat)
section
variable {p:Option Addr} {K:PySem.W.Frag} {τ:List Sl}
theorem E1.cS {z:Str}:E1 p K (tC (.str z)) τ (.dat (.str z)):=fun W L σ H Q r o q=>q _ H _ rfl aE o (.str _)
end
end D
end
section
namespace D
open PySem L2 K0 Num
open PySem.W (Dat)
end D
namespace D
open PySem L2 K0 Num
open PySem.W (Dat)
theorem zsM {z:Str}:(jZ z).length=z.length:=by unfold jZ;rw [List.length_map,Array.length_toList];rfl
theorem ztZ {z:Str} {i:Nat} {d:Dat} (h:(jZ z)[i]?=some d):∃ c,d = .str ⟨#[c]⟩/\c∈z.cps.toList:=by
 unfold jZ at h
 rw [List.getElem?_map] at h
 cases e:z.cps.toList[i]? with
 | none=>rw [e] at h;cases h
 | some c=>rw [e] at h;cases h;exact ⟨c,rfl,List.mem_of_getElem? e⟩
end D
end
namespace D
open PySem L2 K0 Num
open PySem.W (Dat)
def low (c:Nat):Prop:=97<=c/\c<=122
section
end
end D
section
namespace L2
open PySem PySem.Spec PyProof.Rows
def Fx (C:Value) (e:Addr) (tb:Option Addr) (h:Heap):Prop :=
 ∃ oe vs,h.get? e=some oe/\(oe.cls=C/\oe.dict=none)/\oe.data = .fields vs/\1<vs.size/\(match tb with
  | none=>vs[1]?=some .none
  | some T=>vs[1]?=some (.ref T)/\T≠e/\∃ oT ts,h.get? T=some oT/\oT.data = .fields ts/\3<ts.size)
section
variable {e:Addr} {C:Value}
end
def ygB (X:Cx) (pins:List (Addr × Obj)) (H:Hp) (e:Addr) (tb:Option Addr):Prop:=∀ a,(a=e\/some a=tb)->X.s₀.heap.get? a=none/\H a=none/\∀ p∈X.pn++pins,p.1≠a
section
variable {X:Cx} {pins:List (Addr × Obj)} {H:Hp} {C:Value} {e:Addr} {tb:Option Addr}
end
end L2
end
section
namespace L2
open PySem PySem.Spec PyProof.Rows
abbrev TX:=St->Hp->(St->Hp->Prop)->Prop
def XP (X:Cx) (pins:List (Addr × Obj)) (C:Value) (G:St->Hp->Prop) (v:Value) (s':Shared):Prop :=
 ∃ e tb σ' H',v = .ref e/\Inv X pins σ' H' s'/\G σ' H'/\Fx C e tb s'.heap/\ygB X pins H' e tb
section
variable {X:Cx} {C:Value} {e:Expr}
end
section
variable {X:Cx} {C:Value} {e:Expr}
end
section
variable {X:Cx} {C:Addr}
end
section
end
end L2
end
section
namespace L2
open PySem PySem.Spec PyProof.Rows
section
variable {X:Cx}
def yhL:V->Option Int->Option Int->Hp->VK->Prop:=fun x lo hi H Q=>∃ z,x = .str z/\z.length<=sizeLine/\Q (.str (Txt.slice z lo hi)) H
theorem ycC:SlR X yhL:=by
  intro pins s σ H x v vl vu lo hi sl Q I rx hs pl pu h
  obtain ⟨z,rfl,hz,q⟩:=h
  obtain ⟨t,rfl⟩:=rx
  obtain ⟨ob,g1,g2,g3⟩:=hs
  refine ⟨"str",_,F.slot_str_getitem.lookup,typeIs_str _ _ _,?_⟩
  have fin:∀ t' k,EP X pins σ Q (.str (Txt.slice z lo hi) t') { s with toks:=k }:=fun t' k=>⟨.str _,H,I.tok k,⟨t',rfl⟩,q⟩
  have le:=Nat.le_trans (Txt.slice_le z lo hi) hz
  cases pl with
  | none =>
    cases pu with
    | none=>exact wpAny_getItem_str_slice (l:=none) (u:=none) (st:=none) ⟨ob,g1,g2,g3⟩ rfl (post_val_or_str ⟨le,fun t' k=>fin t' k⟩)
    | int j tj=>exact wpAny_getItem_str_slice (l:=none) (u:=some (j,tj)) (st:=none) ⟨ob,g1,g2,g3⟩ rfl (post_val_or_str ⟨le,fun t' k=>fin t' k⟩)
  | int i ti =>
    cases pu with
    | none=>exact wpAny_getItem_str_slice (l:=some (i,ti)) (u:=none) (st:=none) ⟨ob,g1,g2,g3⟩ rfl (post_val_or_str ⟨le,fun t' k=>fin t' k⟩)
    | int j tj=>exact wpAny_getItem_str_slice (l:=some (i,ti)) (u:=some (j,tj)) (st:=none) ⟨ob,g1,g2,g3⟩ rfl (post_val_or_str ⟨le,fun t' k=>fin t' k⟩)
end
end L2
namespace D
open PySem L2 K0 Num
open PySem.W (Dat)
section
variable {p:Option Addr} {K:PySem.W.Frag} {τ:List Sl} {te:TE}
theorem E1.slS {z:Str} {lo hi:Option Int} {tl th:TO} (h:E1 p K te τ (.dat (.str z))) (hl:O1 p K tl τ lo) (hh:O1 p K th τ hi) (hz:z.length<=sizeLine):E1 p K (tSl yhL te tl th) τ (.dat (.str (Txt.slice z lo hi))):=fun W L σ H Q r o q =>
 h W L σ H _ r o fun v H1 s e e1 o1 rv=>by
  subst e
  refine hl W L σ H1 _ (r.ev e1 o.pw) o1 fun H2 e2 o2=>hh W L σ H2 _ ((r.ev e1 o.pw).ev e2 o.pw) o2 fun H3 e3 o3=>?_
  cases rv
  exact ⟨z,rfl,hz,q _ _ _ rfl (e1.trans (e2.trans e3)) o3 (.str _)⟩
end
def Asc (n:Nat) (z:Str):Prop:=z.length<=n/\∀ c∈z.cps.toList,c<128
theorem Asc.slice {n:Nat} {z:Str} (h:Asc n z) (l u:Option Int):Asc n (Txt.slice z l u):=by
 refine ⟨Nat.le_trans (Txt.slice_le z l u) h.1,fun c hc=>?_⟩
 unfold Txt.slice at hc
 split at hc
 ·exact h.2 c hc
 ·obtain ⟨i,_,hi⟩:=List.mem_filterMap.mp hc
  exact h.2 c (Array.mem_toList_iff.mpr (Array.mem_of_getElem? hi))
theorem Asc.mono {n m:Nat} {x:Str} (h:Asc n x) (l:n<=m):Asc m x:=⟨Nat.le_trans h.1 l,h.2⟩
end D
end
namespace D
open PySem L2 K0 Num
open PySem.W (Dat)
theorem yaF (a b:Nat):decide ((⟨#[a]⟩:Str)=⟨#[b]⟩)=decide (a=b):=by
 by_cases h:a=b
 ·subst h;rw [decide_eq_true rfl,decide_eq_true rfl]
 ·rw [decide_eq_false h,decide_eq_false (fun q=>h (by injection q with q;injection q with q;injection q))]
section
end
section
theorem zrQ (a b c d x y z N:Rat):R1 a b c d x y z / N=x*(R1 a b c d 1 0 0 / N)+y*(R1 a b c d 0 1 0 / N)+z*(R1 a b c d 0 0 1 / N):=by
 unfold R1
 rw [Rat.div_def,Rat.div_def,Rat.div_def,Rat.div_def]
 grind
theorem zqT (a b c d x y z N:Rat):K0.R2 a b c d x y z / N=x*(K0.R2 a b c d 1 0 0 / N)+y*(K0.R2 a b c d 0 1 0 / N)+z*(K0.R2 a b c d 0 0 1 / N):=by
 unfold K0.R2
 rw [Rat.div_def,Rat.div_def,Rat.div_def,Rat.div_def]
 grind
theorem zpX (a b c d x y z N:Rat):R3 a b c d x y z / N=x*(R3 a b c d 1 0 0 / N)+y*(R3 a b c d 0 1 0 / N)+z*(R3 a b c d 0 0 1 / N):=by
 unfold R3
 rw [Rat.div_def,Rat.div_def,Rat.div_def,Rat.div_def]
 grind
theorem ybO {a b d:Row3} {w x y z w' x' y' z':Int} (n1:∃ n∈[w,x,y,z],n≠0) (n2:∃ n∈[w',x',y',z'],n≠0) (h:TOf a b d w x y z) (g:TOf a b d w' x' y' z'):pl [w,x,y,z]=pl [w',x',y',z']:=by
 obtain ⟨h1,h2,h3⟩:=h
 obtain ⟨g1,g2,g3⟩:=g
 have e1:=h1.symm.trans g1
 have e2:=h2.symm.trans g2
 have e3:=h3.symm.trans g3
 unfold kR at e1
 unfold kS at e2
 unfold qM at e3
 injection e1 with e11 e12 e13
 injection e2 with e21 e22 e23
 injection e3 with e31 e32 e33
 have N:=tE rfl n1
 have M:=tE rfl n2
 refine zsN n1 n2 ?_ ?_ ?_
 all_goals
  refine ⟨?_,?_,?_⟩
  ·rw [zrQ,zrQ (w':Rat)];exact congr (congrArg HAdd.hAdd (congr (congrArg HAdd.hAdd (congrArg _ e11)) (congrArg _ e12))) (congrArg _ e13)
  ·rw [zqT,zqT (w':Rat)];exact congr (congrArg HAdd.hAdd (congr (congrArg HAdd.hAdd (congrArg _ e21)) (congrArg _ e22))) (congrArg _ e23)
  ·rw [zpX,zpX (w':Rat)];exact congr (congrArg HAdd.hAdd (congr (congrArg HAdd.hAdd (congrArg _ e31)) (congrArg _ e32))) (congrArg _ e33)
def zcO:List Dat->(Dat->Prop)->Prop:=fun ds C=>∃ a b d:Row3,ds=[tbD a b d]/\TB 940 a b d/\SO a b d/\C=fun g=>∃ w x y z:Int,(∃ n∈[w,x,y,z],n≠0)/\Bd (2 ^ 950) [w,x,y,z]/\TOf a b d w x y z/\g=tI (pl [w,x,y,z])
section
end
section
variable {w:World}
end
end
theorem zjA (m n:Int):gcdN [m,n]=Nat.gcd m.natAbs n.natAbs:=by
 unfold gcdN
 simp
def l3 (x y z:Int):Dat:=.list [.int x,.int y,.int z]
section
end
theorem zjP (a b d:Row3):PySem.W.kqdOk 9 (tbD a b d)=true:=rfl
end D
section
namespace L2
open PySem PySem.Spec PyProof.Rows PySem.NumText PySem.Calls
def DigN (K:PySem.W.Frag):Prop:=PySem.W.nsIn K cStatics "sys.int_max_str_digits" = some none
section
variable {X:Cx} {pins:List (Addr × Obj)} {σ:St} {H:Hp} {s:Shared}
theorem Inv.nodig (I:Inv X pins σ H s) (d:DigN X.K):s.heap.NoDigits:=by
 obtain ⟨mc,a,_⟩:=I.nolimit
 exact ⟨mc,a,PySem.W.ns_none_of (I.ok.mod.kin.keeps I.bk) a d⟩
theorem kE (hc:X.calm=true) (d:DigN X.K):wZ X (.type "str") (fun xs H Q=>∃ i,xs=[.int i]/\i.natAbs<10 ^ 4300/\Q (.str (toString i)) H):=by
 intro pins s σ H xs us Q I r h
 obtain ⟨i,rfl,hz,q⟩:=h
 obtain ⟨u,rfl,t,rfl⟩:=qW r
 exact str_of_int_or (I.ok.hd hc) (I.nodig d) (fun _=>⟨.str _,H,I.tok _,⟨_,rfl⟩,q⟩) fun h=>absurd hz (Nat.not_lt.mpr h)
end
theorem zoH {M:Model} {A:Around} {E:Value->Shared->Prop} {s:Shared} {Q:Nat->Shared->Prop} (hn:s.heap.NoDigits) (h:Q 4300 s):wpAny M A Builtin.intMaxStrDigits Q E s:=by
 obtain ⟨mc,hns,hnone⟩:=hn
 unfold Builtin.intMaxStrDigits
 refine wpAny_bind (wpAny_nsGet hns ?_)
 rw [hnone]
 exact wpAny_pure h
theorem zsA {M:Model} {A:Around} {E:Value->Shared->Prop} {s:Shared} {Q:Value->Shared->Prop} {v:Value} {text:List Nat} {n:Int} (hn:s.heap.NoDigits)
  (hs:¬ (text.takeWhile (· != 0)).length<=640) (hr:(int_private% "readNumeral") 4300 10 (text.takeWhile (· != 0))=(int_private% "Numeral.value") n)
  (ha:((text.takeWhile (· != 0)).length == text.length)=true) (h:Q (.int n s.toks) { s with toks:=s.toks+1 }) :
  wpAny M A ((int_private% "intFromText") v text 10) Q E s:=by
 obtain ⟨hp,g,d,tk,os⟩:=s
 repeat (any_goals (first
  | assumption
  | (with_reducible refine wpAny_ite_false (decide_eq_false hs) ?_)
  | (with_reducible refine wpAny_ite_true (decide_eq_true ha) ?_)
  | (with_reducible refine zoH hn ?_)
  | wp_step))
 all_goals (try rw [hr])
 all_goals (try dsimp only)
 repeat (any_goals (first
  | assumption
  | (with_reducible refine wpAny_ite_true (decide_eq_true ha) ?_)
  | wp_step))
theorem zgH {x:PySem.Str} {u:Tok} {n:Int} (hl:x.length<=sizeLine) (h6:¬ (numSeenOf x).length<=640) (hn:PySem.intText? x=some n) :
  Meets (Builtin.«int.__new__» ⟨[.type "int",.str x u],[]⟩) (fun _ R s=>s.heap.NoDigits/\(Made.int n).post (fun v s'=>R (.ok (.ret v)) s') s):=fun prog w A R s hq=>by
 refine wpAny_mono (Q:=fun fin s'=>∃ v,fin = .done (.ret v)/\R (.ok (.ret v)) s') ?_ (fun fin s' h'=>by obtain ⟨v,rfl,hv⟩:=h';exact hv) fun _ _ x=>x
 obtain ⟨hd,h⟩:=hq
 obtain ⟨hp,g,d,tk,os⟩:=s
 have f1:=PySem.F.conv_sub_int
 have f2:=PySem.F.madeHere_int
 have f3:=PySem.W.KIN.str_int
 have f4:=PySem.W.KIN.str_idx
 have f5:=PySem.W.KIN.str_trunc
 have f6:typeOf (.str x u)=pure (.type "str"):=rfl
 have hr:(int_private% "readNumeral") 4300 10 (numSeenOf x)=(int_private% "Numeral.value") n/\((numSeenOf x).length == (numTextOf x).length)=true:=by
  rcases read4300 x hl with ⟨m,h1,h2,h3⟩|⟨h1,_⟩
  ·rw [hn] at h1
   injection h1 with h1
   subst h1
   exact ⟨h3,h2⟩
  ·rw [hn] at h1
   cases h1
 have hk:=PySem.W.KIN.Hid.mk (And.intro h6 hr)
 clear h6 hr hl hn
 repeat (any_goals (first
  | assumption
  | ((with_reducible show wpAny _ _ ((int_private% "intFromText") _ _ _) _ _ _);refine zsA hd hk.out.1 hk.out.2.1 hk.out.2.2 ?_)
  | wp_step))
 all_goals first|exact ⟨_,rfl,h⟩|skip
section
variable {X:Cx}
theorem zlY (d:DigN X.K):wZ X (.type "int") (fun xs H Q=>∃ x n,xs=[.str x]/\PySem.intText? x=some n/\x.length<=sizeLine/\(∀ c∈x.cps.toList,c=45\/(48<=c/\c<=57))/\Q (.int n) H):=by
 intro pins s σ H xs us Q I r h
 obtain ⟨x,n,rfl,hn,hl,hd,q⟩:=h
 obtain ⟨u,rfl,t,rfl⟩:=qW r
 by_cases h6:x.length<=640
 ·exact PySem.W.KIN.call_text hn h6 ⟨.int n,H,I.tok _,⟨_,rfl⟩,q⟩
 ·exact call_int_1 (zgH hl (by rw [(numText_signs hd).2];exact h6) hn) ⟨I.nodig d,show (Made.int n).post _ s from ⟨rfl,⟨.int n,H,I.tok _,⟨_,rfl⟩,q⟩⟩⟩
end
end L2
namespace D
open PySem L2 K0 Num
open PySem.W (Dat)
section
variable {p:Option Addr} {K:PySem.W.Frag} {W:Addr->Prop} {H H0:Hp} {τ:List Sl} {tas:TA}
theorem bD {i:Int} (ha:A1 p K tas τ [.dat (.int i)]) (h:i.natAbs<10 ^ 4300):E1 p K (tCB (fun xs H Q=>∃ i,xs=[.int i]/\i.natAbs<10 ^ 4300/\Q (.str (toString i)) H) tas) τ (.dat (.str (toString i))) :=
 bS ha fun W H0 H x Q o0 o _ r q=>by cases r.int_inv;exact ⟨i,rfl,h,q _ H aE o (.str _)⟩
theorem E1.intS {x:Str} {n:Int} (ha:A1 p K tas τ [.dat (.str x)]) (hn:PySem.intText? x=some n) (hl:x.length<=sizeLine) (hd:∀ c∈x.cps.toList,c=45\/(48<=c/\c<=57)) :
  E1 p K (tCB (fun xs H Q=>∃ x n,xs=[.str x]/\PySem.intText? x=some n/\x.length<=sizeLine/\(∀ c∈x.cps.toList,c=45\/(48<=c/\c<=57))/\Q (.int n) H) tas) τ (.dat (.int n)) :=
 bS ha fun W H0 H v Q o0 o _ r q=>by cases r.str_inv;exact ⟨x,n,rfl,hn,hl,hd,q _ H aE o (.int _)⟩
end
end D
end
section
namespace D
open PySem L2 K0 Num PySem.NumText PyProof.Rows PySem.W PySem.Calls
def vR (m:Nat):List Nat:=(Nat.toDigits 10 m).map Char.toNat
theorem rR (m:Nat):digitsVal (vR m)=m:=PySem.W.KIN.val_back m
theorem vH (m:Nat):AllDigits (vR m):=by
 intro c hc
 obtain ⟨ch,hch,e⟩:=List.mem_map.mp hc
 have r:=digit_range (Nat.isDigit_of_mem_toDigits (by decide) (by decide) hch)
 rw [<- e]
 exact r
theorem sT (m:Nat):vR m≠[]:=by
 intro e
 have h:=toDigits_len_ge 10 m
 rw [List.map_eq_nil_iff.mp e] at h
 exact absurd h (by decide)
theorem rW {m k:Nat} (h:m<10 ^ (k+1)):(vR m).length<=k+1:=by
  unfold vR
  rw [List.length_map]
  induction k generalizing m with
  | zero=>rw [Nat.toDigits_of_lt_base (by simpa using h)];exact Nat.le_refl _
  | succ k ih =>
    by_cases hm:m<10
    . rw [Nat.toDigits_of_lt_base hm];exact Nat.le_add_left _ _
    . have h2:m % 10<10:=Nat.mod_lt m (by decide)
      have t:Nat.toDigits 10 (m / 10)++Nat.toDigits 10 (m % 10)=Nat.toDigits 10 (10*(m / 10)+m % 10):=Nat.toDigits_append_toDigits (by decide) (by omega) h2
      rw [Nat.div_add_mod] at t
      rw [<- t,List.length_append,Nat.toDigits_of_lt_base h2]
      have:=ih (m:=m / 10) (by rw [Nat.pow_succ] at h;exact Nat.div_lt_of_lt_mul (by omega))
      show (Nat.toDigits 10 (m / 10)).length+1<=_
      omega
def itx (i:Int):List Nat:=if i<0 then 45::vR i.natAbs else vR i.natAbs
theorem qC (i:Int):((toString i:Str)).cps.toList=itx i:=by
  unfold itx
  cases i with
  | ofNat m =>
    rw [if_neg (by simp)]
    exact PySem.W.KIN.signs_num m
  | negSucc m =>
    rw [if_pos (Int.negSucc_lt_zero m)]
    show (PySem.Str.ofString (toString (Int.negSucc m))).cps.toList=_
    rw [signs_ofString]
    show ("-" ++ Nat.repr (m+1)).toList.map Char.toNat=_
    rw [String.toList_append,List.map_append,Nat.toList_repr]
    rfl
theorem tQ (i:Int):∀ c∈itx i,c=45\/(48<=c/\c<=57):=by
 intro c h
 unfold itx at h
 split at h
 ·cases h with
  | head=>exact .inl rfl
  | tail _ h=>exact .inr (vH _ c h)
 ·exact .inr (vH _ c h)
theorem zbO {i:Int} (h:i.natAbs<10 ^ 4299):PySem.intText? (toString i:Str)=some i:=by
 have hl:(vR i.natAbs).length<=4299:=rW (k:=4298) h
 have e:=qC i
 have el:(toString i:Str).length=(itx i).length:=by rw [<- e];exact Array.length_toList.symm
 unfold itx at e el
 by_cases hi:i<0
 ·rw [if_pos hi] at e el
  have r:=intText_neg e (vH _) (sT _) (by rw [el,List.length_cons];omega)
  rw [rR] at r
  rw [r]
  congr 1
  omega
 ·rw [if_neg hi] at e el
  have r:=intText_digits (x:=(toString i:Str)) (by rw [e];exact vH _) (by rw [e];exact sT _) (by rw [el];omega)
  rw [e,rR] at r
  rw [r]
  congr 1
  omega
end D
end
section
namespace D
open PySem L2 K0 Num PySem.NumText PyProof.Rows PySem.W PySem.Calls
theorem zmN (m:Nat) (h:0<m):∃ c r,vR m=c::r/\49<=c/\c<=57:=by
  induction m using Nat.strongRecOn with
  | _ m ih =>
    by_cases hm:m<10
    . unfold vR
      rw [Nat.toDigits_of_lt_base hm]
      have:m=1\/m=2\/m=3\/m=4\/m=5\/m=6\/m=7\/m=8\/m=9:=by omega
      rcases this with rfl|rfl|rfl|rfl|rfl|rfl|rfl|rfl|rfl <;> exact ⟨_,_,rfl,by decide,by decide⟩
    . have h2:m % 10<10:=Nat.mod_lt m (by decide)
      have t:Nat.toDigits 10 (m / 10)++Nat.toDigits 10 (m % 10)=Nat.toDigits 10 (10*(m / 10)+m % 10):=Nat.toDigits_append_toDigits (by decide) (by omega) h2
      rw [Nat.div_add_mod] at t
      obtain ⟨c,r,e,h3,h4⟩:=ih (m / 10) (by omega) (by omega)
      refine ⟨c,r++vR (m % 10),?_,h3,h4⟩
      unfold vR at e ⊢
      rw [<- t,List.map_append,e]
      rfl
def yX (cs:List Nat):List Nat:=if cs.head?=some 45 then cs.tail else cs
def xK (cs:List Nat):Bool:=(yX cs).length != 0 && decide ((yX cs).length<=1500) && (yX cs).all (fun c=>decide (48<=c/\c<=57)) && ((yX cs).head? != some 48 || cs == [48])
theorem znK (i:Int):yX (itx i)=vR i.natAbs:=by
  unfold yX itx
  by_cases h:i<0
  . rw [if_pos h];rfl
  . rw [if_neg h]
    refine if_neg ?_
    intro e
    cases hf:vR i.natAbs with
    | nil=>exact sT _ hf
    | cons c r =>
      rw [hf] at e
      have:=vH i.natAbs c (by rw [hf];exact List.mem_cons_self)
      cases e
      omega
theorem ziV {i:Int} (h:i.natAbs<10 ^ 1500):xK (itx i)=true:=by
 unfold xK
 rw [znK]
 have h1:(vR i.natAbs).length<=1500:=rW (k:=1499) h
 have h2:(vR i.natAbs).all (fun c=>decide (48<=c/\c<=57))=true:=List.all_eq_true.mpr fun c hc=>decide_eq_true (vH _ c hc)
 have h3:((vR i.natAbs).length != 0)=true:=by
  rw [bne_iff_ne];exact fun e=>sT _ (List.length_eq_zero_iff.mp e)
 rw [h2,h3,decide_eq_true h1]
 by_cases h0:i=0
 ·subst h0;rfl
 ·obtain ⟨c,r,e,h4,h5⟩:=zmN i.natAbs (by omega)
  rw [e]
  have:(some c != some 48)=true:=by rw [bne_iff_ne];intro e;cases e;omega
  show (true && true && true && (some c != some 48 || _))=true
  rw [this]
  rfl
end D
end
section
namespace D
open PySem L2 K0 Num PySem.NumText PyProof.Rows PySem.W PySem.Calls
theorem zgX:∀ c:Nat,c<58->48<=c->(Char.ofNat c).toNat=c:=by decide
theorem zyH {cs:List Nat} (h:AllDigits cs) (hn:cs≠[]) (h0:cs.length=1\/∃ c r,cs=c::r/\49<=c):vR (digitsVal cs)=cs:=by
 obtain ⟨n,hl⟩:∃ n,cs.length=n+1:=by
  cases cs with
  | nil=>exact absurd rfl hn
  | cons a r=>exact ⟨r.length,rfl⟩
 unfold vR
 rw [toDigits_digitsVal n cs hl h (h0.elim (fun e=>.inl (by omega)) .inr),List.map_map]
 refine (List.map_congr_left fun c hc=>?_).trans (List.map_id _)
 have:=h c hc
 exact zgX c (by omega) (by omega)
theorem zhZ {cs:List Nat} (h:xK cs=true):∃ i:Int,cs=itx i/\(vR i.natAbs).length<=1500:=by
  unfold xK at h
  rw [Bool.and_eq_true,Bool.and_eq_true,Bool.and_eq_true] at h
  obtain ⟨⟨⟨h1,h2⟩,h3⟩,h4⟩:=h
  have h2:=of_decide_eq_true h2
  have h3:AllDigits (yX cs):=fun c hc=>of_decide_eq_true (List.all_eq_true.mp h3 c hc)
  have hn:yX cs≠[]:=by intro e;rw [e] at h1;cases h1
  have hf:cs=[48]\/∃ c r,yX cs=c::r/\49<=c:=by
    rw [Bool.or_eq_true] at h4
    rcases h4 with h4|h4
    . cases hb:yX cs with
      | nil=>exact absurd hb hn
      | cons c r =>
        rw [hb] at h4
        have h5:=h3 c (by rw [hb];exact List.mem_cons_self)
        have h6:c≠48:=by rintro rfl;cases h4
        exact .inr ⟨c,r,rfl,by omega⟩
    . exact .inl (by simpa using h4)
  rcases hf with rfl|⟨c,r,e,hc⟩
  . exact ⟨0,rfl,by decide⟩
  . have ef:=zyH h3 hn (.inr ⟨c,r,e,hc⟩)
    have hp:0<digitsVal (yX cs):=by rw [e];exact digitsVal_pos hc
    by_cases hm:cs.head?=some 45
    . refine ⟨-((digitsVal (yX cs):Nat):Int),?_,?_⟩
      . unfold itx
        rw [if_pos (by omega),Int.natAbs_neg,Int.natAbs_natCast,ef]
        unfold yX
        rw [if_pos hm]
        cases cs with
        | nil=>cases hm
        | cons a q=>cases hm;rfl
      . rw [Int.natAbs_neg,Int.natAbs_natCast,ef];exact h2
    . refine ⟨((digitsVal (yX cs):Nat):Int),?_,?_⟩
      . unfold itx
        rw [if_neg (by omega),Int.natAbs_natCast,ef]
        unfold yX
        rw [if_neg hm]
      . rw [Int.natAbs_natCast,ef];exact h2
end D
end
section
namespace D
open PySem
open PySem.Builtin.Str (occurrences subAt partsBetween strSub)
def grd (x y:Str):List Nat->Nat->List Nat
 | [],_=>[]
 | i::r,f=>if f<=i/\i+y.length<=x.length/\subAt x y i=true then i::grd x y r (i+y.length) else grd x y r f
theorem zdY (x y:Str) (lim:Nat):∀ (l:List Nat) (st:Array Nat × Nat),st.1.size+l.length<=lim->(forIn l st (StrLaws.occBody x y x.length lim)).run.fst.toList=st.1.toList++grd x y l st.2
  | [],st,_=>by simp [grd]
  | i::r, st, h => by
    rw [List.length_cons] at h
    rw [List.forIn_cons]
    unfold StrLaws.occBody grd
    by_cases c:st.2<=i/\i+y.length<=x.length/\subAt x y i=true
    . have c1:((st.fst.size<lim/\st.snd<=i)/\i+y.length<=x.length)/\subAt x y i=true:=⟨⟨⟨by omega,c.1⟩,c.2.1⟩,c.2.2⟩
      rw [if_pos c1,if_pos c]
      refine (zdY x y lim r (st.1.push i,i+y.length) (by show (st.1.push i).size+_<=_;rw [Array.size_push];omega)).trans ?_
      simp
    . have c1:¬ (((st.fst.size<lim/\st.snd<=i)/\i+y.length<=x.length)/\subAt x y i=true):=fun z=>c ⟨z.1.1.2,z.1.2,z.2⟩
      rw [if_neg c1,if_neg c]
      exact zdY x y lim r st (by omega)
theorem zxH (x y:Str):occurrences x y 0 x.length (x.length+1)=grd x y (List.range' 0 (x.length+1)) 0:=by
 rw [StrLaws.occ_eq]
 have:=zdY x y (x.length+1) (List.range' 0 (x.length+1 - 0)) (#[],0) (by simp)
 simpa using this
theorem qL {x y:Str}:∀ {l:List Nat} {f:Nat},(∀ i∈l,¬ (i+y.length<=x.length/\subAt x y i=true))->grd x y l f=[]
  | [],_,_=>rfl
  | i::r,f,h=>by
    unfold grd
    rw [if_neg fun z=>h i List.mem_cons_self z.2]
    exact qL fun j hj=>h j (List.mem_cons_of_mem _ hj)
theorem zgQ {x y:Str}:∀ {l:List Nat} {f:Nat},(∃ i∈l,f<=i/\i+y.length<=x.length/\subAt x y i=true)->grd x y l f≠[]
  | [],_,h=>by obtain ⟨i,hi,_⟩:=h;cases hi
  | j::r, f, h => by
    unfold grd
    by_cases c:f<=j/\j+y.length<=x.length/\subAt x y j=true
    . rw [if_pos c];intro z;cases z
    . rw [if_neg c]
      obtain ⟨i,hi,q⟩:=h
      rcases List.mem_cons.mp hi with rfl|hi
      . exact absurd q c
      . exact zgQ ⟨i,hi,q⟩
theorem zfI {z:Str} (h:∀ c∈z.cps.toList,c<256):Builtin.Str.strKind z=1:=by
 unfold Builtin.Str.strKind
 rw [if_pos]
 rw [<- Array.all_toList]
 exact List.all_eq_true.mpr fun c hc=>decide_eq_true (h c hc)
theorem rL {x y:Str} (hx:∀ c∈x.cps.toList,c<256) (hy:∀ c∈y.cps.toList,c<256) (h0:y.length≠0):Txt.split x y=StrLaws.partsFrom x y.length 0 (grd x y (List.range' 0 (x.length+1)) 0):=by
 unfold Txt.split
 rw [zfI hx,zfI hy,zxH,StrLaws.partsBetween_eq]
 have d1:decide (1<1)=false:=rfl
 rw [d1,Bool.or_false]
 have whole:StrLaws.partsFrom x y.length 0 []=[x]:=by
  show [strSub x 0 x.length]=[x]
  rw [StrLaws.sub_whole]
 by_cases h1:x.length<y.length
 ·rw [if_pos (decide_eq_true h1),qL,whole]
  intro i _ ⟨z,_⟩
  omega
 ·rw [if_neg (by rw [decide_eq_false h1];exact Bool.false_ne_true)]
  by_cases h2:(grd x y (List.range' 0 (x.length+1)) 0).isEmpty=true
  ·rw [if_pos h2,List.isEmpty_iff.mp h2,whole]
  ·rw [if_neg h2]
theorem zgF {z:Str} {c:Nat} (hz:∀ c∈z.cps.toList,c<256) (hc:c<256) (h:c ∉ z.cps.toList):Txt.split z ⟨#[c]⟩=[z]:=by
 rw [rL hz (by simpa using hc) (by show 1≠0;decide),qL]
 ·show [strSub z 0 z.length]=[z]
  rw [StrLaws.sub_whole]
 ·intro i _ q
  exact h (List.mem_of_getElem? ((StrLaws.subAt_one z c i).mp q))
theorem znR {z:Str} {c:Nat} (hz:∀ c∈z.cps.toList,c<256) (hc:c<256) (h:c∈z.cps.toList):2<=(Txt.split z ⟨#[c]⟩).length:=by
  rw [rL hz (by simpa using hc) (by show 1≠0;decide)]
  obtain ⟨i,hi,e⟩:=List.getElem_of_mem h
  have q:=(StrLaws.subAt_one z c i).mpr (by rw [List.getElem?_eq_getElem hi,e])
  have hl:z.cps.toList.length=z.length:=Array.length_toList
  have ne:=zgQ (x:=z) (y:=⟨#[c]⟩) (l:=List.range' 0 (z.length+1)) (f:=0) ⟨i,by simp [List.mem_range'];omega,Nat.zero_le _,q⟩
  cases hg:grd z ⟨#[c]⟩ (List.range' 0 (z.length+1)) 0 with
  | nil=>exact absurd hg ne
  | cons a r =>
    obtain ⟨p,t,e⟩:=StrLaws.partsFrom_ne z (⟨#[c]⟩:Str).length (a+(⟨#[c]⟩:Str).length) r
    show 2<=(strSub z 0 a::StrLaws.partsFrom z _ _ r).length
    rw [e]
    simp
theorem zbY (x:Str) (w:Nat):∀ (cuts:List Nat) (a:Nat),∀ p∈StrLaws.partsFrom x w a cuts,∀ c∈p.cps.toList,c∈x.cps.toList
  | [],a,p,hp,c,hc=>by
    obtain rfl:p=_:=List.mem_singleton.mp hp
    rw [StrLaws.strSub_toList] at hc
    exact List.mem_of_mem_drop (List.mem_of_mem_take hc)
  | b::r, a, p, hp, c, hc => by
    rcases List.mem_cons.mp hp with rfl|hp
    . rw [StrLaws.strSub_toList] at hc
      exact List.mem_of_mem_drop (List.mem_of_mem_take hc)
    . exact zbY x w r (b+w) p hp c hc
theorem zmH {x y p:Str} (hp:p∈Txt.split x y):∀ c∈p.cps.toList,c∈x.cps.toList:=by
 unfold Txt.split at hp
 split at hp
 ·rw [List.mem_singleton.mp hp];exact fun c h=>h
 ·split at hp
  ·rw [List.mem_singleton.mp hp];exact fun c h=>h
  ·rw [StrLaws.partsBetween_eq] at hp
   exact zbY x _ _ _ p hp
def Cl (y p:List Nat):Prop:=∀ i,i<p.length->((p++y).drop i).take y.length≠y
def glu (y:List Nat):List (List Nat)->List Nat
 | []=>[]
 | [p]=>p
 | p::q::r=>p++y++glu y (q::r)
theorem zdZ {x y:Str} {i:Nat}:subAt x y i=true ↔ (x.cps.toList.drop i).take y.length=y.cps.toList:=by
 rw [StrLaws.subAt_eq,beq_iff_eq]
theorem sX {x y:Str} {f:Nat}:∀ (m a:Nat) (l:List Nat),(∀ i,a<=i->i<a+m->¬ (i+y.length<=x.length/\subAt x y i=true)\/i<f)->grd x y (List.range' a m++l) f=grd x y l f
  | 0,a,l,_=>by simp
  | m+1,a,l,h=>by
    rw [List.range'_succ,List.cons_append]
    conv=>lhs;unfold grd
    rw [if_neg (fun z=>(h a (Nat.le_refl _) (by omega)).elim (fun n=>n z.2) (fun n=>by omega))]
    exact sX m (a+1) l fun i h1 h2=>h i (by omega) (by omega)
theorem zbD {x y:Str} (y0:0<y.length):∀ (ps:List Str) (a:Nat),ps≠[]->x.cps.toList.drop a=glu y.cps.toList (ps.map (·.cps.toList))->a<=x.length->(∀ p∈ps,Cl y.cps.toList p.cps.toList/\∀ i,(p.cps.toList.drop i).take y.length≠y.cps.toList) ->
    StrLaws.partsFrom x y.length a (grd x y (List.range' a (x.length+1 - a)) a)=ps
  | [],_,h,_,_,_=>absurd rfl h
  | [p],a,_,hx,ha,hp=>by
    have lx:x.cps.toList.length=x.length:=Array.length_toList
    have q:=hp p List.mem_cons_self
    have hx:x.cps.toList.drop a=p.cps.toList:=hx
    rw [qL]
    . show [strSub x a x.length]=[p]
      congr 1
      refine (show ∀ {u v:Str},u.cps.toList=v.cps.toList->u=v from fun {u v} h=>by obtain ⟨⟨l⟩⟩:=u;obtain ⟨⟨m⟩⟩:=v;cases h;rfl) ?_
      rw [StrLaws.strSub_toList,hx,List.take_of_length_le]
      rw [<- hx,List.length_drop]
      omega
    . intro i hi ⟨z1,z2⟩
      rw [zdZ] at z2
      have hi:a<=i:=by simp [List.mem_range'] at hi;omega
      have e:x.cps.toList.drop i=p.cps.toList.drop (i - a):=by rw [<- hx,List.drop_drop];congr 1;omega
      rw [e] at z2
      exact q.2 _ z2
  | p::p2::r, a, _, hx, ha, hp => by
    have lx:x.cps.toList.length=x.length:=Array.length_toList
    have ly:y.cps.toList.length=y.length:=Array.length_toList
    have lp:p.cps.toList.length=p.length:=Array.length_toList
    have q:=hp p List.mem_cons_self
    have hx:x.cps.toList.drop a=p.cps.toList++y.cps.toList++glu y.cps.toList ((p2::r).map (·.cps.toList)):=hx
    have hlen:x.length - a=p.length+y.length+(glu y.cps.toList ((p2::r).map (·.cps.toList))).length:=by
      have:=congrArg List.length hx
      rw [List.length_drop,List.length_append,List.length_append,lx,lp,ly] at this
      exact this
    have dr:∀ j,x.cps.toList.drop (a+j)=(p.cps.toList++y.cps.toList++glu y.cps.toList ((p2::r).map (·.cps.toList))).drop j:=fun j=>by rw [<- hx,List.drop_drop]
    have no:∀ i,a<=i->i<a+p.length->¬ (i+y.length<=x.length/\subAt x y i=true):=fun i h1 h2 ⟨z1,z2⟩=>by
      rw [zdZ] at z2
      have e:=dr (i - a)
      rw [show a+(i - a)=i by omega] at e
      rw [e,List.append_assoc] at z2
      refine q.1 (i - a) (by omega) ?_
      rw [<- List.append_assoc,List.drop_append_of_le_length (by rw [List.length_append];omega),List.take_append_of_le_length (by rw [List.length_drop,List.length_append];omega)] at z2
      rw [ly]
      exact z2
    have yes:subAt x y (a+p.length)=true:=by
      rw [zdZ,dr,List.append_assoc, <- lp,List.drop_left,List.take_append_of_le_length (by omega),List.take_of_length_le (by omega)]
    have e1:List.range' a (x.length+1 - a)=List.range' a p.length++((a+p.length)::(List.range' (a+p.length+1) (y.length - 1)++List.range' (a+p.length+y.length) (x.length+1 - (a+p.length+y.length)))):=by
      have s1:List.range' a (x.length+1 - a)=List.range' a (p.length+(1+((y.length - 1)+(x.length+1 - (a+p.length+y.length))))):=by congr 1;omega
      rw [s1, <- List.range'_append_1, <- List.range'_append_1, <- List.range'_append_1,show a+p.length+1+(y.length - 1)=a+p.length+y.length by omega]
      rfl
    rw [e1,sX _ _ _ (fun i h1 h2=>.inl (no i h1 h2))]
    have c:a<=a+p.length/\(a+p.length)+y.length<=x.length/\subAt x y (a+p.length)=true:=⟨by omega,by omega,yes⟩
    have e2:grd x y ((a+p.length)::(List.range' (a+p.length+1) (y.length - 1)++List.range' (a+p.length+y.length) (x.length+1 - (a+p.length+y.length)))) a=(a+p.length)::grd x y (List.range' (a+p.length+y.length) (x.length+1 - (a+p.length+y.length))) (a+p.length+y.length):=by
      rw [grd,if_pos c,sX _ _ _ (fun i h1 h2=>.inr (by omega))]
    rw [e2]
    show strSub x a (a+p.length)::StrLaws.partsFrom x y.length (a+p.length+y.length) _=_
    rw [zbD y0 (p2::r) (a+p.length+y.length) (by simp) ?_ (by omega) (fun p' hp'=>hp p' (List.mem_cons_of_mem _ hp'))]
    . congr 1
      refine (show ∀ {u v:Str},u.cps.toList=v.cps.toList->u=v from fun {u v} h=>by obtain ⟨⟨l⟩⟩:=u;obtain ⟨⟨m⟩⟩:=v;cases h;rfl) ?_
      rw [StrLaws.strSub_toList,hx,Nat.add_sub_cancel_left,List.append_assoc, <- lp,List.take_left]
    . rw [Nat.add_assoc,dr, <- lp, <- ly, <- List.length_append,List.drop_left]
theorem zmQ {x y:Str} {ps:List Str} (hx:∀ c∈x.cps.toList,c<256) (hy:∀ c∈y.cps.toList,c<256) (y0:0<y.length) (ne:ps≠[]) (e:x.cps.toList=glu y.cps.toList (ps.map (·.cps.toList))) (hp:∀ p∈ps,Cl y.cps.toList p.cps.toList/\∀ i,(p.cps.toList.drop i).take y.length≠y.cps.toList):Txt.split x y=ps:=by
 rw [rL hx hy (by omega)]
 exact zbD y0 ps 0 ne e (Nat.zero_le _) hp
end D
end
section
namespace L2
open PySem PySem.Spec PyProof.Rows
def zeT:V->List V->Hp->VK->Prop:=fun x vs H Q=>∃ z y:Str,x = .str z/\vs=[.str y]/\Q (.bl (Txt.startswith z y)) H
def zgZ:V->List V->Hp->VK->Prop:=fun x vs H Q=>∃ z y:Str,x = .str z/\vs=[.str y]/\(y.length == 0)=false/\z.length+2<=sizeLine/\∀ a,H a=none->Q (.ref a) (upd H a (.lst ((Txt.split z y).map V.str)))
theorem zcL:∀ l:List (Str × Tok),Vals ((l.map (·.1)).map V.str) (strValues l)
 | []=>.nil
 | p::r=>.cons ⟨p.2,rfl⟩ (zcL r)
theorem kH (x y:Str):(Txt.split x y).length<=x.length+2:=by
 unfold Txt.split
 split
 ·exact Nat.le_add_left _ _
 ·split
  ·exact Nat.le_add_left _ _
  ·rw [PySem.length_partsBetween]
   have e1:=StrLaws.occ_length_le x y 0 x.length (x.length+1)
   omega
section
variable {X:Cx} {o e:Expr} {to te:TE} {apos cpos:Pos}
theorem zmW:MtR X "str.startswith" zeT:=by
 intro pins s σ H x vs v us Q I rx rv h
 obtain ⟨z,y,rfl,rfl,q⟩:=h
 obtain ⟨t,rfl⟩:=rx
 obtain ⟨u,rfl,t',rfl⟩:=rv.one
 exact SC.startswith ⟨.bl _,H,I,rfl,q⟩
theorem zrM:MtR X "str.split" zgZ:=by
  intro pins s σ H x vs v us Q I rx rv h
  obtain ⟨z,y,rfl,rfl,hy,hz,q⟩:=h
  obtain ⟨t,rfl⟩:=rx
  obtain ⟨u,rfl,t',rfl⟩:=rv.one
  have pl:=kH z y
  have fin:∀ (l:List (Str × Tok)) (k:Nat),l.map (·.1)=Txt.split z y->EP X pins σ Q (.ref s.heap.objs.size) { s with toks:=k,heap:=s.heap.push { cls:=.type "list",data:=.seq (strValues l).toArray } }:=fun l k e=>by
    refine ⟨.ref s.heap.objs.size,upd H s.heap.objs.size (.lst ((Txt.split z y).map V.str)),I.laid (t':=k) (fun b u e=>Heap.get?_push_of_some _ e) (Nat.le_refl _) ⟨?_,strValues l,0,?_,Heap.get?_push_size _ rfl⟩,rfl,q _ (I.hok.fresh (Nat.le_refl _))⟩
    . rw [List.length_map];exact Nat.le_trans pl hz
    . rw [<- e];exact zcL l
  cases h1:(decide (z.length<y.length) || decide (Builtin.Str.strKind z<Builtin.Str.strKind y)) with
  | true=>exact call_meets (F.slot_str_split) (typeIs_str _ _ _) (F.entry_str_split) (F.args_str_split_2 _ _) (meets_str_split_cannot_occur z y t t' h1) (fin [(z,t)] s.toks (if_pos h1).symm)
  | false =>
    cases hf:(Builtin.Str.occurrences z y 0 z.length (z.length+1)).isEmpty with
    | true=>exact call_meets (F.slot_str_split) (typeIs_str _ _ _) (F.entry_str_split) (F.args_str_split_2 _ _) (meets_str_split_not_found z y t t' h1 hy hf) (fin [(z,t)] s.toks ((if_neg (ne_true_of_eq_false h1)).trans (if_pos hf)).symm)
    | false =>
      have es:Txt.split z y=Builtin.Str.partsBetween z (Builtin.Str.occurrences z y 0 z.length (z.length+1)) y.length:=(if_neg (ne_true_of_eq_false h1)).trans (if_neg (ne_true_of_eq_false hf))
      refine call_meets (F.slot_str_split) (typeIs_str _ _ _) (F.entry_str_split) (F.args_str_split_2 _ _) (meets_str_split_sep z y t t' h1 hy hf (by omega) (by rw [<- es];omega)) ?_
      have f:=fin (numbered s.toks (Builtin.Str.partsBetween z (Builtin.Str.occurrences z y 0 z.length (z.length+1)) y.length)) (s.toks+(Builtin.Str.partsBetween z (Builtin.Str.occurrences z y 0 z.length (z.length+1)) y.length).length) ((numbered_texts _ _).trans es.symm)
      rw [<- strsFrom_eq] at f
      exact f
theorem zmJ (ho:ZE X o to) (ha:ZE X e te) (hbase:attributeBase o "startswith" X.env (eval o X.env)=eval o X.env:=by rfl)
  (hfew:((backTo cpos (starEach [e] X.env)).all (fun x => !x.1) && (backToKw cpos (keywordEach [] X.env)).all (fun x=>x.1.isSome)
   && decide ([e].length+([]:List Keyword).length+(if ([]:List Keyword).isEmpty then 0 else 1)<30))=true:=by rfl)
  (hline:(apos.endLine == cpos.line)=true:=by rfl) (hs:starEach [e] X.env=(false,eval e X.env)::starEach [] X.env:=by rfl) :
  ZE X (.Call (.Attribute o "startswith" apos) [e] [] cpos) (tBM X.K "str" zeT to (yN te vJ)) :=
 ⟨zlI PySem.F.plainAttrs_str PySem.F.slot_str_startswith PySem.F.type_str_startswith zmW ho.out (xS ha.out zaT hs) hbase hfew hline hs⟩
theorem zqP (ho:ZE X o to) (ha:ZE X e te) (hbase:attributeBase o "split" X.env (eval o X.env)=eval o X.env:=by rfl)
  (hfew:((backTo cpos (starEach [e] X.env)).all (fun x => !x.1) && (backToKw cpos (keywordEach [] X.env)).all (fun x=>x.1.isSome)
   && decide ([e].length+([]:List Keyword).length+(if ([]:List Keyword).isEmpty then 0 else 1)<30))=true:=by rfl)
  (hline:(apos.endLine == cpos.line)=true:=by rfl) (hs:starEach [e] X.env=(false,eval e X.env)::starEach [] X.env:=by rfl) :
  ZE X (.Call (.Attribute o "split" apos) [e] [] cpos) (tBM X.K "str" zgZ to (yN te vJ)) :=
 ⟨zlI PySem.F.plainAttrs_str PySem.F.slot_str_split PySem.F.type_str_split zrM ho.out (xS ha.out zaT hs) hbase hfew hline hs⟩
end
end L2
end
section
namespace D
open PySem L2 K0 Num PySem.NumText PyProof.Rows PySem.Calls
open PySem.W (Dat)
theorem zfK (l:List Nat) (a:Nat):∀ m,a+m<=l.length->((List.range m).map (fun k=>a+k)).filterMap (l[·]?)=(l.drop a).take m
  | 0,_=>by simp
  | m+1,h=>by
    have ih:=zfK l a m (by omega)
    rw [List.range_succ,List.map_append,List.filterMap_append,ih]
    have hlt:a+m<l.length:=by omega
    have e:(l.drop a)[m]?=some l[a+m]:=by rw [List.getElem?_drop,List.getElem?_eq_getElem hlt]
    rw [List.take_add_one,e]
    simp [List.getElem?_eq_getElem hlt]
theorem zuY (z:Str):(fun i:Nat=>z.cps[i]?)=fun i:Nat=>z.cps.toList[i]?:=by
 funext i;rw [Array.getElem?_toList]
theorem ycH (z:Str) {lo hi:Option Int} {a m:Nat} (h:a+m<=z.length) (e:Builtin.Str.strSliceIndices lo hi 1 z.length=(List.range m).map (fun k=>a+k)):(Txt.slice z lo hi).cps.toList=(z.cps.toList.drop a).take m:=by
 have hl:z.cps.toList.length=z.length:=Array.length_toList
 unfold Txt.slice
 rw [e,List.length_map,List.length_range]
 split
 ·rename_i q
  simp at q
  have:a=0:=by omega
  subst this
  rw [List.drop_zero,List.take_of_length_le (by omega)]
 ·show (((List.range m).map (fun k=>a+k)).filterMap (z.cps[·]?)).toArray.toList=_
  rw [zuY,zfK _ _ _ (by omega)]
theorem zhR (z:Str) (n:Nat):(Txt.slice z (some (n:Int)) none).cps.toList=z.cps.toList.drop n:=by
 have hl:z.cps.toList.length=z.length:=Array.length_toList
 rw [ycH z (a:=min n z.length) (m:=z.length - n) (by omega) ?_]
 ·by_cases h:n<=z.length
  ·rw [Nat.min_eq_left h,List.take_of_length_le (by rw [List.length_drop];omega)]
  ·rw [Nat.min_eq_right (by omega),List.drop_eq_nil_of_le (by omega),List.drop_eq_nil_of_le (by omega)];simp
 ·unfold Builtin.Str.strSliceIndices sliceRange
  simp only [show (1:Int) > 0 by decide,if_true,show ¬ ((n:Int)<0) by omega,if_false,Int.ediv_one]
  have ec:(if max 0 (min (n:Int) (z.length:Int))<(z.length:Int) then (z.length:Int) - max 0 (min (n:Int) (z.length:Int))+1 - 1 else 0).toNat=z.length - n:=by split <;> omega
  rw [ec]
  exact List.map_congr_left fun k _=>by omega
theorem rT (z:Str) (c:Nat):Txt.startswith z ⟨#[c]⟩=decide (z.cps.toList.head?=some c):=by
  have hl:z.cps.toList.length=z.length:=Array.length_toList
  unfold Txt.startswith
  rw [StrLaws.subAt_eq]
  show (decide (0+1<=z.length) && ((z.cps.toList.drop 0).take 1 == [c]))=_
  rw [List.drop_zero]
  cases h:z.cps.toList with
  | nil=>rw [h] at hl;rw [<- hl];rfl
  | cons b r =>
    rw [h] at hl
    rw [<- hl]
    by_cases q:b=c
    . subst q;simp
    . simp [q]
theorem zvO (c:Nat):(!(Builtin.Str.occurrences ("0123456789" : Str) ⟨#[c]⟩ 0 (("0123456789" : Str)).length 1).isEmpty)=decide (48<=c/\c<=57):=by
 rw [StrLaws.found_one]
 have e:("0123456789" : Str).cps.toList=[48,49,50,51,52,53,54,55,56,57]:=by decide +kernel
 rw [e]
 by_cases h:48<=c/\c<=57
 ·rw [decide_eq_true h]
  refine decide_eq_true ?_
  have:c=48\/c=49\/c=50\/c=51\/c=52\/c=53\/c=54\/c=55\/c=56\/c=57:=by omega
  simpa using this
 ·rw [decide_eq_false h]
  refine decide_eq_false fun q=>h ?_
  simp at q
  omega
section
variable {p:Option Addr} {K:PySem.W.Frag} {τ:List Sl} {ta tb:TE}
theorem bV {z y:Str} (ha:E1 p K ta τ (.dat (.str z))) (hb:E1 p K tb τ (.dat (.str y))):E1 p K (tBM K "str" zeT ta (yN tb vJ)) τ (.dat (.bool (Txt.startswith z y))):=fun W L σ H Q rs o q =>
 ha W L σ H _ rs o fun v H1 s e e1 o1 rv=>by
  subst e
  cases rv.str_inv
  refine ⟨rfl,hb W L σ H1 _ (rs.ev e1 o.pw) o1 fun v2 H2 s2 e2 e3 o2 rv2=>?_⟩
  subst e2
  cases rv2.str_inv
  exact ⟨z,y,rfl,rfl,q _ H2 _ rfl (e1.trans e3) o2 (.bool _)⟩
theorem bT {N:Addr->Prop} {H:Hp}:∀ ys:List Str,Dzs N K H (ys.map V.str) (ys.map Dat.str)
 | []=>.nil
 | y::r=>.cons (.str y) (bT r)
theorem E1.split {z y:Str} (ha:E1 p K ta τ (.dat (.str z))) (hb:E1 p K tb τ (.dat (.str y))) (hy:(y.length == 0)=false) (hz:z.length+2<=sizeLine):E1 p K (tBM K "str" zgZ ta (yN tb vJ)) τ (.own ((Txt.split z y).map .str)):=fun W L σ H Q rs o q =>
  ha W L σ H _ rs o fun v H1 s e e1 o1 rv=>by
    subst e
    cases rv.str_inv
    refine ⟨rfl,hb W L σ H1 _ (rs.ev e1 o.pw) o1 fun v2 H2 s2 e2 e3 o2 rv2=>?_⟩
    subst e2
    cases rv2.str_inv
    refine ⟨z,y,rfl,rfl,hy,hz,fun a ha=>?_⟩
    have sm:Same H2 (upd H2 a (.lst ((Txt.split z y).map V.str))):=Same.new ha _
    refine q _ _ _ rfl ((e1.trans e3).trans (Ev.of sm)) (o2.same sm) ⟨a,_,rfl,?_,zJ,bT _⟩
    have ev:=e1.trans e3
    cases h:H a with
    | none=>rfl
    | some u =>
      by_cases hp:p=some a
      . obtain ⟨⟨x,y,g⟩,_⟩:=o2.pu a hp
        rw [g] at ha;cases ha
      . rw [ev.keep _ _ hp h] at ha;cases ha
theorem bW {x y:Str} (ha:E1 p K ta τ (.dat (.str x))) (hb:E1 p K tb τ (.dat (.str y))):E1 p K (wO (fun x y H Q=>∃ i j,x = .str i/\y = .str j/\Q (.bl (!(!(Builtin.Str.occurrences j i 0 j.length 1).isEmpty))) H) ta tb) τ (.dat (.bool (!(!(Builtin.Str.occurrences y x 0 y.length 1).isEmpty)))) :=
 aL ha hb fun W H0 H u v Q o0 o r1 r2 q=>by
  cases r1.str_inv
  cases r2.str_inv
  exact ⟨x,y,rfl,rfl,q _ H aE o (.bool _)⟩
end
def tM (z:Str):Option Int:=if xK z.cps.toList=true then PySem.intText? z else none
theorem ydT {z:Str} (h:xK z.cps.toList=false):tM z=none:=if_neg (by rw [h];exact Bool.false_ne_true)
theorem zkC {x y:Str} (h:x.cps.toList=y.cps.toList):x=y:=by
 obtain ⟨⟨l⟩⟩:=x
 obtain ⟨⟨m⟩⟩:=y
 cases h
 rfl
theorem zyU:∀ (cs:List Nat) (acc:Nat),AllDigits cs->cs.foldl (fun acc c=>acc*10+(c - 48)) acc<(acc+1)*10 ^ cs.length
  | [],acc,_=>by simp
  | c::r,acc,h=>by
    have ih:=zyU r (acc*10+(c - 48)) (fun d hd=>h d (List.mem_cons_of_mem _ hd))
    have hc:=h c List.mem_cons_self
    rw [List.foldl_cons,List.length_cons,Nat.pow_succ]
    refine Nat.lt_of_lt_of_le ih ?_
    rw [Nat.mul_comm (10 ^ r.length) 10, <- Nat.mul_assoc]
    exact Nat.mul_le_mul_right _ (by omega)
theorem zeR {cs:List Nat} (h:AllDigits cs):digitsVal cs<10 ^ cs.length:=by
 have:=zyU cs 0 h
 rwa [Nat.zero_add,Nat.one_mul] at this
theorem zvB {m:Nat} (h:(vR m).length<=1500):m<10 ^ 1500:=by
 have e:=rR m
 have l:=zeR (vH m)
 rw [e] at l
 exact Nat.lt_of_lt_of_le l (Nat.pow_le_pow_right (by decide) h)
theorem zyA {z:Str} (h:xK z.cps.toList=true):∃ i:Int,tM z=some i/\z=toString i/\i.natAbs<10 ^ 1500:=by
 obtain ⟨i,e,l⟩:=zhZ h
 have hb:=zvB l
 have ez:z=(toString i:Str):=zkC (by rw [e,qC])
 refine ⟨i,?_,ez,hb⟩
 unfold tM
 rw [if_pos h,ez]
 exact zbO (Nat.lt_of_lt_of_le hb (Nat.pow_le_pow_right (by decide) (by decide)))
end D
end
section
namespace L2
open PySem PySem.Spec PyProof.Rows
section
variable {e:Expr} {x1}
end
end L2
namespace D
open PySem L2 K0 Num PyProof.Rows
open PySem.W (Dat)
section
end
theorem Asc.sz {n:Nat} {z:Str} (h:Asc n z) (hn:n<=sizeLine):z.length<=sizeLine:=Nat.le_trans h.1 hn
theorem Asc.allS {n:Nat} {z:Str} (h:Asc n z):z.cps.all (· < 128)=true:=by
 rw [<- Array.all_toList]
 exact List.all_eq_true.mpr fun c hc=>decide_eq_true (h.2 c hc)
abbrev MX:Nat:=1000000
theorem zbX:MX<=sizeLine:=by decide
theorem zxZ:MX+2<=sizeLine:=by decide
def jN (z:Str):Str:=if z.cps.toList.head?=some 45 then Txt.slice z (some ((1:Nat):Int)) none else z
theorem zoQ (z:Str):(jN z).cps.toList=yX z.cps.toList:=by
 unfold jN yX
 split
 ·rw [zhR,List.drop_one]
 ·rfl
theorem znA {n:Nat} {z:Str} (h:Asc n z):Asc n (jN z):=by
 unfold jN
 split
 ·exact h.slice _ _
 ·exact h
def ztF:List Dat->Dat->Prop:=fun ds d=>∃ z:Str,ds=[.str z]/\Asc MX z/\d = .bool (xK z.cps.toList)
def zgV:List Dat->Dat->Prop:=fun ds d=>∃ (z:Str) (i:Int),ds=[.str z]/\Asc MX z/\tM z=some i/\d = .int i
theorem yhG {z:Str} {i:Int} (h:tM z=some i):xK z.cps.toList=true/\z=toString i/\i.natAbs<10 ^ 1500:=by
  cases hb:xK z.cps.toList with
  | false=>rw [ydT hb] at h;cases h
  | true =>
    obtain ⟨j,e,ez,l⟩:=zyA hb
    rw [e] at h
    cases h
    exact ⟨rfl,ez,l⟩
def jH:List Dat->Dat->Prop:=fun ds d=>∃ (z y:Str) (m:Int),ds=[.str z,.str y,.int m]/\Asc MX z/\(y.length == 0)=false/\((Txt.split z y).length:Int)=m/\d = .list ((Txt.split z y).map .str)
def rd2 (a b:Option Int):Option (Int × Int):=match a,b with
 | some i,some j=>if j<2\/Nat.gcd i.natAbs j.natAbs≠1 then none else some (i,j)
 | _,_=>none
def rdP:List Str->Option (Int × Int)
 | [x]=>(tM x).map fun i=>(i,1)
 | [x,y]=>rd2 (tM x) (tM y)
 | _=>none
def sla:Str:=⟨#[47]⟩
def rdN (z:Str):Option (Int × Int):=rdP (Txt.split z sla)
def ybR:List Dat->Dat->Prop:=fun ds d=>∃ (z:Str) (i j:Int),ds=[.str z]/\Asc MX z/\rdN z=some (i,j)/\d=tI [i,j]
theorem vY {n:Nat} {z y:Str} (h:Asc n z):∀ x∈Txt.split z y,Asc n x:=fun x hx=>⟨Nat.le_trans (part_short hx) h.1,fun c hc=>h.2 c (zmH hx c hc)⟩
theorem Asc.lt {n:Nat} {z:Str} (h:Asc n z):∀ c∈z.cps.toList,c<256:=fun c hc=>Nat.lt_trans (h.2 c hc) (by decide)
section
variable {cs:List Nat}
theorem zqU (h:(yX cs).length=0):xK cs=false:=by unfold xK;rw [h];rfl
theorem zpF (h:¬ (yX cs).length<=1500):xK cs=false:=by unfold xK;rw [decide_eq_false h];simp
theorem ztU (h:(yX cs).all (fun c=>decide (48<=c/\c<=57))=false):xK cs=false:=by unfold xK;rw [h];simp
theorem zuC (h0:(yX cs).length≠0) (h1:(yX cs).length<=1500) (h2:(yX cs).all (fun c=>decide (48<=c/\c<=57))=true):xK cs=((yX cs).head? != some 48 || cs == [48]):=by
 unfold xK
 rw [decide_eq_true h1,h2]
 have:((yX cs).length != 0)=true:=by simpa using h0
 rw [this]
 rfl
end
theorem zjZ (z:Str):z.length=z.cps.toList.length:=Array.length_toList.symm
theorem zgW (z:Str) (c:Nat):decide (z=⟨#[c]⟩)=(z.cps.toList == [c]):=by
 by_cases h:z=⟨#[c]⟩
 ·rw [decide_eq_true h,h];simp
 ·rw [decide_eq_false h]
  refine (beq_eq_false_iff_ne.mpr fun e=>h (zkC e)).symm
theorem zwG (c:Nat):(!decide ((⟨#[c]⟩:Str) = "0"))=(some c != some 48):=by
 have e:("0" : Str)=⟨#[48]⟩:=by decide +kernel
 rw [e,yaF]
 by_cases h:c=48
 ·subst h;rfl
 ·rw [decide_eq_false h]
  have:(some c != some 48)=true:=by rw [bne_iff_ne];intro z;cases z;exact h rfl
  rw [this];rfl
theorem zfZ (z:Str) (f:Nat->Bool):(z.cps.toList.map f).all id=z.cps.toList.all f:=by rw [List.all_map];rfl
def figS:Str := "0123456789"
end D
end
section
namespace D
open PySem L2 K0 Num PyProof.Rows
open PySem.W (Dat)
theorem zgJ (sep:Str):∀ (ps:List Str) (c:Nat),c∈(Str.join sep ps).cps.toList->c∈sep.cps.toList\/∃ p∈ps,c∈p.cps.toList
  | [],c,h=>by cases h
  | [p],c,h=>.inr ⟨p,List.mem_cons_self,h⟩
  | p::q::r, c, h => by
    have e:(Str.join sep (p::q::r)).cps.toList=p.cps.toList++sep.cps.toList++(Str.join sep (q::r)).cps.toList:=by
      show (p++sep++Str.join sep (q::r)).cps.toList=_
      rw [PySem.Str.cps_append,PySem.Str.cps_append,Array.toList_append,Array.toList_append]
    rw [e] at h
    rcases List.mem_append.mp h with h|h
    . rcases List.mem_append.mp h with h|h
      . exact .inr ⟨p,List.mem_cons_self,h⟩
      . exact .inl h
    . rcases zgJ sep (q::r) c h with h|⟨p',hp,h⟩
      . exact .inl h
      . exact .inr ⟨p',List.mem_cons_of_mem _ hp,h⟩
section
variable {p:Option Addr}
end
end D
end
section
namespace D
open PySem L2 K0 Num PyProof.Rows
open PySem.W (Dat)
def zrG:Dat->Dat
 | .str s=>.bool (!(Builtin.Str.occurrences figS s 0 figS.length 1).isEmpty)
 | d=>d
theorem znQ {c:Nat}:zrG (.str ⟨#[c]⟩) = .bool (!(Builtin.Str.occurrences figS ⟨#[c]⟩ 0 figS.length 1).isEmpty):=rfl
theorem zsD (z:Str):(jZ z).map zrG=(z.cps.toList.map fun c=>decide (48<=c/\c<=57)).map Dat.bool:=by
 unfold jZ
 rw [List.map_map,List.map_map]
 refine List.map_congr_left fun c _=>?_
 show Dat.bool _=Dat.bool _
 congr 1
 exact zvO c
theorem tU:∀ {ys:List Str},xR (ys.map .str)=true
 | []=>by rw [List.map_nil,xR]
 | y::r=>by rw [List.map_cons,xR,tU (ys:=r),tF];rfl
theorem zoP (z:Str):(!(!(Builtin.Str.occurrences z sla 0 z.length 1).isEmpty)) = !decide (47∈z.cps.toList):=by
 unfold sla
 rw [StrLaws.found_one]
theorem zxW {n:Nat} {z:Str} {i j:Int} (az:Asc n z) (hin:47 ∉ z.cps.toList) (h:rdN z=some (i,j)):tM z=some i/\j=1:=by
 unfold rdN at h
 rw [sla,zgF az.lt (by decide) hin] at h
 have h:(tM z).map (fun i=>(i,(1:Int)))=some (i,j):=h
 cases e:tM z with
 | none=>rw [e] at h;cases h
 | some k=>rw [e] at h;cases h;exact ⟨rfl,rfl⟩
theorem zwW {n:Nat} {z:Str} {i j:Int} (az:Asc n z) (hin:47∈z.cps.toList) (h:rdN z=some (i,j)):∃ a b,Txt.split z sla=[a,b]/\tM a=some i/\tM b=some j/\¬ j<2/\Nat.gcd i.natAbs j.natAbs=1:=by
  have l2:=znR az.lt (c:=47) (by decide) hin
  unfold rdN at h
  rw [show (⟨#[47]⟩:Str)=sla from rfl] at l2
  generalize Txt.split z sla=ps at h l2 ⊢
  match ps,l2,h with
  | [a, b], _, h =>
    refine ⟨a,b,rfl,?_⟩
    have h:rd2 (tM a) (tM b)=some (i,j):=h
    unfold rd2 at h
    cases ea:tM a with
    | none=>rw [ea] at h;cases h
    | some u =>
      cases eb:tM b with
      | none=>rw [ea,eb] at h;cases h
      | some v =>
        rw [ea,eb] at h
        by_cases q:v<2\/Nat.gcd u.natAbs v.natAbs≠1
        . simp only [if_pos q] at h;cases h
        . simp only [if_neg q] at h
          cases h
          refine ⟨rfl,rfl,fun z=>q (.inl z),Classical.byContradiction fun z=>q (.inr z)⟩
  | _::_::_::_,_,h=>cases h
end D
end
section
namespace L2
open PySem PySem.Spec PyProof.Rows
end L2
namespace D
open PySem L2 K0 Num
open PySem.W (Dat)
section
end
end D
namespace D
open PySem L2 K0 Num PyProof.Rows
open PySem.W (Dat)
theorem zvM (i:Int):∀ c∈(vK i).cps.toList,c<128:=fun c hc=>by
 have:=tQ i c (by rw [<- qC];exact hc)
 omega
end D
end
section
namespace L2
open PySem PySem.Spec PyProof.Rows
def zzT (K:PySem.W.Frag):List V->Hp->VK->Prop:=fun xs H Q=>∃ (a:Addr) (ns:List Int),xs=[.ref a]/\SqT K H a (ns.map V.int)/\Q (.bl (ns.any fun n => !decide (n=0))) H
theorem zjB:∀ (ns:List Int),((List.range ns.length).any fun i => !decide ((ns[i]?).getD 0=0))=ns.any fun n => !decide (n=0):=by
 intro ns
 rw [Bool.eq_iff_iff]
 simp only [List.any_eq_true,List.mem_range]
 constructor
 ·rintro ⟨i,hi,h⟩
  rw [List.getElem?_eq_getElem hi] at h
  exact ⟨_,List.getElem_mem hi,h⟩
 ·rintro ⟨b,hb,h⟩
  obtain ⟨i,hi,rfl⟩:=List.getElem_of_mem hb
  exact ⟨i,hi,by rw [List.getElem?_eq_getElem hi];exact h⟩
section
variable {X:Cx}
theorem zmY (hc:X.calm=true):wZ X (.builtin "any") (zzT X.K):=by
  intro pins s σ H xs us Q I r h
  obtain ⟨a,ns,rfl,hl,q⟩:=h
  cases r with
  | cons r1 r2 =>
    cases r2
    cases (show _=Value.ref a from r1)
    obtain ⟨its,rv,pl,_⟩:=I.tuple hl
    have hi:s.heap.IsTuple a its.toArray:=pl
    have hlt:a<s.heap.objs.size:=by obtain ⟨_,e,_⟩:=hi;exact Heap.lt_size e
    have hlen:its.length=ns.length:=by have:=rv.length;simpa using this.symm
    refine call_any_walk (wpAny_pyIter_tuple hi ?_)
    refine ⟨s.heap.objs.size,[s.heap.objs.size,a],[s.heap.objs.size],its.toArray.size,_,_,fun i => !decide ((ns[i]?).getD 0=0),rfl,Walks.tuple (A:=X.A.in1) (I.ok.hd hc) _ a (Nat.ne_of_lt hlt) its.toArray,
      ⟨⟨_,Heap.get?_push_size _ rfl,rfl,rfl⟩,hi.push _⟩,fun i v s' Q' E' hP hQ=>?_,fun h' tk hk=>?_⟩
    . have hP:its[i]?=some v:=by simpa using hP
      have hb:i<ns.length:=by have:=(List.getElem?_eq_some_iff.mp hP).1;omega
      obtain ⟨u,hu,ru⟩:=rv.get (x:=.int ns[i]) (i:=i) (by rw [List.getElem?_map,List.getElem?_eq_getElem hb];rfl)
      rw [hP] at hu
      cases hu
      obtain ⟨t,rfl⟩:=ru
      simp only [List.getElem?_eq_getElem hb,Option.getD_some] at hQ
      refine PySem.P.truthy_int ?_
      rw [show (ns[i] != 0) = !decide (ns[i]=0) by by_cases h:ns[i]=0 <;> simp [h]]
      exact hQ
    . have e:((List.range its.toArray.size).any fun i => !decide ((ns[i]?).getD 0=0))=ns.any fun n => !decide (n=0):=by
        rw [List.size_toArray,hlen];exact zjB ns
      rw [e]
      exact ⟨.bl _,H,I.kept (t':=tk) fun b x e=>hk b x (fun hm=>by rw [List.mem_singleton.mp hm] at e;exact Nat.lt_irrefl _ (Heap.lt_size e)) (Heap.get?_push_of_some _ e),rfl,q⟩
end
end L2
namespace D
open PySem L2 K0 Num PyProof.Rows
open PySem.W (Dat)
section
variable {p:Option Addr} {K:PySem.W.Frag} {τ:List Sl} {ta:TE}
theorem E1.anyT {ns:List Int} (ha:E1 p K ta τ (.dat (tI ns))):E1 p K (tCB (zzT K) (yN ta vJ)) τ (.dat (.bool (ns.any fun n => !decide (n=0)))):=fun W L σ H Q rs o q =>
  ha W L σ H _ rs o fun v H1 s e e1 o1 rv=>by
    subst e
    cases rv with
    | tup h1 h2 =>
      have ev:=h2.inv
      subst ev
      exact ⟨_,ns,rfl,h1,q _ H1 _ rfl e1 o1 (.bool _)⟩
end
def qR {α:Type} (f:Str->Option α):List Str->Option (List α)
  | []=>some []
  | p::r=>match f p,qR f r with
    | some x,some l=>some (x::l)
    | _,_=>none
section
variable {α:Type} {f:Str->Option α}
theorem tX:∀ {ps:List Str} {l:List α},qR f ps=some l->l.length=ps.length/\ps.map f=l.map some
  | [],l,h=>by cases h;exact ⟨rfl,rfl⟩
  | p::r, l, h => by
    unfold qR at h
    cases hp:f p with
    | none=>rw [hp] at h;cases h
    | some x =>
      cases hr:qR f r with
      | none=>rw [hp,hr] at h;cases h
      | some l' =>
        rw [hp,hr] at h
        cases h
        obtain ⟨h1,h2⟩:=tX hr
        exact ⟨by rw [List.length_cons,List.length_cons,h1],by rw [List.map_cons,List.map_cons,hp,h2]⟩
theorem zlF:∀ {ps:List Str} {l:List α},ps.map f=l.map some->qR f ps=some l
  | [],[],_=>rfl
  | p::r,x::l,h=>by
    rw [List.map_cons,List.map_cons] at h
    injection h with h1 h2
    unfold qR
    rw [h1,zlF h2]
  | [],_::_,h=>by cases h
  | _::_,[],h=>by cases h
end
def rdR (z y:Str) (m:Nat):Option (List Int):=if (Txt.split z y).length=m then (qR tM (Txt.split z y)).bind fun ns=>if (ns.any fun n => !decide (n=0))=true then some ns else none else none
theorem zqC {z y:Str} {m:Nat} {ns:List Int} (h:rdR z y m=some ns):(Txt.split z y).length=m/\qR tM (Txt.split z y)=some ns/\(ns.any fun n => !decide (n=0))=true:=by
  unfold rdR at h
  by_cases h1:(Txt.split z y).length=m
  . rw [if_pos h1] at h
    cases h2:qR tM (Txt.split z y) with
    | none=>rw [h2] at h;cases h
    | some l =>
      rw [h2] at h
      have h:(if (l.any fun n => !decide (n=0))=true then some l else none)=some ns:=h
      by_cases h3:(l.any fun n => !decide (n=0))=true
      . rw [if_pos h3] at h;cases h;exact ⟨h1,rfl,h3⟩
      . rw [if_neg h3] at h;cases h
  . rw [if_neg h1] at h;cases h
def rd3 {α:Type} (f:Str->Option α) (y:Str) (z:Str):Option (List α):=if (Txt.split z y).length=3 then qR f (Txt.split z y) else none
def spa:Str:=⟨#[32]⟩
def sem:Str:=⟨#[59,32]⟩
def col:Str:=⟨#[58]⟩
def ztB:Str->Option (List (Int × Int)):=rd3 rdN spa
def ycP:Str->Option (List (List (Int × Int))):=rd3 ztB sem
theorem zfQ {α:Type} {f:Str->Option α} {z y:Str} {l:List α} (h:rd3 f y z=some l):(Txt.split z y).length=3/\qR f (Txt.split z y)=some l:=by
 unfold rd3 at h
 by_cases h1:(Txt.split z y).length=3
 ·rw [if_pos h1] at h;exact ⟨h1,h⟩
 ·rw [if_neg h1] at h;cases h
def qD (q:Int × Int):Dat:=tI [q.1,q.2]
def pD3 (l:List (Int × Int)):Dat:=.tuple (l.map qD)
def tD3 (l:List (List (Int × Int))):Dat:=.tuple (l.map pD3)
def ycR:List Dat->Dat->Prop:=fun ds d=>∃ (z y:Str) (m:Nat) (ns:List Int),ds=[.str z,.str y,.int m]/\Asc MX z/\(y.length == 0)=false/\rdR z y m=some ns/\d=tI ns
def yaZ (y:Str) (m:Nat):List Dat->Dat->Prop:=fun ds d=>∃ (z:Str) (ns:List Int),ds=[.str z]/\Asc MX z/\rdR z y m=some ns/\d=tI ns
def ybU:List Dat->Dat->Prop:=fun ds d=>∃ (z:Str) (l:List (Int × Int)),ds=[.str z]/\Asc MX z/\ztB z=some l/\d=pD3 l
def yfE:List Dat->Dat->Prop:=fun ds d=>∃ (z:Str) (l:List (List (Int × Int))),ds=[.str z]/\Asc MX z/\ycP z=some l/\d=tD3 l
def rdD {α:Type} (f:Str->Option α) (g:α->Dat):Dat->Dat
 | .str s=>((f s).map g).getD .none
 | d=>d
theorem kI {α:Type} {f:Str->Option α} {g:α->Dat} {ps:List Str} {l:List α} (h:qR f ps=some l):(ps.map Dat.str).map (rdD f g)=l.map g:=by
 have e:=(tX h).2
 rw [List.map_map]
 have:(rdD f g ∘ Dat.str)=(fun o:Option α=>(o.map g).getD .none) ∘ f:=rfl
 rw [this, <- List.map_map,e,List.map_map]
 rfl
theorem zdH {α:Type} {f:Str->Option α} {g:α->Dat} {s:Str} {x:α} (h:f s=some x):rdD f g (.str s)=g x:=by
 show ((f s).map g).getD .none=g x
 rw [h]
 rfl
theorem zdN {α:Type} {f:Str->Option α} {ps:List Str} {l:List α} (h:qR f ps=some l) {s:Str} (hs:s∈ps):∃ x,f s=some x:=by
 have e:=(tX h).2
 have:f s∈l.map some:=by rw [<- e];exact List.mem_map_of_mem hs
 obtain ⟨x,_,hx⟩:=List.mem_map.mp this
 exact ⟨x,hx.symm⟩
theorem zkY {ns:List Int}:tF (tI ns)=true:=yV ns
theorem zjR:∀ l:List (Int × Int),xR (l.map qD)=true
 | []=>by rw [List.map_nil,xR]
 | q::r=>by rw [List.map_cons,xR,zjR r,show tF (qD q)=true from yV _];rfl
theorem zlO (l:List (Int × Int)):tF (pD3 l)=true:=by unfold pD3;rw [tF];exact zjR l
theorem zfC:∀ l:List (List (Int × Int)),xR (l.map pD3)=true
 | []=>by rw [List.map_nil,xR]
 | q::r=>by rw [List.map_cons,xR,zfC r,zlO];rfl
theorem zyC (l:List (List (Int × Int))):tF (tD3 l)=true:=by unfold tD3;rw [tF];exact zfC l
end D
end
section
namespace D
open PySem L2 K0 Num PyProof.Rows
open PySem.W (Dat)
def Bg (i:Int):Prop:=i.natAbs<10 ^ 1500
theorem Bg.str {i:Int} (h:Bg i):i.natAbs<10 ^ 4300:=Nat.lt_of_lt_of_le h (Nat.pow_le_pow_right (by decide) (by decide))
theorem Bg.bt {i:Int} (h:Bt i 4980):Bg i:=Nat.lt_of_le_of_lt h (by decide +kernel)
theorem zcS {i:Int} (h:Bg i):tM (vK i)=some i:=by
 unfold tM
 rw [show (vK i).cps.toList=itx i from qC i,if_pos (ziV h)]
 exact zbO (Nat.lt_of_lt_of_le h (Nat.pow_le_pow_right (by decide) (by decide)))
theorem rS (i:Int):∀ c∈(vK i).cps.toList,c=45\/(48<=c/\c<=57):=fun c hc=>tQ i c (by rw [<- qC];exact hc)
theorem qX {i:Int} (h:Bg i):(vK i).length<=1501:=by
 rw [zjZ,show (vK i).cps.toList=itx i from qC i]
 unfold itx
 have:=rW (k:=1499) h
 split
 ·rw [List.length_cons];omega
 ·omega
def Gq (q:Int × Int):Prop:=Bg q.1/\Bg q.2/\0<q.2/\Nat.gcd q.1.natAbs q.2.natAbs=1
def tqF (q:Int × Int):Str:=if q.2=1 then vK q.1 else vK q.1++sla++vK q.2
def tqP (l:List (Int × Int)):Str:=jn spa (l.map tqF)
def tqT (l:List (List (Int × Int))):Str:=jn sem (l.map tqP)
theorem zlP (a b:Str):(a++b).cps.toList=a.cps.toList++b.cps.toList:=by rw [PySem.Str.cps_append,Array.toList_append]
theorem zdK (q:Int × Int):∀ c∈(tqF q).cps.toList,c=45\/c=47\/(48<=c/\c<=57):=fun c hc=>by
 unfold tqF at hc
 split at hc
 ·have:=rS _ c hc;omega
 ·rw [zlP,zlP] at hc
  rcases List.mem_append.mp hc with hc|hc
  ·rcases List.mem_append.mp hc with hc|hc
   ·have:=rS _ c hc;omega
   ·have:c=47:=by simpa [sla] using hc
    omega
  ·have:=rS _ c hc;omega
theorem zkR {q:Int × Int} (h:Gq q):(tqF q).length<=3003:=by
 have a:=qX h.1
 have b:=qX h.2.1
 unfold tqF
 split
 ·omega
 ·rw [zdU,zdU]
  have:sla.length=1:=rfl
  omega
theorem zdO (sep:Str) (ps:List Str) (c:Nat) (h:c∈(jn sep ps).cps.toList):c∈sep.cps.toList\/∃ p∈ps,c∈p.cps.toList:=by
 have e:jn sep ps=Str.join sep ps:=StrLaws.glued_eq_join sep ps
 rw [e] at h
 exact zgJ sep ps c h
theorem zsJ {sep:Str} {ps:List Str} {k m:Nat} (h:∀ p∈ps,p.length<=k) (hl:ps.length<=m) (hs:sep.length<=2):(ps.map (·.length)).sum+ps.length*sep.length<=m*(k+2):=by
  have g:∀ l:List Str,(∀ p∈l,p.length<=k)->(l.map (·.length)).sum<=l.length*k:=by
    intro l
    induction l with
    | nil=>intro _;simp
    | cons a r ih =>
      intro h
      have h1:=h a List.mem_cons_self
      have h2:=ih fun p hp=>h p (List.mem_cons_of_mem _ hp)
      rw [List.map_cons,List.sum_cons,List.length_cons,Nat.succ_mul]
      omega
  have g1:=g ps h
  have g2:ps.length*sep.length<=ps.length*2:=Nat.mul_le_mul_left _ hs
  have g3:ps.length*(k+2)<=m*(k+2):=Nat.mul_le_mul_right _ hl
  rw [Nat.mul_add] at g3
  omega
theorem zdP (l:List (Int × Int)):∀ c∈(tqP l).cps.toList,c=32\/c=45\/c=47\/(48<=c/\c<=57):=fun c hc=>by
 rcases zdO spa _ c hc with h|⟨p,hp,h⟩
 ·have:c=32:=by simpa [spa] using h
  omega
 ·obtain ⟨q,_,rfl⟩:=List.mem_map.mp hp
  have:=zdK q c h
  omega
theorem zrW {l:List (Int × Int)} (h:∀ q∈l,Gq q) (hl:l.length=3):((l.map tqF).map (·.length)).sum+(l.map tqF).length*spa.length<=9015:=by
 refine Nat.le_trans (zsJ (k:=3003) (m:=3) (fun p hp=>?_) (by rw [List.length_map];omega) (by decide)) (by decide)
 obtain ⟨q,hq,rfl⟩:=List.mem_map.mp hp
 exact zkR (h q hq)
theorem zkD {l:List (Int × Int)} (h:∀ q∈l,Gq q) (hl:l.length=3):(tqP l).length<=9015:=Nat.le_trans (zaI spa _) (zrW h hl)
def GrF (l:List (Int × Int)):Prop:=l.length=3/\∀ q∈l,Gq q
def GtF (l:List (List (Int × Int))):Prop:=l.length=3/\∀ r∈l,GrF r
theorem zsY {l:List (List (Int × Int))} (h:GtF l):((l.map tqP).map (·.length)).sum+(l.map tqP).length*sem.length<=27051:=by
 refine Nat.le_trans (zsJ (k:=9015) (m:=3) (fun p hp=>?_) (by rw [List.length_map,h.1];omega) (by decide)) (by decide)
 obtain ⟨q,hq,rfl⟩:=List.mem_map.mp hp
 exact zkD (h.2 q hq).2 (h.2 q hq).1
theorem zxQ {l:List (List (Int × Int))} (h:GtF l):(tqT l).length<=27051:=Nat.le_trans (zaI sem _) (zsY h)
theorem zjN {ns:List Int} (h:∀ n∈ns,Bg n) (hl:ns.length<=4) {sep:Str} (hs:sep.length<=2):((ns.map vK).map (·.length)).sum+(ns.map vK).length*sep.length<=6012:=by
 refine Nat.le_trans (zsJ (k:=1501) (m:=4) (fun p hp=>?_) (by rw [List.length_map];omega) hs) (by decide)
 obtain ⟨q,hq,rfl⟩:=List.mem_map.mp hp
 exact qX (h q hq)
theorem rF {ns:List Int} (h:∀ n∈ns,Bg n) (hl:ns.length<=4) {sep:Str} (hs:sep.length<=2):(jn sep (ns.map vK)).length<=6012:=Nat.le_trans (zaI sep _) (zjN h hl hs)
theorem ygF {c:Nat} {t p:List Nat} (h:c ∉ p):Cl (c::t) p/\∀ i,(p.drop i).take (c::t).length≠c::t:=by
 refine ⟨fun i hi e=>?_,fun i e=>?_⟩
 ·have e2:=congrArg List.head? e
  rw [List.length_cons,List.head?_take,if_neg (by omega),List.head?_drop,List.getElem?_append_left hi,List.head?_cons] at e2
  exact h (List.mem_of_getElem? e2)
 ·have e2:=congrArg List.head? e
  rw [List.length_cons,List.head?_take,if_neg (by omega),List.head?_drop,List.head?_cons] at e2
  exact h (List.mem_of_getElem? e2)
theorem ycX (sep:Str):∀ ps:List Str,(jn sep ps).cps.toList=glu sep.cps.toList (ps.map (·.cps.toList)):=by
  intro ps
  have e:jn sep ps=Str.join sep ps:=StrLaws.glued_eq_join sep ps
  rw [e]
  clear e
  induction ps with
  | nil=>rfl
  | cons p r ih =>
    cases r with
    | nil=>rfl
    | cons q r =>
      show (p++sep++Str.join sep (q::r)).cps.toList=_
      rw [zlP,zlP,ih]
      rfl
theorem tD {c:Nat} {t:List Nat} {ps:List Str} (hc:∀ d∈c::t,d<256) (ne:ps≠[]) (hp:∀ p∈ps,c ∉ p.cps.toList/\∀ d∈p.cps.toList,d<256):Txt.split (jn ⟨⟨c::t⟩⟩ ps) ⟨⟨c::t⟩⟩=ps:=by
 refine zmQ (fun d hd=>?_) hc (by show 0<(c::t).length;simp) ne (ycX _ _) fun p hp'=>?_
 ·rcases zdO _ _ d hd with h|⟨p,hp',h⟩
  ·exact hc d h
  ·exact (hp p hp').2 d h
 ·exact ygF (hp p hp').1
theorem sZ (i:Int) (k:Nat) (hk:k≠45/\¬ (48<=k/\k<=57)):k ∉ (vK i).cps.toList/\∀ d∈(vK i).cps.toList,d<256:=⟨fun h=>by have:=rS i k h;omega,fun d hd=>by have:=rS i d hd;omega⟩
theorem ycS {q:Int × Int} (h:Gq q):rdN (tqF q)=some q:=by
 obtain ⟨i,j⟩:=q
 obtain ⟨h1,h2,h3,h4⟩:=h
 unfold rdN tqF
 by_cases e:j=1
 ·subst e
  rw [if_pos rfl,sla,zgF (sZ i 47 (by decide)).2 (by decide) (sZ i 47 (by decide)).1]
  show (tM (vK i)).map _=_
  rw [zcS h1]
  rfl
 ·rw [if_neg e]
  have s:=tD (c:=47) (t:=[]) (ps:=[vK i,vK j]) (by decide) (by simp) (fun p hp=>by
   simp only [List.mem_cons,List.mem_nil_iff,or_false] at hp
   rcases hp with rfl|rfl
   ·exact sZ i 47 (by decide)
   ·exact sZ j 47 (by decide))
  have s2:Txt.split (vK i++sla++vK j) sla=[vK i,vK j]:=s
  show rdP (Txt.split (vK i++sla++vK j) sla)=_
  rw [s2]
  show rd2 (tM (vK i)) (tM (vK j))=_
  rw [zcS h1,zcS h2]
  have h3:0<j:=h3
  have h4:Nat.gcd i.natAbs j.natAbs=1:=h4
  exact if_neg (by rw [h4];omega)
theorem zcN {α:Type} {f:Str->Option α} {g:α->Str}:∀ {l:List α},(∀ x∈l,f (g x)=some x)->qR f (l.map g)=some l:=fun {l} h=>zlF (by
 rw [List.map_map]
 exact List.map_congr_left fun x hx=>h x hx)
theorem zwF {l:List (Int × Int)} (h:GrF l):ztB (tqP l)=some l:=by
 have ne:l.map tqF≠[]:=fun e=>by have:=congrArg List.length e;rw [List.length_map,h.1] at this;cases this
 have s:Txt.split (tqP l) spa=l.map tqF:=tD (c:=32) (t:=[]) (by decide) ne fun p hp=>by
  obtain ⟨q,_,rfl⟩:=List.mem_map.mp hp
  exact ⟨fun hc=>by have:=zdK q 32 hc;omega,fun d hd=>by have:=zdK q d hd;omega⟩
 unfold ztB rd3
 rw [s,if_pos (by rw [List.length_map];exact h.1)]
 exact zcN fun q hq=>ycS (h.2 q hq)
theorem zxF {l:List (List (Int × Int))} (h:GtF l):ycP (tqT l)=some l:=by
 have ne:l.map tqP≠[]:=fun e=>by have:=congrArg List.length e;rw [List.length_map,h.1] at this;cases this
 have s:Txt.split (tqT l) sem=l.map tqP:=tD (c:=59) (t:=[32]) (by decide) ne fun p hp=>by
  obtain ⟨q,_,rfl⟩:=List.mem_map.mp hp
  exact ⟨fun hc=>by have:=zdP q 59 hc;omega,fun d hd=>by have:=zdP q d hd;omega⟩
 unfold ycP rd3
 rw [s,if_pos (by rw [List.length_map];exact h.1)]
 exact zcN fun q hq=>zwF (h.2 q hq)
theorem yeA {ns:List Int} {c m:Nat} (hc:c≠45/\¬ (48<=c/\c<=57)) (hc2:c<256) (h:∀ n∈ns,Bg n) (hl:ns.length=m) (hm:m≠0) (hz:(ns.any fun n => !decide (n=0))=true):rdR (jn ⟨#[c]⟩ (ns.map vK)) ⟨#[c]⟩ m=some ns:=by
 have ne:ns.map vK≠[]:=fun e=>by have:=congrArg List.length e;rw [List.length_map,hl] at this;exact hm this
 have s:Txt.split (jn ⟨#[c]⟩ (ns.map vK)) ⟨#[c]⟩=ns.map vK:=tD (c:=c) (t:=[]) (by simpa using hc2) ne fun p hp=>by
  obtain ⟨q,_,rfl⟩:=List.mem_map.mp hp
  exact sZ q c hc
 unfold rdR
 rw [s,if_pos (by rw [List.length_map];exact hl),zcN (fun n hn=>zcS (h n hn))]
 exact if_pos hz
end D
end
section
namespace D
open PySem L2 K0 Num PyProof.Rows
open PySem.W (Dat)
def zwN (N:Nat) (ns:List Int):Prop:=(∀ n∈ns,Bg n)/\ns.length=N/\(ns.any fun n => !decide (n=0))=true
inductive TxB:Int->Dat->Str->Prop
 | num {q:Int × Int}:Gq q->TxB 0 (qD q) (tqF q)
 | four {ns:List Int}:zwN 4 ns->TxB 1 (tI ns) (jn spa (ns.map vK))
 | way {ns:List Int}:zwN 3 ns->TxB 2 (tI ns) (jn spa (ns.map vK))
 | pt {l:List (Int × Int)}:GrF l->TxB 3 (pD3 l) (tqP l)
 | tab {l:List (List (Int × Int))}:GtF l->TxB 4 (tD3 l) (tqT l)
 | set {ns:List Int}:zwN 2 ns->TxB 5 (tI ns) (jn col (ns.map vK))
theorem ziH {sep:Str} {ps:List Str} {n:Nat} (hl:(jn sep ps).length<=n) (hs:∀ c∈sep.cps.toList,c<128) (hp:∀ p∈ps,∀ c∈p.cps.toList,c<128):Asc n (jn sep ps):=⟨hl,fun c hc=>by
 rcases zdO sep ps c hc with h|⟨p,hp',h⟩
 ·exact hs c h
 ·exact hp p hp' c h⟩
theorem zeF (ns:List Int):∀ p∈ns.map vK,∀ c∈p.cps.toList,c<128:=fun p hp c hc=>by
 obtain ⟨n,_,rfl⟩:=List.mem_map.mp hp
 exact zvM n c hc
theorem TxB.asc {k:Int} {d:Dat} {t:Str} (h:TxB k d t):Asc 30000 t:=by
  cases h with
  | num h=>exact ⟨Nat.le_trans (zkR h) (by decide),fun c hc=>by have:=zdK _ c hc;omega⟩
  | four h=>exact ziH (Nat.le_trans (rF h.1 (by rw [h.2.1];omega) (by decide)) (by decide)) (by decide) (zeF _)
  | way h=>exact ziH (Nat.le_trans (rF h.1 (by rw [h.2.1];omega) (by decide)) (by decide)) (by decide) (zeF _)
  | pt h=>exact ⟨Nat.le_trans (zkD h.2 h.1) (by decide),fun c hc=>by have:=zdP _ c hc;omega⟩
  | tab h =>
    refine ⟨Nat.le_trans (zxQ h) (by decide),fun c hc=>?_⟩
    rcases zdO sem _ c hc with q|⟨p,hp,q⟩
    . have:c=59\/c=32:=by simpa [sem] using q
      omega
    . obtain ⟨r,_,rfl⟩:=List.mem_map.mp hp
      have:=zdP r c q
      omega
  | set h=>exact ziH (Nat.le_trans (rF h.1 (by rw [h.2.1];omega) (by decide)) (by decide)) (by decide) (zeF _)
def zsI:List Dat->Dat->Prop:=fun ds d=>∃ q:Int × Int,ds=[qD q]/\Gq q/\d = .str (tqF q)
def zbR:List Dat->Dat->Prop:=fun ds d=>∃ ns:List Int,ds=[tI ns]/\(∀ n∈ns,Bg n)/\ns.length<=4/\d = .str (jn spa (ns.map vK))
def zqZ:List Dat->Dat->Prop:=fun ds d=>∃ l:List (Int × Int),ds=[pD3 l]/\GrF l/\d = .str (tqP l)
def znY:List Dat->Dat->Prop:=fun ds d=>∃ l:List (List (Int × Int)),ds=[tD3 l]/\GtF l/\d = .str (tqT l)
end D
end
namespace D
open PySem L2 K0 Num
open PySem.W (Dat)
section
theorem yfU {t:Int} (h:Bt (t*t) 516):Bt t 258:=by
 unfold Bt at *
 rw [Int.natAbs_mul] at h
 refine Classical.byContradiction fun z=>?_
 have z:2 ^ 258<t.natAbs:=Nat.lt_of_not_le z
 have:2 ^ 258*2 ^ 258<t.natAbs*t.natAbs:=Nat.mul_lt_mul'' z z
 rw [<- Nat.pow_add] at this
 exact absurd h (Nat.not_le.mpr this)
def zeJ (i j k:Nat) (F:List Int) (R:List (List Int)):Prop:=∃ x1 y1 x2 y2 x3 y3:Int,R=[[x1,y1],[x2,y2],[x3,y3]]/\Good x1 y1/\Good x2 y2/\Good x3 y3/\Bd (2 ^ 800) [x1,y1]/\Bd (2 ^ 800) [x2,y2]/\Bd (2 ^ 800) [x3,y3]/\hu (rf i x1 y1) (rf j x2 y2) (rf k x3 y3)=F
section
variable {p q r s m n:Int} {i j k:Nat} {F:List Int} {D0:Dat}
theorem zrN (h:zyX i j k F (jI i j k p q r s m n)) (bp:Bt p 128) (bq:Bt q 128) (br:Bt r 128) (bs:Bt s 128) (bm:Bt m 258) (bn:Bt n 258):zeJ i j k F (jI i j k p q r s m n):=by
 obtain ⟨x1,y1,x2,y2,x3,y3,eR,g1,g2,g3,eh⟩:=h
 have er:=eR
 unfold jI at er
 injection er with e1 er
 injection er with e2 er
 injection er with e3 _
 have bl:Bt (zV i j k) 1:=by unfold Bt;rcases kL i j k with z|z|z <;> rw [z] <;> decide
 have b1:Bt 1 1:=by unfold Bt;decide
 have b0:Bt 0 1:=by unfold Bt;decide
 have bF:Bt (xU p q r s m n).1 390/\Bt (xU p q r s m n).2 390:=by
  unfold xU
  split
  ·exact ⟨(aM ((bp.mul bm).mul b0) ((bq.mul bm).mul b1)).up (by decide),(aq ((bq.mul bm).mul b0) ((bp.mul bm).mul b1)).up (by decide)⟩
  ·exact ⟨(aM (bp.mul bm) (br.mul bn)).up (by decide),(aM (bq.mul bm) (bs.mul bn)).up (by decide)⟩
 obtain ⟨bF1,bF2⟩:=bF
 refine ⟨x1,y1,x2,y2,x3,y3,eR,g1,g2,g3,yL (rM e1 bF1 bF2),?_,?_,eh⟩
 ·unfold lea at e2
  exact yL (rM (m:=265) e2 ((aM (bm.mul b1) (bn.mul bl)).up (by decide)) ((aq (bn.mul b1) (bm.mul bl)).up (by decide)))
 ·exact yL (rM (m:=790) e3 ((aM ((bp.mul bm).mul bF2) ((bq.mul bm).mul (aZ bF1))).up (by decide)) ((aq ((bq.mul bm).mul bF2) ((bp.mul bm).mul (aZ bF1))).up (by decide)))
theorem ydQ (h:Hg i j k) (lF:F.length=4) (nF:∃ n∈F,n≠0) (bF:Bd (2 ^ 124) F):Bt ((wA j (zV i j k) F).getD (i+1) 0) 128/\Bt ((wA j (zV i j k) F).getD 0 0) 128/\Bt (hd i j*(wA j (zV i j k) F).getD (xF i j+1) 0) 128/\Bt ((wA j (zV i j k) F).getD (j+1) 0) 128:=by
 obtain ⟨hi,hj,hk,ij,jk⟩:=h
 have lp:(pl F).length=4:=by rw [zY];exact lF
 have lq:(wA j (zV i j k) F).length=4:=xB lp rfl
 have b1:Bd (2 ^ 0) [-zV i j k,1]:=fun n hn=>by
  simp only [List.mem_cons,List.mem_nil_iff,or_false] at hn
  rcases hn with rfl|rfl
  ·rcases kL i j k with z|z|z <;> rw [z] <;> decide
  ·decide
 have bqm:Bd (2 ^ 127) (wA j (zV i j k) F):=yS (sH lp rfl (wB nF bF) (kM hj b1)) (by decide)
 have bh:Bt (hd i j) 1:=by unfold Bt;rcases zaF i j with e|e <;> rw [e] <;> decide
 have t3:xF i j<3:=by unfold xF;omega
 exact ⟨Bt.up (x:=127) (bqm _ (wI lq (by omega))) (by decide),Bt.up (x:=127) (bqm _ (wI lq (by omega))) (by decide),(bh.mul (show Bt _ 127 from bqm _ (wI lq (by omega)))).up (by decide),Bt.up (x:=127) (bqm _ (wI lq (by omega))) (by decide)⟩
theorem ydZ (h:Hg i j k) (lF:F.length=4) (nF:∃ n∈F,n≠0) (bF:Bd (2 ^ 124) F) (hD:Sof i j k F D0) :
    (zbF i j k F=0/\∃ (c e K L:Int) (w:Str),D0 = .tuple [.str "lock",tI [c,e],.str w,tI [K,L]]/\Good c e/\Good K L/\Bd (2 ^ 128) [c,e]/\Bd (2 ^ 128) [K,L]/\zzY i j k F c e K L w) \/
    (zbF i j k F≠0/\(∀ t:Int,t*t≠zbF i j k F)/\D0 = .tuple [.str "none",.int (zbF i j k F)]) \/
    (∃ (t:Int) (A B:List (List Int)),0<t/\t*t=zbF i j k F/\D0 = .tuple [.str "set",wS A,wS B]/\rlt A B=true/\zeJ i j k (pl F) A/\zeJ i j k (pl F) B):=by
  have tz:=zzE h lF nF
  obtain ⟨bp,bq,br,bs⟩:=ydQ h lF nF bF
  unfold Sof at hD
  unfold zbF
  obtain ⟨p,hp⟩:∃ p,p=(wA j (zV i j k) F).getD (i+1) 0:=⟨_,rfl⟩
  obtain ⟨q,hq⟩:∃ q,q=(wA j (zV i j k) F).getD 0 0:=⟨_,rfl⟩
  obtain ⟨r,hr⟩:∃ r,r=hd i j*(wA j (zV i j k) F).getD (xF i j+1) 0:=⟨_,rfl⟩
  obtain ⟨s,hs⟩:∃ s,s=(wA j (zV i j k) F).getD (j+1) 0:=⟨_,rfl⟩
  rw [<- hp, <- hq, <- hr, <- hs] at hD tz ⊢
  rw [<- hp] at bp
  rw [<- hq] at bq
  rw [<- hr] at br
  rw [<- hs] at bs
  have bl:Bt (zV i j k) 1:=by unfold Bt;rcases kL i j k with z|z|z <;> rw [z] <;> decide
  have b1:Bt 1 1:=by unfold Bt;decide
  have b0:Bt 0 1:=by unfold Bt;decide
  rcases hD with ⟨z,rfl⟩|⟨z,y,rfl⟩|⟨t,t0,ht,rfl⟩
  . refine .inl ⟨z,?_⟩
    unfold lok
    by_cases rs:r=0/\s=0
    . rw [if_pos rs]
      have pq:p≠0\/q≠0:=by
        by_cases p0:p=0
        . exact .inr fun q0=>tz ⟨p0,q0,rs.1,rs.2⟩
        . exact .inl p0
      have nl:0*1+1*zV i j k≠0\/1*1 - 0*zV i j k≠0:=.inr (by omega)
      obtain ⟨w1,c,e,w10,r1,s1,t1⟩:=wC nl
      obtain ⟨w2,K,L,w20,r2,s2,t2⟩:=wC pq
      refine ⟨c,e,K,L,"with",by unfold lea;rw [r1,r2],vN nl r1,vN pq r2,yL (rM (m:=3) r1 ((aM (b0.mul b1) (b1.mul bl)).up (by decide)) ((aq (b1.mul b1) (b0.mul bl)).up (by decide))),rM r2 bp bq,.inl ⟨rfl,fun x y f g nx ef=>?_⟩⟩
      have nK:=kC pq r2
      have nj:K*y+(0 - x)*L≠0\/L*y - K*(0 - x)≠0:=by
        have:=zkG (k:=K) (l:=L) (m:=0 - x) (n:=y) nK (nx.imp (fun w=>by omega) id)
        rcases this with w|w
        . exact .inl fun y=>w (by rw [<- y];grind)
        . exact .inr w
      refine ⟨kC nj ef,?_⟩
      obtain ⟨w3,f',g',w30,r3,s3,t3⟩:=wC nj
      rw [ef] at r3
      injection r3 with u1 u2
      injection u2 with u2 _
      subst u1 u2
      have cm:c - zV i j k*e=0:=by
        have:w1*(c - zV i j k*e)=0:=by rw [Int.mul_sub, <- s1,show w1*(zV i j k*e)=zV i j k*(w1*e) by grind, <- t1];omega
        exact (Int.mul_eq_zero.mp this).resolve_left w10
      have n0:e+zV i j k*c≠0:=zjL (kC nl r1) cm
      have xy:=qT nx
      refine rB (X:=w3*w2) (Y:=(e+zV i j k*c)*(x*x+y*y)) h lF nF (Int.mul_ne_zero w30 w20) (Int.mul_ne_zero n0 (by omega)) hp hq hr hs ?_ ?_ ?_ ?_
      . have:w3*w2*((e+zV i j k*c)*(x*g+y*f))=w2*(e+zV i j k*c)*(x*(w3*g)+y*(w3*f)):=by grind
        rw [this, <- s3, <- t3,s2];grind
      . have:w3*w2*((e+zV i j k*c)*(y*g - x*f))=w2*(e+zV i j k*c)*(y*(w3*g) - x*(w3*f)):=by grind
        rw [this, <- s3, <- t3,t2];grind
      . rw [cm,rs.1];simp
      . rw [cm,rs.2];simp
    . rw [if_neg rs]
      have nrs:r≠0\/s≠0:=by
        by_cases r0:r=0
        . exact .inr fun s0=>rs ⟨r0,s0⟩
        . exact .inl r0
      have pq:p=0/\q=0:=by
        have:=qT nrs
        rcases Int.mul_eq_zero.mp z with y|y
        . exact qO y
        . omega
      have nl:1*1+0*zV i j k≠0\/0*1 - 1*zV i j k≠0:=.inl (by omega)
      obtain ⟨w1,c,e,w10,r1,s1,t1⟩:=wC nl
      obtain ⟨w2,K,L,w20,r2,s2,t2⟩:=wC nrs
      refine ⟨c,e,K,L,"against",by unfold lea;rw [r1,r2],vN nl r1,vN nrs r2,yL (rM (m:=3) r1 ((aM (b1.mul b1) (b0.mul bl)).up (by decide)) ((aq (b0.mul b1) (b1.mul bl)).up (by decide))),rM r2 br bs,.inr ⟨rfl,fun x y f g nx ef=>?_⟩⟩
      have nK:=kC nrs r2
      have nj:x*L+(0 - K)*y≠0\/y*L - x*(0 - K)≠0:=by
        have:=zkG (k:=x) (l:=y) (m:=0 - K) (n:=L) nx (nK.imp (fun w=>by omega) id)
        rcases this with w|w
        . exact .inl fun y=>w (by rw [<- y];grind)
        . exact .inr w
      refine ⟨kC nj ef,?_⟩
      obtain ⟨w3,f',g',w30,r3,s3,t3⟩:=wC nj
      rw [ef] at r3
      injection r3 with u1 u2
      injection u2 with u2 _
      subst u1 u2
      have cn:e+zV i j k*c=0:=by
        have:w1*(e+zV i j k*c)=0:=by rw [Int.mul_add, <- t1,show w1*(zV i j k*c)=zV i j k*(w1*c) by grind, <- s1];omega
        exact (Int.mul_eq_zero.mp this).resolve_left w10
      have m0:c - zV i j k*e≠0:=fun w=>zjL (kC nl r1) w cn
      have xy:=qT nx
      refine rB (X:=w3*w2) (Y:=(c - zV i j k*e)*(x*x+y*y)) h lF nF (Int.mul_ne_zero w30 w20) (Int.mul_ne_zero m0 (by omega)) hp hq hr hs ?_ ?_ ?_ ?_
      . rw [cn,pq.1];simp
      . rw [cn,pq.2];simp
      . have:w3*w2*((c - zV i j k*e)*(x*g - y*f))=w2*(c - zV i j k*e)*(x*(w3*g) - y*(w3*f)):=by grind
        rw [this, <- s3, <- t3,s2];grind
      . have:w3*w2*((c - zV i j k*e)*(y*g+x*f))=w2*(c - zV i j k*e)*(y*(w3*g)+x*(w3*f)):=by grind
        rw [this, <- s3, <- t3,t2];grind
  . exact .inr (.inl ⟨z,y,rfl⟩)
  . have n0:p*p+q*q≠0:=fun w=>by
      rw [w,Int.zero_mul] at ht
      rcases Int.mul_eq_zero.mp ht with y|y <;> omega
    have bN:Bt (p*p+q*q) 257:=(aM (bp.mul bp) (bq.mul bq)).up (by decide)
    have bM:Bt (r*r+s*s) 257:=(aM (br.mul br) (bs.mul bs)).up (by decide)
    have bt:Bt t 258:=by
      have:Bt (t*t) 516:=by rw [ht];exact (bN.mul bM).up (by decide)
      exact yfU this
    have hg1:=zrN (zcD (m:=t) (n:=p*p+q*q) h lF nF hp hq hr hs (by omega) rfl n0 ht) bp bq br bs bt (bN.up (by decide))
    have hg2:=zrN (zcD (m := -t) (n:=p*p+q*q) h lF nF hp hq hr hs (by omega) rfl n0 (by rw [Int.neg_mul_neg];exact ht)) bp bq br bs (aZ bt) (bN.up (by decide))
    have ne:=ydM (p:=p) (q:=q) (r:=r) (s:=s) (i:=i) (j:=j) (k:=k) (m:=t) (by omega) n0
    have ll:(jI i j k p q r s t (p*p+q*q)).length=(jI i j k p q r s (-t) (p*p+q*q)).length:=rfl
    rw [zkB,zkB]
    generalize jI i j k p q r s t (p*p+q*q)=A at hg1 ne ll ⊢
    generalize jI i j k p q r s (-t) (p*p+q*q)=B at hg2 ne ll ⊢
    refine .inr (.inr ?_)
    cases hb:rlt B A with
    | true=>rw [if_pos rfl];exact ⟨t,B,A,t0,ht,rfl,hb,hg2,hg1⟩
    | false =>
      rw [if_neg (by decide)]
      refine ⟨t,A,B,t0,ht,rfl,?_,hg1,hg2⟩
      cases ha:rlt A B with
      | true=>rfl
      | false=>exact absurd (zlJ ll ha hb) ne
end
def kT:List Dat->Dat->Prop:=fun ds d=>∃ (i j k:Nat) (a b c e f g:Int),ds=[.str (hg i j k),.tuple [tI [a,b],tI [c,e],tI [f,g]]]/\Hg i j k/\(a≠0\/b≠0)/\(c≠0\/e≠0)/\(f≠0\/g≠0)/\Bd (2 ^ 800) [a,b]/\Bd (2 ^ 800) [c,e]/\Bd (2 ^ 800) [f,g]/\d=tI (hu (rf i a b) (rf j c e) (rf k f g))
end
end D
section
namespace D
open PySem L2 K0 Num PyProof.Rows
open PySem.W (Dat)
def hgC (m:Nat):Bool:=m / 9 != m / 3 % 3 && m / 3 % 3 != m % 3
def hgT:Nat->List Dat
 | 0=>[]
 | m+1=>hgT m++(if hgC m=true then [.str (hg (m / 9) (m / 3 % 3) (m % 3))] else [])
theorem zlH:∀ n,n<=27->∀ d∈hgT n,∃ i j k,Hg i j k/\d = .str (hg i j k)
  | 0,_,d,h=>by cases h
  | n+1, hn, d, h => by
    rcases List.mem_append.mp h with h|h
    . exact zlH n (by omega) d h
    . by_cases c:hgC n=true
      . rw [if_pos c] at h
        refine ⟨n / 9,n / 3 % 3,n % 3,?_,by simpa using h⟩
        unfold hgC at c
        simp only [Bool.and_eq_true,bne_iff_ne] at c
        exact ⟨by omega,by omega,by omega,c.1,c.2⟩
      . rw [if_neg c] at h;cases h
theorem yaX:∀ i,i<3->∀ j,j<3->∀ k,k<3->vQ i++vQ j++vQ k=hg i j k:=by decide +kernel
theorem zpJ {i j k:Nat} (hi:i<3) (hj:j<3) (hk:k<3):hgT (9*i+3*j+k+1)=hgT (9*i+3*j+k)++(if (i != j && j != k)=true then [.str (hg i j k)] else []):=by
 show hgT (9*i+3*j+k)++_=_
 have e1:(9*i+3*j+k) / 9=i:=by omega
 have e2:(9*i+3*j+k) / 3 % 3=j:=by omega
 have e3:(9*i+3*j+k) % 3=k:=by omega
 unfold hgC
 rw [e1,e2,e3]
theorem zlN {i j:Nat}:decide (vQ i=vQ j)=decide (i=j):=by
 by_cases h:i=j
 ·subst h;rw [decide_eq_true rfl,decide_eq_true rfl]
 ·rw [decide_eq_false h];exact decide_eq_false (zkJ h)
theorem zfA:∀ n,xR (hgT n)=true
  | 0=>rfl
  | n+1 => by
    have ih:=zfA n
    show xR (hgT n++_)=true
    have app:∀ a b:List Dat,xR a=true->xR b=true->xR (a++b)=true:=by
      intro a b
      induction a with
      | nil=>intro _ h;exact h
      | cons x r ihr =>
        intro h1 h2
        rw [xR,Bool.and_eq_true] at h1
        rw [List.cons_append,xR,h1.1,ihr h1.2 h2];rfl
    refine app _ _ ih ?_
    split <;> rfl
theorem zyR (n:Nat):(hgT n).length<=n:=by
  induction n with
  | zero=>exact Nat.le_refl _
  | succ n ih =>
    show (hgT n++_).length<=_
    rw [List.length_append]
    split
    . show _+1<=_;omega
    . show _+0<=_;omega
def yeG:List Dat->Dat->Prop:=fun ds d=>ds=[]/\d = .list (hgT 27)
structure F49 (F:List Int):Prop where
 l:F.length=4
 nz:∃ n∈F,n≠0
 bd:Bd (2 ^ 124) F
 pl:pl F=F
def zaK:List Dat->Dat->Prop:=fun ds d=>∃ F,ds=[tI F]/\F49 F/\d = .bool true
def ziU:List Dat->Dat->Prop:=fun ds d=>∃ F,ds=[tI F]/\F49 F/\d = .bool true
def zsC:List Dat->Dat->Prop:=fun ds d=>∃ (F:List Int) (x y z:Int),ds=[tI F,tI [x,y,z]]/\F49 F/\(∃ n∈[x,y,z],n≠0)/\Bd (2 ^ 2) [x,y,z]/\d = .bool true
theorem zpY {i j k:Nat} {F:List Int} {c e K L:Int} {w:Str} (h:zzY i j k F c e K L w) (nk:K≠0\/L≠0):hu (rf i K L) (rf j c e) (rf k 0 1)=pl F:=by
 have p0:0<L*L+K*K:=qT nk.symm
 have e1:ps 0 (L*L+K*K)=[0,1]:=by
  have:ps (((L*L+K*K))*0) ((L*L+K*K)*1)=ps 0 1:=zfX (by omega) ⟨1,by simp,by decide⟩
  rw [Int.mul_zero,Int.mul_one] at this
  rw [this];rfl
 rcases h with ⟨_,h⟩|⟨_,h⟩
 ·exact (h K L 0 1 nk (by rw [show K*L+(0 - K)*L=0 by grind,show L*L - K*(0 - K)=L*L+K*K by grind];exact e1)).2
 ·exact (h K L 0 1 nk (by rw [show K*L+(0 - K)*L=0 by grind,show L*L - K*(0 - K)=L*L+K*K by grind];exact e1)).2
theorem zcJ {f g:List Int} {u:Int} (h1:f.length=4) (h2:g.length=4):qm f (g.map (u * ·))=(qm f g).map (u * ·):=by
 obtain ⟨a,b,c,d,rfl⟩:=zU h1
 obtain ⟨p,q,r,s,rfl⟩:=zU h2
 simp only [qm,List.map_cons,List.map_nil,List.cons.injEq,and_true]
 refine ⟨by grind,by grind,by grind,by grind⟩
theorem zlU {i j k:Nat} {F f g:List Int} (hk:k<3) (lf:f.length=4) (lg:g.length=4) (nf:∃ n∈f,n≠0) (ng:∃ n∈g,n≠0) (h:hu f g (rf k 0 1)=F):hu f g (rf k 0 (-5))=F:=by
 have e:rf k 0 (-5)=(rf k 0 1).map ((-5) * ·):=by
  unfold rf
  simp
 have lr:(rf k 0 1).length=4:=rfl
 have q1:qm g ((rf k 0 1).map ((-5) * ·))=(qm g (rf k 0 1)).map ((-5) * ·):=zcJ lg lr
 have q2:qm f ((qm g (rf k 0 1)).map ((-5) * ·))=(qm f (qm g (rf k 0 1))).map ((-5) * ·):=zcJ lf (xB lg lr)
 unfold hu at h ⊢
 rw [e,q1,q2,wJ (by decide) (vL lf (xB lg lr) nf (vL lg lr ng (vU hk (.inr (by decide)))))]
 exact h
theorem zuL {a b c d t u:Int} (hz:∃ n∈[a,b,c,d],n≠0) (h:rs [a,b,c,d]=[t,u]):t*yU [a,b,c,d]=a*a*u:=by
 have h:fr (a*a) (yU [a,b,c,d])=[t,u]:=h
 exact (zdG (yW rfl hz) h).2.2.2.1.symm
def rD (a:Row3):List (Int × Int):=[(a.x.num,(a.x.den:Int)),(a.y.num,(a.y.den:Int)),(a.z.num,(a.z.den:Int))]
theorem yhB {a b:Int} (h:a.natAbs<=8/\b.natAbs<=8):Bd (2 ^ 800) [a,b]:=fun n hn=>by
 simp only [List.mem_cons,List.mem_nil_iff,or_false] at hn
 rcases hn with rfl|rfl
 ·exact Nat.le_trans h.1 (by decide +kernel)
 ·exact Nat.le_trans h.2 (by decide +kernel)
theorem ybA {i:Nat} {d:Dat} (h:(jZ "xyz")[i]?=some d):i<3/\d = .str (vQ i):=by
 have e:jZ "xyz" = [.str (vQ 0),.str (vQ 1),.str (vQ 2)]:=by
  unfold jZ
  rw [show ("xyz" : Str).cps.toList=[120,121,122] by decide +kernel]
  rfl
 rw [e] at h
 match i,h with
 | 0,h=>cases h;exact ⟨by decide,rfl⟩
 | 1,h=>cases h;exact ⟨by decide,rfl⟩
 | 2,h=>cases h;exact ⟨by decide,rfl⟩
 | _+3,h=>cases h
theorem zwB {i j k:Nat} (h:(!decide (i=j) && !decide (j=k))=true):(i != j && j != k)=true:=by
 simpa using h
theorem ztC {i j k:Nat} (h:(!decide (i=j) && !decide (j=k))=false):¬ (i != j && j != k)=true:=by
 intro z
 have:(!decide (i=j) && !decide (j=k))=true:=by simpa using z
 rw [h] at this;cases this
theorem ybF {p q r k l:Int} (nw:∃ n∈[p,q,r],n≠0) (nk:k≠0\/l≠0):∃ n∈[l,k*p,k*q,k*r],n≠0:=by
 by_cases hl:l=0
 ·have hk:k≠0:=nk.resolve_right (fun z=>z hl)
  obtain ⟨n,hn,h0⟩:=nw
  simp only [List.mem_cons,List.mem_nil_iff,or_false] at hn
  rcases hn with rfl|rfl|rfl
  ·exact ⟨_,by simp,Int.mul_ne_zero hk h0⟩
  ·exact ⟨k*n,by simp,Int.mul_ne_zero hk h0⟩
  ·exact ⟨k*n,by simp,Int.mul_ne_zero hk h0⟩
 ·exact ⟨l,by simp,hl⟩
theorem zfO {a b c e:Int} (h:Bd (2 ^ 124) [a,b,c,e]):Bt (yU [a,b,c,e]) 260:=by
 obtain ⟨ba,bb,bc,be⟩:=qA h
 have e1:yU [a,b,c,e]=a*a+b*b+c*c+e*e:=by simp [yU]
 rw [e1]
 exact (aM (aM (aM (ba.mul ba) (bb.mul bb)) (bc.mul bc)) (be.mul be)).up (by decide)
theorem zmZ {a b c e:Int} (hF:F49 [a,b,c,e]):∃ d,zjU [tI [a,b,c,e]] d/\(d = .none\/∃ w x y z:Int,d=tI [w,x,y,z]/\(∃ n∈[w,x,y,z],n≠0)/\Bd (2 ^ 400) [w,x,y,z]/\pl (qm [w,x,y,z] [w,x,y,z])=[a,b,c,e]):=by
 by_cases h:∃ r:Int,0<=r/\r*r=yU [a,b,c,e]
 ·obtain ⟨r,r0,hr⟩:=h
  obtain ⟨w,x,y,z,ew⟩:=zU (show (pl [a+r,b,c,e]).length=4 by rw [zY];rfl)
  obtain ⟨h1,h2,h3,h4,h5,_⟩:=ziC hF.nz hF.pl r0 hr ew
  refine ⟨_,⟨[a,b,c,e],a,b,c,e,rfl,rfl,hF.nz,yL hF.bd,hF.pl,.inl ⟨r,r0,hr,rfl⟩⟩,.inr ⟨w,x,y,z,by rw [ew],h4,?_,h5⟩⟩
  rw [<- ew]
  have br:Bt r 260:=by
   have b2:=zfO hF.bd
   rw [<- hr] at b2
   unfold Bt at *
   rw [Int.natAbs_mul] at b2
   by_cases z:r.natAbs=0
   ·rw [z];exact Nat.zero_le _
   ·exact Nat.le_trans (Nat.le_mul_of_pos_left _ (by omega)) b2
  obtain ⟨ba,bb,bc,be⟩:=qA hF.bd
  exact wB ⟨a+r,by simp,by omega⟩ (zdT ((aM ba br).up (by decide)) (bb.up (by decide)) (bc.up (by decide)) (be.up (by decide)))
 ·refine ⟨.none,⟨[a,b,c,e],a,b,c,e,rfl,rfl,hF.nz,yL hF.bd,hF.pl,.inr ⟨fun r hr=>h ⟨(r.natAbs:Int),by omega,?_⟩,rfl⟩⟩,.inl rfl⟩
  rw [<- hr]
  exact Int.natAbs_mul_self
theorem yjY {n:Int} (h:n.natAbs<=2 ^ 124):Bg n:=Nat.lt_of_le_of_lt h (by decide +kernel)
theorem ygT {F:List Int} (hF:F49 F):zwN 4 F:=⟨fun n hn=>yjY (hF.bd n hn),hF.l,by
 obtain ⟨n,hn,h0⟩:=hF.nz
 exact List.any_eq_true.mpr ⟨n,hn,by simpa using h0⟩⟩
theorem zqO {k:Nat} {x:Rat} (h:Lo k x.num x.den x) (hk:k<=4980):Gq (x.num,(x.den:Int)):=⟨Bg.bt (h.bt.up hk),Bg.bt (h.bb.up hk),h.pos,h.low⟩
theorem yiA {a b c e:Int} (hF:F49 [a,b,c,e]):GtF [rD (kR a b c e),rD (kS a b c e),rD (qM a b c e)]:=by
 have lv:=zkQ ((zzX hF.nz hF.bd).lv (by decide))
 have g:∀ r:Row3,r.x∈[(kR a b c e).x,(kR a b c e).y,(kR a b c e).z,(kS a b c e).x,(kS a b c e).y,(kS a b c e).z,(qM a b c e).x,(qM a b c e).y,(qM a b c e).z]/\r.y∈[(kR a b c e).x,(kR a b c e).y,(kR a b c e).z,(kS a b c e).x,(kS a b c e).y,(kS a b c e).z,(qM a b c e).x,(qM a b c e).y,(qM a b c e).z]/\r.z∈[(kR a b c e).x,(kR a b c e).y,(kR a b c e).z,(kS a b c e).x,(kS a b c e).y,(kS a b c e).z,(qM a b c e).x,(qM a b c e).y,(qM a b c e).z]->GrF (rD r):=fun r ⟨h1,h2,h3⟩=>by
  refine ⟨rfl,fun q hq=>?_⟩
  have hq:q=(r.x.num,(r.x.den:Int))\/q=(r.y.num,(r.y.den:Int))\/q=(r.z.num,(r.z.den:Int)):=by simpa [rD] using hq
  rcases hq with rfl|rfl|rfl
  ·exact zqO (lv _ h1) (by decide)
  ·exact zqO (lv _ h2) (by decide)
  ·exact zqO (lv _ h3) (by decide)
 refine ⟨rfl,fun r hr=>?_⟩
 simp only [List.mem_cons,List.mem_nil_iff,or_false] at hr
 rcases hr with rfl|rfl|rfl
 ·exact g _ ⟨by simp,by simp,by simp⟩
 ·exact g _ ⟨by simp,by simp,by simp⟩
 ·exact g _ ⟨by simp,by simp,by simp⟩
section
variable {p:Option Addr} {K:PySem.W.Frag} {τ:List Sl} {ta tb:TE}
theorem T1.neC {C:Dat->Prop} {d:Dat} (ha:E p K ta τ (fun s=>∃ e,s = .dat e/\C e)) (hc:∀ e,C e->e=d) (hb:E1 p K tb τ (.dat d)) (k1:PySem.W.kqdOk 9 d=true):T1 p K (zcB (wO (zgT K true) ta tb)) τ false :=
 ah (E.mono ha fun s ⟨e,es,c⟩=>by rw [es,hc e c]) hb rfl rfl k1
end
end D
end
section
namespace D
open PySem L2 K0 Num PyProof.Rows
open PySem.W (Dat)
section
variable {p:Option Addr} {K:PySem.W.Frag} {τ:List Sl} {tas:TA} {E':XK}
theorem E.cTA {pre:List Int->Prop} {fn:List Int->List Int} {C:List Sl->Prop} {P:List Int->Prop} (ha:A p K tas τ C) (hC:∀ ss,C ss->∃ ns:List Int,ss=[.dat (tI ns)]/\ns.length<=1000/\pre ns/\P (fn ns)):E p K (yY (spT K pre fn) [] E' tas) τ (fun s=>∃ ns,s = .dat (tI ns)/\P ns):=fun W L σ H Q rs o q=>ha W L σ H _ rs o fun vs H1 ss c e1 o1 rv=>by
  obtain ⟨ns,rfl,hl,hp,hP⟩:=hC ss c
  cases rv with
  | cons u v =>
    cases v
    cases u with
    | tup h1 h2 =>
      have ev:=h2.inv
      subst ev
      exact ⟨_,ns,rfl,h1,hl,hp,fun r H' s h=>q _ H' _ ⟨_,rfl,hP⟩ (e1.trans (Ev.of s)) (o1.same s) (qI h)⟩
end
theorem zuU {i j k:Nat} {a b c e f g:Int} (hi:i<3) (hj:j<3) (hk:k<3) (n1:a≠0\/b≠0) (n2:c≠0\/e≠0) (n3:f≠0\/g≠0) (b1:Bd (10 ^ 12) [a,b]) (b2:Bd (10 ^ 12) [c,e]) (b3:Bd (10 ^ 12) [f,g]) :
  (hu (rf i a b) (rf j c e) (rf k f g)).length=4/\(∃ n∈hu (rf i a b) (rf j c e) (rf k f g),n≠0)/\Bd (2 ^ 124) (hu (rf i a b) (rf j c e) (rf k f g)):=by
 have m1:=vU (k:=a) (l:=b) hi n1
 have m2:=vU (k:=c) (l:=e) hj n2
 have m3:=vU (k:=f) (l:=g) hk n3
 have d1:Bd (2 ^ 40) (rf i a b):=kM hi (yS b1 (by decide))
 have d2:Bd (2 ^ 40) (rf j c e):=kM hj (yS b2 (by decide))
 have d3:Bd (2 ^ 40) (rf k f g):=kM hk (yS b3 (by decide))
 have q2:Bd (2 ^ 82) (qm (rf j c e) (rf k f g)):=yS (sH rfl rfl d2 d3) (by decide)
 have l2:=xB (ns:=rf j c e) (ms:=rf k f g) rfl rfl
 have n2:=vL (ns:=rf j c e) (ms:=rf k f g) rfl rfl m2 m3
 have q1:Bd (2 ^ 124) (qm (rf i a b) (qm (rf j c e) (rf k f g))):=yS (sH rfl l2 d1 q2) (by decide)
 have l1:=xB (ns:=rf i a b) rfl l2
 have n1:=vL (ns:=rf i a b) rfl l2 m1 n2
 unfold hu
 exact ⟨by rw [zY];exact l1,xC n1,wB n1 q1⟩
theorem yaA {ns:List Int} (l:ns.length=4) (nz:∃ n∈ns,n≠0) (bd:Bd (2 ^ 124) ns):F49 (pl ns):=⟨by rw [zY];exact l,xC nz,wB nz bd,zkX nz⟩
theorem zzJ {x y z:Int} (h1 : -3<=x/\x<=3) (h2 : -3<=y/\y<=3) (h3 : -3<=z/\z<=3):Bd (2 ^ 2) [x,y,z]:=fun n hn=>by
 simp only [List.mem_cons,List.mem_nil_iff,or_false] at hn
 rcases hn with rfl|rfl|rfl <;> (show _<=4;omega)
theorem zwC {x y z:Int}:deq (tI [x,y,z]) (tI [0,0,0])=decide (x=0/\y=0/\z=0):=by
 rw [zpO]
 by_cases h:x=0/\y=0/\z=0
 ·obtain ⟨rfl,rfl,rfl⟩:=h;rw [decide_eq_true rfl,decide_eq_true ⟨rfl,rfl,rfl⟩]
 ·rw [decide_eq_false h]
  exact decide_eq_false fun e=>h (by injection e with e1 e;injection e with e2 e;injection e with e3;exact ⟨e1,e2,e3⟩)
end D
end
section
namespace K49
open PySem L2 Num K0 D
open PySem.W (Dat)
def xL (i:Nat):Stmt:=PySem.Challenge.pw_hangrings_k49_whole_tables_swings_and_ha.main.body.getD i (.Pass ⟨0,0,0,0⟩)
abbrev sCD:Stmt:=xL 6
abbrev yeS:Stmt:=xL 7
abbrev yfB:Stmt:=xL 8
abbrev zgU:Stmt:=xL 10
abbrev zaM:Stmt:=xL 11
abbrev sCM:Stmt:=xL 12
abbrev ztY:Stmt:=xL 13
abbrev qH:Stmt:=xL 15
abbrev qF:Stmt:=xL 16
abbrev zjG:Stmt:=xL 18
abbrev zrE:Stmt:=xL 19
abbrev zrH:Stmt:=xL 20
abbrev zoZ:Stmt:=xL 21
abbrev zqN:Stmt:=xL 22
abbrev sWT:Stmt:=xL 23
abbrev rZ:Stmt:=xL 25
abbrev zhY:Stmt:=xL 26
abbrev zdC:Stmt:=xL 27
abbrev rO:Stmt:=xL 28
abbrev zpH:Stmt:=xL 31
abbrev zrA:Stmt:=xL 32
abbrev zrY:Stmt:=xL 33
abbrev zhU:Stmt:=xL 34
abbrev ziA:Stmt:=xL 35
abbrev tR:Stmt:=xL 36
abbrev zrI:Stmt:=xL 38
abbrev zhI:Stmt:=xL 44
abbrev ziX:Stmt:=xL 45
abbrev zeA:Stmt:=xL 46
abbrev ziJ:Stmt:=xL 47
abbrev zrT:Stmt:=xL 48
abbrev zoF:Stmt:=xL 49
abbrev tV:Stmt:=xL 50
abbrev rP:Stmt:=xL 51
abbrev zeC:Stmt:=xL 52
abbrev yeJ:Stmt:=xL 53
abbrev zdF:Stmt:=xL 56
abbrev zpM:Stmt:=xL 60
abbrev zoW:Stmt:=xL 61
abbrev zqV:Stmt:=xL 62
abbrev zsV:Stmt:=xL 63
abbrev zsG:Stmt:=xL 64
abbrev zqS:Stmt:=xL 65
abbrev zhP:Stmt:=xL 74
abbrev zhV:Stmt:=xL 75
abbrev zqL:Stmt:=xL 76
abbrev zdI:Stmt:=xL 77
abbrev zpL:Stmt:=xL 78
abbrev zjE:Stmt:=xL 79
abbrev sD:Stmt:=xL 80
abbrev rH:Stmt:=xL 81
abbrev zoT:Stmt:=xL 82
abbrev sE:Stmt:=xL 83
abbrev zeM:Stmt:=xL 84
abbrev zhQ:Stmt:=xL 85
abbrev ydG:Stmt:=xL 86
abbrev yfF:Stmt:=xL 9
abbrev ycV:Stmt:=xL 14
abbrev zcZ:Stmt:=xL 29
abbrev zsU:Stmt:=xL 42
abbrev zhS:Stmt:=xL 43
abbrev zhE:Stmt:=xL 54
abbrev ycM:Stmt:=xL 66
abbrev zhM:Stmt:=xL 67
abbrev ybD:Stmt:=xL 68
abbrev ycL:Stmt:=xL 69
abbrev ybH:Stmt:=xL 70
abbrev ydX:Stmt:=xL 71
abbrev yaI:Stmt:=xL 72
local macro_rules | `(tactic| walk_at "bt") => `(tactic| (repeat' (first | assumption | exact bt2 | apply Bt.mul | apply aM | apply aq | apply aZ | exact bd_lit (k := 64) (by decide))))
local macro_rules | `(tactic| walk_at "au3") => `(tactic| (repeat' (first | exact aA rfl | exact aN rfl | exact E1.int | exact E1.bl | exact E1.non | exact E1.str | exact A1.nil | exact O1.none | exact E1.ty | exact T1.all | exact ai rfl | exact bi rfl | apply A1.cons | apply E1.add | apply E1.sub | apply E1.mul | apply bv | apply E1.pow | apply aB | apply aK | apply bQ | apply E1.sl1 | apply bA | apply aC | apply T1.val | apply bY | apply bZ | apply T1.or1 | apply E1.eq | apply E1.ne | apply E1.lt | apply E1.le | apply E1.gt | apply E1.ge | apply bI | apply aT | apply E1.su | apply ae | apply E1.comp3 | apply Wk.r3 | apply Wk.tup | rfl | exact vZ (n := 2) rfl z2 | exact vZ (n := 3) rfl z3 | exact vZ (n := 4) rfl z4 | exact vZ (n := 1) rfl z1 | exact vZ (n := 0) rfl z0 | exact yeH (by decide) (by decide) | exact Bt.mulOk (x := _) (y := _) (by walk_at "bt") (by walk_at "bt") (by decide) (by decide))))
section
variable {P:Program} {w:World} {K:PySem.W.Frag} {mg:Str->Option Value} {base:Heap} {dFIGURES dMOST_FIGURES:Value} {C j2:Addr} {dWAYS dPLACES f g g2 g3 g4 g5 g6 g7 g8 g9 g10 g11 g12:Addr} {fd gd gd2 gd3 gd4 gd5 gd6 gd7 gd8 gd9 gd10 gd11 gd12:FuncData}
theorem scCD:FnScope ["numbers","divisor","number","other","left"] ["numbers"] (zI sCD):=fsK
theorem yhE (F:Fun K "common_divisor" "common_divisor" sCD f fd) (ma:mg "abs" = none):FnOk P w K mg base zW 1 f fd ["numbers"] (zrS K):=by
  refine F.okZ scCD (fun vs H Q E h=>?_) (fun cdv A outer s H vs Q E hr h=>?_)
  . obtain ⟨a,ns,rfl,_⟩:=h;rfl
  obtain ⟨a,ns,rfl,hS,q⟩:=h
  refine ⟨_,zC (zM (i:=1) scCD.nd rfl (Or.inl rfl) zA) (zC (wT PassesOwn.never rfl (vA (zv 0)) (yB (i:=2) scCD.nd rfl (Or.inl rfl))
      (zC (zM (i:=3) scCD.nd rfl (Or.inl rfl) (xG rK rfl ma (by rfl) (zQ (zv 2) zB)))
        (zF (zgB PassesOwn.never (zR jR (zv 3) zA (zT _)) (zC (zM (i:=4) scCD.nd rfl (Or.inl rfl) (zH qG (zv 1) (zv 3)))
          (zC (zM (i:=1) scCD.nd rfl (Or.inl rfl) (zv 3)) (zF (zM (i:=3) scCD.nd rfl (Or.inl rfl) (zv 4)))))))))
      (zF (zN (zv 1)))),?_⟩
  refine ⟨_,rfl,a,rfl,⟨_,hS⟩,zxB (xs:=ns.map V.int) (fun i σ H'=>H=H'/\∃ nn o l,σ=[some (.ref a),some (.int (gcdN (ns.take i))),nn,o,l])
    ⟨rfl,_,_,_,rfl⟩ (fun i σ H' _ h=>h.1 ▸ hS) (fun i x σ H' hx h=>?_) (fun σ H' h=>?_)⟩
  . obtain ⟨rfl,nn,o,l,rfl⟩:=h
    rw [List.getElem?_map] at hx
    cases hn:ns[i]? with
    | none=>rw [hn] at hx;cases hx
    | some n =>
      rw [hn] at hx
      cases hx
      refine ⟨_,rfl,n,rfl,?_⟩
      have tk:ns.take (i+1)=ns.take i++[n]:=by rw [List.take_add_one,hn];rfl
      refine zqH (fun σ H'=>H=H'/\∃ (d o:Int) (l:Option V),0<=d/\0<=o/\Nat.gcd d.toNat o.toNat=gcdN (ns.take (i+1))/\σ=[some (.ref a),some (.int d),some (.int n),some (.int o),l])
        (fun σ _=>match σ with|[_,_,_,some (.int o),_]=>o.toNat|_=>0) ⟨rfl,_,_,_,by omega,by split <;> omega,?_,rfl⟩ (fun σ H' h=>?_) (fun σ H Q Q' hq h=>?_)
      . rw [tk,zmX]
        congr 1
        split <;> omega
      . obtain ⟨rfl,d,o,l,hd,ho,hg,rfl⟩:=h
        refine ⟨_,rfl,rfl,_,rfl,?_⟩
        refine zeQ (fun c=>?_) (fun c=>?_)
        . have hne:o≠0:=by
            intro z;subst z;exact absurd c (by decide)
          refine ⟨_,rfl,_,rfl,_,_,rfl,rfl,by omega,_,rfl,_,rfl,⟨rfl,_,_,_,ho,Int.emod_nonneg _ hne,?_,rfl⟩,?_⟩
          . rw [<- hg];exact zoA hd (by omega)
          . show (d % o).toNat<o.toNat
            have:=Int.emod_lt_of_pos d (show 0<o by omega)
            have:=Int.emod_nonneg d hne
            omega
        . have h0:o=0:=by
            by_cases z:o=0
            . exact z
            . exact absurd (by show (!decide (V.int o=V.int 0))=true;rw [decide_eq_false (fun e=>z (by injection e))];rfl) c
          subst h0
          refine ⟨rfl,some (.int n),some (.int 0),l,?_⟩
          have e:(d.toNat:Int)=d:=by omega
          rw [<- hg]
          simp only [Int.toNat_zero,Nat.gcd_zero_right,e]
      . obtain ⟨v,e1,e2,b,e3,q⟩:=h
        exact ⟨v,e1,e2,b,e3,hq _ _ q⟩
  . obtain ⟨rfl,nn,o,l,rfl⟩:=h
    rw [List.length_map,List.take_length]
    exact ⟨_,rfl,q⟩
theorem scRed:FnScope ["numbers","divisor"] ["numbers"] (zI yeS):=fsK
theorem ycG (F:Fun K "reduced" "reduced" yeS f fd) (G:FnOk P w K mg base zW 1 g gd ["numbers"] (zrS K)) (bG:Binds K gd ["numbers"] []) (kG:PySem.W.keepIn K (.ref g)=true) (mG:mg "common_divisor" = some (.ref g)) (mt:mg "tuple" = none) :
    FnOk P w K mg base zW 2 f fd ["numbers"] (spT K (fun ns=>(∃ n∈ns,n≠0)/\Sm ns) jO):=by
  refine F.okZ scRed (fun vs H Q E h=>?_) (fun cdv A outer s H vs Q E hr h=>?_)
  . obtain ⟨a,ns,rfl,_⟩:=h;rfl
  obtain ⟨a,ns,rfl,hS,hl,⟨hnz,hsm⟩,q⟩:=h
  refine ⟨_,zC (zM (i:=1) scRed.nd rfl (Or.inr rfl) (zD G hr rfl mG kG bG .nil zK (zQ (zv 0) zB)))
    (zF (zN (yH yF rfl mt (by rfl) (zQ (yP (own:=["number"]) scRed rfl csK (vA (zv 0))
      (fun C fp s H nd=>yB (i:=0) nd rfl (Or.inl rfl)) (fun C fp s H=>yR) (fun C fp s H=>zH wH (zv 0) (zv 2))) zB)))),?_⟩
  refine ⟨_,rfl,a,ns,rfl,hS,?_⟩
  refine ⟨_,rfl,a,rfl,⟨_,hS⟩,?_⟩
  have gp:=xN hnz
  refine zfP (K:=K) (((jO ns).map PySem.W.Dat.int)) hS (by simp [jO]) (by rw [List.length_map];exact Nat.le_of_lt (kB hl)) (fun i x H' d hx hd hs=>?_) (fun σ' H2 Q1 Q2 hq h=>?_) (fun D H' ys hs hy hD hf=>?_)
  . rw [List.getElem?_map] at hx hd
    unfold jO at hd
    rw [List.getElem?_map] at hd
    cases e:ns[i]? with
    | none=>rw [e] at hx;cases hx
    | some n =>
      rw [e] at hx hd
      cases hx;cases hd
      refine ⟨_,rfl,_,rfl,n,_,rfl,rfl,⟨by omega,znB hnz hsm⟩,aH _,?_⟩
      dsimp only
      rw [Int.fdiv_eq_ediv_of_nonneg _ (by omega)]
      exact .int _
  . obtain ⟨v1,e1,v2,e2,i,j,e3,e4,e5,q⟩:=h
    exact ⟨v1,e1,v2,e2,i,j,e3,e4,e5,hq _ _ q⟩
  . refine ⟨D,ys,rfl,.inl ⟨SqL.of hy,fun l hl'=>?_⟩⟩
    refine q l _ (hs.trans (Same.new hl' _)) ?_
    rw [Fzs.ints_inv hf]
    exact zJ
theorem zzO:FnScope ["numbers"] ["numbers"] (zI yfB):=fsK
theorem yeM (F:Fun K "negated" "negated" yfB f fd) (mt:mg "tuple" = none):FnOk P w K mg base zW 1 f fd ["numbers"] (spT K (fun _=>True) (fun ns=>ns.map fun n => -n)):=by
  refine F.okZ zzO (fun vs H Q E h=>?_) (fun cdv A outer s H vs Q E hr h=>?_)
  . obtain ⟨a,ns,rfl,_⟩:=h;rfl
  obtain ⟨a,ns,rfl,hS,hl,_,q⟩:=h
  refine ⟨_,zF (zN (yH yF rfl mt (by rfl) (zQ (yP (own:=["number"]) zzO rfl csK (vA (zv 0))
      (fun C fp s H nd=>yB (i:=0) nd rfl (Or.inl rfl)) (fun C fp s H=>yR) (fun C fp s H=>vE xZ (zv 0))) zB))),?_⟩
  refine ⟨_,rfl,a,rfl,⟨_,hS⟩,?_⟩
  refine zfP (K:=K) ((ns.map fun n => -n).map PySem.W.Dat.int) hS (by simp) (by rw [List.length_map];exact Nat.le_of_lt (kB hl)) (fun i x H' d hx hd hs=>?_) (fun σ' H2 Q1 Q2 hq h=>?_) (fun D H' ys hs hy hD hf=>?_)
  . rw [List.getElem?_map] at hx hd
    rw [List.getElem?_map] at hd
    cases e:ns[i]? with
    | none=>rw [e] at hx;cases hx
    | some n =>
      rw [e] at hx hd
      cases hx;cases hd
      exact ⟨_,rfl,n,rfl,aH _,.int _⟩
  . obtain ⟨v1,e1,i,e3,q⟩:=h
    exact ⟨v1,e1,i,e3,hq _ _ q⟩
  . refine ⟨D,ys,rfl,.inl ⟨SqL.of hy,fun l hl'=>?_⟩⟩
    refine q l _ (hs.trans (Same.new hl' _)) ?_
    rw [Fzs.ints_inv hf]
    exact zJ
theorem zwS:FnScope ["one","other"] ["one","other"] (zI zgU):=fsK
theorem zqA (F:Fun K "cross_product" "cross_product" zgU f fd) :
  FnOk P w K mg base zW 1 f fd ["one","other"] (zlK K):=by
 refine F.okZ zwS (fun vs H Q E h=>?_) (fun cdv A outer s H vs Q E hr h=>?_)
 ·obtain ⟨x,y,a,b,c,d,e,f,rfl,_⟩:=h;rfl
 obtain ⟨x,y,a,b,c,d,e,f,rfl,hS,hT,ba,bd,q⟩:=h
 refine ⟨_,(zF (zN (zS (xD (zH yI (zH zL (zG zE (zv 0) zA (fun _ _=>rfl)) (zG zE (zv 1) zA (fun _ _=>rfl))) (zH zL (zG zE (zv 0) zA (fun _ _=>rfl)) (zG zE (zv 1) zA (fun _ _=>rfl)))) (xD (zH yI (zH zL (zG zE (zv 0) zA (fun _ _=>rfl)) (zG zE (zv 1) zA (fun _ _=>rfl))) (zH zL (zG zE (zv 0) zA (fun _ _=>rfl)) (zG zE (zv 1) zA (fun _ _=>rfl)))) (xD (zH yI (zH zL (zG zE (zv 0) zA (fun _ _=>rfl)) (zG zE (zv 1) zA (fun _ _=>rfl))) (zH zL (zG zE (zv 0) zA (fun _ _=>rfl)) (zG zE (zv 1) zA (fun _ _=>rfl)))) zB)))))),?_⟩
 have b0:Bt a 4000:=ba a (by simp)
 have b1:Bt b 4000:=ba b (by simp)
 have b2:Bt c 4000:=ba c (by simp)
 have c0:Bt d 4000:=bd d (by simp)
 have c1:Bt e 4000:=bd e (by simp)
 have c2:Bt f 4000:=bd f (by simp)
 refine ⟨_,rfl,x,_,_,_,rfl,rfl,hS,zoU,_,rfl,y,_,_,_,rfl,rfl,hT,ztA,_,_,rfl,rfl,b1.mulOk c2,_,rfl,x,_,_,_,rfl,rfl,hS,ztA,_,rfl,y,_,_,_,rfl,rfl,hT,zoU,_,_,rfl,rfl,b2.mulOk c1,_,_,rfl,rfl,?_⟩
 refine ⟨_,rfl,x,_,_,_,rfl,rfl,hS,ztA,_,rfl,y,_,_,_,rfl,rfl,hT,zoI,_,_,rfl,rfl,b2.mulOk c0,_,rfl,x,_,_,_,rfl,rfl,hS,zoI,_,rfl,y,_,_,_,rfl,rfl,hT,ztA,_,_,rfl,rfl,b0.mulOk c2,_,_,rfl,rfl,?_⟩
 refine ⟨_,rfl,x,_,_,_,rfl,rfl,hS,zoI,_,rfl,y,_,_,_,rfl,rfl,hT,zoU,_,_,rfl,rfl,b0.mulOk c1,_,rfl,x,_,_,_,rfl,rfl,hS,zoU,_,rfl,y,_,_,_,rfl,rfl,hT,zoI,_,_,rfl,rfl,b1.mulOk c0,_,_,rfl,rfl,(by show 3<=sizeLine;decide),fun r k=>?_⟩
 exact q r _ (Same.new k _) zJ
theorem zbL:FnScope ["numbers"] ["numbers"] (zI zaM):=fsK
theorem zhN (F:Fun K "first_filled" "first_filled" zaM f fd) (m_enumerate:mg "enumerate" = none) :
  FnOk P w K mg base zW 1 f fd ["numbers"] (yT K RFF):=by
 refine jM F zbL (fun ds d h=>?_) (fun cdv A0 outer s0 H0 E0 hr=>?_)
 ·obtain ⟨a,b,c,rfl,_⟩:=h;rfl
 refine ⟨_,(zF (zN (zG yQ (yP (own:=["place","number"]) zbL rfl csK (zvA rfl m_enumerate (zO (zv 0) zB)) (fun C fp s H nd=>zkW rfl nd rfl rfl rfl rfl) (fun C fp s H=>zdE (zR jR (zv 1) zA (zT _))) (fun C fp s H=>(zv 0))) zA (fun _ _=>rfl)))),fun ds d h=>?_⟩
 obtain ⟨a,b,c,rfl,nz,rfl⟩:=h
 refine aD (s:=.dat (.int (ff [a,b,c]))) ?_ ⟨rfl,rfl⟩
 have e3:zcA ([a,b,c].map .int)=[.tuple [.int 0,.int a],.tuple [.int 1,.int b],.tuple [.int 2,.int c]]:=rfl
 have mem:∀ x y,Dat.tuple [x,y]∈zcA ([a,b,c].map .int)->∃ i n:Int,x = .int i/\y = .int n:=fun x y h=>by
  rw [e3] at h
  simp only [List.mem_cons,List.mem_nil_iff,or_false,Dat.tuple.injEq,List.cons.injEq,and_true] at h
  rcases h with ⟨rfl,rfl⟩|⟨rfl,rfl⟩|⟨rfl,rfl⟩ <;> exact ⟨_,_,rfl,rfl⟩
 refine aj (ae (E1.compPF (f:=fun x _=>x) (kp:=fun _ y=>match y with | .int n => !decide (n=0)|_=>false) (Wk.enum (ds:=[a,b,c].map .int) (A1.cons (aA rfl) A1.nil)) (fun d hd=>?_) (fun x y h=>?_) (fun x y h _=>aA rfl) (vZ (n:=3) rfl z3))) E1.int ?_
 ·rw [e3] at hd
  simp only [List.mem_cons,List.mem_nil_iff,or_false] at hd
  rcases hd with rfl|rfl|rfl <;> exact ⟨_,_,rfl⟩
 ·obtain ⟨i,n,rfl,rfl⟩:=mem x y h
  exact aC (E1.ne (aA rfl) E1.int)
 ·rw [ff3 nz,e3]
  by_cases ha:a=0
  ·by_cases hb:b=0
   ·have hc:c≠0:=by
     obtain ⟨n,hn,h0⟩:=nz
     simp only [List.mem_cons,List.mem_nil_iff,or_false] at hn
     rcases hn with rfl|rfl|rfl
     ·exact absurd ha h0
     ·exact absurd hb h0
     ·exact h0
    simp [p1,p2,ha,hb,hc];exact jJ (j:=0) rfl
   ·simp [p1,p2,ha,hb];exact jJ (j:=0) rfl
  ·simp [p1,p2,ha];exact jJ (j:=0) rfl
theorem scCM:FnScope ["numbers","multiple","number"] ["numbers"] (zI sCM):=fsK
theorem ygE (F:Fun K "common_multiple" "common_multiple" sCM f fd)
    (G:FnOk P w K mg base zW 1 g gd ["numbers"] (zrS K)) (bG:Binds K gd ["numbers"] []) (kG:PySem.W.keepIn K (.ref g)=true) (mG:mg "common_divisor" = some (.ref g)) :
    FnOk P w K mg base zW 2 f fd ["numbers"] (yaD K):=by
  refine F.okZ scCM (fun vs H Q E h=>?_) (fun cdv A outer s H vs Q E hr h=>?_)
  . obtain ⟨a,bs,C,rfl,_⟩:=h;rfl
  obtain ⟨a,bs,C,rfl,hS,hb,C0,bC,q⟩:=h
  have r:=hr.mono (show 1<=1 by decide)
  refine ⟨_,(zC (zM (i:=1) scCM.nd rfl (Or.inl rfl) zA)
    (zC (wT PassesOwn.never rfl (jA (zv 0)) (yB (i:=2) scCM.nd rfl (Or.inl rfl)) (zF (zM (i:=1) scCM.nd rfl (Or.inl rfl) (zH zL (zH wH (zv 1) (zD G r rfl mG kG bG .nil zK (wR (zS (zO (zv 1) (zO (zv 2) zB))) zB))) (zv 2)))))
    (zF (zN (zv 1))))),?_⟩
  refine ⟨_,rfl,a,rfl,⟨_,hS⟩,ztL (xs:=bs.map V.int) (fun i σ H'=>Same H H'/\∃ (m:Int) (nn:Option V),σ=[some (.ref a),some (.int m),nn]/\0<m/\(∀ b∈bs.take i,b ∣ m)/\m ∣ C)
    ⟨aH _,1,_,rfl,by decide,by simp,Int.one_dvd _⟩ (fun i σ H' _ h=>h.1.seq hS) (fun i x σ H' hx h=>?_) (fun σ H' h=>?_)⟩
  . obtain ⟨s1,m,nn,rfl,m0,md,mC⟩:=h
    rw [List.getElem?_map] at hx
    cases hn:bs[i]? with
    | none=>rw [hn] at hx;cases hx
    | some n =>
      rw [hn] at hx
      cases hx
      obtain ⟨n0,nC⟩:=hb n (List.mem_of_getElem? hn)
      obtain ⟨g0,gl,gb,p0,pm,pn,pC⟩:=zxS m0 n0 C0 mC nC bC
      refine ⟨_,rfl,_,rfl,_,rfl,(by show 2<=sizeLine;decide),fun t ht=>?_⟩
      have s2:=Same.new ht (.tup ([m,n].map V.int))
      refine ⟨t,[m,n],rfl,SqT.of zJ,_,_,rfl,rfl,⟨g0,gl⟩,?_⟩
      refine ⟨_,rfl,_,_,rfl,rfl,gb.mulOk (tT nC C0 bC),s1.trans s2,_,_,rfl,p0,fun b hb'=>?_,pC⟩
      have tk:bs.take (i+1)=bs.take i++[n]:=by rw [List.take_add_one,hn];rfl
      rw [tk] at hb'
      rcases List.mem_append.mp hb' with z|z
      . exact Int.dvd_trans (md b z) pm
      . have:b=n:=by simpa using z
        rw [this];exact pn
  . obtain ⟨s1,m,nn,rfl,m0,md,mC⟩:=h
    rw [List.length_map,List.take_length] at md
    exact ⟨_,rfl,q m _ s1 m0 md mC⟩
theorem scLevN:FnScope ["fractions","bottom"] ["fractions"] (zI ztY):=fsK
theorem zvC (F:Fun K "levelled" "levelled" ztY f fd)
  (G:FnOk P w K mg base zW 2 g gd ["numbers"] (yaD K)) (bG:Binds K gd ["numbers"] []) (kG:PySem.W.keepIn K (.ref g)=true) (mG:mg "common_multiple" = some (.ref g)) (m_tuple:mg "tuple" = none) :
  FnOk P w K mg base zW 3 f fd ["fractions"] (spQ K ztR):=by
 refine okQ F scLevN (fun ds d h=>?_) (fun cdv A0 outer s0 H0 E0 hr=>?_)
 ·obtain ⟨qs,B,c,rfl,_⟩:=h;rfl
 have r:=hr.mono (show 2<=2 by decide)
 refine ⟨_,(zC (zM (i:=1) scLevN.nd rfl (Or.inr rfl) (zD G r rfl mG kG bG .nil zK (zQ (yP (own:=["fraction"]) scLevN rfl csK (vA (zv 0)) (fun C fp s H nd=>yB (i:=0) nd rfl (Or.inl rfl)) (fun C fp s H=>yR) (fun C fp s H=>(zG sO (zv 0) zA (fun _ _=>rfl)))) zB)))
  (zF (zN (zS (wL (yH yF rfl m_tuple (by rfl) (zQ (yP (own:=["fraction"]) scLevN rfl csK (vA (zv 0)) (fun C fp s H nd=>yB (i:=0) nd rfl (Or.inl rfl)) (fun C fp s H=>yR) (fun C fp s H=>(zH zL (zG sO (zv 0) zA (fun _ _=>rfl)) (zH wH (zv 2) (zG sO (zv 0) zA (fun _ _=>rfl)))))) zB)) (zO (zv 1) zB)))))),fun ds C h=>?_⟩
 obtain ⟨qs,B,c,rfl,hl,B0,bB,hc,hq,rfl⟩:=h
 have hz:(qs.map fun q=>tI (qf q)).length<=sizeLine:=by rw [List.length_map];exact Nat.le_trans hl (by decide)
 refine aP (EI.cCM (bs:=qs.map fun q=>(q.den:Int)) (C:=B) (A1.cons (ae (aG (s':=.own ((qs.map fun q=>(q.den:Int)).map .int)) (aU (f:=ygR) (Wk.tup (aA rfl)) (fun dd hd=>?_) hz) (by rw [List.map_map,List.map_map];rfl))) A1.nil) ?_ B0 (bB.up (by omega))) (fun s ⟨_,e,_⟩=>by rw [e];rfl) fun s ⟨L,e,L0,Ld,LC⟩=>?_
 ·obtain ⟨q,hm,rfl⟩:=List.mem_map.mp hd
  rw [yaL]
  exact (aB (aA rfl) E1.int rfl)
 ·intro b hb
  obtain ⟨q,hm,rfl⟩:=List.mem_map.mp hb
  exact ⟨by have:=q.den_pos;omega,(hq q hm).den B0⟩
 subst e
 have bL:Bt L 2900:=(tT LC B0 bB).up hc
 refine aD (s:=.dat (.tuple [tI (qs.map (jB L)),.int L])) (aK (A1.cons (aT (A1.cons (ae (aG (s':=.own ((qs.map (jB L)).map .int)) (aU (f:=yhD L) (Wk.tup (aA rfl)) (fun dd hd=>?_) hz) (by rw [List.map_map,List.map_map];rfl))) A1.nil)) (A1.cons (aA rfl) A1.nil)) rfl (vZ (n:=2) rfl z2)) ⟨_,⟨L,rfl,L0,LC,fun q hm=>Ld _ (List.mem_map.mpr ⟨q,hm,rfl⟩)⟩,rfl,zvU⟩
 obtain ⟨q,hm,rfl⟩:=List.mem_map.mp hd
 rw [yfG]
 have dq:(q.den:Int) ∣ L:=Ld _ (List.mem_map.mpr ⟨q,hm,rfl⟩)
 have q0:0<(q.den:Int):=by have:=q.den_pos;omega
 have lp:=zpG q0 L0 dq (bL.up (by decide))
 rw [Int.fdiv_eq_ediv_of_dvd dq] at lp
 have lq:=(hq q hm)
 have nq:Bt q.num 2900:=((zkH B0 (bB.up hc) (lq.choose_spec.1.up hc) lq.choose_spec.2)).bt
 exact E1.mul (aB (aA rfl) E1.int rfl) (aG (E1.fdiv (i:=L) (j:=(q.den:Int)) (aA rfl) (aB (aA rfl) E1.int rfl) ⟨by omega,(tT dq L0 bL).log (by omega)⟩) (by rw [Int.fdiv_eq_ediv_of_dvd dq])) (nq.mulOk lp.2)
theorem scWholeRoot:FnScope ["number","guess","better"] ["number"] (zI qH):=fsK
theorem zdV (F:Fun K "whole_root" "whole_root" qH f fd) :
  FnOk P w K mg base zW 1 f fd ["number"] (yT K zrO):=by
 refine jM F scWholeRoot (fun ds d h=>?_) (fun cdv A0 outer s0 H0 E0 hr=>?_)
 ·obtain ⟨n,r,rfl,_⟩:=h;rfl
 refine ⟨_,(zC (yM (zR wG (zv 0) zA (zT _)) (zF (zN zA)) zX)
  (zC (zM (i:=1) scWholeRoot.nd rfl (Or.inl rfl) (zH yaO zA (zH wH (zH yD (zmV (zv 0)) zA) zA)))
  (zC (zM (i:=2) scWholeRoot.nd rfl (Or.inl rfl) (zH wH (zH yD (zv 1) (zH wH (zv 0) (zv 1))) zA))
  (zC (zgB PassesOwn.never (zR zoB (zv 2) (zv 1) (zT _)) (zC (zM (i:=1) scWholeRoot.nd rfl (Or.inl rfl) (zv 2))
  (zF (zM (i:=2) scWholeRoot.nd rfl (Or.inl rfl) (zH wH (zH yD (zv 1) (zH wH (zv 0) (zv 1))) zA)))))
  (zF (zN (zv 1))))))),fun ds d h=>?_⟩
 obtain ⟨n,r,rfl,h0,hb,hr,rfl⟩:=h
 refine aW (aC (E1.eq (aA rfl) E1.int)) (fun h=>?_) (fun h=>?_)
 ·have h:n=0:=by simpa using h
  subst h
  have e:=zaE hr (zrR (r:=0) (by decide))
  subst e
  exact aD (s:=.dat (.int 0)) E1.int ⟨rfl,rfl⟩
 have h:n≠0:=by simpa using h
 have np:0<n:=by omega
 have hbl:=zwK np hb
 have hlt:=zyF np
 generalize hB:Builtin.Int.intBits n=B at *
 obtain ⟨G,hG⟩:∃ G:Int,G=2 ^ ((B+1) / 2):=⟨_,rfl⟩
 have Gp:0<G:=by rw [hG];exact zrX _
 have Gn:n<G*G:=by
  rw [hG,yeC]
  exact Int.lt_of_lt_of_le hlt (zuG (by omega))
 have Gb:Bt G 2001:=by
  rw [hG];unfold Bt
  rw [Int.natAbs_pow]
  exact Nat.pow_le_pow_right (by decide) (by omega)
 have dv:∀ {g:Int},0<g->g<=G->zfF n g:=fun {g} h1 h2=>⟨by omega,Bt.log (x:=2001) (show Bt g 2001 by unfold Bt at *;omega) (by omega)⟩
 have ed:∀ {g:Int},0<g->(g+n.fdiv g).fdiv 2=(g+n / g) / 2:=fun {g} h1=>by rw [Int.fdiv_eq_ediv_of_nonneg _ (show (0:Int)<=g by omega),Int.fdiv_eq_ediv_of_nonneg _ (by decide)]
 refine aF (s:=.dat (.int G)) (aG (E1.shl (i:=1) (j:=((B:Int)+1).fdiv 2) E1.int (E1.fdiv (i:=(B:Int)+1) (j:=2) (E1.add (aG (E1.bitlen (aA rfl)) (by rw [hB])) E1.int) E1.int ⟨by decide,by decide⟩) ⟨?_,?_,by decide⟩) ?_) ?_
 ·rw [Int.fdiv_eq_ediv_of_nonneg _ (by decide)];omega
 ·rw [Int.fdiv_eq_ediv_of_nonneg _ (by decide)];omega
 ·rw [hG,Int.fdiv_eq_ediv_of_nonneg _ (by decide),Int.one_mul,show (((B:Int)+1) / 2).toNat=(B+1) / 2 by omega]
 refine aF (s:=.dat (.int ((G+n / G) / 2))) (aG (s:=.dat (.int ((G+n.fdiv G).fdiv 2))) (E1.fdiv (E1.add (aA rfl) (E1.fdiv (aA rfl) (aA rfl) (dv Gp (Int.le_refl _)))) E1.int ⟨by decide,by decide⟩) (by rw [ed Gp])) ?_
 refine S.seq (M:=fun τ'=>∃ o:Sl,τ'=[.dat (.int n),.dat (.int r),o]) ?_ fun τ' ⟨o,eτ⟩=>?_
 ·refine S.while (fun m τ'=>∃ g:Int,τ'=[.dat (.int n),.dat (.int g),.dat (.int ((g+n / g) / 2))]/\0<g/\g<=G/\n<(g+1)*(g+1)/\g.toNat=m) (m0:=G.toNat) ⟨G,rfl,Gp,Int.le_refl _,?_,rfl⟩ (fun m τ1 ⟨g,e1,g0,g1,g2,gm⟩=>?_)
  ·have:(G+1)*(G+1)=G*G+2*G+1:=by grind
   omega
  subst e1
  refine ⟨_,aC (E1.lt (aA rfl) (aA rfl)),fun h=>?_,fun h=>?_⟩
  ·have h:(g+n / g) / 2<g:=by simpa using h
   have nw:=yeF g0 (rfl:n / g=n / g) rfl h0
   have q0:0<=n / g:=Int.ediv_nonneg h0 (by omega)
   generalize hgg:(g+n / g) / 2=g' at *
   have p':0<g':=by
    rcases Int.lt_or_eq_of_le (show 0<=g' by omega) with z|z
    ·exact z
    ·subst z;omega
   refine aF (s:=.dat (.int g')) (aA rfl) ?_
   exact S.asg1 (s:=.dat (.int ((g'+n / g') / 2))) (aG (s:=.dat (.int ((g'+n.fdiv g').fdiv 2))) (E1.fdiv (E1.add (aA rfl) (E1.fdiv (aA rfl) (aA rfl) (dv p' (by omega)))) E1.int ⟨by decide,by decide⟩) (by rw [ed p'])) ⟨g'.toNat,by omega,g',rfl,p',by omega,nw,rfl⟩
  ·have h:g<=(g+n / g) / 2:=by simpa using h
   have e:=zaE hr ⟨by omega,zgA g0 h,g2⟩
   subst e
   exact ⟨_,rfl⟩
 subst eτ
 exact aD (s:=.dat (.int r)) (aA rfl) ⟨rfl,rfl⟩
theorem scExactRoot:FnScope ["number","root"] ["number"] (zI qF):=fsK
theorem zeU (F:Fun K "exact_root" "exact_root" qF f fd)
  (G:FnOk P w K mg base zW 1 g gd ["number"] (yT K zrO)) (bG:Binds K gd ["number"] []) (kG:PySem.W.keepIn K (.ref g)=true) (mG:mg "whole_root" = some (.ref g)) :
  FnOk P w K mg base zW 2 f fd ["number"] (yT K kU):=by
 refine jM F scExactRoot (fun ds d h=>?_) (fun cdv A0 outer s0 H0 E0 hr=>?_)
 ·obtain ⟨n,rfl,_⟩:=h;rfl
 have r:=hr.mono (show 1<=1 by decide)
 refine ⟨_,(zC (zM (i:=1) scExactRoot.nd rfl (Or.inl rfl) (zD G r rfl mG kG bG .nil zK (zO (zv 0) zB)))
  (zF (zN (zdS (zR wG (zH zL (zv 1) (zv 1)) (zv 0) (zT _)) (zv 1) jD)))),fun ds d h=>?_⟩
 obtain ⟨n,rfl,h0,hb,hd⟩:=h
 obtain ⟨r,hr⟩:=zxK n h0
 have br:=zzQ hr hb
 refine aF (s:=.dat (.int r)) (E1.call (R:=zrO) (A1.cons (aA rfl) A1.nil) ⟨n,r,rfl,h0,hb,hr,rfl⟩) ?_
 rcases hd with ⟨t,t0,t1,rfl⟩|⟨hn,rfl⟩
 ·have e:=zaE hr (t1 ▸ zrR t0)
  subst e
  exact aD (s:=.dat (.int r)) (cB ((aC (E1.eq (E1.mul (aA rfl) (aA rfl) (br.mulOk br)) (aA rfl))).eqn (by rw [decide_eq_true t1])) (aA rfl)) ⟨rfl,rfl⟩
 ·exact aD (s:=.dat .none) (cC ((aC (E1.eq (E1.mul (aA rfl) (aA rfl) (br.mulOk br)) (aA rfl))).eqn (by rw [decide_eq_false (hn r)])) E1.non) ⟨rfl,rfl⟩
theorem scPlain:FnScope ["four","lowest"] ["four"] (zI zjG):=fsK
theorem zrJ (F:Fun K "plain" "plain" zjG f fd) (G:FnOk P w K mg base zW 2 g gd ["numbers"] (spT K (fun ns=>(∃ n∈ns,n≠0)/\Sm ns) jO)) (bG:Binds K gd ["numbers"] []) (kG:PySem.W.keepIn K (.ref g)=true) (mG:mg "reduced" = some (.ref g))
  (G2:FnOk P w K mg base zW 1 g2 gd2 ["numbers"] (spT K (fun _=>True) (fun ns=>ns.map fun n => -n))) (bG2:Binds K gd2 ["numbers"] []) (kG2:PySem.W.keepIn K (.ref g2)=true) (mG2:mg "negated" = some (.ref g2)) :
  FnOk P w K mg base zW 3 f fd ["four"] (spT K xM pl):=by
 refine F.okZ scPlain (fun vs H Q E h=>?_) (fun cdv A outer s H vs Q E hr h=>?_)
 ·obtain ⟨a,ns,rfl,_⟩:=h;rfl
 obtain ⟨a,ns,rfl,hS,hl,⟨h4,hnz,hsm⟩,q⟩:=h
 refine ⟨_,zC (zM (i:=1) scPlain.nd rfl (Or.inl rfl) (zD G hr rfl mG kG bG .nil zK (zQ (zv 0) zB)))
  (zC (yM (zR (ybM hr.units0) (zv 1) (zS (zQ zA (zQ zA (zQ zA (zQ zA zB))))) (zT _)) (zF (zN (zD G2 (hr.mono (by decide)) rfl mG2 kG2 bG2 .nil zK (zQ (zv 1) zB)))) zX)
  (zF (zN (zv 1)))),?_⟩
 refine ⟨_,rfl,a,ns,rfl,hS,hl,⟨hnz,hsm⟩,fun r H1 s1 h1=>?_⟩
 refine ⟨_,rfl,(by show 4<=sizeLine;decide),fun p hp=>?_⟩
 have s2:Same H1 (upd H1 p (.tup [.int 0,.int 0,.int 0,.int 0])):=Same.new hp _
 refine ⟨r,p,jO ns,[0,0,0,0],rfl,rfl,SqT.of (s2 _ _ h1),SqT.of zJ,_,rfl,?_⟩
 have hl4:(jO ns).length=4:=by unfold jO;rw [List.length_map];exact h4
 have lx:HT.lexLt (jO ns) [0,0,0,0]=decide (xW (jO ns)<0):=zgO (n:=4) hl4
 rw [lx]
 have pe:=zrD hnz
 refine zeQ (fun c=>?_) (fun c=>?_)
 ·rw [if_pos (of_decide_eq_true c)] at pe
  refine ⟨_,rfl,r,jO ns,rfl,SqT.of (s2 _ _ h1),by omega,trivial,fun r2 H2 s3 h2=>?_⟩
  exact q r2 H2 (s1.trans (s2.trans s3)) (by rw [<- pe];exact h2)
 ·rw [if_neg (fun z=>c (decide_eq_true z))] at pe
  exact ⟨_,rfl,q r _ (s1.trans s2) (by rw [<- pe];exact s2 _ _ h1)⟩
theorem yeR:FnScope ["four"] ["four"] (zI zrE):=fsK
theorem zwO (F:Fun K "size" "size" zrE f fd) (G:FnOk P w K mg base zW 1 g gd ["one","other"] (zfS K)) (bG:Binds K gd ["one","other"] []) (kG:PySem.W.keepIn K (.ref g)=true) (mG:mg "sum_of_products" = some (.ref g)):FnOk P w K mg base zW 2 f fd ["four"] (kX K):=by
 refine F.okZ yeR (fun vs H Q E h=>?_) (fun cdv A outer s H vs Q E hr h=>?_)
 ·obtain ⟨a,ns,rfl,_⟩:=h;rfl
 obtain ⟨a,ns,rfl,hS,hl,sm,q⟩:=h
 refine ⟨_,zF (zN (zD G hr rfl mG kG bG .nil zK (zQ (zv 0) (zQ (zv 0) zB)))),?_⟩
 exact ⟨_,rfl,_,rfl,a,a,ns,ns,rfl,hS,hS,hl,rfl,sm,sm,q⟩
theorem yeN:FnScope ["one","other"] ["one","other"] (zI zrH):=fsK
theorem zuN (F:Fun K "product" "product" zrH f fd) :
  FnOk P w K mg base zW 1 f fd ["one","other"] (sp2 K qm):=by
 refine F.okZ yeN (fun vs H Q E h=>?_) (fun cdv A outer s H vs Q E hr h=>?_)
 ·obtain ⟨x,y,ns,ms,rfl,_⟩:=h;rfl
 obtain ⟨x,y,ns,ms,rfl,hS,hT,l1,l2,s1,s2,q⟩:=h
 obtain ⟨a,b,c,d,rfl⟩:=zU l1
 obtain ⟨e,f,g,i,rfl⟩:=zU l2
 refine ⟨_,(zF (zN (zS (xD (zH yI (zH yI (zH yI (zH zL (zG zE (zv 0) zA (fun _ _=>rfl)) (zG zE (zv 1) zA (fun _ _=>rfl))) (zH zL (zG zE (zv 0) zA (fun _ _=>rfl)) (zG zE (zv 1) zA (fun _ _=>rfl)))) (zH zL (zG zE (zv 0) zA (fun _ _=>rfl)) (zG zE (zv 1) zA (fun _ _=>rfl)))) (zH zL (zG zE (zv 0) zA (fun _ _=>rfl)) (zG zE (zv 1) zA (fun _ _=>rfl)))) (xD (zH yI (zH yD (zH yD (zH zL (zG zE (zv 0) zA (fun _ _=>rfl)) (zG zE (zv 1) zA (fun _ _=>rfl))) (zH zL (zG zE (zv 0) zA (fun _ _=>rfl)) (zG zE (zv 1) zA (fun _ _=>rfl)))) (zH zL (zG zE (zv 0) zA (fun _ _=>rfl)) (zG zE (zv 1) zA (fun _ _=>rfl)))) (zH zL (zG zE (zv 0) zA (fun _ _=>rfl)) (zG zE (zv 1) zA (fun _ _=>rfl)))) (xD (zH yD (zH yD (zH yI (zH zL (zG zE (zv 0) zA (fun _ _=>rfl)) (zG zE (zv 1) zA (fun _ _=>rfl))) (zH zL (zG zE (zv 0) zA (fun _ _=>rfl)) (zG zE (zv 1) zA (fun _ _=>rfl)))) (zH zL (zG zE (zv 0) zA (fun _ _=>rfl)) (zG zE (zv 1) zA (fun _ _=>rfl)))) (zH zL (zG zE (zv 0) zA (fun _ _=>rfl)) (zG zE (zv 1) zA (fun _ _=>rfl)))) (xD (zH yD (zH yI (zH yD (zH zL (zG zE (zv 0) zA (fun _ _=>rfl)) (zG zE (zv 1) zA (fun _ _=>rfl))) (zH zL (zG zE (zv 0) zA (fun _ _=>rfl)) (zG zE (zv 1) zA (fun _ _=>rfl)))) (zH zL (zG zE (zv 0) zA (fun _ _=>rfl)) (zG zE (zv 1) zA (fun _ _=>rfl)))) (zH zL (zG zE (zv 0) zA (fun _ _=>rfl)) (zG zE (zv 1) zA (fun _ _=>rfl)))) zB))))))),?_⟩
 refine ⟨_,rfl,x,_,_,_,rfl,rfl,hS,sL,_,rfl,y,_,_,_,rfl,rfl,hT,sL,_,_,rfl,rfl,wU s1 s2 (by simp) (by simp),_,rfl,x,_,_,_,rfl,rfl,hS,zaV,_,rfl,y,_,_,_,rfl,rfl,hT,zaV,_,_,rfl,rfl,wU s1 s2 (by simp) (by simp),_,_,rfl,rfl,_,rfl,x,_,_,_,rfl,rfl,hS,zaZ,_,rfl,y,_,_,_,rfl,rfl,hT,zaZ,_,_,rfl,rfl,wU s1 s2 (by simp) (by simp),_,_,rfl,rfl,_,rfl,x,_,_,_,rfl,rfl,hS,zaX,_,rfl,y,_,_,_,rfl,rfl,hT,zaX,_,_,rfl,rfl,wU s1 s2 (by simp) (by simp),_,_,rfl,rfl,?_⟩
 refine ⟨_,rfl,x,_,_,_,rfl,rfl,hS,sL,_,rfl,y,_,_,_,rfl,rfl,hT,zaV,_,_,rfl,rfl,wU s1 s2 (by simp) (by simp),_,rfl,x,_,_,_,rfl,rfl,hS,zaV,_,rfl,y,_,_,_,rfl,rfl,hT,sL,_,_,rfl,rfl,wU s1 s2 (by simp) (by simp),_,_,rfl,rfl,_,rfl,x,_,_,_,rfl,rfl,hS,zaZ,_,rfl,y,_,_,_,rfl,rfl,hT,zaX,_,_,rfl,rfl,wU s1 s2 (by simp) (by simp),_,_,rfl,rfl,_,rfl,x,_,_,_,rfl,rfl,hS,zaX,_,rfl,y,_,_,_,rfl,rfl,hT,zaZ,_,_,rfl,rfl,wU s1 s2 (by simp) (by simp),_,_,rfl,rfl,?_⟩
 refine ⟨_,rfl,x,_,_,_,rfl,rfl,hS,sL,_,rfl,y,_,_,_,rfl,rfl,hT,zaZ,_,_,rfl,rfl,wU s1 s2 (by simp) (by simp),_,rfl,x,_,_,_,rfl,rfl,hS,zaV,_,rfl,y,_,_,_,rfl,rfl,hT,zaX,_,_,rfl,rfl,wU s1 s2 (by simp) (by simp),_,_,rfl,rfl,_,rfl,x,_,_,_,rfl,rfl,hS,zaZ,_,rfl,y,_,_,_,rfl,rfl,hT,sL,_,_,rfl,rfl,wU s1 s2 (by simp) (by simp),_,_,rfl,rfl,_,rfl,x,_,_,_,rfl,rfl,hS,zaX,_,rfl,y,_,_,_,rfl,rfl,hT,zaV,_,_,rfl,rfl,wU s1 s2 (by simp) (by simp),_,_,rfl,rfl,?_⟩
 refine ⟨_,rfl,x,_,_,_,rfl,rfl,hS,sL,_,rfl,y,_,_,_,rfl,rfl,hT,zaX,_,_,rfl,rfl,wU s1 s2 (by simp) (by simp),_,rfl,x,_,_,_,rfl,rfl,hS,zaV,_,rfl,y,_,_,_,rfl,rfl,hT,zaZ,_,_,rfl,rfl,wU s1 s2 (by simp) (by simp),_,_,rfl,rfl,_,rfl,x,_,_,_,rfl,rfl,hS,zaZ,_,rfl,y,_,_,_,rfl,rfl,hT,zaV,_,_,rfl,rfl,wU s1 s2 (by simp) (by simp),_,_,rfl,rfl,_,rfl,x,_,_,_,rfl,rfl,hS,zaX,_,rfl,y,_,_,_,rfl,rfl,hT,sL,_,_,rfl,rfl,wU s1 s2 (by simp) (by simp),_,_,rfl,rfl,?_⟩
 refine ⟨(by show 4<=sizeLine;decide),fun r hr'=>q r _ (Same.new hr' _) zJ⟩
theorem yaQ:FnScope ["one","other"] ["one","other"] (zI zoZ):=fsK
theorem zxO (F:Fun K "then" "then" zoZ f fd)
  (G:FnOk P w K mg base zW 3 g gd ["four"] (spT K xM pl)) (bG:Binds K gd ["four"] []) (kG:PySem.W.keepIn K (.ref g)=true) (mG:mg "plain" = some (.ref g))
  (G2:FnOk P w K mg base zW 1 g2 gd2 ["one","other"] (sp2 K qm)) (bG2:Binds K gd2 ["one","other"] []) (kG2:PySem.W.keepIn K (.ref g2)=true) (mG2:mg "product" = some (.ref g2)) :
  FnOk P w K mg base zW 4 f fd ["one","other"] (rV K):=by
 refine F.okZ yaQ (fun vs H Q E h=>?_) (fun cdv A outer s H vs Q E hr h=>?_)
 ·obtain ⟨x,y,ns,ms,rfl,_⟩:=h;rfl
 obtain ⟨x,y,ns,ms,rfl,hS,hT,l1,l2,z1,z2,b1,b2,q⟩:=h
 have r:=hr.mono (show 3<=3 by decide)
 have r2:=hr.mono (show 1<=3 by decide)
 refine ⟨_,(zF (zN (zD G r rfl mG kG bG .nil zK (wL (zD G2 r2 rfl mG2 kG2 bG2 .nil zK (zO (zv 1) (zO (zv 0) zB))) zB)))),?_⟩
 refine ⟨_,rfl,_,rfl,y,x,ms,ns,rfl,hT,hS,l2,l1,zoM b2,zoM b1,fun p H1 t1 h1=>?_⟩
 refine ⟨p,_,rfl,SqT.of h1,by rw [xB l2 l1];decide,⟨xB l2 l1,vL l2 l1 z2 z1,zgI (sH l2 l1 b2 b1) zuT⟩,fun p2 H2 t2 h2=>?_⟩
 exact q p2 H2 (t1.trans t2) h2
theorem yeD:FnScope ["four"] ["four"] (zI zqN):=fsK
theorem zvI (F:Fun K "back" "back" zqN f fd)
  (G:FnOk P w K mg base zW 3 g gd ["four"] (spT K xM pl)) (bG:Binds K gd ["four"] []) (kG:PySem.W.keepIn K (.ref g)=true) (mG:mg "plain" = some (.ref g)) :
  FnOk P w K mg base zW 4 f fd ["four"] (spT K xM (fun ns=>pl (cj ns))):=by
 refine F.okZ yeD (fun vs H Q E h=>?_) (fun cdv A outer s H vs Q E hr h=>?_)
 ·obtain ⟨x,ns,rfl,_⟩:=h;rfl
 obtain ⟨x,ns,rfl,hS,hl,⟨l4,nz,sm⟩,q⟩:=h
 obtain ⟨a,b,c,d,rfl⟩:=zU l4
 have r:=hr.mono (show 3<=3 by decide)
 refine ⟨_,(zF (zN (zD G r rfl mG kG bG .nil zK (wR (zS (xI (zG zE (zv 0) zA (fun _ _=>rfl)) (sJ (vE xZ (zG zE (zv 0) zA (fun _ _=>rfl))) (sJ (vE xZ (zG zE (zv 0) zA (fun _ _=>rfl))) (sJ (vE xZ (zG zE (zv 0) zA (fun _ _=>rfl))) zB))))) zB)))),?_⟩
 refine ⟨_,rfl,x,_,_,_,rfl,rfl,hS,sL,_,rfl,x,_,_,_,rfl,rfl,hS,zaV,_,rfl,_,rfl,x,_,_,_,rfl,rfl,hS,zaZ,_,rfl,_,rfl,x,_,_,_,rfl,rfl,hS,zaX,_,rfl,(by show 4<=sizeLine;decide),fun p hp=>?_⟩
 have t1:=Same.new hp (.tup ((cj [a,b,c,d]).map V.int))
 refine ⟨p,cj [a,b,c,d],rfl,SqT.of zJ,(by show 4<=1000;decide),⟨rfl,rJ rfl nz,fun n hn=>?_⟩,fun p2 H2 t2 h2=>q p2 H2 (t1.trans t2) h2⟩
 have h1:=sm a (by simp)
 have h2:=sm b (by simp)
 have h3:=sm c (by simp)
 have h4:=sm d (by simp)
 simp only [cj,List.mem_cons,List.mem_nil_iff,or_false] at hn
 rcases hn with rfl|rfl|rfl|rfl
 ·exact h1
 ·rw [Int.natAbs_neg];exact h2
 ·rw [Int.natAbs_neg];exact h3
 ·rw [Int.natAbs_neg];exact h4
theorem scWT:FnScope ["four","w","x","y","z"] ["four"] (zI sWT):=fsK
theorem ygW (F:Fun K "whole_table" "whole_table" sWT f fd) :
  FnOk P w K mg base zW 1 f fd ["four"] (zwH K):=by
 refine F.okZ scWT (fun vs H Q E h=>?_) (fun cdv A outer s H vs Q E hr h=>?_)
 ·obtain ⟨x,a,b,c,d,rfl,_⟩:=h;rfl
 obtain ⟨x,a,b,c,d,rfl,hS,hB,q⟩:=h
 refine ⟨_,(zC (zM (i:=1) scWT.nd rfl (Or.inl rfl) (zG zE (zv 0) zA (fun _ _=>rfl)) vP)
  (zC (zM (i:=2) scWT.nd rfl (Or.inl rfl) (zG zE (zv 0) zA (fun _ _=>rfl)) vP)
  (zC (zM (i:=3) scWT.nd rfl (Or.inl rfl) (zG zE (zv 0) zA (fun _ _=>rfl)) vP)
  (zC (zM (i:=4) scWT.nd rfl (Or.inl rfl) (zG zE (zv 0) zA (fun _ _=>rfl)) vP)
  (zF (zN (zS (wR (zS (xD (zH yI (zH yI (zH yD (zH zL (zv 1) (zv 1)) (zH zL (zv 2) (zv 2))) (zH zL (zv 3) (zv 3))) (zH zL (zv 4) (zv 4))) (xD (zH zL zA (zH yI (zH zL (zv 2) (zv 3)) (zH zL (zv 1) (zv 4)))) (xD (zH zL zA (zH yD (zH zL (zv 2) (zv 4)) (zH zL (zv 1) (zv 3)))) zB)))) (wR (zS (xD (zH zL zA (zH yD (zH zL (zv 2) (zv 3)) (zH zL (zv 1) (zv 4)))) (xD (zH yI (zH yD (zH yI (zH zL (zv 1) (zv 1)) (zH zL (zv 2) (zv 2))) (zH zL (zv 3) (zv 3))) (zH zL (zv 4) (zv 4))) (xD (zH zL zA (zH yI (zH zL (zv 3) (zv 4)) (zH zL (zv 1) (zv 2)))) zB)))) (wR (zS (xD (zH zL zA (zH yI (zH zL (zv 2) (zv 4)) (zH zL (zv 1) (zv 3)))) (xD (zH zL zA (zH yD (zH zL (zv 3) (zv 4)) (zH zL (zv 1) (zv 2)))) (xD (zH yD (zH yI (zH yI (zH zL (zv 1) (zv 1)) (zH zL (zv 2) (zv 2))) (zH zL (zv 3) (zv 3))) (zH zL (zv 4) (zv 4))) zB)))) zB)))))))))),?_⟩
 have ha:Bt a 1000:=hB a (by simp)
 have hb:Bt b 1000:=hB b (by simp)
 have hc:Bt c 1000:=hB c (by simp)
 have hd:Bt d 1000:=hB d (by simp)
 refine ⟨_,rfl,x,_,_,_,rfl,rfl,hS,sL,?_⟩
 refine ⟨_,rfl,x,_,_,_,rfl,rfl,hS,zaV,?_⟩
 refine ⟨_,rfl,x,_,_,_,rfl,rfl,hS,zaZ,?_⟩
 refine ⟨_,rfl,x,_,_,_,rfl,rfl,hS,zaX,?_⟩
 dsimp only [yK]
 show ziW _ _ [some (.ref x),some (.int a),some (.int b),some (.int c),some (.int d)] _
 refine ⟨_,rfl,_,rfl,_,_,rfl,rfl,ha.mulOk ha,_,rfl,_,rfl,_,_,rfl,rfl,hb.mulOk hb,_,_,rfl,rfl,_,rfl,_,rfl,_,_,rfl,rfl,hc.mulOk hc,_,_,rfl,rfl,_,rfl,_,rfl,_,_,rfl,rfl,hd.mulOk hd,_,_,rfl,rfl,_,rfl,_,rfl,_,_,rfl,rfl,hb.mulOk hc,_,rfl,_,rfl,_,_,rfl,rfl,ha.mulOk hd,_,_,rfl,rfl,_,_,rfl,rfl,two1.mulOk ((hb.mul hc).sub (ha.mul hd)),_,rfl,_,rfl,_,_,rfl,rfl,hb.mulOk hd,_,rfl,_,rfl,_,_,rfl,rfl,ha.mulOk hc,_,_,rfl,rfl,_,_,rfl,rfl,two1.mulOk ((hb.mul hd).add (ha.mul hc)),(by show 3<=sizeLine;decide),fun p1 e1=>?_⟩
 refine ⟨_,rfl,_,rfl,_,_,rfl,rfl,hb.mulOk hc,_,rfl,_,rfl,_,_,rfl,rfl,ha.mulOk hd,_,_,rfl,rfl,_,_,rfl,rfl,two1.mulOk ((hb.mul hc).add (ha.mul hd)),_,rfl,_,rfl,_,_,rfl,rfl,ha.mulOk ha,_,rfl,_,rfl,_,_,rfl,rfl,hb.mulOk hb,_,_,rfl,rfl,_,rfl,_,rfl,_,_,rfl,rfl,hc.mulOk hc,_,_,rfl,rfl,_,rfl,_,rfl,_,_,rfl,rfl,hd.mulOk hd,_,_,rfl,rfl,_,rfl,_,rfl,_,_,rfl,rfl,hc.mulOk hd,_,rfl,_,rfl,_,_,rfl,rfl,ha.mulOk hb,_,_,rfl,rfl,_,_,rfl,rfl,two1.mulOk ((hc.mul hd).sub (ha.mul hb)),(by show 3<=sizeLine;decide),fun p2 e2=>?_⟩
 refine ⟨_,rfl,_,rfl,_,_,rfl,rfl,hb.mulOk hd,_,rfl,_,rfl,_,_,rfl,rfl,ha.mulOk hc,_,_,rfl,rfl,_,_,rfl,rfl,two1.mulOk ((hb.mul hd).sub (ha.mul hc)),_,rfl,_,rfl,_,_,rfl,rfl,hc.mulOk hd,_,rfl,_,rfl,_,_,rfl,rfl,ha.mulOk hb,_,_,rfl,rfl,_,_,rfl,rfl,two1.mulOk ((hc.mul hd).add (ha.mul hb)),_,rfl,_,rfl,_,_,rfl,rfl,ha.mulOk ha,_,rfl,_,rfl,_,_,rfl,rfl,hb.mulOk hb,_,_,rfl,rfl,_,rfl,_,rfl,_,_,rfl,rfl,hc.mulOk hc,_,_,rfl,rfl,_,rfl,_,rfl,_,_,rfl,rfl,hd.mulOk hd,_,_,rfl,rfl,(by show 3<=sizeLine;decide),fun p3 e3=>?_⟩
 refine ⟨(by show 3<=sizeLine;decide),fun r e4=>?_⟩
 have s1:=Same.new e1 (.tup ((rw1 a b c d).map V.int))
 have s2:=Same.new e2 (.tup ((rw2 a b c d).map V.int))
 have s3:=Same.new e3 (.tup ((rw3 a b c d).map V.int))
 have s4:=Same.new e4 (.tup [.ref p1,.ref p2,.ref p3])
 exact q r _ (s1.trans (s2.trans (s3.trans s4))) ⟨p1,p2,p3,zJ,s4 _ _ (s3 _ _ (s2 _ _ zJ)),s4 _ _ (s3 _ _ zJ),s4 _ _ zJ⟩
theorem scTableOf:FnScope ["four","bottom"] ["four"] (zI rZ):=fsK
theorem zhF (F:Fun K "table_of" "table_of" rZ f fd)
  (G:FnOk P w K mg base zW 2 g gd ["four"] (kX K)) (bG:Binds K gd ["four"] []) (kG:PySem.W.keepIn K (.ref g)=true) (mG:mg "size" = some (.ref g))
  (G2:FnOk P w K mg base zW 1 g2 gd2 ["four"] (zwH K)) (bG2:Binds K gd2 ["four"] []) (kG2:PySem.W.keepIn K (.ref g2)=true) (mG2:mg "whole_table" = some (.ref g2))
  (G3:FnOk P w K mg base zW 3 g3 gd3 ["level"] (zzW K)) (bG3:Binds K gd3 ["level"] []) (kG3:PySem.W.keepIn K (.ref g3)=true) (mG3:mg "lowered" = some (.ref g3)) (m_tuple:mg "tuple" = none) :
  FnOk P w K mg base zW 4 f fd ["four"] (zeN K):=by
 refine F.okZ scTableOf (fun vs H Q E h=>?_) (fun cdv A outer s H vs Q E hr h=>?_)
 ·obtain ⟨x,a,b,c,d,rfl,_⟩:=h;rfl
 obtain ⟨x,a,b,c,d,rfl,hS,hz,hB,q⟩:=h
 have r:=hr.mono (show 2<=3 by decide)
 have r2:=hr.mono (show 1<=3 by decide)
 have r3:=hr.mono (show 3<=3 by decide)
 refine ⟨_,(zC (zM (i:=1) scTableOf.nd rfl (Or.inr rfl) (zD G r rfl mG kG bG .nil zK (zO (zv 0) zB)))
  (zF (zN (yH yF rfl m_tuple (by rfl) (zQ (yP (own:=["row"]) scTableOf rfl csK (vA (zD G2 r2 rfl mG2 kG2 bG2 .nil zK (zO (zv 0) zB))) (fun C fp s H nd=>yB (i:=0) nd rfl (Or.inl rfl)) (fun C fp s H=>yR) (fun C fp s H=>(zD G3 r3 rfl mG3 kG3 bG3 .nil zK (wR (zS (zO (zv 0) (zO (zv 2) zB))) zB)))) zB))))),?_⟩
 obtain ⟨R1,R2,R3⟩:=zwU hB
 have np:=yW (ns:=[a,b,c,d]) rfl hz
 refine ⟨_,rfl,x,[a,b,c,d],rfl,hS,(by show 4<=1000;decide),bts (k:=1000) (fun n hn=>hB n hn),fun H1 s1=>?_⟩
 refine ⟨_,rfl,x,a,b,c,d,rfl,s1.tup hS,hB,fun w H2 s2 hw=>?_⟩
 obtain ⟨w1,w2,w3,hw0,hw1,hw2,hw3⟩:=hw.ex
 refine ⟨w,rfl,⟨_,SqT.of hw0⟩,?_⟩
 refine zgG (zkV (SqT.of (K:=K) hw0)) (show 3<=sizeLine by decide) (fun i v H'=>∃ p,v = .ref p/\match i with|0=>Pt H' p (fr (a*a+b*b - c*c - d*d) (yU [a,b,c,d])) (fr (2*(b*c - a*d)) (yU [a,b,c,d])) (fr (2*(b*d+a*c)) (yU [a,b,c,d]))|1=>Pt H' p (fr (2*(b*c+a*d)) (yU [a,b,c,d])) (fr (a*a - b*b+c*c - d*d) (yU [a,b,c,d])) (fr (2*(c*d - a*b)) (yU [a,b,c,d]))|_=>Pt H' p (fr (2*(b*d - a*c)) (yU [a,b,c,d])) (fr (2*(c*d+a*b)) (yU [a,b,c,d])) (fr (a*a - b*b - c*c+d*d) (yU [a,b,c,d]))) (fun i v H H' nl h=>?_) (fun i x hx H' s R k=>?_) fun D H3 ys s3 hD _ hl hp=>?_
 ·obtain ⟨p,e,h⟩:=h
  refine ⟨p,e,?_⟩
  match i,h with
  | 0,h=>exact h.nl nl
  | 1,h=>exact h.nl nl
  | _+2,h=>exact h.nl nl
 ·rcases zjH hx with ⟨rfl,rfl⟩|⟨rfl,rfl⟩|⟨rfl,rfl⟩
  ·refine ⟨_,rfl,_,rfl,(by show 2<=sizeLine;decide),fun t ht=>?_⟩
   have s5:=Same.new ht (.tup [.ref w1,.int (wX [a,b,c,d] [a,b,c,d])])
   refine ⟨t,w1,a*a+b*b - c*c - d*d,2*(b*c - a*d),2*(b*d+a*c),wX [a,b,c,d] [a,b,c,d],rfl,zJ,s5 _ _ (s _ _ hw1),by rw [tP];exact np,(R1 _ (by simp [rw1])).up (by decide),(R1 _ (by simp [rw1])).up (by decide),(R1 _ (by simp [rw1])).up (by decide),by rw [tP];exact (zaS hB).up (by decide),fun u H6 s6 h6=>?_⟩
   rw [tP] at h6
   exact k _ _ (s5.trans s6) ⟨u,rfl,h6⟩
  ·refine ⟨_,rfl,_,rfl,(by show 2<=sizeLine;decide),fun t ht=>?_⟩
   have s5:=Same.new ht (.tup [.ref w2,.int (wX [a,b,c,d] [a,b,c,d])])
   refine ⟨t,w2,2*(b*c+a*d),a*a - b*b+c*c - d*d,2*(c*d - a*b),wX [a,b,c,d] [a,b,c,d],rfl,zJ,s5 _ _ (s _ _ hw2),by rw [tP];exact np,(R2 _ (by simp [rw2])).up (by decide),(R2 _ (by simp [rw2])).up (by decide),(R2 _ (by simp [rw2])).up (by decide),by rw [tP];exact (zaS hB).up (by decide),fun u H6 s6 h6=>?_⟩
   rw [tP] at h6
   exact k _ _ (s5.trans s6) ⟨u,rfl,h6⟩
  ·refine ⟨_,rfl,_,rfl,(by show 2<=sizeLine;decide),fun t ht=>?_⟩
   have s5:=Same.new ht (.tup [.ref w3,.int (wX [a,b,c,d] [a,b,c,d])])
   refine ⟨t,w3,2*(b*d - a*c),2*(c*d+a*b),a*a - b*b - c*c+d*d,wX [a,b,c,d] [a,b,c,d],rfl,zJ,s5 _ _ (s _ _ hw3),by rw [tP];exact np,(R3 _ (by simp [rw3])).up (by decide),(R3 _ (by simp [rw3])).up (by decide),(R3 _ (by simp [rw3])).up (by decide),by rw [tP];exact (zaS hB).up (by decide),fun u H6 s6 h6=>?_⟩
   rw [tP] at h6
   exact k _ _ (s5.trans s6) ⟨u,rfl,h6⟩
 ·obtain ⟨y1,y2,y3,rfl⟩:=qP hl
  obtain ⟨p1,rfl,h1⟩:=hp 0 y1 rfl
  obtain ⟨p2,rfl,h2⟩:=hp 1 y2 rfl
  obtain ⟨p3,rfl,h3⟩:=hp 2 y3 rfl
  refine ⟨D,_,rfl,.inl ⟨SqL.of hD,fun u hu=>?_⟩⟩
  have s4:=Same.new hu (.tup [.ref p1,.ref p2,.ref p3])
  exact q u _ (s1.trans (s2.trans (s3.trans s4))) ⟨p1,p2,p3,zJ,Pt.same h1 s4,Pt.same h2 s4,Pt.same h3 s4⟩
theorem scOnlyV:FnScope ["table","level","tops","bottom","wx","wy","wz","xy","xz","yz","rows"] ["table"] (zI zhY):=fsK
theorem znW (F:Fun K "only_four" "only_four" zhY f fd)
  (G:FnOk P w K mg base zW 3 g gd ["fractions"] (spQ K ztR)) (bG:Binds K gd ["fractions"] []) (kG:PySem.W.keepIn K (.ref g)=true) (mG:mg "levelled" = some (.ref g)) :
  FnOk P w K mg base zW 4 f fd ["table"] (spQ K zaB):=by
 refine okQ F scOnlyV (fun ds d h=>?_) (fun cdv A0 outer s0 H0 E0 hr=>?_)
 ·obtain ⟨a,b,d,rfl,_⟩:=h;rfl
 have r:=hr.mono (show 3<=3 by decide)
 refine ⟨_,(zC (zM (i:=1) scOnlyV.nd rfl (Or.inl rfl) (zD G r rfl mG kG bG .nil zK (xD (zH zeP (zH zeP (zG zE (zv 0) zA (fun _ _=>rfl)) (zG zE (zv 0) zA (fun _ _=>rfl))) (zG zE (zv 0) zA (fun _ _=>rfl))) zB)))
  (zC (zM (i:=2) scOnlyV.nd rfl (Or.inl rfl) (zG zE (zv 1) zA (fun _ _=>rfl)) vP)
  (zC (zM (i:=3) scOnlyV.nd rfl (Or.inl rfl) (zG zE (zv 1) zA (fun _ _=>rfl)) vP)
  (zC (zM (i:=4) scOnlyV.nd rfl (Or.inl rfl) (zH yI (zG zE (zv 2) zA (fun _ _=>rfl)) (zG zE (zv 2) zA (fun _ _=>rfl))))
  (zC (zM (i:=5) scOnlyV.nd rfl (Or.inl rfl) (zH yI (zG zE (zv 2) zA (fun _ _=>rfl)) (zG zE (zv 2) zA (fun _ _=>rfl))))
  (zC (zM (i:=6) scOnlyV.nd rfl (Or.inl rfl) (zH yI (zG zE (zv 2) zA (fun _ _=>rfl)) (zG zE (zv 2) zA (fun _ _=>rfl))))
  (zC (zM (i:=7) scOnlyV.nd rfl (Or.inl rfl) (zH yD (zG zE (zv 2) zA (fun _ _=>rfl)) (zG zE (zv 2) zA (fun _ _=>rfl))))
  (zC (zM (i:=8) scOnlyV.nd rfl (Or.inl rfl) (zH yD (zG zE (zv 2) zA (fun _ _=>rfl)) (zG zE (zv 2) zA (fun _ _=>rfl))))
  (zC (zM (i:=9) scOnlyV.nd rfl (Or.inl rfl) (zH yD (zG zE (zv 2) zA (fun _ _=>rfl)) (zG zE (zv 2) zA (fun _ _=>rfl))))
  (zC (zM (i:=10) scOnlyV.nd rfl (Or.inl rfl) (zS (wR (zS (xD (zH yD (zH yD (zH yD (zv 3) (zG zE (zv 2) zA (fun _ _=>rfl))) (zG zE (zv 2) zA (fun _ _=>rfl))) (zG zE (zv 2) zA (fun _ _=>rfl))) (zO (zv 4) (zO (zv 5) (zO (zv 6) zB))))) (wR (zS (zO (zv 4) (xD (zH yI (zH yI (zH yD (zv 3) (zG zE (zv 2) zA (fun _ _=>rfl))) (zG zE (zv 2) zA (fun _ _=>rfl))) (zG zE (zv 2) zA (fun _ _=>rfl))) (zO (zv 7) (zO (zv 8) zB))))) (wR (zS (zO (zv 5) (zO (zv 7) (xD (zH yI (zH yD (zH yI (zv 3) (zG zE (zv 2) zA (fun _ _=>rfl))) (zG zE (zv 2) zA (fun _ _=>rfl))) (zG zE (zv 2) zA (fun _ _=>rfl))) (zO (zv 9) zB))))) (wR (zS (zO (zv 6) (zO (zv 8) (zO (zv 9) (xD (zH yD (zH yI (zH yI (zv 3) (zG zE (zv 2) zA (fun _ _=>rfl))) (zG zE (zv 2) zA (fun _ _=>rfl))) (zG zE (zv 2) zA (fun _ _=>rfl))) zB))))) zB))))))
  (zF (zN (zG yQ (yP (own:=["row"]) scOnlyV rfl csK (vA (zv 10)) (fun C fp s H nd=>yB (i:=0) nd rfl (Or.inl rfl)) (fun C fp s H=>zdE (zR (zxL hr.units) (zv 0) (zS (yC (yC (yC (yC zB))))) (zT _))) (fun C fp s H=>(zv 0))) zA (fun _ _=>rfl)))))))))))))),fun ds C h=>?_⟩
 obtain ⟨a,b,d,rfl,ht,rfl⟩:=h
 obtain ⟨B,B0,bB,fa,fb,fd⟩:=ht
 have hq:∀ q∈[a.x,a.y,a.z,b.x,b.y,b.z,d.x,d.y,d.z],FB B 940 q:=zkQ ⟨fa,fb,fd⟩
 refine aP (bK (R:=ztR) (ds:=[.tuple ([a.x,a.y,a.z,b.x,b.y,b.z,d.x,d.y,d.z].map fun q=>tI (qf q))]) (A1.cons (cD (xs:=[tI (qf a.x),tI (qf a.y),tI (qf a.z),tI (qf b.x),tI (qf b.y),tI (qf b.z)]) (ys:=[tI (qf d.x),tI (qf d.y),tI (qf d.z)]) (cD (xs:=[tI (qf a.x),tI (qf a.y),tI (qf a.z)]) (ys:=[tI (qf b.x),tI (qf b.y),tI (qf b.z)]) (aB (d:=a.d) (aA rfl) E1.int rfl) (aB (d:=b.d) (aA rfl) E1.int rfl) (show 6<=sizeLine by decide)) (aB (d:=d.d) (aA rfl) E1.int rfl) (show 9<=sizeLine by decide)) A1.nil) ⟨_,B,940,rfl,(show 9<=100 by decide),B0,bB,by decide,hq,rfl⟩) (fun s ⟨_,e,_⟩=>by rw [e];rfl) fun s ⟨g,es,L,eg,L0,LB,Ld⟩=>?_
 subst es eg
 obtain ⟨t0,g0⟩:∃ t,t=jB L a.x:=⟨_,rfl⟩
 obtain ⟨t1,g1⟩:∃ t,t=jB L a.y:=⟨_,rfl⟩
 obtain ⟨t2,g2⟩:∃ t,t=jB L a.z:=⟨_,rfl⟩
 obtain ⟨t3,g3⟩:∃ t,t=jB L b.x:=⟨_,rfl⟩
 obtain ⟨t4,g4⟩:∃ t,t=jB L b.y:=⟨_,rfl⟩
 obtain ⟨t5,g5⟩:∃ t,t=jB L b.z:=⟨_,rfl⟩
 obtain ⟨t6,g6⟩:∃ t,t=jB L d.x:=⟨_,rfl⟩
 obtain ⟨t7,g7⟩:∃ t,t=jB L d.y:=⟨_,rfl⟩
 obtain ⟨t8,g8⟩:∃ t,t=jB L d.z:=⟨_,rfl⟩
 have e0:(t0:Rat)=L*a.x:=by rw [g0];exact xV (Ld a.x (by simp))
 have k0:Bt t0 940:=by rw [g0];exact wW (hq a.x (by simp)) B0 L0 LB (Ld a.x (by simp))
 have e1:(t1:Rat)=L*a.y:=by rw [g1];exact xV (Ld a.y (by simp))
 have k1:Bt t1 940:=by rw [g1];exact wW (hq a.y (by simp)) B0 L0 LB (Ld a.y (by simp))
 have e2:(t2:Rat)=L*a.z:=by rw [g2];exact xV (Ld a.z (by simp))
 have k2:Bt t2 940:=by rw [g2];exact wW (hq a.z (by simp)) B0 L0 LB (Ld a.z (by simp))
 have e3:(t3:Rat)=L*b.x:=by rw [g3];exact xV (Ld b.x (by simp))
 have k3:Bt t3 940:=by rw [g3];exact wW (hq b.x (by simp)) B0 L0 LB (Ld b.x (by simp))
 have e4:(t4:Rat)=L*b.y:=by rw [g4];exact xV (Ld b.y (by simp))
 have k4:Bt t4 940:=by rw [g4];exact wW (hq b.y (by simp)) B0 L0 LB (Ld b.y (by simp))
 have e5:(t5:Rat)=L*b.z:=by rw [g5];exact xV (Ld b.z (by simp))
 have k5:Bt t5 940:=by rw [g5];exact wW (hq b.z (by simp)) B0 L0 LB (Ld b.z (by simp))
 have e6:(t6:Rat)=L*d.x:=by rw [g6];exact xV (Ld d.x (by simp))
 have k6:Bt t6 940:=by rw [g6];exact wW (hq d.x (by simp)) B0 L0 LB (Ld d.x (by simp))
 have e7:(t7:Rat)=L*d.y:=by rw [g7];exact xV (Ld d.y (by simp))
 have k7:Bt t7 940:=by rw [g7];exact wW (hq d.y (by simp)) B0 L0 LB (Ld d.y (by simp))
 have e8:(t8:Rat)=L*d.z:=by rw [g8];exact xV (Ld d.z (by simp))
 have k8:Bt t8 940:=by rw [g8];exact wW (hq d.z (by simp)) B0 L0 LB (Ld d.z (by simp))
 have bL:Bt L 940:=tT LB B0 bB
 have hb:∀ n∈[t0,t1,t2,t3,t4,t5,t6,t7,t8],Bt n 940:=znZ k0 k1 k2 k3 k4 k5 k6 k7 k8
 have hrow:=zoY L0 bL hb e0 e1 e2 e3 e4 e5 e6 e7 e8
 have hsome:=zmO (L:=L) (t0:=t0) (t1:=t1) (t2:=t2) (t3:=t3) (t4:=t4) (t5:=t5) (t6:=t6) (t7:=t7) (t8:=t8) L0
 refine aF (s:=.dat (tI [t0,t1,t2,t3,t4,t5,t6,t7,t8])) (aG (aB (d:=tI ([a.x,a.y,a.z,b.x,b.y,b.z,d.x,d.y,d.z].map (jB L))) (aA rfl) E1.int rfl) (by rw [g0,g1,g2,g3,g4,g5,g6,g7,g8];rfl)) ?_
 refine aF (s:=.dat (.int L)) (aB (aA rfl) E1.int rfl) ?_
 refine aF (s:=.dat (.int (t7 - t5))) (E1.sub (aB (d:=.int t7) (aA rfl) E1.int rfl) (aB (d:=.int t5) (aA rfl) E1.int rfl)) ?_
 refine aF (s:=.dat (.int (t2 - t6))) (E1.sub (aB (d:=.int t2) (aA rfl) E1.int rfl) (aB (d:=.int t6) (aA rfl) E1.int rfl)) ?_
 refine aF (s:=.dat (.int (t3 - t1))) (E1.sub (aB (d:=.int t3) (aA rfl) E1.int rfl) (aB (d:=.int t1) (aA rfl) E1.int rfl)) ?_
 refine aF (s:=.dat (.int (t1+t3))) (E1.add (aB (d:=.int t1) (aA rfl) E1.int rfl) (aB (d:=.int t3) (aA rfl) E1.int rfl)) ?_
 refine aF (s:=.dat (.int (t2+t6))) (E1.add (aB (d:=.int t2) (aA rfl) E1.int rfl) (aB (d:=.int t6) (aA rfl) E1.int rfl)) ?_
 refine aF (s:=.dat (.int (t5+t7))) (E1.add (aB (d:=.int t5) (aA rfl) E1.int rfl) (aB (d:=.int t7) (aA rfl) E1.int rfl)) ?_
 refine aF (s:=.dat (.tuple ([[L+t0+t4+t8,t7 - t5,t2 - t6,t3 - t1],[t7 - t5,L+t0 - t4 - t8,t1+t3,t2+t6],[t2 - t6,t1+t3,L - t0+t4 - t8,t5+t7],[t3 - t1,t2+t6,t5+t7,L - t0 - t4+t8]].map tI))) (aK (A1.cons (aK (A1.cons (E1.add (E1.add (E1.add (aA rfl) (aB (d:=.int t0) (aA rfl) E1.int rfl)) (aB (d:=.int t4) (aA rfl) E1.int rfl)) (aB (d:=.int t8) (aA rfl) E1.int rfl)) (A1.cons (aA rfl) (A1.cons (aA rfl) (A1.cons (aA rfl) A1.nil)))) rfl (vZ (n:=4) rfl z4)) (A1.cons (aK (A1.cons (aA rfl) (A1.cons (E1.sub (E1.sub (E1.add (aA rfl) (aB (d:=.int t0) (aA rfl) E1.int rfl)) (aB (d:=.int t4) (aA rfl) E1.int rfl)) (aB (d:=.int t8) (aA rfl) E1.int rfl)) (A1.cons (aA rfl) (A1.cons (aA rfl) A1.nil)))) rfl (vZ (n:=4) rfl z4)) (A1.cons (aK (A1.cons (aA rfl) (A1.cons (aA rfl) (A1.cons (E1.sub (E1.add (E1.sub (aA rfl) (aB (d:=.int t0) (aA rfl) E1.int rfl)) (aB (d:=.int t4) (aA rfl) E1.int rfl)) (aB (d:=.int t8) (aA rfl) E1.int rfl)) (A1.cons (aA rfl) A1.nil)))) rfl (vZ (n:=4) rfl z4)) (A1.cons (aK (A1.cons (aA rfl) (A1.cons (aA rfl) (A1.cons (aA rfl) (A1.cons (E1.add (E1.sub (E1.sub (aA rfl) (aB (d:=.int t0) (aA rfl) E1.int rfl)) (aB (d:=.int t4) (aA rfl) E1.int rfl)) (aB (d:=.int t8) (aA rfl) E1.int rfl)) A1.nil)))) rfl (vZ (n:=4) rfl z4)) A1.nil)))) rfl (vZ (n:=4) rfl z4)) ?_
 generalize hRS:[[L+t0+t4+t8,t7 - t5,t2 - t6,t3 - t1],[t7 - t5,L+t0 - t4 - t8,t1+t3,t2+t6],[t2 - t6,t1+t3,L - t0+t4 - t8,t5+t7],[t3 - t1,t2+t6,t5+t7,L - t0 - t4+t8]]=rs at *
 have lrs:rs.length=4:=by rw [<- hRS];rfl
 obtain ⟨r0,hr0,ne0⟩:=hsome
 have hff:=qJ (kp:=fun d => !deq d (tI [0,0,0,0])) (ds:=rs.map tI) ⟨tI r0,List.mem_map.mpr ⟨r0,hr0,rfl⟩,by rw [zpO,decide_eq_false ne0];rfl⟩
 obtain ⟨dd,rr,hf1,hf2,hf3⟩:=hff
 obtain ⟨r1,hr1,rfl⟩:=List.mem_map.mp hf2
 have ne1:r1≠[0,0,0,0]:=fun z=>by rw [z,wQ] at hf3;cases hf3
 have hw:=hrow r1 hr1 ne1
 obtain ⟨w,x,y,z,rfl,nz,bd,hso⟩:=hw
 exact aD (s:=.dat (tI [w,x,y,z])) (aj (ds:=((rs.map tI).filter (fun d => !deq d (tI [0,0,0,0]))).map (fun d=>d)) (ae (E1.compF (ds:=rs.map tI) (f:=fun d=>d) (kp:=fun d => !deq d (tI [0,0,0,0])) (Wk.tup (aA rfl)) (fun d hd=>aC (E1.neD (aA rfl) (aK (ds:=[.int 0,.int 0,.int 0,.int 0]) (A1.cons E1.int (A1.cons E1.int (A1.cons E1.int (A1.cons E1.int A1.nil)))) rfl (vZ (n:=4) rfl z4)) rfl rfl (zvK hd) yE)) (fun d hd _=>(aA rfl)) (by rw [List.length_map,lrs];exact z4))) E1.int (by rw [hf1];exact yjP)) ⟨_,⟨w,x,y,z,rfl,nz,bd,hso⟩,rfl,yV _⟩
theorem scIsTabV:FnScope ["table","four","bottom","row","whole_row","fraction","top"] ["table","four"] (zI zdC):=fsK
theorem znL (F:Fun K "is_table_of" "is_table_of" zdC f fd)
  (G:FnOk P w K mg base zW 2 g gd ["four"] (kX K)) (bG:Binds K gd ["four"] []) (kG:PySem.W.keepIn K (.ref g)=true) (mG:mg "size" = some (.ref g))
  (G2:FnOk P w K mg base zW 1 g2 gd2 ["four"] (zwH K)) (bG2:Binds K gd2 ["four"] []) (kG2:PySem.W.keepIn K (.ref g2)=true) (mG2:mg "whole_table" = some (.ref g2)) (m_zip:mg "zip" = none) :
  FnOk P w K mg base zW 3 f fd ["table","four"] (yT K qN):=by
 refine jM F scIsTabV (fun ds d h=>?_) (fun cdv A0 outer s0 H0 E0 hr=>?_)
 ·obtain ⟨a,b,d,w,x,y,z,v,rfl,_⟩:=h;rfl
 have r:=hr.mono (show 2<=2 by decide)
 have r2:=hr.mono (show 1<=2 by decide)
 refine ⟨_,(zC (zM (i:=2) scIsTabV.nd rfl (Or.inl rfl) (zD G r rfl mG kG bG .nil zK (zO (zv 1) zB)))
  (zC (wT PassesOwn.never rfl (ziG rfl m_zip (zO (zv 0) (wL (zD G2 r2 rfl mG2 kG2 bG2 .nil zK (zO (zv 1) zB)) zB))) (zsS rfl (qS (yB (i:=3) scIsTabV.nd rfl (Or.inl rfl)) (qS (yB (i:=4) scIsTabV.nd rfl (Or.inl rfl)) zkF))) (zF (wT PassesOwn.never rfl (ziG rfl m_zip (zO (zv 3) (zO (zv 4) zB))) (zsS rfl (qS (yB (i:=5) scIsTabV.nd rfl (Or.inl rfl)) (qS (yB (i:=6) scIsTabV.nd rfl (Or.inl rfl)) zkF))) (zF (yM (zR jR (zH zL (zG zE (zv 5) zA (fun _ _=>rfl)) (zv 2)) (zH zL (zG zE (zv 5) zA (fun _ _=>rfl)) (zv 6)) (zT _)) (zF (zN vW)) zX)))))
  (zF (zN vW)))),fun ds d h=>?_⟩
 obtain ⟨a,b,d,w,x,y,z,v,rfl,ht,nz,bd,hv,rfl⟩:=h
 obtain ⟨la,lb,ld⟩:=ht.lv (by decide)
 have np:=yW (ns:=[w,x,y,z]) rfl nz
 have hrows:=zfG bd
 have bN:Bt (yU [w,x,y,z]) 1903:=zkS bd
 obtain ⟨q1,q2,q3⟩:=zzM (w:=w) (x:=x) (y:=y) (z:=z)
 have tw0:TOf a b d w x y z ↔ (a.x=qv (w*w+x*x - y*y - z*z) (yU [w,x,y,z])/\a.y=qv (2*(x*y - w*z)) (yU [w,x,y,z])/\a.z=qv (2*(x*z+w*y)) (yU [w,x,y,z]))/\(b.x=qv (2*(x*y+w*z)) (yU [w,x,y,z])/\b.y=qv (w*w - x*x+y*y - z*z) (yU [w,x,y,z])/\b.z=qv (2*(y*z - w*x)) (yU [w,x,y,z]))/\(d.x=qv (2*(x*z - w*y)) (yU [w,x,y,z])/\d.y=qv (2*(y*z+w*x)) (yU [w,x,y,z])/\d.z=qv (w*w - x*x - y*y+z*z) (yU [w,x,y,z])):=by
  unfold TOf
  rw [q1,q2,q3,zjD,zjD,zjD]
 have eS:wX [w,x,y,z] [w,x,y,z]=yU [w,x,y,z]:=tP ..
 have eW:(Dat.tuple [tI (rw1 w x y z),tI (rw2 w x y z),tI (rw3 w x y z)]) = .tuple [tI [w*w+x*x - y*y - z*z,2*(x*y - w*z),2*(x*z+w*y)],tI [2*(x*y+w*z),w*w - x*x+y*y - z*z,2*(y*z - w*x)],tI [2*(x*z - w*y),2*(y*z+w*x),w*w - x*x - y*y+z*z]]:=rfl
 unfold rw1 rw2 rw3 at hrows
 obtain ⟨p00,ep00⟩:∃ t:Int,t=w*w+x*x - y*y - z*z:=⟨_,rfl⟩
 obtain ⟨p01,ep01⟩:∃ t:Int,t=2*(x*y - w*z):=⟨_,rfl⟩
 obtain ⟨p02,ep02⟩:∃ t:Int,t=2*(x*z+w*y):=⟨_,rfl⟩
 obtain ⟨p10,ep10⟩:∃ t:Int,t=2*(x*y+w*z):=⟨_,rfl⟩
 obtain ⟨p11,ep11⟩:∃ t:Int,t=w*w - x*x+y*y - z*z:=⟨_,rfl⟩
 obtain ⟨p12,ep12⟩:∃ t:Int,t=2*(y*z - w*x):=⟨_,rfl⟩
 obtain ⟨p20,ep20⟩:∃ t:Int,t=2*(x*z - w*y):=⟨_,rfl⟩
 obtain ⟨p21,ep21⟩:∃ t:Int,t=2*(y*z+w*x):=⟨_,rfl⟩
 obtain ⟨p22,ep22⟩:∃ t:Int,t=w*w - x*x - y*y+z*z:=⟨_,rfl⟩
 rw [<- ep00, <- ep01, <- ep02, <- ep10, <- ep11, <- ep12, <- ep20, <- ep21, <- ep22] at hrows tw0 eW
 obtain ⟨W1,W2,W3⟩:=hrows
 rw [tw0] at hv
 clear q1 q2 q3 tw0 ep00 ep01 ep02 ep10 ep11 ep12 ep20 ep21 ep22 ht
 generalize hNN:yU [w,x,y,z]=N at *
 have hN:N≠0:=by omega
 have u00:Bt p00 1903:=W1 _ (by simp)
 have u01:Bt p01 1903:=W1 _ (by simp)
 have u02:Bt p02 1903:=W1 _ (by simp)
 have u10:Bt p10 1903:=W2 _ (by simp)
 have u11:Bt p11 1903:=W2 _ (by simp)
 have u12:Bt p12 1903:=W2 _ (by simp)
 have u20:Bt p20 1903:=W3 _ (by simp)
 have u21:Bt p21 1903:=W3 _ (by simp)
 have u22:Bt p22 1903:=W3 _ (by simp)
 have fal:¬ ((a.x=qv p00 N/\a.y=qv p01 N/\a.z=qv p02 N)/\(b.x=qv p10 N/\b.y=qv p11 N/\b.z=qv p12 N)/\(d.x=qv p20 N/\d.y=qv p21 N/\d.z=qv p22 N))->v=false:=fun h=>by
  cases v with
  | false=>rfl
  | true=>exact absurd (hv.mp rfl) h
 refine aF (s:=.dat (.int N)) (aG (av (ns:=[w,x,y,z]) (A1.cons (aA rfl) A1.nil) (show 4<=1000 by decide) (xY bd)) (by rw [eS])) ?_
 refine S.seq (M:=fun τ'=>((a.x=qv p00 N/\a.y=qv p01 N/\a.z=qv p02 N)/\(b.x=qv p10 N/\b.y=qv p11 N/\b.z=qv p12 N)/\(d.x=qv p20 N/\d.y=qv p21 N/\d.z=qv p22 N))/\∃ o1 o2 o3 o4:Sl,τ'=[.dat (tbD a b d),.dat (tI [w,x,y,z]),.dat (.int N),o1,o2,o3,o4]) ?_ fun τ' ⟨hF,o1,o2,o3,o4,eτ⟩=>?_
 ·refine ak (ds:=zaH [a.d,b.d,d.d] [tI [p00,p01,p02],tI [p10,p11,p12],tI [p20,p21,p22]]) (Wk.zip (A1.cons (aA rfl) (A1.cons (aG (E1.cWT (a:=w) (b:=x) (c:=y) (d:=z) (A1.cons (aA rfl) A1.nil) (yS bd (Nat.pow_le_pow_right (by decide) (by decide)))) (by rw [eW])) A1.nil)) rfl) (fun k τ'=>tw (a.x=qv p00 N/\a.y=qv p01 N/\a.z=qv p02 N) (b.x=qv p10 N/\b.y=qv p11 N/\b.z=qv p12 N) (d.x=qv p20 N/\d.y=qv p21 N/\d.z=qv p22 N) k/\∃ o1 o2 o3 o4:Sl,τ'=[.dat (tbD a b d),.dat (tI [w,x,y,z]),.dat (.int N),o1,o2,o3,o4]) ⟨trivial,_,_,_,_,rfl⟩ (fun k dd τ1 hd ⟨hI,o1,o2,o3,o4,e1⟩=>?_) (fun τ1 h=>h)
  subst e1
  rcases zjH hd with ⟨rfl,rfl⟩|⟨rfl,rfl⟩|⟨rfl,rfl⟩
  ·refine ⟨_,aO (x:=a.d) (y:=tI [p00,p01,p02]),?_⟩
   refine ak (ds:=zaH [tI (qf a.x),tI (qf a.y),tI (qf a.z)] [.int p00,.int p01,.int p02]) (Wk.zip (A1.cons (aA rfl) (A1.cons (aA rfl) A1.nil)) rfl) (fun j τ'=>tw (a.x=qv p00 N) (a.y=qv p01 N) (a.z=qv p02 N) j/\∃ o3 o4:Sl,τ'=[.dat (tbD a b d),.dat (tI [w,x,y,z]),.dat (.int N),.dat a.d,.dat (tI [p00,p01,p02]),o3,o4]) ⟨trivial,_,_,rfl⟩ (fun j dd τ1 hd ⟨hJ,o3,o4,e1⟩=>?_) (fun τ1 ⟨hJ,o3,o4,e1⟩=>⟨hJ,_,_,o3,o4,e1⟩)
   subst e1
   rcases zjH hd with ⟨rfl,rfl⟩|⟨rfl,rfl⟩|⟨rfl,rfl⟩
   ·refine ⟨_,aO (x:=tI (qf a.x)) (y:=.int p00),?_⟩
    refine af (b := !decide (a.x.num*N=a.x.den*p00)) (aC (E1.ne (E1.mul (aB (aA rfl) E1.int rfl) (aA rfl) (la.1.bt.mulOk bN)) (E1.mul (aB (aA rfl) E1.int rfl) (aA rfl) (la.1.bb.mulOk u00)))) (fun h=>?_) (fun h=>?_)
    ·have hh:¬ a.x.num*N=a.x.den*p00:=by simpa using h
     rw [fal fun ht=>hh ((xH hN).mpr ht.1.1)]
     exact aD (s:=.dat (.bool false)) E1.bl ⟨rfl,rfl⟩
    ·have hh:a.x=qv p00 N:=(xH hN).mp (by simpa using h)
     exact S.next ⟨hh,_,_,rfl⟩
   ·refine ⟨_,aO (x:=tI (qf a.y)) (y:=.int p01),?_⟩
    refine af (b := !decide (a.y.num*N=a.y.den*p01)) (aC (E1.ne (E1.mul (aB (aA rfl) E1.int rfl) (aA rfl) (la.2.1.bt.mulOk bN)) (E1.mul (aB (aA rfl) E1.int rfl) (aA rfl) (la.2.1.bb.mulOk u01)))) (fun h=>?_) (fun h=>?_)
    ·have hh:¬ a.y.num*N=a.y.den*p01:=by simpa using h
     rw [fal fun ht=>hh ((xH hN).mpr ht.1.2.1)]
     exact aD (s:=.dat (.bool false)) E1.bl ⟨rfl,rfl⟩
    ·have hh:a.y=qv p01 N:=(xH hN).mp (by simpa using h)
     exact S.next ⟨⟨hJ,hh⟩,_,_,rfl⟩
   ·refine ⟨_,aO (x:=tI (qf a.z)) (y:=.int p02),?_⟩
    refine af (b := !decide (a.z.num*N=a.z.den*p02)) (aC (E1.ne (E1.mul (aB (aA rfl) E1.int rfl) (aA rfl) (la.2.2.bt.mulOk bN)) (E1.mul (aB (aA rfl) E1.int rfl) (aA rfl) (la.2.2.bb.mulOk u02)))) (fun h=>?_) (fun h=>?_)
    ·have hh:¬ a.z.num*N=a.z.den*p02:=by simpa using h
     rw [fal fun ht=>hh ((xH hN).mpr ht.1.2.2)]
     exact aD (s:=.dat (.bool false)) E1.bl ⟨rfl,rfl⟩
    ·have hh:a.z=qv p02 N:=(xH hN).mp (by simpa using h)
     exact S.next ⟨⟨hJ.1,hJ.2,hh⟩,_,_,rfl⟩
  ·refine ⟨_,aO (x:=b.d) (y:=tI [p10,p11,p12]),?_⟩
   refine ak (ds:=zaH [tI (qf b.x),tI (qf b.y),tI (qf b.z)] [.int p10,.int p11,.int p12]) (Wk.zip (A1.cons (aA rfl) (A1.cons (aA rfl) A1.nil)) rfl) (fun j τ'=>tw (b.x=qv p10 N) (b.y=qv p11 N) (b.z=qv p12 N) j/\∃ o3 o4:Sl,τ'=[.dat (tbD a b d),.dat (tI [w,x,y,z]),.dat (.int N),.dat b.d,.dat (tI [p10,p11,p12]),o3,o4]) ⟨trivial,_,_,rfl⟩ (fun j dd τ1 hd ⟨hJ,o3,o4,e1⟩=>?_) (fun τ1 ⟨hJ,o3,o4,e1⟩=>⟨⟨hI,hJ⟩,_,_,o3,o4,e1⟩)
   subst e1
   rcases zjH hd with ⟨rfl,rfl⟩|⟨rfl,rfl⟩|⟨rfl,rfl⟩
   ·refine ⟨_,aO (x:=tI (qf b.x)) (y:=.int p10),?_⟩
    refine af (b := !decide (b.x.num*N=b.x.den*p10)) (aC (E1.ne (E1.mul (aB (aA rfl) E1.int rfl) (aA rfl) (lb.1.bt.mulOk bN)) (E1.mul (aB (aA rfl) E1.int rfl) (aA rfl) (lb.1.bb.mulOk u10)))) (fun h=>?_) (fun h=>?_)
    ·have hh:¬ b.x.num*N=b.x.den*p10:=by simpa using h
     rw [fal fun ht=>hh ((xH hN).mpr ht.2.1.1)]
     exact aD (s:=.dat (.bool false)) E1.bl ⟨rfl,rfl⟩
    ·have hh:b.x=qv p10 N:=(xH hN).mp (by simpa using h)
     exact S.next ⟨hh,_,_,rfl⟩
   ·refine ⟨_,aO (x:=tI (qf b.y)) (y:=.int p11),?_⟩
    refine af (b := !decide (b.y.num*N=b.y.den*p11)) (aC (E1.ne (E1.mul (aB (aA rfl) E1.int rfl) (aA rfl) (lb.2.1.bt.mulOk bN)) (E1.mul (aB (aA rfl) E1.int rfl) (aA rfl) (lb.2.1.bb.mulOk u11)))) (fun h=>?_) (fun h=>?_)
    ·have hh:¬ b.y.num*N=b.y.den*p11:=by simpa using h
     rw [fal fun ht=>hh ((xH hN).mpr ht.2.1.2.1)]
     exact aD (s:=.dat (.bool false)) E1.bl ⟨rfl,rfl⟩
    ·have hh:b.y=qv p11 N:=(xH hN).mp (by simpa using h)
     exact S.next ⟨⟨hJ,hh⟩,_,_,rfl⟩
   ·refine ⟨_,aO (x:=tI (qf b.z)) (y:=.int p12),?_⟩
    refine af (b := !decide (b.z.num*N=b.z.den*p12)) (aC (E1.ne (E1.mul (aB (aA rfl) E1.int rfl) (aA rfl) (lb.2.2.bt.mulOk bN)) (E1.mul (aB (aA rfl) E1.int rfl) (aA rfl) (lb.2.2.bb.mulOk u12)))) (fun h=>?_) (fun h=>?_)
    ·have hh:¬ b.z.num*N=b.z.den*p12:=by simpa using h
     rw [fal fun ht=>hh ((xH hN).mpr ht.2.1.2.2)]
     exact aD (s:=.dat (.bool false)) E1.bl ⟨rfl,rfl⟩
    ·have hh:b.z=qv p12 N:=(xH hN).mp (by simpa using h)
     exact S.next ⟨⟨hJ.1,hJ.2,hh⟩,_,_,rfl⟩
  ·refine ⟨_,aO (x:=d.d) (y:=tI [p20,p21,p22]),?_⟩
   refine ak (ds:=zaH [tI (qf d.x),tI (qf d.y),tI (qf d.z)] [.int p20,.int p21,.int p22]) (Wk.zip (A1.cons (aA rfl) (A1.cons (aA rfl) A1.nil)) rfl) (fun j τ'=>tw (d.x=qv p20 N) (d.y=qv p21 N) (d.z=qv p22 N) j/\∃ o3 o4:Sl,τ'=[.dat (tbD a b d),.dat (tI [w,x,y,z]),.dat (.int N),.dat d.d,.dat (tI [p20,p21,p22]),o3,o4]) ⟨trivial,_,_,rfl⟩ (fun j dd τ1 hd ⟨hJ,o3,o4,e1⟩=>?_) (fun τ1 ⟨hJ,o3,o4,e1⟩=>⟨⟨hI.1,hI.2,hJ⟩,_,_,o3,o4,e1⟩)
   subst e1
   rcases zjH hd with ⟨rfl,rfl⟩|⟨rfl,rfl⟩|⟨rfl,rfl⟩
   ·refine ⟨_,aO (x:=tI (qf d.x)) (y:=.int p20),?_⟩
    refine af (b := !decide (d.x.num*N=d.x.den*p20)) (aC (E1.ne (E1.mul (aB (aA rfl) E1.int rfl) (aA rfl) (ld.1.bt.mulOk bN)) (E1.mul (aB (aA rfl) E1.int rfl) (aA rfl) (ld.1.bb.mulOk u20)))) (fun h=>?_) (fun h=>?_)
    ·have hh:¬ d.x.num*N=d.x.den*p20:=by simpa using h
     rw [fal fun ht=>hh ((xH hN).mpr ht.2.2.1)]
     exact aD (s:=.dat (.bool false)) E1.bl ⟨rfl,rfl⟩
    ·have hh:d.x=qv p20 N:=(xH hN).mp (by simpa using h)
     exact S.next ⟨hh,_,_,rfl⟩
   ·refine ⟨_,aO (x:=tI (qf d.y)) (y:=.int p21),?_⟩
    refine af (b := !decide (d.y.num*N=d.y.den*p21)) (aC (E1.ne (E1.mul (aB (aA rfl) E1.int rfl) (aA rfl) (ld.2.1.bt.mulOk bN)) (E1.mul (aB (aA rfl) E1.int rfl) (aA rfl) (ld.2.1.bb.mulOk u21)))) (fun h=>?_) (fun h=>?_)
    ·have hh:¬ d.y.num*N=d.y.den*p21:=by simpa using h
     rw [fal fun ht=>hh ((xH hN).mpr ht.2.2.2.1)]
     exact aD (s:=.dat (.bool false)) E1.bl ⟨rfl,rfl⟩
    ·have hh:d.y=qv p21 N:=(xH hN).mp (by simpa using h)
     exact S.next ⟨⟨hJ,hh⟩,_,_,rfl⟩
   ·refine ⟨_,aO (x:=tI (qf d.z)) (y:=.int p22),?_⟩
    refine af (b := !decide (d.z.num*N=d.z.den*p22)) (aC (E1.ne (E1.mul (aB (aA rfl) E1.int rfl) (aA rfl) (ld.2.2.bt.mulOk bN)) (E1.mul (aB (aA rfl) E1.int rfl) (aA rfl) (ld.2.2.bb.mulOk u22)))) (fun h=>?_) (fun h=>?_)
    ·have hh:¬ d.z.num*N=d.z.den*p22:=by simpa using h
     rw [fal fun ht=>hh ((xH hN).mpr ht.2.2.2.2)]
     exact aD (s:=.dat (.bool false)) E1.bl ⟨rfl,rfl⟩
    ·have hh:d.z=qv p22 N:=(xH hN).mp (by simpa using h)
     exact S.next ⟨⟨hJ.1,hJ.2,hh⟩,_,_,rfl⟩
 subst eτ
 rw [hv.mpr hF]
 exact aD (s:=.dat (.bool true)) E1.bl ⟨rfl,rfl⟩
theorem zmC:FnScope ["table"] ["table"] (zI rO):=fsK
theorem ziL (F:Fun K "is_turn" "is_turn" rO f fd)
  (G:FnOk P w K mg base zW 3 g gd ["table","four"] (yT K qN)) (bG:Binds K gd ["table","four"] []) (kG:PySem.W.keepIn K (.ref g)=true) (mG:mg "is_table_of" = some (.ref g))
  (G2:FnOk P w K mg base zW 4 g2 gd2 ["table"] (spQ K zaB)) (bG2:Binds K gd2 ["table"] []) (kG2:PySem.W.keepIn K (.ref g2)=true) (mG2:mg "only_four" = some (.ref g2)) :
  FnOk P w K mg base zW 5 f fd ["table"] (yT K rA):=by
 refine jM F zmC (fun ds d h=>?_) (fun cdv A0 outer s0 H0 E0 hr=>?_)
 ·obtain ⟨a,b,d,v,rfl,_⟩:=h;rfl
 have r:=hr.mono (show 3<=4 by decide)
 have r2:=hr.mono (show 4<=4 by decide)
 refine ⟨_,(zF (zN (zD G r rfl mG kG bG .nil zK (zO (zv 0) (wL (zD G2 r2 rfl mG2 kG2 bG2 .nil zK (zO (zv 0) zB)) zB))))),fun ds d h=>?_⟩
 obtain ⟨a,b,d,v,rfl,ht,hv,rfl⟩:=h
 exact S.ret (E.call2C (R:=qN) (ds:=tbD a b d) (C:=fun g=>g = .bool v) (aA rfl) (bK (R:=zaB) (ds:=[tbD a b d]) (A1.cons (aA rfl) A1.nil) ⟨a,b,d,rfl,ht,rfl⟩) (fun g ⟨w,x,y,z,eg,nz,bd,hso⟩=>⟨.bool v,⟨a,b,d,w,x,y,z,v,by rw [eg],ht,nz,bd,hv.trans ⟨hso,ygU nz⟩,rfl⟩,rfl⟩)) (fun s ⟨g,es,eg⟩=>by subst es eg;exact ⟨rfl,rfl⟩)
theorem scAxis:FnScope ["four","way"] ["four"] (zI zpH):=fsK
theorem zvX (F:Fun K "axis" "axis" zpH f fd)
  (G:FnOk P w K mg base zW 3 g gd ["four"] (spT K xM pl)) (bG:Binds K gd ["four"] []) (kG:PySem.W.keepIn K (.ref g)=true) (mG:mg "plain" = some (.ref g))
  (G2:FnOk P w K mg base zW 2 g2 gd2 ["numbers"] (spT K (fun ns=>(∃ n∈ns,n≠0)/\Sm ns) jO)) (bG2:Binds K gd2 ["numbers"] []) (kG2:PySem.W.keepIn K (.ref g2)=true) (mG2:mg "reduced" = some (.ref g2)) :
  FnOk P w K mg base zW 4 f fd ["four"] (ziB K):=by
 refine F.okZ scAxis (fun vs H Q E h=>?_) (fun cdv A outer s H vs Q E hr h=>?_)
 ·obtain ⟨x,ns,rfl,_⟩:=h;rfl
 obtain ⟨x,ns,rfl,hS,l4,nz,bd,q⟩:=h
 have r:=hr.mono (show 3<=3 by decide)
 have r2:=hr.mono (show 2<=3 by decide)
 refine ⟨_,(zC (zM (i:=1) scAxis.nd rfl (Or.inl rfl) (vV zcY (zD G r rfl mG kG bG .nil zK (zO (zv 0) zB)) (kJ zA) kF) vP)
  (zC (yM (zR (vG hr.units) (zv 1) (zS (yC (yC (yC zB)))) (zT _)) (zF (zN jD)) zX)
  (zF (zN (zD G2 r2 rfl mG2 kG2 bG2 .nil zK (zO (zv 1) zB)))))),?_⟩
 have lp:(pl ns).length=4:=by rw [zY];exact l4
 have sm:Sm ns:=zgI bd (Nat.pow_lt_pow_right (by decide) (by decide))
 have smp:Sm (pl ns):=zgI (wB nz bd) (Nat.pow_lt_pow_right (by decide) (by decide))
 refine ⟨_,rfl,x,ns,rfl,hS,by rw [l4];decide,⟨l4,nz,sm⟩,fun p1 H1 s1 h1=>?_⟩
 obtain ⟨p,t,u,w,ep⟩:=zU lp
 rw [ep] at h1 smp
 refine ⟨1,rfl,p1,_,rfl,SqT.of h1,(by show ¬ (1=0/\_);omega),fun p2 k2=>?_⟩
 have s2:Same H1 (upd H1 p2 (.tup ([t,u,w].map V.int))):=Same.new k2 _
 have g2:upd H1 p2 (.tup ([t,u,w].map V.int)) p2=some (.tup ([t,u,w].map V.int)):=zJ
 show jV _ _ _ [some (.ref x),some (.ref p2)] (upd H1 p2 (.tup ([t,u,w].map V.int)))
 generalize upd H1 p2 (.tup ([t,u,w].map V.int))=H2 at s2 g2 ⊢
 refine ⟨_,rfl,(by show 3<=sizeLine;decide),fun p3 k3=>?_⟩
 have s3:=Same.new k3 (.tup ([0,0,0].map V.int))
 refine ⟨.tuple ([t,u,w].map .int),.tuple ([0,0,0].map .int),.tup (SqT.of (s3 _ _ g2)) (aS [t,u,w]),.tup (SqT.of zJ) (aS [0,0,0]),yE,yE,_,rfl,?_⟩
 show if deq _ _=true then _ else _
 rw [jK]
 have S3:=s1.trans (s2.trans s3)
 refine zeQ (fun z=>?_) (fun z=>?_)
 ·have e:[t,u,w]=[0,0,0]:=of_decide_eq_true z
  refine q _ _ S3 ?_
  have ea:ax ns=none:=by unfold ax;rw [ep];exact if_pos e
  rw [ea];rfl
 ·have e:¬ [t,u,w]=[0,0,0]:=fun y=>z (decide_eq_true y)
  have nz3:∃ n∈[t,u,w],n≠0:=by
   by_cases h1:t=0
   ·by_cases h2:u=0
    ·by_cases h3:w=0
     ·exact absurd (by rw [h1,h2,h3]) e
     ·exact ⟨w,by simp,h3⟩
    ·exact ⟨u,by simp,h2⟩
   ·exact ⟨t,by simp,h1⟩
  refine ⟨_,rfl,p2,[t,u,w],rfl,SqT.of (s3 _ _ g2),(by show 3<=1000;decide),⟨nz3,fun n hn=>smp n (List.mem_cons_of_mem _ hn)⟩,fun r H4 s4 h4=>?_⟩
  refine q _ _ (S3.trans s4) ?_
  have ea:ax ns=some (jO [t,u,w]):=by unfold ax;rw [ep];exact if_neg e
  rw [ea];exact ⟨r,rfl,h4⟩
theorem yaW:FnScope ["four"] ["four"] (zI zrA):=fsK
theorem zwE (F:Fun K "rest" "rest" zrA f fd)
  (G:FnOk P w K mg base zW 2 g gd ["numbers"] (spT K (fun ns=>(∃ n∈ns,n≠0)/\Sm ns) jO)) (bG:Binds K gd ["numbers"] []) (kG:PySem.W.keepIn K (.ref g)=true) (mG:mg "reduced" = some (.ref g))
  (G2:FnOk P w K mg base zW 2 g2 gd2 ["four"] (kX K)) (bG2:Binds K gd2 ["four"] []) (kG2:PySem.W.keepIn K (.ref g2)=true) (mG2:mg "size" = some (.ref g2)) :
  FnOk P w K mg base zW 3 f fd ["four"] (zhX K):=by
 refine F.okZ yaW (fun vs H Q E h=>?_) (fun cdv A outer s H vs Q E hr h=>?_)
 ·obtain ⟨x,ns,rfl,_⟩:=h;rfl
 obtain ⟨x,ns,rfl,hS,l4,nz,bd,q⟩:=h
 have r:=hr.mono (show 2<=2 by decide)
 have r2:=hr.mono (show 2<=2 by decide)
 refine ⟨_,(zF (zN (zD G r rfl mG kG bG .nil zK (wR (zS (xD (zH zL (zG zE (zv 0) zA (fun _ _=>rfl)) (zG zE (zv 0) zA (fun _ _=>rfl))) (wL (zD G2 r2 rfl mG2 kG2 bG2 .nil zK (zO (zv 0) zB)) zB))) zB)))),?_⟩
 obtain ⟨a,b,c,d,rfl⟩:=zU l4
 have ha:Bt a 1000:=bd a (by simp)
 have np:=yW (ns:=[a,b,c,d]) rfl nz
 refine ⟨_,rfl,x,_,_,_,rfl,rfl,hS,sL,_,rfl,x,_,_,_,rfl,rfl,hS,sL,_,_,rfl,rfl,ha.mulOk ha,_,rfl,x,[a,b,c,d],rfl,hS,(by show 4<=1000;decide),bts (k:=1000) (fun n hn=>bd n hn),fun H1 s1=>?_⟩
 refine ⟨(by show 2<=sizeLine;decide),fun t ht=>?_⟩
 rw [tP] at *
 have s2:=Same.new ht (.tup ([a*a,yU [a,b,c,d]].map V.int))
 refine ⟨t,[a*a,yU [a,b,c,d]],rfl,SqT.of zJ,(by show 2<=1000;decide),⟨⟨yU [a,b,c,d],by simp,by omega⟩,sm2 (x:=2003) ((ha.mul ha).up (by decide)) (zaS bd)⟩,fun r H2 s3 h3=>?_⟩
 exact q r H2 (s1.trans (s2.trans s3)) h3
theorem scPSet:FnScope ["setting","lowest"] ["setting"] (zI zrY):=fsK
theorem zwP (F:Fun K "plain_setting" "plain_setting" zrY f fd)
  (G:FnOk P w K mg base zW 2 g gd ["numbers"] (spT K (fun ns=>(∃ n∈ns,n≠0)/\Sm ns) jO)) (bG:Binds K gd ["numbers"] []) (kG:PySem.W.keepIn K (.ref g)=true) (mG:mg "reduced" = some (.ref g))
  (G2:FnOk P w K mg base zW 1 g2 gd2 ["numbers"] (spT K (fun _=>True) (fun ns=>ns.map fun n => -n))) (bG2:Binds K gd2 ["numbers"] []) (kG2:PySem.W.keepIn K (.ref g2)=true) (mG2:mg "negated" = some (.ref g2)) :
  FnOk P w K mg base zW 3 f fd ["setting"] (zbP K):=by
 refine F.okZ scPSet (fun vs H Q E h=>?_) (fun cdv A outer s H vs Q E hr h=>?_)
 ·obtain ⟨x,k,l,rfl,_⟩:=h;rfl
 obtain ⟨x,k,l,rfl,hS,hnz,hsm,q⟩:=h
 have r:=hr.mono (show 2<=2 by decide)
 have r2:=hr.mono (show 1<=2 by decide)
 refine ⟨_,(zC (zM (i:=1) scPSet.nd rfl (Or.inl rfl) (zD G r rfl mG kG bG .nil zK (zO (zv 0) zB)))
  (zC (yM (ZW.pt (qQ (zR zoB (zG zE (zv 1) zA (fun _ _=>rfl)) zA (zT _)) (sA (zR (vG hr.units) (zv 1) (zS (sJ (vE xZ zA) (yC zB))) (zT _))))) (zF (zN (zD G2 r2 rfl mG2 kG2 bG2 .nil zK (zO (zv 1) zB)))) zX)
  (zF (zN (zv 1))))),?_⟩
 have nz':∃ n∈[k,l],n≠0:=by
  obtain ⟨n,hn,h0⟩:=hnz
  exact ⟨n,by simp at hn ⊢;omega,h0⟩
 have sm':Sm [k,l]:=fun n hn=>hsm n (by simp at hn ⊢;omega)
 refine ⟨_,rfl,x,[k,l],rfl,hS,(by show 2<=1000;decide),⟨nz',sm'⟩,fun r1 H1 s1 h1=>?_⟩
 replace h1:H1 r1=some (.tup ([k / ((gcdN [k,l]:Nat):Int),l / ((gcdN [k,l]:Nat):Int)].map V.int)):=h1
 have PR:=ydR hnz
 dsimp only [yK]
 show jV (zcR _ _ _) _ _ [some (.ref x),some (.ref r1)] H1
 have pos:(l<0\/(l=0/\k<0))->∀ (H2:Hp),Same H1 H2->∀ (Z:VK),(∀ (r:Addr) (H':Hp),Same H H'->H' r=some (.tup ((ps k l).map V.int))->Z (.ref r) H')->∃ (a:Addr) (ns:List Int),[V.ref r1]=[.ref a]/\SqT K H2 a (ns.map V.int)/\ns.length<=1000/\True/\∀ (r:Addr) (H':Hp),Same H2 H'->H' r=some (.tup ((ns.map fun n => -n).map V.int))->Z (.ref r) H':=fun y H2 s2 Z z=>by
  refine ⟨r1,jO [k,l],rfl,SqT.of (s2 _ _ h1),(by show 2<=1000;decide),trivial,fun r2 H3 s3 h3=>?_⟩
  rw [ydH y] at h3
  exact z r2 H3 (s1.trans (s2.trans s3)) h3
 refine ⟨_,rfl,r1,_,_,_,rfl,rfl,SqT.of h1,yhZ,_,_,rfl,rfl,_,rfl,?_⟩
 refine zeQ (fun z=>?_) (fun z=>?_)
 ·have z:l / ((gcdN [k,l]:Nat):Int)<0:=by simpa using z
  exact ⟨_,rfl,pos (PR.mp (.inl z)) H1 (aH _) _ q⟩
 have z:¬ l / ((gcdN [k,l]:Nat):Int)<0:=fun y=>z (by simpa using y)
 refine ⟨_,rfl,_,rfl,(by show 2<=sizeLine;decide),fun w1 k1=>?_⟩
 have t1:=Same.new k1 (.tup ([-1,0].map V.int))
 refine ⟨.tuple ([k / ((gcdN [k,l]:Nat):Int),l / ((gcdN [k,l]:Nat):Int)].map .int),.tuple ([-1,0].map .int),.tup (SqT.of (t1 _ _ h1)) (aS _),.tup (SqT.of zJ) (aS [-1,0]),yE,yE,_,rfl,?_⟩
 show if deq _ _=true then _ else _
 rw [jK]
 refine zeQ (fun y=>?_) (fun y=>?_)
 ·have y:=of_decide_eq_true y
  injection y with y1 y2
  injection y2 with y2 _
  exact ⟨_,rfl,pos (PR.mp (.inr ⟨y1,y2⟩)) _ t1 _ q⟩
 ·have n:¬ (l<0\/(l=0/\k<0)):=fun u=>by
   rcases PR.mpr u with u|⟨u,v⟩
   ·exact z u
   ·exact y (decide_eq_true (by rw [u,v]))
  refine ⟨_,rfl,q r1 _ (s1.trans t1) ?_⟩
  rw [<- yaS n]
  exact t1 _ _ h1
theorem zxX:FnScope ["way","setting"] ["way","setting"] (zI zhU):=fsK
theorem zuA (F:Fun K "about" "about" zhU f fd)
  (G:FnOk P w K mg base zW 3 g gd ["four"] (spT K xM pl)) (bG:Binds K gd ["four"] []) (kG:PySem.W.keepIn K (.ref g)=true) (mG:mg "plain" = some (.ref g)) :
  FnOk P w K mg base zW 4 f fd ["way","setting"] (qZ K):=by
 refine F.okZ zxX (fun vs H Q E h=>?_) (fun cdv A outer s H vs Q E hr h=>?_)
 ·obtain ⟨x,y,p,t,u,k,l,rfl,_⟩:=h;rfl
 obtain ⟨x,y,p,t,u,k,l,rfl,hS,hT,hz,bw,bs,q⟩:=h
 have r:=hr.mono (show 3<=3 by decide)
 refine ⟨_,(zF (zN (zD G r rfl mG kG bG .nil zK (wR (zS (xI (zG zE (zv 1) zA (fun _ _=>rfl)) (xD (zH zL (zG zE (zv 1) zA (fun _ _=>rfl)) (zG zE (zv 0) zA (fun _ _=>rfl))) (xD (zH zL (zG zE (zv 1) zA (fun _ _=>rfl)) (zG zE (zv 0) zA (fun _ _=>rfl))) (xD (zH zL (zG zE (zv 1) zA (fun _ _=>rfl)) (zG zE (zv 0) zA (fun _ _=>rfl))) zB))))) zB)))),?_⟩
 have b1:Bt p 1000:=bw p (by simp)
 have b2:Bt t 1000:=bw t (by simp)
 have b3:Bt u 1000:=bw u (by simp)
 have b4:Bt k 1000:=bs k (by simp)
 have b5:Bt l 1000:=bs l (by simp)
 refine ⟨_,rfl,y,_,_,_,rfl,rfl,hT,yhZ,_,rfl,y,_,_,_,rfl,rfl,hT,yeY,_,rfl,x,_,_,_,rfl,rfl,hS,zoI,_,_,rfl,rfl,b4.mulOk b1,?_⟩
 refine ⟨_,rfl,y,_,_,_,rfl,rfl,hT,yeY,_,rfl,x,_,_,_,rfl,rfl,hS,zoU,_,_,rfl,rfl,b4.mulOk b2,?_⟩
 refine ⟨_,rfl,y,_,_,_,rfl,rfl,hT,yeY,_,rfl,x,_,_,_,rfl,rfl,hS,ztA,_,_,rfl,rfl,b4.mulOk b3,(by show 4<=sizeLine;decide),fun r0 k0=>?_⟩
 have s1:=Same.new k0 (.tup ([l,k*p,k*t,k*u].map V.int))
 refine ⟨r0,[l,k*p,k*t,k*u],rfl,SqT.of zJ,(by show 4<=1000;decide),⟨rfl,hz,fun n hn=>?_⟩,fun r H2 s2 h2=>q r H2 (s1.trans s2) h2⟩
 simp only [List.mem_cons,List.mem_nil_iff,or_false] at hn
 rcases hn with rfl|rfl|rfl|rfl
 ·exact b5.lt (by decide)
 ·exact (b4.mul b1).lt (by decide)
 ·exact (b4.mul b2).lt (by decide)
 ·exact (b4.mul b3).lt (by decide)
theorem zwA:FnScope ["one","other"] ["one","other"] (zI ziA):=fsK
theorem zqY (F:Fun K "are_along" "are_along" ziA f fd)
  (G:FnOk P w K mg base zW 1 g gd ["one","other"] (zlK K)) (bG:Binds K gd ["one","other"] []) (kG:PySem.W.keepIn K (.ref g)=true) (mG:mg "cross_product" = some (.ref g)) :
  FnOk P w K mg base zW 2 f fd ["one","other"] (zcQ K):=by
 refine F.okZ zwA (fun vs H Q E h=>?_) (fun cdv A outer s H vs Q E hr h=>?_)
 ·obtain ⟨x,y,a,b,c,d,e,f,rfl,_⟩:=h;rfl
 obtain ⟨x,y,a,b,c,d,e,f,rfl,hS,hT,ba,bd,q⟩:=h
 have r:=hr.mono (show 1<=1 by decide)
 refine ⟨_,(zF (zN (wD (vG hr.units) (zD G r rfl mG kG bG .nil zK (zO (zv 0) (zO (zv 1) zB))) (zS (yC (yC (yC zB)))) (zT _)))),?_⟩
 refine ⟨_,rfl,_,rfl,x,y,a,b,c,d,e,f,rfl,hS,hT,ba,bd,fun r H1 s1 h1=>?_⟩
 refine ⟨(by show 3<=sizeLine;decide),fun w1 k1=>?_⟩
 have t1:=Same.new k1 (.tup ([0,0,0].map V.int))
 refine ⟨.tuple ((cr a b c d e f).map .int),.tuple ([0,0,0].map .int),.tup (SqT.of (t1 _ _ h1)) (aS _),.tup (SqT.of zJ) (aS [0,0,0]),yE,yE,?_⟩
 rw [jK]
 exact q _ (s1.trans t1)
theorem scSetAbout:FnScope ["way","four","place"] ["way","four"] (zI tR):=fsK
theorem zfJ (F:Fun K "setting_about" "setting_about" tR f fd)
  (G:FnOk P w K mg base zW 2 g gd ["one","other"] (zcQ K)) (bG:Binds K gd ["one","other"] []) (kG:PySem.W.keepIn K (.ref g)=true) (mG:mg "are_along" = some (.ref g))
  (G2:FnOk P w K mg base zW 1 g2 gd2 ["numbers"] (yT K RFF)) (bG2:Binds K gd2 ["numbers"] []) (kG2:PySem.W.keepIn K (.ref g2)=true) (mG2:mg "first_filled" = some (.ref g2))
  (G3:FnOk P w K mg base zW 3 g3 gd3 ["setting"] (zbP K)) (bG3:Binds K gd3 ["setting"] []) (kG3:PySem.W.keepIn K (.ref g3)=true) (mG3:mg "plain_setting" = some (.ref g3)) :
  FnOk P w K mg base zW 4 f fd ["way","four"] (yT K RSA):=by
 refine jM F scSetAbout (fun ds d h=>?_) (fun cdv A0 outer s0 H0 E0 hr=>?_)
 ·obtain ⟨x,y,z,a,b,c,e,rfl,_⟩:=h;rfl
 have r:=hr.mono (show 2<=3 by decide)
 have r2:=hr.mono (show 1<=3 by decide)
 have r3:=hr.mono (show 3<=3 by decide)
 refine ⟨_,(zC (yM (vO (vF (zD G r rfl mG kG bG .nil zK (zO (zv 0) (xI (vV zcY (zv 1) (kJ zA) kF) zB))))) (zF (zN jD)) zX)
  (zC (zM (i:=2) scSetAbout.nd rfl (Or.inl rfl) (zD G2 r2 rfl mG2 kG2 bG2 .nil zK (zO (zv 0) zB)))
  (zF (zN (zD G3 r3 rfl mG3 kG3 bG3 .nil zK (wR (zS (xI (zG zE (zv 1) (zH yD (zv 2) zA) (fun _ _=>rfl)) (xD (zH zL (zG zE (zv 1) zA (fun _ _=>rfl)) (zG zE (zv 0) (zv 2) (fun _ _=>rfl))) zB))) zB)))))),fun ds d h=>?_⟩
 obtain ⟨x,y,z,a,b,c,e,rfl,nw,nf,b1,b2,rfl⟩:=h
 obtain ⟨bx,by',bz⟩:=ziO b1
 obtain ⟨ba,bb,bc,be⟩:=qA b2
 refine aW (bY (T1.val (E1.cAlong (a:=x) (b:=y) (c:=z) (d:=b) (e:=c) (f:=e) (A1.cons (aA rfl) (A1.cons (E1.sl1 (aA rfl) (bA E1.int) O1.none) A1.nil)) (yL b1) (yL (zkK b2))))) (fun h=>?_) (fun h=>?_)
 ·have h:¬ cr x y z b c e=[0,0,0]:=by simpa using h
  unfold sa;rw [if_neg h]
  exact aD E1.non ⟨rfl,rfl⟩
 have h:cr x y z b c e=[0,0,0]:=by simpa using h
 obtain ⟨n1,n2,n3⟩:=zzF h nf
 refine aF (E1.call (R:=RFF) (A1.cons (aA rfl) A1.nil) ⟨x,y,z,rfl,nw,rfl⟩) ?_
 have fin:∀ (k l:Int),tF (tI (ps k l))=true:=fun k l=>yV _
 unfold sa;rw [if_pos h,ff3 nw]
 by_cases hx:x=0
 ·rw [if_pos hx,if_pos hx]
  by_cases hy:y=0
  ·rw [if_pos hy,if_pos hy]
   have hz:z≠0:=by
    obtain ⟨n,hn,h0⟩:=nw
    simp only [List.mem_cons,List.mem_nil_iff,or_false] at hn
    rcases hn with rfl|rfl|rfl
    ·exact absurd hx h0
    ·exact absurd hy h0
    ·exact h0
   exact aD (ap (k:=e) (l:=a*z) (by (walk_at "au3")) (n3 hz) (sm2 (x:=2000) (Bt.up (x:=_) (by walk_at "bt") (by decide)) (Bt.up (x:=_) (by walk_at "bt") (by decide)))) ⟨rfl,fin _ _⟩
  ·rw [if_neg hy,if_neg hy]
   exact aD (ap (k:=c) (l:=a*y) (by (walk_at "au3")) (n2 hy) (sm2 (x:=2000) (Bt.up (x:=_) (by walk_at "bt") (by decide)) (Bt.up (x:=_) (by walk_at "bt") (by decide)))) ⟨rfl,fin _ _⟩
 ·rw [if_neg hx,if_neg hx]
  exact aD (ap (k:=b) (l:=a*x) (by (walk_at "au3")) (n1 hx) (sm2 (x:=2000) (Bt.up (x:=_) (by walk_at "bt") (by decide)) (Bt.up (x:=_) (by walk_at "bt") (by decide)))) ⟨rfl,fin _ _⟩
theorem scHalf:FnScope ["four","whole","root"] ["four"] (zI zrI):=fsK
theorem zvQ (F:Fun K "half" "half" zrI f fd)
  (G:FnOk P w K mg base zW 3 g gd ["four"] (spT K xM pl)) (bG:Binds K gd ["four"] []) (kG:PySem.W.keepIn K (.ref g)=true) (mG:mg "plain" = some (.ref g))
  (G2:FnOk P w K mg base zW 2 g2 gd2 ["number"] (yT K kU)) (bG2:Binds K gd2 ["number"] []) (kG2:PySem.W.keepIn K (.ref g2)=true) (mG2:mg "exact_root" = some (.ref g2))
  (G3:FnOk P w K mg base zW 2 g3 gd3 ["four"] (kX K)) (bG3:Binds K gd3 ["four"] []) (kG3:PySem.W.keepIn K (.ref g3)=true) (mG3:mg "size" = some (.ref g3)) :
  FnOk P w K mg base zW 4 f fd ["four"] (yT K zjU):=by
 refine jM F scHalf (fun ds d h=>?_) (fun cdv A0 outer s0 H0 E0 hr=>?_)
 ·obtain ⟨ns,a,b,c,e,rfl,_⟩:=h;rfl
 have r:=hr.mono (show 3<=3 by decide)
 have r2:=hr.mono (show 2<=3 by decide)
 have r3:=hr.mono (show 2<=3 by decide)
 refine ⟨_,(zC (zM (i:=1) scHalf.nd rfl (Or.inl rfl) (zD G r rfl mG kG bG .nil zK (zO (zv 0) zB)))
  (zC (zM (i:=2) scHalf.nd rfl (Or.inl rfl) (zD G2 r2 rfl mG2 kG2 bG2 .nil zK (wL (zD G3 r3 rfl mG3 kG3 bG3 .nil zK (zO (zv 1) zB)) zB)))
  (zC (yM (zR zdX (zv 2) jD (zT _)) (zF (zN jD)) zX)
  (zF (zN (zD G r rfl mG kG bG .nil zK (xD (zH zeP (zS (xD (zH yD (zG zE (zv 1) zA (fun _ _=>rfl)) (zv 2)) zB)) (vV zcY (zv 1) (kJ zA) kF)) zB))))))),fun ds d h=>?_⟩
 obtain ⟨ns,a,b,c,e,rfl,l4,nz,bd,hp,hd⟩:=h
 have np:=xC nz
 have bp:=wB nz bd
 have fp:=kW nz
 rw [hp] at np bp fp
 obtain ⟨ba,bb,bc,be⟩:=qA bp
 have hn:=yW (ns:=[a,b,c,e]) rfl np
 have bn:=zaS bp
 refine aF (s:=.dat (tI [a,b,c,e])) (aG (E1.cT (ns:=ns) (A1.cons (aA rfl) A1.nil) (by omega) ⟨l4,nz,xY bd⟩) (by rw [hp])) ?_
 have sz:wX [a,b,c,e] [a,b,c,e]=yU [a,b,c,e]:=tP _ _ _ _
 rcases hd with ⟨r,r0,r1,rfl⟩|⟨hno,rfl⟩
 ·obtain ⟨h1,h2⟩:=zlL np fp r0 r1
  have br:Bt r 2003:=zzQ (r1 ▸ zrR r0) bn
  refine aF (s:=.dat (.int r)) (E1.call (R:=kU) (A1.cons (aG (av (ns:=[a,b,c,e]) (A1.cons (aA rfl) A1.nil) (by show 4<=1000;decide) (xY bp)) (by rw [sz])) A1.nil) ⟨_,rfl,by omega,bn.up (by decide),.inl ⟨r,r0,r1,rfl⟩⟩) ?_
  refine aJ (aC (bH (d:=.int r) (aA rfl) E1.non)) ?_
  exact aD (s:=.dat (tI (pl [a+r,b,c,e]))) (E1.cT (ns:=[a+r,b,c,e]) (A1.cons (cD (xs:=[.int (a+r)]) (ys:=[.int b,.int c,.int e]) (aK (A1.cons (E1.add (aB (aA rfl) E1.int rfl) (aA rfl)) A1.nil) rfl (vZ (n:=1) rfl z1)) (E1.sl1 (aA rfl) (bA E1.int) O1.none) (by show 4<=sizeLine;decide)) A1.nil) (by show 4<=1000;decide) ⟨rfl,⟨a+r,by simp,by omega⟩,xY (k:=2004) (zdT (Bt.up (x:=_) (by walk_at "bt") (by decide)) (bb.up (by decide)) (bc.up (by decide)) (be.up (by decide)))⟩) ⟨rfl,yV _⟩
 ·refine aF (s:=.dat .none) (E1.call (R:=kU) (A1.cons (aG (av (ns:=[a,b,c,e]) (A1.cons (aA rfl) A1.nil) (by show 4<=1000;decide) (xY bp)) (by rw [sz])) A1.nil) ⟨_,rfl,by omega,bn.up (by decide),.inr ⟨hno,rfl⟩⟩) ?_
  refine aW (b:=true) (aC (bH (d:=.none) (aA rfl) E1.non)) (fun _=>?_) (fun z=>by cases z)
  exact aD (s:=.dat .none) E1.non ⟨rfl,rfl⟩
theorem scHungD:FnScope ["hanger","settings","first","middle","last"] ["hanger","settings"] (zI zhI):=fsK
theorem zrP (F:Fun K "hung" "hung" zhI f fd)
  (G:FnOk P w K mg base zW 2 g gd ["hanger"] (yT K zgC)) (bG:Binds K gd ["hanger"] []) (kG:PySem.W.keepIn K (.ref g)=true) (mG:mg "refuse_no_hanger" = some (.ref g))
  (G2:FnOk P w K mg base zW 4 g2 gd2 ["way","setting"] (qZ K)) (bG2:Binds K gd2 ["way","setting"] []) (kG2:PySem.W.keepIn K (.ref g2)=true) (mG2:mg "about" = some (.ref g2))
  (G3:FnOk P w K mg base zW 4 g3 gd3 ["one","other"] (rV K)) (bG3:Binds K gd3 ["one","other"] []) (kG3:PySem.W.keepIn K (.ref g3)=true) (mG3:mg "then" = some (.ref g3)) (m_WAYS:mg "WAYS" = some (.ref dWAYS)) (t_WAYS:TabS K dWAYS zrF) :
  FnOk P w K mg base zW 5 f fd ["hanger","settings"] (yT K kT):=by
 refine jM F scHungD (fun ds d h=>?_) (fun cdv A0 outer s0 H0 E0 hr=>?_)
 ·obtain ⟨i,j,k,a,b,c,e,f,g,rfl,_⟩:=h;rfl
 have r:=hr.mono (show 2<=4 by decide)
 have r2:=hr.mono (show 4<=4 by decide)
 have r3:=hr.mono (show 4<=4 by decide)
 refine ⟨_,(zC (zeE (zD G r rfl mG kG bG .nil zK (zO (zv 0) zB)))
  (zC (zM (i:=2) scHungD.nd rfl (Or.inl rfl) (zD G2 r2 rfl mG2 kG2 bG2 .nil zK (xI (zgY (wM (v:=.ref dWAYS) rfl m_WAYS rfl) (zG xE (zv 0) zA (fun _ _=>rfl)) (fun _ _=>rfl)) (xI (zG zE (zv 1) zA (fun _ _=>rfl)) zB))))
  (zC (zM (i:=3) scHungD.nd rfl (Or.inl rfl) (zD G2 r2 rfl mG2 kG2 bG2 .nil zK (xI (zgY (wM (v:=.ref dWAYS) rfl m_WAYS rfl) (zG xE (zv 0) zA (fun _ _=>rfl)) (fun _ _=>rfl)) (xI (zG zE (zv 1) zA (fun _ _=>rfl)) zB))))
  (zC (zM (i:=4) scHungD.nd rfl (Or.inl rfl) (zD G2 r2 rfl mG2 kG2 bG2 .nil zK (xI (zgY (wM (v:=.ref dWAYS) rfl m_WAYS rfl) (zG xE (zv 0) zA (fun _ _=>rfl)) (fun _ _=>rfl)) (xI (zG zE (zv 1) zA (fun _ _=>rfl)) zB))))
  (zF (zN (zD G3 r3 rfl mG3 kG3 bG3 .nil zK (wL (zD G3 r3 rfl mG3 kG3 bG3 .nil zK (zO (zv 4) (zO (zv 3) zB))) (zO (zv 2) zB))))))))),fun ds d h=>?_⟩
 obtain ⟨i,j,k,a,b,c,e,f,g,rfl,hh,n1,n2,n3,b1,b2,b3,rfl⟩:=h
 have hh':=hh
 obtain ⟨hi,hj,hk,ij,jk⟩:=hh'
 refine S.dropS (s:=.dat .none) (E1.call (R:=zgC) (A1.cons (aA rfl) A1.nil) ⟨i,j,k,rfl,hh,rfl⟩) ?_
 refine aF (s:=.dat (tI (pl (rf i a b)))) (ag (x:=w1 i) (y:=w2 i) (z:=w3 i) (k:=a) (l:=b) (A1.cons (E1.tix t_WAYS (aI (z:=hg i j k) (c:=120+i) (aA rfl) E1.int (show 3<=sizeLine from z3) rfl) (zhT i hi)) (A1.cons (aB (aA rfl) E1.int rfl) A1.nil)) (vU hi n1) (yS (yaY i hi) (by decide)) (yL b1)) ?_
 refine aF (s:=.dat (tI (pl (rf j c e)))) (ag (x:=w1 j) (y:=w2 j) (z:=w3 j) (k:=c) (l:=e) (A1.cons (E1.tix t_WAYS (aI (z:=hg i j k) (c:=120+j) (aA rfl) E1.int (show 3<=sizeLine from z3) rfl) (zhT j hj)) (A1.cons (aB (aA rfl) E1.int rfl) A1.nil)) (vU hj n2) (yS (yaY j hj) (by decide)) (yL b2)) ?_
 refine aF (s:=.dat (tI (pl (rf k f g)))) (ag (x:=w1 k) (y:=w2 k) (z:=w3 k) (k:=f) (l:=g) (A1.cons (E1.tix t_WAYS (aI (z:=hg i j k) (c:=120+k) (aA rfl) E1.int (show 3<=sizeLine from z3) rfl) (zhT k hk)) (A1.cons (aB (aA rfl) E1.int rfl) A1.nil)) (vU hk n3) (yS (yaY k hk) (by decide)) (yL b3)) ?_
 have m1:=vU (k:=a) (l:=b) hi n1
 have m2:=vU (k:=c) (l:=e) hj n2
 have m3:=vU (k:=f) (l:=g) hk n3
 have d1:=wB m1 (kM hi b1)
 have d2:=wB m2 (kM hj b2)
 have d3:=wB m3 (kM hk b3)
 have l1:(pl (rf i a b)).length=4:=by rw [zY];rfl
 have l2:(pl (rf j c e)).length=4:=by rw [zY];rfl
 have l3:(pl (rf k f g)).length=4:=by rw [zY];rfl
 have nq:=vL l2 l3 (xC m2) (xC m3)
 have lq:=xB l2 l3
 have bq:Bd (2 ^ 1602) (qm (pl (rf j c e)) (pl (rf k f g))):=yS (sH l2 l3 d2 d3) (by decide)
 exact aD (s:=.dat (tI (hu (rf i a b) (rf j c e) (rf k f g)))) (aG (ao (ns:=pl (qm (pl (rf j c e)) (pl (rf k f g)))) (ms:=pl (rf i a b)) (A1.cons (ao (ns:=pl (rf k f g)) (ms:=pl (rf j c e)) (A1.cons (aA rfl) (A1.cons (aA rfl) A1.nil)) l3 l2 (xC m3) (xC m2) (yL d3) (yL d2)) (A1.cons (aA rfl) A1.nil)) (by rw [zY];exact lq) l1 (xC nq) (xC m1) (yL (wB nq bq)) (yL d1)) (by rw [zvS rfl rfl rfl m1 m2 m3])) ⟨rfl,yV _⟩
theorem zkI:FnScope ["hanger"] ["hanger"] (zI ziX):=fsK
theorem zoO (F:Fun K "third_letter" "third_letter" ziX f fd) :
  FnOk P w K mg base zW 1 f fd ["hanger"] (yT K znD):=by
 refine jM F zkI (fun ds d h=>?_) (fun cdv A0 outer s0 H0 E0 hr=>?_)
 ·obtain ⟨i,j,k,rfl,_⟩:=h;rfl
 refine ⟨_,(zF (zN (zG yQ (yP (own:=["letter"]) zkI rfl csK (tO yJ) (fun C fp s H nd=>yB (i:=0) nd rfl (Or.inl rfl)) (fun C fp s H=>zdE (ZW.pt (tS (zR jR (zv 0) (zG xE (zv 1) zA (fun _ _=>rfl)) (zT _)) (kD (zR jR (zv 0) (zG xE (zv 1) zA (fun _ _=>rfl)) (zT _)))))) (fun C fp s H=>(zv 0))) zA (fun _ _=>rfl)))),fun ds d h=>?_⟩
 obtain ⟨i,j,k,rfl,⟨hi,hj,hk,ij,jk⟩,rfl⟩:=h
 refine aD (s:=.dat (.str (vQ (xF i j)))) (aj (ds:=((jZ ("xyz" : Str)).filter (kp3 i j)).map id) (i:=0) (ae (E1.compF (ds:=jZ ("xyz" : Str)) (f:=id) (kp:=kp3 i j) (Wk.str (z := "xyz") E1.str (by decide +kernel)) (fun d hd=>?_) (fun d _ _=>(aA rfl)) (show 3<=sizeLine from z3))) E1.int (by rw [ybW hi hj ij];rfl)) ⟨rfl,rfl⟩
 obtain ⟨c,_,rfl⟩:=List.mem_map.mp hd
 exact bZ (aC (bP (aA rfl) (aI (z:=hg i j k) (c:=120+i) (aA rfl) E1.int (show 3<=sizeLine from z3) rfl))) (aC (bP (aA rfl) (aI (z:=hg i j k) (c:=120+j) (aA rfl) E1.int (show 3<=sizeLine from z3) rfl)))
theorem zpZ:FnScope ["one","other"] ["one","other"] (zI zeA):=fsK
theorem zmP (F:Fun K "joined" "joined" zeA f fd) :
  FnOk P w K mg base zW 1 f fd ["one","other"] (yT K zcC):=by
 refine jM F zpZ (fun ds d h=>?_) (fun cdv A0 outer s0 H0 E0 hr=>?_)
 ·obtain ⟨x,y,k,l,m,n,rfl,_⟩:=h;rfl
 refine ⟨_,(zF (zN (zS (xD (zH yD (zH zL (zG zE (zv 0) zA (fun _ _=>rfl)) (zG zE (zv 1) zA (fun _ _=>rfl))) (zH zL (zG zE (zv 0) zA (fun _ _=>rfl)) (zG zE (zv 1) zA (fun _ _=>rfl)))) (xD (zH yI (zH zL (zG zE (zv 0) zA (fun _ _=>rfl)) (zG zE (zv 1) zA (fun _ _=>rfl))) (zH zL (zG zE (zv 0) zA (fun _ _=>rfl)) (zG zE (zv 1) zA (fun _ _=>rfl)))) zB))))),fun ds d h=>?_⟩
 obtain ⟨x,y,k,l,m,n,rfl,bk,bl,bm,bn,hx,hy,rfl⟩:=h
 exact aD (s:=.dat (tI (jo k l m n))) (aK (A1.cons (E1.add (E1.mul (aB (aA rfl) E1.int rfl) (aB (aA rfl) E1.int rfl) (bk.mulOk bn hx hy)) (E1.mul (aB (aA rfl) E1.int rfl) (aB (aA rfl) E1.int rfl) (bl.mulOk bm hx hy))) (A1.cons (E1.sub (E1.mul (aB (aA rfl) E1.int rfl) (aB (aA rfl) E1.int rfl) (bl.mulOk bn hx hy)) (E1.mul (aB (aA rfl) E1.int rfl) (aB (aA rfl) E1.int rfl) (bk.mulOk bm hx hy))) A1.nil)) rfl (vZ (n:=2) rfl z2)) ⟨rfl,rfl⟩
theorem zvE:FnScope ["setting"] ["setting"] (zI ziJ):=fsK
theorem zpC (F:Fun K "taken_back" "taken_back" ziJ f fd) :
  FnOk P w K mg base zW 1 f fd ["setting"] (yT K ziE):=by
 refine jM F zvE (fun ds d h=>?_) (fun cdv A0 outer s0 H0 E0 hr=>?_)
 ·obtain ⟨k,l,rfl,_⟩:=h;rfl
 refine ⟨_,(zF (zN (zS (sJ (vE xZ (zG zE (zv 0) zA (fun _ _=>rfl))) (xI (zG zE (zv 0) zA (fun _ _=>rfl)) zB))))),fun ds d h=>?_⟩
 obtain ⟨k,l,rfl,rfl⟩:=h
 exact aD (s:=.dat (tI [-k,l])) (aK (A1.cons (bv (aB (aA rfl) E1.int rfl)) (A1.cons (aB (aA rfl) E1.int rfl) A1.nil)) rfl (vZ (n:=2) rfl z2)) ⟨rfl,rfl⟩
theorem ybN:FnScope ["hanger"] ["hanger"] (zI zrT):=fsK
theorem zvF (F:Fun K "hand_of" "hand_of" zrT f fd)
  (G:FnOk P w K mg base zW 1 g gd ["hanger"] (yT K znD)) (bG:Binds K gd ["hanger"] []) (kG:PySem.W.keepIn K (.ref g)=true) (mG:mg "third_letter" = some (.ref g)) :
  FnOk P w K mg base zW 2 f fd ["hanger"] (yT K zgD):=by
 refine jM F ybN (fun ds d h=>?_) (fun cdv A0 outer s0 H0 E0 hr=>?_)
 ·obtain ⟨i,j,k,rfl,_⟩:=h;rfl
 have r:=hr.mono (show 1<=1 by decide)
 refine ⟨_,(zF (zN (zdS (zR zbZ (zH xO (zH xO (zG xE (zv 0) zA (fun _ _=>rfl)) (zG xE (zv 0) zA (fun _ _=>rfl))) (zD G r rfl mG kG bG .nil zK (zO (zv 0) zB))) yJ (by with_unfolding_all rfl)) zA (vE xZ zA)))),fun ds d h=>?_⟩
 obtain ⟨i,j,k,rfl,hh,rfl⟩:=h
 obtain ⟨hi,hj,hk,ij,jk⟩:=id hh
 have ho:=yhQ i hi j hj ij
 by_cases h:hd i j=1
 ·rw [h]
  exact aD (s:=.dat (.int 1)) (cB ((aC (E1.inS (x:=hg i j (xF i j)) (y := "xyzxy") (aR (x:=⟨#[120+i,120+j]⟩) (y:=vQ (xF i j)) (aR (x:=⟨#[120+i]⟩) (y:=⟨#[120+j]⟩) (aI (z:=hg i j k) (aA rfl) E1.int (show 3<=sizeLine from z3) rfl) (aI (z:=hg i j k) (aA rfl) E1.int (show 3<=sizeLine from z3) rfl) (show 1+1<=sizeLine from z2)) (E1.call (R:=znD) (A1.cons (aA rfl) A1.nil) ⟨i,j,k,rfl,hh,rfl⟩) (show 2+1<=sizeLine from z3)) E1.str)).eqn (by rw [ho];exact decide_eq_true h)) E1.int) ⟨rfl,rfl⟩
 ·have h':=(zaF i j).resolve_left h
  rw [h']
  exact aD (s:=.dat (.int (-1))) (cC ((aC (E1.inS (x:=hg i j (xF i j)) (y := "xyzxy") (aR (x:=⟨#[120+i,120+j]⟩) (y:=vQ (xF i j)) (aR (x:=⟨#[120+i]⟩) (y:=⟨#[120+j]⟩) (aI (z:=hg i j k) (aA rfl) E1.int (show 3<=sizeLine from z3) rfl) (aI (z:=hg i j k) (aA rfl) E1.int (show 3<=sizeLine from z3) rfl) (show 1+1<=sizeLine from z2)) (E1.call (R:=znD) (A1.cons (aA rfl) A1.nil) ⟨i,j,k,rfl,hh,rfl⟩) (show 2+1<=sizeLine from z3)) E1.str)).eqn (by rw [ho];exact decide_eq_false h)) (bv E1.int)) ⟨rfl,rfl⟩
theorem ydL:FnScope ["hanger"] ["hanger"] (zI zoF):=fsK
theorem zvG (F:Fun K "lean_of" "lean_of" zoF f fd)
  (G:FnOk P w K mg base zW 2 g gd ["hanger"] (yT K zgD)) (bG:Binds K gd ["hanger"] []) (kG:PySem.W.keepIn K (.ref g)=true) (mG:mg "hand_of" = some (.ref g)) :
  FnOk P w K mg base zW 3 f fd ["hanger"] (yT K zfE):=by
 refine jM F ydL (fun ds d h=>?_) (fun cdv A0 outer s0 H0 E0 hr=>?_)
 ·obtain ⟨i,j,k,rfl,_⟩:=h;rfl
 have r:=hr.mono (show 2<=2 by decide)
 refine ⟨_,(zF (zN (zdS (zR wG (zG xE (zv 0) zA (fun _ _=>rfl)) (zG xE (zv 0) zA (fun _ _=>rfl)) (zT _)) zA (zD G r rfl mG kG bG .nil zK (zO (zv 0) zB))))),fun ds d h=>?_⟩
 obtain ⟨i,j,k,rfl,hh,rfl⟩:=h
 by_cases h:i=k
 ·subst h
  rw [show zV i j i=0 by unfold zV;rw [if_pos rfl]]
  exact aD (s:=.dat (.int 0)) (cB ((aC (aQ (x:=vQ i) (y:=vQ i) (aI (z:=hg i j i) (aA rfl) E1.int (show 3<=sizeLine from z3) rfl) (aI (z:=hg i j i) (aA rfl) E1.int (show 3<=sizeLine from z3) rfl))).eqn (decide_eq_true rfl)) E1.int) ⟨rfl,rfl⟩
 ·rw [show zV i j k=hd i j by unfold zV;rw [if_neg h]]
  exact aD (s:=.dat (.int (hd i j))) (cC ((aC (aQ (x:=vQ i) (y:=vQ k) (aI (z:=hg i j k) (aA rfl) E1.int (show 3<=sizeLine from z3) rfl) (aI (z:=hg i j k) (aA rfl) E1.int (show 3<=sizeLine from z3) rfl))).eqn (decide_eq_false (zkJ h))) (E1.call (R:=zgD) (A1.cons (aA rfl) A1.nil) ⟨i,j,k,rfl,hh,rfl⟩)) ⟨rfl,rfl⟩
theorem scTwoParts:FnScope ["hanger","four","upright","numbers","with_last","against_last"] ["hanger","four"] (zI tV):=fsK
theorem zgM (F:Fun K "two_parts" "two_parts" tV f fd)
  (G:FnOk P w K mg base zW 3 g gd ["hanger"] (yT K zfE)) (bG:Binds K gd ["hanger"] []) (kG:PySem.W.keepIn K (.ref g)=true) (mG:mg "lean_of" = some (.ref g))
  (G2:FnOk P w K mg base zW 1 g2 gd2 ["one","other"] (sp2 K qm)) (bG2:Binds K gd2 ["one","other"] []) (kG2:PySem.W.keepIn K (.ref g2)=true) (mG2:mg "product" = some (.ref g2))
  (G3:FnOk P w K mg base zW 3 g3 gd3 ["four"] (spT K xM pl)) (bG3:Binds K gd3 ["four"] []) (kG3:PySem.W.keepIn K (.ref g3)=true) (mG3:mg "plain" = some (.ref g3))
  (G4:FnOk P w K mg base zW 2 g4 gd4 ["hanger"] (yT K zgD)) (bG4:Binds K gd4 ["hanger"] []) (kG4:PySem.W.keepIn K (.ref g4)=true) (mG4:mg "hand_of" = some (.ref g4))
  (G5:FnOk P w K mg base zW 1 g5 gd5 ["hanger"] (yT K znD)) (bG5:Binds K gd5 ["hanger"] []) (kG5:PySem.W.keepIn K (.ref g5)=true) (mG5:mg "third_letter" = some (.ref g5)) (m_tuple:mg "tuple" = none) (m_PLACES:mg "PLACES" = some (.ref dPLACES)) (t_PLACES:TabI K dPLACES zhH) :
  FnOk P w K mg base zW 4 f fd ["hanger","four"] (yT K ydN):=by
 refine jM F scTwoParts (fun ds d h=>?_) (fun cdv A0 outer s0 H0 E0 hr=>?_)
 ·obtain ⟨i,j,k,ns,rfl,_⟩:=h;rfl
 have r:=hr.mono (show 3<=3 by decide)
 have r2:=hr.mono (show 1<=3 by decide)
 have r3:=hr.mono (show 3<=3 by decide)
 have r4:=hr.mono (show 2<=3 by decide)
 have r5:=hr.mono (show 1<=3 by decide)
 refine ⟨_,(zC (zM (i:=2) scTwoParts.nd rfl (Or.inl rfl) (xX (yC (yC (yC (yC zB))))))
  (zC (zaA (vE xZ (zD G r rfl mG kG bG .nil zK (zO (zv 0) zB))) (sY (zv 2) (zcT (wM (v:=.ref dPLACES) rfl m_PLACES rfl) (zG xE (zv 0) zA (fun _ _=>rfl)) (fun _ _=>rfl)) jW (fun _=>rfl)))
  (zC (zM (i:=3) scTwoParts.nd rfl (Or.inl rfl) (zD G2 r2 rfl mG2 kG2 bG2 .nil zK (wL (zD G3 r3 rfl mG3 kG3 bG3 .nil zK (zO (zv 1) zB)) (wL (yH yF rfl m_tuple (by rfl) (zO (zv 2) zB)) zB))))
  (zC (zM (i:=4) scTwoParts.nd rfl (Or.inl rfl) (zS (xI (zG zE (zv 3) (zcT (wM (v:=.ref dPLACES) rfl m_PLACES rfl) (zG xE (zv 0) zA (fun _ _=>rfl)) (fun _ _=>rfl)) (fun _ _=>rfl)) (xI (zG zE (zv 3) zA (fun _ _=>rfl)) zB))))
  (zC (zM (i:=5) scTwoParts.nd rfl (Or.inl rfl) (zS (xD (zH zL (zD G4 r4 rfl mG4 kG4 bG4 .nil zK (zO (zv 0) zB)) (zG zE (zv 3) (zcT (wM (v:=.ref dPLACES) rfl m_PLACES rfl) (zD G5 r5 rfl mG5 kG5 bG5 .nil zK (zO (zv 0) zB)) (fun _ _=>rfl)) (fun _ _=>rfl))) (xI (zG zE (zv 3) (zcT (wM (v:=.ref dPLACES) rfl m_PLACES rfl) (zG xE (zv 0) zA (fun _ _=>rfl)) (fun _ _=>rfl)) (fun _ _=>rfl)) zB))))
  (zF (zN (zS (zO (zv 4) (zO (zv 5) zB)))))))))),fun ds d h=>?_⟩
 obtain ⟨i,j,k,ns,rfl,hh,l4,nz,bd,rfl⟩:=h
 obtain ⟨hi,hj,hk,ij,jk⟩:=id hh
 obtain ⟨ht,_,_⟩:=zoD hi hj ij
 have le:=kL i j k
 have b1:Bd (2 ^ 1) [-zV i j k,1]:=by
  intro n hn
  simp only [List.mem_cons,List.mem_nil_iff,or_false] at hn
  rcases hn with rfl|rfl
  ·rw [Int.natAbs_neg];rcases le with e|e|e <;> rw [e] <;> decide
  ·decide
 have lp:(pl ns).length=4:=by rw [zY];exact l4
 have lq:(wA j (zV i j k) ns).length=4:=xB lp rfl
 have bq:Bd (2 ^ 1003) (wA j (zV i j k) ns):=yS (sH lp rfl (wB nz bd) (kM hj b1)) (by decide)
 refine bO (ds:=[1,0,0,0].map .int) (bQ (by walk_at "au3") rfl (vZ (n:=4) rfl z4)) (yV _) ?_
 refine S.seq (M:=fun τ'=>τ'=[.dat (.str (hg i j k)),.dat (tI ns),.own ((rf j (-zV i j k) 1).map .int),.un,.un,.un]) ?_ fun τ' eτ=>?_
 ·refine S.setit (i:=2) (ds:=[1,0,0,0].map .int) (C:=fun d=>d = .int (-zV i j k)) (P:=fun n=>n=((j+1:Nat):Int)) rfl (E.mono (bv (E1.call (R:=zfE) (A1.cons (aA rfl) A1.nil) ⟨i,j,k,rfl,hh,rfl⟩)) fun s e5=>⟨_,e5.symm,rfl,rfl⟩) (EI.of (bj t_PLACES (aI (z:=hg i j k) (c:=120+j) (aA rfl) E1.int (show 3<=sizeLine from z3) rfl) (qY j hj)) (by omega)) (fun n hn=>by subst hn;exact ⟨by omega,by show ((j+1:Nat):Int)<4;omega⟩) fun d n hd hn=>?_
  subst hd hn
  rw [Int.toNat_natCast,zoC,yaH hj];rfl
 subst eτ
 refine aF (s:=.dat (tI (wA j (zV i j k) ns))) (E1.c22 (fn:=qm) (ns:=pl ns) (ms:=rf j (-zV i j k) 1) (A1.cons (E1.cT (ns:=ns) (A1.cons (aA rfl) A1.nil) (by rw [l4];decide) ⟨l4,nz,xY bd⟩) (A1.cons (aT (A1.cons (ai rfl) A1.nil)) A1.nil)) lp rfl (xY (wB nz bd)) (xY (kM hj b1))) ?_
 refine aF (s:=.dat (tI [(wA j (zV i j k) ns).getD (i+1) 0,(wA j (zV i j k) ns).getD 0 0])) (aK (A1.cons (aB (i:=((i+1:Nat):Int)) (aA rfl) (aG (bj t_PLACES (aI (z:=hg i j k) (c:=120+i) (aA rfl) E1.int (show 3<=sizeLine from z3) rfl) (qY i hi)) (by congr 2)) (sU lq (by omega))) (A1.cons (aB (i:=((0:Nat):Int)) (aA rfl) E1.int (sU lq (by decide))) A1.nil)) rfl (vZ (n:=2) rfl z2)) ?_
 have bh:Bt (hd i j) 1:=by unfold Bt;rcases zaF i j with e|e <;> rw [e] <;> decide
 have bt3:Bt ((wA j (zV i j k) ns).getD (xF i j+1) 0) 1003:=bq _ (wI lq (by omega))
 refine aF (s:=.dat (tI [hd i j*(wA j (zV i j k) ns).getD (xF i j+1) 0,(wA j (zV i j k) ns).getD (j+1) 0])) (aK (A1.cons (E1.mul (E1.call (R:=zgD) (A1.cons (aA rfl) A1.nil) ⟨i,j,k,rfl,hh,rfl⟩) (aB (i:=((xF i j+1:Nat):Int)) (aA rfl) (aG (bj t_PLACES (E1.call (R:=znD) (A1.cons (aA rfl) A1.nil) ⟨i,j,k,rfl,hh,rfl⟩) (qY (xF i j) ht)) (by congr 2)) (sU lq (by omega))) (bh.mulOk bt3)) (A1.cons (aB (i:=((j+1:Nat):Int)) (aA rfl) (aG (bj t_PLACES (aI (z:=hg i j k) (c:=120+j) (aA rfl) E1.int (show 3<=sizeLine from z3) rfl) (qY j hj)) (by congr 2)) (sU lq (by omega))) A1.nil)) rfl (vZ (n:=2) rfl z2)) ?_
 exact aD (aK (A1.cons (aA rfl) (A1.cons (aA rfl) A1.nil)) rfl (vZ (n:=2) rfl z2)) ⟨rfl,rfl⟩
theorem zmM:FnScope ["hanger","middle"] ["hanger","middle"] (zI rP):=fsK
theorem ziR (F:Fun K "leaning" "leaning" rP f fd)
  (G:FnOk P w K mg base zW 3 g gd ["setting"] (zbP K)) (bG:Binds K gd ["setting"] []) (kG:PySem.W.keepIn K (.ref g)=true) (mG:mg "plain_setting" = some (.ref g))
  (G2:FnOk P w K mg base zW 1 g2 gd2 ["one","other"] (yT K zcC)) (bG2:Binds K gd2 ["one","other"] []) (kG2:PySem.W.keepIn K (.ref g2)=true) (mG2:mg "joined" = some (.ref g2))
  (G3:FnOk P w K mg base zW 3 g3 gd3 ["hanger"] (yT K zfE)) (bG3:Binds K gd3 ["hanger"] []) (kG3:PySem.W.keepIn K (.ref g3)=true) (mG3:mg "lean_of" = some (.ref g3)) :
  FnOk P w K mg base zW 4 f fd ["hanger","middle"] (yT K znN):=by
 refine jM F zmM (fun ds d h=>?_) (fun cdv A0 outer s0 H0 E0 hr=>?_)
 ·obtain ⟨x,i,j,k,m,n,rfl,_⟩:=h;rfl
 have r:=hr.mono (show 3<=3 by decide)
 have r2:=hr.mono (show 1<=3 by decide)
 have r3:=hr.mono (show 3<=3 by decide)
 refine ⟨_,(zF (zN (zD G r rfl mG kG bG .nil zK (wL (zD G2 r2 rfl mG2 kG2 bG2 .nil zK (zO (zv 1) (wR (zS (wL (zD G3 r3 rfl mG3 kG3 bG3 .nil zK (zO (zv 0) zB)) (yC zB))) zB))) zB)))),fun ds d h=>?_⟩
 obtain ⟨x,i,j,k,m,n,rfl,hh,nz,bm,bn,hx,rfl⟩:=h
 have bl:Bt (zV i j k) 1:=by unfold Bt;rcases kL i j k with e|e|e <;> rw [e] <;> decide
 have b1:Bt (1:Int) 1:=by unfold Bt;decide
 have hn:=zkG (k:=m) (l:=n) (m:=zV i j k) (n:=1) nz (.inr (by decide))
 have s1:Bt (m*1+n*zV i j k) (x+2):=((bm.mul b1).add (bn.mul bl)).up (by omega)
 have s2:Bt (n*1 - m*zV i j k) (x+2):=((bn.mul b1).sub (bm.mul bl)).up (by omega)
 exact aD (s:=.dat (tI (lea i j k m n))) (ap (A1.cons (E1.call (R:=zcC) (ds:=[tI [m,n],tI [zV i j k,1]]) (A1.cons (aA rfl) (A1.cons (aK (A1.cons (E1.call (R:=zfE) (A1.cons (aA rfl) A1.nil) ⟨i,j,k,rfl,hh,rfl⟩) (A1.cons E1.int A1.nil)) rfl (vZ (n:=2) rfl z2)) A1.nil)) ⟨x,1,m,n,_,1,rfl,bm,bn,bl,b1,by omega,by decide,rfl⟩) A1.nil) (nz2 hn) (sm2 s1 s2 (by omega))) ⟨rfl,yV _⟩
theorem zrC:FnScope ["hanger","parts"] ["hanger","parts"] (zI zeC):=fsK
theorem znT (F:Fun K "locked" "locked" zeC f fd)
  (G:FnOk P w K mg base zW 3 g gd ["setting"] (zbP K)) (bG:Binds K gd ["setting"] []) (kG:PySem.W.keepIn K (.ref g)=true) (mG:mg "plain_setting" = some (.ref g))
  (G2:FnOk P w K mg base zW 4 g2 gd2 ["hanger","middle"] (yT K znN)) (bG2:Binds K gd2 ["hanger","middle"] []) (kG2:PySem.W.keepIn K (.ref g2)=true) (mG2:mg "leaning" = some (.ref g2)) :
  FnOk P w K mg base zW 5 f fd ["hanger","parts"] (yT K yaC):=by
 refine jM F zrC (fun ds d h=>?_) (fun cdv A0 outer s0 H0 E0 hr=>?_)
 ·obtain ⟨x,i,j,k,p,q,r,s,rfl,_⟩:=h;rfl
 have r:=hr.mono (show 3<=4 by decide)
 have r2:=hr.mono (show 4<=4 by decide)
 refine ⟨_,(zC (yM (zR (vG hr.units) (zG zE (zv 1) zA (fun _ _=>rfl)) (zS (yC (yC zB))) (zT _)) (zF (zN (zS (zQ yJ (wL (zD G2 r2 rfl mG2 kG2 bG2 .nil zK (zO (zv 0) (wR (zS (yC (yC zB))) zB))) (zQ yJ (wL (zD G r rfl mG kG bG .nil zK (xI (zG zE (zv 1) zA (fun _ _=>rfl)) zB)) zB))))))) zX)
  (zF (zN (zS (zQ yJ (wL (zD G2 r2 rfl mG2 kG2 bG2 .nil zK (zO (zv 0) (wR (zS (yC (yC zB))) zB))) (zQ yJ (wL (zD G r rfl mG kG bG .nil zK (xI (zG zE (zv 1) zA (fun _ _=>rfl)) zB)) zB)))))))),fun ds d h=>?_⟩
 obtain ⟨x,i,j,k,p,q,r,s,rfl,hh,nz,bp,bq,br,bs,hx,rfl⟩:=h
 by_cases h:r=0/\s=0
 ·have e:lok i j k p q r s = .tuple [.str "lock",tI (lea i j k 0 1),.str "with",tI (ps p q)]:=by unfold lok;rw [if_pos h]
  rw [e]
  obtain ⟨rfl,rfl⟩:=h
  refine aW (b:=true) ((aC (am (d:=tI [0,0]) (e:=tI [0,0]) (aB (aA rfl) E1.int rfl) (by (walk_at "au3")) rfl rfl yE yE)).eqn (by rw [jK];rfl)) (fun _=>?_) (fun z=>by cases z)
  exact aD (aK (A1.cons E1.str (A1.cons (E1.call (R:=znN) (ds:=[.str (hg i j k),tI [0,1]]) (A1.cons (aA rfl) (A1.cons (by (walk_at "au3")) A1.nil)) ⟨1,i,j,k,0,1,rfl,hh,by decide,by unfold Bt;decide,by unfold Bt;decide,by decide,rfl⟩) (A1.cons E1.str (A1.cons (ap (A1.cons (aB (aA rfl) E1.int rfl) A1.nil) (nz2 (nz ⟨rfl,rfl⟩)) (sm2 bp bq (by omega))) A1.nil)))) rfl (vZ (n:=4) rfl z4)) ⟨rfl,rfl⟩
 ·have e:lok i j k p q r s = .tuple [.str "lock",tI (lea i j k 1 0),.str "against",tI (ps r s)]:=by unfold lok;rw [if_neg h]
  rw [e]
  have hrs:r≠0\/s≠0:=by omega
  refine aJ ((aC (am (d:=tI [r,s]) (e:=tI [0,0]) (aB (aA rfl) E1.int rfl) (by (walk_at "au3")) rfl rfl yE yE)).eqn (by rw [jK];exact decide_eq_false (fun z=>h (by simpa using z)))) ?_
  exact aD (aK (A1.cons E1.str (A1.cons (E1.call (R:=znN) (ds:=[.str (hg i j k),tI [1,0]]) (A1.cons (aA rfl) (A1.cons (by (walk_at "au3")) A1.nil)) ⟨1,i,j,k,1,0,rfl,hh,by decide,by unfold Bt;decide,by unfold Bt;decide,by decide,rfl⟩) (A1.cons E1.str (A1.cons (ap (A1.cons (aB (aA rfl) E1.int rfl) A1.nil) (nz2 hrs) (sm2 br bs (by omega))) A1.nil)))) rfl (vZ (n:=4) rfl z4)) ⟨rfl,rfl⟩
theorem scSBy:FnScope ["hanger","parts","middle","ahead","behind","first","last"] ["hanger","parts","middle"] (zI yeJ):=fsK
theorem yeV (F:Fun K "settings_by" "settings_by" yeJ f fd)
  (G:FnOk P w K mg base zW 1 g gd ["one","other"] (yT K zcC)) (bG:Binds K gd ["one","other"] []) (kG:PySem.W.keepIn K (.ref g)=true) (mG:mg "joined" = some (.ref g))
  (G2:FnOk P w K mg base zW 1 g2 gd2 ["setting"] (yT K ziE)) (bG2:Binds K gd2 ["setting"] []) (kG2:PySem.W.keepIn K (.ref g2)=true) (mG2:mg "taken_back" = some (.ref g2))
  (G3:FnOk P w K mg base zW 3 g3 gd3 ["setting"] (zbP K)) (bG3:Binds K gd3 ["setting"] []) (kG3:PySem.W.keepIn K (.ref g3)=true) (mG3:mg "plain_setting" = some (.ref g3))
  (G4:FnOk P w K mg base zW 4 g4 gd4 ["hanger","middle"] (yT K znN)) (bG4:Binds K gd4 ["hanger","middle"] []) (kG4:PySem.W.keepIn K (.ref g4)=true) (mG4:mg "leaning" = some (.ref g4)) :
  FnOk P w K mg base zW 5 f fd ["hanger","parts","middle"] (yT K zyL):=by
 refine jM F scSBy (fun ds d h=>?_) (fun cdv A0 outer s0 H0 E0 hr=>?_)
 ·obtain ⟨i,j,k,p,q,r,s,m,n,rfl,_⟩:=h;rfl
 have r:=hr.mono (show 1<=4 by decide)
 have r2:=hr.mono (show 1<=4 by decide)
 have r3:=hr.mono (show 3<=4 by decide)
 have r4:=hr.mono (show 4<=4 by decide)
 refine ⟨_,(zC (zM (i:=3) scSBy.nd rfl (Or.inl rfl) (zS (xD (zH zL (zG zE (zG zE (zv 1) zA (fun _ _=>rfl)) zA (fun _ _=>rfl)) (zG zE (zv 2) zA (fun _ _=>rfl))) (xD (zH zL (zG zE (zG zE (zv 1) zA (fun _ _=>rfl)) zA (fun _ _=>rfl)) (zG zE (zv 2) zA (fun _ _=>rfl))) zB))))
  (zC (zM (i:=4) scSBy.nd rfl (Or.inl rfl) (zS (xD (zH zL (zG zE (zG zE (zv 1) zA (fun _ _=>rfl)) zA (fun _ _=>rfl)) (zG zE (zv 2) zA (fun _ _=>rfl))) (xD (zH zL (zG zE (zG zE (zv 1) zA (fun _ _=>rfl)) zA (fun _ _=>rfl)) (zG zE (zv 2) zA (fun _ _=>rfl))) zB))))
  (zC (zM (i:=5) scSBy.nd rfl (Or.inl rfl) (zS (xD (zH yD (zG zE (zv 3) zA (fun _ _=>rfl)) (zG zE (zv 4) zA (fun _ _=>rfl))) (xD (zH yD (zG zE (zv 3) zA (fun _ _=>rfl)) (zG zE (zv 4) zA (fun _ _=>rfl))) zB))))
  (zC (yM (zR (vG hr.units) (zv 5) (zS (yC (yC zB))) (zT _)) (zF (zM (i:=5) scSBy.nd rfl (Or.inl rfl) (zD G r rfl mG kG bG .nil zK (zO (zv 3) (wR (zS (yC (yC zB))) zB))))) zX)
  (zC (zM (i:=6) scSBy.nd rfl (Or.inl rfl) (zD G r rfl mG kG bG .nil zK (zO (zv 3) (wL (zD G2 r2 rfl mG2 kG2 bG2 .nil zK (zO (zv 5) zB)) zB))))
  (zF (zN (zS (wL (zD G3 r3 rfl mG3 kG3 bG3 .nil zK (zO (zv 5) zB)) (wL (zD G4 r4 rfl mG4 kG4 bG4 .nil zK (zO (zv 0) (zO (zv 2) zB))) (wL (zD G3 r3 rfl mG3 kG3 bG3 .nil zK (zO (zv 6) zB)) zB))))))))))),fun ds d h=>?_⟩
 obtain ⟨i,j,k,p,q,r,s,m,n,rfl,hh,nz,hm,bp,bq,br,bs,bm,bn,rfl⟩:=h
 have ba:Bt (p*m) 3010:=bp.mul bm
 have bb:Bt (q*m) 3010:=bq.mul bm
 have bc:Bt (r*n) 3010:=br.mul bn
 have bd:Bt (s*n) 3010:=bs.mul bn
 have b0:Bt (0:Int) 1:=by unfold Bt;decide
 have b1:Bt (1:Int) 1:=by unfold Bt;decide
 have hf:=zcP (r:=r) (s:=s) (n:=n) nz hm
 have bf:Bt (xU p q r s m n).1 3013/\Bt (xU p q r s m n).2 3013:=by
  unfold xU
  split
  ·exact ⟨((ba.mul b0).add (bb.mul b1)).up (by decide),((bb.mul b0).sub (ba.mul b1)).up (by decide)⟩
  ·exact ⟨(ba.add bc).up (by decide),(bb.add bd).up (by decide)⟩
 refine aF (s:=.dat (tI [p*m,q*m])) (aK (A1.cons (E1.mul (aB (aB (aA rfl) E1.int rfl) E1.int rfl) (aB (aA rfl) E1.int rfl) (bp.mulOk bm)) (A1.cons (E1.mul (aB (aB (aA rfl) E1.int rfl) E1.int rfl) (aB (aA rfl) E1.int rfl) (bq.mulOk bm)) A1.nil)) rfl (vZ (n:=2) rfl z2)) ?_
 refine aF (s:=.dat (tI [r*n,s*n])) (aK (A1.cons (E1.mul (aB (aB (aA rfl) E1.int rfl) E1.int rfl) (aB (aA rfl) E1.int rfl) (br.mulOk bn)) (A1.cons (E1.mul (aB (aB (aA rfl) E1.int rfl) E1.int rfl) (aB (aA rfl) E1.int rfl) (bs.mulOk bn)) A1.nil)) rfl (vZ (n:=2) rfl z2)) ?_
 refine aF (s:=.dat (tI [p*m+r*n,q*m+s*n])) (aK (A1.cons (E1.add (aB (aA rfl) E1.int rfl) (aB (aA rfl) E1.int rfl)) (A1.cons (E1.add (aB (aA rfl) E1.int rfl) (aB (aA rfl) E1.int rfl)) A1.nil)) rfl (vZ (n:=2) rfl z2)) ?_
 refine S.seq (M:=fun τ'=>τ'=[.dat (.str (hg i j k)),.dat (.tuple [tI [p,q],tI [r,s]]),.dat (tI [m,n]),.dat (tI [p*m,q*m]),.dat (tI [r*n,s*n]),.dat (tI [(xU p q r s m n).1,(xU p q r s m n).2]),.un]) ?_ fun τ' eτ=>?_
 ·refine af ((aC (am (d:=tI [p*m+r*n,q*m+s*n]) (e:=tI [0,0]) (aA rfl) (by (walk_at "au3")) rfl rfl yE yE)).eqn jK) (fun h=>?_) (fun h=>?_)
  ·have h:p*m+r*n=0/\q*m+s*n=0:=by simpa using h
   have e:xU p q r s m n=(p*m*0+q*m*1,q*m*0 - p*m*1):=by unfold xU;rw [if_pos h]
   rw [e]
   exact S.asg1 (E1.call (R:=zcC) (ds:=[tI [p*m,q*m],tI [1,0]]) (A1.cons (aA rfl) (A1.cons (by (walk_at "au3")) A1.nil)) ⟨3010,1,_,_,1,0,rfl,ba,bb,b1,b0,by decide,by decide,rfl⟩) rfl
  ·have h:¬ (p*m+r*n=0/\q*m+s*n=0):=by simpa using h
   have e:xU p q r s m n=(p*m+r*n,q*m+s*n):=by unfold xU;rw [if_neg h]
   rw [e]
   exact S.next rfl
 subst eτ
 unfold sby
 generalize xU p q r s m n=f at *
 obtain ⟨f0,f1⟩:=f
 obtain ⟨c0,c1⟩:=bf
 have na:p*m≠0\/q*m≠0:=nz.imp (fun z=>Int.mul_ne_zero z hm) (fun z=>Int.mul_ne_zero z hm)
 have nl:=zkG (k:=p*m) (l:=q*m) (m := -f0) (n:=f1) na (by rcases hf with z|z;exact .inl (by simpa using z);exact .inr z)
 have cn:Bt (-f0) 3013:=by unfold Bt at *;rw [Int.natAbs_neg];exact c0
 refine aF (s:=.dat (tI [p*m*f1+q*m * -f0,q*m*f1 - p*m * -f0])) (E1.call (R:=zcC) (ds:=[tI [p*m,q*m],tI [-f0,f1]]) (A1.cons (aA rfl) (A1.cons (E1.call (R:=ziE) (A1.cons (aA rfl) A1.nil) ⟨f0,f1,rfl,rfl⟩) A1.nil)) ⟨3010,3013,_,_,_,_,rfl,ba,bb,cn,c1,by decide,by decide,rfl⟩) ?_
 have s1:Bt (p*m*f1+q*m * -f0) 6024:=((ba.mul c1).add (bb.mul cn)).up (by decide)
 have s2:Bt (q*m*f1 - p*m * -f0) 6024:=((bb.mul c1).sub (ba.mul cn)).up (by decide)
 exact aD (aK (A1.cons (ap (A1.cons (aA rfl) A1.nil) (nz2 hf) (sm2 c0 c1 (by decide))) (A1.cons (E1.call (R:=znN) (ds:=[.str (hg i j k),tI [m,n]]) (A1.cons (aA rfl) (A1.cons (aA rfl) A1.nil)) ⟨2010,i,j,k,m,n,rfl,hh,.inl hm,bm,bn,by decide,rfl⟩) (A1.cons (ap (A1.cons (aA rfl) A1.nil) (nz2 nl) (sm2 s1 s2 (by decide))) A1.nil))) rfl (vZ (n:=3) rfl z3)) ⟨rfl,rfl⟩
theorem scParted:FnScope ["way","four","along","twist","swing"] ["way","four"] (zI zdF):=fsK
theorem zmF (F:Fun K "parted" "parted" zdF f fd)
  (G:FnOk P w K mg base zW 1 g gd ["one","other"] (zfS K)) (bG:Binds K gd ["one","other"] []) (kG:PySem.W.keepIn K (.ref g)=true) (mG:mg "sum_of_products" = some (.ref g))
  (G2:FnOk P w K mg base zW 4 g2 gd2 ["way","setting"] (qZ K)) (bG2:Binds K gd2 ["way","setting"] []) (kG2:PySem.W.keepIn K (.ref g2)=true) (mG2:mg "about" = some (.ref g2))
  (G3:FnOk P w K mg base zW 4 g3 gd3 ["one","other"] (rV K)) (bG3:Binds K gd3 ["one","other"] []) (kG3:PySem.W.keepIn K (.ref g3)=true) (mG3:mg "then" = some (.ref g3))
  (G4:FnOk P w K mg base zW 4 g4 gd4 ["four"] (spT K xM (fun ns=>pl (cj ns)))) (bG4:Binds K gd4 ["four"] []) (kG4:PySem.W.keepIn K (.ref g4)=true) (mG4:mg "back" = some (.ref g4)) :
  FnOk P w K mg base zW 5 f fd ["way","four"] (yT K zeK):=by
 refine jM F scParted (fun ds d h=>?_) (fun cdv A0 outer s0 H0 E0 hr=>?_)
 ·obtain ⟨x,y,z,a,b,c,e,rfl,_⟩:=h;rfl
 have r:=hr.mono (show 1<=4 by decide)
 have r2:=hr.mono (show 4<=4 by decide)
 have r3:=hr.mono (show 4<=4 by decide)
 have r4:=hr.mono (show 4<=4 by decide)
 refine ⟨_,(zC (zM (i:=2) scParted.nd rfl (Or.inl rfl) (zD G r rfl mG kG bG .nil zK (zO (zv 0) (xI (vV zcY (zv 1) (kJ zA) kF) zB))))
  (zC (yM (ZW.pt (tS (zR wG (zG zE (zv 1) zA (fun _ _=>rfl)) zA (zT _)) (kD (zR wG (zv 2) zA (zT _))))) (zF (zN (zS (zQ yJ zB)))) zX)
  (zC (zM (i:=3) scParted.nd rfl (Or.inl rfl) (zD G2 r2 rfl mG2 kG2 bG2 .nil zK (zO (zv 0) (wR (zS (zO (zv 2) (xD (zH zL (zG zE (zv 1) zA (fun _ _=>rfl)) (zD G r rfl mG kG bG .nil zK (zO (zv 0) (zO (zv 0) zB)))) zB))) zB))))
  (zC (zM (i:=4) scParted.nd rfl (Or.inl rfl) (zD G3 r3 rfl mG3 kG3 bG3 .nil zK (wL (zD G4 r4 rfl mG4 kG4 bG4 .nil zK (zO (zv 3) zB)) (zO (zv 1) zB))))
  (zF (zN (zS (zQ yJ (zO (zv 4) (zO (zv 3) zB)))))))))),fun ds d h=>?_⟩
 obtain ⟨x,y,z,a,b,c,e,rfl,nw,nz,b1,b2,rfl⟩:=h
 obtain ⟨bx,by',bz⟩:=ziO b1
 obtain ⟨ba,bb,bc,be⟩:=qA b2
 have hg:Bt (wX [x,y,z] [b,c,e]) 703:=by rw [ztW];exact Bt.up (x:=_) (by walk_at "bt") (by decide)
 have hn:Bt (wX [x,y,z] [x,y,z]) 403:=by rw [ztW];exact Bt.up (x:=_) (by walk_at "bt") (by decide)
 have s1:=xY b1
 have s2:=xY (zkK b2)
 refine aF (bI (ns:=[x,y,z]) (ms:=[b,c,e]) (by (walk_at "au3")) (by show 3<=1000;decide) rfl s1 s2) ?_
 refine aW (by (walk_at "au3")) (fun h=>?_) (fun h=>?_)
 ·have hl:a=0/\wX [x,y,z] [b,c,e]=0:=by simpa using h
  refine aD (s:=.dat (prt x y z a b c e)) ?_ ⟨rfl,by unfold prt;rw [if_pos hl];rfl⟩
  unfold prt;rw [if_pos hl]
  walk_at "au3"
 have hl:¬ (a=0/\wX [x,y,z] [b,c,e]=0):=by simpa using h
 have nt:=zpV (a:=a) (b:=b) (c:=c) (e:=e) nw hl
 have bt:Bd (2 ^ 903) (tw0 x y z a b c e):=zdT (Bt.up (x:=_) (by walk_at "bt") (by decide)) (Bt.up (x:=_) (by walk_at "bt") (by decide)) (Bt.up (x:=_) (by walk_at "bt") (by decide)) (Bt.up (x:=_) (by walk_at "bt") (by decide))
 refine aF (ag (x:=x) (y:=y) (z:=z) (k:=wX [x,y,z] [b,c,e]) (l:=a*wX [x,y,z] [x,y,z]) (by (walk_at "au3");all_goals first|assumption|(show 3<=1000;decide)) nt (yL b1) (ybJ (Bt.up (x:=_) (by walk_at "bt") (by decide)) (Bt.up (x:=_) (by walk_at "bt") (by decide)))) ?_
 have lt:(pl (tw0 x y z a b c e)).length=4:=by rw [zY];rfl
 have np:=xC nt
 have bp:=wB nt bt
 refine aF (ao (ns:=pl (cj (pl (tw0 x y z a b c e)))) (ms:=[a,b,c,e]) (A1.cons (E1.cT (ns:=pl (tw0 x y z a b c e)) (A1.cons (aA rfl) A1.nil) (by rw [lt];decide) ⟨lt,np,xY bp⟩) (A1.cons (aA rfl) A1.nil)) (by rw [zY];exact rN lt) rfl (xC (rJ lt np)) nz (yL (wB (rJ lt np) (zzD lt bp))) (yL b2)) ?_
 refine aD (s:=.dat (prt x y z a b c e)) ?_ ⟨rfl,by unfold prt;rw [if_neg hl];simp only [tF,xR,yV,Bool.and_self]⟩
 unfold prt;rw [if_neg hl]
 walk_at "au3"
theorem zsL:FnScope ["numbers"] ["numbers"] (zI zpM):=fsK
theorem zuQ (F:Fun K "show_row" "show_row" zpM f fd) (dig:L2.DigN K) (m_str:mg "str" = none) :
  FnOk P w K mg base zW 1 f fd ["numbers"] (yT K zbR):=by
 refine jM F zsL (fun ds d h=>?_) (fun cdv A0 outer s0 H0 E0 hr=>?_)
 ·obtain ⟨ns,rfl,_⟩:=h;rfl
 refine ⟨_,(zF (zN (zdM yJ (yP (own:=["number"]) zsL rfl csK (vA (zv 0)) (fun C fp s H nd=>yB (i:=0) nd rfl (Or.inl rfl)) (fun C fp s H=>yR) (fun C fp s H=>(yH (kE rfl dig) rfl m_str (by rfl) (zO (zv 0) zB))))))),fun ds d h=>?_⟩
 obtain ⟨ns,rfl,bg,l4,rfl⟩:=h
 exact aD (s:=.dat (.str (jn spa (ns.map vK)))) (E1.join (ys:=ns.map vK) (E1.str (x:=spa)) (aG (aU (ds:=ns.map .int) (f:=fun d=>match d with | .int i=>.str (vK i)|d=>d) (Wk.tup (aA rfl)) (fun d hd=>by
  obtain ⟨n,hn,rfl⟩:=List.mem_map.mp hd
  exact (bD (A1.cons (aA rfl) A1.nil) (bg n hn).str)) (by rw [List.length_map];exact Nat.le_trans l4 z4)) (by rw [List.map_map,List.map_map];rfl)) (Nat.le_trans (zjN bg l4 (by decide)) (by decide))) ⟨rfl,rfl⟩
theorem ydJ:FnScope ["fraction"] ["fraction"] (zI zoW):=fsK
theorem zxD (F:Fun K "show_number" "show_number" zoW f fd) (dig:L2.DigN K) (m_str:mg "str" = none) :
  FnOk P w K mg base zW 1 f fd ["fraction"] (yT K zsI):=by
 refine jM F ydJ (fun ds d h=>?_) (fun cdv A0 outer s0 H0 E0 hr=>?_)
 ·obtain ⟨q,rfl,_⟩:=h;rfl
 refine ⟨_,(zC (yM (zR wG (zG zE (zv 0) zA (fun _ _=>rfl)) zA (zT _)) (zF (zN (yH (kE rfl dig) rfl m_str (by rfl) (xI (zG zE (zv 0) zA (fun _ _=>rfl)) zB)))) zX)
  (zF (zN (zH xO (zH xO (yH (kE rfl dig) rfl m_str (by rfl) (xI (zG zE (zv 0) zA (fun _ _=>rfl)) zB)) yJ) (yH (kE rfl dig) rfl m_str (by rfl) (xI (zG zE (zv 0) zA (fun _ _=>rfl)) zB)))))),fun ds d h=>?_⟩
 obtain ⟨q,rfl,hq,rfl⟩:=h
 have l1:=qX hq.1
 have l2:=qX hq.2.1
 by_cases h1:q.2=1
 ·refine aW (b:=true) ((aC (E1.eq (aB (aA rfl) E1.int rfl) E1.int)).eqn (decide_eq_true h1)) (fun _=>?_) (fun z=>by cases z)
  have e:tqF q=vK q.1:=by unfold tqF;rw [if_pos h1]
  rw [e]
  exact aD (s:=.dat (.str (vK q.1))) (bD (A1.cons (aB (aA rfl) E1.int rfl) A1.nil) hq.1.str) ⟨rfl,rfl⟩
 ·refine aJ ((aC (E1.eq (aB (aA rfl) E1.int rfl) E1.int)).eqn (decide_eq_false h1)) ?_
  have e:tqF q=vK q.1++sla++vK q.2:=by unfold tqF;rw [if_neg h1]
  rw [e]
  have e1:sla.length=1:=rfl
  have sl:=ygP
  exact aD (s:=.dat (.str (vK q.1++sla++vK q.2))) (aR (aR (bD (A1.cons (aB (aA rfl) E1.int rfl) A1.nil) hq.1.str) (E1.str (x:=sla)) (by omega)) (bD (A1.cons (aB (aA rfl) E1.int rfl) A1.nil) hq.2.1.str) (by rw [zdU];omega)) ⟨rfl,rfl⟩
theorem yaJ:FnScope ["four"] ["four"] (zI zqV):=fsK
theorem zxY (F:Fun K "show_four" "show_four" zqV f fd)
  (G:FnOk P w K mg base zW 1 g gd ["numbers"] (yT K zbR)) (bG:Binds K gd ["numbers"] []) (kG:PySem.W.keepIn K (.ref g)=true) (mG:mg "show_row" = some (.ref g)) :
  FnOk P w K mg base zW 2 f fd ["four"] (yT K zbR):=by
 refine jM F yaJ (fun ds d h=>?_) (fun cdv A0 outer s0 H0 E0 hr=>?_)
 ·obtain ⟨ns,rfl,_⟩:=h;rfl
 have r:=hr.mono (show 1<=1 by decide)
 refine ⟨_,(zF (zN (zD G r rfl mG kG bG .nil zK (zO (zv 0) zB)))),fun ds d h=>?_⟩
 obtain ⟨ns,rfl,bg,l4,rfl⟩:=h
 exact aD (s:=.dat (.str (jn spa (ns.map vK)))) (E1.call (R:=zbR) (A1.cons (aA rfl) A1.nil) ⟨ns,rfl,bg,l4,rfl⟩) ⟨rfl,rfl⟩
theorem zpW:FnScope ["point"] ["point"] (zI zsV):=fsK
theorem zuW (F:Fun K "show_point" "show_point" zsV f fd)
    (G:FnOk P w K mg base zW 1 g gd ["fraction"] (yT K zsI)) (bG:Binds K gd ["fraction"] []) (kG:PySem.W.keepIn K (.ref g)=true) (mG:mg "show_number" = some (.ref g)) :
    FnOk P w K mg base zW 2 f fd ["point"] (yT K zqZ):=by
  refine jM F zpW (fun ds d h=>?_) (fun cdv A0 outer s0 H0 E0 hr=>?_)
  . obtain ⟨l,rfl,_⟩:=h;rfl
  have r:=hr.mono (show 1<=1 by decide)
  refine ⟨_,(zF (zN (zdM yJ (yP (own:=["fraction"]) zpW rfl csK (vA (zv 0)) (fun C fp s H nd=>yB (i:=0) nd rfl (Or.inl rfl)) (fun C fp s H=>yR) (fun C fp s H=>(zD G r rfl mG kG bG .nil zK (zO (zv 0) zB))))))),fun ds d h=>?_⟩
  obtain ⟨l,rfl,hl,rfl⟩:=h
  exact aD (s:=.dat (.str (tqP l))) (E1.join (ys:=l.map tqF) (E1.str (x:=spa)) (aG (bR (no:=1) (l.map fun q=>.str (tqF q)) (Wk.tup (ds:=l.map qD) (aA rfl)) (fun d=>[.dat d]) (fun d _=>Gc.name) (by rw [List.length_map,List.length_map]) (fun i d f e1 e2=>by
    rw [List.getElem?_map] at e1 e2
    cases hq:l[i]? with
    | none=>rw [hq] at e1;cases e1
    | some q =>
      rw [hq] at e1 e2
      cases e1;cases e2
      exact E1.call (R:=zsI) (A1.cons (aA rfl) A1.nil) ⟨q,rfl,hl.2 q (List.mem_of_getElem? hq),rfl⟩) (by rw [List.length_map,hl.1];exact z3)) (by rw [List.map_map];rfl)) (Nat.le_trans (zrW hl.2 hl.1) (by decide))) ⟨rfl,rfl⟩
theorem zoX:FnScope ["table"] ["table"] (zI zsG):=fsK
theorem zwL (F:Fun K "show_table" "show_table" zsG f fd)
    (G:FnOk P w K mg base zW 2 g gd ["point"] (yT K zqZ)) (bG:Binds K gd ["point"] []) (kG:PySem.W.keepIn K (.ref g)=true) (mG:mg "show_point" = some (.ref g)) :
    FnOk P w K mg base zW 3 f fd ["table"] (yT K znY):=by
  refine jM F zoX (fun ds d h=>?_) (fun cdv A0 outer s0 H0 E0 hr=>?_)
  . obtain ⟨l,rfl,_⟩:=h;rfl
  have r:=hr.mono (show 2<=2 by decide)
  refine ⟨_,(zF (zN (zdM yJ (yP (own:=["row"]) zoX rfl csK (vA (zv 0)) (fun C fp s H nd=>yB (i:=0) nd rfl (Or.inl rfl)) (fun C fp s H=>yR) (fun C fp s H=>(zD G r rfl mG kG bG .nil zK (zO (zv 0) zB))))))),fun ds d h=>?_⟩
  obtain ⟨l,rfl,hl,rfl⟩:=h
  exact aD (s:=.dat (.str (tqT l))) (E1.join (ys:=l.map tqP) (E1.str (x:=sem)) (aG (bR (no:=1) (l.map fun q=>.str (tqP q)) (Wk.tup (ds:=l.map pD3) (aA rfl)) (fun d=>[.dat d]) (fun d _=>Gc.name) (by rw [List.length_map,List.length_map]) (fun i d f e1 e2=>by
    rw [List.getElem?_map] at e1 e2
    cases hq:l[i]? with
    | none=>rw [hq] at e1;cases e1
    | some q =>
      rw [hq] at e1 e2
      cases e1;cases e2
      exact E1.call (R:=zqZ) (A1.cons (aA rfl) A1.nil) ⟨q,rfl,hl.2 q (List.mem_of_getElem? hq),rfl⟩) (by rw [List.length_map,hl.1];exact z3)) (by rw [List.map_map];rfl)) (Nat.le_trans (zsY hl) (by decide))) ⟨rfl,rfl⟩
theorem scIsWT:FnScope ["text","figures"] ["text"] (zI zqS):=fsK
theorem zyM (F:Fun K "is_whole_text" "is_whole_text" zqS f fd) (m_len:mg "len" = none) (m_all:mg "all" = none) (m_MOST_FIGURES:mg "MOST_FIGURES" = some dMOST_FIGURES) (t_MOST_FIGURES:ydD 1500 dMOST_FIGURES) (m_FIGURES:mg "FIGURES" = some dFIGURES) (t_FIGURES:ybS figS dFIGURES) :
  FnOk P w K mg base zW 1 f fd ["text"] (yT K ztF):=by
 refine jM F scIsWT (fun ds d h=>?_) (fun cdv A0 outer s0 H0 E0 hr=>?_)
 ·obtain ⟨z,rfl,_⟩:=h;rfl
 refine ⟨_,(zC (zM (i:=1) scIsWT.nd rfl (Or.inl rfl) (zdS (vF (zmJ (zv 0) yJ)) (vV ycC (zv 0) (kJ zA) kF) (zv 0)))
  (zC (yM (ZW.pt (qQ (zR wG (xG jG rfl m_len PySem.boot_len (zO (zv 1) zB)) zA (zT _)) (sA (zR zyW (xG jG rfl m_len PySem.boot_len (zO (zv 1) zB)) (ztH rfl m_MOST_FIGURES t_MOST_FIGURES) (zT _))))) (zF (zN vW)) zX)
  (zC (yM (vO (vF (xG (zcI rfl) rfl m_all (by rfl) (zQ (yP (own:=["sign"]) scIsWT rfl csK (tO (zv 1)) (fun C fp s H nd=>yB (i:=0) nd rfl (Or.inl rfl)) (fun C fp s H=>yR) (fun C fp s H=>(wD zbZ (zv 0) (ztI rfl m_FIGURES t_FIGURES) (by with_unfolding_all rfl)))) zB)))) (zF (zN vW)) zX)
  (zF (zN (yhW (wD jR (zG xE (zv 1) zA (fun _ _=>rfl)) yJ (zT _)) (ziY (wD wG (zv 0) yJ (zT _))))))))),fun ds d h=>?_⟩
 obtain ⟨z,rfl,az,rfl⟩:=h
 have bz:=znA az
 have eb:=zoQ z
 have lb:(jN z).length=(yX z.cps.toList).length:=by rw [zjZ,eb]
 have e45:("-" : Str)=⟨#[45]⟩:=by decide +kernel
 have e48:("0" : Str)=⟨#[48]⟩:=by decide +kernel
 refine aF (s:=.dat (.str (jN z))) ?_ ?_
 ·by_cases h:z.cps.toList.head?=some 45
  ·have e:jN z=Txt.slice z (some ((1:Nat):Int)) none:=by unfold jN;rw [if_pos h]
   rw [e]
   exact cB ((T1.val (bV (y := "-") (aA rfl) E1.str)).eqn (by rw [e45,rT,decide_eq_true h])) (E1.slS (aA rfl) (bA E1.int) O1.none (az.sz zbX))
  ·have e:jN z=z:=by unfold jN;rw [if_neg h]
   rw [e]
   exact cC ((T1.val (bV (y := "-") (aA rfl) E1.str)).eqn (by rw [e45,rT,decide_eq_false h])) (aA rfl)
 refine aW (T1.or1 (aC (E1.eq (cA (A1.cons (aA rfl) A1.nil) (bz.sz zbX)) E1.int)) (aC (E1.gt (cA (A1.cons (aA rfl) A1.nil) (bz.sz zbX)) E1.int))) (fun hb=>?_) (fun hb=>?_)
 ·refine aD (s:=.dat (.bool false)) E1.bl ⟨?_,rfl⟩
  rw [Bool.or_eq_true,decide_eq_true_eq,decide_eq_true_eq,lb] at hb
  rcases hb with hb|hb
  ·rw [zqU (by omega)]
  ·rw [zpF (by omega)]
 rw [Bool.or_eq_false_iff,decide_eq_false_iff_not,decide_eq_false_iff_not,lb] at hb
 have h0:(yX z.cps.toList).length≠0:=by omega
 have h1:(yX z.cps.toList).length<=1500:=by omega
 refine aW (bY (T1.val (E1.allL (bs:=(jN z).cps.toList.map fun c=>decide (48<=c/\c<=57)) (aG (aU (ds:=jZ (jN z)) (f:=zrG) (Wk.str (aA rfl) bz.allS) (fun d hd=>?_) (by rw [zsM];exact (bz.sz zbX))) (by rw [zsD]))))) (fun hb=>?_) (fun hb=>?_)
 ·obtain ⟨i,hi⟩:=List.getElem?_of_mem hd
  obtain ⟨c,rfl,_⟩:=ztZ hi
  exact aG (E1.inS (aA rfl) (E1.cS (z:=figS))) (by rw [znQ])
 ·refine aD (s:=.dat (.bool false)) E1.bl ⟨?_,rfl⟩
  rw [zfZ,eb,Bool.not_eq_true'] at hb
  rw [ztU hb]
 ·rw [zfZ,eb,Bool.not_eq_false'] at hb
  rw [zuC h0 h1 hb]
  cases hc:yX z.cps.toList with
  | nil=>rw [hc] at h0;exact absurd rfl h0
  | cons c r =>
  refine aD (s:=.dat (.bool (some c != some 48 || z.cps.toList == [48]))) (E1.orV (b:=some c != some 48) (aG (bP (x:=⟨#[c]⟩) (y := "0") (aI (aA rfl) E1.int (bz.sz zbX) (by rw [eb,hc];exact zrU)) E1.str) (by rw [zwG])) (fun hb=>aG (aQ (y := "0") (aA rfl) E1.str) (by rw [e48,zgW,hb,Bool.false_or])) (fun hb=>by rw [hb,Bool.true_or])) ⟨rfl,rfl⟩
theorem scMixed:FnScope ["_law_cell","_law_k","_law_number_here"] ["_law_cell","_law_k"] (zI zhP):=fsK
theorem zsW (F:Fun K "_law_mixed" "_law_mixed" zhP f fd):FnOk P w K mg base zW 1 f fd ["_law_cell","_law_k"] zjT:=by
 refine F.okZ scMixed (fun vs H Q E h=>?_) (fun cdv A outer s H vs Q E hr h=>?_)
 ·obtain ⟨c,k,rfl,_⟩:=h;rfl
 obtain ⟨c,k,rfl,hb,k0,k1,q⟩:=h
 refine ⟨_,zC (zM (i:=2) scMixed.nd rfl (Or.inl rfl) (zH qG (zH kZ (zH yD (zH yD (zH yD (zH zL (zv 0) (zv 0)) (zH kZ zA (zv 0))) (zH kZ zA (zv 1))) zA) zA) zA))
  (zF (zN (zH qG (zH yD (zH kZ (zv 2) (zv 2)) zA) zA))),?_⟩
 refine ⟨_,rfl,_,rfl,c,c,rfl,rfl,IntMulOk.of_bits hb hb,_,rfl,_,_,rfl,rfl,.inl ⟨by decide,by decide⟩,_,_,rfl,rfl,_,rfl,_,_,rfl,rfl,.inl ⟨by decide,by decide⟩,_,_,rfl,rfl,_,_,rfl,rfl,_,_,rfl,rfl,.inr ⟨by decide,by decide⟩,_,_,rfl,rfl,(show (0:Int)<2147483629 by decide),?_⟩
 have x0:(0:Int)<=((c*c+3*c+7919*k+1)*48271) % 2147483629:=Int.emod_nonneg _ (by decide)
 have x1:((c*c+3*c+7919*k+1)*48271) % 2147483629<(2147483629:Int):=Int.emod_lt_of_pos _ (by decide)
 refine ⟨_,rfl,_,rfl,_,_,rfl,rfl,.inl ⟨Int.lt_of_lt_of_le (by decide) x0,Int.lt_trans x1 (by decide)⟩,_,_,rfl,rfl,_,_,rfl,rfl,(show (0:Int)<2147483587 by decide),?_⟩
 exact q _ (Int.emod_nonneg _ (by decide)) (Int.emod_lt_of_pos _ (by decide))
theorem scPurse:FnScope ["_law_script","_law_cells","_law_number_here","_law_k"] ["_law_script"] (zI zhV):=fsK
theorem ztE (F:Fun K "_law_purse" "_law_purse" zhV f fd) (G:FnOk P w K mg base zW 1 g gd ["_law_cell","_law_k"] zjT) (bG:Binds K gd ["_law_cell","_law_k"] []) (kG:PySem.W.keepIn K (.ref g)=true) (mG:mg "_law_mixed" = some (.ref g))
  (ml:mg "len" = none) (ma:mg "abs" = none) (mr:mg "range" = none):FnOk P w K mg base zW 2 f fd ["_law_script"] (zeD K):=by
 refine F.okZ scPurse (fun vs H Q E h=>?_) (fun cdv A outer s H vs Q E hr h=>?_)
 ·obtain ⟨a,ns,rfl,_⟩:=h;rfl
 obtain ⟨a,ns,rfl,hS,hl,hb,q⟩:=h
 refine ⟨_,zC (zM (i:=1) scPurse.nd rfl (Or.inl rfl) (zH ycZ (vV zuI (zv 0) kF (kJ zA)) (xX (zQ zA zB))))
  (zC (zM (i:=2) scPurse.nd rfl (Or.inl rfl) zA)
  (zC (wT PassesOwn.never rfl (wY rfl mr (zQ zA zB)) (yB (i:=3) scPurse.nd rfl (Or.inl rfl)) (zF (zM (i:=2) scPurse.nd rfl (Or.inl rfl)
   (zH yD (zH kZ (zv 2) zA) (zD G hr rfl mG kG bG .nil zK (zQ (zG yQ (zv 1) (zH qG (zv 3) (xG tK rfl ml PySem.boot_len (zQ (zv 1) zB))) (fun _ _=>rfl)) (zQ (zv 3) zB)))))))
  (zC (yM (zR yhI (xG rK rfl ma (by rfl) (zQ (zG yQ (zv 1) zA (fun _ _=>rfl)) zB)) (zH rG zA zA) (zT _))
   (zF (zN (xX (zQ (xG rK rfl ma (by rfl) (zQ (zG yQ (zv 1) zA (fun _ _=>rfl)) zB)) (zQ (zv 2) zB))))) zX)
  (zF (zN (xX (zQ (zv 2) (zQ (zv 2) zB)))))))),?_⟩
 refine ⟨_,rfl,63,rfl,a,_,rfl,hS,fun p1 hp1=>⟨(by show 1<=sizeLine;decide),fun p2 hp2=>?_⟩⟩
 rw [ygA hl] at hp2 ⊢
 have s1:Same H (upd H p1 (.lst (ns.map V.int))):=Same.new hp1 _
 have s2:=Same.new hp2 (.lst [V.int 0])
 refine ⟨p1,p2,ns.map V.int,[.int 0],rfl,rfl,s2 _ _ zJ,zJ,?_,fun c hc=>?_⟩
 ·rw [List.length_map];exact Nat.le_of_lt (kB (by show ns.length+1<=1000;omega))
 have s3:=Same.new hc (.lst (ns.map V.int++[V.int 0]))
 have cs:ns.map V.int++[V.int 0]=(ns++[0]).map V.int:=by rw [List.map_append];rfl
 have S:=(s1.trans s2).trans s3
 have hcn:H c=none:=(s1.trans s2).free hc
 have hC:SqL K (upd (upd (upd H p1 (.lst (ns.map V.int))) p2 (.lst [V.int 0])) c (.lst (ns.map V.int++[V.int 0]))) c ((ns++[0]).map V.int):=by rw [<- cs];exact SqL.of zJ
 generalize upd (upd (upd H p1 (.lst (ns.map V.int))) p2 (.lst [V.int 0])) c (.lst (ns.map V.int++[V.int 0]))=H3 at S hC ⊢
 have bits:∀ v∈ns++[0],Builtin.Int.intBits v<=2 ^ 20:=fun v hv=>by
  rcases List.mem_append.mp hv with h|h
  ·exact hb v h
  ·have:v=0:=by simpa using h
   subst this;decide
 generalize hcs:ns++[0]=cs at hC bits
 have lc:0<cs.length/\cs.length<=64:=by rw [<- hcs,List.length_append];simp;omega
 refine ⟨64,rfl,by decide,by decide,zbT (n:=64) (fun i σ H'=>H3=H'/\∃ (x:Int) (k:Option V),σ=[some (.ref a),some (.ref c),some (.int x),k]) ⟨rfl,1,_,rfl⟩ (fun i σ H' hi h=>?_) (fun σ H' h=>?_)⟩
 ·obtain ⟨rfl,x,k,rfl⟩:=h
  have m0:(0:Int)<=(0+(i:Int)) % (cs.length:Int):=Int.emod_nonneg _ (by omega)
  have m1:(0+(i:Int)) % (cs.length:Int)<(cs.length:Int):=Int.emod_lt_of_pos _ (by omega)
  generalize hj:(0+(i:Int)) % (cs.length:Int)=j at m0 m1
  obtain ⟨c1,hc1,at1⟩:=tJ m0 m1
  refine ⟨_,rfl,_,_,rfl,rfl,.inr ⟨by decide,by decide⟩,_,rfl,_,rfl,_,rfl,c,_,rfl,.inl hC,_,_,rfl,rfl,(show (0:Int)<((cs.map V.int).length:Nat) by rw [List.length_map];omega),c,_,_,_,rfl,rfl,hC,?_,_,rfl,c1,_,rfl,bits _ hc1,by omega,by omega,fun d _ _=>?_⟩
  ·rw [List.length_map,hj];exact at1
  ·exact ⟨_,_,rfl,rfl,rfl,_,_,rfl⟩
 ·obtain ⟨rfl,x,k,rfl⟩:=h
  have hl0:0<cs.length:=lc.1
  have at0:kQ (cs.map V.int) 0=some (.int cs[0]):=jJ (j:=0) (by rw [List.getElem?_map];simp [hl0])
  refine ⟨_,rfl,c,_,_,_,rfl,rfl,hC,at0,_,rfl,_,_,rfl,rfl,⟨by decide,by decide,by decide⟩,_,_,rfl,rfl,_,rfl,?_⟩
  refine zeQ (fun c'=>?_) (fun c'=>?_)
  ·refine ⟨_,rfl,c,_,_,_,rfl,rfl,hC,at0,_,rfl,_,rfl,(by show 2<=sizeLine;decide),fun p hp=>?_⟩
   exact q p _ (S.free hp) (S.trans (Same.new hp _)) ⟨_,_,zJ⟩
  ·refine ⟨_,rfl,_,rfl,(by show 2<=sizeLine;decide),fun p hp=>?_⟩
   exact q p _ (S.free hp) (S.trans (Same.new hp _)) ⟨_,_,zJ⟩
theorem scDraw:FnScope ["_law_purse_here","_law_out_of","_law_drawn"] ["_law_purse_here","_law_out_of"] (zI zqL):=fsK
theorem zvT (F:Fun K "_law_draw" "_law_draw" zqL f fd):FnOk P w K mg base zW 1 f fd ["_law_purse_here","_law_out_of"] jS:=by
 refine F.okZ scDraw (fun vs H Q E h=>?_) (fun cdv A outer s H vs Q E hr h=>?_)
 ·obtain ⟨p,m,rfl,_⟩:=h;rfl
 obtain ⟨p,m,rfl,⟨a,b,hp⟩,m0,m1,q⟩:=h
 refine ⟨_,zC (yM (zR wG (zG yQ (zv 0) zA (fun _ _=>rfl)) zA (zT _)) (zF (zaA (zG yQ (zv 0) zA (fun _ _=>rfl)) (sY (zv 0) zA jW (fun _=>rfl)))) zX)
  (zC (zM (i:=2) scDraw.nd rfl (Or.inl rfl) (zH qG (zG yQ (zv 0) zA (fun _ _=>rfl)) (zv 1)))
  (zC (zaA (zH wH (zG yQ (zv 0) zA (fun _ _=>rfl)) (zv 1)) (sY (zv 0) zA jW (fun _=>rfl)))
  (zF (zN (zv 2))))),?_⟩
 have rest:∀ (a:Int) (H1:Hp),SB p H H1->H1 p=some (.lst [.int a,.int b])->jV (jP (wO (rI (fun x j=>0<j) fun i j=>V.int (i % j)) (wO (zmS K) (kK 0) (tC (.int 0))) (kK 1)) (yK 2))
   (jV (jP (wO (rI zfF fun i j=>V.int (i.fdiv j)) (wO (zmS K) (kK 0) (tC (.int 0))) (kK 1)) (zvZ (kK 0) (tC (.int 0)) zoJ)) (ziW (kK 2))) { nx:=fun _ H'=>Q .non H',rt:=Q } [some (.ref p),some (.int m),none] H1:=by
  intro a H1 s1 h1
  refine ⟨_,rfl,p,_,_,_,rfl,rfl,SqL.of h1,rfl,_,rfl,a,m,rfl,rfl,m0,?_⟩
  refine ⟨_,rfl,p,_,_,_,rfl,rfl,SqL.of h1,rfl,_,rfl,a,m,rfl,rfl,⟨by omega,?_⟩,_,rfl,p,_,_,0,rfl,rfl,h1,rfl,_,rfl,?_⟩
  ·have:m.natAbs<2 ^ 9000:=Nat.lt_of_lt_of_le (show m.natAbs<2 ^ 200 by omega) (Nat.pow_le_pow_right (by decide) (by decide))
   exact (Nat.log2_lt (by omega)).mpr this
  ·exact q _ _ (Int.emod_nonneg _ (by omega)) (Int.emod_lt_of_pos _ m0) (s1.trans SB.upd) ⟨_,_,zJ⟩
 refine ⟨_,rfl,p,_,_,_,rfl,rfl,SqL.of hp,rfl,rfl,_,rfl,?_⟩
 refine zeQ (fun c=>?_) (fun c=>?_)
 ·refine ⟨_,rfl,p,_,_,_,rfl,rfl,SqL.of hp,rfl,_,rfl,p,_,_,0,rfl,rfl,hp,rfl,?_⟩
  exact rest b _ SB.upd zJ
 ·exact rest a H (SB.refl _ _) hp
theorem scNumber:FnScope ["_law_purse_here","_law_most"] ["_law_purse_here"] (zI zdI):=fsK
theorem znC (F:Fun K "_law_number" "_law_number" zdI f fd) (G:FnOk P w K mg base zW 1 g gd ["_law_purse_here","_law_out_of"] jS) (bG:Binds K gd ["_law_purse_here","_law_out_of"] []) (kG:PySem.W.keepIn K (.ref g)=true) (mG:mg "_law_draw" = some (.ref g)) :
    FnOk P w K mg base zW 2 f fd ["_law_purse_here"] zfW:=by
  refine F.okZ scNumber (fun vs H Q E h=>?_) (fun cdv A outer s H vs Q E hr h=>?_)
  . obtain ⟨p,rfl,_⟩:=h;rfl
  obtain ⟨p,rfl,hp,q⟩:=h
  refine ⟨_,zC (zM (i:=1) scNumber.nd rfl (Or.inl rfl) (zG yQ (xX (yC (yC (yC (yC (yC (yC (xD (zH rG zA zA) (xD (zH rG zA zA) zB))))))))) (zD G hr rfl mG kG bG .nil zK (zO (zv 0) (yC zB))) jT) vP)
   (zF (zN (zH yI (zD G hr rfl mG kG bG .nil zK (zQ (zv 0) (zQ (zH yD (zH kZ zA (zv 1)) zA) zB))) (zv 1)))),?_⟩
  refine ⟨_,_,rfl,rfl,⟨by decide,by decide,by decide⟩,_,_,rfl,rfl,⟨by decide,by decide,by decide⟩,(by show 8<=sizeLine;decide),fun l hl=>?_⟩
  have s1:=Same.new hl (.lst ([3,3,1,3,12,1000,(10:Int) ^ (12:Int).toNat,(10:Int) ^ (28:Int).toNat].map V.int))
  refine ⟨_,rfl,p,8,rfl,hp.same s1,by decide,by decide,fun d H1 d0 d1 sb hp1=>?_⟩
  obtain ⟨m,hm,hat⟩:=tJ (ms:=[3,3,1,3,12,1000,(10:Int) ^ (12:Int).toNat,(10:Int) ^ (28:Int).toNat]) d0 d1
  have hl1:H1 l=some (.lst ([3,3,1,3,12,1000,(10:Int) ^ (12:Int).toNat,(10:Int) ^ (28:Int).toNat].map V.int)):=sb _ _ (hp.ne hl) zJ
  refine ⟨l,_,d,_,rfl,rfl,SqL.of hl1,hat,?_⟩
  have mb:0<=m/\m<=10 ^ 28:=by
    simp only [List.mem_cons,List.mem_nil_iff,or_false] at hm
    rcases hm with rfl|rfl|rfl|rfl|rfl|rfl|rfl|rfl <;> decide
  refine ⟨_,rfl,_,rfl,_,_,rfl,rfl,.inl ⟨by decide,by decide⟩,_,_,rfl,rfl,p,_,rfl,hp1,(show (0:Int)<2*m+1 by omega),(show 2*m+1<(2:Int) ^ 200 by have:=mb.2;omega),fun d2 H2 e0 e1 sb2 hp2=>?_⟩
  refine ⟨_,rfl,_,_,rfl,rfl,?_⟩
  refine q _ _ ?_ ((s1.sb (p:=p)).trans (sb.trans sb2)) hp2
  show (d2 - m).natAbs<=10 ^ 28
  have:=mb.2
  omega
theorem scFour:FnScope ["_law_purse_here","_law_found","_law_k","_law_by"] ["_law_purse_here"] (zI zpL):=fsK
theorem zyQ (F:Fun K "_law_four" "_law_four" zpL f fd) (G:FnOk P w K mg base zW 1 g gd ["_law_purse_here","_law_out_of"] jS) (bG:Binds K gd ["_law_purse_here","_law_out_of"] []) (kG:PySem.W.keepIn K (.ref g)=true) (mG:mg "_law_draw" = some (.ref g))
    (G2:FnOk P w K mg base zW 2 g2 gd2 ["_law_purse_here"] zfW) (bG2:Binds K gd2 ["_law_purse_here"] []) (kG2:PySem.W.keepIn K (.ref g2)=true) (mG2:mg "_law_number" = some (.ref g2)) (mt:mg "tuple" = none) (mr:mg "range" = none) :
    FnOk P w K mg base zW 3 f fd ["_law_purse_here"] (zhB K):=by
  refine F.okZ scFour (fun vs H Q E h=>?_) (fun cdv A outer s H vs Q E hr h=>?_)
  . obtain ⟨p,rfl,_⟩:=h;rfl
  obtain ⟨p,rfl,hp,q⟩:=h
  have hr1:=hr.mono (show 1<=2 by decide)
  refine ⟨_,zC (zuM (own:=["_law_k"]) (i:=1) scFour rfl csK (wY rfl mr (yC zB))
      (fun C fp s H nd=>yB (i:=0) nd rfl (Or.inl rfl)) (fun C fp s H=>yR) (fun C fp s H=>zD G2 hr rfl mG2 kG2 bG2 .nil zK (zO (zv 1) zB)) scFour.nd rfl (Or.inl rfl) rfl)
    (zC (wT PassesOwn.never rfl (wY rfl mr (yC zB)) (yB (i:=2) scFour.nd rfl (Or.inl rfl)) (zF (yM (zR wG (zD G hr1 rfl mG kG bG .nil zK (zO (zv 0) (yC zB))) zA (zT _)) (zF (zaA zA (sY (zv 1) (zv 2) jW (fun _=>rfl)))) zX)))
    (zC (yM (zR (vG hr.units) (zv 1) (xX (yC (yC (yC (yC zB))))) (zT _))
       (zF (zaA (zG yQ (xX (yC (sJ (vE xZ zA) (yC (sJ (vE xZ (zH rG zA zA)) zB))))) (zD G hr1 rfl mG kG bG .nil zK (zO (zv 0) (yC zB))) jT)
          (sY (zv 1) (zD G hr1 rfl mG kG bG .nil zK (zO (zv 0) (yC zB))) jW (fun _=>rfl)))) zX)
    (zC (zM (i:=3) scFour.nd rfl (Or.inr rfl) (zG yQ (xX (yC (yC (sJ (vE xZ zA) (yC (sJ (vE xZ zA) (yC zB))))))) (zD G hr1 rfl mG kG bG .nil zK (zO (zv 0) (yC zB))) jT) vP)
    (zF (zN (yH yF rfl mt (by rfl) (zQ (yP (own:=["_law_number_here"]) scFour rfl csK (jA (zv 1))
      (fun C fp s H nd=>yB (i:=0) nd rfl (Or.inl rfl)) (fun C fp s H=>yR) (fun C fp s H=>zH kZ (zv 4) (zv 0))) zB))))))),?_⟩
  have nD:∀ {D:Addr},H D=none->D≠p:=fun h=>hp.ne h
  refine ⟨4,rfl,by decide,by decide,zsZ (n:=4) (by show 4<=sizeLine;decide) (fun D i H' ys=>SB p H H'/\Pu H' p/\∃ ns:List Int,ys=ns.map V.int/\∀ n∈ns,n.natAbs<=10 ^ 28) (fun D hD=>⟨(Same.new hD _).sb,hp.same (Same.new hD _),[],rfl,by simp⟩) (fun D i H' ys hi hD hy hl h R k=>?_) (fun D H1 ys hD hy hl h=>?_)⟩
  . obtain ⟨sb,pu,ns,rfl,hb⟩:=h
    refine ⟨_,rfl,p,rfl,pu,fun d H2 d1 sb2 pu2=>k _ _ (sb2 _ _ (nD hD) hy) ⟨(sb.trans sb2).snoc hD,?_,ns++[d],by rw [List.map_append];rfl,fun n hn=>?_⟩⟩
    . obtain ⟨a,b,e⟩:=pu2
      exact ⟨a,b,by rw [zP (Ne.symm (nD hD))];exact e⟩
    . rcases List.mem_append.mp hn with h|h
      . exact hb n h
      . have:n=d:=by simpa using h
        rw [this];exact d1
  obtain ⟨sb,pu,ns,rfl,hb⟩:=h
  rw [List.length_map] at hl
  refine ⟨4,rfl,by decide,by decide,zbT (n:=4) (fun i σ H'=>∃ (ns:List Int) (k:Option V),σ=[some (.ref p),some (.ref D),k,none]/\SB p H H'/\Pu H' p/\H' D=some (.lst (ns.map V.int))/\ns.length=4/\∀ n∈ns,n.natAbs<=10 ^ 28) ⟨ns,_,rfl,sb,pu,hy,hl,hb⟩ (fun i σ H' hi h=>?_) (fun σ H' h=>?_)⟩
  . obtain ⟨ns,k,rfl,sb,pu,hy,hl,hb⟩:=h
    refine ⟨_,rfl,p,5,rfl,pu,by decide,by decide,fun d H2 d0 d1 sb2 pu2=>?_⟩
    have y2:=sb2 _ _ (nD hD) hy
    refine ⟨rfl,_,rfl,?_⟩
    refine zeQ (fun c=>?_) (fun c=>?_)
    . refine ⟨_,rfl,_,rfl,D,_,_,i,rfl,rfl,y2,yaM (by rw [List.length_map];omega),ns.set i 0,_,rfl,(sb.trans sb2).snoc hD,pu2.off (nD hD),?_,by rw [List.length_set];exact hl,fun n hn=>?_⟩
      . rw [zJ,List.map_set]
      . rcases List.mem_or_eq_of_mem_set hn with h|h
        . exact hb n h
        . rw [h];decide
    . exact ⟨ns,_,rfl,sb.trans sb2,pu2,y2,hl,hb⟩
  clear hb hl hy pu sb ns
  obtain ⟨ns,k,rfl,sb,pu,hy,hl,hb⟩:=h
  dsimp only
  refine zrV (fun σ H4=>∃ (ns:List Int),σ=[some (.ref p),some (.ref D),k,none]/\SB p H H4/\Pu H4 p/\H4 D=some (.lst (ns.map V.int))/\ns.length=4/\(∃ n∈ns,n≠0)/\∀ n∈ns,n.natAbs<=10 ^ 28) (fun N hN=>?_) (fun σ H4 h=>?_)
  . refine ⟨_,rfl,(by show 4<=sizeLine;decide),fun z hz=>?_⟩
    have s3:=Same.new hz (.lst [.int 0,.int 0,.int 0,.int 0])
    have pu3:=pu.same s3
    have hy3:=s3 _ _ hy
    have sb3:=sb.trans (s3.sb (p:=p))
    have hz3':upd H' z (.lst [.int 0,.int 0,.int 0,.int 0]) z=_:=zJ
    generalize upd H' z (.lst [.int 0,.int 0,.int 0,.int 0])=H3 at *
    have hz3:H3 z=some (.lst ([0,0,0,0].map V.int)):=hz3'
    refine ⟨.list (ns.map .int),.list ([0,0,0,0].map .int),.lst (SqL.of hy3) (aS ns),.lst (SqL.of hz3) (aS _),zjS,zjS,_,rfl,?_⟩
    show if deq _ _=true then _ else _
    rw [zxE]
    refine zeQ (fun c=>?_) (fun c=>?_)
    . have e:ns=[0,0,0,0]:=of_decide_eq_true c
      subst e
      refine ⟨_,rfl,_,_,rfl,rfl,⟨by decide,by decide,by decide⟩,_,rfl,(by show 4<=sizeLine;decide),fun l hl=>?_⟩
      have s4:=Same.new hl (.lst ([1, -1,6, -(10:Int) ^ (28:Int).toNat].map V.int))
      refine ⟨_,rfl,p,4,rfl,pu3.same s4,by decide,by decide,fun d H5 d0 d1 sb5 pu5=>?_⟩
      obtain ⟨m,hm,hat⟩:=tJ (ms:=[1, -1,6, -(10:Int) ^ (28:Int).toNat]) d0 d1
      have hl5:H5 l=some (.lst ([1, -1,6, -(10:Int) ^ (28:Int).toNat].map V.int)):=sb5 _ _ (pu3.ne hl) zJ
      have hy5:=sb5 _ _ (nD hD) (s4 _ _ hy3)
      refine ⟨l,_,d,_,rfl,rfl,SqL.of hl5,hat,?_⟩
      refine ⟨_,rfl,_,rfl,p,4,rfl,pu5,by decide,by decide,fun d2 H6 e0 e1 sb6 pu6=>?_⟩
      refine ⟨D,_,d2,d2.toNat,rfl,rfl,sb6 _ _ (nD hD) hy5,zoE e0 e1,?_⟩
      have mb:m≠0/\m.natAbs<=10 ^ 28:=by
        simp only [List.mem_cons,List.mem_nil_iff,or_false] at hm
        rcases hm with rfl|rfl|rfl|rfl <;> decide
      refine hN _ _ ⟨[0,0,0,0].set d2.toNat m,rfl,(sb3.trans ((s4.sb (p:=p)).trans (sb5.trans sb6))).snoc hD,pu6.off (nD hD),?_,by rw [List.length_set];rfl,⟨m,List.mem_set (l:=[0,0,0,0]) (by show d2.toNat<4;omega) m,mb.1⟩,fun n hn=>?_⟩
      . rw [zJ,List.map_set]
      . rcases List.mem_or_eq_of_mem_set hn with h|h
        . exact hb n h
        . rw [h];exact mb.2
    . have e:ns≠[0,0,0,0]:=fun e=>c (decide_eq_true e)
      refine hN _ _ ⟨ns,rfl,sb3,pu3,hy3,hl,?_,hb⟩
      match ns,hl,e with
      | [a, b, c, d], _, e =>
        by_cases h1:a=0
        . by_cases h2:b=0
          . by_cases h3:c=0
            . by_cases h4:d=0
              . subst h1 h2 h3 h4;exact absurd rfl e
              . exact ⟨d,by simp,h4⟩
            . exact ⟨c,by simp,h3⟩
          . exact ⟨b,by simp,h2⟩
        . exact ⟨a,by simp,h1⟩
  . clear hb hl hy pu sb ns
    obtain ⟨ns,rfl,sb,pu,hy,hl,hnz,hb⟩:=h
    refine ⟨_,rfl,_,rfl,(by show 6<=sizeLine;decide),fun l hlz=>?_⟩
    have s4:=Same.new hlz (.lst ([1,1, -1,2, -6,12].map V.int))
    refine ⟨_,rfl,p,6,rfl,pu.same s4,by decide,by decide,fun d H5 d0 d1 sb5 pu5=>?_⟩
    obtain ⟨m,hm,hat⟩:=tJ (ms:=[1,1, -1,2, -6,12]) d0 d1
    have hl5:H5 l=some (.lst ([1,1, -1,2, -6,12].map V.int)):=sb5 _ _ (pu.ne hlz) zJ
    have hy5:=sb5 _ _ (nD hD) (s4 _ _ hy)
    have mb:m≠0 /\ -12<=m/\m<=12:=by
      simp only [List.mem_cons,List.mem_nil_iff,or_false] at hm
      rcases hm with rfl|rfl|rfl|rfl|rfl|rfl <;> decide
    refine ⟨l,_,d,_,rfl,rfl,SqL.of hl5,hat,?_⟩
    refine ⟨_,rfl,D,rfl,⟨_,SqL.of hy5⟩,?_⟩
    refine zlZ (zwQ (SqL.of hy5)) (fun n=>m*n) (by rw [hl];decide) (fun n hn H' s R k=>?_) fun D2 H' s h n=>?_
    . exact ⟨_,rfl,_,rfl,_,_,rfl,rfl,.inl ⟨by omega,by omega⟩,k _ (aH _)⟩
    . refine ⟨D2,_,rfl,.inl ⟨SqL.of h,fun r hr'=>?_⟩⟩
      have s6:=s.trans (Same.new hr' (.tup ((ns.map fun n=>m*n).map V.int)))
      refine q r (ns.map fun n=>m*n) _ (by rw [List.length_map];exact hl) ?_ (fun n hn=>?_) (sb.trans ((s4.sb (p:=p)).trans (sb5.trans s6.sb))) (pu5.same s6) (SqT.of zJ)
      . obtain ⟨n,hn,h0⟩:=hnz
        exact ⟨m*n,List.mem_map_of_mem hn,Int.mul_ne_zero mb.1 h0⟩
      . obtain ⟨x,hx,rfl⟩:=List.mem_map.mp hn
        rw [Int.natAbs_mul]
        exact Nat.mul_le_mul (by omega) (hb x hx)
theorem scSmall:FnScope ["_law_purse_here","_law_most"] ["_law_purse_here"] (zI zjE):=fsK
theorem ztJ (F:Fun K "_law_small" "_law_small" zjE f fd)
  (G:FnOk P w K mg base zW 1 g gd ["_law_purse_here","_law_out_of"] jS) (bG:Binds K gd ["_law_purse_here","_law_out_of"] []) (kG:PySem.W.keepIn K (.ref g)=true) (mG:mg "_law_draw" = some (.ref g)) :
  FnOk P w K mg base zW 2 f fd ["_law_purse_here"] (spU K (zwI (10 ^ 12))):=by
 refine okU F scSmall (fun ds d h=>?_) (fun cdv A0 outer s0 H0 E0 hr=>?_)
 ·obtain ⟨rfl,_⟩:=h;rfl
 have r:=hr.mono (show 1<=1 by decide)
 refine ⟨_,(zC (zM (i:=1) scSmall.nd rfl (Or.inl rfl) (zG yQ (xX (yC (yC (yC (yC (xD (zH rG zA zA) zB)))))) (zD G r rfl mG kG bG .nil zK (zO (zv 0) (yC zB))) jT) vP)
  (zF (zN (zH yI (zD G r rfl mG kG bG .nil zK (zO (zv 0) (xD (zH yD (zH zL zA (zv 1)) zA) zB))) (zv 1))))),fun q0 ds C h=>?_⟩
 obtain ⟨rfl,rfl⟩:=h
 refine aP (EI.pick (ms:=[1,3,12,1000,10 ^ Int.toNat 12]) (ae (by (walk_at "au3");all_goals exact vZ (n:=5) rfl (by decide))) (aX (A1.cons (aN rfl) (A1.cons E1.int A1.nil)) (by decide:(0:Int)<5) (by decide)) fun d hd=>hd) (fun s ⟨_,e,_⟩=>by rw [e];rfl) fun s ⟨m,e,hm⟩=>?_
 subst e
 have h2:0<m/\m<=10 ^ 12:=by
  simp only [List.mem_cons,List.mem_nil_iff,or_false] at hm
  rcases hm with rfl|rfl|rfl|rfl|rfl <;> decide
 have bm:Bt m 64:=by unfold Bt;omega
 refine S.ret (bU (aX (m:=2*m+1) (by (walk_at "au3")) (by omega) (by omega)) (EI.of (aA rfl) (P:=fun k=>k=m) rfl)) fun s ⟨k,e,i,j,hi,hj,ek⟩=>?_
 exact ⟨_,⟨k,rfl,by omega⟩,by rw [e];exact ⟨rfl,rfl⟩⟩
theorem scDSetting:FnScope ["_law_purse_here","_law_k","_law_l"] ["_law_purse_here"] (zI sD):=fsK
theorem zfN (F:Fun K "_law_setting" "_law_setting" sD f fd)
  (G:FnOk P w K mg base zW 2 g gd ["_law_purse_here"] (spU K (zwI (10 ^ 12)))) (bG:Binds K gd ["_law_purse_here"] []) (kG:PySem.W.keepIn K (.ref g)=true) (mG:mg "_law_small" = some (.ref g))
  (G2:FnOk P w K mg base zW 1 g2 gd2 ["_law_purse_here","_law_out_of"] jS) (bG2:Binds K gd2 ["_law_purse_here","_law_out_of"] []) (kG2:PySem.W.keepIn K (.ref g2)=true) (mG2:mg "_law_draw" = some (.ref g2)) (m_int:mg "int" = none) :
  FnOk P w K mg base zW 3 f fd ["_law_purse_here"] (spU K yeP):=by
 refine okU F scDSetting (fun ds d h=>?_) (fun cdv A0 outer s0 H0 E0 hr=>?_)
 ·obtain ⟨rfl,_⟩:=h;rfl
 have r:=hr.mono (show 2<=2 by decide)
 have r2:=hr.mono (show 1<=2 by decide)
 refine ⟨_,(zC (zM (i:=1) scDSetting.nd rfl (Or.inl rfl) (zD G r rfl mG kG bG .nil zK (zO (zv 0) zB)))
  (zC (zM (i:=2) scDSetting.nd rfl (Or.inl rfl) (zH zL (zD G r rfl mG kG bG .nil zK (zO (zv 0) zB)) (yH zmR rfl m_int (by rfl) (zQ (wD zyW (zD G2 r2 rfl mG2 kG2 bG2 .nil zK (zO (zv 0) (yC zB))) zA (zT _)) zB))))
  (zC (yM (ZW.pt (tS (zR wG (zv 1) zA (zT _)) (kD (zR wG (zv 2) zA (zT _))))) (zF (zN (zS (yC (yC zB))))) zX)
  (zF (zN (zS (zO (zv 1) (zO (zv 2) zB)))))))),fun q0 ds C h=>?_⟩
 obtain ⟨rfl,rfl⟩:=h
 refine aP (bJ (R:=zwI (10 ^ 12)) (ds:=[]) (A1.cons (aN rfl) A1.nil) ⟨rfl,rfl⟩) (fun s ⟨_,e,_⟩=>by rw [e];rfl) fun s ⟨d,e,k,e2,hk⟩=>?_
 subst e e2
 refine aP (EI.opC (P:=fun n=>n.natAbs<=10 ^ 12) (E.mono (bJ (R:=zwI (10 ^ 12)) (ds:=[]) (A1.cons (aN rfl) A1.nil) ⟨rfl,rfl⟩) fun s ⟨d,e,n,e2,hn⟩=>⟨n,by rw [e,e2],hn⟩) (EI.boolInt (E.cmpB (aX (A1.cons (aN rfl) (A1.cons E1.int A1.nil)) (by decide:(0:Int)<6) (by decide)) EI.lit)) (fun i j hi hj=>okL (by omega) (by omega))) (fun s ⟨_,e,_⟩=>by rw [e];rfl) fun s ⟨l,e,i,j,hi,hj,el⟩=>?_
 subst e
 have hl:l.natAbs<=10 ^ 12:=by
  rcases hj with rfl|rfl
  ·simp at el;omega
  ·simp at el;omega
 have bkl:Bd (10 ^ 12) [k,l]:=fun n hn=>by
  simp only [List.mem_cons,List.mem_nil_iff,or_false] at hn
  rcases hn with rfl|rfl
  ·exact hk
  ·exact hl
 refine aW (by (walk_at "au3")) (fun _=>aD (s:=.dat (tI [0,1])) (by (walk_at "au3")) ⟨_,⟨0,1,rfl,.inr (by decide),by unfold Bd;decide⟩,rfl,rfl⟩) (fun h=>?_)
 have h0:k≠0\/l≠0:=by
  by_cases z:k=0
  ·refine .inr fun y=>?_
   rw [z,y] at h;simp at h
  ·exact .inl z
 exact aD (s:=.dat (tI [k,l])) (by (walk_at "au3")) ⟨_,⟨k,l,rfl,h0,bkl⟩,rfl,rfl⟩
theorem scLHanger:FnScope ["_law_purse_here","_law_first","_law_middle","_law_last"] ["_law_purse_here"] (zI rH):=fsK
theorem zhK (F:Fun K "_law_hanger" "_law_hanger" rH f fd)
  (G:FnOk P w K mg base zW 1 g gd ["_law_purse_here","_law_out_of"] jS) (bG:Binds K gd ["_law_purse_here","_law_out_of"] []) (kG:PySem.W.keepIn K (.ref g)=true) (mG:mg "_law_draw" = some (.ref g)) :
  FnOk P w K mg base zW 2 f fd ["_law_purse_here"] (spU K zcM):=by
 refine okU F scLHanger (fun ds d h=>?_) (fun cdv A0 outer s0 H0 E0 hr=>?_)
 ·obtain ⟨rfl,_⟩:=h;rfl
 have r:=hr.mono (show 1<=1 by decide)
 refine ⟨_,(zC (zM (i:=1) scLHanger.nd rfl (Or.inl rfl) (zD G r rfl mG kG bG .nil zK (zO (zv 0) (yC zB))))
  (zC (zM (i:=2) scLHanger.nd rfl (Or.inl rfl) (zH qG (zH yD (zH yD (zv 1) zA) (zD G r rfl mG kG bG .nil zK (zO (zv 0) (yC zB)))) zA))
  (zC (zM (i:=3) scLHanger.nd rfl (Or.inl rfl) (zH qG (zH yD (zH yD (zv 2) zA) (zD G r rfl mG kG bG .nil zK (zO (zv 0) (yC zB)))) zA))
  (zF (zN (zH xO (zH xO (zG xE yJ (zv 1) (fun _ _=>rfl)) (zG xE yJ (zv 2) (fun _ _=>rfl))) (zG xE yJ (zv 3) (fun _ _=>rfl)))))))),fun q0 ds C h=>?_⟩
 obtain ⟨rfl,rfl⟩:=h
 refine aP (aX (A1.cons (aN rfl) (A1.cons E1.int A1.nil)) (by decide:(0:Int)<3) (by decide)) (fun s ⟨_,e,_⟩=>by rw [e];rfl) fun s ⟨x,e,x0,x1⟩=>?_
 subst e
 refine aP (EI.mono (P':=fun m=>∃ t:Int,0<=t/\t<2/\m=(x+1+t) % 3) (EI.opC (bU (bU (EI.of (P:=fun d=>d=x) (aA rfl) rfl) EI.lit) (aX (A1.cons (aN rfl) (A1.cons E1.int A1.nil)) (by decide:(0:Int)<2) (by decide))) EI.lit (fun i j _ hj=>by subst hj;decide)) fun m ⟨i,j,⟨i1,i2,⟨i3,i4,e1,e2,e3⟩,e4,e5⟩,e6,e7⟩=>⟨i2,e4.1,e4.2,by subst e1 e2 e3 e5 e6;exact e7⟩) (fun s ⟨_,e,_⟩=>by rw [e];rfl) fun s ⟨y,e,t,t0,t1,ey⟩=>?_
 subst e
 refine aP (EI.mono (P':=fun m=>∃ t:Int,0<=t/\t<2/\m=(y+1+t) % 3) (EI.opC (bU (bU (EI.of (P:=fun d=>d=y) (aA rfl) rfl) EI.lit) (aX (A1.cons (aN rfl) (A1.cons E1.int A1.nil)) (by decide:(0:Int)<2) (by decide))) EI.lit (fun i j _ hj=>by subst hj;decide)) fun m ⟨i,j,⟨i1,i2,⟨i3,i4,e1,e2,e3⟩,e4,e5⟩,e6,e7⟩=>⟨i2,e4.1,e4.2,by subst e1 e2 e3 e5 e6;exact e7⟩) (fun s ⟨_,e,_⟩=>by rw [e];rfl) fun s ⟨z,e,u,u0,u1,ez⟩=>?_
 subst e
 obtain ⟨i,rfl⟩:=Int.eq_ofNat_of_zero_le x0
 obtain ⟨j,rfl⟩:=Int.eq_ofNat_of_zero_le (show 0<=y by omega)
 obtain ⟨k,rfl⟩:=Int.eq_ofNat_of_zero_le (show 0<=z by omega)
 have hi:i<3:=by omega
 have hj:j<3:=by omega
 have hk:k<3:=by omega
 exact aD (s:=.dat (.str (hg i j k))) (aR (x:=⟨#[120+i,120+j]⟩) (y:=⟨#[120+k]⟩) (aR (x:=⟨#[120+i]⟩) (y:=⟨#[120+j]⟩) (aI E1.str (aA rfl) (show 3<=sizeLine from z3) (zhO i hi)) (aI E1.str (aA rfl) (show 3<=sizeLine from z3) (zhO j hj)) (show 1+1<=sizeLine from z2)) (aI E1.str (aA rfl) (show 3<=sizeLine from z3) (zhO k hk)) (show 2+1<=sizeLine from z3)) ⟨_,⟨i,j,k,rfl,hi,hj,hk,by omega,by omega⟩,rfl,rfl⟩
theorem scLHgs:FnScope ["_law_found","_law_first","_law_middle","_law_last"] [] (zI zoT):=fsK
theorem zvP (F:Fun K "_law_hangers" "_law_hangers" zoT f fd) :
  FnOk P w K mg base zW 1 f fd [] (yT K yeG):=by
 refine jM F scLHgs (fun ds d h=>?_) (fun cdv A0 outer s0 H0 E0 hr=>?_)
 ·obtain ⟨rfl,_⟩:=h;rfl
 refine ⟨_,(zC (zM (i:=0) scLHgs.nd rfl (Or.inl rfl) (xX zB))
  (zC (wT PassesOwn.never rfl (tO yJ) (yB (i:=1) scLHgs.nd rfl (Or.inl rfl)) (zF (wT PassesOwn.never rfl (tO yJ) (yB (i:=2) scLHgs.nd rfl (Or.inl rfl)) (zF (wT PassesOwn.never rfl (tO yJ) (yB (i:=3) scLHgs.nd rfl (Or.inl rfl)) (zF (yM (ZW.pt (tS (zR jR (zv 1) (zv 2) (zT _)) (kD (zR jR (zv 2) (zv 3) (zT _))))) (zF (zeE (zmE (zv 0) (zH xO (zH xO (zv 1) (zv 2)) (zv 3))))) zX)))))))
  (zF (zN (zv 0))))),fun ds d h=>?_⟩
 obtain ⟨rfl,rfl⟩:=h
 refine bO (ds:=[]) (bQ (ds:=[]) A1.nil rfl (vZ (n:=0) rfl z0)) rfl ?_
 refine S.seq (M:=fun τ'=>∃ o1 o2 o3:Sl,τ'=[.own (hgT (27)),o1,o2,o3]) ?_ fun τ' ⟨o1,o2,o3,eτ⟩=>?_
 ·refine ak (Wk.str (z := "xyz") E1.str (by decide +kernel)) (fun i τ'=>∃ o1 o2 o3:Sl,τ'=[.own (hgT (9*i)),o1,o2,o3]) ⟨_,_,_,rfl⟩ (fun i d τ1 hd ⟨o1,o2,o3,e1⟩=>?_) (fun τ1 h=>h)
  subst e1
  obtain ⟨hi,rfl⟩:=ybA hd
  refine ⟨_,Gd.name,?_⟩
  refine ak (Wk.str (z := "xyz") E1.str (by decide +kernel)) (fun j τ'=>∃ o2 o3:Sl,τ'=[.own (hgT (9*i+3*j)),.dat (.str (vQ i)),o2,o3]) ⟨_,_,rfl⟩ (fun j d τ1 hd ⟨o2,o3,e1⟩=>?_) (fun τ1 ⟨o2,o3,e1⟩=>⟨_,_,_,e1⟩)
  subst e1
  obtain ⟨hj,rfl⟩:=ybA hd
  refine ⟨_,Gd.name,?_⟩
  refine ak (Wk.str (z := "xyz") E1.str (by decide +kernel)) (fun k τ'=>∃ o3:Sl,τ'=[.own (hgT (9*i+3*j+k)),.dat (.str (vQ i)),.dat (.str (vQ j)),o3]) ⟨_,rfl⟩ (fun k d τ1 hd ⟨o3,e1⟩=>?_) (fun τ1 ⟨o3,e1⟩=>⟨_,_,e1⟩)
  subst e1
  obtain ⟨hk,rfl⟩:=ybA hd
  refine ⟨_,Gd.name,?_⟩
  have hs:=zpJ hi hj hk
  refine af (bZ (aC (bP (x:=vQ i) (y:=vQ j) (aA rfl) (aA rfl))) (aC (bP (x:=vQ j) (y:=vQ k) (aA rfl) (aA rfl)))) (fun h=>?_) (fun h=>?_)
  ·rw [zlN,zlN] at h
   rw [if_pos (zwB h)] at hs
   have hl:=zyR (9*i+3*j+k)
   refine S.append1 (d:=.str (hg i j k)) rfl (aG (aR (y:=vQ k) (aR (x:=vQ i) (y:=vQ j) (aA rfl) (aA rfl) (show 2<=sizeLine by decide)) (aA rfl) (show 3<=sizeLine by decide)) (by rw [yaX i hi j hj k hk])) rfl (Nat.lt_of_le_of_lt (show (hgT (9*i+3*j+k)).length<=26 by omega) (by decide)) ⟨.dat (.str (vQ k)),?_⟩
   rw [Nat.add_assoc (9*i+3*j) k 1] at hs
   rw [hs]
   rfl
  ·rw [zlN,zlN] at h
   rw [if_neg (ztC h),List.append_nil] at hs
   exact S.next ⟨_,(by rw [<- Nat.add_assoc,hs];rfl)⟩
 subst eτ
 exact S.retO rfl ⟨rfl,zfA 27⟩
theorem scLHangs49:FnScope ["_law_four_here","_law_hanger_here","_law_found","_law_some","_law_settings"] ["_law_four_here"] (zI sE):=fsK
theorem zgK (F:Fun K "_law_hangs" "_law_hangs" sE f fd)
  (G:FnOk P w K mg base zW 1 g gd [] (yT K yeG)) (bG:Binds K gd [] []) (kG:PySem.W.keepIn K (.ref g)=true) (mG:mg "_law_hangers" = some (.ref g))
  (G2:FnOk P w K mg base zW 6 g2 gd2 ["hanger","four"] (yT K yaE)) (bG2:Binds K gd2 ["hanger","four"] []) (kG2:PySem.W.keepIn K (.ref g2)=true) (mG2:mg "settings_of" = some (.ref g2))
  (G3:FnOk P w K mg base zW 5 g3 gd3 ["hanger","settings"] (yT K kT)) (bG3:Binds K gd3 ["hanger","settings"] []) (kG3:PySem.W.keepIn K (.ref g3)=true) (mG3:mg "hung" = some (.ref g3)) :
  FnOk P w K mg base zW 7 f fd ["_law_four_here"] (yT K zaK):=by
 refine jM F scLHangs49 (fun ds d h=>?_) (fun cdv A0 outer s0 H0 E0 hr=>?_)
 ·obtain ⟨F,rfl,_⟩:=h;rfl
 have r:=hr.mono (show 1<=6 by decide)
 have r2:=hr.mono (show 6<=6 by decide)
 have r3:=hr.mono (show 5<=6 by decide)
 refine ⟨_,(zC (wT PassesOwn.never rfl (jA (zqF G r rfl mG kG bG .nil zK)) (yB (i:=1) scLHangs49.nd rfl (Or.inl rfl)) (zC (zM (i:=2) scLHangs49.nd rfl (Or.inl rfl) (zD G2 r2 rfl mG2 kG2 bG2 .nil zK (zO (zv 1) (zO (zv 0) zB))))
  (zC (zM (i:=3) scLHangs49.nd rfl (Or.inl rfl) (xX zB))
  (zC (yM (zR wG (zG zE (zv 2) zA (fun _ _=>rfl)) yJ (zT _)) (zF (zM (i:=3) scLHangs49.nd rfl (Or.inl rfl) (xX (xI (zG zE (zv 2) zA (fun _ _=>rfl)) (xI (zG zE (zv 2) zA (fun _ _=>rfl)) zB))))) zX)
  (zC (yM (zR wG (zG zE (zv 2) zA (fun _ _=>rfl)) yJ (zT _)) (zF (zM (i:=3) scLHangs49.nd rfl (Or.inl rfl) (xX (wR (zS (xI (zG zE (zv 2) zA (fun _ _=>rfl)) (xI (zG zE (zv 2) zA (fun _ _=>rfl)) (wR (zS (yC (yC zB))) zB)))) (wR (zS (xI (zG zE (zv 2) zA (fun _ _=>rfl)) (xI (zG zE (zv 2) zA (fun _ _=>rfl)) (wR (zS (yC (sJ (vE xZ zA) zB))) zB)))) zB))))) zX)
  (zF (wT PassesOwn.never rfl (jA (zv 3)) (yB (i:=4) scLHangs49.nd rfl (Or.inl rfl)) (zF (yM (zR (tZ hr.units) (zD G3 r3 rfl mG3 kG3 bG3 .nil zK (zO (zv 1) (zO (zv 4) zB))) (zv 0) (zT _)) (zF (zN vW)) zX)))))))))
  (zF (zN vW))),fun ds d h=>?_⟩
 obtain ⟨F,rfl,hF,rfl⟩:=h
 refine S.seq (M:=fun τ'=>∃ o1 o2 o3 o4:Sl,τ'=[.dat (tI F),o1,o2,o3,o4]) ?_ fun τ' ⟨o1,o2,o3,o4,eτ⟩=>?_
 ·refine ak (Wk.lst (E1.call (R:=yeG) (ds:=[]) A1.nil ⟨rfl,rfl⟩)) (fun _ τ'=>∃ o1 o2 o3 o4:Sl,τ'=[.dat (tI F),o1,o2,o3,o4]) ⟨_,_,_,_,rfl⟩ (fun m d τ1 hd ⟨o1,o2,o3,o4,e1⟩=>?_) (fun τ1 h=>h)
  subst e1
  obtain ⟨i,j,k,hh,rfl⟩:=zlH 27 (Nat.le_refl _) d (List.mem_of_getElem? hd)
  clear hd
  refine ⟨_,Gd.name,?_⟩
  obtain ⟨hi,hj,hk,ij,jk⟩:=id hh
  have hx:=yeX i j k F
  obtain ⟨D0,hD⟩:=hx
  refine aF (s:=.dat D0) (E1.call (R:=yaE) (A1.cons (aA rfl) (A1.cons (aA rfl) A1.nil)) ⟨i,j,k,F,rfl,hh,hF.l,hF.nz,yL hF.bd,hD⟩) ?_
  refine bO (ds:=[]) (bQ (ds:=[]) A1.nil rfl (vZ (n:=0) rfl z0)) rfl ?_
  rcases ydZ hh hF.l hF.nz hF.bd hD with ⟨_,c,e,K',L',w,rfl,gc,gk,bc,bk,hl⟩|⟨_,_,rfl⟩|⟨t,A',B',_,_,rfl,_,hA,hB⟩
  ·refine aJ (T1.eqn (b:=decide (Str.ofString "lock" = Str.ofString "set")) (aC (aQ (aB (aA rfl) E1.int rfl) E1.str)) (by decide +kernel)) ?_
   refine S.seq (M:=fun τ'=>τ'=[.dat (tI F),.dat (.str (hg i j k)),.dat (.tuple [.str "lock",tI [c,e],.str w,tI [K',L']]),.own [.tuple [tI [K',L'],tI [c,e],tI [0,1]],.tuple [tI [K',L'],tI [c,e],tI [0, -5]]],o4]) (S.ifT (T1.eqn (b:=decide (Str.ofString "lock" = Str.ofString "lock")) (aC (aQ (aB (aA rfl) E1.int rfl) E1.str)) (by decide +kernel)) (S.asgO (bQ (ds:=[.tuple [tI [K',L'],tI [c,e],tI [0,1]],.tuple [tI [K',L'],tI [c,e],tI [0, -5]]]) (by (walk_at "au3")) rfl (vZ (n:=2) rfl z2)) rfl rfl)) fun τ' e=>?_
   subst e
   have e1:=zpY hl gk.nz
   have e2:=zlU (F:=pl F) hk rfl rfl (vU hi gk.nz) (vU hj gc.nz) e1 (i:=i) (j:=j)
   rw [hF.pl] at e1 e2
   refine S.frz (i:=3) rfl ?_
   refine ak (Wk.lst (aA rfl)) (fun _ τ'=>∃ o1 o2 o3 o4:Sl,τ'=[.dat (tI F),.dat (.str (hg i j k)),o2,o3,o4]) ⟨.un,_,_,_,rfl⟩ (fun m d τ1 hd ⟨_,o2,o3,o4,e1⟩=>?_) (fun τ1 ⟨_,o2,o3,o4,e⟩=>⟨_,_,_,_,e⟩)
   subst e1
   have hcs:d = .tuple [tI [K',L'],tI [c,e],tI [0,1]]\/d = .tuple [tI [K',L'],tI [c,e],tI [0, -5]]:=by simpa using List.mem_of_getElem? hd
   refine ⟨_,Gd.name,?_⟩
   rcases hcs with rfl|rfl
   ·exact au (ah (d:=tI F) (aG (E1.call (R:=kT) (A1.cons (aA rfl) (A1.cons (aA rfl) A1.nil)) ⟨i,j,k,K',L',c,e,0,1,rfl,hh,gk.nz,gc.nz,(.inr (by decide)),(yL bk),(yL bc),(yhB (by decide)),rfl⟩) (by rw [e1])) (aA rfl) rfl rfl yE) (S.next ⟨.un,_,_,_,rfl⟩)
   ·exact au (ah (d:=tI F) (aG (E1.call (R:=kT) (A1.cons (aA rfl) (A1.cons (aA rfl) A1.nil)) ⟨i,j,k,K',L',c,e,0,(-5),rfl,hh,gk.nz,gc.nz,(.inr (by decide)),(yL bk),(yL bc),(yhB (by decide)),rfl⟩) (by rw [e2])) (aA rfl) rfl rfl yE) (S.next ⟨.un,_,_,_,rfl⟩)
  ·refine aJ (T1.eqn (b:=decide (Str.ofString "none" = Str.ofString "set")) (aC (aQ (aB (aA rfl) E1.int rfl) E1.str)) (by decide +kernel)) ?_
   refine aJ (T1.eqn (b:=decide (Str.ofString "none" = Str.ofString "lock")) (aC (aQ (aB (aA rfl) E1.int rfl) E1.str)) (by decide +kernel)) ?_
   refine S.frz (i:=3) rfl ?_
   exact ak (Wk.lst (aA rfl)) (fun _ τ'=>∃ o1 o2 o3 o4:Sl,τ'=[.dat (tI F),.dat (.str (hg i j k)),o2,o3,o4]) ⟨.un,_,_,_,rfl⟩ (fun m d τ1 hd _=>by simp at hd) (fun τ1 ⟨_,o2,o3,o4,e⟩=>⟨_,_,_,_,e⟩)
  ·refine S.seq (M:=fun τ'=>τ'=[.dat (tI F),.dat (.str (hg i j k)),.dat (.tuple [.str "set",wS A',wS B']),.own [wS A',wS B'],o4]) (S.ifT (T1.eqn (b:=decide (Str.ofString "set" = Str.ofString "set")) (aC (aQ (aB (aA rfl) E1.int rfl) E1.str)) (by decide +kernel)) (S.asgO (bQ (ds:=[wS A',wS B']) (A1.cons (aB (aA rfl) E1.int rfl) (A1.cons (aB (aA rfl) E1.int rfl) A1.nil)) rfl (vZ (n:=2) rfl z2)) (by
     obtain ⟨_,_,_,_,_,_,e1,_⟩:=hA
     obtain ⟨_,_,_,_,_,_,e2,_⟩:=hB
     rw [e1,e2];rfl) rfl)) fun τ' e=>?_
   subst e
   refine aJ (T1.eqn (b:=decide (Str.ofString "set" = Str.ofString "lock")) (aC (aQ (aB (aA rfl) E1.int rfl) E1.str)) (by decide +kernel)) ?_
   refine S.frz (i:=3) rfl ?_
   refine ak (Wk.lst (aA rfl)) (fun _ τ'=>∃ o1 o2 o3 o4:Sl,τ'=[.dat (tI F),.dat (.str (hg i j k)),o2,o3,o4]) ⟨.un,_,_,_,rfl⟩ (fun m d τ1 hd ⟨_,o2,o3,o4,e1⟩=>?_) (fun τ1 ⟨_,o2,o3,o4,e⟩=>⟨_,_,_,_,e⟩)
   subst e1
   have hR:∃ R,d=wS R/\zeJ i j k (pl F) R:=by
    have:d=wS A'\/d=wS B':=by simpa using List.mem_of_getElem? hd
    rcases this with rfl|rfl
    ·exact ⟨_,rfl,hA⟩
    ·exact ⟨_,rfl,hB⟩
   obtain ⟨R,rfl,x1,y1,x2,y2,x3,y3,rfl,g1,g2,g3,b1,b2,b3,eh⟩:=hR
   rw [hF.pl] at eh
   refine ⟨_,Gd.name,?_⟩
   exact au (ah (d:=tI F) (aG (E1.call (R:=kT) (A1.cons (aA rfl) (A1.cons (aA rfl) A1.nil)) ⟨i,j,k,x1,y1,x2,y2,x3,y3,rfl,hh,g1.nz,g2.nz,g3.nz,b1,b2,b3,rfl⟩) (by rw [eh])) (aA rfl) rfl rfl yE) (S.next ⟨.un,_,_,_,rfl⟩)
 subst eτ
 exact aD (s:=.dat (.bool true)) E1.bl ⟨rfl,rfl⟩
theorem scLAbt49:FnScope ["_law_four_here","_law_way","_law_setting_here","_law_found"] ["_law_four_here"] (zI zeM):=fsK
theorem zlV (F:Fun K "_law_about" "_law_about" zeM f fd)
  (G:FnOk P w K mg base zW 4 g gd ["four"] (ziB K)) (bG:Binds K gd ["four"] []) (kG:PySem.W.keepIn K (.ref g)=true) (mG:mg "axis" = some (.ref g))
  (G2:FnOk P w K mg base zW 3 g2 gd2 ["four"] (zhX K)) (bG2:Binds K gd2 ["four"] []) (kG2:PySem.W.keepIn K (.ref g2)=true) (mG2:mg "rest" = some (.ref g2))
  (G3:FnOk P w K mg base zW 4 g3 gd3 ["way","four"] (yT K RSA)) (bG3:Binds K gd3 ["way","four"] []) (kG3:PySem.W.keepIn K (.ref g3)=true) (mG3:mg "setting_about" = some (.ref g3))
  (G4:FnOk P w K mg base zW 4 g4 gd4 ["way","setting"] (qZ K)) (bG4:Binds K gd4 ["way","setting"] []) (kG4:PySem.W.keepIn K (.ref g4)=true) (mG4:mg "about" = some (.ref g4))
  (G5:FnOk P w K mg base zW 2 g5 gd5 ["four"] (kX K)) (bG5:Binds K gd5 ["four"] []) (kG5:PySem.W.keepIn K (.ref g5)=true) (mG5:mg "size" = some (.ref g5)) :
  FnOk P w K mg base zW 5 f fd ["_law_four_here"] (yT K ziU):=by
 refine jM F scLAbt49 (fun ds d h=>?_) (fun cdv A0 outer s0 H0 E0 hr=>?_)
 ·obtain ⟨F,rfl,_⟩:=h;rfl
 have r:=hr.mono (show 4<=4 by decide)
 have r2:=hr.mono (show 3<=4 by decide)
 have r3:=hr.mono (show 4<=4 by decide)
 have r4:=hr.mono (show 4<=4 by decide)
 have r5:=hr.mono (show 2<=4 by decide)
 refine ⟨_,(zC (zM (i:=1) scLAbt49.nd rfl (Or.inl rfl) (zD G r rfl mG kG bG .nil zK (zO (zv 0) zB)))
  (zC (yM (zR zdX (zv 1) jD (zT _)) (zF (zN (zpT (wD (vG hr.units) (zv 0) (zS (yC (yC (yC (yC zB))))) (zT _)) (ziY (wD (vG hr.units) (zD G2 r2 rfl mG2 kG2 bG2 .nil zK (zO (zv 0) zB)) (zS (yC (yC zB))) (zT _)))))) zX)
  (zC (zM (i:=2) scLAbt49.nd rfl (Or.inl rfl) (zD G3 r3 rfl mG3 kG3 bG3 .nil zK (zO (zv 1) (zO (zv 0) zB))))
  (zC (yM (ZW.pt (qQ (zR zdX (zv 2) jD (zT _)) (sA (zR (tZ hr.units) (zD G4 r4 rfl mG4 kG4 bG4 .nil zK (zO (zv 1) (zO (zv 2) zB))) (zv 0) (zT _))))) (zF (zN vW)) zX)
  (zC (zM (i:=3) scLAbt49.nd rfl (Or.inl rfl) (zD G2 r2 rfl mG2 kG2 bG2 .nil zK (zO (zv 0) zB)))
  (zF (zN (wD wG (zH zL (zG zE (zv 3) zA (fun _ _=>rfl)) (zD G5 r5 rfl mG5 kG5 bG5 .nil zK (zO (zv 0) zB))) (zH zL (zH zL (zG zE (zv 0) zA (fun _ _=>rfl)) (zG zE (zv 0) zA (fun _ _=>rfl))) (zG zE (zv 3) zA (fun _ _=>rfl))) (zT _))))))))),fun ds d h=>?_⟩
 obtain ⟨F,rfl,hF,rfl⟩:=h
 obtain ⟨a,b,c,e,rfl⟩:=zU hF.l
 have b0:Bd (2 ^ 1000) [a,b,c,e]:=yL hF.bd
 refine aF (s:=.dat (axD (ax [a,b,c,e]))) (E1.cAxis (A1.cons (aA rfl) A1.nil) rfl hF.nz b0) ?_
 obtain ⟨t,u,er⟩:∃ t u,rs [a,b,c,e]=[t,u]:=⟨_,_,rfl⟩
 rcases ygD hF.nz hF.bd with ⟨e0,e1⟩|⟨p,q,r,k,l,e0,es,nw,bw,bk,_⟩
 ·rw [e0]
  rw [hF.pl] at e1
  refine aW (b:=true) (aC (E1.isN (d:=.none) (aA rfl) E1.non)) (fun _=>?_) (fun z=>by cases z)
  have e2:rs [a,b,c,e]=[1,1]:=(ycJ hF.nz).mpr (by injection e1 with _ h)
  exact aD (s:=.dat (.bool true)) (E1.andV (b:=true) (aG (am (d:=tI [a,b,c,e]) (e:=tI [a,b,c,e]) (aA rfl) (aG (s:=.dat (tI [1,0,0,0])) (by (walk_at "au3")) (show Sl.dat (tI [1,0,0,0])=Sl.dat (tI [a,b,c,e]) by rw [e1])) rfl rfl yE yE) (by rw [wQ])) (fun _=>aG (am (d:=tI [1,1]) (e:=tI [1,1]) (aG (E1.cRest (ns:=[a,b,c,e]) (A1.cons (aA rfl) A1.nil) rfl hF.nz b0) (by rw [e2])) (by (walk_at "au3")) rfl rfl yE yE) (by rw [wQ])) (fun z=>by cases z)) ⟨rfl,rfl⟩
 ·rw [e0]
  refine aJ ((aC (E1.isN (d:=tI [p,q,r]) (aA rfl) E1.non)).eqn rfl) ?_
  obtain ⟨nk,eb⟩:=zpI nw hF.nz es
  rw [hF.pl] at eb
  refine aF (s:=.dat (tI [k,l])) (aG (E1.call (R:=RSA) (A1.cons (aA rfl) (A1.cons (aA rfl) A1.nil)) ⟨p,q,r,a,b,c,e,rfl,nw,hF.nz,yL bw,b0,rfl⟩) (by rw [es];rfl)) ?_
  refine aJ (ar ((aC (E1.isN (d:=tI [k,l]) (aA rfl) E1.non)).eqn rfl) (ah (d:=tI [a,b,c,e]) (aG (ag (x:=p) (y:=q) (z:=r) (k:=k) (l:=l) (A1.cons (aA rfl) (A1.cons (aA rfl) A1.nil)) (ybF nw nk) (yL bw) (yL bk)) (by rw [eb])) (aA rfl) rfl rfl yE)) ?_
  refine aF (s:=.dat (tI [t,u])) (aG (E1.cRest (ns:=[a,b,c,e]) (A1.cons (aA rfl) A1.nil) rfl hF.nz b0) (by rw [er])) ?_
  have hm:=zuL hF.nz er
  obtain ⟨ba,bb,bc,be⟩:=qA hF.bd
  have bn:Bt (yU [a,b,c,e]) 260:=zfO hF.bd
  have hfp:=zdG (yW rfl hF.nz) (show fr (a*a) (yU [a,b,c,e])=[t,u] from er)
  have bt:Bt t 260:=Nat.le_trans hfp.2.2.1 ((ba.mul ba).up (by decide))
  have bu:Bt u 260:=Nat.le_trans hfp.2.1 bn
  exact aD (s:=.dat (.bool true)) (aG (E1.eq (E1.mul (aB (aA rfl) E1.int rfl) (aG (av (ns:=[a,b,c,e]) (A1.cons (aA rfl) A1.nil) (show 4<=1000 by decide) (xY hF.bd)) (by rw [zuO rfl])) (bt.mulOk bn)) (E1.mul (E1.mul (aB (aA rfl) E1.int rfl) (aB (aA rfl) E1.int rfl) (ba.mulOk ba)) (aB (aA rfl) E1.int rfl) ((ba.mul ba).mulOk bu))) (by rw [decide_eq_true hm])) ⟨rfl,rfl⟩
theorem scLRt49:FnScope ["_law_four_here","_law_way","_law_table","_law_found","_law_one"] ["_law_four_here","_law_way"] (zI zhQ):=fsK
theorem zqI (F:Fun K "_law_right" "_law_right" zhQ f fd)
  (G:FnOk P w K mg base zW 4 g gd ["four"] (zeN K)) (bG:Binds K gd ["four"] []) (kG:PySem.W.keepIn K (.ref g)=true) (mG:mg "table_of" = some (.ref g))
  (G2:FnOk P w K mg base zW 7 g2 gd2 ["_law_four_here"] (yT K zaK)) (bG2:Binds K gd2 ["_law_four_here"] []) (kG2:PySem.W.keepIn K (.ref g2)=true) (mG2:mg "_law_hangs" = some (.ref g2))
  (G3:FnOk P w K mg base zW 5 g3 gd3 ["_law_four_here"] (yT K ziU)) (bG3:Binds K gd3 ["_law_four_here"] []) (kG3:PySem.W.keepIn K (.ref g3)=true) (mG3:mg "_law_about" = some (.ref g3))
  (G4:FnOk P w K mg base zW 5 g4 gd4 ["table"] (spQ K zcO)) (bG4:Binds K gd4 ["table"] []) (kG4:PySem.W.keepIn K (.ref g4)=true) (mG4:mg "four_of" = some (.ref g4))
  (G5:FnOk P w K mg base zW 5 g5 gd5 ["table"] (yT K rA)) (bG5:Binds K gd5 ["table"] []) (kG5:PySem.W.keepIn K (.ref g5)=true) (mG5:mg "is_turn" = some (.ref g5))
  (G6:FnOk P w K mg base zW 5 g6 gd6 ["way","four"] (yT K zeK)) (bG6:Binds K gd6 ["way","four"] []) (kG6:PySem.W.keepIn K (.ref g6)=true) (mG6:mg "parted" = some (.ref g6))
  (G7:FnOk P w K mg base zW 4 g7 gd7 ["one","other"] (rV K)) (bG7:Binds K gd7 ["one","other"] []) (kG7:PySem.W.keepIn K (.ref g7)=true) (mG7:mg "then" = some (.ref g7))
  (G8:FnOk P w K mg base zW 4 g8 gd8 ["four"] (yT K zjU)) (bG8:Binds K gd8 ["four"] []) (kG8:PySem.W.keepIn K (.ref g8)=true) (mG8:mg "half" = some (.ref g8))
  (G9:FnOk P w K mg base zW 5 g9 gd9 ["text"] (yT K yfE)) (bG9:Binds K gd9 ["text"] []) (kG9:PySem.W.keepIn K (.ref g9)=true) (mG9:mg "read_table" = some (.ref g9))
  (G10:FnOk P w K mg base zW 3 g10 gd10 ["table"] (yT K znY)) (bG10:Binds K gd10 ["table"] []) (kG10:PySem.W.keepIn K (.ref g10)=true) (mG10:mg "show_table" = some (.ref g10))
  (G11:FnOk P w K mg base zW 4 g11 gd11 ["text"] (yT K (yaZ spa 4))) (bG11:Binds K gd11 ["text"] []) (kG11:PySem.W.keepIn K (.ref g11)=true) (mG11:mg "read_four" = some (.ref g11))
  (G12:FnOk P w K mg base zW 2 g12 gd12 ["four"] (yT K zbR)) (bG12:Binds K gd12 ["four"] []) (kG12:PySem.W.keepIn K (.ref g12)=true) (mG12:mg "show_four" = some (.ref g12)) :
  FnOk P w K mg base zW 8 f fd ["_law_four_here","_law_way"] (yT K zsC):=by
 refine jM F scLRt49 (fun ds d h=>?_) (fun cdv A0 outer s0 H0 E0 hr=>?_)
 ·obtain ⟨F,x,y,z,rfl,_⟩:=h;rfl
 have r:=hr.mono (show 4<=7 by decide)
 have r2:=hr.mono (show 7<=7 by decide)
 have r3:=hr.mono (show 5<=7 by decide)
 have r4:=hr.mono (show 5<=7 by decide)
 have r5:=hr.mono (show 5<=7 by decide)
 have r6:=hr.mono (show 5<=7 by decide)
 have r7:=hr.mono (show 4<=7 by decide)
 have r8:=hr.mono (show 4<=7 by decide)
 have r9:=hr.mono (show 5<=7 by decide)
 have r10:=hr.mono (show 3<=7 by decide)
 have r11:=hr.mono (show 4<=7 by decide)
 have r12:=hr.mono (show 2<=7 by decide)
 refine ⟨_,(zC (zM (i:=2) scLRt49.nd rfl (Or.inl rfl) (zD G r rfl mG kG bG .nil zK (zO (zv 0) zB)))
  (zC (yM (ZW.pt (qQ (vO (vF (zD G5 r5 rfl mG5 kG5 bG5 .nil zK (zO (zv 2) zB)))) (qQ (zR (tZ hr.units) (zD G4 r4 rfl mG4 kG4 bG4 .nil zK (zO (zv 2) zB)) (zv 0) (zT _)) (qQ (vO (vF (zD G3 r3 rfl mG3 kG3 bG3 .nil zK (zO (zv 0) zB)))) (sA (vO (vF (zD G2 r2 rfl mG2 kG2 bG2 .nil zK (zO (zv 0) zB))))))))) (zF (zN vW)) zX)
  (zC (zM (i:=3) scLRt49.nd rfl (Or.inl rfl) (zD G6 r6 rfl mG6 kG6 bG6 .nil zK (zO (zv 1) (zO (zv 0) zB))))
  (zC (yM (ZW.pt (tS (zR wG (zG zE (zv 3) zA (fun _ _=>rfl)) yJ (zT _)) (kD (zR (tZ hr.units) (zD G7 r7 rfl mG7 kG7 bG7 .nil zK (xI (zG zE (zv 3) zA (fun _ _=>rfl)) (xI (zG zE (zv 3) zA (fun _ _=>rfl)) zB))) (zv 0) (zT _))))) (zF (zN vW)) zX)
  (zC (zM (i:=4) scLRt49.nd rfl (Or.inl rfl) (zD G8 r8 rfl mG8 kG8 bG8 .nil zK (zO (zv 0) zB)))
  (zC (yM (ZW.pt (tS (zR zwV (zv 4) jD (zT _)) (kD (zR (tZ hr.units) (zD G7 r7 rfl mG7 kG7 bG7 .nil zK (zO (zv 4) (zO (zv 4) zB))) (zv 0) (zT _))))) (zF (zN vW)) zX)
  (zF (zN (zpT (wD (vG hr.units) (zD G11 r11 rfl mG11 kG11 bG11 .nil zK (wL (zD G12 r12 rfl mG12 kG12 bG12 .nil zK (zO (zv 0) zB)) zB)) (zv 0) (zT _)) (ziY (wD (vG hr.units) (zD G9 r9 rfl mG9 kG9 bG9 .nil zK (wL (zD G10 r10 rfl mG10 kG10 bG10 .nil zK (zO (zv 2) zB)) zB)) (zv 2) (zT _)))))))))))),fun ds d h=>?_⟩
 obtain ⟨F,x,y,z,rfl,hF,nw,bw,rfl⟩:=h
 obtain ⟨a,b,c,e,rfl⟩:=zU hF.l
 have b0:Bd (2 ^ 1000) [a,b,c,e]:=yL hF.bd
 have tb:=(zzX hF.nz hF.bd).up (show 2*124+3<=940 by decide)
 refine aF (s:=.dat (tbD (kR a b c e) (kS a b c e) (qM a b c e))) (aG (E1.cTable (A1.cons (aA rfl) A1.nil) hF.nz b0) rfl) ?_
 refine aJ (ar (aV (T1.val (E1.call (R:=rA) (A1.cons (aA rfl) A1.nil) ⟨_,_,_,true,rfl,tb,⟨fun _=>zeB hF.nz,fun _=>rfl⟩,rfl⟩))) (ar (T1.neC (bK (R:=zcO) (A1.cons (aA rfl) A1.nil) ⟨_,_,_,rfl,tb,zeB hF.nz,rfl⟩) (fun g ⟨w',x',y',z',nz',bd',hT,eg⟩=>show g=tI [a,b,c,e] by rw [eg,ybO nz' hF.nz hT ⟨rfl,rfl,rfl⟩,hF.pl]) (aA rfl) yE) (ar (aV (T1.val (E1.call (R:=ziU) (A1.cons (aA rfl) A1.nil) ⟨_,rfl,hF,rfl⟩))) (aV (T1.val (E1.call (R:=zaK) (A1.cons (aA rfl) A1.nil) ⟨_,rfl,hF,rfl⟩)))))) ?_
 refine aF (s:=.dat (prt x y z a b c e)) (E1.call (R:=zeK) (A1.cons (aA rfl) (A1.cons (aA rfl) A1.nil)) ⟨x,y,z,a,b,c,e,rfl,nw,hF.nz,yL bw,yL hF.bd,rfl⟩) ?_
 refine S.seq (M:=fun τ'=>∃ o3:Sl,τ'=[.dat (tI [a,b,c,e]),.dat (tI [x,y,z]),.dat (tbD (kR a b c e) (kS a b c e) (qM a b c e)),o3,.un]) ?_ fun τ' ⟨o3,eτ⟩=>?_
 ·by_cases hl:a=0/\wX [x,y,z] [b,c,e]=0
  ·have ep:prt x y z a b c e = .tuple [.str "lock"]:=by unfold prt;rw [if_pos hl]
   rw [ep]
   exact au (T1.andF (T1.eqn (b:=decide (Str.ofString "lock" = Str.ofString "parted")) (aC (aQ (aB (aA rfl) E1.int rfl) E1.str)) (by decide +kernel))) (S.next ⟨_,rfl⟩)
  ·have nt:=zpV nw hl
   have lt:(pl (tw0 x y z a b c e)).length=4:=by rw [zY];rfl
   have lcj:(pl (cj (pl (tw0 x y z a b c e)))).length=4:=by rw [zY];exact rN lt
   have ls0:(sw0 x y z a b c e).length=4:=xB (ns:=[a,b,c,e]) rfl lcj
   have nc:=xC (rJ lt (xC nt))
   have ns0:∃ n∈sw0 x y z a b c e,n≠0:=vL (ns:=[a,b,c,e]) rfl lcj hF.nz nc
   have ls:(pl (sw0 x y z a b c e)).length=4:=by rw [zY];exact ls0
   have npt:=xC nt
   have nps:=xC ns0
   have ep:prt x y z a b c e = .tuple [.str "parted",tI (pl (sw0 x y z a b c e)),tI (pl (tw0 x y z a b c e))]:=by unfold prt;rw [if_neg hl]
   obtain ⟨bx,by',bz⟩:=ziO bw
   obtain ⟨ba,bb,bc,be⟩:=qA hF.bd
   have hg:Bt (wX [x,y,z] [b,c,e]) 140:=by rw [ztW];exact Bt.up (x:=_) (by walk_at "bt") (by decide)
   have hn:Bt (wX [x,y,z] [x,y,z]) 140:=by rw [ztW];exact Bt.up (x:=_) (by walk_at "bt") (by decide)
   have bt:Bd (2 ^ 330) (tw0 x y z a b c e):=zdT (Bt.up (x:=_) (by walk_at "bt") (by decide)) (Bt.up (x:=_) (by walk_at "bt") (by decide)) (Bt.up (x:=_) (by walk_at "bt") (by decide)) (Bt.up (x:=_) (by walk_at "bt") (by decide))
   have bpt:=wB nt bt
   have bpc:=wB (rJ lt npt) (zzD lt bpt)
   have bs:Bd (2 ^ 460) (pl (sw0 x y z a b c e)):=wB ns0 (yS (sH (ns:=[a,b,c,e]) rfl lcj hF.bd bpc) (by rw [<- Nat.pow_add,show (4:Nat)=2 ^ 2 from rfl, <- Nat.pow_add];exact Nat.pow_le_pow_right (by decide) (by decide)))
   have pr:=zsQ nt hF.nz
   rw [hF.pl] at pr
   rw [ep]
   exact au (T1.andT (T1.eqn (b:=decide (Str.ofString "parted" = Str.ofString "parted")) (aC (aQ (aB (aA rfl) E1.int rfl) E1.str)) (by decide +kernel)) (ah (d:=tI [a,b,c,e]) (aG (ao (ns:=pl (tw0 x y z a b c e)) (ms:=pl (sw0 x y z a b c e)) (A1.cons (aB (aA rfl) E1.int rfl) (A1.cons (aB (aA rfl) E1.int rfl) A1.nil)) lt ls npt nps (yL bpt) (yL bs)) (by rw [pr])) (aA rfl) rfl rfl yE)) (S.next ⟨_,rfl⟩)
 subst eτ
 have hx:=zmZ hF
 obtain ⟨d,hd,hd2⟩:=hx
 refine aF (s:=.dat d) (E1.call (R:=zjU) (A1.cons (aA rfl) A1.nil) hd) ?_
 refine S.seq (M:=fun τ'=>τ'=[.dat (tI [a,b,c,e]),.dat (tI [x,y,z]),.dat (tbD (kR a b c e) (kS a b c e) (qM a b c e)),o3,.dat d]) ?_ fun τ' eτ=>?_
 ·rcases hd2 with rfl|⟨w0,x0,y0,z0,rfl,n0,bd0,e0⟩
  ·exact au (T1.andF (aC (E1.notN (d:=.none) (aA rfl) E1.non))) (S.next rfl)
  ·exact au (T1.andT ((aC (E1.notN (d:=tI [w0,x0,y0,z0]) (aA rfl) E1.non)).eqn rfl) (ah (d:=tI [a,b,c,e]) (aG (ao (ns:=[w0,x0,y0,z0]) (ms:=[w0,x0,y0,z0]) (A1.cons (aA rfl) (A1.cons (aA rfl) A1.nil)) rfl rfl n0 n0 (yL bd0) (yL bd0)) (by rw [e0])) (aA rfl) rfl rfl yE)) (S.next rfl)
 subst eτ
 have hr:=ygT hF
 have gt:=yiA (a:=a) (b:=b) (c:=c) (e:=e) hF
 exact aD (s:=.dat (.bool true)) (E1.andV (b:=true) (aG (am (d:=tI [a,b,c,e]) (e:=tI [a,b,c,e]) (E1.call (R:=yaZ spa 4) (A1.cons (E1.call (R:=zbR) (A1.cons (aA rfl) A1.nil) ⟨_,rfl,hr.1,Nat.le_refl 4,rfl⟩) A1.nil) ⟨_,[a,b,c,e],rfl,(TxB.four hr).asc.mono (by decide),yeA (c:=32) (by decide) (by decide) hr.1 rfl (by decide) hr.2.2,rfl⟩) (aA rfl) rfl rfl yE yE) (by rw [wQ])) (fun _=>aG (am (d:=tD3 [rD (kR a b c e),rD (kS a b c e),rD (qM a b c e)]) (e:=tD3 [rD (kR a b c e),rD (kS a b c e),rD (qM a b c e)]) (E1.call (R:=yfE) (A1.cons (E1.call (R:=znY) (A1.cons (aA rfl) A1.nil) ⟨_,rfl,gt,rfl⟩) A1.nil) ⟨_,_,rfl,(TxB.tab gt).asc.mono (by decide),zxF gt,rfl⟩) (aA rfl) rfl rfl (zjP _ _ _) (zjP _ _ _)) (by rw [wQ])) (fun z=>by cases z)) ⟨rfl,rfl⟩
theorem scLaw:FnScope ["_law_script","_law_purse_here","_law_k","_law_hanger_here","_law_settings","_law_four_here","_law_way"] ["_law_script"] (zI ydG):=fsK
theorem ycA (F:Fun K "law" "law" ydG f fd)
  (G:FnOk P w K mg base zW 2 g gd ["_law_script"] (zeD K)) (bG:Binds K gd ["_law_script"] []) (kG:PySem.W.keepIn K (.ref g)=true) (mG:mg "_law_purse" = some (.ref g))
  (G2:FnOk P w K mg base zW 2 g2 gd2 ["_law_purse_here"] (spU K zcM)) (bG2:Binds K gd2 ["_law_purse_here"] []) (kG2:PySem.W.keepIn K (.ref g2)=true) (mG2:mg "_law_hanger" = some (.ref g2))
  (G3:FnOk P w K mg base zW 3 g3 gd3 ["_law_purse_here"] (spU K yeP)) (bG3:Binds K gd3 ["_law_purse_here"] []) (kG3:PySem.W.keepIn K (.ref g3)=true) (mG3:mg "_law_setting" = some (.ref g3))
  (G4:FnOk P w K mg base zW 3 g4 gd4 ["four"] (spT K xM pl)) (bG4:Binds K gd4 ["four"] []) (kG4:PySem.W.keepIn K (.ref g4)=true) (mG4:mg "plain" = some (.ref g4))
  (G5:FnOk P w K mg base zW 5 g5 gd5 ["hanger","settings"] (yT K kT)) (bG5:Binds K gd5 ["hanger","settings"] []) (kG5:PySem.W.keepIn K (.ref g5)=true) (mG5:mg "hung" = some (.ref g5))
  (G6:FnOk P w K mg base zW 3 g6 gd6 ["_law_purse_here"] (zhB K)) (bG6:Binds K gd6 ["_law_purse_here"] []) (kG6:PySem.W.keepIn K (.ref g6)=true) (mG6:mg "_law_four" = some (.ref g6))
  (G7:FnOk P w K mg base zW 1 g7 gd7 ["_law_purse_here","_law_out_of"] jS) (bG7:Binds K gd7 ["_law_purse_here","_law_out_of"] []) (kG7:PySem.W.keepIn K (.ref g7)=true) (mG7:mg "_law_draw" = some (.ref g7))
  (G8:FnOk P w K mg base zW 8 g8 gd8 ["_law_four_here","_law_way"] (yT K zsC)) (bG8:Binds K gd8 ["_law_four_here","_law_way"] []) (kG8:PySem.W.keepIn K (.ref g8)=true) (mG8:mg "_law_right" = some (.ref g8)) (m_range:mg "range" = none) (m_tuple:mg "tuple" = none) :
  FnOk P w K mg base zW 9 f fd ["_law_script"] (zfU K):=by
 refine okL F scLaw rfl (fun cdv A0 outer s0 H0 E0 hr=>?_)
 have r:=hr.mono (show 2<=8 by decide)
 have r2:=hr.mono (show 2<=8 by decide)
 have r3:=hr.mono (show 3<=8 by decide)
 have r4:=hr.mono (show 3<=8 by decide)
 have r5:=hr.mono (show 5<=8 by decide)
 have r6:=hr.mono (show 3<=8 by decide)
 have r7:=hr.mono (show 1<=8 by decide)
 have r8:=hr.mono (show 8<=8 by decide)
 refine ⟨_,(zC (zM (i:=1) scLaw.nd rfl (Or.inr rfl) (zD G r rfl mG kG bG .nil zK (zO (zv 0) zB)))
  (zC (wT PassesOwn.never rfl (wY rfl m_range (yC zB)) (yB (i:=2) scLaw.nd rfl (Or.inl rfl)) (zC (zM (i:=3) scLaw.nd rfl (Or.inl rfl) (zD G2 r2 rfl mG2 kG2 bG2 .nil zK (zO (zv 1) zB)))
  (zC (zM (i:=4) scLaw.nd rfl (Or.inl rfl) (yH yF rfl m_tuple (by rfl) (zQ (yP (own:=["_law_j"]) scLaw rfl csK (wY rfl m_range (yC zB)) (fun C fp s H nd=>yB (i:=0) nd rfl (Or.inl rfl)) (fun C fp s H=>yR) (fun C fp s H=>(zD G3 r3 rfl mG3 kG3 bG3 .nil zK (zO (zv 2) zB)))) zB)))
  (zC (zM (i:=5) scLaw.nd rfl (Or.inl rfl) (zD G4 r4 rfl mG4 kG4 bG4 .nil zK (xI (zG yQ (xX (wL (zD G6 r6 rfl mG6 kG6 bG6 .nil zK (zO (zv 1) zB)) (wL (zD G5 r5 rfl mG5 kG5 bG5 .nil zK (zO (zv 3) (zO (zv 4) zB))) zB))) (zD G7 r7 rfl mG7 kG7 bG7 .nil zK (zO (zv 1) (yC zB))) jT) zB)))
  (zC (zM (i:=6) scLaw.nd rfl (Or.inl rfl) (yH yF rfl m_tuple (by rfl) (zQ (yP (own:=["_law_j"]) scLaw rfl csK (wY rfl m_range (yC zB)) (fun C fp s H nd=>yB (i:=0) nd rfl (Or.inl rfl)) (fun C fp s H=>yR) (fun C fp s H=>(zH yI (zD G7 r7 rfl mG7 kG7 bG7 .nil zK (zO (zv 2) (yC zB))) zA))) zB)))
  (zC (yM (zR (vG hr.units) (zv 6) (zS (yC (yC (yC zB)))) (zT _)) (zF (zM (i:=6) scLaw.nd rfl (Or.inl rfl) (zS (yC (yC (sJ (vE xZ zA) zB)))))) zX)
  (zF (yM (vO (vF (zD G8 r8 rfl mG8 kG8 bG8 .nil zK (zO (zv 5) (zO (zv 6) zB))))) (zF (zN vW)) zX))))))))
  (zF (zN vW)))),fun sc hl hb=>?_⟩
 refine S.purse1 (ns:=sc) (A1.cons (aA rfl) A1.nil) hl hb (fun q=>?_) (fun s h=>⟨_,h⟩)
 refine S.seq (M:=fun τ'=>∃ o1 o2 o3 o4 o5:Sl,τ'=[.dat (.list (sc.map .int)),.pu,o1,o2,o3,o4,o5]) ?_ fun τ' ⟨o1,o2,o3,o4,o5,eτ⟩=>?_
 ·refine ak (Wk.rng (n:=3) (A1.cons E1.int A1.nil) rfl) (fun _ τ'=>∃ o1 o2 o3 o4 o5:Sl,τ'=[.dat (.list (sc.map .int)),.pu,o1,o2,o3,o4,o5]) ⟨_,_,_,_,_,rfl⟩ (fun n dd τ1 hd ⟨o1,o2,o3,o4,o5,e1⟩=>?_) (fun τ1 h=>h)
  subst e1
  refine ⟨_,Gd.name,?_⟩
  refine aP (bJ (R:=zcM) (ds:=[]) (A1.cons (aN rfl) A1.nil) ⟨rfl,rfl⟩) (fun s ⟨_,e,_⟩=>by rw [e];rfl) fun s ⟨d',es,i,j,k,e2,hh⟩=>?_
  subst es e2
  obtain ⟨hi,hj,hk,ij,jk⟩:=id hh
  refine aP (E.tupC (cE (Cd:=fun _ e=>∃ k l:Int,e=tI [k,l]/\(k≠0\/l≠0)/\Bd (10 ^ 12) [k,l]) (Wk.r3 (A1.cons E1.int A1.nil)) (fun d hd=>bJ (R:=yeP) (ds:=[]) (A1.cons (aN rfl) A1.nil) ⟨rfl,rfl⟩) (vZ (n:=3) rfl z3))) (fun s ⟨_,e,_⟩=>by rw [e];rfl) fun s ⟨ss,es,l3,he⟩=>?_
  subst es
  match ss,l3 with
  | [t1,t2,t3],_ =>
  obtain ⟨_,_,a,b,rfl,n1,b1⟩:=he 0 t1 rfl
  obtain ⟨_,_,c,e,rfl,n2,b2⟩:=he 1 t2 rfl
  obtain ⟨_,_,f0,g0,rfl,n3,b3⟩:=he 2 t3 rfl
  have hb49:=zuU hi hj hk n1 n2 n3 b1 b2 b3
  have u1:Bd (2 ^ 800) [a,b]:=yL (k:=40) (yS b1 (by decide))
  have u2:Bd (2 ^ 800) [c,e]:=yL (k:=40) (yS b2 (by decide))
  have u3:Bd (2 ^ 800) [f0,g0]:=yL (k:=40) (yS b3 (by decide))
  refine aP (E.cTA (P:=F49) (C:=fun ss=>∃ s,ss=[s]/\∃ d,s = .dat d/\(fun d=>∃ ns:List Int,d=tI ns/\ns.length=4/\(∃ n∈ns,n≠0)/\Bd (2 ^ 124) ns) d) (A.lastE (E.pickA (n:=2) (C:=(fun d=>∃ ns:List Int,d=tI ns/\ns.length=4/\(∃ n∈ns,n≠0)/\Bd (2 ^ 124) ns)) (P:=fun i=>0<=i/\i<2) (A.cons (C1:=fun s=>∃ ns:List Int,s = .dat (tI ns)/\ns.length=4/\(∃ n∈ns,n≠0)/\Bd (12*10 ^ 28) ns) (ER.four (A1.cons (aN rfl) A1.nil)) (fun _ _=>A1.cons (E1.call (R:=kT) (A1.cons (aA rfl) (A1.cons (aA rfl) A1.nil)) ⟨i,j,k,a,b,c,e,f0,g0,rfl,hh,n1,n2,n3,u1,u2,u3,rfl⟩) A1.nil) (fun s ss ⟨ns,es,l4,nz,bd⟩ ess=>⟨[tI ns,tI (hu (rf i a b) (rf j c e) (rf k f0 g0))],by rw [es, <- ess];rfl,rfl,fun d hd=>?_⟩)) (by decide) (aX (A1.cons (aN rfl) (A1.cons E1.int A1.nil)) (by decide:(0:Int)<2) (by decide)) (fun d h=>h))) (fun ss ⟨s,es,d,ed,ns,en,l4,nz,bd⟩=>⟨ns,by rw [es,ed,en],by omega,⟨l4,nz,xY bd⟩,yaA l4 nz bd⟩)) (fun s ⟨_,e,_⟩=>by rw [e];rfl) fun s ⟨F,es,hF⟩=>?_
  ·simp only [List.mem_cons,List.mem_nil_iff,or_false] at hd
   rcases hd with rfl|rfl
   ·exact ⟨ns,rfl,l4,nz,yS bd (by decide)⟩
   ·exact ⟨_,rfl,hb49⟩
  subst es
  refine aP (EL.row (EL.comp (n:=3) (P:=fun m => -3<=m/\m<=3) (Wk.r3 (A1.cons E1.int A1.nil)) rfl (fun d hd=>EI.mono (bU (g:=fun i j=>i - j) (aX (A1.cons (aN rfl) (A1.cons E1.int A1.nil)) (by decide:(0:Int)<7) (by decide)) EI.lit) fun m ⟨i,j,hi,hj,em⟩=>by omega) (by decide))) (fun s ⟨_,e,_⟩=>by rw [e];rfl) fun s ⟨ws,es,lw,hw⟩=>?_
  subst es
  match ws,lw with
  | [x,y,z],_ =>
  have bw:=zzJ (hw x (by simp)) (hw y (by simp)) (hw z (by simp))
  refine S.seq (M:=fun τ'=>∃ x y z:Int,τ'=[.dat (.list (sc.map .int)),.pu,.dat dd,.dat (.str (hg i j k)),.dat (.tuple [tI [a,b],tI [c,e],tI [f0,g0]]),.dat (tI F),.dat (tI [x,y,z])]/\(∃ n∈[x,y,z],n≠0)/\Bd (2 ^ 2) [x,y,z]) ?_ fun τ' ⟨x,y,z,eτ,nw,bw⟩=>?_
  ·refine af ((aC (am (d:=tI [x,y,z]) (e:=tI [0,0,0]) (aA rfl) (by (walk_at "au3")) rfl rfl yE yE)).eqn zwC) (fun h=>?_) (fun h=>?_)
   ·exact S.asg1 (s:=.dat (tI [0,0, -2])) (by (walk_at "au3")) ⟨0,0, -2,rfl,⟨-2,by simp,by decide⟩,zzJ (by decide) (by decide) (by decide)⟩
   ·refine S.next ⟨x,y,z,rfl,?_,bw⟩
    have h:=of_decide_eq_false h
    by_cases hx:x=0
    ·by_cases hy:y=0
     ·exact ⟨z,by simp,fun hz=>h ⟨hx,hy,hz⟩⟩
     ·exact ⟨y,by simp,hy⟩
    ·exact ⟨x,by simp,hx⟩
  subst eτ
  exact au (aV (T1.val (E1.call (R:=zsC) (A1.cons (aA rfl) (A1.cons (aA rfl) A1.nil)) ⟨F,x,y,z,rfl,hF,nw,bw,rfl⟩))) (S.next ⟨_,_,_,_,_,rfl⟩)
 subst eτ
 exact aD (s:=.dat (.bool true)) E1.bl rfl
theorem zzK:FnScope ["one","other"] ["one","other"] (zI yfF):=fsK
theorem yeZ (F:Fun K "sum_of_products" "sum_of_products" yfF f fd) (ms:mg "sum" = none) (mz:mg "zip" = none):FnOk P w K mg base zW 1 f fd ["one","other"] (zfS K):=by
  refine F.okZ zzK (fun vs H Q E h=>?_) (fun cdv A outer s H vs Q E hr h=>?_)
  . obtain ⟨a,b,ns,ms,rfl,_⟩:=h;rfl
  obtain ⟨a,b,ns,ms,rfl,hS,hT,hl,hl2,s1,s2,q⟩:=h
  refine ⟨_,zF (zN (xG (zmL rfl) rfl ‹_› (by rfl) (zQ (yP (own:=["left","right"]) zzK rfl csK
      (ziG rfl mz (zQ (zv 0) (zQ (zv 1) zB)))
      (fun C fp s H nd=>zkW rfl nd rfl rfl rfl rfl) (fun C fp s H=>yR) (fun C fp s H=>zH zL (zv 0) (zv 1))) zB))),?_⟩
  refine ⟨_,rfl,_,rfl,a,b,rfl,⟨_,hS⟩,⟨_,hT⟩,?_⟩
  refine zqW (K:=K) ((List.zipWith (· * ·) ns ms).map PySem.W.Dat.int) hS hT (by simp [hl2]) (by simp [hl2]) (by rw [List.length_map];exact Nat.le_of_lt (kB hl)) (fun i x y H' d hx hy hd hs=>?_) (fun σ' H2 Q1 Q2 hq h=>?_) (fun D H' ys hs hy hD hf=>?_)
  . rw [List.getElem?_map] at hx hy hd
    rw [List.getElem?_zipWith] at hd
    cases e:ns[i]? with
    | none=>rw [e] at hx;cases hx
    | some n =>
      cases e2:ms[i]? with
      | none=>rw [e2] at hy;cases hy
      | some m =>
        rw [e] at hx hd
        rw [e2] at hy hd
        cases hx;cases hy;cases hd
        exact ⟨_,rfl,_,rfl,n,m,rfl,rfl,rQ (vS (s1 n (List.mem_of_getElem? e))) (vS (s2 m (List.mem_of_getElem? e2))),aH _,.int _⟩
  . obtain ⟨v1,e1,v2,e2,i,j,e3,e4,e5,q⟩:=h
    exact ⟨v1,e1,v2,e2,i,j,e3,e4,e5,hq _ _ q⟩
  . refine ⟨D,_,rfl,?_,q _ hs⟩
    rw [Fzs.ints_inv hf] at hy
    exact SqL.of hy
theorem zzR:FnScope ["level"] ["level"] (zI ycV):=fsK
theorem ycN (F:Fun K "lowered" "lowered" ycV f fd)
  (G:FnOk P w K mg base zW 2 g gd ["numbers"] (spT K (fun ns=>(∃ n∈ns,n≠0)/\Sm ns) jO)) (bG:Binds K gd ["numbers"] []) (kG:PySem.W.keepIn K (.ref g)=true) (mG:mg "reduced" = some (.ref g)) (m_tuple:mg "tuple" = none) :
  FnOk P w K mg base zW 3 f fd ["level"] (zzW K):=by
 refine F.okZ zzR (fun vs H Q E h=>?_) (fun cdv A outer s H vs Q E hr h=>?_)
 ·obtain ⟨p,q0,n1,n2,n3,b,rfl,_⟩:=h;rfl
 obtain ⟨p,q0,n1,n2,n3,b,rfl,hp,hq,b0,m1,m2,m3,mb,q⟩:=h
 have r:=hr.mono (show 2<=2 by decide)
 refine ⟨_,(zF (zN (yH yF rfl m_tuple (by rfl) (zQ (yP (own:=["top"]) zzR rfl csK (vA (zG zE (zv 0) zA (fun _ _=>rfl))) (fun C fp s H nd=>yB (i:=0) nd rfl (Or.inl rfl)) (fun C fp s H=>yR) (fun C fp s H=>(zD G r rfl mG kG bG .nil zK (wR (zS (zO (zv 0) (xI (zG sO (zv 1) zA (fun _ _=>rfl)) zB))) zB)))) zB)))),?_⟩
 refine ⟨_,rfl,p,_,_,_,rfl,rfl,SqT.of hp,atA,q0,rfl,⟨_,SqT.of hq⟩,?_⟩
 refine yaR (n1:=(fr n1 b).map V.int) (n2:=(fr n2 b).map V.int) (n3:=(fr n3 b).map V.int) (zkV (xs:=[.int n1,.int n2,.int n3]) (SqT.of (K:=K) hq)) (fun H' s R k=>?_) (fun H' s R k=>?_) (fun H' s R k=>?_) fun D H1 p1 p2 p3 s1 hD _ h1 h2 h3=>?_
 ·refine ⟨_,rfl,_,rfl,p,_,_,_,rfl,rfl,SqT.of (s _ _ hp),atB,(by show 2<=sizeLine;decide),fun t ht=>?_⟩
  have s2:=Same.new ht (.tup ([n1,b].map V.int))
  exact ⟨t,[n1,b],rfl,SqT.of zJ,(by show 2<=1000;decide),⟨⟨b,by simp,by omega⟩,sm2 m1 mb⟩,fun r H5 s5 h5=>k r H5 (s2.trans s5) h5⟩
 ·refine ⟨_,rfl,_,rfl,p,_,_,_,rfl,rfl,SqT.of (s _ _ hp),atB,(by show 2<=sizeLine;decide),fun t ht=>?_⟩
  have s2:=Same.new ht (.tup ([n2,b].map V.int))
  exact ⟨t,[n2,b],rfl,SqT.of zJ,(by show 2<=1000;decide),⟨⟨b,by simp,by omega⟩,sm2 m2 mb⟩,fun r H5 s5 h5=>k r H5 (s2.trans s5) h5⟩
 ·refine ⟨_,rfl,_,rfl,p,_,_,_,rfl,rfl,SqT.of (s _ _ hp),atB,(by show 2<=sizeLine;decide),fun t ht=>?_⟩
  have s2:=Same.new ht (.tup ([n3,b].map V.int))
  exact ⟨t,[n3,b],rfl,SqT.of zJ,(by show 2<=1000;decide),⟨⟨b,by simp,by omega⟩,sm2 m3 mb⟩,fun r H5 s5 h5=>k r H5 (s2.trans s5) h5⟩
 refine ⟨D,_,rfl,.inl ⟨SqL.of hD,fun u hu=>?_⟩⟩
 have s2:=Same.new hu (.tup [.ref p1,.ref p2,.ref p3])
 exact q u _ (s1.trans s2) ⟨p1,p2,p3,zJ,s2 _ _ h1,s2 _ _ h2,s2 _ _ h3⟩
theorem scFourOf:FnScope ["table","four"] ["table"] (zI zcZ):=fsK
theorem znH (F:Fun K "four_of" "four_of" zcZ f fd)
  (G:FnOk P w K mg base zW 4 g gd ["table"] (spQ K zaB)) (bG:Binds K gd ["table"] []) (kG:PySem.W.keepIn K (.ref g)=true) (mG:mg "only_four" = some (.ref g))
  (G2:FnOk P w K mg base zW 3 g2 gd2 ["table","four"] (yT K qN)) (bG2:Binds K gd2 ["table","four"] []) (kG2:PySem.W.keepIn K (.ref g2)=true) (mG2:mg "is_table_of" = some (.ref g2))
  (G3:FnOk P w K mg base zW 3 g3 gd3 ["four"] (spT K xM pl)) (bG3:Binds K gd3 ["four"] []) (kG3:PySem.W.keepIn K (.ref g3)=true) (mG3:mg "plain" = some (.ref g3)) :
  FnOk P w K mg base zW 5 f fd ["table"] (spQ K zcO):=by
 refine okQ F scFourOf (fun ds d h=>?_) (fun cdv A0 outer s0 H0 E0 hr=>?_)
 ·obtain ⟨a,b,d,rfl,_⟩:=h;rfl
 have r:=hr.mono (show 4<=4 by decide)
 have r2:=hr.mono (show 3<=4 by decide)
 have r3:=hr.mono (show 3<=4 by decide)
 refine ⟨_,(zC (zM (i:=1) scFourOf.nd rfl (Or.inl rfl) (zD G r rfl mG kG bG .nil zK (zO (zv 0) zB)))
  (zC (yM (vO (vF (zD G2 r2 rfl mG2 kG2 bG2 .nil zK (zO (zv 0) (zO (zv 1) zB))))) (zF vT) zX)
  (zF (zN (zD G3 r3 rfl mG3 kG3 bG3 .nil zK (zO (zv 1) zB)))))),fun ds C h=>?_⟩
 obtain ⟨a,b,d,rfl,ht,hs,rfl⟩:=h
 refine aP (bK (R:=zaB) (ds:=[tbD a b d]) (A1.cons (aA rfl) A1.nil) ⟨a,b,d,rfl,ht,rfl⟩) (fun s ⟨_,e,_⟩=>by rw [e];rfl) fun s ⟨g,es,w',x',y',z',eg,nz',bd',hso⟩=>?_
 subst es eg
 have hT:=hso hs
 refine aJ (aV (T1.val (E1.call (R:=qN) (A1.cons (aA rfl) (A1.cons (aA rfl) A1.nil)) ⟨a,b,d,w',x',y',z',true,rfl,ht,nz',bd',⟨fun _=>hT,fun _=>rfl⟩,rfl⟩))) ?_
 exact aD (s:=.dat (tI (pl [w',x',y',z']))) (E1.cT (ns:=[w',x',y',z']) (A1.cons (aA rfl) A1.nil) (show 4<=1000 by decide) ⟨rfl,nz',xY bd'⟩) ⟨_,⟨w',x',y',z',nz',bd',hT,rfl⟩,rfl,yaN⟩
theorem zrL:FnScope ["hanger"] ["hanger"] (zI zsU):=fsK
theorem zxV (F:Fun K "is_hanger" "is_hanger" zsU f fd) (m_len:mg "len" = none) (m_all:mg "all" = none) (m_WAYS:mg "WAYS" = some (.ref dWAYS)) (t_WAYS:TabS K dWAYS zrF) :
  FnOk P w K mg base zW 1 f fd ["hanger"] (yT K yfC):=by
 refine jM F zrL (fun ds d h=>?_) (fun cdv A0 outer s0 H0 E0 hr=>?_)
 ·obtain ⟨i,j,k,rfl,_⟩:=h;rfl
 refine ⟨_,(zC (yM (ZW.pt (qQ (zR jR (xG jG rfl m_len PySem.boot_len (zO (zv 0) zB)) zA (zT _)) (qQ (zR wG (zG xE (zv 0) zA (fun _ _=>rfl)) (zG xE (zv 0) zA (fun _ _=>rfl)) (zT _)) (sA (zR wG (zG xE (zv 0) zA (fun _ _=>rfl)) (zG xE (zv 0) zA (fun _ _=>rfl)) (zT _)))))) (zF (zN vW)) zX)
  (zF (zN (xG (zcI rfl) rfl m_all (by rfl) (zQ (yP (own:=["letter"]) zrL rfl csK (tO (zv 0)) (fun C fp s H nd=>yB (i:=0) nd rfl (Or.inl rfl)) (fun C fp s H=>yR) (fun C fp s H=>(wD zyK (zv 0) (wM (v:=.ref dWAYS) rfl m_WAYS rfl) (by with_unfolding_all rfl)))) zB))))),fun ds d h=>?_⟩
 obtain ⟨i,j,k,rfl,⟨hi,hj,hk,ij,jk⟩,rfl⟩:=h
 refine aJ (ar ((aC (E1.ne (cA (z:=hg i j k) (A1.cons (aA rfl) A1.nil) (show 3<=sizeLine from z3)) E1.int)).eqn rfl) (ar ((aC (aQ (x:=vQ i) (y:=vQ j) (aI (z:=hg i j k) (aA rfl) E1.int (show 3<=sizeLine from z3) rfl) (aI (z:=hg i j k) (aA rfl) E1.int (show 3<=sizeLine from z3) rfl))).eqn (decide_eq_false (zkJ ij))) ((aC (aQ (x:=vQ j) (y:=vQ k) (aI (z:=hg i j k) (aA rfl) E1.int (show 3<=sizeLine from z3) rfl) (aI (z:=hg i j k) (aA rfl) E1.int (show 3<=sizeLine from z3) rfl))).eqn (decide_eq_false (zkJ jk))))) ?_
 exact aD (s:=.dat (.bool true)) (aG (E1.allL (bs:=[true,true,true]) (E1.comp3 (d1:=.str (vQ i)) (d2:=.str (vQ j)) (d3:=.str (vQ k)) (Wk.str (z:=hg i j k) (aA rfl) (zsK i hi j hj k hk)) (aG (E1.tin t_WAYS (aA rfl)) (by rw [zhL i hi])) (aG (E1.tin t_WAYS (aA rfl)) (by rw [zhL j hj])) (aG (E1.tin t_WAYS (aA rfl)) (by rw [zhL k hk])))) rfl) ⟨rfl,rfl⟩
theorem zvY:FnScope ["hanger"] ["hanger"] (zI zhS):=fsK
theorem zsB (F:Fun K "refuse_no_hanger" "refuse_no_hanger" zhS f fd)
  (G:FnOk P w K mg base zW 1 g gd ["hanger"] (yT K yfC)) (bG:Binds K gd ["hanger"] []) (kG:PySem.W.keepIn K (.ref g)=true) (mG:mg "is_hanger" = some (.ref g)) :
  FnOk P w K mg base zW 2 f fd ["hanger"] (yT K zgC):=by
 refine jM F zvY (fun ds d h=>?_) (fun cdv A0 outer s0 H0 E0 hr=>?_)
 ·obtain ⟨i,j,k,rfl,_⟩:=h;rfl
 have r:=hr.mono (show 1<=1 by decide)
 refine ⟨_,(zF (yM (vO (vF (zD G r rfl mG kG bG .nil zK (zO (zv 0) zB)))) (zF vT) zX)),fun ds d h=>?_⟩
 obtain ⟨i,j,k,rfl,h,rfl⟩:=h
 exact au (aV (T1.val (E1.call (R:=yfC) (A1.cons (aA rfl) A1.nil) ⟨i,j,k,rfl,h,rfl⟩))) (S.next rfl)
theorem scSetOf:FnScope ["hanger","four","parts","length","number","root","both"] ["hanger","four"] (zI zhE):=fsK
theorem zqQ (F:Fun K "settings_of" "settings_of" zhE f fd)
  (G:FnOk P w K mg base zW 2 g gd ["hanger"] (yT K zgC)) (bG:Binds K gd ["hanger"] []) (kG:PySem.W.keepIn K (.ref g)=true) (mG:mg "refuse_no_hanger" = some (.ref g))
  (G2:FnOk P w K mg base zW 4 g2 gd2 ["hanger","four"] (yT K ydN)) (bG2:Binds K gd2 ["hanger","four"] []) (kG2:PySem.W.keepIn K (.ref g2)=true) (mG2:mg "two_parts" = some (.ref g2))
  (G3:FnOk P w K mg base zW 1 g3 gd3 ["one","other"] (zfS K)) (bG3:Binds K gd3 ["one","other"] []) (kG3:PySem.W.keepIn K (.ref g3)=true) (mG3:mg "sum_of_products" = some (.ref g3))
  (G4:FnOk P w K mg base zW 5 g4 gd4 ["hanger","parts"] (yT K yaC)) (bG4:Binds K gd4 ["hanger","parts"] []) (kG4:PySem.W.keepIn K (.ref g4)=true) (mG4:mg "locked" = some (.ref g4))
  (G5:FnOk P w K mg base zW 2 g5 gd5 ["number"] (yT K kU)) (bG5:Binds K gd5 ["number"] []) (kG5:PySem.W.keepIn K (.ref g5)=true) (mG5:mg "exact_root" = some (.ref g5))
  (G6:FnOk P w K mg base zW 5 g6 gd6 ["hanger","parts","middle"] (yT K zyL)) (bG6:Binds K gd6 ["hanger","parts","middle"] []) (kG6:PySem.W.keepIn K (.ref g6)=true) (mG6:mg "settings_by" = some (.ref g6)) (m_sorted:mg "sorted" = none) :
  FnOk P w K mg base zW 6 f fd ["hanger","four"] (yT K yaE):=by
 refine jM F scSetOf (fun ds d h=>?_) (fun cdv A0 outer s0 H0 E0 hr=>?_)
 ·obtain ⟨i,j,k,ns,rfl,_⟩:=h;rfl
 have r:=hr.mono (show 2<=5 by decide)
 have r2:=hr.mono (show 4<=5 by decide)
 have r3:=hr.mono (show 1<=5 by decide)
 have r4:=hr.mono (show 5<=5 by decide)
 have r5:=hr.mono (show 2<=5 by decide)
 have r6:=hr.mono (show 5<=5 by decide)
 refine ⟨_,(zC (zeE (zD G r rfl mG kG bG .nil zK (zO (zv 0) zB)))
  (zC (zM (i:=2) scSetOf.nd rfl (Or.inl rfl) (zD G2 r2 rfl mG2 kG2 bG2 .nil zK (zO (zv 0) (zO (zv 1) zB))))
  (zC (zM (i:=3) scSetOf.nd rfl (Or.inl rfl) (zD G3 r3 rfl mG3 kG3 bG3 .nil zK (xI (zG zE (zv 2) zA (fun _ _=>rfl)) (xI (zG zE (zv 2) zA (fun _ _=>rfl)) zB))))
  (zC (zM (i:=4) scSetOf.nd rfl (Or.inl rfl) (zH zL (zv 3) (zD G3 r3 rfl mG3 kG3 bG3 .nil zK (xI (zG zE (zv 2) zA (fun _ _=>rfl)) (xI (zG zE (zv 2) zA (fun _ _=>rfl)) zB)))))
  (zC (yM (zR wG (zv 4) zA (zT _)) (zF (zN (zD G4 r4 rfl mG4 kG4 bG4 .nil zK (zO (zv 0) (zO (zv 2) zB))))) zX)
  (zC (zM (i:=5) scSetOf.nd rfl (Or.inl rfl) (zD G5 r5 rfl mG5 kG5 bG5 .nil zK (zO (zv 4) zB)))
  (zC (yM (zR zdX (zv 5) jD (zT _)) (zF (zN (zS (zQ yJ (zO (zv 4) zB))))) zX)
  (zC (zM (i:=6) scSetOf.nd rfl (Or.inl rfl) (xG (zeI hr.units) rfl m_sorted (by rfl) (yiV (xX (wL (zD G6 r6 rfl mG6 kG6 bG6 .nil zK (zO (zv 0) (zO (zv 2) (wR (zS (zO (zv 5) (zO (zv 3) zB))) zB)))) (wL (zD G6 r6 rfl mG6 kG6 bG6 .nil zK (zO (zv 0) (zO (zv 2) (wR (zS (sJ (vE xZ (zv 5)) (zO (zv 3) zB))) zB)))) zB))) zB)))
  (zF (zN (zS (zQ yJ (xI (zG yQ (zv 6) zA (fun _ _=>rfl)) (xI (zG yQ (zv 6) zA (fun _ _=>rfl)) zB)))))))))))))),fun ds d h=>?_⟩
 obtain ⟨i,j,k,ns,rfl,hh,l4,nz,bd,ha⟩:=h
 have tz:=zzE hh l4 nz
 obtain ⟨hi,hj,hk,ij,jk⟩:=id hh
 obtain ⟨ht,_,_⟩:=zoD hi hj ij
 have b1:Bd (2 ^ 1) [-zV i j k,1]:=by
  intro n hn
  simp only [List.mem_cons,List.mem_nil_iff,or_false] at hn
  rcases hn with rfl|rfl
  ·rw [Int.natAbs_neg];rcases kL i j k with e|e|e <;> rw [e] <;> decide
  ·decide
 have lp:(pl ns).length=4:=by rw [zY];exact l4
 have lq:(wA j (zV i j k) ns).length=4:=xB lp rfl
 have bqm:Bd (2 ^ 303) (wA j (zV i j k) ns):=yS (sH lp rfl (wB nz bd) (kM hj b1)) (by decide)
 have bh:Bt (hd i j) 1:=by unfold Bt;rcases zaF i j with e|e <;> rw [e] <;> decide
 have bp:Bt ((wA j (zV i j k) ns).getD (i+1) 0) 304:=Bt.up (x:=303) (bqm _ (wI lq (by omega))) (by decide)
 have bq:Bt ((wA j (zV i j k) ns).getD 0 0) 304:=Bt.up (x:=303) (bqm _ (wI lq (by omega))) (by decide)
 have br:Bt (hd i j*(wA j (zV i j k) ns).getD (xF i j+1) 0) 304:=(bh.mul (show Bt _ 303 from bqm _ (wI lq (by omega)))).up (by decide)
 have bs:Bt ((wA j (zV i j k) ns).getD (j+1) 0) 304:=Bt.up (x:=303) (bqm _ (wI lq (by omega))) (by decide)
 refine S.dropS (s:=.dat .none) (E1.call (R:=zgC) (A1.cons (aA rfl) A1.nil) ⟨i,j,k,rfl,hh,rfl⟩) ?_
 refine aF (E1.call (R:=ydN) (ds:=[.str (hg i j k),tI ns]) (A1.cons (aA rfl) (A1.cons (aA rfl) A1.nil)) ⟨i,j,k,ns,rfl,hh,l4,nz,yL bd,rfl⟩) ?_
 generalize (wA j (zV i j k) ns).getD (i+1) 0=p at *
 generalize (wA j (zV i j k) ns).getD 0 0=q at *
 generalize hd i j*(wA j (zV i j k) ns).getD (xF i j+1) 0=r at *
 generalize (wA j (zV i j k) ns).getD (j+1) 0=s at *
 have bL:Bt (p*p+q*q) 609:=((bp.mul bp).add (bq.mul bq)).up (by decide)
 have bM:Bt (r*r+s*s) 609:=((br.mul br).add (bs.mul bs)).up (by decide)
 have bN:Bt ((p*p+q*q)*(r*r+s*s)) 1218:=bL.mul bM
 have sm:∀ {a b:Int},Bt a 304->Bt b 304->Sm [a,b]:=fun h1 h2=>sm2 h2 h1 (by decide)
 have N0:0<=(p*p+q*q)*(r*r+s*s):=Int.mul_nonneg (by have:=Num.sq_nn p;have:=Num.sq_nn q;omega) (by have:=Num.sq_nn r;have:=Num.sq_nn s;omega)
 refine aF (s:=.dat (.int (p*p+q*q))) (aG (bI (ns:=[p,q]) (ms:=[p,q]) (A1.cons (aB (aA rfl) E1.int rfl) (A1.cons (aB (aA rfl) E1.int rfl) A1.nil)) (by show 2<=1000;decide) rfl (sm bp bq) (sm bp bq)) (by rw [zzZ])) ?_
 refine aF (s:=.dat (.int ((p*p+q*q)*(r*r+s*s)))) (E1.mul (aA rfl) (aG (bI (ns:=[r,s]) (ms:=[r,s]) (A1.cons (aB (aA rfl) E1.int rfl) (A1.cons (aB (aA rfl) E1.int rfl) A1.nil)) (by show 2<=1000;decide) rfl (sm br bs) (sm br bs)) (by rw [zzZ])) (bL.mulOk bM)) ?_
 rcases ha with ⟨h0,rfl⟩|⟨h0,hno,rfl⟩|⟨t,tp,ht,rfl⟩
 ·refine aW (b:=true) ((aC (E1.eq (aA rfl) E1.int)).eqn (decide_eq_true h0)) (fun _=>?_) (fun z=>by cases z)
  refine aD (E1.call (R:=yaC) (ds:=[.str (hg i j k),.tuple [tI [p,q],tI [r,s]]]) (A1.cons (aA rfl) (A1.cons (aA rfl) A1.nil)) ⟨304,i,j,k,p,q,r,s,rfl,hh,fun z=>?_,bp,bq,br,bs,by decide,rfl⟩) ⟨rfl,?_⟩
  ·by_cases y:p=0
   ·exact .inr fun w=>tz ⟨y,w,z.1,z.2⟩
   ·exact .inl y
  ·unfold lok;split <;> rfl
 ·refine aJ ((aC (E1.eq (aA rfl) E1.int)).eqn (decide_eq_false h0)) ?_
  refine aF (s:=.dat .none) (E1.call (R:=kU) (ds:=[.int ((p*p+q*q)*(r*r+s*s))]) (A1.cons (aA rfl) A1.nil) ⟨_,rfl,N0,bN.up (by decide),.inr ⟨hno,rfl⟩⟩) ?_
  refine aW (b:=true) (aC (bH (d:=.none) (aA rfl) E1.non)) (fun _=>?_) (fun z=>by cases z)
  exact aD (aK (A1.cons E1.str (A1.cons (aA rfl) A1.nil)) rfl (vZ (n:=2) rfl z2)) ⟨rfl,rfl⟩
 ·have h0:(p*p+q*q)*(r*r+s*s)≠0:=by rw [<- ht];exact Int.mul_ne_zero (by omega) (by omega)
  have hL:(p*p+q*q)≠0:=fun z=>h0 (by rw [z,Int.zero_mul])
  have npq:p≠0\/q≠0:=by
   by_cases y:p=0
   ·refine .inr fun w=>hL ?_
    rw [y,w];rfl
   ·exact .inl y
  have ht0:t≠0:=by omega
  have hn0 : -t≠0:=by omega
  have bt:Bt t 1218:=by
   have hle:t.natAbs<=((p*p+q*q)*(r*r+s*s)).natAbs:=by
    rw [<- ht,Int.natAbs_mul]
    exact Nat.le_mul_of_pos_right _ (by omega)
   exact Nat.le_trans hle bN
  have bnt:Bt (-t) 1218:=by unfold Bt at *;rw [Int.natAbs_neg];exact bt
  refine aJ ((aC (E1.eq (aA rfl) E1.int)).eqn (decide_eq_false h0)) ?_
  refine aF (s:=.dat (.int t)) (E1.call (R:=kU) (ds:=[.int ((p*p+q*q)*(r*r+s*s))]) (A1.cons (aA rfl) A1.nil) ⟨_,rfl,N0,bN.up (by decide),.inl ⟨t,by omega,ht,rfl⟩⟩) ?_
  refine aJ (aC (bH (d:=.int t) (aA rfl) E1.non)) ?_
  have nl:∀ a b:List (List Int),xR [wS a,wS b]=true:=fun a b=>by
   have h:∀ x:List (List Int),tF (wS x)=true:=fun x=>zvN x
   show (tF (wS a) && (tF (wS b) && true))=true
   rw [h,h];rfl
  refine bO (E1.sort2 (x:=jI i j k p q r s t (p*p+q*q)) (y:=jI i j k p q r s (-t) (p*p+q*q)) (bQ (ds:=[sby i j k p q r s t (p*p+q*q),sby i j k p q r s (-t) (p*p+q*q)]) (A1.cons (E1.call (R:=zyL) (ds:=[.str (hg i j k),.tuple [tI [p,q],tI [r,s]],tI [t,(p*p+q*q)]]) (A1.cons (aA rfl) (A1.cons (aA rfl) (A1.cons (by (walk_at "au3")) A1.nil))) ⟨i,j,k,p,q,r,s,t,(p*p+q*q),rfl,hh,npq,ht0,bp.up (by decide),bq.up (by decide),br.up (by decide),bs.up (by decide),bt.up (by decide),bL.up (by decide),rfl⟩) (A1.cons (E1.call (R:=zyL) (ds:=[.str (hg i j k),.tuple [tI [p,q],tI [r,s]],tI [-t,(p*p+q*q)]]) (A1.cons (aA rfl) (A1.cons (aA rfl) (A1.cons (by (walk_at "au3")) A1.nil))) ⟨i,j,k,p,q,r,s, -t,(p*p+q*q),rfl,hh,npq,hn0,bp.up (by decide),bq.up (by decide),br.up (by decide),bs.up (by decide),bnt.up (by decide),bL.up (by decide),rfl⟩) A1.nil)) rfl (vZ (n:=2) rfl z2)) (by show 0<3;decide) rfl) (by split <;> exact nl _ _) ?_
  by_cases z:rlt (jI i j k p q r s (-t) (p*p+q*q)) (jI i j k p q r s t (p*p+q*q))=true
  ·rw [if_pos z,if_pos z]
   exact aD (aK (A1.cons E1.str (A1.cons (aj (ai rfl) E1.int rfl) (A1.cons (aj (ai rfl) E1.int rfl) A1.nil))) rfl (vZ (n:=3) rfl z3)) ⟨rfl,rfl⟩
  ·rw [if_neg z,if_neg z]
   exact aD (aK (A1.cons E1.str (A1.cons (aj (ai rfl) E1.int rfl) (A1.cons (aj (ai rfl) E1.int rfl) A1.nil))) rfl (vZ (n:=3) rfl z3)) ⟨rfl,rfl⟩
theorem ygS:FnScope ["text"] ["text"] (zI ycM):=fsK
theorem ydW (F:Fun K "read_whole" "read_whole" ycM f fd)  (dig:L2.DigN K)
  (G:FnOk P w K mg base zW 1 g gd ["text"] (yT K ztF)) (bG:Binds K gd ["text"] []) (kG:PySem.W.keepIn K (.ref g)=true) (mG:mg "is_whole_text" = some (.ref g)) (m_int:mg "int" = none) :
  FnOk P w K mg base zW 2 f fd ["text"] (yT K zgV):=by
 refine jM F ygS (fun ds d h=>?_) (fun cdv A0 outer s0 H0 E0 hr=>?_)
 ·obtain ⟨z,i,rfl,_⟩:=h;rfl
 have r:=hr.mono (show 1<=1 by decide)
 refine ⟨_,(zC (yM (vO (vF (zD G r rfl mG kG bG .nil zK (zO (zv 0) zB)))) (zF vT) zX)
  (zF (zN (yH (zlY dig) rfl m_int (by rfl) (zO (zv 0) zB))))),fun ds d h=>?_⟩
 obtain ⟨z,i,rfl,az,hw,rfl⟩:=h
 obtain ⟨hb,ez,hi⟩:=yhG hw
 have hc:∀ c∈z.cps.toList,c=45\/(48<=c/\c<=57):=fun c hc=>tQ i c (by rw [<- qC, <- ez];exact hc)
 have hn:PySem.intText? z=some i:=by rw [<- hw];unfold tM;rw [if_pos hb]
 refine aJ (aV ((T1.val (E1.call (R:=ztF) (A1.cons (aA rfl) A1.nil) ⟨z,rfl,az,rfl⟩)).eqn hb)) ?_
 exact aD (s:=.dat (.int i)) (E1.intS (A1.cons (aA rfl) A1.nil) hn (az.sz zbX) hc) ⟨rfl,rfl⟩
theorem scParts:FnScope ["text","between","many","parts"] ["text","between","many"] (zI zhM):=fsK
theorem ztN (F:Fun K "parts_of" "parts_of" zhM f fd) (m_len:mg "len" = none) :
  FnOk P w K mg base zW 1 f fd ["text","between","many"] (yT K jH):=by
 refine jM F scParts (fun ds d h=>?_) (fun cdv A0 outer s0 H0 E0 hr=>?_)
 ·obtain ⟨z,y,m,rfl,_⟩:=h;rfl
 refine ⟨_,(zC (zM (i:=3) scParts.nd rfl (Or.inl rfl) (zqP (zv 0) (zv 1)))
  (zC (yM (zR jR (xG tK rfl m_len PySem.boot_len (zO (zv 3) zB)) (zv 2) (zT _)) (zF vT) zX)
  (zF (zN (zv 3))))),fun ds d h=>?_⟩
 obtain ⟨z,y,m,rfl,az,hy,hm,rfl⟩:=h
 refine bO (ds:=(Txt.split z y).map .str) (E1.split (aA rfl) (aA rfl) hy (Nat.le_trans (Nat.add_le_add_right az.1 2) zxZ)) tU ?_
 refine aJ ((aC (E1.ne (E1.lenL (A1.cons (ai rfl) A1.nil)) (aA rfl))).eqn (by rw [List.length_map,decide_eq_true hm];rfl)) ?_
 exact S.retO rfl ⟨rfl,tU⟩
theorem scRdN:FnScope ["text","parts","top","bottom"] ["text"] (zI ybD):=fsK
theorem yeO (F:Fun K "read_number" "read_number" ybD f fd)
  (G:FnOk P w K mg base zW 2 g gd ["text"] (yT K zgV)) (bG:Binds K gd ["text"] []) (kG:PySem.W.keepIn K (.ref g)=true) (mG:mg "read_whole" = some (.ref g))
  (G2:FnOk P w K mg base zW 1 g2 gd2 ["text","between","many"] (yT K jH)) (bG2:Binds K gd2 ["text","between","many"] []) (kG2:PySem.W.keepIn K (.ref g2)=true) (mG2:mg "parts_of" = some (.ref g2))
  (G3:FnOk P w K mg base zW 1 g3 gd3 ["numbers"] (zrS K)) (bG3:Binds K gd3 ["numbers"] []) (kG3:PySem.W.keepIn K (.ref g3)=true) (mG3:mg "common_divisor" = some (.ref g3)) :
  FnOk P w K mg base zW 3 f fd ["text"] (yT K ybR):=by
 refine jM F scRdN (fun ds d h=>?_) (fun cdv A0 outer s0 H0 E0 hr=>?_)
 ·obtain ⟨z,i,j,rfl,_⟩:=h;rfl
 have r:=hr.mono (show 2<=2 by decide)
 have r2:=hr.mono (show 1<=2 by decide)
 have r3:=hr.mono (show 1<=2 by decide)
 refine ⟨_,(zC (yM (zR zdD yJ (zv 0) (by with_unfolding_all rfl)) (zF (zN (zS (wL (zD G r rfl mG kG bG .nil zK (zO (zv 0) zB)) (yC zB))))) zX)
  (zC (zM (i:=1) scRdN.nd rfl (Or.inl rfl) (zD G2 r2 rfl mG2 kG2 bG2 .nil zK (zO (zv 0) (zQ yJ (yC zB)))))
  (zC (zM (i:=2) scRdN.nd rfl (Or.inl rfl) (zD G r rfl mG kG bG .nil zK (xI (zG yQ (zv 1) zA (fun _ _=>rfl)) zB)))
  (zC (zM (i:=3) scRdN.nd rfl (Or.inl rfl) (zD G r rfl mG kG bG .nil zK (xI (zG yQ (zv 1) zA (fun _ _=>rfl)) zB)))
  (zC (yM (ZW.pt (qQ (zR zoB (zv 3) zA (zT _)) (sA (zR jR (zD G3 r3 rfl mG3 kG3 bG3 .nil zK (wR (zS (zO (zv 2) (zO (zv 3) zB))) zB)) zA (zT _))))) (zF vT) zX)
  (zF (zN (zS (zO (zv 2) (zO (zv 3) zB)))))))))),fun ds d h=>?_⟩
 obtain ⟨z,i,j,rfl,az,hr0,rfl⟩:=h
 by_cases hin:47∈z.cps.toList
 ·refine aJ ((aC (bW (x:=sla) E1.str (aA rfl))).eqn (by rw [zoP,decide_eq_true hin];rfl)) ?_
  obtain ⟨a,b,hs,wa,wb,j2,hg⟩:=zwW az hin hr0
  have sa:=vY az a (by rw [hs];simp)
  have sb:=vY az b (by rw [hs];simp)
  refine aF (s:=.dat (.list [.str a,.str b])) (E1.call (R:=jH) (A1.cons (aA rfl) (A1.cons E1.str (A1.cons E1.int A1.nil))) ⟨z,sla,2,rfl,az,rfl,(by first|(rw [hs];done)|(rw [hs];rfl)),(by first|(rw [hs];done)|(rw [hs];rfl))⟩) ?_
  refine aF (s:=.dat (.int i)) (E1.call (R:=zgV) (A1.cons (aj (ds:=[.str a,.str b]) (bi rfl) E1.int rfl) A1.nil) ⟨a,i,rfl,sa,wa,rfl⟩) ?_
  refine aF (s:=.dat (.int j)) (E1.call (R:=zgV) (A1.cons (aj (ds:=[.str a,.str b]) (bi rfl) E1.int rfl) A1.nil) ⟨b,j,rfl,sb,wb,rfl⟩) ?_
  refine aJ (ar ((aC (E1.lt (aA rfl) E1.int)).eqn (decide_eq_false j2)) ((aC (E1.ne (E1.cCD (ns:=[i,j]) (A1.cons (aK (A1.cons (aA rfl) (A1.cons (aA rfl) A1.nil)) rfl (vZ (n:=2) rfl z2)) A1.nil)) E1.int)).eqn (by rw [zjA,hg];rfl))) ?_
  exact aD (s:=.dat (tI [i,j])) (aK (A1.cons (aA rfl) (A1.cons (aA rfl) A1.nil)) rfl (vZ (n:=2) rfl z2)) ⟨rfl,rfl⟩
 ·refine aW (b:=true) ((aC (bW (x:=sla) E1.str (aA rfl))).eqn (by rw [zoP,decide_eq_false hin];rfl)) (fun _=>?_) (fun z=>by cases z)
  obtain ⟨wa,rfl⟩:=zxW az hin hr0
  exact aD (s:=.dat (tI [i,1])) (aK (A1.cons (E1.call (R:=zgV) (A1.cons (aA rfl) A1.nil) ⟨z,i,rfl,az,wa,rfl⟩) (A1.cons E1.int A1.nil)) rfl (vZ (n:=2) rfl z2)) ⟨rfl,rfl⟩
theorem scRdR:FnScope ["text","between","many","numbers"] ["text","between","many"] (zI ycL):=fsK
theorem ycF (F:Fun K "read_row" "read_row" ycL f fd)
  (G:FnOk P w K mg base zW 1 g gd ["text","between","many"] (yT K jH)) (bG:Binds K gd ["text","between","many"] []) (kG:PySem.W.keepIn K (.ref g)=true) (mG:mg "parts_of" = some (.ref g))
  (G2:FnOk P w K mg base zW 2 g2 gd2 ["text"] (yT K zgV)) (bG2:Binds K gd2 ["text"] []) (kG2:PySem.W.keepIn K (.ref g2)=true) (mG2:mg "read_whole" = some (.ref g2)) (m_tuple:mg "tuple" = none) (m_any:mg "any" = none) :
  FnOk P w K mg base zW 3 f fd ["text","between","many"] (yT K ycR):=by
 refine jM F scRdR (fun ds d h=>?_) (fun cdv A0 outer s0 H0 E0 hr=>?_)
 ·obtain ⟨z,y,m,ns,rfl,_⟩:=h;rfl
 have r:=hr.mono (show 1<=2 by decide)
 have r2:=hr.mono (show 2<=2 by decide)
 refine ⟨_,(zC (zM (i:=3) scRdR.nd rfl (Or.inl rfl) (yH yF rfl m_tuple (by rfl) (zQ (yP (own:=["part"]) scRdR rfl csK (jA (zD G r rfl mG kG bG .nil zK (zO (zv 0) (zO (zv 1) (zO (zv 2) zB))))) (fun C fp s H nd=>yB (i:=0) nd rfl (Or.inl rfl)) (fun C fp s H=>yR) (fun C fp s H=>(zD G2 r2 rfl mG2 kG2 bG2 .nil zK (zO (zv 0) zB)))) zB)))
  (zC (yM (vO (vF (xG (zmY rfl) rfl m_any (by rfl) (zO (zv 3) zB)))) (zF vT) zX)
  (zF (zN (zv 3))))),fun ds d h=>?_⟩
 obtain ⟨z,y,m,ns,rfl,az,hy,hr0,rfl⟩:=h
 obtain ⟨h1,h2,h3⟩:=zqC hr0
 refine aF (s:=.dat (tI ns)) (aG (aT (A1.cons (ae (aU (ds:=(Txt.split z y).map Dat.str) (f:=rdD tM Dat.int) (Wk.lst (E1.call (R:=jH) (A1.cons (aA rfl) (A1.cons (aA rfl) (A1.cons (aA rfl) A1.nil))) ⟨z,y,(m:Int),rfl,az,hy,by rw [h1],rfl⟩)) (fun d hd=>by
   obtain ⟨x,hx,rfl⟩:=List.mem_map.mp hd
   obtain ⟨i,hi⟩:=zdN h2 hx
   rw [zdH hi]
   exact E1.call (R:=zgV) (A1.cons (aA rfl) A1.nil) ⟨x,i,rfl,vY az x hx,hi,rfl⟩) (by rw [List.length_map];exact Nat.le_trans (kH z y) (Nat.le_trans (Nat.add_le_add_right az.1 2) zxZ)))) A1.nil)) (by first|(rw [kI h2];done)|(rw [kI h2];rfl))) ?_
 refine aJ (aV ((T1.val (E1.anyT (aA rfl))).eqn h3)) ?_
 exact aD (s:=.dat (tI ns)) (aA rfl) ⟨rfl,zkY⟩
theorem yfX:FnScope ["text"] ["text"] (zI ybH):=fsK
theorem ycW (F:Fun K "read_four" "read_four" ybH f fd)
  (G:FnOk P w K mg base zW 3 g gd ["text","between","many"] (yT K ycR)) (bG:Binds K gd ["text","between","many"] []) (kG:PySem.W.keepIn K (.ref g)=true) (mG:mg "read_row" = some (.ref g)) :
  FnOk P w K mg base zW 4 f fd ["text"] (yT K (yaZ spa 4)):=by
 refine jM F yfX (fun ds d h=>?_) (fun cdv A0 outer s0 H0 E0 hr=>?_)
 ·obtain ⟨z,ns,rfl,_⟩:=h;rfl
 have r:=hr.mono (show 3<=3 by decide)
 refine ⟨_,(zF (zN (zD G r rfl mG kG bG .nil zK (zO (zv 0) (zQ yJ (yC zB)))))),fun ds d h=>?_⟩
 obtain ⟨z,ns,rfl,az,hr0,rfl⟩:=h
 exact aD (s:=.dat (tI ns)) (E1.call (R:=ycR) (A1.cons (aA rfl) (A1.cons E1.str (A1.cons E1.int A1.nil))) ⟨z,spa,4,ns,rfl,az,rfl,hr0,rfl⟩) ⟨rfl,zkY⟩
theorem zyT:FnScope ["text"] ["text"] (zI ydX):=fsK
theorem yeI (F:Fun K "read_point" "read_point" ydX f fd)
  (G:FnOk P w K mg base zW 1 g gd ["text","between","many"] (yT K jH)) (bG:Binds K gd ["text","between","many"] []) (kG:PySem.W.keepIn K (.ref g)=true) (mG:mg "parts_of" = some (.ref g))
  (G2:FnOk P w K mg base zW 3 g2 gd2 ["text"] (yT K ybR)) (bG2:Binds K gd2 ["text"] []) (kG2:PySem.W.keepIn K (.ref g2)=true) (mG2:mg "read_number" = some (.ref g2)) (m_tuple:mg "tuple" = none) :
  FnOk P w K mg base zW 4 f fd ["text"] (yT K ybU):=by
 refine jM F zyT (fun ds d h=>?_) (fun cdv A0 outer s0 H0 E0 hr=>?_)
 ·obtain ⟨z,l,rfl,_⟩:=h;rfl
 have r:=hr.mono (show 1<=3 by decide)
 have r2:=hr.mono (show 3<=3 by decide)
 refine ⟨_,(zF (zN (yH yF rfl m_tuple (by rfl) (zQ (yP (own:=["part"]) zyT rfl csK (jA (zD G r rfl mG kG bG .nil zK (zO (zv 0) (zQ yJ (yC zB))))) (fun C fp s H nd=>yB (i:=0) nd rfl (Or.inl rfl)) (fun C fp s H=>yR) (fun C fp s H=>(zD G2 r2 rfl mG2 kG2 bG2 .nil zK (zO (zv 0) zB)))) zB)))),fun ds d h=>?_⟩
 obtain ⟨z,l,rfl,az,hr0,rfl⟩:=h
 obtain ⟨h1,h2⟩:=zfQ hr0
 exact aD (s:=.dat (pD3 l)) (aG (aT (A1.cons (ae (aU (ds:=(Txt.split z spa).map Dat.str) (f:=rdD rdN qD) (Wk.lst (E1.call (R:=jH) (A1.cons (aA rfl) (A1.cons E1.str (A1.cons E1.int A1.nil))) ⟨z,spa,3,rfl,az,rfl,(by first|(rw [h1];done)|(rw [h1];rfl)),rfl⟩)) (fun d hd=>by
   obtain ⟨x,hx,rfl⟩:=List.mem_map.mp hd
   obtain ⟨i,hi⟩:=zdN h2 hx
   rw [zdH hi]
   exact E1.call (R:=ybR) (A1.cons (aA rfl) A1.nil) ⟨x,i.1,i.2,rfl,vY az x hx,hi,rfl⟩) (by rw [List.length_map];exact Nat.le_trans (kH z spa) (Nat.le_trans (Nat.add_le_add_right az.1 2) zxZ)))) A1.nil)) (by first|(rw [kI h2];done)|(rw [kI h2];rfl))) ⟨rfl,zlO l⟩
theorem zzI:FnScope ["text"] ["text"] (zI yaI):=fsK
theorem yaK (F:Fun K "read_table" "read_table" yaI f fd)
  (G:FnOk P w K mg base zW 1 g gd ["text","between","many"] (yT K jH)) (bG:Binds K gd ["text","between","many"] []) (kG:PySem.W.keepIn K (.ref g)=true) (mG:mg "parts_of" = some (.ref g))
  (G2:FnOk P w K mg base zW 4 g2 gd2 ["text"] (yT K ybU)) (bG2:Binds K gd2 ["text"] []) (kG2:PySem.W.keepIn K (.ref g2)=true) (mG2:mg "read_point" = some (.ref g2)) (m_tuple:mg "tuple" = none) :
  FnOk P w K mg base zW 5 f fd ["text"] (yT K yfE):=by
 refine jM F zzI (fun ds d h=>?_) (fun cdv A0 outer s0 H0 E0 hr=>?_)
 ·obtain ⟨z,l,rfl,_⟩:=h;rfl
 have r:=hr.mono (show 1<=4 by decide)
 have r2:=hr.mono (show 4<=4 by decide)
 refine ⟨_,(zF (zN (yH yF rfl m_tuple (by rfl) (zQ (yP (own:=["part"]) zzI rfl csK (jA (zD G r rfl mG kG bG .nil zK (zO (zv 0) (zQ yJ (yC zB))))) (fun C fp s H nd=>yB (i:=0) nd rfl (Or.inl rfl)) (fun C fp s H=>yR) (fun C fp s H=>(zD G2 r2 rfl mG2 kG2 bG2 .nil zK (zO (zv 0) zB)))) zB)))),fun ds d h=>?_⟩
 obtain ⟨z,l,rfl,az,hr0,rfl⟩:=h
 obtain ⟨h1,h2⟩:=zfQ hr0
 exact aD (s:=.dat (tD3 l)) (aG (aT (A1.cons (ae (aU (ds:=(Txt.split z sem).map Dat.str) (f:=rdD ztB pD3) (Wk.lst (E1.call (R:=jH) (A1.cons (aA rfl) (A1.cons E1.str (A1.cons E1.int A1.nil))) ⟨z,sem,3,rfl,az,rfl,(by first|(rw [h1];done)|(rw [h1];rfl)),rfl⟩)) (fun d hd=>by
   obtain ⟨x,hx,rfl⟩:=List.mem_map.mp hd
   obtain ⟨i,hi⟩:=zdN h2 hx
   rw [zdH hi]
   exact E1.call (R:=ybU) (A1.cons (aA rfl) A1.nil) ⟨x,i,rfl,vY az x hx,hi,rfl⟩) (by rw [List.length_map];exact Nat.le_trans (kH z sem) (Nat.le_trans (Nat.add_le_add_right az.1 2) zxZ)))) A1.nil)) (by first|(rw [kI h2];done)|(rw [kI h2];rfl))) ⟨rfl,zyC l⟩
end
end K49
end
section
namespace K49
open PySem L2 Num K0 D
open PySem.W (Dat)
theorem us0 {P:List Value->Prop} (h:P []):∀ (us:List Value),us.length=0->P us:=fun us l=>by
 cases us with
 | cons _ _=>simp at l
 | nil=>exact h
theorem vI {P:List Value->Prop} (h:∀ a,P [a]):∀ (us:List Value),us.length=1->P us:=fun us l=>by
 cases us with
 | nil=>cases l
 | cons x0 us =>
 cases us with
 | cons _ _=>simp at l
 | nil=>exact h x0
theorem us2 {P:List Value->Prop} (h:∀ a b,P [a,b]):∀ (us:List Value),us.length=2->P us:=fun us l=>by
 cases us with
 | nil=>cases l
 | cons x0 us =>
 cases us with
 | nil=>cases l
 | cons x1 us =>
 cases us with
 | cons _ _=>simp at l
 | nil=>exact h x0 x1
theorem us3 {P:List Value->Prop} (h:∀ a b c,P [a,b,c]):∀ (us:List Value),us.length=3->P us:=fun us l=>by
 cases us with
 | nil=>cases l
 | cons x0 us =>
 cases us with
 | nil=>cases l
 | cons x1 us =>
 cases us with
 | nil=>cases l
 | cons x2 us =>
 cases us with
 | cons _ _=>simp at l
 | nil=>exact h x0 x1 x2
theorem all_mk {l:PySem.W.OpenLaw} {w:World} {K:PySem.W.Frag} {h:Heap} {mg:Str->Option Value} {fa:Addr} (X:K.In h) (G:h.Ns mainGlobals mg) (hfa:mg "law" = some (.ref fa))
   (q_dig:L2.DigN K) (d6:DefAt K "common_divisor" sCD) (d7:DefAt K "reduced" yeS) (d8:DefAt K "negated" yfB) (d10:DefAt K "cross_product" zgU) (d11:DefAt K "first_filled" zaM) (d12:DefAt K "common_multiple" sCM) (d13:DefAt K "levelled" ztY) (d15:DefAt K "whole_root" qH) (d16:DefAt K "exact_root" qF) (d18:DefAt K "plain" zjG) (d19:DefAt K "size" zrE) (d20:DefAt K "product" zrH) (d21:DefAt K "then" zoZ) (d22:DefAt K "back" zqN) (d23:DefAt K "whole_table" sWT) (d25:DefAt K "table_of" rZ) (d26:DefAt K "only_four" zhY) (d27:DefAt K "is_table_of" zdC) (d28:DefAt K "is_turn" rO) (d31:DefAt K "axis" zpH) (d32:DefAt K "rest" zrA) (d33:DefAt K "plain_setting" zrY) (d34:DefAt K "about" zhU) (d35:DefAt K "are_along" ziA) (d36:DefAt K "setting_about" tR) (d38:DefAt K "half" zrI) (d44:DefAt K "hung" zhI) (d45:DefAt K "third_letter" ziX) (d46:DefAt K "joined" zeA) (d47:DefAt K "taken_back" ziJ) (d48:DefAt K "hand_of" zrT) (d49:DefAt K "lean_of" zoF) (d50:DefAt K "two_parts" tV) (d51:DefAt K "leaning" rP) (d52:DefAt K "locked" zeC) (d53:DefAt K "settings_by" yeJ) (d56:DefAt K "parted" zdF) (d60:DefAt K "show_row" zpM) (d61:DefAt K "show_number" zoW) (d62:DefAt K "show_four" zqV) (d63:DefAt K "show_point" zsV) (d64:DefAt K "show_table" zsG) (d65:DefAt K "is_whole_text" zqS) (d74:DefAt K "_law_mixed" zhP) (d75:DefAt K "_law_purse" zhV) (d76:DefAt K "_law_draw" zqL) (d77:DefAt K "_law_number" zdI) (d78:DefAt K "_law_four" zpL) (d79:DefAt K "_law_small" zjE) (d80:DefAt K "_law_setting" sD) (d81:DefAt K "_law_hanger" rH) (d82:DefAt K "_law_hangers" zoT) (d83:DefAt K "_law_hangs" sE) (d84:DefAt K "_law_about" zeM) (d85:DefAt K "_law_right" zhQ) (d86:DefAt K "law" ydG) (d9:DefAt K "sum_of_products" yfF) (d14:DefAt K "lowered" ycV) (d29:DefAt K "four_of" zcZ) (d42:DefAt K "is_hanger" zsU) (d43:DefAt K "refuse_no_hanger" zhS) (d54:DefAt K "settings_of" zhE) (d66:DefAt K "read_whole" ycM) (d67:DefAt K "parts_of" zhM) (d68:DefAt K "read_number" ybD) (d69:DefAt K "read_row" ycL) (d70:DefAt K "read_four" ybH) (d71:DefAt K "read_point" ydX) (d72:DefAt K "read_table" yaI)
  (tb_WAYS:TabSAt K "WAYS" zrF) (tb_PLACES:TabIAt K "PLACES" zhH) (tb_MOST_FIGURES:IntTAt K "MOST_FIGURES" 1500) (tb_FIGURES:StrTAt K "FIGURES" figS) (z_abs:PySem.W.nsIn K mainGlobals "abs" = some none) (z_tuple:PySem.W.nsIn K mainGlobals "tuple" = some none) (z_enumerate:PySem.W.nsIn K mainGlobals "enumerate" = some none) (z_zip:PySem.W.nsIn K mainGlobals "zip" = some none) (z_str:PySem.W.nsIn K mainGlobals "str" = some none) (z_len:PySem.W.nsIn K mainGlobals "len" = some none) (z_all:PySem.W.nsIn K mainGlobals "all" = some none) (z_range:PySem.W.nsIn K mainGlobals "range" = some none) (z_int:PySem.W.nsIn K mainGlobals "int" = some none) (z_sum:PySem.W.nsIn K mainGlobals "sum" = some none) (z_sorted:PySem.W.nsIn K mainGlobals "sorted" = some none) (z_any:PySem.W.nsIn K mainGlobals "any" = some none) :
  ∃ fd:FuncData,(∀ (s:Shared) (v:Value),BindsTo s fd ⟨[v],[]⟩ [("_law_script",v)])/\∀ base:Heap,K.In base->base.Ns mainGlobals mg->FnOk l.prog w K mg base zW 9 fa fd ["_law_script"] (zfU K):=by
 obtain ⟨f6,fd6,F6,m6,k6⟩:=d6.get X G
 have b6:=F6.binds (ps:=["numbers"]) (by refine fun _ _ _ _ _ _=>vI ?_;intros;rfl)
 obtain ⟨f7,fd7,F7,m7,k7⟩:=d7.get X G
 have b7:=F7.binds (ps:=["numbers"]) (by refine fun _ _ _ _ _ _=>vI ?_;intros;rfl)
 obtain ⟨f8,fd8,F8,m8,k8⟩:=d8.get X G
 have b8:=F8.binds (ps:=["numbers"]) (by refine fun _ _ _ _ _ _=>vI ?_;intros;rfl)
 obtain ⟨f10,fd10,F10,m10,k10⟩:=d10.get X G
 have b10:=F10.binds (ps:=["one","other"]) (by refine fun _ _ _ _ _ _=>us2 ?_;intros;rfl)
 obtain ⟨f11,fd11,F11,m11,k11⟩:=d11.get X G
 have b11:=F11.binds (ps:=["numbers"]) (by refine fun _ _ _ _ _ _=>vI ?_;intros;rfl)
 obtain ⟨f12,fd12,F12,m12,k12⟩:=d12.get X G
 have b12:=F12.binds (ps:=["numbers"]) (by refine fun _ _ _ _ _ _=>vI ?_;intros;rfl)
 obtain ⟨f13,fd13,F13,m13,k13⟩:=d13.get X G
 have b13:=F13.binds (ps:=["fractions"]) (by refine fun _ _ _ _ _ _=>vI ?_;intros;rfl)
 obtain ⟨f15,fd15,F15,m15,k15⟩:=d15.get X G
 have b15:=F15.binds (ps:=["number"]) (by refine fun _ _ _ _ _ _=>vI ?_;intros;rfl)
 obtain ⟨f16,fd16,F16,m16,k16⟩:=d16.get X G
 have b16:=F16.binds (ps:=["number"]) (by refine fun _ _ _ _ _ _=>vI ?_;intros;rfl)
 obtain ⟨f18,fd18,F18,m18,k18⟩:=d18.get X G
 have b18:=F18.binds (ps:=["four"]) (by refine fun _ _ _ _ _ _=>vI ?_;intros;rfl)
 obtain ⟨f19,fd19,F19,m19,k19⟩:=d19.get X G
 have b19:=F19.binds (ps:=["four"]) (by refine fun _ _ _ _ _ _=>vI ?_;intros;rfl)
 obtain ⟨f20,fd20,F20,m20,k20⟩:=d20.get X G
 have b20:=F20.binds (ps:=["one","other"]) (by refine fun _ _ _ _ _ _=>us2 ?_;intros;rfl)
 obtain ⟨f21,fd21,F21,m21,k21⟩:=d21.get X G
 have b21:=F21.binds (ps:=["one","other"]) (by refine fun _ _ _ _ _ _=>us2 ?_;intros;rfl)
 obtain ⟨f22,fd22,F22,m22,k22⟩:=d22.get X G
 have b22:=F22.binds (ps:=["four"]) (by refine fun _ _ _ _ _ _=>vI ?_;intros;rfl)
 obtain ⟨f23,fd23,F23,m23,k23⟩:=d23.get X G
 have b23:=F23.binds (ps:=["four"]) (by refine fun _ _ _ _ _ _=>vI ?_;intros;rfl)
 obtain ⟨f25,fd25,F25,m25,k25⟩:=d25.get X G
 have b25:=F25.binds (ps:=["four"]) (by refine fun _ _ _ _ _ _=>vI ?_;intros;rfl)
 obtain ⟨f26,fd26,F26,m26,k26⟩:=d26.get X G
 have b26:=F26.binds (ps:=["table"]) (by refine fun _ _ _ _ _ _=>vI ?_;intros;rfl)
 obtain ⟨f27,fd27,F27,m27,k27⟩:=d27.get X G
 have b27:=F27.binds (ps:=["table","four"]) (by refine fun _ _ _ _ _ _=>us2 ?_;intros;rfl)
 obtain ⟨f28,fd28,F28,m28,k28⟩:=d28.get X G
 have b28:=F28.binds (ps:=["table"]) (by refine fun _ _ _ _ _ _=>vI ?_;intros;rfl)
 obtain ⟨f31,fd31,F31,m31,k31⟩:=d31.get X G
 have b31:=F31.binds (ps:=["four"]) (by refine fun _ _ _ _ _ _=>vI ?_;intros;rfl)
 obtain ⟨f32,fd32,F32,m32,k32⟩:=d32.get X G
 have b32:=F32.binds (ps:=["four"]) (by refine fun _ _ _ _ _ _=>vI ?_;intros;rfl)
 obtain ⟨f33,fd33,F33,m33,k33⟩:=d33.get X G
 have b33:=F33.binds (ps:=["setting"]) (by refine fun _ _ _ _ _ _=>vI ?_;intros;rfl)
 obtain ⟨f34,fd34,F34,m34,k34⟩:=d34.get X G
 have b34:=F34.binds (ps:=["way","setting"]) (by refine fun _ _ _ _ _ _=>us2 ?_;intros;rfl)
 obtain ⟨f35,fd35,F35,m35,k35⟩:=d35.get X G
 have b35:=F35.binds (ps:=["one","other"]) (by refine fun _ _ _ _ _ _=>us2 ?_;intros;rfl)
 obtain ⟨f36,fd36,F36,m36,k36⟩:=d36.get X G
 have b36:=F36.binds (ps:=["way","four"]) (by refine fun _ _ _ _ _ _=>us2 ?_;intros;rfl)
 obtain ⟨f38,fd38,F38,m38,k38⟩:=d38.get X G
 have b38:=F38.binds (ps:=["four"]) (by refine fun _ _ _ _ _ _=>vI ?_;intros;rfl)
 obtain ⟨f44,fd44,F44,m44,k44⟩:=d44.get X G
 have b44:=F44.binds (ps:=["hanger","settings"]) (by refine fun _ _ _ _ _ _=>us2 ?_;intros;rfl)
 obtain ⟨f45,fd45,F45,m45,k45⟩:=d45.get X G
 have b45:=F45.binds (ps:=["hanger"]) (by refine fun _ _ _ _ _ _=>vI ?_;intros;rfl)
 obtain ⟨f46,fd46,F46,m46,k46⟩:=d46.get X G
 have b46:=F46.binds (ps:=["one","other"]) (by refine fun _ _ _ _ _ _=>us2 ?_;intros;rfl)
 obtain ⟨f47,fd47,F47,m47,k47⟩:=d47.get X G
 have b47:=F47.binds (ps:=["setting"]) (by refine fun _ _ _ _ _ _=>vI ?_;intros;rfl)
 obtain ⟨f48,fd48,F48,m48,k48⟩:=d48.get X G
 have b48:=F48.binds (ps:=["hanger"]) (by refine fun _ _ _ _ _ _=>vI ?_;intros;rfl)
 obtain ⟨f49,fd49,F49,m49,k49⟩:=d49.get X G
 have b49:=F49.binds (ps:=["hanger"]) (by refine fun _ _ _ _ _ _=>vI ?_;intros;rfl)
 obtain ⟨f50,fd50,F50,m50,k50⟩:=d50.get X G
 have b50:=F50.binds (ps:=["hanger","four"]) (by refine fun _ _ _ _ _ _=>us2 ?_;intros;rfl)
 obtain ⟨f51,fd51,F51,m51,k51⟩:=d51.get X G
 have b51:=F51.binds (ps:=["hanger","middle"]) (by refine fun _ _ _ _ _ _=>us2 ?_;intros;rfl)
 obtain ⟨f52,fd52,F52,m52,k52⟩:=d52.get X G
 have b52:=F52.binds (ps:=["hanger","parts"]) (by refine fun _ _ _ _ _ _=>us2 ?_;intros;rfl)
 obtain ⟨f53,fd53,F53,m53,k53⟩:=d53.get X G
 have b53:=F53.binds (ps:=["hanger","parts","middle"]) (by refine fun _ _ _ _ _ _=>us3 ?_;intros;rfl)
 obtain ⟨f56,fd56,F56,m56,k56⟩:=d56.get X G
 have b56:=F56.binds (ps:=["way","four"]) (by refine fun _ _ _ _ _ _=>us2 ?_;intros;rfl)
 obtain ⟨f60,fd60,F60,m60,k60⟩:=d60.get X G
 have b60:=F60.binds (ps:=["numbers"]) (by refine fun _ _ _ _ _ _=>vI ?_;intros;rfl)
 obtain ⟨f61,fd61,F61,m61,k61⟩:=d61.get X G
 have b61:=F61.binds (ps:=["fraction"]) (by refine fun _ _ _ _ _ _=>vI ?_;intros;rfl)
 obtain ⟨f62,fd62,F62,m62,k62⟩:=d62.get X G
 have b62:=F62.binds (ps:=["four"]) (by refine fun _ _ _ _ _ _=>vI ?_;intros;rfl)
 obtain ⟨f63,fd63,F63,m63,k63⟩:=d63.get X G
 have b63:=F63.binds (ps:=["point"]) (by refine fun _ _ _ _ _ _=>vI ?_;intros;rfl)
 obtain ⟨f64,fd64,F64,m64,k64⟩:=d64.get X G
 have b64:=F64.binds (ps:=["table"]) (by refine fun _ _ _ _ _ _=>vI ?_;intros;rfl)
 obtain ⟨f65,fd65,F65,m65,k65⟩:=d65.get X G
 have b65:=F65.binds (ps:=["text"]) (by refine fun _ _ _ _ _ _=>vI ?_;intros;rfl)
 obtain ⟨f74,fd74,F74,m74,k74⟩:=d74.get X G
 have b74:=F74.binds (ps:=["_law_cell","_law_k"]) (by refine fun _ _ _ _ _ _=>us2 ?_;intros;rfl)
 obtain ⟨f75,fd75,F75,m75,k75⟩:=d75.get X G
 have b75:=F75.binds (ps:=["_law_script"]) (by refine fun _ _ _ _ _ _=>vI ?_;intros;rfl)
 obtain ⟨f76,fd76,F76,m76,k76⟩:=d76.get X G
 have b76:=F76.binds (ps:=["_law_purse_here","_law_out_of"]) (by refine fun _ _ _ _ _ _=>us2 ?_;intros;rfl)
 obtain ⟨f77,fd77,F77,m77,k77⟩:=d77.get X G
 have b77:=F77.binds (ps:=["_law_purse_here"]) (by refine fun _ _ _ _ _ _=>vI ?_;intros;rfl)
 obtain ⟨f78,fd78,F78,m78,k78⟩:=d78.get X G
 have b78:=F78.binds (ps:=["_law_purse_here"]) (by refine fun _ _ _ _ _ _=>vI ?_;intros;rfl)
 obtain ⟨f79,fd79,F79,m79,k79⟩:=d79.get X G
 have b79:=F79.binds (ps:=["_law_purse_here"]) (by refine fun _ _ _ _ _ _=>vI ?_;intros;rfl)
 obtain ⟨f80,fd80,F80,m80,k80⟩:=d80.get X G
 have b80:=F80.binds (ps:=["_law_purse_here"]) (by refine fun _ _ _ _ _ _=>vI ?_;intros;rfl)
 obtain ⟨f81,fd81,F81,m81,k81⟩:=d81.get X G
 have b81:=F81.binds (ps:=["_law_purse_here"]) (by refine fun _ _ _ _ _ _=>vI ?_;intros;rfl)
 obtain ⟨f82,fd82,F82,m82,k82⟩:=d82.get X G
 have b82:=F82.binds (ps:=[]) (by refine fun _ _ _ _ _ _=>us0 ?_;rfl)
 obtain ⟨f83,fd83,F83,m83,k83⟩:=d83.get X G
 have b83:=F83.binds (ps:=["_law_four_here"]) (by refine fun _ _ _ _ _ _=>vI ?_;intros;rfl)
 obtain ⟨f84,fd84,F84,m84,k84⟩:=d84.get X G
 have b84:=F84.binds (ps:=["_law_four_here"]) (by refine fun _ _ _ _ _ _=>vI ?_;intros;rfl)
 obtain ⟨f85,fd85,F85,m85,k85⟩:=d85.get X G
 have b85:=F85.binds (ps:=["_law_four_here","_law_way"]) (by refine fun _ _ _ _ _ _=>us2 ?_;intros;rfl)
 obtain ⟨fd86,F86,b86⟩:=d86.law (y := "_law_script") X G hfa fun _ _ _ _ _ _ _=>rfl
 obtain ⟨f9,fd9,F9,m9,k9⟩:=d9.get X G
 have b9:=F9.binds (ps:=["one","other"]) (by refine fun _ _ _ _ _ _=>us2 ?_;intros;rfl)
 obtain ⟨f14,fd14,F14,m14,k14⟩:=d14.get X G
 have b14:=F14.binds (ps:=["level"]) (by refine fun _ _ _ _ _ _=>vI ?_;intros;rfl)
 obtain ⟨f29,fd29,F29,m29,k29⟩:=d29.get X G
 have b29:=F29.binds (ps:=["table"]) (by refine fun _ _ _ _ _ _=>vI ?_;intros;rfl)
 obtain ⟨f42,fd42,F42,m42,k42⟩:=d42.get X G
 have b42:=F42.binds (ps:=["hanger"]) (by refine fun _ _ _ _ _ _=>vI ?_;intros;rfl)
 obtain ⟨f43,fd43,F43,m43,k43⟩:=d43.get X G
 have b43:=F43.binds (ps:=["hanger"]) (by refine fun _ _ _ _ _ _=>vI ?_;intros;rfl)
 obtain ⟨f54,fd54,F54,m54,k54⟩:=d54.get X G
 have b54:=F54.binds (ps:=["hanger","four"]) (by refine fun _ _ _ _ _ _=>us2 ?_;intros;rfl)
 obtain ⟨f66,fd66,F66,m66,k66⟩:=d66.get X G
 have b66:=F66.binds (ps:=["text"]) (by refine fun _ _ _ _ _ _=>vI ?_;intros;rfl)
 obtain ⟨f67,fd67,F67,m67,k67⟩:=d67.get X G
 have b67:=F67.binds (ps:=["text","between","many"]) (by refine fun _ _ _ _ _ _=>us3 ?_;intros;rfl)
 obtain ⟨f68,fd68,F68,m68,k68⟩:=d68.get X G
 have b68:=F68.binds (ps:=["text"]) (by refine fun _ _ _ _ _ _=>vI ?_;intros;rfl)
 obtain ⟨f69,fd69,F69,m69,k69⟩:=d69.get X G
 have b69:=F69.binds (ps:=["text","between","many"]) (by refine fun _ _ _ _ _ _=>us3 ?_;intros;rfl)
 obtain ⟨f70,fd70,F70,m70,k70⟩:=d70.get X G
 have b70:=F70.binds (ps:=["text"]) (by refine fun _ _ _ _ _ _=>vI ?_;intros;rfl)
 obtain ⟨f71,fd71,F71,m71,k71⟩:=d71.get X G
 have b71:=F71.binds (ps:=["text"]) (by refine fun _ _ _ _ _ _=>vI ?_;intros;rfl)
 obtain ⟨f72,fd72,F72,m72,k72⟩:=d72.get X G
 have b72:=F72.binds (ps:=["text"]) (by refine fun _ _ _ _ _ _=>vI ?_;intros;rfl)
 obtain ⟨dWAYS,m_WAYS,t_WAYS⟩:=tb_WAYS.get X G
 obtain ⟨dPLACES,m_PLACES,t_PLACES⟩:=tb_PLACES.get X G
 obtain ⟨dMOST_FIGURES,m_MOST_FIGURES,t_MOST_FIGURES⟩:=tb_MOST_FIGURES.get X G
 obtain ⟨dFIGURES,m_FIGURES,t_FIGURES⟩:=tb_FIGURES.get X G
 have m_abs:=PySem.W.mg_none_of X G z_abs
 have m_tuple:=PySem.W.mg_none_of X G z_tuple
 have m_enumerate:=PySem.W.mg_none_of X G z_enumerate
 have m_zip:=PySem.W.mg_none_of X G z_zip
 have m_str:=PySem.W.mg_none_of X G z_str
 have m_len:=PySem.W.mg_none_of X G z_len
 have m_all:=PySem.W.mg_none_of X G z_all
 have m_range:=PySem.W.mg_none_of X G z_range
 have m_int:=PySem.W.mg_none_of X G z_int
 have m_sum:=PySem.W.mg_none_of X G z_sum
 have m_sorted:=PySem.W.mg_none_of X G z_sorted
 have m_any:=PySem.W.mg_none_of X G z_any
 refine ⟨fd86,b86,fun base _ _=>?_⟩
 have o6_CD:=yhE (P:=l.prog) (w:=w) (mg:=mg) (base:=base) F6      m_abs 
 have o7_Red:=ycG (P:=l.prog) (w:=w) (mg:=mg) (base:=base) F7     o6_CD b6 k6 m6 m_tuple 
 have o8_Neg:=yeM (P:=l.prog) (w:=w) (mg:=mg) (base:=base) F8      m_tuple 
 have o10_Cross:=zqA (P:=l.prog) (w:=w) (mg:=mg) (base:=base) F10       
 have o11_FFilled:=zhN (P:=l.prog) (w:=w) (mg:=mg) (base:=base) F11      m_enumerate 
 have o12_CM:=ygE (P:=l.prog) (w:=w) (mg:=mg) (base:=base) F12     o6_CD b6 k6 m6  
 have o13_LevN:=zvC (P:=l.prog) (w:=w) (mg:=mg) (base:=base) F13     o12_CM b12 k12 m12 m_tuple 
 have o15_WholeRoot:=zdV (P:=l.prog) (w:=w) (mg:=mg) (base:=base) F15       
 have o16_ExactRoot:=zeU (P:=l.prog) (w:=w) (mg:=mg) (base:=base) F16     o15_WholeRoot b15 k15 m15  
 have o18_Plain:=zrJ (P:=l.prog) (w:=w) (mg:=mg) (base:=base) F18     o7_Red b7 k7 m7 o8_Neg b8 k8 m8  
 have o20_Prod:=zuN (P:=l.prog) (w:=w) (mg:=mg) (base:=base) F20       
 have o21_Then:=zxO (P:=l.prog) (w:=w) (mg:=mg) (base:=base) F21     o18_Plain b18 k18 m18 o20_Prod b20 k20 m20  
 have o22_Back:=zvI (P:=l.prog) (w:=w) (mg:=mg) (base:=base) F22     o18_Plain b18 k18 m18  
 have o23_WT:=ygW (P:=l.prog) (w:=w) (mg:=mg) (base:=base) F23       
 have o26_OnlyV:=znW (P:=l.prog) (w:=w) (mg:=mg) (base:=base) F26     o13_LevN b13 k13 m13  
 have o31_Axis:=zvX (P:=l.prog) (w:=w) (mg:=mg) (base:=base) F31     o18_Plain b18 k18 m18 o7_Red b7 k7 m7  
 have o33_PSet:=zwP (P:=l.prog) (w:=w) (mg:=mg) (base:=base) F33     o7_Red b7 k7 m7 o8_Neg b8 k8 m8  
 have o34_About:=zuA (P:=l.prog) (w:=w) (mg:=mg) (base:=base) F34     o18_Plain b18 k18 m18  
 have o35_Along:=zqY (P:=l.prog) (w:=w) (mg:=mg) (base:=base) F35     o10_Cross b10 k10 m10  
 have o36_SetAbout:=zfJ (P:=l.prog) (w:=w) (mg:=mg) (base:=base) F36     o35_Along b35 k35 m35 o11_FFilled b11 k11 m11 o33_PSet b33 k33 m33  
 have o45_Third:=zoO (P:=l.prog) (w:=w) (mg:=mg) (base:=base) F45       
 have o46_Joined:=zmP (P:=l.prog) (w:=w) (mg:=mg) (base:=base) F46       
 have o47_TBack:=zpC (P:=l.prog) (w:=w) (mg:=mg) (base:=base) F47       
 have o48_Hand:=zvF (P:=l.prog) (w:=w) (mg:=mg) (base:=base) F48     o45_Third b45 k45 m45  
 have o49_Lean:=zvG (P:=l.prog) (w:=w) (mg:=mg) (base:=base) F49     o48_Hand b48 k48 m48  
 have o50_TwoParts:=zgM (P:=l.prog) (w:=w) (mg:=mg) (base:=base) F50     o49_Lean b49 k49 m49 o20_Prod b20 k20 m20 o18_Plain b18 k18 m18 o48_Hand b48 k48 m48 o45_Third b45 k45 m45 m_tuple m_PLACES t_PLACES
 have o51_Leaning:=ziR (P:=l.prog) (w:=w) (mg:=mg) (base:=base) F51     o33_PSet b33 k33 m33 o46_Joined b46 k46 m46 o49_Lean b49 k49 m49  
 have o52_Locked:=znT (P:=l.prog) (w:=w) (mg:=mg) (base:=base) F52     o33_PSet b33 k33 m33 o51_Leaning b51 k51 m51  
 have o53_SBy:=yeV (P:=l.prog) (w:=w) (mg:=mg) (base:=base) F53     o46_Joined b46 k46 m46 o47_TBack b47 k47 m47 o33_PSet b33 k33 m33 o51_Leaning b51 k51 m51  
 have o60_ShRb:=zuQ (P:=l.prog) (w:=w) (mg:=mg) (base:=base) F60    q_dig  m_str 
 have o61_ShNb:=zxD (P:=l.prog) (w:=w) (mg:=mg) (base:=base) F61    q_dig  m_str 
 have o62_ShFb:=zxY (P:=l.prog) (w:=w) (mg:=mg) (base:=base) F62     o60_ShRb b60 k60 m60  
 have o63_ShPb:=zuW (P:=l.prog) (w:=w) (mg:=mg) (base:=base) F63     o61_ShNb b61 k61 m61  
 have o64_ShTb:=zwL (P:=l.prog) (w:=w) (mg:=mg) (base:=base) F64     o63_ShPb b63 k63 m63  
 have o65_IsWT:=zyM (P:=l.prog) (w:=w) (mg:=mg) (base:=base) F65      m_len m_all m_MOST_FIGURES t_MOST_FIGURES m_FIGURES t_FIGURES
 have o74_Mixed:=zsW (P:=l.prog) (w:=w) (mg:=mg) (base:=base) F74       
 have o75_Purse:=ztE (P:=l.prog) (w:=w) (mg:=mg) (base:=base) F75     o74_Mixed b74 k74 m74 m_len m_abs m_range 
 have o76_Draw:=zvT (P:=l.prog) (w:=w) (mg:=mg) (base:=base) F76       
 have o77_Number:=znC (P:=l.prog) (w:=w) (mg:=mg) (base:=base) F77     o76_Draw b76 k76 m76  
 have o78_Four:=zyQ (P:=l.prog) (w:=w) (mg:=mg) (base:=base) F78     o76_Draw b76 k76 m76 o77_Number b77 k77 m77 m_tuple m_range 
 have o79_Small:=ztJ (P:=l.prog) (w:=w) (mg:=mg) (base:=base) F79     o76_Draw b76 k76 m76  
 have o80_DSetting:=zfN (P:=l.prog) (w:=w) (mg:=mg) (base:=base) F80     o79_Small b79 k79 m79 o76_Draw b76 k76 m76 m_int 
 have o81_LHanger:=zhK (P:=l.prog) (w:=w) (mg:=mg) (base:=base) F81     o76_Draw b76 k76 m76  
 have o82_LHgs:=zvP (P:=l.prog) (w:=w) (mg:=mg) (base:=base) F82       
 have o9_Sop:=yeZ (P:=l.prog) (w:=w) (mg:=mg) (base:=base) F9      m_sum m_zip 
 have o19_Size:=zwO (P:=l.prog) (w:=w) (mg:=mg) (base:=base) F19     o9_Sop b9 k9 m9  
 have o27_IsTabV:=znL (P:=l.prog) (w:=w) (mg:=mg) (base:=base) F27     o19_Size b19 k19 m19 o23_WT b23 k23 m23 m_zip 
 have o28_IsTurnV:=ziL (P:=l.prog) (w:=w) (mg:=mg) (base:=base) F28     o27_IsTabV b27 k27 m27 o26_OnlyV b26 k26 m26  
 have o32_Rest:=zwE (P:=l.prog) (w:=w) (mg:=mg) (base:=base) F32     o7_Red b7 k7 m7 o19_Size b19 k19 m19  
 have o38_Half:=zvQ (P:=l.prog) (w:=w) (mg:=mg) (base:=base) F38     o18_Plain b18 k18 m18 o16_ExactRoot b16 k16 m16 o19_Size b19 k19 m19  
 have o56_Parted:=zmF (P:=l.prog) (w:=w) (mg:=mg) (base:=base) F56     o9_Sop b9 k9 m9 o34_About b34 k34 m34 o21_Then b21 k21 m21 o22_Back b22 k22 m22  
 have o84_LAbt49:=zlV (P:=l.prog) (w:=w) (mg:=mg) (base:=base) F84     o31_Axis b31 k31 m31 o32_Rest b32 k32 m32 o36_SetAbout b36 k36 m36 o34_About b34 k34 m34 o19_Size b19 k19 m19  
 have o14_Low:=ycN (P:=l.prog) (w:=w) (mg:=mg) (base:=base) F14     o7_Red b7 k7 m7 m_tuple 
 have o25_TableOf:=zhF (P:=l.prog) (w:=w) (mg:=mg) (base:=base) F25     o19_Size b19 k19 m19 o23_WT b23 k23 m23 o14_Low b14 k14 m14 m_tuple 
 have o29_FourOf:=znH (P:=l.prog) (w:=w) (mg:=mg) (base:=base) F29     o26_OnlyV b26 k26 m26 o27_IsTabV b27 k27 m27 o18_Plain b18 k18 m18  
 have o42_IsHg:=zxV (P:=l.prog) (w:=w) (mg:=mg) (base:=base) F42      m_len m_all m_WAYS t_WAYS
 have o43_RefHg:=zsB (P:=l.prog) (w:=w) (mg:=mg) (base:=base) F43     o42_IsHg b42 k42 m42  
 have o44_HungD:=zrP (P:=l.prog) (w:=w) (mg:=mg) (base:=base) F44     o43_RefHg b43 k43 m43 o34_About b34 k34 m34 o21_Then b21 k21 m21  m_WAYS t_WAYS
 have o54_SetOf:=zqQ (P:=l.prog) (w:=w) (mg:=mg) (base:=base) F54     o43_RefHg b43 k43 m43 o50_TwoParts b50 k50 m50 o9_Sop b9 k9 m9 o52_Locked b52 k52 m52 o16_ExactRoot b16 k16 m16 o53_SBy b53 k53 m53 m_sorted 
 have o83_LHangs49:=zgK (P:=l.prog) (w:=w) (mg:=mg) (base:=base) F83     o82_LHgs b82 k82 m82 o54_SetOf b54 k54 m54 o44_HungD b44 k44 m44  
 have o66_RdW:=ydW (P:=l.prog) (w:=w) (mg:=mg) (base:=base) F66    q_dig o65_IsWT b65 k65 m65 m_int 
 have o67_Parts:=ztN (P:=l.prog) (w:=w) (mg:=mg) (base:=base) F67      m_len 
 have o68_RdN:=yeO (P:=l.prog) (w:=w) (mg:=mg) (base:=base) F68     o66_RdW b66 k66 m66 o67_Parts b67 k67 m67 o6_CD b6 k6 m6  
 have o69_RdR:=ycF (P:=l.prog) (w:=w) (mg:=mg) (base:=base) F69     o67_Parts b67 k67 m67 o66_RdW b66 k66 m66 m_tuple m_any 
 have o70_RdF:=ycW (P:=l.prog) (w:=w) (mg:=mg) (base:=base) F70     o69_RdR b69 k69 m69  
 have o71_RdP:=yeI (P:=l.prog) (w:=w) (mg:=mg) (base:=base) F71     o67_Parts b67 k67 m67 o68_RdN b68 k68 m68 m_tuple 
 have o72_RdT:=yaK (P:=l.prog) (w:=w) (mg:=mg) (base:=base) F72     o67_Parts b67 k67 m67 o71_RdP b71 k71 m71 m_tuple 
 have o85_LRt49:=zqI (P:=l.prog) (w:=w) (mg:=mg) (base:=base) F85     o25_TableOf b25 k25 m25 o83_LHangs49 b83 k83 m83 o84_LAbt49 b84 k84 m84 o29_FourOf b29 k29 m29 o28_IsTurnV b28 k28 m28 o56_Parted b56 k56 m56 o21_Then b21 k21 m21 o38_Half b38 k38 m38 o72_RdT b72 k72 m72 o64_ShTb b64 k64 m64 o70_RdF b70 k70 m70 o62_ShFb b62 k62 m62  
 exact ycA (P:=l.prog) (w:=w) (mg:=mg) (base:=base) F86     o75_Purse b75 k75 m75 o81_LHanger b81 k81 m81 o80_DSetting b80 k80 m80 o18_Plain b18 k18 m18 o44_HungD b44 k44 m44 o78_Four b78 k78 m78 o76_Draw b76 k76 m76 o85_LRt49 b85 k85 m85 m_range m_tuple 
theorem walk {l:PySem.W.OpenLaw} {q:Program} {loose:List Str} {XP:(Str->Option Value)->Heap->Prop} {YP:World->Heap->Prop} {d:DefRec} {K:Params->PySem.W.Frag} (hn:l.most=some 63) (hdf:d.params.defaults=[])
  (hY:∀ (w:World) (h:Heap),YP w h->(K w.params).In h)
  (F:∀ (w:World) (mg:Str->Option Value) (fa:Addr) (h:Heap),(K w.params).In h->h.Ns mainGlobals mg->mg d.name=some (.ref fa) ->
   ∃ fd:FuncData,(∀ (s:Shared) (u:Value),BindsTo s fd ⟨[u],[]⟩ [("_law_script",u)])/\∀ base:Heap,(K w.params).In base->base.Ns mainGlobals mg->FnOk l.prog w (K w.params) mg base zW 9 fa fd ["_law_script"] (zfU (K w.params))) :
  PySem.W.WalkO q loose XP YP l.row.toRowW d [] (fun f vs=>PySem.call f vs) :=
 L2.walkB (n:=63) (k:=9) (x := "_law_script") (sp:=zfU) hn (by decide) hdf ⟨rfl,by decide,by decide⟩ hY F (fun K H a ns hl hb hS=>⟨a,ns,rfl,hS,hl,hb,fun _=>rfl⟩)
end K49
open PySem PySem.W PyProof.Rows
namespace K49
noncomputable def vw:PySem.Program:={ PySem.Challenge.pw_hangrings_k49_whole_tables_swings_and_ha with main:={ PySem.Challenge.pw_hangrings_k49_whole_tables_swings_and_ha.main with body:=(PySem.Challenge.pw_hangrings_k49_whole_tables_swings_and_ha.main.body.zipIdx.filter fun x => !([0,5,17,24,30,37,39,55,57,73].contains x.2)).map (·.1) } }
noncomputable def hRun (T:PySem.W.BT) (w:PySem.World) (os:PySem.OsState):Option PySem.W.SharedT:=TopT.goes PySem.Challenge.pw_hangrings_k49_whole_tables_swings_and_ha 20000 T w os
noncomputable def hA (h0:PySem.Heap) (s:PySem.W.SharedT):Bool:=PySem.W.staticsOk (PySem.importedModules PySem.Challenge.pw_hangrings_k49_whole_tables_swings_and_ha.main.body) h0 s.abs.heap && PySem.W.namesBound PySem.Challenge.pw_hangrings_k49_whole_tables_swings_and_ha s.abs.heap && PySem.W.gensDone s.abs && PySem.W.laidKept h0 s.abs.heap
noncomputable def hB (s:PySem.W.SharedT):=PySem.W.openSeen vw [PySem.Str.ofString "WAYS",PySem.Str.ofString "PLACES"] (PySem.importedModules PySem.Challenge.pw_hangrings_k49_whole_tables_swings_and_ha.main.body) (fun s=>PySem.W.xlAt vw [] s && PySem.W.recOk [] s) true s.abs
noncomputable def hG:=PySem.W.openGood vw [PySem.Str.ofString "WAYS",PySem.Str.ofString "PLACES"]
end K49
lay_quick K49.hRun K49.hA K49.hB K49.hG
theorem K49.lookAf:∀ (w:PySem.World) os,(PySem.W.Fast.tw8029225149196552921 (TopT.bt (w.withFollow "special-get-raises" false).params) (w.withFollow "special-get-raises" false) os).map (K49.hA (PySem.W.boot_heap (w.withFollow "special-get-raises" false).params))=some true:=by
 rw [PySem.W.Fast.te428536528211723027]
 intro w os
 kernel_rfl
theorem K49.lookAt:∀ (w:PySem.World) os,(PySem.W.Fast.tw8029225149196552921 (TopT.bt (w.withFollow "special-get-raises" true).params) (w.withFollow "special-get-raises" true) os).map (K49.hA (PySem.W.boot_heap (w.withFollow "special-get-raises" true).params))=some true:=by
 rw [PySem.W.Fast.te428536528211723027]
 intro w os
 kernel_rfl
theorem K49.lookA:∀ w os,(PySem.W.Fast.tw8029225149196552921 (TopT.bt w.params) w os).map (K49.hA (PySem.W.boot_heap w.params))=some true:=TopT.byR "special-get-raises" K49.lookAf K49.lookAt
theorem K49.lookBf:∀ (w:PySem.World) os,(PySem.W.Fast.tw8029225149196552921 (TopT.bt (w.withFollow "special-get-raises" false).params) (w.withFollow "special-get-raises" false) os).map K49.hB=some K49.hG:=by
 rw [PySem.W.Fast.te3111067094527517979,PySem.W.Fast.te14446041629149208986]
 intro w os
 kernel_rfl
theorem K49.lookBt:∀ (w:PySem.World) os,(PySem.W.Fast.tw8029225149196552921 (TopT.bt (w.withFollow "special-get-raises" true).params) (w.withFollow "special-get-raises" true) os).map K49.hB=some K49.hG:=by
 rw [PySem.W.Fast.te3111067094527517979,PySem.W.Fast.te14446041629149208986]
 intro w os
 kernel_rfl
theorem K49.lookB:∀ w os,(PySem.W.Fast.tw8029225149196552921 (TopT.bt w.params) w os).map K49.hB=some K49.hG:=TopT.byR "special-get-raises" K49.lookBf K49.lookBt
local macro_rules | `(tactic| o_head $H) => `(tactic| (refine TopT.comb (fun a b c => PySem.W.holds_open (q := K49.vw) (loose := [PySem.Str.ofString "WAYS", PySem.Str.ofString "PLACES"]) (Xt := fun s => PySem.W.xlAt K49.vw [] s && PySem.W.recOk [] s) (XP := PySem.W.XL K49.vw []) (Yf := PySem.W.Hook.obs $H) (Ya := PySem.W.Hook.val $H) (YP := PySem.W.Hook.says $H) (N := 20000) (TopT.leftT 20000 PySem.W.Fast.te8029225149196552921 (by kernel_rfl) (fun s => by kernel_rfl) rfl rfl K49.lookA K49.lookB a) (PySem.W.Hook.of $H) (PySem.W.Hook.keeps $H) (fun s e => PySem.W.xl_of s (Bool.and_eq_true_iff.mp e).1) PySem.W.XL.keeps (by rfl) (by rfl) (by rfl) (fun s e => PySem.W.recFacts_of (Bool.and_eq_true_iff.mp e).2) (by rfl) (by decide +kernel) (by decide +kernel) ⟨rfl, rfl, rfl, rfl, rfl, by decide +kernel⟩ c b) ?hc ?hw))
set_option maxRecDepth 100000 in
set_option maxHeartbeats 0 in
open_top K49.hTop for PySem.Challenge.rw_hangrings_k49_whole_tables_swings_and_ha
theorem K49.lookCf:∀ (w:PySem.World) os,TopT.oneOf K49.hTop (w.withFollow "special-get-raises" false) os:=by
 intro w os
 kernel_rfl
theorem K49.lookCt:∀ (w:PySem.World) os,TopT.oneOf K49.hTop (w.withFollow "special-get-raises" true) os:=by
 intro w os
 kernel_rfl
set_option maxRecDepth 100000 in
set_option maxHeartbeats 0 in
theorem PySem.Challenge.cw_hangrings_k49_whole_tables_swings_and_ha_holds : PySem.Challenge.rw_hangrings_k49_whole_tables_swings_and_ha.Holds := by
  refine K49.hTop ⟨TopT.byR "special-get-raises" K49.lookCf K49.lookCt,?_⟩
  k_fill
  refine K49.walk (l:=PySem.Challenge.rw_hangrings_k49_whole_tables_swings_and_ha) rfl rfl (fun w h Y=>PySem.W.kIn_of Y) ?F
  case F =>
    intro w mg fa h KX G hmg
    refine' K49.all_mk KX G hmg   ?q_dig (L2.DefAt.mk ?a6 ?l6 ?c6 ?k6) (L2.DefAt.mk ?a7 ?l7 ?c7 ?k7) (L2.DefAt.mk ?a8 ?l8 ?c8 ?k8) (L2.DefAt.mk ?a10 ?l10 ?c10 ?k10) (L2.DefAt.mk ?a11 ?l11 ?c11 ?k11) (L2.DefAt.mk ?a12 ?l12 ?c12 ?k12) (L2.DefAt.mk ?a13 ?l13 ?c13 ?k13) (L2.DefAt.mk ?a15 ?l15 ?c15 ?k15) (L2.DefAt.mk ?a16 ?l16 ?c16 ?k16) (L2.DefAt.mk ?a18 ?l18 ?c18 ?k18) (L2.DefAt.mk ?a19 ?l19 ?c19 ?k19) (L2.DefAt.mk ?a20 ?l20 ?c20 ?k20) (L2.DefAt.mk ?a21 ?l21 ?c21 ?k21) (L2.DefAt.mk ?a22 ?l22 ?c22 ?k22) (L2.DefAt.mk ?a23 ?l23 ?c23 ?k23) (L2.DefAt.mk ?a25 ?l25 ?c25 ?k25) (L2.DefAt.mk ?a26 ?l26 ?c26 ?k26) (L2.DefAt.mk ?a27 ?l27 ?c27 ?k27) (L2.DefAt.mk ?a28 ?l28 ?c28 ?k28) (L2.DefAt.mk ?a31 ?l31 ?c31 ?k31) (L2.DefAt.mk ?a32 ?l32 ?c32 ?k32) (L2.DefAt.mk ?a33 ?l33 ?c33 ?k33) (L2.DefAt.mk ?a34 ?l34 ?c34 ?k34) (L2.DefAt.mk ?a35 ?l35 ?c35 ?k35) (L2.DefAt.mk ?a36 ?l36 ?c36 ?k36) (L2.DefAt.mk ?a38 ?l38 ?c38 ?k38) (L2.DefAt.mk ?a44 ?l44 ?c44 ?k44) (L2.DefAt.mk ?a45 ?l45 ?c45 ?k45) (L2.DefAt.mk ?a46 ?l46 ?c46 ?k46) (L2.DefAt.mk ?a47 ?l47 ?c47 ?k47) (L2.DefAt.mk ?a48 ?l48 ?c48 ?k48) (L2.DefAt.mk ?a49 ?l49 ?c49 ?k49) (L2.DefAt.mk ?a50 ?l50 ?c50 ?k50) (L2.DefAt.mk ?a51 ?l51 ?c51 ?k51) (L2.DefAt.mk ?a52 ?l52 ?c52 ?k52) (L2.DefAt.mk ?a53 ?l53 ?c53 ?k53) (L2.DefAt.mk ?a56 ?l56 ?c56 ?k56) (L2.DefAt.mk ?a60 ?l60 ?c60 ?k60) (L2.DefAt.mk ?a61 ?l61 ?c61 ?k61) (L2.DefAt.mk ?a62 ?l62 ?c62 ?k62) (L2.DefAt.mk ?a63 ?l63 ?c63 ?k63) (L2.DefAt.mk ?a64 ?l64 ?c64 ?k64) (L2.DefAt.mk ?a65 ?l65 ?c65 ?k65) (L2.DefAt.mk ?a74 ?l74 ?c74 ?k74) (L2.DefAt.mk ?a75 ?l75 ?c75 ?k75) (L2.DefAt.mk ?a76 ?l76 ?c76 ?k76) (L2.DefAt.mk ?a77 ?l77 ?c77 ?k77) (L2.DefAt.mk ?a78 ?l78 ?c78 ?k78) (L2.DefAt.mk ?a79 ?l79 ?c79 ?k79) (L2.DefAt.mk ?a80 ?l80 ?c80 ?k80) (L2.DefAt.mk ?a81 ?l81 ?c81 ?k81) (L2.DefAt.mk ?a82 ?l82 ?c82 ?k82) (L2.DefAt.mk ?a83 ?l83 ?c83 ?k83) (L2.DefAt.mk ?a84 ?l84 ?c84 ?k84) (L2.DefAt.mk ?a85 ?l85 ?c85 ?k85) (L2.DefAt.mk ?a86 ?l86 ?c86 ?k86) (L2.DefAt.mk ?a9 ?l9 ?c9 ?k9) (L2.DefAt.mk ?a14 ?l14 ?c14 ?k14) (L2.DefAt.mk ?a29 ?l29 ?c29 ?k29) (L2.DefAt.mk ?a42 ?l42 ?c42 ?k42) (L2.DefAt.mk ?a43 ?l43 ?c43 ?k43) (L2.DefAt.mk ?a54 ?l54 ?c54 ?k54) (L2.DefAt.mk ?a66 ?l66 ?c66 ?k66) (L2.DefAt.mk ?a67 ?l67 ?c67 ?k67) (L2.DefAt.mk ?a68 ?l68 ?c68 ?k68) (L2.DefAt.mk ?a69 ?l69 ?c69 ?k69) (L2.DefAt.mk ?a70 ?l70 ?c70 ?k70) (L2.DefAt.mk ?a71 ?l71 ?c71 ?k71) (L2.DefAt.mk ?a72 ?l72 ?c72 ?k72) (L2.TabSAt.mk ?tAWAYS ?tLWAYS ?tCWAYS ?tEWAYS ?tNWAYS ?tMWAYS) (L2.TabIAt.mk ?tAPLACES ?tLPLACES ?tCPLACES ?tEPLACES ?tNPLACES ?tMPLACES) (L2.IntTAt.mk ?tAMOST_FIGURES) (L2.StrTAt.mk ?tAFIGURES) ?z0 ?z1 ?z2 ?z3 ?z4 ?z5 ?z6 ?z7 ?z8 ?z9 ?z10 ?z11
    (case q_dig=>first|k_is|kernel_rfl|(unfold L2.DigN;first|k_is|kernel_rfl))
    (case a6=>k_is);(case l6=>k_is);(case c6=>k_is);(case k6=>k_is)
    (case a7=>k_is);(case l7=>k_is);(case c7=>k_is);(case k7=>k_is)
    (case a8=>k_is);(case l8=>k_is);(case c8=>k_is);(case k8=>k_is)
    (case a10=>k_is);(case l10=>k_is);(case c10=>k_is);(case k10=>k_is)
    (case a11=>k_is);(case l11=>k_is);(case c11=>k_is);(case k11=>k_is)
    (case a12=>k_is);(case l12=>k_is);(case c12=>k_is);(case k12=>k_is)
    (case a13=>k_is);(case l13=>k_is);(case c13=>k_is);(case k13=>k_is)
    (case a15=>k_is);(case l15=>k_is);(case c15=>k_is);(case k15=>k_is)
    (case a16=>k_is);(case l16=>k_is);(case c16=>k_is);(case k16=>k_is)
    (case a18=>k_is);(case l18=>k_is);(case c18=>k_is);(case k18=>k_is)
    (case a19=>k_is);(case l19=>k_is);(case c19=>k_is);(case k19=>k_is)
    (case a20=>k_is);(case l20=>k_is);(case c20=>k_is);(case k20=>k_is)
    (case a21=>k_is);(case l21=>k_is);(case c21=>k_is);(case k21=>k_is)
    (case a22=>k_is);(case l22=>k_is);(case c22=>k_is);(case k22=>k_is)
    (case a23=>k_is);(case l23=>k_is);(case c23=>k_is);(case k23=>k_is)
    (case a25=>k_is);(case l25=>k_is);(case c25=>k_is);(case k25=>k_is)
    (case a26=>k_is);(case l26=>k_is);(case c26=>k_is);(case k26=>k_is)
    (case a27=>k_is);(case l27=>k_is);(case c27=>k_is);(case k27=>k_is)
    (case a28=>k_is);(case l28=>k_is);(case c28=>k_is);(case k28=>k_is)
    (case a31=>k_is);(case l31=>k_is);(case c31=>k_is);(case k31=>k_is)
    (case a32=>k_is);(case l32=>k_is);(case c32=>k_is);(case k32=>k_is)
    (case a33=>k_is);(case l33=>k_is);(case c33=>k_is);(case k33=>k_is)
    (case a34=>k_is);(case l34=>k_is);(case c34=>k_is);(case k34=>k_is)
    (case a35=>k_is);(case l35=>k_is);(case c35=>k_is);(case k35=>k_is)
    (case a36=>k_is);(case l36=>k_is);(case c36=>k_is);(case k36=>k_is)
    (case a38=>k_is);(case l38=>k_is);(case c38=>k_is);(case k38=>k_is)
    (case a44=>k_is);(case l44=>k_is);(case c44=>k_is);(case k44=>k_is)
    (case a45=>k_is);(case l45=>k_is);(case c45=>k_is);(case k45=>k_is)
    (case a46=>k_is);(case l46=>k_is);(case c46=>k_is);(case k46=>k_is)
    (case a47=>k_is);(case l47=>k_is);(case c47=>k_is);(case k47=>k_is)
    (case a48=>k_is);(case l48=>k_is);(case c48=>k_is);(case k48=>k_is)
    (case a49=>k_is);(case l49=>k_is);(case c49=>k_is);(case k49=>k_is)
    (case a50=>k_is);(case l50=>k_is);(case c50=>k_is);(case k50=>k_is)
    (case a51=>k_is);(case l51=>k_is);(case c51=>k_is);(case k51=>k_is)
    (case a52=>k_is);(case l52=>k_is);(case c52=>k_is);(case k52=>k_is)
    (case a53=>k_is);(case l53=>k_is);(case c53=>k_is);(case k53=>k_is)
    (case a56=>k_is);(case l56=>k_is);(case c56=>k_is);(case k56=>k_is)
    (case a60=>k_is);(case l60=>k_is);(case c60=>k_is);(case k60=>k_is)
    (case a61=>k_is);(case l61=>k_is);(case c61=>k_is);(case k61=>k_is)
    (case a62=>k_is);(case l62=>k_is);(case c62=>k_is);(case k62=>k_is)
    (case a63=>k_is);(case l63=>k_is);(case c63=>k_is);(case k63=>k_is)
    (case a64=>k_is);(case l64=>k_is);(case c64=>k_is);(case k64=>k_is)
    (case a65=>k_is);(case l65=>k_is);(case c65=>k_is);(case k65=>k_is)
    (case a74=>k_is);(case l74=>k_is);(case c74=>k_is);(case k74=>k_is)
    (case a75=>k_is);(case l75=>k_is);(case c75=>k_is);(case k75=>k_is)
    (case a76=>k_is);(case l76=>k_is);(case c76=>k_is);(case k76=>k_is)
    (case a77=>k_is);(case l77=>k_is);(case c77=>k_is);(case k77=>k_is)
    (case a78=>k_is);(case l78=>k_is);(case c78=>k_is);(case k78=>k_is)
    (case a79=>k_is);(case l79=>k_is);(case c79=>k_is);(case k79=>k_is)
    (case a80=>k_is);(case l80=>k_is);(case c80=>k_is);(case k80=>k_is)
    (case a81=>k_is);(case l81=>k_is);(case c81=>k_is);(case k81=>k_is)
    (case a82=>k_is);(case l82=>k_is);(case c82=>k_is);(case k82=>k_is)
    (case a83=>k_is);(case l83=>k_is);(case c83=>k_is);(case k83=>k_is)
    (case a84=>k_is);(case l84=>k_is);(case c84=>k_is);(case k84=>k_is)
    (case a85=>k_is);(case l85=>k_is);(case c85=>k_is);(case k85=>k_is)
    (case a86=>k_is);(case l86=>k_is);(case c86=>k_is);(case k86=>k_is)
    (case a9=>k_is);(case l9=>k_is);(case c9=>k_is);(case k9=>k_is)
    (case a14=>k_is);(case l14=>k_is);(case c14=>k_is);(case k14=>k_is)
    (case a29=>k_is);(case l29=>k_is);(case c29=>k_is);(case k29=>k_is)
    (case a42=>k_is);(case l42=>k_is);(case c42=>k_is);(case k42=>k_is)
    (case a43=>k_is);(case l43=>k_is);(case c43=>k_is);(case k43=>k_is)
    (case a54=>k_is);(case l54=>k_is);(case c54=>k_is);(case k54=>k_is)
    (case a66=>k_is);(case l66=>k_is);(case c66=>k_is);(case k66=>k_is)
    (case a67=>k_is);(case l67=>k_is);(case c67=>k_is);(case k67=>k_is)
    (case a68=>k_is);(case l68=>k_is);(case c68=>k_is);(case k68=>k_is)
    (case a69=>k_is);(case l69=>k_is);(case c69=>k_is);(case k69=>k_is)
    (case a70=>k_is);(case l70=>k_is);(case c70=>k_is);(case k70=>k_is)
    (case a71=>k_is);(case l71=>k_is);(case c71=>k_is);(case k71=>k_is)
    (case a72=>k_is);(case l72=>k_is);(case c72=>k_is);(case k72=>k_is)
    (case tAWAYS=>k_is);(case tLWAYS=>k_is);(case tCWAYS=>exact ⟨rfl,rfl,rfl⟩);(case tEWAYS=>exact rfl)
    (case tNWAYS =>
      refine' L2.EntS.three ?l ?c ?d ?_;(case l=>k_is);(case c=>exact rfl);(case d=>exact rfl)
      refine' L2.EntS.three ?l ?c ?d ?_;(case l=>k_is);(case c=>exact rfl);(case d=>exact rfl)
      refine' L2.EntS.three ?l ?c ?d ?_;(case l=>k_is);(case c=>exact rfl);(case d=>exact rfl)
      exact L2.EntS.nil)
    (case tMWAYS=>rfl)
    (case tAPLACES=>k_is);(case tLPLACES=>k_is);(case tCPLACES=>exact ⟨rfl,rfl,rfl⟩);(case tEPLACES=>exact rfl)
    (case tNPLACES =>
      exact .cons (.cons (.cons .nil)))
    (case tMPLACES=>rfl)
    (case tAMOST_FIGURES=>k_is)
    (case tAFIGURES=>k_is)
    (case z0=>k_is)
    (case z1=>k_is)
    (case z2=>k_is)
    (case z3=>k_is)
    (case z4=>k_is)
    (case z5=>k_is)
    (case z6=>k_is)
    (case z7=>k_is)
    (case z8=>k_is)
    (case z9=>k_is)
    (case z10=>k_is)
    (case z11=>k_is)
#print axioms PySem.Challenge.cw_hangrings_k49_whole_tables_swings_and_ha_holds
end
