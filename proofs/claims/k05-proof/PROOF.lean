import PyProof.Rows.All
import KE.KLam
import KE.KNestM
import PyProof.OldK
import Wide.All
import OpenK.AllK
import Wide.FinOn
import Lean
import PyProof.EqAt
import PyProof.EqKinds
import PyProof.TupleCall
import KE.KRevIter
import PyProof.Rows.SeqMore
import PyProof.Rows.ListMulArg
import PyProof.ZipIter
import PyProof.Rows.ZipGen
import PyProof.EnumMake
import PyProof.StrWalks
import PyProof.SliceStr2
import PyProof.StrBlockH
import PyProof.FString5
import PyProof.Rows.StrJoin2
import PyProof.Rows.Range3
import KE.KDictLaws
import PyProof.ConsumeWalk
import PyProof.SumWalkG
import PyProof.Rows.SeqCalls
import PyProof.Rows.SeqGen
import PyProof.Rows.MinMaxN
import PyProof.Rows.CallKwBuiltin
import PyProof.Rows.SortStr
import PyProof.StrOps2
import PyProof.Rows.StrMul
import PyProof.IsRules
import PyProof.Rows.SetFrom
import PyProof.CollectStr
import PyProof.Rows.SortRuns
import PyProof.Rows.SortKey
import KE.KSortTup
import PyProof.StrOps
import PySem.Challenge.RW_nailhang_k05_blocks
set_option Elab.async false
set_option linter.all false
set_option maxRecDepth 100000
set_option maxHeartbeats 4000000
local macro_rules | `(tactic| omega) => `(tactic| lia)
noncomputable section
namespace L2
open PySem PySem.Spec PyProof.Rows
abbrev bN:=Sum Int Str
def kg:bN→Value→Bool
  | .inl k,v=>Value.isInt k v
  | .inr x,v=>Value.isStrOf x v
def xl (w:World):bN→Int
  | .inl k=>hashInt k
  | .inr x=>hashStr w x
theorem cD:∀{k:bN} {v:Value},kg k v=true→(∃i t,k=Sum.inl i∧v=Value.int i t)∨(∃x t,k=Sum.inr x∧v=Value.str x t)
  | .inl i,v,h=>by
    obtain ⟨t,e⟩:=Value.isInt_shape (k:=i) (v:=v) h
    exact .inl ⟨i,t,rfl,e⟩
  | .inr x,v,h=>by
    obtain ⟨t,e⟩:=Value.isStrOf_shape (x:=x) (v:=v) h
    exact .inr ⟨x,t,rfl,e⟩
theorem pA (i:Int) (t:Tok):kg (.inl i) (.int i t)=true:=by simp [kg,Value.isInt]
theorem pB (x:Str) (t:Tok):kg (.inr x) (.str x t)=true:=by simp [kg,Value.isStrOf]
theorem uG (a b:Int):decide ((Sum.inl a:bN)=Sum.inl b)=(a == b):=by
  by_cases e:a=b
  · subst e;simp
  · have h:¬(Sum.inl a:bN)=Sum.inl b:=fun q=>e (Sum.inl.inj q)
    rw [decide_eq_false h]
    exact (beq_eq_false_iff_ne.mpr e).symm
theorem uH (a b:Str):decide ((Sum.inr a:bN)=Sum.inr b)=decide (a=b):=by
  by_cases e:a=b
  · subst e;simp
  · have h:¬(Sum.inr a:bN)=Sum.inr b:=fun q=>e (Sum.inr.inj q)
    rw [decide_eq_false h,decide_eq_false e]
theorem uI (a:Int) (b:Str):decide ((Sum.inl a:bN)=Sum.inr b)=false:=decide_eq_false (fun q=>nomatch q)
theorem uJ (a:Str) (b:Int):decide ((Sum.inr a:bN)=Sum.inl b)=false:=decide_eq_false (fun q=>nomatch q)
def cK (prog:Program) (w:World):PySem.KeyKind prog w bN where
  is:=kg
  hash:=xl w
  inj:=fun v a b ha hb=>by
    rcases cD ha with ⟨i,t,rfl,rfl⟩ | ⟨x,t,rfl,rfl⟩
    · rcases cD hb with ⟨j,u,rfl,e⟩ | ⟨y,u,rfl,e⟩
      · injection e with e1 _;rw [e1]
      · exact nomatch e
    · rcases cD hb with ⟨j,u,rfl,e⟩ | ⟨y,u,rfl,e⟩
      · exact nomatch e
      · injection e with e1 _;rw [e1]
  byValue:=fun k v h=>by
    rcases cD h with ⟨i,t,rfl,rfl⟩ | ⟨x,t,rfl,rfl⟩ <;> rfl
  pyHash:=fun hv h=>by
    rcases cD hv with ⟨i,t,rfl,rfl⟩ | ⟨x,t,rfl,rfl⟩
    · exact wpAny_pyHash_int h
    · exact wpAny_pyHash_str h
  eqBool:=fun hu hv h=>by
    rcases cD hu with ⟨i,t,rfl,rfl⟩ | ⟨x,t,rfl,rfl⟩
    · rcases cD hv with ⟨j,u,rfl,rfl⟩ | ⟨y,u,rfl,rfl⟩
      · rw [uG] at h;exact wpAny_eqBool_int h
      · rw [uI] at h;exact SeqAt.EqAt.int_str i t y u _ _ _ _ h
    · rcases cD hv with ⟨j,u,rfl,rfl⟩ | ⟨y,u,rfl,rfl⟩
      · rw [uJ] at h;exact SeqAt.EqAt.str_int x t j u _ _ _ _ h
      · rw [uH] at h;exact wpAny_eqBool_str h
  «strs»:=fun k x t v h=>by
    rcases cD h with ⟨i,u,rfl,e⟩ | ⟨y,u,rfl,e⟩
    · exact nomatch e
    · injection e with e1 _
      subst e1
      cases v <;> rfl
theorem l6 (prog:Program) (w:World) (i:Int) (t:Tok):(cK prog w).is (.inl i) (.int i t)=true:=pA i t
theorem l7 (prog:Program) (w:World) (x:Str) (t:Tok):(cK prog w).is (.inr x) (.str x t)=true:=pB x t
end L2
namespace L2
open PySem PySem.Spec PyProof.Rows
inductive V where
  | non | bl (b:Bool) | int (i:Int) | str (x:Str) | byt (b:Array UInt8) | flt (b:UInt64) | ref (a:Addr) | ty (n:String)
  deriving DecidableEq
def RelV:V→Value→Prop
  | .non,u=>u=Value.none
  | .bl b,u=>u=Value.bool b
  | .int i,u=>∃t,u=Value.int i t
  | .str x,u=>∃t,u=Value.str x t
  | .byt b,u=>∃t,u=Value.bytes b t
  | .flt b,u=>∃t,u=Value.float b t
  | .ref a,u=>u=Value.ref a
  | .ty n,u=>u=Value.type n
abbrev Vals:List V→List Value→Prop:=Paired RelV
theorem Vals.length {xs:List V} {us:List Value} (r:Vals xs us):xs.length=us.length:=Paired.length r
theorem Vals.get:∀{xs:List V} {us:List Value} {i:Nat} {x:V},Vals xs us→xs[i]? =some x→∃u,us[i]? =some u∧RelV x u
  | _,_,_,_, .nil,e=>by simp at e
  | _,_,0,_, .cons r _,e=>by simp at e;subst e;exact ⟨_,rfl,r⟩
  | _,_,i+1,x, .cons _ t,e=>by
    obtain ⟨u,h1,h2⟩:=Vals.get (i:=i) (x:=x) t (by simpa using e)
    exact ⟨u,by simpa using h1,h2⟩
theorem Vals.set {x:V} {u:Value} (r:RelV x u):∀{xs:List V} {us:List Value} (i:Nat),Vals xs us→Vals (xs.set i x) (us.set i u)
  | _,_,_, .nil=> .nil
  | _,_,0, .cons _ t=> .cons r t
  | _,_,i+1, .cons q t=> .cons q (Vals.set r i t)
theorem Vals.append:∀{xs ys:List V} {us ws:List Value},Vals xs us→Vals ys ws→Vals (xs++ys) (us++ws)
  | _,_,_,_, .nil,s=>s
  | _,_,_,_, .cons r t,s=> .cons r (Vals.append t s)
theorem Vals.take:∀{xs:List V} {us:List Value} (n:Nat),Vals xs us→Vals (xs.take n) (us.take n)
  | _,_,0,_=> .nil
  | _,_,_+1, .nil=> .nil
  | _,_,n+1, .cons r t=> .cons r (Vals.take n t)
theorem Vals.drop:∀{xs:List V} {us:List Value} (n:Nat),Vals xs us→Vals (xs.drop n) (us.drop n)
  | _,_,0,r=>r
  | _,_,_+1, .nil=> .nil
  | _,_,n+1, .cons _ t=>Vals.drop n t
def RelO:Option V→Option Value→Prop
  | some v,some u=>RelV v u
  | none,none=>True
  | _,_=>False
def KV {κ:Type}:List (κ×V)→List (κ×Value)→Prop:=Paired fun (p:κ×V) (q:κ×Value)=>p.1=q.1∧RelV p.2 q.2
def kV:bN→V
  | .inl i=> .int i
  | .inr x=> .str x
inductive HO where
  /-- a list -/
  | lst (xs:List V)
  /-- a tuple (never changes) -/
  | tup (xs:List V)
  /-- a dict whose keys are ints and og;one whose keys are tuples of ints and og (the empty one is both) -/
  | dK (kvs:List (bN×V)) | dT (kvs:List (List bN×V))
  /-- a set of ints:its members,its size -/
  | set (S:Int→Bool) (n:Nat)
  /-- an instance of the class at C,its dict at dx,its attributes -/
  | ins (C dx:Addr) (fs:List (Str×V))
  /-- the dict of the instance at x -/
  | own (x:Addr)
  /-- the dict of an exception -/
  | xd (fs:List (Str×V))
  /-- a bound method,f of x -/
  | met (f x:Addr)
  /-- a range object lo,lo+1, .. below hi -/
  | rng (lo hi:Int)
  /-- a thing that is known to the object (the script;a dict while a pD walks it):read,never written while it is so -/
  | frz (o:Obj) (u:HO)
  /-- a code object's table -/
  | tbl (q:Str)
  /-- any other thing,by what is true of its one object (a def of one's own:SetO a S n:=HO.ext fun h=> ..) -/
  | ext (φ:Heap→Prop)
abbrev Hp:=Addr→Option HO
def upd (H:Hp) (a:Addr) (o:HO):Hp:=fun b=>if b=a then some o else H b
theorem aA {H:Hp} {a:Addr} {o:HO}:upd H a o a=some o:=by unfold upd;rw [if_pos rfl]
theorem ai {H:Hp} {a b:Addr} {o:HO} (h:b≠a):upd H a o b=H b:=by unfold upd;rw [if_neg h]
theorem qo {H:Hp} {a b:Addr} {o u:HO} (h:H a=some o) (h':H b=some u) (d:o≠u):a≠b:=by
  intro e;subst e;rw [h] at h';exact d (Option.some.inj h')
theorem eJ {H:Hp} {a b:Addr} {o:HO} (h:H a=some o) (h':H b=none):a≠b:=by
  intro e;subst e;rw [h] at h';cases h'
section
variable (P:Program) (w:World)
def ObjOk (H:Hp) (h:Heap) (a:Addr):HO→Prop
  | .lst xs=>xs.length≤sizeLine∧∃(its:List Value) (n:Nat),Vals xs its∧h.get? a=some {cls:= .type "list",data:= .seq its.toArray n}
  | .tup xs=>xs.length≤sizeLine∧∃its:List Value,Vals xs its∧IsTup h a its.toArray
  | .dK kvs=>kvs.length≤sizeLine∧(a == sysModules)=false∧∃vs,KV kvs vs∧h.DictOf (cK P w) a vs
  | .dT kvs=>kvs.length≤sizeLine∧(a == sysModules)=false∧∃xs:List (List bN×Addr×Value),
      Paired (fun (p:List bN×V) (q:List bN×Addr×Value)=>p.1=q.1∧H q.2.1=some (.tup (p.1.map kV))∧RelV p.2 q.2.2) kvs xs∧
      ∃o es ep,h.get? a=some o∧o.ExactDict∧o.data= .dict es ep∧es.toList=xs.map (entryOfKey (tupleKind (cK P w)))∧(xs.map (·.1)).Nodup
  | .set S n=>h.SetOf (intKind P w) a S n
  | .ins C dx fs=>H dx=some (.own a)∧fs.length≤1000∧dx≠a∧h.get? a=some (PySem.W.instObj C dx)∧
      ∃mA,h.Ns1 dx mA∧(∀f,RelO (fs.lookup f) (mA f))∧PySem.Within mA (fs.map (·.1))
  | .own _=>∃o,h.get? a=some o
  | .xd fs=>∃mA,h.Ns1 a mA∧∀f,RelO (fs.lookup f) (mA f)
  | .rng lo hi=>∃t u v,h.get? a=some {cls:= .type "range",data:= .fields #[.int lo t, .int hi u, .int 1 v]}
  | .frz o u=>h.get? a=some o∧ObjOk H h a u
  | .tbl q=>∃ps:Array Value,h.get? a=some (PySem.W.tabObj ps)∧TriplesOk ps.toList∧∀pos cv,codeAmong pos ps.toList=some cv→∃c,cv=Value.ref c∧H c=some (.own a)∧h.CodeRec cv q
  | .met f x=>h.get? a=some (PySem.W.methodObj (.ref f) (.ref x))
  | .ext φ=>φ h∧(∃o,h.get? a=some o)∧∀h1 h2:Heap,φ h1→(∀o,h1.get? a=some o→h2.get? a=some o)→φ h2
def HOk (H:Hp) (h:Heap):Prop:=∀a o,H a=some o→ObjOk P w H h a o
end
section
variable {P:Program} {w:World} {H H':Hp} {h h':Heap} {a:Addr} {o:HO}
theorem ObjOk.lt (x:ObjOk P w H h a o):a < h.objs.size:=by
  cases o with
  | lst xs=>obtain ⟨_,_,_,_,e⟩:=x;exact Heap.lt_size e
  | tup xs=>obtain ⟨_,_,_,p⟩:=x;exact p.lt
  | dK kvs=>obtain ⟨_,_,_,_,o,_,_,e,_⟩:=x;exact Heap.lt_size e
  | dT kvs=>obtain ⟨_,_,_,_,o,_,_,e,_⟩:=x;exact Heap.lt_size e
  | set S n=>obtain ⟨o,_,_,_,e,_⟩:=x;exact Heap.lt_size e
  | ins C dx fs=>obtain ⟨_,_,_,e,_⟩:=x;exact Heap.lt_size e
  | own y=>obtain ⟨_,e⟩:=x;exact Heap.lt_size e
  | xd fs=>obtain ⟨_,⟨_,_,_,e,_⟩,_⟩:=x;exact Heap.lt_size e
  | rng lo hi=>obtain ⟨_,_,_,e⟩:=x;exact Heap.lt_size e
  | frz ob u=>obtain ⟨e,_⟩:=x;exact Heap.lt_size e
  | tbl q=>obtain ⟨_,e,_⟩:=x;exact Heap.lt_size e
  | met f y=>exact Heap.lt_size (show h.get? a=some _ from x)
  | ext φ=>obtain ⟨_,⟨_,e⟩,_⟩:=x;exact Heap.lt_size e
theorem Paired.mapP {α β:Type} {F G:α→β→Prop} {l₁:List α} {l₂:List β} (h:Paired F l₁ l₂) (f:∀a b,F a b→G a b):Paired G l₁ l₂:=by
  induction h with
  | nil=>exact .nil
  | cons r _ t=>exact .cons (f _ _ r) t
theorem ObjOk.stay (x:ObjOk P w H h a o) (k:∀b u,(b=a∨H b=some (.own a))→h.get? b=some u→h'.get? b=some u)
    (ho:∀b,H b=some (.own a)→H' b=some (.own a)) (ht:∀b xs,H b=some (.tup xs)→H' b=some (.tup xs)):ObjOk P w H' h' a o:=by
  induction o with
  | lst xs=>obtain ⟨z,its,n,r,e⟩:=x;exact ⟨z,its,n,r,k _ _ (.inl rfl) e⟩
  | tup xs=>obtain ⟨z,its,r,ob,e,c⟩:=x;exact ⟨z,its,r,ob,k _ _ (.inl rfl) e,c⟩
  | dK kvs=>obtain ⟨z,y,vs,r,ob,es,ep,e,c⟩:=x;exact ⟨z,y,vs,r,ob,es,ep,k _ _ (.inl rfl) e,c⟩
  | dT kvs=>
    obtain ⟨z,y,xs,r,ob,es,ep,e,c⟩:=x
    exact ⟨z,y,xs,Paired.mapP r fun p q z=>⟨z.1,ht _ _ z.2.1,z.2.2⟩,ob,es,ep,k _ _ (.inl rfl) e,c⟩
  | set S n=>obtain ⟨ob,es,ep,t,e,c⟩:=x;exact ⟨ob,es,ep,t,k _ _ (.inl rfl) e,c⟩
  | ins C dx fs=>
    obtain ⟨d,z,ne,e,mA,⟨od,es,ep,e2,c⟩,r⟩:=x
    exact ⟨ho _ d,z,ne,k _ _ (.inl rfl) e,mA,⟨od,es,ep,k _ _ (.inr d) e2,c⟩,r⟩
  | own y=>obtain ⟨ob,e⟩:=x;exact ⟨ob,k _ _ (.inl rfl) e⟩
  | xd fs=>obtain ⟨mA,⟨od,es,ep,e,c⟩,r⟩:=x;exact ⟨mA,⟨od,es,ep,k _ _ (.inl rfl) e,c⟩,r⟩
  | rng lo hi=>obtain ⟨t,u,v,e⟩:=x;exact ⟨t,u,v,k _ _ (.inl rfl) e⟩
  | frz ob u ih=>obtain ⟨e,q⟩:=x;exact ⟨k _ _ (.inl rfl) e,ih q⟩
  | tbl q=>
    obtain ⟨ps,e,t,r⟩:=x
    refine ⟨ps,k _ _ (.inl rfl) e,t,fun pos cv z=>?_⟩
    obtain ⟨c,ec,ho',c2,oc,vs,tq,hc,hoc,hd⟩:=r pos cv z
    subst ec
    cases hc
    exact ⟨c,rfl,ho _ ho',c,oc,vs,tq,rfl,k _ _ (.inr ho') hoc,hd⟩
  | met f y=>
    have e:h.get? a=some (PySem.W.methodObj (.ref f) (.ref y)):=x
    show h'.get? a=some (PySem.W.methodObj (.ref f) (.ref y))
    exact k a _ (.inl rfl) e
  | ext φ=>obtain ⟨p,⟨o,e⟩,st⟩:=x;exact ⟨st _ _ p fun o q=>k _ _ (.inl rfl) q,⟨o,k _ _ (.inl rfl) e⟩,st⟩
theorem HOk.lt (x:HOk P w H h) (e:H a=some o):a < h.objs.size:=(x a o e).lt
theorem HOk.fresh (x:HOk P w H h) (e:h.objs.size≤a):H a=none:=by
  cases q:H a with
  | none=>rfl
  | some u=>exact absurd (Nat.lt_of_lt_of_le (x.lt q) e) (Nat.lt_irrefl _)
theorem HOk.kept (x:HOk P w H h) (k:∀b u,h.get? b=some u→h'.get? b=some u):HOk P w H h':=fun a o e=>
  (x a o e).stay (fun b u _ q=>k b u q) (fun _ q=>q) fun _ _ q=>q
theorem HOk.laid (x:HOk P w H h) (k:∀b u,h.get? b=some u→h'.get? b=some u) (hp:h.objs.size≤a) (new:ObjOk P w (upd H a o) h' a o):HOk P w (upd H a o) h':=fun b u e=>by
  have hn:=x.fresh hp
  by_cases hb:b=a
  · subst hb;rw [aA] at e;cases e;exact new
  · rw [ai hb] at e
    exact (x b u e).stay (fun c v _ q=>k c v q) (fun c q=>by rw [ai (eJ q hn)];exact q) fun c xs q=>by rw [ai (eJ q hn)];exact q
end
def Rd (H:Hp) (a:Addr) (u:HO):Prop:=H a=some u∨∃o,H a=some (.frz o u)
theorem Rd.of {H:Hp} {a:Addr} {u:HO} (h:H a=some u):Rd H a u:= .inl h
theorem Rd.ok {P:Program} {w:World} {H:Hp} {h:Heap} {a:Addr} {u:HO} (r:Rd H a u) (x:HOk P w H h):ObjOk P w H h a u:=by
  rcases r with r | ⟨o,r⟩
  · exact x a u r
  · obtain ⟨_,q⟩:=x a _ r
    exact q
def v0:Option HO→Prop
  | some (.lst _)=>True
  | some (.dK _)=>True
  | some (.dT _)=>True
  | some (.set _ _)=>True
  | some (.ins _ _ _)=>True
  | some (.ext _)=>True
  | _=>False
section
variable {P:Program} {w:World} {H:Hp} {h h':Heap} {x e:Addr} {o':HO}
theorem HOk.write (ok:HOk P w H h) (mu:v0 (H x)) (he:e=x∨H e=some (.own x)) (k:∀b u,b≠e→h.get? b=some u→h'.get? b=some u) (heo:∃u,h'.get? e=some u)
    (new:ObjOk P w (upd H x o') h' x o'):HOk P w (upd H x o') h':=fun b u q=>by
  have nown:∀c y,H c=some (.own y)→c≠x:=fun c y r z=>by subst z;rw [r] at mu;exact mu
  have ntup:∀c xs,H c=some (.tup xs)→c≠x:=fun c xs r z=>by subst z;rw [r] at mu;exact mu
  by_cases hb:b=x
  · subst hb;rw [aA] at q;cases q;exact new
  · rw [ai hb] at q
    by_cases hbe:b=e
    · have q':H b=some (.own x):=by
        rcases he with z | z
        · exact absurd (hbe.trans z) hb
        · rw [hbe];exact z
      rw [q] at q';cases q'
      obtain ⟨v,hv⟩:=heo
      exact ⟨v,by rw [hbe];exact hv⟩
    · refine (ok b u q).stay (fun c v hc r=>k c v ?_ r) (fun c r=>by rw [ai (nown c b r)];exact r) fun c xs r=>by rw [ai (ntup c xs r)];exact r
      rcases hc with rfl | hc
      · exact hbe
      · rintro rfl
        rcases he with z | z
        · exact nown c b hc z
        · rw [hc] at z;cases z;exact hb rfl
end
structure Un (fs ex:List Addr) (H H':Hp) (h h':Heap):Prop where
  keep:∀b o,h.get? b=some o→H b=none→b∉fs→b∉ex→h'.get? b=some o
  slot:∀b o,h.get? b=some o→H b=none→b∈fs→b∉ex→∃sl,h'.get? b=some {o with slots:=sl}
  free:∀b o,h.get? b=some o→H b=none→b∉ex→H' b=none
  there:∀b o,h.get? b=some o→b∉ex→∃o',h'.get? b=some o'
  tups:∀b xs,H b=some (.tup xs)→H' b=some (.tup xs)
  frzs:∀b o u,H b=some (.frz o u)→H' b=some (.frz o u)
  tbls:∀b ps,H b=some (.tbl ps)→H' b=some (.tbl ps)
section
variable {fs fs' ex ex':List Addr} {H H1 H2:Hp} {h h1 h2 h':Heap} {a x e:Addr} {o:HO}
theorem Un.any (u:Un fs ex H H1 h h1) {b:Addr} {ob:Obj} (q:h.get? b=some ob) (n:H b=none) (hx:b∉ex):∃sl,h1.get? b=some {ob with slots:=sl}:=by
  by_cases hb:b∈fs
  · exact u.slot b ob q n hb hx
  · exact ⟨ob.slots,u.keep b ob q n hb hx⟩
theorem Un.trans (a:Un fs ex H H1 h h1) (b:Un fs ex H1 H2 h1 h2):Un fs ex H H2 h h2 where
  keep:=fun c ob q n hc hx=>b.keep c ob (a.keep c ob q n hc hx) (a.free c ob q n hx) hc hx
  slot:=fun c ob q n hc hx=>by
    obtain ⟨sl,e1⟩:=a.slot c ob q n hc hx
    obtain ⟨sl',e2⟩:=b.slot c _ e1 (a.free c ob q n hx) hc hx
    exact ⟨sl',e2⟩
  free:=fun c ob q n hx=>by
    obtain ⟨o',e1⟩:=a.there c ob q hx
    exact b.free c o' e1 (a.free c ob q n hx) hx
  there:=fun c ob q hx=>by
    obtain ⟨o',e1⟩:=a.there c ob q hx
    exact b.there c o' e1 hx
  tups:=fun c xs q=>b.tups c xs (a.tups c xs q)
  frzs:=fun c ob xs q=>b.frzs c ob xs (a.frzs c ob xs q)
  tbls:=fun c ps q=>b.tbls c ps (a.tbls c ps q)
theorem Un.kept (k:∀b u,h.get? b=some u→h'.get? b=some u):Un fs ex H H h h':=
  ⟨fun b ob q _ _ _=>k b ob q,fun b ob q _ _ _=>⟨ob.slots,k b ob q⟩,fun _ _ _ n _=>n,fun b ob q _=>⟨ob,k b ob q⟩,fun _ _ q=>q,fun _ _ _ q=>q,fun _ _ q=>q⟩
theorem Un.refl:Un fs ex H H h h:=Un.kept fun _ _ q=>q
theorem Un.laid (k:∀b u,h.get? b=some u→h'.get? b=some u) (hp:h.objs.size≤a) (hn:H a=none):Un fs ex H (upd H a o) h h' where
  keep:=fun b u q _ _ _=>k b u q
  slot:=fun b u q _ _ _=>⟨u.slots,k b u q⟩
  free:=fun b u q n _=>by rw [ai (Nat.ne_of_lt (Nat.lt_of_lt_of_le (Heap.lt_size q) hp))];exact n
  there:=fun b u q _=>⟨u,k b u q⟩
  tups:=fun b xs q=>by rw [ai (eJ q hn)];exact q
  frzs:=fun b u xs q=>by rw [ai (eJ q hn)];exact q
  tbls:=fun b ps q=>by rw [ai (eJ q hn)];exact q
theorem Un.write (mu:v0 (H x)) (he:e=x∨H e=some (.own x)) (k:∀b u,b≠e→h.get? b=some u→h'.get? b=some u) (heo:∃u,h'.get? e=some u):Un fs ex H (upd H x o) h h':=by
  have hx:∀b,H b=none→b≠x:=fun b n z=>by subst z;rw [n] at mu;exact mu
  have hb:∀b,H b=none→b≠e:=fun b n z=>by
    subst z
    rcases he with r | r
    · exact hx b n r
    · rw [n] at r;cases r
  have hm:∀b u,H b=some u→¬v0 (some u)→b≠x:=fun b u q nm z=>by subst z;rw [q] at mu;exact nm mu
  refine ⟨fun b u q n _ _=>k b u (hb b n) q,fun b u q n _ _=>⟨u.slots,k b u (hb b n) q⟩,fun b u q n _=>by rw [ai (hx b n)];exact n,fun b u q _=>?_,
    fun b xs q=>by rw [ai (hm b _ q fun z=>z)];exact q,fun b u xs q=>by rw [ai (hm b _ q fun z=>z)];exact q,fun b ps q=>by rw [ai (hm b _ q fun z=>z)];exact q⟩
  by_cases hbe:b=e
  · subst hbe;exact heo
  · exact ⟨u,k b u hbe q⟩
theorem Un.mono (u:Un fs ex H H1 h h1) (hs:∀b∈fs,b∈fs') (hx:∀b∈ex,b∈ex'):Un fs' ex' H H1 h h1:=
  ⟨fun b ob q n hb he=>u.keep b ob q n (fun z=>hb (hs b z)) fun z=>he (hx b z),fun _ _ q n _ he=>u.any q n fun z=>he (hx _ z),fun b ob q n he=>u.free b ob q n fun z=>he (hx b z),fun b ob q he=>u.there b ob q fun z=>he (hx b z),u.tups,u.frzs,u.tbls⟩
end
def wX (h:Heap) (H:Hp):List Addr:=(List.range h.objs.size).filter fun a=>(H a).isSome
def l8 (h:Heap) (H:Hp):Heap:=PySem.W.hideAll h (wX h H)
theorem pE (h:Heap) (H:Hp):(l8 h H).objs.size=h.objs.size:=PySem.W.hideAll_size _ _
theorem jG {h:Heap} {H:Hp} {b:Addr} {o:Obj} (e:h.get? b=some o) (n:H b=none):(l8 h H).get? b=some o:=
  PySem.W.hideAll_get _ e fun hm=>by
    have q:(H b).isSome=true:=(List.mem_filter.mp hm).2
    rw [n] at q;simp at q
theorem sk {h:Heap} {H:Hp} {b:Addr} {o:Obj} (e:(l8 h H).get? b=some o):h.get? b=some o∧H b=none:=by
  have e':h.get? b=some o:=PySem.W.of_hideAll (wX h H) e
  refine ⟨e',?_⟩
  cases q:H b with
  | none=>rfl
  | some x=>
    have hm:b∈wX h H:=List.mem_filter.mpr ⟨List.mem_range.mpr (Heap.lt_size e'),by simp [q]⟩
    have z:(l8 h H).get? b=none:=PySem.W.hideAll_none (wX h H) hm
    rw [z] at e;cases e
def sq (g h:Heap) (L:Addr):List (Addr×Obj):=(List.range h.objs.size).filterMap fun a=>if a=L∨(g.get? a).isSome=true then none else (h.get? a).map fun o=>(a,o)
def ce (g h:Heap) (L d:Addr):List (Addr×Obj):=(sq g h L).filter fun p=>decide (p.1≠d)
end L2
namespace L2
open PySem PySem.Spec PyProof.Rows
def v4 (K:PySem.W.Frag):Option Addr:=match PySem.W.nsIn K mainGlobals "in_told_order" with
  | some (some (.ref f))=>match K.lookup f with
    | some ⟨_,_, .func fd,_⟩=>match fd.code with
      | .ref c=>match K.lookup c with
        | some ⟨_,_, .fields vs,_⟩=>match (vs[11]? :Option Value) with
          | some (.ref P)=>some P
          | _=>none
        | _=>none
      | _=>none
    | _=>none
  | _=>none
def jH (K:PySem.W.Frag) (b:Addr):Option Str:=if v4 K=some b then some (Str.ofString "in_told_order.<locals>.<lambda>") else none
structure Mod (K:PySem.W.Frag) (mg:Str→Option Value) (base:Heap):Prop where
  kin:K.In base
  glob:base.Ns mainGlobals mg
  blt:∃mb,base.Ns builtinsNs mb∧∀x:Str,x≠"__name__"→mb x=bootBuiltins x
  nolimit:base.NoLimit
  bmain:∃bm ob,mg "__builtins__"=some (.ref bm)∧bm≠builtinsNs∧base.get? bm=some ob∧ob.cls= .type "module"∧ob.dict=some builtinsNs∧ob.data= .plain
structure Cx where
  prog:Program
  w:World
  K:PySem.W.Frag
  mg:Str→Option Value
  base:Heap
  A:Around
  N:List Str
  s₀:Shared
  H₀:Hp
  env:Env
  outer:List Env
  stack:List Env
  ex:List Addr
  fn:Str→Bool
  calm:Bool
  pn:List (Addr×Obj)
  xe:Value→Shared→Prop
def qj (l:List Env):List Addr:=l.filterMap (·.frame)
abbrev Cx.fs (X:Cx):List Addr:=qj X.outer
def qk (sc:Scope) (x:Str):Prop:=sc.names.lookup x=some .local∨sc.names.lookup x=some .cell∨sc.names.lookup x=some .free
def sr (sc:Scope) (x:Str):Prop:=sc.names.lookup x=some .local∨sc.names.lookup x=some .cell
def xm (env:Env) (h:Heap) (m:Str→Option Value) (x:Str) (u:Value):Prop:=
  (env.kindOf x=some .local∧m x=some u)∨((env.kindOf x=some .cell∨env.kindOf x=some .free)∧∃c,env.cells.lookup x=some c∧h.IsCell c (some u))
structure Cx.Ok (X:Cx):Prop where
  mod:Mod X.K X.mg X.base
  kind:X.env.scope.kind= .function
  glob:X.env.globals=mainGlobals
  blt:X.env.builtins=builtinsNs
  above:X.s₀.heap.objs.size≤X.env.locals
  inj:∀x y c,X.env.cells.lookup x=some c→X.env.cells.lookup y=some c→x=y
  has:∀x,(X.env.kindOf x=some .cell∨X.env.kindOf x=some .free)→∃c,X.env.cells.lookup x=some c
  cab:∀x c,X.fn x=true→X.env.cells.lookup x=some c→X.s₀.heap.objs.size≤c
  hd:X.calm=true→X.A.handled=none
  frames:X.A.frames=some X.stack
  stk:X.stack=X.outer∨(X.stack=X.env::X.outer∧X.env.frame=some X.env.locals)
  exf:∀b∈X.ex,b≠X.env.locals∧∀x c,X.env.cells.lookup x=some c→c≠b
  bs:∀b o,X.base.get? b=some o→X.s₀.heap.get? b=some o∧X.H₀ b=none
  bsz:X.base.objs.size≤X.s₀.heap.objs.size
  noex:∀b o,X.base.get? b=some o→b∉X.ex
  exfs:∀b∈X.ex,b∉X.fs
  funs:X.s₀.heap.FunFrames X.base X.outer
  frf:∀b∈X.fs,X.H₀ b=none
  tab:∀b q,jH X.K b=some q→X.H₀ b=some (.tbl q)
structure Inv (X:Cx) (pins:List (Addr×Obj)) (σ:List (Option V)) (H:Hp) (s:Shared):Prop where
  ok:X.Ok
  os:s.os=X.s₀.os
  bare:AllBare s.gens
  base:Un X.fs X.ex X.H₀ H X.s₀.heap s.heap
  loc:∃m,s.heap.Ns X.env.locals m∧∀(i:Nat) (x:Str) (v:V),X.N[i]? =some x→σ[i]? =some (some v)→qk X.env.scope x→∃u,RelV v u∧xm X.env s.heap m x u
  cell:∀x c,X.env.cells.lookup x=some c→∃v,s.heap.IsCell c v
  free:H X.env.locals=none
  freeC:∀x c,X.env.cells.lookup x=some c→H c=none
  pin:∀p∈X.pn++pins,s.heap.get? p.1=some p.2∧H p.1=none∧p.1≠X.env.locals∧p.1∉X.fs∧∀v,p.2.data≠ .cell v
  hok:HOk X.prog X.w H s.heap
  len:σ.length=X.N.length
section
variable {X:Cx} {pins:List (Addr×Obj)} {σ:List (Option V)} {H H':Hp} {s:Shared} {h':Heap}
theorem Cx.Ok.nofr (ok:X.Ok) {b:Addr} {o:Obj} (e:X.base.get? b=some o):b∉X.fs:=fun hb=>by
  have:=(ok.funs.mem hb).1
  rw [e] at this;cases this
theorem Inv.bs (I:Inv X pins σ H s):∀b o,X.base.get? b=some o→s.heap.get? b=some o∧H b=none:=fun b o e=>
  ⟨I.base.keep b o (I.ok.bs b o e).1 (I.ok.bs b o e).2 (I.ok.nofr e) (I.ok.noex b o e),I.base.free b o (I.ok.bs b o e).1 (I.ok.bs b o e).2 (I.ok.noex b o e)⟩
theorem Inv.bk (I:Inv X pins σ H s):∀b o,X.base.get? b=some o→s.heap.get? b=some o:=fun b o e=>(I.bs b o e).1
theorem Inv.mod (I:Inv X pins σ H s):Mod X.K X.mg X.base:=I.ok.mod
theorem Inv.tab (I:Inv X pins σ H s):∀b q,jH X.K b=some q→H b=some (.tbl q):=fun b q e=>I.base.tbls b q (I.ok.tab b q e)
theorem Inv.kIn (I:Inv X pins σ H s):X.K.In s.heap:=I.ok.mod.kin.keeps I.bk
theorem Inv.nolimit (I:Inv X pins σ H s):s.heap.NoLimit:=I.ok.mod.nolimit.keeps I.bk
theorem Inv.fr (I:Inv X pins σ H s):∃m,Fr X.base X.env.locals s.heap m:=
  let ⟨m,hn,_⟩:=I.loc
  ⟨m,hn,I.bk,Nat.le_trans I.ok.bsz I.ok.above⟩
theorem Inv.lt (I:Inv X pins σ H s):X.env.locals < s.heap.objs.size:=let ⟨_,hn,_⟩:=I.loc;hn.lt
theorem Inv.sz (I:Inv X pins σ H s):X.s₀.heap.objs.size≤s.heap.objs.size:=Nat.le_trans I.ok.above (Nat.le_of_lt I.lt)
theorem Inv.nofs (I:Inv X pins σ H s) {a:Addr} (h:s.heap.objs.size≤a):a∉X.fs:=fun hb=>by
  obtain ⟨_,o,ho,_⟩:=I.ok.funs.mem hb
  exact absurd (Nat.lt_of_lt_of_le (Heap.lt_size ho) (Nat.le_trans I.sz h)) (Nat.lt_irrefl _)
theorem Inv.cne (I:Inv X pins σ H s):∀x c,X.env.cells.lookup x=some c→c≠X.env.locals:=fun x c e z=>by
  obtain ⟨v,o,ho,hd⟩:=I.cell x c e
  obtain ⟨m,⟨o',es,ep,ho',hd',_⟩,_⟩:=I.loc
  rw [z,ho'] at ho;cases ho;rw [hd'] at hd;cases hd
theorem Inv.funs (I:Inv X pins σ H s):s.heap.FunFrames X.base X.outer:=by
  have all:∀(l:List Env),(∀b∈qj l,b∈X.fs)→X.s₀.heap.FunFrames X.base l→s.heap.FunFrames X.base l:=by
    intro l
    induction l with
    | nil=>intro _ _;trivial
    | cons env r ih=>
      intro hs hl
      obtain ⟨hk,⟨L,o,hf,hn,ho,hd⟩,hr⟩:=hl
      have hL:L∈X.fs:=hs L (by unfold qj;rw [List.filterMap_cons,hf];exact List.mem_cons_self)
      obtain ⟨sl,e⟩:=I.base.slot L o ho (I.ok.frf L hL) hL fun z=>I.ok.exfs L z hL
      exact ⟨hk,⟨L,_,hf,hn,e,hd⟩,ih (fun b hb=>hs b (by unfold qj;rw [List.filterMap_cons,hf];exact List.mem_cons_of_mem _ hb)) hr⟩
  exact all X.outer (fun _ hb=>hb) I.ok.funs
theorem Inv.stack (I:Inv X pins σ H s):s.heap.FunFrames X.base X.stack:=by
  rcases I.ok.stk with e | ⟨e,hf⟩
  · rw [e];exact I.funs
  · rw [e]
    obtain ⟨m,hn,_⟩:=I.loc
    refine .cons (by rw [I.ok.kind];decide) hf hn ?_ I.funs
    exact Heap.get?_none_of_le (Nat.le_trans I.ok.bsz I.ok.above)
theorem Inv.stkSub (I:Inv X pins σ H s):∀b∈qj X.stack,b∈X.env.locals::X.fs:=fun b hb=>by
  rcases I.ok.stk with e | ⟨e,hf⟩
  · rw [e] at hb;exact List.mem_cons_of_mem _ hb
  · rw [e] at hb
    unfold qj at hb
    rw [List.filterMap_cons,hf] at hb
    exact hb
theorem Inv.stkFree (I:Inv X pins σ H s):∀b∈qj X.stack,H b=none:=fun b hb=>by
  rcases List.mem_cons.mp (I.stkSub b hb) with e | hb
  · rw [e];exact I.free
  · obtain ⟨_,o,ho,_⟩:=I.ok.funs.mem hb
    exact I.base.free b o ho (I.ok.frf b hb) fun z=>I.ok.exfs b z hb
theorem Inv.step {g':Array GenState} {t':Nat} {d':Drawn} {ch:List Addr} (I:Inv X pins σ H s)
    (hch:∀b∈ch,(b∈X.ex∨X.s₀.heap.objs.size≤b)∧b≠X.env.locals∧(∀x c,X.env.cells.lookup x=some c→c≠b)∧∀p∈X.pn++pins,p.1≠b)
    (keep:∀b o,b≠X.env.locals→b∉X.fs→b∉ch→s.heap.get? b=some o→H b=none→h'.get? b=some o)
    (slot:∀b o,b≠X.env.locals→b∈X.fs→b∉ch→s.heap.get? b=some o→H b=none→∃sl,h'.get? b=some {o with slots:=sl}) (free:∀b o,b∉ch→s.heap.get? b=some o→H b=none→H' b=none)
    (there:∀b o,b∉ch→s.heap.get? b=some o→∃o',h'.get? b=some o')
    (tups:∀b xs,H b=some (.tup xs)→H' b=some (.tup xs)) (frzs:∀b o u,H b=some (.frz o u)→H' b=some (.frz o u)) (tbls:∀b ps,H b=some (.tbl ps)→H' b=some (.tbl ps))
    (ns:∀m,s.heap.Ns X.env.locals m→h'.Ns X.env.locals m) (hok:HOk X.prog X.w H' h') (hg:AllBare g'):
    Inv X pins σ H' {s with heap:=h',gens:=g',drawn:=d',toks:=t'}:=by
  have neL:∀b o,X.s₀.heap.get? b=some o→b≠X.env.locals:=fun b o e=>Nat.ne_of_lt (Nat.lt_of_lt_of_le (Heap.lt_size e) I.ok.above)
  have neC:∀b o,X.s₀.heap.get? b=some o→b∉X.ex→b∉ch:=fun b o e hx hb=>by
    rcases (hch b hb).1 with z | z
    · exact hx z
    · exact absurd (Nat.lt_of_lt_of_le (Heap.lt_size e) z) (Nat.lt_irrefl _)
  have cellK:∀x c,X.env.cells.lookup x=some c→∀v,s.heap.IsCell c v→h'.IsCell c v:=fun x c e v ⟨o,ho,hd⟩=>by
    have nch:c∉ch:=fun z=>(hch c z).2.2.1 x c e rfl
    by_cases hc:c∈X.fs
    · obtain ⟨sl,q⟩:=slot c o (I.cne x c e) hc nch ho (I.freeC x c e)
      exact ⟨_,q,hd⟩
    · exact ⟨o,keep c o (I.cne x c e) hc nch ho (I.freeC x c e),hd⟩
  refine ⟨I.ok,I.os,hg,⟨fun b o e n hb hx=>?_,fun b o e n hb hx=>?_,fun b o e n hx=>?_,fun b o e hx=>?_,fun b xs e=>tups b xs (I.base.tups b xs e),fun b o xs e=>frzs b o xs (I.base.frzs b o xs e),fun b ps e=>?_⟩,?_,fun x c e=>?_,?_,fun x c e=>?_,fun p hp=>?_,hok,I.len⟩
  · exact keep b o (neL b o e) hb (neC b o e hx) (I.base.keep b o e n hb hx) (I.base.free b o e n hx)
  · obtain ⟨sl,e1⟩:=I.base.slot b o e n hb hx
    obtain ⟨sl',e2⟩:=slot b _ (neL b o e) hb (neC b o e hx) e1 (I.base.free b o e n hx)
    exact ⟨sl',e2⟩
  · obtain ⟨o',e1⟩:=I.base.there b o e hx
    exact free b o' (neC b o e hx) e1 (I.base.free b o e n hx)
  · obtain ⟨o',e1⟩:=I.base.there b o e hx
    exact there b o' (neC b o e hx) e1
  · exact tbls b _ (I.base.tbls b ps e)
  · obtain ⟨m,hn,hl⟩:=I.loc
    refine ⟨m,ns m hn,fun i x v e1 e2 e3=>?_⟩
    obtain ⟨u,r,l⟩:=hl i x v e1 e2 e3
    refine ⟨u,r,?_⟩
    rcases l with l | ⟨k,c,e,z⟩
    · exact .inl l
    · exact .inr ⟨k,c,e,cellK x c e _ z⟩
  · obtain ⟨v,z⟩:=I.cell x c e
    exact ⟨v,cellK x c e v z⟩
  · obtain ⟨m,⟨o,_,_,ho,_⟩,_⟩:=I.loc
    exact free _ o (fun z=>(hch _ z).2.1 rfl) ho I.free
  · obtain ⟨v,o,ho,hd⟩:=I.cell x c e
    exact free c o (fun z=>(hch c z).2.2.1 x c e rfl) ho (I.freeC x c e)
  · obtain ⟨e,n,ne,nf,d⟩:=I.pin p hp
    have nch:p.1∉ch:=fun z=>(hch p.1 z).2.2.2 p hp rfl
    exact ⟨keep p.1 p.2 ne nf nch e n,free p.1 p.2 nch e n,ne,nf,d⟩
theorem Inv.un {t':Nat} (I:Inv X pins σ H s) (u:Un X.fs [] H H' s.heap h') (hok:HOk X.prog X.w H' h'):Inv X pins σ H' {s with heap:=h',toks:=t'}:=by
  obtain ⟨m,⟨o,es,ep,ho,r⟩,_⟩:=id I.loc
  obtain ⟨sl,hL⟩:=u.any ho I.free (by simp)
  exact I.step (g':=s.gens) (d':=s.drawn) (ch:=[]) (fun _ z=>nomatch z) (fun b o _ hb _ e n=>u.keep b o e n hb (by simp)) (fun b o _ hb _ e n=>u.slot b o e n hb (by simp)) (fun b o _ e n=>u.free b o e n (by simp)) (fun b o _ e=>u.there b o e (by simp)) u.tups u.frzs u.tbls (fun m' hm=>by
    obtain ⟨o',es',ep',ho',r'⟩:=hm
    rw [ho] at ho';cases ho'
    exact ⟨_,es',ep',hL,r'⟩) hok I.bare
theorem Inv.call {g':Array GenState} {t':Nat} {d':Drawn} {ch:List Addr} (I:Inv X pins σ H s) (u:Un (qj X.stack) ch H H' s.heap h') (hok:HOk X.prog X.w H' h') (hg:AllBare g')
    (hch:∀b∈ch,(b∈X.ex∨X.s₀.heap.objs.size≤b)∧b≠X.env.locals∧(∀x c,X.env.cells.lookup x=some c→c≠b)∧∀p∈X.pn++pins,p.1≠b):
    Inv X pins σ H' {s with heap:=h',gens:=g',drawn:=d',toks:=t'}:=by
  obtain ⟨m,⟨o,es,ep,ho,r⟩,_⟩:=id I.loc
  obtain ⟨sl,hL⟩:=u.any ho I.free fun z=>(hch _ z).2.1 rfl
  exact I.step (ch:=ch) hch (fun b o hL hb hc e n=>u.keep b o e n (fun z=>(List.mem_cons.mp (I.stkSub b z)).elim hL hb) hc) (fun b o _ _ hc e n=>u.any e n hc) (fun b o hc e n=>u.free b o e n hc) (fun b o hc e=>u.there b o e hc) u.tups u.frzs u.tbls (fun m' hm=>by
    obtain ⟨o',es',ep',ho',r'⟩:=hm
    rw [ho] at ho';cases ho'
    exact ⟨_,es',ep',hL,r'⟩) hok hg
theorem Inv.turned {t':Nat} {it:Addr} (I:Inv X pins σ H s) (k:∀b o,b≠it→s.heap.get? b=some o→h'.get? b=some o) (hn:H it=none) (hL:it≠X.env.locals)
    (h1:it∈X.ex∨X.s₀.heap.objs.size≤it) (h2:∀x c,X.env.cells.lookup x=some c→c≠it) (h3:∀p∈X.pn++pins,p.1≠it):Inv X pins σ H {s with heap:=h',toks:=t'}:=by
  have nit:∀b u,H b=some u→b≠it:=fun b u e z=>by rw [z,hn] at e;cases e
  refine I.step (g':=s.gens) (d':=s.drawn) (ch:=[it]) (fun b hb=>?_) (fun b o _ _ hc e _=>k b o (fun z=>hc (by simp [z])) e) (fun b o _ _ hc e _=>⟨o.slots,k b o (fun z=>hc (by simp [z])) e⟩) (fun _ _ _ _ n=>n)
    (fun b o hc e=>⟨o,k b o (fun z=>hc (by simp [z])) e⟩) (fun _ _ e=>e) (fun _ _ _ e=>e) (fun _ _ e=>e) (fun m hm=>?_) (fun b u e=>?_) I.bare
  · have e:b=it:=by simpa using hb
    subst e
    exact ⟨h1,hL,h2,h3⟩
  · obtain ⟨o,es,ep,ho,r⟩:=hm
    exact ⟨o,es,ep,k _ o (Ne.symm hL) ho,r⟩
  · refine (I.hok b u e).stay (fun c v hc q=>k c v ?_ q) (fun _ q=>q) fun _ _ q=>q
    rcases hc with z | z
    · rw [z];exact nit b u e
    · exact nit c _ z
theorem Inv.tok (I:Inv X pins σ H s) (t:Nat):Inv X pins σ H {s with toks:=t}:=I.un (h':=s.heap) (t':=t) Un.refl I.hok
theorem Inv.kept {t':Nat} (I:Inv X pins σ H s) (k:∀b u,s.heap.get? b=some u→h'.get? b=some u):Inv X pins σ H {s with heap:=h',toks:=t'}:=I.un (Un.kept k) (I.hok.kept k)
theorem Inv.laid {a:Addr} {o:HO} {t':Nat} (I:Inv X pins σ H s) (k:∀b u,s.heap.get? b=some u→h'.get? b=some u) (hp:s.heap.objs.size≤a) (new:ObjOk X.prog X.w (upd H a o) h' a o):
    Inv X pins σ (upd H a o) {s with heap:=h',toks:=t'}:=I.un (Un.laid k hp (I.hok.fresh hp)) (I.hok.laid k hp new)
theorem Inv.write {x e:Addr} {o:HO} {t':Nat} (I:Inv X pins σ H s) (mu:v0 (H x)) (he:e=x∨H e=some (.own x)) (k:∀b u,b≠e→s.heap.get? b=some u→h'.get? b=some u) (heo:∃u,h'.get? e=some u)
    (new:ObjOk X.prog X.w (upd H x o) h' x o):Inv X pins σ (upd H x o) {s with heap:=h',toks:=t'}:=I.un (Un.write mu he k heo) (I.hok.write mu he k heo new)
theorem Inv.pins_of {pins':List (Addr×Obj)} (I:Inv X pins σ H s) (h:∀p∈pins',s.heap.get? p.1=some p.2∧H p.1=none∧p.1≠X.env.locals∧p.1∉X.fs∧∀v,p.2.data≠ .cell v):Inv X pins' σ H s:=
  ⟨I.ok,I.os,I.bare,I.base,I.loc,I.cell,I.free,I.freeC,fun p hp=>(List.mem_append.mp hp).elim (fun z=>I.pin p (List.mem_append_left _ z)) (h p),I.hok,I.len⟩
theorem l9 {N:List Str} (hN:N.Nodup) {i j:Nat} {x:Str} (a:N[i]? =some x) (b:N[j]? =some x):i=j:=by
  obtain ⟨h1,e1⟩:=List.getElem?_eq_some_iff.mp a
  obtain ⟨h2,e2⟩:=List.getElem?_eq_some_iff.mp b
  exact (List.getElem_inj hN).mp (e1.trans e2.symm)
theorem pF {M:Model} {A:Around} {E:Value→Shared→Prop} {i:Nat} {x:Str} {v:V} {u:Value} {Q:Unit→Shared→Prop} (I:Inv X pins σ H s) (hN:X.N.Nodup) (hi:X.N[i]? =some x) (hx:sr X.env.scope x) (r:RelV v u)
    (h:∀s',Inv X pins (σ.set i (some v)) H s'→(∃a,Heap.SameBut a s.heap s'.heap∧(a=X.env.locals∨X.env.cells.lookup x=some a))→Q () s') (hf:X.fn x=true∨X.env.scope.names.lookup x=some .local:=by first | exact .inl rfl | exact .inr rfl | assumption):wpAny M A (storeName X.env x u) Q E s:=by
  obtain ⟨m,hn,hl⟩:=id I.loc
  have hcls:(X.env.scope.kind == .class||(X.env.scope.kind == .module&&X.env.locals != X.env.globals))=false:=by rw [I.ok.kind];rfl
  have hiσ:i < σ.length:=by rw [I.len];exact (List.getElem?_eq_some_iff.mp hi).1
  have cne:=I.cne
  have tracked:∀{a:Addr} {h':Heap},(∃o,s.heap.get? a=some o∧H a=none)→Heap.SameBut a s.heap h'→HOk X.prog X.w H h':=fun {a h'} ha hs b ob e=>by
    obtain ⟨_,_,hfree⟩:=ha
    refine (I.hok b ob e).stay (fun c w' hc q=>(hs.2 c ?_).trans q) (fun _ q=>q) fun _ _ q=>q
    rintro rfl
    rcases hc with rfl | hc
    · rw [hfree] at e;cases e
    · rw [hfree] at hc;cases hc
  rcases hx with hk | hk
  · refine wpAny_storeName_local hk hn (fun h' hn' hs=>?_) hcls
    obtain ⟨oL,_,_,hoL,_⟩:=id hn
    refine h _ ⟨I.ok,I.os,I.bare,⟨fun b o e n hb hx=>?_,fun b o e n hb hx=>?_,I.base.free,fun b o e hx=>?_,I.base.tups,I.base.frzs,I.base.tbls⟩,⟨_,hn',fun j y v' e1 e2 e3=>?_⟩,fun y c e=>?_,I.free,I.freeC,fun p hp=>?_,tracked ⟨oL,hoL,I.free⟩ hs,by simpa using I.len⟩ ⟨_,hs, .inl rfl⟩
    · exact (hs.2 b (Nat.ne_of_lt (Nat.lt_of_lt_of_le (Heap.lt_size e) I.ok.above))).trans (I.base.keep b o e n hb hx)
    · obtain ⟨sl,e1⟩:=I.base.slot b o e n hb hx
      exact ⟨sl,(hs.2 b (Nat.ne_of_lt (Nat.lt_of_lt_of_le (Heap.lt_size e) I.ok.above))).trans e1⟩
    · obtain ⟨o',e1⟩:=I.base.there b o e hx
      exact ⟨o',(hs.2 b (Nat.ne_of_lt (Nat.lt_of_lt_of_le (Heap.lt_size e) I.ok.above))).trans e1⟩
    · by_cases hj:j=i
      · subst hj
        rw [hi] at e1;cases e1
        rw [List.getElem?_set_self hiσ] at e2
        cases e2
        exact ⟨u,r, .inl ⟨hk,by simp⟩⟩
      · rw [List.getElem?_set_ne (Ne.symm hj)] at e2
        obtain ⟨u',r',q⟩:=hl j y v' e1 e2 e3
        refine ⟨u',r',?_⟩
        rcases q with ⟨k,e⟩ | ⟨k,c,e,z⟩
        · refine .inl ⟨k,?_⟩
          have:y≠x:=fun e=>hj (l9 hN e1 (e▸hi))
          simp [this,e]
        · exact .inr ⟨k,c,e,z.sameBut hs (cne y c e)⟩
    · obtain ⟨w',z⟩:=I.cell y c e
      exact ⟨w',z.sameBut hs (cne y c e)⟩
    · obtain ⟨e,n,ne,nf,d⟩:=I.pin p hp
      exact ⟨(hs.2 p.1 ne).trans e,n,ne,nf,d⟩
  · have hfn:X.fn x=true:=by
      rcases hf with z | z
      · exact z
      · rw [z] at hk;cases hk
    obtain ⟨c,hc⟩:=I.ok.has x (.inl hk)
    obtain ⟨w',z⟩:=I.cell x c hc
    refine wpAny_storeName_cell I.ok.kind hk hc z (fun h' hc' hs=>?_)
    obtain ⟨oc,hoc,hocd⟩:=id z
    refine h {s with heap:=h'} ⟨I.ok,I.os,I.bare,⟨fun b o e n hb hx=>?_,fun b o e n hb hx=>?_,I.base.free,fun b o e hx=>?_,I.base.tups,I.base.frzs,I.base.tbls⟩,⟨m,hn.sameBut hs (Ne.symm (cne x c hc)),fun j y v' e1 e2 e3=>?_⟩,fun y c' e=>?_,I.free,I.freeC,fun p hp=>?_,tracked ⟨oc,hoc,I.freeC x c hc⟩ hs,by simpa using I.len⟩ ⟨c,hs, .inr hc⟩
    · exact (hs.2 b (Nat.ne_of_lt (Nat.lt_of_lt_of_le (Heap.lt_size e) (I.ok.cab x c hfn hc)))).trans (I.base.keep b o e n hb hx)
    · obtain ⟨sl,e1⟩:=I.base.slot b o e n hb hx
      exact ⟨sl,(hs.2 b (Nat.ne_of_lt (Nat.lt_of_lt_of_le (Heap.lt_size e) (I.ok.cab x c hfn hc)))).trans e1⟩
    · obtain ⟨o',e1⟩:=I.base.there b o e hx
      exact ⟨o',(hs.2 b (Nat.ne_of_lt (Nat.lt_of_lt_of_le (Heap.lt_size e) (I.ok.cab x c hfn hc)))).trans e1⟩
    · by_cases hj:j=i
      · subst hj
        rw [hi] at e1;cases e1
        rw [List.getElem?_set_self hiσ] at e2
        cases e2
        exact ⟨u,r, .inr ⟨.inl hk,c,hc,hc'⟩⟩
      · rw [List.getElem?_set_ne (Ne.symm hj)] at e2
        obtain ⟨u',r',q⟩:=hl j y v' e1 e2 e3
        refine ⟨u',r',?_⟩
        rcases q with q | ⟨k,c',e,z'⟩
        · exact .inl q
        · refine .inr ⟨k,c',e,z'.sameBut hs ?_⟩
          rintro rfl
          exact hj (l9 hN e1 (I.ok.inj _ _ _ e hc▸hi))
    · by_cases hcc:c'=c
      · subst hcc;exact ⟨_,hc'⟩
      · obtain ⟨w2,z2⟩:=I.cell y c' e
        exact ⟨w2,z2.sameBut hs hcc⟩
    · obtain ⟨e,n,ne,nf,d⟩:=I.pin p hp
      refine ⟨(hs.2 p.1 ?_).trans e,n,ne,nf,d⟩
      intro q
      rw [q,hoc] at e
      have q':oc=p.2:=Option.some.inj e
      exact d w' (by rw [←q'];exact hocd)
theorem l_ {M:Model} {A:Around} {E:Value→Shared→Prop} {i:Nat} {x:Str} {v:V} {u:Value} {Q:Unit→Shared→Prop} (I:Inv X pins σ H s) (hN:X.N.Nodup) (hi:X.N[i]? =some x) (hx:sr X.env.scope x) (r:RelV v u)
    (h:∀s',Inv X pins (σ.set i (some v)) H s'→Q () s') (hf:X.fn x=true∨X.env.scope.names.lookup x=some .local:=by first | exact .inl rfl | exact .inr rfl | assumption):wpAny M A (storeName X.env x u) Q E s:=
  pF I hN hi hx r (fun s' I' _=>h s' I') hf
theorem Inv.call' {s':Shared} {ch:List Addr} (I:Inv X pins σ H s) (ho:s'.os=s.os) (u:Un (qj X.stack) ch H H' s.heap s'.heap) (hok:HOk X.prog X.w H' s'.heap) (hg:AllBare s'.gens)
    (hch:∀b∈ch,(b∈X.ex∨X.s₀.heap.objs.size≤b)∧b≠X.env.locals∧(∀x c,X.env.cells.lookup x=some c→c≠b)∧∀p∈X.pn++pins,p.1≠b):Inv X pins σ H' s':=by
  obtain ⟨h',g',d',t',o'⟩:=s'
  have e:o'=s.os:=ho
  subst e
  exact I.call (g':=g') (t':=t') (d':=d') u hok hg hch
end
abbrev XK:=Value→Option Addr→Hp→Prop
abbrev St:=List (Option V)
abbrev VK:=V→Hp→Prop
abbrev TE:=St→Hp→VK→Prop
abbrev TT:=St→Hp→(Bool→Hp→Prop)→Prop
abbrev TA:=St→Hp→(List V→Hp→Prop)→Prop
structure Ends where
  nx:St→Hp→Prop
  rt:VK
  bk:St→Hp→Prop:=fun _ _=>False
  ct:St→Hp→Prop:=fun _ _=>False
abbrev TS:=Ends→St→Hp→Prop
def EP (X:Cx) (pins:List (Addr×Obj)) (σ:St) (Q:VK) (u:Value) (s':Shared):Prop:=∃v H',Inv X pins σ H' s'∧RelV v u∧Q v H'
def TP (X:Cx) (pins:List (Addr×Obj)) (σ:St) (Q:Bool→Hp→Prop) (b:Bool) (s':Shared):Prop:=∃H',Inv X pins σ H' s'∧Q b H'
def AP (X:Cx) (pins:List (Addr×Obj)) (σ:St) (Q:List V→Hp→Prop) (us:List Value) (s':Shared):Prop:=∃vs H',Inv X pins σ H' s'∧Vals vs us∧Q vs H'
def SP (X:Cx) (pins:List (Addr×Obj)) (D:Ends) (f:Flow) (s':Shared):Prop:=
  match f with
  | .next=>∃σ' H',Inv X pins σ' H' s'∧D.nx σ' H'
  | .brk=>∃σ' H',Inv X pins σ' H' s'∧D.bk σ' H'
  | .cont=>∃σ' H',Inv X pins σ' H' s'∧D.ct σ' H'
  | .ret u=>∃v σ' H',Inv X pins σ' H' s'∧RelV v u∧D.rt v H'
def PE (X:Cx) (e:Expr) (t:TE):Prop:=
  ∀(pins:List (Addr×Obj)) (s:Shared) (σ:St) (H:Hp) (Q:VK),Inv X pins σ H s→t σ H Q→wpAny (model X.prog X.w) X.A (eval e X.env) (EP X pins σ Q) X.xe s
def PT (X:Cx) (e:Expr) (t:TT):Prop:=
  ∀(pins:List (Addr×Obj)) (s:Shared) (σ:St) (H:Hp) (Q:Bool→Hp→Prop),Inv X pins σ H s→t σ H Q→wpAny (model X.prog X.w) X.A (isTrue e X.env (eval e X.env)) (TP X pins σ Q) X.xe s
def PW (X:Cx) (e:Expr) (t:TT):Prop:=
  ∀(whole:Sem Value) (pins:List (Addr×Obj)) (s:Shared) (σ:St) (H:Hp) (Q:Bool→Hp→Prop),Inv X pins σ H s→t σ H Q→wpAny (model X.prog X.w) X.A (isTrue e X.env whole) (TP X pins σ Q) X.xe s
theorem PW.pt {X:Cx} {e:Expr} {t:TT} (h:PW X e t):PT X e t:=h _
def PA (X:Cx) (es:List Expr) (t:TA):Prop:=
  ∀(pos:Pos) (pins:List (Addr×Obj)) (s:Shared) (σ:St) (H:Hp) (Q:List V→Hp→Prop),Inv X pins σ H s→t σ H Q→wpAny (model X.prog X.w) X.A (spliced (backTo pos (starEach es X.env))) (AP X pins σ Q) X.xe s
def PS (X:Cx) (st:Stmt) (t:TS):Prop:=
  ∀(pins:List (Addr×Obj)) (s:Shared) (σ:St) (H:Hp) (D:Ends),Inv X pins σ H s→t D σ H→wpAny (model X.prog X.w) X.A (exec st X.env) (SP X pins D) X.xe s
def PSs (X:Cx) (st:List Stmt) (t:TS):Prop:=
  ∀(pins:List (Addr×Obj)) (s:Shared) (σ:St) (H:Hp) (D:Ends),Inv X pins σ H s→t D σ H→wpAny (model X.prog X.w) X.A (execs st X.env) (SP X pins D) X.xe s
theorem en {α:Type} {t:Sem α} {Q Q':α→Shared→Prop} {M:Model} {A:Around} {E:Value→Shared→Prop} {s:Shared} (h:wpAny M A t Q E s) (hQ:∀a s,Q a s→Q' a s):wpAny M A t Q' E s:=wpAny_mono h hQ fun _ _ x=>x
end L2
namespace L2
open PySem PySem.Spec PyProof.Rows
section
variable {X:Cx}
def fP (i:Nat):TE:=fun σ H Q=>∃v,σ[i]? =some (some v)∧Q v H
def tC (v:V):TE:=fun _ H Q=>Q v H
theorem fZ {i:Nat} {x:Str} {pos:Pos} (hN:X.N[i]? =some x) (hv:qk X.env.scope x) (hd:(x == ("__debug__":Str))=false:=by decide) (hcd:(x == ("__classdict__":Str))=false:=by decide):PE X (.Name x pos) (fP i):=by
  intro pins s σ H Q I h
  obtain ⟨v,e,h⟩:=h
  obtain ⟨m,hn,hl⟩:=I.loc
  obtain ⟨u,r,l⟩:=hl i x v hN e hv
  have fin:EP X pins σ Q u s:=⟨v,H,I,r,h⟩
  rcases l with ⟨hk,hm⟩ | ⟨hk,c,hc,hcell⟩
  · exact wpAny_Name (wpAny_loadName_local I.ok.kind hk hn hm fin) hd
  · rcases hk with hk | hk
    · exact wpAny_Name (wpAny_loadName_cell I.ok.kind hk hc hcell fin) hd
    · exact wpAny_Name (wpAny_loadName_free I.ok.kind hk hc hcell fin hcd) hd
theorem d_ {i j pos}:PE X (.Constant (.int i) j pos) (tC (.int i)):=fun _ _ _ H _ I h=>wpAny_Constant_int ⟨.int i,H,I.tok _,⟨_,rfl⟩,h⟩
theorem uc {b j pos}:PE X (.Constant (.bool b) j pos) (tC (.bl b)):=fun _ _ _ H _ I h=>Constant_bool ⟨.bl b,H,I,rfl,h⟩
theorem qp {j pos}:PE X (.Constant .none j pos) (tC .non):=fun _ _ _ H _ I h=>Constant_none ⟨.non,H,I,rfl,h⟩
theorem uK {x j pos}:PE X (.Constant (.str x) j pos) (tC (.str x)):=fun _ _ _ H _ I h=>Calls.Constant_str ⟨.str x,H,I.tok _,⟨_,rfl⟩,h⟩
def Gl (X:Cx) (x:Str):Prop:=X.env.kindOf x=some .globalImplicit
theorem su {E:Value→Shared→Prop} {pins:List (Addr×Obj)} {s:Shared} {σ:St} {H:Hp} {x:Str} {u:Value} {pos:Pos} {Q:Value→Shared→Prop} (I:Inv X pins σ H s) (hg:Gl X x) (hm:X.mg x=some u) (h:Q u s)
    (hd:(x == ("__debug__":Str))=false:=by decide):wpAny (model X.prog X.w) X.A (eval (.Name x pos) X.env) Q E s:=
  Calls.Name_function_global I.ok.kind hg (Calls.loadGlobal_global (by rw [I.ok.glob];exact I.mod.glob.keeps I.bk) hm h) hd
theorem iS {E:Value→Shared→Prop} {pins:List (Addr×Obj)} {s:Shared} {σ:St} {H:Hp} {x:Str} {u:Value} {pos:Pos} {Q:Value→Shared→Prop} (I:Inv X pins σ H s) (hg:Gl X x) (hm:X.mg x=none) (hv:bootBuiltins x=some u) (h:Q u s)
    (hn:x≠"__name__":=by decide) (hd:(x == ("__debug__":Str))=false:=by decide):wpAny (model X.prog X.w) X.A (eval (.Name x pos) X.env) Q E s:=by
  obtain ⟨mb,h1,h2⟩:=I.mod.blt
  exact Calls.Name_function_global I.ok.kind hg (Calls.loadGlobal_builtin (by rw [I.ok.glob];exact I.mod.glob.keeps I.bk) hm (by rw [I.ok.blt];exact h1.keeps I.bk) ((h2 x hn).trans hv) h) hd
theorem sv {x:Str} {v:V} {u:Value} {pos:Pos} (hg:Gl X x) (hm:X.mg x=none) (hv:bootBuiltins x=some u) (r:RelV v u) (hn:x≠"__name__":=by decide) (hd:(x == ("__debug__":Str))=false:=by decide):PE X (.Name x pos) (tC v):=
  fun _ _ _ H _ I h=>iS I hg hm hv ⟨v,H,I,r,h⟩ hn hd
variable {a b:Expr} {ta tb:TE} {pos:Pos}
variable {tA tB':TT} {ce:List Expr}
def v5 (t u:TT):TT:=fun σ H Q=>t σ H fun c H1=>if c=true then u σ H1 Q else Q false H1
def yd (t u:TT):TT:=fun σ H Q=>t σ H fun c H1=>if c=true then Q true H1 else u σ H1 Q
def xn (t:TT):TT:=fun σ H Q=>t σ H fun c H1=>Q (!c) H1
theorem kP (ha:PT X a tA):PW X (.BoolOp .And [a] pos) tA:=by
  intro wh pins s σ H Q I h
  refine isTrue_and (en (ha pins s σ H Q I h) fun c s1 e=>?_)
  cases c with
  | true=>exact isTrue_and_nil e
  | false=>exact e
theorem uL (ha:PT X a tA):PW X (.BoolOp .Or [a] pos) tA:=by
  intro wh pins s σ H Q I h
  refine isTrue_or (en (ha pins s σ H Q I h) fun c s1 e=>?_)
  cases c with
  | false=>exact isTrue_or_nil e
  | true=>exact e
theorem m6 (ha:PT X a tA) (hb:PW X (.BoolOp .And (b::ce) pos) tB'):PW X (.BoolOp .And (a::b::ce) pos) (v5 tA tB'):=by
  intro wh pins s σ H Q I h
  refine isTrue_and (en (ha pins s σ H _ I h) fun c s1 ⟨H1,I1,q1⟩=>?_)
  cases c with
  | true=>exact hb wh pins s1 σ H1 Q I1 q1
  | false=>exact ⟨H1,I1,q1⟩
theorem v6 (ha:PT X a tA) (hb:PW X (.BoolOp .Or (b::ce) pos) tB'):PW X (.BoolOp .Or (a::b::ce) pos) (yd tA tB'):=by
  intro wh pins s σ H Q I h
  refine isTrue_or (en (ha pins s σ H _ I h) fun c s1 ⟨H1,I1,q1⟩=>?_)
  cases c with
  | true=>exact ⟨H1,I1,q1⟩
  | false=>exact hb wh pins s1 σ H1 Q I1 q1
theorem uM (ha:PT X a tA):PT X (.UnaryOp .Not a pos) (xn tA):=by
  intro pins s σ H Q I h
  exact isTrue_not (ha pins s σ H (fun c H1=>Q (!c) H1) I h)
def v7 (ta tb:TE):TE:=fun σ H Q=>ta σ H fun x H1=>∃c,x= .bl c∧if c=true then tb σ H1 Q else Q (.bl false) H1
theorem uN {op} {t:TE} (h:PE X a t):PE X (.BoolOp op [a] pos) t:=fun pins s σ H Q I hw=>BoolOp_one (h pins s σ H Q I hw)
theorem uO (ha:PE X a ta) (hb:PE X (.BoolOp .And (b::ce) pos) tb):PE X (.BoolOp .And (a::b::ce) pos) (v7 ta tb):=by
  intro pins s σ H Q I h
  refine BoolOp_and (en (ha pins s σ H _ I h) fun v s1 ⟨x,H1,I1,r1,q1⟩=>?_)
  obtain ⟨c,rfl,q1⟩:=q1
  cases r1
  refine wpAny_truthy_bool ?_
  cases c with
  | true=>exact hb pins s1 σ H1 Q I1 q1
  | false=>exact ⟨.bl false,H1,I1,rfl,q1⟩
end
end L2
namespace L2
open PySem PySem.Spec PyProof.Rows
def SqL (K:PySem.W.Frag) (H:Hp) (a:Addr) (xs:List V):Prop:=
  Rd H a (.lst xs)∨
    ∃(o:Obj) (its:Array Value) (n:Nat),K.lookup a=some o∧o.cls= .type "list"∧o.dict=none∧o.data= .seq its n∧its.size≤sizeLine∧Vals xs its.toList
def SqT (K:PySem.W.Frag) (H:Hp) (a:Addr) (xs:List V):Prop:=
  Rd H a (.tup xs)∨
    ∃(o:Obj) (its:Array Value) (n:Nat),K.lookup a=some o∧o.cls= .type "tuple"∧o.data= .seq its n∧its.size≤sizeLine∧Vals xs its.toList
def xo:Value→Option V
  | .none=>some .non
  | .bool b=>some (.bl b)
  | .int i _=>some (.int i)
  | .str x _=>some (.str x)
  | .bytes b _=>some (.byt b)
  | .float b _=>some (.flt b)
  | .ref a=>some (.ref a)
  | .type n=>some (.ty n)
  | _=>none
theorem RelV.abs {x:V} {u:Value} (r:RelV x u):xo u=some x:=by
  cases x with
  | non=>cases r;rfl
  | bl _=>cases r;rfl
  | int _=>obtain ⟨t,rfl⟩:=r;rfl
  | str _=>obtain ⟨t,rfl⟩:=r;rfl
  | byt _=>obtain ⟨t,rfl⟩:=r;rfl
  | flt _=>obtain ⟨t,rfl⟩:=r;rfl
  | ref _=>cases r;rfl
  | ty _=>cases r;rfl
theorem RelV.inj {x y:V} {u:Value} (r:RelV x u) (q:RelV y u):x=y:=Option.some.inj (r.abs.symm.trans q.abs)
theorem Vals.inj {xs ys:List V} {us:List Value} (h:Vals xs us) (k:Vals ys us):xs=ys:=by
  induction h generalizing ys with
  | nil=>cases k;rfl
  | cons r _ ih=>cases k with | cons r' t'=>rw [r.inj r',ih t']
section
variable {X:Cx} {pins:List (Addr×Obj)} {σ:St} {H:Hp} {s:Shared} {a:Addr} {xs ys:List V}
theorem SqL.of {K:PySem.W.Frag} (h:H a=some (.lst xs)):SqL K H a xs:= .inl (.inl h)
theorem SqT.of {K:PySem.W.Frag} (h:H a=some (.tup xs)):SqT K H a xs:= .inl (.inl h)
theorem Inv.list (I:Inv X pins σ H s) (h:SqL X.K H a xs):∃its:List Value,Vals xs its∧PlainL s.heap a its.toArray∧xs.length≤sizeLine:=by
  rcases h with h | ⟨o,its,n,hk,hc,hd,hs,hz,r⟩
  · obtain ⟨z,its,n,r,e⟩:=h.ok I.hok
    exact ⟨its,r,⟨_,n,e,rfl,rfl,rfl⟩,z⟩
  · refine ⟨its.toList,r,⟨o,n,I.kIn a o hk,hc,hd,by simpa using hs⟩,?_⟩
    have e:=r.length
    simp only [Array.length_toList] at e
    omega
theorem Inv.tuple (I:Inv X pins σ H s) (h:SqT X.K H a xs):∃its:List Value,Vals xs its∧IsTup s.heap a its.toArray∧xs.length≤sizeLine:=by
  rcases h with h | ⟨o,its,n,hk,hc,hs,hz,r⟩
  · obtain ⟨z,its,r,p⟩:=h.ok I.hok
    exact ⟨its,r,p,z⟩
  · refine ⟨its.toList,r,⟨o,I.kIn a o hk,hc,n,by simpa using hs⟩,?_⟩
    have e:=r.length
    simp only [Array.length_toList] at e
    omega
theorem Inv.list_inj (I:Inv X pins σ H s) (h:SqL X.K H a xs) (h':SqL X.K H a ys):xs=ys:=by
  obtain ⟨its,r,⟨o,n,e,_,_,d⟩,_⟩:=I.list h
  obtain ⟨its',r',⟨o',n',e',_,_,d'⟩,_⟩:=I.list h'
  rw [e] at e';cases e'
  rw [d] at d'
  injection d' with d1 _
  have:its=its':=by simpa using congrArg Array.toList d1
  subst this
  exact r.inj r'
theorem Inv.tuple_inj (I:Inv X pins σ H s) (h:SqT X.K H a xs) (h':SqT X.K H a ys):xs=ys:=by
  obtain ⟨its,r,⟨o,e,_,n,d⟩,_⟩:=I.tuple h
  obtain ⟨its',r',⟨o',e',_,n',d'⟩,_⟩:=I.tuple h'
  rw [e] at e';cases e'
  rw [d] at d'
  injection d' with d1 _
  have:its=its':=by simpa using congrArg Array.toList d1
  subst this
  exact r.inj r'
end
abbrev Cx.wish (X:Cx) (E:Value→Shared→Prop):Cx:={X with xe:=E}
abbrev Cx.nox (X:Cx):Cx:=X.wish fun _ _=>False
theorem Cx.Ok.wish {X:Cx} (ok:X.Ok) (E:Value→Shared→Prop):(X.wish E).Ok:=
  ⟨ok.mod,ok.kind,ok.glob,ok.blt,ok.above,ok.inj,ok.has,ok.cab,ok.hd,ok.frames,ok.stk,ok.exf,ok.bs,ok.bsz,ok.noex,ok.exfs,ok.funs,ok.frf,ok.tab⟩
theorem Cx.Ok.unwish {X:Cx} {E:Value→Shared→Prop} (ok:(X.wish E).Ok):X.Ok:=
  ⟨ok.mod,ok.kind,ok.glob,ok.blt,ok.above,ok.inj,ok.has,ok.cab,ok.hd,ok.frames,ok.stk,ok.exf,ok.bs,ok.bsz,ok.noex,ok.exfs,ok.funs,ok.frf,ok.tab⟩
section
variable {X:Cx} {pins:List (Addr×Obj)} {σ:St} {H:Hp} {s:Shared} {E:Value→Shared→Prop}
theorem Inv.wish (I:Inv X pins σ H s) (E:Value→Shared→Prop):Inv (X.wish E) pins σ H s:=⟨I.ok.wish E,I.os,I.bare,I.base,I.loc,I.cell,I.free,I.freeC,I.pin,I.hok,I.len⟩
theorem Inv.unwish (I:Inv (X.wish E) pins σ H s):Inv X pins σ H s:=⟨I.ok.unwish,I.os,I.bare,I.base,I.loc,I.cell,I.free,I.freeC,I.pin,I.hok,I.len⟩
theorem SP.unwish {D:Ends} {f:Flow} {s':Shared} (h:SP (X.wish E) pins D f s'):SP X pins D f s':=by
  cases f with
  | next=>obtain ⟨σ',H',I,q⟩:=h;exact ⟨σ',H',I.unwish,q⟩
  | brk=>obtain ⟨σ',H',I,q⟩:=h;exact ⟨σ',H',I.unwish,q⟩
  | cont=>obtain ⟨σ',H',I,q⟩:=h;exact ⟨σ',H',I.unwish,q⟩
  | ret u=>obtain ⟨v,σ',H',I,r,q⟩:=h;exact ⟨v,σ',H',I.unwish,r,q⟩
theorem PE.nox {e:Expr} {t:TE} (h:PE X.nox e t):PE X e t:=fun pins s σ H Q I hw=>
  wpAny_mono (h pins s σ H Q (I.wish _) hw) (fun _ _ ⟨v,H',I',r,q⟩=>⟨v,H',I'.unwish,r,q⟩) fun _ _ z=>False.elim z
theorem PT.nox {e:Expr} {t:TT} (h:PT X.nox e t):PT X e t:=fun pins s σ H Q I hw=>
  wpAny_mono (h pins s σ H Q (I.wish _) hw) (fun _ _ ⟨H',I',q⟩=>⟨H',I'.unwish,q⟩) fun _ _ z=>False.elim z
theorem PSs.nox {st:List Stmt} {t:TS} (h:PSs X.nox st t):PSs X st t:=fun pins s σ H D I hw=>
  wpAny_mono (h pins s σ H D (I.wish _) hw) (fun _ _ q=>q.unwish) fun _ _ z=>False.elim z
end
section
variable {X:Cx} {st:Stmt} {ce:List Stmt} {t u:TS} {e:Expr} {te:TE} {pos:Pos}
def qr:TS:=fun D σ H=>D.nx σ H
def jw (t u:TS):TS:=fun D σ H=>t {D with nx:=u D} σ H
theorem g5:PSs X [] qr:=fun _ _ σ H _ I h=>wpAny_execs_nil ⟨σ,H,I,h⟩
theorem aK (h1:PS X st t) (h2:PSs X ce u):PSs X (st::ce) (jw t u):=by
  intro pins s σ H D I h
  refine wpAny_execs_cons (en (h1 pins s σ H {D with nx:=u D} I h) fun f s1 q=>?_)
  cases f with
  | next=>
    obtain ⟨σ',H',I',q⟩:=q
    exact h2 pins s1 σ' H' D I' q
  | ret v=>exact q
  | brk=>exact q
  | cont=>exact q
theorem dh (h1:PS X st t):PSs X [st] t:=by
  intro pins s σ H D I h
  refine wpAny_execs_cons (en (h1 pins s σ H D I h) fun f s1 q=>?_)
  cases f with
  | next=>exact wpAny_execs_nil q
  | ret v=>exact q
  | brk=>exact q
  | cont=>exact q
theorem Inv.quiet {pins:List (Addr×Obj)} {σ:St} {H:Hp} {s:Shared} (I:Inv X pins σ H s):interactive X.env=false:=by simp [interactive,I.ok.kind]
def oh (te:TE):TS:=fun D σ H=>te σ H fun _ H1=>D.nx σ H1
theorem fW (he:PE X e te) (hs:swapsWith e none pos.line X.env=pure false:=by rfl):PS X (.Expr e pos) (oh te):=by
  intro pins s σ H D I h
  exact wpAny_Expr_any (en (he pins s σ H _ I h) fun v s1 ⟨x,H1,I1,r1,q1⟩=>⟨σ,H1,I1,q1⟩) I.quiet hs
def uP (te:TE):TS:=fun D σ H=>te σ H D.rt
theorem iT (he:PE X e te):PS X (.Return (some e) pos) (uP te):=by
  intro pins s σ H D I h
  exact wpAny_Return_some (en (he pins s σ H _ I h) fun v s1 ⟨x,H1,I1,r1,q1⟩=>⟨x,σ,H1,I1,r1,q1⟩)
def sw (c:TT) (t u:TS):TS:=fun D σ H=>c σ H fun b H1=>if b=true then t D σ H1 else u D σ H1
theorem jg {c:Expr} {a b:List Stmt} {tc:TT} (hc:PT X c tc) (ha:PSs X a t) (hb:PSs X b u):PS X (.If c a b pos) (sw tc t u):=by
  intro pins s σ H D I h
  refine wpAny_If (en (hc pins s σ H _ I h) fun d s1 ⟨H1,I1,q1⟩=>?_)
  cases d with
  | true=>exact ha pins s1 σ H1 D I1 q1
  | false=>exact hb pins s1 σ H1 D I1 q1
end
abbrev TG:=V→St→Hp→(St→Hp→Prop)→Prop
abbrev sx:=List V→St→Hp→(St→Hp→Prop)→Prop
def PG (X:Cx) (target:Expr) (t:TG):Prop:=
  ∀(pins:List (Addr×Obj)) (s:Shared) (σ:St) (H:Hp) (v:V) (u:Value) (Q:St→Hp→Prop),Inv X pins σ H s→RelV v u→t v σ H Q→
    wpAny (model X.prog X.w) X.A (assign target X.env u) (fun _ s'=>∃σ' H',Inv X pins σ' H' s'∧Q σ' H') X.xe s
def uQ (X:Cx) (ts:List Expr) (t:sx):Prop:=
  ∀(pins:List (Addr×Obj)) (s:Shared) (σ:St) (H:Hp) (vs:List V) (us:List Value) (Q:St→Hp→Prop),Inv X pins σ H s→Vals vs us→t vs σ H Q→
    wpAny (model X.prog X.w) X.A (assignInOrder ((assignEach ts X.env).map (·.2)) us) (fun _ s'=>∃σ' H',Inv X pins σ' H' s'∧Q σ' H') X.xe s
section
variable {X:Cx} {pos:Pos}
def gd (i:Nat):TG:=fun v σ H Q=>Q (σ.set i (some v)) H
theorem gm {i:Nat} {x:Str} (hN:X.N.Nodup) (hi:X.N[i]? =some x) (hx:sr X.env.scope x) (hf:X.fn x=true∨X.env.scope.names.lookup x=some .local:=by first | exact .inl rfl | exact .inr rfl | assumption):PG X (.Name x pos) (gd i):=by
  intro pins s σ H v u Q I r h
  exact wpAny_assign_Name (l_ I hN hi hx r (fun s' I'=>⟨_,H,I',h⟩) hf)
def v8:sx:=fun vs σ H Q=>vs=[]∧Q σ H
def qu (t:TG) (u:sx):sx:=fun vs σ H Q=>∃v r,vs=v::r∧t v σ H fun σ' H'=>u r σ' H' Q
theorem kQ:uQ X [] v8:=by
  intro pins s σ H vs us Q I r h
  obtain ⟨e,h⟩:=h
  subst e
  cases r
  exact assignInOrder_nil ⟨σ,H,I,h⟩
theorem gJ {e:Expr} {es:List Expr} {t:TG} {u:sx} (h1:PG X e t) (h2:uQ X es u)
    (hs:(assignEach (e::es) X.env).map (·.2)=assign e X.env::(assignEach es X.env).map (·.2):=by rfl):uQ X (e::es) (qu t u):=by
  intro pins s σ H vs us Q I r h
  obtain ⟨v,vr,e1,h⟩:=h
  subst e1
  cases r with
  | cons r rr=>
    rw [hs]
    refine assignInOrder_cons (en (h1 pins s σ H _ _ _ I r h) fun _ s1 ⟨σ1,H1,I1,q1⟩=>?_)
    exact h2 pins s1 σ1 H1 _ _ Q I1 rr q1
def v9 (K:PySem.W.Frag) (n:Nat) (t:sx):TG:=fun v σ H Q=>∃a xs,v= .ref a∧SqT K H a xs∧xs.length=n∧t xs σ H Q
theorem m7 {es:List Expr} {k:Nat} {t:sx} {n:Nat} (hc:X.calm=true) (h:uQ X es t)
    (hn:(assignEach es X.env).length=n:=by rfl) (hst:(assignEach es X.env).findIdx? (·.1)=none:=by rfl):PG X (.Tuple es k pos) (v9 X.K n t):=by
  intro pins s σ H v u Q I r hw
  obtain ⟨a,xs,e1,hq,hl,hw⟩:=hw
  subst e1
  cases r
  obtain ⟨its,rv,ht,hz⟩:=I.tuple hq
  refine assign_Tuple_tuple (I.ok.hd hc) ht (by simp [hn,←hl,rv.length]) hst fun h' hx=>?_
  have I1:Inv X pins σ H {s with heap:=h'}:=I.kept (t':=s.toks) fun b o e=>hx b o (Nat.ne_of_lt (Heap.lt_size e)) e
  exact h pins _ σ H xs _ Q I1 (by simpa using rv) hw
def j8 (te:TE) (g:TG):TS:=fun D σ H=>te σ H fun x H1=>g x σ H1 D.nx
theorem dF {i:Nat} {x:Str} {e:Expr} {te:TE} {pos':Pos} (hN:X.N.Nodup) (hi:X.N[i]? =some x) (hx:sr X.env.scope x) (he:PE X e te) (hs:swapsWith e (some (.Name x pos')) pos.line X.env=pure false:=by rfl) (hf:X.fn x=true∨X.env.scope.names.lookup x=some .local:=by first | exact .inl rfl | exact .inr rfl | assumption):
    PS X (.Assign [.Name x pos'] e pos) (j8 te (gd i)):=by
  intro pins s σ H D I h
  refine wpAny_Assign_Name (en (he pins s σ H _ I h) fun v s1 ⟨y,H1,I1,r1,q1⟩=>?_) hs
  exact l_ I1 hN hi hx r1 (fun s2 I2=>⟨_,H1,I2,q1⟩) hf
end
structure It where
  go:Nat→Hp→Prop
  yld:Nat→Hp→V→Hp→Prop
  stop:Nat→Hp→Prop
def j9 (X:Cx) (pins:List (Addr×Obj)) (H:Hp) (b:Addr):Prop:=
  H b=none∧b≠X.env.locals∧b∉X.fs∧(b∈X.ex∨X.s₀.heap.objs.size≤b)∧(∀x c,X.env.cells.lookup x=some c→c≠b)∧∀p∈X.pn++pins,p.1≠b
theorem Inv.fpOk {X:Cx} {pins:List (Addr×Obj)} {σ:St} {H H':Hp} {s:Shared} {b:Addr} (I:Inv X pins σ H s) (hb:s.heap.objs.size≤b) (hn:H' b=none):j9 X pins H' b:=by
  refine ⟨hn,Nat.ne_of_gt (Nat.lt_of_lt_of_le I.lt hb),I.nofs hb, .inr (Nat.le_trans I.sz hb),fun x c e z=>?_,fun p hp z=>?_⟩
  · obtain ⟨v,q⟩:=I.cell x c e
    exact absurd (Nat.lt_of_lt_of_le q.lt (by rw [z];exact hb)) (Nat.lt_irrefl _)
  · exact absurd (Nat.lt_of_lt_of_le (Heap.lt_size (I.pin p hp).1) (by rw [z];exact hb)) (Nat.lt_irrefl _)
structure Turn (P:Program) (w:World) (K:PySem.W.Frag) (tg:Expr) (J:It) (fp:List Addr) (it:Addr) (tn:Nat→Heap→Prop):Prop where
  mem:it∈fp
  obj:∀i h,tn i h→∀b∈fp,∃o,h.get? b=some o∧∀v,o.data≠ .cell v
  keep:∀i h h',tn i h→(∀b∈fp,∀o,h.get? b=some o→h'.get? b=some o)→tn i h'
  item:∀(X:Cx),X.prog=P→X.w=w→X.K=K→X.calm=true→∀(i:Nat) (pins:List (Addr×Obj)) (s:Shared) (σ:St) (H:Hp) (E:Value→Shared→Prop),Inv X pins σ H s→(∀b∈fp,j9 X pins H b)→tn i s.heap→J.go i H→
    wpAny (model P w) X.A (pyNext (.ref it)) (fun r s1=>∃u,r=some u∧
      wpAny (model P w) X.A (letOwnedTupleGo tg (.ref it) u) (fun _ s2=>∃x H',Inv X pins σ H' s2∧RelV x u∧J.yld i H x H'∧tn (i+1) s2.heap∧∀b∈fp,H' b=none) E s1) E s
  done:∀(X:Cx),X.prog=P→X.w=w→X.K=K→X.calm=true→∀(i:Nat) (pins:List (Addr×Obj)) (s:Shared) (σ:St) (H:Hp) (E:Value→Shared→Prop),Inv X pins σ H s→(∀b∈fp,j9 X pins H b)→tn i s.heap→J.stop i H→
    wpAny (model P w) X.A (pyNext (.ref it)) (fun r s1=>r=none∧Inv X pins σ H s1) E s
  self:∀(A:Around) (i:Nat) (s:Shared) (Q:Value→Shared→Prop) (E:Value→Shared→Prop),tn i s.heap→Q (.ref it) s→wpAny (model P w) A (pyIter (.ref it)) Q E s
abbrev TI:=St→Hp→(It→Hp→Prop)→Prop
def xQ (X:Cx) (pins:List (Addr×Obj)) (σ:St) (tg:Expr) (R:It→Hp→Prop) (itv:Value) (s2:Shared):Prop:=
  ∃(it:Addr) (fp:List Addr) (tn:Nat→Heap→Prop) (J:It) (H':Hp),itv= .ref it∧Inv X pins σ H' s2∧Turn X.prog X.w X.K tg J fp it tn∧tn 0 s2.heap∧(∀b∈fp,j9 X pins H' b)∧R J H'
def PI (X:Cx) (tg iter:Expr) (wi:TI):Prop:=
  ∀(pins:List (Addr×Obj)) (s:Shared) (σ:St) (H:Hp) (R:It→Hp→Prop),Inv X pins σ H s→wi σ H R→
    wpAny (model X.prog X.w) X.A (eval iter X.env) (fun v s1=>wpAny (model X.prog X.w) X.A (pyIter v) (xQ X pins σ tg R) X.xe s1) X.xe s
theorem ma {M:Model} {A:Around} {E:Value→Shared→Prop} {s:Shared} {tg:Expr} {it:Addr} {u:Value} {o:Obj} {n:String} {vs:Array Value} {Q:Unit→Shared→Prop} (ho:s.heap.get? it=some o) (hc:o.cls= .type n) (hd:o.data= .fields vs)
    (hn:["enumerate","zip","dict_itemiterator","dict_reverseitemiterator","odict_iterator","itertools.zip_longest","itertools.pairwise"].contains n=false) (hQ:Q () s):wpAny M A (letOwnedTupleGo tg (.ref it) u) Q E s:=by
  unfold letOwnedTupleGo
  cases tg <;> first
    | exact wpAny_pure hQ
    | (cases u <;> first
        | exact wpAny_pure hQ
        | (refine wpAny_bind (wpAny_load ho ?_)
           rw [hc,hd]
           show wpAny M A (if (["enumerate","zip","dict_itemiterator","dict_reverseitemiterator","odict_iterator","itertools.zip_longest","itertools.pairwise"].contains n&&vs[0]? == some (rawInt _))=true then _ else _) Q E s
           rw [if_neg (by intro h;rw [hn,Bool.false_and] at h;cases h)]
           exact wpAny_pure hQ))
def vV (K:PySem.W.Frag) (a:Addr):It:=
  ⟨fun i H=>∃xs x,SqL K H a xs∧xs[i]? =some x,fun i H x H'=>H'=H∧∀xs,SqL K H a xs→xs[i]? =some x,fun i H=>∃xs,SqL K H a xs∧xs.length≤i⟩
def xp (K:PySem.W.Frag) (a:Addr):It:=
  ⟨fun i H=>∃xs x,SqT K H a xs∧xs[i]? =some x,fun i H x H'=>H'=H∧∀xs,SqT K H a xs→xs[i]? =some x,fun i H=>∃xs,SqT K H a xs∧xs.length≤i⟩
def wY (lo:Int) (n:Nat):It:=⟨fun i _=>i < n,fun i H x H'=>H'=H∧x= .int (lo+i),fun i _=>n≤i⟩
theorem pG {P:Program} {w:World} {K:PySem.W.Frag} {tg:Expr} (a it:Addr):Turn P w K tg (vV K a) [it] it (fun i h=>h.IsListIter it a i) where
  mem:=by simp
  obj:=fun i h st b hb=>by
    have e:b=it:=by simpa using hb
    subst e
    obtain ⟨o,e,c,d⟩:=st
    exact ⟨o,e,fun v z=>by rw [d] at z;cases z⟩
  keep:=fun i h h' st k=>st.at fun o e=>k it (by simp) o e
  item:=by
    intro X hP hw hK hc i pins s σ H E I hf st hg
    subst hP hw hK
    obtain ⟨xs,x,hq,hx⟩:=hg
    obtain ⟨its,rv,p,hz⟩:=I.list hq
    obtain ⟨u,hu,ru⟩:=rv.get hx
    obtain ⟨f0,f1,f2,f3,f4,f5⟩:=hf it (by simp)
    refine wpAny_pyNext_list_item st p.isList (x:=u) (by simpa using hu) fun h' st' sb=>?_
    have I1:Inv X pins σ H {s with heap:=h'}:=I.turned (t':=s.toks) (fun b o hb e=>(sb.2 b hb).trans e) f0 f1 f3 f4 f5
    obtain ⟨o,e,c,d⟩:=id st'
    exact ⟨u,rfl,ma (s:={s with heap:=h'}) e c d (by decide) ⟨x,H,I1,ru,⟨rfl,fun ys hy=>by rw [I.list_inj hy hq];exact hx⟩,st',fun b hb=>(hf b hb).1⟩⟩
  done:=by
    intro X hP hw hK hc i pins s σ H E I hf st hg
    subst hP hw hK
    obtain ⟨xs,hq,hx⟩:=hg
    obtain ⟨its,rv,p,hz⟩:=I.list hq
    obtain ⟨f0,f1,f2,f3,f4,f5⟩:=hf it (by simp)
    have hl:=rv.length
    exact wpAny_pyNext_list_end (I.ok.hd hc) st p.isList (by simp;omega) fun h' eb=>⟨rfl,I.turned (t':=s.toks) (fun b o hb e=>eb b o hb e) f0 f1 f3 f4 f5⟩
  self:=fun _ _ _ _ _ st h=>wpAny_pyIter_listiter st h
theorem m8 {P:Program} {w:World} {K:PySem.W.Frag} {tg:Expr} (a it:Addr):Turn P w K tg (xp K a) [it] it (fun i h=>h.IsTupleIter it a i) where
  mem:=by simp
  obj:=fun i h st b hb=>by
    have e:b=it:=by simpa using hb
    subst e
    obtain ⟨o,e,c,d⟩:=st
    exact ⟨o,e,fun v z=>by rw [d] at z;cases z⟩
  keep:=fun i h h' st k=>st.at fun o e=>k it (by simp) o e
  item:=by
    intro X hP hw hK hc i pins s σ H E I hf st hg
    subst hP hw hK
    obtain ⟨xs,x,hq,hx⟩:=hg
    obtain ⟨its,rv,p,hz⟩:=I.tuple hq
    obtain ⟨u,hu,ru⟩:=rv.get hx
    obtain ⟨f0,f1,f2,f3,f4,f5⟩:=hf it (by simp)
    refine wpAny_pyNext_tuple_item st (show s.heap.IsTuple a its.toArray from p) (x:=u) (by simpa using hu) fun h' st' sb=>?_
    have I1:Inv X pins σ H {s with heap:=h'}:=I.turned (t':=s.toks) (fun b o hb e=>(sb.2 b hb).trans e) f0 f1 f3 f4 f5
    obtain ⟨o,e,c,d⟩:=id st'
    exact ⟨u,rfl,ma (s:={s with heap:=h'}) e c d (by decide) ⟨x,H,I1,ru,⟨rfl,fun ys hy=>by rw [I.tuple_inj hy hq];exact hx⟩,st',fun b hb=>(hf b hb).1⟩⟩
  done:=by
    intro X hP hw hK hc i pins s σ H E I hf st hg
    subst hP hw hK
    obtain ⟨xs,hq,hx⟩:=hg
    obtain ⟨its,rv,p,hz⟩:=I.tuple hq
    obtain ⟨f0,f1,f2,f3,f4,f5⟩:=hf it (by simp)
    have hl:=rv.length
    exact wpAny_pyNext_tuple_end (I.ok.hd hc) st (show s.heap.IsTuple a its.toArray from p) (by simp;omega) fun h' eb=>⟨rfl,I.turned (t':=s.toks) (fun b o hb e=>eb b o hb e) f0 f1 f3 f4 f5⟩
  self:=fun _ _ _ _ _ st h=>wpAny_pyIter_tupleiter st h
theorem m9 {P:Program} {w:World} {K:PySem.W.Frag} {tg:Expr} (it:Addr) (lo:Int) (n:Nat):Turn P w K tg (wY lo n) [it] it (fun i h=>IsRangeIter h it (lo+(i:Nat)*1) ((n:Int) - (i:Nat)) 1) where
  mem:=by simp
  obj:=fun i h st b hb=>by
    have e:b=it:=by simpa using hb
    subst e
    exact ⟨_,st,fun v z=>by
      have z':Data.fields _=Data.cell v:=z
      cases z'⟩
  keep:=fun i h h' st k=>k it (by simp) _ st
  item:=by
    intro X hP hw hK hc i pins s σ H E I hf st hg
    subst hP hw hK
    obtain ⟨f0,f1,f2,f3,f4,f5⟩:=hf it (by simp)
    have W:=Walks.range (prog:=X.prog) (w:=X.w) (I.ok.hd hc) it lo 1 n
    refine W.item i s _ _ hg st fun v h' tk hv st' kk=>?_
    obtain ⟨t,rfl⟩:=hv
    have I1:Inv X pins σ H {s with heap:=h',toks:=tk}:=I.turned (fun b o hb e=>kk b o (by simpa using hb) e) f0 f1 f3 f4 f5
    refine ⟨_,rfl,ma (s:={s with heap:=h',toks:=tk}) (n:="range_iterator") st' rfl rfl (by decide) ⟨.int (lo+i),H,I1,⟨t,?_⟩,⟨rfl,rfl⟩,st',fun b hb=>(hf b hb).1⟩⟩
    rw [Int.mul_one]
  done:=by
    intro X hP hw hK hc i pins s σ H E I hf st hg
    subst hP hw hK
    obtain ⟨f0,f1,f2,f3,f4,f5⟩:=hf it (by simp)
    exact wpAny_pyNext_range_end (I.ok.hd hc) st (by have:n≤i:=hg;omega) fun h' eb=>⟨rfl,I.turned (t':=s.toks) (fun b o hb e=>eb b o hb e) f0 f1 f3 f4 f5⟩
  self:=fun _ _ _ _ _ st h=>wpAny_pyIter_rangeiter st h
end L2
namespace L2
open PySem PySem.Spec PyProof.Rows
section
variable {X:Cx} {tg:Expr}
def v_ (K:PySem.W.Frag) (tl:TE):TI:=fun σ H R=>tl σ H fun x H1=>∃a,x= .ref a∧(∃xs,SqL K H1 a xs)∧R (vV K a) H1
def xq (K:PySem.W.Frag) (tl:TE):TI:=fun σ H R=>tl σ H fun x H1=>∃a,x= .ref a∧(∃xs,SqT K H1 a xs)∧R (xp K a) H1
theorem oj {l:Expr} {tl:TE} (hl:PE X l tl):PI X tg l (v_ X.K tl):=by
  intro pins s σ H R I h
  refine en (hl pins s σ H _ I h) fun v s1 ⟨x,H1,I1,r1,q1⟩=>?_
  obtain ⟨a,e,⟨xs,hq⟩,q⟩:=q1
  subst e
  cases r1
  obtain ⟨its,rv,p,hz⟩:=I1.list hq
  refine wpAny_pyIter_list p.isList ?_
  refine ⟨s1.heap.objs.size,[s1.heap.objs.size],_,_,H1,rfl,I1.kept (t':=s1.toks) fun b o e=>Heap.get?_push_of_some _ e,pG a _,⟨_,Heap.get?_push_size _ rfl,rfl,rfl⟩,fun b hb=>?_,q⟩
  have e:b=s1.heap.objs.size:=by simpa using hb
  subst e
  exact I1.fpOk (Nat.le_refl _) (I1.hok.fresh (Nat.le_refl _))
theorem uR {l:Expr} {tl:TE} (hl:PE X l tl):PI X tg l (xq X.K tl):=by
  intro pins s σ H R I h
  refine en (hl pins s σ H _ I h) fun v s1 ⟨x,H1,I1,r1,q1⟩=>?_
  obtain ⟨a,e,⟨xs,hq⟩,q⟩:=q1
  subst e
  cases r1
  obtain ⟨its,rv,p,hz⟩:=I1.tuple hq
  refine wpAny_pyIter_tuple (show s1.heap.IsTuple a its.toArray from p) ?_
  refine ⟨s1.heap.objs.size,[s1.heap.objs.size],_,_,H1,rfl,I1.kept (t':=s1.toks) fun b o e=>Heap.get?_push_of_some _ e,m8 a _,⟨_,Heap.get?_push_size _ rfl,rfl,rfl⟩,fun b hb=>?_,q⟩
  have e:b=s1.heap.objs.size:=by simpa using hb
  subst e
  exact I1.fpOk (Nat.le_refl _) (I1.hok.fresh (Nat.le_refl _))
theorem qv {pins:List (Addr×Obj)} {σ:St} {H:Hp} {s:Shared} {R:It→Hp→Prop} {E:Value→Shared→Prop} {lo hi:Int} {t u v:Tok} {tk:Nat} (I:Inv X pins σ H s) (h1: -(2 ^ 62)≤lo) (h2:lo < 2 ^ 62) (h3: -(2 ^ 62)≤hi) (h4:hi < 2 ^ 62)
    (q:R (wY lo (hi - lo).toNat) H):wpAny (model X.prog X.w) X.A (pyIter (.ref s.heap.objs.size)) (xQ X pins σ tg R) E {s with heap:=s.heap.push {cls:= .type "range",data:= .fields #[.int lo t, .int hi u, .int 1 v]},toks:=tk}:=by
  refine wpAny_pyIter_range (IsRange.new ..) (small_one h1 h2 h3 h4) ?_
  have I1:Inv X pins σ H {s with heap:=s.heap.push {cls:= .type "range",data:= .fields #[.int lo t, .int hi u, .int 1 v]},toks:=tk}:=I.kept fun b o e=>Heap.get?_push_of_some _ e
  refine ⟨(s.heap.push {cls:= .type "range",data:= .fields #[.int lo t, .int hi u, .int 1 v]}).objs.size,[(s.heap.push {cls:= .type "range",data:= .fields #[.int lo t, .int hi u, .int 1 v]}).objs.size],_,_,H,rfl,
    I1.kept (t':=tk) fun b o e=>Heap.get?_push_of_some _ e,m9 _ lo (hi - lo).toNat,?_,fun b hb=>?_,q⟩
  · have e1:lo+((0:Nat):Int)*1=lo:=by simp
    have e2:(((hi - lo).toNat:Nat):Int) - ((0:Nat):Int)=Builtin.Range.rangeSize lo hi 1:=by rw [rangeSize_one];split <;> omega
    show IsRangeIter _ _ (lo+((0:Nat):Int)*1) ((((hi - lo).toNat:Nat):Int) - ((0:Nat):Int)) 1
    rw [e1,e2]
    exact Heap.get?_push_size _ rfl
  · have e:b=(s.heap.push {cls:= .type "range",data:= .fields #[.int lo t, .int hi u, .int 1 v]}).objs.size:=by simpa using hb
    subst e
    exact I1.fpOk (Nat.le_refl _) (I1.hok.fresh (Nat.le_refl _))
def wa (ta:TA):TI:=fun σ H R=>ta σ H fun vs H1=>∃j:Int,vs=[.int j]∧ -(2 ^ 62)≤j∧j < 2 ^ 62∧R (wY 0 j.toNat) H1
theorem pH {a:Expr} {ta:TA} {p pos:Pos} (hg:Gl X "range") (hm:X.mg "range"=none) (ha:PA X [a] ta) (hs:starEach [a] X.env=[(false,eval a X.env)]:=by rfl):PI X tg (.Call (.Name "range" p) [a] [] pos) (wa ta):=by
  intro pins s σ H R I h
  refine Call_ (iS I hg hm boot_range (PyProof.Rows.callWith_type1 (en (ha pos pins s σ H _ I h) fun us s1 ⟨vs,H1,I1,r1,q1⟩=>?_) hs rfl))
  obtain ⟨j,e,q1,q2,q⟩:=q1
  subst e
  cases r1 with
  | cons r rr=>
    cases rr
    obtain ⟨t,rfl⟩:=r
    exact call_range_1 (qv I1 (by omega) (by omega) q1 q2 (by simpa using q))
def wb (wi:TI) (g:TG) (tb:TS):TS:=fun D σ H=>wi σ H fun J H1=>∃W:Nat→Nat→St→Hp→Prop,(∃m,W 0 m σ H1)∧∀i m σ H,W i m σ H→
  (J.stop i H∧D.nx σ H)∨(J.go i H∧∃N:St→Hp→Prop,(∀σ' H',N σ' H'→∃m',m' < m∧W (i+1) m' σ' H')∧∀x H',J.yld i H x H'→g x σ H' fun σ2 H2=>tb {D with nx:=N,ct:=N,bk:=D.nx} σ2 H2)
def jI (fp:List Addr) (h:Heap):List (Addr×Obj):=fp.filterMap fun b=>(h.get? b).map fun o=>(b,o)
theorem gn {fp:List Addr} {h:Heap} {b:Addr} {o:Obj} (hb:b∈fp) (e:h.get? b=some o):(b,o)∈jI fp h:=List.mem_filterMap.mpr ⟨b,hb,by rw [e];rfl⟩
theorem pI {fp:List Addr} {h:Heap} {p:Addr×Obj} (hp:p∈jI fp h):p.1∈fp∧h.get? p.1=some p.2:=by
  obtain ⟨b,hb,e⟩:=List.mem_filterMap.mp hp
  cases q:h.get? b with
  | none=>rw [q] at e;cases e
  | some o=>
    rw [q] at e
    have e':(b,o)=p:=Option.some.inj e
    subst e'
    exact ⟨hb,q⟩
theorem Inv.pinned {pins:List (Addr×Obj)} {σ:St} {H:Hp} {s:Shared} {fp:List Addr} (I:Inv X pins σ H s) (hf:∀b∈fp,j9 X pins H b) (ho:∀b∈fp,∃o,s.heap.get? b=some o∧∀v,o.data≠ .cell v):Inv X (pins++jI fp s.heap) σ H s:=
  I.pins_of fun p hp=>(List.mem_append.mp hp).elim (fun z=>I.pin p (List.mem_append_right _ z)) fun z=>by
    obtain ⟨hb,e⟩:=pI z
    obtain ⟨f0,f1,f2,_⟩:=hf p.1 hb
    obtain ⟨o,e',d⟩:=ho p.1 hb
    rw [e] at e';cases e'
    exact ⟨e,f0,f1,f2,d⟩
theorem Inv.unpinned {pins pl:List (Addr×Obj)} {σ:St} {H:Hp} {s:Shared} (I:Inv X (pins++pl) σ H s):Inv X pins σ H s:=I.pins_of fun p hp=>I.pin p (List.mem_append_right _ (List.mem_append_left _ hp))
theorem kR {iter:Expr} {body:List Stmt} {wi:TI} {g:TG} {tb:TS} {pos:Pos} (hp:PassesOwn (model X.prog X.w) X.A X.env X.xe) (hc:X.calm=true) (hi:PI X tg iter wi) (hg:PG X tg g) (hb:PSs X body tb)
    (hs:∀x,foldedSetIterable iter X.env x=pure x:=by intro _;rfl):PS X (.For tg iter body [] pos) (wb wi g tb):=by
  intro pins s σ H D I h
  refine wpAny_For (en (hi pins s σ H _ I h) fun v s1 h1=>en h1 fun itv s2 h2=>?_) hs
  obtain ⟨it,fp,tn,J,H2,e,I2,T,st2,f2,W,⟨m0,w0⟩,turn⟩:=h2
  subst e
  -- what stays true of the iterator's objects through the pD
  have stat:∀{H':Hp},(∀b∈fp,H' b=none)→∀b∈fp,j9 X pins H' b:=fun hn b hb=>⟨hn b hb,(f2 b hb).2⟩
  refine codeAny_forLoop_any (fun n s'=>∃i σ' H',Inv X pins σ' H' s'∧tn i s'.heap∧(∀b∈fp,H' b=none)∧W i n σ' H') ?_ m0 ⟨0,σ,H2,I2,st2,fun b hb=>(f2 b hb).1,w0⟩
  rintro n s3 ⟨i,σ3,H3,I3,st3,fr3,w3⟩
  rcases turn i n σ3 H3 w3 with ⟨stop,qn⟩ | ⟨go,N,hN,step⟩
  · refine wpAny_passesOwn hp (en (T.done X rfl rfl rfl hc i pins s3 σ3 H3 X.xe I3 (stat fr3) st3 stop) fun r s4 ⟨hr,I4⟩=>?_)
    subst hr
    exact wpAny_execs_nil ⟨σ3,H3,I4,qn⟩
  · refine wpAny_passesOwn hp (en (T.item X rfl rfl rfl hc i pins s3 σ3 H3 X.xe I3 (stat fr3) st3 go) fun r s4 ⟨u,hr,h4⟩=>?_)
    subst hr
    refine wpAny_passesOwn hp (en h4 fun _ s5 ⟨x,H5,I5,r5,y5,st5,fr5⟩=>?_)
    have I5':=I5.pinned (stat fr5) (T.obj _ _ st5)
    refine wpAny_passesOwn hp (en (hg _ s5 σ3 H5 x u _ I5' r5 (step x H5 y5)) fun _ s6 ⟨σ6,H6,I6,q6⟩=>?_)
    refine wpAny_passesOwn hp (en (hb _ s6 σ6 H6 _ I6 q6) fun f s7 q7=>?_)
    have again:∀{σ7:St} {H7:Hp},Inv X (pins++jI fp s5.heap) σ7 H7 s7→N σ7 H7→∃m,m < n∧∃i σ' H',Inv X pins σ' H' s7∧tn i s7.heap∧(∀b∈fp,H' b=none)∧W i m σ' H':=fun {σ7 H7} I7 n7=>by
      obtain ⟨m',hm,w7⟩:=hN σ7 H7 n7
      refine ⟨m',hm,i+1,σ7,H7,I7.unpinned,T.keep _ _ _ st5 fun b hb o e=>(I7.pin (b,o) (List.mem_append_right _ (List.mem_append_right _ (gn hb e)))).1,fun b hb=>?_,w7⟩
      obtain ⟨o,e,d⟩:=T.obj _ _ st5 b hb
      exact (I7.pin (b,o) (List.mem_append_right _ (List.mem_append_right _ (gn hb e)))).2.1
    cases f with
    | next=>obtain ⟨σ7,H7,I7,n7⟩:=q7;exact again I7 n7
    | cont=>obtain ⟨σ7,H7,I7,n7⟩:=q7;exact again I7 n7
    | brk=>obtain ⟨σ7,H7,I7,q7⟩:=q7;exact ⟨σ7,H7,I7.unpinned,q7⟩
    | ret v=>obtain ⟨x7,σ7,H7,I7,r7,q7⟩:=q7;exact ⟨x7,σ7,H7,I7.unpinned,r7,q7⟩
end
theorem qw {K:PySem.W.Frag} {a:Addr} {xs:List V} {g:TG} {tb:TS} {D:Ends} {σ:St} {H:Hp} (Pv:Nat→St→Hp→Prop) (h0:Pv 0 σ H) (hl:∀i σ H,i≤xs.length→Pv i σ H→SqL K H a xs)
    (hs:∀i x σ H,xs[i]? =some x→Pv i σ H→g x σ H fun σ2 H2=>tb {D with nx:=Pv (i+1),ct:=Pv (i+1),bk:=D.nx} σ2 H2) (hd:∀σ H,Pv xs.length σ H→D.nx σ H):
    ∃W:Nat→Nat→St→Hp→Prop,(∃m,W 0 m σ H)∧∀i m σ H,W i m σ H→
      ((vV K a).stop i H∧D.nx σ H)∨((vV K a).go i H∧∃N:St→Hp→Prop,(∀σ' H',N σ' H'→∃m',m' < m∧W (i+1) m' σ' H')∧∀x H',(vV K a).yld i H x H'→g x σ H' fun σ2 H2=>tb {D with nx:=N,ct:=N,bk:=D.nx} σ2 H2):=by
  refine ⟨fun i m σ H=>m=xs.length - i∧i≤xs.length∧Pv i σ H,⟨xs.length,by simp,Nat.zero_le _,h0⟩,?_⟩
  rintro i m σ H ⟨rfl,hi,p⟩
  have q:=hl i σ H hi p
  by_cases hlt:i < xs.length
  · refine .inr ⟨⟨xs,xs[i],q,by simp [hlt]⟩,Pv (i+1),fun σ' H' p'=>⟨xs.length - (i+1),by omega,rfl,hlt,p'⟩,fun x H' y=>?_⟩
    obtain ⟨e,y⟩:=y
    subst e
    exact hs i x σ _ (y xs q) p
  · have e:i=xs.length:=by omega
    subst e
    exact .inl ⟨⟨xs,q,Nat.le_refl _⟩,hd σ H p⟩
end L2
namespace L2
open PySem PySem.Spec PyProof.Rows
abbrev R2:=V→V→Hp→VK→Prop
def OpR (X:Cx) (f:Value→Value→Sem Value) (r:R2):Prop:=
  ∀(pins:List (Addr×Obj)) (s:Shared) (σ:St) (H:Hp) (x y:V) (v u:Value) (Q:VK),Inv X pins σ H s→RelV x v→RelV y u→r x y H Q→
    wpAny (model X.prog X.w) X.A (f v u) (EP X pins σ Q) X.xe s
def xr (X:Cx) (f:Value→Sem Value) (r:V→Hp→VK→Prop):Prop:=
  ∀(pins:List (Addr×Obj)) (s:Shared) (σ:St) (H:Hp) (x:V) (v:Value) (Q:VK),Inv X pins σ H s→RelV x v→r x H Q→
    wpAny (model X.prog X.w) X.A (f v) (EP X pins σ Q) X.xe s
def CallR (X:Cx) (f:Value) (r:List V→Hp→VK→Prop):Prop:=
  ∀(pins:List (Addr×Obj)) (s:Shared) (σ:St) (H:Hp) (xs:List V) (us:List Value) (Q:VK),Inv X pins σ H s→Vals xs us→r xs H Q→
    wpAny (model X.prog X.w) X.A (call f us) (EP X pins σ Q) X.xe s
def xt (X:Cx) (r:V→Hp→(Bool→Hp→Prop)→Prop):Prop:=
  ∀(pins:List (Addr×Obj)) (s:Shared) (σ:St) (H:Hp) (x:V) (v:Value) (Q:Bool→Hp→Prop),Inv X pins σ H s→RelV x v→r x H Q→
    wpAny (model X.prog X.w) X.A (truthy v) (TP X pins σ Q) X.xe s
def om (r:R2) (ta tb:TE):TE:=fun σ H Q=>ta σ H fun x H1=>tb σ H1 fun y H2=>r x y H2 Q
def xR (r:V→Hp→VK→Prop) (ta:TE):TE:=fun σ H Q=>ta σ H fun x H1=>r x H1 Q
def rI (C:Int→Int→Prop) (g:Int→Int→V):R2:=fun x y H Q=>∃i j,x= .int i∧y= .int j∧C i j∧Q (g i j) H
def sC (g:Int→Int→V):R2:=fun x y H Q=>∃i j,x= .int i∧y= .int j∧Q (g i j) H
def rU (g:Int→V):V→Hp→VK→Prop:=fun x H Q=>∃i,x= .int i∧Q (g i) H
section
variable {X:Cx} {a b c:Expr} {ta tb tc:TE} {pos:Pos}
theorem uS (ha:PE X a ta) (hb:PE X b tb) {pins:List (Addr×Obj)} {s:Shared} {σ:St} {H:Hp} {R:V→V→Hp→Prop} (I:Inv X pins σ H s)
    (h:ta σ H fun x H1=>tb σ H1 fun y H2=>R x y H2) {Q:Value→Shared→Prop} {f:Value→Value→Sem Value}
    (hf:∀v u s2 x y H2,Inv X pins σ H2 s2→RelV x v→RelV y u→R x y H2→wpAny (model X.prog X.w) X.A (f v u) Q X.xe s2):
    wpAny (model X.prog X.w) X.A (eval a X.env) (fun v s₁=>wpAny (model X.prog X.w) X.A (eval b X.env) (fun u s₂=>wpAny (model X.prog X.w) X.A (f v u) Q X.xe s₂) X.xe s₁) X.xe s:=by
  refine en (ha pins s σ H _ I h) fun v s1 ⟨x,H1,I1,r1,q1⟩=>?_
  refine en (hb pins s1 σ H1 _ I1 q1) fun u s2 ⟨y,H2,I2,r2,q2⟩=>?_
  exact hf v u s2 x y H2 I2 r1 r2 q2
theorem qx {op:Operator} {r:R2} (ho:OpR X (binaryOp op) r) (ha:PE X a ta) (hb:PE X b tb):PE X (.BinOp a op b pos) (om r ta tb):=by
  intro pins s σ H Q I h
  exact wpAny_BinOp (uS ha hb I h fun v u s2 x y H2 I2 rx ry q=>ho pins s2 σ H2 x y v u Q I2 rx ry q)
theorem on {op:UnaryOp} {r:V→Hp→VK→Prop} (ho:xr X (unaryOp op) r) (ha:PE X a ta):PE X (.UnaryOp op a pos) (xR r ta):=by
  intro pins s σ H Q I h
  exact UnaryOp_ (en (ha pins s σ H _ I h) fun v s1 ⟨x,H1,I1,r1,q1⟩=>ho pins s1 σ H1 x v Q I1 r1 q1)
theorem wZ {f:Value→Value→Sem Value} {C:Int→Int→Prop} {g:Int→Int→Int}
    (rule:∀(i j:Int) (t u:Tok) (s:Shared) (Q:Value→Shared→Prop) (E:Value→Shared→Prop),C i j→Q (.int (g i j) s.toks) {s with toks:=s.toks+1}→wpAny (model X.prog X.w) X.A (f (.int i t) (.int j u)) Q E s):
    OpR X f (rI C fun i j=> .int (g i j)):=by
  intro pins s σ H x y v u Q I rx ry h
  obtain ⟨i,j,rfl,rfl,hc,q⟩:=h
  obtain ⟨t,rfl⟩:=rx
  obtain ⟨t',rfl⟩:=ry
  exact rule i j t t' s _ _ hc ⟨.int (g i j),H,I.tok _,⟨_,rfl⟩,q⟩
theorem wc {f:Value→Value→Sem Value} {g:Int→Int→Int}
    (rule:∀(i j:Int) (t u:Tok) (s:Shared) (Q:Value→Shared→Prop) (E:Value→Shared→Prop),Q (.int (g i j) s.toks) {s with toks:=s.toks+1}→wpAny (model X.prog X.w) X.A (f (.int i t) (.int j u)) Q E s):
    OpR X f (sC fun i j=> .int (g i j)):=by
  intro pins s σ H x y v u Q I rx ry h
  obtain ⟨i,j,rfl,rfl,q⟩:=h
  obtain ⟨t,rfl⟩:=rx
  obtain ⟨t',rfl⟩:=ry
  exact rule i j t t' s _ _ ⟨.int (g i j),H,I.tok _,⟨_,rfl⟩,q⟩
theorem sD {f:Value→Value→Sem Value} {g:Int→Int→Bool}
    (rule:∀(i j:Int) (t u:Tok) (s:Shared) (Q:Value→Shared→Prop) (E:Value→Shared→Prop),Q (.bool (g i j)) s→wpAny (model X.prog X.w) X.A (f (.int i t) (.int j u)) Q E s):
    OpR X f (sC fun i j=> .bl (g i j)):=by
  intro pins s σ H x y v u Q I rx ry h
  obtain ⟨i,j,rfl,rfl,q⟩:=h
  obtain ⟨t,rfl⟩:=rx
  obtain ⟨t',rfl⟩:=ry
  exact rule i j t t' s _ _ ⟨.bl (g i j),H,I,rfl,q⟩
def wd (i j:Int):Prop:=0≤j∧j≤1000000∧i.natAbs < 2 ^ 64
def CMul (i j:Int):Prop:=(-(2 ^ 64) < i∧i < 2 ^ 64)∨(-(2 ^ 64) < j∧j < 2 ^ 64)
theorem CMul.ok {i j:Int} (h:CMul i j):IntMulOk i j:=by
  rcases h with ⟨h1,h2⟩ | ⟨h1,h2⟩
  · exact .of_left (intBits_le_64 h1 h2)
  · exact .of_right (intBits_le_64 h1 h2)
theorem m_:OpR X (binaryOp .Add) (sC fun i j=> .int (i+j)):=wc fun _ _ _ _ _ _ _ q=>add_int q
theorem uT:OpR X (binaryOp .Sub) (sC fun i j=> .int (i - j)):=wc fun _ _ _ _ _ _ _ q=>sub_int q
theorem uU:OpR X (binaryOp .Mod) (rI (fun _ j=>0 < j) fun i j=> .int (i % j)):=wZ fun i j _ _ _ _ _ hc q=>by
  have h1:(0:Int) < j:=hc
  exact mod_int' (by omega) (by rw [Int.fmod_eq_emod_of_nonneg i (by omega)];exact q)
theorem uV:OpR X (binaryOp .Pow) (rI wd fun i j=> .int (i ^ j.toNat)):=wZ fun _ _ _ _ _ _ _ hc q=>pow_int_small hc.1 hc.2.1 hc.2.2 q
theorem ye {f:Value→Sem Value} {g:Int→Int}
    (rule:∀(i:Int) (t:Tok) (s:Shared) (Q:Value→Shared→Prop) (E:Value→Shared→Prop),Q (.int (g i) s.toks) {s with toks:=s.toks+1}→wpAny (model X.prog X.w) X.A (f (.int i t)) Q E s):
    xr X f (rU fun i=> .int (g i)):=by
  intro pins s σ H x v Q I rx h
  obtain ⟨i,rfl,q⟩:=h
  obtain ⟨t,rfl⟩:=rx
  exact rule i t s _ _ ⟨.int (g i),H,I.tok _,⟨_,rfl⟩,q⟩
theorem kS:xr X (unaryOp .USub) (rU fun i=> .int (-i)):=ye fun _ _ _ _ _ q=>neg_int q
end
def uW:V→V→Bool
  | .non, .non=>true | .non, .int _=>true | .int _, .non=>true | .non, .bl _=>true | .bl _, .non=>true | .non, .str _=>true | .str _, .non=>true
  | .int _, .int _=>true | .bl _, .bl _=>true | .str _, .str _=>true | .byt _, .byt _=>true
  | .int _, .str _=>true | .str _, .int _=>true | .bl _, .str _=>true | .str _, .bl _=>true
  | _,_=>false
def w_:R2:=fun x y H Q=>uW x y=true∧Q (.bl (decide (x=y))) H
def xS:R2:=fun x y H Q=>uW x y=true∧Q (.bl (!decide (x=y))) H
theorem oo {i j:Int}:decide (V.int i=V.int j)=(i == j):=by
  rw [Bool.eq_iff_iff]
  simp
theorem qy {i j:Bool}:decide (V.bl i=V.bl j)=(i == j):=by
  rw [Bool.eq_iff_iff]
  simp
theorem oq {i j:Str}:decide (V.str i=V.str j)=(i == j):=by
  rw [Bool.eq_iff_iff]
  simp
theorem ot {i j:Array UInt8}:decide (V.byt i=V.byt j)=(i.toList == j.toList):=by
  rw [Bool.eq_iff_iff]
  cases i
  cases j
  simp
section
variable {X:Cx} {a b c:Expr} {ta tb tc:TE} {pos:Pos}
theorem aX {pins:List (Addr×Obj)} {σ:St} {H:Hp} {s:Shared} {Q:VK} {k k':Bool} (I:Inv X pins σ H s) (q:Q (.bl k) H) (e:k=k'):EP X pins σ Q (.bool k') s:=by
  subst e
  exact ⟨.bl k,H,I,rfl,q⟩
theorem kh:OpR X (compareOp .Eq) w_:=by
  intro pins s σ H x y v u Q I rx ry h
  obtain ⟨hs,q⟩:=h
  cases x with
  | non=>
    cases rx
    cases y with
    | non=>cases ry;exact PySem.EqNone.eq_none_none (aX I q (by simp))
    | bl j=>cases ry;exact PySem.EqNone.eq_none_bool (aX I q (by simp))
    | int j=>obtain ⟨t',rfl⟩:=ry;exact PySem.EqNone.eq_none_int (aX I q (by simp))
    | str j=>obtain ⟨t',rfl⟩:=ry;exact PySem.EqNone.eq_none_str (aX I q (by simp))
    | _=>exact absurd (show false=true from hs) Bool.false_ne_true
  | bl i=>
    cases rx
    cases y with
    | non=>cases ry;exact PySem.EqNone.eq_bool_none (aX I q (by simp))
    | bl j=>cases ry;exact eq_bool (aX I q qy)
    | str j=>obtain ⟨t',rfl⟩:=ry;exact PySem.EqMixed.eq_bool_str (aX I q (by simp))
    | _=>exact absurd (show false=true from hs) Bool.false_ne_true
  | int i=>
    obtain ⟨t,rfl⟩:=rx
    cases y with
    | non=>cases ry;exact PySem.EqNone.eq_int_none (aX I q (by simp))
    | int j=>obtain ⟨t',rfl⟩:=ry;exact eq_int (aX I q oo)
    | str j=>obtain ⟨t',rfl⟩:=ry;exact PySem.EqMixed.eq_int_str (aX I q (by simp))
    | _=>exact absurd (show false=true from hs) Bool.false_ne_true
  | str i=>
    obtain ⟨t,rfl⟩:=rx
    cases y with
    | non=>cases ry;exact PySem.EqNone.eq_str_none (aX I q (by simp))
    | bl j=>cases ry;exact PySem.EqMixed.eq_str_bool (aX I q (by simp))
    | int j=>obtain ⟨t',rfl⟩:=ry;exact PySem.EqMixed.eq_str_int (aX I q (by simp))
    | str j=>obtain ⟨t',rfl⟩:=ry;exact eq_str (aX I q oq)
    | _=>exact absurd (show false=true from hs) Bool.false_ne_true
  | byt i=>
    obtain ⟨t,rfl⟩:=rx
    cases y with
    | byt j=>obtain ⟨t',rfl⟩:=ry;exact PySem.W.eq_bytes (aX I q ot)
    | _=>exact absurd (show false=true from hs) Bool.false_ne_true
  | _=>cases y <;> exact absurd (show false=true from hs) Bool.false_ne_true
theorem we:OpR X (compareOp .NotEq) xS:=by
  intro pins s σ H x y v u Q I rx ry h
  obtain ⟨hs,q⟩:=h
  cases x with
  | non=>
    cases rx
    cases y with
    | non=>cases ry;exact PySem.EqNone.ne_none_none (aX I q (by simp))
    | bl j=>cases ry;exact PySem.EqNone.ne_none_bool (aX I q (by simp))
    | int j=>obtain ⟨t',rfl⟩:=ry;exact PySem.EqNone.ne_none_int (aX I q (by simp))
    | str j=>obtain ⟨t',rfl⟩:=ry;exact PySem.EqNone.ne_none_str (aX I q (by simp))
    | _=>exact absurd (show false=true from hs) Bool.false_ne_true
  | bl i=>
    cases rx
    cases y with
    | non=>cases ry;exact PySem.EqNone.ne_bool_none (aX I q (by simp))
    | bl j=>cases ry;exact ne_bool (aX I q (congrArg not qy))
    | str j=>obtain ⟨t',rfl⟩:=ry;exact PySem.EqMixed.ne_bool_str (aX I q (by simp))
    | _=>exact absurd (show false=true from hs) Bool.false_ne_true
  | int i=>
    obtain ⟨t,rfl⟩:=rx
    cases y with
    | non=>cases ry;exact PySem.EqNone.ne_int_none (aX I q (by simp))
    | int j=>obtain ⟨t',rfl⟩:=ry;exact ne_int (aX I q (congrArg not oo))
    | str j=>obtain ⟨t',rfl⟩:=ry;exact PySem.EqMixed.ne_int_str (aX I q (by simp))
    | _=>exact absurd (show false=true from hs) Bool.false_ne_true
  | str i=>
    obtain ⟨t,rfl⟩:=rx
    cases y with
    | non=>cases ry;exact PySem.EqNone.ne_str_none (aX I q (by simp))
    | bl j=>cases ry;exact PySem.EqMixed.ne_str_bool (aX I q (by simp))
    | int j=>obtain ⟨t',rfl⟩:=ry;exact PySem.EqMixed.ne_str_int (aX I q (by simp))
    | str j=>obtain ⟨t',rfl⟩:=ry;exact ne_str (aX I q (congrArg not oq))
    | _=>exact absurd (show false=true from hs) Bool.false_ne_true
  | byt i=>
    obtain ⟨t,rfl⟩:=rx
    cases y with
    | byt j=>obtain ⟨t',rfl⟩:=ry;exact PySem.W.ne_bytes (aX I q (congrArg not ot))
    | _=>exact absurd (show false=true from hs) Bool.false_ne_true
  | _=>cases y <;> exact absurd (show false=true from hs) Bool.false_ne_true
theorem wf:OpR X (compareOp .Lt) (sC fun i j=> .bl (decide (i < j))):=sD fun _ _ _ _ _ _ _ q=>lt_int q
theorem wg:OpR X (compareOp .LtE) (sC fun i j=> .bl (decide (i≤j))):=sD fun _ _ _ _ _ _ _ q=>le_int q
theorem wj:OpR X (compareOp .Gt) (sC fun i j=> .bl (decide (j < i))):=sD fun _ _ _ _ _ _ _ q=>gt_int q
theorem wk:OpR X (compareOp .GtE) (sC fun i j=> .bl (decide (j≤i))):=sD fun _ _ _ _ _ _ _ q=>ge_int q
theorem pJ:OpR X (compareOp .Lt) (fun x y H Q=>∃i j,x= .str i∧y= .str j∧Q (.bl (decide (i.cps.toList < j.cps.toList))) H):=by
  intro pins s σ H x y v u Q I rx ry h
  obtain ⟨i,j,rfl,rfl,q⟩:=h
  obtain ⟨t,rfl⟩:=rx
  obtain ⟨t',rfl⟩:=ry
  exact lt_str (aX I q rfl)
theorem OpR.or {f:Value→Value→Sem Value} {r r':R2} (h:OpR X f r) (h':OpR X f r'):OpR X f (fun x y H Q=>r x y H Q∨r' x y H Q):=by
  intro pins s σ H x y v u Q I rx ry q
  rcases q with q | q
  · exact h pins s σ H x y v u Q I rx ry q
  · exact h' pins s σ H x y v u Q I rx ry q
theorem gK (b:Expr) {op:CmpOp} (h:op≠ .In:=by decide) (h2:op≠ .NotIn:=by decide):behindInMarks op b=false:=by
  have e1:(op == CmpOp.In)=false:=by cases op <;> first | rfl | exact absurd rfl h
  have e2:(op == CmpOp.NotIn)=false:=by cases op <;> first | rfl | exact absurd rfl h2
  cases b <;> simp [behindInMarks,e1,e2]
theorem sE {op:CmpOp} {r:R2} (ho:OpR X (compareOp op) r) (ha:PE X a ta) (hb:PE X b tb) (hm:behindInMarks op b=false):PE X (.Compare a [op] [b] pos) (om r ta tb):=by
  intro pins s σ H Q I h
  exact wpAny_Compare1 (uS ha hb I h fun v u s2 x y H2 I2 rx ry q=>ho pins s2 σ H2 x y v u Q I2 rx ry q) hm
def ou (t:TE):TT:=fun σ H Q=>t σ H fun x H'=>∃k,x= .bl k∧Q k H'
theorem g6 {op:CmpOp} {r:R2} (ho:OpR X (compareOp op) r) (ha:PE X a ta) (hb:PE X b tb) (hm:behindInMarks op b=false):PT X (.Compare a [op] [b] pos) (ou (om r ta tb)):=by
  intro pins s σ H Q I h
  refine wpAny_isTrue_Compare1 (en (ha pins s σ H _ I h) fun v s1 ⟨x,H1,I1,r1,q1⟩=>en (hb pins s1 σ H1 _ I1 q1) fun u s2 ⟨y,H2,I2,r2,q2⟩=>
    en (ho pins s2 σ H2 x y v u _ I2 r1 r2 q2) fun c s3 ⟨z,H3,I3,r3,k,e,q3⟩=>?_) hm
  subst e
  cases r3
  exact wpAny_truthy_bool ⟨H3,I3,q3⟩
def qz (r r':R2) (ta tb tc:TE):TE:=fun σ H Q=>ta σ H fun x H1=>tb σ H1 fun y H2=>r x y H2 fun z H3=>∃k,z= .bl k∧
  (if k=true then tc σ H3 fun w' H4=>r' y w' H4 Q else Q (.bl false) H3)
theorem qA {op op':CmpOp} {r r':R2} (ho:OpR X (compareOp op) r) (ho':OpR X (compareOp op') r') (ha:PE X a ta) (hb:PE X b tb) (hc:PE X c tc)
    (hm:lastMarks [op,op'] [b,c]=false:=by with_unfolding_all rfl):PT X (.Compare a [op,op'] [b,c] pos) (ou (qz r r' ta tb tc)):=by
  intro pins s σ H Q I h
  refine isTrue_chain (en (ha pins s σ H _ I h) fun v s1 ⟨x,H1,I1,r1,q1⟩=>test_link (en (hb pins s1 σ H1 _ I1 q1) fun u s2 ⟨y,H2,I2,r2,q2⟩=>
    en (ho pins s2 σ H2 x y v u _ I2 r1 r2 q2) fun d s3 ⟨z,H3,I3,r3,k,e,q3⟩=>?_)) hm
  subst e
  cases r3
  refine wpAny_truthy_bool ?_
  cases k with
  | false=>
    obtain ⟨k',e',q'⟩:=q3
    cases e'
    exact ite_ff ⟨H3,I3,q'⟩
  | true=>
    refine ite_tt (test_last (en (hc pins s3 σ H3 _ I3 q3) fun w' s4 ⟨z',H4,I4,r4,q4⟩=>en (ho' pins s4 σ H4 y z' u w' _ I4 r2 r4 q4) fun d' s5 ⟨z2,H5,I5,r5,k2,e2,q5⟩=>?_))
    subst e2
    cases r5
    exact wpAny_truthy_bool ⟨H5,I5,q5⟩
def nh (K:PySem.W.Frag) (x:V) (H:Hp) (k:Bool):Prop:=
  match x with
  | .non=>k=false
  | .bl b=>k=b
  | .int i=>k=(i != 0)
  | .str y=>y.length≤sizeLine∧k=((y.length:Int) != 0)
  | .byt y=>y.size≤sizeLine∧k=((y.size:Int) != 0)
  | .ref p=>(∃xs,SqL K H p xs∧k= !xs.isEmpty)∨(∃xs,SqT K H p xs∧k= !xs.isEmpty)∨∃kvs,H p=some (.dK kvs)∧k= !kvs.isEmpty
  | _=>False
theorem ni {κ:Type} {kvs:List (κ×V)} {vs:List (κ×Value)} (r:KV kvs vs):(!vs.isEmpty)= !kvs.isEmpty:=by
  cases r <;> rfl
theorem jJ {xs:List V} {its:List Value} (r:Vals xs its):(!its.toArray.isEmpty)= !xs.isEmpty:=by
  cases r <;> simp
theorem iU:(sizeLine:Nat) < 2 ^ 63:=by rw [sizeLine_eq];decide
theorem uX:xt X (fun x H Q=>∃k,nh X.K x H k∧Q k H):=by
  intro pins s σ H x v Q I rx h
  obtain ⟨k,e,q⟩:=h
  have hl:=iU
  have hs:sizeLine=16777216:=sizeLine_eq
  cases x with
  | non=>
    cases rx
    have e':k=false:=e
    subst e'
    exact truthy_none ⟨H,I,q⟩
  | bl b=>
    cases rx
    have e':k=b:=e
    subst e'
    exact wpAny_truthy_bool ⟨H,I,q⟩
  | int i=>
    obtain ⟨t,rfl⟩:=rx
    have e':k=(i != 0):=e
    subst e'
    exact PySem.P.truthy_int ⟨H,I,q⟩
  | str y=>
    obtain ⟨t,rfl⟩:=rx
    obtain ⟨hy,e'⟩:y.length≤sizeLine∧k=((y.length:Int) != 0):=e
    subst e'
    exact PySem.P.truthy_str (by omega) ⟨H,I.tok _,q⟩
  | byt y=>
    obtain ⟨t,rfl⟩:=rx
    obtain ⟨hy,e'⟩:y.size≤sizeLine∧k=((y.size:Int) != 0):=e
    subst e'
    exact PySem.W.truthy_bytes (by omega) ⟨H,I.tok _,q⟩
  | ref p=>
    cases rx
    have e':(∃xs,SqL X.K H p xs∧k= !xs.isEmpty)∨(∃xs,SqT X.K H p xs∧k= !xs.isEmpty)∨∃kvs,H p=some (.dK kvs)∧k= !kvs.isEmpty:=e
    rcases e' with ⟨xs,hx,e'⟩ | ⟨xs,hx,e'⟩ | ⟨kvs,hx,e'⟩
    · subst e'
      obtain ⟨its,r,pl,hz⟩:=I.list hx
      have hlen:=r.length
      exact wpAny_truthy_list pl.isList (by simp only [List.size_toArray];omega) ⟨H,I.tok _,by rw [jJ r];exact q⟩
    · subst e'
      obtain ⟨its,r,pl,hz⟩:=I.tuple hx
      have hlen:=r.length
      exact truthy_tuple pl (by simp only [List.size_toArray];omega) ⟨H,I.tok _,by rw [jJ r];exact q⟩
    · subst e'
      obtain ⟨hz,hS,vs,r,m⟩:kvs.length≤sizeLine∧(p == sysModules)=false∧∃vs,KV kvs vs∧s.heap.DictOf (cK X.prog X.w) p vs:=I.hok p _ hx
      have hlen:kvs.length=vs.length:=Paired.length r
      exact wpAny_truthy_dict hS m (by omega) ⟨H,I.tok _,by rw [ni r];exact q⟩
  | _=>exact (show False from e).elim
theorem gL (ha:PE X a ta) (he:∀whole,isTrue a X.env whole=(do let v ←whole;standAt a.pos;holding [v] (truthy v))):
    PT X a (fun σ H Q=>ta σ H fun x H'=>∃k,nh X.K x H' k∧Q k H'):=by
  intro pins s σ H Q I h
  exact isTrue_plain (en (ha pins s σ H _ I h) fun v s1 ⟨x,H1,I1,r1,q1⟩=>uX pins s1 σ H1 x v Q I1 r1 q1) (he _)
theorem nj:OpR X (binaryOp .Add) (fun x y H Q=>∃i j,x= .str i∧y= .str j∧i.length+j.length≤sizeLine∧Q (.str (i++j)) H):=by
  intro pins s σ H x y v u Q I rx ry h
  obtain ⟨i,j,rfl,rfl,hz,q⟩:=h
  obtain ⟨t,rfl⟩:=rx
  obtain ⟨t',rfl⟩:=ry
  exact add_str (fun t' tk=>⟨.str (i++j),H,I.tok _,⟨_,rfl⟩,q⟩) hz
theorem oz {x:V} {us:List Value} (r:Vals [x] us):∃u,us=[u]∧RelV x u:=by
  cases r with
  | cons r1 r2=>cases r2;exact ⟨_,rfl,r1⟩
theorem qB:CallR X (.builtin "abs") (fun xs H Q=>∃i,xs=[.int i]∧Q (.int (if i < 0 then -i else i)) H):=by
  intro pins s σ H xs us Q I r h
  obtain ⟨i,rfl,q⟩:=h
  obtain ⟨u,rfl,t,rfl⟩:=oz r
  exact call_abs_int fun u tk=>⟨.int (if i < 0 then -i else i),H,I.tok _,⟨_,rfl⟩,q⟩
end
end L2
namespace L2
open PySem PySem.Spec PyProof.Rows
structure ObjM (h:Heap) (x dx C:Addr) (mA:Str→Option Value):Prop where
  obj:h.get? x=some (PySem.W.instObj C dx)
  ns:h.Ns1 dx mA
  ne:dx≠x
theorem pK {h:Heap} {dx:Addr} {mA:Str→Option Value} (n:h.Ns1 dx mA):∃od,h.get? dx=some od∧∀name,PySem.W.lookIn name od=some (mA name):=by
  obtain ⟨o,es,ep,ho,hd,hk,_,hm⟩:=n
  refine ⟨o,ho,fun name=>?_⟩
  have e:=hm name
  unfold nsFind findBy at e
  rw [←Array.find?_toList] at e
  unfold PySem.W.lookIn
  rw [hd]
  dsimp only
  split
  · rename_i y q
    rw [q] at e
    exact congrArg some e
  · rename_i q
    rw [q] at e
    have a:es.toList.any (·.refKey)=false:=by
      rw [List.any_eq_false]
      intro y hy
      obtain ⟨z,t,hkey⟩:=hk y (Array.mem_toList_iff.mp hy)
      simp [DictEntry.refKey,hkey]
    have a':¬es.toList.any (·.refKey)=true:=by rw [a];exact Bool.false_ne_true
    rw [if_neg a']
    exact congrArg some e
theorem ObjM.look {h:Heap} {x dx C:Addr} {mA:Str→Option Value} (I:ObjM h x dx C mA):∃od,PySem.W.InstAt h x (PySem.W.instObj C dx) C (some od)∧∀name,PySem.W.lookIn name od=some (mA name):=
  let ⟨od,ho,hl⟩:=pK I.ns
  ⟨od,⟨I.obj,rfl,rfl,ho⟩,hl⟩
section
variable {P:Program} {w:World} {H H':Hp} {h h':Heap} {a C dx:Addr} {fs fs':List (Str×V)}
theorem sG (hok:HOk P w H h) (e:H a=some (.ins C dx fs)):∃mA,ObjM h a dx C mA∧(∀f,RelO (fs.lookup f) (mA f))∧PySem.Within mA (fs.map (·.1))∧fs.length≤1000∧H dx=some (.own a):=by
  obtain ⟨d,z,ne,ob,mA,n,r,q⟩:=(show ObjOk P w H h a (.ins C dx fs) from hok a _ e)
  exact ⟨mA,⟨ob,n,ne⟩,r,q,z,d⟩
end
structure Cls (K:PySem.W.Frag) (C:Addr):Prop where
  pg:PySem.W.plainGet K C Str.empty=true
  hd:PySem.W.hasDictIn K C=true
  po:PySem.W.plainOver K C=true
  sa:PySem.W.findIn K (.ref C) "__setattr__"=some (some (.builtin "object.__setattr__"))
theorem Cls.get {K:PySem.W.Frag} {C:Addr} (c:Cls K C) (f:Str):PySem.W.plainGet K C f=true:=c.pg
section
variable {X:Cx} {pins:List (Addr×Obj)} {σ:St} {H:Hp} {s:Shared} {A:Around} {E:Value→Shared→Prop} {Q:Value→Shared→Prop} {c:Value} {b:Bool}
inductive TyOf (K:PySem.W.Frag) (H:Hp):V→Value→Prop where
  | non:TyOf K H .non (.type "NoneType")
  | bl (x:Bool):TyOf K H (.bl x) (.type "bool")
  | int (i:Int):TyOf K H (.int i) (.type "int")
  | str (x:Str):TyOf K H (.str x) (.type "str")
  | flt (x:UInt64):TyOf K H (.flt x) (.type "float")
  | lst {a:Addr} {xs:List V} (e:H a=some (.lst xs)):TyOf K H (.ref a) (.type "list")
  | frz {a:Addr} {o:Obj} {xs:List V} (e:H a=some (.frz o (.lst xs))):TyOf K H (.ref a) (.type "list")
  | tup {a:Addr} {xs:List V} (e:H a=some (.tup xs)):TyOf K H (.ref a) (.type "tuple")
  | dK {a:Addr} {kvs:List (bN×V)} (e:H a=some (.dK kvs)):TyOf K H (.ref a) (.type "dict")
  | dT {a:Addr} {kvs:List (List bN×V)} (e:H a=some (.dT kvs)):TyOf K H (.ref a) (.type "dict")
  | ins {a C dx:Addr} {fs:List (Str×V)} (e:H a=some (.ins C dx fs)) (cl:Cls K C) (ha:PySem.W.findIn K (.ref C) "__class__"=some (some (.builtin "object.__class__")))
      (hn:PySem.W.specialIn K (.builtin "object.__class__") "__get__"=some (some (.builtin "getset_descriptor.__get__"))) (htk:PySem.W.takesIn K (.builtin "object.__class__")=some true)
      (hm:PySem.W.mroIn K C (.type "object")=some true):TyOf K H (.ref a) (.ref C)
theorem g7 {x:V} {u t:Value} (I:Inv X pins σ H s) (rx:RelV x u) (ty:TyOf X.K H x t) (e:PySem.W.kitOne X.K t c=some b) (h:∀tk,Q (.bool b) {s with toks:=tk}):
    wpAny (model X.prog X.w) A (call (.builtin "isinstance") [u,c]) Q E s:=by
  cases ty with
  | non=>cases (show u=Value.none from rx);exact PySem.W.kia_one PySem.W.kitx_none I.kIn True.intro e (fun z=>nomatch z) h
  | bl y=>cases (show u=Value.bool y from rx);exact PySem.W.kia_one PySem.W.kitx_bool I.kIn True.intro e (fun z=>nomatch z) h
  | int i=>obtain ⟨t,q⟩:=(show ∃t,u=Value.int i t from rx);cases q;exact PySem.W.kia_one PySem.W.kitx_int I.kIn True.intro e (fun z=>nomatch z) h
  | str y=>obtain ⟨t,q⟩:=(show ∃t,u=Value.str y t from rx);cases q;exact PySem.W.kia_one PySem.W.kitx_str I.kIn True.intro e (fun z=>nomatch z) h
  | flt y=>obtain ⟨t,q⟩:=(show ∃t,u=Value.float y t from rx);cases q;exact PySem.W.kia_one PySem.W.kitx_float I.kIn True.intro e (fun z=>nomatch z) h
  | @lst a xs ea=>
    cases (show u=Value.ref a from rx)
    obtain ⟨_,_,n,_,h1⟩:=(show ObjOk X.prog X.w H s.heap a (.lst xs) from I.hok a _ ea)
    exact PySem.W.kia_one PySem.W.kitx_list I.kIn ⟨_,h1,rfl⟩ e (fun z=>nomatch z) h
  | @frz a ob xs ea=>
    cases (show u=Value.ref a from rx)
    obtain ⟨_,_,_,n,_,h1⟩:=(show ObjOk X.prog X.w H s.heap a (.frz ob (.lst xs)) from I.hok a _ ea)
    exact PySem.W.kia_one PySem.W.kitx_list I.kIn ⟨_,h1,rfl⟩ e (fun z=>nomatch z) h
  | @tup a xs ea=>
    cases (show u=Value.ref a from rx)
    obtain ⟨_,_,_,p⟩:=(show ObjOk X.prog X.w H s.heap a (.tup xs) from I.hok a _ ea)
    obtain ⟨o,h1,h2,_⟩:=p
    exact PySem.W.kia_one PySem.W.kitx_tuple I.kIn ⟨o,h1,h2⟩ e (fun z=>nomatch z) h
  | @dK a kvs ea=>
    cases (show u=Value.ref a from rx)
    obtain ⟨_,_,vs,_,p⟩:=(show ObjOk X.prog X.w H s.heap a (.dK kvs) from I.hok a _ ea)
    obtain ⟨o,es,ep,h1,h2,_⟩:=p
    exact PySem.W.kia_one PySem.W.kitx_dict I.kIn ⟨o,h1,h2.1⟩ e (fun z=>nomatch z) h
  | @dT a kvs ea=>
    cases (show u=Value.ref a from rx)
    obtain ⟨_,_,xs,_,o,es,ep,h1,h2,_⟩:=(show ObjOk X.prog X.w H s.heap a (.dT kvs) from I.hok a _ ea)
    exact PySem.W.kia_one PySem.W.kitx_dict I.kIn ⟨o,h1,h2.1⟩ e (fun z=>nomatch z) h
  | @ins a C dx fs ea cl ha hn htk hm=>
    cases (show u=Value.ref a from rx)
    obtain ⟨mA,O,_⟩:=sG I.hok ea
    obtain ⟨od,J,_⟩:=O.look
    exact PySem.W.kia_one (PySem.W.kitx_own (cl.get _) cl.hd ha hn htk hm) I.kIn J e (fun z=>nomatch z) h
end
end L2
namespace L2
open PySem PySem.Spec PyProof.Rows
structure Room (k:Nat) (A:Around):Prop where
  hd:A.handled=none
  dp:A.depth+3*k+5 < recursionLimit
  un:A.units+16*k+200 < cLine
theorem Room.mono {j k:Nat} {A:Around} (r:Room k A) (h:j≤k):Room j A:=⟨r.hd,by have:=r.dp;omega,by have:=r.un;omega⟩
theorem Room.deeper {k:Nat} {A:Around} (r:Room (k+1) A) (env:Env):Room k (A.deeper env):=
  ⟨r.hd,by have:=r.dp;show A.depth+1+3*k+5 < _;omega,by have:=r.un;show A.units+3+16*k+200 < _;omega⟩
theorem Room.in1 {k:Nat} {A:Around} (r:Room (k+1) A):Room k A.in1:=
  ⟨r.hd,by have:=r.dp;show A.depth+3*k+5 < _;omega,by have:=r.un;show A.units+1+16*k+200 < _;omega⟩
theorem Room.depth {k:Nat} {A:Around} (r:Room k A):A.depth < recursionLimit:=by have:=r.dp;omega
theorem Room.units {k:Nat} {A:Around} (r:Room k A):A.units+64 < cLine:=by have:=r.un;omega
def j_:TA:=fun _ H Q=>Q [] H
def iC (ta:TE) (tr:TA):TA:=fun σ H Q=>ta σ H fun x H1=>tr σ H1 fun xs H2=>Q (x::xs) H2
section
variable {X:Cx} {e:Expr} {es:List Expr} {te:TE} {t:TA} {pos:Pos}
theorem bP:PA X [] j_:=fun _ _ _ _ H Q I h=>Calls.spliced_nil ⟨[],H,I, .nil,h⟩
theorem be (ha:PE X e te) (hr:PA X es t) (hs:starEach (e::es) X.env=(false,eval e X.env)::starEach es X.env:=by rfl):PA X (e::es) (iC te t):=by
  intro pos pins s σ H Q I h
  rw [hs]
  show wpAny _ _ (spliced ((false,eval e X.env)::backTo pos (starEach es X.env))) _ _ s
  refine Calls.spliced_cons (en (ha pins s σ H _ I h) fun u s1 ⟨x,H1,I1,r1,q1⟩=>?_)
  exact en (hr pos pins s1 σ H1 _ I1 q1) fun us s2 ⟨xs,H2,I2,r2,q2⟩=>⟨x::xs,H2,I2, .cons r1 r2,q2⟩
def wm (t:TA):TE:=fun σ H Q=>t σ H fun xs H1=>xs.length≤sizeLine∧∀p,H1 p=none→Q (.ref p) (upd H1 p (.tup xs))
def sH (t:TA):TE:=fun σ H Q=>t σ H fun xs H1=>xs.length≤sizeLine∧∀p,H1 p=none→Q (.ref p) (upd H1 p (.lst xs))
theorem nk {x1} (h:PA X es t):PE X (.Tuple es x1 pos) (wm t):=by
  intro pins s σ H Q I hq
  refine wpAny_Tuple_spliced (en (h pos pins s σ H _ I hq) fun us s1 ⟨xs,H1,I1,r,z,q⟩=>⟨by rw [←r.length];exact z,?_⟩)
  have hf:H1 s1.heap.objs.size=none:=I1.hok.fresh (Nat.le_refl _)
  refine ⟨.ref s1.heap.objs.size,upd H1 s1.heap.objs.size (.tup xs),I1.laid (t':=s1.toks) (fun b u e=>Heap.get?_push_of_some _ e) (Nat.le_refl _) ?_,rfl,q _ hf⟩
  exact ⟨z,us,r,⟨_,Heap.get?_push_size _ rfl,rfl,_,rfl⟩⟩
theorem h8 (h:PA X es t):PE X (.List es pos) (sH t):=by
  intro pins s σ H Q I hq
  refine wpAny_List_spliced (en (h pos pins s σ H _ I hq) fun us s1 ⟨xs,H1,I1,r,z,q⟩=>⟨by rw [←r.length];exact z,?_⟩)
  have hf:H1 s1.heap.objs.size=none:=I1.hok.fresh (Nat.le_refl _)
  refine ⟨.ref s1.heap.objs.size,upd H1 s1.heap.objs.size (.lst xs),I1.laid (t':=s1.toks) (fun b u e=>Heap.get?_push_of_some _ e) (Nat.le_refl _) ?_,rfl,q _ hf⟩
  exact ⟨z,us,0,r,Heap.get?_push_size _ rfl⟩
end
abbrev Sp:=List V→Hp→VK→XK→Prop
abbrev ql:=List Env→Hp→Shared→XK→Value→Shared→Prop
structure Env0 (P:Program) (w:World) (K:PySem.W.Frag) (mg:Str→Option Value) (base:Heap) (A:Around) (outer:List Env) (s:Shared) (H:Hp):Prop where
  frames:A.frames=some outer
  mod:Mod K mg base
  bs:∀b o,base.get? b=some o→s.heap.get? b=some o∧H b=none
  bsz:base.objs.size≤s.heap.objs.size
  funs:s.heap.FunFrames base outer
  frf:∀b∈qj outer,H b=none
  hok:HOk P w H s.heap
  bare:AllBare s.gens
  tab:∀b q,jH K b=some q→H b=some (.tbl q)
def CE (outer:List Env) (P:Program) (w:World) (H:Hp) (s:Shared) (Q:VK) (u:Value) (s':Shared):Prop:=
  ∃v H',s'.os=s.os∧AllBare s'.gens∧Un (qj outer) [] H H' s.heap s'.heap∧HOk P w H' s'.heap∧RelV v u∧Q v H'
def CR (CX:ql) (outer:List Env) (P:Program) (w:World) (H:Hp) (s:Shared) (Q:VK) (E:XK) (r:Result) (s':Shared):Prop:=
  match r with
  | .ok (.ret u)=>CE outer P w H s Q u s'
  | .ok _=>False
  | .error e=>CX outer H s E e s'
structure FnOk (P:Program) (w:World) (K:PySem.W.Frag) (mg:Str→Option Value) (base:Heap) (CX:ql) (k:Nat) (f:Addr) (fd:FuncData) (ps:List Str) (sp:Sp):Prop where
  len:∀vs H Q E,sp vs H Q E→vs.length=ps.length
  run:∀(A:Around) (outer:List Env) (s:Shared) (H:Hp) (args:Args) (us:List Value) (vs:List V) (Q:VK) (E:XK),Room k A→Env0 P w K mg base A outer s H→BindsTo s fd args (ps.zip us)→Vals vs us→sp vs H Q E→
    codeAny (model P w) A (.call (.ref f) args) (CR CX outer P w H s Q E) s
theorem FnOk.mono {P:Program} {w:World} {K:PySem.W.Frag} {mg:Str→Option Value} {base:Heap} {CX:ql} {j k:Nat} {f:Addr} {fd:FuncData} {ps:List Str} {sp:Sp} (F:FnOk P w K mg base CX j f fd ps sp) (h:j≤k):
    FnOk P w K mg base CX k f fd ps sp:=⟨F.len,fun A outer s H args us vs Q E hr=>F.run A outer s H args us vs Q E (hr.mono h)⟩
theorem FnOk.imp {P:Program} {w:World} {K:PySem.W.Frag} {mg:Str→Option Value} {base:Heap} {CX:ql} {k:Nat} {f:Addr} {fd:FuncData} {ps:List Str} {sp sp':Sp} (F:FnOk P w K mg base CX k f fd ps sp)
    (h:∀vs H Q E,sp' vs H Q E→sp vs H Q E):FnOk P w K mg base CX k f fd ps sp':=
  ⟨fun vs H Q E q=>F.len vs H Q E (h _ _ _ _ q),fun A outer s H args us vs Q E hr he hb hv hs=>F.run A outer s H args us vs Q E hr he hb hv (h _ _ _ _ hs)⟩
theorem Env0.in1 {P:Program} {w:World} {K:PySem.W.Frag} {mg:Str→Option Value} {base:Heap} {A:Around} {outer:List Env} {s:Shared} {H:Hp} (e:Env0 P w K mg base A outer s H):
    Env0 P w K mg base A.in1 outer s H:=⟨e.frames,e.mod,e.bs,e.bsz,e.funs,e.frf,e.hok,e.bare,e.tab⟩
section
variable {X:Cx} {pins:List (Addr×Obj)} {σ:St} {H:Hp} {s s':Shared}
theorem Inv.env0 (I:Inv X pins σ H s):Env0 X.prog X.w X.K X.mg X.base X.A X.stack s H:=
  ⟨I.ok.frames,I.ok.mod,I.bs,Nat.le_trans I.ok.bsz I.sz,I.stack,I.stkFree,I.hok,I.bare,I.tab⟩
theorem Inv.after {Q:VK} {u:Value} (I:Inv X pins σ H s) (h:CE X.stack X.prog X.w H s Q u s'):EP X pins σ Q u s':=by
  obtain ⟨v,H',os,bare,un,hok,r,q⟩:=h
  obtain ⟨hh,g,d,t,os'⟩:=s'
  obtain rfl:os'=s.os:=os
  exact ⟨v,H',I.call (h':=hh) (g':=g) (d':=d) (t':=t) (ch:=[]) un hok bare (fun b z=>absurd z (by simp)),r,q⟩
end
def ud (sp:Sp) (dvs:List V) (E:XK) (t:TA):TE:=fun σ H Q=>t σ H fun vs H1=>sp (vs++dvs) H1 Q E
def Binds (K:PySem.W.Frag) (fd:FuncData) (ps:List Str) (ds:List Value):Prop:=
  ∀(s:Shared) (us:List Value),K.In s.heap→(us++ds).length=ps.length→BindsTo s fd ⟨us,[]⟩ (ps.zip (us++ds))
theorem Binds.all {K:PySem.W.Frag} {fd:FuncData} {ps:List Str} (h:∀us:List Value,us.length=ps.length→bindArgs fd ⟨us,[]⟩=pure (ps.zip us)):Binds K fd ps []:=fun s us _ hl=>by
  rw [List.append_nil] at hl ⊢
  exact .of_eq (h us hl)
def nr (CX:ql) (X:Cx) (E:XK):Prop:=∀(pins:List (Addr×Obj)) (σ:St) (H:Hp) (s:Shared) (e:Value) (s':Shared),Inv X pins σ H s→CX X.stack H s E e s'→X.xe e s'
section
variable {X:Cx} {CX:ql} {k:Nat} {f C:Addr} {fd:FuncData} {ps:List Str} {sp:Sp} {dvs:List V} {ds:List Value} {E:XK} {x m:Str} {p pos apos:Pos} {e o:Expr} {es:List Expr} {ta:TE} {t:TA}
theorem uY {pins:List (Addr×Obj)} {σ:St} {H:Hp} {s:Shared} {Q:VK} {us:List Value} {vs:List V} (F:FnOk X.prog X.w X.K X.mg X.base CX k f fd ps sp) (hr:Room k X.A) (hb:Binds X.K fd ps ds) (hd:Vals dvs ds) (hx:nr CX X E)
    (I:Inv X pins σ H s) (r:Vals vs us) (h:sp (vs++dvs) H Q E):wpAny (model X.prog X.w) X.A (call (.ref f) us) (EP X pins σ Q) X.xe s:=by
  have r2:Vals (vs++dvs) (us++ds):=r.append hd
  have hl:(us++ds).length=ps.length:=by rw [←r2.length];exact F.len _ _ _ _ h
  refine wpAny_call (codeAny_mono (F.run X.A X.stack s H ⟨us,[]⟩ (us++ds) (vs++dvs) Q E hr I.env0 (hb s us I.kIn hl) r2 h) fun r s' hq=>?_)
  cases r with
  | error e=>exact hx pins σ H s e s' I hq
  | ok fl=>
    cases fl with
    | ret u=>exact I.after hq
    | next=>exact False.elim hq
    | brk=>exact False.elim hq
    | cont=>exact False.elim hq
theorem sI (F:FnOk X.prog X.w X.K X.mg X.base CX k f fd ps sp) (hr:Room k X.A) (hg:Gl X x) (hm:X.mg x=some (.ref f)) (hk:PySem.W.keepIn X.K (.ref f)=true) (hb:Binds X.K fd ps ds) (hd:Vals dvs ds) (hx:nr CX X E)
    (ha:PA X (e::es) t) (hdb:(x == ("__debug__":Str))=false:=by decide) (he:starEach (e::es) X.env=(false,eval e X.env)::starEach es X.env:=by rfl) (hpl:(backTo pos (starEach es X.env)).any (·.1)=false:=by rfl):
    PE X (.Call (.Name x p) (e::es) [] pos) (ud sp dvs E t):=by
  intro pins s σ H Q I h
  refine wpAny_Call_Name_kw (su I hg hm ?_ hdb)
  refine PySem.W.callWith_K (h₀:=X.base) I.ok.mod.kin hk (en (ha pos pins s σ H _ I h) fun us s1 ⟨vs,H1,I1,r,q⟩=>⟨I1.kIn,?_⟩) he hpl
  exact uY F hr hb hd hx I1 r q
end
structure FnScope (N P:List Str) (sc:Scope):Prop where
  kind:sc.kind= .function
  co:sc.isCoroutine=false
  gen:sc.isGenerator=false
  nd:N.Nodup
  pre:N.take P.length=P
  par:∀x∈P,sc.names.lookup x=some .local∨sc.names.lookup x=some .cell
  nofree:∀y∈sc.names,y.2≠ .free
theorem ki {kindOf:Str→Option NameKind} {x:Str}:∀{binds:List (Str×Value)} {m:Str→Option Value},(∀v,(x,v)∉binds)→bindL kindOf binds m x=m x
  | [],_,_=>rfl
  | (n,v)::r,m,h=>by
    unfold bindL
    rw [ki fun w hw=>h w (List.mem_cons_of_mem _ hw)]
    split
    · have:x≠n:=by rintro rfl;exact h v List.mem_cons_self
      simp [this]
    · rfl
theorem kj {kindOf:Str→Option NameKind} {x:Str}:∀{binds:List (Str×Value)} {m:Str→Option Value},(∀v,(x,v)∉binds)→bindC kindOf binds m x=m x
  | [],_,_=>rfl
  | (n,v)::r,m,h=>by
    unfold bindC
    rw [kj fun w hw=>h w (List.mem_cons_of_mem _ hw)]
    split
    · rfl
    · have:x≠n:=by rintro rfl;exact h v List.mem_cons_self
      simp [this]
theorem kl {kindOf:Str→Option NameKind} {x:Str} {v:Value}:∀{P:List Str} {vs:List Value} {i:Nat} {m:Str→Option Value},P.Nodup→P[i]? =some x→vs[i]? =some v→kindOf x=some .local→
    bindL kindOf (P.zip vs) m x=some v
  | [],_,_,_,_,h,_,_=>by simp at h
  | _::_,[],_,_,_,_,h,_=>by simp at h
  | p::P,w::vs,0,m,nd,h1,h2,hk=>by
    simp at h1 h2;subst h1;subst h2
    show bindL kindOf ((p,w)::P.zip vs) m p=_
    unfold bindL
    rw [ki fun v hv=>(List.nodup_cons.mp nd).1 (List.of_mem_zip hv).1,if_pos hk]
    simp
  | p::P,w::vs,i+1,m,nd,h1,h2,hk=>by
    show bindL kindOf ((p,w)::P.zip vs) m x=_
    unfold bindL
    exact kl (i:=i) (List.nodup_cons.mp nd).2 (by simpa using h1) (by simpa using h2) hk
theorem km {kindOf:Str→Option NameKind} {x:Str} {v:Value}:∀{P:List Str} {vs:List Value} {i:Nat} {m:Str→Option Value},P.Nodup→P[i]? =some x→vs[i]? =some v→kindOf x≠some .local→
    bindC kindOf (P.zip vs) m x=some v
  | [],_,_,_,_,h,_,_=>by simp at h
  | _::_,[],_,_,_,_,h,_=>by simp at h
  | p::P,w::vs,0,m,nd,h1,h2,hk=>by
    simp at h1 h2;subst h1;subst h2
    show bindC kindOf ((p,w)::P.zip vs) m p=_
    unfold bindC
    rw [kj fun v hv=>(List.nodup_cons.mp nd).1 (List.of_mem_zip hv).1,if_neg hk]
    simp
  | p::P,w::vs,i+1,m,nd,h1,h2,hk=>by
    show bindC kindOf ((p,w)::P.zip vs) m x=_
    unfold bindC
    exact km (i:=i) (List.nodup_cons.mp nd).2 (by simpa using h1) (by simpa using h2) hk
def gM (N:List Str) (vs:List V):St:=vs.map some++List.replicate (N.length - vs.length) none
def kT (CX:ql) (P:Program) (w:World) (K:PySem.W.Frag) (mg:Str→Option Value) (base:Heap) (N:List Str) (qual:Str) (scope:Scope) (f:Addr) (cd:Value) (A:Around) (outer:List Env) (s:Shared) (H:Hp) (E:XK):Cx where
  prog:=P
  w:=w
  K:=K
  mg:=mg
  base:=base
  A:=A.deeper (envOfC qual scope s.heap.objs.size f cd)
  N:=N
  s₀:=s
  H₀:=H
  env:=envOfC qual scope s.heap.objs.size f cd
  outer:=outer
  stack:=envOfC qual scope s.heap.objs.size f cd::outer
  ex:=[]
  calm:=true
  fn:=fun _=>true
  pn:=[]
  xe:=fun e s'=>wpAny (model P w) (A.deeper (envOfC qual scope s.heap.objs.size f cd)) (leaving (envOfC qual scope s.heap.objs.size f cd) e) (fun _ s''=>CX outer H s E e s'') (fun e' s''=>CX outer H s E e' s'') s'
theorem md {sc:Scope} {n:Nat} {x:Str} (h:sc.names.lookup x=some .cell):∃c,(cellsFrom n sc.names []).lookup x=some c:=by
  have q:=PySem.W.cellsFrom_some sc.names n [] (.inl h)
  exact Option.isSome_iff_exists.mp q
theorem pL {CX:ql} {P:Program} {w:World} {K:PySem.W.Frag} {mg:Str→Option Value} {base:Heap} {N ps:List Str} {qual:Str} {scope:Scope} {f:Addr} {cd:Value} {A:Around} {outer:List Env} {s s1:Shared} {H:Hp} {E:XK} {us:List Value} {vs:List V}
    (S:FnScope N ps scope) (hd:A.handled=none) (e0:Env0 P w K mg base A outer s H) (hl:vs.length=ps.length) (r:Vals vs us)
    (x:InCallC s s.heap.objs.size (bindL (envOfC qual scope s.heap.objs.size f cd).kindOf (ps.zip us) fun _=>none) (cellsFrom (s.heap.objs.size+1) scope.names []) (bindC (envOfC qual scope s.heap.objs.size f cd).kindOf (ps.zip us) fun _=>none) s1):
    Inv (kT CX P w K mg base N qual scope f cd A outer s H E) [] (gM N vs) H s1:=by
  have hpl:ps.length≤N.length:=by have:=congrArg List.length S.pre;rw [List.length_take] at this;omega
  obtain ⟨h1,tk,rfl,hk⟩:=x.done
  have noA:∀b:Addr,b∉(kT CX P w K mg base N qual scope f cd A outer s H E).ex:=fun b z=>absurd (show b∈([]:List Addr) from z) (by simp)
  refine ⟨⟨e0.mod,S.kind,rfl,rfl,Nat.le_refl _,fun y z c h1 h2=>?_,fun y hy=>?_,fun y c _ h=>?_,fun _=>hd,Around.frames_deeper e0.frames, .inr ⟨rfl,rfl⟩,fun b z=>absurd z (noA b),e0.bs,e0.bsz,fun b _ _=>noA b,fun b z=>absurd z (noA b),e0.funs,e0.frf,e0.tab⟩,
    rfl,e0.bare,Un.kept hk,⟨_,x.toInCall.ns,fun i y v h1 h2 h3=>?_⟩,fun y c h=>⟨_,x.cell y c h⟩,e0.hok.fresh (Nat.le_refl _),fun y c h=>?_,fun p hp=>absurd (show p∈([]:List (Addr×Obj)) from hp) (by simp),e0.hok.kept hk,?_⟩
  · exact name_of_addr x.apart (PySem.mem_of_lookup h1) (PySem.mem_of_lookup h2)
  · have hy:scope.names.lookup y=some .cell∨scope.names.lookup y=some .free:=hy
    rcases hy with hy | hy
    · exact md hy
    · exact absurd rfl (S.nofree _ (PySem.mem_of_lookup hy))
  · exact Nat.le_of_lt (x.above y c (PySem.mem_of_lookup h))
  · have hi:i < vs.length:=by
      unfold gM at h2
      by_cases hi:i < vs.length
      · exact hi
      · rw [List.getElem?_append_right (by simpa using hi)] at h2
        rw [List.getElem?_replicate] at h2
        split at h2 <;> cases h2
    have ha:vs[i]? =some v:=by
      unfold gM at h2
      rw [List.getElem?_append_left (by simpa using hi),List.getElem?_map] at h2
      cases e:vs[i]? with
      | none=>rw [e] at h2;cases h2
      | some a=>rw [e] at h2;cases h2;rfl
    obtain ⟨u,hu,rv⟩:=r.get ha
    have hp:ps[i]? =some y:=by
      rw [←S.pre,List.getElem?_take_of_lt (by omega)];exact h1
    have ndP:ps.Nodup:=by rw [←S.pre];exact S.nd.sublist (List.take_sublist _ _)
    refine ⟨u,rv,?_⟩
    rcases S.par y (List.mem_of_getElem? hp) with k | k
    · exact .inl ⟨k,kl ndP hp hu k⟩
    · obtain ⟨c,e⟩:=md (n:=s.heap.objs.size+1) k
      refine .inr ⟨.inl k,c,e,?_⟩
      have q:=x.cell y c e
      rw [km ndP hp hu (by show scope.names.lookup y≠_;rw [k];decide)] at q
      exact q
  · exact e0.hok.fresh (Nat.le_of_lt (x.above y c (PySem.mem_of_lookup h)))
  · unfold gM
    show _=N.length
    rw [List.length_append,List.length_map,List.length_replicate]
    omega
theorem wn {CX:ql} {P:Program} {w:World} {K:PySem.W.Frag} {mg:Str→Option Value} {base:Heap} {k:Nat} {f:Addr} {name qual:Str} {params:Arguments} {body:List Stmt} {scope:Scope} {dV kV doc pm cdv ct oc:Value} {an od:Option Addr}
    {osl:Array (Option Value)} {N ps:List Str} {sp:Sp} (lk:K.lookup f=some ⟨oc,od, .func (PySem.W.fnOf name qual params body scope dV kV doc pm an cdv ct),osl⟩) (hcd:PySem.W.codeIn K cdv qual=true) (S:FnScope N ps scope)
    (len:∀vs H Q E,sp vs H Q E→vs.length=ps.length)
    (hbody:∀(A:Around) (outer:List Env) (s:Shared) (H:Hp) (vs:List V) (Q:VK) (E:XK),Room k (A.deeper (envOfC qual scope s.heap.objs.size f cdv))→sp vs H Q E→
      ∃t,PSs (kT CX P w K mg base N qual scope f cdv A outer s H E) body t∧t {nx:=fun _ H'=>Q .non H',rt:=Q} (gM N vs) H):
    FnOk P w K mg base CX (k+1) f (PySem.W.fnOf name qual params body scope dV kV doc pm an cdv ct) ps sp:=by
  refine ⟨len,fun A outer s H args us vs Q E hr e0 hb r hsp=>?_⟩
  have hl:=len _ _ _ _ hsp
  have KX:K.In s.heap:=e0.mod.kin.keeps fun b o e=>(e0.bs b o e).1
  have lim:s.heap.NoLimit:=e0.mod.nolimit.keeps fun b o e=>(e0.bs b o e).1
  have hkind:∀y∈ps.zip us,scope.names.lookup y.1=some .local∨(scope.names.lookup y.1=some .cell∧((cellsFrom (s.heap.objs.size+1) scope.names []).lookup y.1).isSome=true):=fun ⟨n,v⟩ hy=>by
    rcases S.par n (List.of_mem_zip hy).1 with q | q
    · exact .inl q
    · exact .inr ⟨q,PySem.W.cellsFrom_some _ _ _ (.inl q)⟩
  refine codeAny_call_function hr.depth (KX _ _ lk) rfl S.co S.gen rfl (PySem.W.codeRec_of KX hcd) (hb _ _ _ _ ?_)
  refine wpAny_newFunctionEnv_cells S.kind hkind fun env he s1 x=>?_
  subst he
  refine ⟨lim.keeps x.toInCall.keep,codeAny_func ?_⟩
  obtain ⟨t,ht,hq⟩:=hbody A outer s H vs Q E (hr.deeper _) hsp
  have I:Inv (kT CX P w K mg base N qual scope f cdv A outer s H E) [] (gM N vs) H s1:=pL S hr.hd e0 hl r x
  refine wpAny_mono (ht [] s1 (gM N vs) H _ I hq) (fun fl s' hs=>?_) fun e s' hs=>hs
  have fin:∀{σ':St} {H':Hp} {v:V} {u:Value},Inv (kT CX P w K mg base N qual scope f cdv A outer s H E) [] σ' H' s'→RelV v u→Q v H'→CE outer P w H s Q u s':=
    fun {σ' H' v u} J rv q=>⟨v,H',J.os,J.bare,J.base,J.hok,rv,q⟩
  cases fl with
  | ret u=>
    obtain ⟨v,σ',H',J,rv,q⟩:=hs
    exact fin J rv q
  | next=>
    obtain ⟨σ',H',J,q⟩:=hs
    exact fin (v:=V.non) (u:=Value.none) J rfl q
  | brk=>
    obtain ⟨_,_,_,q⟩:=hs
    exact False.elim q
  | cont=>
    obtain ⟨_,_,_,q⟩:=hs
    exact False.elim q
end L2
namespace L2
open PySem PySem.Spec PyProof.Rows
section
variable {X:Cx} {x:Str} {p pos:Pos} {e:Expr} {es:List Expr} {t:TA} {id T:String} {r:List V→Hp→VK→Prop}
def xa (r:List V→Hp→VK→Prop) (t:TA):TE:=fun σ H Q=>t σ H fun vs H1=>r vs H1 Q
theorem iD (hc:CallR X (.builtin id) r) (hg:Gl X x) (hm:X.mg x=none) (hv:bootBuiltins x=some (.builtin id)) (ha:PA X (e::es) t) (hn:x≠"__name__":=by decide) (hdb:(x == ("__debug__":Str))=false:=by decide)
    (he:starEach (e::es) X.env=(false,eval e X.env)::starEach es X.env:=by rfl) (hpl:(backTo pos (starEach es X.env)).any (·.1)=false:=by rfl):PE X (.Call (.Name x p) (e::es) [] pos) (xa r t):=by
  intro pins s σ H Q I h
  refine wpAny_Call_Name_kw (iS I hg hm hv ?_ hn hdb)
  exact PyProof.Rows.callWith_builtin1 (en (ha pos pins s σ H _ I h) fun us s1 ⟨vs,H1,I1,r1,q1⟩=>hc pins s1 σ H1 vs us Q I1 r1 q1) he hpl
theorem pM (hc:CallR X (.type T) r) (hg:Gl X x) (hm:X.mg x=none) (hv:bootBuiltins x=some (.type T)) (ha:PA X (e::es) t) (hn:x≠"__name__":=by decide) (hdb:(x == ("__debug__":Str))=false:=by decide)
    (he:starEach (e::es) X.env=(false,eval e X.env)::starEach es X.env:=by rfl) (hpl:(backTo pos (starEach es X.env)).any (·.1)=false:=by rfl):PE X (.Call (.Name x p) (e::es) [] pos) (xa r t):=by
  intro pins s σ H Q I h
  refine wpAny_Call_Name_kw (iS I hg hm hv ?_ hn hdb)
  exact PyProof.Rows.callWith_type1 (en (ha pos pins s σ H _ I h) fun us s1 ⟨vs,H1,I1,r1,q1⟩=>hc pins s1 σ H1 vs us Q I1 r1 q1) he hpl
end
end L2
namespace HT
open PySem PyProof.Rows
section
open PySem.SeqAt
open PySem.AutoSeq1 (wpAny_loadPart')
open PySem.MeetsSeq PySem.MeetsSeq2 PySem.MeetsSeq3
end
section
variable {prog:Program} {w:World} {A:Around} {E:Value→Shared→Prop} {s:Shared}
def iQ (n d:Nat):Option Int→Nat
  | none=>d
  | some v=>if v < 0 then (v+(n:Int)).toNat else min v.toNat n
theorem me (n d:Nat):iQ n d none=d:=rfl
theorem kU (n d k:Nat):iQ n d (some (k:Int))=min k n:=by
  show (if (k:Int) < 0 then ((k:Int)+(n:Int)).toNat else min (k:Int).toNat n)=min k n
  rw [if_neg (by omega),Int.toNat_natCast]
end
end HT
namespace L2
open PySem PySem.Spec PyProof.Rows
abbrev TO:=St→Hp→(Option Int→Hp→Prop)→Prop
def PO (X:Cx) (e:Option Expr) (t:TO):Prop:=
  ∀(pins:List (Addr×Obj)) (s:Shared) (σ:St) (H:Hp) (Q:Option Int→Hp→Prop),Inv X pins σ H s→t σ H Q→
    wpAny (model X.prog X.w) X.A (evalPart e X.env) (fun u s'=>∃o H',Inv X pins σ H' s'∧IsPart u o∧Q o H') X.xe s
def sJ:TO:=fun _ H Q=>Q none H
def wo (t:TE):TO:=fun σ H Q=>t σ H fun x H1=>∃i,x= .int i∧Q (some i) H1
section
variable {X:Cx} {e:Expr} {te:TE} {lo hi:Option Expr} {tl th:TO} {pos p2:Pos}
theorem sK:PO X none sJ:=by
  intro pins s σ H Q I h
  rw [evalPart_none]
  exact wpAny_pure ⟨none,H,I, .none,h⟩
theorem sL (h:PE X e te):PO X (some e) (wo te):=by
  intro pins s σ H Q I hw
  rw [evalPart_some]
  refine en (h pins s σ H _ I hw) fun u s1 ⟨x,H1,I1,r1,q1⟩=>?_
  obtain ⟨i,rfl,q⟩:=q1
  obtain ⟨t,rfl⟩:=r1
  exact ⟨some i,H1,I1, .int i t,q⟩
def SlR (X:Cx) (r:V→Option Int→Option Int→Hp→VK→Prop):Prop:=
  ∀(pins:List (Addr×Obj)) (s:Shared) (σ:St) (H:Hp) (x:V) (v vl vu:Value) (lo hi:Option Int) (sl:Addr) (Q:VK),Inv X pins σ H s→RelV x v→s.heap.IsSliceOf sl vl vu .none→IsPart vl lo→IsPart vu hi→r x lo hi H Q→
    ∃T id,typeLookup (.type T) "__getitem__"=pure (some (.builtin id))∧s.TypeIs v T∧wpAny (model X.prog X.w) X.A (getItem v (.ref sl)) (EP X pins σ Q) X.xe s
theorem SlR.or {r r':V→Option Int→Option Int→Hp→VK→Prop} (h:SlR X r) (h':SlR X r'):SlR X (fun x lo hi H Q=>r x lo hi H Q∨r' x lo hi H Q):=by
  intro pins s σ H x v vl vu lo hi sl Q I rx hs pl pu q
  rcases q with q | q
  · exact h pins s σ H x v vl vu lo hi sl Q I rx hs pl pu q
  · exact h' pins s σ H x v vl vu lo hi sl Q I rx hs pl pu q
def yf (r:V→Option Int→Option Int→Hp→VK→Prop) (te:TE) (tl th:TO):TE:=fun σ H Q=>te σ H fun x H1=>tl σ H1 fun l H2=>th σ H2 fun u H3=>r x l u H3 Q
theorem qC {r:V→Option Int→Option Int→Hp→VK→Prop} (hr:SlR X r) (he:PE X e te) (hl:PO X lo tl) (hu:PO X hi th):PE X (.Subscript e (.Slice lo hi none p2) pos) (yf r te tl th):=by
  intro pins s σ H Q I h
  refine Subscript_ (en (he pins s σ H _ I h) fun v s1 ⟨x,H1,I1,r1,q1⟩=>?_)
  refine wpAny_Slice (en (hl pins s1 σ H1 _ I1 q1) fun vl s2 ⟨l,H2,I2,pl,q2⟩=>en (hu pins s2 σ H2 _ I2 q2) fun vu s3 ⟨u,H3,I3,pu,q3⟩=>?_)
  rw [evalPart_none]
  refine wpAny_pure ?_
  have I4:Inv X pins σ H3 {s3 with heap:=s3.heap.push {cls:= .type "slice",data:= .fields #[vl,vu, .none]}}:=I3.kept (t':=s3.toks) fun b ob q=>Heap.get?_push_of_some _ q
  obtain ⟨T,id,hT,ht,hg⟩:=hr pins {s3 with heap:=s3.heap.push {cls:= .type "slice",data:= .fields #[vl,vu, .none]}} σ H3 x v vl vu l u s3.heap.objs.size Q I4 r1 (Heap.IsSliceOf.new ..) pl pu q3
  show wpAny (model X.prog X.w) X.A (subscriptTail e (.Slice lo hi none p2) v (.ref s3.heap.objs.size)) (EP X pins σ Q) X.xe {s3 with heap:=s3.heap.push {cls:= .type "slice",data:= .fields #[vl,vu, .none]}}
  exact tail_any (ops:=[.ref s3.heap.objs.size,v]) ht hT hg (by with_unfolding_all rfl)
def pN (xs:List V) (lo hi:Option Int):List V:=(xs.drop (HT.iQ xs.length 0 lo)).take (HT.iQ xs.length xs.length hi - HT.iQ xs.length 0 lo)
theorem mf (xs:List V) (lo hi:Option Int):(pN xs lo hi).length≤xs.length:=by
  unfold pN
  rw [List.length_take,List.length_drop]
  omega
end
end L2
namespace L2
open PySem PySem.Spec PyProof.Rows
def uZ (n:Nat) (i:Int):Option Nat:=if 0≤i then (if i < n then some i.toNat else none) else if -(n:Int)≤i then some (i+n).toNat else none
def atI {α:Type} (xs:List α) (i:Int):Option α:=(uZ xs.length i).bind fun j=>xs[j]?
theorem sM {n:Nat} {i:Int} {j:Nat} (h:uZ n i=some j):seqIndex? i n=some j∧j < n∧ -(n:Int)≤i∧i < n:=by
  unfold uZ at h
  by_cases h0:0≤i
  · rw [if_pos h0] at h
    by_cases h1:i < n
    · rw [if_pos h1] at h
      have e:i.toNat=j:=Option.some.inj h
      exact ⟨by rw [seqIndex_of h0 h1,e],by omega,by omega,h1⟩
    · rw [if_neg h1] at h;cases h
  · rw [if_neg h0] at h
    by_cases h1: -(n:Int)≤i
    · rw [if_pos h1] at h
      have e:(i+n).toNat=j:=Option.some.inj h
      exact ⟨by rw [seqIndex_neg (by omega) h1,e],by omega,h1,by omega⟩
    · rw [if_neg h1] at h;cases h
theorem kW {α:Type} {xs:List α} {i:Int} {v:α} (h:atI xs i=some v):∃j,seqIndex? i xs.length=some j∧xs[j]? =some v∧j < xs.length∧ -(xs.length:Int)≤i∧i < xs.length:=by
  unfold atI at h
  cases e:uZ xs.length i with
  | none=>rw [e] at h;cases h
  | some j=>
    rw [e] at h
    obtain ⟨h1,h2,h3,h4⟩:=sM e
    exact ⟨j,h1,h,h2,h3,h4⟩
def oA (b:Expr):Prop:=∀o i,subscripted b false o i=operate [o,i] (getItem o i)
def IxR (X:Cx) (r:R2):Prop:=
  ∀(value slice:Expr) (pins:List (Addr×Obj)) (s:Shared) (σ:St) (H:Hp) (x y:V) (v u:Value) (Q:VK),Inv X pins σ H s→RelV x v→RelV y u→r x y H Q→
    subscripted slice false v u=operate [v,u] (getItem v u)→wpAny (model X.prog X.w) X.A (subscriptTail value slice v u) (EP X pins σ Q) X.xe s
def MtR (X:Cx) (id:String) (r:V→List V→Hp→VK→Prop):Prop:=
  ∀(pins:List (Addr×Obj)) (s:Shared) (σ:St) (H:Hp) (x:V) (xs:List V) (v:Value) (us:List Value) (Q:VK),Inv X pins σ H s→RelV x v→Vals xs us→r x xs H Q→
    wpAny (model X.prog X.w) X.A (call (.builtin id) (v::us)) (EP X pins σ Q) X.xe s
section
variable {X:Cx} {a b:Expr} {ta tb:TE} {pos:Pos}
theorem IxR.or {r r':R2} (h:IxR X r) (h':IxR X r'):IxR X (fun x y H Q=>r x y H Q∨r' x y H Q):=by
  intro value slice pins s σ H x y v u Q I rx ry q hs
  rcases q with q | q
  · exact h value slice pins s σ H x y v u Q I rx ry q hs
  · exact h' value slice pins s σ H x y v u Q I rx ry q hs
theorem MtR.or {id:String} {r r':V→List V→Hp→VK→Prop} (h:MtR X id r) (h':MtR X id r'):MtR X id (fun x xs H Q=>r x xs H Q∨r' x xs H Q):=by
  intro pins s σ H x xs v us Q I rx rs q
  rcases q with q | q
  · exact h pins s σ H x xs v us Q I rx rs q
  · exact h' pins s σ H x xs v us Q I rx rs q
theorem gf {r:R2} (hr:IxR X r) (ha:PE X a ta) (hb:PE X b tb) (hs:oA b):PE X (.Subscript a b pos) (om r ta tb):=by
  intro pins s σ H Q I h
  exact Subscript_ (uS ha hb I h fun v u s2 x y H2 I2 rx ry q=>hr a b pins s2 σ H2 x y v u Q I2 rx ry q (hs _ _))
def u0 (K:PySem.W.Frag):R2:=fun x y H Q=>∃p xs i v,x= .ref p∧y= .int i∧SqL K H p xs∧atI xs i=some v∧Q v H
def nt (K:PySem.W.Frag):R2:=fun x y H Q=>∃p xs i v,x= .ref p∧y= .int i∧SqT K H p xs∧atI xs i=some v∧Q v H
def wp:R2:=fun x y H Q=>∃z i c,x= .str z∧y= .int i∧z.length≤sizeLine∧atI z.cps.toList i=some c∧Q (.str ⟨#[c]⟩) H
theorem ix_list:IxR X (u0 X.K):=by
  intro value slice pins s σ H x y v u Q I rx ry h hs
  obtain ⟨p,xs,i,z,rfl,rfl,hq,he,q⟩:=h
  cases rx
  obtain ⟨t,rfl⟩:=ry
  obtain ⟨its,r,pl,hz⟩:=I.list hq
  obtain ⟨j,h1,h2,h3,h4,h5⟩:=kW he
  obtain ⟨w,ew,rw'⟩:=r.get h2
  have hl:=r.length
  have hn:=iU
  have fin:EP X pins σ Q w s:=⟨z,H,I,rw',q⟩
  by_cases h0:0≤i
  · have hj:i.toNat=j:=by
      rw [seqIndex_of h0 h5] at h1
      exact Option.some.inj h1
    exact item_listR pl.isList h0 (by omega) (by rw [hj];simpa using ew) fin hs
  · have hj:(i+(its.toArray.size:Int)).toNat=j:=by
      rw [seqIndex_neg (by omega) h4] at h1
      rw [List.size_toArray,←hl]
      exact Option.some.inj h1
    exact subscriptTail_builtinR (x:=w) pl.isList.typeIs slot_list_getitem.lookup
      (wpAny_getItem_list_neg (Q:=fun r s'=>r=w∧EP X pins σ Q r s') pl.isList (by omega) (by rw [List.size_toArray] <;> omega) (by omega) (by rw [hj];simpa using ew) ⟨rfl,fin⟩) hs
theorem ix_tup:IxR X (nt X.K):=by
  intro value slice pins s σ H x y v u Q I rx ry h hs
  obtain ⟨p,xs,i,z,rfl,rfl,hq,he,q⟩:=h
  cases rx
  obtain ⟨t,rfl⟩:=ry
  obtain ⟨its,r,pl,hz⟩:=I.tuple hq
  obtain ⟨j,h1,h2,h3,h4,h5⟩:=kW he
  obtain ⟨w,ew,rw'⟩:=r.get h2
  have hl:=r.length
  have hn:=iU
  have fin:EP X pins σ Q w s:=⟨z,H,I,rw',q⟩
  exact subscriptTail_builtinR (x:=w) pl.typeIs slot_tuple_getitem.lookup
    (getItem_tuple (j:=j) (Q:=fun r s'=>r=w∧EP X pins σ Q r s') pl (by omega) (by omega) (by rw [List.size_toArray,←hl];exact h1) (by simpa using ew) ⟨rfl,fin⟩) hs
theorem u4:IxR X wp:=by
  intro value slice pins s σ H x y v u Q I rx ry h hs
  obtain ⟨z,i,c,rfl,rfl,hz,he,q⟩:=h
  obtain ⟨t,rfl⟩:=rx
  obtain ⟨t',rfl⟩:=ry
  obtain ⟨j,h1,h2,h3,h4,h5⟩:=kW he
  have hl:z.cps.toList.length=z.length:=by simp [Str.length]
  rw [hl] at h1 h4 h5
  have hn:=iU
  exact tail_any (typeIs_str s z t) slot_str_getitem.lookup (getItem_str (c:=c) (by
    have e1:decide (i < -(2 ^ 63:Int))=false:=decide_eq_false (by omega)
    have e2:decide (i≥2 ^ 63)=false:=decide_eq_false (by omega)
    rw [e1,e2,Bool.or_false]) (by rw [h1];simpa using h2) ⟨.str ⟨#[c]⟩,H,I.tok _,⟨_,rfl⟩,q⟩) hs
def xT (K:PySem.W.Frag):R2:=fun x y H Q=>u0 K x y H Q∨nt K x y H Q∨wp x y H Q
theorem u5:IxR X (xT X.K):=ix_list.or (ix_tup.or u4)
theorem Inv.lst {pins:List (Addr×Obj)} {σ:St} {H:Hp} {s:Shared} {p:Addr} {xs:List V} (I:Inv X pins σ H s) (h:H p=some (.lst xs)):
    ∃(its:List Value) (n:Nat),Vals xs its∧s.heap.get? p=some {cls:= .type "list",data:= .seq its.toArray n}∧xs.length≤sizeLine:=by
  obtain ⟨z,its,n,r,e⟩:=I.hok p _ h
  exact ⟨its,n,r,e,z⟩
theorem kX (lo hi:Option Int) (n:Nat):(sliceBounds lo hi none n).1=((HT.iQ n 0 lo:Nat):Int)∧(sliceBounds lo hi none n).2.1=((HT.iQ n n hi:Nat):Int)∧(sliceBounds lo hi none n).2.2=1:=by
  refine ⟨?_,?_,rfl⟩
  · cases lo with
    | none=>simp [sliceBounds,HT.iQ]
    | some i=>
      simp only [sliceBounds,HT.iQ,Option.getD_none,show (1:Int) > 0 by decide,if_true]
      by_cases h:i < 0
      · simp only [h,if_true] <;> omega
      · simp only [h,if_false] <;> omega
  · cases hi with
    | none=>simp [sliceBounds,HT.iQ]
    | some i=>
      simp only [sliceBounds,HT.iQ,Option.getD_none,show (1:Int) > 0 by decide,if_true]
      by_cases h:i < 0
      · simp only [h,if_true] <;> omega
      · simp only [h,if_false] <;> omega
theorem ka (its:List Value) (lo hi:Option Int):slicePick its.toArray lo hi none=((its.drop (HT.iQ its.length 0 lo)).take (HT.iQ its.length its.length hi - HT.iQ its.length 0 lo)).toArray:=by
  obtain ⟨h1,h2,h3⟩:=kX lo hi its.toArray.size
  unfold slicePick
  rw [h1,h2,h3]
  simp only [sliceRange_one,pick_run,List.size_toArray] <;> rfl
def xu (K:PySem.W.Frag):V→Option Int→Option Int→Hp→VK→Prop:=fun x lo hi H Q=>∃a xs,x= .ref a∧SqL K H a xs∧∀p,H p=none→Q (.ref p) (upd H p (.lst (pN xs lo hi)))
theorem sN:SlR X (xu X.K):=by
  intro pins s σ H x v vl vu lo hi sl Q I rx hs pl pu h
  obtain ⟨a,xs,rfl,hx,q⟩:=h
  cases rx
  obtain ⟨its,r,ht,hz⟩:=I.list hx
  have hlen:=r.length
  refine ⟨"list",_,slot_list_getitem.lookup,ht.isList.typeIs,?_⟩
  refine wpAny_getItem_list_slice ht.isList hs pl pu .none (by simp) ?_ (by rw [List.size_toArray] <;> omega)
  rw [ka,←hlen]
  refine ⟨.ref s.heap.objs.size,_,I.laid (t':=s.toks) (o:= .lst (pN xs lo hi)) (fun b ob q=>Heap.get?_push_of_some _ q) (Nat.le_refl _) ?_,rfl,q _ (I.hok.fresh (Nat.le_refl _))⟩
  exact ⟨Nat.le_trans (mf xs lo hi) hz,_,0,(r.drop (HT.iQ xs.length 0 lo)).take (HT.iQ xs.length xs.length hi - HT.iQ xs.length 0 lo),Heap.get?_push_size _ rfl⟩
theorem kY:CallR X (.builtin "len") (fun xs H Q=>∃p ys,xs=[.ref p]∧(SqL X.K H p ys∨SqT X.K H p ys)∧Q (.int ys.length) H):=by
  intro pins s σ H xs us Q I r h
  obtain ⟨p,ys,rfl,hq,q⟩:=h
  obtain ⟨u,rfl,rx⟩:=oz r
  cases rx
  have hn:=iU
  rcases hq with hq | hq
  · obtain ⟨its,r',pl,hz⟩:=I.list hq
    have hlen:=r'.length
    exact Calls.call_len_list pl.isList (by simp only [List.size_toArray] <;> omega) ⟨.int ys.length,H,I.tok _,⟨s.toks+1,by rw [List.size_toArray,hlen]⟩,q⟩
  · obtain ⟨its,r',pl,hz⟩:=I.tuple hq
    have hlen:=r'.length
    exact len_tuple pl (by simp only [List.size_toArray] <;> omega) ⟨.int ys.length,H,I.tok _,⟨s.toks+1,by rw [List.size_toArray,hlen]⟩,q⟩
theorem kZ:CallR X (.builtin "len") (fun xs H Q=>∃z,xs=[.str z]∧z.length≤sizeLine∧Q (.int z.length) H):=by
  intro pins s σ H xs us Q I r h
  obtain ⟨z,rfl,hz,q⟩:=h
  obtain ⟨u,rfl,t,rfl⟩:=oz r
  have hn:=iU
  exact len_str (by omega) ⟨.int z.length,H,I.tok _,⟨_,rfl⟩,q⟩
theorem CallR.or {f:Value} {r r':List V→Hp→VK→Prop} (h:CallR X f r) (h':CallR X f r'):CallR X f (fun xs H Q=>r xs H Q∨r' xs H Q):=by
  intro pins s σ H xs us Q I rs q
  rcases q with q | q
  · exact h pins s σ H xs us Q I rs q
  · exact h' pins s σ H xs us Q I rs q
theorem k4:CallR X (.type "list") (fun xs H Q=>∃p ys,xs=[.ref p]∧(SqL X.K H p ys∨SqT X.K H p ys)∧∀l,H l=none→Q (.ref l) (upd H l (.lst ys))):=by
  intro pins s σ H xs us Q I r h
  obtain ⟨p,ys,rfl,hq,q⟩:=h
  obtain ⟨u,rfl,rx⟩:=oz r
  cases rx
  have fin:∀(its:List Value),Vals ys its→ys.length≤sizeLine→∀(h':Heap) (c':Nat),(∀b o',s.heap.get? b=some o'→h'.get? b=some o')→
      h'.get? s.heap.objs.size=some {cls:= .type "list",dict:=none,data:= .seq its.toArray c',slots:=#[]}→EP X pins σ Q (.ref s.heap.objs.size) {s with heap:=h'}:=fun its r' hz h' c' kp e=>
    ⟨.ref s.heap.objs.size,_,I.laid (t':=s.toks) kp (Nat.le_refl _) (show ObjOk X.prog X.w _ h' _ (.lst ys) from ⟨hz,its,c',r',e⟩),rfl,q _ (I.hok.fresh (Nat.le_refl _))⟩
  rcases hq with hq | hq
  · obtain ⟨its,r',pl,hz⟩:=I.list hq
    have hlen:=r'.length
    obtain ⟨o,ho,hc,n,hd⟩:=pl.isList
    exact call_list_seq p (.inl rfl) ho hc hd (fun h' c' kp e=>fin its r' hz h' c' kp e) (by simp only [List.size_toArray] <;> omega)
  · obtain ⟨its,r',pl,hz⟩:=I.tuple hq
    have hlen:=r'.length
    obtain ⟨o,ho,hc,n,hd⟩:=pl
    exact call_list_seq p (.inr rfl) ho hc hd (fun h' c' kp e=>fin its r' hz h' c' kp e) (by simp only [List.size_toArray] <;> omega)
def xv (K:PySem.W.Frag) (T:String) (x:V) (H:Hp):Prop:=match x with
  | .str _=>T="str"
  | .int _=>T="int"
  | .ref p=>(T="list"∧∃xs,SqL K H p xs)∨(T="tuple"∧∃o,K.lookup p=some o∧o.cls= .type "tuple"∧o.dict=none)∨
      (T="dict"∧((∃kvs,H p=some (.dK kvs))∨∃kvs,H p=some (.dT kvs)))∨(T="set"∧∃S n,H p=some (.set S n))
  | _=>False
theorem qD {pins:List (Addr×Obj)} {σ:St} {H:Hp} {s:Shared} {T:String} {x:V} {v:Value} (I:Inv X pins σ H s) (r:RelV x v) (ty:xv X.K T x H):
    s.TypeIs v T∧∀a,v= .ref a→∃ob,s.heap.get? a=some ob∧ob.dict=none:=by
  cases x with
  | str z=>
    obtain ⟨t,rfl⟩:=r
    cases (show T="str" from ty)
    exact ⟨typeIs_str s z t,fun _ e=>nomatch e⟩
  | int i=>
    obtain ⟨t,rfl⟩:=r
    cases (show T="int" from ty)
    exact ⟨typeIs_int s i t,fun _ e=>nomatch e⟩
  | ref p=>
    cases r
    rcases ty with ⟨rfl,xs,hq⟩ | ⟨rfl,o,hk,hc,hd⟩ | ⟨rfl,hk⟩ | ⟨rfl,S,n,hk⟩
    · obtain ⟨its,_,pl,_⟩:=I.list hq
      refine ⟨pl.isList.typeIs,fun a e=>?_⟩
      cases e
      obtain ⟨o,n,e,c,hd,_⟩:=pl
      exact ⟨o,e,hd⟩
    · refine ⟨⟨o,I.kIn p o hk,hc⟩,fun a e=>?_⟩
      cases e
      exact ⟨o,I.kIn _ o hk,hd⟩
    · have z:∃o,s.heap.get? p=some o∧o.ExactDict:=by
        rcases hk with ⟨kvs,hk⟩ | ⟨kvs,hk⟩
        · obtain ⟨_,_,_,_,o,_,_,e,ex,_⟩:=I.hok p _ hk
          exact ⟨o,e,ex⟩
        · obtain ⟨_,_,_,_,o,_,_,e,ex,_⟩:=I.hok p _ hk
          exact ⟨o,e,ex⟩
      obtain ⟨o,e,ex⟩:=z
      refine ⟨⟨o,e,ex.1⟩,fun a e2=>?_⟩
      cases e2
      exact ⟨o,e,ex.2.1⟩
    · obtain ⟨o,_,_,_,e,ex,_⟩:=I.hok p _ hk
      refine ⟨⟨o,e,ex.1⟩,fun a e2=>?_⟩
      cases e2
      exact ⟨o,e,ex.2.1⟩
  | _=>exact False.elim ty
def wq (K:PySem.W.Frag) (T:String) (r:V→List V→Hp→VK→Prop) (to:TE):TE:=fun σ H Q=>to σ H fun x H1=>xv K T x H1∧r x [] H1 Q
def xc (K:PySem.W.Frag) (T:String) (r:V→List V→Hp→VK→Prop) (to:TE) (t:TA):TE:=fun σ H Q=>to σ H fun x H1=>xv K T x H1∧t σ H1 fun xs H2=>r x xs H2 Q
variable {o e:Expr} {es:List Expr} {to:TE} {t:TA} {name:Str} {apos cpos:Pos} {T id:String} {r:V→List V→Hp→VK→Prop}
theorem nu (pa:PlainAttrs T) (slot:Slot T name id) (hty:typeOf (.builtin id)=pure (.type "method_descriptor")) (hm:MtR X id r) (ho:PE X o to)
    (hbase:attributeBase o name X.env (eval o X.env)=eval o X.env:=by rfl) (hline:(apos.endLine == cpos.line)=true:=by rfl):PE X (.Call (.Attribute o name apos) [] [] cpos) (wq X.K T r to):=by
  intro pins s σ H Q I h
  refine wpAny_Call_method0_late hbase hline (en (ho pins s σ H _ I h) fun v s1 ⟨x,H1,I1,r1,ty,q1⟩=>?_)
  obtain ⟨h1,h2⟩:=qD I1 r1 ty
  exact ⟨T,id,pa,slot,hty,h1,h2,Calls.callWith_builtin rfl (PySem.evalArgs_none (hm pins s1 σ H1 x [] v [] Q I1 r1 .nil q1))⟩
theorem jh (pa:PlainAttrs T) (slot:Slot T name id) (hty:typeOf (.builtin id)=pure (.type "method_descriptor")) (hm:MtR X id r) (ho:PE X o to) (ha:PA X (e::es) t)
    (hbase:attributeBase o name X.env (eval o X.env)=eval o X.env:=by rfl)
    (hfew:((backTo cpos (starEach (e::es) X.env)).all (fun x=> !x.1)&&(backToKw cpos (keywordEach [] X.env)).all (fun x=>x.1.isSome)
      &&decide ((e::es).length+([]:List Keyword).length+(if ([]:List Keyword).isEmpty then 0 else 1) < 30))=true:=by rfl)
    (hline:(apos.endLine == cpos.line)=true:=by rfl) (hs:starEach (e::es) X.env=(false,eval e X.env)::starEach es X.env:=by rfl) (hplain:(backTo cpos (starEach es X.env)).any (·.1)=false:=by rfl):
    PE X (.Call (.Attribute o name apos) (e::es) [] cpos) (xc X.K T r to t):=by
  intro pins s σ H Q I h
  refine wpAny_Call_method_late hbase hfew hline rfl (en (ho pins s σ H _ I h) fun v s1 ⟨x,H1,I1,r1,ty,q1⟩=>?_)
  obtain ⟨h1,h2⟩:=qD I1 r1 ty
  refine ⟨T,id,pa,slot,hty,h1,h2,?_⟩
  have hA:=ha cpos pins s1 σ H1 _ I1 q1
  rw [hs] at hA ⊢
  refine Calls.callWith_builtin (by show (false||(backTo cpos (starEach es X.env)).any (·.1))=false;rw [hplain] <;> rfl) (Calls.evalArgs_plain ?_)
  exact en hA fun us s2 ⟨vs,H2,I2,r2,q2⟩=>hm pins s2 σ H2 x vs v us Q I2 r1 r2 q2
end
end L2
namespace L2
open PySem PySem.Spec PyProof.Rows
def xU (X:Cx) (id:String) (r:V→List V→Hp→VK→Prop):Prop:=
  ∀(pins:List (Addr×Obj)) (s:Shared) (σ:St) (H:Hp) (x:V) (xs:List V) (v:Value) (us:List Value) (Q:VK),Inv X pins σ H s→RelV x v→Vals xs us→r x xs H Q→
    wpAny (model X.prog X.w) X.A (call (.builtin id) (v::us)) (EP X pins σ Q) X.xe s
theorem Vals.one {x:V} {us:List Value} (h:Vals [x] us):∃u,us=[u]∧RelV x u:=by
  cases h with
  | cons r t=>cases t;exact ⟨_,rfl,r⟩
theorem Vals.two {x y:V} {us:List Value} (h:Vals [x,y] us):∃u v,us=[u,v]∧RelV x u∧RelV y v:=by
  cases h with
  | cons r t=>
    obtain ⟨v,rfl,q⟩:=Vals.one t
    exact ⟨_,_,rfl,r,q⟩
theorem Vals.zero:∀{us:List Value},Vals [] us→us=[]
  | _, .nil=>rfl
theorem Vals.dropLast {xs:List V} {us:List Value} (h:Vals xs us):Vals xs.dropLast us.dropLast:=by
  induction h with
  | nil=>exact .nil
  | cons r t ih=>
    cases t with
    | nil=>exact .nil
    | cons q t'=>exact .cons r ih
theorem Vals.eraseIdx:∀{xs:List V} {us:List Value} (i:Nat),Vals xs us→Vals (xs.eraseIdx i) (us.eraseIdx i)
  | _,_,_, .nil=> .nil
  | _,_,0, .cons _ t=>t
  | _,_,i+1, .cons r t=> .cons r (Vals.eraseIdx i t)
theorem Vals.reverse {xs:List V} {us:List Value} (h:Vals xs us):Vals xs.reverse us.reverse:=by
  induction h with
  | nil=>exact .nil
  | cons r t ih=>rw [List.reverse_cons,List.reverse_cons];exact Vals.append ih (.cons r .nil)
theorem Vals.rep {xs:List V} {us:List Value} (h:Vals xs us):∀k:Nat,Vals (List.replicate k xs).flatten (List.replicate k us).flatten
  | 0=> .nil
  | k+1=>by
    rw [List.replicate_succ,List.replicate_succ,List.flatten_cons,List.flatten_cons]
    exact Vals.append h (Vals.rep h k)
theorem nv {α:Type} (l:List α):l.eraseIdx (l.length - 1)=l.dropLast:=by
  induction l with
  | nil=>rfl
  | cons a r ih=>
    cases r with
    | nil=>rfl
    | cons b r=>
      have e:(a::b::r).length - 1=((b::r).length - 1)+1:=by
        have h1:(a::b::r).length=r.length+2:=rfl
        have h2:(b::r).length=r.length+1:=rfl
        omega
      rw [e,List.eraseIdx_cons_succ,ih]
      all_goals rfl
section
variable {X:Cx} {pins:List (Addr×Obj)} {σ:St} {H:Hp} {s:Shared} {l b:Addr} {xs ys zs:List V}
theorem Inv.lset {its its':List Value} {n:Nat} {f:Array Value→Array Value} {t':Nat} (I:Inv X pins σ H s) (hH:H l=some (.lst xs))
    (e:s.heap.get? l=some {cls:= .type "list",data:= .seq its.toArray n}) (hf:f its.toArray=its'.toArray) (hv:Vals ys its') (hz:ys.length≤sizeLine):
    Inv X pins σ (upd H l (.lst ys)) {s with heap:=s.heap.update l (Obj.mapSeq f),toks:=t'}:=by
  have q:=PySem.IsL.update e f
  rw [hf] at q
  refine I.write (x:=l) (e:=l) (by rw [hH];exact trivial) (.inl rfl) (fun b' u hb hu=>(Heap.get?_update_other s.heap (Obj.mapSeq f) (Ne.symm hb)).trans hu) ⟨_,q⟩ ?_
  exact ⟨hz,its',_,hv,q⟩
theorem Inv.lnew {its:List Value} {t':Nat} (I:Inv X pins σ H s) (hv:Vals ys its) (hz:ys.length≤sizeLine):
    Inv X pins σ (upd H s.heap.objs.size (.lst ys)) {s with heap:=s.heap.push {cls:= .type "list",data:= .seq its.toArray},toks:=t'}:=
  I.laid (fun _ _ q=>Heap.get?_push_of_some _ q) (Nat.le_refl _) ⟨hz,its,0,hv,Heap.get?_push_size _ rfl⟩
theorem Inv.fresh (I:Inv X pins σ H s):H s.heap.objs.size=none:=I.hok.fresh (Nat.le_refl _)
theorem Inv.lstM (I:Inv X pins σ H s) (hH:H l=some (.lst xs)):xs.length≤sizeLine∧∃(its:List Value) (n:Nat),Vals xs its∧xs.length=its.length∧s.heap.get? l=some {cls:= .type "list",data:= .seq its.toArray n}:=by
  obtain ⟨z,its,n,r,e⟩:=I.hok l _ hH
  exact ⟨z,its,n,r,r.length,e⟩
end
section
variable {X:Cx}
def gq:V→List V→Hp→VK→Prop:=fun x vs H Q=>∃l xs y,x= .ref l∧vs=[y]∧H l=some (.lst xs)∧xs.length < sizeLine∧Q .non (upd H l (.lst (xs++[y])))
theorem gg:xU X "list.append" gq:=by
  intro pins s σ H x vs v us Q I rx rv h
  obtain ⟨l,xs,y,rfl,rfl,hH,hz,q⟩:=h
  cases rx
  obtain ⟨u,rfl,ru⟩:=rv.one
  obtain ⟨z,its,n,r,hl,e⟩:=I.lstM hH
  refine call_meets F.slot_list_append ⟨_,e,rfl⟩ F.entry_list_append (F.args_list_append_2 _ _) (PySem.list_append l its.toArray n u (by rw [List.size_toArray];omega)) ⟨e,?_⟩
  refine ⟨.non,_,I.lset (its':=its++[u]) hH e (by simp) (r.append (.cons ru .nil)) ?_,rfl,q⟩
  rw [List.length_append,List.length_singleton]
  omega
def wt:V→List V→Hp→VK→Prop:=fun x vs H Q=>∃l xs y,x= .ref l∧vs=[]∧H l=some (.lst xs)∧xs[xs.length - 1]? =some y∧Q y (upd H l (.lst xs.dropLast))
theorem nz:xU X "list.pop" wt:=by
  intro pins s σ H x vs v us Q I rx rv h
  obtain ⟨l,xs,y,rfl,rfl,hH,hy,q⟩:=h
  cases rx
  have hus:=rv.zero
  subst hus
  obtain ⟨z,its,n,r,hl,e⟩:=I.lstM hH
  obtain ⟨u,hu,ru⟩:=r.get hy
  have hy':its.toArray[its.toArray.size - 1]? =some u:=by
    show its.toArray[its.length - 1]? =some u
    rw [←Array.getElem?_toList,←hl]
    exact hu
  refine call_meets F.slot_list_pop ⟨_,e,rfl⟩ F.entry_list_pop (F.args_list_pop_1 _) (MeetsSeq.list_pop_last l its.toArray n u hy' (by rw [List.size_toArray];omega)) ⟨e,?_⟩
  refine ⟨y,_,I.lset (its':=its.dropLast) hH e ?_ r.dropLast ?_,ru,q⟩
  · show its.toArray.eraseIdxIfInBounds (its.toArray.size - 1)=its.dropLast.toArray
    rw [List.size_toArray,List.eraseIdxIfInBounds_toArray,nv]
  · rw [List.length_dropLast]
    omega
theorem sO {α:Type} (xs:List α) (k:Nat):(List.replicate k xs).flatten.length=k*xs.length:=by
  induction k with
  | zero=>simp
  | succ k ih=>rw [List.replicate_succ,List.flatten_cons,List.length_append,ih,Nat.succ_mul,Nat.add_comm]
end
end L2
namespace Att
open PySem PySem.W PySem.Calls PyProof.Rows
theorem jx {P:Params} {h:Heap}:∀(ns:List Int) (vs:List Value),WellAll P h vs (ns.map WData.int)→IntsAre vs ns:=by
  intro ns
  induction ns with
  | nil=>
    intro vs w
    rw [List.map_nil] at w
    cases w
    exact .nil
  | cons n ns ih=>
    intro vs w
    rw [List.map_cons] at w
    cases w with
    | cons a b=>
      cases a
      exact .cons _ _ (ih _ b)
theorem pO {l:OpenLaw} {n:Nat} (hn:l.most=some n) {P:Params} {h:Heap} {args:List WData} {vals:List Value}
    (hpre:l.row.toRowW.claim.pre args=true) (hwl:WellAll P h vals args):
    ∃a vs ns,vals=[Value.ref a]∧args=[WData.list (ns.map WData.int)]∧h.get? a=some {cls:= .type "list",data:= .seq vs.toArray}∧IntsAre vs ns∧ns.length≤n:=by
  have hsh:WShape.hasAll [] args [.list .int]=true:=(pre_splitW hpre).1
  have hc:l.pre.holds [] {args:=args}=true:=(pre_splitW hpre).2
  obtain ⟨d,r,rfl,h1,h2⟩:=hasAllW_cons hsh
  obtain rfl:=hasAllW_nil h2
  obtain ⟨xs,rfl,h3⟩:=hasW_list h1
  obtain ⟨ns,rfl⟩:=items_int h3
  have hlen:ns.length≤n:=by
    unfold OpenLaw.pre at hc
    have h4:(WTm.not (.lt (.lit (.int (n:Int))) (.len (.arg 0)))).holds [] {args:=[.list (ns.map .int)]}=true:=by
      have h4:=(holds_andW hc).1
      rw [hn] at h4
      exact h4
    have h5:=condW_of h4 (w_not (w_lt w_lit (w_len_list (w_arg rfl))))
    rw [List.length_map] at h5
    refine Nat.le_of_not_lt fun q=>?_
    have q':(n:Int) < ((ns.length:Nat):Int):=by omega
    first
      | (rw [decide_eq_true q'] at h5;exact absurd h5 (by decide))
      | (simp at h5;omega)
  cases hwl with
  | cons w1 w2=>
    cases w2
    cases w1 with
    | list ho hall=>exact ⟨_,_,ns,rfl,rfl,ho,jx ns _ hall,hlen⟩
theorem pP (l:OpenLaw) (args:List WData):l.row.toRowW.claim.post args (.bool true) args=true:=
  postW_of (r:=l.row.toRowW) (X:=(true == true))
    (show WShape.has [] (.bool true) .bool=true by first | rfl | decide | simp [WShape.has,WShape.arms,WShape.armsAll])
    (show (WTm.eq .res (.lit (.bool true))).value [] {args:=args,res:=some (.bool true),after:=args}=some (.bool (true == true)) from w_eq_bool (w_res rfl) w_lit) rfl
theorem mh {l:OpenLaw} {n:Nat} {q:Program} {loose:List Str} {XP:(Str→Option Value)→Heap→Prop} {YP:World→Heap→Prop} {d:DefRec}
    (hn:l.most=some n) (hdf:d.params.defaults=[])
    (call:∀(w:World) (s₀ s₁:Shared) (mg mb:Str→Option Value) (fa:Addr) (o:Obj) (pm cd doc:Value) (a:Addr) (vs:List Value) (ns:List Int),
      Ground q loose [] XP w s₀ mg mb s₁.heap→YP w s₁.heap→
      s₁.heap.get? fa=some o→o.data= .func (docDef d.name d.params d.body d.scope pm cd doc)→s₁.heap.CodeRec cd d.name→mg d.name=some (.ref fa)→
      s₁.heap.get? a=some {cls:= .type "list",data:= .seq vs.toArray}→IntsAre vs ns→ns.length≤n→s₁.gens=#[]→
      codeAny (model l.prog w) callerA (.call (.ref fa) ⟨[.ref a],[]⟩) (fun r s'=>r= .ok (.ret (.bool true))∧OldK s₁.heap s'.heap∧s'.os=s₁.os∧AllBare s'.gens) s₁):
    WalkO q loose XP YP l.row.toRowW d [] (fun f vs=>PySem.call f vs):=by
  intro w s₀ s₁ mg mb G Y fa o pm cd doc dV kV ho hd hcd hD hmg hg args vals as hpre hlay hrd hwl hlo
  obtain rfl:dV= .none:=Dflts.none hD hdf
  obtain rfl:kV= .none:=Dflts.noKw hD
  obtain ⟨a,vs,ns,rfl,rfl,hobj,hints,hlen⟩:=pO hn hpre hwl
  refine enter_call (codeAny_mono (call w s₀ s₁ mg mb fa o pm cd doc a vs ns G Y ho (fd_plain hd) hcd hmg hobj hints hlen hg) fun r s' hq=>?_)
  obtain ⟨rfl,h2,h3,h4⟩:=hq
  exact ⟨.inl ⟨.bool true, .bool true,[],rfl,fun _=>rfl, .bool true,pP l _,fun _=>⟨List.Pairwise.nil,fun _ hm=>(nomatch hm)⟩⟩,h2,h3,h4⟩
end Att
namespace L2
open PySem PySem.Spec PyProof.Rows
theorem g8:∀{vs:List Value} {ns:List Int},IntsAre vs ns→Vals (ns.map V.int) vs
  | _,_, .nil=> .nil
  | _,_, .cons n t h=> .cons ⟨t,rfl⟩ (g8 h)
theorem ObjOk.tbl0 {P:Program} {w:World} {H:Hp} {h:Heap} {b:Addr} {q:Str} (e:h.get? b=some (PySem.W.tabObj #[])):ObjOk P w H h b (.tbl q):=⟨#[],e,trivial,fun pos cv z=>by cases z⟩
end L2
namespace L2
open PySem PySem.Spec PyProof.Rows
def fc (s:Stmt):Arguments:=match s with
  | .FunctionDef _ a _ _ _ _ _ _ _ _=>a
  | _=>{posonlyargs:=[],args:=[],vararg:=none,kwonlyargs:=[],kw_defaults:=[],kwarg:=none,defaults:=[]}
def dJ (s:Stmt):List Stmt:=match s with
  | .FunctionDef _ _ b _ _ _ _ _ _ _=>b
  | _=>[]
def am (s:Stmt):Scope:=match s with
  | .FunctionDef _ _ _ _ _ _ sc _ _ _=>sc
  | _=>{kind:= .function,names:=[],isGenerator:=false,isCoroutine:=false}
abbrev qm:ql:=fun _ _ _ _ _ _=>False
abbrev E0:XK:=fun _ _ _=>False
theorem wu {X:Cx}:nr qm X E0:=fun _ _ _ _ _ _ _ h=>h.elim
structure Fun (K:PySem.W.Frag) (x qual:Str) (st:Stmt) (f:Addr) (fd:FuncData):Prop where
  ex:∃(oc:Value) (od:Option Addr) (kV doc pm:Value) (an:Option Addr) (cdv ct:Value) (osl:Array (Option Value)),
    fd=PySem.W.fnOf x qual (fc st) (dJ st) (am st) .none kV doc pm an cdv ct∧K.lookup f=some ⟨oc,od, .func fd,osl⟩∧PySem.W.codeIn K cdv qual=true
  kp:PySem.W.keepIn K (.ref f)=true
section
variable {P:Program} {w:World} {K:PySem.W.Frag} {mg:Str→Option Value} {base:Heap}
theorem Fun.ok {x qual:Str} {st:Stmt} {f:Addr} {fd:FuncData} {N ps:List Str} {k:Nat} {sp:Sp} (F:Fun K x qual st f fd) (S:FnScope N ps (am st)) (len:∀vs H Q E,sp vs H Q E→vs.length=ps.length)
    (hbody:∀(cdv:Value) (A:Around) (outer:List Env) (s:Shared) (H:Hp) (vs:List V) (Q:VK) (E:XK),Room k (A.deeper (envOfC qual (am st) s.heap.objs.size f cdv))→sp vs H Q E→
      ∃t,PSs (kT qm P w K mg base N qual (am st) f cdv A outer s H E).nox (dJ st) t∧t {nx:=fun _ H'=>Q .non H',rt:=Q} (gM N vs) H):FnOk P w K mg base qm (k+1) f fd ps sp:=by
  obtain ⟨oc,od,kV,doc,pm,an,cdv,ct,osl,rfl,lk,hcd⟩:=F.ex
  refine wn lk hcd S len fun A outer s H vs Q E hr hsp=>?_
  obtain ⟨t,h,q⟩:=hbody cdv A outer s H vs Q E hr hsp
  exact ⟨t,h.nox,q⟩
theorem Fun.binds {x qual:Str} {st:Stmt} {f:Addr} {fd:FuncData} {ps:List Str} (F:Fun K x qual st f fd)
    (h:∀(kV doc pm:Value) (an:Option Addr) (cdv ct:Value) (us:List Value),us.length=ps.length→bindArgs (PySem.W.fnOf x qual (fc st) (dJ st) (am st) .none kV doc pm an cdv ct) ⟨us,[]⟩=pure (ps.zip us)):Binds K fd ps []:=by
  obtain ⟨oc,od,kV,doc,pm,an,cdv,ct,osl,rfl,lk,hcd⟩:=F.ex
  exact .all (h kV doc pm an cdv ct)
theorem nD {x qual:Str} {st:Stmt} {f:Addr} {oc:Value} {od an:Option Addr} {osl:Array (Option Value)} {kV doc pm cdv ct:Value} (l:K.lookup f=some ⟨oc,od, .func (PySem.W.fnOf x qual (fc st) (dJ st) (am st) .none kV doc pm an cdv ct),osl⟩)
    (c:PySem.W.codeIn K cdv qual=true) (k:PySem.W.keepIn K (.ref f)=true):Fun K x qual st f (PySem.W.fnOf x qual (fc st) (dJ st) (am st) .none kV doc pm an cdv ct):=⟨⟨oc,od,kV,doc,pm,an,cdv,ct,osl,rfl,l,c⟩,k⟩
end
section
variable {X:Cx}
theorem pv (i:Nat) {x:Str} {pos:Pos} (hN:X.N[i]? =some x:=by rfl) (hv:qk X.env.scope x:=by first | exact Or.inl rfl | exact Or.inr (Or.inl rfl) | exact Or.inr (Or.inr rfl)) (hd:(x == ("__debug__":Str))=false:=by decide)
    (hcd:(x == ("__classdict__":Str))=false:=by decide):PE X (.Name x pos) (fP i):=fZ hN hv hd hcd
end
def Same (H H':Hp):Prop:=∀b o,H b=some o→H' b=some o
theorem Same.refl (H:Hp):Same H H:=fun _ _ h=>h
theorem Same.trans {H H1 H2:Hp} (a:Same H H1) (b:Same H1 H2):Same H H2:=fun c o h=>b c o (a c o h)
theorem Same.free {H H':Hp} (e:Same H H') {l:Addr} (h:H' l=Option.none):H l=Option.none:=by
  cases q:H l with
  | none=>rfl
  | some o=>
    rw [e l o q] at h
    cases h
theorem Same.seq {K:PySem.W.Frag} {H H':Hp} {a:Addr} {xs:List V} (e:Same H H') (h:SqL K H a xs):SqL K H' a xs:=by
  rcases h with (h | ⟨o,h⟩) | h
  · exact .inl (.inl (e _ _ h))
  · exact .inl (.inr ⟨o,e _ _ h⟩)
  · exact .inr h
end L2
namespace NH
section
variable {α:Type} [DecidableEq α]
def stp (r:List (α×Int)) (p:α×Int):List (α×Int):=
  match r with
  | []=>if p.2=0 then [] else [p]
  | q::r'=>if q.1=p.1 then (if q.2+p.2=0 then r' else (p.1,q.2+p.2)::r') else (if p.2=0 then q::r' else p::q::r')
def stk (c:List (α×Int)):List (α×Int):=c.foldl stp []
def short (c:List (α×Int)):List (α×Int):=(stk c).reverse
def Red:List (α×Int)→Prop
  | []=>True
  | [p]=>p.2≠0
  | p::q::r=>p.2≠0∧p.1≠q.1∧Red (q::r)
theorem Red.tail {p:α×Int} {r:List (α×Int)} (h:Red (p::r)):Red r:=by
  cases r with
  | nil=>trivial
  | cons q r=>exact h.2.2
theorem Red.head {p:α×Int} {r:List (α×Int)} (h:Red (p::r)):p.2≠0:=by
  cases r with
  | nil=>exact h
  | cons q r=>exact h.1
theorem Red.cons {p:α×Int} {r:List (α×Int)} (h0:p.2≠0) (h1:∀q∈r.head?,p.1≠q.1) (h:Red r):Red (p::r):=by
  cases r with
  | nil=>exact h0
  | cons q r=>exact ⟨h0,h1 q rfl,h⟩
theorem Red.next {p:α×Int} {r:List (α×Int)} (h:Red (p::r)):∀q∈r.head?,p.1≠q.1:=by
  cases r with
  | nil=>intro q hq;cases hq
  | cons q r=>intro q' hq;cases hq;exact h.2.1
theorem oB {r:List (α×Int)} (h:Red r) (p:α×Int):Red (stp r p):=by
  cases r with
  | nil=>
    unfold stp
    by_cases h0:p.2=0
    · simp [h0,Red]
    · simp [h0,Red]
  | cons q r=>
    show Red (if q.1=p.1 then (if q.2+p.2=0 then r else (p.1,q.2+p.2)::r) else (if p.2=0 then q::r else p::q::r))
    by_cases e:q.1=p.1
    · rw [if_pos e]
      by_cases z:q.2+p.2=0
      · rw [if_pos z];exact h.tail
      · rw [if_neg z]
        refine Red.cons z (fun s hs=>?_) h.tail
        rw [←e];exact h.next s hs
    · rw [if_neg e]
      by_cases z:p.2=0
      · rw [if_pos z];exact h
      · rw [if_neg z];exact ⟨z,fun t=>e t.symm,h⟩
theorem ko:∀(c:List (α×Int)) {r:List (α×Int)},Red r→Red (c.foldl stp r)
  | [],_,h=>h
  | p::c,_,h=>ko c (oB h p)
theorem mi {r:List (α×Int)} (h:Red r) (n:α):stp r (n,0)=r:=by
  cases r with
  | nil=>simp [stp]
  | cons q r=>
    have:=h.head
    unfold stp
    by_cases e:q.1=n
    · obtain ⟨a,b⟩:=q
      simp at e this
      subst e
      simp [this]
    · simp [e]
theorem oC {r:List (α×Int)} (h:Red r) (n:α) (a b:Int):stp (stp r (n,a)) (n,b)=stp r (n,a+b):=by
  cases r with
  | nil=>
    by_cases ha:a=0
    · subst ha;simp [stp]
    · simp [stp,ha]
  | cons q r=>
    obtain ⟨m,u⟩:=q
    have hu:u≠0:=h.head
    by_cases e:m=n
    · subst e
      by_cases z:u+a=0
      · have e1:stp ((m,u)::r) (m,a)=r:=by simp [stp,z]
        rw [e1]
        have ez:u+(a+b)=b:=by omega
        have hn:=h.next
        cases r with
        | nil=>
          by_cases hb:b=0
          · subst hb;simp [stp];omega
          · simp [stp,ez,hb]
        | cons s r=>
          have e2:¬s.1=m:=fun t=>hn s rfl t.symm
          by_cases hb:b=0
          · subst hb;simp [stp,e2];omega
          · simp [stp,ez,hb,e2]
      · have e1:stp ((m,u)::r) (m,a)=(m,u+a)::r:=by simp [stp,z]
        rw [e1]
        simp only [stp,if_true]
        rw [Int.add_assoc]
    · by_cases ha:a=0
      · subst ha;simp [stp,e]
      · simp [stp,e,ha]
theorem qE {r:List (α×Int)} (h:Red r) (n:α) (a:Int):stp (stp r (n,a)) (n,-a)=r:=by
  rw [oC h,Int.add_right_neg,mi h]
def contr (c:List (α×Int)):List (α×Int):=c.reverse.map fun p=>(p.1,-p.2)
theorem nE (p:α×Int) (c:List (α×Int)):contr (p::c)=contr c++[(p.1,-p.2)]:=by simp [contr]
theorem di (c:List (α×Int)):(contr c).length=c.length:=by simp [contr]
theorem iV:∀(c:List (α×Int)) {r:List (α×Int)},Red r→(c++contr c).foldl stp r=r
  | [],_,_=>rfl
  | p::c,r,h=>by
    rw [nE,←List.append_assoc,List.foldl_append]
    show stp ((c++contr c).foldl stp (stp r p)) (p.1,-p.2)=r
    rw [iV c (oB h p)]
    exact qE h p.1 p.2
def sn (w:List (α×Int)) (p:α×Int):List (α×Int):=(stp w.reverse p).reverse
def kq (p x:α×Int):List (α×Int):=if x.1=p.1 then (if x.2+p.2=0 then [] else [(p.1,x.2+p.2)]) else (if p.2=0 then [x] else [p,x])
theorem qF (p x:α×Int) (r:List (α×Int)):stp (x::r) p=kq p x++r:=by
  show (if x.1=p.1 then (if x.2+p.2=0 then r else (p.1,x.2+p.2)::r) else (if p.2=0 then x::r else p::x::r))=kq p x++r
  unfold kq
  by_cases e:x.1=p.1
  · rw [if_pos e,if_pos e];split <;> rfl
  · rw [if_neg e,if_neg e];split <;> rfl
def xV (x p:α×Int):List (α×Int):=(kq p x).reverse
theorem nG (c:List (α×Int)):short (c++contr c)=[]:=by
  unfold short stk;rw [iV c (r:=[]) trivial];rfl
theorem iW {A B X Y:List (α×Int)} (h:∀r,Red r→X.foldl stp r=Y.foldl stp r):short (A++X++B)=short (A++Y++B):=by
  unfold short stk
  rw [List.foldl_append,List.foldl_append,List.foldl_append,List.foldl_append,h _ (ko A (r:=[]) trivial)]
theorem qG (n:α):∀r:List (α×Int),Red r→[(n,0)].foldl stp r=([]:List (α×Int)).foldl stp r:=fun r h=>mi h n
theorem qH (c:List (α×Int)):∀r:List (α×Int),Red r→(c++contr c).foldl stp r=([]:List (α×Int)).foldl stp r:=fun r h=>iV c h
theorem pQ (n:α) (t u:Int):∀r:List (α×Int),Red r→[(n,t),(n,u - t)].foldl stp r=[(n,u)].foldl stp r:=fun r h=>by
  show stp (stp r (n,t)) (n,u - t)=stp r (n,u)
  rw [oC h]
  congr 2
  omega
end
end NH
namespace L2
open PySem PySem.Spec PyProof.Rows
theorem bR {H:Hp} {p:Addr} (h:H p=none) (o:HO):Same H (upd H p o):=fun b u q=>by rw [ai (eJ q h)];exact q
theorem Same.tup {K:PySem.W.Frag} {H H':Hp} {a:Addr} {xs:List V} (e:Same H H') (h:SqT K H a xs):SqT K H' a xs:=by
  rcases h with (h | ⟨o,h⟩) | h
  · exact .inl (.inl (e _ _ h))
  · exact .inl (.inr ⟨o,e _ _ h⟩)
  · exact .inr h
def SameBut (l:Addr) (H H':Hp):Prop:=∀b o,b≠l→H b=some o→H' b=some o
theorem SameBut.upd {H:Hp} {l:Addr} (o:HO):SameBut l H (upd H l o):=fun b u hb q=>by rw [ai hb];exact q
theorem SameBut.trans {H H1 H2:Hp} {l:Addr} (a:SameBut l H H1) (b:SameBut l H1 H2):SameBut l H H2:=fun c o hc q=>b c o hc (a c o hc q)
theorem SameBut.same {H H':Hp} {l:Addr} (a:SameBut l H H') (h:H l=none):Same H H':=fun b o q=>a b o (eJ q h) q
theorem SameBut.tup {K:PySem.W.Frag} {H H':Hp} {l a:Addr} {xs ys:List V} (e:SameBut l H H') (hl:H l=some (.lst ys)) (h:SqT K H a xs):SqT K H' a xs:=by
  rcases h with (h | ⟨o,h⟩) | h
  · exact .inl (.inl (e _ _ (qo h hl (by intro z;cases z)) h))
  · exact .inl (.inr ⟨o,e _ _ (qo h hl (by intro z;cases z)) h⟩)
  · exact .inr h
mutual
inductive DOf (K:PySem.W.Frag) (H:Hp):V→PyData→Prop
  | non:DOf K H .non .none
  | bl (b:Bool):DOf K H (.bl b) (.bool b)
  | int (i:Int):DOf K H (.int i) (.int i)
  | str (x:Str):DOf K H (.str x) (.str x)
  | lst {a:Addr} {xs:List V} {ds:List PyData}:SqL K H a xs→DAll K H xs ds→DOf K H (.ref a) (.list ds)
  | tup {a:Addr} {xs:List V} {ds:List PyData}:SqT K H a xs→DAll K H xs ds→DOf K H (.ref a) (.tuple ds)
inductive DAll (K:PySem.W.Frag) (H:Hp):List V→List PyData→Prop
  | nil:DAll K H [] []
  | cons {x:V} {xs:List V} {d:PyData} {ds:List PyData}:DOf K H x d→DAll K H xs ds→DAll K H (x::xs) (d::ds)
end
section
variable {X:Cx} {pins:List (Addr×Obj)} {σ:St} {H:Hp} {s:Shared}
theorem DOf.reads (I:Inv X pins σ H s) {x:V} {d:PyData} {u:Value} (h:DOf X.K H x d) (r:RelV x u):∃as,Reads s.heap u d as:=DOf.rec (motive_1:=fun x d _=>∀{u:Value},RelV x u→∃as,Reads s.heap u d as) (motive_2:=fun xs ds _=>∀{us:List Value},Vals xs us→∃as,ReadsAll s.heap us ds as)
    (fun r=>by cases r;exact ⟨_,Reads.none⟩) (fun b _ r=>by cases r;exact ⟨_,Reads.bool b⟩) (fun i _ r=>by obtain ⟨t,rfl⟩:=r;exact ⟨_,Reads.int i t⟩) (fun x _ r=>by obtain ⟨t,rfl⟩:=r;exact ⟨_,Reads.str x t⟩)
    (fun hq _ ih _ r=>by
      cases r
      obtain ⟨its,rv,⟨o,n,e,c,_,d⟩,_⟩:=I.list hq
      obtain ⟨as,q⟩:=ih rv
      exact ⟨_,reads_list_at e c d (by simpa using q)⟩)
    (fun hq _ ih _ r=>by
      cases r
      obtain ⟨its,rv,⟨o,e,c,n,d⟩,_⟩:=I.tuple hq
      obtain ⟨as,q⟩:=ih rv
      exact ⟨_,reads_tuple_at e c d (by simpa using q)⟩)
    (fun r=>by cases r;exact ⟨_,ReadsAll.nil⟩)
    (fun _ _ a b _ r=>by
      cases r with
      | cons r rt=>
        obtain ⟨as,q⟩:=a r
        obtain ⟨bs,p⟩:=b rt
        exact ⟨_,ReadsAll.cons q p⟩) h r
end
def wv (K:PySem.W.Frag):R2:=fun x y H Q=>∃d e,DOf K H x d∧DOf K H y e∧SeqAt.shaped d=true∧SeqAt.shaped e=true∧Q (.bl (PyData.eqv d e)) H
def ww (K:PySem.W.Frag):R2:=fun x y H Q=>∃d e,DOf K H x d∧DOf K H y e∧SeqAt.shaped d=true∧SeqAt.shaped e=true∧Q (.bl (!PyData.eqv d e)) H
theorem qI {X:Cx} (hu:X.A.units+64 < cLine):OpR X (compareOp .Eq) (wv X.K):=by
  intro pins s σ H x y v u Q I rx ry h
  obtain ⟨d,e,hd,he,s1,s2,q⟩:=h
  obtain ⟨as,ra⟩:=hd.reads I rx
  obtain ⟨bs,rb⟩:=he.reads I ry
  exact eq_dataH ra rb s1 s2 hu ⟨.bl _,H,I,rfl,q⟩
theorem u6 {X:Cx} (hu:X.A.units+64 < cLine):OpR X (compareOp .NotEq) (ww X.K):=by
  intro pins s σ H x y v u Q I rx ry h
  obtain ⟨d,e,hd,he,s1,s2,q⟩:=h
  obtain ⟨as,ra⟩:=hd.reads I rx
  obtain ⟨bs,rb⟩:=he.reads I ry
  exact ne_dataH ra rb s1 s2 hu ⟨.bl _,H,I,rfl,q⟩
def xw (K:PySem.W.Frag) (a:Addr) (xs:List V):It:=
  ⟨fun i H=>SqL K H a xs∧i < xs.length,fun i H x H'=>H'=H∧xs.reverse[i]? =some x,fun i H=>SqL K H a xs∧i=xs.length⟩
theorem qJ {P:Program} {w:World} {K:PySem.W.Frag} {tg:Expr} (a it:Addr) (xs:List V):Turn P w K tg (xw K a xs) [it] it (fun i h=>h.IsRevIter it a ((xs.length:Int) - 1 - (i:Int))) where
  mem:=by simp
  obj:=fun i h st b hb=>by
    have e:b=it:=by simpa using hb
    subst e
    obtain ⟨o,e,c,d⟩:=st
    exact ⟨o,e,fun v z=>by rw [d] at z;cases z⟩
  keep:=fun i h h' st k=>st.at fun o e=>k it (by simp) o e
  item:=by
    intro X hP hw hK hc i pins s σ H E I hf st hg
    subst hP hw hK
    obtain ⟨hq,hx⟩:=hg
    obtain ⟨its,rv,p,hz⟩:=I.list hq
    have hlen:=rv.length
    have e0:(xs.length:Int) - 1 - (i:Int)=((xs.length - 1 - i:Nat):Int):=by omega
    have hget:xs.reverse[i]? =xs[xs.length - 1 - i]? :=List.getElem?_reverse hx
    obtain ⟨x,hx'⟩:∃x,xs[xs.length - 1 - i]? =some x:=⟨xs[xs.length - 1 - i]'(by omega),List.getElem?_eq_getElem (by omega)⟩
    obtain ⟨u,hu,ru⟩:=rv.get hx'
    obtain ⟨f0,f1,f2,f3,f4,f5⟩:=hf it (by simp)
    have st1:s.heap.IsRevIter it a ((xs.length - 1 - i:Nat):Int):=by rw [←e0];exact st
    refine wpAny_pyNext_rev_item st1 p.isList (x:=u) (by simpa using hu) fun h' st' sb=>?_
    have I1:Inv X pins σ H {s with heap:=h'}:=I.turned (t':=s.toks) (fun b o hb e=>(sb.2 b hb).trans e) f0 f1 f3 f4 f5
    have e1:((xs.length - 1 - i:Nat):Int) - 1=(xs.length:Int) - 1 - ((i+1:Nat):Int):=by omega
    have st2:h'.IsRevIter it a ((xs.length:Int) - 1 - ((i+1:Nat):Int)):=by rw [←e1];exact st'
    obtain ⟨o,e,c,d⟩:=id st'
    exact ⟨u,rfl,ma (s:={s with heap:=h'}) e c d (by decide) ⟨x,H,I1,ru,⟨rfl,hget.trans hx'⟩,st2,fun b hb=>(hf b hb).1⟩⟩
  done:=by
    intro X hP hw hK hc i pins s σ H E I hf st hg
    subst hP hw hK
    obtain ⟨hq,hx⟩:=hg
    obtain ⟨f0,f1,f2,f3,f4,f5⟩:=hf it (by simp)
    have e0:(xs.length:Int) - 1 - (i:Int)= -1:=by omega
    have st1:s.heap.IsRevIter it a (-1):=by rw [←e0];exact st
    exact wpAny_pyNext_rev_end (I.ok.hd hc) st1 fun h' eb=>⟨rfl,I.turned (t':=s.toks) (fun b o hb e=>eb b o hb e) f0 f1 f3 f4 f5⟩
  self:=fun _ _ _ _ _ st h=>wpAny_pyIter_revIter st h
section
variable {X:Cx} {tg:Expr}
def xx (K:PySem.W.Frag) (tl:TA):TI:=fun σ H R=>tl σ H fun vs H1=>∃a xs,vs=[.ref a]∧SqL K H1 a xs∧R (xw K a xs) H1
theorem u7 {l:Expr} {tl:TA} {p pos:Pos} (hg:Gl X "reversed") (hm:X.mg "reversed"=none) (ha:PA X [l] tl) (hs:starEach [l] X.env=[(false,eval l X.env)]:=by rfl):PI X tg (.Call (.Name "reversed" p) [l] [] pos) (xx X.K tl):=by
  intro pins s σ H R I h
  refine Call_ (iS I hg hm boot_reversed (PyProof.Rows.callWith_type1 (en (ha pos pins s σ H _ I h) fun us s1 ⟨vs,H1,I1,r1,q1⟩=>?_) hs rfl))
  obtain ⟨a,xs,e,hq,q⟩:=q1
  subst e
  cases r1 with
  | cons r rr=>
    cases rr
    cases r
    obtain ⟨its,rv,p,hz⟩:=I1.list hq
    have hlen:=rv.length
    refine call_reversed_list p.isList ?_
    have hit:(s1.heap.push (revObj a (((its.toArray).size:Int) - 1))).IsRevIter s1.heap.objs.size a ((xs.length:Int) - 1 - ((0:Nat):Int)):=by
      refine ⟨_,Heap.get?_push_size _ rfl,rfl,?_⟩
      have e1:((its.toArray.size:Nat):Int) - 1=(xs.length:Int) - 1 - ((0:Nat):Int):=by rw [List.size_toArray];omega
      show Data.fields #[.ref a,rawInt ((its.toArray.size:Int) - 1)]=_
      rw [e1]
    have I2:Inv X pins σ H1 {s1 with heap:=s1.heap.push (revObj a (((its.toArray).size:Int) - 1))}:=I1.kept (t':=s1.toks) fun b o e=>Heap.get?_push_of_some _ e
    refine wpAny_pyIter_revIter hit ?_
    refine ⟨s1.heap.objs.size,[s1.heap.objs.size],_,_,H1,rfl,I2,qJ a _ xs,hit,fun b hb=>?_,q⟩
    have e:b=s1.heap.objs.size:=by simpa using hb
    subst e
    have f:=I1.fpOk (H':=H1) (Nat.le_refl _) (I1.hok.fresh (Nat.le_refl _))
    exact f
end
end L2
namespace L2
open PySem PySem.Spec PyProof.Rows
section
variable {prog:Program} {w:World} {A:Around} {R:Result→Shared→Prop} {s:Shared}
theorem k6 {elt target iter:Expr} {ifs:List Expr} {scope:Scope} {pos:Pos} {it acc:Value} {env:Env} (I:Nat→Shared→Prop)
    (turn:∀n s,I n s→wpAny (model prog w) A (pyNext it) (fun r s₁=>match r with
      | none=>R (.ok .next) s₁
      | some v=>wpAny (model prog w) A (letOwnedTupleGo target it v) (fun _ s₁'=>wpAny (model prog w) A (assign target env v) (fun _ s₂=>
          wpAny (model prog w) A (forIn ifs true fun c r=>if r=true then do let ok ←isTrue c env (eval c env);pure (ForInStep.yield ok) else pure (ForInStep.yield r)) (fun ok s₃=>
            if ok=true then wpAny (model prog w) A (eval elt env) (fun x s₄=>
              wpAny (model prog w) A (call (.builtin "list.append") [acc,x]) (fun _ s₅=>∃m,m < n∧I m s₅) (fun _ _=>False) s₄) (fun _ _=>False) s₃
            else ∃m,m < n∧I m s₃) (fun _ _=>False) s₂) (fun _ _=>False) s₁') (fun _ _=>False) s₁) (fun _ _=>False) s)
    (n:Nat) (h:I n s):
    codeAny (model prog w) A (.compLoop (.ListComp elt [⟨target,iter,ifs,0⟩] scope pos) 0 it acc env) R s:=by
  refine codeAny_loop rfl I (fun n s hI=>?_) n h
  show wpAny _ A ((compTurn (.ListComp elt [⟨target,iter,ifs,0⟩] scope pos) 0 it acc env).onRaise (fun x=>do noteFrame x env;theTreesLotGoes x)) _ _ s
  refine wpAny_noted ?_
  rw [compTurn_list]
  refine wpAny_bind (wpAny_standAt (wpAny_bind (wpAny_mono (turn n s hI) (fun r s₁ h₁=>?_) fun _ _ h'=>h'.elim)))
  cases r with
  | none=>exact wpAny_pure h₁
  | some v=>
    refine wpAny_bind (wpAny_mono h₁ (fun _ s₁' h₁'=>?_) fun _ _ h'=>h'.elim)
    refine wpAny_bind (wpAny_mono h₁' (fun _ s₂ h₂=>wpAny_bind (wpAny_mono h₂ (fun ok s₃ h₃=>?_) fun _ _ h'=>h'.elim)) fun _ _ h'=>h'.elim)
    cases ok with
    | false=>exact wpAny_pure ⟨rfl,h₃⟩
    | true=>
      exact wpAny_bind (wpAny_bind (wpAny_mono h₃ (fun x s₄ h₄=>wpAny_bind (wpAny_mono h₄ (fun _ s₅ h₅=>wpAny_pure (wpAny_pure ⟨rfl,h₅⟩)) fun _ _ h'=>h'.elim)) fun _ _ h'=>h'.elim))
end
def Cx.comp (X:Cx) (sc:Scope) (cl:List (Str×Addr)) (N:List Str) (C:Addr) (s₀:Shared) (H₀:Hp) (fp:List Addr):Cx:=
  ⟨X.prog,X.w,X.K,X.mg,X.base,X.A,N,s₀,H₀,⟨sc,C,X.env.globals,cl,X.env.qual,none,X.env.code,X.env.frame,X.env.builtins⟩,X.stack,X.stack,fp,fun _=>false,X.calm,[],fun _ _=>False⟩
def xg (X:Cx) (ifs:List Expr) (t:TT):Prop:=
  ∀(pins:List (Addr×Obj)) (s:Shared) (σ:St) (H:Hp) (Q:Bool→Hp→Prop),Inv X pins σ H s→t σ H Q→
    wpAny (model X.prog X.w) X.A (forIn ifs true fun c r=>if r=true then do let ok ←isTrue c X.env (eval c X.env);pure (ForInStep.yield ok) else pure (ForInStep.yield r)) (TP X pins σ Q) X.xe s
def xy:TT:=fun _ H Q=>Q true H
theorem oD {X:Cx}:xg X [] xy:=fun _ _ _ H _ I h=>wpAny_tests_nil ⟨H,I,h⟩
def slots (js:List (Option Nat)) (σ:St):St:=js.map fun j=>j.bind fun j=>(σ[j]?).join
def oE (js:List (Option Nat)) (wi:TI) (g:TG) (tt:TT) (te:TE):TE:=fun σ H Q=>wi σ H fun J H1=>∀l,H1 l=none→∃W:Nat→Nat→St→Hp→Prop,(∃m,W 0 m (slots js σ) (upd H1 l (.lst [])))∧
  ∀i m σ' H',W i m σ' H'→(J.stop i H'∧Q (.ref l) H')∨(J.go i H'∧∃N:St→Hp→Prop,(∀σ' H',N σ' H'→∃m',m' < m∧W (i+1) m' σ' H')∧∀x H2,J.yld i H' x H2→g x σ' H2 fun σ3 H3=>tt σ3 H3 fun b H4=>
    if b=true then te σ3 H4 fun y H5=>∃ys,H5 l=some (.lst ys)∧ys.length < sizeLine∧N σ3 (upd H5 l (.lst (ys++[y]))) else N σ3 H4)
section
variable {X:Cx} {elt target iter:Expr} {ifs:List Expr} {scope sc:Scope} {cl:List (Str×Addr)} {N:List Str} {pos:Pos} {wi:TI} {g:TG} {tt:TT} {te:TE} {js:List (Option Nat)}
structure CompOk (X:Cx) (scope sc:Scope) (cl:List (Str×Addr)) (N:List Str) (js:List (Option Nat)):Prop where
  clos:closureFor scope X.env=pure cl
  rel:relabel scope X.env=sc
  nocell:∀y∈scope.names,y.2≠ .cell
  kind:scope.kind= .function
  names:∀y∈scope.names,y.2= .local→scope.names.lookup y.1=some .local
  same:∀x c,cl.lookup x=some c→X.env.cells.lookup x=some c
  has:∀x,(sc.names.lookup x=some .cell∨sc.names.lookup x=some .free)→∃c,cl.lookup x=some c
  len:js.length=N.length
  from_:∀(i j:Nat),js[i]? =some (some j)→∃x,N[i]? =some x∧X.N[j]? =some x∧(sc.names.lookup x=some .cell∨sc.names.lookup x=some .free)∧(X.env.kindOf x=some .cell∨X.env.kindOf x=some .free)
theorem mj {use:Option (Value→Sem Unit)} {Qv:Value→Shared→Prop} (K:CompOk X scope sc cl N js) (hc:X.calm=true) (hi:PI X target iter wi)
    (hgg:∀C s₀ H₀ fp,PG (X.comp sc cl N C s₀ H₀ fp) target g) (htt:∀C s₀ H₀ fp,xg (X.comp sc cl N C s₀ H₀ fp) ifs tt) (hee:∀C s₀ H₀ fp,PE (X.comp sc cl N C s₀ H₀ fp) elt te)
    (hs:∀x,foldedSetIterable iter X.env x=pure x) (pins:List (Addr×Obj)) (s:Shared) (σ:St) (H:Hp) (Q:VK) (I:Inv X pins σ H s) (h:oE js wi g tt te σ H Q)
    (hend:∀(D C:Addr) (H4:Hp) (s5:Shared) (m:Str→Option Value),Inv X pins σ H4 s5→s5.heap.Ns C m→H4 C=none→C≠X.env.locals→C∉X.fs→X.s₀.heap.objs.size≤C→(∀x c,X.env.cells.lookup x=some c→c≠C)→(∀p∈X.pn++pins,p.1≠C)→Q (.ref D) H4→
      compPost (model X.prog X.w) X.A X.xe use Qv (.ref D) C (.ok .next) s5):
    wpAny (model X.prog X.w) X.A (comprehension (.ListComp elt [⟨target,iter,ifs,0⟩] scope pos) scope X.env (firstIterPos [⟨target,iter,ifs,0⟩] pos) (newList []) false (firstIter [⟨target,iter,ifs,0⟩] X.env) use) Qv X.xe s:=by
  refine wpAny_comprehension_free (use:=use) rfl hs K.clos K.kind K.names (en (hi pins s σ H _ I h) fun v s1 h1=>en h1 fun itv s2 h2=>?_)
  obtain ⟨it,fp,tn,J,H2,e,I2,T,st2,f2,R⟩:=h2
  subst e
  refine wpAny_newObj_type (wpAny_newFunctionEnv K.nocell (by intro y hy;simp at hy) (fun h₁ hns₁ hsb₁=>?_) K.kind)
  dsimp only at hns₁ hsb₁ ⊢
  have I3:Inv X pins σ (upd H2 s2.heap.objs.size (.lst [])) {s2 with heap:=s2.heap.push {cls:= .type "list",dict:=none,data:= .seq ([]:List Value).toArray}}:=
    I2.lnew (t':=s2.toks) (its:=[]) .nil (Nat.zero_le _)
  obtain ⟨W,⟨m0,w0⟩,turn⟩:=R s2.heap.objs.size (I2.hok.fresh (Nat.le_refl _))
  generalize hP:s2.heap.push {cls:= .type "list",dict:=none,data:= .seq ([]:List Value).toArray}=h3 at hns₁ hsb₁ I3 ⊢
  generalize hD:s2.heap.objs.size=D at w0 turn I3 ⊢
  have hsz3:h3.objs.size=D+1:=by rw [←hP,Heap.size_push,hD]
  have old3:∀b o,s2.heap.get? b=some o→h3.get? b=some o:=fun b o e=>by rw [←hP];exact Heap.get?_push_of_some _ e
  have old:∀b o,h3.get? b=some o→h₁.get? b=some o:=fun b o e=>hsb₁.extBut b o (Nat.ne_of_lt (Heap.lt_size e)) (Heap.get?_push_of_some _ e)
  have fpD:∀b∈fp,b < D:=fun b hb=>by
    obtain ⟨o,e,_⟩:=T.obj _ _ st2 b hb
    rw [←hD];exact Heap.lt_size e
  have frD:∀b∈fp,(upd H2 D (.lst [])) b=none:=fun b hb=>by rw [ai (Nat.ne_of_lt (fpD b hb))];exact (f2 b hb).1
  have f3:∀b∈fp,j9 X pins (upd H2 D (.lst [])) b:=fun b hb=>⟨frD b hb,(f2 b hb).2⟩
  have Hfresh:∀a,h3.objs.size≤a→(upd H2 D (.lst [])) a=none:=fun a ha=>I3.hok.fresh ha
  have cellC:∀x c,X.env.cells.lookup x=some c→c < h3.objs.size:=fun x c e=>by
    obtain ⟨v,q⟩:=I3.cell x c e
    exact q.lt
  have YOk:(X.comp sc cl N h3.objs.size {s2 with heap:=h3} (upd H2 D (.lst [])) fp).Ok:=by
    refine ⟨I3.ok.mod,?_,I3.ok.glob,I3.ok.blt,Nat.le_refl _,fun x y c e1 e2=>I3.ok.inj x y c (K.same x c e1) (K.same y c e2),fun x hx=>K.has x hx,fun x c hf _=>absurd hf (by intro z;cases z),I3.ok.hd,I3.ok.frames, .inl rfl,fun b hb=>⟨?_,fun x c e=>(f2 b hb).2.2.2.2.1 x c (K.same x c e)⟩,
      I3.bs,Nat.le_trans I3.ok.bsz I3.sz,fun b o e hb=>?_,fun b hb hm=>?_,I3.stack,I3.stkFree,I3.tab⟩
    · rw [←K.rel];exact K.kind
    · exact Nat.ne_of_lt (by rw [hsz3];exact Nat.lt_succ_of_lt (fpD b hb))
    · rcases (f2 b hb).2.2.2.1 with z | z
      · exact I3.ok.noex b o e z
      · exact absurd (Nat.lt_of_lt_of_le (Heap.lt_size (I3.ok.bs b o e).1) z) (Nat.lt_irrefl _)
    · rcases List.mem_cons.mp (I3.stkSub b hm) with z | z
      · exact (f2 b hb).2.1 z
      · exact (f2 b hb).2.2.1 z
  have IY:Inv (X.comp sc cl N h3.objs.size {s2 with heap:=h3} (upd H2 D (.lst [])) fp) [] (slots js σ) (upd H2 D (.lst [])) {s2 with heap:=h₁,toks:=s2.toks+([]:List (Str×Value)).length}:=by
    refine ⟨YOk,rfl,I3.bare,Un.kept old,⟨_,hns₁,fun i x v e1 e2 e3=>?_⟩,fun x c e=>?_,Hfresh _ (Nat.le_refl _),fun x c e=>I3.freeC x c (K.same x c e),fun p hp=>absurd (show p∈([]:List (Addr×Obj)) from hp) (by simp),I3.hok.kept old,?_⟩
    · unfold slots at e2
      rw [List.getElem?_map] at e2
      cases ej:js[i]? with
      | none=>rw [ej] at e2;cases e2
      | some jo=>
        rw [ej] at e2
        cases jo with
        | none=>cases e2
        | some j=>
          obtain ⟨y,n1,n2,k1,k2⟩:=K.from_ i j ej
          have exy:y=x:=Option.some.inj (n1.symm.trans e1)
          subst exy
          have e2':(σ[j]?).join=some v:=Option.some.inj e2
          have e4:σ[j]? =some (some v):=by
            cases es:σ[j]? with
            | none=>rw [es] at e2';cases e2'
            | some w=>rw [es] at e2';exact congrArg some e2'
          obtain ⟨m,_,hl⟩:=I3.loc
          obtain ⟨u,ru,lk⟩:=hl j y v n2 e4 (by
            rcases k2 with z | z
            · exact .inr (.inl z)
            · exact .inr (.inr z))
          refine ⟨u,ru, .inr ⟨k1,?_⟩⟩
          obtain ⟨c,hcl⟩:=K.has y k1
          refine ⟨c,hcl,?_⟩
          rcases lk with ⟨z,_⟩ | ⟨_,c',e5,ic⟩
          · rcases k2 with q | q
            · rw [q] at z;cases z
            · rw [q] at z;cases z
          · have:c'=c:=Option.some.inj (e5.symm.trans (K.same y c hcl))
            subst this
            obtain ⟨o,ho,hd⟩:=ic
            exact ⟨o,old _ _ ho,hd⟩
    · obtain ⟨v,o,ho,hd⟩:=I3.cell x c (K.same x c e)
      exact ⟨v,o,old _ _ ho,hd⟩
    · unfold slots;rw [List.length_map];exact K.len
  have pD:∀s₃:Shared,s₃={s2 with heap:=h₁,toks:=s2.toks+([]:List (Str×Value)).length}→
      codeAny (model X.prog X.w) X.A (.compLoop (.ListComp elt [⟨target,iter,ifs,0⟩] scope pos) 0 (.ref it) (.ref D) (X.comp sc cl N h3.objs.size {s2 with heap:=h3} (upd H2 D (.lst [])) fp).env)
        (compPost (model X.prog X.w) X.A X.xe use Qv (.ref D) h3.objs.size) s₃:=by
    rintro s₃ rfl
    refine k6 (fun n s'=>∃i σ' H',Inv (X.comp sc cl N h3.objs.size {s2 with heap:=h3} (upd H2 D (.lst [])) fp) [] σ' H' s'∧tn i s'.heap∧(∀b∈fp,H' b=none)∧W i n σ' H') ?_ m0
      ⟨0,_,_,IY,T.keep _ _ _ st2 (fun b hb o e=>old b o (old3 b o e)),frD,w0⟩
    rintro n s4 ⟨i,σ4,H4,I4,st4,fr4,w4⟩
    have ff:∀{H':Hp},(∀b∈fp,H' b=none)→∀b∈fp,j9 (X.comp sc cl N h3.objs.size {s2 with heap:=h3} (upd H2 D (.lst [])) fp) [] H' b:=fun hn b hb=>
      ⟨hn b hb,(YOk.exf b hb).1,YOk.exfs b hb, .inl hb,(YOk.exf b hb).2,fun p hp=>absurd (show p∈([]:List (Addr×Obj)) from hp) (by simp)⟩
    have hg:=hgg h3.objs.size {s2 with heap:=h3} (upd H2 D (.lst [])) fp
    have ht:=htt h3.objs.size {s2 with heap:=h3} (upd H2 D (.lst [])) fp
    have he:=hee h3.objs.size {s2 with heap:=h3} (upd H2 D (.lst [])) fp
    rcases turn i n σ4 H4 w4 with ⟨stop,qn⟩ | ⟨go,Nx,hN,step⟩
    · refine en (T.done (X.comp sc cl N h3.objs.size {s2 with heap:=h3} (upd H2 D (.lst [])) fp) rfl rfl rfl hc i [] s4 σ4 H4 _ I4 (ff fr4) st4 stop) fun r s5 ⟨hr,I5⟩=>?_
      subst hr
      obtain ⟨m,hn,_⟩:=I5.loc
      have IX:Inv X pins σ H4 s5:=I3.call' (ch:=fp) I5.os I5.base I5.hok I5.bare fun b hb=>⟨(f3 b hb).2.2.2.1,(f3 b hb).2.1,(f3 b hb).2.2.2.2.1,(f3 b hb).2.2.2.2.2⟩
      exact hend D h3.objs.size H4 s5 m IX hn I5.free (Ne.symm (Nat.ne_of_lt I3.lt)) (I3.nofs (Nat.le_refl _)) I3.sz (fun x c e=>Nat.ne_of_lt (cellC x c e)) (fun p hp=>Nat.ne_of_lt (Heap.lt_size (I3.pin p hp).1)) qn
    · refine en (T.item (X.comp sc cl N h3.objs.size {s2 with heap:=h3} (upd H2 D (.lst [])) fp) rfl rfl rfl hc i [] s4 σ4 H4 _ I4 (ff fr4) st4 go) fun r s5 ⟨u,hr,h5⟩=>?_
      subst hr
      refine en h5 fun _ s6 ⟨x,H6,I6,r6,y6,st6,fr6⟩=>?_
      have I6':=I6.pinned (ff fr6) (T.obj _ _ st6)
      have back:∀{σ7:St} {H7:Hp} {s7:Shared},Inv (X.comp sc cl N h3.objs.size {s2 with heap:=h3} (upd H2 D (.lst [])) fp) ([]++jI fp s6.heap) σ7 H7 s7→
          Inv (X.comp sc cl N h3.objs.size {s2 with heap:=h3} (upd H2 D (.lst [])) fp) [] σ7 H7 s7∧tn (i+1) s7.heap∧∀b∈fp,H7 b=none:=fun {σ7 H7 s7} I7=>
        ⟨I7.unpinned,T.keep _ _ _ st6 fun b hb o e=>(I7.pin (b,o) (List.mem_append_right _ (List.mem_append_right _ (gn hb e)))).1,fun b hb=>by
          obtain ⟨o,e,d⟩:=T.obj _ _ st6 b hb
          exact (I7.pin (b,o) (List.mem_append_right _ (List.mem_append_right _ (gn hb e)))).2.1⟩
      refine en (hg _ s6 σ4 H6 x u _ I6' r6 (step x H6 y6)) fun _ s7 ⟨σ7,H7,I7,q7⟩=>?_
      refine en (ht _ s7 σ7 H7 _ I7 q7) fun b s8 ⟨H8,I8,q8⟩=>?_
      cases b with
      | false=>
        obtain ⟨m',hm,w8⟩:=hN σ7 H8 q8
        obtain ⟨J1,J2,J3⟩:=back I8
        exact ⟨m',hm,i+1,σ7,H8,J1,J2,J3,w8⟩
      | true=>
        refine en (he _ s8 σ7 H8 _ I8 q8) fun yv s9 ⟨y,H9,I9,r9,ys,hl,hz,n9⟩=>?_
        obtain ⟨m',hm,w9⟩:=hN _ _ n9
        refine en (gg _ s9 σ7 H9 (.ref D) [y] (.ref D) [yv] (fun v H'=>v= .non∧H'=upd H9 D (.lst (ys++[y]))) I9 rfl (.cons r9 .nil) ⟨D,ys,y,rfl,rfl,hl,hz,rfl,rfl⟩) fun _ sA ⟨_,HA,IA,_,_,eA⟩=>?_
        subst eA
        obtain ⟨J1,J2,J3⟩:=back IA
        exact ⟨m',hm,i+1,σ7,_,J1,J2,J3,w9⟩
  rw [K.rel]
  exact codeAny_compStart_list (pD _ rfl) (T.self _ 0 _ _ _ (T.keep _ _ _ st2 (fun b hb o e=>old b o (old3 b o e))) (pD _ rfl))
theorem sP (K:CompOk X scope sc cl N js) (hc:X.calm=true) (hi:PI X target iter wi)
    (hgg:∀C s₀ H₀ fp,PG (X.comp sc cl N C s₀ H₀ fp) target g) (htt:∀C s₀ H₀ fp,xg (X.comp sc cl N C s₀ H₀ fp) ifs tt) (hee:∀C s₀ H₀ fp,PE (X.comp sc cl N C s₀ H₀ fp) elt te)
    (hs:∀x,foldedSetIterable iter X.env x=pure x:=by intro _;rfl):PE X (.ListComp elt [⟨target,iter,ifs,0⟩] scope pos) (oE js wi g tt te):=by
  intro pins s σ H Q I h
  rw [eval_ListComp]
  refine mj (use:=none) K hc hi hgg htt hee hs pins s σ H Q I h fun D C H4 s5 m IX hn fC nL _ sz nc np qn=>?_
  exact ⟨m,hn,fun h' hs'=>⟨.ref D,H4,IX.turned (t':=s5.toks) (it:=C) (fun b o hb e=>(hs'.2 b hb).trans e) fC nL (.inr sz) nc np,rfl,qn⟩⟩
theorem sQ {x:Str} {px spos:Pos} {gx:TG} (K:CompOk X scope sc cl N js) (hc:X.calm=true) (hx:PG X (.Name x px) gx) (hi:PI X target iter wi)
    (hgg:∀C s₀ H₀ fp,PG (X.comp sc cl N C s₀ H₀ fp) target g) (htt:∀C s₀ H₀ fp,xg (X.comp sc cl N C s₀ H₀ fp) ifs tt) (hee:∀C s₀ H₀ fp,PE (X.comp sc cl N C s₀ H₀ fp) elt te)
    (hs:∀x,foldedSetIterable iter X.env x=pure x:=by intro _;rfl) (hsw:swapsWith (.ListComp elt [⟨target,iter,ifs,0⟩] scope pos) (some (.Name x px)) spos.line X.env=pure true:=by rfl):
    PS X (.Assign [.Name x px] (.ListComp elt [⟨target,iter,ifs,0⟩] scope pos) spos) (j8 (oE js wi g tt te) gx):=by
  intro pins s σ H D I h
  rw [exec_Assign_Name_used _ _ _ _ hsw]
  refine wpAny_bind (wpAny_standAt (wpAny_bind ?_))
  show wpAny _ _ (comprehension (.ListComp elt [⟨target,iter,ifs,0⟩] scope pos) scope X.env (firstIterPos [⟨target,iter,ifs,0⟩] pos) (newList []) false (firstIter [⟨target,iter,ifs,0⟩] X.env) (some (assign (.Name x px) X.env)) >>= fun _=>pure ()) _ _ _
  refine wpAny_bind (wpAny_mono (mj (use:=some (assign (.Name x px) X.env)) (Qv:=fun _ s'=>∃σ' H',Inv X pins σ' H' s'∧D.nx σ' H') K hc hi hgg htt hee hs pins s σ H _ I h fun Dd C H4 s5 m IX hn fC nL nF sz nc np qn=>?_) (fun _ s' ⟨σ',H',I',q'⟩=>wpAny_pure (wpAny_pure ⟨σ',H',I',q'⟩)) fun _ _ e=>e)
  obtain ⟨o,es,ep,ho,hd,r⟩:=hn
  have IP:Inv X ((C,o)::pins) σ H4 s5:=IX.pins_of fun p hp=>(List.mem_cons.mp hp).elim (fun z=>by subst z;exact ⟨ho,fC,nL,nF,fun v z=>by rw [hd] at z;cases z⟩) fun z=>IX.pin p (List.mem_append_right _ z)
  refine wpAny_mono (hx ((C,o)::pins) s5 σ H4 (.ref Dd) (.ref Dd) D.nx IP rfl qn) (fun _ s6 ⟨σ6,H6,I6,q6⟩=>?_) fun _ _ e=>e
  obtain ⟨p1,p2,_⟩:=I6.pin (C,o) (List.mem_append_right _ (List.mem_cons_self ..))
  have I7:Inv X pins σ6 H6 s6:=I6.pins_of fun p hp=>I6.pin p (List.mem_append_right _ (List.mem_cons_of_mem _ hp))
  exact ⟨m,⟨o,es,ep,p1,hd,r⟩,fun h' hs'=>⟨σ6,H6,I7.turned (t':=s6.toks) (it:=C) (fun b o hb e=>(hs'.2 b hb).trans e) p2 nL (.inr sz) nc np,q6⟩⟩
end
end L2
namespace L2
open PySem PySem.Spec PyProof.Rows
theorem jK {X:Cx} {scope:Scope} {N:List Str} {js:List (Option Nat)} (hf:∀x∈scope.names,x.2≠ .free:=by decide+kernel) (hcell:∀x∈scope.names,x.2≠ .cell:=by decide+kernel)
    (hk:scope.kind= .function:=by rfl) (hn:∀y∈scope.names,y.2= .local→scope.names.lookup y.1=some .local:=by decide+kernel) (hl:js.length=N.length:=by rfl) (hj:∀j∈js,j=none:=by decide):CompOk X scope scope [] N js where
  clos:=closureFor_none hf
  rel:=by
    unfold relabel
    have e:(scope.names.map fun (x:Str×NameKind)=>match x with | (n,k)=>if (k == .free&&X.env.scope.kind == .function&&X.env.kindOf n == some .cell) then (n,NameKind.cell) else (n,k))=scope.names:=by
      refine map_eq_self fun x hx=>?_
      obtain ⟨n,k⟩:=x
      have:(k == NameKind.free)=false:=by simpa using hf _ hx
      simp [this]
    rw [e]
  nocell:=hcell
  kind:=hk
  names:=hn
  same:=fun x c e=>by simp at e
  has:=fun x h=>by
    rcases h with h | h
    · exact absurd rfl (hcell _ (PySem.mem_of_lookup h))
    · exact absurd rfl (hf _ (PySem.mem_of_lookup h))
  len:=hl
  from_:=fun i j h=>by
    have:=hj _ (List.mem_of_getElem? h)
    cases this
structure Own (P:Program) (w:World) (K:PySem.W.Frag) (mg:Str→Option Value) (base:Heap) (k:Nat) (x:Str) (ps:List Str) (sp:Sp):Prop where
  ex:∃(f:Addr) (fd:FuncData),FnOk P w K mg base qm k f fd ps sp∧Binds K fd ps []∧mg x=some (.ref f)∧PySem.W.keepIn K (.ref f)=true
theorem qK {X:Cx} {k:Nat} {x:Str} {ps:List Str} {sp:Sp} {p pos:Pos} {e:Expr} {es:List Expr} {t:TA} (D:Own X.prog X.w X.K X.mg X.base k x ps sp) (hr:Room k X.A) (hg:Gl X x) (ha:PA X (e::es) t)
    (hdb:(x == ("__debug__":Str))=false:=by decide) (he:starEach (e::es) X.env=(false,eval e X.env)::starEach es X.env:=by rfl) (hpl:(backTo pos (starEach es X.env)).any (·.1)=false:=by rfl):
    PE X (.Call (.Name x p) (e::es) [] pos) (ud sp [] E0 t):=by
  obtain ⟨f,fd,F,b,m,kp⟩:=D.ex
  exact sI F hr hg m kp b .nil wu ha hdb he hpl
structure Def (K:PySem.W.Frag) (mg:Str→Option Value) (x:Str) (st:Stmt) (ps:List Str):Prop where
  ex:∃(f:Addr) (fd:FuncData),Fun K x x st f fd∧mg x=some (.ref f)∧Binds K fd ps []
theorem Def.own {P:Program} {w:World} {K:PySem.W.Frag} {mg:Str→Option Value} {base:Heap} {x:Str} {st:Stmt} {N ps:List Str} {k:Nat} {sp:Sp} (D:Def K mg x st ps) (S:FnScope N ps (am st))
    (len:∀vs H Q E,sp vs H Q E→vs.length=ps.length)
    (hbody:∀(f:Addr) (cdv:Value) (A:Around) (outer:List Env) (s:Shared) (H:Hp) (vs:List V) (Q:VK) (E:XK),Room k (A.deeper (envOfC x (am st) s.heap.objs.size f cdv))→sp vs H Q E→
      ∃t,PSs (kT qm P w K mg base N x (am st) f cdv A outer s H E).nox (dJ st) t∧t {nx:=fun _ H'=>Q .non H',rt:=Q} (gM N vs) H):Own P w K mg base (k+1) x ps sp:=by
  obtain ⟨f,fd,F,m,b⟩:=D.ex
  exact ⟨f,fd,F.ok S len (hbody f),b,m,F.kp⟩
theorem u8 {K:PySem.W.Frag} {h:Heap} {mg:Str→Option Value} {x:Str} {st:Stmt} {ps:List Str} {f:Addr} {oc:Value} {od an:Option Addr} {osl:Array (Option Value)} {kV doc pm cdv ct:Value} (X:K.In h) (G:h.Ns mainGlobals mg)
    (a:PySem.W.nsIn K mainGlobals x=some (some (.ref f))) (l:K.lookup f=some ⟨oc,od, .func (PySem.W.fnOf x x (fc st) (dJ st) (am st) .none kV doc pm an cdv ct),osl⟩)
    (c:PySem.W.codeIn K cdv x=true) (k:PySem.W.keepIn K (.ref f)=true)
    (b:∀(kV doc pm:Value) (an:Option Addr) (cdv ct:Value) (us:List Value),us.length=ps.length→bindArgs (PySem.W.fnOf x x (fc st) (dJ st) (am st) .none kV doc pm an cdv ct) ⟨us,[]⟩=pure (ps.zip us)):Def K mg x st ps:=
  ⟨f,_,nD l c k,PySem.W.mg_of X G a,(nD (st:=st) l c k).binds b⟩
end L2
namespace Nh
open PySem L2
section
variable {α β:Type} {F:α→β→Prop}
theorem g9:∀{a:List α} {b:List β} {c:List α} {d:List β},Paired F a b→Paired F c d→Paired F (a++c) (b++d)
  | _,_,_,_, .nil,s=>s
  | _,_,_,_, .cons r t,s=> .cons r (g9 t s)
theorem oF:∀{a:List α} {b:List β} (n:Nat),Paired F a b→Paired F (a.take n) (b.take n)
  | _,_,0,_=> .nil
  | _,_,_+1, .nil=> .nil
  | _,_,n+1, .cons r t=> .cons r (oF n t)
theorem oG:∀{a:List α} {b:List β} (n:Nat),Paired F a b→Paired F (a.drop n) (b.drop n)
  | _,_,0,r=>r
  | _,_,_+1, .nil=> .nil
  | _,_,n+1, .cons _ t=>oG n t
theorem h9:∀{a:List α} {b:List β},Paired F a b→Paired F a.reverse b.reverse
  | _,_, .nil=> .nil
  | _,_, .cons r t=>by
    rw [List.reverse_cons,List.reverse_cons]
    exact g9 (h9 t) (.cons r .nil)
theorem oH:∀{a:List α} {b:List β} {i:Nat} {y:β},Paired F a b→b[i]? =some y→∃x,a[i]? =some x∧F x y
  | _,_,_,_, .nil,e=>by simp at e
  | _,_,0,_, .cons r _,e=>by simp at e;subst e;exact ⟨_,rfl,r⟩
  | _,_,i+1,x, .cons _ t,e=>by
    obtain ⟨u,h1,h2⟩:=oH (i:=i) (y:=x) t (by simpa using e)
    exact ⟨u,by simpa using h1,h2⟩
theorem qL {a:List α} {b:List β} (h:Paired F a b):∀k:Nat,Paired F (List.replicate k a).flatten (List.replicate k b).flatten
  | 0=> .nil
  | k+1=>by
    rw [List.replicate_succ,List.replicate_succ,List.flatten_cons,List.flatten_cons]
    exact g9 h (qL h k)
end
abbrev Pc:=Nat×Int
def tv (p:Pc):List V:=[.str ⟨#[p.1]⟩, .int p.2]
def xz (H:Hp) (v:V) (p:Pc):Prop:=∃t,v= .ref t∧H t=some (.tup (tv p))
abbrev PAll (H:Hp):List V→List Pc→Prop:=Paired (xz H)
section
variable {H H':Hp} {l:Addr} {xs ys:List V} {c:List Pc}
theorem PAll.same (s:Same H H') (h:PAll H xs c):PAll H' xs c:=Paired.mapP h fun _ _ ⟨t,e,q⟩=>⟨t,e,s _ _ q⟩
theorem PAll.len (h:PAll H xs c):xs.length=c.length:=Paired.length h
end
def Cord (H:Hp) (a:Addr) (c:List Pc):Prop:=∃xs,H a=some (.lst xs)∧PAll H xs c
section
variable {H H':Hp} {a:Addr} {c d:List Pc}
theorem Cord.same (s:Same H H') (h:Cord H a c):Cord H' a c:=let ⟨xs,e,p⟩:=h;⟨xs,s _ _ e,p.same s⟩
end
def aq (p:Pc):PyData:= .tuple [.str ⟨#[p.1]⟩, .int p.2]
def hO (c:List Pc):PyData:= .list (c.map aq)
def NailsOk (c:List Pc):Prop:=∀p∈c,p.1 < 128
theorem ku {K:PySem.W.Frag} {H:Hp}:∀{xs:List V} {c:List Pc},PAll H xs c→DAll K H xs (c.map aq)
  | _,_, .nil=> .nil
  | _,_, .cons ⟨t,e,q⟩ r=>by
    subst e
    exact .cons (.tup (SqT.of q) (.cons (.str _) (.cons (.int _) .nil))) (ku r)
theorem Cord.data {K:PySem.W.Frag} {H:Hp} {a:Addr} {c:List Pc} (h:Cord H a c):DOf K H (.ref a) (hO c):=
  let ⟨_,e,p⟩:=h; .lst (SqL.of e) (ku p)
theorem wx {p:Pc} (h:p.1 < 128):(aq p).canLay0=true:=by
  have:p.1 < 1114112:=by omega
  simp [aq,PyData.canLay0,PyData.canLayAll0,PyData.strOk,this]
theorem ml:∀{c:List Pc},NailsOk c→PyData.canLayAll0 (c.map aq)=true∧PyData.depthAll (c.map aq)≤1
  | [],_=>by simp [PyData.canLayAll0,PyData.depthAll]
  | p::c,h=>by
    have ih:=ml (c:=c) fun q hq=>h q (List.mem_cons_of_mem _ hq)
    have h1:=wx (h p (List.mem_cons_self ..))
    have h2:=ih.2
    simp only [List.map_cons,PyData.canLayAll0,PyData.depthAll,h1,ih.1,Bool.and_self,true_and]
    have h3:(aq p).depth=1:=by simp [aq,PyData.depth,PyData.depthAll]
    omega
theorem ji {c:List Pc} (h:NailsOk c):SeqAt.shaped (hO c)=true:=by
  have q:=ml h
  have q2:=q.2
  unfold SeqAt.shaped
  simp only [hO,PyData.canLay0,PyData.depth,q.1,Bool.true_and]
  exact decide_eq_true (by omega)
theorem u9 (p q:Pc):PyData.eqv (aq p) (aq q)=decide (p=q):=by
  obtain ⟨n,a⟩:=p
  obtain ⟨m,b⟩:=q
  simp only [aq,PyData.eqv,PyData.eqvAll,Bool.and_true]
  rw [Bool.eq_iff_iff]
  simp
theorem kw:∀c d:List Pc,PyData.eqvAll (c.map aq) (d.map aq)=decide (c=d)
  | [],[]=>by simp [PyData.eqvAll]
  | [],_::_=>by simp [PyData.eqvAll]
  | _::_,[]=>by simp [PyData.eqvAll]
  | p::c,q::d=>by
    simp only [List.map_cons,PyData.eqvAll,u9,kw c d]
    rw [Bool.eq_iff_iff]
    simp
theorem qM (c d:List Pc):PyData.eqv (hO c) (hO d)=decide (c=d):=by
  simp only [hO,PyData.eqv,kw]
end Nh
namespace PL
open PySem PySem.Spec PyProof.Rows L2 Nh
def u_:bN→PyData
  | .inl i=> .int i
  | .inr x=> .str x
mutual
inductive Rp (K:PySem.W.Frag) (H:Hp):V→PyData→Prop
  | non:Rp K H .non .none
  | bl (b:Bool):Rp K H (.bl b) (.bool b)
  | int (i:Int):Rp K H (.int i) (.int i)
  | str (x:Str):Rp K H (.str x) (.str x)
  | lst {a:Addr} {xs:List V} {ds:List PyData}:SqL K H a xs→RpA K H xs ds→Rp K H (.ref a) (.list ds)
  | tup {a:Addr} {xs:List V} {ds:List PyData}:SqT K H a xs→RpA K H xs ds→Rp K H (.ref a) (.tuple ds)
  | dct {a:Addr} {us:List (bN×V)} {kvs:List (PyData×PyData)}:Rd H a (.dK us)→RpK K H us kvs→Rp K H (.ref a) (.dict kvs)
inductive RpA (K:PySem.W.Frag) (H:Hp):List V→List PyData→Prop
  | nil:RpA K H [] []
  | cons {x:V} {xs:List V} {d:PyData} {ds:List PyData}:Rp K H x d→RpA K H xs ds→RpA K H (x::xs) (d::ds)
inductive RpK (K:PySem.W.Frag) (H:Hp):List (bN×V)→List (PyData×PyData)→Prop
  | nil:RpK K H [] []
  | cons {k:bN} {x:V} {us:List (bN×V)} {d:PyData} {kvs:List (PyData×PyData)}:Rp K H x d→RpK K H us kvs→RpK K H ((k,x)::us) ((u_ k,d)::kvs)
end
mutual
def b7:PyData→Bool
  | .none=>true
  | .bool _=>true
  | .int _=>true
  | .str _=>true
  | .list _=>false
  | .tuple xs=>ar xs
  | .dict _=>false
def ar:List PyData→Bool
  | []=>true
  | d::ds=>b7 d&&ar ds
end
def ue:HO→Bool
  | .tup _=>true
  | .frz _ _=>true
  | _=>false
def tups (H:Hp):Hp:=fun b=>(H b).filter ue
theorem iX (H:Hp):Same (tups H) H:=fun b o h=>(Option.filter_eq_some_iff.mp h).1
theorem gr {H:Hp} {b:Addr} {o:HO} (h:H b=some o) (c:ue o=true):tups H b=some o:=Option.filter_eq_some_iff.mpr ⟨h,c⟩
theorem mn {H:Hp} {l:Addr} {xs ys:List V} (h:H l=some (.lst xs)):tups (upd H l (.lst ys))=tups H:=by
  funext b
  unfold tups
  by_cases e:b=l
  · subst e
    rw [aA,h]
    rfl
  · rw [ai e]
section
variable {K:PySem.W.Frag} {H H':Hp}
theorem mo {a:Addr} {xs:List V} (h:SqT K H a xs):SqT K (tups H) a xs:=by
  rcases h with (h | ⟨o,h⟩) | h
  · exact .inl (.inl (gr h rfl))
  · exact .inl (.inr ⟨o,gr h rfl⟩)
  · exact .inr h
theorem k7 {a:Addr} {u:HO} (s:Same H H') (h:Rd H a u):Rd H' a u:=by
  rcases h with h | ⟨o,h⟩
  · exact .inl (s _ _ h)
  · exact .inr ⟨o,s _ _ h⟩
theorem Rp.same (s:Same H H') {v:V} {d:PyData} (h:Rp K H v d):Rp K H' v d:=Rp.rec (motive_1:=fun v d _=>Rp K H' v d) (motive_2:=fun v d _=>RpA K H' v d) (motive_3:=fun v d _=>RpK K H' v d) .non .bl .int .str (fun h _ r=> .lst (s.seq h) r) (fun h _ r=> .tup (s.tup h) r) (fun h _ r=> .dct (k7 s h) r) .nil (fun _ _ a b=> .cons a b) .nil (fun _ _ a b=> .cons a b) h
theorem RpA.same (s:Same H H') {v:List V} {d:List PyData} (h:RpA K H v d):RpA K H' v d:=RpA.rec (motive_1:=fun v d _=>Rp K H' v d) (motive_2:=fun v d _=>RpA K H' v d) (motive_3:=fun v d _=>RpK K H' v d) .non .bl .int .str (fun h _ r=> .lst (s.seq h) r) (fun h _ r=> .tup (s.tup h) r) (fun h _ r=> .dct (k7 s h) r) .nil (fun _ _ a b=> .cons a b) .nil (fun _ _ a b=> .cons a b) h
theorem RpK.same (s:Same H H') {v:List (bN×V)} {d:List (PyData×PyData)} (h:RpK K H v d):RpK K H' v d:=RpK.rec (motive_1:=fun v d _=>Rp K H' v d) (motive_2:=fun v d _=>RpA K H' v d) (motive_3:=fun v d _=>RpK K H' v d) .non .bl .int .str (fun h _ r=> .lst (s.seq h) r) (fun h _ r=> .tup (s.tup h) r) (fun h _ r=> .dct (k7 s h) r) .nil (fun _ _ a b=> .cons a b) .nil (fun _ _ a b=> .cons a b) h
theorem Rp.cold {v:V} {d:PyData} (h:Rp K H v d) (e:b7 d=true):Rp K (tups H) v d:=Rp.rec (motive_1:=fun v d _=>b7 d=true→Rp K (tups H) v d) (motive_2:=fun v d _=>ar d=true→RpA K (tups H) v d) (motive_3:=fun _ _ _=>True) (fun _=> .non) (fun b _=> .bl b) (fun i _=> .int i) (fun x _=> .str x) (fun _ _ _ e=>nomatch e) (fun h _ r e=> .tup (mo h) (r e)) (fun _ _ _ e=>nomatch e) (fun _=> .nil) (fun _ _ a b e=> .cons (a (Bool.and_eq_true_iff.mp e).1) (b (Bool.and_eq_true_iff.mp e).2)) trivial (fun _ _ _ _=>trivial) h e
theorem RpA.cold {v:List V} {d:List PyData} (h:RpA K H v d) (e:ar d=true):RpA K (tups H) v d:=RpA.rec (motive_1:=fun v d _=>b7 d=true→Rp K (tups H) v d) (motive_2:=fun v d _=>ar d=true→RpA K (tups H) v d) (motive_3:=fun _ _ _=>True) (fun _=> .non) (fun b _=> .bl b) (fun i _=> .int i) (fun x _=> .str x) (fun _ _ _ e=>nomatch e) (fun h _ r e=> .tup (mo h) (r e)) (fun _ _ _ e=>nomatch e) (fun _=> .nil) (fun _ _ a b e=> .cons (a (Bool.and_eq_true_iff.mp e).1) (b (Bool.and_eq_true_iff.mp e).2)) trivial (fun _ _ _ _=>trivial) h e
theorem Rp.dof' {v:V} {d:PyData} (h:Rp K H v d) (e:d.canLay0=true):DOf K H v d:=Rp.rec (motive_1:=fun v d _=>d.canLay0=true→DOf K H v d) (motive_2:=fun v d _=>PyData.canLayAll0 d=true→DAll K H v d) (motive_3:=fun _ _ _=>True) (fun _=> .non) (fun b _=> .bl b) (fun i _=> .int i) (fun x _=> .str x) (fun h _ r e=> .lst h (r e)) (fun h _ r e=> .tup h (r e)) (fun _ _ _ e=>nomatch e) (fun _=> .nil) (fun _ _ a b e=> .cons (a (Bool.and_eq_true_iff.mp e).1) (b (Bool.and_eq_true_iff.mp e).2)) trivial (fun _ _ _ _=>trivial) h e
theorem Rp.dof {v:V} {d:PyData} (h:Rp K H v d) (e:SeqAt.shaped d=true):DOf K H v d:=h.dof' (SeqAt.canLay_of_shaped e)
theorem RpA.pr {vs:List V} {ds:List PyData} (h:RpA K H vs ds):Paired (Rp K H) vs ds:=RpA.rec (motive_1:=fun _ _ _=>True) (motive_2:=fun v d _=>Paired (Rp K H) v d) (motive_3:=fun _ _ _=>True) trivial (fun _=>trivial) (fun _=>trivial) (fun _=>trivial) (fun _ _ _=>trivial) (fun _ _ _=>trivial) (fun _ _ _=>trivial) .nil (fun h _ _ b=> .cons h b) trivial (fun _ _ _ _=>trivial) h
theorem RpA.of {vs:List V} {ds:List PyData} (h:Paired (Rp K H) vs ds):RpA K H vs ds:=by
  induction h with
  | nil=>exact .nil
  | cons a _ b=>exact .cons a b
theorem RpA.len {vs:List V} {ds:List PyData} (h:RpA K H vs ds):vs.length=ds.length:=Paired.length h.pr
theorem RpA.append {vs us:List V} {ds es:List PyData} (h:RpA K H vs ds) (k:RpA K H us es):RpA K H (vs++us) (ds++es):= .of (g9 h.pr k.pr)
theorem RpA.take {vs:List V} {ds:List PyData} (n:Nat) (h:RpA K H vs ds):RpA K H (vs.take n) (ds.take n):= .of (oF n h.pr)
theorem RpA.drop {vs:List V} {ds:List PyData} (n:Nat) (h:RpA K H vs ds):RpA K H (vs.drop n) (ds.drop n):= .of (oG n h.pr)
theorem RpA.rev {vs:List V} {ds:List PyData} (h:RpA K H vs ds):RpA K H vs.reverse ds.reverse:= .of (h9 h.pr)
theorem RpA.rep {vs:List V} {ds:List PyData} (n:Nat) (h:RpA K H vs ds):RpA K H (List.replicate n vs).flatten (List.replicate n ds).flatten:= .of (qL h.pr n)
theorem RpA.get {vs:List V} {ds:List PyData} {i:Nat} {d:PyData} (h:RpA K H vs ds) (e:ds[i]? =some d):∃v,vs[i]? =some v∧Rp K H v d:=oH h.pr e
theorem RpA.set:∀{vs:List V} {ds:List PyData} {v:V} {d:PyData} (i:Nat),RpA K H vs ds→Rp K H v d→RpA K H (vs.set i v) (ds.set i d)
  | _,_,_,_,_, .nil,_=> .nil
  | _,_,_,_,0, .cons _ r,h=> .cons h r
  | _,_,_,_,i+1, .cons q r,h=> .cons q (RpA.set i r h)
theorem RpA.dropLast {vs:List V} {ds:List PyData} (h:RpA K H vs ds):RpA K H vs.dropLast ds.dropLast:=by
  rw [List.dropLast_eq_take,List.dropLast_eq_take,h.len]
  exact h.take _
theorem RpA.snoc {vs:List V} {ds:List PyData} {v:V} {d:PyData} (h:RpA K H vs ds) (k:Rp K H v d):RpA K H (vs++[v]) (ds++[d]):=h.append (.cons k .nil)
end
inductive Pt where
  | fl (d:PyData) | ol (ds:List PyData)
def Pt.val:Pt→PyData
  | .fl d=>d
  | .ol ds=> .list ds
inductive Sl where
  /-- nothing is known -/
  | no
  /-- never written again -/
  | sh (d:PyData)
  /-- a list of one's own -/
  | ow (ds:List PyData)
  /-- a dict of one's own,its values lists of one's own -/
  | od (kvs:List (bN×List PyData))
  /-- a dict of one's own,its values b7 -/
  | oi (kvs:List (bN×PyData))
  /-- a tuple with lists of one's own -/
  | tx (ps:List Pt)
  /-- (a part of an expression) the value of a name -/
  | al (i:Nat)
  /-- (a part of an expression) as it stands just now -/
  | br (d:PyData)
def PtsOk (K:PySem.W.Frag) (F H:Hp):List V→List Pt→List Addr→Prop
  | [],[],A=>A=[]
  | v::vs, .fl d::ps,A=>Rp K F v d∧PtsOk K F H vs ps A
  | v::vs, .ol ds::ps,A=>∃l us A',v= .ref l∧A=l::A'∧H l=some (.lst us)∧RpA K F us ds∧PtsOk K F H vs ps A'
  | _,_,_=>False
def KvOk (K:PySem.W.Frag) (F:Hp):List (bN×V)→List (bN×PyData)→Prop:=Paired fun p q=>p.1=q.1∧Rp K F p.2 q.2
def DlOk (K:PySem.W.Frag) (F H:Hp):List (bN×V)→List (bN×List PyData)→List Addr→Prop
  | [],[],A=>A=[]
  | p::us,q::kvs,A=>∃l vs A',p=(q.1, .ref l)∧A=l::A'∧H l=some (.lst vs)∧RpA K F vs q.2∧DlOk K F H us kvs A'
  | _,_,_=>False
def SlOk (K:PySem.W.Frag) (F H:Hp) (σ:L2.St) (o:Option V):Sl→List Addr→Prop
  | .no,A=>A=[]
  | .sh d,A=>A=[]∧∃v,o=some v∧Rp K F v d
  | .ow ds,A=>∃l vs,o=some (.ref l)∧A=[l]∧H l=some (.lst vs)∧RpA K F vs ds
  | .od kvs,A=>∃l us A',o=some (.ref l)∧A=l::A'∧H l=some (.dK us)∧DlOk K F H us kvs A'
  | .oi kvs,A=>∃l us,o=some (.ref l)∧A=[l]∧H l=some (.dK us)∧KvOk K F us kvs
  | .tx ps,A=>∃t vs,o=some (.ref t)∧F t=some (.tup vs)∧PtsOk K F H vs ps A
  | .al i,A=>A=[]∧∃v,o=some v∧σ[i]? =some (some v)
  | .br d,A=>A=[]∧∃v,o=some v∧Rp K H v d
def Sl.isBr:Sl→Bool
  | .br _=>true
  | _=>false
def Sl.isAl:Sl→Bool
  | .al _=>true
  | .br _=>true
  | _=>false
section
variable {K:PySem.W.Frag} {F F' H H':Hp} {σ σ':L2.St}
theorem PtsOk.stay (s:Same F F'):∀{vs:List V} {ps:List Pt} {A:List Addr},(∀b∈A,H' b=H b)→PtsOk K F H vs ps A→PtsOk K F' H' vs ps A
  | [],[],A,_,h=>h
  | v::vs, .fl d::ps,A,e,h=>⟨h.1.same s,PtsOk.stay s e h.2⟩
  | v::vs, .ol ds::ps,A,e,h=>by
    obtain ⟨l,us,A',rfl,rfl,hl,hr,q⟩:=h
    exact ⟨l,us,A',rfl,rfl,(e l (List.mem_cons_self ..)).trans hl,hr.same s,q.stay s fun b hb=>e b (List.mem_cons_of_mem _ hb)⟩
  | [],_::_,_,_,h=>False.elim h
  | _::_,[],_,_,h=>False.elim h
theorem DlOk.stay (s:Same F F'):∀{us:List (bN×V)} {kvs:List (bN×List PyData)} {A:List Addr},(∀b∈A,H' b=H b)→DlOk K F H us kvs A→DlOk K F' H' us kvs A
  | [],[],A,_,h=>h
  | p::us,q::kvs,A,e,h=>by
    obtain ⟨l,vs,A',rfl,rfl,hl,hr,k⟩:=h
    exact ⟨l,vs,A',rfl,rfl,(e l (List.mem_cons_self ..)).trans hl,hr.same s,k.stay s fun b hb=>e b (List.mem_cons_of_mem _ hb)⟩
  | [],_::_,_,_,h=>False.elim h
  | _::_,[],_,_,h=>False.elim h
theorem DlOk.some:∀{us:List (bN×V)} {kvs:List (bN×List PyData)} {A:List Addr},DlOk K F H us kvs A→∀a∈A,∃vs,H a=some (.lst vs)
  | [],[],A,h,a,ha=>by rw [show A=[] from h] at ha;cases ha
  | p::us,q::kvs,A,h,a,ha=>by
    obtain ⟨l,vs,A',rfl,rfl,hl,hr,k⟩:=h
    rcases List.mem_cons.mp ha with e | e
    · subst e;exact ⟨vs,hl⟩
    · exact k.some a e
  | [],_::_,_,h,_,_=>False.elim h
  | _::_,[],_,h,_,_=>False.elim h
theorem PtsOk.some:∀{vs:List V} {ps:List Pt} {A:List Addr},PtsOk K F H vs ps A→∀a∈A,∃us,H a=some (.lst us)
  | [],[],A,h,a,ha=>by rw [show A=[] from h] at ha;cases ha
  | v::vs, .fl d::ps,A,h,a,ha=>PtsOk.some h.2 a ha
  | v::vs, .ol ds::ps,A,h,a,ha=>by
    obtain ⟨l,us,A',rfl,rfl,hl,hr,q⟩:=h
    rcases List.mem_cons.mp ha with e | e
    · subst e;exact ⟨us,hl⟩
    · exact q.some a e
  | [],_::_,_,h,_,_=>False.elim h
  | _::_,[],_,h,_,_=>False.elim h
theorem PtsOk.rp (s:Same F H):∀{vs:List V} {ps:List Pt} {A:List Addr},PtsOk K F H vs ps A→RpA K H vs (ps.map Pt.val)
  | [],[],A,_=> .nil
  | v::vs, .fl d::ps,A,h=> .cons (h.1.same s) (PtsOk.rp s h.2)
  | v::vs, .ol ds::ps,A,h=>by
    obtain ⟨l,us,A',rfl,rfl,hl,hr,q⟩:=h
    exact .cons (.lst (SqL.of hl) (hr.same s)) (q.rp s)
  | [],_::_,_,h=>False.elim h
  | _::_,[],_,h=>False.elim h
theorem KvOk.same (s:Same F F') {us:List (bN×V)} {kvs:List (bN×PyData)} (h:KvOk K F us kvs):KvOk K F' us kvs:=by
  induction h with
  | nil=>exact .nil
  | cons a _ b=>exact .cons ⟨a.1,a.2.same s⟩ b
theorem SlOk.stay {o:Option V} {s:Sl} {A:List Addr} (hF:Same F F') (e:∀b∈A,H' b=H b) (hb:s.isBr=true→Same H H') (h:SlOk K F H σ o s A):SlOk K F' H' σ o s A:=by
  cases s with
  | no=>exact h
  | sh d=>obtain ⟨rfl,v,rfl,r⟩:=h;exact ⟨rfl,v,rfl,r.same hF⟩
  | ow ds=>obtain ⟨l,vs,rfl,rfl,hl,r⟩:=h;exact ⟨l,vs,rfl,rfl,(e l (by simp)).trans hl,r.same hF⟩
  | od kvs=>obtain ⟨l,us,A',rfl,rfl,hl,r⟩:=h;exact ⟨l,us,A',rfl,rfl,(e l (by simp)).trans hl,r.stay hF fun b hb=>e b (List.mem_cons_of_mem _ hb)⟩
  | oi kvs=>obtain ⟨l,us,rfl,rfl,hl,r⟩:=h;exact ⟨l,us,rfl,rfl,(e l (by simp)).trans hl,r.same hF⟩
  | tx ps=>obtain ⟨t,vs,rfl,ht,r⟩:=h;exact ⟨t,vs,rfl,hF _ _ ht,r.stay hF e⟩
  | al i=>exact h
  | br d=>obtain ⟨rfl,v,rfl,r⟩:=h;exact ⟨rfl,v,rfl,r.same (hb rfl)⟩
theorem SlOk.mut {o:Option V} {s:Sl} {A:List Addr} (h:SlOk K F H σ o s A):∀a∈A,(∃us,H a=some (.lst us))∨∃us,H a=some (.dK us):=by
  cases s with
  | no=>intro a ha;rw [show A=[] from h] at ha;cases ha
  | sh d=>obtain ⟨rfl,_⟩:=h;intro a ha;cases ha
  | ow ds=>obtain ⟨l,vs,rfl,rfl,hl,r⟩:=h;intro a ha;rw [List.mem_singleton.mp ha];exact .inl ⟨_,hl⟩
  | od kvs=>
    obtain ⟨l,vs,A',rfl,rfl,hl,r⟩:=h
    intro a ha
    rcases List.mem_cons.mp ha with z | z
    · rw [z];exact .inr ⟨_,hl⟩
    · exact .inl (r.some a z)
  | oi kvs=>obtain ⟨l,us,rfl,rfl,hl,r⟩:=h;intro a ha;rw [List.mem_singleton.mp ha];exact .inr ⟨_,hl⟩
  | tx ps=>obtain ⟨t,vs,rfl,ht,r⟩:=h;exact fun a ha=> .inl (r.some a ha)
  | al i=>obtain ⟨rfl,_⟩:=h;intro a ha;cases ha
  | br d=>obtain ⟨rfl,_⟩:=h;intro a ha;cases ha
end
inductive SAll (P:Option V→Sl→List Addr→Prop):List (Option V)→List Sl→List Addr→Prop
  | nil:SAll P [] [] []
  | cons {o:Option V} {s:Sl} {A:List Addr} {os:List (Option V)} {ss:List Sl} {B:List Addr}:P o s A→SAll P os ss B→SAll P (o::os) (s::ss) (A++B)
section
variable {P P':Option V→Sl→List Addr→Prop}
theorem SAll.len {os:List (Option V)} {ss:List Sl} {A:List Addr} (h:SAll P os ss A):os.length=ss.length:=by
  induction h with
  | nil=>rfl
  | cons _ _ b=>exact congrArg (· +1) b
theorem SAll.mono {os:List (Option V)} {ss:List Sl} {A:List Addr} (h:SAll P os ss A):(∀o s B,s∈ss→(∀b∈B,b∈A)→P o s B→P' o s B)→SAll P' os ss A:=by
  induction h with
  | nil=>exact fun _=> .nil
  | cons h _ r=>exact fun f=> .cons (f _ _ _ (List.mem_cons_self ..) (fun b hb=>List.mem_append_left _ hb) h) (r fun o s B hs hB q=>f o s B (List.mem_cons_of_mem _ hs) (fun b hb=>List.mem_append_right _ (hB b hb)) q)
theorem SAll.all {R:Addr→Prop} (hR:∀o s B,P o s B→∀b∈B,R b) {os:List (Option V)} {ss:List Sl} {A:List Addr} (h:SAll P os ss A):∀a∈A,R a:=by
  induction h with
  | nil=>exact fun _ ha=>nomatch ha
  | cons h _ r=>exact fun a ha=>(List.mem_append.mp ha).elim (hR _ _ _ h a) (r a)
theorem SAll.at:∀{os:List (Option V)} {ss:List Sl} {A:List Addr} {k:Nat} {s:Sl},SAll P os ss A→ss[k]? =some s→
    ∃o A0 A1 A2,A=A0++(A1++A2)∧os[k]? =some o∧P o s A1∧∀(P':Option V→Sl→List Addr→Prop) (o':Option V) (s':Sl) (A1':List Addr),P' o' s' A1'→
      (∀o s B,s∈ss→(∀b∈B,b∈A0∨b∈A2)→P o s B→P' o s B)→SAll P' (os.set k o') (ss.set k s') (A0++(A1'++A2))
  | _,_,_,_,_, .nil,e=>by simp at e
  | _,_,_,0,s, .cons (o:=o) (A:=A) (B:=B) h r,e=>by
    simp at e;subst e
    refine ⟨o,[],A,B,by simp,rfl,h,fun P' o' s' A1' h' f=>?_⟩
    have z:SAll P' _ _ (A1'++B):= .cons h' (r.mono (P':=P') fun o s B hs hB q=>f o s B (List.mem_cons_of_mem _ hs) (fun b hb=> .inr (hB b hb)) q)
    exact z
  | _,_,_,k+1,s, .cons (o:=o) (A:=A) (B:=B) h r,e=>by
    obtain ⟨o2,A0,A1,A2,eA,eo,hp,f⟩:=r.at (k:=k) (s:=s) (by simpa using e)
    subst eA
    refine ⟨o2,A++A0,A1,A2,by simp,by simpa using eo,hp,fun P' o' s' A1' h' g=>?_⟩
    have z:=f P' o' s' A1' h' fun o s B hs hB q=>g o s B (List.mem_cons_of_mem _ hs) (fun b hb=>(hB b hb).imp (fun x=>List.mem_append_right _ x) id) q
    rw [List.append_assoc]
    exact .cons (g _ _ _ (List.mem_cons_self ..) (fun b hb=> .inl (List.mem_append_left _ hb)) h) z
end
end PL
namespace PL
open PySem L2 Nh
abbrev Sg:=L2.St
structure FrF (K:PySem.W.Frag) (B F:Hp) (A:List Addr) (σ:Sg) (H:Hp) (E:List Sl) (xs:List V) (Xs:List Sl):Prop where
  bf:Same B F
  fh:Same F H
  tf:Same (tups H) F
  sl:SAll (SlOk K F H σ) (xs.map some++σ) (Xs++E) A
  nd:A.Nodup
  fr:∀a∈A,F a=none
  len:xs.length=Xs.length
  pl:∀s∈E,s.isAl=false
def Frm (K:PySem.W.Frag) (B:Hp) (σ:Sg) (H:Hp) (E:List Sl) (xs:List V) (Xs:List Sl):Prop:=∃F A,FrF K B F A σ H E xs Xs
def Sl.val:Sl→Option PyData
  | .sh d=>some d
  | .ow ds=>some (.list ds)
  | .tx ps=>some (.tuple (ps.map Pt.val))
  | .br d=>some d
  | _=>none
def look (E:List Sl):Sl→Option PyData
  | .al i=>(E[i]?).bind Sl.val
  | s=>s.val
def eK:Sl→Bool
  | .br _=>true
  | .tx _=>true
  | _=>false
def fN (E:List Sl):Sl→Bool
  | .al i=>(E[i]?).any eK
  | s=>eK s
def RpF (K:PySem.W.Frag) (F H:Hp) (v:V):PyData→Prop
  | .list ds=>∃a vs,v= .ref a∧SqL K H a vs∧RpA K F vs ds
  | d=>Rp K F v d
def mq (F H:Hp) (A:List Addr):Hp:=fun b=>if b∈A then H b else F b
theorem k8 {F H:Hp} {A:List Addr} {b:Addr} (h:b∈A):mq F H A b=H b:=if_pos h
theorem jL {F H:Hp} {A:List Addr} {b:Addr} (h:b∉A):mq F H A b=F b:=if_neg h
section
variable {K:PySem.W.Frag} {B F:Hp} {A:List Addr} {σ:Sg} {H:Hp} {E:List Sl} {xs:List V} {Xs:List Sl} {v:V} {s:Sl} {d:PyData}
theorem RpF.of (h:Rp K F v d) (s:Same F H):RpF K F H v d:=by
  cases h with
  | lst h r=>exact ⟨_,_,rfl,s.seq h,r⟩
  | non=>exact .non
  | bl b=>exact .bl b
  | int i=>exact .int i
  | str x=>exact .str x
  | tup h r=>exact .tup h r
  | dct h r=>exact .dct h r
theorem SlOk.val {o:Option V} {A1:List Addr} (h:SlOk K F H σ o s A1) (hF:Same F H) (e:s.val=some d):∃v,o=some v∧Rp K H v d∧(eK s=false→RpF K F H v d):=by
  cases s with
  | no=>cases e
  | sh d'=>
    obtain ⟨rfl,v,rfl,r⟩:=h
    cases e
    exact ⟨v,rfl,r.same hF,fun _=>RpF.of r hF⟩
  | ow ds=>
    obtain ⟨l,vs,rfl,rfl,hl,r⟩:=h
    cases e
    exact ⟨_,rfl, .lst (SqL.of hl) (r.same hF),fun _=>⟨_,_,rfl,SqL.of hl,r⟩⟩
  | od kvs=>cases e
  | oi kvs=>cases e
  | tx ps=>
    obtain ⟨t,vs,rfl,ht,r⟩:=h
    cases e
    exact ⟨_,rfl, .tup (SqT.of (hF _ _ ht)) (r.rp hF),fun z=>by cases z⟩
  | al i=>cases e
  | br d'=>
    obtain ⟨rfl,v,rfl,r⟩:=h
    cases e
    exact ⟨v,rfl,r,fun z=>by cases z⟩
theorem FrF.slen (h:FrF K B F A σ H E xs Xs):σ.length=E.length:=by
  have e:=h.sl.len
  have:=h.len
  simp only [List.length_append,List.length_map] at e
  omega
theorem FrF.var {i:Nat} (h:FrF K B F A σ H E xs Xs) (e:E[i]? =some s):∃o A1,σ[i]? =some o∧SlOk K F H σ o s A1:=by
  obtain ⟨o,A0,A1,A2,eA,eo,hp,_⟩:=h.sl.at (k:=Xs.length+i) (s:=s) (by rw [List.getElem?_append_right (by omega)];simpa using e)
  rw [List.getElem?_append_right (by rw [List.length_map,h.len];omega),List.length_map,h.len,Nat.add_sub_cancel_left] at eo
  exact ⟨o,A1,eo,hp⟩
theorem FrF.ext {k:Nat} (h:FrF K B F A σ H E xs Xs) (e:Xs[k]? =some s):∃v A1,xs[k]? =some v∧SlOk K F H σ (some v) s A1:=by
  have hk:k < Xs.length:=(List.getElem?_eq_some_iff.mp e).1
  obtain ⟨o,A0,A1,A2,eA,eo,hp,_⟩:=h.sl.at (k:=k) (s:=s) (by rw [List.getElem?_append_left hk];exact e)
  rw [List.getElem?_append_left (by rw [List.length_map,h.len];omega),List.getElem?_map] at eo
  cases q:xs[k]? with
  | none=>rw [q] at eo;cases eo
  | some v=>rw [q] at eo;cases eo;exact ⟨v,A1,rfl,hp⟩
theorem FrF.look {k:Nat} (h:FrF K B F A σ H E xs Xs) (e:Xs[k]? =some s) (q:look E s=some d):∃v,xs[k]? =some v∧Rp K H v d∧(fN E s=false→RpF K F H v d):=by
  obtain ⟨v,A1,ev,hs⟩:=h.ext e
  cases s with
  | al i=>
    obtain ⟨rfl,w,ew,hw⟩:=hs
    cases ew
    cases ei:E[i]? with
    | none=>simp [PL.look,ei] at q
    | some t=>
      obtain ⟨o,A2,eo,ht⟩:=h.var ei
      rw [hw] at eo
      cases eo
      obtain ⟨v',e',r,c⟩:=ht.val h.fh (d:=d) (by simpa [PL.look,ei] using q)
      cases e'
      exact ⟨v,ev,r,fun z=>c (by simpa [fN,ei] using z)⟩
  | no=>cases q
  | od kvs=>cases q
  | oi kvs=>cases q
  | sh d'=>obtain ⟨v',e',r,c⟩:=hs.val h.fh q;cases e';exact ⟨v,ev,r,c⟩
  | ow ds=>obtain ⟨v',e',r,c⟩:=hs.val h.fh q;cases e';exact ⟨v,ev,r,c⟩
  | tx ps=>obtain ⟨v',e',r,c⟩:=hs.val h.fh q;cases e';exact ⟨v,ev,r,c⟩
  | br d'=>obtain ⟨v',e',r,c⟩:=hs.val h.fh q;cases e';exact ⟨v,ev,r,c⟩
theorem FrF.look0 (h:FrF K B F A σ H E (v::xs) (s::Xs)) (q:PL.look E s=some d):Rp K H v d∧(fN E s=false→RpF K F H v d):=by
  obtain ⟨v',e,r⟩:=h.look (k:=0) rfl q
  cases e
  exact r
theorem FrF.look1 {w:V} {t:Sl} (h:FrF K B F A σ H E (w::v::xs) (t::s::Xs)) (q:PL.look E s=some d):Rp K H v d∧(fN E s=false→RpF K F H v d):=by
  obtain ⟨v',e,r⟩:=h.look (k:=1) rfl q
  cases e
  exact r
theorem FrF.mutA (h:FrF K B F A σ H E xs Xs):∀a∈A,(∃us,H a=some (.lst us))∨∃us,H a=some (.dK us):=
  SAll.all (R:=fun a=>(∃us,H a=some (.lst us))∨∃us,H a=some (.dK us)) (fun _ _ _ q=>q.mut) h.sl
theorem FrF.newA {p:Addr} (h:FrF K B F A σ H E xs Xs) (hp:H p=none):p∉A:=fun hm=>by
  rcases h.mutA p hm with ⟨_,z⟩ | ⟨_,z⟩ <;> rw [hp] at z <;> cases z
theorem FrF.cold {u:V} {e:PyData} (h:FrF K B F A σ H E xs Xs) (r:Rp K H u e) (f:b7 e=true):Rp K F u e:=(r.cold f).same h.tf
theorem FrF.coldA {us:List V} {es:List PyData} (h:FrF K B F A σ H E xs Xs) (r:RpA K H us es) (f:ar es=true):RpA K F us es:=(r.cold f).same h.tf
theorem FrF.push (h:FrF K B F A σ H E xs Xs) (q:SlOk K F H σ (some v) s []):FrF K B F A σ H E (v::xs) (s::Xs):=
  ⟨h.bf,h.fh,h.tf, .cons (A:=[]) q h.sl,h.nd,h.fr,by simp [h.len],h.pl⟩
theorem FrF.pop (h:FrF K B F A σ H E (v::xs) (s::Xs)):∃A',FrF K B F A' σ H E xs Xs:=by
  obtain ⟨bf,fh,tf,sl,nd,fr,len,pl⟩:=h
  generalize hT:List.map some (v::xs)++σ=T at sl
  generalize hS:(s::Xs)++E=S at sl
  cases sl with
  | nil=>cases hS
  | cons q r=>
    injection hT with _ hT
    injection hS with _ hS
    subst hT hS
    exact ⟨_,bf,fh,tf,r,(List.nodup_append.mp nd).2.1,fun a ha=>fr a (List.mem_append_right _ ha),by simpa using len,pl⟩
theorem FrF.grow {H':Hp} (h:FrF K B F A σ H E xs Xs) (g:Same H H'):FrF K B (fun b=>if b∈A then none else H' b) A σ H' E xs Xs:=by
  have nF:∀b o,F b=some o→b∉A:=fun b o e hb=>by rw [h.fr b hb] at e;cases e
  have FF:Same F (fun b=>if b∈A then none else H' b):=fun b o e=>by
    show (if b∈A then none else H' b)=some o
    rw [if_neg (nF b o e)]
    exact g _ _ (h.fh _ _ e)
  have hA:∀b∈A,H' b=H b:=fun b hb=>by
    rcases h.mutA b hb with ⟨_,z⟩ | ⟨_,z⟩ <;> rw [z,g _ _ z]
  refine ⟨h.bf.trans FF,fun b o e=>?_,fun b o e=>?_,h.sl.mono fun o s C _ hC q=>q.stay FF (fun b hb=>hA b (hC b hb)) fun _=>g,h.nd,fun a ha=>if_pos ha,h.len,h.pl⟩
  · by_cases hb:b∈A
    · rw [if_pos hb] at e;cases e
    · rw [if_neg hb] at e;exact e
  · obtain ⟨e1,e2⟩:=Option.filter_eq_some_iff.mp e
    show (if b∈A then none else H' b)=some o
    by_cases hb:b∈A
    · rw [hA b hb] at e1
      rcases h.mutA b hb with ⟨_,z⟩ | ⟨_,z⟩ <;> rw [z] at e1 <;> cases e1 <;> cases e2
    · rw [if_neg hb];exact e1
theorem FrF.newl {p:Addr} {vs:List V} {ds:List PyData} (h:FrF K B F A σ H E xs Xs) (r:RpA K F vs ds) (hp:H p=none):FrF K B F (p::A) σ (upd H p (.lst vs)) E (.ref p::xs) (.ow ds::Xs):=by
  have g:Same H (upd H p (.lst vs)):=bR hp _
  have nA:=h.newA hp
  refine ⟨h.bf,h.fh.trans g,fun b o e=>?_, .cons (A:=[p]) ⟨p,vs,rfl,rfl,aA,r⟩ (h.sl.mono fun o s C _ hC q=>q.stay (Same.refl _) (fun b hb=>ai fun z=>nA (z▸hC b hb)) fun _=>g),List.nodup_cons.mpr ⟨nA,h.nd⟩,fun a ha=>?_,by simp [h.len],h.pl⟩
  · obtain ⟨e1,e2⟩:=Option.filter_eq_some_iff.mp e
    by_cases hb:b=p
    · subst hb;rw [aA] at e1;cases e1;cases e2
    · rw [ai hb] at e1;exact h.tf b o (gr e1 e2)
  · rcases List.mem_cons.mp ha with z | z
    · subst z;exact h.fh.free hp
    · exact h.fr a z
theorem FrF.newt {p:Addr} {vs:List V} {ds:List PyData} (h:FrF K B F A σ H E xs Xs) (r:RpA K F vs ds) (hp:H p=none):FrF K B (upd F p (.tup vs)) A σ (upd H p (.tup vs)) E (.ref p::xs) (.sh (.tuple ds)::Xs):=by
  have g:Same H (upd H p (.tup vs)):=bR hp _
  have nA:=h.newA hp
  have gF:Same F (upd F p (.tup vs)):=bR (h.fh.free hp) _
  refine ⟨h.bf.trans gF,fun b o e=>?_,fun b o e=>?_, .cons (A:=[]) ⟨rfl,_,rfl, .tup (.inl (.inl aA)) (r.same gF)⟩ (h.sl.mono fun o s C _ hC q=>q.stay gF (fun b hb=>ai fun z=>nA (z▸hC b hb)) fun _=>g),h.nd,fun a ha=>?_,by simp [h.len],h.pl⟩
  · by_cases hb:b=p
    · subst hb;rw [aA] at e ⊢;exact e
    · rw [ai hb] at e ⊢;exact h.fh _ _ e
  · obtain ⟨e1,e2⟩:=Option.filter_eq_some_iff.mp e
    by_cases hb:b=p
    · subst hb;rw [aA] at e1 ⊢;exact e1
    · rw [ai hb] at e1 ⊢;exact h.tf b o (gr e1 e2)
  · have ne:a≠p:=fun z=>nA (z▸ha)
    rw [ai ne];exact h.fr a ha
theorem FrF.mut {i:Nat} {ds:List PyData} (h:FrF K B F A σ H E xs Xs) (e:E[i]? =some (.ow ds)) (c:∀s∈Xs,s.isBr=false):
    ∃l vs,σ[i]? =some (some (.ref l))∧H l=some (.lst vs)∧RpA K F vs ds∧∀vs' ds',RpA K F vs' ds'→FrF K B F A σ (upd H l (.lst vs')) (E.set i (.ow ds')) xs Xs:=by
  obtain ⟨o,A0,A1,A2,eA,eo,hp,put⟩:=h.sl.at (k:=Xs.length+i) (s:= .ow ds) (by rw [List.getElem?_append_right (by omega)];simpa using e)
  rw [List.getElem?_append_right (by rw [List.length_map,h.len];omega),List.length_map,h.len,Nat.add_sub_cancel_left] at eo
  obtain ⟨l,vs,rfl,rfl,hl,r⟩:=hp
  refine ⟨l,vs,eo,hl,r,fun vs' ds' r'=>?_⟩
  have hlA:l∈A:=by rw [eA];simp
  have nl:∀b,b∈A0∨b∈A2→b≠l:=fun b hb z=>by
    subst z
    have nd:=h.nd
    rw [eA] at nd
    rcases hb with hb | hb
    · exact (List.nodup_append.mp nd).2.2 b hb b (by simp) rfl
    · exact (List.nodup_append.mp (List.nodup_append.mp nd).2.1).2.2 b (by simp) b hb rfl
  have lF:F l=none:=h.fr l hlA
  have z:=put (SlOk K F (upd H l (.lst vs')) σ) (some (.ref l)) (.ow ds') [l] ⟨l,vs',rfl,rfl,aA,r'⟩ fun o s C hs hC q=>q.stay (Same.refl _) (fun b hb=>ai (nl b (hC b hb))) fun z=>by
    rcases List.mem_append.mp hs with hs | hs
    · rw [c s hs] at z;cases z
    · have:=h.pl s hs
      cases s <;> simp [Sl.isAl,Sl.isBr] at this z
  have e3:(Xs++E).set (Xs.length+i) (.ow ds')=Xs++E.set i (.ow ds'):=by
    rw [List.set_append_right _ _ (by omega),Nat.add_sub_cancel_left]
  have e2:(List.map some xs++σ).set (Xs.length+i) (some (V.ref l))=List.map some xs++σ:=by
    rw [←h.len,List.set_append_right _ _ (by rw [List.length_map];omega),List.length_map,Nat.add_sub_cancel_left]
    congr 1
    exact List.ext_getElem? fun j=>by
      by_cases hj:i=j
      · subst hj
        rw [List.getElem?_set_self',eo];rfl
      · rw [List.getElem?_set_ne hj]
  rw [e2,e3,←eA] at z
  refine ⟨h.bf,fun b o q=>?_,?_,z,h.nd,h.fr,h.len,fun s hs=>?_⟩
  · rw [ai (fun z=>by rw [z,lF] at q;cases q)]
    exact h.fh _ _ q
  · rw [mn hl];exact h.tf
  · rcases List.mem_or_eq_of_mem_set hs with hs | hs
    · exact h.pl s hs
    · subst hs;rfl
theorem FrF.frzAt {k:Nat} (h:FrF K B F A σ H E xs Xs) (e:(Xs++E)[k]? =some s) (q:s.val=some d) (c:s.isAl=false):
    ∃F' A' v,(xs.map some++σ)[k]? =some (some v)∧Rp K F' v d∧Same B F'∧Same F' H∧Same (tups H) F'∧SAll (SlOk K F' H σ) (xs.map some++σ) ((Xs++E).set k (.sh d)) A'∧A'.Nodup∧∀a∈A',F' a=none:=by
  obtain ⟨o,A0,A1,A2,eA,eo,hp,put⟩:=h.sl.at e
  have nd:=h.nd
  rw [eA] at nd
  have nA1:∀b o,F b=some o→b∉A1:=fun b o e hb=>by
    have:=h.fr b (by rw [eA];simp [hb])
    rw [this] at e;cases e
  have FF:Same F (mq F H A1):=fun b o e=>by rw [jL (nA1 b o e)];exact e
  obtain ⟨v,rfl,r⟩:∃v,o=some v∧Rp K (mq F H A1) v d:=by
    cases s with
    | no=>cases q
    | od kvs=>cases q
    | oi kvs=>cases q
    | al i=>cases c
    | br d'=>cases c
    | sh d'=>
      obtain ⟨rfl,v,rfl,r⟩:=hp
      cases q
      exact ⟨v,rfl,r.same FF⟩
    | ow ds=>
      obtain ⟨l,vs,rfl,rfl,hl,r⟩:=hp
      cases q
      exact ⟨_,rfl, .lst (SqL.of ((k8 (by simp)).trans hl)) (r.same FF)⟩
    | tx ps=>
      obtain ⟨t,vs,rfl,ht,r⟩:=hp
      cases q
      refine ⟨_,rfl, .tup (SqT.of (FF _ _ ht)) ?_⟩
      have r':PtsOk K (mq F H A1) (mq F H A1) vs ps A1:=r.stay FF fun b hb=>k8 hb
      exact r'.rp (Same.refl _)
  have e2:(List.map some xs++σ).set k (some v)=List.map some xs++σ:=List.ext_getElem? fun j=>by
    by_cases hj:k=j
    · subst hj
      rw [List.getElem?_set_self',eo];rfl
    · rw [List.getElem?_set_ne hj]
  have z:=put (SlOk K (mq F H A1) H σ) (some v) (.sh d) [] ⟨rfl,v,rfl,r⟩ fun o s C _ hC q=>q.stay FF (fun b _=>rfl) fun _=>Same.refl _
  rw [e2] at z
  refine ⟨mq F H A1,A0++A2,v,eo,r,h.bf.trans FF,fun b o e=>?_,fun b o e=>FF _ _ (h.tf _ _ e),by simpa using z,?_,fun a ha=>?_⟩
  · by_cases hb:b∈A1
    · rw [k8 hb] at e;exact e
    · rw [jL hb] at e;exact h.fh _ _ e
  · exact List.Nodup.sublist (List.Sublist.append (List.Sublist.refl _) (List.sublist_append_right _ _)) nd
  · have hn:a∉A1:=fun hm=>by
      rcases List.mem_append.mp ha with z | z
      · exact (List.nodup_append.mp nd).2.2 a z a (by simp [hm]) rfl
      · exact (List.nodup_append.mp (List.nodup_append.mp nd).2.1).2.2 a hm a z rfl
    rw [jL hn]
    exact h.fr a (by rw [eA];rcases List.mem_append.mp ha with z | z <;> simp [z])
end
def frz (E:List Sl):Sl→Option (PyData×List Sl)
  | .sh d=>some (d,E)
  | .ow ds=>some (.list ds,E)
  | .tx ps=>some (.tuple (ps.map Pt.val),E)
  | .br d=>if b7 d then some (d,E) else none
  | .al i=>match E[i]? with
    | some (.sh d)=>some (d,E)
    | some (.ow ds)=>some (.list ds,E.set i (.sh (.list ds)))
    | some (.tx ps)=>some (.tuple (ps.map Pt.val),E.set i (.sh (.tuple (ps.map Pt.val))))
    | _=>none
  | _=>none
section
variable {K:PySem.W.Frag} {B F:Hp} {A:List Addr} {σ:Sg} {H:Hp} {E E':List Sl} {xs:List V} {Xs:List Sl} {v:V} {s:Sl} {d:PyData}
theorem FrF.frzVar {i:Nat} (h:FrF K B F A σ H E xs Xs) (e:E[i]? =some s) (q:s.val=some d):∃F' A' v,σ[i]? =some (some v)∧Rp K F' v d∧FrF K B F' A' σ H (E.set i (.sh d)) xs Xs:=by
  obtain ⟨F',A',v,ev,r,b1,b2,b3,sl,nd,fr⟩:=h.frzAt (k:=Xs.length+i) (by rw [List.getElem?_append_right (by omega)];simpa using e) q (h.pl s (List.mem_of_getElem? e))
  rw [List.getElem?_append_right (by rw [List.length_map,h.len];omega),List.length_map,h.len,Nat.add_sub_cancel_left] at ev
  have e3:(Xs++E).set (Xs.length+i) (.sh d)=Xs++E.set i (.sh d):=by
    rw [List.set_append_right _ _ (by omega),Nat.add_sub_cancel_left]
  rw [e3] at sl
  refine ⟨F',A',v,ev,r,b1,b2,b3,sl,nd,fr,h.len,fun s hs=>?_⟩
  rcases List.mem_or_eq_of_mem_set hs with hs | hs
  · exact h.pl s hs
  · subst hs;rfl
theorem FrF.frz0 (h:FrF K B F A σ H E (v::xs) (s::Xs)) (q:PL.frz E s=some (d,E')):∃F' A',FrF K B F' A' σ H E' (v::xs) (.sh d::Xs):=by
  have key:s.val=some d→s.isAl=false→E=E'→∃F' A',FrF K B F' A' σ H E' (v::xs) (.sh d::Xs):=fun q' c e=>by
    subst e
    obtain ⟨F',A',v',ev,r,b1,b2,b3,sl,nd,fr⟩:=h.frzAt (k:=0) rfl q' c
    exact ⟨F',A',b1,b2,b3,sl,nd,fr,by simpa using h.len,h.pl⟩
  have al:∀i t,s= .al i→E[i]? =some t→t.val=some d→E'=E.set i (.sh d)→∃F' A',FrF K B F' A' σ H E' (v::xs) (.sh d::Xs):=fun i t es ei qt eE=>by
    subst es eE
    obtain ⟨v',A1,ev,hs⟩:=h.ext (k:=0) rfl
    cases ev
    obtain ⟨rfl,w,ew,hw⟩:=hs
    cases ew
    obtain ⟨F',A',w,ew,r,h'⟩:=h.frzVar ei qt
    rw [hw] at ew
    cases ew
    obtain ⟨A2,h2⟩:=h'.pop
    exact ⟨F',A2,h2.push ⟨rfl,_,rfl,r⟩⟩
  cases s with
  | no=>cases q
  | od kvs=>cases q
  | oi kvs=>cases q
  | sh d'=>cases q;exact key rfl rfl rfl
  | ow ds=>cases q;exact key rfl rfl rfl
  | tx ps=>cases q;exact key rfl rfl rfl
  | br d'=>
    simp only [PL.frz] at q
    split at q
    · rename_i hf
      cases q
      obtain ⟨r,_⟩:=h.look0 (d:=d) rfl
      obtain ⟨A2,h2⟩:=h.pop
      exact ⟨F,A2,h2.push ⟨rfl,_,rfl,h.cold r hf⟩⟩
    · cases q
  | al i=>
    simp only [PL.frz] at q
    split at q
    · rename_i d' ei
      cases q
      refine al i _ rfl ei rfl ?_
      exact List.ext_getElem? fun j=>by
        by_cases hj:i=j
        · subst hj;rw [List.getElem?_set_self',ei];rfl
        · rw [List.getElem?_set_ne hj]
    · rename_i ds ei
      cases q
      exact al i _ rfl ei rfl rfl
    · rename_i ps ei
      cases q
      exact al i _ rfl ei rfl rfl
    · cases q
theorem FrF.store {i:Nat} (h:FrF K B F A σ H E (v::xs) (s::Xs)) (c:s.isAl=false) (cx:∀s∈Xs,s.isAl=false) (hi:i < E.length):∃A',FrF K B F A' (σ.set i (some v)) H (E.set i s) xs Xs:=by
  have hlen:=h.len
  have hsl:=h.slen
  obtain ⟨bf,fh,tf,sl,nd,fr,len,pl⟩:=h
  generalize hT:List.map some (v::xs)++σ=T at sl
  generalize hS:(s::Xs)++E=S at sl
  cases sl with
  | nil=>cases hS
  | cons q r=>
    rename_i A1 _ _ A2
    injection hT with h1 hT
    injection hS with h2 hS
    subst h1 h2 hT hS
    have len':xs.length=Xs.length:=by simpa using len
    have r:SAll (SlOk K F H σ) (List.map some xs++σ) (Xs++E) A2:=r
    obtain ⟨t,et⟩:∃t,E[i]? =some t:=⟨E[i],List.getElem?_eq_getElem hi⟩
    obtain ⟨o,C0,C1,C2,eA,eo,hp,put⟩:=r.at (k:=Xs.length+i) (s:=t) (by rw [List.getElem?_append_right (by omega)];simpa using et)
    have all:∀s'∈Xs++E,s'.isAl=false:=fun s' hs=>(List.mem_append.mp hs).elim (cx s') (pl s')
    have chg:∀(o:Option V) (s':Sl) (C:List Addr),s'.isAl=false→SlOk K F H σ o s' C→SlOk K F H (σ.set i (some v)) o s' C:=fun o s' C hc z=>by
      cases s' <;> first | exact z | cases hc
    have z:=put (SlOk K F H (σ.set i (some v))) (some v) s A1 (chg _ _ _ c q) fun o s' C hs _ z=>chg o s' C (all s' hs) z
    have e3:(Xs++E).set (Xs.length+i) s=Xs++E.set i s:=by
      rw [List.set_append_right _ _ (by omega),Nat.add_sub_cancel_left]
    have e2:(List.map some xs++σ).set (Xs.length+i) (some v)=List.map some xs++σ.set i (some v):=by
      rw [←len',List.set_append_right _ _ (by rw [List.length_map];omega),List.length_map,Nat.add_sub_cancel_left]
    rw [e2,e3] at z
    refine ⟨_,bf,fh,tf,z,?_,fun a ha=>fr a ?_,len',fun s' hs=>?_⟩
    · rw [eA] at nd
      have p:(C0++(A1++C2)).Perm (A1++(C0++C2)):=by
        rw [←List.append_assoc,←List.append_assoc]
        exact List.Perm.append_right _ List.perm_append_comm
      refine p.nodup_iff.mpr (List.Nodup.sublist ?_ nd)
      exact List.Sublist.append (List.Sublist.refl _) (List.Sublist.append (List.Sublist.refl _) (List.sublist_append_right _ _))
    · rw [eA]
      simp only [List.mem_append] at ha ⊢
      rcases ha with z | z | z
      · exact .inr (.inl z)
      · exact .inl z
      · exact .inr (.inr (.inr z))
    · rcases List.mem_or_eq_of_mem_set hs with hs | hs
      · exact pl s' hs
      · subst hs;exact c
end
end PL
namespace PL
open PySem L2 Nh
abbrev aV:=List Sl→Option (Sl×List Sl)
abbrev iE:=List Sl→Option (Bool×List Sl)
abbrev kx:=List Sl→Option (List Sl×List Sl)
abbrev iY:=List Sl→Option (List PyData×List Sl)
inductive Fl where
  | nx | bk | ct | rt (r:Sl)
abbrev fg:=List Sl→Option (List Sl×Fl)
abbrev Calm (Xs:List Sl):Prop:=∀s∈Xs,s.isBr=false
abbrev Still (Xs:List Sl):Prop:=∀s∈Xs,s.isAl=false
theorem Still.calm {Xs:List Sl} (h:Still Xs):Calm Xs:=fun s hs=>by
  have:=h s hs
  cases s <;> simp [Sl.isAl,Sl.isBr] at this ⊢
theorem Still.nil {Xs:List Sl} (h:Xs=[]):Still Xs:=fun s hs=>by subst h;cases hs
theorem Calm.nil {Xs:List Sl} (h:Xs=[]):Calm Xs:=(Still.nil h).calm
theorem Calm.cons {Xs:List Sl} {s:Sl} (h:Calm Xs) (hs:s.isBr=false):Calm (s::Xs):=fun t ht=>(List.mem_cons.mp ht).elim (fun e=>e▸hs) (h t)
def rd (K:PySem.W.Frag) (m:Bool) (f:aV):TE:=fun σ H Q=>∃B E xs Xs r E',Frm K B σ H E xs Xs∧(m=true→Calm Xs)∧f E=some (r,E')∧∀v H',Frm K B σ H' E' (v::xs) (r::Xs)→Q v H'
def rt (K:PySem.W.Frag) (m:Bool) (f:iE):TT:=fun σ H Q=>∃B E xs Xs b E',Frm K B σ H E xs Xs∧(m=true→Calm Xs)∧f E=some (b,E')∧∀H',Frm K B σ H' E' xs Xs→Q b H'
def ra (K:PySem.W.Frag) (m:Bool) (f:kx):TA:=fun σ H Q=>∃B E xs Xs rs E',Frm K B σ H E xs Xs∧(m=true→Calm Xs)∧f E=some (rs,E')∧∀vs H',vs.length=rs.length→Frm K B σ H' E' (vs.reverse++xs) (rs.reverse++Xs)→Q vs H'
def yg (K:PySem.W.Frag) (m:Bool) (f:iY):TA:=fun σ H Q=>∃B E xs Xs ds E',Frm K B σ H E xs Xs∧(m=true→Calm Xs)∧f E=some (ds,E')∧∀vs H',vs.length=ds.length→Frm K B σ H' E' (vs.reverse++xs) (ds.reverse.map .sh++Xs)→Q vs H'
def rs (K:PySem.W.Frag) (g:fg):TS:=fun D σ H=>∃B E xs Xs E' fl,Frm K B σ H E xs Xs∧Xs=[]∧g E=some (E',fl)∧match fl with
  | .nx=>∀σ' H',Frm K B σ' H' E' xs Xs→D.nx σ' H'
  | .bk=>∀σ' H',Frm K B σ' H' E' xs Xs→D.bk σ' H'
  | .ct=>∀σ' H',Frm K B σ' H' E' xs Xs→D.ct σ' H'
  | .rt r=>∀σ' v H',Frm K B σ' H' E' (v::xs) (r::Xs)→D.rt v H'
def EX (X:Cx) (e:Expr) (m:Bool) (f:aV):Prop:=PE X e (rd X.K m f)
def TX (X:Cx) (e:Expr) (m:Bool) (f:iE):Prop:=PT X e (rt X.K m f)
def WX (X:Cx) (e:Expr) (m:Bool) (f:iE):Prop:=PW X e (rt X.K m f)
def AX (X:Cx) (es:List Expr) (m:Bool) (f:kx):Prop:=PA X es (ra X.K m f)
def DX (X:Cx) (es:List Expr) (m:Bool) (f:iY):Prop:=PA X es (yg X.K m f)
def SX (X:Cx) (s:Stmt) (g:fg):Prop:=PS X s (rs X.K g)
def qN (X:Cx) (s:List Stmt) (g:fg):Prop:=PSs X s (rs X.K g)
section
variable {X:Cx}
theorem dl {e:Expr} {t t':TE} (h:PE X e t) (k:∀σ H Q,t' σ H Q→t σ H Q):PE X e t':=fun pins s σ H Q I q=>h pins s σ H Q I (k σ H Q q)
theorem jM {e:Expr} {t t':TT} (h:PT X e t) (k:∀σ H Q,t' σ H Q→t σ H Q):PT X e t':=fun pins s σ H Q I q=>h pins s σ H Q I (k σ H Q q)
theorem qO {e:Expr} {t t':TT} (h:PW X e t) (k:∀σ H Q,t' σ H Q→t σ H Q):PW X e t':=fun whole pins s σ H Q I q=>h whole pins s σ H Q I (k σ H Q q)
theorem k_ {es:List Expr} {t t':TA} (h:PA X es t) (k:∀σ H Q,t' σ H Q→t σ H Q):PA X es t':=fun pos pins s σ H Q I q=>h pos pins s σ H Q I (k σ H Q q)
theorem ie {st:Stmt} {t t':TS} (h:PS X st t) (k:∀D σ H,t' D σ H→t D σ H):PS X st t':=fun pins s σ H D I q=>h pins s σ H D I (k D σ H q)
theorem la {st:List Stmt} {t t':TS} (h:PSs X st t) (k:∀D σ H,t' D σ H→t D σ H):PSs X st t':=fun pins s σ H D I q=>h pins s σ H D I (k D σ H q)
end
def gN:PyData→Option V
  | .none=>some .non
  | .bool b=>some (.bl b)
  | .int i=>some (.int i)
  | .str x=>some (.str x)
  | _=>none
theorem jN {K:PySem.W.Frag} {H:Hp} {d:PyData} {v:V} (h:gN d=some v):Rp K H v d:=by
  cases d <;> simp [gN] at h <;> subst h <;> constructor
def ab (i:Nat):aV:=fun E=>match E[i]? with
  | some (.sh d)=>some (.sh d,E)
  | some (.ow _)=>some (.al i,E)
  | some (.od _)=>some (.al i,E)
  | some (.tx _)=>some (.al i,E)
  | _=>none
def pC (d:PyData):aV:=fun E=>some (.sh d,E)
section
variable {X:Cx} {K:PySem.W.Frag}
theorem aa (i:Nat) {x:Str} {pos:Pos} (hN:X.N[i]? =some x:=by rfl) (hv:qk X.env.scope x:=by first | exact Or.inl rfl | exact Or.inr (Or.inl rfl) | exact Or.inr (Or.inr rfl)) (hd:(x == ("__debug__":Str))=false:=by decide)
    (hcd:(x == ("__classdict__":Str))=false:=by decide):EX X (.Name x pos) false (ab i):=by
  refine dl (fZ hN hv hd hcd) fun σ H Q h=>?_
  obtain ⟨B,E,xs,Xs,r,E',⟨F,A,fr⟩,_,e,q⟩:=h
  unfold ab at e
  split at e
  · rename_i d ei
    cases e
    obtain ⟨o,A1,eo,rfl,v,rfl,rp⟩:=fr.var ei
    exact ⟨v,eo,q v H ⟨F,A,fr.push ⟨rfl,v,rfl,rp⟩⟩⟩
  · rename_i ds ei
    cases e
    obtain ⟨o,A1,eo,l,vs,rfl,_⟩:=fr.var ei
    exact ⟨_,eo,q _ H ⟨F,A,fr.push ⟨rfl,_,rfl,eo⟩⟩⟩
  · rename_i ds ei
    cases e
    obtain ⟨o,A1,eo,l,vs,A2,rfl,_⟩:=fr.var ei
    exact ⟨_,eo,q _ H ⟨F,A,fr.push ⟨rfl,_,rfl,eo⟩⟩⟩
  · rename_i ds ei
    cases e
    obtain ⟨o,A1,eo,l,vs,rfl,_⟩:=fr.var ei
    exact ⟨_,eo,q _ H ⟨F,A,fr.push ⟨rfl,_,rfl,eo⟩⟩⟩
  · cases e
theorem va {e:Expr} {v:V} (d:PyData) (h:PE X e (tC v)) (hd:gN d=some v:=by rfl):EX X e false (pC d):=by
  refine dl h fun σ H Q h=>?_
  obtain ⟨B,E,xs,Xs,r,E',⟨F,A,fr⟩,_,e,q⟩:=h
  cases e
  exact q v H ⟨F,A,fr.push ⟨rfl,v,rfl,jN hd⟩⟩
theorem ae {i j pos}:EX X (.Constant (.int i) j pos) false (pC (.int i)):=va _ d_
theorem gD {b j pos}:EX X (.Constant (.bool b) j pos) false (pC (.bool b)):=va _ uc
theorem lf {x j pos}:EX X (.Constant (.str x) j pos) false (pC (.str x)):=va _ uK
end
abbrev P2:=List Sl→Sl→Sl→Option (Sl×List Sl)
def gO (K:PySem.W.Frag) (r:R2) (p:P2):Prop:=∀{B F:Hp} {A:List Addr} {σ:Sg} {H:Hp} {E:List Sl} {xs:List V} {Xs:List Sl} {v1 v2:V} {s1 s2 res:Sl} {E':List Sl} {Q:VK},
  FrF K B F A σ H E (v2::v1::xs) (s2::s1::Xs)→p E s1 s2=some (res,E')→(∀v H',Frm K B σ H' E' (v::xs) (res::Xs)→Q v H')→r v1 v2 H Q
def ad (p:P2) (m2:Bool) (f g:aV):aV:=fun E=>(f E).bind fun a=>if m2&&a.1.isBr then none else (g a.2).bind fun b=>p b.2 a.1 b.1
theorem lg {K:PySem.W.Frag} {r:R2} {p:P2} (hp:gO K r p) {m1 m2:Bool} {f g:aV} {σ:Sg} {H:Hp} {Q:VK} (h:rd K (m1||m2) (ad p m2 f g) σ H Q):om r (rd K m1 f) (rd K m2 g) σ H Q:=by
  obtain ⟨B,E,xs,Xs,res,E',fr,c,e,q⟩:=h
  obtain ⟨⟨s1,E1⟩,e1,e⟩:=Option.bind_eq_some_iff.mp e
  by_cases hb:(m2&&s1.isBr)=true
  · rw [if_pos hb] at e;cases e
  rw [if_neg hb] at e
  obtain ⟨⟨s2,E2⟩,e2,e⟩:=Option.bind_eq_some_iff.mp e
  refine ⟨B,E,xs,Xs,s1,E1,fr,fun z=>c (by simp [z]),e1,fun v1 H1 fr1=>?_⟩
  refine ⟨B,E1,v1::xs,s1::Xs,s2,E2,fr1,fun z=>?_,e2,fun v2 H2 fr2=>?_⟩
  · refine Calm.cons (c (by simp [z])) ?_
    cases hs:s1.isBr with
    | false=>rfl
    | true=>exact absurd (by simp [z,hs]) hb
  · obtain ⟨F,A,fr2⟩:=fr2
    exact hp fr2 e q
def eN (op:PyData→PyData→Option PyData):P2:=fun E s1 s2=>(look E s1).bind fun d1=>(look E s2).bind fun d2=>(op d1 d2).map fun d=>(.sh d,E)
theorem FrF.res2 {K:PySem.W.Frag} {B F:Hp} {A:List Addr} {σ:Sg} {H:Hp} {E:List Sl} {xs:List V} {Xs:List Sl} {v1 v2 v:V} {s1 s2 s:Sl} (h:FrF K B F A σ H E (v2::v1::xs) (s2::s1::Xs)) (q:SlOk K F H σ (some v) s []):Frm K B σ H E (v::xs) (s::Xs):=by
  obtain ⟨A1,h⟩:=h.pop
  obtain ⟨A2,h⟩:=h.pop
  exact ⟨F,A2,h.push q⟩
theorem lh {K:PySem.W.Frag} {r:R2} {op:PyData→PyData→Option PyData} (h:∀(d1 d2 d:PyData) (v1 v2:V) (H:Hp) (Q:VK),op d1 d2=some d→Rp K H v1 d1→Rp K H v2 d2→∃v,gN d=some v∧(Q v H→r v1 v2 H Q)):gO K r (eN op):=by
  intro B F A σ H E xs Xs v1 v2 s1 s2 res E' Q fr e q
  obtain ⟨d1,e1,e⟩:=Option.bind_eq_some_iff.mp e
  obtain ⟨d2,e2,e⟩:=Option.bind_eq_some_iff.mp e
  obtain ⟨d,e3,e⟩:=Option.map_eq_some_iff.mp e
  cases e
  obtain ⟨v,hv,k⟩:=h d1 d2 d v1 v2 H Q e3 (fr.look1 e1).1 (fr.look0 e2).1
  exact k (q v H (fr.res2 ⟨rfl,v,rfl,jN hv⟩))
section
variable {X:Cx} {a b:Expr} {m1 m2:Bool} {f g:aV} {pos:Pos}
theorem ky {op:Operator} {r:R2} {p:P2} (ho:OpR X (binaryOp op) r) (hp:gO X.K r p) (ha:EX X a m1 f) (hb:EX X b m2 g):EX X (.BinOp a op b pos) (m1||m2) (ad p m2 f g):=dl (qx ho ha hb) fun _ _ _ h=>lg hp h
theorem vc {op:CmpOp} {r:R2} {p:P2} (ho:OpR X (compareOp op) r) (hp:gO X.K r p) (ha:EX X a m1 f) (hb:EX X b m2 g) (hm:behindInMarks op b=false):EX X (.Compare a [op] [b] pos) (m1||m2) (ad p m2 f g):=dl (sE ho ha hb hm) fun _ _ _ h=>lg hp h
def dr (f:aV):iE:=fun E=>(f E).bind fun a=>match a.1 with
  | .sh (.bool b)=>some (b,a.2)
  | _=>none
theorem qP {K:PySem.W.Frag} {m:Bool} {f:aV} {σ:Sg} {H:Hp} {Q:Bool→Hp→Prop} (h:rt K m (dr f) σ H Q):rd K m f σ H (fun x H'=>∃k,x= .bl k∧Q k H'):=by
  obtain ⟨B,E,xs,Xs,b,E',fr,c,e,q⟩:=h
  obtain ⟨⟨s,E1⟩,e1,e⟩:=Option.bind_eq_some_iff.mp e
  refine ⟨B,E,xs,Xs,s,E1,fr,c,e1,fun v H' ⟨F,A,fr'⟩=>?_⟩
  simp only at e
  split at e
  · cases e
    obtain ⟨r,_⟩:=fr'.look0 (d:= .bool b) rfl
    cases r
    obtain ⟨A',fr2⟩:=fr'.pop
    exact ⟨b,rfl,q H' ⟨F,A',fr2⟩⟩
  · cases e
theorem nH {op:CmpOp} {r:R2} {p:P2} (ho:OpR X (compareOp op) r) (hp:gO X.K r p) (ha:EX X a m1 f) (hb:EX X b m2 g) (hm:behindInMarks op b=false):TX X (.Compare a [op] [b] pos) (m1||m2) (dr (ad p m2 f g)):=by
  refine jM (g6 ho ha hb hm) fun σ H Q h=>?_
  exact lg hp (qP h)
end
def vd:Int:=2 ^ 20000
def fQ (i j:Int):Bool:=decide (-(2 ^ 64) < i∧i < 2 ^ 64)||decide (-(2 ^ 64) < j∧j < 2 ^ 64)||decide (-vd < i∧i < vd∧ -vd < j∧j < vd)
def gP (j:Int):Bool:=decide (0 < j∧j < 2 ^ 200)
def f6 (C:Int→Int→Bool) (g:Int→Int→PyData):PyData→PyData→Option PyData
  | .int i, .int j=>if C i j then some (g i j) else none
  | _,_=>none
abbrev vW (C:Int→Int→Bool) (g:Int→Int→V):R2:=rI (fun i j=>C i j=true) g
theorem lj {K:PySem.W.Frag} {C:Int→Int→Bool} {g:Int→Int→PyData} {g':Int→Int→V} (hg:∀i j,gN (g i j)=some (g' i j)):gO K (vW C g') (eN (f6 C g)):=by
  refine lh fun d1 d2 d v1 v2 H Q e r1 r2=>?_
  unfold f6 at e
  split at e
  · split at e
    · cases e
      cases r1
      cases r2
      rename_i hC
      exact ⟨_,hg _ _,fun q=>⟨_,_,rfl,rfl,hC,q⟩⟩
    · cases e
  · cases e
section
variable {X:Cx}
theorem jj {i:Int} (h1: -vd < i) (h2:i < vd):Builtin.Int.intBits i≤2 ^ 20:=by
  unfold vd at h1 h2
  have h:i.natAbs < 2 ^ 20000:=by
    have e:((2 ^ 20000:Nat):Int)=2 ^ 20000:=Int.natCast_pow 2 20000
    generalize (2 ^ 20000:Int)=z at h1 h2 e
    generalize (2 ^ 20000:Nat)=y at e ⊢
    omega
  unfold Builtin.Int.intBits
  split
  · exact Nat.zero_le _
  · rename_i hz
    have hz':i≠0:=by simpa using hz
    have:i.natAbs.log2 < 20000:=(Nat.log2_lt (by omega)).mpr h
    omega
theorem qQ {i j:Int} (h:fQ i j=true):PySem.IntMulOk i j:=by
  unfold fQ at h
  simp only [Bool.or_eq_true,decide_eq_true_eq] at h
  rcases h with (h | h) | h
  · exact CMul.ok (.inl h)
  · exact CMul.ok (.inr h)
  · exact PySem.IntMulOk.of_bits (jj h.1 h.2.1) (jj h.2.2.1 h.2.2.2)
end
end PL
namespace PL
open PySem L2 Nh PyProof.Rows
abbrev iF:=L2.St
section
variable {X:Cx}
theorem OpR.or {f:Value→Value→Sem Value} {r r':R2} (h:OpR X f r) (h':OpR X f r'):OpR X f (fun x y H Q=>r x y H Q∨r' x y H Q):=by
  intro pins s σ H x y v u Q I rx ry q
  rcases q with q | q
  · exact h pins s σ H x y v u Q I rx ry q
  · exact h' pins s σ H x y v u Q I rx ry q
theorem OpR.imp {f:Value→Value→Sem Value} {r r':R2} (h:OpR X f r) (k:∀x y H Q,r' x y H Q→r x y H Q):OpR X f r':=fun pins s σ H x y v u Q I rx ry q=>h pins s σ H x y v u Q I rx ry (k _ _ _ _ q)
def uf (K:PySem.W.Frag):R2:=fun x y H Q=>∃l b xs zs,x= .ref l∧y= .ref b∧SqL K H l xs∧SqL K H b zs∧xs.length+zs.length≤sizeLine∧∀p,H p=none→Q (.ref p) (upd H p (.lst (xs++zs)))
theorem sR:OpR X (binaryOp .Add) (uf X.K):=by
  intro pins s σ H x y v u Q I rx ry h
  obtain ⟨l,b,xs,zs,rfl,rfl,hH,hB,hz,q⟩:=h
  cases rx
  cases ry
  obtain ⟨its,r,p1,z1⟩:=I.list hH
  obtain ⟨its2,r2,p2,z2⟩:=I.list hB
  obtain ⟨⟨cls,dd,data,sl⟩,ho,hc,n,hd⟩:=p1.isList
  obtain ⟨⟨cls2,dd2,data2,sl2⟩,ho2,hc2,n2,kq⟩:=p2.isList
  simp only at hc hd hc2 kq
  subst hc hd hc2 kq
  have l1:=r.length
  have l2:=r2.length
  refine concat_meets ⟨_,ho,rfl⟩ ⟨_,ho2,rfl⟩ noFill_list_add seq_list_add PySem.F.slot_list_add PySem.F.entry_list_add (PySem.F.args_list_add_2 _ _) (list_addW l b its.toArray its2.toArray n n2 dd dd2 sl sl2 (by simp only [List.size_toArray];omega)) ⟨ho,ho2,?_⟩
  have ea:its.toArray++its2.toArray=(its++its2).toArray:=by simp
  rw [ea]
  exact ⟨.ref _,_,I.lnew (t':=s.toks) (r.append r2) (by rw [List.length_append];omega),rfl,q _ I.fresh⟩
def ug (K:PySem.W.Frag):R2:=fun x y H Q=>∃l k xs,x= .ref l∧y= .int k∧SqL K H l xs∧ -(2 ^ 63)≤k∧k < 2 ^ 63∧xs.length*k.toNat≤sizeLine∧
  ∀p,H p=none→Q (.ref p) (upd H p (.lst (List.replicate k.toNat xs).flatten))
theorem sS:OpR X (binaryOp .Mult) (ug X.K):=by
  intro pins s σ H x y v u Q I rx ry h
  obtain ⟨l,k,xs,rfl,rfl,hH,h1,h2,hz,q⟩:=h
  cases rx
  obtain ⟨t,rfl⟩:=ry
  obtain ⟨its,r,p1,z1⟩:=I.list hH
  obtain ⟨⟨cls,d,data,sl⟩,ho,hcl,n,hd⟩:=p1.isList
  simp only at hcl hd
  subst hcl hd
  have l1:=r.length
  have hsz:its.toArray.size*k.toNat≤2 ^ 24:=by rw [List.size_toArray,←l1];exact hz
  refine wpAny_binaryOp_repeat_ref (T:="list") (U:="int") (by decide) ⟨_,ho,rfl⟩ (fun s'=>typeIs_int s' k t) noFill_list_mul F.fills_int_mul F.slot_int_rmul repeat_list F.slot_int_index.lookup
    (call_meets F.slot_int_rmul (typeIs_int s k t) F.entry_int_rmul (F.args_int_rmul_2 _ _) (lm_int_rmul_list_any k t l its.toArray n d sl)
      ⟨ho,rfl,⟨_,ho,rfl⟩,call_meets F.slot_list_mul ⟨_,ho,rfl⟩ F.entry_list_mul (F.args_list_mul_2 _ _)
        (lm_list_mul_any l its.toArray n d sl k t (by simp [Builtin.List.listFitsIndex];omega) (by omega) (by simp [Builtin.List.listTooLong,sizeLine];omega))
        ⟨ho,?_⟩⟩)
  rw [listMul_foldl_if]
  exact ⟨.ref _,_,I.lnew (t':=s.toks) (r.rep k.toNat) (by rw [sO,Nat.mul_comm];exact hz),rfl,q _ I.fresh⟩
end
def bO:P2:=fun E s1 s2=>(look E s1).bind fun d1=>(look E s2).bind fun d2=>match d1,d2 with
  | .int i, .int j=>some (.sh (.int (i+j)),E)
  | .str a, .str b=>if a.length+b.length≤1000000 then some (.sh (.str (a++b)),E) else none
  | .list a, .list b=>if decide (a.length+b.length≤1000000)&&(!fN E s1||ar a)&&(!fN E s2||ar b) then some (.ow (a++b),E) else none
  | _,_=>none
theorem mr {n:Nat} (h:n≤1000000):n < sizeLine:=Nat.lt_of_le_of_lt h (by rw [sizeLine_eq];decide)
theorem f7 {n:Nat} (h:n≤1000000):n≤sizeLine:=Nat.le_of_lt (mr h)
section
variable {K:PySem.W.Frag} {B F:Hp} {A:List Addr} {σ:iF} {H:Hp} {E:List Sl} {xs:List V} {Xs:List Sl} {v:V} {s:Sl} {ds:List PyData}
theorem FrF.items {k:Nat} (h:FrF K B F A σ H E xs Xs) (e:Xs[k]? =some s) (q:PL.look E s=some (.list ds)) (c:(!fN E s||ar ds)=true):∃a vs,xs[k]? =some (.ref a)∧SqL K H a vs∧RpA K F vs ds:=by
  obtain ⟨v,ev,r,f⟩:=h.look e q
  cases hh:fN E s with
  | false=>
    obtain ⟨a,vs,rfl,h1,h2⟩:=f hh
    exact ⟨a,vs,ev,h1,h2⟩
  | true=>
    rw [hh] at c
    cases r with
    | lst h1 h2=>exact ⟨_,_,ev,h1,h.coldA h2 (by simpa using c)⟩
theorem FrF.res2l {v1 v2:V} {s1 s2:Sl} {vs:List V} (h:FrF K B F A σ H E (v2::v1::xs) (s2::s1::Xs)) (r:RpA K F vs ds) {p:Addr} (hp:H p=none):Frm K B σ (upd H p (.lst vs)) E (.ref p::xs) (.ow ds::Xs):=by
  obtain ⟨A1,h⟩:=h.pop
  obtain ⟨A2,h⟩:=h.pop
  exact ⟨F,_,h.newl r hp⟩
end
abbrev uh (K:PySem.W.Frag):R2:=fun x y H Q=>(∃i j,x= .int i∧y= .int j∧Q (.int (i+j)) H)∨(∃i j,x= .str i∧y= .str j∧i.length+j.length≤sizeLine∧Q (.str (i++j)) H)∨uf K x y H Q
theorem sT {X:Cx}:OpR X (binaryOp .Add) (uh X.K):=OpR.or m_ (OpR.or nj sR)
theorem sU {K:PySem.W.Frag}:gO K (uh K) bO:=by
  intro B F A σ H E xs Xs v1 v2 s1 s2 res E' Q fr e q
  obtain ⟨d1,e1,e⟩:=Option.bind_eq_some_iff.mp e
  obtain ⟨d2,e2,e⟩:=Option.bind_eq_some_iff.mp e
  have r1:=(fr.look1 e1).1
  have r2:=(fr.look0 e2).1
  split at e
  · cases e;cases r1;cases r2
    exact .inl ⟨_,_,rfl,rfl,q _ _ (fr.res2 ⟨rfl,_,rfl, .int _⟩)⟩
  · split at e
    · rename_i hl
      cases e;cases r1;cases r2
      exact .inr (.inl ⟨_,_,rfl,rfl,f7 hl,q _ _ (fr.res2 ⟨rfl,_,rfl, .str _⟩)⟩)
    · cases e
  · split at e
    · rename_i hc
      cases e
      simp only [Bool.and_eq_true,decide_eq_true_eq] at hc
      obtain ⟨a1,u1,x1,q1,i1⟩:=fr.items (k:=1) rfl e1 hc.1.2
      obtain ⟨a2,u2,x2,q2,i2⟩:=fr.items (k:=0) rfl e2 hc.2
      cases x1;cases x2
      have l1:=i1.len
      have l2:=i2.len
      exact .inr (.inr ⟨_,_,_,_,rfl,rfl,q1,q2,f7 (by omega),fun p hp=>q _ _ (fr.res2l (i1.append i2) hp)⟩)
    · cases e
  · cases e
def dt:P2:=eN (f6 (fun _ _=>true) fun i j=> .int (i - j))
def bx:P2:=eN (f6 (fun _ j=>gP j) fun i j=> .int (i / j))
def b8:P2:=eN (f6 (fun _ j=>decide (0 < j)) fun i j=> .int (i % j))
def dQ:P2:=eN (f6 (fun i j=>decide (0≤j∧j≤1000000∧ -(2 ^ 64) < i∧i < 2 ^ 64)) fun i j=> .int (i ^ j.toNat))
section
variable {X:Cx}
theorem sV:OpR X (binaryOp .Sub) (vW (fun _ _=>true) fun i j=> .int (i - j)):=OpR.imp uT fun x y H Q ⟨i,j,a,b,_,q⟩=>⟨i,j,a,b,q⟩
theorem qR:OpR X (binaryOp .FloorDiv) (vW (fun _ j=>gP j) fun i j=> .int (i / j)):=wZ fun i j _ _ _ _ _ hc q=>by
  obtain ⟨h1,h2⟩:=of_decide_eq_true hc
  have h3:j.natAbs.log2 < 9000:=by
    have:j.natAbs < 2 ^ 200:=by omega
    have:=(Nat.log2_lt (n:=j.natAbs) (k:=200) (by omega)).mpr this
    omega
  exact floordiv_int (by omega) (by rw [Int.fdiv_eq_ediv_of_nonneg i (by omega)];exact q) (.inl (PyProof.noPylong_of_log2 h3))
theorem sW:OpR X (binaryOp .Mod) (vW (fun _ j=>decide (0 < j)) fun i j=> .int (i % j)):=OpR.imp uU fun x y H Q ⟨i,j,a,b,c,q⟩=>⟨i,j,a,b,of_decide_eq_true c,q⟩
theorem sX {i j:Int} (c:0≤j∧j≤1000000∧ -(2 ^ 64) < i∧i < 2 ^ 64):wd i j:=⟨c.1,c.2.1,by omega⟩
theorem sY:OpR X (binaryOp .Pow) (vW (fun i j=>decide (0≤j∧j≤1000000∧ -(2 ^ 64) < i∧i < 2 ^ 64)) fun i j=> .int (i ^ j.toNat)):=OpR.imp uV fun x y H Q ⟨i,j,a,b,c,q⟩=>⟨i,j,a,b,sX (of_decide_eq_true c),q⟩
end
def du:P2:=fun E s1 s2=>(look E s1).bind fun d1=>(look E s2).bind fun d2=>match d1,d2 with
  | .int i, .int j=>if fQ i j then some (.sh (.int (i*j)),E) else none
  | .list a, .int k=>if decide (a.length*k.toNat≤1000000∧ -1000000≤k∧k≤1000000)&&(!fN E s1||ar a) then some (.ow (List.replicate k.toNat a).flatten,E) else none
  | _,_=>none
abbrev uk (K:PySem.W.Frag):R2:=fun x y H Q=>vW fQ (fun i j=> .int (i*j)) x y H Q∨ug K x y H Q
theorem sZ {X:Cx}:OpR X (binaryOp .Mult) (uk X.K):=OpR.or (wZ fun _ _ _ _ _ _ _ hc q=>mul_int q (qQ hc)) sS
theorem s_ {K:PySem.W.Frag}:gO K (uk K) du:=by
  intro B F A σ H E xs Xs v1 v2 s1 s2 res E' Q fr e q
  obtain ⟨d1,e1,e⟩:=Option.bind_eq_some_iff.mp e
  obtain ⟨d2,e2,e⟩:=Option.bind_eq_some_iff.mp e
  have r1:=(fr.look1 e1).1
  have r2:=(fr.look0 e2).1
  split at e
  · split at e
    · rename_i hm
      cases e;cases r1;cases r2
      exact .inl ⟨_,_,rfl,rfl,hm,q _ _ (fr.res2 ⟨rfl,_,rfl, .int _⟩)⟩
    · cases e
  · split at e
    · rename_i hc
      cases e
      simp only [Bool.and_eq_true,decide_eq_true_eq] at hc
      obtain ⟨a1,u1,x1,q1,i1⟩:=fr.items (k:=1) rfl e1 hc.2
      cases x1;cases r2
      have l1:=i1.len
      exact .inr ⟨_,_,_,rfl,rfl,q1,by omega,by omega,f7 (by rw [l1];exact hc.1.1),fun p hp=>q _ _ (fr.res2l (i1.rep _) hp)⟩
    · cases e
  · cases e
section
variable {X:Cx} {a b:Expr} {m1 m2:Bool} {f g:aV} {pos:Pos}
theorem cf (ha:EX X a m1 f) (hb:EX X b m2 g):EX X (.BinOp a .Add b pos) (m1||m2) (ad bO m2 f g):=ky sT sU ha hb
theorem gu (ha:EX X a m1 f) (hb:EX X b m2 g):EX X (.BinOp a .Sub b pos) (m1||m2) (ad dt m2 f g):=ky sV (lj fun _ _=>rfl) ha hb
theorem ig (ha:EX X a m1 f) (hb:EX X b m2 g):EX X (.BinOp a .Mult b pos) (m1||m2) (ad du m2 f g):=ky sZ s_ ha hb
theorem eu (ha:EX X a m1 f) (hb:EX X b m2 g):EX X (.BinOp a .FloorDiv b pos) (m1||m2) (ad bx m2 f g):=ky qR (lj fun _ _=>rfl) ha hb
theorem dG (ha:EX X a m1 f) (hb:EX X b m2 g):EX X (.BinOp a .Mod b pos) (m1||m2) (ad b8 m2 f g):=ky sW (lj fun _ _=>rfl) ha hb
theorem iZ (ha:EX X a m1 f) (hb:EX X b m2 g):EX X (.BinOp a .Pow b pos) (m1||m2) (ad dQ m2 f g):=ky sY (lj fun _ _=>rfl) ha hb
end
def xA (K:PySem.W.Frag) (r:V→Hp→VK→Prop) (op:PyData→Option PyData):Prop:=∀(d1 d:PyData) (v1:V) (H:Hp) (Q:VK),op d1=some d→Rp K H v1 d1→∃v,gN d=some v∧(Q v H→r v1 H Q)
def gb (op:PyData→Option PyData) (f:aV):aV:=fun E=>(f E).bind fun a=>(look a.2 a.1).bind fun d1=>(op d1).map fun d=>(.sh d,a.2)
theorem wy {K:PySem.W.Frag} {r:V→Hp→VK→Prop} {op:PyData→Option PyData} (hp:xA K r op) {m:Bool} {f:aV} {σ:iF} {H:Hp} {Q:VK} (h:rd K m (gb op f) σ H Q):rd K m f σ H (fun x H1=>r x H1 Q):=by
  obtain ⟨B,E,xs,Xs,res,E',fr,c,e,q⟩:=h
  obtain ⟨⟨s1,E1⟩,e1,e⟩:=Option.bind_eq_some_iff.mp e
  obtain ⟨d1,e2,e⟩:=Option.bind_eq_some_iff.mp e
  obtain ⟨d,e3,e⟩:=Option.map_eq_some_iff.mp e
  cases e
  refine ⟨B,E,xs,Xs,s1,E1,fr,c,e1,fun v1 H1 ⟨F,A,fr1⟩=>?_⟩
  obtain ⟨v,hv,k⟩:=hp d1 d v1 H1 Q e3 (fr1.look0 e2).1
  obtain ⟨A',fr2⟩:=fr1.pop
  exact k (q v H1 ⟨F,A',fr2.push ⟨rfl,v,rfl,jN hv⟩⟩)
def dZ:PyData→Option PyData
  | .int i=>some (.int (-i))
  | _=>none
def fj:PyData→Option PyData
  | .bool b=>some (.bool (!b))
  | _=>none
section
variable {X:Cx} {a b c:Expr} {m1 m2 m3:Bool} {f g h:aV} {pos:Pos}
theorem lm (ha:EX X a m1 f):EX X (.UnaryOp .USub a pos) m1 (gb dZ f):=dl (on kS ha) fun σ H Q h=>wy (r:=rU fun i=> .int (-i)) (fun d1 d v1 H Q e r=>by
  cases d1 <;> simp [dZ] at e
  cases e;cases r
  exact ⟨_,rfl,fun q=>⟨_,rfl,q⟩⟩) h
end
def pR (d1 d2:PyData):Option Bool:=match d1,d2 with
  | .int i, .int j=>some (decide (i=j))
  | .str a, .str b=>some (decide (a=b))
  | .bool a, .bool b=>some (decide (a=b))
  | .none, .none=>some true
  | .none, .str _=>some false
  | .str _, .none=>some false
  | d1,d2=>if SeqAt.shaped d1&&SeqAt.shaped d2 then some (PyData.eqv d1 d2) else none
def fO:P2:=eN fun d1 d2=>(pR d1 d2).map fun b=> .bool b
def gv:P2:=eN fun d1 d2=>(pR d1 d2).map fun b=> .bool (!b)
abbrev xB (K:PySem.W.Frag):R2:=fun x y H Q=>w_ x y H Q∨wv K x y H Q
abbrev xC (K:PySem.W.Frag):R2:=fun x y H Q=>xS x y H Q∨ww K x y H Q
theorem qS {K:PySem.W.Frag} {H:Hp} {v1 v2:V} {d1 d2:PyData} {b:Bool} (e:pR d1 d2=some b) (r1:Rp K H v1 d1) (r2:Rp K H v2 d2):
    (uW v1 v2=true∧decide (v1=v2)=b)∨(DOf K H v1 d1∧DOf K H v2 d2∧SeqAt.shaped d1=true∧SeqAt.shaped d2=true∧PyData.eqv d1 d2=b):=by
  unfold pR at e
  split at e
  · cases e;cases r1;cases r2;exact .inl ⟨rfl,by simp⟩
  · cases e;cases r1;cases r2;exact .inl ⟨rfl,by simp⟩
  · cases e;cases r1;cases r2;exact .inl ⟨rfl,by simp⟩
  · cases e;cases r1;cases r2;exact .inl ⟨rfl,rfl⟩
  · cases e;cases r1;cases r2;exact .inl ⟨rfl,rfl⟩
  · cases e;cases r1;cases r2;exact .inl ⟨rfl,rfl⟩
  · split at e
    · rename_i hs
      cases e
      simp only [Bool.and_eq_true] at hs
      exact .inr ⟨r1.dof hs.1,r2.dof hs.2,hs.1,hs.2,rfl⟩
    · cases e
theorem qT {K:PySem.W.Frag}:gO K (xB K) fO:=lh fun d1 d2 d v1 v2 H Q e r1 r2=>by
  obtain ⟨b,e',rfl⟩:=Option.map_eq_some_iff.mp e
  refine ⟨_,rfl,fun q=>?_⟩
  rcases qS e' r1 r2 with ⟨a,rfl⟩ | ⟨a1,a2,a3,a4,rfl⟩
  · exact .inl ⟨a,q⟩
  · exact .inr ⟨_,_,a1,a2,a3,a4,q⟩
theorem ve {K:PySem.W.Frag}:gO K (xC K) gv:=lh fun d1 d2 d v1 v2 H Q e r1 r2=>by
  obtain ⟨b,e',rfl⟩:=Option.map_eq_some_iff.mp e
  refine ⟨_,rfl,fun q=>?_⟩
  rcases qS e' r1 r2 with ⟨a,rfl⟩ | ⟨a1,a2,a3,a4,rfl⟩
  · exact .inl ⟨a,q⟩
  · exact .inr ⟨_,_,a1,a2,a3,a4,q⟩
def fm (g:Int→Int→Bool):PyData→PyData→Option PyData:=f6 (fun _ _=>true) fun i j=> .bool (g i j)
def qU (K:PySem.W.Frag) (r:R2) (op:PyData→PyData→Option PyData):Prop:=∀(d1 d2 d:PyData) (v1 v2:V) (H:Hp) (Q:VK),op d1 d2=some d→Rp K H v1 d1→Rp K H v2 d2→∃v,gN d=some v∧(Q v H→r v1 v2 H Q)
def fo (neg:Bool):PyData→PyData→Option PyData
  | d, .none=>some (.bool (match d with | .none=> !neg | _=>neg))
  | _,_=>none
def a9 (op op':PyData→PyData→Option PyData) (m2 m3:Bool) (f g h:aV):aV:=fun E=>(f E).bind fun a=>if (m2||m3)&&a.1.isBr then none else (g a.2).bind fun b=>if m3&&b.1.isBr then none else
  (look b.2 a.1).bind fun d1=>(look b.2 b.1).bind fun d2=>match op d1 d2 with
    | some (.bool true)=>(h b.2).bind fun c=>(look c.2 b.1).bind fun d2=>(look c.2 c.1).bind fun d3=>(op' d2 d3).map fun d=>(.sh d,c.2)
    | some (.bool false)=>some (.sh (.bool false),b.2)
    | _=>none
section
variable {X:Cx} {a b c:Expr} {m1 m2 m3:Bool} {f g h:aV} {pos:Pos}
theorem ul (hu:X.A.units+64 < cLine) (ha:EX X a m1 f) (hb:EX X b m2 g):EX X (.Compare a [.Eq] [b] pos) (m1||m2) (ad fO m2 f g):=vc (OpR.or kh (qI hu)) qT ha hb (gK _)
theorem iG (hu:X.A.units+64 < cLine) (ha:EX X a m1 f) (hb:EX X b m2 g):TX X (.Compare a [.Eq] [b] pos) (m1||m2) (dr (ad fO m2 f g)):=nH (OpR.or kh (qI hu)) qT ha hb (gK _)
theorem qV (hu:X.A.units+64 < cLine) (ha:EX X a m1 f) (hb:EX X b m2 g):TX X (.Compare a [.NotEq] [b] pos) (m1||m2) (dr (ad gv m2 f g)):=nH (OpR.or we (u6 hu)) ve ha hb (gK _)
theorem qW {K:PySem.W.Frag} {r r':R2} {op op':PyData→PyData→Option PyData} (k:qU K r op) (k':qU K r' op') {σ:iF} {H:Hp} {Q:VK} (z:rd K (m1||(m2||m3)) (a9 op op' m2 m3 f g h) σ H Q):qz r r' (rd K m1 f) (rd K m2 g) (rd K m3 h) σ H Q:=by
  obtain ⟨B,E,xs,Xs,res,E',fr,cl,e,q⟩:=z
  obtain ⟨⟨s1,E1⟩,e1,e⟩:=Option.bind_eq_some_iff.mp e
  by_cases hb:((m2||m3)&&s1.isBr)=true
  · rw [if_pos hb] at e;cases e
  rw [if_neg hb] at e
  obtain ⟨⟨s2,E2⟩,e2,e⟩:=Option.bind_eq_some_iff.mp e
  by_cases hb2:(m3&&s2.isBr)=true
  · rw [if_pos hb2] at e;cases e
  rw [if_neg hb2] at e
  obtain ⟨d1,l1,e⟩:=Option.bind_eq_some_iff.mp e
  obtain ⟨d2,l2,e⟩:=Option.bind_eq_some_iff.mp e
  have n1:(m2||m3)=true→s1.isBr=false:=fun z=>by
    cases hs:s1.isBr with
    | false=>rfl
    | true=>exact absurd (by rw [z,hs];rfl) hb
  have n2:m3=true→s2.isBr=false:=fun z=>by
    cases hs:s2.isBr with
    | false=>rfl
    | true=>exact absurd (by rw [z,hs];rfl) hb2
  refine ⟨B,E,xs,Xs,s1,E1,fr,fun z=>cl (by simp [z]),e1,fun v1 H1 fr1=>?_⟩
  refine ⟨B,E1,v1::xs,s1::Xs,s2,E2,fr1,fun z=>Calm.cons (cl (by simp [z])) (n1 (by simp [z])),e2,fun v2 H2 ⟨F,A,fr2⟩=>?_⟩
  cases ho:op d1 d2 with
  | none=>rw [ho] at e;cases e
  | some d=>
    rw [ho] at e
    obtain ⟨v,hv,kk⟩:=k d1 d2 d v1 v2 H2 (fun z H3=>∃k,z= .bl k∧(if k=true then rd K m3 h σ H3 fun w' H4=>r' v2 w' H4 Q else Q (.bl false) H3)) ho (fr2.look1 l1).1 (fr2.look0 l2).1
    cases d with
    | bool t=>
      cases hv
      refine kk ⟨t,rfl,?_⟩
      cases t with
      | true=>
        rw [if_pos rfl]
        obtain ⟨⟨s3,E3⟩,e3,e⟩:=Option.bind_eq_some_iff.mp e
        obtain ⟨d2',l2',e⟩:=Option.bind_eq_some_iff.mp e
        obtain ⟨d3,l3,e⟩:=Option.bind_eq_some_iff.mp e
        obtain ⟨d,ho',e⟩:=Option.map_eq_some_iff.mp e
        cases e
        refine ⟨B,E2,v2::v1::xs,s2::s1::Xs,s3,E3,⟨F,A,fr2⟩,fun z=>Calm.cons (Calm.cons (cl (by simp [z])) (n1 (by simp [z]))) (n2 z),e3,fun v3 H3 ⟨F3,A3,fr3⟩=>?_⟩
        obtain ⟨v,hv,kk⟩:=k' d2' d3 d v2 v3 H3 Q ho' (fr3.look1 l2').1 (fr3.look0 l3).1
        obtain ⟨A4,fr4⟩:=fr3.pop
        exact kk (q v H3 (fr4.res2 ⟨rfl,v,rfl,jN hv⟩))
      | false=>
        rw [if_neg (by decide)]
        cases e
        exact q _ _ (fr2.res2 ⟨rfl,_,rfl, .bl _⟩)
    | none=>cases e
    | int i=>cases e
    | str x=>cases e
    | list xs=>cases e
    | tuple xs=>cases e
    | dict kvs=>cases e
end
end PL
namespace PL
open PySem L2 Nh
def cq (f g:aV):aV:=fun E=>(f E).bind fun a=>match a.1 with
  | .sh (.bool true)=>g a.2
  | .sh (.bool false)=>some (.sh (.bool false),a.2)
  | _=>none
def fq (f g:aV):aV:=fun E=>(f E).bind fun a=>match a.1 with
  | .sh (.bool true)=>some (.sh (.bool true),a.2)
  | .sh (.bool false)=>g a.2
  | _=>none
def bS (f g:iE):iE:=fun E=>(f E).bind fun a=>if a.1 then g a.2 else some (false,a.2)
def dm (f g:iE):iE:=fun E=>(f E).bind fun a=>if a.1 then some (true,a.2) else g a.2
def bC (f:iE):iE:=fun E=>(f E).map fun a=>(!a.1,a.2)
def jk (c:iE) (f g:aV):aV:=fun E=>(c E).bind fun a=>if a.1 then f a.2 else g a.2
def d0:PyData→Option Bool
  | .none=>some false
  | .bool b=>some b
  | .int i=>some (i != 0)
  | .str x=>if x.length≤1000000 then some ((x.length:Int) != 0) else none
  | .list xs=>some (!xs.isEmpty)
  | .tuple xs=>some (!xs.isEmpty)
  | .dict _=>none
def cJ (f:aV):iE:=fun E=>(f E).bind fun a=>match a.1 with
  | .al i=>match a.2[i]? with
    | some (.od kvs)=>some (!kvs.isEmpty,a.2)
    | some s=>(s.val.bind d0).map fun b=>(b,a.2)
    | none=>none
  | s=>(s.val.bind d0).map fun b=>(b,a.2)
section
variable {X:Cx} {a b c:Expr} {ce:List Expr} {m1 m2 m3:Bool} {f g h:aV} {t u:iE} {pos:Pos} {K:PySem.W.Frag}
theorem vf {op} (h:EX X a m1 f):EX X (.BoolOp op [a] pos) m1 f:=uN h
theorem vg (ha:EX X a m1 f) (hb:EX X (.BoolOp .And (b::ce) pos) m2 g):EX X (.BoolOp .And (a::b::ce) pos) (m1||m2) (cq f g):=by
  refine dl (uO ha hb) fun σ H Q z=>?_
  obtain ⟨B,E,xs,Xs,res,E',fr,cl,e,q⟩:=z
  obtain ⟨⟨s1,E1⟩,e1,e⟩:=Option.bind_eq_some_iff.mp e
  refine ⟨B,E,xs,Xs,s1,E1,fr,fun z=>cl (by simp [z]),e1,fun v1 H1 ⟨F,A,fr1⟩=>?_⟩
  simp only at e
  split at e
  · obtain ⟨r,_⟩:=fr1.look0 (d:= .bool true) rfl
    cases r
    obtain ⟨A',fr2⟩:=fr1.pop
    exact ⟨true,rfl,(if_pos rfl).mpr ⟨B,E1,xs,Xs,res,E',⟨F,A',fr2⟩,fun z=>cl (by simp [z]),e,q⟩⟩
  · cases e
    obtain ⟨r,_⟩:=fr1.look0 (d:= .bool false) rfl
    cases r
    exact ⟨false,rfl,(if_neg (by decide)).mpr (q _ _ ⟨F,A,fr1⟩)⟩
  · cases e
theorem ln (ha:TX X a m1 t):WX X (.BoolOp .And [a] pos) m1 t:=kP ha
theorem jO (ha:TX X a m1 t):WX X (.BoolOp .Or [a] pos) m1 t:=uL ha
theorem nI (ha:TX X a m1 t) (hb:WX X (.BoolOp .And (b::ce) pos) m2 u):WX X (.BoolOp .And (a::b::ce) pos) (m1||m2) (bS t u):=by
  refine qO (m6 ha hb) fun σ H Q z=>?_
  obtain ⟨B,E,xs,Xs,res,E',fr,cl,e,q⟩:=z
  obtain ⟨⟨b1,E1⟩,e1,e⟩:=Option.bind_eq_some_iff.mp e
  refine ⟨B,E,xs,Xs,b1,E1,fr,fun z=>cl (by simp [z]),e1,fun H1 fr1=>?_⟩
  cases b1 with
  | true=>exact (if_pos rfl).mpr ⟨B,E1,xs,Xs,res,E',fr1,fun z=>cl (by simp [z]),e,q⟩
  | false=>cases e;exact (if_neg (by decide)).mpr (q _ fr1)
theorem kz (ha:TX X a m1 t) (hb:WX X (.BoolOp .Or (b::ce) pos) m2 u):WX X (.BoolOp .Or (a::b::ce) pos) (m1||m2) (dm t u):=by
  refine qO (v6 ha hb) fun σ H Q z=>?_
  obtain ⟨B,E,xs,Xs,res,E',fr,cl,e,q⟩:=z
  obtain ⟨⟨b1,E1⟩,e1,e⟩:=Option.bind_eq_some_iff.mp e
  refine ⟨B,E,xs,Xs,b1,E1,fr,fun z=>cl (by simp [z]),e1,fun H1 fr1=>?_⟩
  cases b1 with
  | true=>cases e;exact (if_pos rfl).mpr (q _ fr1)
  | false=>exact (if_neg (by decide)).mpr ⟨B,E1,xs,Xs,res,E',fr1,fun z=>cl (by simp [z]),e,q⟩
theorem ms (h:WX X a m1 t):TX X a m1 t:=PW.pt h
theorem ii (ha:TX X a m1 t):TX X (.UnaryOp .Not a pos) m1 (bC t):=by
  refine jM (uM ha) fun σ H Q z=>?_
  obtain ⟨B,E,xs,Xs,res,E',fr,cl,e,q⟩:=z
  obtain ⟨⟨b1,E1⟩,e1,e⟩:=Option.map_eq_some_iff.mp e
  cases e
  exact ⟨B,E,xs,Xs,b1,E1,fr,cl,e1,fun H1 fr1=>q _ fr1⟩
theorem vh {H:Hp} {v:V} {d:PyData} {b:Bool} (r:Rp K H v d) (e:d0 d=some b):nh K v H b:=by
  cases r with
  | non=>cases e;rfl
  | bl b=>cases e;rfl
  | int i=>cases e;rfl
  | str x=>
    simp only [d0] at e
    split at e
    · rename_i hl
      cases e
      exact ⟨f7 hl,rfl⟩
    · cases e
  | lst h r=>cases e;exact .inl ⟨_,h,by cases r <;> rfl⟩
  | tup h r=>cases e;exact .inr (.inl ⟨_,h,by cases r <;> rfl⟩)
  | dct h r=>cases e
theorem ij (ha:EX X a m1 f) (he:∀whole,isTrue a X.env whole=(do let v ←whole;standAt a.pos;holding [v] (truthy v)):=by exact fun _=>rfl):TX X a m1 (cJ f):=by
  refine jM (gL ha he) fun σ H Q z=>?_
  obtain ⟨B,E,xs,Xs,res,E',fr,cl,e,q⟩:=z
  obtain ⟨⟨s,E1⟩,e1,e⟩:=Option.bind_eq_some_iff.mp e
  refine ⟨B,E,xs,Xs,s,E1,fr,cl,e1,fun v1 H1 ⟨F,A,fr1⟩=>?_⟩
  have key:∀d,look E1 s=some d→(d0 d).map (fun b=>(b,E1))=some (res,E')→∃k,nh X.K v1 H1 k∧Q k H1:=fun d l e=>by
    obtain ⟨b,e',z⟩:=Option.map_eq_some_iff.mp e
    cases z
    obtain ⟨A',fr2⟩:=fr1.pop
    exact ⟨_,vh (fr1.look0 l).1 e',q _ ⟨F,A',fr2⟩⟩
  have kv:(s.val.bind d0).map (fun b=>(b,E1))=some (res,E')→(∀i,s≠ .al i)→∃k,nh X.K v1 H1 k∧Q k H1:=fun e na=>by
    obtain ⟨b,e',z⟩:=Option.map_eq_some_iff.mp e
    obtain ⟨d,e1,e2⟩:=Option.bind_eq_some_iff.mp e'
    refine key d ?_ (by rw [e2];exact congrArg some z)
    cases s <;> first | exact e1 | exact absurd rfl (na _)
  simp only at e
  split at e
  · rename_i i
    split at e
    · rename_i kvs ei
      cases e
      obtain ⟨v',A1,ev,rfl,w,ew,hw⟩:=fr1.ext (k:=0) rfl
      cases ev;cases ew
      obtain ⟨o,A1,eo,l,us,A2,rfl,_,hl,r⟩:=fr1.var ei
      rw [hw] at eo
      cases eo
      obtain ⟨A',fr2⟩:=fr1.pop
      exact ⟨_, .inr (.inr ⟨_,hl,by cases us <;> cases kvs <;> first | rfl | exact False.elim r⟩),q _ ⟨F,A',fr2⟩⟩
    · rename_i s' _ ei
      obtain ⟨b,e',z⟩:=Option.map_eq_some_iff.mp e
      obtain ⟨d,e1,e2⟩:=Option.bind_eq_some_iff.mp e'
      exact key d (by simp [look,ei,e1]) (by rw [e2];exact congrArg some z)
    · cases e
  · rename_i na
    exact kv e na
end
theorem qX {X:Cx} {a b c:Expr} {m1 m2 m3:Bool} {f g h:aV} {pos:Pos} {o1 o2:CmpOp} {r r':R2} {op op':PyData→PyData→Option PyData} (ho:OpR X (compareOp o1) r) (ho':OpR X (compareOp o2) r') (k:qU X.K r op) (k':qU X.K r' op') (ha:EX X a m1 f) (hb:EX X b m2 g) (hc:EX X c m3 h)
    (hm:lastMarks [o1,o2] [b,c]=false:=by with_unfolding_all rfl):TX X (.Compare a [o1,o2] [b,c] pos) (m1||(m2||m3)) (dr (a9 op op' m2 m3 f g h)):=jM (qA ho ho' ha hb hc hm) fun _ _ _ z=>qW k k' (qP z)
def aF:kx:=fun E=>some ([],E)
def af (m2:Bool) (f:aV) (g:kx):kx:=fun E=>(f E).bind fun a=>if m2&&a.1.isBr then none else (g a.2).map fun b=>(a.1::b.1,b.2)
def bG:iY:=fun E=>some ([],E)
def aJ (f:aV) (g:iY):iY:=fun E=>(f E).bind fun a=>(frz a.2 a.1).bind fun b=>(g b.2).map fun c=>(b.1::c.1,c.2)
def dO (f:iY):aV:=fun E=>(f E).bind fun a=>if a.1.length≤1000000 then some (.sh (.tuple a.1),a.2) else none
def ca (f:iY):aV:=fun E=>(f E).bind fun a=>if a.1.length≤1000000 then some (.ow a.1,a.2) else none
section
variable {X:Cx} {e:Expr} {es:List Expr} {m1 m2:Bool} {f:aV} {g:kx} {d:iY} {pos:Pos} {K:PySem.W.Frag}
theorem bw:AX X [] false aF:=by
  refine k_ bP fun σ H Q z=>?_
  obtain ⟨B,E,xs,Xs,res,E',fr,cl,e,q⟩:=z
  cases e
  exact q [] H rfl fr
theorem ak (ha:EX X e m1 f) (hr:AX X es m2 g) (hs:starEach (e::es) X.env=(false,eval e X.env)::starEach es X.env:=by rfl):AX X (e::es) (m1||m2) (af m2 f g):=by
  refine k_ (be ha hr hs) fun σ H Q z=>?_
  obtain ⟨B,E,xs,Xs,res,E',fr,cl,e,q⟩:=z
  obtain ⟨⟨s,E1⟩,e1,e⟩:=Option.bind_eq_some_iff.mp e
  by_cases hb:(m2&&s.isBr)=true
  · rw [if_pos hb] at e;cases e
  rw [if_neg hb] at e
  obtain ⟨⟨rs,E2⟩,e2,e⟩:=Option.map_eq_some_iff.mp e
  cases e
  refine ⟨B,E,xs,Xs,s,E1,fr,fun z=>cl (by simp [z]),e1,fun v1 H1 fr1=>?_⟩
  refine ⟨B,E1,v1::xs,s::Xs,rs,E2,fr1,fun z=>Calm.cons (cl (by simp [z])) ?_,e2,fun vs H2 hl fr2=>?_⟩
  · cases hs:s.isBr with
    | false=>rfl
    | true=>exact absurd (by simp [z,hs]) hb
  · exact q (v1::vs) H2 (by simp [hl]) (by simpa using fr2)
theorem dR:DX X [] false bG:=by
  refine k_ bP fun σ H Q z=>?_
  obtain ⟨B,E,xs,Xs,res,E',fr,cl,e,q⟩:=z
  cases e
  exact q [] H rfl fr
theorem cg (ha:EX X e m1 f) (hr:DX X es m2 d) (hs:starEach (e::es) X.env=(false,eval e X.env)::starEach es X.env:=by rfl):DX X (e::es) (m1||m2) (aJ f d):=by
  refine k_ (be ha hr hs) fun σ H Q z=>?_
  obtain ⟨B,E,xs,Xs,res,E',fr,cl,e,q⟩:=z
  obtain ⟨⟨s,E1⟩,e1,e⟩:=Option.bind_eq_some_iff.mp e
  obtain ⟨⟨d1,E2⟩,e2,e⟩:=Option.bind_eq_some_iff.mp e
  obtain ⟨⟨rs,E3⟩,e3,e⟩:=Option.map_eq_some_iff.mp e
  cases e
  refine ⟨B,E,xs,Xs,s,E1,fr,fun z=>cl (by simp [z]),e1,fun v1 H1 ⟨F,A,fr1⟩=>?_⟩
  obtain ⟨F2,A2,fr2⟩:=fr1.frz0 e2
  refine ⟨B,E2,v1::xs, .sh d1::Xs,rs,E3,⟨F2,A2,fr2⟩,fun z=>Calm.cons (cl (by simp [z])) rfl,e3,fun vs H2 hl fr2=>?_⟩
  exact q (v1::vs) H2 (by simp [hl]) (by simpa using fr2)
theorem FrF.shsR {B F:Hp} {σ:iF} {H:Hp} {E:List Sl} {xs:List V} {Xs:List Sl}:∀{us:List V} {es:List PyData} {A:List Addr},us.length=es.length→FrF K B F A σ H E (us++xs) (es.map .sh++Xs)→RpA K F us es∧∃A',FrF K B F A' σ H E xs Xs
  | [],[],A,_,h=>⟨.nil,A,h⟩
  | u::us,e::es,A,hl,h=>by
    obtain ⟨v,A1,ev,rfl,w,ew,r⟩:=h.ext (k:=0) rfl
    cases ev;cases ew
    obtain ⟨A',h'⟩:=FrF.pop (xs:=us++xs) (Xs:=es.map .sh++Xs) h
    obtain ⟨r',q⟩:=FrF.shsR (by simpa using hl) h'
    exact ⟨.cons r r',q⟩
  | [],_::_,_,e,_=>by cases e
  | _::_,[],_,e,_=>by cases e
theorem FrF.shs {B F:Hp} {σ:iF} {H:Hp} {E:List Sl} {xs:List V} {Xs:List Sl} {us:List V} {es:List PyData} {A:List Addr} (hl:us.length=es.length) (h:FrF K B F A σ H E (us.reverse++xs) (es.reverse.map .sh++Xs)):RpA K F us es∧∃A',FrF K B F A' σ H E xs Xs:=by
  obtain ⟨r,q⟩:=FrF.shsR (by simpa using hl) h
  have:=r.rev
  rw [List.reverse_reverse,List.reverse_reverse] at this
  exact ⟨this,q⟩
theorem io {x1} (h:DX X es m1 d):EX X (.Tuple es x1 pos) m1 (dO d):=by
  refine dl (nk h) fun σ H Q z=>?_
  obtain ⟨B,E,xs,Xs,res,E',fr,cl,e,q⟩:=z
  obtain ⟨⟨ds,E1⟩,e1,e⟩:=Option.bind_eq_some_iff.mp e
  simp only at e
  split at e
  · rename_i hl
    cases e
    refine ⟨B,E,xs,Xs,ds,_,fr,cl,e1,fun vs H1 hv ⟨F,A,fr1⟩=>?_⟩
    obtain ⟨r,A',fr2⟩:=fr1.shs hv
    exact ⟨f7 (by omega),fun p hp=>q _ _ ⟨_,_,fr2.newt r hp⟩⟩
  · cases e
theorem f8 (h:DX X es m1 d):EX X (.List es pos) m1 (ca d):=by
  refine dl (h8 h) fun σ H Q z=>?_
  obtain ⟨B,E,xs,Xs,res,E',fr,cl,e,q⟩:=z
  obtain ⟨⟨ds,E1⟩,e1,e⟩:=Option.bind_eq_some_iff.mp e
  simp only at e
  split at e
  · rename_i hl
    cases e
    refine ⟨B,E,xs,Xs,ds,_,fr,cl,e1,fun vs H1 hv ⟨F,A,fr1⟩=>?_⟩
    obtain ⟨r,A',fr2⟩:=fr1.shs hv
    exact ⟨f7 (by omega),fun p hp=>q _ _ ⟨_,_,fr2.newl r hp⟩⟩
  · cases e
end
def lq (ds:List PyData) (lo hi:Option Int):List PyData:=(ds.drop (HT.iQ ds.length 0 lo)).take (HT.iQ ds.length ds.length hi - HT.iQ ds.length 0 lo)
def dY:P2:=fun E s1 s2=>(look E s1).bind fun d1=>(look E s2).bind fun d2=>match d2 with
  | .int i=>match d1 with
    | .list ds=>(atI ds i).map fun d=>(if fN E s1&& !b7 d then .br d else .sh d,E)
    | .tuple ds=>(atI ds i).map fun d=>(if fN E s1&& !b7 d then .br d else .sh d,E)
    | .str z=>if z.length≤1000000 then (atI z.cps.toList i).map fun c=>(.sh (.str ⟨#[c]⟩),E) else none
    | _=>none
  | _=>none
section
variable {K:PySem.W.Frag} {H:Hp}
theorem RpA.atI {vs:List V} {ds:List PyData} {i:Int} {d:PyData} (h:RpA K H vs ds) (e:L2.atI ds i=some d):∃v,L2.atI vs i=some v∧Rp K H v d:=by
  unfold L2.atI at e ⊢
  obtain ⟨j,e1,e2⟩:=Option.bind_eq_some_iff.mp e
  obtain ⟨v,ev,r⟩:=h.get e2
  exact ⟨v,by rw [h.len,e1];exact ev,r⟩
theorem FrF.item {B F:Hp} {A:List Addr} {σ:iF} {E:List Sl} {xs:List V} {Xs:List Sl} {v1 v2 v:V} {s1 s2:Sl} {d:PyData} (fr:FrF K B F A σ H E (v2::v1::xs) (s2::s1::Xs)) (r:Rp K H v d) (f:fN E s1=false→Rp K F v d):
    Frm K B σ H E (v::xs) ((if fN E s1&& !b7 d then .br d else .sh d)::Xs):=by
  by_cases hc:(fN E s1&& !b7 d)=true
  · rw [if_pos hc]
    exact fr.res2 ⟨rfl,v,rfl,r⟩
  · rw [if_neg hc]
    refine fr.res2 ⟨rfl,v,rfl,?_⟩
    cases hh:fN E s1 with
    | false=>exact f hh
    | true=>
      rw [hh] at hc
      exact fr.cold r (by simpa using hc)
theorem vi:gO K (xT K) dY:=by
  intro B F A σ H E xs Xs v1 v2 s1 s2 res E' Q fr e q
  obtain ⟨d1,e1,e⟩:=Option.bind_eq_some_iff.mp e
  obtain ⟨d2,e2,e⟩:=Option.bind_eq_some_iff.mp e
  obtain ⟨r1,f1⟩:=fr.look1 e1
  have r2:=(fr.look0 e2).1
  split at e
  · cases r2
    split at e
    · obtain ⟨d,ed,e⟩:=Option.map_eq_some_iff.mp e
      cases e
      cases hh:fN E s1 with
      | false=>
        obtain ⟨a,vs,rfl,h1,h2⟩:=f1 hh
        obtain ⟨v,ev,rv⟩:=h2.atI ed
        have z:=fr.item (rv.same fr.fh) fun _=>rv
        rw [hh] at z q
        exact .inl ⟨_,_,_,v,rfl,rfl,h1,ev,q _ _ z⟩
      | true=>
        cases r1 with
        | lst h1 h2=>
          obtain ⟨v,ev,rv⟩:=h2.atI ed
          have z:=fr.item rv fun h=>absurd (hh.symm.trans h) (by decide)
          rw [hh] at z q
          exact .inl ⟨_,_,_,v,rfl,rfl,h1,ev,q _ _ z⟩
    · obtain ⟨d,ed,e⟩:=Option.map_eq_some_iff.mp e
      cases e
      cases hh:fN E s1 with
      | false=>
        have h0:Rp K F v1 _:=f1 hh
        cases h0 with
        | tup h1 h2=>
          obtain ⟨v,ev,rv⟩:=h2.atI ed
          have z:=fr.item (rv.same fr.fh) fun _=>rv
          rw [hh] at z q
          exact .inr (.inl ⟨_,_,_,v,rfl,rfl,fr.fh.tup h1,ev,q _ _ z⟩)
      | true=>
        cases r1 with
        | tup h1 h2=>
          obtain ⟨v,ev,rv⟩:=h2.atI ed
          have z:=fr.item rv fun h=>absurd (hh.symm.trans h) (by decide)
          rw [hh] at z q
          exact .inr (.inl ⟨_,_,_,v,rfl,rfl,h1,ev,q _ _ z⟩)
    · split at e
      · rename_i hl
        obtain ⟨c,ec,e⟩:=Option.map_eq_some_iff.mp e
        cases e;cases r1
        exact .inr (.inr ⟨_,_,c,rfl,rfl,f7 hl,ec,q _ _ (fr.res2 ⟨rfl,_,rfl, .str _⟩)⟩)
      · cases e
    · cases e
  · cases e
end
end PL
namespace L2
open PySem PySem.Spec PyProof.Rows
section
variable {κ:Type} [DecidableEq κ]
def hJ (kvs:List (κ×V)) (k:κ):Option V:=(kvs.find? fun kv=>decide (kv.1=k)).map (·.2)
def iH (kvs:List (κ×V)) (k:κ) (v:V):List (κ×V):=
  if (kvs.any fun kv=>decide (kv.1=k))=true then kvs.map (fun kv=>if kv.1=k then (kv.1,v) else kv) else kvs++[(k,v)]
def um (kvs:List (κ×V)) (k:κ):List (κ×V):=kvs.filter fun kv=>decide (kv.1≠k)
theorem iI {p:κ×V} {r:List (κ×V)} {k:κ} (e:p.1=k):hJ (p::r) k=some p.2:=by simp [hJ,List.find?_cons,e]
theorem gQ {p:κ×V} {r:List (κ×V)} {k:κ} (e:¬p.1=k):hJ (p::r) k=hJ r k:=by simp [hJ,List.find?_cons,e]
theorem mv (k:κ):∀kvs:List (κ×V),(kvs.any fun kv=>decide (kv.1=k))=(hJ kvs k).isSome
  | []=>rfl
  | p::r=>by
    rw [List.any_cons]
    by_cases e:p.1=k
    · simp only [iI e,decide_eq_true e,Bool.true_or,Option.isSome_some]
    · rw [gQ e,decide_eq_false e,Bool.false_or];exact mv k r
theorem jl (kvs:List (κ×V)) (k:κ) (v:V):(iH kvs k v).length≤kvs.length+1:=by
  unfold iH
  split
  · rw [List.length_map];omega
  · rw [List.length_append,List.length_cons,List.length_nil];omega
theorem RelO.isSome_eq {o:Option V} {u:Option Value} (r:RelO o u):o.isSome=u.isSome:=by
  cases o with
  | none=>cases u with
    | none=>rfl
    | some _=>exact (show False from r).elim
  | some _=>cases u with
    | none=>exact (show False from r).elim
    | some _=>rfl
theorem RelO.getD {o:Option V} {u:Option Value} {d:V} {d':Value} (r:RelO o u) (rd:RelV d d'):RelV (o.getD d) (u.getD d'):=by
  cases o with
  | none=>cases u with
    | none=>exact rd
    | some _=>exact (show False from r).elim
  | some _=>cases u with
    | none=>exact (show False from r).elim
    | some _=>exact r
theorem KV.val {kvs:List (κ×V)} {vs:List (κ×Value)} (r:KV kvs vs) (k:κ):RelO (hJ kvs k) (valueAt vs k):=by
  unfold KV at r
  induction r with
  | nil=>exact True.intro
  | @cons p q ps qs h t ih=>
    obtain ⟨h1,h2⟩:=h
    by_cases e:p.1=k
    · have e':q.1=k:=h1.symm.trans e
      have b:valueAt (q::qs) k=some q.2:=by simp [valueAt,List.find?_cons,e']
      rw [iI e,b];exact h2
    · have e':¬q.1=k:=fun z=>e (h1.trans z)
      have b:valueAt (q::qs) k=valueAt qs k:=by simp [valueAt,List.find?_cons,e']
      rw [gQ e,b];exact ih
theorem KV.any {kvs:List (κ×V)} {vs:List (κ×Value)} (r:KV kvs vs) (k:κ):(kvs.any fun kv=>decide (kv.1=k))=vs.any fun kv=>decide (kv.1=k):=by
  unfold KV at r
  induction r with
  | nil=>rfl
  | cons h t ih=>rw [List.any_cons,List.any_cons,ih,h.1]
theorem KV.repl {kvs:List (κ×V)} {vs:List (κ×Value)} (r:KV kvs vs) (k:κ) {y:V} {u:Value} (ry:RelV y u):
    KV (kvs.map fun kv=>if kv.1=k then (kv.1,y) else kv) (vs.map fun kv=>if kv.1=k then (kv.1,u) else kv):=by
  unfold KV at r ⊢
  induction r with
  | nil=>exact .nil
  | @cons p q ps qs h t ih=>
    rw [List.map_cons,List.map_cons]
    refine .cons ?_ ih
    obtain ⟨h1,h2⟩:=h
    by_cases e:p.1=k
    · rw [if_pos e,if_pos (h1.symm.trans e)];exact ⟨h1,ry⟩
    · rw [if_neg e,if_neg (fun z=>e (h1.trans z))];exact ⟨h1,h2⟩
theorem KV.put {kvs:List (κ×V)} {vs:List (κ×Value)} (r:KV kvs vs) (k:κ) {y:V} {u:Value} (ry:RelV y u):KV (iH kvs k y) (stored vs k u):=by
  unfold iH stored
  rw [r.any k]
  by_cases e:(vs.any fun kv=>decide (kv.1=k))=true
  · rw [if_pos e,if_pos e];exact r.repl k ry
  · rw [if_neg e,if_neg e];exact Paired.snoc r ⟨rfl,ry⟩
theorem KV.drop {kvs:List (κ×V)} {vs:List (κ×Value)} (r:KV kvs vs) (k:κ):KV (um kvs k) (without vs k):=by
  unfold KV at r ⊢
  unfold um without
  induction r with
  | nil=>exact .nil
  | @cons p q ps qs h t ih=>
    obtain ⟨h1,h2⟩:=h
    rw [List.filter_cons,List.filter_cons]
    by_cases e:p.1=k
    · have a:¬decide (p.1≠k)=true:=by simp [e]
      have b:¬decide (q.1≠k)=true:=by simp [h1.symm.trans e]
      rw [if_neg a,if_neg b];exact ih
    · have e':¬q.1=k:=fun z=>e (h1.trans z)
      have a:decide (p.1≠k)=true:=by simp [e]
      have b:decide (q.1≠k)=true:=by simp [e']
      rw [if_pos a,if_pos b];exact .cons ⟨h1,h2⟩ ih
theorem KV.keys {kvs:List (κ×V)} {vs:List (κ×Value)} (r:KV kvs vs):kvs.map (·.1)=vs.map (·.1):=by
  unfold KV at r
  induction r with
  | nil=>rfl
  | cons h t ih=>rw [List.map_cons,List.map_cons,ih,h.1]
theorem KV.length {kvs:List (κ×V)} {vs:List (κ×Value)} (r:KV kvs vs):kvs.length=vs.length:=Paired.length r
end
theorem oI {P:Program} {w:World} {k:bN} {u:Value} (r:RelV (kV k) u):(cK P w).is k u=true:=by
  cases k with
  | inl i=>obtain ⟨t,e⟩:=(show ∃t,u=Value.int i t from r);subst e;exact l6 P w i t
  | inr x=>obtain ⟨t,e⟩:=(show ∃t,u=Value.str x t from r);subst e;exact l7 P w x t
theorem kA {P:Program} {w:World}:∀{ks:List bN} {us:List Value},Vals (ks.map kV) us→ItemsAre (cK P w) ks us
  | [],_,r=>by rw [List.map_nil] at r;cases r;exact .nil
  | k::ks,_,r=>by
    rw [List.map_cons] at r
    cases r with
    | cons h t=>exact .cons (oI h) (kA t)
abbrev KT (H:Hp):List (List bN×V)→List (List bN×Addr×Value)→Prop:=Paired fun p q=>p.1=q.1∧H q.2.1=some (.tup (p.1.map kV))∧RelV p.2 q.2.2
theorem KT.val {H:Hp} {kvs:List (List bN×V)} {xs:List (List bN×Addr×Value)} (r:KT H kvs xs) (k:List bN):RelO (hJ kvs k) ((atKey xs k).map (·.2)):=by
  induction r with
  | nil=>exact True.intro
  | @cons p q ps qs h t ih=>
    obtain ⟨h1,_,h2⟩:=h
    by_cases e:p.1=k
    · have e':q.1=k:=h1.symm.trans e
      have b:atKey (q::qs) k=some q.2:=by simp [atKey,List.find?_cons,e']
      rw [iI e,b];exact h2
    · have e':¬q.1=k:=fun z=>e (h1.trans z)
      have b:atKey (q::qs) k=atKey qs k:=by simp [atKey,List.find?_cons,e']
      rw [gQ e,b];exact ih
theorem KT.repl {H:Hp} {kvs:List (List bN×V)} {xs:List (List bN×Addr×Value)} (r:KT H kvs xs) (k:List bN) {y:V} {u:Value} (ry:RelV y u):
    KT H (kvs.map fun kv=>if kv.1=k then (kv.1,y) else kv) (xs.map (putAt k u)):=by
  induction r with
  | nil=>exact .nil
  | @cons p q ps qs h t ih=>
    rw [List.map_cons,List.map_cons]
    refine .cons ?_ ih
    obtain ⟨h1,h2,h3⟩:=h
    unfold putAt
    by_cases e:p.1=k
    · rw [if_pos e,if_pos (h1.symm.trans e)];exact ⟨h1,h2,ry⟩
    · rw [if_neg e,if_neg (fun z=>e (h1.trans z))];exact ⟨h1,h2,h3⟩
theorem KT.put {H:Hp} {kvs:List (List bN×V)} {xs:List (List bN×Addr×Value)} (r:KT H kvs xs) (k:List bN) {b:Addr} {y:V} {u:Value} (hb:H b=some (.tup (k.map kV))) (ry:RelV y u):
    KT H (iH kvs k y) (storedH xs k b u):=by
  have e:(kvs.any fun kv=>decide (kv.1=k))=(atKey xs k).isSome:=by
    rw [mv,(r.val k).isSome_eq,Option.isSome_map]
  unfold iH storedH
  rw [e]
  by_cases q:(atKey xs k).isSome=true
  · rw [if_pos q,if_pos q];exact r.repl k ry
  · rw [if_neg q,if_neg q];exact Paired.snoc r ⟨rfl,hb,ry⟩
theorem KT.keeps {H H':Hp} {kvs:List (List bN×V)} {xs:List (List bN×Addr×Value)} (r:KT H kvs xs) (ht:∀b ys,H b=some (.tup ys)→H' b=some (.tup ys)):KT H' kvs xs:=
  Paired.mapP r fun _ _ z=>⟨z.1,ht _ _ z.2.1,z.2.2⟩
section
variable {P:Program} {w:World} {H:Hp} {h:Heap} {a:Addr}
theorem uo {u:HO} (ok:HOk P w H h) (e:Rd H a u):ObjOk P w H h a u:=e.ok ok
theorem mw {kvs:List (bN×V)} (ok:HOk P w H h) (e:Rd H a (.dK kvs)):kvs.length≤sizeLine∧(a == sysModules)=false∧∃vs,KV kvs vs∧h.DictOf (cK P w) a vs:=
  show ObjOk P w H h a (.dK kvs) from uo ok e
theorem wz {kvs:List (bN×V)} (ok:HOk P w H h) (e:H a=some (.dK kvs)):kvs.length≤sizeLine∧(a == sysModules)=false∧∃vs,KV kvs vs∧h.DictOf (cK P w) a vs:=mw ok (.inl e)
theorem lr {ks:List bN} (ok:HOk P w H h) (e:H a=some (.tup (ks.map kV))):(tupleKind (cK P w)).is h ks a:=by
  obtain ⟨_,its,r,o,h1,h2,n,h3⟩:=(show ObjOk P w H h a (.tup (ks.map kV)) from ok a _ e)
  exact ⟨o,its.toArray,n,h1,h2,h3,by simpa using kA r⟩
theorem oJ {kvs:List (List bN×V)} (ok:HOk P w H h) (e:Rd H a (.dT kvs)):kvs.length≤sizeLine∧(a == sysModules)=false∧
    ∃xs,KT H kvs xs∧h.DictOfH (tupleKind (cK P w)) a xs:=by
  obtain ⟨z,y,xs,r,o,es,ep,h1,h2,h3,h4,h5⟩:=(show ObjOk P w H h a (.dT kvs) from uo ok e)
  refine ⟨z,y,xs,r,o,es,ep,h1,h2,h3,h4,fun x hx=>?_,h5⟩
  have all:∀{l:List (List bN×V)} {m:List (List bN×Addr×Value)},KT H l m→∀x∈m,(tupleKind (cK P w)).is h x.1 x.2.1:=by
    intro l m q
    induction q with
    | nil=>intro x hx;exact nomatch hx
    | @cons p q ps qs hq t ih=>
      intro x hx
      rcases List.mem_cons.mp hx with e | hx
      · subst e
        exact lr ok (by rw [←hq.1];exact hq.2.1)
      · exact ih x hx
  exact all r x hx
theorem wA {kvs:List (List bN×V)} (ok:HOk P w H h) (e:H a=some (.dT kvs)):kvs.length≤sizeLine∧(a == sysModules)=false∧
    ∃xs,KT H kvs xs∧h.DictOfH (tupleKind (cK P w)) a xs:=oJ ok (.inl e)
end
def DGet (H:Hp) (a:Addr) (y:V) (r:Option V):Prop:=
  (∃kvs k,Rd H a (.dK kvs)∧y=kV k∧r=hJ kvs k)∨∃kvs k b,Rd H a (.dT kvs)∧y= .ref b∧H b=some (.tup (k.map kV))∧r=hJ kvs k
def DPut (H:Hp) (a:Addr) (y v:V) (H':Hp):Prop:=
  (∃kvs k,H a=some (.dK kvs)∧y=kV k∧kvs.length < sizeLine∧H'=upd H a (.dK (iH kvs k v)))∨
  ∃kvs k b,H a=some (.dT kvs)∧y= .ref b∧H b=some (.tup (k.map kV))∧kvs.length < sizeLine∧H'=upd H a (.dT (iH kvs k v))
theorem DGet.k {H:Hp} {a:Addr} {kvs:List (bN×V)} {k:bN} (e:H a=some (.dK kvs)):DGet H a (kV k) (hJ kvs k):= .inl ⟨kvs,k, .inl e,rfl,rfl⟩
theorem DGet.t {H:Hp} {a b:Addr} {kvs:List (List bN×V)} {k:List bN} (e:H a=some (.dT kvs)) (eb:H b=some (.tup (k.map kV))):DGet H a (.ref b) (hJ kvs k):= .inr ⟨kvs,k,b, .inl e,rfl,eb,rfl⟩
theorem DPut.k {H:Hp} {a:Addr} {kvs:List (bN×V)} {k:bN} {v:V} (e:H a=some (.dK kvs)) (hl:kvs.length < sizeLine):DPut H a (kV k) v (upd H a (.dK (iH kvs k v))):= .inl ⟨kvs,k,e,rfl,hl,rfl⟩
theorem DPut.t {H:Hp} {a b:Addr} {kvs:List (List bN×V)} {k:List bN} {v:V} (e:H a=some (.dT kvs)) (eb:H b=some (.tup (k.map kV))) (hl:kvs.length < sizeLine):
    DPut H a (.ref b) v (upd H a (.dT (iH kvs k v))):= .inr ⟨kvs,k,b,e,rfl,eb,hl,rfl⟩
section
variable {X:Cx} {pins:List (Addr×Obj)} {σ:St} {H:Hp} {s:Shared} {a:Addr} {y v:V} {u r:Value} {o:Option V} {A:Around} {E:Value→Shared→Prop}
theorem Inv.big (I:Inv X pins σ H s):sysModules < s.heap.objs.size:=by
  have h:mainGlobals < s.heap.objs.size:=(I.mod.glob.keeps I.bk).lt
  exact Nat.lt_trans (by decide) h
theorem xD {Q:Value→Shared→Prop} (hu:A.units+1 < cLine) (I:Inv X pins σ H s) (g:DGet H a y o) (ry:RelV y u) (h:∀s',Inv X pins σ H s'→Q (.bool o.isSome) s'):
    wpAny (model X.prog X.w) A (compareOp .In u (.ref a)) Q E s:=by
  rcases g with ⟨kvs,k,e,ey,l⟩ | ⟨kvs,k,b,e,ey,eb,l⟩
  · subst ey
    obtain ⟨z,hd,vs,rel,dd⟩:=mw I.hok e
    refine wpAny_in_of (oI ry) hd dd.mapOf ?_
    rw [←(rel.val k).isSome_eq,←l]
    exact h _ (I.tok _)
  · subst ey
    cases (show u=Value.ref b from ry)
    obtain ⟨z,hd,xs,rel,dd⟩:=oJ I.hok e
    refine wpAny_in_heap (tupleKind_room_in1 hu) (lr I.hok eb) hd dd ?_
    have q:=(rel.val k).isSome_eq
    rw [Option.isSome_map] at q
    rw [←q,←l]
    exact h _ (I.tok _)
theorem oK {h':Heap} {t':Nat} {ob:HO} (I:Inv X pins σ H s) (mu:v0 (H a)) (hs:Heap.SameBut a s.heap h') (he:∃q,h'.get? a=some q) (new:ObjOk X.prog X.w (upd H a ob) h' a ob):
    Inv X pins σ (upd H a ob) {s with heap:=h',toks:=t'}:=
  I.write (x:=a) (e:=a) mu (.inl rfl) (fun b q hb z=>(hs.2 b hb).trans z) he new
theorem vj {P:Program} {w:World} {H':Hp} {h':Heap} {kvs:List (bN×V)} {vs:List (bN×Value)} (z:kvs.length≤sizeLine) (hd:(a == sysModules)=false) (rel:KV kvs vs) (dd:h'.DictOf (cK P w) a vs):
    ObjOk P w H' h' a (.dK kvs):=⟨z,hd,vs,rel,dd⟩
theorem pS {H':Hp} {Q:Unit→Shared→Prop} (hu:A.units+1 < cLine) (I:Inv X pins σ H s) (g:DPut H a y v H') (ry:RelV y u) (rv:RelV v r) (h:∀s',Inv X pins σ H' s'→Q () s'):
    wpAny (model X.prog X.w) A (setItem (.ref a) u r) Q E s:=by
  rcases g with ⟨kvs,k,e,ey,l,eH⟩ | ⟨kvs,k,b,e,ey,eb,l,eH⟩
  · subst ey eH
    obtain ⟨z,hd,vs,rel,dd⟩:=wz I.hok e
    have hz:vs.length≤sizeLine:=by rw [←rel.length];exact z
    have hl:(iH kvs k v).length≤sizeLine:=by have:=jl kvs k v;omega
    refine wpAny_setItem_pairs (hsz:=hz) (oI ry) dd fun h' dd' hs=>h _ ?_
    have he:∃q,h'.get? a=some q:=let ⟨q,_,_,hq,_⟩:=dd';⟨q,hq⟩
    exact oK I (by rw [e];exact True.intro) hs he (vj hl hd (rel.put k rv) dd')
  · subst ey eH
    cases (show u=Value.ref b from ry)
    obtain ⟨z,hd,xs,rel,dd⟩:=wA I.hok e
    have hz:xs.length≤sizeLine:=by rw [←Paired.length rel];exact z
    have hl:(iH kvs k v).length≤sizeLine:=by have:=jl kvs k v;omega
    refine wpAny_setItem_heap (hsz:=hz) (tupleKind_room_in1 hu) (lr I.hok eb) dd fun h' dd' hs=>h _ ?_
    obtain ⟨q,es,ep,hq,h2,h3,h4,_,h5⟩:=dd'
    refine oK I (by rw [e];exact True.intro) hs ⟨q,hq⟩ ⟨hl,hd,_,(rel.put k eb rv).keeps fun c ys ec=>?_,q,es,ep,hq,h2,h3,h4,h5⟩
    rw [ai (qo ec e (fun z=>nomatch z))]
    exact ec
end
def wB (td ty tv:TE):TS:=fun D σ H=>tv σ H fun v H1=>td σ H1 fun x H2=>ty σ H2 fun y H3=>∃a H4,x= .ref a∧DPut H3 a y v H4∧D.nx σ H4
section
variable {X:Cx} {o i e value:Expr} {pos pos' tpos:Pos} {td ty tv:TE}
theorem tj (hu:X.A.units+1 < cLine) (ho:PE X o td) (hi:PE X i ty) (hv:PE X value tv) (hs:swapsWith value (some (.Subscript o i pos')) pos.line X.env=pure false):
    PS X (.Assign [.Subscript o i pos'] value pos) (wB td ty tv):=by
  intro pins s σ H D I h
  refine wpAny_Assign_Subscript (en (hv pins s σ H _ I h) fun r s1 ⟨v,H1,I1,rv,q1⟩=>en (ho pins s1 σ H1 _ I1 q1) fun u s2 ⟨x,H2,I2,rx,q2⟩=>en (hi pins s2 σ H2 _ I2 q2) fun iv s3 ⟨y,H3,I3,ry,a,H4,ex,g,q3⟩=>?_) hs
  subst ex
  obtain rfl:u=Value.ref a:=rx
  exact pS hu I3 g ry rv fun s4 I4=>⟨σ,H4,I4,q3⟩
end
theorem qY {P:Program} {w:World} {H:Hp} (h:Heap) (hb:sysModules < h.objs.size):ObjOk P w H (h.push {cls:= .type "dict",data:= .dict #[]}) h.objs.size (.dK []):=
  ⟨Nat.zero_le _,beq_eq_false_iff_ne.mpr (Ne.symm (Nat.ne_of_lt hb)),[], .nil,Heap.DictOf.new h⟩
def vk:TE:=fun _ H Q=>∀p,H p=none→Q (.ref p) (upd H p (.dK []))
section
variable {X:Cx} {pos:Pos}
theorem qZ:PE X (.Dict [] [] pos) vk:=fun pins s σ H Q I h=>
  wpAny_Dict_empty ⟨.ref s.heap.objs.size,_,I.laid (a:=s.heap.objs.size) (o:= .dK []) (t':=s.toks) (fun _ _ q=>Heap.get?_push_of_some _ q) (Nat.le_refl _) (qY s.heap I.big),rfl,h _ (I.hok.fresh (Nat.le_refl _))⟩
end
structure M2 (X:Cx) (o:Expr) (m:Str) (apos:Pos) (e f:Expr) (cpos:Pos):Prop where
  base:attributeBase o m X.env (eval o X.env)=eval o X.env
  few:((backTo cpos (starEach [e,f] X.env)).all (fun x=> !x.1)&&(backToKw cpos (keywordEach [] X.env)).all (fun x=>x.1.isSome)
    &&decide (([e,f]:List Expr).length+([]:List Keyword).length+(if ([]:List Keyword).isEmpty then 0 else 1) < 30))=true
  line:(apos.endLine == cpos.line)=true
  trees:backTo cpos (starEach [e,f] X.env)=[(false,eval e X.env),(false,eval f X.env)]
def xW (H:Hp) (a:Addr):Prop:=(∃kvs,Rd H a (.dK kvs))∨∃kvs,Rd H a (.dT kvs)
theorem vm {X:Cx} {pins:List (Addr×Obj)} {σ:St} {H:Hp} {s:Shared} {a:Addr} (I:Inv X pins σ H s) (d:xW H a):
    s.TypeIs (.ref a) "dict"∧(∀b,Value.ref a= .ref b→∃ob,s.heap.get? b=some ob∧ob.dict=none)∧(a == sysModules)=false:=by
  rcases d with ⟨kvs,e⟩ | ⟨kvs,e⟩
  · obtain ⟨_,hd,vs,_,dd⟩:=mw I.hok e
    refine ⟨dd.typeIs,fun b q=>?_,hd⟩
    cases q
    obtain ⟨ob,_,_,h1,h2,_⟩:=dd
    exact ⟨ob,h1,h2.2.1⟩
  · obtain ⟨_,hd,xs,_,dd⟩:=oJ I.hok e
    refine ⟨dd.typeIs,fun b q=>?_,hd⟩
    cases q
    obtain ⟨ob,_,_,h1,h2,_⟩:=dd
    exact ⟨ob,h1,h2.2.1⟩
section
variable {X:Cx} {pins:List (Addr×Obj)} {σ:St} {H:Hp} {s:Shared} {a:Addr} {y d:V} {u r:Value} {o:Option V} {A:Around} {E:Value→Shared→Prop}
theorem vn {Q:Value→Shared→Prop} (hu:A.units+1 < cLine) (I:Inv X pins σ H s) (g:DGet H a y o) (ry:RelV y u) (rd:RelV d r) (h:∀w' s',Inv X pins σ H s'→RelV (o.getD d) w'→Q w' s'):
    wpAny (model X.prog X.w) A (call (.builtin "dict.get") [.ref a,u,r]) Q E s:=by
  rcases g with ⟨kvs,k,e,ey,l⟩ | ⟨kvs,k,b,e,ey,eb,l⟩
  · subst ey
    obtain ⟨z,hd,vs,rel,dd⟩:=mw I.hok e
    refine call_meetsIn PySem.F.slot_dict_get dd.typeIs PySem.F.entry_dict_get (PySem.F.args_dict_get_3 _ _ _) (meets_dict_get_default (cK X.prog X.w) a (oI ry) hd r) ⟨_,dd.mapOf,h _ _ (I.tok _) ?_⟩
    rw [l]
    exact (rel.val k).getD rd
  · subst ey
    cases (show u=Value.ref b from ry)
    obtain ⟨z,hd,xs,rel,dd⟩:=oJ I.hok e
    refine call_meetsIn PySem.F.slot_dict_get dd.typeIs PySem.F.entry_dict_get (PySem.F.args_dict_get_3 _ _ _) (meetsH_dict_get_default (tupleKind (cK X.prog X.w)) a b hd r) ⟨tupleKind_room_in1 hu,k,xs,lr I.hok eb,dd,h _ _ (I.tok _) ?_⟩
    rw [l]
    exact (rel.val k).getD rd
end
def vo (td ty tx:TE):TE:=fun σ H Q=>td σ H fun x H1=>∃a,x= .ref a∧xW H1 a∧ty σ H1 fun y H2=>tx σ H2 fun z H3=>∃o,DGet H3 a y o∧Q (o.getD z) H3
section
variable {X:Cx} {o e f:Expr} {apos cpos:Pos} {td ty tx:TE}
theorem q9 (hu:X.A.units+1 < cLine) (ho:PE X o td) (he:PE X e ty) (hf:PE X f tx) (m:M2 X o "get" apos e f cpos):PE X (.Call (.Attribute o "get" apos) [e,f] [] cpos) (vo td ty tx):=by
  intro pins s σ H Q I h
  refine wpAny_Call_method m.base m.few m.line PySem.F.plainAttrs_dict PySem.F.slot_dict_get PySem.F.type_dict_get (en (ho pins s σ H _ I h) fun u s1 ⟨x,H1,I1,rx,a,ex,d,q1⟩=>?_)
  subst ex
  obtain rfl:u=Value.ref a:=rx
  obtain ⟨t1,t2,_⟩:=vm I1 d
  refine ⟨t1,t2,?_⟩
  rw [m.trees]
  refine Calls.callWith_builtin rfl (Calls.evalArgs_plain (Calls.spliced_cons (en (he pins s1 σ H1 _ I1 q1) fun iv s2 ⟨y,H2,I2,ry,q2⟩=>
    Calls.spliced_cons (en (hf pins s2 σ H2 _ I2 q2) fun fv s3 ⟨z,H3,I3,rz,ov,g,q3⟩=>Calls.spliced_nil ?_))))
  exact vn hu I3 g ry rz fun w' s4 I4 rw'=>⟨_,H3,I4,rw',q3⟩
end
end L2
namespace PL
open PySem L2 Nh
theorem cr {X:Cx} {a b:Expr} {m1 m2:Bool} {f g:aV} {pos:Pos} (ha:EX X a m1 f) (hb:EX X b m2 g) (hs:oA b:=by exact fun _ _=>rfl):EX X (.Subscript a b pos) (m1||m2) (ad dY m2 f g):=dl (gf u5 ha hb hs) fun _ _ _ h=>lg vi h
abbrev tm:=List Sl→Option (Option Int×List Sl)
def ro (K:PySem.W.Frag) (m:Bool) (f:tm):TO:=fun σ H Q=>∃B E xs Xs o E',Frm K B σ H E xs Xs∧(m=true→Calm Xs)∧f E=some (o,E')∧∀H',Frm K B σ H' E' xs Xs→Q o H'
def OX (X:Cx) (e:Option Expr) (m:Bool) (f:tm):Prop:=PO X e (ro X.K m f)
def bg:tm:=fun E=>some (none,E)
def aW (f:aV):tm:=fun E=>(f E).bind fun a=>match look a.2 a.1 with
  | some (.int i)=>some (some i,a.2)
  | _=>none
def jm (m2:Bool) (f:aV) (lo hi:tm):aV:=fun E=>(f E).bind fun a=>if m2&&a.1.isBr then none else (lo a.2).bind fun b=>(hi b.2).bind fun c=>match look c.2 a.1 with
  | some (.list ds)=>if !fN c.2 a.1||ar (lq ds b.1 c.1) then some (.ow (lq ds b.1 c.1),c.2) else none
  | _=>none
section
variable {X:Cx} {e:Expr} {lo hi:Option Expr} {m1 m2 m3:Bool} {f:aV} {g h:tm} {pos p2:Pos} {K:PySem.W.Frag}
theorem q_ {e:Option Expr} {t t':TO} (h:PO X e t) (k:∀σ H Q,t' σ H Q→t σ H Q):PO X e t':=fun pins s σ H Q I q=>h pins s σ H Q I (k σ H Q q)
theorem eB:OX X none false bg:=q_ sK fun σ H Q z=>by
  obtain ⟨B,E,xs,Xs,res,E',fr,cl,e,q⟩:=z
  cases e
  exact q _ fr
theorem dL (he:EX X e m1 f):OX X (some e) m1 (aW f):=q_ (sL he) fun σ H Q z=>by
  obtain ⟨B,E,xs,Xs,res,E',fr,cl,e,q⟩:=z
  obtain ⟨⟨s,E1⟩,e1,e⟩:=Option.bind_eq_some_iff.mp e
  refine ⟨B,E,xs,Xs,s,E1,fr,cl,e1,fun v1 H1 ⟨F,A,fr1⟩=>?_⟩
  simp only at e
  split at e
  · rename_i i l
    cases e
    have r:=(fr1.look0 l).1
    cases r
    obtain ⟨A',fr2⟩:=fr1.pop
    exact ⟨i,rfl,q _ ⟨F,A',fr2⟩⟩
  · cases e
theorem RpA.cut {F:Hp} {vs:List V} {ds:List PyData} (h:RpA K F vs ds) (lo hi:Option Int):RpA K F (pN vs lo hi) (lq ds lo hi):=by
  unfold pN lq
  rw [h.len]
  exact (h.drop _).take _
end
def bt (E:List Sl):List Sl→Option (List PyData)
  | []=>some []
  | s::ss=>(look E s).bind fun d=>(bt E ss).map fun ds=>d::ds
theorem lookA_iff {E:List Sl}:∀{ss:List Sl} {ds:List PyData},bt E ss=some ds↔Paired (fun s d=>look E s=some d) ss ds
  | [],ds=>⟨fun h=>by cases h;exact .nil,fun h=>by cases h;rfl⟩
  | s::ss,ds=>by
    constructor
    · intro h
      obtain ⟨d,h1,h⟩:=Option.bind_eq_some_iff.mp h
      obtain ⟨es,h2,h⟩:=Option.map_eq_some_iff.mp h
      cases h
      exact .cons h1 (lookA_iff.mp h2)
    · intro h
      cases h with
      | cons h1 h2=>simp [bt,h1,lookA_iff.mpr h2]
theorem pT {E:List Sl} {ss:List Sl} {ds:List PyData} (h:bt E ss=some ds):bt E ss.reverse=some ds.reverse:=lookA_iff.mpr (h9 (lookA_iff.mp h))
section
variable {X:Cx} {K:PySem.W.Frag} {B F:Hp} {σ:iF} {H:Hp} {E:List Sl} {xs:List V} {Xs:List Sl}
theorem FrF.looksR:∀{us:List V} {ts:List Sl} {es:List PyData} {A:List Addr},us.length=ts.length→FrF K B F A σ H E (us++xs) (ts++Xs)→bt E ts=some es→RpA K H us es∧∃A',FrF K B F A' σ H E xs Xs
  | [],[],es,A,_,h,e=>by cases e;exact ⟨.nil,A,h⟩
  | u::us,t::ts,es,A,hl,h,e=>by
    obtain ⟨d,h1,e⟩:=Option.bind_eq_some_iff.mp e
    obtain ⟨es',h2,e⟩:=Option.map_eq_some_iff.mp e
    cases e
    have r:=(FrF.look0 (xs:=us++xs) (Xs:=ts++Xs) h h1).1
    obtain ⟨A',h'⟩:=FrF.pop (xs:=us++xs) (Xs:=ts++Xs) h
    obtain ⟨r',q⟩:=FrF.looksR (by simpa using hl) h' h2
    exact ⟨.cons r r',q⟩
  | [],_::_,_,_,e,_,_=>by cases e
  | _::_,[],_,_,e,_,_=>by cases e
theorem FrF.looks {us:List V} {ts:List Sl} {es:List PyData} {A:List Addr} (hl:us.length=ts.length) (h:FrF K B F A σ H E (us.reverse++xs) (ts.reverse++Xs)) (e:bt E ts=some es):RpA K H us es∧∃A',FrF K B F A' σ H E xs Xs:=by
  obtain ⟨r,q⟩:=FrF.looksR (by simpa using hl) h (pT e)
  have:=r.rev
  rw [List.reverse_reverse,List.reverse_reverse] at this
  exact ⟨this,q⟩
end
def vp (K:PySem.W.Frag) (r:List V→Hp→VK→Prop) (op:List PyData→Option PyData):Prop:=∀(ds:List PyData) (d:PyData) (vs:List V) (H:Hp) (Q:VK),op ds=some d→RpA K H vs ds→∃v,gN d=some v∧(Q v H→r vs H Q)
def cG (op:List PyData→Option PyData) (g:kx):aV:=fun E=>(g E).bind fun a=>(bt a.2 a.1).bind fun ds=>(op ds).map fun d=>(.sh d,a.2)
theorem vq {K:PySem.W.Frag} {r:List V→Hp→VK→Prop} {op:List PyData→Option PyData} (hp:vp K r op) {m:Bool} {g:kx} {σ:iF} {H:Hp} {Q:VK} (h:rd K m (cG op g) σ H Q):xa r (ra K m g) σ H Q:=by
  obtain ⟨B,E,xs,Xs,res,E',fr,cl,e,q⟩:=h
  obtain ⟨⟨rs,E1⟩,e1,e⟩:=Option.bind_eq_some_iff.mp e
  obtain ⟨ds,e2,e⟩:=Option.bind_eq_some_iff.mp e
  obtain ⟨d,e3,e⟩:=Option.map_eq_some_iff.mp e
  cases e
  refine ⟨B,E,xs,Xs,rs,E1,fr,cl,e1,fun vs H1 hl ⟨F,A,fr1⟩=>?_⟩
  obtain ⟨r1,A',fr2⟩:=fr1.looks hl e2
  obtain ⟨v,hv,k⟩:=hp ds d vs H1 Q e3 r1
  exact k (q v H1 ⟨F,A',fr2.push ⟨rfl,v,rfl,jN hv⟩⟩)
def cM:List PyData→Option PyData
  | [.list xs]=>some (.int xs.length)
  | [.tuple xs]=>some (.int xs.length)
  | [.str z]=>if z.length≤1000000 then some (.int z.length) else none
  | _=>none
def eO:List PyData→Option PyData
  | [.int i]=>some (.int (if i < 0 then -i else i))
  | _=>none
def ft:List PyData→Option PyData
  | [.int i, .int j]=>some (.int (if j < i then j else i))
  | _=>none
def fu:List PyData→Option PyData
  | [.int i, .int j]=>some (.int (if j > i then j else i))
  | _=>none
theorem RpA.one {K:PySem.W.Frag} {H:Hp} {vs:List V} {d:PyData} (h:RpA K H vs [d]):∃v,vs=[v]∧Rp K H v d:=by
  cases h with
  | cons h t=>cases t;exact ⟨_,rfl,h⟩
theorem RpA.two {K:PySem.W.Frag} {H:Hp} {vs:List V} {d e:PyData} (h:RpA K H vs [d,e]):∃v u,vs=[v,u]∧Rp K H v d∧Rp K H u e:=by
  cases h with
  | cons h t=>
    obtain ⟨u,rfl,r⟩:=t.one
    exact ⟨_,_,rfl,h,r⟩
section
variable {X:Cx} {e:Expr} {es:List Expr} {m1:Bool} {g:kx} {p pos:Pos} {K:PySem.W.Frag}
abbrev wC (K:PySem.W.Frag):List V→Hp→VK→Prop:=fun xs H Q=>(∃p ys,xs=[.ref p]∧(SqL K H p ys∨SqT K H p ys)∧Q (.int ys.length) H)∨(∃z,xs=[.str z]∧z.length≤sizeLine∧Q (.int z.length) H)
theorem tp:vp K (wC K) cM:=fun ds d vs H Q e r=>by
  unfold cM at e
  split at e
  · cases e
    obtain ⟨v,rfl,r'⟩:=r.one
    cases r' with
    | lst h1 h2=>exact ⟨_,rfl,fun q=> .inl ⟨_,_,rfl, .inl h1,by rw [h2.len];exact q⟩⟩
  · cases e
    obtain ⟨v,rfl,r'⟩:=r.one
    cases r' with
    | tup h1 h2=>exact ⟨_,rfl,fun q=> .inl ⟨_,_,rfl, .inr h1,by rw [h2.len];exact q⟩⟩
  · split at e
    · rename_i hl
      cases e
      obtain ⟨v,rfl,r'⟩:=r.one
      cases r'
      exact ⟨_,rfl,fun q=> .inr ⟨_,rfl,f7 hl,q⟩⟩
    · cases e
  · cases e
theorem mz {x:Str} {id:String} {r:List V→Hp→VK→Prop} {op:List PyData→Option PyData} (hp:vp X.K r op) (hc:CallR X (.builtin id) r) (hg:Gl X x) (hm:X.mg x=none) (hv:bootBuiltins x=some (.builtin id)) (ha:AX X (e::es) m1 g) (hn:x≠"__name__":=by decide) (hdb:(x == ("__debug__":Str))=false:=by decide)
    (he:starEach (e::es) X.env=(false,eval e X.env)::starEach es X.env:=by rfl) (hpl:(backTo pos (starEach es X.env)).any (·.1)=false:=by rfl):EX X (.Call (.Name x p) (e::es) [] pos) m1 (cG op g):=
  dl (iD hc hg hm hv ha hn hdb he hpl) fun _ _ _ h=>vq hp h
theorem gR (hg:Gl X "len") (hm:X.mg "len"=none) (ha:AX X [e] m1 g) (he:starEach [e] X.env=[(false,eval e X.env)]:=by rfl):EX X (.Call (.Name "len" p) [e] [] pos) m1 (cG cM g):=mz tp (CallR.or kY kZ) hg hm PySem.boot_len ha (by decide) (by decide) he rfl
theorem vt (hg:Gl X "abs") (hm:X.mg "abs"=none) (ha:AX X [e] m1 g) (he:starEach [e] X.env=[(false,eval e X.env)]:=by rfl):EX X (.Call (.Name "abs" p) [e] [] pos) m1 (cG eO g):=mz (fun ds d vs H Q e r=>by
  unfold eO at e
  split at e
  · cases e
    obtain ⟨v,rfl,r'⟩:=r.one
    cases r'
    exact ⟨_,rfl,fun q=>⟨_,rfl,q⟩⟩
  · cases e) qB hg hm PyProof.Rows.boot_abs ha (by decide) (by decide) he rfl
end
def bH (g:aV):aV:=fun E=>(g E).bind fun a=>match look a.2 a.1 with
  | some (.list ds)=>if !fN a.2 a.1||ar ds then some (.ow ds,a.2) else none
  | some (.tuple ds)=>if !fN a.2 a.1||ar ds then some (.ow ds,a.2) else none
  | _=>none
section
variable {X:Cx} {e:Expr} {m1:Bool} {f:aV} {p pos:Pos} {K:PySem.W.Frag}
theorem tu (hg:Gl X "list") (hm:X.mg "list"=none) (ha:EX X e m1 f) (he:starEach [e] X.env=[(false,eval e X.env)]:=by rfl):EX X (.Call (.Name "list" p) [e] [] pos) m1 (bH f):=by
  refine dl (pM k4 hg hm PyProof.Rows.boot_list (be ha bP he) (by decide) (by decide) he rfl) fun σ H Q z=>?_
  obtain ⟨B,E,xs,Xs,res,E',fr,cl,e,q⟩:=z
  obtain ⟨⟨s,E1⟩,e1,e⟩:=Option.bind_eq_some_iff.mp e
  refine ⟨B,E,xs,Xs,s,E1,fr,cl,e1,fun v1 H1 ⟨F,A,fr1⟩=>?_⟩
  obtain ⟨A',fr2⟩:=fr1.pop
  simp only at e
  split at e
  · rename_i ds ld
    split at e
    · rename_i hc
      cases e
      obtain ⟨a,vs,ev,h1,h2⟩:=fr1.items (k:=0) rfl ld hc
      cases ev
      exact ⟨a,vs,rfl, .inl h1,fun l hl=>q _ _ ⟨F,_,fr2.newl h2 hl⟩⟩
    · cases e
  · rename_i ds ld
    split at e
    · rename_i hc
      cases e
      obtain ⟨r,f0⟩:=fr1.look0 ld
      cases hh:fN E' s with
      | false=>
        have h0:Rp X.K F v1 _:=f0 hh
        cases h0 with
        | tup h1 h2=>exact ⟨_,_,rfl, .inr (fr1.fh.tup h1),fun l hl=>q _ _ ⟨F,_,fr2.newl h2 hl⟩⟩
      | true=>
        rw [hh] at hc
        cases r with
        | tup h1 h2=>exact ⟨_,_,rfl, .inr h1,fun l hl=>q _ _ ⟨F,_,fr2.newl (fr1.coldA h2 (by simpa using hc)) hl⟩⟩
    · cases e
  · cases e
end
inductive Ty where
  | non | bool | int | str | list | tuple | dict
def Ty.name:Ty→String
  | .non=>"NoneType"
  | .bool=>"bool"
  | .int=>"int"
  | .str=>"str"
  | .list=>"list"
  | .tuple=>"tuple"
  | .dict=>"dict"
def Ty.is:Ty→Ty→Bool
  | .non, .non=>true
  | .bool, .bool=>true
  | .bool, .int=>true
  | .int, .int=>true
  | .str, .str=>true
  | .list, .list=>true
  | .tuple, .tuple=>true
  | .dict, .dict=>true
  | _,_=>false
def ip:PyData→Ty
  | .none=> .non
  | .bool _=> .bool
  | .int _=> .int
  | .str _=> .str
  | .list _=> .list
  | .tuple _=> .tuple
  | .dict _=> .dict
theorem wD (K:PySem.W.Frag) (t n:Ty):PySem.W.kitOne K (.type t.name) (.type n.name)=some (t.is n):=by cases t <;> cases n <;> rfl
def ee (n:Ty) (d:PyData):Option PyData:=some (.bool ((ip d).is n))
section
variable {X:Cx} {e:Expr} {m1:Bool} {f:aV} {p p2 pos:Pos}
theorem pU {pins:List (Addr×Obj)} {s:Shared} {σ:iF} {H:Hp} {x:V} {u:Value} {d:PyData} {n:Ty} {A:Around} {E:Value→Shared→Prop} {Q:Value→Shared→Prop} (I:Inv X pins σ H s) (rx:RelV x u) (rp:Rp X.K H x d) (h:∀tk,Q (.bool ((ip d).is n)) {s with toks:=tk}):
    wpAny (model X.prog X.w) A (call (.builtin "isinstance") [u, .type n.name]) Q E s:=by
  have e:=wD X.K (ip d) n
  cases rp with
  | non=>exact g7 I rx .non e h
  | bl b=>exact g7 I rx (.bl b) e h
  | int i=>exact g7 I rx (.int i) e h
  | str y=>exact g7 I rx (.str y) e h
  | lst h1 _=>
    cases rx
    obtain ⟨its,rv,⟨o,n',e1,c,_,d⟩,_⟩:=I.list h1
    exact PySem.W.kia_one PySem.W.kitx_list I.kIn ⟨_,e1,c⟩ e (fun z=>nomatch z) h
  | tup h1 _=>
    cases rx
    obtain ⟨its,rv,⟨o,e1,c,n',d⟩,_⟩:=I.tuple h1
    exact PySem.W.kia_one PySem.W.kitx_tuple I.kIn ⟨_,e1,c⟩ e (fun z=>nomatch z) h
  | dct h1 _=>
    cases rx
    obtain ⟨_,_,vs,_,ob,es,ep,e1,c,_⟩:=mw I.hok h1
    exact PySem.W.kia_one PySem.W.kitx_dict I.kIn ⟨_,e1,c.1⟩ e (fun z=>nomatch z) h
theorem pV (n:Ty):CallR X (.builtin "isinstance") (fun xs H Q=>∃x d,xs=[x, .ty n.name]∧Rp X.K H x d∧Q (.bl ((ip d).is n)) H):=by
  intro pins s σ H xs us Q I r h
  obtain ⟨x,d,rfl,rp,q⟩:=h
  obtain ⟨u,w',rfl,ru,rw'⟩:=r.two
  cases (show w'=Value.type n.name from rw')
  exact pU I ru rp fun tk=>⟨.bl _,H,I.tok _,rfl,q⟩
theorem ls (n:Ty) (hg:Gl X "isinstance") (hm:X.mg "isinstance"=none) (ha:EX X e m1 f) {x:Str} (hgx:Gl X x) (hmx:X.mg x=none) (hbx:bootBuiltins x=some (.type n.name)) (hnx:x≠"__name__":=by decide) (hdx:(x == ("__debug__":Str))=false:=by decide)
    (he:starEach [e, .Name x p2] X.env=(false,eval e X.env)::starEach [.Name x p2] X.env:=by rfl) (he2:starEach [.Name x p2] X.env=[(false,eval (.Name x p2) X.env)]:=by rfl) (hpl:(backTo pos (starEach [.Name x p2] X.env)).any (·.1)=false:=by rfl):
    EX X (.Call (.Name "isinstance" p) [e, .Name x p2] [] pos) m1 (gb (ee n) f):=by
  have h2:PE X (.Name x p2) (tC (.ty n.name)):=sv (v:= .ty n.name) hgx hmx hbx rfl hnx hdx
  refine dl (iD (pV n) hg hm PyProof.Rows.boot_isinstance (be ha (be h2 bP he2) he) (by decide) (by decide) he hpl) fun σ H Q z=>?_
  obtain ⟨B,E,xs,Xs,res,E',fr,cl,e,q⟩:=z
  obtain ⟨⟨s,E1⟩,e1,e⟩:=Option.bind_eq_some_iff.mp e
  obtain ⟨d1,e2,e⟩:=Option.bind_eq_some_iff.mp e
  cases e
  refine ⟨B,E,xs,Xs,s,E1,fr,cl,e1,fun v1 H1 ⟨F,A,fr1⟩=>?_⟩
  obtain ⟨A',fr2⟩:=fr1.pop
  exact ⟨v1,d1,rfl,(fr1.look0 e2).1,q _ _ ⟨F,A',fr2.push ⟨rfl,_,rfl, .bl _⟩⟩⟩
end
end PL
namespace PL
open PySem L2 Nh
def oM (K:PySem.W.Frag) (H H':Hp) (v:V):Sl→Prop
  | .sh d=>Rp K (tups H') v d
  | .ow ds=>∃l vs,v= .ref l∧H l=none∧H' l=some (.lst vs)∧RpA K (tups H') vs ds
  | .tx ps=>∃t vs A,v= .ref t∧tups H' t=some (.tup vs)∧A.Nodup∧(∀a∈A,H a=none)∧PtsOk K (tups H') H' vs ps A
  | .od kvs=>∃l us A,v= .ref l∧(l::A).Nodup∧(∀a∈l::A,H a=none)∧H' l=some (.dK us)∧DlOk K (tups H') H' us kvs A
  | .br d=>Rp K H' v d
  | _=>False
def hU (K:PySem.W.Frag) (c:List PyData→Option Sl):Sp:=fun vs H Q _=>∃ds r,c ds=some r∧RpA K H vs ds∧∀v H',Same H H'→oM K H H' v r→Q v H'
section
variable {K:PySem.W.Frag} {B F:Hp} {A N:List Addr} {σ:iF} {H H':Hp} {E:List Sl} {xs:List V} {Xs:List Sl} {v:V} {s:Sl}
theorem FrF.growN (h:FrF K B F A σ H E xs Xs) (g:Same H H') (hN:∀a∈N,H a=none∧((∃us,H' a=some (.lst us))∨∃us,H' a=some (.dK us))):FrF K B (fun b=>if b∈N then none else if b∈A then none else H' b) A σ H' E xs Xs:=by
  have h1:=h.grow g
  have nF:∀b o,F b=some o→b∉N:=fun b o e hb=>by
    have:=h.fh.free (hN b hb).1
    rw [this] at e;cases e
  have FF:Same F (fun b=>if b∈N then none else if b∈A then none else H' b):=fun b o e=>by
    have nA:b∉A:=fun hb=>by rw [h.fr b hb] at e;cases e
    show (if b∈N then none else if b∈A then none else H' b)=some o
    rw [if_neg (nF b o e),if_neg nA]
    exact g _ _ (h.fh _ _ e)
  have hA:∀b∈A,H' b=H b:=fun b hb=>by
    rcases h.mutA b hb with ⟨_,z⟩ | ⟨_,z⟩ <;> rw [z,g _ _ z]
  refine ⟨h.bf.trans FF,fun b o e=>?_,fun b o e=>?_,h.sl.mono fun o s C _ hC q=>q.stay FF (fun b hb=>hA b (hC b hb)) fun _=>g,h.nd,fun a ha=>?_,h.len,h.pl⟩
  · by_cases hb:b∈N
    · rw [if_pos hb] at e;cases e
    · rw [if_neg hb] at e;exact h1.fh _ _ e
  · show (if b∈N then none else if b∈A then none else H' b)=some o
    by_cases hb:b∈N
    · obtain ⟨e1,e2⟩:=Option.filter_eq_some_iff.mp e
      rcases (hN b hb).2 with ⟨us,z⟩ | ⟨us,z⟩ <;> rw [z] at e1 <;> cases e1 <;> cases e2
    · rw [if_neg hb];exact h1.tf _ _ e
  · show (if a∈N then none else if a∈A then none else H' a)=none
    by_cases hb:a∈N
    · rw [if_pos hb]
    · rw [if_neg hb,if_pos ha]
theorem FrF.pushR (h:FrF K B F A σ H E xs Xs) (q:SlOk K F H σ (some v) s N) (nd:N.Nodup) (dj:∀a∈N,a∉A) (fr:∀a∈N,F a=none):FrF K B F (N++A) σ H E (v::xs) (s::Xs):=
  ⟨h.bf,h.fh,h.tf, .cons q h.sl,List.nodup_append.mpr ⟨nd,h.nd,fun a ha b hb e=>dj a ha (e▸hb)⟩,fun a ha=>(List.mem_append.mp ha).elim (fr a) (h.fr a),by simp [h.len],h.pl⟩
theorem FrF.told (h:FrF K B F A σ H E xs Xs) (g:Same H H') (q:oM K H H' v s):Frm K B σ H' E (v::xs) (s::Xs):=by
  cases s with
  | sh d=>
    have h1:=h.grow g
    exact ⟨_,_,h1.push ⟨rfl,v,rfl,Rp.same h1.tf q⟩⟩
  | ow ds=>
    obtain ⟨l,vs,rfl,hl,hl',r⟩:=q
    have h1:=h.growN (N:=[l]) g fun a ha=>by rw [List.mem_singleton.mp ha];exact ⟨hl, .inl ⟨vs,hl'⟩⟩
    exact ⟨_,_,h1.pushR (N:=[l]) ⟨l,vs,rfl,rfl,hl',r.same h1.tf⟩ (by simp) (fun a ha=>by rw [List.mem_singleton.mp ha];exact h.newA hl) fun a ha=>if_pos ha⟩
  | tx ps=>
    obtain ⟨t,vs,N,rfl,ht,nd,hN,r⟩:=q
    have h1:=h.growN (N:=N) g fun a ha=>⟨hN a ha, .inl (r.some a ha)⟩
    exact ⟨_,_,h1.pushR (N:=N) ⟨t,vs,rfl,h1.tf _ _ ht,r.stay h1.tf fun _ _=>rfl⟩ nd (fun a ha=>h.newA (hN a ha)) fun a ha=>if_pos ha⟩
  | no=>exact False.elim q
  | oi kvs=>exact False.elim q
  | od kvs=>
    obtain ⟨l,us,N,rfl,nd,hN,hl,r⟩:=q
    have h1:=h.growN (N:=l::N) g fun a ha=>⟨hN a ha,(List.mem_cons.mp ha).elim (fun z=> .inr ⟨us,z▸hl⟩) fun z=> .inl (r.some a z)⟩
    exact ⟨_,_,h1.pushR (N:=l::N) ⟨l,us,N,rfl,rfl,hl,r.stay h1.tf fun _ _=>rfl⟩ nd (fun a ha=>h.newA (hN a ha)) fun a ha=>if_pos ha⟩
  | al i=>exact False.elim q
  | br d=>
    have h1:=h.grow g
    exact ⟨_,_,h1.push ⟨rfl,v,rfl,q⟩⟩
end
def ao (c:List PyData→Option Sl) (g:kx):aV:=fun E=>(g E).bind fun a=>(bt a.2 a.1).bind fun ds=>(c ds).map fun r=>(r,a.2)
theorem dH {X:Cx} {k:Nat} {x:Str} {ps:List Str} {c:List PyData→Option Sl} {p pos:Pos} {e:Expr} {es:List Expr} {m:Bool} {g:kx} (D:Own X.prog X.w X.K X.mg X.base k x ps (hU X.K c)) (hr:Room k X.A) (hg:Gl X x) (ha:AX X (e::es) m g)
    (hdb:(x == ("__debug__":Str))=false:=by decide) (he:starEach (e::es) X.env=(false,eval e X.env)::starEach es X.env:=by rfl) (hpl:(backTo pos (starEach es X.env)).any (·.1)=false:=by rfl):
    EX X (.Call (.Name x p) (e::es) [] pos) m (ao c g):=by
  refine dl (qK D hr hg ha hdb he hpl) fun σ H Q z=>?_
  obtain ⟨B,E,xs,Xs,res,E',fr,cl,e,q⟩:=z
  obtain ⟨⟨rs,E1⟩,e1,e⟩:=Option.bind_eq_some_iff.mp e
  obtain ⟨ds,e2,e⟩:=Option.bind_eq_some_iff.mp e
  obtain ⟨r,e3,e⟩:=Option.map_eq_some_iff.mp e
  cases e
  refine ⟨B,E,xs,Xs,rs,E1,fr,cl,e1,fun vs H1 hl ⟨F,A,fr1⟩=>?_⟩
  obtain ⟨r1,A',fr2⟩:=fr1.looks hl e2
  exact ⟨ds,res,e3,by rw [List.append_nil];exact r1,fun v H' g q'=>q v H' (fr2.told g q')⟩
def aO (i:Nat) (f:aV):aV:=fun E=>match E[i]? with
  | some (.ow _)=>(f E).bind fun a=>(frz a.2 a.1).bind fun b=>match b.2[i]? with
    | some (.ow ds)=>if ds.length < 1000000 then some (.sh .none,b.2.set i (.ow (ds++[b.1]))) else none
    | _=>none
  | _=>none
def eP (i:Nat):aV:=fun E=>match E[i]? with
  | some (.ow ds)=>(ds[ds.length - 1]?).map fun d=>(.sh d,E.set i (.ow ds.dropLast))
  | _=>none
section
variable {X:Cx} {e:Expr} {m1:Bool} {f:aV} {x:Str} {p apos cpos:Pos}
theorem kB (i:Nat) (he:EX X e m1 f) (hN:X.N[i]? =some x:=by rfl) (hv:qk X.env.scope x:=by first | exact Or.inl rfl | exact Or.inr (Or.inl rfl) | exact Or.inr (Or.inr rfl)) (hd:(x == ("__debug__":Str))=false:=by decide) (hcd:(x == ("__classdict__":Str))=false:=by decide)
    (hs:starEach [e] X.env=[(false,eval e X.env)]:=by rfl) (hbase:attributeBase (.Name x p) "append" X.env (eval (.Name x p) X.env)=eval (.Name x p) X.env:=by rfl)
    (hfew:((backTo cpos (starEach [e] X.env)).all (fun x=> !x.1)&&(backToKw cpos (keywordEach [] X.env)).all (fun x=>x.1.isSome)
      &&decide (([e]:List Expr).length+([]:List Keyword).length+(if ([]:List Keyword).isEmpty then 0 else 1) < 30))=true:=by rfl) (hline:(apos.endLine == cpos.line)=true:=by rfl):
    EX X (.Call (.Attribute (.Name x p) "append" apos) [e] [] cpos) true (aO i f):=by
  refine dl (jh PySem.F.plainAttrs_list PySem.F.slot_list_append PySem.F.type_list_append gg (fZ hN hv hd hcd) (be he bP hs) hbase hfew hline hs rfl) fun σ H Q z=>?_
  obtain ⟨B,E,xs,Xs,res,E',⟨F,A,fr⟩,cl,e,q⟩:=z
  unfold aO at e
  split at e
  · rename_i ds0 ei
    obtain ⟨⟨s,E1⟩,e1,e⟩:=Option.bind_eq_some_iff.mp e
    obtain ⟨⟨d,E2⟩,e2,e⟩:=Option.bind_eq_some_iff.mp e
    simp only at e
    split at e
    · rename_i ds ei2
      split at e
      · rename_i hl
        cases e
        obtain ⟨o,A1,eo,l,vs,rfl,rfl,hl0,_⟩:=fr.var ei
        refine ⟨_,eo, .inl ⟨rfl,_,SqL.of hl0⟩,B,E,xs,Xs,s,E1,⟨F,A,fr⟩,fun _=>cl rfl,e1,fun v H1 ⟨F1,A1,fr1⟩=>?_⟩
        obtain ⟨F2,A2,fr2⟩:=fr1.frz0 e2
        obtain ⟨v',A3,ev,rfl,w,ew,rv⟩:=fr2.ext (k:=0) rfl
        cases ev;cases ew
        obtain ⟨A4,fr3⟩:=fr2.pop
        obtain ⟨l',vs',eo',hl',r',put⟩:=fr3.mut ei2 (cl rfl)
        rw [eo] at eo'
        cases eo'
        have ll:=r'.len
        have fr4:=put (vs'++[v]) (ds++[d]) (r'.snoc rv)
        exact ⟨l,vs',v,rfl,rfl,hl',mr (by omega),q _ _ ⟨_,_,fr4.push ⟨rfl,_,rfl, .non⟩⟩⟩
      · cases e
    · cases e
  · cases e
theorem vv (i:Nat) (hN:X.N[i]? =some x:=by rfl) (hv:qk X.env.scope x:=by first | exact Or.inl rfl | exact Or.inr (Or.inl rfl) | exact Or.inr (Or.inr rfl)) (hd:(x == ("__debug__":Str))=false:=by decide) (hcd:(x == ("__classdict__":Str))=false:=by decide)
    (hbase:attributeBase (.Name x p) "pop" X.env (eval (.Name x p) X.env)=eval (.Name x p) X.env:=by rfl) (hline:(apos.endLine == cpos.line)=true:=by rfl):
    EX X (.Call (.Attribute (.Name x p) "pop" apos) [] [] cpos) true (eP i):=by
  refine dl (nu PySem.F.plainAttrs_list PySem.F.slot_list_pop PySem.F.type_list_pop nz (fZ hN hv hd hcd) hbase hline) fun σ H Q z=>?_
  obtain ⟨B,E,xs,Xs,res,E',⟨F,A,fr⟩,cl,e,q⟩:=z
  unfold eP at e
  split at e
  · rename_i ds ei
    obtain ⟨d,ed,e⟩:=Option.map_eq_some_iff.mp e
    cases e
    obtain ⟨l,vs,eo,hl,r,put⟩:=fr.mut ei (cl rfl)
    obtain ⟨y,ey,ry⟩:=r.get ed
    have fr2:=put vs.dropLast ds.dropLast r.dropLast
    exact ⟨_,eo, .inl ⟨rfl,_,SqL.of hl⟩,l,vs,y,rfl,rfl,hl,by rw [r.len];exact ey,q _ _ ⟨_,_,fr2.push ⟨rfl,_,rfl,ry⟩⟩⟩
  · cases e
end
def aB (s:Sl):Sl:=match s.val with
  | some d=> .sh d
  | none=> .no
def frzAll (E:List Sl):List Sl:=E.map aB
def settle (E:List Sl):Sl→Option (Sl×List Sl)
  | .al i=>(frz E (.al i)).map fun a=>(.sh a.1,a.2)
  | .br d=>if b7 d then some (.sh d,E) else some (.sh d,frzAll E)
  | s=>some (s,E)
def aP (g h:fg):fg:=fun E=>(g E).bind fun a=>match a.2 with
  | .nx=>h a.1
  | fl=>some (a.1,fl)
def a8:fg:=fun E=>some (E, .nx)
def bT:fg:=fun E=>some (E, .bk)
def cO:fg:=fun E=>some (E, .ct)
def cu (f:aV):fg:=fun E=>(f E).map fun a=>(a.2, .nx)
def cP:fg:=fun E=>some (E, .rt (.sh .none))
def bQ (f:aV):fg:=fun E=>(f E).bind fun a=>match a.1 with
  | .al i=>(a.2[i]?).map fun s=>(a.2.set i .no, .rt s)
  | s=>some (a.2, .rt s)
def bU (c:iE) (g h:fg):fg:=fun E=>(c E).bind fun a=>if a.1 then g a.2 else h a.2
def aR (i:Nat) (f:aV):fg:=fun E=>(f E).bind fun a=>(settle a.2 a.1).bind fun b=>if i < b.2.length then some (b.2.set i b.1, .nx) else none
section
variable {K:PySem.W.Frag} {B F:Hp} {A:List Addr} {σ:iF} {H:Hp} {E E':List Sl} {xs:List V} {Xs:List Sl} {v:V} {s s':Sl} {d:PyData}
theorem FrF.frzAll (h:FrF K B F A σ H E xs Xs) (hX:Xs=[]):FrF K B H [] σ H (PL.frzAll E) [] []:=by
  subst hX
  have hx:xs=[]:=by simpa using h.len
  subst hx
  refine ⟨h.bf.trans h.fh,Same.refl _,iX H,?_,List.nodup_nil,fun a ha=>(by cases ha),rfl,fun s hs=>?_⟩
  · have key:∀{os:List (Option V)} {ss:List Sl} {C:List Addr},SAll (SlOk K F H σ) os ss C→SAll (SlOk K H H σ) os (PL.frzAll ss) []:=fun {os ss C} r=>by
      induction r with
      | nil=>exact .nil
      | cons q _ ih=>
        refine .cons (A:=[]) ?_ ih
        unfold aB
        split
        · rename_i d e
          obtain ⟨v,rfl,r,_⟩:=q.val h.fh e
          exact ⟨rfl,v,rfl,r⟩
        · exact rfl
    exact key h.sl
  · obtain ⟨t,_,rfl⟩:=List.mem_map.mp hs
    unfold aB
    split <;> rfl
theorem FrF.settle (h:FrF K B F A σ H E (v::xs) (s::Xs)) (hX:Xs=[]) (q:PL.settle E s=some (s',E')):s'.isAl=false∧Frm K B σ H E' (v::xs) (s'::Xs):=by
  cases s with
  | al i=>
    obtain ⟨⟨d,E2⟩,e,z⟩:=Option.map_eq_some_iff.mp (show (frz E (.al i)).map (fun a=>(Sl.sh a.1,a.2))=some (s',E') from q)
    cases z
    obtain ⟨F',A',h'⟩:=h.frz0 e
    exact ⟨rfl,F',A',h'⟩
  | br d=>
    have r:=(h.look0 (d:=d) rfl).1
    obtain ⟨A',h'⟩:=h.pop
    simp only [PL.settle] at q
    split at q
    · rename_i hf
      cases q
      exact ⟨rfl,F,A',h'.push ⟨rfl,v,rfl,h.cold r hf⟩⟩
    · cases q
      have h2:=h'.frzAll hX
      have hl:=h'.len
      subst hX
      have hx:xs=[]:=by simpa using hl
      subst hx
      exact ⟨rfl,H,[],h2.push ⟨rfl,v,rfl,r⟩⟩
  | no=>cases q;exact ⟨rfl,F,A,h⟩
  | sh d=>cases q;exact ⟨rfl,F,A,h⟩
  | ow ds=>cases q;exact ⟨rfl,F,A,h⟩
  | od kvs=>cases q;exact ⟨rfl,F,A,h⟩
  | oi kvs=>cases q;exact ⟨rfl,F,A,h⟩
  | tx ps=>cases q;exact ⟨rfl,F,A,h⟩
theorem FrF.move {i:Nat} (h:FrF K B F A σ H E (v::xs) (.al i::Xs)) (e:E[i]? =some s):Frm K B σ H (E.set i .no) (v::xs) (s::Xs):=by
  obtain ⟨v',A1,ev,rfl,w,ew,hw⟩:=h.ext (k:=0) rfl
  cases ev;cases ew
  obtain ⟨A',h'⟩:=h.pop
  obtain ⟨o,A0,A1,A2,eA,eo,hp,put⟩:=h'.sl.at (k:=Xs.length+i) (s:=s) (by rw [List.getElem?_append_right (by omega)];simpa using e)
  have z:=put (SlOk K F H σ) o .no [] rfl fun _ _ _ _ _ q=>q
  have e3:(Xs++E).set (Xs.length+i) .no=Xs++E.set i .no:=by
    rw [List.set_append_right _ _ (by omega),Nat.add_sub_cancel_left]
  have e2:(List.map some xs++σ).set (Xs.length+i) o=List.map some xs++σ:=List.ext_getElem? fun j=>by
    by_cases hj:Xs.length+i=j
    · subst hj
      rw [List.getElem?_set_self',eo];rfl
    · rw [List.getElem?_set_ne hj]
  rw [e2,e3] at z
  rw [List.getElem?_append_right (by rw [List.length_map,h'.len];omega),List.length_map,h'.len,Nat.add_sub_cancel_left,hw] at eo
  cases eo
  have nd:=h'.nd
  rw [eA] at nd
  refine ⟨F,A1++(A0++([]++A2)),h.bf,h.fh,h.tf, .cons hp z,?_,fun a ha=>h'.fr a ?_,h.len,fun s' hs=>?_⟩
  · have p:(A1++(A0++([]++A2))).Perm (A0++(A1++A2)):=by
      rw [List.nil_append,←List.append_assoc,←List.append_assoc]
      exact List.Perm.append_right _ List.perm_append_comm
    exact p.nodup_iff.mpr nd
  · rw [eA]
    simp only [List.mem_append,List.nil_append] at ha ⊢
    rcases ha with z | z | z
    · exact .inr (.inl z)
    · exact .inl z
    · exact .inr (.inr z)
  · rcases List.mem_or_eq_of_mem_set hs with hs | hs
    · exact h.pl s' hs
    · subst hs;rfl
end
section
variable {X:Cx} {st:Stmt} {ce a b:List Stmt} {g h:fg} {e c:Expr} {m:Bool} {f:aV} {t:iE} {pos:Pos}
theorem cL:qN X [] a8:=la g5 fun D σ H z=>by
  obtain ⟨B,E,xs,Xs,E',fl,fr,cl,e,q⟩:=z
  cases e
  exact q _ _ fr
theorem aj (h1:SX X st g):qN X [st] g:=dh h1
theorem vw {K:PySem.W.Frag} {D:Ends} {σ:iF} {H:Hp} (z:rs K (aP g h) D σ H):rs K g {D with nx:=rs K h D} σ H:=by
  obtain ⟨B,E,xs,Xs,E',fl,fr,cl,e,q⟩:=z
  obtain ⟨⟨E1,f1⟩,e1,e⟩:=Option.bind_eq_some_iff.mp e
  refine ⟨B,E,xs,Xs,E1,f1,fr,cl,e1,?_⟩
  cases f1 with
  | nx=>exact fun σ' H' fr'=>⟨B,E1,xs,Xs,E',fl,fr',cl,e,q⟩
  | bk=>cases e;exact q
  | ct=>cases e;exact q
  | rt r=>cases e;exact q
theorem ag (h1:SX X st g) (h2:qN X ce h):qN X (st::ce) (aP g h):=la (aK h1 h2) fun D σ H z=>vw z
theorem lv (he:EX X e m f) (hs:swapsWith e none pos.line X.env=pure false:=by rfl):SX X (.Expr e pos) (cu f):=ie (fW he hs) fun D σ H z=>by
  obtain ⟨B,E,xs,Xs,E',fl,fr,cl,e,q⟩:=z
  obtain ⟨⟨s,E1⟩,e1,e⟩:=Option.map_eq_some_iff.mp e
  cases e
  refine ⟨B,E,xs,Xs,s,E1,fr,fun _=>Calm.nil cl,e1,fun v H1 ⟨F,A,fr1⟩=>?_⟩
  obtain ⟨A',fr2⟩:=fr1.pop
  exact q _ _ ⟨F,A',fr2⟩
theorem cB (he:EX X e m f):SX X (.Return (some e) pos) (bQ f):=ie (iT he) fun D σ H z=>by
  obtain ⟨B,E,xs,Xs,E',fl,fr,cl,e,q⟩:=z
  obtain ⟨⟨s,E1⟩,e1,e⟩:=Option.bind_eq_some_iff.mp e
  refine ⟨B,E,xs,Xs,s,E1,fr,fun _=>Calm.nil cl,e1,fun v H1 ⟨F,A,fr1⟩=>?_⟩
  simp only at e
  split at e
  · obtain ⟨s',es,e⟩:=Option.map_eq_some_iff.mp e
    cases e
    exact q σ _ _ (fr1.move es)
  · cases e
    exact q σ _ _ ⟨F,A,fr1⟩
theorem eL (hc:TX X c m t) (ha:qN X a g) (hb:qN X b h):SX X (.If c a b pos) (bU t g h):=ie (jg hc ha hb) fun D σ H z=>by
  obtain ⟨B,E,xs,Xs,E',fl,fr,cl,e,q⟩:=z
  obtain ⟨⟨b1,E1⟩,e1,e⟩:=Option.bind_eq_some_iff.mp e
  refine ⟨B,E,xs,Xs,b1,E1,fr,fun _=>Calm.nil cl,e1,fun H1 fr1=>?_⟩
  cases b1 with
  | true=>exact (if_pos rfl).mpr ⟨B,E1,xs,Xs,E',fl,fr1,cl,e,q⟩
  | false=>exact (if_neg (by decide)).mpr ⟨B,E1,xs,Xs,E',fl,fr1,cl,e,q⟩
theorem aY (i:Nat) {x:Str} {pos':Pos} (hN:X.N.Nodup) (he:EX X e m f) (hi:X.N[i]? =some x:=by rfl) (hx:sr X.env.scope x:=by first | exact Or.inl rfl | exact Or.inr rfl) (hs:swapsWith e (some (.Name x pos')) pos.line X.env=pure false:=by rfl) (hf:X.fn x=true∨X.env.scope.names.lookup x=some .local:=by first | exact .inl rfl | exact .inr rfl | assumption):
    SX X (.Assign [.Name x pos'] e pos) (aR i f):=ie (dF hN hi hx he hs hf) fun D σ H z=>by
  obtain ⟨B,E,xs,Xs,E',fl,fr,cl,e,q⟩:=z
  obtain ⟨⟨s,E1⟩,e1,e⟩:=Option.bind_eq_some_iff.mp e
  obtain ⟨⟨s',E2⟩,e2,e⟩:=Option.bind_eq_some_iff.mp e
  refine ⟨B,E,xs,Xs,s,E1,fr,fun _=>Calm.nil cl,e1,fun v H1 ⟨F,A,fr1⟩=>?_⟩
  obtain ⟨c1,F2,A2,fr2⟩:=fr1.settle cl e2
  simp only at e
  split at e
  · rename_i hi
    cases e
    obtain ⟨A3,fr3⟩:=fr2.store c1 (Still.nil cl) hi
    exact q _ _ ⟨F2,A3,fr3⟩
  · cases e
end
end PL
namespace PL
open PySem L2 Nh
abbrev iR:=PyData→List Sl→Option (List Sl)
abbrev mB:=List PyData→List Sl→Option (List Sl)
def rg (K:PySem.W.Frag) (h:iR):TG:=fun v σ H Q=>∃B E xs Xs d E',Frm K B σ H E (v::xs) (.sh d::Xs)∧Still Xs∧h d E=some E'∧∀σ' H',Frm K B σ' H' E' xs Xs→Q σ' H'
def yh (K:PySem.W.Frag) (h:mB):sx:=fun vs σ H Q=>∃B E xs Xs ds E',vs.length=ds.length∧Frm K B σ H E (vs++xs) (ds.map .sh++Xs)∧Still Xs∧h ds E=some E'∧∀σ' H',Frm K B σ' H' E' xs Xs→Q σ' H'
def GX (X:Cx) (e:Expr) (h:iR):Prop:=PG X e (rg X.K h)
def xh (X:Cx) (es:List Expr) (h:mB):Prop:=uQ X es (yh X.K h)
def aG (i:Nat):iR:=fun d E=>if i < E.length then some (E.set i (.sh d)) else none
def cw:mB:=fun ds E=>if ds.isEmpty then some E else none
def a_ (h:iR) (hs:mB):mB:=fun ds E=>match ds with
  | d::ds=>(h d E).bind (hs ds)
  | []=>none
def cA (n:Nat) (hs:mB):iR:=fun d E=>match d with
  | .tuple ds=>if ds.length=n then hs ds E else none
  | _=>none
section
variable {X:Cx}
theorem re {e:Expr} {t t':TG} (h:PG X e t) (k:∀v σ H Q,t' v σ H Q→t v σ H Q):PG X e t':=fun pins s σ H v u Q I r q=>h pins s σ H v u Q I r (k v σ H Q q)
theorem oN {es:List Expr} {t t':sx} (h:uQ X es t) (k:∀v σ H Q,t' v σ H Q→t v σ H Q):uQ X es t':=fun pins s σ H v u Q I r q=>h pins s σ H v u Q I r (k v σ H Q q)
theorem dM (i:Nat) {x:Str} {pos:Pos} (hN:X.N.Nodup) (hi:X.N[i]? =some x:=by rfl) (hx:sr X.env.scope x:=by first | exact Or.inl rfl | exact Or.inr rfl) (hf:X.fn x=true∨X.env.scope.names.lookup x=some .local:=by first | exact .inl rfl | exact .inr rfl | assumption):GX X (.Name x pos) (aG i):=re (gm hN hi hx hf) fun v σ H Q z=>by
  obtain ⟨B,E,xs,Xs,d,E',⟨F,A,fr⟩,cl,e,q⟩:=z
  unfold aG at e
  split at e
  · rename_i hi
    cases e
    obtain ⟨A',fr'⟩:=fr.store rfl cl hi
    exact q _ _ ⟨F,A',fr'⟩
  · cases e
theorem ly:xh X [] cw:=oN kQ fun v σ H Q z=>by
  obtain ⟨B,E,xs,Xs,ds,E',hl,fr,cl,e,q⟩:=z
  unfold cw at e
  split at e
  · rename_i hd
    cases e
    have:ds=[]:=by simpa using hd
    subst this
    have hv:v=[]:=by simpa using hl
    subst hv
    exact ⟨rfl,q _ _ fr⟩
  · cases e
theorem gh {e:Expr} {es:List Expr} {h:iR} {hs:mB} (h1:GX X e h) (h2:xh X es hs) (hst:(assignEach (e::es) X.env).map (·.2)=assign e X.env::(assignEach es X.env).map (·.2):=by rfl):xh X (e::es) (a_ h hs):=oN (gJ h1 h2 hst) fun v σ H Q z=>by
  obtain ⟨B,E,xs,Xs,ds,E',hl,fr,cl,e,q⟩:=z
  cases ds with
  | nil=>cases e
  | cons d ds=>
    cases v with
    | nil=>cases hl
    | cons v vs=>
      obtain ⟨E1,e1,e2⟩:=Option.bind_eq_some_iff.mp e
      refine ⟨v,vs,rfl,B,E,vs++xs,ds.map Sl.sh++Xs,d,E1,fr,fun s hs=>?_,e1,fun σ1 H1 fr1=>⟨B,E1,xs,Xs,ds,E',by simpa using hl,fr1,cl,e2,q⟩⟩
      rcases List.mem_append.mp hs with hs | hs
      · obtain ⟨d',_,rfl⟩:=List.mem_map.mp hs
        rfl
      · exact cl s hs
theorem nJ {es:List Expr} {k:Nat} {pos:Pos} {hs:mB} {n:Nat} (hc:X.calm=true) (h:xh X es hs) (hn:(assignEach es X.env).length=n:=by rfl) (hst:(assignEach es X.env).findIdx? (·.1)=none:=by rfl):GX X (.Tuple es k pos) (cA n hs):=re (m7 hc h hn hst) fun v σ H Q z=>by
  obtain ⟨B,E,xs,Xs,d,E',⟨F,A,fr⟩,cl,e,q⟩:=z
  unfold cA at e
  split at e
  · rename_i ds
    split at e
    · rename_i hl
      obtain ⟨v',A1,ev,rfl,w,ew,r⟩:=fr.ext (k:=0) rfl
      cases ev;cases ew
      cases r with
      | tup h1 h2=>
        obtain ⟨A',fr'⟩:=fr.pop
        have key:∀{us:List V} {es:List PyData},RpA X.K F us es→FrF X.K B F A' σ H E (us++xs) (es.map .sh++Xs):=fun {us es} r=>by
          induction us generalizing es with
          | nil=>cases r;exact fr'
          | cons u us ih=>
            cases r with
            | cons r1 r2=>exact (ih r2).push ⟨rfl,_,rfl,r1⟩
        exact ⟨_,_,rfl,fr.fh.tup h1,by rw [h2.len];exact hl,B,E,xs,Xs,ds,E',h2.len,⟨F,A',key h2⟩,cl,e,q⟩
    · cases e
  · cases e
end
def fw (f:aV) (h:iR):fg:=fun E=>(f E).bind fun a=>(frz a.2 a.1).bind fun b=>(h b.1 b.2).map fun E'=>(E', .nx)
def bV (i:Nat) (fi fe:aV):fg:=fun E=>(fe E).bind fun a=>(frz a.2 a.1).bind fun b=>match b.2[i]? with
  | some (.ow _)=>(fi b.2).bind fun c=>match look c.2 c.1,c.2[i]? with
    | some (.int k),some (.ow ds)=>(uZ ds.length k).map fun j=>(c.2.set i (.ow (ds.set j b.1)), .nx)
    | _,_=>none
  | _=>none
def mC (K:PySem.W.Frag) (B0:Hp) (J:It) (ds:List PyData):Prop:=∀{B F:Hp} {A:List Addr} {σ:iF} {H:Hp} {E:List Sl} {xs:List V} {Xs:List Sl} (i:Nat),Same B0 B→FrF K B F A σ H E xs Xs→
  (∀d,ds[i]? =some d→J.go i H∧∀x H2,J.yld i H x H2→Frm K B σ H2 E (x::xs) (.sh d::Xs))∧(i=ds.length→J.stop i H)
def ri (K:PySem.W.Frag) (m:Bool) (f:iY):TI:=fun σ H R=>∃B E xs Xs ds E',Frm K B σ H E xs Xs∧(m=true→Calm Xs)∧f E=some (ds,E')∧∀B' J H',Same B B'→Frm K B' σ H' E' xs Xs→mC K B' J ds→R J H'
def IX (X:Cx) (tg e:Expr) (m:Bool) (f:iY):Prop:=PI X tg e (ri X.K m f)
theorem FrF.base {K:PySem.W.Frag} {B B' F:Hp} {A:List Addr} {σ:iF} {H:Hp} {E:List Sl} {xs:List V} {Xs:List Sl} (h:FrF K B' F A σ H E xs Xs) (s:Same B B'):FrF K B F A σ H E xs Xs:=⟨s.trans h.bf,h.fh,h.tf,h.sl,h.nd,h.fr,h.len,h.pl⟩
theorem Frm.base {K:PySem.W.Frag} {B B':Hp} {σ:iF} {H:Hp} {E:List Sl} {xs:List V} {Xs:List Sl} (h:Frm K B' σ H E xs Xs) (s:Same B B'):Frm K B σ H E xs Xs:=let ⟨F,A,h⟩:=h;⟨F,A,h.base s⟩
theorem FrF.raise {K:PySem.W.Frag} {B F:Hp} {A:List Addr} {σ:iF} {H:Hp} {E:List Sl} {xs:List V} {Xs:List Sl} (h:FrF K B F A σ H E xs Xs):FrF K F F A σ H E xs Xs:=⟨Same.refl _,h.fh,h.tf,h.sl,h.nd,h.fr,h.len,h.pl⟩
def fz (f:aV):iY:=fun E=>(f E).bind fun a=>(frz a.2 a.1).bind fun b=>match b.1 with
  | .list ds=>some (ds,b.2)
  | _=>none
def ir (lo:Int) (n:Nat):List PyData:=(List.range n).map fun (k:Nat)=> .int (lo+(k:Int))
def ba (g:kx):iY:=fun E=>(g E).bind fun a=>match bt a.2 a.1 with
  | some [.int j]=>if -1000000≤j∧j≤1000000 then some (ir 0 j.toNat,a.2) else none
  | _=>none
def bW (g:kx):iY:=fun E=>(g E).bind fun a=>match bt a.2 a.1 with
  | some [.int i, .int j]=>if -1000000≤i∧i≤1000000∧ -1000000≤j∧j≤1000000 then some (ir i (j - i).toNat,a.2) else none
  | _=>none
def cH (f:aV):iY:=fun E=>(f E).bind fun a=>(frz a.2 a.1).bind fun b=>match b.1 with
  | .list ds=>some (ds.reverse,b.2)
  | _=>none
section
variable {X:Cx} {tg e e2:Expr} {m:Bool} {f:aV} {g:kx} {p pos:Pos} {K:PySem.W.Frag} {B:Hp}
theorem lz {t t':TI} (h:PI X tg e t) (k:∀σ H Q,t' σ H Q→t σ H Q):PI X tg e t':=fun pins s σ H R I q=>h pins s σ H R I (k σ H R q)
theorem pW {a:Addr} {vs:List V} {ds:List PyData} (h:SqL K B a vs) (r:RpA K B vs ds):mC K B (vV K a) ds:=fun {B' F A σ H E xs Xs} i sB fr=>by
  have hH:=fr.fh.seq (fr.bf.seq (sB.seq h))
  refine ⟨fun d ed=>?_,fun e=>⟨vs,hH,by rw [e,r.len];exact Nat.le_refl _⟩⟩
  obtain ⟨v,ev,rv⟩:=r.get ed
  refine ⟨⟨vs,v,hH,ev⟩,fun x H2 ⟨e2,y⟩=>?_⟩
  subst e2
  have:=y vs hH
  rw [ev] at this
  cases this
  exact ⟨F,A,fr.push ⟨rfl,_,rfl,rv.same (sB.trans fr.bf)⟩⟩
theorem rf {a:Addr} {vs:List V} {ds:List PyData} (h:SqL K B a vs) (r:RpA K B vs ds):mC K B (xw K a vs) ds.reverse:=fun {B' F A σ H E xs Xs} i sB fr=>by
  have hH:=fr.fh.seq (fr.bf.seq (sB.seq h))
  refine ⟨fun d ed=>?_,fun e=>⟨hH,by rw [e,List.length_reverse,r.len]⟩⟩
  obtain ⟨v,ev,rv⟩:=r.rev.get ed
  have hi:i < vs.length:=by
    have:=(List.getElem?_eq_some_iff.mp ev).1
    simpa using this
  refine ⟨⟨hH,hi⟩,fun x H2 ⟨e2,y⟩=>?_⟩
  subst e2
  rw [ev] at y
  cases y
  exact ⟨F,A,fr.push ⟨rfl,_,rfl,rv.same (sB.trans fr.bf)⟩⟩
theorem nK {lo:Int} {n:Nat}:mC K B (wY lo n) (ir lo n):=fun {B' F A σ H E xs Xs} i sB fr=>by
  have hl:(ir lo n).length=n:=by simp [ir]
  refine ⟨fun d ed=>?_,fun e=>?_⟩
  · have hi:i < n:=by have:=(List.getElem?_eq_some_iff.mp ed).1;omega
    refine ⟨hi,fun x H2 ⟨e2,y⟩=>?_⟩
    subst e2 y
    have:d= .int (lo+i):=by
      unfold ir at ed
      rw [List.getElem?_map,List.getElem?_range hi] at ed
      exact (Option.some.inj ed).symm
    subst this
    exact ⟨F,A,fr.push ⟨rfl,_,rfl, .int _⟩⟩
  · show n≤i
    omega
theorem vz (hg:Gl X "reversed") (hm:X.mg "reversed"=none) (he:EX X e m f) (hs:starEach [e] X.env=[(false,eval e X.env)]:=by rfl):IX X tg (.Call (.Name "reversed" p) [e] [] pos) m (cH f):=lz (u7 hg hm (be he bP hs) hs) fun σ H R z=>by
  obtain ⟨B,E,xs,Xs,ds,E',fr,cl,e,q⟩:=z
  obtain ⟨⟨s,E1⟩,e1,e⟩:=Option.bind_eq_some_iff.mp e
  obtain ⟨⟨d,E2⟩,e2,e⟩:=Option.bind_eq_some_iff.mp e
  refine ⟨B,E,xs,Xs,s,E1,fr,cl,e1,fun v H1 ⟨F,A,fr1⟩=>?_⟩
  obtain ⟨F2,A2,fr2⟩:=fr1.frz0 e2
  simp only at e
  split at e
  · cases e
    obtain ⟨v',A1,ev,rfl,w,ew,r⟩:=fr2.ext (k:=0) rfl
    cases ev;cases ew
    cases r with
    | lst h1 h2=>
      obtain ⟨A3,fr3⟩:=fr2.pop
      exact ⟨_,_,rfl,fr2.fh.seq h1,q F2 _ _ fr2.bf ⟨F2,A3,fr3.raise⟩ (rf h1 h2)⟩
  · cases e
theorem g_ (hg:Gl X "range") (hm:X.mg "range"=none) (ha:AX X [e] m g) (hs:starEach [e] X.env=[(false,eval e X.env)]:=by rfl):IX X tg (.Call (.Name "range" p) [e] [] pos) m (ba g):=lz (pH hg hm ha hs) fun σ H R z=>by
  obtain ⟨B,E,xs,Xs,ds,E',fr,cl,e,q⟩:=z
  obtain ⟨⟨rs,E1⟩,e1,e⟩:=Option.bind_eq_some_iff.mp e
  refine ⟨B,E,xs,Xs,rs,E1,fr,cl,e1,fun vs H1 hl ⟨F,A,fr1⟩=>?_⟩
  simp only at e
  split at e
  · rename_i j ld
    split at e
    · rename_i hj
      cases e
      obtain ⟨r,A',fr2⟩:=fr1.looks hl ld
      obtain ⟨v,rfl,r'⟩:=r.one
      cases r'
      exact ⟨j,rfl,by omega,by omega,q B _ _ (Same.refl _) ⟨F,A',fr2⟩ nK⟩
    · cases e
  · cases e
end
def cI (tg:iR) (body:fg):List PyData→fg
  | [],E=>some (E, .nx)
  | d::ds,E=>((tg d E).bind body).bind fun a=>match a.2 with
    | .nx=>cI tg body ds a.1
    | .ct=>cI tg body ds a.1
    | .bk=>some (a.1, .nx)
    | .rt r=>some (a.1, .rt r)
def dv (it:iY) (tg:iR) (body:fg):fg:=fun E=>(it E).bind fun a=>cI tg body a.1 a.2
theorem gw {X:Cx} {tg iter:Expr} {body:List Stmt} {m:Bool} {it:iY} {g:iR} {b:fg} {pos:Pos} (hp:PassesOwn (model X.prog X.w) X.A X.env X.xe) (hc:X.calm=true) (hi:IX X tg iter m it) (hg:GX X tg g) (hb:qN X body b)
    (hs:∀x,foldedSetIterable iter X.env x=pure x:=by intro _;rfl):SX X (.For tg iter body [] pos) (dv it g b):=ie (kR hp hc hi hg hb hs) fun D σ H z=>by
  obtain ⟨B,E,xs,Xs,E',fl,fr,cl,e,q⟩:=z
  obtain ⟨⟨ds,E1⟩,e1,e⟩:=Option.bind_eq_some_iff.mp e
  refine ⟨B,E,xs,Xs,ds,E1,fr,fun _=>Calm.nil cl,e1,fun B' J H1 hB fr1 ok=>?_⟩
  refine ⟨fun i mm σ' H'=>mm=ds.length - i∧i≤ds.length∧∃Ei,cI g b (ds.drop i) Ei=some (E',fl)∧Frm X.K B' σ' H' Ei xs Xs,⟨ds.length,by simp,Nat.zero_le _,E1,by simpa using e,fr1⟩,?_⟩
  rintro i mm σ' H' ⟨rfl,hi,Ei,ei,F,A,fri⟩
  obtain ⟨go,stop⟩:=ok i (Same.refl _) fri
  by_cases hlt:i < ds.length
  · obtain ⟨d,ed⟩:∃d,ds[i]? =some d:=⟨ds[i],List.getElem?_eq_getElem hlt⟩
    obtain ⟨g1,yl⟩:=go d ed
    have edr:ds.drop i=d::ds.drop (i+1):=by
      rw [List.drop_eq_getElem_cons hlt]
      congr 1
      exact Option.some.inj ((List.getElem?_eq_getElem hlt).symm.trans ed)
    rw [edr] at ei
    obtain ⟨⟨E2,f2⟩,e2,ei⟩:=Option.bind_eq_some_iff.mp ei
    obtain ⟨E3,e3,e2⟩:=Option.bind_eq_some_iff.mp e2
    refine .inr ⟨g1,fun σ2 H2=>∃Ej,cI g b (ds.drop (i+1)) Ej=some (E',fl)∧Frm X.K B' σ2 H2 Ej xs Xs,fun σ2 H2 ⟨Ej,ej,frj⟩=>⟨ds.length - (i+1),by omega,rfl,hlt,Ej,ej,frj⟩,fun x H2 y=>?_⟩
    refine ⟨B',Ei,xs,Xs,d,E3,yl x H2 y,Still.nil cl,e3,fun σ3 H3 fr3=>?_⟩
    refine ⟨B',E3,xs,Xs,E2,f2,fr3,cl,e2,?_⟩
    cases f2 with
    | nx=>exact fun σ4 H4 fr4=>⟨E2,ei,fr4⟩
    | ct=>exact fun σ4 H4 fr4=>⟨E2,ei,fr4⟩
    | bk=>cases ei;exact fun σ4 H4 fr4=>q _ _ (fr4.base hB)
    | rt r=>cases ei;exact fun σ4 v H4 fr4=>q _ _ _ (fr4.base hB)
  · have e0:i=ds.length:=by omega
    refine .inl ⟨stop e0,?_⟩
    rw [e0,List.drop_length] at ei
    cases ei
    exact q _ _ (Frm.base ⟨F,A,fri⟩ hB)
def ck:Sl→Bool
  | .sh d=>b7 d
  | .ow ds=>ar ds
  | .tx ps=>ps.all fun p=>match p with | .fl d=>b7 d | .ol ds=>ar ds
  | .od kvs=>kvs.all fun p=>ar p.2
  | _=>false
def bu (n:Nat) (ds:List PyData):List Sl:=ds.map .sh++List.replicate (n - ds.length) .no
def dP (r:Sl):Option Sl:=if ck r then some r else match r with
  | .sh d=>some (.br d)
  | .ow ds=>some (.br (.list ds))
  | .tx ps=>some (.br (.tuple (ps.map Pt.val)))
  | .br d=>some (if b7 d then .sh d else .br d)
  | _=>none
def eX (n:Nat) (g:fg):List PyData→Option Sl:=fun ds=>(g (bu n ds)).bind fun a=>match a.2 with
  | .rt r=>dP r
  | .nx=>some (.sh .none)
  | _=>none
section
variable {K:PySem.W.Frag} {B F:Hp} {A:List Addr} {σ:iF} {H:Hp} {E:List Sl} {v:V} {r:Sl}
theorem DlOk.cold {F H:Hp} (sF:Same F H):∀{us:List (bN×V)} {kvs:List (bN×List PyData)} {A:List Addr},(∀p∈kvs,ar p.2=true)→DlOk K F H us kvs A→DlOk K (tups H) H us kvs A
  | [],[],A,_,h=>h
  | p::us,q::kvs,A,c,h=>by
    obtain ⟨l,vs,A',rfl,rfl,hl,hr,k⟩:=h
    exact ⟨l,vs,A',rfl,rfl,hl,(hr.same sF).cold (c q (List.mem_cons_self ..)),DlOk.cold sF (fun p hp=>c p (List.mem_cons_of_mem _ hp)) k⟩
  | [],_::_,_,_,h=>False.elim h
  | _::_,[],_,_,h=>False.elim h
theorem PtsOk.cold {F H G:Hp} (sF:Same F H) (tG:∀{v:V} {d:PyData},Rp K F v d→b7 d=true→Rp K G v d):∀{vs:List V} {ps:List Pt} {A:List Addr},(∀p∈ps,(match p with | .fl d=>b7 d | .ol ds=>ar ds)=true)→PtsOk K F H vs ps A→PtsOk K G H vs ps A
  | [],[],A,_,h=>h
  | v::vs, .fl d::ps,A,c,h=>⟨tG h.1 (c (.fl d) (List.mem_cons_self ..)),PtsOk.cold sF tG (fun p hp=>c p (List.mem_cons_of_mem _ hp)) h.2⟩
  | v::vs, .ol ds::ps,A,c,h=>by
    obtain ⟨l,us,A',rfl,rfl,hl,hr,q⟩:=h
    refine ⟨l,us,A',rfl,rfl,hl,?_,q.cold sF tG fun p hp=>c p (List.mem_cons_of_mem _ hp)⟩
    have cd:ar ds=true:=c (.ol ds) (List.mem_cons_self ..)
    have key:∀{us:List V} {ds:List PyData},RpA K F us ds→ar ds=true→RpA K G us ds:=fun {us ds} r c=>by
      induction us generalizing ds with
      | nil=>cases r;exact .nil
      | cons u us ih=>
        cases r with
        | cons r1 r2=>
          simp only [ar,Bool.and_eq_true] at c
          exact .cons (tG r1 c.1) (ih r2 c.2)
    exact key hr cd
  | [],_::_,_,_,h=>False.elim h
  | _::_,[],_,_,h=>False.elim h
theorem FrF.result (h:FrF K B F A σ H E [v] [r]) (c:ck r=true):Same B H∧oM K B H v r:=by
  refine ⟨h.bf.trans h.fh,?_⟩
  have nB:∀a,F a=none→B a=none:=fun a e=>h.bf.free e
  have cold:∀{v:V} {d:PyData},Rp K F v d→b7 d=true→Rp K (tups H) v d:=fun r f=>(r.same h.fh).cold f
  obtain ⟨v',A1,ev,hs⟩:=h.ext (k:=0) rfl
  cases ev
  obtain ⟨o,C0,C1,C2,eA,eo,hp,_⟩:=h.sl.at (k:=0) (s:=r) rfl
  cases eo
  have sub:∀a∈C1,F a=none:=fun a ha=>h.fr a (by rw [eA];simp [ha])
  have nd:C1.Nodup:=by
    have:=h.nd
    rw [eA] at this
    exact (List.nodup_append.mp (List.nodup_append.mp this).2.1).1
  cases r with
  | sh d=>obtain ⟨_,w,ew,r⟩:=hp;cases ew;exact cold r c
  | ow ds=>
    obtain ⟨l,vs,el,rfl,hl,r⟩:=hp
    cases el
    exact ⟨l,vs,rfl,nB l (sub l (by simp)),hl,(r.same h.fh).cold c⟩
  | tx ps=>
    obtain ⟨t,vs,et,ht,r⟩:=hp
    cases et
    exact ⟨t,vs,C1,rfl,gr (h.fh _ _ ht) rfl,nd,fun a ha=>nB a (sub a ha),r.cold h.fh cold (by simpa [ck,List.all_eq_true] using c)⟩
  | no=>cases c
  | od kvs=>
    obtain ⟨l,us,A',el,rfl,hl,r⟩:=hp
    cases el
    exact ⟨l,us,A',rfl,nd,fun a ha=>nB a (sub a ha),hl,r.cold h.fh (by simpa [ck,List.all_eq_true] using c)⟩
  | oi kvs=>cases c
  | al i=>cases c
  | br d=>cases c
theorem FrF.resultO {r':Sl} (h:FrF K B F A σ H E [v] [r]) (c:dP r=some r'):Same B H∧oM K B H v r':=by
  unfold dP at c
  split at c
  · rename_i hc
    cases c
    exact h.result hc
  · refine ⟨h.bf.trans h.fh,?_⟩
    cases r with
    | sh d=>cases c;exact (h.look0 (d:=d) rfl).1
    | ow ds=>cases c;exact (h.look0 (d:= .list ds) rfl).1
    | tx ps=>cases c;exact (h.look0 (d:= .tuple (ps.map Pt.val)) rfl).1
    | br d=>
      have r:=(h.look0 (d:=d) rfl).1
      simp only at c
      split at c
      · rename_i hf
        cases c
        exact r.cold hf
      · cases c
        exact r
    | no=>cases c
    | od kvs=>cases c
    | oi kvs=>cases c
    | al i=>cases c
theorem oO {N:List Str} {vs:List V} {ds:List PyData} (r:RpA K H vs ds) (hn:ds.length≤N.length):FrF K H H [] (L2.gM N vs) H (bu N.length ds) [] []:=by
  refine ⟨Same.refl _,Same.refl _,iX H,?_,List.nodup_nil,fun a ha=>(by cases ha),rfl,?_⟩
  · have l:=r.len
    unfold L2.gM bu
    rw [l]
    generalize N.length - ds.length=k
    have base:∀τ:iF,SAll (SlOk K H H τ) (List.replicate k none) (List.replicate k .no) []:=fun τ=>by
      induction k with
      | zero=>exact .nil
      | succ k ih=>exact .cons (A:=[]) rfl ih
    have key:∀(τ:iF) {us:List V} {es:List PyData},RpA K H us es→SAll (SlOk K H H τ) (us.map some++List.replicate k none) (es.map .sh++List.replicate k .no) []:=fun τ us es r=>by
      induction us generalizing es with
      | nil=>cases r;exact base τ
      | cons u us ih=>
        cases r with
        | cons r1 r2=>exact .cons (A:=[]) ⟨rfl,_,rfl,r1⟩ (ih _ r2)
    exact key _ r
  · intro s hs
    unfold bu at hs
    rcases List.mem_append.mp hs with hs | hs
    · obtain ⟨d,_,rfl⟩:=List.mem_map.mp hs
      rfl
    · rw [(List.mem_replicate.mp hs).2]
      rfl
end
def gc (k n:Nat) (g:fg):List PyData→Option Sl:=fun ds=>if ds.length=k then eX n g ds else none
theorem lA {P:Program} {w:World} {K:PySem.W.Frag} {mg:Str→Option Value} {base:Heap} {x:Str} {st:Stmt} {N ps:List Str} {k a n:Nat} {g:fg} (D:Def K mg x st ps) (S:FnScope N ps (am st)) (hpa:ps.length=a) (hNn:N.length=n) (hps:a≤n)
    (hbody:∀(f:Addr) (cdv:Value) (A:Around) (outer:List Env) (s:Shared) (H:Hp) (E:XK),Room k (A.deeper (PyProof.Rows.envOfC x (am st) s.heap.objs.size f cdv))→
      qN (kT qm P w K mg base N x (am st) f cdv A outer s H E).nox (dJ st) g):Own P w K mg base (k+1) x ps (hU K (gc a n g)):=by
  subst hpa hNn
  refine D.own S (fun vs H Q E h=>?_) (fun f cdv A outer s H vs Q E hr h=>?_)
  · obtain ⟨ds,r,e,rp,_⟩:=h
    unfold gc at e
    split at e
    · rename_i hl
      rw [rp.len];exact hl
    · cases e
  obtain ⟨ds,r,e,rp,q⟩:=h
  unfold gc at e
  split at e
  · rename_i hl
    refine ⟨_,hbody f cdv A outer s H E hr,?_⟩
    obtain ⟨⟨E',fl⟩,e1,e⟩:=Option.bind_eq_some_iff.mp e
    refine ⟨H,bu N.length ds,[],[],E',fl,⟨H,[],oO rp (by omega)⟩,rfl,e1,?_⟩
    cases fl with
    | nx=>
      cases e
      rintro σ' H' ⟨F',A',fr'⟩
      exact q _ _ (fr'.bf.trans fr'.fh) .non
    | bk=>cases e
    | ct=>cases e
    | rt r'=>
      rintro σ' v H' ⟨F',A',fr'⟩
      obtain ⟨s1,s2⟩:=fr'.resultO e
      exact q v H' s1 s2
  · cases e
theorem yi {P:Program} {w:World} {K:PySem.W.Frag} {mg:Str→Option Value} {base:Heap} {x:Str} {st:Stmt} {N ps:List Str} {k a n:Nat} {g:fg} {f0:Addr} {fd:FuncData} (D:Fun K x x st f0 fd) (S:FnScope N ps (am st)) (hpa:ps.length=a) (hNn:N.length=n) (hps:a≤n)
    (hbody:∀(cdv:Value) (A:Around) (outer:List Env) (s:Shared) (H:Hp) (E:XK),Room k (A.deeper (PyProof.Rows.envOfC x (am st) s.heap.objs.size f0 cdv))→
      qN (kT qm P w K mg base N x (am st) f0 cdv A outer s H E).nox (dJ st) g):FnOk P w K mg base qm (k+1) f0 fd ps (hU K (gc a n g)):=by
  subst hpa hNn
  refine D.ok S (fun vs H Q E h=>?_) (fun cdv A outer s H vs Q E hr h=>?_)
  · obtain ⟨ds,r,e,rp,_⟩:=h
    unfold gc at e
    split at e
    · rename_i hl
      rw [rp.len];exact hl
    · cases e
  obtain ⟨ds,r,e,rp,q⟩:=h
  unfold gc at e
  split at e
  · rename_i hl
    refine ⟨_,hbody cdv A outer s H E hr,?_⟩
    obtain ⟨⟨E',fl⟩,e1,e⟩:=Option.bind_eq_some_iff.mp e
    refine ⟨H,bu N.length ds,[],[],E',fl,⟨H,[],oO rp (by omega)⟩,rfl,e1,?_⟩
    cases fl with
    | nx=>
      cases e
      rintro σ' H' ⟨F',A',fr'⟩
      exact q _ _ (fr'.bf.trans fr'.fh) .non
    | bk=>cases e
    | ct=>cases e
    | rt r'=>
      rintro σ' v H' ⟨F',A',fr'⟩
      obtain ⟨s1,s2⟩:=fr'.resultO e
      exact q v H' s1 s2
  · cases e
theorem kC {K:PySem.W.Frag} {H:Hp}:∀ns:List Int,RpA K H (ns.map V.int) (ns.map PyData.int)
  | []=> .nil
  | n::ns=> .cons (.int n) (kC ns)
theorem vA {K:PySem.W.Frag} {H:Hp} {a:Addr} {ns:List Int} {c:List PyData→Option Sl} (e:c [.list (ns.map .int)]=some (.sh (.bool true))) (h:SqL K H a (ns.map V.int)):hU K c [.ref a] H (fun v _=>v= .bl true) fun _ _ _=>False:=
  ⟨_,_,e, .cons (.lst h (kC ns)) .nil,fun v H' _ r=>by
    have r':Rp K (tups H') v (.bool true):=r
    cases r'
    rfl⟩
end PL
namespace PL
open PySem L2 Nh
def rh (E:List Sl):Option Nat→Sl
  | none=> .no
  | some j=>match (E[j]?).bind Sl.val with
    | some d=> .sh d
    | none=> .no
def jP (js:List (Option Nat)) (E:List Sl):List Sl:=js.map (rh E)
def gS:iE:=fun E=>some (true,E)
def gU (tg:iR) (cond:iE) (elt:aV):List PyData→List Sl→Option (List PyData)
  | [],_=>some []
  | d::ds,E=>(tg d E).bind fun E1=>(cond E1).bind fun b=>if b.1 then (elt b.2).bind fun c=>(frz c.2 c.1).bind fun e=>(gU tg cond elt ds e.2).map fun r=>e.1::r else gU tg cond elt ds b.2
def iJ (js:List (Option Nat)) (it:iY) (tg:iR) (cond:iE) (elt:aV):aV:=fun E=>(it E).bind fun a=>(gU tg cond elt a.1 (jP js a.2)).bind fun ds=>if ar ds&&decide (ds.length≤1000000) then some (.ow ds,a.2) else none
section
variable {X:Cx} {elt target iter:Expr} {ifs:List Expr} {scope sc:Scope} {cl:List (Str×Addr)} {N:List Str} {pos:Pos} {js:List (Option Nat)} {K:PySem.W.Frag}
theorem rj {B F:Hp} {A:List Addr} {σ:iF} {H:Hp} {E:List Sl} {xs:List V} {Xs:List Sl} (fr:FrF K B F A σ H E xs Xs) (js:List (Option Nat)):FrF K H H [] (slots js σ) H (jP js E) [] []:=by
  refine ⟨Same.refl _,Same.refl _,iX H,?_,List.nodup_nil,fun a ha=>(by cases ha),rfl,fun s hs=>?_⟩
  · have key:∀(τ:iF) (ks:List (Option Nat)),SAll (SlOk K H H τ) (slots ks σ) (jP ks E) []:=fun τ ks=>by
      induction ks with
      | nil=>exact .nil
      | cons j ks ih=>
        refine .cons (A:=[]) ?_ ih
        cases j with
        | none=>exact rfl
        | some j=>
          show SlOk K H H τ _ (match (E[j]?).bind Sl.val with | some d=> .sh d | none=> .no) []
          cases ej:E[j]? with
          | none=>exact rfl
          | some s=>
            cases ev:s.val with
            | none=>simp only [Option.bind_some,ev];exact rfl
            | some d=>
              simp only [Option.bind_some,ev]
              obtain ⟨o,A1,eo,hs⟩:=fr.var ej
              obtain ⟨v,rfl,r,_⟩:=hs.val fr.fh ev
              refine ⟨rfl,v,?_,r⟩
              show (σ[j]?).join=some v
              rw [eo]
              rfl
    exact key _ js
  · obtain ⟨j,_,rfl⟩:=List.mem_map.mp hs
    cases j with
    | none=>rfl
    | some j=>
      simp only [rh]
      split <;> rfl
theorem pX {m2 m3:Bool} {tg:iR} {cond:iE} {el:aV} {tt:TT} (htt:∀σ H Q,rt K m2 cond σ H Q→tt σ H Q) {B B' F:Hp} {A:List Addr} {σ:iF} {H1:Hp} {E1:List Sl} {xs:List V} {Xs:List Sl} {ds rs:List PyData} {J:It} {Q:VK}
    (fr1:FrF K B F A σ H1 E1 xs Xs) (B2:Same B' H1) (ok:mC K B' J ds) (e2:gU tg cond el ds (jP js E1)=some rs) (hc:ar rs=true∧rs.length≤1000000) (q:∀v H',Frm K B σ H' E1 (v::xs) (.ow rs::Xs)→Q v H') (l:Addr) (hl:H1 l=none):
    ∃W:Nat→Nat→iF→Hp→Prop,(∃m,W 0 m (slots js σ) (upd H1 l (.lst [])))∧
  ∀i m σ' H',W i m σ' H'→(J.stop i H'∧Q (.ref l) H')∨(J.go i H'∧∃N:iF→Hp→Prop,(∀σ' H',N σ' H'→∃m',m' < m∧W (i+1) m' σ' H')∧∀x H2,J.yld i H' x H2→rg K tg x σ' H2 fun σ3 H3=>tt σ3 H3 fun b H4=>
    if b=true then rd K m3 el σ3 H4 fun y H5=>∃ys,H5 l=some (.lst ys)∧ys.length < sizeLine∧N σ3 (upd H5 l (.lst (ys++[y]))) else N σ3 H4):=by
  have fr0:=(rj fr1 js).newl (ds:=[]) .nil hl
  refine ⟨fun i mm σ' H'=>mm=ds.length - i∧i≤ds.length∧∃Ei acc ce,gU tg cond el (ds.drop i) Ei=some ce∧rs=acc++ce∧Frm K H1 σ' H' Ei [.ref l] [.ow acc],⟨ds.length,by simp,Nat.zero_le _,_,[],rs,by simpa using e2,rfl,⟨_,_,fr0⟩⟩,?_⟩
  rintro i mm σ' H' ⟨rfl,hi,Ei,acc,ce,ei,er,F',A',fri⟩
  obtain ⟨go,stop⟩:=ok i B2 fri
  by_cases hlt:i < ds.length
  · obtain ⟨d,ed⟩:∃d,ds[i]? =some d:=⟨ds[i],List.getElem?_eq_getElem hlt⟩
    obtain ⟨g1,yl⟩:=go d ed
    have edr:ds.drop i=d::ds.drop (i+1):=by
      rw [List.drop_eq_getElem_cons hlt]
      congr 1
      exact Option.some.inj ((List.getElem?_eq_getElem hlt).symm.trans ed)
    rw [edr] at ei
    obtain ⟨E3,e3,ei⟩:=Option.bind_eq_some_iff.mp ei
    obtain ⟨⟨b,E4⟩,e4,ei⟩:=Option.bind_eq_some_iff.mp ei
    refine .inr ⟨g1,fun σ2 H2=>∃Ej acc ce,gU tg cond el (ds.drop (i+1)) Ej=some ce∧rs=acc++ce∧Frm K H1 σ2 H2 Ej [.ref l] [.ow acc],fun σ2 H2 ⟨Ej,ac,rt,ej,er,frj⟩=>⟨ds.length - (i+1),by omega,rfl,hlt,Ej,ac,rt,ej,er,frj⟩,fun x H2 y=>?_⟩
    have clm:Calm [Sl.ow acc]:=Calm.cons (fun s hs=>absurd hs (by simp)) rfl
    refine ⟨H1,Ei,[.ref l],[.ow acc],d,E3,yl x H2 y,(fun s hs=>by rw [List.mem_singleton.mp hs];rfl),e3,fun σ3 H3 fr3=>htt _ _ _ ?_⟩
    refine ⟨H1,E3,[.ref l],[.ow acc],b,E4,fr3,fun _=>clm,e4,fun H4 fr4=>?_⟩
    cases b with
    | false=>
      rw [if_neg (by decide)]
      exact ⟨E4,acc,ce,ei,er,fr4⟩
    | true=>
      rw [if_pos rfl]
      obtain ⟨⟨s5,E5⟩,e5,ei⟩:=Option.bind_eq_some_iff.mp ei
      obtain ⟨⟨d6,E6⟩,e6,ei⟩:=Option.bind_eq_some_iff.mp ei
      obtain ⟨rest',e7,ei⟩:=Option.map_eq_some_iff.mp ei
      subst ei
      refine ⟨H1,E4,[.ref l],[.ow acc],s5,E5,fr4,fun _=>clm,e5,fun y5 H5 ⟨F5,A5,fr5⟩=>?_⟩
      obtain ⟨F6,A6,fr6⟩:=fr5.frz0 e6
      obtain ⟨v',C1,ev,rfl,w,ew,ry⟩:=fr6.ext (k:=0) rfl
      cases ev;cases ew
      obtain ⟨A7,fr7⟩:=fr6.pop
      -- the list under way is the one part that owns
      obtain ⟨bf,fh,tf,sl,nd,frn,len,pl⟩:=fr7
      generalize hT:List.map some [V.ref l]++σ3=T at sl
      generalize hS:[Sl.ow acc]++E6=S at sl
      cases sl with
      | nil=>cases hS
      | cons q0 r0=>
        injection hT with h1 hT
        injection hS with h2 hS
        subst h1 h2 hT hS
        obtain ⟨l',us,el,rfl,hl5,ru⟩:=q0
        cases el
        have lu:=ru.len
        refine ⟨us,hl5,mr (by rw [er] at hc;simp at hc;omega),E6,acc++[d6],rest',e7,by rw [er];simp,F6,_,bf,fun b o qb=>?_,?_, .cons (A:=[l]) ⟨l,us++[y5],rfl,rfl,aA,ru.snoc ry⟩ (r0.mono fun o s C hs hC qq=>qq.stay (Same.refl _) (fun b hb=>ai fun z=>?_) fun z=>?_),nd,frn,rfl,pl⟩
        · have lF:F6 l=none:=frn l (by simp)
          rw [ai (fun z=>by rw [z,lF] at qb;cases qb)]
          exact fh _ _ qb
        · rw [mn hl5];exact tf
        · have:=hC b hb
          rw [z] at this
          exact (List.nodup_cons.mp nd).1 this
        · have:=pl s hs
          cases s <;> simp [Sl.isAl,Sl.isBr] at this z
  · have e0:i=ds.length:=by omega
    refine .inl ⟨stop e0,?_⟩
    rw [e0,List.drop_length] at ei
    cases ei
    rw [List.append_nil] at er
    subst er
    obtain ⟨g1,g2⟩:=fri.result hc.1
    exact q _ _ (fr1.told g1 g2)
theorem oP {m m2 m3:Bool} {it:iY} {tg:iR} {cond:iE} {el:aV} {tt:TT} (htt:∀σ H Q,rt K m2 cond σ H Q→tt σ H Q) {σ:iF} {H:Hp} {Q:VK} (z:rd K m (iJ js it tg cond el) σ H Q):oE js (ri K m it) (rg K tg) tt (rd K m3 el) σ H Q:=by
  obtain ⟨B,E,xs,Xs,res,E',fr,cl,e,q⟩:=z
  obtain ⟨⟨ds,E1⟩,e1,e⟩:=Option.bind_eq_some_iff.mp e
  obtain ⟨rs,e2,e⟩:=Option.bind_eq_some_iff.mp e
  simp only at e
  split at e
  · rename_i hc
    cases e
    simp only [Bool.and_eq_true,decide_eq_true_eq] at hc
    exact ⟨B,E,xs,Xs,ds,_,fr,cl,e1,fun B' J H1 hB ⟨F,A,fr1⟩ ok l hl=>pX htt (fr1.base hB) (fr1.bf.trans fr1.fh) ok e2 hc q l hl⟩
  · cases e
theorem rk {m m3:Bool} {it:iY} {tg:iR} {el:aV} (C:CompOk X scope sc cl N js) (hc:X.calm=true) (hi:IX X target iter m it) (hg:∀C s₀ H₀ fp,GX (X.comp sc cl N C s₀ H₀ fp) target tg) (he:∀C s₀ H₀ fp,EX (X.comp sc cl N C s₀ H₀ fp) elt m3 el)
    (hs:∀x,foldedSetIterable iter X.env x=pure x:=by intro _;rfl):EX X (.ListComp elt [⟨target,iter,[],0⟩] scope pos) m (iJ js it tg gS el):=
  dl (sP (g:=rg X.K tg) (te:=rd X.K m3 el) C hc hi hg (fun _ _ _ _=>oD) he hs) fun σ H Q z=>oP (m2:=false) (fun σ H Q z=>by
    obtain ⟨B,E,xs,Xs,b,E',fr,cl,e,q⟩:=z
    cases e
    exact q _ fr) z
def cQ (f:aV):iY:=fun E=>(f E).bind fun a=>match look a.2 a.1 with
  | some (.list ds)=>some (ds,a.2)
  | _=>none
end
end PL
namespace PL
open PySem L2 Nh
def mD:PyData→Option bN
  | .int i=>some (.inl i)
  | .str x=>some (.inr x)
  | _=>none
theorem lB {d:PyData} {k:bN} (h:mD d=some k):d=u_ k:=by
  cases d <;> simp [mD] at h <;> subst h <;> rfl
section
variable {X:Cx} {K:PySem.W.Frag} {B F:Hp} {σ:iF} {H:Hp} {E:List Sl} {xs:List V} {Xs:List Sl}
theorem nM {v:V} {k:bN} (h:Rp K H v (u_ k)):v=kV k:=by
  cases k with
  | inl i=>cases h;rfl
  | inr x=>cases h;rfl
end
end PL
namespace PL
open PySem L2 Nh
section
variable {X:Cx} {elt target iter:Expr} {ifs:List Expr} {scope sc:Scope} {cl:List (Str×Addr)} {N:List Str} {pos:Pos} {js:List (Option Nat)} {K:PySem.W.Frag}
theorem SAll.app {P:Option V→Sl→List Addr→Prop}:∀{os os':List (Option V)} {ss ss':List Sl} {A A':List Addr},SAll P os ss A→SAll P os' ss' A'→SAll P (os++os') (ss++ss') (A++A')
  | _,_,_,_,_,_, .nil,h=>h
  | _,_,_,_,_,_, .cons h r,h'=>by rw [List.append_assoc];exact .cons h (r.app h')
theorem SAll.split {P:Option V→Sl→List Addr→Prop}:∀{os os':List (Option V)} {ss ss':List Sl} {A:List Addr},os.length=ss.length→SAll P (os++os') (ss++ss') A→∃A1 A2,A=A1++A2∧SAll P os ss A1∧SAll P os' ss' A2
  | [],_,[],_,A,_,h=>⟨[],A,rfl, .nil,h⟩
  | o::os,_,s::ss,_,_,l, .cons h r=>by
    obtain ⟨A1,A2,rfl,h1,h2⟩:=SAll.split (os:=os) (ss:=ss) (by simpa using l) r
    exact ⟨_,A2,by rw [List.append_assoc], .cons h h1,h2⟩
  | [],_,_::_,_,_,l,_=>by simp at l
  | _::_,_,[],_,_,l,_=>by simp at l
end
end PL
namespace PL
open PySem L2 Nh
theorem vB {K:PySem.W.Frag} {m:Bool} {i:Nat} {f:aV} {D:Ends} {σ:iF} {H:Hp} (z:rs K (aR i f) D σ H):rd K m f σ H fun v H1=>gd i v σ H1 D.nx:=by
  obtain ⟨B,E,xs,Xs,E',fl,fr,cl,e,q⟩:=z
  obtain ⟨⟨s,E1⟩,e1,e⟩:=Option.bind_eq_some_iff.mp e
  obtain ⟨⟨s',E2⟩,e2,e⟩:=Option.bind_eq_some_iff.mp e
  refine ⟨B,E,xs,Xs,s,E1,fr,fun _=>Calm.nil cl,e1,fun v H1 ⟨F,A,fr1⟩=>?_⟩
  obtain ⟨c1,F2,A2,fr2⟩:=fr1.settle cl e2
  simp only at e
  split at e
  · rename_i hi
    cases e
    obtain ⟨A3,fr3⟩:=fr2.store c1 (Still.nil cl) hi
    exact q _ _ ⟨F2,A3,fr3⟩
  · cases e
section
variable {X:Cx} {elt target iter:Expr} {scope sc:Scope} {cl:List (Str×Addr)} {N:List Str} {pos spos px:Pos} {js:List (Option Nat)} {x:Str}
theorem rn {m m3:Bool} {it:iY} {tg:iR} {el:aV} (i:Nat) (hN:X.N.Nodup) (C:CompOk X scope sc cl N js) (hc:X.calm=true) (h:IX X target iter m it) (hg:∀C s₀ H₀ fp,GX (X.comp sc cl N C s₀ H₀ fp) target tg) (he:∀C s₀ H₀ fp,EX (X.comp sc cl N C s₀ H₀ fp) elt m3 el)
    (hi:X.N[i]? =some x:=by rfl) (hx:sr X.env.scope x:=by first | exact Or.inl rfl | exact Or.inr rfl) (hf:X.fn x=true∨X.env.scope.names.lookup x=some .local:=by first | exact .inl rfl | exact .inr rfl | assumption)
    (hs:∀x,foldedSetIterable iter X.env x=pure x:=by intro _;rfl) (hsw:swapsWith (.ListComp elt [⟨target,iter,[],0⟩] scope pos) (some (.Name x px)) spos.line X.env=pure true:=by rfl):
    SX X (.Assign [.Name x px] (.ListComp elt [⟨target,iter,[],0⟩] scope pos) spos) (aR i (iJ js it tg gS el)):=
  ie (sQ (g:=rg X.K tg) (te:=rd X.K m3 el) C hc (gm hN hi hx hf) h hg (fun _ _ _ _=>oD) he hs hsw) fun D σ H z=>oP (m2:=false) (fun σ H Q z=>by
    obtain ⟨B,E,xs,Xs,b,E',fr,cl,e,q⟩:=z
    cases e
    exact q _ fr) (vB z)
end
def cR (ns:List Int):iY:=fun E=>some (ns.map .int,E)
end PL
namespace PL
open PySem L2 Nh
theorem cN {α:Type} (xs:List α) (k:Nat):atI xs (k:Int)=xs[k]? :=by
  unfold atI uZ
  rw [if_pos (by omega)]
  split
  · simp
  · rw [List.getElem?_eq_none (by omega)];rfl
theorem cS {α:Type} (a:α) (l:List α):atI (a::l) 0=some a:=cN (a::l) 0
theorem cT {α:Type} (a b:α) (l:List α):atI (a::b::l) 1=some b:=cN (a::b::l) 1
theorem cU {α:Type} (a b c:α) (l:List α):atI (a::b::c::l) 2=some c:=cN (a::b::c::l) 2
theorem aQ {α:Type} (l:List α) (a:α):atI (l++[a]) (-1)=some a:=by
  unfold atI uZ
  rw [if_neg (by omega),if_pos (by simp;omega)]
  have e:(-1+(((l++[a]).length:Nat):Int)).toNat=l.length:=by simp;omega
  rw [e]
  simp
theorem lC {α:Type} {xs:List α} {i:Int} (h:0≤i):atI xs i=xs[i.toNat]? :=by
  have e:i=((i.toNat:Nat):Int):=by omega
  rw [e,cN,Int.toNat_natCast]
theorem aS {α:Type} (l:List α) (a:α):(l++[a])[(l++[a]).length - 1]? =some a:=by simp
theorem bh {α:Type} (l:List α) (a:α):(l++[a]).isEmpty=false:=by cases l <;> rfl
theorem ah:∀(a b:List PyData),ar (a++b)=(ar a&&ar b)
  | [],b=>by simp [ar]
  | x::a,b=>by simp [ar,ah a b,Bool.and_assoc]
theorem kD:∀{a:List PyData},(∀d∈a,b7 d=true)→ar a=true
  | [],_=>rfl
  | x::a,h=>by simp [ar,h x (List.mem_cons_self ..),kD fun d hd=>h d (List.mem_cons_of_mem _ hd)]
theorem i3 {α:Type} {f:α→PyData} (h:∀a,b7 (f a)=true) (l:List α):ar (l.map f)=true:=kD fun d hd=>by
  obtain ⟨a,_,rfl⟩:=List.mem_map.mp hd
  exact h a
theorem aT (p:Pc):b7 (aq p)=true:=rfl
theorem au (c:List Pc):ar (c.map aq)=true:=i3 aT c
theorem aw (l:List Int):ar (l.map PyData.int)=true:=i3 (fun _=>rfl) l
theorem az (l:List Str):ar (l.map PyData.str)=true:=i3 (fun _=>rfl) l
def cutL {α:Type} (l:List α) (lo hi:Option Int):List α:=(l.drop (HT.iQ l.length 0 lo)).take (HT.iQ l.length l.length hi - HT.iQ l.length 0 lo)
theorem aC {α:Type} (f:α→PyData) (l:List α) (lo hi:Option Int):lq (l.map f) lo hi=(cutL l lo hi).map f:=by
  unfold lq cutL
  rw [List.length_map,List.map_take,List.map_drop]
theorem gi {α:Type} (l:List α) (lo hi:Option Int):(cutL l lo hi).length≤l.length:=by
  unfold cutL
  rw [List.length_take,List.length_drop]
  omega
theorem gj {α:Type} (l:List α) {m:Int} (h:0≤m):((cutL l none (some m)).length:Int)≤m:=by
  unfold cutL
  have e:m=((m.toNat:Nat):Int):=by omega
  have z:HT.iQ l.length l.length (some m)≤m.toNat:=by
    rw [e,HT.kU,Int.toNat_natCast]
    exact Nat.min_le_left _ _
  rw [List.length_take,List.length_drop]
  omega
theorem pY {α:Type} (l:List α) {k:Int} (h0:0≤k):cutL l none (some k)=l.take k.toNat:=by
  have e:k=((k.toNat:Nat):Int):=by omega
  have z:∀d,HT.iQ l.length d (some k)=min k.toNat l.length:=fun d=>by
    rw [e,HT.kU,Int.toNat_natCast]
  unfold cutL
  rw [z,HT.me,List.drop_zero,Nat.sub_zero]
  rcases Nat.le_total k.toNat l.length with h | h
  · rw [Nat.min_eq_left h]
  · rw [Nat.min_eq_right h,List.take_length,List.take_of_length_le h]
theorem i4 {α:Type} (l:List α) {k:Int} (h0:0≤k):cutL l (some k) none=l.drop k.toNat:=by
  have e:k=((k.toNat:Nat):Int):=by omega
  have z:∀d,HT.iQ l.length d (some k)=min k.toNat l.length:=fun d=>by
    rw [e,HT.kU,Int.toNat_natCast]
  unfold cutL
  rw [z,HT.me]
  rcases Nat.le_total k.toNat l.length with h | h
  · rw [Nat.min_eq_left h]
    exact List.take_of_length_le (by rw [List.length_drop];omega)
  · rw [Nat.min_eq_right h,List.drop_length,List.drop_of_length_le h,List.take_nil]
theorem gV {α:Type} {l:List α} {lo hi:Option Int} {x:α} (h:x∈cutL l lo hi):x∈l:=List.mem_of_mem_drop (List.mem_of_mem_take h)
theorem hE (lo:Int) (n:Nat):ir lo (n+1)= .int lo::ir (lo+1) n:=by
  unfold ir
  rw [List.range_succ_eq_map,List.map_cons,List.map_map]
  simp only [Int.natCast_zero,Int.add_zero]
  congr 1
  refine List.map_congr_left fun k _=>?_
  show PyData.int (lo+((k+1:Nat):Int))=PyData.int (lo+1+(k:Int))
  congr 1
  omega
end PL
namespace L2
open PySem PySem.Spec PyProof.Rows
section
variable {X:Cx} {pins:List (Addr×Obj)} {σ:L2.St} {H:Hp} {s:Shared} {h':Heap}
theorem Inv.turnedL {t':Nat} {fp:List Addr} (I:Inv X pins σ H s) (k:∀b o,b∉fp→s.heap.get? b=some o→h'.get? b=some o) (hf:∀b∈fp,j9 X pins H b):Inv X pins σ H {s with heap:=h',toks:=t'}:=by
  have nit:∀b u,H b=some u→b∉fp:=fun b u e z=>by rw [(hf b z).1] at e;cases e
  refine I.step (g':=s.gens) (d':=s.drawn) (ch:=fp) (fun b hb=>?_) (fun b o _ _ hc e _=>k b o hc e) (fun b o _ _ hc e _=>⟨o.slots,k b o hc e⟩) (fun _ _ _ _ n=>n)
    (fun b o hc e=>⟨o,k b o hc e⟩) (fun _ _ e=>e) (fun _ _ _ e=>e) (fun _ _ e=>e) (fun m hm=>?_) (fun b u e=>?_) I.bare
  · obtain ⟨f0,f1,f2,f3,f4,f5⟩:=hf b hb
    exact ⟨f3,f1,f4,f5⟩
  · obtain ⟨o,es,ep,ho,r⟩:=hm
    exact ⟨o,es,ep,k _ o (fun z=>(hf _ z).2.1 rfl) ho,r⟩
  · refine (I.hok b u e).stay (fun c v hc q=>k c v ?_ q) (fun _ q=>q) fun _ _ q=>q
    rcases hc with z | z
    · rw [z];exact nit b u e
    · exact nit c _ z
theorem nN {h:Heap} {o o':Obj} {c:Addr} (hc:c≠h.objs.size) (e:(h.push o').get? c=some o):h.get? c=some o:=(Heap.get?_push_cases e).elim (fun z=>absurd z.1 hc) id
theorem rq {t':Nat} {us:List Value} {vs:List V} (I:Inv X pins σ H s) (r:Vals vs us) (hz:vs.length≤sizeLine):
    Inv X pins σ (upd H s.heap.objs.size (.tup vs)) {s with heap:=s.heap.push {cls:= .type "tuple",data:= .seq us.toArray},toks:=t'}:=
  I.laid (fun b u e=>Heap.get?_push_of_some _ e) (Nat.le_refl _) ⟨hz,us,r,⟨_,Heap.get?_push_size _ rfl,rfl,_,rfl⟩⟩
end
def vX (K:PySem.W.Frag) (a:Addr) (xs:List V):It:=
  ⟨fun i H=>SqL K H a xs∧i < xs.length,fun i H x H'=>∃T u,H T=none∧xs[i]? =some u∧x= .ref T∧H'=upd H T (.tup [.int i,u]),fun i H=>SqL K H a xs∧i=xs.length⟩
theorem pZ {P:Program} {w:World} {K:PySem.W.Frag} {elts:List Expr} {k:Nat} {pos:Pos} {e it a:Addr} (hei:e≠it) (xs:List V):Turn P w K (.Tuple elts k pos) (vX K a xs) [e,it] e
    (fun i h=>(∃old,IsEnum h e it i old)∧h.IsListIter it a i) where
  mem:=by simp
  obj:=fun i h st c hc=>by
    obtain ⟨⟨old,h1⟩,⟨o4,h4,_,d4⟩⟩:=st
    simp only [List.mem_cons,List.not_mem_nil,or_false] at hc
    rcases hc with rfl | rfl
    · exact ⟨_,h1,fun v z=>by cases z⟩
    · exact ⟨_,h4,fun v z=>by rw [d4] at z;cases z⟩
  keep:=fun i h h' st kk=>by
    obtain ⟨⟨old,h1⟩,h4⟩:=st
    exact ⟨⟨old,kk e (by simp) _ h1⟩,h4.at fun o q=>kk it (by simp) o q⟩
  item:=by
    intro X hP hw hK hc i pins s σ H E I hf st hg
    subst hP hw hK
    obtain ⟨⟨old,h1⟩,h4⟩:=st
    obtain ⟨q1,l1⟩:=hg
    obtain ⟨its,rv,p,hz⟩:=I.list q1
    obtain ⟨u,hu⟩:∃u,xs[i]? =some u:=⟨xs[i],List.getElem?_eq_getElem l1⟩
    obtain ⟨u',hu',ru⟩:=rv.get hu
    refine wpAny_pyNext_enum_item h1 h4 p.isList (x:=u') (by simpa using hu') hei fun h' a1 a3 a5 a6 hk=>?_
    have I0:=rq (t':=s.toks+1) I (us:=[.int i s.toks,u']) (vs:=[.int i,u]) (.cons ⟨_,rfl⟩ (.cons ru .nil)) (by show 2≤sizeLine;decide)
    have hT:∀c∈[e,it],c≠s.heap.objs.size:=fun c hc ZE=>by
      have:c < s.heap.objs.size:=by
        simp only [List.mem_cons,List.not_mem_nil,or_false] at hc
        rcases hc with rfl | rfl
        · exact Heap.lt_size h1
        · obtain ⟨o,q,_⟩:=h4;exact Heap.lt_size q
      rw [ZE] at this;exact Nat.lt_irrefl _ this
    have hf2:∀c∈[e,it],j9 X pins (upd H s.heap.objs.size (.tup [.int i,u])) c:=fun c hc=>by
      obtain ⟨f0,f⟩:=hf c hc
      exact ⟨by rw [ai (hT c hc)];exact f0,f⟩
    have I1:=I0.turnedL (h':=h') (t':=s.toks+1) (fp:=[e,it]) (fun c o hc q=>by
      simp only [List.mem_cons,List.not_mem_nil,or_false,not_or] at hc
      by_cases ec:c=s.heap.objs.size
      · subst ec
        rw [Heap.get?_push_size _ rfl] at q
        cases q
        exact a5
      · have e':s.heap.get? c=some o:=by
          exact nN ec q
        exact hk c o hc.1 hc.2 e') hf2
    refine ⟨_,rfl,wpAny_letOwnedTupleGo_enum (s:={s with heap:=h',toks:=s.toks+1}) a1 fun h'' z'' s''=>?_⟩
    have I2:=I1.turnedL (h':=h'') (t':=s.toks+1) (fp:=[e,it]) (fun c o hc q=>(s''.2 c fun e'=>hc (by simp [e'])).trans q) hf2
    exact ⟨.ref s.heap.objs.size,_,I2,rfl,⟨_,u,I.hok.fresh (Nat.le_refl _),hu,rfl,rfl⟩,⟨⟨_,by simpa using z''⟩,a3.extBut s''.extBut (Ne.symm hei)⟩,fun c hc=>(hf2 c hc).1⟩
  done:=by
    intro X hP hw hK hc i pins s σ H E I hf st hg
    subst hP hw hK
    obtain ⟨⟨old,h1⟩,h4⟩:=st
    obtain ⟨q1,hi⟩:=hg
    obtain ⟨its,rv,p,hz⟩:=I.list q1
    have n1:=rv.length
    refine wpAny_pyNext_enum_end (I.ok.hd hc) h1 h4 p.isList (Array.getElem?_eq_none (by rw [List.size_toArray];omega)) fun h' hk=>⟨rfl,I.turnedL (t':=s.toks) (fp:=[e,it]) (fun c o hc q=>?_) hf⟩
    simp only [List.mem_cons,List.not_mem_nil,or_false,not_or] at hc
    exact hk c o hc.2 q
  self:=fun _ _ _ _ _ st h=>wpAny_pyIter_enum st.1.choose_spec h
def uq (K:PySem.W.Frag) (tl:TA):TI:=fun σ H R=>tl σ H fun vs H1=>∃a xs,vs=[.ref a]∧SqL K H1 a xs∧R (vX K a xs) H1
section
variable {X:Cx} {elts:List Expr} {kt:Nat} {pt:Pos}
theorem lD {l:Expr} {tl:TA} {p pos:Pos} (hg:Gl X "enumerate") (hm:X.mg "enumerate"=none) (ha:PA X [l] tl) (hs:starEach [l] X.env=[(false,eval l X.env)]:=by rfl):PI X (.Tuple elts kt pt) (.Call (.Name "enumerate" p) [l] [] pos) (uq X.K tl):=by
  intro pins s σ H R I h
  refine Call_ (iS I hg hm boot_enumerate (PyProof.Rows.callWith_type1 (en (ha pos pins s σ H _ I h) fun us s1 ⟨vs,H1,I1,r1,q1⟩=>?_) hs rfl))
  obtain ⟨a,xs,e,hq,q⟩:=q1
  subst e
  obtain ⟨u,rfl,ru⟩:=r1.one
  cases ru
  obtain ⟨its,rva,p1,hz⟩:=I1.list hq
  refine call_enumerate_list p1.isList fun h' z1 z2 z3 hk=>?_
  have I2:Inv X pins σ H1 {s1 with heap:=h'}:=I1.kept (t':=s1.toks) hk
  refine wpAny_pyIter_enum (s:={s1 with heap:=h'}) z1 ⟨_,[_,_],_,_,H1,rfl,I2,pZ (Nat.ne_of_gt (Nat.lt_succ_self _)) xs,⟨⟨_,z1⟩,z2⟩,fun c hc=>?_,q⟩
  have le:s1.heap.objs.size≤c:=by
    simp only [List.mem_cons,List.not_mem_nil,or_false] at hc
    rcases hc with rfl | rfl
    · exact Nat.le_succ _
    · exact Nat.le_refl _
  exact I1.fpOk le (I1.hok.fresh le)
end
def xi (x:Str):It:=⟨fun i _=>i < x.cps.toList.length,fun i H v H'=>H'=H∧∃c,x.cps.toList[i]? =some c∧v= .str ⟨#[c]⟩,fun i _=>i=x.cps.toList.length⟩
theorem rA {P:Program} {w:World} {K:PySem.W.Frag} {tg:Expr} {it:Addr} {T:String} {x:Str} {t:Tok} (hT:T="str_ascii_iterator"∨T="str_iterator"):Turn P w K tg (xi x) [it] it (fun i h=>h.IsStrIter it T x t i) where
  mem:=by simp
  obj:=fun i h st b hb=>by
    have e:b=it:=by simpa using hb
    subst e
    obtain ⟨o,e,c,d⟩:=st
    exact ⟨o,e,fun v z=>by rw [d] at z;cases z⟩
  keep:=fun i h h' st k=>let ⟨o,ho,r⟩:=st;⟨o,k it (by simp) o ho,r⟩
  item:=by
    intro X hP hw hK hc i pins s σ H E I hf st hg
    subst hP hw hK
    obtain ⟨f0,f1,f2,f3,f4,f5⟩:=hf it (by simp)
    have hi:i < x.cps.toList.length:=hg
    have hx:x.cps[i]? =some (x.cps.toList[i]'hi):=by simp at hi;simp [hi]
    have fin:∀(h':Heap),h'.IsStrIter it T x t (i+1)→Heap.SameBut it s.heap h'→∃u,some (Value.str ⟨#[x.cps.toList[i]'hi]⟩ s.toks)=some u∧
        wpAny (model X.prog X.w) X.A (letOwnedTupleGo tg (.ref it) u) (fun _ s2=>∃v H',Inv X pins σ H' s2∧RelV v u∧(xi x).yld i H v H'∧s2.heap.IsStrIter it T x t (i+1)∧∀b∈[it],H' b=none) E {s with heap:=h',toks:=s.toks+1}:=fun h' st' sb=>by
      have I1:Inv X pins σ H {s with heap:=h',toks:=s.toks+1}:=I.turned (t':=s.toks+1) (fun b o hb e=>(sb.2 b hb).trans e) f0 f1 f3 f4 f5
      obtain ⟨o,e,c,d⟩:=id st'
      exact ⟨_,rfl,ma (s:={s with heap:=h',toks:=s.toks+1}) e c d (by rcases hT with rfl | rfl <;> decide) ⟨.str ⟨#[x.cps.toList[i]'hi]⟩,H,I1,⟨_,rfl⟩,⟨rfl,_,List.getElem?_eq_getElem hi,rfl⟩,st',fun b hb=>(hf b hb).1⟩⟩
    rcases hT with rfl | rfl
    · exact wpAny_pyNext_ascii_item st hx fun h' st' sb=>fin h' st' sb
    · exact wpAny_pyNext_wide_item st hx fun h' st' sb=>fin h' st' sb
  done:=by
    intro X hP hw hK hc i pins s σ H E I hf st hg
    subst hP hw hK
    obtain ⟨f0,f1,f2,f3,f4,f5⟩:=hf it (by simp)
    have hi:i=x.cps.toList.length:=hg
    have hx:x.cps[i]? =none:=by simp at hi;simp [hi]
    rcases hT with rfl | rfl
    · exact wpAny_pyNext_ascii_end (I.ok.hd hc) st hx fun h' eb=>⟨rfl,I.turned (t':=s.toks) (fun b o hb e=>eb b o hb e) f0 f1 f3 f4 f5⟩
    · exact wpAny_pyNext_wide_end (I.ok.hd hc) st hx fun h' eb=>⟨rfl,I.turned (t':=s.toks) (fun b o hb e=>eb b o hb e) f0 f1 f3 f4 f5⟩
  self:=fun _ _ _ _ _ st h=>by
    rcases hT with rfl | rfl
    · exact wpAny_pyIter_striter_ascii st h
    · exact wpAny_pyIter_striter_wide st h
def xE (tl:TE):TI:=fun σ H R=>tl σ H fun v H1=>∃x,v= .str x∧R (xi x) H1
theorem vC {X:Cx} {tg l:Expr} {tl:TE} (hl:PE X l tl):PI X tg l (xE tl):=by
  intro pins s σ H R I h
  refine en (hl pins s σ H _ I h) fun v s1 ⟨y,H1,I1,r1,q1⟩=>?_
  obtain ⟨x,e,q⟩:=q1
  subst e
  obtain ⟨t,rfl⟩:=r1
  refine wpAny_pyIter_strU ?_
  refine ⟨s1.heap.objs.size,[s1.heap.objs.size],fun i h=>h.IsStrIter s1.heap.objs.size (strIterType x) x t i,_,H1,rfl,I1.kept (t':=s1.toks) fun b o e=>Heap.get?_push_of_some _ e,rA (t:=t) ?_,⟨_,Heap.get?_push_size _ rfl,rfl,rfl⟩,fun b hb=>?_,q⟩
  · unfold strIterType
    split
    · exact .inl rfl
    · exact .inr rfl
  · have e:b=s1.heap.objs.size:=by simpa using hb
    subst e
    exact I1.fpOk (Nat.le_refl _) (I1.hok.fresh (Nat.le_refl _))
theorem PI.or {X:Cx} {tg l:Expr} {a b:TI} (h1:PI X tg l a) (h2:PI X tg l b):PI X tg l (fun σ H R=>a σ H R∨b σ H R):=by
  intro pins s σ H R I h
  rcases h with h | h
  · exact h1 pins s σ H R I h
  · exact h2 pins s σ H R I h
end L2
namespace PL
open PySem L2 Nh
def wE:List PyData→List PyData→List PyData
  | a::as,b::bs=> .tuple [a,b]::wE as bs
  | _,_=>[]
def gk:Nat→List PyData→List PyData
  | _,[]=>[]
  | k,a::as=> .tuple [.int k,a]::gk (k+1) as
def cV (f g:aV):iY:=fun E=>(f E).bind fun a=>(frz a.2 a.1).bind fun b=>(g b.2).bind fun c=>(frz c.2 c.1).bind fun d=>match b.1,d.1 with
  | .list xs, .list ys=>some (wE xs ys,d.2)
  | _,_=>none
def bI (f:aV):iY:=fun E=>(f E).bind fun a=>(frz a.2 a.1).bind fun b=>match b.1 with
  | .list xs=>some (gk 0 xs,b.2)
  | _=>none
def lE (x:Str):List PyData:=x.cps.toList.map fun c=> .str ⟨#[c]⟩
def dw (f:aV):iY:=fun E=>(f E).bind fun a=>(frz a.2 a.1).bind fun b=>match b.1 with
  | .list ds=>some (ds,b.2)
  | .tuple ds=>some (ds,b.2)
  | .str x=>some (lE x,b.2)
  | _=>none
section
variable {X:Cx} {K:PySem.W.Frag} {B:Hp}
theorem kE:∀{as:List PyData} {k i:Nat} {d:PyData},(gk k as)[i]? =some d→∃a,as[i]? =some a∧d= .tuple [.int ((k+i:Nat):Int),a]
  | a::as,k,0,d,e=>by simp [gk] at e;exact ⟨a,rfl,by rw [←e];simp⟩
  | a::as,k,i+1,d,e=>by
    obtain ⟨x,h1,h3⟩:=kE (as:=as) (k:=k+1) (i:=i) (by simpa [gk] using e)
    exact ⟨x,by simpa using h1,by rw [h3,show k+1+i=k+(i+1) by omega]⟩
  | [],_,_,_,e=>by simp [gk] at e
theorem kF:∀(k:Nat) (as:List PyData),(gk k as).length=as.length
  | _,[]=>rfl
  | k,a::as=>by simp [gk,kF (k+1) as]
theorem p6 {a:Addr} {vs:List V} {ds:List PyData} (h:SqL K B a vs) (r:RpA K B vs ds):mC K B (vX K a vs) (gk 0 ds):=fun {B' F A σ H E xs Xs} i sB fr=>by
  have hH:=fr.fh.seq (fr.bf.seq (sB.seq h))
  refine ⟨fun d ed=>?_,fun e=>⟨hH,by rw [e,kF,r.len]⟩⟩
  obtain ⟨x,ex,rfl⟩:=kE ed
  obtain ⟨v,ev,rv⟩:=r.get ex
  refine ⟨⟨hH,(List.getElem?_eq_some_iff.mp ev).1⟩,fun z H2 ⟨T,v',hT,e1,e3,e4⟩=>?_⟩
  rw [ev] at e1;cases e1
  subst e3 e4
  rw [Nat.zero_add]
  exact ⟨_,_,fr.newt (.cons (.int _) (.cons (rv.same (sB.trans fr.bf)) .nil)) hT⟩
theorem rB {x:Str}:mC K B (xi x) (lE x):=fun {B' F A σ H E xs Xs} i sB fr=>by
  refine ⟨fun d ed=>?_,fun e=>by show i=x.cps.toList.length;rw [e];simp [lE]⟩
  unfold lE at ed
  rw [List.getElem?_map] at ed
  obtain ⟨c,ec,rfl⟩:=Option.map_eq_some_iff.mp ed
  refine ⟨(List.getElem?_eq_some_iff.mp ec).1,fun z H2 ⟨e1,c',e2,e3⟩=>?_⟩
  rw [ec] at e2;cases e2
  subst e1 e3
  exact ⟨F,A,fr.push ⟨rfl,_,rfl, .str _⟩⟩
theorem rC {a:Addr} {vs:List V} {ds:List PyData} (h:SqT K B a vs) (r:RpA K B vs ds):mC K B (xp K a) ds:=fun {B' F A σ H E xs Xs} i sB fr=>by
  have hH:=fr.fh.tup (fr.bf.tup (sB.tup h))
  refine ⟨fun d ed=>?_,fun e=>⟨vs,hH,by rw [e,r.len];exact Nat.le_refl _⟩⟩
  obtain ⟨v,ev,rv⟩:=r.get ed
  refine ⟨⟨vs,v,hH,ev⟩,fun x H2 ⟨e2,y⟩=>?_⟩
  subst e2
  have:=y vs hH
  rw [ev] at this
  cases this
  exact ⟨F,A,fr.push ⟨rfl,_,rfl,rv.same (sB.trans fr.bf)⟩⟩
theorem jQ {tg e:Expr} {m:Bool} {f:aV} (he:EX X e m f):IX X tg e m (dw f):=lz (PI.or (oj he) (PI.or (uR he) (vC he))) fun σ H R z=>by
  obtain ⟨B,E,xs,Xs,ds,E',fr,cl,e,q⟩:=z
  obtain ⟨⟨s,E1⟩,e1,e⟩:=Option.bind_eq_some_iff.mp e
  obtain ⟨⟨d,E2⟩,e2,e⟩:=Option.bind_eq_some_iff.mp e
  have key:∀(v:V) (H1:Hp),Frm X.K B σ H1 E1 (v::xs) (s::Xs)→∃F2 A2 A3,Rp X.K F2 v d∧Same B F2∧FrF X.K F2 F2 A3 σ H1 E2 xs Xs∧FrF X.K B F2 A2 σ H1 E2 (v::xs) (.sh d::Xs):=fun v H1 ⟨F,A,fr1⟩=>by
    obtain ⟨F2,A2,fr2⟩:=fr1.frz0 e2
    obtain ⟨v',A1,ev,rfl,w,ew,r⟩:=fr2.ext (k:=0) rfl
    cases ev;cases ew
    obtain ⟨A3,fr3⟩:=fr2.pop
    exact ⟨F2,A2,A3,r,fr2.bf,fr3.raise,fr2⟩
  simp only at e
  split at e
  · cases e
    refine .inl ⟨B,E,xs,Xs,s,E1,fr,cl,e1,fun v H1 fr1=>?_⟩
    obtain ⟨F2,A2,A3,r,sb,fr3,fr2⟩:=key v H1 fr1
    cases r with
    | lst h1 h2=>exact ⟨_,rfl,⟨_,fr2.fh.seq h1⟩,q F2 _ _ sb ⟨F2,A3,fr3⟩ (pW h1 h2)⟩
  · cases e
    refine .inr (.inl ⟨B,E,xs,Xs,s,E1,fr,cl,e1,fun v H1 fr1=>?_⟩)
    obtain ⟨F2,A2,A3,r,sb,fr3,fr2⟩:=key v H1 fr1
    cases r with
    | tup h1 h2=>exact ⟨_,rfl,⟨_,fr2.fh.tup h1⟩,q F2 _ _ sb ⟨F2,A3,fr3⟩ (rC h1 h2)⟩
  · cases e
    refine .inr (.inr ⟨B,E,xs,Xs,s,E1,fr,cl,e1,fun v H1 fr1=>?_⟩)
    obtain ⟨F2,A2,A3,r,sb,fr3,fr2⟩:=key v H1 fr1
    cases r
    exact ⟨_,rfl,q F2 _ _ sb ⟨F2,A3,fr3⟩ rB⟩
  · cases e
theorem tz {elts:List Expr} {kt:Nat} {pt p pos:Pos} {e:Expr} {m:Bool} {f:aV} (hg:Gl X "enumerate") (hm:X.mg "enumerate"=none) (he:EX X e m f) (hs:starEach [e] X.env=[(false,eval e X.env)]:=by rfl):IX X (.Tuple elts kt pt) (.Call (.Name "enumerate" p) [e] [] pos) m (bI f):=lz (lD hg hm (be he bP hs) hs) fun σ H R z=>by
  obtain ⟨B,E,xs,Xs,ds,E',fr,cl,e,q⟩:=z
  obtain ⟨⟨s,E1⟩,e1,e⟩:=Option.bind_eq_some_iff.mp e
  obtain ⟨⟨d,E2⟩,e2,e⟩:=Option.bind_eq_some_iff.mp e
  refine ⟨B,E,xs,Xs,s,E1,fr,cl,e1,fun v H1 ⟨F,A,fr1⟩=>?_⟩
  obtain ⟨F2,A2,fr2⟩:=fr1.frz0 e2
  simp only at e
  split at e
  · cases e
    obtain ⟨v',A1,ev,rfl,w,ew,r⟩:=fr2.ext (k:=0) rfl
    cases ev;cases ew
    cases r with
    | lst h1 h2=>
      obtain ⟨A3,fr3⟩:=fr2.pop
      exact ⟨_,_,rfl,fr2.fh.seq h1,q F2 _ _ fr2.bf ⟨F2,A3,fr3.raise⟩ (p6 h1 h2)⟩
  · cases e
end
end PL
namespace PL
open PySem L2 Nh
inductive Cm where
  | lt | le | gt | ge
def Cm.op:Cm→CmpOp
  | .lt=> .Lt
  | .le=> .LtE
  | .gt=> .Gt
  | .ge=> .GtE
def Cm.i:Cm→Int→Int→Bool
  | .lt,i,j=>decide (i < j)
  | .le,i,j=>decide (i≤j)
  | .gt,i,j=>decide (j < i)
  | .ge,i,j=>decide (j≤i)
def Cm.s:Cm→List Nat→List Nat→Bool
  | .lt,i,j=>decide (i < j)
  | .le,i,j=> !decide (j < i)
  | .gt,i,j=>decide (j < i)
  | .ge,i,j=> !decide (i < j)
def bX (c:Cm):PyData→PyData→Option PyData
  | .int i, .int j=>some (.bool (c.i i j))
  | .str x, .str y=>some (.bool (c.s x.cps.toList y.cps.toList))
  | _,_=>none
def xX (c:Cm):R2:=fun x y H Q=>(∃i j,x= .int i∧y= .int j∧Q (.bl (c.i i j)) H)∨(∃i j,x= .str i∧y= .str j∧Q (.bl (c.s i.cps.toList j.cps.toList)) H)
section
variable {X:Cx} {a b c:Expr} {m1 m2 m3:Bool} {f g h:aV} {pos:Pos} {K:PySem.W.Frag}
theorem rD (c:Cm):OpR X (compareOp c.op) (xX c):=by
  cases c with
  | lt=>exact OpR.or wf pJ
  | le=>exact OpR.or wg (fun pins s σ H x y v u Q I rx ry h=>by
      obtain ⟨i,j,rfl,rfl,q⟩:=h
      obtain ⟨t,rfl⟩:=rx
      obtain ⟨t',rfl⟩:=ry
      exact PySem.P.le_str (aX I q rfl))
  | gt=>exact OpR.or wj (fun pins s σ H x y v u Q I rx ry h=>by
      obtain ⟨i,j,rfl,rfl,q⟩:=h
      obtain ⟨t,rfl⟩:=rx
      obtain ⟨t',rfl⟩:=ry
      exact PySem.P.gt_str (aX I q rfl))
  | ge=>exact OpR.or wk (fun pins s σ H x y v u Q I rx ry h=>by
      obtain ⟨i,j,rfl,rfl,q⟩:=h
      obtain ⟨t,rfl⟩:=rx
      obtain ⟨t',rfl⟩:=ry
      exact PySem.P.ge_str (aX I q rfl))
theorem rE (c:Cm):qU K (xX c) (bX c):=fun d1 d2 d v1 v2 H Q e r1 r2=>by
  unfold bX at e
  split at e
  · cases e;cases r1;cases r2
    exact ⟨_,rfl,fun q=> .inl ⟨_,_,rfl,rfl,q⟩⟩
  · cases e;cases r1;cases r2
    exact ⟨_,rfl,fun q=> .inr ⟨_,_,rfl,rfl,q⟩⟩
  · cases e
theorem p7 (c:Cm) (b:Expr):behindInMarks c.op b=false:=by cases c <;> exact gK _
theorem jn (c:Cm) (ha:EX X a m1 f) (hb:EX X b m2 g):TX X (.Compare a [c.op] [b] pos) (m1||m2) (dr (ad (eN (bX c)) m2 f g)):=nH (rD c) (lh (rE c)) ha hb (p7 c b)
theorem ur (c1 c2:Cm) (ha:EX X a m1 f) (hb:EX X b m2 g) (hc:EX X c m3 h) (hm:lastMarks [c1.op,c2.op] [b,c]=false:=by with_unfolding_all rfl):TX X (.Compare a [c1.op,c2.op] [b,c] pos) (m1||(m2||m3)) (dr (a9 (bX c1) (bX c2) m2 m3 f g h)):=qX (rD c1) (rD c2) (rE c1) (rE c2) ha hb hc hm
def fA:P2:=eN (f6 (fun _ j=>decide (0≤j)) fun i j=> .int (i / 2 ^ j.toNat))
def fB:P2:=eN (f6 (fun i j=>decide (0≤j∧j≤1000000∧ -(2 ^ 64) < i∧i < 2 ^ 64)) fun i j=> .int (i*2 ^ j.toNat))
def fD:P2:=eN (f6 (fun _ _=>true) fun i j=> .int (Builtin.bitAnd i j))
def isInt:PyData→Option Int
  | .int x=>some x
  | _=>none
def jR:List PyData→Option (List Str)
  | []=>some []
  | .str x::ds=>(jR ds).map fun xs=>x::xs
  | _::_=>none
def nO:List PyData→Option (List Int)
  | []=>some []
  | .int x::ds=>(nO ds).map fun xs=>x::xs
  | _::_=>none
def i5:PyData→PyData→Option Bool
  | .str x, .str y=>some (!(Builtin.Str.occurrences y x 0 y.length 1).isEmpty)
  | .str x, .list ds=>(jR ds).map fun xs=>xs.contains x
  | .str x, .tuple ds=>(jR ds).map fun xs=>xs.contains x
  | .int x, .list ds=>(nO ds).map fun xs=>xs.contains x
  | .int x, .tuple ds=>(nO ds).map fun xs=>xs.contains x
  | _,_=>none
def jr (neg:Bool):P2:=eN fun d1 d2=>(i5 d1 d2).map fun b=> .bool (if neg then !b else b)
end
def fE:List PyData→Option PyData
  | [.int i]=>some (.int i)
  | [.bool b]=>some (.int (if b then 1 else 0))
  | _=>none
def wF (x:Str):PyData→Option PyData
  | .list ds=>(jR ds).bind fun ys=>if (ys.map (·.length)).sum+ys.length*x.length≤1000000 then some (.str (Txt.join x ys)) else none
  | .tuple ds=>(jR ds).bind fun ys=>if (ys.map (·.length)).sum+ys.length*x.length≤1000000 then some (.str (Txt.join x ys)) else none
  | _=>none
section
variable {X:Cx} {e o:Expr} {m1 m2:Bool} {g:kx} {f h:aV} {p pos apos cpos:Pos} {K:PySem.W.Frag}
def cW (x:Str) (f:aV):aV:=gb (wF x) f
end
end PL
namespace PL
open PySem L2 Nh
theorem vD {X:Cx}:SlR X (fun x lo hi H Q=>∃z,x= .str z∧z.length≤sizeLine∧Q (.str (Txt.slice z lo hi)) H):=by
  intro pins s σ H x v vl vu lo hi sl Q I rx hs pl pu h
  obtain ⟨z,rfl,hz,q⟩:=h
  obtain ⟨t,rfl⟩:=rx
  cases pl with
  | none=>
    cases pu with
    | none=>exact ⟨"str",_,PySem.F.slot_str_getitem.lookup,typeIs_str _ _ _,wpAny_getItem_str_slice (l:=none) (u:=none) (st:=none) hs rfl (post_val_or_str ⟨Nat.le_trans (Txt.slice_le z _ _) hz,fun t' k=>⟨.str _,H,I.tok _,⟨_,rfl⟩,q⟩⟩)⟩
    | int j uj=>exact ⟨"str",_,PySem.F.slot_str_getitem.lookup,typeIs_str _ _ _,wpAny_getItem_str_slice (l:=none) (u:=some (j,uj)) (st:=none) hs rfl (post_val_or_str ⟨Nat.le_trans (Txt.slice_le z _ _) hz,fun t' k=>⟨.str _,H,I.tok _,⟨_,rfl⟩,q⟩⟩)⟩
  | int i ui=>
    cases pu with
    | none=>exact ⟨"str",_,PySem.F.slot_str_getitem.lookup,typeIs_str _ _ _,wpAny_getItem_str_slice (l:=some (i,ui)) (u:=none) (st:=none) hs rfl (post_val_or_str ⟨Nat.le_trans (Txt.slice_le z _ _) hz,fun t' k=>⟨.str _,H,I.tok _,⟨_,rfl⟩,q⟩⟩)⟩
    | int j uj=>exact ⟨"str",_,PySem.F.slot_str_getitem.lookup,typeIs_str _ _ _,wpAny_getItem_str_slice (l:=some (i,ui)) (u:=some (j,uj)) (st:=none) hs rfl (post_val_or_str ⟨Nat.le_trans (Txt.slice_le z _ _) hz,fun t' k=>⟨.str _,H,I.tok _,⟨_,rfl⟩,q⟩⟩)⟩
def cC (m2:Bool) (f:aV) (lo hi:tm):aV:=fun E=>(f E).bind fun a=>if m2&&a.1.isBr then none else (lo a.2).bind fun b=>(hi b.2).bind fun c=>match look c.2 a.1 with
  | some (.list ds)=>if !fN c.2 a.1||ar (lq ds b.1 c.1) then some (.ow (lq ds b.1 c.1),c.2) else none
  | some (.str z)=>if z.length≤1000000 then some (.sh (.str (Txt.slice z b.1 c.1)),c.2) else none
  | _=>none
theorem eY {X:Cx} {e:Expr} {lo hi:Option Expr} {m1 m2 m3:Bool} {f:aV} {g h:tm} {pos p2:Pos} (he:EX X e m1 f) (hl:OX X lo m2 g) (hh:OX X hi m3 h):EX X (.Subscript e (.Slice lo hi none p2) pos) (m1||(m2||m3)) (cC (m2||m3) f g h):=by
  refine dl (qC (SlR.or sN vD) he hl hh) fun σ H Q z=>?_
  obtain ⟨B,E,xs,Xs,res,E',fr,cl,e,q⟩:=z
  obtain ⟨⟨s,E1⟩,e1,e⟩:=Option.bind_eq_some_iff.mp e
  by_cases hb:((m2||m3)&&s.isBr)=true
  · rw [if_pos hb] at e;cases e
  rw [if_neg hb] at e
  have n1:(m2||m3)=true→s.isBr=false:=fun z=>by
    cases hs:s.isBr with
    | false=>rfl
    | true=>exact absurd (by rw [z,hs];rfl) hb
  obtain ⟨⟨l,E2⟩,e2,e⟩:=Option.bind_eq_some_iff.mp e
  obtain ⟨⟨u,E3⟩,e3,e⟩:=Option.bind_eq_some_iff.mp e
  refine ⟨B,E,xs,Xs,s,E1,fr,fun z=>cl (by simp [z]),e1,fun v1 H1 fr1=>?_⟩
  refine ⟨B,E1,v1::xs,s::Xs,l,E2,fr1,fun z=>Calm.cons (cl (by simp [z])) (n1 (by simp [z])),e2,fun H2 fr2=>?_⟩
  refine ⟨B,E2,v1::xs,s::Xs,u,E3,fr2,fun z=>Calm.cons (cl (by simp [z])) (n1 (by simp [z])),e3,fun H3 ⟨F,A,fr3⟩=>?_⟩
  simp only at e
  split at e
  · rename_i ds ld
    split at e
    · rename_i hc
      cases e
      obtain ⟨v,ev,r,f0⟩:=fr3.look (k:=0) rfl ld
      cases ev
      obtain ⟨A',fr4⟩:=fr3.pop
      cases hh:fN E' s with
      | false=>
        obtain ⟨a,vs,rfl,h1,h2⟩:=f0 hh
        exact .inl ⟨a,vs,rfl,h1,fun p hp=>q _ _ ⟨F,_,fr4.newl (h2.cut l u) hp⟩⟩
      | true=>
        rw [hh] at hc
        cases r with
        | lst h1 h2=>exact .inl ⟨_,_,rfl,h1,fun p hp=>q _ _ ⟨F,_,fr4.newl (fr3.coldA (h2.cut l u) (by simpa using hc)) hp⟩⟩
    · cases e
  · rename_i z ld
    split at e
    · rename_i hc
      cases e
      have r:=(fr3.look0 ld).1
      cases r
      obtain ⟨A',fr4⟩:=fr3.pop
      exact .inr ⟨_,rfl,f7 hc,q _ _ ⟨F,A',fr4.push ⟨rfl,_,rfl, .str _⟩⟩⟩
    · cases e
  · cases e
def bi (i:Nat) (f:aV):aV:=fun E=>match E[i]? with
  | some (.ow _)=>(f E).bind fun a=>match a.1,a.2[i]? with
    | .ow es,some (.ow ds)=>if ds.length+es.length≤1000000 then some (.sh .none,a.2.set i (.ow (ds++es))) else none
    | _,_=>none
  | _=>none
def aL (i:Nat):aV:=fun E=>match E[i]? with
  | some (.ow ds)=>some (.sh .none,E.set i (.ow ds.reverse))
  | _=>none
def bj (i:Nat) (c:List PyData→List PyData→Option (Sl×List PyData)) (g:kx):aV:=fun E=>match E[i]? with
  | some (.ow _)=>(g E).bind fun a=>match a.2[i]? with
    | some (.ow ds0)=>if ar ds0 then (bt a.2 a.1).bind fun ds=>(c ds0 ds).map fun r=>(r.1,a.2.set i (.ow r.2)) else none
    | _=>none
  | _=>none
structure Bn (mg:Str→Option Value):Prop where
  len:mg "len"=none
  range:mg "range"=none
  abs:mg "abs"=none
  min:mg "min"=none
  max:mg "max"=none
  reversed:mg "reversed"=none
  enumerate:mg "enumerate"=none
  isinstance:mg "isinstance"=none
  list:mg "list"=none
  tuple:mg "tuple"=none
  str:mg "str"=none
  int:mg "int"=none
  bool:mg "bool"=none
  sorted:mg "sorted"=none
  zip:mg "zip"=none
  sum:mg "sum"=none
  any:mg "any"=none
  all:mg "all"=none
  set:mg "set"=none
  dict:mg "dict"=none
theorem wG {K:PySem.W.Frag} {h:Heap} {mg:Str→Option Value} (X:K.In h) (G:h.Ns mainGlobals mg)
    (z1:PySem.W.nsIn K mainGlobals "len"=some none) (z2:PySem.W.nsIn K mainGlobals "range"=some none) (z3:PySem.W.nsIn K mainGlobals "abs"=some none) (z4:PySem.W.nsIn K mainGlobals "min"=some none) (z5:PySem.W.nsIn K mainGlobals "max"=some none) (z6:PySem.W.nsIn K mainGlobals "reversed"=some none) (z7:PySem.W.nsIn K mainGlobals "enumerate"=some none) (z8:PySem.W.nsIn K mainGlobals "isinstance"=some none) (z9:PySem.W.nsIn K mainGlobals "list"=some none) (z10:PySem.W.nsIn K mainGlobals "tuple"=some none) (z11:PySem.W.nsIn K mainGlobals "str"=some none) (z12:PySem.W.nsIn K mainGlobals "int"=some none) (z13:PySem.W.nsIn K mainGlobals "bool"=some none) (z14:PySem.W.nsIn K mainGlobals "sorted"=some none) (z15:PySem.W.nsIn K mainGlobals "zip"=some none) (z16:PySem.W.nsIn K mainGlobals "sum"=some none) (z17:PySem.W.nsIn K mainGlobals "any"=some none) (z18:PySem.W.nsIn K mainGlobals "all"=some none) (z19:PySem.W.nsIn K mainGlobals "set"=some none) (z20:PySem.W.nsIn K mainGlobals "dict"=some none):Bn mg:=
  ⟨PySem.W.mg_none_of X G z1,PySem.W.mg_none_of X G z2,PySem.W.mg_none_of X G z3,PySem.W.mg_none_of X G z4,PySem.W.mg_none_of X G z5,PySem.W.mg_none_of X G z6,PySem.W.mg_none_of X G z7,PySem.W.mg_none_of X G z8,PySem.W.mg_none_of X G z9,PySem.W.mg_none_of X G z10,PySem.W.mg_none_of X G z11,PySem.W.mg_none_of X G z12,PySem.W.mg_none_of X G z13,PySem.W.mg_none_of X G z14,PySem.W.mg_none_of X G z15,PySem.W.mg_none_of X G z16,PySem.W.mg_none_of X G z17,PySem.W.mg_none_of X G z18,PySem.W.mg_none_of X G z19,PySem.W.mg_none_of X G z20⟩
end PL
namespace PL
open PySem L2 Nh
abbrev yk:=List Sl→Option (List Sl×Bool)
end PL
namespace PL
open PySem L2 Nh
def eZ:Pt→Sl
  | .fl d=> .sh d
  | .ol ds=> .ow ds
section
variable {K:PySem.W.Frag} {F H:Hp}
theorem PtsOk.append:∀{us:List V} {ts:List Pt} {A:List Addr} {us':List V} {ts':List Pt} {A':List Addr},PtsOk K F H us ts A→PtsOk K F H us' ts' A'→PtsOk K F H (us++us') (ts++ts') (A++A')
  | [],[],A,_,_,_,h,h'=>by rw [show A=[] from h];exact h'
  | v::vs, .fl d::ps,A,_,_,_,h,h'=>⟨h.1,PtsOk.append h.2 h'⟩
  | v::vs, .ol ds::ps,A,_,_,_,h,h'=>by
    obtain ⟨l,us,A1,rfl,rfl,hl,hr,q⟩:=h
    exact ⟨l,us,_,rfl,rfl,hl,hr,q.append h'⟩
  | [],_::_,_,_,_,_,h,_=>False.elim h
  | _::_,[],_,_,_,_,h,_=>False.elim h
theorem PtsOk.rev:∀{us:List V} {ts:List Pt} {A:List Addr},PtsOk K F H us ts A→PtsOk K F H us.reverse ts.reverse A.reverse
  | [],[],A,h=>by rw [show A=[] from h];exact rfl
  | v::vs, .fl d::ps,A,h=>by
    rw [List.reverse_cons,List.reverse_cons,←List.append_nil A.reverse]
    exact (PtsOk.rev h.2).append (us':=[v]) (ts':=[.fl d]) (A':=[]) ⟨h.1,rfl⟩
  | v::vs, .ol ds::ps,A,h=>by
    obtain ⟨l,us,A1,rfl,rfl,hl,hr,q⟩:=h
    rw [List.reverse_cons,List.reverse_cons,List.reverse_cons]
    exact q.rev.append (us':=[.ref l]) (ts':=[.ol ds]) (A':=[l]) ⟨l,us,[],rfl,rfl,hl,hr,rfl⟩
  | [],_::_,_,h=>False.elim h
  | _::_,[],_,h=>False.elim h
theorem PtsOk.len:∀{us:List V} {ts:List Pt} {A:List Addr},PtsOk K F H us ts A→us.length=ts.length
  | [],[],A,_=>rfl
  | v::vs, .fl d::ps,A,h=>congrArg (· +1) h.2.len
  | v::vs, .ol ds::ps,A,h=>by
    obtain ⟨l,us,A1,rfl,rfl,hl,hr,q⟩:=h
    exact congrArg (· +1) q.len
  | [],_::_,_,h=>False.elim h
  | _::_,[],_,h=>False.elim h
end
def takeP (E:List Sl):Sl→Option (Pt×List Sl)
  | .sh d=>some (.fl d,E)
  | .ow ds=>some (.ol ds,E)
  | .br d=>if b7 d then some (.fl d,E) else none
  | .al i=>match E[i]? with
    | some (.ow ds)=>some (.ol ds,E.set i .no)
    | some (.sh d)=>some (.fl d,E)
    | _=>none
  | _=>none
abbrev wH:=List Sl→Option (List Pt×List Sl)
def fF:wH:=fun E=>some ([],E)
def cX (f:aV) (g:wH):wH:=fun E=>(f E).bind fun a=>(takeP a.2 a.1).bind fun b=>(g b.2).map fun c=>(b.1::c.1,c.2)
def cY (f:wH):aV:=fun E=>(f E).bind fun a=>if a.1.length≤1000000 then some (.tx a.1,a.2) else none
section
variable {X:Cx} {e:Expr} {es:List Expr} {m1 m2:Bool} {f:aV} {g:wH} {pos:Pos} {K:PySem.W.Frag}
theorem FrF.takeP {B F:Hp} {A:List Addr} {σ:iF} {H:Hp} {E E':List Sl} {xs:List V} {Xs:List Sl} {v:V} {s:Sl} {p:Pt} (h:FrF K B F A σ H E (v::xs) (s::Xs)) (q:PL.takeP E s=some (p,E')):Frm K B σ H E' (v::xs) (eZ p::Xs):=by
  cases s with
  | sh d=>cases q;exact ⟨F,A,h⟩
  | ow ds=>cases q;exact ⟨F,A,h⟩
  | br d=>
    simp only [PL.takeP] at q
    split at q
    · rename_i hf
      cases q
      have r:=(h.look0 (d:=d) rfl).1
      obtain ⟨A',h'⟩:=h.pop
      exact ⟨F,A',h'.push ⟨rfl,v,rfl,h.cold r hf⟩⟩
    · cases q
  | al i=>
    simp only [PL.takeP] at q
    split at q
    · rename_i ds ei
      cases q
      exact h.move ei
    · rename_i d ei
      cases q
      obtain ⟨v',A1,ev,rfl,w,ew,hw⟩:=h.ext (k:=0) rfl
      cases ev;cases ew
      obtain ⟨o,A2,eo,rfl,w,ew,r⟩:=h.var ei
      rw [hw] at eo
      cases eo
      cases ew
      obtain ⟨A',h'⟩:=h.pop
      exact ⟨F,A',h'.push ⟨rfl,_,rfl,r⟩⟩
    · cases q
  | no=>cases q
  | od kvs=>cases q
  | oi kvs=>cases q
  | tx ps=>cases q
end
def bY (i k:Nat) (f:aV):aV:=fun E=>match E[i]? with
  | some (.tx ps0)=>if (match ps0[k]? with | some (.ol _)=>true | _=>false) then (f E).bind fun a=>(frz a.2 a.1).bind fun b=>match b.2[i]? with
    | some (.tx ps)=>match ps[k]? with
      | some (.ol ds)=>if ds.length < 1000000 then some (.sh .none,b.2.set i (.tx (ps.set k (.ol (ds++[b.1]))))) else none
      | _=>none
    | _=>none
    else none
  | _=>none
def e8:Pt→Bool
  | .fl _=>true
  | _=>false
def cZ (f:aV):aV:=fun E=>(f E).bind fun a=>match a.1 with
  | .tx ps=>if ps.all e8 then some (.sh (.tuple (ps.map Pt.val)),a.2) else some a
  | _=>some a
end PL
namespace PL
open PySem L2 Nh PyProof.Rows
def fG (i:Nat) (op:PyData→PyData→Option PyData) (f:aV):fg:=fun E=>match E[i]? with
  | some (.sh d1)=>(f E).bind fun a=>(look a.2 a.1).bind fun d2=>if (gN d1).isSome then (op d1 d2).bind fun d=>if i < a.2.length then some (a.2.set i (.sh d), .nx) else none else none
  | _=>none
def c7:PyData→PyData→Option PyData
  | .int i, .int j=>some (.int (i+j))
  | .str a, .str b=>if a.length+b.length≤1000000 then some (.str (a++b)) else none
  | _,_=>none
def c8:PyData→PyData→Option PyData:=f6 fQ fun i j=> .int (i*j)
def c9:PyData→PyData→Option PyData:=f6 (fun _ _=>true) fun i j=> .int (i - j)
def bZ:PyData→PyData→Option PyData:=f6 (fun _ j=>gP j) fun i j=> .int (i / j)
def c_:PyData→PyData→Option PyData:=f6 (fun _ j=>decide (0 < j)) fun i j=> .int (i % j)
end PL
namespace PL
open PySem PySem.Spec L2 Nh PyProof.Rows
def xF (a b c:Int):Nat:=(Builtin.Range.rangeSize a b c).toNat
def xj (i:Int):Prop:= -1000000≤i∧i≤1000000
instance (i:Int):Decidable (xj i):=inferInstanceAs (Decidable (_∧_))
theorem fits {i:Int} (h: -10000000≤i∧i≤10000000):Builtin.Range.rangeFitsLong i=true:=by
  unfold Builtin.Range.rangeFitsLong
  simp only [Bool.and_eq_true,decide_eq_true_eq]
  omega
def xG (a c:Int) (n:Nat):List PyData:=(List.range n).map fun (k:Nat)=> .int (a+(k:Int)*c)
def b4 (g:kx):iY:=fun E=>(g E).bind fun a=>match bt a.2 a.1 with
  | some [.int i, .int j, .int k]=>if xj i∧xj j∧xj k∧k≠0 then some (xG i k (xF i j k),a.2) else none
  | _=>none
end PL
namespace PL
open PySem L2 Nh
section
variable {K:PySem.W.Frag} {B F:Hp} {A:List Addr} {σ:iF} {H H':Hp} {E:List Sl}
theorem DlOk.len:∀{us:List (bN×V)} {kvs:List (bN×List PyData)} {A:List Addr},DlOk K F H us kvs A→us.length=kvs.length
  | [],[],A,h=>rfl
  | p::us,q::kvs,A,h=>by
    obtain ⟨l,vs,A',rfl,rfl,hl,hr,k⟩:=h
    simp [k.len]
  | [],_::_,_,h=>False.elim h
  | _::_,[],_,h=>False.elim h
end
end PL
namespace PL
open PySem L2 Nh
section
variable {X:Cx} {e:Expr} {m:Bool} {f:aV} {x:Str} {p pos:Pos}
theorem vE (hu:X.A.units+1 < cLine):OpR X (compareOp .In) (fun x y H Q=>∃a kvs k,y= .ref a∧x=kV k∧H a=some (.dK kvs)∧Q (.bl (hJ kvs k).isSome) H):=by
  intro pins s σ H x y v u Q I rx ry h
  obtain ⟨a,kvs,k,rfl,rfl,e,q⟩:=h
  cases ry
  exact xD hu I (DGet.k e) rx fun s' I'=>⟨.bl _,H,I',rfl,q⟩
end
end PL
namespace PL
open PySem PySem.SeqAt
open AutoSeq1 (wpAny_loadPart')
open MeetsSeq MeetsSeq2 MeetsSeq3 SeqRoads2
def RcLtAt (A:Around) (s:Shared) (y x:Value) (b:Bool):Prop:=
  ∀(prog:Program) (w:World) (E:Value→Shared→Prop) (Q:Value→Shared→Prop),Q (.bool b) s→wpAny (model prog w) A (richCompare .Lt y x) Q E s
def fU (e r:Nat→Bool) (fin:Bool):List Nat→Bool
  | []=>fin
  | j::js=>if e j then fU e r fin js else r j
theorem p8 (l b:Addr) (items items2:Array Value) (n n2:Nat) (dd dd2:Option Addr) (sl sl2:Array (Option Value)) (e r:Nat→Bool) (k:Nat):
    ∀i:Nat,min items.size items2.size - i=k→Meets (Builtin.«list.__eq__.loop» ⟨[.ref l, .ref b,rawInt i,rawInt 0],[]⟩)
      (fun A R s=>s.heap.get? l=some {cls:= .type "list",dict:=dd,data:= .seq items n,slots:=sl}∧s.heap.get? b=some {cls:= .type "list",dict:=dd2,data:= .seq items2 n2,slots:=sl2}∧
        (∀j (h1:j < items.size) (h2:j < items2.size),EqAt A.in1 s items[j] items2[j] (e j))∧(∀j (h1:j < items.size) (h2:j < items2.size),e j=false→RcLtAt A.in1 s items[j] items2[j] (r j))∧
        R (.ok (.ret (.bool (fU e r (decide (items.size < items2.size)) ((List.range (min items.size items2.size)).drop i))))) s):=by
  induction k with
  | zero=>
    intro i hk prog w A R s h
    obtain ⟨hp,g,d,tk,os⟩:=s;obtain ⟨hl,hb,he,hr,h⟩:=h
    wp_walk using wpAny_loadPart' hl,wpAny_loadPart' hb
    have hd:(List.range (min items.size items2.size)).drop i=[]:=by simp;omega
    rw [hd] at h
    have hi:items[((i:Nat):Int).toNat]? =none∨items2[((i:Nat):Int).toNat]? =none:=by
      simp
      omega
    have fin:R (.ok (.ret (.bool (decide (items.size < items2.size))))) ⟨hp,g,d,tk,os⟩:=h
    rcases h1:items[((i:Nat):Int).toNat]? with _ | x1
    · wp_walk using wpAny_loadPart' hl,wpAny_loadPart' hb
      exact fin
    · rcases h2:items2[((i:Nat):Int).toNat]? with _ | x2
      · wp_walk using wpAny_loadPart' hl,wpAny_loadPart' hb
        exact fin
      · rw [h1,h2] at hi
        rcases hi with hi | hi <;> cases hi
  | succ k ih=>
    intro i hk prog w A R s h
    obtain ⟨hp,g,d,tk,os⟩:=s;obtain ⟨hl,hb,he,hr,h⟩:=h
    wp_walk using wpAny_loadPart' hl,wpAny_loadPart' hb
    have hm:i < min items.size items2.size:=by omega
    have hlt:i < items.size:=by omega
    have hlt2:i < items2.size:=by omega
    have hi1:items[((i:Nat):Int).toNat]? =some items[i]:=by simp [hlt]
    have hi2:items2[((i:Nat):Int).toNat]? =some items2[i]:=by simp [hlt2]
    have hd:(List.range (min items.size items2.size)).drop i=i::(List.range (min items.size items2.size)).drop (i+1):=by simp [List.drop_eq_getElem_cons,hm]
    have hc:((i:Int)+1)=((i+1:Nat):Int):=by push_cast;rfl
    rw [hd,fU] at h
    rw [hi1,hi2]
    refine wpAny_bind (he i hlt hlt2 prog w _ _ ?_)
    cases hb':e i with
    | true=>
      rw [hb',if_pos rfl] at h
      wp_walk
      rw [hc]
      exact ⟨plainId_quiet plain_eq_loop _,codeAny_builtin entry_eq_loop (by
        rw [Around.under_plainId plain_eq_loop _]
        exact ih (i+1) (by omega) prog w A R _ ⟨hl,hb,he,hr,h⟩)⟩
    | false=>
      rw [hb',if_neg (by decide)] at h
      wp_walk using wpAny_loadPart' hl,wpAny_loadPart' hb
      rw [hi1,hi2]
      refine wpAny_bind (hr i hlt hlt2 hb' prog w _ _ ?_)
      wp_walk
      exact h
theorem kG (l b:Addr) (items items2:Array Value) (n n2:Nat) (dd dd2:Option Addr) (sl sl2:Array (Option Value)) (e r:Nat→Bool):
    Meets (Builtin.«list.__lt__» ⟨[.ref l, .ref b],[]⟩)
      (fun A R s=>s.heap.get? l=some {cls:= .type "list",dict:=dd,data:= .seq items n,slots:=sl}∧s.heap.get? b=some {cls:= .type "list",dict:=dd2,data:= .seq items2 n2,slots:=sl2}∧
        (∀j (h1:j < items.size) (h2:j < items2.size),EqAt A.in1 s items[j] items2[j] (e j))∧(∀j (h1:j < items.size) (h2:j < items2.size),e j=false→RcLtAt A.in1 s items[j] items2[j] (r j))∧
        R (.ok (.ret (.bool (fU e r (decide (items.size < items2.size)) (List.range (min items.size items2.size)))))) s):=by
  intro prog w A R s h
  obtain ⟨hp,g,d,tk,os⟩:=s;obtain ⟨hl,hb,he,hr,h⟩:=h
  have f3:=AutoSeq1.sub_list_list
  wp_walk using wpAny_loadPart' hl,wpAny_loadPart' hb
  exact ⟨plainId_quiet plain_eq_loop _,codeAny_builtin entry_eq_loop (by
    rw [Around.under_plainId plain_eq_loop _]
    exact p8 l b items items2 n n2 dd dd2 sl sl2 e r _ 0 rfl prog w A R _ ⟨hl,hb,he,hr,by simpa using h⟩)⟩
theorem nP (l b:Addr) (items items2:Array Value) (n n2:Nat) (dd dd2:Option Addr) (sl sl2:Array (Option Value)) (e r:Nat→Bool):
    Meets (Builtin.«tuple.__lt__» ⟨[.ref l, .ref b],[]⟩)
      (fun A R s=>s.heap.get? l=some {cls:= .type "tuple",dict:=dd,data:= .seq items n,slots:=sl}∧s.heap.get? b=some {cls:= .type "tuple",dict:=dd2,data:= .seq items2 n2,slots:=sl2}∧
        (∀j (h1:j < items.size) (h2:j < items2.size),EqAt A.in1 s items[j] items2[j] (e j))∧(∀j (h1:j < items.size) (h2:j < items2.size),e j=false→RcLtAt A.in1 s items[j] items2[j] (r j))∧
        R (.ok (.ret (.bool (fU e r (decide (items.size < items2.size)) (List.range (min items.size items2.size)))))) s):=
  .of_wp fun prog w A R s h=>by
    obtain ⟨hp,g,d,tk,os⟩:=s;obtain ⟨hl,hb,he,hr,h⟩:=h
    have f2:=AutoSeq1.sub_tuple_tuple
    have hZ:(items.toList.zip items2.toList).length=min items.size items2.size:=by simp
    wp_walk using wpAny_loadPart' hl,wpAny_loadPart' hb,wpAny_forIn_list _ (fun ce b s'=>b.1=none∧s'=⟨hp,g,d,tk,os⟩∧∃i,ce=(items.toList.zip items2.toList).drop i∧
      R (.ok (.ret (.bool (fU e r (decide (items.size < items2.size)) ((List.range (min items.size items2.size)).drop i))))) ⟨hp,g,d,tk,os⟩) _
    case turn=>
      rintro ⟨y,x⟩ ce b s' ⟨hb',rfl,i,hz,hR⟩
      have hlt:i < (items.toList.zip items2.toList).length:=by
        rcases Nat.lt_or_ge i (items.toList.zip items2.toList).length with h' | h'
        · exact h'
        · rw [List.drop_of_length_le h'] at hz;cases hz
      have hm:i < min items.size items2.size:=hZ▸hlt
      have h1:i < items.size:=Nat.lt_of_lt_of_le hm (Nat.min_le_left _ _)
      have h2:i < items2.size:=Nat.lt_of_lt_of_le hm (Nat.min_le_right _ _)
      rw [List.drop_eq_getElem_cons hlt] at hz
      injection hz with hyx hrest
      have hy:y=items[i]:=by have:=congrArg Prod.fst hyx;simpa using this
      have hx:x=items2[i]:=by have:=congrArg Prod.snd hyx;simpa using this
      subst hy hx
      have hd:(List.range (min items.size items2.size)).drop i=i::(List.range (min items.size items2.size)).drop (i+1):=by simp [List.drop_eq_getElem_cons,hm]
      rw [hd,fU] at hR
      refine wpAny_bind (he i h1 h2 prog w _ _ ?_)
      cases hy:e i with
      | true=>
        rw [hy,if_pos rfl] at hR
        wp_walk
        exact ⟨rfl,rfl,i+1,hrest,hR⟩
      | false=>
        rw [hy,if_neg (by decide)] at hR
        rw [show (!false)=true from rfl,if_pos rfl]
        refine wpAny_bind (wpAny_rule (wpAny_bind (hr i h1 h2 hy prog w _ _ ?_)))
        wp_walk
        exact ⟨_,rfl,hR⟩
    case fin=>
      rintro ⟨b1,b2⟩ s' ⟨hb',rfl,i,hz,hR⟩
      simp only at hb'
      subst hb'
      have hge:min items.size items2.size≤i:=by
        rcases Nat.lt_or_ge i (items.toList.zip items2.toList).length with h' | h'
        · rw [List.drop_eq_getElem_cons h'] at hz;cases hz
        · exact hZ▸h'
      rw [List.drop_of_length_le (by simpa using hge)] at hR
      wp_walk
      exact ⟨_,rfl,hR⟩
    case h=>
      exact ⟨rfl,rfl,0,rfl,by simpa using h⟩
section
variable {A:Around} {s:Shared}
theorem RcLtAt.lists {l b:Addr} {items items2:Array Value} {e r:Nat→Bool} (hl:s.heap.IsList l items) (hb:s.heap.IsList b items2) (hu:A.units < cLine)
    (he:∀j (h1:j < items.size) (h2:j < items2.size),EqAt A.in1 s items[j] items2[j] (e j)) (hr:∀j (h1:j < items.size) (h2:j < items2.size),e j=false→RcLtAt A.in1 s items[j] items2[j] (r j)):RcLtAt A s (.ref l) (.ref b) (fU e r (decide (items.size < items2.size)) (List.range (min items.size items2.size))):=fun prog w E Q h=>by
  obtain ⟨⟨cls,dd,data,sl⟩,ho,hc,n,hd⟩:=id hl
  obtain ⟨⟨cls2,dd2,data2,sl2⟩,ho2,hc2,n2,kq⟩:=id hb
  simp only at hc hd hc2 kq
  subst hc hd hc2 kq
  exact richCompare_meets_room (op:= .Lt) ⟨_,ho,rfl⟩ ⟨_,ho2,rfl⟩ F.slot_list_lt F.entry_list_lt (F.args_list_lt_2 _ _) (kG l b items items2 n n2 dd dd2 sl sl2 e r)
    ⟨ho,ho2,he,hr,show Value.bool _≠Value.notImplemented∧Q (.bool _) s from ⟨(fun x=>nomatch x),h⟩⟩ hu
theorem RcLtAt.tuples {l b:Addr} {items items2:Array Value} {e r:Nat→Bool} (hl:s.heap.IsTuple l items) (hb:s.heap.IsTuple b items2) (hu:A.units < cLine)
    (he:∀j (h1:j < items.size) (h2:j < items2.size),EqAt A.in1 s items[j] items2[j] (e j)) (hr:∀j (h1:j < items.size) (h2:j < items2.size),e j=false→RcLtAt A.in1 s items[j] items2[j] (r j)):RcLtAt A s (.ref l) (.ref b) (fU e r (decide (items.size < items2.size)) (List.range (min items.size items2.size))):=fun prog w E Q h=>by
  obtain ⟨⟨cls,dd,data,sl⟩,ho,hc,n,hd⟩:=id hl
  obtain ⟨⟨cls2,dd2,data2,sl2⟩,ho2,hc2,n2,kq⟩:=id hb
  simp only at hc hd hc2 kq
  subst hc hd hc2 kq
  exact richCompare_meets_room (op:= .Lt) ⟨_,ho,rfl⟩ ⟨_,ho2,rfl⟩ F.slot_tuple_lt F.entry_tuple_lt (F.args_tuple_lt_2 _ _) (nP l b items items2 n n2 dd dd2 sl sl2 e r)
    ⟨ho,ho2,he,hr,show Value.bool _≠Value.notImplemented∧Q (.bool _) s from ⟨(fun x=>nomatch x),h⟩⟩ hu
theorem RcLtAt.ints (i j:Int) (t u:Tok):RcLtAt A s (.int i t) (.int j u) (decide (i < j)):=fun prog w E Q h=>PyProof.Rows.lt_int h
end
end PL
namespace PL
open PySem PySem.SeqAt L2 Nh
abbrev wI:=PyData→PyData→Option Bool
def xY:wI
  | .int i, .int j=>some (decide (i < j))
  | .str a, .str b=>some (decide (a.cps.toList < b.cps.toList))
  | _,_=>none
def tB (lt:wI):List PyData→List PyData→Option Bool
  | [],ys=>some (!ys.isEmpty)
  | _::_,[]=>some false
  | x::xs,y::ys=>if PyData.eqv x y then tB lt xs ys else (lt x y).bind fun b=>(tB lt xs ys).map fun _=>b
def xZ (lt:wI):wI
  | .list xs, .list ys=>tB lt xs ys
  | .tuple xs, .tuple ys=>tB lt xs ys
  | d,e=>xY d e
def eF (xs ys:List PyData) (j:Nat):Bool:=match xs[j]?,ys[j]? with
  | some x,some y=>PyData.eqv x y
  | _,_=>true
def xV:wI:=xZ (xZ xY)
end PL
namespace PL
open PySem PySem.SeqAt L2 Nh
def jt:PyData→PyData→Option PyData
  | .int i, .int j=>some (.bool (decide (i < j)))
  | .str x, .str y=>some (.bool (decide (x.cps.toList < y.cps.toList)))
  | d,e=>if shaped d&&shaped e then (xV d e).map fun c=> .bool c else none
end PL
namespace PL
open PySem L2 Nh
def lG:List PyData→Option (List Bool)
  | []=>some []
  | .bool b::ds=>(lG ds).map (b:: ·)
  | _=>none
def fH:List PyData→Option PyData
  | [.list ds]=>(lG ds).map fun bs=> .bool (bs.any id)
  | _=>none
def fI:List PyData→Option PyData
  | [.list ds]=>(lG ds).map fun bs=> .bool (bs.all id)
  | _=>none
section
variable {X:Cx} {e:Expr} {es:List Expr} {m1:Bool} {g:kx} {p pos:Pos}
def ut:List PyData→Option (List Int)
  | []=>some []
  | .int i::ds=>(ut ds).map (i:: ·)
  | _=>none
def fJ:List PyData→Option PyData
  | [.list ds]=>(ut ds).map fun ns=> .int ns.sum
  | _=>none
theorem g8:∀{ns:List Int} {us:List Value},Vals (ns.map V.int) us→us.length=ns.length∧∀(i:Nat) (v:Value),us[i]? =some v→∃t,v=Value.int (ns.getD i 0) t
  | [],_, .nil=>⟨rfl,fun i v h=>by simp at h⟩
  | n::ns,_, .cons h t=>by
    obtain ⟨tk,rfl⟩:=h
    obtain ⟨h1,h2⟩:=g8 t
    refine ⟨by simp [h1],fun i v h=>?_⟩
    cases i with
    | zero=>simp at h;subst h;exact ⟨tk,rfl⟩
    | succ i=>simpa using h2 i v (by simpa using h)
end
end PL
namespace PL
open PySem L2 Nh
section
variable {K:PySem.W.Frag}
theorem tD {α β:Type} (f:α→β) {xs:List α} {i:Int} {v:α} (h:atI xs i=some v):atI (xs.map f) i=some (f v):=by
  unfold atI at h ⊢
  rw [List.length_map]
  obtain ⟨j,e1,e2⟩:=Option.bind_eq_some_iff.mp h
  rw [e1,Option.bind_some,List.getElem?_map,e2]
  rfl
end
theorem jS {K:PySem.W.Frag} {H:Hp}:∀ns:List Int,RpA K H (ns.map V.int) (ns.map PyData.int)
  | []=> .nil
  | n::ns=> .cons (.int n) (jS ns)
theorem SAll.memA {P:Option V→Sl→List Addr→Prop} {os:List (Option V)} {ss:List Sl} {A:List Addr} {k:Nat} {s:Sl} (h:SAll P os ss A) (e:ss[k]? =some s):∃o A1,os[k]? =some o∧P o s A1∧∀a∈A1,a∈A:=by
  obtain ⟨o,A0,A1,A2,eA,eo,hp,_⟩:=h.at e
  exact ⟨o,A1,eo,hp,fun a ha=>by rw [eA];exact List.mem_append_right _ (List.mem_append_left _ ha)⟩
theorem SAll.two {P:Option V→Sl→List Addr→Prop}:∀{os:List (Option V)} {ss:List Sl} {A:List Addr} {i j:Nat} {s t:Sl},SAll P os ss A→ss[i]? =some s→ss[j]? =some t→i≠j→A.Nodup→
    ∃o1 A1 o2 A2,os[i]? =some o1∧P o1 s A1∧os[j]? =some o2∧P o2 t A2∧(∀a∈A1,a∈A)∧(∀a∈A2,a∈A)∧∀a∈A1,a∉A2
  | _,_,_,_,_,_,_, .nil,e,_,_,_=>by simp at e
  | _,_,_,0,0,_,_, .cons h r,_,_,n,_=>absurd rfl n
  | _,_,_,0,j+1,s,t, .cons (o:=o) (A:=A) (B:=B) h r,e1,e2,_,nd=>by
    simp at e1
    subst e1
    obtain ⟨o2,A2,eo,hp,sub⟩:=r.memA (k:=j) (by simpa using e2)
    exact ⟨o,A,o2,A2,rfl,h,by simpa using eo,hp,fun a ha=>List.mem_append_left _ ha,fun a ha=>List.mem_append_right _ (sub a ha),fun a ha hb=>(List.nodup_append.mp nd).2.2 a ha a (sub a hb) rfl⟩
  | _,_,_,i+1,0,s,t, .cons (o:=o) (A:=A) (B:=B) h r,e1,e2,_,nd=>by
    simp at e2
    subst e2
    obtain ⟨o2,A2,eo,hp,sub⟩:=r.memA (k:=i) (by simpa using e1)
    exact ⟨o2,A2,o,A,by simpa using eo,hp,rfl,h,fun a ha=>List.mem_append_right _ (sub a ha),fun a ha=>List.mem_append_left _ ha,fun a ha hb=>(List.nodup_append.mp nd).2.2 a hb a (sub a ha) rfl⟩
  | _,_,_,i+1,j+1,s,t, .cons (o:=o) (A:=A) (B:=B) h r,e1,e2,n,nd=>by
    obtain ⟨o1,A1,o2,A2,q1,q2,q3,q4,q5,q6,q7⟩:=r.two (i:=i) (j:=j) (by simpa using e1) (by simpa using e2) (fun z=>n (by rw [z])) (List.nodup_append.mp nd).2.1
    exact ⟨o1,A1,o2,A2,by simpa using q1,q2,by simpa using q3,q4,fun a ha=>List.mem_append_right _ (q5 a ha),fun a ha=>List.mem_append_right _ (q6 a ha),q7⟩
end PL
namespace NhMaxD
open PySem PyProof.Rows
theorem rF (a d:Value):argsOk "max" ⟨[a],[("default",d)]⟩:=by unfold argsOk;kernel_rfl
section
variable {prog:Program} {w:World} {A:Around} {E:Value→Shared→Prop} {R:Result→Shared→Prop} {I:Addr} {fp wr:List Addr} {St:Nat→Heap→Prop}
abbrev wJ (h:Heap) (S:Addr) (vs:Array Value):Prop:=∃c,h.get? S=some {cls:= .type "list",dict:=none,data:= .seq vs c,slots:=#[]}
theorem pD {ns:List Int} (W:Walks prog w A.in1 I fp wr ns.length (fun i v=>∃t,v= .int (ns.getD i 0) t) St) (S:Addr) (hSf:S∉fp) (d:Value):
    ∀(k j:Nat) (s:Shared) (m:Int) (t:Tok),ns.length - j=k→j≤ns.length→St j s.heap→wJ s.heap S #[.int m t, .int m t]→
      (∀t' h' tk,(∀b o,b∉S::wr→s.heap.get? b=some o→h'.get? b=some o)→R (.ok (.ret (.int ((ns.drop j).foldl max m) t'))) {s with heap:=h',toks:=tk})→
      codeAny (model prog w) A (.builtin "max.loop" ⟨[.ref I, .none, .ref S],[("default",d)]⟩) R s:=by
  have hSw:S∉wr:=fun h=>hSf (W.sub _ h)
  have hnm:(toString "max"++toString ".loop":String)="max.loop":=by decide
  intro k
  induction k with
  | zero=>
    rintro j s m t hk hj st ⟨c,hS⟩ hR
    have hjn:j=ns.length:=by omega
    refine codeAny_builtin PySem.F.entry_max_loop ?_
    rw [Around.under_plainId PySem.F.plain_max_loop _]
    refine wpAny_bind (m:=seqItems? (.ref S)) (wpAny_seqItems hS rfl ?_)
    refine wpAny_bind (m:=tryCatch (pyNext (.ref I)) _) (wpAny_tryCatch (W.done s _ _ (by rw [←hjn];exact st) fun h' tk kp=>?_))
    refine wpAny_bind (m:=updateSeq S (fun _=>#[])) (wpAny_updateSeq (kp S _ hSw hS) rfl (wpAny_bind (wpAny_letGo (wpAny_pure ?_))))
    have e:(ns.drop j).foldl max m=m:=by rw [hjn,List.drop_length];rfl
    rw [e] at hR
    exact hR t _ tk fun b o hb q=>(Heap.get?_update_other _ _ (fun z:S=b=>hb (by rw [←z];exact List.mem_cons_self ..))).trans (kp b o (fun z=>hb (List.mem_cons_of_mem _ z)) q)
  | succ k ih=>
    rintro j s m t hk hj st ⟨c,hS⟩ hR
    have hlt:j < ns.length:=by omega
    refine codeAny_builtin PySem.F.entry_max_loop ?_
    rw [Around.under_plainId PySem.F.plain_max_loop _]
    refine wpAny_bind (m:=seqItems? (.ref S)) (wpAny_seqItems hS rfl ?_)
    refine wpAny_bind (m:=tryCatch (pyNext (.ref I)) _) (wpAny_tryCatch (W.item j s _ _ hlt st fun v h' tk hv st' kp=>?_))
    obtain ⟨u,rfl⟩:=hv
    have hS':=kp S _ hSw hS
    have eg:ns.getD j 0=ns[j]:=by simp [hlt]
    rw [eg]
    have ed:(ns.drop j).foldl max m=(ns.drop (j+1)).foldl max (max m ns[j]):=by rw [List.drop_eq_getElem_cons hlt,List.foldl_cons]
    rw [ed] at hR
    have cmp:=CmpOf.ints_gt (prog:=prog) (w:=w) (A:=A.in1) (P:=fun i v=>∃t,v= .int (if i=0 then ns[j] else m) t) (fun i=>if i=0 then ns[j] else m) (fun _ _ z=>z)
    refine wpAny_bind (m:=tryCatch (holding [.int ns[j] u, .int ns[j] u] (richCompare .Gt (.int ns[j] u) (.int m t) >>= _)) _) (wpAny_tryCatch (wpAny_holding (wpAny_bind (cmp 0 1 _ _ _ _ _ ⟨u,rfl⟩ ⟨t,rfl⟩ ?_))))
    refine wpAny_bind (wpAny_holding (wpAny_truthy_bool ?_))
    refine wpAny_bind (wpAny_letGo (wpAny_pure ?_))
    simp only [if_true,Nat.one_ne_zero,if_false]
    by_cases hb:ns[j] > m
    · simp only [hb,decide_true,if_true]
      refine wpAny_bind (wpAny_updateSeq hS' rfl (wpAny_bind (wpAny_letGo ?_)))
      rw [hnm]
      rw [show max m ns[j]=ns[j] by omega] at hR
      refine wpAny_pure ⟨plainId_quiet PySem.F.plain_max_loop _,ih (j+1) _ ns[j] u (by omega) hlt (W.frame _ _ _ st' fun b hbf o e=>?_) ⟨_,Heap.get?_update_self _ hS' rfl⟩ fun t' h2 tk2 k2=>?_⟩
      · exact (Heap.get?_update_other _ _ (fun z:S=b=>hSf (by rw [z];exact hbf))).trans e
      · exact hR t' h2 tk2 fun b o hbb e=>k2 b o hbb ((Heap.get?_update_other _ _ (fun z:S=b=>hbb (by rw [←z];exact List.mem_cons_self ..))).trans (kp b o (fun z=>hbb (List.mem_cons_of_mem _ z)) e))
    · simp only [hb,decide_false,Bool.false_eq_true,if_false]
      refine wpAny_bind (wpAny_letGo ?_)
      rw [hnm]
      rw [show max m ns[j]=m by omega] at hR
      refine wpAny_pure ⟨plainId_quiet PySem.F.plain_max_loop _,ih (j+1) _ m t (by omega) hlt st' ⟨_,hS'⟩ fun t' h2 tk2 k2=>?_⟩
      exact hR t' h2 tk2 fun b o hbb e=>k2 b o hbb (kp b o (fun z=>hbb (List.mem_cons_of_mem _ z)) e)
def xH:List Int→Int→Int
  | [],d=>d
  | n::r,_=>r.foldl max n
theorem call {s:Shared} {l:Addr} {items:Array Value} {ns:List Int} {d:Int} {td:Tok} {Q:Value→Shared→Prop} (hh:A.handled=none) (hl:s.heap.IsList l items) (hi:IntsAre items.toList ns)
    (h:∀t h' tk,(∀b o,s.heap.get? b=some o→h'.get? b=some o)→Q (.int (xH ns d) t) {s with heap:=h',toks:=tk}):
    wpAny (model prog w) A (PySem.call (.builtin "max") [.ref l] [("default", .int d td)]) Q E s:=by
  have hnm:(toString "max"++toString ".loop":String)="max.loop":=by decide
  refine wpAny_call (codeAny_call_builtin PySem.F.plain_max PySem.F.entry_max ?_)
  simp only [checkBuiltinCall,PySem.F.kind_max]
  have key:wpAny (model prog w) A.in1 (Builtin.«max» ⟨[.ref l],[("default", .int d td)]⟩) (fun fin s'=>match fin with
      | .done f=>(match (Except.ok f:Result) with | .ok (.ret v)=>Q v s' | .ok _=>False | .error e=>E e s')
      | .again c'=>c'.quiet=true∧codeAny (model prog w) A c' (fun r s'=>match r with | .ok (.ret v)=>Q v s' | .ok _=>False | .error e=>E e s') s') E s:=by
    refine wpAny_bind (m:=Builtin.Builtins.bindParams "max" ["key","default"] 0 ⟨[],[("default", .int d td)]⟩) (wpAny_of_eq (a:=[none,some (.int d td)]) rfl ?_)
    refine wpAny_bind (wpAny_pure ?_)
    refine wpAny_bind (wpAny_pyIter_list hl ?_)
    refine wpAny_bind (wpAny_newObj_type ?_)
    rw [hnm]
    have hlen:items.size=ns.length:=by have:=hi.length;simpa using this
    have hlt:l < s.heap.objs.size:=let ⟨_,ho,_⟩:=hl;Heap.lt_size ho
    have hI:(s.heap.push {cls:= .type "list_iterator",data:= .fields #[.ref l, .int 0 0]}).objs.size=s.heap.objs.size+1:=by rw [Heap.size_push]
    have W0:=Walks.list (prog:=prog) (w:=w) (A:=A.in1) (by simpa using hh) s.heap.objs.size l (Nat.ne_of_lt hlt) items
    have W:Walks prog w A.in1 s.heap.objs.size [s.heap.objs.size,l] [s.heap.objs.size] ns.length (fun i v=>∃t,v= .int (ns.getD i 0) t) (fun i h=>h.IsListIter s.heap.objs.size l i∧h.IsList l items):=by
      rw [←hlen]
      exact ⟨W0.sub,W0.frame,fun i s Q E hi' st hQ=>W0.item i s Q E hi' st fun v h' tk hv st' kp=>hQ v h' tk (IntsAre.int_at hi i v (by rw [Array.getElem?_toList];exact hv)) st' kp,W0.done,W0.self⟩
    have hSf:(s.heap.push {cls:= .type "list_iterator",data:= .fields #[.ref l, .int 0 0]}).objs.size∉[s.heap.objs.size,l]:=by
      rw [hI]
      intro z
      rcases List.mem_cons.mp z with z | z
      · exact absurd z (Nat.ne_of_gt (Nat.lt_succ_self _))
      · exact absurd (List.mem_singleton.mp z) (Nat.ne_of_gt (Nat.lt_succ_of_lt hlt))
    have st0:∀o,(fun i (h:Heap)=>h.IsListIter s.heap.objs.size l i∧h.IsList l items) 0 ((s.heap.push {cls:= .type "list_iterator",data:= .fields #[.ref l, .int 0 0]}).push o):=fun o=>
      ⟨⟨_,Heap.get?_push_of_some _ (Heap.get?_push_size _ rfl),rfl,rfl⟩,(hl.push _).push _⟩
    have old:∀b o q,s.heap.get? b=some o→((s.heap.push {cls:= .type "list_iterator",data:= .fields #[.ref l, .int 0 0]}).push q).get? b=some o∧b∉[(s.heap.push {cls:= .type "list_iterator",data:= .fields #[.ref l, .int 0 0]}).objs.size,s.heap.objs.size]:=fun b o q e=>by
      have hb:=Heap.lt_size e
      refine ⟨Heap.get?_push_of_some _ (Heap.get?_push_of_some _ e),fun z=>?_⟩
      rw [hI] at z
      rcases List.mem_cons.mp z with z | z
      · exact absurd z (Nat.ne_of_lt (Nat.lt_succ_of_lt hb))
      · exact absurd (List.mem_singleton.mp z) (Nat.ne_of_lt hb)
    refine wpAny_pure ⟨plainId_quiet PySem.F.plain_max_loop _,codeAny_builtin PySem.F.entry_max_loop ?_⟩
    rw [Around.under_plainId PySem.F.plain_max_loop _]
    refine wpAny_bind (m:=seqItems? (.ref _)) (wpAny_seqItems (Heap.get?_push_size _ rfl) rfl ?_)
    cases ns with
    | nil=>
      refine wpAny_bind (m:=tryCatch (pyNext (.ref s.heap.objs.size)) _) (wpAny_tryCatch (W.done _ _ _ (st0 _) fun h' tk kp=>?_))
      refine wpAny_bind (wpAny_rule (wpAny_pure ?_))
      exact h td h' tk fun b o e=>kp b o (fun z=>(old b o {cls:= .none} e).2 (List.mem_cons_of_mem _ z)) (old b o _ e).1
    | cons n r=>
      refine wpAny_bind (m:=tryCatch (pyNext (.ref s.heap.objs.size)) _) (wpAny_tryCatch (W.item 0 _ _ _ (by simp) (st0 _) fun v h' tk hv st' kp=>?_))
      obtain ⟨u,rfl⟩:=hv
      have hS':=kp _ _ (fun z=>hSf (W.sub _ z)) (Heap.get?_push_size _ rfl)
      refine wpAny_bind (m:=updateSeq _ (fun _=>#[.int n u, .int n u])) (wpAny_updateSeq hS' rfl ?_)
      rw [hnm]
      refine wpAny_pure ⟨plainId_quiet PySem.F.plain_max_loop _,pD W _ hSf _ _ 1 _ n u rfl (by simp) (W.frame _ _ _ st' fun b hbf o e=>?_) ⟨_,Heap.get?_update_self _ hS' rfl⟩ fun t' h2 tk2 k2=>?_⟩
      · exact (Heap.get?_update_other _ _ (fun z=>hSf (by rw [z];exact hbf))).trans e
      · refine h t' h2 tk2 fun b o e=>k2 b o (old b o {cls:= .none} e).2 ((Heap.get?_update_other _ _ (fun z=>(old b o {cls:= .none} e).2 (by rw [←z];exact List.mem_cons_self ..))).trans (kp b o (fun z=>(old b o {cls:= .none} e).2 (List.mem_cons_of_mem _ z)) (old b o _ e).1))
  cases hsig:Manifest.signature? "max" with
  | none=>exact wpAny_pure key
  | some sig=>
    have ha:=rF (.ref l) (.int d td)
    simp only [argsOk,hsig] at ha
    show wpAny _ A.in1 (Bind.checkArgs "max" sig ⟨[.ref l],[("default", .int d td)]⟩) _ _ s
    rw [show Bind.checkArgs "max" sig ⟨[.ref l],[("default", .int d td)]⟩=pure () from ha]
    exact wpAny_pure key
end
end NhMaxD
namespace PL
open PySem L2 Nh
def yj (a b:Str):Bool:=decide (a.cps.toList≤b.cps.toList)
def wK (ss:List Str):List Str:=ss.mergeSort yj
section
variable {X:Cx} {e:Expr} {m1:Bool} {f:aV} {p pos:Pos}
def uu:List PyData→Option (List Str)
  | []=>some []
  | .str x::ds=>(uu ds).map (x:: ·)
  | _=>none
def bn (g:aV):aV:=fun E=>(g E).bind fun a=>match look a.2 a.1 with
  | some (.list ds)=>(uu ds).bind fun ss=>if ss.length < 64 then some (.ow ((wK ss).map .str),a.2) else none
  | _=>none
end
end PL
namespace NhSet
open PySem PyProof.Rows
structure SS (w:World) (b:Bool) (ks:List Str) (es:Array (Int×Value)) (t:SetTable):Prop where
  perm:(es.toList.map (fun e=>strOf e.2)).Perm ks
  elems:∀e∈es.toList,∃x tk,e=(hashStr w x,Value.str x tk)
  bound:es.size < scanBound
  fits:t.fits es.size=true
  led:t.led=b
  plain:es.size≠0→t.plain=false
abbrev vF (es:Array (Int×Value)) (ep:Nat) (t:SetTable):Obj:={cls:= .type "set",dict:=none,data:= .set es ep t}
def StrSet (w:World) (h:Heap) (a:Addr) (b:Bool) (ks:List Str):Prop:=∃es ep t,h.get? a=some (vF es ep t)∧SS w b ks es t
theorem StrSet.at' {w:World} {h h':Heap} {a:Addr} {b:Bool} {ks:List Str} (S:StrSet w h a b ks) (e:∀o,h.get? a=some o→h'.get? a=some o):StrSet w h' a b ks:=
  let ⟨es,ep,t,ho,r⟩:=S;⟨es,ep,t,e _ ho,r⟩
theorem StrSet.obj {w:World} {h:Heap} {a:Addr} {b:Bool} {ks:List Str} (S:StrSet w h a b ks):∃o,h.get? a=some o:=let ⟨_,_,_,ho,_⟩:=S;⟨_,ho⟩
theorem StrSet.typeIs {w:World} {s:Shared} {a:Addr} {b:Bool} {ks:List Str} (S:StrSet w s.heap a b ks):s.TypeIs (.ref a) "set":=let ⟨_,_,_,ho,_⟩:=S;⟨_,ho,rfl⟩
theorem SS.len {w:World} {b:Bool} {ks:List Str} {es:Array (Int×Value)} {t:SetTable} (S:SS w b ks es t):es.size=ks.length:=by
  have:=S.perm.length_eq;simpa using this
theorem SS.mem {w:World} {b:Bool} {ks:List Str} {es:Array (Int×Value)} {t:SetTable} (S:SS w b ks es t) (x:Str):x∈ks↔∃e∈es.toList,Value.isStrOf x e.2=true:=by
  rw [←S.perm.mem_iff,List.mem_map]
  constructor
  · rintro ⟨e,he,rfl⟩
    obtain ⟨y,tk,rfl⟩:=S.elems e he
    exact ⟨_,he,by simp [Value.isStrOf,strOf]⟩
  · rintro ⟨e,he,hx⟩
    obtain ⟨y,tk,rfl⟩:=S.elems e he
    have:y=x:=by simpa [Value.isStrOf] using hx
    exact ⟨_,he,by simp [strOf,this]⟩
end NhSet
namespace PL
open PySem L2 Nh
def b5 (g:aV):aV:=fun E=>(g E).bind fun a=>match look a.2 a.1 with
  | some (.list ds)=>if !fN a.2 a.1||ar ds then some (.sh (.tuple ds),a.2) else none
  | _=>none
end PL
namespace PL
open PySem L2 Nh
def de (g:kx):aV:=fun E=>(g E).bind fun a=>(bt a.2 a.1).bind fun ds=>if a.1.length≤1000000 then some (.br (.tuple ds),a.2) else none
end PL
namespace PL
open PySem L2 Nh
def df (m2:Bool) (f:aV) (lo hi:tm):aV:=fun E=>(f E).bind fun a=>if m2&&a.1.isBr then none else (lo a.2).bind fun b=>(hi b.2).bind fun c=>match look c.2 a.1 with
  | some (.tuple ds)=>if ar ds&& !(HT.iQ ds.length 0 b.1 == 0&&HT.iQ ds.length ds.length c.1 == ds.length) then some (.sh (.tuple (lq ds b.1 c.1)),c.2) else none
  | _=>none
end PL
namespace PL
open PySem PySem.SeqAt
open AutoSeq1 (wpAny_loadPart')
open MeetsSeq MeetsSeq2 MeetsSeq3 SeqRoads2
def RcGtAt (A:Around) (s:Shared) (y x:Value) (b:Bool):Prop:=
  ∀(prog:Program) (w:World) (E:Value→Shared→Prop) (Q:Value→Shared→Prop),Q (.bool b) s→wpAny (model prog w) A (richCompare .Gt y x) Q E s
theorem nQ (l b:Addr) (items items2:Array Value) (n n2:Nat) (dd dd2:Option Addr) (sl sl2:Array (Option Value)) (e r:Nat→Bool):
    Meets (Builtin.«tuple.__gt__» ⟨[.ref l, .ref b],[]⟩)
      (fun A R s=>s.heap.get? l=some {cls:= .type "tuple",dict:=dd,data:= .seq items n,slots:=sl}∧s.heap.get? b=some {cls:= .type "tuple",dict:=dd2,data:= .seq items2 n2,slots:=sl2}∧
        (∀j (h1:j < items.size) (h2:j < items2.size),EqAt A.in1 s items[j] items2[j] (e j))∧(∀j (h1:j < items.size) (h2:j < items2.size),e j=false→RcGtAt A.in1 s items[j] items2[j] (r j))∧
        R (.ok (.ret (.bool (fU e r (decide (items2.size < items.size)) (List.range (min items.size items2.size)))))) s):=
  .of_wp fun prog w A R s h=>by
    obtain ⟨hp,g,d,tk,os⟩:=s;obtain ⟨hl,hb,he,hr,h⟩:=h
    have f2:=AutoSeq1.sub_tuple_tuple
    have hZ:(items.toList.zip items2.toList).length=min items.size items2.size:=by simp
    wp_walk using wpAny_loadPart' hl,wpAny_loadPart' hb,wpAny_forIn_list _ (fun ce b s'=>b.1=none∧s'=⟨hp,g,d,tk,os⟩∧∃i,ce=(items.toList.zip items2.toList).drop i∧
      R (.ok (.ret (.bool (fU e r (decide (items2.size < items.size)) ((List.range (min items.size items2.size)).drop i))))) ⟨hp,g,d,tk,os⟩) _
    case turn=>
      rintro ⟨y,x⟩ ce b s' ⟨hb',rfl,i,hz,hR⟩
      have hlt:i < (items.toList.zip items2.toList).length:=by
        rcases Nat.lt_or_ge i (items.toList.zip items2.toList).length with h' | h'
        · exact h'
        · rw [List.drop_of_length_le h'] at hz;cases hz
      have hm:i < min items.size items2.size:=hZ▸hlt
      have h1:i < items.size:=Nat.lt_of_lt_of_le hm (Nat.min_le_left _ _)
      have h2:i < items2.size:=Nat.lt_of_lt_of_le hm (Nat.min_le_right _ _)
      rw [List.drop_eq_getElem_cons hlt] at hz
      injection hz with hyx hrest
      have hy:y=items[i]:=by have:=congrArg Prod.fst hyx;simpa using this
      have hx:x=items2[i]:=by have:=congrArg Prod.snd hyx;simpa using this
      subst hy hx
      have hd:(List.range (min items.size items2.size)).drop i=i::(List.range (min items.size items2.size)).drop (i+1):=by simp [List.drop_eq_getElem_cons,hm]
      rw [hd,fU] at hR
      refine wpAny_bind (he i h1 h2 prog w _ _ ?_)
      cases hy:e i with
      | true=>
        rw [hy,if_pos rfl] at hR
        wp_walk
        exact ⟨rfl,rfl,i+1,hrest,hR⟩
      | false=>
        rw [hy,if_neg (by decide)] at hR
        rw [show (!false)=true from rfl,if_pos rfl]
        refine wpAny_bind (wpAny_rule (wpAny_bind (hr i h1 h2 hy prog w _ _ ?_)))
        wp_walk
        exact ⟨_,rfl,hR⟩
    case fin=>
      rintro ⟨b1,b2⟩ s' ⟨hb',rfl,i,hz,hR⟩
      simp only at hb'
      subst hb'
      have hge:min items.size items2.size≤i:=by
        rcases Nat.lt_or_ge i (items.toList.zip items2.toList).length with h' | h'
        · rw [List.drop_eq_getElem_cons h'] at hz;cases hz
        · exact hZ▸h'
      rw [List.drop_of_length_le (by simpa using hge)] at hR
      wp_walk
      exact ⟨_,rfl,hR⟩
    case h=>
      exact ⟨rfl,rfl,0,rfl,by simpa using h⟩
section
variable {A:Around} {s:Shared}
theorem RcGtAt.tuples {l b:Addr} {items items2:Array Value} {e r:Nat→Bool} (hl:s.heap.IsTuple l items) (hb:s.heap.IsTuple b items2) (hu:A.units < cLine)
    (he:∀j (h1:j < items.size) (h2:j < items2.size),EqAt A.in1 s items[j] items2[j] (e j)) (hr:∀j (h1:j < items.size) (h2:j < items2.size),e j=false→RcGtAt A.in1 s items[j] items2[j] (r j)):RcGtAt A s (.ref l) (.ref b) (fU e r (decide (items2.size < items.size)) (List.range (min items.size items2.size))):=fun prog w E Q h=>by
  obtain ⟨⟨cls,dd,data,sl⟩,ho,hc,n,hd⟩:=id hl
  obtain ⟨⟨cls2,dd2,data2,sl2⟩,ho2,hc2,n2,kq⟩:=id hb
  simp only at hc hd hc2 kq
  subst hc hd hc2 kq
  exact richCompare_meets_room (op:= .Gt) ⟨_,ho,rfl⟩ ⟨_,ho2,rfl⟩ F.slot_tuple_gt F.entry_tuple_gt (F.args_tuple_gt_2 _ _) (nQ l b items items2 n n2 dd dd2 sl sl2 e r)
    ⟨ho,ho2,he,hr,show Value.bool _≠Value.notImplemented∧Q (.bool _) s from ⟨(fun x=>nomatch x),h⟩⟩ hu
theorem RcGtAt.ints (i j:Int) (t u:Tok):RcGtAt A s (.int i t) (.int j u) (decide (j < i)):=fun prog w E Q h=>PyProof.Rows.gt_int h
end
end PL
namespace Nh
open PySem L2
theorem NailsOk.stp {r:List Pc} {p:Pc} (h:NailsOk r) (hp:p.1 < 128):NailsOk (NH.stp r p):=by
  cases r with
  | nil=>
    show NailsOk (if p.2=0 then [] else [p])
    split
    · exact h
    · intro q hq;rw [List.mem_singleton.mp hq];exact hp
  | cons x r=>
    rw [NH.qF]
    intro q hq
    rcases List.mem_append.mp hq with h1 | h1
    · unfold NH.kq at h1
      split at h1
      · split at h1
        · cases h1
        · rw [List.mem_singleton.mp h1];exact hp
      · split at h1
        · rw [List.mem_singleton.mp h1];exact h x (List.mem_cons_self ..)
        · rcases List.mem_cons.mp h1 with h2 | h2
          · rw [h2];exact hp
          · rw [List.mem_singleton.mp h2];exact h x (List.mem_cons_self ..)
    · exact h q (List.mem_cons_of_mem _ h1)
theorem NailsOk.foldl:∀(c:List Pc) {r:List Pc},NailsOk r→NailsOk c→NailsOk (c.foldl NH.stp r)
  | [],_,h,_=>h
  | p::c,_,h,hc=>NailsOk.foldl c (h.stp (hc p (List.mem_cons_self ..))) fun q hq=>hc q (List.mem_cons_of_mem _ hq)
theorem NailsOk.take {c:List Pc} (h:NailsOk c) (i:Nat):NailsOk (c.take i):=fun p hp=>h p (List.mem_of_mem_take hp)
theorem NailsOk.drop {c:List Pc} (h:NailsOk c) (i:Nat):NailsOk (c.drop i):=fun p hp=>h p (List.mem_of_mem_drop hp)
theorem NailsOk.reverse {c:List Pc} (h:NailsOk c):NailsOk c.reverse:=fun p hp=>h p (List.mem_reverse.mp hp)
theorem NailsOk.append {c d:List Pc} (h:NailsOk c) (h':NailsOk d):NailsOk (c++d):=fun p hp=>(List.mem_append.mp hp).elim (h p) (h' p)
theorem NailsOk.contr {c:List Pc} (h:NailsOk c):NailsOk (NH.contr c):=fun p hp=>by
  obtain ⟨q,hq,e⟩:=List.mem_map.mp hp
  subst e
  exact h q (List.mem_reverse.mp hq)
theorem NailsOk.short {c:List Pc} (h:NailsOk c):NailsOk (NH.short c):=(NailsOk.foldl c (fun _ z=>by cases z) h).reverse
theorem kH:NailsOk []:=fun _ z=>by cases z
end Nh
namespace Nh
open PySem L2 PL
theorem NailsOk.rep {c:List Pc} (h:NailsOk c) (k:Nat):NailsOk (List.replicate k c).flatten:=fun p hp=>by
  obtain ⟨l,hl,hpl⟩:=List.mem_flatten.mp hp
  rw [(List.mem_replicate.mp hl).2] at hpl
  exact h p hpl
theorem NailsOk.cutL {c:List Pc} (h:NailsOk c) (lo hi:Option Int):NailsOk (cutL c lo hi):=fun p hp=>h p (gV hp)
def l4 (i:Int):Nat:=[97,98,99,122].getD i.toNat 97
theorem wL (i:Int):l4 i < 128:=by
  unfold l4
  rw [List.getD_eq_getElem?_getD]
  have h:∀j:Nat,([97,98,99,122][j]?.getD 97) < 128:=fun j=>
    match j with
    | 0=>by decide
    | 1=>by decide
    | 2=>by decide
    | 3=>by decide
    | j+4=>by simp
  exact h _
theorem wM:∀j,j < 26→(Str.ofString "abcdefghijklmnopqrstuvwxyz").cps.toList[j]? =some (97+j):=by decide+kernel
theorem tE:∀j,j < 4→(Str.ofString "abcz").cps.toList[j]? =some ([97,98,99,122].getD j 97):=by decide+kernel
theorem lH (v:Int):atI (Str.ofString "abcz").cps.toList (v % 4)=some (l4 (v % 4)):=by
  have h0:=Int.emod_nonneg v (show (4:Int)≠0 by decide)
  have h1:=Int.emod_lt_of_pos v (show (0:Int) < 4 by decide)
  rw [lC h0]
  exact tE _ (by omega)
theorem wN (v:Int):atI (Str.ofString "abcdefghijklmnopqrstuvwxyz").cps.toList (v % 26)=some (97+(v % 26).toNat):=by
  have h0:=Int.emod_nonneg v (show (26:Int)≠0 by decide)
  have h1:=Int.emod_lt_of_pos v (show (0:Int) < 26 by decide)
  rw [lC h0]
  exact wM _ (by omega)
theorem iK:(Str.ofString "abcz").length≤1000000:=by decide+kernel
theorem rG:(Str.ofString "abcdefghijklmnopqrstuvwxyz").length≤1000000:=by decide+kernel
theorem lI {i j:Int} (h1: -(2 ^ 64) < j) (h2:j < 2 ^ 64):fQ i j=true:=by
  simp only [fQ,Bool.or_eq_true,decide_eq_true_eq]
  exact .inl (.inr ⟨h1,h2⟩)
theorem lJ {i j:Int} (h1: -(2 ^ 64) < i) (h2:i < 2 ^ 64):fQ i j=true:=by
  simp only [fQ,Bool.or_eq_true,decide_eq_true_eq]
  exact .inl (.inl ⟨h1,h2⟩)
theorem aU (i j:Int):pR (.int i) (.int j)=some (decide (i=j)):=rfl
theorem bo (i j:Str):pR (.str i) (.str j)=some (decide (i=j)):=rfl
theorem aM (i j:Bool):pR (.bool i) (.bool j)=some (decide (i=j)):=rfl
theorem mE {c d:List Pc} (hc:NailsOk c) (hd:NailsOk d):pR (.list (c.map aq)) (.list (d.map aq))=some (decide (c=d)):=by
  have e:pR (.list (c.map aq)) (.list (d.map aq))=(if SeqAt.shaped (hO c)&&SeqAt.shaped (hO d) then some (PyData.eqv (hO c) (hO d)) else none):=rfl
  rw [e,ji hc,ji hd,qM]
  rfl
theorem bp (a b:Nat):((⟨#[a]⟩:Str)=⟨#[b]⟩)=(a=b):=propext ⟨fun h=>by
  injection h with h
  simpa using congrArg Array.toList h,fun h=>by rw [h]⟩
end Nh
namespace L2
open PySem PySem.Spec PyProof.Rows
def oQ (K:PySem.W.Frag) (h:Heap):Prop:=∀b q,jH K b=some q→h.get? b=some (PySem.W.tabObj #[])∧(∃c,PySem.W.CodeHd h c b)∧K.lookup b=none
def dI (K:PySem.W.Frag) (a:Addr) (so:Option HO):Hp:=fun b=>match jH K b with
  | some q=>some (.tbl q)
  | none=>if b=a then so else none
theorem nR {K:PySem.W.Frag} {a b:Addr} {so:Option HO} {q:Str} (e:jH K b=some q):dI K a so b=some (.tbl q):=by unfold dI;rw [e]
theorem p9 {K:PySem.W.Frag} {a:Addr} {so:Option HO} (e:jH K a=none):dI K a so a=so:=by unfold dI;rw [e];exact if_pos rfl
theorem fK {K:PySem.W.Frag} {a b:Addr} {so:Option HO} {u:HO} (e:dI K a so b=some u):(∃q,jH K b=some q∧u= .tbl q)∨(b=a∧so=some u):=by
  unfold dI at e
  split at e
  · rename_i q h;cases e;exact .inl ⟨q,h,rfl⟩
  · by_cases hb:b=a
    · rw [if_pos hb] at e;exact .inr ⟨hb,e⟩
    · rw [if_neg hb] at e;cases e
section
variable {P:Program} {w:World} {K:PySem.W.Frag} {mg mb:Str→Option Value} {CX:ql} {k:Nat} {fa a:Addr} {fd:FuncData} {x:Str} {sp:Sp} {s₁:Shared} {vs:List Value} {ns:List Int}
theorem tF (KX:K.In s₁.heap) (hns:s₁.heap.Ns mainGlobals mg) (hb:s₁.heap.Ns builtinsNs mb) (hbb:∀x:Str,x≠"__name__"→mb x=bootBuiltins x) (hlim:s₁.heap.NoLimit) (hg:s₁.gens=#[]) (hbm:∃bm ob,mg "__builtins__"=some (.ref bm)∧bm≠builtinsNs∧s₁.heap.get? bm=some ob∧ob.cls= .type "module"∧ob.dict=some builtinsNs∧ob.data= .plain) (hT:oQ K s₁.heap)
    (ha:s₁.heap.get? a=some {cls:= .type "list",data:= .seq vs.toArray}) (hi:IntsAre vs ns) (hl:ns.length≤sizeLine) (hr:Room k callerA)
    (F:∀base:Heap,K.In base→base.Ns mainGlobals mg→FnOk P w K mg base CX k fa fd [x] sp) (hbind:∀(s:Shared) (u:Value),BindsTo s fd ⟨[u],[]⟩ [(x,u)])
    (hsp:∀H:Hp,SqL K H a (ns.map V.int)→sp [.ref a] H (fun v _=>v= .bl true) fun _ _ _=>False)
    (hCX:∀H e s',CX [] H s₁ (fun _ _ _=>False) e s'→False):
    codeAny (model P w) callerA (.call (.ref fa) ⟨[.ref a],[]⟩) (fun r s'=>r= .ok (.ret (.bool true))∧OldK s₁.heap s'.heap∧s'.os=s₁.os∧AllBare s'.gens) s₁:=by
  have rv:=g8 hi
  have lenV:=hi.length
  have tabA:jH K a=none:=by
    cases q:jH K a with
    | none=>rfl
    | some z=>
      have e:=(hT a z q).1
      rw [ha] at e
      cases e
  have main:∀so:Option HO,(so=none∨(so=some (.frz {cls:= .type "list",data:= .seq vs.toArray} (.lst (ns.map V.int)))∧K.lookup a=none))→SqL K (dI K a so) a (ns.map V.int)→
      codeAny (model P w) callerA (.call (.ref fa) ⟨[.ref a],[]⟩) (fun r s'=>r= .ok (.ret (.bool true))∧OldK s₁.heap s'.heap∧s'.os=s₁.os∧AllBare s'.gens) s₁:=by
    intro so hso hS
    have hok:HOk P w (dI K a so) s₁.heap:=fun b u e=>by
      rcases fK e with ⟨q,e1,rfl⟩ | ⟨rfl,e1⟩
      · exact ObjOk.tbl0 (hT b q e1).1
      · rcases hso with z | ⟨z,_⟩
        · rw [z] at e1;cases e1
        · rw [z] at e1;cases e1
          exact ⟨ha,by rw [List.length_map];exact hl,vs,_,rv,ha⟩
    have free:∀{b:Addr} {o:Obj} {es:Array DictEntry} {ep:Nat},s₁.heap.get? b=some o→o.data= .dict es ep→dI K a so b=none:=fun {b o es ep} e d=>by
      cases q:dI K a so b with
      | none=>rfl
      | some u=>
        rcases fK q with ⟨z,e1,_⟩ | ⟨rfl,_⟩
        · rw [(hT b z e1).1] at e;cases e;cases d
        · rw [ha] at e;cases e;cases d
    have nsK:∀{b:Addr} {m:Str→Option Value},s₁.heap.Ns b m→(l8 s₁.heap (dI K a so)).Ns b m:=fun {b m} ⟨o,es,ep,e,d,r⟩=>⟨o,es,ep,jG e (free e d),d,r⟩
    have kin:K.In (l8 s₁.heap (dI K a so)):=fun b o e=>jG (KX b o e) (by
      cases q:dI K a so b with
      | none=>rfl
      | some u=>
        rcases fK q with ⟨z,e1,_⟩ | ⟨rfl,e1⟩
        · rw [(hT b z e1).2.2] at e;cases e
        · rcases hso with z | ⟨_,z⟩
          · rw [z] at e1;cases e1
          · rw [z] at e;cases e)
    have bmK:∃bm ob,mg "__builtins__"=some (.ref bm)∧bm≠builtinsNs∧(l8 s₁.heap (dI K a so)).get? bm=some ob∧ob.cls= .type "module"∧ob.dict=some builtinsNs∧ob.data= .plain:=by
      obtain ⟨bm,ob,c1,c2,c3,c4,c5⟩:=hbm
      refine ⟨bm,ob,c1,c2,jG c3 ?_,c4,c5⟩
      cases q:dI K a so bm with
      | none=>rfl
      | some u=>
        rcases fK q with ⟨z,e1,_⟩ | ⟨rfl,_⟩
        · rw [(hT bm z e1).1] at c3;cases c3;cases c4
        · rw [ha] at c3
          cases c3
          injection c4 with c6
          exact absurd c6 (by decide)
    have e0:Env0 P w K mg (l8 s₁.heap (dI K a so)) callerA [] s₁ (dI K a so):=
      ⟨rfl,⟨kin,nsK hns,⟨mb,nsK hb,hbb⟩,let ⟨mc,h1,h2⟩:=hlim;⟨mc,nsK h1,h2⟩,bmK⟩,fun b o e=>sk e,Nat.le_of_eq (pE _ _),trivial,fun b hb=>absurd (show b∈([]:List Addr) from hb) (by simp),hok, .of_eq hg,fun b q e=>nR e⟩
    refine codeAny_mono ((F _ kin (nsK hns)).run callerA [] s₁ _ ⟨[.ref a],[]⟩ [.ref a] [.ref a] _ _ hr e0 (hbind s₁ (.ref a)) (.cons rfl .nil) (hsp _ hS)) fun r s' h=>?_
    cases r with
    | error e=>exact (hCX _ e s' h).elim
    | ok fl=>
      cases fl with
      | next=>exact False.elim h
      | brk=>exact False.elim h
      | cont=>exact False.elim h
      | ret u=>
        obtain ⟨v,H',os,bare,un,hok',r',q⟩:=h
        have q':v= .bl true:=q
        subst q'
        obtain rfl:u=Value.bool true:=r'
        have nofs:∀b,b∉qj ([]:List Env):=fun b z=>absurd (show b∈([]:List Addr) from z) (by simp)
        have step:∀b o,s₁.heap.get? b=some o→asItWas s₁.heap s'.heap b o∧∃o',s'.heap.get? b=some o':=fun b o e=>by
          cases q:dI K a so b with
          | none=>exact ⟨.inl (un.keep b o e q (nofs b) (by simp)),_,un.keep b o e q (nofs b) (by simp)⟩
          | some u=>
            rcases fK q with ⟨z,e1,rfl⟩ | ⟨rfl,e1⟩
            · obtain ⟨t1,⟨c,t2⟩,_⟩:=hT b z e1
              obtain ⟨ps,p1,_⟩:=hok' b _ (un.tbls b z q)
              rw [t1] at e
              cases e
              exact ⟨.inr (.inl ⟨(t2.tab t1).isCodeTable,rfl,#[],ps,rfl,by simpa using p1⟩),_,p1⟩
            · rcases hso with z | ⟨z,_⟩
              · rw [z] at e1;cases e1
              · rw [z] at e1;cases e1
                have z2:=un.frzs b _ _ q
                obtain ⟨e2,_⟩:=hok' b _ z2
                rw [ha] at e;cases e
                exact ⟨.inl e2,_,e2⟩
        exact ⟨rfl,⟨fun b o e=>(step b o e).1,fun b o e=>(step b o e).2⟩,os,bare⟩
  cases hk:K.lookup a with
  | some o=>
    have e:=KX a o hk
    rw [ha] at e
    cases e
    exact main none (.inl rfl) (.inr ⟨_,vs.toArray,_,hk,rfl,rfl,rfl,by rw [List.size_toArray,lenV];exact hl,by simpa using rv⟩)
  | none=>exact main _ (.inr ⟨rfl,hk⟩) (.inl (.inr ⟨_,p9 tabA⟩))
end
theorem rH {l:PySem.W.OpenLaw} {n k:Nat} {q:Program} {loose:List Str} {XP:(Str→Option Value)→Heap→Prop} {YP:World→Heap→Prop} {d:DefRec} {K:Params→PySem.W.Frag} {CX:World→ql} {sp:World→Sp} {x:Str}
    (hn:l.most=some n) (hn2:n≤sizeLine) (hdf:d.params.defaults=[]) (hr:Room k callerA)
    (hY:∀(w:World) (h:Heap),YP w h→(K w.params).In h∧oQ (K w.params) h)
    (F:∀(w:World) (mg:Str→Option Value) (fa:Addr) (h:Heap),(K w.params).In h→h.Ns mainGlobals mg→mg d.name=some (.ref fa)→
      ∃fd:FuncData,(∀(s:Shared) (u:Value),BindsTo s fd ⟨[u],[]⟩ [(x,u)])∧
        ∀base:Heap,(K w.params).In base→base.Ns mainGlobals mg→FnOk l.prog w (K w.params) mg base (CX w) k fa fd [x] (sp w))
    (hsp:∀(w:World) (H:Hp) (a:Addr) (ns:List Int),ns.length≤n→SqL (K w.params) H a (ns.map V.int)→sp w [.ref a] H (fun v _=>v= .bl true) fun _ _ _=>False)
    (hCX:∀(w:World) (H:Hp) (s:Shared) (e:Value) (s':Shared),CX w [] H s (fun _ _ _=>False) e s'→False):
    PySem.W.WalkO q loose XP YP l.row.toRowW d [] (fun f vs=>PySem.call f vs):=by
  refine Att.mh hn hdf fun w s₀ s₁ mg mb fa o pm cd doc a vs ns G Y ho hd hcd hmg hobj hints hlen hg=>?_
  obtain ⟨KX,KT⟩:=hY w _ Y
  obtain ⟨fd,hb,hF⟩:=F w mg fa _ KX G.T.g hmg
  exact tF KX G.T.g G.T.b G.T.builtins G.T.nolimit hg G.T.bmain KT hobj hints (Nat.le_trans hlen hn2) hr hF hb (fun H hS=>hsp w H a ns hlen hS) fun H e s'=>hCX w H s₁ e s'
end L2
namespace NH
def xI:Nat→Nat→Nat
  | _,0=>1
  | 0,_+1=>0
  | n+1,k+1=>xI n (k+1)+xI n k
def xJ:Nat→Nat→Int
  | _,0=>1
  | 0,_+1=>0
  | m+1,k+1=>xJ m (k+1) - xJ (m+1) k
def ch (n:Int) (k:Nat):Int:=match n with
  | .ofNat n=>(xI n k:Int)
  | .negSucc m=>xJ (m+1) k
def ff (n:Int):Nat→Int
  | 0=>1
  | k+1=>ff n k*(n - k)
section
variable {α:Type}
def conv (f g:List α→Int):List α→Int
  | []=>f []*g []
  | a::w=>f []*g (a::w)+conv (fun u=>f (a::u)) g w
end
section
variable {α:Type} [DecidableEq α]
def x_ (p:α×Int) (w:List α):Int:=if w.all (fun b=>decide (b=p.1)) then ch p.2 w.length else 0
def vs (j:Nat) (m n:Int):Nat→Int
  | 0=>ch m j
  | k+1=>ch m j*ch n (k+1)+vs (j+1) m n k
def Unlike:List α→Prop
  | []=>True
  | [_]=>True
  | a::b::w=>a≠b∧Unlike (b::w)
theorem Unlike.tail {a:α} {w:List α} (h:Unlike (a::w)):Unlike w:=by
  cases w with
  | nil=>trivial
  | cons b w=>exact h.2
end
end NH
namespace NH
section
variable {α:Type} [DecidableEq α]
def Rot (a b:List (α×Int)):Prop:=∃u v,a=u++v∧b=v++u
theorem Rot.refl (a:List (α×Int)):Rot a a:=⟨[],a,rfl,by simp⟩
theorem Rot.symm {a b:List (α×Int)} (h:Rot a b):Rot b a:=let ⟨u,v,e,f⟩:=h;⟨v,u,f,e⟩
theorem Rot.trans {a b c:List (α×Int)} (h:Rot a b) (k:Rot b c):Rot a c:=by
  obtain ⟨u,v,rfl,e⟩:=h
  obtain ⟨x,y,e2,rfl⟩:=k
  rw [e] at e2
  rcases List.append_eq_append_iff.mp e2 with ⟨w,e3,e4⟩ | ⟨w,e3,e4⟩
  · subst e3 e4
    exact ⟨w,y++v,by simp,by simp⟩
  · subst e3 e4
    exact ⟨u++x,w,by simp,by simp⟩
theorem Rot.eq {a b:List (α×Int)} (h:a=b):Rot a b:=h▸Rot.refl a
theorem Rot.len {a b:List (α×Int)} (h:Rot a b):a.length=b.length:=by
  obtain ⟨u,v,rfl,rfl⟩:=h
  simp [Nat.add_comm]
end
end NH
namespace Nh
open PySem L2 PL
def lp (p q:Pc):Bool:=if p.1=q.1 then decide (p.2 < q.2) else decide (p.1 < q.1)
def ll:List Pc→List Pc→Bool
  | [],[]=>false
  | [],_::_=>true
  | _::_,[]=>false
  | x::xs,y::ys=>if x=y then ll xs ys else lp x y
theorem rJ {p q:Pc} (h:p≠q):lp p q=true∨lp q p=true:=by
  unfold lp
  by_cases e:p.1=q.1
  · rw [if_pos e,if_pos e.symm]
    simp only [decide_eq_true_eq]
    have:p.2≠q.2:=fun z=>h (by cases p;cases q;simp_all)
    omega
  · rw [if_neg e,if_neg (fun z=>e z.symm)]
    simp only [decide_eq_true_eq]
    omega
theorem mF:∀{a b:List Pc},a≠b→ll a b=true∨ll b a=true
  | [],[],h=>absurd rfl h
  | [],_::_,_=> .inl rfl
  | _::_,[],_=> .inr rfl
  | x::a,y::b,h=>by
    unfold ll
    by_cases e:x=y
    · subst e
      rw [if_pos rfl,if_pos rfl]
      exact mF fun z=>h (by rw [z])
    · rw [if_neg e,if_neg (fun z=>e z.symm)]
      exact rJ e
def vY (a:List Pc) (p:Nat):List Pc:=a.drop p++a.take p
def ya (a:List Pc) (p:Nat):Prop:=∃q,q < a.length∧ll (vY a q) (vY a p)=true
def Least (a w:List Pc):Prop:=(∃p,p≤a.length∧w=vY a p)∧∀p,p≤a.length→ll (vY a p) w=false
structure Keep (a:List Pc) (i j k:Nat):Prop where
  ne:i≠j
  lo:i < a.length∨j < a.length
  kn:k≤a.length
  like:∀t,t < k→a[(i+t) % a.length]? =a[(j+t) % a.length]?
  out:∀p,p < a.length→p < i∨p < j→p≠i→p≠j→ya a p
  out1:∀p,p < a.length→p < i∨p < j→p≠min i j→ya a p
theorem Least.one {a w w':List Pc} (h:Least a w) (h':Least a w'):w=w':=by
  obtain ⟨⟨p,hp,rfl⟩,k⟩:=h
  obtain ⟨⟨p',hp',rfl⟩,k'⟩:=h'
  by_cases e:vY a p=vY a p'
  · exact e
  · rcases mF e with z | z
    · rw [k' p hp] at z;cases z
    · rw [k p' hp'] at z;cases z
end Nh
namespace NH
variable {α:Type} [DecidableEq α]
end NH
namespace NH
variable {α:Type} [DecidableEq α]
end NH
namespace Nh
open PySem L2 PL
def CordOk (c:List Pc):Prop:=∀p∈c,p.1 < 128∧p.2.natAbs < 2 ^ 100
theorem CordOk.n {c:List Pc} (h:CordOk c):NailsOk c:=fun p hp=>(h p hp).1
theorem CordOk.append {c d:List Pc} (h:CordOk c) (h':CordOk d):CordOk (c++d):=fun p hp=>(List.mem_append.mp hp).elim (h p) (h' p)
theorem CordOk.contr {c:List Pc} (h:CordOk c):CordOk (NH.contr c):=fun p hp=>by
  obtain ⟨q,hq,e⟩:=List.mem_map.mp hp
  subst e
  have:=h q (List.mem_reverse.mp hq)
  exact ⟨this.1,by simpa using this.2⟩
theorem CordOk.cutL {c:List Pc} (h:CordOk c) (lo hi:Option Int):CordOk (cutL c lo hi):=fun p hp=>h p (gV hp)
theorem mG:CordOk []:=fun _ z=>by cases z
end Nh
namespace NhLS
set_option autoImplicit false
open PySem PyProof.Rows
def tH:Bool→Keyed→Array Keyed→Nat→Nat→Nat→StateT SortSt Sem (Option Nat):=sortPriv% PySem.Builtin.gallop
def rK:Array Keyed→Array Keyed→StateT SortSt Sem (Array Keyed):=sortPriv% PySem.Builtin.mergeLo
def rL:Array Keyed→Array Keyed→StateT SortSt Sem (Array Keyed):=sortPriv% PySem.Builtin.mergeHi
def tI:Keyed:=(Value.none,Value.none)
def at' (a:Array Keyed) (i:Nat):Keyed:=a.getD i tI
theorem wO {a:Array Keyed} {i:Nat} (h:i < a.size):a[i]? =some (at' a i):=by simp [at',Array.getD,h]
structure Cmp (prog:Program) (w:World) (A:Around) (s:Shared) (κ:SortKind) (O:KeyOrd) (key:Keyed→O.α) (dom:Keyed→Prop):Prop where
  ask:∀(E:Value→Shared→Prop) (x y:Keyed) (Q:Bool→Shared→Prop),dom x→dom y→Q (O.blt (key x) (key y)) s→wpAny (model prog w) A (keyLt' κ x.1 y.1) Q E s
section
variable {prog:Program} {w:World} {A:Around} {E:Value→Shared→Prop} {s:Shared} {κ:SortKind} {O:KeyOrd} {key:Keyed→O.α} {dom:Keyed→Prop} {st:SortSt}
theorem rM (C:Cmp prog w A s κ O key dom) {x y:Keyed} {Q:Option Bool→SortSt→Prop} (hk:kindOf st=κ) (dx:dom x) (dy:dom y) (h:Q (some (O.blt (key x) (key y))) st):wpS (model prog w) A E s (lt' x y) Q st:=by
  rw [lt'_eq]
  refine wpS_bind (wpS_get ?_)
  rw [hk]
  refine wpS_bind (wpS_lift (wpAny_attempt (C.ask _ _ _ _ dx dy ⟨rfl,?_⟩)))
  exact wpS_pure h
theorem fR {arr:Array Keyed} {i:Nat} {Q:Keyed→SortSt→Prop} (hi:i < arr.size) (h:Q (at' arr i) st):wpS (model prog w) A E s (elem' arr i) Q st:=by
  rw [elem'_eq,wO hi]
  exact wpS_pure h
def fV (O:KeyOrd) (key:Keyed→O.α) (left:Bool) (k:Keyed) (arr:Array Keyed) (base i:Nat):Bool:=if left then O.blt (key (at' arr (base+i))) (key k) else !O.blt (key k) (key (at' arr (base+i)))
theorem gl (C:Cmp prog w A s κ O key dom) {left:Bool} {k:Keyed} {arr:Array Keyed} {base n hint:Nat} {Q:Option Nat→SortSt→Prop} (hk:kindOf st=κ) (hh:hint < n) (hb:base+n≤arr.size) (dk:dom k) (da:∀i,i < arr.size→dom (at' arr i))
    (mono:∀i j,i < j→j < n→fV O key left k arr base j=true→fV O key left k arr base i=true)
    (h:∀m,m≤n→(∀i,i < m→fV O key left k arr base i=true)→(∀i,m≤i→i < n→fV O key left k arr base i=false)→Q (some m) st):wpS (model prog w) A E s (tH left k arr base n hint) Q st:=by
  have bey:∀{i:Nat} {Q':Option Bool→SortSt→Prop},i < n→Q' (some (fV O key left k arr base i)) st→wpS (model prog w) A E s (elem' arr (base+i) >>= fun x=>if left=true then lt' x k else (lt' k x >>= fun r=>pure (r.map (!·)))) Q' st:=by
    intro i Q' hi hq
    refine wpS_bind (fR (by lia) ?_)
    have dx:=da (base+i) (by lia)
    cases left with
    | true=>exact rM C hk dx dk hq
    | false=>exact wpS_bind (rM C hk dk dx (wpS_pure hq))
  refine wpS_bind (bey hh ?_)
  have up:∀i j,i≤j→j < n→fV O key left k arr base j=true→fV O key left k arr base i=true:=fun i j hij hj e=>by
    by_cases z:i=j
    · rw [z];exact e
    · exact mono i j (by exact Nat.lt_of_le_of_ne ‹_› ‹_›) hj e
  have dn:∀i j,i≤j→j < n→fV O key left k arr base i=false→fV O key left k arr base j=false:=fun i j hij hj e=>by
    cases z:fV O key left k arr base j with
    | false=>rfl
    | true=>rw [up i j hij hj z] at e;cases e
  have fin:∀{body:Nat→Option (Option Nat)×Nat×Nat→StateT SortSt Sem (ForInStep (Option (Option Nat)×Nat×Nat))} {cont:Option (Option Nat)×Nat×Nat→StateT SortSt Sem (Option Nat)},
      (∀lo,Q (some lo) st→wpS (model prog w) A E s (cont (none,lo,lo)) Q st)→
      (∀x lo hi (R:ForInStep (Option (Option Nat)×Nat×Nat)→SortSt→Prop),lo≥hi→R (.done (none,lo,hi)) st→wpS (model prog w) A E s (body x (none,lo,hi)) R st)→
      (∀x lo hi (R:ForInStep (Option (Option Nat)×Nat×Nat)→SortSt→Prop),lo < hi→hi≤n→R (.yield (if fV O key left k arr base (lo+(hi - lo) / 2)=true then (none,lo+(hi - lo) / 2+1,hi) else (none,lo,lo+(hi - lo) / 2))) st→wpS (model prog w) A E s (body x (none,lo,hi)) R st)→
      ∀lo hi,lo≤hi→hi≤n→(∀i,i < lo→fV O key left k arr base i=true)→(∀i,hi≤i→i < n→fV O key left k arr base i=false)→
      wpS (model prog w) A E s (forIn [0:n] (none,lo,hi) body >>= cont) Q st:=by
    intro body cont b3 b1 b2 lo hi f1 f2 f3 f4
    refine wpS_bind (wpS_mono (wpS_forRange (I:=fun x c st'=>st'=st∧∃lo hi,c=(none,lo,hi)∧lo≤hi∧hi≤n∧hi+x≤n+lo∧(∀i,i < lo→fV O key left k arr base i=true)∧(∀i,hi≤i→i < n→fV O key left k arr base i=false))
      (Q:=fun c st'=>st'=st∧∃lo,c=(none,lo,lo)∧lo≤n∧(∀i,i < lo→fV O key left k arr base i=true)∧(∀i,lo≤i→i < n→fV O key left k arr base i=false)) ?s1 ?s2 ⟨rfl,lo,hi,rfl,f1,f2,by exact Nat.le_add_right_of_le ‹_›,f3,f4⟩) ?s3)
    case s2=>
      rintro c st' ⟨rfl,l,o,rfl,h1,h2,h3,h4,h5⟩
      have:l=o:=by lia
      subst this
      exact ⟨rfl,l,rfl,h2,h4,h5⟩
    case s3=>
      rintro c st' ⟨rfl,l,rfl,h2,h4,h5⟩
      exact b3 l (h l h2 h4 h5)
    case s1=>
      rintro x c st' - hx ⟨rfl,l,o,rfl,h1,h2,h3,h4,h5⟩
      by_cases z:l≥o
      · have:l=o:=by exact Nat.le_antisymm ‹_› ‹_›
        subst this
        exact b1 x l l _ z ⟨rfl,l,rfl,h2,h4,h5⟩
      · refine b2 x l o _ (by exact Nat.lt_of_not_le ‹_›) h2 ?_
        cases e:fV O key left k arr base (l+(o - l) / 2) with
        | true=>exact ⟨rfl,_,_,rfl,by lia,by assumption,by lia,fun i hi=>up i _ (by exact Nat.le_of_lt_succ ‹_›) (by lia) e,h5⟩
        | false=>exact ⟨rfl,_,_,rfl,by exact Nat.le_add_right _ _,by lia,by lia,h4,fun i hi hn=>dn _ i hi hn e⟩
  cases eh:fV O key left k arr base hint with
  | true=>
    dsimp only
    rw [if_pos rfl]
    refine wpS_bind (wpS_mono (wpS_forRange (I:=fun x c st'=>st'=st∧∃l o,c=(none,l,o)∧l < o∧x < o∧hint+l < n∧fV O key left k arr base (hint+l)=true)
      (Q:=fun c st'=>st'=st∧∃l o,c=(none,l,o)∧l < o∧hint+l < n∧fV O key left k arr base (hint+l)=true∧(n - hint≤o∨fV O key left k arr base (hint+o)=false)) ?s1 ?s2 ⟨rfl,0,1,rfl,by exact Nat.lt_succ_self _,by exact Nat.lt_succ_self _,by assumption,eh⟩) ?s3)
    case s2=>
      rintro c st' ⟨rfl,l,o,rfl,h1,h2,h3,h4⟩
      exact ⟨rfl,l,o,rfl,h1,h3,h4, .inl (by lia)⟩
    case s1=>
      rintro x c st' - hx ⟨rfl,l,o,rfl,h1,h2,h3,h4⟩
      dsimp only
      by_cases z:o≥n - hint
      · rw [if_pos z]
        exact wpS_pure ⟨rfl,l,o,rfl,h1,h3,h4, .inl z⟩
      · rw [if_neg z]
        refine wpS_bind (bey (by lia) ?_)
        cases e:fV O key left k arr base (hint+o) with
        | true=>exact wpS_pure ⟨rfl,o,2*o+1,rfl,by lia,by lia,by lia,e⟩
        | false=>exact wpS_pure ⟨rfl,l,o,rfl,h1,h3,h4, .inr e⟩
    case s3=>
      rintro c st' ⟨rfl,l,o,rfl,h1,h3,h4,h5⟩
      dsimp only
      have f1:hint+l+1≤hint+min o (n - hint):=by lia
      have f2:hint+min o (n - hint)≤n:=by lia
      have f3:∀i,i < hint+l+1→fV O key left k arr base i=true:=fun i hi=>up i _ (by exact Nat.le_of_lt_succ ‹_›) h3 h4
      have f4:∀i,hint+min o (n - hint)≤i→i < n→fV O key left k arr base i=false:=fun i hi hn=>by
        rcases h5 with h5 | h5
        · lia
        · exact dn (hint+o) i (by lia) hn h5
      revert f1 f2 f3 f4
      generalize hint+l+1=lo
      generalize hint+min o (n - hint)=hi
      refine fin (fun lo hq=>wpS_pure hq) (fun x lo hi R hz hR=>?_) (fun x lo hi R hz hn hR=>?_) lo hi
      · dsimp only
        rw [if_pos hz]
        exact wpS_pure hR
      · dsimp only
        rw [if_neg (by exact Nat.not_le.mpr ‹_›)]
        refine wpS_bind (bey (by lia) ?_)
        cases e:fV O key left k arr base (lo+(hi - lo) / 2) with
        | true=>rw [e] at hR;exact wpS_pure hR
        | false=>rw [e] at hR;exact wpS_pure hR
  | false=>
    dsimp only
    rw [if_neg (by simp)]
    refine wpS_bind (wpS_mono (wpS_forRange (I:=fun x c st'=>st'=st∧∃l o,c=(none,l,o)∧l < o∧x < o∧l≤hint∧fV O key left k arr base (hint - l)=false)
      (Q:=fun c st'=>st'=st∧∃l o,c=(none,l,o)∧l < o∧l≤hint∧fV O key left k arr base (hint - l)=false∧(hint+1≤o∨fV O key left k arr base (hint - o)=true)) ?s1 ?s2 ⟨rfl,0,1,rfl,by exact Nat.lt_succ_self _,by exact Nat.lt_succ_self _,by exact Nat.zero_le _,eh⟩) ?s3)
    case s2=>
      rintro c st' ⟨rfl,l,o,rfl,h1,h2,h3,h4⟩
      exact ⟨rfl,l,o,rfl,h1,h3,h4, .inl (by lia)⟩
    case s1=>
      rintro x c st' - hx ⟨rfl,l,o,rfl,h1,h2,h3,h4⟩
      dsimp only
      by_cases z:o≥hint+1
      · rw [if_pos z]
        exact wpS_pure ⟨rfl,l,o,rfl,h1,h3,h4, .inl z⟩
      · rw [if_neg z]
        refine wpS_bind (bey (by exact Nat.lt_of_le_of_lt (Nat.sub_le _ _) ‹_›) ?_)
        cases e:fV O key left k arr base (hint - o) with
        | false=>exact wpS_pure ⟨rfl,o,2*o+1,rfl,by lia,by lia,by exact Nat.le_of_not_lt ‹_›,e⟩
        | true=>exact wpS_pure ⟨rfl,l,o,rfl,h1,h3,h4, .inr e⟩
    case s3=>
      rintro c st' ⟨rfl,l,o,rfl,h1,h3,h4,h5⟩
      dsimp only
      have f1:hint+1 - min o (hint+1)≤hint - l:=by omega
      have f2:hint - l≤n:=by lia
      have f3:∀i,i < hint+1 - min o (hint+1)→fV O key left k arr base i=true:=fun i hi=>by
        rcases h5 with h5 | h5
        · lia
        · exact up i (hint - o) (by lia) (by exact Nat.lt_of_le_of_lt (Nat.sub_le _ _) ‹_›) h5
      have f4:∀i,hint - l≤i→i < n→fV O key left k arr base i=false:=fun i hi hn=>dn _ i hi hn h4
      revert f1 f2 f3 f4
      generalize hint+1 - min o (hint+1)=lo
      generalize hint - l=hi
      refine fin (fun lo hq=>wpS_pure hq) (fun x lo hi R hz hR=>?_) (fun x lo hi R hz hn hR=>?_) lo hi
      · dsimp only
        rw [if_pos hz]
        exact wpS_pure hR
      · dsimp only
        rw [if_neg (by exact Nat.not_le.mpr ‹_›)]
        refine wpS_bind (bey (by lia) ?_)
        cases e:fV O key left k arr base (lo+(hi - lo) / 2) with
        | true=>rw [e] at hR;exact wpS_pure hR
        | false=>rw [e] at hR;exact wpS_pure hR
end
end NhLS
namespace NhLS
set_option autoImplicit false
open PySem PyProof.Rows
def Le (O:KeyOrd) (key:Keyed→O.α) (x y:Keyed):Prop:=O.blt (key y) (key x)=false
structure G (le:Keyed→Keyed→Prop) (T out ra rb:List Keyed):Prop where
  perm:(out++(ra++rb)).Perm T
  pa:(out++ra).Pairwise le
  pb:(out++rb).Pairwise le
def f9 (le:Keyed→Keyed→Prop) (T l:List Keyed):Prop:=l.Perm T∧l.Pairwise le
section
variable {le:Keyed→Keyed→Prop} {T out ra rb p:List Keyed}
theorem G.takeA (g:G le T out (p++ra) rb) (h:∀x∈p,∀y∈rb,le x y):G le T (out++p) ra rb where
  perm:=by have:=g.perm;simpa [List.append_assoc] using this
  pa:=by have:=g.pa;simpa [List.append_assoc] using this
  pb:=by
    have h1:=g.pa
    have h2:=g.pb
    simp only [List.pairwise_append,List.mem_append] at h1 h2 ⊢
    refine ⟨⟨h1.1,h1.2.1.1,fun x hx y hy=>h1.2.2 x hx y (.inl hy)⟩,h2.2.1,fun x hx y hy=>?_⟩
    rcases hx with hx | hx
    · exact h2.2.2 x hx y hy
    · exact h x hx y hy
theorem G.takeB (g:G le T out ra (p++rb)) (h:∀x∈p,∀y∈ra,le x y):G le T (out++p) ra rb where
  perm:=by
    refine List.Perm.trans ?_ g.perm
    rw [List.append_assoc]
    refine List.Perm.append_left _ ?_
    rw [←List.append_assoc,←List.append_assoc]
    exact List.Perm.append_right _ List.perm_append_comm
  pb:=by have:=g.pb;simpa [List.append_assoc] using this
  pa:=by
    have h1:=g.pa
    have h2:=g.pb
    simp only [List.pairwise_append,List.mem_append] at h1 h2 ⊢
    refine ⟨⟨h2.1,h2.2.1.1,fun x hx y hy=>h2.2.2 x hx y (.inl hy)⟩,h1.2.1,fun x hx y hy=>?_⟩
    rcases hx with hx | hx
    · exact h1.2.2 x hx y hy
    · exact h x hx y hy
theorem G.endA (g:G le T out ra []):f9 le T (out++ra):=⟨by have:=g.perm;simpa using this,g.pa⟩
theorem G.endB (g:G le T out [] rb):f9 le T (out++rb):=⟨by have:=g.perm;simpa using this,g.pb⟩
end
section
variable {O:KeyOrd} {key:Keyed→O.α} {a b:Array Keyed} {T:List Keyed} {out:Array Keyed} {i j ia ib k:Nat} {x y z:Keyed}
theorem Le.refl (x:Keyed):Le O key x x:=O.irrefl _
theorem Le.trans (h1:Le O key x y) (h2:Le O key y z):Le O key x z:=KeyOrd.kle_trans (O:=O) (a:=key x) (b:=key y) (c:=key z) h1 h2
theorem Le.of (h:O.blt (key x) (key y)=true):Le O key x y:=KeyOrd.klt_asymm (O:=O) h
theorem gH (h:i < a.toList.length):a.toList[i]=at' a i:=by
  have h':i < a.size:=by simpa using h
  simp [at',Array.getD,h']
theorem lK (h:y∈a.toList.drop i):∃j,i≤j∧j < a.size∧y=at' a j:=by
  obtain ⟨j,hj,e⟩:=List.mem_iff_getElem.mp h
  rw [List.length_drop,Array.length_toList] at hj
  refine ⟨i+j,by exact Nat.le_add_right _ _,by exact Nat.add_lt_of_lt_sub' ‹_›,?_⟩
  rw [List.getElem_drop] at e
  rw [←e,gH]
theorem iu (h:i < a.size):at' a i∈a.toList:=by
  rw [←gH (by simpa using h)]
  exact List.getElem_mem _
theorem iL (pa:a.toList.Pairwise (Le O key)) (h:i≤j) (hj:j < a.size):Le O key (at' a i) (at' a j):=by
  by_cases e:i=j
  · rw [e];exact Le.refl _
  · have:=List.pairwise_iff_getElem.mp pa i j (by simp;exact Nat.lt_of_le_of_lt ‹_› ‹_›) (by simpa using hj) (by exact Nat.lt_of_le_of_ne ‹_› ‹_›)
    rw [gH,gH] at this
    exact this
theorem mH (pa:a.toList.Pairwise (Le O key)) (h:y∈a.toList.drop i):Le O key (at' a i) y:=by
  obtain ⟨j,h1,h2,rfl⟩:=lK h
  exact iL pa h1 h2
theorem oR (h:i < a.size):a.toList.drop i=[at' a i]++a.toList.drop (i+1):=by
  rw [List.drop_eq_getElem_cons (by simpa using h),gH]
  rfl
theorem oS (k:Nat):a.toList.drop i=(a.extract i (i+k)).toList++a.toList.drop (i+k):=by
  rw [Array.toList_extract,List.extract_eq_take_drop,Nat.add_sub_cancel_left,←List.drop_drop,List.take_append_drop]
theorem i_:(a.extract i).toList=a.toList.drop i:=by
  rw [Array.toList_extract,List.extract_eq_take_drop]
  exact List.take_of_length_le (by simp)
theorem lL (h:a.size≤i):a.toList.drop i=[]:=List.drop_eq_nil_of_le (by simpa using h)
theorem rN (h:x∈(a.extract i (i+k)).toList):∃j,j < k∧i+j < a.size∧x=at' a (i+j):=by
  rw [Array.toList_extract,List.extract_eq_take_drop,Nat.add_sub_cancel_left] at h
  obtain ⟨j,hj,e⟩:=List.mem_iff_getElem.mp h
  rw [List.length_take,List.length_drop,Array.length_toList] at hj
  refine ⟨j,by lia,by lia,?_⟩
  rw [List.getElem_take,List.getElem_drop] at e
  rw [←e,gH]
theorem G.pushA (g:G (Le O key) T out.toList (a.toList.drop ia) (b.toList.drop ib)) (h:ia < a.size) (hl:∀y∈b.toList.drop ib,Le O key (at' a ia) y):G (Le O key) T (out.push (at' a ia)).toList (a.toList.drop (ia+1)) (b.toList.drop ib):=by
  rw [oR h] at g
  rw [Array.toList_push]
  exact g.takeA fun x hx y hy=>by rw [List.mem_singleton.mp hx];exact hl y hy
theorem G.pushB (g:G (Le O key) T out.toList (a.toList.drop ia) (b.toList.drop ib)) (h:ib < b.size) (hl:∀y∈a.toList.drop ia,Le O key (at' b ib) y):G (Le O key) T (out.push (at' b ib)).toList (a.toList.drop ia) (b.toList.drop (ib+1)):=by
  rw [oR h] at g
  rw [Array.toList_push]
  exact g.takeB fun x hx y hy=>by rw [List.mem_singleton.mp hx];exact hl y hy
theorem G.blkA (g:G (Le O key) T out.toList (a.toList.drop ia) (b.toList.drop ib)) (k:Nat) (hl:∀j,j < k→ia+j < a.size→∀y∈b.toList.drop ib,Le O key (at' a (ia+j)) y):G (Le O key) T (out++a.extract ia (ia+k)).toList (a.toList.drop (ia+k)) (b.toList.drop ib):=by
  rw [oS k] at g
  rw [Array.toList_append]
  exact g.takeA fun x hx y hy=>by obtain ⟨j,h1,h2,rfl⟩:=rN hx;exact hl j h1 h2 y hy
theorem G.blkB (g:G (Le O key) T out.toList (a.toList.drop ia) (b.toList.drop ib)) (k:Nat) (hl:∀j,j < k→ib+j < b.size→∀y∈a.toList.drop ia,Le O key (at' b (ib+j)) y):G (Le O key) T (out++b.extract ib (ib+k)).toList (a.toList.drop ia) (b.toList.drop (ib+k)):=by
  rw [oS (a:=b) k] at g
  rw [Array.toList_append]
  exact g.takeB fun x hx y hy=>by obtain ⟨j,h1,h2,rfl⟩:=rN hx;exact hl j h1 h2 y hy
theorem G.doneB (g:G (Le O key) T out.toList (a.toList.drop ia) (b.toList.drop ib)) (h:b.size≤ib):f9 (Le O key) T (out++a.extract ia++b.extract ib).toList:=by
  rw [Array.toList_append,Array.toList_append,i_,i_,lL h,List.append_nil]
  rw [lL h] at g
  exact g.endA
theorem G.doneA (g:G (Le O key) T out.toList (a.toList.drop ia) (b.toList.drop ib)) (h:a.size≤ia):f9 (Le O key) T (out++a.extract ia++b.extract ib).toList:=by
  rw [Array.toList_append,Array.toList_append,i_,i_,lL h,List.append_nil]
  rw [lL h] at g
  exact g.endB
theorem G.lastA (g:G (Le O key) T out.toList (a.toList.drop ia) (b.toList.drop ib)) (h:ia+1=a.size) (h1:∀y∈b.toList,Le O key y (at' a (a.size - 1))):f9 (Le O key) T (out++b.extract ib++a.extract ia).toList:=by
  rw [Array.toList_append,Array.toList_append,i_,i_]
  have g':G (Le O key) T out.toList (a.toList.drop ia) (b.toList.drop ib++[]):=by rw [List.append_nil];exact g
  refine (g'.takeB fun x hx y hy=>?_).endA
  obtain ⟨j,q1,q2,rfl⟩:=lK hy
  rw [show j=a.size - 1 by lia]
  exact h1 x (List.mem_of_mem_drop hx)
end
def SS (st st':SortSt):Prop:=∃g,st'=SortSt.mk' (kindOf st) (arrOf st) (pendingOf st) g (failedOf st)
theorem SS.refl (st:SortSt):SS st st:=⟨gallopOf st,rfl⟩
theorem SS.kind {st st':SortSt} (h:SS st st'):kindOf st'=kindOf st:=by obtain ⟨g,rfl⟩:=h;rfl
section
variable {prog:Program} {w:World} {A:Around} {E:Value→Shared→Prop} {s:Shared} {κ:SortKind} {O:KeyOrd} {key:Keyed→O.α} {dom:Keyed→Prop} {st:SortSt}
def wP:Nat→StateT SortSt Sem Unit:=sortPriv% PySem.Builtin.setMinGallop
theorem lM {st':SortSt} {g:Nat} {Q:Unit→SortSt→Prop} (hs:SS st st') (h:∀st2,SS st st2→Q () st2):wpS (model prog w) A E s (wP g) Q st':=
  wpS_modify (h _ (by obtain ⟨g',rfl⟩:=hs;exact ⟨g,rfl⟩))
theorem bq {α:Type} {c:Prop} [Decidable c] {x y:StateT SortSt Sem α} {Q:α→SortSt→Prop} (hc:c) (h:wpS (model prog w) A E s x Q st):wpS (model prog w) A E s (if c then x else y) Q st:=by rw [if_pos hc];exact h
theorem aZ {α:Type} {c:Prop} [Decidable c] {x y:StateT SortSt Sem α} {Q:α→SortSt→Prop} (hc:¬c) (h:wpS (model prog w) A E s y Q st):wpS (model prog w) A E s (if c then x else y) Q st:=by rw [if_neg hc];exact h
theorem vG {α:Type} {m:StateT SortSt Sem α} {Q:α→SortSt→Prop} (h:∀R,R=Q→wpS (model prog w) A E s m R st):wpS (model prog w) A E s m Q st:=h Q rfl
theorem wQ {α:Type} {c:Prop} [Decidable c] (f:Nat→StateT SortSt Sem α) {x y:Nat} {Q:α→SortSt→Prop} (h:∀m,wpS (model prog w) A E s (f m) Q st):wpS (model prog w) A E s (if c then f x else f y) Q st:=by
  split <;> exact h _
theorem p_ (C:Cmp prog w A s κ O key dom) {a b:Array Keyed} {Q:Array Keyed→SortSt→Prop} (hk:kindOf st=κ) (da:∀x∈a.toList,dom x) (db:∀x∈b.toList,dom x) (ha:0 < a.size) (hb:0 < b.size)
    (pa:a.toList.Pairwise (Le O key)) (pb:b.toList.Pairwise (Le O key)) (h0:O.blt (key (at' b 0)) (key (at' a 0))=true) (h1:∀y∈b.toList,Le O key y (at' a (a.size - 1)))
    (h:∀r st',SS st st'→f9 (Le O key) (a.toList++b.toList) r.toList→Q r st'):wpS (model prog w) A E s (rK a b) Q st:=by
  refine wpS_bind (wpS_lift (wpAny_rule ⟨rfl,?_⟩))
  refine wpS_bind (fR hb ?_)
  obtain ⟨T,hT⟩:∃T,T=a.toList++b.toList:=⟨_,rfl⟩
  rw [←hT] at h
  have g0:G (Le O key) T (#[at' b 0]:Array Keyed).toList (a.toList.drop 0) (b.toList.drop 1):=by
    have q:G (Le O key) T (#[]:Array Keyed).toList (a.toList.drop 0) (b.toList.drop 0):=⟨by simp [hT],by simpa using pa,by simpa using pb⟩
    exact q.pushB hb fun y hy=>(Le.of h0).trans (mH pa hy)
  have dA:∀i,i < a.size→dom (at' a i):=fun i hi=>da _ (iu hi)
  have dB:∀i,i < b.size→dom (at' b i):=fun i hi=>db _ (iu hi)
  extract_lets o0 i0 i1
  by_cases e1:(1 == b.size)=true
  · refine bq e1 ?_
    exact wpS_pure (h _ st (SS.refl _) (g0.doneB (by simp at e1;exact Nat.le_of_eq (Eq.symm ‹_›))))
  refine aZ e1 ?_
  by_cases e2:(0+1 == a.size)=true
  · refine bq e2 ?_
    exact wpS_pure (h _ st (SS.refl _) (g0.lastA (by simpa using e2) h1))
  refine aZ e2 ?_
  refine wpS_bind (wpS_get ?_)
  refine wpS_bind (wpS_mono (wpS_forRange (I:=fun x c st'=>SS st st'∧∃out ia ib mg,c=(none,out,ia,ib,mg)∧ia+1 < a.size∧ib < b.size∧x < ia+ib∧G (Le O key) T out.toList (a.toList.drop ia) (b.toList.drop ib))
    (Q:=fun c st'=>SS st st'∧∃r o,c=(some r,o)∧f9 (Le O key) T r.toList) ?s1 ?s2 ⟨SS.refl _,_,0,1,_,rfl,by simp at e2;exact Nat.lt_of_le_of_ne ‹_› ‹_›,by simp at e1;exact Nat.lt_of_le_of_ne ‹_› ‹_›,by exact Nat.lt_succ_self _,g0⟩) ?s3)
  case s3=>
    rintro c st' ⟨hs,r,o,rfl,hg⟩
    exact wpS_pure (h r st' hs hg)
  case s2=>
    rintro c st' ⟨hs,out,ia,ib,mg,rfl,q1,q2,q3,g⟩
    lia
  case s1=>
    rintro x c st1 - hx ⟨hs,out,ia,ib,mg,rfl,q1,q2,q3,g⟩
    refine wpS_bind (wpS_mono (wpS_forRange (I:=fun y c st'=>SS st st'∧∃out ia ib ac bc,c=(none,out,ia,ib,ac,bc)∧ia+1 < a.size∧ib < b.size∧x < ia+ib∧(y=0∨x+1 < ia+ib)∧G (Le O key) T out.toList (a.toList.drop ia) (b.toList.drop ib))
      (Q:=fun c st'=>SS st st'∧((∃r o,c=(some r,o)∧f9 (Le O key) T r.toList)∨∃out ia ib ac bc,c=(none,out,ia,ib,ac,bc)∧ia+1 < a.size∧ib < b.size∧x+1 < ia+ib∧G (Le O key) T out.toList (a.toList.drop ia) (b.toList.drop ib))) ?t1 ?t2 ⟨hs,out,ia,ib,0,0,rfl,q1,q2,q3, .inl rfl,g⟩) ?t3)
    case t2=>
      rintro c st' ⟨hs,out,ia,ib,ac,bc,rfl,q1,q2,q3,q4,g⟩
      exact ⟨hs, .inr ⟨out,ia,ib,ac,bc,rfl,q1,q2,by lia,g⟩⟩
    case t1=>
      rintro y c st2 - hy ⟨hs,out,ia,ib,ac,bc,rfl,q1,q2,q3,q4,g⟩
      have q0:ia < a.size:=by exact Nat.lt_of_succ_lt ‹_›
      refine wpS_bind (fR q2 ?_)
      refine wpS_bind (fR q0 ?_)
      refine wpS_bind (rM C (hs.kind.trans hk) (dB _ q2) (dA _ q0) ?_)
      cases e:O.blt (key (at' b ib)) (key (at' a ia)) with
      | true=>
        refine wpS_bind (fR q2 ?_)
        have g':=g.pushB q2 (fun y hy=>(Le.of e).trans (mH pa hy))
        by_cases z:(ib+1 == b.size)=true
        · exact bq z (wpS_pure ⟨hs, .inl ⟨_,_,rfl,g'.doneB (by simp at z;exact Nat.le_of_eq (Eq.symm ‹_›))⟩⟩)
        · refine aZ z ?_
          have z':ib+1 < b.size:=by simp at z;exact Nat.lt_of_le_of_ne ‹_› ‹_›
          dsimp only
          split
          · exact wpS_pure ⟨hs, .inr ⟨_,_,_,_,_,rfl,q1,z',by exact Nat.succ_lt_succ ‹_›,g'⟩⟩
          · exact wpS_pure ⟨hs,_,_,_,_,_,rfl,q1,z',by exact Nat.lt_succ_of_lt ‹_›, .inr (by exact Nat.succ_lt_succ ‹_›),g'⟩
      | false=>
        refine wpS_bind (fR q0 ?_)
        have g':=g.pushA (by assumption) (fun y hy=>Le.trans e (mH pb hy))
        by_cases z:(ia+1+1 == a.size)=true
        · exact bq z (wpS_pure ⟨hs, .inl ⟨_,_,rfl,g'.lastA (by simpa using z) h1⟩⟩)
        · refine aZ z ?_
          have z':ia+1+1 < a.size:=by simp at z;exact Nat.lt_of_le_of_ne ‹_› ‹_›
          dsimp only
          split
          · exact wpS_pure ⟨hs, .inr ⟨_,_,_,_,_,rfl,z',q2,by lia,g'⟩⟩
          · exact wpS_pure ⟨hs,_,_,_,_,_,rfl,z',q2,by lia, .inr (by lia),g'⟩
    case t3=>
      rintro c st2 ⟨hs,⟨r,o,rfl,hg⟩ | ⟨out,ia,ib,ac,bc,rfl,q1,q2,q3,g⟩⟩
      · exact wpS_pure ⟨hs,r,_,rfl,hg⟩
      · refine wpS_bind (wpS_lift (wpAny_rule ⟨rfl,?_⟩))
        refine wpS_bind (wpS_mono (wpS_forRange (I:=fun y c st'=>SS st st'∧∃out ia ib mg ac bc,c=(none,out,ia,ib,mg,ac,bc)∧ia+1 < a.size∧ib < b.size∧x+1 < ia+ib∧G (Le O key) T out.toList (a.toList.drop ia) (b.toList.drop ib))
          (Q:=fun c st'=>SS st st'∧((∃r o,c=(some r,o)∧f9 (Le O key) T r.toList)∨∃out ia ib mg ac bc,c=(none,out,ia,ib,mg,ac,bc)∧ia+1 < a.size∧ib < b.size∧x+1 < ia+ib∧G (Le O key) T out.toList (a.toList.drop ia) (b.toList.drop ib))) ?u1 ?u2 ⟨hs,out,ia,ib,_,ac,bc,rfl,q1,q2,q3,g⟩) ?u3)
        case u2=>
          rintro c st' ⟨hs,out,ia,ib,mg,ac,bc,rfl,q1,q2,q3,g⟩
          exact ⟨hs, .inr ⟨out,ia,ib,mg,ac,bc,rfl,q1,q2,by assumption,g⟩⟩
        case u3=>
          rintro c st3 ⟨hs,⟨r,o,rfl,hg⟩ | ⟨out,ia,ib,mg,ac,bc,rfl,q1,q2,q3,g⟩⟩
          · exact wpS_pure ⟨hs,r,_,rfl,hg⟩
          · exact wpS_bind (lM hs fun st4 h4=>wpS_pure ⟨h4,out,ia,ib,_,rfl,q1,q2,q3,g⟩)
        case u1=>
          rintro y c st3 - hy ⟨hs,out,ia,ib,mg,ac,bc,rfl,q1,q2,q3,g⟩
          refine vG fun R hR=>?_
          have Rd:∀r o st',SS st st'→f9 (Le O key) T r.toList→R (.done (some r,o)) st':=fun r o st' a1 a2=>by rw [hR];exact ⟨a1, .inl ⟨r,o,rfl,a2⟩⟩
          have Rn:∀out ia ib mg ac bc st',SS st st'→ia+1 < a.size→ib < b.size→x+1 < ia+ib→G (Le O key) T out.toList (a.toList.drop ia) (b.toList.drop ib)→R (.done (none,out,ia,ib,mg,ac,bc)) st':=
            fun out ia ib mg ac bc st' a1 a2 a3 a4 a5=>by rw [hR];exact ⟨a1, .inr ⟨_,_,_,_,_,_,rfl,a2,a3,a4,a5⟩⟩
          have Ry:∀out ia ib mg ac bc st',SS st st'→ia+1 < a.size→ib < b.size→x+1 < ia+ib→G (Le O key) T out.toList (a.toList.drop ia) (b.toList.drop ib)→R (.yield (none,out,ia,ib,mg,ac,bc)) st':=
            fun out ia ib mg ac bc st' a1 a2 a3 a4 a5=>by rw [hR];exact ⟨a1,_,_,_,_,_,_,rfl,a2,a3,a4,a5⟩
          clear hR
          extract_lets
          rename Unit→Nat→_=>jp
          refine wQ (jp ()) fun mg'=>?_
          refine wpS_bind (lM hs fun st4 h4=>?_)
          refine wpS_bind (fR q2 ?_)
          refine wpS_bind (gl C (base:=ia) (n:=a.size - ia) (hint:=0) (h4.kind.trans hk) (by exact Nat.sub_pos_of_lt (Nat.lt_of_succ_lt ‹_›)) (by exact Nat.le_of_eq (Nat.add_sub_of_le (Nat.le_of_lt (Nat.lt_of_succ_lt ‹_›)))) (dB _ q2) dA ?m1 fun k hk1 hk2 hk3=>?_)
          case m1=>
            intro i j hij hj e
            simp only [fV,Bool.false_eq_true,if_false,Bool.not_eq_true'] at e ⊢
            exact (iL pa (by lia) (by exact Nat.add_lt_of_lt_sub' ‹_›):Le O key (at' a (ia+i)) (at' a (ia+j))).trans e
          simp only [fV,Bool.false_eq_true,if_false,Bool.not_eq_true',Bool.not_eq_false'] at hk2 hk3
          dsimp -zeta only
          extract_lets
          rename Unit→Array Keyed→Nat→_=>jp1
          have J1:∀(out:Array Keyed) (ia:Nat),ia+1 < a.size→x+1 < ia+ib→G (Le O key) T out.toList (a.toList.drop ia) (b.toList.drop ib)→(∀y∈a.toList.drop ia,Le O key (at' b ib) y)→wpS (model prog w) A E s (jp1 () out ia) R st4:=by
            intro out ia q1 q3 g hl
            have q0:ia < a.size:=by exact Nat.lt_of_succ_lt ‹_›
            refine wpS_bind (fR q2 ?_)
            have g':=g.pushB q2 hl
            by_cases z:(ib+1 == b.size)=true
            · exact bq z (wpS_pure (Rd _ _ _ h4 (g'.doneB (by simp at z;exact Nat.le_of_eq (Eq.symm ‹_›)))))
            refine aZ z ?_
            have z':ib+1 < b.size:=by simp at z;exact Nat.lt_of_le_of_ne ‹_› ‹_›
            refine wpS_bind (fR q0 ?_)
            refine wpS_bind (gl C (base:=ib+1) (n:=b.size - (ib+1)) (hint:=0) (h4.kind.trans hk) (by exact Nat.sub_pos_of_lt ‹_›) (by exact Nat.le_of_eq (Nat.add_sub_of_le ‹_›)) (dA _ q0) dB ?m2 fun k' hk1' hk2' hk3'=>?_)
            case m2=>
              intro i j hij hj e
              simp only [fV,if_true] at e ⊢
              exact KeyOrd.klt_of_kle_of_klt (O:=O) (iL pb (by lia) (by exact Nat.add_lt_of_lt_sub' ‹_›):Le O key (at' b (ib+1+i)) (at' b (ib+1+j))) e
            simp only [fV,if_true] at hk2' hk3'
            dsimp -zeta only
            extract_lets
            rename Unit→Array Keyed→Nat→_=>jp2
            have J2:∀(out:Array Keyed) (ib':Nat),ib' < b.size→x+1 < ia+ib'→G (Le O key) T out.toList (a.toList.drop ia) (b.toList.drop ib')→(∀y∈b.toList.drop ib',Le O key (at' a ia) y)→wpS (model prog w) A E s (jp2 () out ib') R st4:=by
              intro out ib' p2 p3 g hl
              refine wpS_bind (fR q0 ?_)
              have g':=g.pushA q0 hl
              by_cases z:(ia+1+1 == a.size)=true
              · exact bq z (wpS_pure (Rd _ _ _ h4 (g'.lastA (by simpa using z) h1)))
              refine aZ z ?_
              have z':ia+1+1 < a.size:=by simp at z;exact Nat.lt_of_le_of_ne ‹_› ‹_›
              by_cases z2:(decide (k < 7)&&decide (k' < 7))=true
              · exact bq z2 (wpS_pure (Rn _ _ _ _ _ _ _ h4 z' p2 (by lia) g'))
              · exact aZ z2 (wpS_pure (Ry _ _ _ _ _ _ _ h4 z' p2 (by lia) g'))
            clear_value jp2
            have tl:∀y∈b.toList.drop (ib+1+k'),Le O key (at' a ia) y:=fun y hy=>by
              obtain ⟨j,r1,r2,rfl⟩:=lK hy
              have:=hk3' (j - (ib+1)) (by exact Nat.le_sub_of_add_le' ‹_›) (by exact Nat.sub_lt_sub_right (Nat.le_trans (Nat.le_add_right _ _) ‹_›) ‹_›)
              rwa [show ib+1+(j - (ib+1))=j by exact Nat.add_sub_of_le (Nat.le_trans (Nat.le_add_right _ _) ‹_›)] at this
            by_cases z2:k' > 0
            · refine bq z2 ?_
              have g2:=g'.blkB k' fun j j1 j2 y hy=>(Le.of (hk2' j j1)).trans (mH pa hy)
              by_cases z3:(ib+1+k' == b.size)=true
              · exact bq z3 (wpS_pure (Rd _ _ _ h4 (g2.doneB (by simp at z3;exact Nat.le_of_eq (Eq.symm ‹_›)))))
              · exact aZ z3 (J2 _ (ib+1+k') (by simp at z3;lia) (by lia) g2 tl)
            · have k0:k'=0:=by exact Nat.eq_zero_of_not_pos ‹_›
              subst k0
              exact aZ z2 (J2 _ (ib+1) z' (by exact Nat.lt_succ_of_lt ‹_›) g' tl)
          clear_value jp1
          have tl:∀y∈a.toList.drop (ia+k),Le O key (at' b ib) y:=fun y hy=>by
            obtain ⟨j,r1,r2,rfl⟩:=lK hy
            have:=hk3 (j - ia) (by exact Nat.le_sub_of_add_le' ‹_›) (by exact Nat.sub_lt_sub_right (Nat.le_trans (Nat.le_add_right _ _) ‹_›) ‹_›)
            rw [show ia+(j - ia)=j by exact Nat.add_sub_of_le (Nat.le_trans (Nat.le_add_right _ _) ‹_›)] at this
            exact Le.of this
          by_cases z2:k > 0
          · refine bq z2 ?_
            have g2:=g.blkA k fun j j1 j2 y hy=>Le.trans (hk2 j j1) (mH pb hy)
            by_cases z3:(ia+k+1 == a.size)=true
            · exact bq z3 (wpS_pure (Rd _ _ _ h4 (g2.lastA (by simpa using z3) h1)))
            refine aZ z3 ?_
            by_cases z4:(ia+k == a.size)=true
            · exact bq z4 (wpS_pure (Rd _ _ _ h4 (g2.doneA (by simp at z4;exact Nat.le_of_eq (Eq.symm ‹_›)))))
            · exact aZ z4 (J1 _ (ia+k) (by simp at z3 z4;lia) (by lia) g2 tl)
          · have k0:k=0:=by exact Nat.eq_zero_of_not_pos ‹_›
            subst k0
            exact aZ z2 (J1 _ ia q1 q3 g tl)
end
end NhLS
namespace NhLS
set_option autoImplicit false
open PySem PyProof.Rows
structure H (le:Keyed→Keyed→Prop) (T ra rb out:List Keyed):Prop where
  perm:(ra++rb++out).Perm T
  pa:(ra++out).Pairwise le
  pb:(rb++out).Pairwise le
section
variable {le:Keyed→Keyed→Prop} {T out ra rb p:List Keyed}
theorem H.takeA (g:H le T (ra++p) rb out) (h:∀x∈p,∀y∈rb,le y x):H le T ra rb (p++out) where
  perm:=by
    refine List.Perm.trans ?_ g.perm
    rw [←List.append_assoc]
    refine List.Perm.append_right _ ?_
    rw [List.append_assoc,List.append_assoc]
    exact List.Perm.append_left _ List.perm_append_comm
  pa:=by have:=g.pa;simpa [List.append_assoc] using this
  pb:=by
    have h1:=g.pa
    have h2:=g.pb
    simp only [List.pairwise_append,List.mem_append] at h1 h2 ⊢
    refine ⟨h2.1,⟨h1.1.2.1,h1.2.1,fun x hx y hy=>h1.2.2 x (.inr hx) y hy⟩,fun x hx y hy=>?_⟩
    rcases hy with hy | hy
    · exact h y hy x hx
    · exact h2.2.2 x hx y hy
theorem H.takeB (g:H le T ra (rb++p) out) (h:∀x∈p,∀y∈ra,le y x):H le T ra rb (p++out) where
  perm:=by have:=g.perm;simpa [List.append_assoc] using this
  pb:=by have:=g.pb;simpa [List.append_assoc] using this
  pa:=by
    have h1:=g.pa
    have h2:=g.pb
    simp only [List.pairwise_append,List.mem_append] at h1 h2 ⊢
    refine ⟨h1.1,⟨h2.1.2.1,h2.2.1,fun x hx y hy=>h2.2.2 x (.inr hx) y hy⟩,fun x hx y hy=>?_⟩
    rcases hy with hy | hy
    · exact h y hy x hx
    · exact h1.2.2 x hx y hy
theorem H.endA (g:H le T ra [] out):f9 le T (ra++out):=⟨by have:=g.perm;simpa using this,g.pa⟩
theorem H.endB (g:H le T [] rb out):f9 le T (rb++out):=⟨by have:=g.perm;simpa using this,g.pb⟩
end
section
variable {O:KeyOrd} {key:Keyed→O.α} {a b:Array Keyed} {T:List Keyed} {out:Array Keyed} {i j na nb k:Nat} {x y z:Keyed}
theorem lN (h:y∈a.toList.take i):∃j,j < i∧j < a.size∧y=at' a j:=by
  obtain ⟨j,hj,e⟩:=List.mem_iff_getElem.mp h
  rw [List.length_take,Array.length_toList] at hj
  refine ⟨j,by lia,by lia,?_⟩
  rw [List.getElem_take] at e
  rw [←e,gH]
theorem oT (pa:a.toList.Pairwise (Le O key)) (hi:i < a.size) (h:y∈a.toList.take (i+1)):Le O key y (at' a i):=by
  obtain ⟨j,h1,h2,rfl⟩:=lN h
  exact iL pa (by exact Nat.le_of_lt_succ ‹_›) hi
theorem oU (h:i < a.size):a.toList.take (i+1)=a.toList.take i++[at' a i]:=by
  rw [List.take_succ_eq_append_getElem (by simpa using h),gH]
theorem lO (h:i≤j):a.toList.take j=a.toList.take i++(a.extract i j).toList:=by
  rw [Array.toList_extract,List.extract_eq_take_drop,←List.take_add]
  congr 1
  lia
theorem ja:(a.extract 0 i).toList=a.toList.take i:=by
  rw [Array.toList_extract,List.extract_eq_take_drop]
  rfl
theorem lP (h:x∈(a.extract i j).toList):∃k,i≤k∧k < j∧k < a.size∧x=at' a k:=by
  rw [Array.toList_extract,List.extract_eq_take_drop] at h
  obtain ⟨k,hk,e⟩:=List.mem_iff_getElem.mp h
  rw [List.length_take,List.length_drop,Array.length_toList] at hk
  refine ⟨i+k,by exact Nat.le_add_right _ _,by lia,by lia,?_⟩
  rw [List.getElem_take,List.getElem_drop] at e
  rw [←e,gH]
theorem H.pushA (g:H (Le O key) T (a.toList.take (na+1)) (b.toList.take nb) out.toList.reverse) (h:na < a.size) (hl:∀y∈b.toList.take nb,Le O key y (at' a na)):H (Le O key) T (a.toList.take na) (b.toList.take nb) (out.push (at' a na)).toList.reverse:=by
  rw [oU h] at g
  rw [Array.toList_push,List.reverse_append]
  exact g.takeA fun x hx y hy=>by rw [List.mem_singleton.mp hx];exact hl y hy
theorem H.pushB (g:H (Le O key) T (a.toList.take na) (b.toList.take (nb+1)) out.toList.reverse) (h:nb < b.size) (hl:∀y∈a.toList.take na,Le O key y (at' b nb)):H (Le O key) T (a.toList.take na) (b.toList.take nb) (out.push (at' b nb)).toList.reverse:=by
  rw [oU h] at g
  rw [Array.toList_push,List.reverse_append]
  exact g.takeB fun x hx y hy=>by rw [List.mem_singleton.mp hx];exact hl y hy
theorem H.blkA (g:H (Le O key) T (a.toList.take na) (b.toList.take nb) out.toList.reverse) (h:i≤na) (hl:∀j,i≤j→j < na→j < a.size→∀y∈b.toList.take nb,Le O key y (at' a j)):H (Le O key) T (a.toList.take i) (b.toList.take nb) (out++(a.extract i na).reverse).toList.reverse:=by
  rw [lO h] at g
  rw [Array.toList_append,List.reverse_append,Array.toList_reverse,List.reverse_reverse]
  exact g.takeA fun x hx y hy=>by obtain ⟨j,h1,h2,h3,rfl⟩:=lP hx;exact hl j h1 h2 h3 y hy
theorem H.blkB (g:H (Le O key) T (a.toList.take na) (b.toList.take nb) out.toList.reverse) (h:i≤nb) (hl:∀j,i≤j→j < nb→j < b.size→∀y∈a.toList.take na,Le O key y (at' b j)):H (Le O key) T (a.toList.take na) (b.toList.take i) (out++(b.extract i nb).reverse).toList.reverse:=by
  rw [lO (a:=b) h] at g
  rw [Array.toList_append,List.reverse_append,Array.toList_reverse,List.reverse_reverse]
  exact g.takeB fun x hx y hy=>by obtain ⟨j,h1,h2,h3,rfl⟩:=lP hx;exact hl j h1 h2 h3 y hy
theorem H.doneA (g:H (Le O key) T (a.toList.take na) (b.toList.take nb) out.toList.reverse) (h:na=0):f9 (Le O key) T (a.extract 0 na++b.extract 0 nb++out.reverse).toList:=by
  subst h
  rw [Array.toList_append,Array.toList_append,ja,ja,Array.toList_reverse]
  exact g.endB
theorem H.doneB (g:H (Le O key) T (a.toList.take na) (b.toList.take nb) out.toList.reverse) (h:nb=0):f9 (Le O key) T (a.extract 0 na++b.extract 0 nb++out.reverse).toList:=by
  subst h
  rw [Array.toList_append,Array.toList_append,ja,ja,Array.toList_reverse,List.take_zero,List.append_nil]
  exact g.endA
theorem H.firstB (g:H (Le O key) T (a.toList.take na) (b.toList.take nb) out.toList.reverse) (h:nb=1) (h1:∀y∈a.toList,Le O key (at' b 0) y):f9 (Le O key) T (b.extract 0 nb++a.extract 0 na++out.reverse).toList:=by
  rw [Array.toList_append,Array.toList_append,ja,ja,Array.toList_reverse,List.append_assoc]
  have g':H (Le O key) T ([]++a.toList.take na) (b.toList.take nb) out.toList.reverse:=g
  refine (g'.takeA fun x hx y hy=>?_).endB
  obtain ⟨j,q1,q2,rfl⟩:=lN hy
  rw [show j=0 by lia]
  exact h1 x (List.mem_of_mem_take hx)
end
section
variable {prog:Program} {w:World} {A:Around} {E:Value→Shared→Prop} {s:Shared} {κ:SortKind} {O:KeyOrd} {key:Keyed→O.α} {dom:Keyed→Prop} {st:SortSt}
theorem f_ {α:Type} {c:Prop} [Decidable c] {x y:StateT SortSt Sem α} {Q:α→SortSt→Prop} (h1:c→wpS (model prog w) A E s x Q st) (h2:¬c→wpS (model prog w) A E s y Q st):wpS (model prog w) A E s (if c then x else y) Q st:=by
  split
  · rename_i z;exact h1 z
  · rename_i z;exact h2 z
theorem qa (C:Cmp prog w A s κ O key dom) {a b:Array Keyed} {Q:Array Keyed→SortSt→Prop} (hk:kindOf st=κ) (da:∀x∈a.toList,dom x) (db:∀x∈b.toList,dom x) (ha:0 < a.size) (hb:0 < b.size)
    (pa:a.toList.Pairwise (Le O key)) (pb:b.toList.Pairwise (Le O key)) (h0:∀y∈b.toList,Le O key y (at' a (a.size - 1))) (h1:∀y∈a.toList,Le O key (at' b 0) y)
    (h:∀r st',SS st st'→f9 (Le O key) (a.toList++b.toList) r.toList→Q r st'):wpS (model prog w) A E s (rL a b) Q st:=by
  refine wpS_bind (wpS_lift (wpAny_rule ⟨rfl,?_⟩))
  have ha':a.size - 1 < a.size:=by exact Nat.sub_lt ‹_› Nat.one_pos
  refine wpS_bind (fR ha' ?_)
  obtain ⟨T,hT⟩:∃T,T=a.toList++b.toList:=⟨_,rfl⟩
  rw [←hT] at h
  have g0:H (Le O key) T (a.toList.take (a.size - 1)) (b.toList.take b.size) (#[at' a (a.size - 1)]:Array Keyed).toList.reverse:=by
    have q:H (Le O key) T (a.toList.take (a.size - 1+1)) (b.toList.take b.size) (#[]:Array Keyed).toList.reverse:=by
      have e1:a.toList.take (a.size - 1+1)=a.toList:=List.take_of_length_le (by simp;lia)
      have e2:b.toList.take b.size=b.toList:=List.take_of_length_le (by simp)
      rw [e1,e2]
      exact ⟨by simp [hT],by simpa using pa,by simpa using pb⟩
    exact q.pushA ha' fun y hy=>h0 y (List.mem_of_mem_take hy)
  have dA:∀i,i < a.size→dom (at' a i):=fun i hi=>da _ (iu hi)
  have dB:∀i,i < b.size→dom (at' b i):=fun i hi=>db _ (iu hi)
  by_cases e1:(a.size - 1 == 0)=true
  · refine bq e1 ?_
    exact wpS_pure (h _ st (SS.refl _) (g0.doneA (by simpa using e1)))
  refine aZ e1 ?_
  by_cases e2:(b.size == 1)=true
  · refine bq e2 ?_
    exact wpS_pure (h _ st (SS.refl _) (g0.firstB (by simpa using e2) h1))
  refine aZ e2 ?_
  refine wpS_bind (wpS_get ?_)
  refine wpS_bind (wpS_mono (wpS_forRange (I:=fun x c st'=>SS st st'∧∃na nb out mg,c=(none,na,nb,out,mg)∧na≤a.size∧1≤na∧nb≤b.size∧2≤nb∧na+nb+x < a.size+b.size∧H (Le O key) T (a.toList.take na) (b.toList.take nb) out.toList.reverse)
    (Q:=fun c st'=>SS st st'∧∃r o,c=(some r,o)∧f9 (Le O key) T r.toList) ?s1 ?s2 ⟨SS.refl _,a.size - 1,b.size,_,_,rfl,by exact Nat.sub_le _ _,by simp at e1;exact Nat.pos_of_ne_zero ‹_›,by exact Nat.le_refl _,by simp at e2;lia,by lia,g0⟩) ?s3)
  case s3=>
    rintro c st' ⟨hs,r,o,rfl,hg⟩
    exact wpS_pure (h r st' hs hg)
  case s2=>
    rintro c st' ⟨hs,na,nb,out,mg,rfl,p1,q1,p2,q2,q3,g⟩
    lia
  case s1=>
    rintro x c st1 - hx ⟨hs,na,nb,out,mg,rfl,p1,q1,p2,q2,q3,g⟩
    refine wpS_bind (wpS_mono (wpS_forRange (I:=fun y c st'=>SS st st'∧∃na nb out ac bc,c=(none,na,nb,out,ac,bc)∧na≤a.size∧1≤na∧nb≤b.size∧2≤nb∧na+nb+x < a.size+b.size∧(y=0∨na+nb+(x+1) < a.size+b.size)∧H (Le O key) T (a.toList.take na) (b.toList.take nb) out.toList.reverse)
      (Q:=fun c st'=>SS st st'∧((∃r o,c=(some r,o)∧f9 (Le O key) T r.toList)∨∃na nb out ac bc,c=(none,na,nb,out,ac,bc)∧na≤a.size∧1≤na∧nb≤b.size∧2≤nb∧na+nb+(x+1) < a.size+b.size∧H (Le O key) T (a.toList.take na) (b.toList.take nb) out.toList.reverse)) ?t1 ?t2 ⟨hs,na,nb,out,0,0,rfl,p1,q1,p2,q2,q3, .inl rfl,g⟩) ?t3)
    case t2=>
      rintro c st' ⟨hs,na,nb,out,ac,bc,rfl,p1,q1,p2,q2,q3,q4,g⟩
      exact ⟨hs, .inr ⟨na,nb,out,ac,bc,rfl,p1,q1,p2,q2,by lia,g⟩⟩
    case t1=>
      rintro y c st2 - hy ⟨hs,na,nb,out,ac,bc,rfl,p1,q1,p2,q2,q3,q4,g⟩
      obtain ⟨na,rfl⟩:∃n,na=n+1:=⟨na - 1,by exact (Nat.sub_add_cancel ‹_›).symm⟩
      obtain ⟨nb,rfl⟩:∃n,nb=n+1:=⟨nb - 1,by lia⟩
      have p1':na < a.size:=by assumption
      have p2':nb < b.size:=by assumption
      refine wpS_bind (fR p2' ?_)
      refine wpS_bind (fR p1' ?_)
      refine wpS_bind (rM C (hs.kind.trans hk) (dB _ p2') (dA _ p1') ?_)
      simp only [Nat.add_sub_cancel]
      cases e:O.blt (key (at' b nb)) (key (at' a na)) with
      | true=>
        refine wpS_bind (fR p1' ?_)
        have g':=g.pushA p1' (fun y hy=>(oT pb p2' hy).trans (Le.of e))
        by_cases z:(na == 0)=true
        · exact bq z (wpS_pure ⟨hs, .inl ⟨_,_,rfl,g'.doneA (by simpa using z)⟩⟩)
        · refine aZ z ?_
          have z':1≤na:=by simp at z;exact Nat.pos_of_ne_zero ‹_›
          split
          · exact wpS_pure ⟨hs, .inr ⟨na,nb+1,_,_,_,rfl,by exact Nat.le_of_lt ‹_›,z',p2,q2,by lia,g'⟩⟩
          · exact wpS_pure ⟨hs,na,nb+1,_,_,_,rfl,by exact Nat.le_of_lt ‹_›,z',p2,q2,by lia, .inr (by lia),g'⟩
      | false=>
        refine wpS_bind (fR p2' ?_)
        have g':=g.pushB p2' (fun y hy=>(oT pa p1' hy).trans e)
        by_cases z:(nb == 1)=true
        · exact bq z (wpS_pure ⟨hs, .inl ⟨_,_,rfl,g'.firstB (by simpa using z) h1⟩⟩)
        · refine aZ z ?_
          have z':2≤nb:=by simp at z;lia
          split
          · exact wpS_pure ⟨hs, .inr ⟨na+1,nb,_,_,_,rfl,p1,q1,by exact Nat.le_of_lt ‹_›,z',by lia,g'⟩⟩
          · exact wpS_pure ⟨hs,na+1,nb,_,_,_,rfl,p1,q1,by exact Nat.le_of_lt ‹_›,z',by lia, .inr (by lia),g'⟩
    case t3=>
      rintro c st2 ⟨hs,⟨r,o,rfl,hg⟩ | ⟨na,nb,out,ac,bc,rfl,p1,q1,p2,q2,q3,g⟩⟩
      · exact wpS_pure ⟨hs,r,_,rfl,hg⟩
      · refine wpS_bind (wpS_lift (wpAny_rule ⟨rfl,?_⟩))
        refine wpS_bind (wpS_mono (wpS_forRange (I:=fun y c st'=>SS st st'∧∃na nb out mg ac bc,c=(none,na,nb,out,mg,ac,bc)∧na≤a.size∧1≤na∧nb≤b.size∧2≤nb∧na+nb+(x+1) < a.size+b.size∧H (Le O key) T (a.toList.take na) (b.toList.take nb) out.toList.reverse)
          (Q:=fun c st'=>SS st st'∧((∃r o,c=(some r,o)∧f9 (Le O key) T r.toList)∨∃na nb out mg ac bc,c=(none,na,nb,out,mg,ac,bc)∧na≤a.size∧1≤na∧nb≤b.size∧2≤nb∧na+nb+(x+1) < a.size+b.size∧H (Le O key) T (a.toList.take na) (b.toList.take nb) out.toList.reverse)) ?u1 ?u2 ⟨hs,na,nb,out,_,ac,bc,rfl,p1,q1,p2,q2,q3,g⟩) ?u3)
        case u2=>
          rintro c st' ⟨hs,na,nb,out,mg,ac,bc,rfl,p1,q1,p2,q2,q3,g⟩
          exact ⟨hs, .inr ⟨na,nb,out,mg,ac,bc,rfl,p1,q1,p2,q2,by assumption,g⟩⟩
        case u3=>
          rintro c st3 ⟨hs,⟨r,o,rfl,hg⟩ | ⟨na,nb,out,mg,ac,bc,rfl,p1,q1,p2,q2,q3,g⟩⟩
          · exact wpS_pure ⟨hs,r,_,rfl,hg⟩
          · exact wpS_bind (lM hs fun st4 h4=>wpS_pure ⟨h4,na,nb,out,_,rfl,p1,q1,p2,q2,q3,g⟩)
        case u1=>
          rintro y c st3 - hy ⟨hs,na,nb,out,mg,ac,bc,rfl,p1,q1,p2,q2,q3,g⟩
          refine vG fun R hR=>?_
          have Rd:∀r o st',SS st st'→f9 (Le O key) T r.toList→R (.done (some r,o)) st':=fun r o st' a1 a2=>by rw [hR];exact ⟨a1, .inl ⟨r,o,rfl,a2⟩⟩
          have Rn:∀na nb out mg ac bc st',SS st st'→na≤a.size→1≤na→nb≤b.size→2≤nb→na+nb+(x+1) < a.size+b.size→H (Le O key) T (a.toList.take na) (b.toList.take nb) out.toList.reverse→R (.done (none,na,nb,out,mg,ac,bc)) st':=
            fun na nb out mg ac bc st' a1 a2 a3 a4 a5 a6 a7=>by rw [hR];exact ⟨a1, .inr ⟨_,_,_,_,_,_,rfl,a2,a3,a4,a5,a6,a7⟩⟩
          have Ry:∀na nb out mg ac bc st',SS st st'→na≤a.size→1≤na→nb≤b.size→2≤nb→na+nb+(x+1) < a.size+b.size→H (Le O key) T (a.toList.take na) (b.toList.take nb) out.toList.reverse→R (.yield (none,na,nb,out,mg,ac,bc)) st':=
            fun na nb out mg ac bc st' a1 a2 a3 a4 a5 a6 a7=>by rw [hR];exact ⟨a1,_,_,_,_,_,_,rfl,a2,a3,a4,a5,a6,a7⟩
          clear hR
          obtain ⟨nb,rfl⟩:∃n,nb=n+1:=⟨nb - 1,by lia⟩
          have p2':nb < b.size:=by assumption
          have q2':1≤nb:=by exact Nat.le_of_lt_succ ‹_›
          extract_lets
          rename Unit→Nat→_=>jp
          refine wQ (jp ()) fun mg'=>?_
          refine wpS_bind (lM hs fun st4 h4=>?_)
          refine wpS_bind (fR p2' ?_)
          refine wpS_bind (gl C (k:=at' b nb) (base:=0) (n:=na) (hint:=na - 1) (h4.kind.trans hk) (by exact Nat.sub_lt ‹_› Nat.one_pos) (by lia) (dB _ p2') dA ?m1 fun k hk1 hk2 hk3=>?_)
          case m1=>
            intro i j hij hj e
            simp only [fV,Bool.false_eq_true,if_false,Bool.not_eq_true',Nat.zero_add] at e ⊢
            exact (iL pa (by exact Nat.le_of_lt ‹_›) (by exact Nat.lt_of_lt_of_le ‹_› ‹_›):Le O key (at' a i) (at' a j)).trans e
          simp only [fV,Bool.false_eq_true,if_false,Bool.not_eq_true',Bool.not_eq_false',Nat.zero_add] at hk2 hk3
          dsimp -zeta only
          extract_lets
          rename Unit→Nat→Array Keyed→_=>jp1
          have J1:∀(na:Nat) (out:Array Keyed),na≤a.size→1≤na→na+(nb+1)+(x+1) < a.size+b.size→H (Le O key) T (a.toList.take na) (b.toList.take (nb+1)) out.toList.reverse→(∀y∈a.toList.take na,Le O key y (at' b nb))→wpS (model prog w) A E s (jp1 () na out) R st4:=by
            intro na out p1 q1 q3 g hl
            obtain ⟨na,rfl⟩:∃n,na=n+1:=⟨na - 1,by exact (Nat.sub_add_cancel ‹_›).symm⟩
            have p1':na < a.size:=by assumption
            refine wpS_bind (fR p2' ?_)
            have g':=g.pushB p2' hl
            by_cases z:(nb == 1)=true
            · exact bq z (wpS_pure (Rd _ _ _ h4 (g'.firstB (by simpa using z) h1)))
            refine aZ z ?_
            have z':2≤nb:=by simp at z;lia
            refine wpS_bind (fR p1' ?_)
            refine wpS_bind (gl C (k:=at' a na) (base:=0) (n:=nb) (hint:=nb - 1) (h4.kind.trans hk) (by exact Nat.sub_lt ‹_› Nat.one_pos) (by lia) (dA _ p1') dB ?m2 fun k' hk1' hk2' hk3'=>?_)
            case m2=>
              intro i j hij hj e
              simp only [fV,if_true,Nat.zero_add] at e ⊢
              exact KeyOrd.klt_of_kle_of_klt (O:=O) (iL pb (by exact Nat.le_of_lt ‹_›) (by lia):Le O key (at' b i) (at' b j)) e
            simp only [fV,if_true,Nat.zero_add] at hk2' hk3'
            dsimp -zeta only
            extract_lets
            rename Unit→Nat→Array Keyed→_=>jp2
            have J2:∀(nb':Nat) (out:Array Keyed),nb'≤b.size→2≤nb'→na+1+nb'+(x+1) < a.size+b.size→H (Le O key) T (a.toList.take (na+1)) (b.toList.take nb') out.toList.reverse→(∀y∈b.toList.take nb',Le O key y (at' a na))→wpS (model prog w) A E s (jp2 () nb' out) R st4:=by
              intro nb' out r1 r2 r3 g hl
              refine wpS_bind (fR p1' ?_)
              have g':=g.pushA p1' hl
              by_cases z:(na == 0)=true
              · exact bq z (wpS_pure (Rd _ _ _ h4 (g'.doneA (by simpa using z))))
              refine aZ z ?_
              have z':1≤na:=by simp at z;exact Nat.pos_of_ne_zero ‹_›
              refine f_ (fun _=>?_) (fun _=>?_)
              · exact wpS_pure (Rn _ _ _ _ _ _ _ h4 (by exact Nat.le_of_lt ‹_›) z' r1 r2 (by lia) g')
              · exact wpS_pure (Ry _ _ _ _ _ _ _ h4 (by exact Nat.le_of_lt ‹_›) z' r1 r2 (by lia) g')
            clear_value jp2
            have tl:∀y∈b.toList.take k',Le O key y (at' a na):=fun y hy=>by
              obtain ⟨j,r1,r2,rfl⟩:=lN hy
              exact Le.of (hk2' j r1)
            by_cases z2:nb - k' > 0
            · refine bq z2 ?_
              have g2:=g'.blkB hk1' fun j j1 j2 j3 y hy=>(oT pa p1' hy).trans (hk3' j j1 j2)
              by_cases z3:(k' == 1)=true
              · exact bq z3 (wpS_pure (Rd _ _ _ h4 (g2.firstB (by simpa using z3) h1)))
              refine aZ z3 ?_
              by_cases z4:(k' == 0)=true
              · exact bq z4 (wpS_pure (Rd _ _ _ h4 (g2.doneB (by simpa using z4))))
              · exact aZ z4 (J2 k' _ (by lia) (by simp at z3 z4;lia) (by lia) g2 tl)
            · have k0:k'=nb:=by exact Nat.le_antisymm ‹_› (Nat.sub_eq_zero_iff_le.mp (Nat.eq_zero_of_not_pos ‹_›))
              subst k0
              exact aZ z2 (J2 k' _ (by exact Nat.le_of_lt ‹_›) z' (by lia) g' tl)
          clear_value jp1
          have tl:∀y∈a.toList.take k,Le O key y (at' b nb):=fun y hy=>by
            obtain ⟨j,r1,r2,rfl⟩:=lN hy
            exact hk2 j r1
          by_cases z2:na - k > 0
          · refine bq z2 ?_
            have g2:=g.blkA hk1 fun j j1 j2 j3 y hy=>(oT pb p2' hy).trans (Le.of (hk3 j j1 j2))
            by_cases z3:(k == 0)=true
            · exact bq z3 (wpS_pure (Rd _ _ _ h4 (g2.doneA (by simpa using z3))))
            · exact aZ z3 (J1 k _ (by exact Nat.le_trans ‹_› ‹_›) (by simp at z3;exact Nat.pos_of_ne_zero ‹_›) (by lia) g2 tl)
          · have k0:k=na:=by exact Nat.le_antisymm ‹_› (Nat.sub_eq_zero_iff_le.mp (Nat.eq_zero_of_not_pos ‹_›))
            subst k0
            exact aZ z2 (J1 k _ p1 q1 q3 g tl)
end
end NhLS
namespace NhLS
set_option autoImplicit false
open PySem PyProof.Rows
def So (O:KeyOrd) (key:Keyed→O.α) (a:Array Keyed) (lo hi:Nat):Prop:=∀i j,lo≤i→i < j→j < hi→Le O key (at' a i) (at' a j)
section
variable {O:KeyOrd} {key:Keyed→O.α} {a b:Array Keyed} {i j lo hi p:Nat} {x y z:Keyed}
theorem So.le (h:So O key a lo hi) (h1:lo≤i) (h2:i≤j) (h3:j < hi):Le O key (at' a i) (at' a j):=by
  by_cases e:i=j
  · rw [e];exact Le.refl _
  · exact h i j h1 (by exact Nat.lt_of_le_of_ne ‹_› ‹_›) h3
theorem So.ext (h:So O key a lo hi) (q:∀j,lo≤j→j < hi→at' b j=at' a j):So O key b lo hi:=fun i j h1 h2 h3=>by
  rw [q i (by assumption) (by lia),q j (by lia) h3]
  exact h i j h1 h2 h3
theorem mI (h1:i+j < hi) (h2:hi≤a.size):at' (a.extract i hi) j=at' a (i+j):=by
  simp [at',Array.getD,show j < min hi a.size - i by lia,show i+j < a.size by exact Nat.lt_of_lt_of_le ‹_› ‹_›]
theorem uv (h1:lo≤hi) (h2:hi≤a.size):(a.extract lo hi).size=hi - lo:=by
  rw [Array.size_extract]
  lia
theorem uw (h:So O key a lo hi) (h2:hi≤a.size):(a.extract lo hi).toList.Pairwise (Le O key):=by
  rw [List.pairwise_iff_getElem]
  intro i j hi' hj hij
  rw [Array.length_toList,Array.size_extract] at hi' hj
  rw [gH,gH,mI (by lia) h2,mI (by lia) h2]
  exact h _ _ (by exact Nat.le_add_right _ _) (by exact Nat.add_lt_add_left ‹_› _) (by lia)
theorem vH (h:i < a.size) (j:Nat):at' (a.setIfInBounds i x) j=if i=j then x else at' a j:=by
  unfold at'
  rw [Array.getD_eq_getD_getElem?,Array.getD_eq_getD_getElem?,Array.getElem?_setIfInBounds]
  by_cases e:i=j
  · subst e;simp [h]
  · simp [e]
def wr (a:Array Keyed) (p:Nat) (M:List (Keyed×Nat)):Array Keyed:=M.foldl (fun a q=>a.setIfInBounds (p+q.2) q.1) a
theorem oV (p:Nat):∀(M:List (Keyed×Nat)) (a:Array Keyed),(wr a p M).size=a.size
  | [],a=>rfl
  | q::M,a=>(oV p M _).trans (Array.size_setIfInBounds ..)
theorem rO (p:Nat):∀(M:List Keyed) (n:Nat) (a:Array Keyed),p+n+M.length≤a.size→∀j,at' (wr a p (M.zipIdx n)) j=if p+n≤j∧j < p+n+M.length then M.getD (j - (p+n)) tI else at' a j
  | [],n,a,h,j=>by
    rw [if_neg (by simp)]
    rfl
  | x::M,n,a,h,j=>by
    rw [List.length_cons] at h
    show at' (wr (a.setIfInBounds (p+n) x) p (M.zipIdx (n+1))) j=_
    rw [rO p M (n+1) _ (by rw [Array.size_setIfInBounds];lia),vH (by lia),List.length_cons]
    by_cases e:p+n=j
    · subst e
      rw [if_neg (by lia),if_pos rfl,if_pos (by lia),Nat.sub_self]
      rfl
    · by_cases q:p+(n+1)≤j∧j < p+(n+1)+M.length
      · rw [if_pos q,if_pos (by lia),show j - (p+n)=(j - (p+(n+1)))+1 by lia]
        rfl
      · rw [if_neg q,if_neg e,if_neg (by lia)]
theorem tJ (M:List Keyed) (a:Array Keyed) (h:p+M.length≤a.size):(wr a p M.zipIdx).toList=a.toList.take p++M++a.toList.drop (p+M.length):=by
  have hs:=oV p M.zipIdx a
  refine List.ext_getElem (by simp [hs];lia) fun i h1 h2=>?_
  rw [gH,show M.zipIdx=M.zipIdx 0 from rfl,rO p M 0 a (by assumption)]
  have h1':i < a.size:=by simpa [hs] using h1
  by_cases c1:i < p
  · rw [if_neg (by lia),List.getElem_append_left (by simp;lia),List.getElem_append_left (by simp;lia),List.getElem_take,gH]
  · by_cases c2:i < p+M.length
    · rw [if_pos (by lia),List.getElem_append_left (by simp;lia),List.getElem_append_right (by simp;lia)]
      have e:i - (a.toList.take p).length=i - (p+0):=by simp;lia
      simp only [e]
      simp [show i - p < M.length by lia]
    · rw [if_neg (by exact fun h=>‹¬_› h.2),List.getElem_append_right (by simp;lia),List.getElem_drop,gH]
      congr 1
      simp
      lia
end
section
variable {prog:Program} {w:World} {A:Around} {E:Value→Shared→Prop} {s:Shared} {κ:SortKind} {O:KeyOrd} {key:Keyed→O.α} {dom:Keyed→Prop}
theorem tK {st st':SortSt} {Q:PUnit→SortSt→Prop} (h:Q ⟨⟩ st'):wpS (model prog w) A E s (set st':StateT SortSt Sem PUnit) Q st:=by
  unfold wpS;rw [StateT.run_set];exact wpAny_pure ⟨rfl,h⟩
theorem qc (C:Cmp prog w A s κ O key dom) {a:Array Keyed} {pd:Array (Nat×Nat×Nat)} {g i sa na pw nb pw':Nat} {Q:Bool→SortSt→Prop} (da:∀i,i < a.size→dom (at' a i)) (hp1:pd[i]? =some (sa,na,pw)) (hp2:pd[i+1]? =some (sa+na,nb,pw'))
    (h1:1≤na) (h2:1≤nb) (hz:sa+na+nb≤a.size) (s1:So O key a sa (sa+na)) (s2:So O key a (sa+na) (sa+na+nb))
    (h:∀b g',b.toList.Perm a.toList→(∀j,j < sa∨sa+na+nb≤j→at' b j=at' a j)→So O key b sa (sa+na+nb)→Q true (SortSt.mk' κ b ((pd.setIfInBounds i (sa,na+nb,pw)).eraseIdxIfInBounds (i+1)) g' none)):
    wpS (model prog w) A E s (mergeAt' i) Q (SortSt.mk' κ a pd g none):=by
  refine wpS_bind (wpS_get ?_)
  simp only [hp1,hp2]
  refine wpS_bind (tK ?_)
  have b1:sa+na < a.size:=by lia
  refine wpS_bind (fR b1 ?_)
  refine wpS_bind (gl C (k:=at' a (sa+na)) (arr:=a) (base:=sa) (n:=na) (hint:=0) rfl (by assumption) (by exact Nat.le_of_lt ‹_›) (da _ b1) da ?m1 fun k hk1 hk2 hk3=>?_)
  case m1=>
    intro i j hij hj e
    simp only [fV,Bool.false_eq_true,if_false,Bool.not_eq_true'] at e ⊢
    exact (s1.le (by exact Nat.le_add_right _ _) (by lia) (by exact Nat.add_lt_add_left ‹_› _):Le O key (at' a (sa+i)) (at' a (sa+j))).trans e
  simp only [fV,Bool.false_eq_true,if_false,Bool.not_eq_true',Bool.not_eq_false'] at hk2 hk3
  have lo:∀i,sa≤i→i < sa+k→∀j,sa+na≤j→j < sa+na+nb→Le O key (at' a i) (at' a j):=fun i r1 r2 j r3 r4=>by
    have:=hk2 (i - sa) (by exact Nat.sub_lt_left_of_lt_add ‹_› ‹_›)
    rw [show sa+(i - sa)=i by exact Nat.add_sub_of_le ‹_›] at this
    exact Le.trans this (s2.le (by (solve_by_elim (maxDepth:=3) only [*,Nat.le_trans,Nat.lt_of_lt_of_le,Nat.lt_of_le_of_lt,Nat.le_of_lt,Nat.add_le_add_left,Nat.add_lt_add_left,Nat.le_add_right,Nat.lt_of_succ_lt])) r3 r4)
  by_cases z:(na - k == 0)=true
  · refine bq z (wpS_pure (h a g (List.Perm.refl _) (fun _ _=>rfl) fun i j r1 r2 r3=>?_))
    have z':k=na:=by simp at z;lia
    by_cases c:j < sa+na
    · exact s1 i j r1 r2 c
    · by_cases c':i < sa+na
      · exact lo i r1 (by lia) j (by exact Nat.le_of_not_lt ‹_›) r3
      · exact s2 i j (by exact Nat.le_of_not_lt ‹_›) r2 r3
  refine aZ z ?_
  have z':k < na:=by simp at z;lia
  have b2:sa+na - 1 < a.size:=by exact Nat.lt_of_le_of_lt (Nat.sub_le _ _) ‹_›
  rw [show sa+k+(na - k) - 1=sa+na - 1 by lia]
  refine wpS_bind (fR b2 ?_)
  refine wpS_bind (gl C (k:=at' a (sa+na - 1)) (arr:=a) (base:=sa+na) (n:=nb) (hint:=nb - 1) rfl (by exact Nat.sub_lt ‹_› Nat.one_pos) (by assumption) (da _ b2) da ?m2 fun m hm1 hm2 hm3=>?_)
  case m2=>
    intro i j hij hj e
    simp only [fV,if_true] at e ⊢
    exact KeyOrd.klt_of_kle_of_klt (O:=O) (s2.le (by exact Nat.le_add_right _ _) (by lia) (by exact Nat.add_lt_add_left ‹_› _):Le O key (at' a (sa+na+i)) (at' a (sa+na+j))) e
  simp only [fV,if_true] at hm2 hm3
  have up:∀j,sa+na+m≤j→j < sa+na+nb→∀i,sa≤i→i < sa+na→Le O key (at' a i) (at' a j):=fun j r3 r4 i r1 r2=>by
    have:=hm3 (j - (sa+na)) (by exact Nat.le_sub_of_add_le' ‹_›) (by lia)
    rw [show sa+na+(j - (sa+na))=j by exact Nat.add_sub_of_le (Nat.le_trans (Nat.le_add_right _ _) ‹_›)] at this
    exact (s1.le r1 (by lia) (by lia):Le O key (at' a i) (at' a (sa+na - 1))).trans this
  by_cases y:(m == 0)=true
  · refine bq y (wpS_pure (h a g (List.Perm.refl _) (fun _ _=>rfl) fun i j r1 r2 r3=>?_))
    have y':m=0:=by simpa using y
    by_cases c:j < sa+na
    · exact s1 i j r1 r2 c
    · by_cases c':i < sa+na
      · exact up j (by lia) r3 i r1 c'
      · exact s2 i j (by exact Nat.le_of_not_lt ‹_›) r2 r3
  refine aZ y ?_
  have y':0 < m:=by simp at y;exact Nat.pos_of_ne_zero ‹_›
  have zx:(a.extract (sa+k) (sa+na)).size=na - k:=by rw [uv (by exact Nat.add_le_add_left ‹_› _) (by exact Nat.le_of_lt ‹_›)];lia
  have zy:(a.extract (sa+na) (sa+na+m)).size=m:=by rw [uv (by exact Nat.le_add_right _ _) (by lia)];lia
  have mx:∀x∈(a.extract (sa+k) (sa+na)).toList,∃t,sa+k≤t∧t < sa+na∧x=at' a t:=fun x hx=>by
    obtain ⟨t,t1,t2,t3,t4⟩:=lP hx
    exact ⟨t,t1,t2,t4⟩
  have my:∀x∈(a.extract (sa+na) (sa+na+m)).toList,∃t,sa+na≤t∧t < sa+na+m∧x=at' a t:=fun x hx=>by
    obtain ⟨t,t1,t2,t3,t4⟩:=lP hx
    exact ⟨t,t1,t2,t4⟩
  have dx:∀x∈(a.extract (sa+k) (sa+na)).toList,dom x:=fun x hx=>by obtain ⟨t,t1,t2,rfl⟩:=mx x hx;exact da _ (by lia)
  have dy:∀x∈(a.extract (sa+na) (sa+na+m)).toList,dom x:=fun x hx=>by obtain ⟨t,t1,t2,rfl⟩:=my x hx;exact da _ (by lia)
  have px:=uw (hi:=sa+na) (lo:=sa+k) (a:=a) (fun i j r1 r2 r3=>s1 i j (by exact Nat.le_trans (Nat.le_add_right _ _) ‹_›) r2 r3) (by exact Nat.le_of_lt ‹_›)
  have py:=uw (hi:=sa+na+m) (lo:=sa+na) (a:=a) (fun i j r1 r2 r3=>s2 i j (by assumption) r2 (by lia)) (by lia)
  have fx:at' (a.extract (sa+k) (sa+na)) 0=at' a (sa+k):=mI (by exact Nat.add_lt_add_left ‹_› _) (by exact Nat.le_of_lt ‹_›)
  have lx:at' (a.extract (sa+k) (sa+na)) ((a.extract (sa+k) (sa+na)).size - 1)=at' a (sa+na - 1):=by
    rw [zx,mI (by lia) (by exact Nat.le_of_lt ‹_›)]
    congr 1
    lia
  have fy:at' (a.extract (sa+na) (sa+na+m)) 0=at' a (sa+na):=mI (by exact Nat.add_lt_add_left ‹_› _) (by lia)
  have h0:O.blt (key (at' a (sa+na))) (key (at' a (sa+k)))=true:=hk3 k (by exact Nat.le_refl _) z'
  have yl:∀y∈(a.extract (sa+na) (sa+na+m)).toList,Le O key y (at' a (sa+na - 1)):=fun y hy=>by
    obtain ⟨t,t1,t2,rfl⟩:=my y hy
    have:=hm2 (t - (sa+na)) (by exact Nat.sub_lt_left_of_lt_add ‹_› ‹_›)
    rw [show sa+na+(t - (sa+na))=t by exact Nat.add_sub_of_le ‹_›] at this
    exact Le.of this
  have xf:∀y∈(a.extract (sa+k) (sa+na)).toList,Le O key (at' a (sa+na)) y:=fun y hy=>by
    obtain ⟨t,t1,t2,rfl⟩:=mx y hy
    exact (Le.of h0).trans (s1.le (by exact Nat.le_add_right _ _) t1 t2)
  have fin:∀(r:Array Keyed) (g':Nat),f9 (Le O key) ((a.extract (sa+k) (sa+na)).toList++(a.extract (sa+na) (sa+na+m)).toList) r.toList→
      Q true (SortSt.mk' κ (wr a (sa+k) r.toList.zipIdx) ((pd.setIfInBounds i (sa,na+nb,pw)).eraseIdxIfInBounds (i+1)) g' none):=by
    intro r g' ⟨gp,gs⟩
    have rl:r.toList.length=na - k+m:=by rw [gp.length_eq,List.length_append,Array.length_toList,Array.length_toList,zx,zy]
    have at1:=rO (sa+k) r.toList 0 a (by lia)
    have rm:∀x∈r.toList,∃t,sa+k≤t∧t < sa+na+m∧x=at' a t:=fun x hx=>by
      rcases List.mem_append.mp (gp.mem_iff.mp hx) with hx | hx
      · obtain ⟨t,t1,t2,e⟩:=mx x hx
        exact ⟨t,t1,by exact Nat.lt_add_right _ ‹_›,e⟩
      · obtain ⟨t,t1,t2,e⟩:=my x hx
        exact ⟨t,by lia,t2,e⟩
    have rg:∀n,n < r.toList.length→r.toList.getD n tI=at' r n:=fun n hn=>by
      have hn':n < r.size:=by simpa using hn
      rw [←gH hn]
      simp [hn']
    have rt:∀n,n < r.toList.length→∃t,sa+k≤t∧t < sa+na+m∧at' r n=at' a t:=fun n hn=>rm _ (by rw [←gH hn];exact List.getElem_mem _)
    refine h _ g' ?_ (fun j hj=>?_) fun i j r1 r2 r3=>?_
    · rw [tJ _ _ (by lia)]
      have ea:a.toList=a.toList.take (sa+k)++((a.extract (sa+k) (sa+na)).toList++(a.extract (sa+na) (sa+na+m)).toList)++a.toList.drop (sa+k+r.toList.length):=by
        rw [←List.append_assoc,←lO (by exact Nat.add_le_add_left ‹_› _),←lO (by exact Nat.le_add_right _ _),rl,show sa+k+(na - k+m)=sa+na+m by lia,List.take_append_drop]
      refine List.Perm.trans ?_ (List.Perm.of_eq ea.symm)
      exact List.Perm.append_right _ (List.Perm.append_left _ gp)
    · show at' (wr a (sa+k) (r.toList.zipIdx 0)) j=_
      rw [at1,if_neg (by lia)]
    · show Le O key (at' (wr a (sa+k) (r.toList.zipIdx 0)) i) (at' (wr a (sa+k) (r.toList.zipIdx 0)) j)
      rw [at1,at1]
      by_cases ci:i < sa+k
      · rw [if_neg (by lia)]
        by_cases cj:j < sa+na+m
        · by_cases cj':j < sa+k
          · rw [if_neg (by lia)]
            exact s1 i j r1 r2 (by lia)
          · rw [if_pos (by lia),rg _ (by lia)]
            obtain ⟨t,t1,t2,e⟩:=rt (j - (sa+k+0)) (by lia)
            rw [e]
            by_cases ct:t < sa+na
            · exact s1 i t r1 (by exact Nat.lt_of_lt_of_le ‹_› ‹_›) ct
            · exact lo i r1 ci t (by exact Nat.le_of_not_lt ‹_›) (by lia)
        · rw [if_neg (by lia)]
          exact lo i r1 ci j (by lia) r3
      · by_cases ci':i < sa+na+m
        · rw [if_pos (by lia),rg _ (by lia)]
          by_cases cj:j < sa+na+m
          · rw [if_pos (by lia),rg _ (by lia)]
            have:=List.pairwise_iff_getElem.mp gs (i - (sa+k+0)) (j - (sa+k+0)) (by lia) (by lia) (by lia)
            rw [gH,gH] at this
            exact this
          · rw [if_neg (by lia)]
            obtain ⟨t,t1,t2,e⟩:=rt (i - (sa+k+0)) (by lia)
            rw [e]
            by_cases ct:t < sa+na
            · exact up j (by exact Nat.le_of_not_lt ‹_›) r3 t (by exact Nat.le_trans (Nat.le_add_right _ _) ‹_›) ct
            · exact s2 t j (by exact Nat.le_of_not_lt ‹_›) (by lia) r3
        · rw [if_neg (by lia),if_neg (by lia)]
          exact s2 i j (by lia) r2 r3
  refine f_ (fun _=>?_) (fun _=>?_)
  · refine wpS_bind (p_ C rfl dx dy (by lia) (by lia) px py (by rw [fx,fy];exact h0) (by rw [lx];exact yl) fun r st' hs hg=>?_)
    obtain ⟨g',rfl⟩:=hs
    exact wpS_bind (wpS_modify (wpS_bind (wpS_get (wpS_pure (fin r g' hg)))))
  · refine wpS_bind (qa C rfl dx dy (by lia) (by lia) px py (by rw [lx];exact yl) (by rw [fy];exact xf) fun r st' hs hg=>?_)
    obtain ⟨g',rfl⟩:=hs
    exact wpS_bind (wpS_modify (wpS_bind (wpS_get (wpS_pure (fin r g' hg)))))
end
end NhLS
namespace NhLS
set_option autoImplicit false
open PySem PyProof.Rows
structure Sx (a b:Array Keyed) (lo hi:Nat):Prop where
  perm:b.toList.Perm a.toList
  out:∀j,j < lo∨hi≤j→at' b j=at' a j
def Dn (O:KeyOrd) (key:Keyed→O.α) (a:Array Keyed) (lo hi:Nat):Prop:=∀i j,lo≤i→i < j→j < hi→Le O key (at' a j) (at' a i)
def Eqs (O:KeyOrd) (key:Keyed→O.α) (a:Array Keyed) (e q:Nat):Prop:=∀i,e - (q+1)≤i→i < e→Le O key (at' a i) (at' a (e - 1))∧Le O key (at' a (e - 1)) (at' a i)
section
variable {O:KeyOrd} {key:Keyed→O.α} {a b c:Array Keyed} {i j k lo hi n q:Nat}
theorem Sx.refl:Sx a a lo hi:=⟨List.Perm.refl _,fun _ _=>rfl⟩
theorem Sx.trans (h1:Sx a b lo hi) (h2:Sx b c lo hi):Sx a c lo hi:=⟨h2.perm.trans h1.perm,fun j hj=>(h2.out j hj).trans (h1.out j hj)⟩
theorem Sx.size (h:Sx a b lo hi):b.size=a.size:=by have:=h.perm.length_eq;simpa using this
theorem Sx.dom {dom:Keyed→Prop} (h:Sx a b lo hi) (da:∀x∈a.toList,dom x):∀x∈b.toList,dom x:=fun x hx=>da x (h.perm.mem_iff.mp hx)
theorem tL (a:Array Keyed) (i:Nat):at' a i=(a[i]?).getD tI:=Array.getD_eq_getD_getElem? ..
theorem gy (hj:j≤a.size) (k:Nat):at' (mirror a i j ((j - i) / 2)) k=if i≤k∧k < j then at' a (i+j - 1 - k) else at' a k:=by
  rw [tL,getElem?_mirror_all hj]
  split <;> rw [tL]
theorem nS (hk:k < a.size) (hd:n≤k) (i:Nat):at' (bubble a k n) i=if i=k - n then at' a k else if k - n < i∧i≤k then at' a (i - 1) else at' a i:=by
  rw [tL,getElem?_bubble hk n hd]
  repeat' split
  all_goals rw [tL]
theorem Sx.rev (h1:lo≤i) (h2:j≤hi) (h3:j≤a.size):Sx a (mirror a i j ((j - i) / 2)) lo hi:=
  ⟨Array.perm_iff_toList_perm.mp (mirror_perm _ _ _ _),fun k hk=>by rw [gy h3,if_neg (by lia)]⟩
theorem Sx.bub (h1:k < a.size) (h0:n≤k) (h2:lo≤k - n) (h3:k < hi):Sx a (bubble a k n) lo hi:=
  ⟨Array.perm_iff_toList_perm.mp (bubble_perm _ _ _),fun j hj=>by rw [nS h1 h0,if_neg (by lia),if_neg (by lia)]⟩
theorem So.step (h:So O key a lo hi) (hl:lo < hi) (e:Le O key (at' a (hi - 1)) (at' a hi)):So O key a lo (hi+1):=fun i j h1 h2 h3=>by
  by_cases c:j < hi
  · exact h i j h1 h2 c
  · rw [show j=hi by lia]
    exact (h.le h1 (by lia) (by lia):Le O key (at' a i) (at' a (hi - 1))).trans e
theorem Dn.le (h:Dn O key a lo hi) (h1:lo≤i) (h2:i≤j) (h3:j < hi):Le O key (at' a j) (at' a i):=by
  by_cases e:i=j
  · rw [e];exact Le.refl _
  · exact h i j h1 (by exact Nat.lt_of_le_of_ne ‹_› ‹_›) h3
theorem Dn.step (h:Dn O key a lo hi) (hl:lo < hi) (e:Le O key (at' a hi) (at' a (hi - 1))):Dn O key a lo (hi+1):=fun i j h1 h2 h3=>by
  by_cases c:j < hi
  · exact h i j h1 h2 c
  · rw [show j=hi by lia]
    exact Le.trans e (h.le h1 (by lia) (by lia))
theorem Dn.rev (h:Dn O key a lo hi) (e:Eqs O key a hi q) (hz:hi≤a.size) (hq:lo+(q+1)≤hi):Dn O key (mirror a (hi - (q+1)) hi ((hi - (hi - (q+1))) / 2)) lo hi:=fun i j h1 h2 h3=>by
  rw [gy hz,gy hz]
  by_cases c:hi - (q+1)≤i
  · rw [if_pos (by lia),if_pos (by lia)]
    exact (e _ (by lia) (by lia)).1.trans (e _ (by lia) (by lia)).2
  · rw [if_neg (show ¬(hi - (q+1)≤i∧i < hi) by exact fun h=>‹¬_› h.1)]
    by_cases c':hi - (q+1)≤j
    · rw [if_pos (by exact ⟨‹_›,‹_›⟩)]
      exact h _ _ h1 (by lia) (by lia)
    · rw [if_neg (by exact fun h=>‹¬_› h.1)]
      exact h _ _ h1 h2 h3
theorem Dn.flip (h:Dn O key a lo hi) (hz:hi≤a.size):So O key (mirror a lo hi ((hi - lo) / 2)) lo hi:=fun i j h1 h2 h3=>by
  rw [gy hz,gy hz,if_pos (by lia),if_pos (by lia)]
  exact h _ _ (by lia) (by lia) (by lia)
theorem Eqs.one:Eqs O key a (hi+1) 0:=fun i h1 h2=>by
  rw [show i=hi by lia]
  exact ⟨Le.refl _,Le.refl _⟩
end
section
variable {prog:Program} {w:World} {A:Around} {E:Value→Shared→Prop} {s:Shared} {κ:SortKind} {O:KeyOrd} {key:Keyed→O.α} {dom:Keyed→Prop} {a:Array Keyed} {pd:Array (Nat×Nat×Nat)} {g:Nat}
theorem jb (C:Cmp prog w A s κ O key dom) {i j:Nat} {Q:Option Bool→SortSt→Prop} (da:∀x∈a.toList,dom x) (hi:i < a.size) (hj:j < a.size) (h:Q (some (O.blt (key (at' a i)) (key (at' a j)))) (SortSt.mk' κ a pd g none)):wpS (model prog w) A E s (ltAt' i j) Q (SortSt.mk' κ a pd g none):=
  wpS_bind (wpS_get (wpS_bind (fR hi (wpS_bind (fR hj (rM C rfl (da _ (iu hi)) (da _ (iu hj)) h))))))
theorem oW {i j:Nat} {Q:Unit→SortSt→Prop} (h:Q () (SortSt.mk' κ (mirror a i j ((j - i) / 2)) pd g none)):wpS (model prog w) A E s (reverseSlice' i j) Q (SortSt.mk' κ a pd g none):=wpS_modify h
theorem vI {k l:Nat} {Q:Unit→SortSt→Prop} (h:Q () (SortSt.mk' κ (bubble a k (k - l)) pd g none)):wpS (model prog w) A E s (moveDown' k l) Q (SortSt.mk' κ a pd g none):=wpS_modify h
theorem ux {lo n0 nrem:Nat} {β:Type} {body:Nat→Option β×Nat→StateT SortSt Sem (ForInStep (Option β×Nat))} {Q:Option β×Nat→SortSt→Prop} (h1:1≤n0) (h2:n0≤nrem) (hs:So O key a lo (lo+n0))
    (hb:∀x n (R:ForInStep (Option β×Nat)→SortSt→Prop),1≤n→n < nrem→R (if O.blt (key (at' a (lo+n))) (key (at' a (lo+n - 1)))=true then .done (none,n) else .yield (none,n+1)) (SortSt.mk' κ a pd g none)→wpS (model prog w) A E s (body x (none,n)) R (SortSt.mk' κ a pd g none))
    (h:∀n,n0≤n→n≤nrem→So O key a lo (lo+n)→(n < nrem→O.blt (key (at' a (lo+n))) (key (at' a (lo+n - 1)))=true)→Q (none,n) (SortSt.mk' κ a pd g none)):
    wpS (model prog w) A E s (forIn [n0:nrem] (none,n0) body) Q (SortSt.mk' κ a pd g none):=by
  refine wpS_forRange (I:=fun x c st'=>st'=SortSt.mk' κ a pd g none∧c=(none,x)∧n0≤x∧So O key a lo (lo+x)) ?_ ?_ ⟨rfl,rfl,Nat.le_refl _,hs⟩
  · rintro x c st' q1 q2 ⟨rfl,rfl,q3,q4⟩
    refine hb x x _ (by exact Nat.lt_of_lt_of_le ‹_› ‹_›) q2 ?_
    cases e:O.blt (key (at' a (lo+x))) (key (at' a (lo+x - 1))) with
    | true=>exact h x q3 (by exact Nat.le_of_lt ‹_›) q4 fun _=>e
    | false=>exact ⟨rfl,rfl,by (solve_by_elim (maxDepth:=3) only [*,Nat.le_trans,Nat.lt_of_lt_of_le,Nat.lt_of_le_of_lt,Nat.le_of_lt]),q4.step (by lia) e⟩
  · rintro c st' ⟨rfl,rfl,q3,q4⟩
    rw [show max n0 nrem=nrem by exact Nat.max_eq_right ‹_›] at q4 ⊢
    exact h nrem h2 (Nat.le_refl _) q4 fun z=>absurd z (Nat.lt_irrefl _)
theorem lQ (C:Cmp prog w A s κ O key dom) {lo n ok:Nat} {Q:Bool→SortSt→Prop} (da:∀x∈a.toList,dom x) (h1:1≤ok) (h2:ok≤n) (hz:lo+n≤a.size) (hs:So O key a lo (lo+ok))
    (h:∀b,Sx a b lo (lo+n)→So O key b lo (lo+n)→Q true (SortSt.mk' κ b pd g none)):wpS (model prog w) A E s (binarySort' lo n ok) Q (SortSt.mk' κ a pd g none):=by
  refine wpS_bind (wpS_mono (wpS_forRange (I:=fun k c st'=>c=(none,())∧∃b,st'=SortSt.mk' κ b pd g none∧Sx a b lo (lo+n)∧So O key b lo (lo+k)) (Q:=fun c st'=>c=(none,())∧∃b,st'=SortSt.mk' κ b pd g none∧Sx a b lo (lo+n)∧So O key b lo (lo+n)) ?s1 ?s2 ⟨rfl,a,rfl, .refl,by rw [show max ok 1=ok by exact Nat.max_eq_left ‹_›];exact hs⟩) ?s3)
  case s3=>
    rintro c st' ⟨rfl,b,rfl,sb,ss⟩
    exact wpS_pure (h b sb ss)
  case s2=>
    rintro c st' ⟨rfl,b,rfl,sb,ss⟩
    rw [show max (max ok 1) n=n by lia] at ss
    exact ⟨rfl,b,rfl,sb,ss⟩
  case s1=>
    rintro k c st' k1 k2 ⟨rfl,b,rfl,sb,ss⟩
    have bz:=sb.size
    have ik:lo+k < b.size:=by lia
    refine wpS_bind (wpS_mono (wpS_forRange (I:=fun x c st'=>st'=SortSt.mk' κ b pd g none∧∃l r,c=(none,l,r)∧l≤r∧r≤k∧r+x≤k+l∧(∀i,i < l→Le O key (at' b (lo+i)) (at' b (lo+k)))∧(∀i,r≤i→i < k→Le O key (at' b (lo+k)) (at' b (lo+i))))
      (Q:=fun c st'=>st'=SortSt.mk' κ b pd g none∧∃l,c=(none,l,l)∧l≤k∧(∀i,i < l→Le O key (at' b (lo+i)) (at' b (lo+k)))∧(∀i,l≤i→i < k→Le O key (at' b (lo+k)) (at' b (lo+i)))) ?t1 ?t2 ⟨rfl,0,k,rfl,by exact Nat.zero_le _,by exact Nat.le_refl _,by (solve_by_elim (maxDepth:=3) only [*,Nat.le_trans,Nat.lt_of_lt_of_le,Nat.lt_of_le_of_lt,Nat.le_of_lt,Nat.add_le_add_left,Nat.add_lt_add_left,Nat.le_add_right,Nat.lt_of_succ_lt]),fun i hi=>by lia,fun i h1 h2=>by lia⟩) ?t3)
    case t2=>
      rintro c st' ⟨rfl,l,r,rfl,p1,p2,p3,p4,p5⟩
      have:l=r:=by lia
      subst this
      exact ⟨rfl,l,rfl,p2,p4,p5⟩
    case t1=>
      rintro x c st' - x2 ⟨rfl,l,r,rfl,p1,p2,p3,p4,p5⟩
      dsimp only
      refine f_ (fun z=>?_) (fun z=>?_)
      · have:l=r:=by exact Nat.le_antisymm ‹_› ‹_›
        subst this
        exact wpS_pure ⟨rfl,l,rfl,p2,p4,p5⟩
      · have im:lo+(l+r) / 2 < b.size:=by lia
        refine wpS_bind (jb C (sb.dom da) ik im ?_)
        cases e:O.blt (key (at' b (lo+k))) (key (at' b (lo+(l+r) / 2))) with
        | true=>exact wpS_pure ⟨rfl,l,(l+r) / 2,rfl,by lia,by lia,by lia,p4,fun i r1 r2=>(Le.of e).trans (ss.le (by exact Nat.le_add_right _ _) (by exact Nat.add_le_add_left ‹_› _) (by exact Nat.add_lt_add_left ‹_› _))⟩
        | false=>exact wpS_pure ⟨rfl,(l+r) / 2+1,r,rfl,by lia,by assumption,by lia,fun i r1=>(ss.le (by exact Nat.le_add_right _ _) (by lia) (by lia):Le O key (at' b (lo+i)) (at' b (lo+(l+r) / 2))).trans e,p5⟩
    case t3=>
      rintro c st' ⟨rfl,l,rfl,p2,p4,p5⟩
      refine wpS_bind (vI (wpS_pure ⟨rfl,_,rfl,sb.trans (Sx.bub (k:=lo+k) (n:=lo+k - (lo+l)) ik (by exact Nat.sub_le _ _) (by lia) (by exact Nat.add_lt_add_left ‹_› _)),fun i j r1 r2 r3=>?_⟩))
      have q4:∀i,lo≤i→i < lo+l→Le O key (at' b i) (at' b (lo+k)):=fun i u1 u2=>by have:=p4 (i - lo) (by exact Nat.sub_lt_left_of_lt_add ‹_› ‹_›);rwa [show lo+(i - lo)=i by exact Nat.add_sub_of_le ‹_›] at this
      have q5:∀i,lo+l≤i→i < lo+k→Le O key (at' b (lo+k)) (at' b i):=fun i u1 u2=>by have:=p5 (i - lo) (by exact Nat.le_sub_of_add_le' ‹_›) (by lia);rwa [show lo+(i - lo)=i by exact Nat.add_sub_of_le (Nat.le_trans (Nat.le_add_right _ _) ‹_›)] at this
      show Le O key (at' (bubble b (lo+k) (lo+k - (lo+l))) i) (at' (bubble b (lo+k) (lo+k - (lo+l))) j)
      rw [nS ik (by exact Nat.sub_le _ _),nS ik (by exact Nat.sub_le _ _),show lo+k - (lo+k - (lo+l))=lo+l by lia]
      repeat' split
      all_goals first
        | (exfalso;lia)
        | exact q4 _ (by assumption) (by (first | exact Nat.lt_of_lt_of_eq ‹_› ‹_› | lia))
        | exact q5 _ (by (first | exact Nat.add_le_add_left ‹_› _ | lia)) (by lia)
        | exact ss _ _ (by (first | assumption | lia)) (by (first | assumption | lia)) (by lia)
theorem nT (C:Cmp prog w A s κ O key dom) {lo nrem:Nat} {Q:Option Nat→SortSt→Prop} (da:∀x∈a.toList,dom x) (h1:1≤nrem) (hz:lo+nrem≤a.size)
    (h:∀m b,1≤m→m≤nrem→Sx a b lo (lo+nrem)→So O key b lo (lo+m)→Q (some m) (SortSt.mk' κ b pd g none)):wpS (model prog w) A E s (countRun' lo nrem) Q (SortSt.mk' κ a pd g none):=by
  refine wpS_bind (ux (O:=O) (key:=key) (a:=a) (lo:=lo) (n0:=1) (nrem:=nrem) (Nat.le_refl _) h1 (fun i j r1 r2 r3=>by lia) (fun x n R n1 n2 hR=>?_) fun n q1 q2 q3 q4=>?_)
  · refine wpS_bind (jb C da (show lo+n < a.size by lia) (show lo+n - 1 < a.size by lia) ?_)
    cases e:O.blt (key (at' a (lo+n))) (key (at' a (lo+n - 1))) with
    | true=>rw [e] at hR;exact wpS_pure hR
    | false=>rw [e] at hR;exact wpS_pure hR
  dsimp -zeta only
  by_cases z:(n == nrem)=true
  · exact bq z (wpS_pure (h n a q1 q2 .refl q3))
  refine aZ z ?_
  have z':n < nrem:=by simp at z;exact Nat.lt_of_le_of_ne ‹_› ‹_›
  have sn:=q4 z'
  extract_lets
  rename Unit→_=>jp
  have J:∀b,Sx a b lo (lo+nrem)→Dn O key b lo (lo+n+1)→wpS (model prog w) A E s (jp ()) Q (SortSt.mk' κ b pd g none):=by
    intro b sb db
    refine wpS_bind (wpS_lift (wpAny_rule ⟨rfl,?_⟩))
    refine wpS_bind (wpS_mono (wpS_forRange (I:=fun x c st'=>∃b q,st'=SortSt.mk' κ b pd g none∧Sx a b lo (lo+nrem)∧c=(none,x,q)∧q+1≤x∧n+1≤x∧Dn O key b lo (lo+x)∧Eqs O key b (lo+x) q)
      (Q:=fun c st'=>∃b m q,st'=SortSt.mk' κ b pd g none∧Sx a b lo (lo+nrem)∧c=(none,m,q)∧q+1≤m∧m≤nrem∧Dn O key b lo (lo+m)∧Eqs O key b (lo+m) q) ?s1 ?s2 ⟨b,0,rfl,sb,rfl,by exact Nat.lt_succ_of_lt ‹_›,by exact Nat.lt_succ_self _,db,Eqs.one⟩) ?s3)
    case s2=>
      rintro c st' ⟨b,q,rfl,sb,rfl,p1,p2,p3,p4⟩
      rw [show max (n+1) nrem=nrem by exact Nat.max_eq_right ‹_›] at *
      exact ⟨b,nrem,q,rfl,sb,rfl,p1,Nat.le_refl _,p3,p4⟩
    case s1=>
      rintro x c st' x1 x2 ⟨b,q,rfl,sb,rfl,p1,p2,p3,p4⟩
      have bz:=sb.size
      have i1:lo+x < b.size:=by lia
      have i2:lo+x - 1 < b.size:=by exact Nat.lt_of_le_of_lt (Nat.sub_le _ _) ‹_›
      refine wpS_bind (jb C (sb.dom da) i1 i2 ?_)
      cases e:O.blt (key (at' b (lo+x))) (key (at' b (lo+x - 1))) with
      | true=>
        dsimp only
        rw [if_pos rfl]
        refine f_ (fun z=>?_) (fun z=>?_)
        · refine wpS_bind (oW (wpS_pure ⟨_,0,rfl,sb.trans (Sx.rev (by lia) (by lia) (by exact Nat.le_of_lt ‹_›)),rfl,by exact Nat.le_add_left _ _,by exact Nat.lt_succ_of_lt ‹_›,?_,Eqs.one⟩))
          refine (p3.rev p4 (by exact Nat.le_of_lt ‹_›) (by exact Nat.add_lt_add_left ‹_› _)).step (by lia) ?_
          rw [gy (by exact Nat.le_of_lt ‹_›),gy (by exact Nat.le_of_lt ‹_›),if_neg (by lia),if_pos (by lia)]
          exact (Le.of e).trans (p4 _ (by lia) (by lia)).2
        · exact wpS_pure ⟨b,0,rfl,sb,rfl,by exact Nat.le_add_left _ _,by exact Nat.lt_succ_of_lt ‹_›,p3.step (by lia) (Le.of e),Eqs.one⟩
      | false=>
        dsimp only
        rw [if_neg (by simp)]
        refine wpS_bind (jb C (sb.dom da) i2 i1 ?_)
        cases e':O.blt (key (at' b (lo+x - 1))) (key (at' b (lo+x))) with
        | true=>exact wpS_pure ⟨b,x,q,rfl,sb,rfl,p1,by exact Nat.le_of_lt ‹_›,p3,p4⟩
        | false=>
          refine wpS_pure ⟨b,q+1,rfl,sb,rfl,by exact Nat.succ_lt_succ ‹_›,by exact Nat.lt_succ_of_lt ‹_›,p3.step (by lia) e',fun i r1 r2=>?_⟩
          show Le O key (at' b i) (at' b (lo+x))∧Le O key (at' b (lo+x)) (at' b i)
          by_cases c:i=lo+x
          · rw [c];exact ⟨Le.refl _,Le.refl _⟩
          · obtain ⟨u1,u2⟩:=p4 i (by lia) (by lia)
            exact ⟨u1.trans e,Le.trans e' u2⟩
    case s3=>
      rintro c st' ⟨b,m,q,rfl,sb,rfl,p1,p2,p3,p4⟩
      have bz:=sb.size
      dsimp -zeta only
      extract_lets
      rename Unit→_=>jp2
      have J2:∀b,Sx a b lo (lo+nrem)→Dn O key b lo (lo+m)→wpS (model prog w) A E s (jp2 ()) Q (SortSt.mk' κ b pd g none):=by
        intro b sb db
        have bz:=sb.size
        refine wpS_bind (oW ?_)
        have sc:=sb.trans (Sx.rev (a:=b) (i:=lo) (j:=lo+m) (Nat.le_refl lo) (show lo+m≤lo+nrem by exact Nat.add_le_add_left ‹_› _) (by lia))
        have cz:=sc.size
        have ss:=db.flip (by lia)
        revert sc cz ss
        generalize mirror b lo (lo+m) ((lo+m - lo) / 2)=c
        intro sc cz ss
        refine wpS_bind (ux (O:=O) (key:=key) (a:=c) (lo:=lo) (n0:=m) (nrem:=nrem) (by exact Nat.le_trans (Nat.le_add_left _ _) ‹_›) p2 ss (fun x n R n1 n2 hR=>?_) fun n q1 q2 q3 q4=>?_)
        · refine wpS_bind (jb C (sc.dom da) (show lo+n < c.size by lia) (show lo+n - 1 < c.size by lia) ?_)
          cases e:O.blt (key (at' c (lo+n))) (key (at' c (lo+n - 1))) with
          | true=>rw [e] at hR;exact wpS_pure hR
          | false=>rw [e] at hR;exact wpS_pure hR
        · exact wpS_pure (h n c (by lia) q2 sc q3)
      clear_value jp2
      refine f_ (fun z=>?_) (fun z=>?_)
      · exact wpS_bind (oW (J2 _ (sb.trans (Sx.rev (a:=b) (i:=lo+m - (q+1)) (j:=lo+m) (by lia) (by exact Nat.add_le_add_left ‹_› _) (by lia))) (Dn.rev (hi:=lo+m) (q:=q) p3 p4 (by lia) (by exact Nat.add_lt_add_left ‹_› _))))
      · exact J2 b sb p3
  clear_value jp
  refine f_ (fun c=>?_) (fun c=>?_)
  · refine wpS_bind (jb C da (show lo < a.size by lia) (show lo+n - 1 < a.size by lia) ?_)
    cases e:O.blt (key (at' a lo)) (key (at' a (lo+n - 1))) with
    | true=>exact wpS_pure (h n a q1 q2 .refl q3)
    | false=>
      refine wpS_bind (oW (J _ (Sx.rev (Nat.le_refl _) (by exact Nat.add_le_add_left ‹_› _) (by lia)) fun i j r1 r2 r3=>?_))
      have all:∀x y,lo≤x→x < lo+n→lo≤y→y < lo+n→Le O key (at' a x) (at' a y):=fun x y x1 x2 y1 y2=>
        ((q3.le x1 (by lia) (by lia):Le O key (at' a x) (at' a (lo+n - 1))).trans e).trans (q3.le (Nat.le_refl _) y1 y2)
      rw [gy (by lia),gy (by lia),if_pos (show lo≤i∧i < lo+n by lia)]
      by_cases c':j < lo+n
      · rw [if_pos (by lia)]
        exact all _ _ (by lia) (by lia) (by lia) (by lia)
      · rw [if_neg (by exact fun h=>‹¬_› h.2),show j=lo+n by lia]
        exact (Le.of sn).trans (all _ _ (by lia) (by lia) (by lia) (by lia))
  · refine J a .refl fun i j r1 r2 r3=>?_
    rw [show i=lo+n - 1 by lia,show j=lo+n by lia]
    exact Le.of sn
end
end NhLS
namespace NhLS
set_option autoImplicit false
open PySem PyProof.Rows
def Ch (O:KeyOrd) (key:Keyed→O.α) (a:Array Keyed):List (Nat×Nat×Nat)→Nat→Nat→Prop
  | [],p,e=>p=e
  | t::l,p,e=>t.1=p∧1≤t.2.1∧So O key a p (p+t.2.1)∧Ch O key a l (p+t.2.1) e
section
variable {O:KeyOrd} {key:Keyed→O.α} {a b:Array Keyed}
theorem Ch.app:∀{l l':List (Nat×Nat×Nat)} {p e:Nat},Ch O key a (l++l') p e→∃m,Ch O key a l p m∧Ch O key a l' m e
  | [],_,p,e,h=>⟨p,rfl,h⟩
  | t::l,_,p,e,h=>by
    obtain ⟨m,h1,h2⟩:=Ch.app h.2.2.2
    exact ⟨m,⟨h.1,h.2.1,h.2.2.1,h1⟩,h2⟩
theorem Ch.join:∀{l l':List (Nat×Nat×Nat)} {p m e:Nat},Ch O key a l p m→Ch O key a l' m e→Ch O key a (l++l') p e
  | [],_,p,m,e,h1,h2=>by rw [show p=m from h1];exact h2
  | t::l,_,p,m,e,h1,h2=>⟨h1.1,h1.2.1,h1.2.2.1,Ch.join h1.2.2.2 h2⟩
theorem Ch.le:∀{l:List (Nat×Nat×Nat)} {p e:Nat},Ch O key a l p e→p+l.length≤e
  | [],p,e,h=>by rw [show p=e from h];exact Nat.le_refl _
  | t::l,p,e,h=>by
    have:=Ch.le h.2.2.2
    have:=h.2.1
    rw [List.length_cons]
    lia
theorem Ch.ext:∀{l:List (Nat×Nat×Nat)} {p e:Nat},Ch O key a l p e→(∀j,p≤j→j < e→at' b j=at' a j)→Ch O key b l p e
  | [],p,e,h,_=>h
  | t::l,p,e,h,q=>by
    have:=Ch.le h.2.2.2
    exact ⟨h.1,h.2.1,h.2.2.1.ext fun j h1 h2=>q j h1 (by lia),Ch.ext h.2.2.2 fun j h1 h2=>q j (by exact Nat.le_trans (Nat.le_add_right _ _) ‹_›) h2⟩
theorem Ch.map:∀{l l':List (Nat×Nat×Nat)} {p e:Nat},Ch O key a l p e→l'.map (fun t=>(t.1,t.2.1))=l.map (fun t=>(t.1,t.2.1))→Ch O key a l' p e
  | [],l',p,e,h,q=>by
    cases l' with
    | nil=>exact h
    | cons _ _=>simp at q
  | t::l,l',p,e,h,q=>by
    cases l' with
    | nil=>simp at q
    | cons t' l'=>
      simp only [List.map_cons,List.cons.injEq,Prod.mk.injEq] at q
      refine ⟨q.1.1.trans h.1,by rw [q.1.2];exact h.2.1,by rw [q.1.2];exact h.2.2.1,?_⟩
      rw [q.1.2]
      exact Ch.map h.2.2.2 q.2
theorem tM (f:Nat×Nat×Nat→Nat×Nat×Nat) (hf:∀t,(f t).1=t.1∧(f t).2.1=t.2.1) (l:List (Nat×Nat×Nat)) (k:Nat):(l.modify k f).map (fun t=>(t.1,t.2.1))=l.map (fun t=>(t.1,t.2.1)):=by
  refine List.ext_getElem? fun j=>?_
  rw [List.getElem?_map,List.getElem?_map,List.getElem?_modify]
  cases l[j]? with
  | none=>rfl
  | some t=>
    by_cases e:k=j
    · simp [e,hf t]
    · simp [e]
theorem Ch.one {p n w:Nat} (h:So O key a p (p+n)) (h1:1≤n):Ch O key a [(p,n,w)] p (p+n):=⟨rfl,h1,h,rfl⟩
end
section
variable {prog:Program} {w:World} {A:Around} {E:Value→Shared→Prop} {s:Shared} {κ:SortKind} {O:KeyOrd} {key:Keyed→O.α} {dom:Keyed→Prop} {a:Array Keyed} {pd:Array (Nat×Nat×Nat)} {g:Nat}
theorem kI (C:Cmp prog w A s κ O key dom) {i lo:Nat} {Q:Bool→SortSt→Prop} (da:∀x∈a.toList,dom x) (hi:i+1 < pd.size) (hz:lo≤a.size) (hc:Ch O key a pd.toList 0 lo)
    (h:∀b pd' g',b.toList.Perm a.toList→(∀j,lo≤j→at' b j=at' a j)→Ch O key b pd'.toList 0 lo→pd'.size+1=pd.size→Q true (SortSt.mk' κ b pd' g' none)):wpS (model prog w) A E s (mergeAt' i) Q (SortSt.mk' κ a pd g none):=by
  have el:pd.toList=pd.toList.take i++(pd[i]::pd[i+1]::pd.toList.drop (i+2)):=by
    conv=>lhs;rw [←List.take_append_drop i pd.toList]
    congr 1
    rw [List.drop_eq_getElem_cons (by simp;exact Nat.lt_of_succ_lt ‹_›),List.drop_eq_getElem_cons (by simp;assumption)]
    simp
  have e1:pd[i]? =some pd[i]:=getElem?_pos ..
  have e2:pd[i+1]? =some pd[i+1]:=getElem?_pos ..
  revert el e1 e2
  generalize pd[i]=t1
  generalize pd[i+1]=t2
  intro el e1 e2
  obtain ⟨sa,na,w1⟩:=t1
  obtain ⟨sb,nb,w2⟩:=t2
  have li:(pd.toList.take i).length=i:=by simp;lia
  revert el li
  generalize pd.toList.take i=pre
  generalize pd.toList.drop (i+2)=post
  intro el li
  rw [el] at hc
  obtain ⟨m,c1,c2⟩:=hc.app
  obtain ⟨u1,u2,u3,v1,v2,v3,c3⟩:=c2
  simp only at u1 u2 u3 v1 v2 v3 c3
  subst u1
  subst v1
  have le3:=c3.le
  refine qc C (fun i hi=>da _ (iu hi)) e1 e2 u2 v2 (by lia) u3 v3 fun b g' pb ob sb=>h b _ g' pb (fun j hj=>ob j (.inr (by lia))) ?_ ?_
  · have:((pd.setIfInBounds i (sa,na+nb,w1)).eraseIdxIfInBounds (i+1)).toList=pre++((sa,na+nb,w1)::post):=by
      have hs:i+1 < (pd.setIfInBounds i (sa,na+nb,w1)).size:=by simpa using hi
      rw [Array.eraseIdxIfInBounds,dif_pos hs,Array.toList_eraseIdx,Array.toList_setIfInBounds,el]
      subst li
      simp [List.eraseIdx_append_of_length_le]
    rw [this]
    refine (c1.ext fun j _ hj=>ob j (.inl hj)).join ⟨rfl,by show 1≤na+nb;exact Nat.lt_add_right _ ‹_›,by rw [←Nat.add_assoc];exact sb,?_⟩
    show Ch O key b post (sa+(na+nb)) lo
    rw [←Nat.add_assoc]
    exact c3.ext fun j hj _=>ob j (.inr hj)
  · have hs:i+1 < (pd.setIfInBounds i (sa,na+nb,w1)).size:=by simpa using hi
    rw [Array.eraseIdxIfInBounds,dif_pos hs,Array.size_eraseIdx]
    simp
    lia
theorem rP {c:Prop} [Decidable c] {x y:Nat} {Q:Bool→SortSt→Prop} {st:SortSt} (h:∀i,i=x∨i=y→wpS (model prog w) A E s (mergeAt' i) Q st):wpS (model prog w) A E s (mergeAt' (if c then x else y)) Q st:=by
  split
  · exact h _ (.inl rfl)
  · exact h _ (.inr rfl)
theorem jT (C:Cmp prog w A s κ O key dom) {Q:Unit→SortSt→Prop} (da:∀x∈a.toList,dom x) (h:∀b pd' g',b.toList.Perm a.toList→So O key b 0 a.size→Q () (SortSt.mk' κ b pd' g' none)):wpS (model prog w) A E s sortRuns' Q (SortSt.mk' κ a #[] g none):=by
  refine wpS_bind (wpS_get ?_)
  refine wpS_bind (wpS_mono (wpS_forRange (I:=fun x c st'=>∃b lo pd g,st'=SortSt.mk' κ b pd g none∧b.toList.Perm a.toList∧c=(none,lo)∧lo≤a.size∧(x≤lo∨lo=a.size)∧Ch O key b pd.toList 0 lo)
    (Q:=fun c st'=>∃b pd g,st'=SortSt.mk' κ b pd g none∧b.toList.Perm a.toList∧c=(none,a.size)∧Ch O key b pd.toList 0 a.size) ?s1 ?s2 ⟨a,0,#[],g,rfl,List.Perm.refl _,rfl,by exact Nat.zero_le _,by (solve_by_elim (maxDepth:=3) only [*,Nat.le_trans,Nat.lt_of_lt_of_le,Nat.lt_of_le_of_lt,Nat.le_of_lt]),rfl⟩) ?s3)
  case s2=>
    rintro c st' ⟨b,lo,pd,g,rfl,p1,rfl,p2,p3,p4⟩
    have:lo=a.size:=by
      rcases p3 with p3 | p3
      · have p3':max 0 a.size≤lo:=p3
        exact Nat.le_antisymm ‹_› ‹_›
      · exact p3
    subst this
    exact ⟨b,pd,g,rfl,p1,rfl,p4⟩
  case s1=>
    rintro x c st' - x2 ⟨b,lo,pd,g,rfl,p1,rfl,p2,p3,p4⟩
    have bz:b.size=a.size:=by have:=p1.length_eq;simpa using this
    refine vG fun R hR=>?_
    have Rd:∀b pd g,b.toList.Perm a.toList→Ch O key b pd.toList 0 a.size→R (.done (none,a.size)) (SortSt.mk' κ b pd g none):=fun b pd g q1 q2=>by rw [hR];exact ⟨b,pd,g,rfl,q1,rfl,q2⟩
    have Ry:∀b lo pd g,b.toList.Perm a.toList→lo≤a.size→(x+1≤lo∨lo=a.size)→Ch O key b pd.toList 0 lo→R (.yield (none,lo)) (SortSt.mk' κ b pd g none):=fun b lo pd g q1 q2 q3 q4=>by rw [hR];exact ⟨b,lo,pd,g,rfl,q1,rfl,q2,q3,q4⟩
    clear hR
    dsimp -zeta only
    extract_lets
    refine f_ (fun z=>?_) (fun z=>?_)
    · have:lo=a.size:=by exact Nat.le_antisymm ‹_› ‹_›
      subst this
      exact wpS_pure (Rd b pd g p1 p4)
    have z':lo < a.size:=by exact Nat.lt_of_not_le ‹_›
    refine wpS_bind (nT C (fun x hx=>da x (p1.mem_iff.mp hx)) (lo:=lo) (nrem:=a.size - lo) (by exact Nat.sub_pos_of_lt ‹_›) (by lia) fun n c n1 n2 sc ss=>?_)
    dsimp -zeta only
    extract_lets
    rename Unit→Nat→_=>jp
    have J:∀(n:Nat) (c:Array Keyed),1≤n→n≤a.size - lo→Sx b c lo (lo+(a.size - lo))→So O key c lo (lo+n)→wpS (model prog w) A E s (jp () n) R (SortSt.mk' κ c pd g none):=by
      intro n c n1 n2 sc ss
      have cp:c.toList.Perm a.toList:=sc.perm.trans p1
      have ch:Ch O key c pd.toList 0 lo:=p4.ext fun j _ hj=>sc.out j (.inl hj)
      refine wpS_bind (wpS_get ?_)
      dsimp -zeta only
      extract_lets
      rename Unit→_=>jq
      have K:∀c pd g,c.toList.Perm a.toList→Ch O key c pd.toList 0 lo→So O key c lo (lo+n)→wpS (model prog w) A E s (jq ()) R (SortSt.mk' κ c pd g none):=by
        intro c pd g cp ch ss
        refine wpS_bind (wpS_modify (wpS_pure (Ry c (lo+n) (pd.push (lo,n,0)) g cp (by lia) (by lia) ?_)))
        rw [Array.toList_push]
        exact ch.join (Ch.one ss n1)
      clear_value jq
      cases eb:pd.back? with
      | none=>exact K c pd g cp ch ss
      | some t=>
        dsimp -zeta only
        refine wpS_bind (wpS_mono (wpS_forRange (I:=fun x r st'=>r=(none,())∧∃c pd g,st'=SortSt.mk' κ c pd g none∧c.toList.Perm a.toList∧Ch O key c pd.toList 0 lo∧So O key c lo (lo+n))
          (Q:=fun r st'=>r=(none,())∧∃c pd g,st'=SortSt.mk' κ c pd g none∧c.toList.Perm a.toList∧Ch O key c pd.toList 0 lo∧So O key c lo (lo+n)) ?t1 (fun _ _ q=>q) ⟨rfl,c,pd,g,rfl,cp,ch,ss⟩) ?t3)
        case t3=>
          rintro r st' ⟨rfl,c,pd,g,rfl,cp,ch,ss⟩
          refine wpS_bind (wpS_modify (K c _ g cp (ch.map ?_) ss))
          rw [Array.toList_modify]
          refine tM _ ?_ _ _
          exact fun _=>⟨rfl,rfl⟩
        case t1=>
          rintro y r st' - - ⟨rfl,c,pd,g,rfl,cp,ch,ss⟩
          refine wpS_bind (wpS_get ?_)
          dsimp only
          by_cases pz:pd.size > 1
          · rw [if_pos pz,getElem?_pos pd (pd.size - 2) (by lia)]
            refine f_ (fun _=>?_) (fun _=>?_)
            · exact wpS_pure ⟨rfl,c,pd,g,rfl,cp,ch,ss⟩
            · have cz:c.size=a.size:=by have:=cp.length_eq;simpa using this
              refine wpS_bind (kI C (fun x hx=>da x (cp.mem_iff.mp hx)) (i:=pd.size - 2) (lo:=lo) (by lia) (by lia) ch fun d pd' g' dp od dc _=>?_)
              exact wpS_pure ⟨rfl,d,pd',g',rfl,dp.trans cp,dc,ss.ext fun j j1 _=>od j j1⟩
          · rw [if_neg pz]
            exact wpS_pure ⟨rfl,c,pd,g,rfl,cp,ch,ss⟩
    clear_value jp
    refine f_ (fun y=>?_) (fun y=>?_)
    · refine wpS_bind (wpS_lift (wpAny_rule ⟨rfl,?_⟩))
      have cz:=sc.size
      refine wpS_bind (lQ C (a:=c) (lo:=lo) (n:=min (a.size - lo) (minRun' a.size a.size 0)) (ok:=n) (fun x hx=>da x (p1.mem_iff.mp (sc.perm.mem_iff.mp hx))) n1 (by have y':n < minRun' a.size a.size 0:=y;lia) (by lia) ss fun d sd ds=>?_)
      refine aZ (by simp) ?_
      exact J _ d (by have y':n < minRun' a.size a.size 0:=y;lia) (by lia) (sc.trans ⟨sd.perm,fun j hj=>sd.out j (by lia)⟩) ds
    · exact J n c n1 n2 sc ss
  case s3=>
    rintro c st' ⟨b,pd,g,rfl,p1,rfl,p2⟩
    refine wpS_bind (wpS_mono (wpS_forRange (I:=fun x r st'=>r=(none,())∧∃c pd g,st'=SortSt.mk' κ c pd g none∧c.toList.Perm a.toList∧Ch O key c pd.toList 0 a.size∧(pd.size+x≤a.size∨pd.size≤1))
      (Q:=fun r st'=>r=(none,())∧∃c pd g,st'=SortSt.mk' κ c pd g none∧c.toList.Perm a.toList∧Ch O key c pd.toList 0 a.size∧pd.size≤1) ?t1 ?t2 ⟨rfl,b,pd,g,rfl,p1,p2, .inl (by have:=p2.le;simp at this;assumption)⟩) ?t3)
    case t2=>
      rintro r st' ⟨rfl,c,pd,g,rfl,cp,ch,hz⟩
      refine ⟨rfl,c,pd,g,rfl,cp,ch,?_⟩
      rcases hz with hz | hz
      · have hz':pd.size+max 0 a.size≤a.size:=hz
        lia
      · exact hz
    case t1=>
      rintro y r st' - - ⟨rfl,c,pd,g,rfl,cp,ch,hz⟩
      refine wpS_bind (wpS_get ?_)
      refine f_ (fun z=>?_) (fun z=>?_)
      · exact wpS_pure ⟨rfl,c,pd,g,rfl,cp,ch,z⟩
      · have z':1 < pd.size:=Nat.lt_of_not_le z
        have cz:c.size=a.size:=by have:=cp.length_eq;simpa using this
        extract_lets
        refine wpS_bind (rP fun i hi=>?_)
        refine kI C (fun x hx=>da x (cp.mem_iff.mp hx)) (i:=i) (lo:=a.size) ?_ (by exact Nat.le_of_eq (Eq.symm ‹_›)) ch fun d pd' g' dp od dc dz=>?_
        · rcases hi with rfl | rfl
          · show pd.size - 2 - 1+1 < pd.size
            lia
          · show pd.size - 2+1 < pd.size
            lia
        · exact wpS_pure ⟨rfl,d,pd',g',rfl,dp.trans cp,dc,by lia⟩
    case t3=>
      rintro r st' ⟨rfl,c,pd,g,rfl,cp,ch,hz⟩
      refine wpS_pure (h c pd g cp ?_)
      obtain ⟨l⟩:=pd
      match l,hz,ch with
      | [],_,ch=>
        have:0=a.size:=ch
        rw [←this]
        exact fun i j _ _ q=>by lia
      | [t],_,ch=>
        obtain ⟨_,_,s1,e⟩:=ch
        have e':0+t.2.1=a.size:=e
        rw [e'] at s1
        exact s1
      | _::_::_,hz,_=>simp at hz
end
end NhLS
namespace NhSG
set_option autoImplicit false
open PySem PyProof PyProof.Rows PySem.W
abbrev Ky:=Int×List Nat
def nU (hp:Heap):Value→Option Ky
  | .ref a=>(hp.get? a).bind fun o=>match o.data with
    | .seq xs _=>match xs.toList with
      | [.int n _, .str z _]=>some (n,z.cps.toList)
      | _=>none
    | _=>none
  | _=>none
theorem tN {hp:Heap} {a:Addr} {o:Obj} {xs:Array Value} {k:Nat} {n:Int} {t u:Tok} {z:Str} (ho:hp.get? a=some o) (hd:o.data= .seq xs k) (hx:xs.toList=[.int n t, .str z u]):nU hp (.ref a)=some (n,z.cps.toList):=by
  simp [nU,ho,hd,hx]
end NhSG
namespace NhSG
set_option autoImplicit false
open PySem PyProof PyProof.Rows PySem.W
def Keep (h h':Heap):Prop:=∀b o,h.get? b=some o→h'.get? b=some o
theorem Keep.refl (h:Heap):Keep h h:=fun _ _ e=>e
theorem Keep.trans {h h1 h2:Heap} (a:Keep h h1) (b:Keep h1 h2):Keep h h2:=fun c o e=>b c o (a c o e)
def IsKy (hp:Heap) (v:Value) (y:Ky):Prop:=∃c o xs k t z u,v= .ref c∧hp.get? c=some o∧o.cls= .type "tuple"∧o.data= .seq xs k∧xs.toList=[.int y.1 t, .str z u]∧y.2=z.cps.toList
theorem IsKy.keep {h h':Heap} {v:Value} {y:Ky} (a:IsKy h v y) (k:Keep h h'):IsKy h' v y:=by
  obtain ⟨c,o,xs,n,t,z,u,e,ho,r⟩:=a
  exact ⟨c,o,xs,n,t,z,u,e,k c o ho,r⟩
theorem IsKy.key {h:Heap} {v:Value} {y:Ky} (a:IsKy h v y):nU h v=some y:=by
  obtain ⟨c,o,xs,n,t,z,u,rfl,ho,hc,hd,hx,e⟩:=a
  rw [tN ho hd hx,←e]
def KA (hp:Heap):List Value→List Ky→Prop
  | [],[]=>True
  | v::vs,y::ys=>IsKy hp v y∧KA hp vs ys
  | _,_=>False
theorem KA.keep {h h':Heap} (k:Keep h h'):∀{vs:List Value} {ys:List Ky},KA h vs ys→KA h' vs ys
  | [],[],_=>trivial
  | v::vs,y::ys,a=>⟨a.1.keep k,KA.keep k a.2⟩
  | [],_::_,a=>a.elim
  | _::_,[],a=>a.elim
theorem KA.len {h:Heap}:∀{vs:List Value} {ys:List Ky},KA h vs ys→vs.length=ys.length
  | [],[],_=>rfl
  | v::vs,y::ys,a=>by simp [KA.len a.2]
  | [],_::_,a=>a.elim
  | _::_,[],a=>a.elim
theorem KA.snoc {h:Heap} {v:Value} {y:Ky} (b:IsKy h v y):∀{vs:List Value} {ys:List Ky},KA h vs ys→KA h (vs++[v]) (ys++[y])
  | [],[],_=>⟨b,trivial⟩
  | _::_,_::_,a=>⟨a.1,KA.snoc b a.2⟩
  | [],_::_,a=>a.elim
  | _::_,[],a=>a.elim
theorem KA.tups {h:Heap}:∀{vs:List Value} {ys:List Ky},KA h vs ys→∃fs,KatTups h vs fs∧(∀f∈fs,∃n t,f= .int n t)∧fs.length=vs.length
  | [],[],_=>⟨[],trivial,(fun _ z=>by cases z),rfl⟩
  | v::vs,y::ys,a=>by
    obtain ⟨fs,t,hf,hl⟩:=KA.tups a.2
    obtain ⟨c,o,xs,n,tk,z,u,rfl,ho,hc,hd,hx,e⟩:=a.1
    refine ⟨.int y.1 tk::fs,KatTups.cons ho hc hd ?_ t,fun f hm=>?_,by simp [hl]⟩
    · rw [←Array.getElem?_toList,hx]
      rfl
    · rcases List.mem_cons.mp hm with rfl | hm
      · exact ⟨_,_,rfl⟩
      · exact hf f hm
  | [],_::_,a=>a.elim
  | _::_,[],a=>a.elim
theorem KA.at {h:Heap}:∀{ks:List Value} {ys:List Ky} {i:Nat},KA h ks ys→i < ks.length→nU h (ks.getD i Value.none)=some (ys.getD i (0,[]))
  | k::ks,y::ys,0,a,_=>a.1.key
  | k::ks,y::ys,i+1,a,hi=>by
    have:=KA.at (i:=i) a.2 (by simpa using hi)
    simpa using this
  | [],_,_,_,hi=>by simp at hi
  | _::_,[],_,a,_=>a.elim
@[reducible] def xK (h:Heap) (p:Keyed):Ky:=(nU h p.1).getD (0,[])
theorem KA.zip {h:Heap}:∀{ks:List Value} {ys:List Ky} {vs:List Value},KA h ks ys→(ks.zip vs).map (fun p=>(xK h p,p.2))=ys.zip vs
  | [],[],_,_=>by simp
  | k::ks,y::ys,[],_=>by simp
  | k::ks,y::ys,v::vs,a=>by
    simp only [List.zip_cons_cons,List.map_cons]
    rw [KA.zip a.2]
    congr 1
    show ((nU h k).getD (0,[]),v)=(y,v)
    rw [a.1.key]
    rfl
  | [],_::_,_,a=>a.elim
  | _::_,[],_,a=>a.elim
theorem KA.dom {h:Heap} {vs:List Value}:∀{ks:List Value} {ys:List Ky},KA h ks ys→∀p∈ks.zip vs,∃y,nU h p.1=some y:=fun {ks ys} a p hp=>by
  have hk:p.1∈ks:=(List.of_mem_zip hp).1
  clear hp
  induction ks generalizing ys with
  | nil=>cases hk
  | cons k ks ih=>cases ys with
    | nil=>exact a.elim
    | cons y ys=>
      rcases List.mem_cons.mp hk with e | hk
      · rw [e];exact ⟨y,a.1.key⟩
      · exact ih a.2 hk
end NhSG
namespace NhSS
set_option autoImplicit false
open PySem PyProof PyProof.Rows
@[reducible] def tx (p:Keyed):List Nat:=(strOf p.1).cps.toList
def yb (p:Keyed):Prop:=∃x t,p.1= .str x t
def qd (ss:List Str) (out:Array Value):Prop:=∃zs,StrsAre out.toList zs∧zs.Perm ss∧sortedS zs=true
section
variable {prog:Program} {w:World} {A:Around} {E:Value→Shared→Prop} {s:Shared} {a:Addr} {vs:List Value} {ss:List Str} {n:Nat}
theorem vJ:NhLS.Cmp prog w A s oneType' strKind.toKeyOrd tx yb:=by
  constructor
  rintro E ⟨_,x2⟩ ⟨_,y2⟩ Q ⟨x,t,rfl⟩ ⟨y,u,rfl⟩ hq
  rw [keyLt'_oneType]
  exact strKind_oneLt prog w A E s (.str x t) (.str y u) x.cps.toList y.cps.toList rfl rfl hq
theorem og (hS:StrsAre vs ss):∀p∈vs.zip vs,yb p:=fun p hp=>hS.all _ (List.of_mem_zip hp).1
theorem lR (hS:StrsAre vs ss) {b:Array Keyed} (hp:b.toList.Perm (vs.zip vs)) (hs:NhLS.So strKind.toKeyOrd tx b 0 b.size):qd ss (b.map (·.2)):=by
  have at_:∀i,i < b.size→KK strKind b i=tx (NhLS.at' b i):=fun i hi=>by
    obtain ⟨x,t,e⟩:=og hS b[i] (hp.mem_iff.mp (by simp))
    rw [KK_str hi (x:=x) (t:=t) (q:=b[i].2) (Prod.ext e rfl)]
    simp [tx,NhLS.at',Array.getD,hi,e,strOf]
  refine sorted_out_str hS (Array.perm_iff_toList_perm.mpr (by rw [pairsOf_toList];exact hp)) fun i j hij hj=>?_
  have hz:(pairsOf vs).size=b.size:=by have:=hp.length_eq;rw [pairsOf_size];simp at this;omega
  rw [hz] at hj
  rw [at_ i (by omega),at_ j hj]
  exact hs.le (Nat.zero_le _) hij hj
theorem mJ {P:PySem.Fin→Shared→Prop} (ho:s.heap.get? a=some (seqObj "list" vs.toArray n)) (hS:StrsAre vs ss) (hn:vs.length < 65536)
    (h:∀h' out c,h'.get? a=some (seqObj "list" out c)→qd ss out→(∀b o,b≠a→s.heap.get? b=some o→h'.get? b=some o)→P (.done (.ret .none)) {s with heap:=h'}):
    wpAny (model prog w) A (Builtin.«list.sort» ⟨[.ref a],[]⟩) P E s:=by
  have big:∀k,k=vs.length→k≤sizeLine:=fun k e=>by rw [sizeLine_eq];omega
  have k0:=Heap.SameBut.update s.heap a (Obj.mapSeq fun _=>(#[]:Array Value))
  obtain ⟨c0,o0⟩:∃c,(s.heap.update a (Obj.mapSeq fun _=>(#[]:Array Value))).get? a=some (seqObj "list" #[] c):=⟨_,get?_update_seq ho fun _=>#[]⟩
  have o2:=Heap.get?_push_of_some (seqObj "list" (#[]:Array Value) 0) (Heap.get?_push_of_some (seqObj "tuple" vs.toArray 0) o0)
  have back:∀arr:Array Keyed,arr.toList.Perm (vs.zip vs)→NhLS.So strKind.toKeyOrd tx arr 0 arr.size→P (.done (.ret .none)) {s with heap:=(((s.heap.update a (Obj.mapSeq fun _=>(#[]:Array Value))).push (seqObj "tuple" vs.toArray 0)).push (seqObj "list" #[] 0)).update a (Obj.mapSeq fun _=>arr.map (·.2))}:=fun arr hp hs=>by
    have k1:=Heap.SameBut.update (((s.heap.update a (Obj.mapSeq fun _=>(#[]:Array Value))).push (seqObj "tuple" vs.toArray 0)).push (seqObj "list" #[] 0)) a (Obj.mapSeq fun _=>arr.map (·.2))
    exact h _ _ _ (get?_update_seq o2 fun _=>arr.map (·.2)) (lR hS hp hs) fun b o hb q=>(k1.2 b hb).trans (Heap.get?_push_of_some _ (Heap.get?_push_of_some _ ((k0.2 b hb).trans q)))
  rw [list_sort_plain]
  refine wpAny_bind (listItems_at ho rfl (wpAny_bind (listUpdate_at ho rfl ?_ (big _ (by simp)) (Nat.zero_le _))))
  refine wpAny_bind (seqEpoch_at o0 rfl (wpAny_bind (wpAny_newTuple ?_ (big _ (by simp)))))
  refine wpAny_bind (wpAny_newList (wpAny_holding ?_) (Nat.zero_le _))
  dsimp only
  by_cases many:2≤vs.length
  · obtain ⟨u,v,r,e⟩:∃u v r,vs=u::v::r:=by
      rcases vs with _ | ⟨u,_ | ⟨v,r⟩⟩
      · cases many
      · simp at many
      · exact ⟨u,v,r,rfl⟩
    rw [if_neg (by simpa using many),if_neg (by simpa using many),show keyKind' vs.toArray=pure oneType' by rw [e];exact keyKind_strs (by rw [←e];exact hS)]
    refine wpAny_bind (wpAny_pure (wpAny_bind (wpAny_mono (NhLS.jT (E:=E) (a:=vs.toArray.zip vs.toArray) (g:=7) (vJ (prog:=prog) (w:=w) (A:=A) (s:=_))
      (Q:=fun _ st=>∃b pd g,st=SortSt.mk' oneType' b pd g none∧b.toList.Perm (vs.zip vs)∧NhLS.So strKind.toKeyOrd tx b 0 b.size) (by simpa using og hS)
      fun b pd g hp hs=>⟨b,pd,g,rfl,by simpa using hp,by have:=hp.length_eq;simp only [Array.length_toList] at this;rw [this];exact hs⟩) ?_ fun _ _ e=>e)))
    rintro ⟨⟨⟩,st⟩ s' ⟨rfl,b,pd,g,e,hp,hs⟩
    dsimp only at e
    subst e
    have hz:b.size=vs.length:=by have:=hp.length_eq;simpa using this
    dsimp only
    refine wpAny_bind (seqEpoch_at o2 rfl (wpAny_bind (listUpdate_at o2 rfl ?_ (Nat.zero_le _) (by have:=big _ hz;show (b.map _).size≤_;rw [Array.size_map];omega))))
    rw [if_neg (by simp)]
    exact wpAny_pure (back b hp hs)
  · rw [if_pos (by simp;omega),if_pos (by simp;omega)]
    refine wpAny_bind (wpAny_pure ?_)
    rw [StateT.run_pure]
    refine wpAny_bind (wpAny_pure ?_)
    dsimp only
    refine wpAny_bind (seqEpoch_at o2 rfl (wpAny_bind (listUpdate_at o2 rfl ?_ (Nat.zero_le _) (by show ((vs.toArray.zip vs.toArray).map _).size≤_;rw [sizeLine_eq];simp;omega))))
    rw [if_neg (by simp)]
    refine wpAny_pure (back (vs.toArray.zip vs.toArray) (by simp) fun i j _ hij hj=>?_)
    simp at hj
    omega
end
end NhSS
namespace NhSI
set_option autoImplicit false
open PySem PyProof PyProof.Rows PL
open PySem.SeqAt
def jc:Value→Int
  | .int i _=>i
  | _=>0
def oX (o:Obj):List Int:=match o.data with
  | .seq xs _=>xs.toList.map jc
  | _=>[]
def hM (hp:Heap):Value→List Int
  | .ref a=>match hp.get? a with
    | some o=>oX o
    | none=>[]
  | _=>[]
def IsI (hp:Heap) (v:Value):Prop:=∃a items,v= .ref a∧hp.IsList a items∧∀j (h:j < items.size),∃i t,items[j]= .int i t
@[reducible] def tO:KeyOrd where
  α:=List Int
  blt a b:=decide (a < b)
  irrefl a:=by simpa using List.lt_irrefl a
  trans a b c h1 h2:=by simp only [decide_eq_true_eq] at *;exact List.lt_trans h1 h2
  negTrans a b c h:=by
    simp only [decide_eq_true_eq] at *
    by_cases hab:a < b
    · exact .inl hab
    · exact .inr (List.lt_of_le_of_lt (List.not_lt.mp hab) h)
  total a b h1 h2:=by simp only [decide_eq_false_iff_not] at *;exact List.le_antisymm (List.not_lt.mp h2) (List.not_lt.mp h1)
theorem rQ:∀(xs ys:List Int),fU (fun j=>decide (xs.getD j 0=ys.getD j 0)) (fun j=>decide (xs.getD j 0 < ys.getD j 0)) (decide (xs.length < ys.length)) (List.range (min xs.length ys.length))=decide (xs < ys)
  | [],[]=>by simp [fU]
  | [],y::ys=>by simp [fU]
  | x::xs,[]=>by simp [fU]
  | x::xs,y::ys=>by
    have ih:=rQ xs ys
    have e:min (x::xs).length (y::ys).length=min xs.length ys.length+1:=by simp only [List.length_cons];omega
    rw [e,List.range_succ_eq_map,fU]
    have sh:∀(l:List Nat),fU (fun j=>decide ((x::xs).getD j 0=(y::ys).getD j 0)) (fun j=>decide ((x::xs).getD j 0 < (y::ys).getD j 0)) (decide ((x::xs).length < (y::ys).length)) (l.map Nat.succ)=fU (fun j=>decide (xs.getD j 0=ys.getD j 0)) (fun j=>decide (xs.getD j 0 < ys.getD j 0)) (decide (xs.length < ys.length)) l:=fun l=>by
      induction l with
      | nil=>simp [fU]
      | cons k l il=>
        simp only [List.map_cons,fU,il]
        simp [List.getD_eq_getElem?_getD]
    by_cases h:x=y
    · subst h
      simp only [List.getD_cons_zero,decide_true,if_true]
      rw [sh,ih,decide_eq_decide,List.cons_lt_cons_self]
    · simp only [List.getD_cons_zero,h,decide_false,Bool.false_eq_true,if_false]
      rw [decide_eq_decide,List.cons_lt_cons_iff]
      simp [h]
section
variable {prog:Program} {w:World} {A:Around} {E:Value→Shared→Prop} {s:Shared}
theorem lS {l:Addr} {items:Array Value} (h:s.heap.IsList l items):hM s.heap (.ref l)=items.toList.map jc:=by
  obtain ⟨o,ho,_,n,hd⟩:=h
  simp only [hM,ho,oX,hd]
theorem vJ (hu:A.units < cLine):NhLS.Cmp prog w A s oneType' tO (fun p=>hM s.heap p.1) (fun p=>IsI s.heap p.1):=by
  constructor
  rintro E ⟨_,x2⟩ ⟨_,y2⟩ Q ⟨l,items,rfl,hl,il⟩ ⟨b,items2,rfl,hb,ib⟩ hq
  simp only [lS hl,lS hb] at hq
  have g1:∀j (h:j < items.size),items[j]= .int ((items.toList.map jc).getD j 0) (match items[j] with | .int _ t=>t | _=>0):=fun j h=>by
    obtain ⟨i,t,e⟩:=il j h
    simp [List.getD_eq_getElem?_getD,h,e,jc]
  have g2:∀j (h:j < items2.size),items2[j]= .int ((items2.toList.map jc).getD j 0) (match items2[j] with | .int _ t=>t | _=>0):=fun j h=>by
    obtain ⟨i,t,e⟩:=ib j h
    simp [List.getD_eq_getElem?_getD,h,e,jc]
  rw [keyLt'_oneType,oneLt'_eq]
  simp only [if_true]
  refine wpAny_bind (wpAny_cRoomFor hu ?_)
  obtain ⟨⟨cls,dd,data,sl⟩,ho,hc,n,hd⟩:=id hl
  obtain ⟨⟨cls2,dd2,data2,sl2⟩,ho2,hc2,n2,kq⟩:=id hb
  simp only at hc hd hc2 kq
  subst hc hd hc2 kq
  refine wpAny_bind (wpAny_callSpecialIfBound?_slot (T:="list") ⟨_,ho,rfl⟩ F.slot_list_lt (call_meets F.slot_list_lt ⟨_,ho,rfl⟩ F.entry_list_lt (F.args_list_lt_2 _ _)
    (kG l b items items2 n n2 dd dd2 sl sl2 (fun j=>decide ((items.toList.map jc).getD j 0=(items2.toList.map jc).getD j 0)) fun j=>decide ((items.toList.map jc).getD j 0 < (items2.toList.map jc).getD j 0)) ⟨ho,ho2,fun j h1 h2=>?_,fun j h1 h2 _=>?_,?_⟩))
  · rw [g1 j h1,g2 j h2]
    exact (MeetsSeq.EqGives.int _ _ _ _).at _ _
  · rw [g1 j h1,g2 j h2]
    exact RcLtAt.ints _ _ _ _
  · have e:=rQ (items.toList.map jc) (items2.toList.map jc)
    simp only [List.length_map,Array.length_toList] at e
    rw [e]
    exact wpAny_truthy_bool hq
def qd (hp:Heap) (vs:List Value) (out:Array Value):Prop:=out.toList.Perm vs∧out.toList.Pairwise fun x y=>¬hM hp y < hM hp x
variable {a:Addr} {vs:List Value} {n:Nat}
theorem IsI.keep {hp h':Heap} {v:Value} (h:IsI hp v) (k:∀b o,v= .ref b→hp.get? b=some o→h'.get? b=some o):IsI h' v∧hM h' v=hM hp v:=by
  obtain ⟨l,items,rfl,⟨o,ho,hc,q⟩,i⟩:=h
  have e:=k l o rfl ho
  exact ⟨⟨l,items,rfl,⟨o,e,hc,q⟩,i⟩,by simp only [hM,e,ho]⟩
theorem lR {hp:Heap} {b:Array Keyed} (hp':b.toList.Perm (vs.zip vs)) (hs:NhLS.So tO (fun p=>hM hp p.1) b 0 b.size):qd hp vs (b.map (·.2)):=by
  have same:∀p∈b.toList,p.1=p.2:=fun p hp=>by
    have:=hp'.mem_iff.mp hp
    rw [List.zip_eq_zipWith] at this
    obtain ⟨i,hi,e⟩:=List.mem_iff_getElem.mp this
    simp at e
    rw [←e]
  refine ⟨?_,?_⟩
  · have:=hp'.map (·.2)
    rw [List.map_snd_zip (Nat.le_refl _)] at this
    simpa using this
  · rw [Array.toList_map,List.pairwise_map]
    refine List.pairwise_iff_getElem.mpr fun i j hi hj hij=>?_
    have q:=hs.le (Nat.zero_le _) (Nat.le_of_lt hij) (by simpa using hj)
    have e1:NhLS.at' b i=b.toList[i]:=by simp [NhLS.at',Array.getD,show i < b.size by simpa using hi]
    have e2:NhLS.at' b j=b.toList[j]:=by simp [NhLS.at',Array.getD,show j < b.size by simpa using hj]
    rw [e1,e2] at q
    rw [←same _ (List.getElem_mem hi),←same _ (List.getElem_mem hj)]
    simpa [NhLS.Le,KeyOrd.kle] using q
theorem mJ {P:PySem.Fin→Shared→Prop} (ho:s.heap.get? a=some (seqObj "list" vs.toArray n)) (hI:∀v∈vs,IsI s.heap v∧v≠ .ref a) (hu:A.units < cLine) (hn:vs.length < 65536)
    (h:∀h' out c,h'.get? a=some (seqObj "list" out c)→qd s.heap vs out→(∀b o,b≠a→s.heap.get? b=some o→h'.get? b=some o)→P (.done (.ret .none)) {s with heap:=h'}):
    wpAny (model prog w) A (Builtin.«list.sort» ⟨[.ref a],[]⟩) P E s:=by
  have big:∀k,k=vs.length→k≤sizeLine:=fun k e=>by rw [sizeLine_eq];omega
  have k0:=Heap.SameBut.update s.heap a (Obj.mapSeq fun _=>(#[]:Array Value))
  obtain ⟨c0,o0⟩:∃c,(s.heap.update a (Obj.mapSeq fun _=>(#[]:Array Value))).get? a=some (seqObj "list" #[] c):=⟨_,get?_update_seq ho fun _=>#[]⟩
  have o2:=Heap.get?_push_of_some (seqObj "list" (#[]:Array Value) 0) (Heap.get?_push_of_some (seqObj "tuple" vs.toArray 0) o0)
  generalize e3:((s.heap.update a (Obj.mapSeq fun _=>(#[]:Array Value))).push (seqObj "tuple" vs.toArray 0)).push (seqObj "list" #[] 0)=h3 at o2
  have old:∀b o,b≠a→s.heap.get? b=some o→h3.get? b=some o:=fun b o hb q=>by
    rw [←e3]
    exact Heap.get?_push_of_some _ (Heap.get?_push_of_some _ ((k0.2 b hb).trans q))
  have I3:∀v∈vs,IsI h3 v∧hM h3 v=hM s.heap v:=fun v hv=>(hI v hv).1.keep fun b o e q=>old b o (fun z=>(hI v hv).2 (by rw [e,z])) q
  have back:∀arr:Array Keyed,arr.toList.Perm (vs.zip vs)→NhLS.So tO (fun p=>hM h3 p.1) arr 0 arr.size→P (.done (.ret .none)) {s with heap:=h3.update a (Obj.mapSeq fun _=>arr.map (·.2))}:=fun arr hp hs=>by
    have k1:=Heap.SameBut.update h3 a (Obj.mapSeq fun _=>arr.map (·.2))
    obtain ⟨t1,t2⟩:=lR hp hs
    refine h _ _ _ (get?_update_seq o2 fun _=>arr.map (·.2)) ⟨t1,t2.imp_of_mem fun {x y} hx hy z=>?_⟩ fun b o hb q=>(k1.2 b hb).trans (old b o hb q)
    rw [←(I3 x (t1.mem_iff.mp hx)).2,←(I3 y (t1.mem_iff.mp hy)).2]
    exact z
  rw [list_sort_plain]
  refine wpAny_bind (listItems_at ho rfl (wpAny_bind (listUpdate_at ho rfl ?_ (big _ (by simp)) (Nat.zero_le _))))
  refine wpAny_bind (seqEpoch_at o0 rfl (wpAny_bind (wpAny_newTuple ?_ (big _ (by simp)))))
  refine wpAny_bind (wpAny_newList (wpAny_holding ?_) (Nat.zero_le _))
  dsimp only
  have e3':((s.heap.update a (Obj.mapSeq fun _=>(#[]:Array Value))).push {cls:= .type "tuple",data:= .seq vs.toArray}).push {cls:= .type "list",data:= .seq (List.toArray [])}=h3:=e3
  rw [e3']
  by_cases many:2≤vs.length
  · rw [if_neg (by simpa using many),if_neg (by simpa using many)]
    refine wpAny_bind (PySem.W.kas_kind (T:= .type "list") many (fun v hv=>?_) (by decide) (by decide) ?_)
    · obtain ⟨l,items,rfl,⟨o,ho',hc,q⟩,i⟩:=(I3 v hv).1
      rw [←hc]
      exact (PySem.W.Looks.ld ho').andThen .now
    refine (wpAny_bind (wpAny_mono (NhLS.jT (E:=E) (a:=vs.toArray.zip vs.toArray) (g:=7) (vJ (prog:=prog) (w:=w) (A:=A) (s:=_) hu)
      (Q:=fun _ st=>∃b pd g,st=SortSt.mk' oneType' b pd g none∧b.toList.Perm (vs.zip vs)∧NhLS.So tO (fun p=>hM h3 p.1) b 0 b.size) (fun p hp=>(I3 p.1 (by have:=List.of_mem_zip (a:=p.1) (b:=p.2) (by simpa using hp);exact this.1)).1)
      fun b pd g hp hs=>⟨b,pd,g,rfl,by simpa using hp,by have:=hp.length_eq;simp only [Array.length_toList] at this;rw [this];exact hs⟩) ?_ fun _ _ e=>e))
    rintro ⟨⟨⟩,st⟩ s' ⟨rfl,b,pd,g,e,hp,hs⟩
    dsimp only at e
    subst e
    have hz:b.size=vs.length:=by have:=hp.length_eq;simpa using this
    dsimp only
    refine wpAny_bind (seqEpoch_at o2 rfl (wpAny_bind (listUpdate_at o2 rfl ?_ (Nat.zero_le _) (by have:=big _ hz;show (b.map _).size≤_;rw [Array.size_map];omega))))
    rw [if_neg (by simp)]
    exact wpAny_pure (back b hp hs)
  · rw [if_pos (by simp;omega),if_pos (by simp;omega)]
    refine wpAny_bind (wpAny_pure ?_)
    rw [StateT.run_pure]
    refine wpAny_bind (wpAny_pure ?_)
    dsimp only
    refine wpAny_bind (seqEpoch_at o2 rfl (wpAny_bind (listUpdate_at o2 rfl ?_ (Nat.zero_le _) (by show ((vs.toArray.zip vs.toArray).map _).size≤_;rw [sizeLine_eq];simp;omega))))
    rw [if_neg (by simp)]
    refine wpAny_pure (back (vs.toArray.zip vs.toArray) (by simp) fun i j _ hij hj=>?_)
    simp at hj
    omega
theorem lT {l:Addr} {Q:Value→Shared→Prop} (hl:s.heap.IsList l vs.toArray) (hI:∀v∈vs,IsI s.heap v) (hu:A.units+8 < cLine) (hn:vs.length < 65536)
    (h:∀h' out c,h'.get? (s.heap.objs.size+1)=some (seqObj "list" out c)→qd s.heap vs out→NhSG.Keep s.heap h'→Q (.ref (s.heap.objs.size+1)) {s with heap:=h'}):
    wpAny (model prog w) A (call (.builtin "sorted") [.ref l]) Q E s:=by
  have sz:((s.heap.push (seqObj "list" #[] 0)).update s.heap.objs.size (Obj.mapSeq (· ++vs.toArray))).objs.size=s.heap.objs.size+1:=by rw [Heap.size_update,size_push']
  have k0:=Heap.SameBut.update (s.heap.push (seqObj "list" #[] 0)) s.heap.objs.size (Obj.mapSeq (· ++vs.toArray))
  have nV:=Heap.get?_push_size ((s.heap.push (seqObj "list" #[] 0)).update s.heap.objs.size (Obj.mapSeq (· ++vs.toArray))) (o:=seqObj "list" vs.toArray 0) rfl
  rw [sz] at nV
  have old:∀b o,s.heap.get? b=some o→(((s.heap.push (seqObj "list" #[] 0)).update s.heap.objs.size (Obj.mapSeq (· ++vs.toArray))).push (seqObj "list" vs.toArray 0)).get? b=some o:=fun b o q=>Heap.get?_push_of_some _ ((k0.2 b (Nat.ne_of_lt (Heap.lt_size q))).trans (Heap.get?_push_of_some _ q))
  have J:∀v∈vs,IsI (((s.heap.push (seqObj "list" #[] 0)).update s.heap.objs.size (Obj.mapSeq (· ++vs.toArray))).push (seqObj "list" vs.toArray 0)) v∧hM (((s.heap.push (seqObj "list" #[] 0)).update s.heap.objs.size (Obj.mapSeq (· ++vs.toArray))).push (seqObj "list" vs.toArray 0)) v=hM s.heap v:=fun v hv=>(hI v hv).keep fun b o _ q=>old b o q
  refine Calls.call_function_entry kind_sorted plain_sorted entry_sorted (args_sorted1 _) ?_
  unfold Builtin.«sorted»
  refine wpAny_bind (m:=checkCount "sorted" 1 1 _) (wpAny_pure (wpAny_bind (collect_list hl (wpAny_bind (wpAny_newList ?_ (by rw [sizeLine_eq];omega))))))
  rw [sz]
  refine wpAny_bind (wpAny_holding (wpAny_call_entry slot_list_sort ⟨_,nV,rfl⟩ entry_list_sort (mJ nV (fun v hv=>⟨(J v hv).1,fun z=>?_⟩) ?_ hn fun h' out c q1 q2 q3=>⟨_,rfl,wpAny_pure ⟨_,rfl,?_⟩⟩) (args_list_sort _)))
  · obtain ⟨b,items,rfl,⟨o,ho,_⟩,_⟩:=hI v hv
    have q:=Heap.lt_size ho
    injection z with z
    rw [z] at q
    exact Nat.lt_irrefl _ (Nat.lt_trans (Nat.lt_succ_self _) q)
  · show _ < cLine
    exact Nat.lt_of_le_of_lt (by show _≤A.units+8;simp [Around.under]) hu
  · refine h h' out c q1 ⟨q2.1,q2.2.imp_of_mem fun {x y} hx hy z=>?_⟩ fun b o q=>q3 b o (Nat.ne_of_lt (Nat.lt_succ_of_lt (Heap.lt_size q))) (old b o q)
    rw [←(J x (q2.1.mem_iff.mp hx)).2,←(J y (q2.1.mem_iff.mp hy)).2]
    exact z
end
end NhSI
namespace PL
open PySem L2 Nh
abbrev Bw:=Str×Int×List Int
def cE (i:Nat) (a:Str) (n:Int) (is:List Int) (st:List Bw×List (List Int)):List Bw×List (List Int):=
  if n=0 then (st.1,st.2++[is++[(i:Int)]]) else (st.1++[(a,n,is++[(i:Int)])],st.2)
def eM (i:Nat) (p:Str×Int) (st:List Bw×List (List Int)):List Bw×List (List Int):=match st.1.getLast? with
  | some (a,n,is)=>if a=p.1 then cE i p.1 (n+p.2) is (st.1.dropLast,st.2) else cE i p.1 p.2 [] st
  | none=>cE i p.1 p.2 [] st
def aD:Nat→List (Str×Int)→List Bw×List (List Int)→List Bw×List (List Int)
  | _,[],st=>st
  | i,p::c,st=>aD (i+1) c (eM i p st)
section
variable {H0 H:Hp} {W L p T:Addr} {ws:List (Addr×Addr×Bw)} {cs:List (Addr×List Int)} {is:List Int}
structure BI (H0 H:Hp) (W L:Addr) (ws:List (Addr×Addr×Bw)) (cs:List (Addr×List Int)):Prop where
  same:Same H0 H
  w0:H0 W=none
  l0:H0 L=none
  wl:W≠L
  hw:H W=some (.lst (ws.map fun x=>V.ref x.1))
  hl:H L=some (.lst (cs.map fun x=>V.ref x.1))
  tw:∀x∈ws,H x.1=some (.tup [.str x.2.2.1, .int x.2.2.2.1, .ref x.2.1])∧H x.2.1=some (.lst (x.2.2.2.2.map V.int))∧H0 x.2.1=none∧x.2.1≠W∧x.2.1≠L
  tc:∀x∈cs,H x.1=some (.lst (x.2.map V.int))∧H0 x.1=none∧x.1≠W∧x.1≠L
  nd:(ws.map (·.2.1)++cs.map (·.1)).Nodup
structure BM (H0 H:Hp) (W L:Addr) (ws:List (Addr×Addr×Bw)) (cs:List (Addr×List Int)) (p:Addr) (is:List Int):Prop where
  b:BI H0 H W L ws cs
  at_:H p=some (.lst (is.map V.int))
  p0:H0 p=none
  pw:p≠W
  pl:p≠L
  nw:p∉ws.map (·.2.1)
  nc:p∉cs.map (·.1)
theorem lU {o:HO} (s:Same H0 H) (h:H0 p=none):Same H0 (upd H p o):=fun b q e=>by
  rw [ai (fun z=>by subst z;rw [h] at e;cases e)]
  exact s b q e
theorem BI.grow {H':Hp} (h:BI H0 H W L ws cs) (g:Same H H'):BI H0 H' W L ws cs:=
  ⟨fun b o e=>g b o (h.same b o e),h.w0,h.l0,h.wl,g _ _ h.hw,g _ _ h.hl,fun x hx=>let ⟨a,b,c⟩:=h.tw x hx;⟨g _ _ a,g _ _ b,c⟩,fun x hx=>let ⟨a,c⟩:=h.tc x hx;⟨g _ _ a,c⟩,h.nd⟩
theorem BI.fresh (h:BI H0 H W L ws cs) (hp:H p=none):BM H0 (upd H p (.lst [])) W L ws cs p []:=by
  have ne:∀{b:Addr} {o:HO},H b=some o→p≠b:=fun e z=>by subst z;rw [hp] at e;cases e
  refine ⟨h.grow (bR hp _),aA,?_,ne h.hw,ne h.hl,fun z=>?_,fun z=>?_⟩
  · cases q:H0 p with
    | none=>rfl
    | some o=>have:=h.same p o q;rw [hp] at this;cases this
  · obtain ⟨x,hx,e⟩:=List.mem_map.mp z
    exact ne (h.tw x hx).2.1 e.symm
  · obtain ⟨x,hx,e⟩:=List.mem_map.mp z
    exact ne (h.tc x hx).1 e.symm
theorem BI.at_ {o:HO} (h:BI H0 H W L ws cs) (h0:H0 p=none) (hl:∃xs,H p=some (.lst xs)) (pw:p≠W) (pl:p≠L) (nw:p∉ws.map (·.2.1)) (nc:p∉cs.map (·.1)):BI H0 (upd H p o) W L ws cs:=by
  obtain ⟨xs,hl⟩:=hl
  refine ⟨lU h.same h0,h.w0,h.l0,h.wl,by rw [ai pw.symm];exact h.hw,by rw [ai pl.symm];exact h.hl,fun x hx=>?_,fun x hx=>?_,h.nd⟩
  · obtain ⟨a,b,c⟩:=h.tw x hx
    refine ⟨?_,?_,c⟩
    · rw [ai (fun z=>by rw [z,hl] at a;cases a)];exact a
    · rw [ai (fun z=>nw (List.mem_map.mpr ⟨x,hx,z⟩))];exact b
  · obtain ⟨a,c⟩:=h.tc x hx
    refine ⟨?_,c⟩
    rw [ai (fun z=>nc (List.mem_map.mpr ⟨x,hx,z⟩))];exact a
theorem BM.app (h:BM H0 H W L ws cs p is) (i:Int):BM H0 (upd H p (.lst (is.map V.int++[.int i]))) W L ws cs p (is++[i]):=
  ⟨h.b.at_ h.p0 ⟨_,h.at_⟩ h.pw h.pl h.nw h.nc,by rw [aA,List.map_append];rfl,h.p0,h.pw,h.pl,h.nw,h.nc⟩
theorem BI.setW (h:BI H0 H W L ws cs) {ws':List (Addr×Addr×Bw)} (hs:∀x∈ws',H x.1=some (.tup [.str x.2.2.1, .int x.2.2.2.1, .ref x.2.1])∧H x.2.1=some (.lst (x.2.2.2.2.map V.int))∧H0 x.2.1=none∧x.2.1≠W∧x.2.1≠L) (nd:(ws'.map (·.2.1)++cs.map (·.1)).Nodup):
    BI H0 (upd H W (.lst (ws'.map fun x=>V.ref x.1))) W L ws' cs:=by
  refine ⟨lU h.same h.w0,h.w0,h.l0,h.wl,aA,by rw [ai h.wl.symm];exact h.hl,fun x hx=>?_,fun x hx=>?_,nd⟩
  · obtain ⟨a,b,c,d,e⟩:=hs x hx
    exact ⟨by rw [ai (fun z=>by rw [z,h.hw] at a;cases a)];exact a,by rw [ai d];exact b,c,d,e⟩
  · obtain ⟨a,c,d,e⟩:=h.tc x hx
    exact ⟨by rw [ai d];exact a,c,d,e⟩
theorem BM.close (h:BM H0 H W L ws cs p is):BI H0 (upd H L (.lst (cs.map (fun x=>V.ref x.1)++[.ref p]))) W L ws (cs++[(p,is)]):=by
  refine ⟨lU h.b.same h.b.l0,h.b.w0,h.b.l0,h.b.wl,by rw [ai h.b.wl];exact h.b.hw,by rw [aA,List.map_append];rfl,fun x hx=>?_,fun x hx=>?_,?_⟩
  · obtain ⟨a,b,c,d,e⟩:=h.b.tw x hx
    exact ⟨by rw [ai (fun z=>by rw [z,h.b.hl] at a;cases a)];exact a,by rw [ai e];exact b,c,d,e⟩
  · rcases List.mem_append.mp hx with hx | hx
    · obtain ⟨a,c,d,e⟩:=h.b.tc x hx
      exact ⟨by rw [ai e];exact a,c,d,e⟩
    · rw [List.mem_singleton.mp hx]
      exact ⟨by rw [ai h.pl];exact h.at_,h.p0,h.pw,h.pl⟩
  · rw [List.map_append,←List.append_assoc]
    refine List.nodup_append.mpr ⟨h.b.nd,by simp,fun a ha b hb=>?_⟩
    rw [show b=p by simpa using hb]
    intro z
    subst z
    exact (List.mem_append.mp ha).elim h.nw h.nc
theorem BM.wait (h:BM H0 H W L ws cs p is) (a:Str) (n:Int) (hT:H T=none):BI H0 (upd (upd H T (.tup [.str a, .int n, .ref p])) W (.lst (ws.map (fun x=>V.ref x.1)++[.ref T]))) W L (ws++[(T,p,a,n,is)]) cs:=by
  have g:=bR hT (.tup [.str a, .int n, .ref p])
  have b:=h.b.grow g
  have q:=b.setW (ws':=ws++[(T,p,a,n,is)]) (fun x hx=>?_) ?_
  · rw [List.map_append] at q
    exact q
  · rcases List.mem_append.mp hx with hx | hx
    · exact b.tw x hx
    · rw [List.mem_singleton.mp hx]
      exact ⟨aA,g _ _ h.at_,h.p0,h.pw,h.pl⟩
  · rw [List.map_append,List.append_assoc]
    have nd:=List.nodup_append.mp h.b.nd
    refine List.nodup_append.mpr ⟨nd.1,?_,fun a ha b hb z=>?_⟩
    · show (p::cs.map (·.1)).Nodup
      exact List.nodup_cons.mpr ⟨h.nc,nd.2.1⟩
    · subst z
      rcases List.mem_cons.mp (show a∈p::cs.map (·.1) from hb) with e | e
      · subst e;exact h.nw ha
      · exact nd.2.2 a ha a e rfl
theorem BI.pop {x:Addr×Addr×Bw} (h:BI H0 H W L (ws++[x]) cs):BM H0 (upd H W (.lst (ws.map fun x=>V.ref x.1))) W L ws cs x.2.1 x.2.2.2.2:=by
  have nd:=h.nd
  rw [List.map_append,List.append_assoc] at nd
  have n1:=List.nodup_append.mp nd
  have n2:(x.2.1::cs.map (·.1)).Nodup:=n1.2.1
  have hx:=h.tw x (by simp)
  refine ⟨h.setW (fun y hy=>h.tw y (List.mem_append_left _ hy)) (List.nodup_append.mpr ⟨n1.1,(List.nodup_cons.mp n2).2,fun a ha b hb=>n1.2.2 a ha b (List.mem_cons_of_mem _ hb)⟩),?_,hx.2.2.1,hx.2.2.2.1,hx.2.2.2.2,fun z=>?_,(List.nodup_cons.mp n2).1⟩
  · rw [ai hx.2.2.2.1]
    exact hx.2.1
  · exact n1.2.2 _ z _ (List.mem_cons_self ..) rfl
end
theorem mK {K:PySem.W.Frag} {a:Addr} {xs:List V} {g:TG} {tb:TS} {D:Ends} {σ:L2.St} {H:Hp} (Pv:Nat→L2.St→Hp→Prop) (h0:Pv 0 σ H) (hl:∀i σ H,i≤xs.length→Pv i σ H→SqL K H a xs)
    (hs:∀i u σ H T,xs[i]? =some u→Pv i σ H→H T=none→g (.ref T) σ (upd H T (.tup [.int i,u])) fun σ2 H2=>tb {D with nx:=Pv (i+1),ct:=Pv (i+1),bk:=D.nx} σ2 H2) (hd:∀σ H,Pv xs.length σ H→D.nx σ H):
    ∃W:Nat→Nat→L2.St→Hp→Prop,(∃m,W 0 m σ H)∧∀i m σ H,W i m σ H→
      ((vX K a xs).stop i H∧D.nx σ H)∨((vX K a xs).go i H∧∃N:L2.St→Hp→Prop,(∀σ' H',N σ' H'→∃m',m' < m∧W (i+1) m' σ' H')∧∀x H',(vX K a xs).yld i H x H'→g x σ H' fun σ2 H2=>tb {D with nx:=N,ct:=N,bk:=D.nx} σ2 H2):=by
  refine ⟨fun i m σ H=>m=xs.length - i∧i≤xs.length∧Pv i σ H,⟨xs.length,by simp,Nat.zero_le _,h0⟩,?_⟩
  rintro i m σ H ⟨rfl,hi,p⟩
  have q:=hl i σ H hi p
  by_cases hlt:i < xs.length
  · refine .inr ⟨⟨q,hlt⟩,Pv (i+1),fun σ' H' p'=>⟨xs.length - (i+1),by omega,rfl,hlt,p'⟩,fun x H' y=>?_⟩
    obtain ⟨T,u,hT,hu,rfl,rfl⟩:=y
    exact hs i u σ _ T hu p hT
  · have e:i=xs.length:=by omega
    subst e
    exact .inl ⟨⟨q,rfl⟩,hd σ H p⟩
section
variable {K:PySem.W.Frag} {H0 H:Hp} {W L p:Addr} {ws:List (Addr×Addr×Bw)} {cs:List (Addr×List Int)} {is:List Int}
def uy (K:PySem.W.Frag):TS:=jw (oh (xc K "list" gq (fP 7) (iC (fP 3) j_))) (sw (ou (om w_ (fP 6) (tC (.int 0)))) (oh (xc K "list" gq (fP 2) (iC (fP 7) j_))) (oh (xc K "list" gq (fP 1) (iC (wm (iC (fP 5) (iC (fP 6) (iC (fP 7) j_)))) j_))))
theorem jU {D:Ends} {C:V} {i:Nat} {a:Str} {n:Int} {x4 x8:Option V} (h:BM H0 H W L ws cs p is) (z1:ws.length < sizeLine) (z2:cs.length < sizeLine) (z3:is.length < sizeLine)
    (q:∀x4 x5 x6 x7 x8 H' ws' cs',BI H0 H' W L ws' cs'→(ws'.map (·.2.2),cs'.map (·.2))=cE i a n is (ws.map (·.2.2),cs.map (·.2))→D.nx [some C,some (.ref W),some (.ref L),some (.int i),x4,x5,x6,x7,x8] H'):
    uy K D [some C,some (.ref W),some (.ref L),some (.int i),x4,some (.str a),some (.int n),some (.ref p),x8] H:=by
  have h1:=h.app i
  refine ⟨_,rfl, .inl ⟨rfl,_,SqL.of h.at_⟩,_,rfl,p,_,_,rfl,rfl,h.at_,by rw [List.length_map];exact z3,?_⟩
  refine ⟨_,rfl,rfl,_,rfl,?_⟩
  by_cases hn:n=0
  · subst hn
    refine (if_pos (by simp)).mpr ⟨_,rfl, .inl ⟨rfl,_,SqL.of h1.b.hl⟩,_,rfl,L,_,_,rfl,rfl,h1.b.hl,by rw [List.length_map];exact z2,?_⟩
    exact q _ _ _ _ _ _ _ _ h1.close (by simp [cE])
  · refine (if_neg (by simp [hn])).mpr ⟨_,rfl, .inl ⟨rfl,_,SqL.of h1.b.hw⟩,_,rfl,_,rfl,_,rfl,by show 3≤sizeLine;decide,fun T hT=>?_⟩
    refine ⟨W,_,_,rfl,rfl,bR hT _ _ _ h1.b.hw,by rw [List.length_map];exact z1,?_⟩
    exact q _ _ _ _ _ _ _ _ (h1.wait a n hT) (by simp [cE,hn])
def uz (K:PySem.W.Frag):TS:=jw (j8 (om (nt K) (fP 4) (tC (.int 0))) (gd 5)) (jw (j8 (om (nt K) (fP 4) (tC (.int 1))) (gd 6)) (jw (j8 (sH j_) (gd 7))
  (jw (sw (v5 (fun σ H Q=>fP 1 σ H fun x H'=>∃k,nh K x H' k∧Q k H') (ou (om w_ (om (nt K) (om (u0 K) (fP 1) (xR (rU fun i=> .int (-i)) (tC (.int 1)))) (tC (.int 0))) (fP 5))))
    (jw (j8 (wq K "list" wt (fP 1)) (gd 8)) (jw (j8 (om (sC fun i j=> .int (i+j)) (om (nt K) (fP 8) (tC (.int 1))) (fP 6)) (gd 6)) (j8 (om (nt K) (fP 8) (tC (.int 2))) (gd 7)))) qr) (uy K))))
theorem mL {D:Ends} {C:V} {i:Nat} {a:Str} {n:Int} {x5 x6 x7 x8:Option V} {pa:Addr} (h:BI H0 H W L ws cs) (hp:SqT K H pa [.str a, .int n]) (z1:ws.length < sizeLine) (z2:cs.length < sizeLine) (z3:∀x∈ws,x.2.2.2.2.length < sizeLine)
    (q:∀x4 x5 x6 x7 x8 H' ws' cs',BI H0 H' W L ws' cs'→(ws'.map (·.2.2),cs'.map (·.2))=eM i (a,n) (ws.map (·.2.2),cs.map (·.2))→D.nx [some C,some (.ref W),some (.ref L),some (.int i),x4,x5,x6,x7,x8] H'):
    uz K D [some C,some (.ref W),some (.ref L),some (.int i),some (.ref pa),x5,x6,x7,x8] H:=by
  refine ⟨_,rfl,pa,_,_,_,rfl,rfl,hp,rfl,?_⟩
  refine ⟨_,rfl,pa,_,_,_,rfl,rfl,hp,rfl,?_⟩
  refine ⟨by show 0≤sizeLine;exact Nat.zero_le _,fun p hpn=>?_⟩
  have h1:=h.fresh hpn
  rcases List.eq_nil_or_concat ws with e | ⟨ws',x,e⟩
  · subst e
    refine ⟨_,rfl,false, .inl ⟨_,SqL.of h1.b.hw,rfl⟩,(if_neg (by decide)).mpr ?_⟩
    refine (if_neg (by decide)).mpr ?_
    exact jU h1 z1 z2 (by rw [sizeLine_eq];decide) fun x4 x5 x6 x7 x8 H' ws' cs' b e=>q _ _ _ _ _ _ _ _ b (by rw [e];rfl)
  · rw [List.concat_eq_append] at e
    subst e
    have hx:=h1.b.tw x (by simp)
    refine ⟨_,rfl,true, .inl ⟨_,SqL.of h1.b.hw,by simp⟩,(if_pos rfl).mpr ?_⟩
    refine ⟨_,rfl,_,rfl,W,_,_,_,rfl,rfl,SqL.of h1.b.hw,by rw [List.map_append];exact aQ _ _,?_⟩
    refine ⟨x.1,_,_,_,rfl,rfl,SqT.of hx.1,rfl,_,rfl,rfl,_,rfl,?_⟩
    by_cases ha:x.2.2.1=a
    · refine (if_pos (by simp [ha])).mpr ?_
      have h2:=h1.b.pop
      refine ⟨_,rfl, .inl ⟨rfl,_,SqL.of h1.b.hw⟩,W,_, .ref x.1,rfl,rfl,h1.b.hw,by rw [List.map_append];exact aS _ _,?_⟩
      have hx1:upd (upd H p (.lst [])) W (.lst ((ws'++[x]).map fun x=>V.ref x.1).dropLast) x.1=some (.tup [.str x.2.2.1, .int x.2.2.2.1, .ref x.2.1]):=by
        rw [ai (fun z=>by have:=hx.1;rw [z,h1.b.hw] at this;cases this)]
        exact hx.1
      refine ⟨_,rfl,x.1,_,_,_,rfl,rfl,SqT.of hx1,rfl,_,rfl,_,_,rfl,rfl,?_⟩
      refine ⟨_,rfl,x.1,_,_,_,rfl,rfl,SqT.of hx1,rfl,?_⟩
      have e1:((ws'++[x]).map fun x=>V.ref x.1).dropLast=ws'.map fun x=>V.ref x.1:=by rw [List.map_append];exact List.dropLast_concat
      rw [e1]
      refine jU h2 (by simp at z1;omega) z2 (z3 x (by simp)) fun x4 x5 x6 x7 x8 H' ws2 cs2 b e=>q _ _ _ _ _ _ _ _ b (by rw [e];simp [eM,ha])
    · refine (if_neg (by simp [ha])).mpr ?_
      exact jU h1 z1 z2 (by rw [sizeLine_eq];decide) fun x4 x5 x6 x7 x8 H' ws' cs' b e=>q _ _ _ _ _ _ _ _ b (by rw [e];simp [eM,ha])
end
end PL
namespace PL
open PySem L2 Nh
def oY (a b:List Int):Bool:= !decide (b < a)
def dg (L:List (List Int)):List (List Int):=L.mergeSort oY
theorem kJ (a b c:List Int) (h:oY a b=true) (k:oY b c=true):oY a c=true:=by
  simp only [oY,Bool.not_eq_true',decide_eq_false_iff_not] at *
  exact List.not_lt.mpr (List.le_trans (List.not_lt.mp h) (List.not_lt.mp k))
theorem kK (a b:List Int):(oY a b||oY b a)=true:=by
  simp only [oY,Bool.or_eq_true,Bool.not_eq_true',decide_eq_false_iff_not]
  rcases List.le_total a b with h | h
  · exact .inl (List.not_lt.mpr h)
  · exact .inr (List.not_lt.mpr h)
theorem nW {a b:List (List Int)} (p:a.Perm b) (h:a.Pairwise fun x y=>¬y < x):a=dg b:=
  List.Perm.eq_of_pairwise (le:=fun x y=>oY x y=true) (fun a b _ _ h k=>by
    simp only [oY,Bool.not_eq_true',decide_eq_false_iff_not] at h k
    exact List.le_antisymm (List.not_lt.mp h) (List.not_lt.mp k)) (h.imp fun h=>by simpa [oY] using h) (List.pairwise_mergeSort kJ kK b) (p.trans (List.mergeSort_perm b oY).symm)
theorem mM {α β:Type} {f:α→β} {l m:List β} (h:l.Perm m):∀cs:List α,m=cs.map f→∃cs':List α,cs'.Perm cs∧l=cs'.map f:=by
  induction h with
  | nil=>
    intro cs e
    exact ⟨[],by rw [List.map_eq_nil_iff.mp e.symm],rfl⟩
  | cons x h ih=>
    intro cs e
    cases cs with
    | nil=>cases e
    | cons c cs=>
      simp only [List.map_cons,List.cons.injEq] at e
      obtain ⟨cs',p,e2⟩:=ih cs e.2
      exact ⟨c::cs',p.cons c,by rw [List.map_cons,e2,e.1]⟩
  | swap x y l=>
    intro cs e
    cases cs with
    | nil=>cases e
    | cons c cs=>
      cases cs with
      | nil=>cases e
      | cons d cs=>
        simp only [List.map_cons,List.cons.injEq] at e
        exact ⟨d::c::cs,List.Perm.swap ..,by rw [List.map_cons,List.map_cons,←e.1,←e.2.1,←e.2.2]⟩
  | trans h1 h2 i1 i2=>
    intro cs e
    obtain ⟨c2,p2,e2⟩:=i2 cs e
    obtain ⟨c1,p1,e1⟩:=i1 c2 e2
    exact ⟨c1,p1.trans p2,e1⟩
theorem kL:∀{cs:List (Addr×List Int)} {us:List Value},Vals (cs.map fun x=>V.ref x.1) us→us=cs.map fun x=>Value.ref x.1
  | [],_, .nil=>rfl
  | c::cs,_, .cons h t=>by cases h;rw [kL t];rfl
theorem kM:∀(cs:List (Addr×List Int)),Vals (cs.map fun x=>V.ref x.1) (cs.map fun x=>Value.ref x.1)
  | []=> .nil
  | c::cs=> .cons rfl (kM cs)
theorem mN:∀{is:List Int} {us:List Value},Vals (is.map V.int) us→(∀v∈us,∃i t,v= .int i t)∧us.map NhSI.jc=is
  | [],_, .nil=>⟨(fun _ z=>by cases z),rfl⟩
  | i::is,_, .cons h t=>by
    obtain ⟨tk,rfl⟩:=h
    obtain ⟨a,b⟩:=mN t
    exact ⟨fun v hv=>(List.mem_cons.mp hv).elim (fun e=>⟨i,tk,e⟩) (a v),by rw [List.map_cons,b];rfl⟩
section
variable {X:Cx}
def rR (K:PySem.W.Frag):List V→Hp→VK→Prop:=fun xs H Q=>∃(p:Addr) (cs:List (Addr×List Int)),xs=[.ref p]∧SqL K H p (cs.map fun x=>V.ref x.1)∧(∀x∈cs,H x.1=some (.lst (x.2.map V.int)))∧cs.length < 65536∧
  ∀(l:Addr) (cs':List (Addr×List Int)),H l=none→cs'.Perm cs→cs'.map (·.2)=dg (cs.map (·.2))→Q (.ref l) (upd H l (.lst (cs'.map fun x=>V.ref x.1)))
theorem iM (hu:X.A.units+8 < cLine):CallR X (.builtin "sorted") (rR X.K):=by
  intro pins s σ H xs us Q I r h
  obtain ⟨p,cs,rfl,hq,hc,hn,q⟩:=h
  cases r with
  | cons r rr=>
    cases rr
    cases r
    obtain ⟨its,rv,pl,hz⟩:=I.list hq
    have:=kL rv
    subst this
    have at_:∀x∈cs,NhSI.IsI s.heap (.ref x.1)∧NhSI.hM s.heap (.ref x.1)=x.2:=fun x hx=>by
      obtain ⟨z,is,n,r,hl,e⟩:=I.lstM (hc x hx)
      obtain ⟨a,b⟩:=mN r
      have il:s.heap.IsList x.1 is.toArray:=⟨_,e,rfl,n,rfl⟩
      refine ⟨⟨x.1,is.toArray,rfl,il,fun j hj=>a _ (by simp)⟩,?_⟩
      rw [NhSI.lS il]
      exact b
    refine NhSI.lT pl.isList (fun v hv=>?_) hu (by simpa using hn) fun h' out e he ⟨t1,t2⟩ hk=>?_
    · obtain ⟨x,hx,rfl⟩:=List.mem_map.mp hv
      exact (at_ x hx).1
    obtain ⟨cs',p',e'⟩:=mM t1 cs rfl
    have srt:cs'.map (·.2)=dg (cs.map (·.2)):=by
      refine nW (p'.map _) ?_
      rw [e',List.pairwise_map] at t2
      rw [List.pairwise_map]
      exact t2.imp_of_mem fun {x y} hx hy z=>by rw [(at_ x (p'.mem_iff.mp hx)).2,(at_ y (p'.mem_iff.mp hy)).2] at z;exact z
    have hq':=q _ cs' (I.hok.fresh (Nat.le_succ s.heap.objs.size)) p' srt
    refine ⟨.ref (s.heap.objs.size+1),_,I.laid (t':=s.toks) hk (Nat.le_succ _) (show ObjOk X.prog X.w _ _ _ (.lst (cs'.map fun x=>V.ref x.1)) from ⟨?_,out.toList,e,by rw [e'];exact kM cs',he⟩),rfl,hq'⟩
    rw [List.length_map,p'.length_eq]
    exact f7 (by omega)
end
def h6:List PyData→Option (List (Str×Int))
  | []=>some []
  | .tuple [.str a, .int n]::r=>(h6 r).map fun l=>(a,n)::l
  | _=>none
def rS:List PyData→Option Sl:=fun ds=>match ds with
  | [.list cs]=>(h6 cs).bind fun c=>if c.length≤60000 then (if (aD 0 c ([],[])).1.isEmpty then some (.br (.list ((dg (aD 0 c ([],[])).2).map fun l=> .list (l.map .int)))) else some (.sh .none)) else none
  | _=>none
section
variable {K:PySem.W.Frag}
theorem nX {H:Hp}:∀{cs:List PyData} {c:List (Str×Int)} {vs:List V},h6 cs=some c→RpA K H vs cs→vs.length=c.length∧∀(i:Nat) (p:Str×Int),c[i]? =some p→∃t,vs[i]? =some (V.ref t)∧SqT K H t [.str p.1, .int p.2]
  | [],c,_,e, .nil=>by cases e;exact ⟨rfl,fun i p h=>by simp at h⟩
  | d::cs,c,_,e, .cons (x:=v) h r=>by
    unfold h6 at e
    split at e
    · cases ‹d::cs=[]›
    · rename_i a b r' ec
      cases ec
      obtain ⟨c',e1,rfl⟩:=Option.map_eq_some_iff.mp e
      obtain ⟨l1,l2⟩:=nX e1 r
      cases h with
      | tup h1 h2=>
        cases h2 with
        | cons x1 y1=>
          cases y1 with
          | cons x2 y2=>
            cases y2
            cases x1
            cases x2
            refine ⟨by simp [l1],fun i p hp=>?_⟩
            cases i with
            | zero=>simp at hp;subst hp;exact ⟨_,rfl,h1⟩
            | succ i=>simpa using l2 i p (by simpa using hp)
    · cases e
def vK (i:Nat) (st:List Bw×List (List Int)):Prop:=st.1.length≤i∧st.2.length≤i∧∀x∈st.1,x.2.2.length≤i
theorem jV {i j:Nat} {a:Str} {n:Int} {is:List Int} {st:List Bw×List (List Int)} (h:vK i st) (hi:is.length≤i):vK (i+1) (cE j a n is st):=by
  obtain ⟨h1,h2,h3⟩:=h
  unfold cE
  split
  · exact ⟨by simp only;omega,by simp;omega,fun x hx=>by have:=h3 x hx;omega⟩
  · refine ⟨by simp;omega,by simp only;omega,fun x hx=>?_⟩
    rcases List.mem_append.mp hx with hx | hx
    · have:=h3 x hx;omega
    · rw [List.mem_singleton.mp hx];simp;omega
theorem jW {i:Nat} {p:Str×Int} {st:List Bw×List (List Int)} (h:vK i st):vK (i+1) (eM i p st):=by
  unfold eM
  split
  · rename_i a n is e
    split
    · refine jV ⟨by simp only [List.length_dropLast];have:=h.1;omega,h.2.1,fun x hx=>h.2.2 x (List.dropLast_subset _ hx)⟩ (h.2.2 (a,n,is) (List.mem_of_getLast? e))
    · exact jV h (Nat.zero_le _)
  · exact jV h (Nat.zero_le _)
def wR (K:PySem.W.Frag):TS:=jw (j8 (sH j_) (gd 1)) (jw (j8 (sH j_) (gd 2)) (jw (wb (uq K (iC (fP 0) j_)) (v9 K 2 (qu (gd 3) (qu (gd 4) v8))) (uz K))
  (jw (sw (fun σ H Q=>fP 1 σ H fun x H'=>∃k,nh K x H' k∧Q k H') (uP (tC .non)) qr) (uP (xa (rR K) (iC (fP 2) j_))))))
theorem oZ {vs:List V} {H:Hp} {Q:VK} {E:XK} {D:Ends} (h:hU K rS vs H Q E) (hD:∀v H',Q v H'→D.rt v H'):∃v,vs=[v]∧wR K D [some v,none,none,none,none,none,none,none,none] H:=by
  obtain ⟨ds,r,e,rp,q⟩:=h
  unfold rS at e
  split at e
  · rename_i cs0
    obtain ⟨c,ec,e⟩:=Option.bind_eq_some_iff.mp e
    split at e
    · rename_i hcl
      cases rp with
      | cons r1 rr=>
        cases rr
        cases r1 with
        | lst hL hR=>
          rename_i C us
          obtain ⟨lu,hu⟩:=nX ec hR
          refine ⟨_,rfl,?_⟩
          have big:60000 < sizeLine:=by rw [sizeLine_eq];decide
          refine ⟨by show 0≤sizeLine;exact Nat.zero_le _,fun W hW=>?_⟩
          refine ⟨by show 0≤sizeLine;exact Nat.zero_le _,fun L hL2=>?_⟩
          have wl:W≠L:=fun z=>by subst z;rw [aA] at hL2;cases hL2
          have hL0:H L=none:=by rw [ai wl.symm] at hL2;exact hL2
          have g1:Same H (upd H W (.lst [])):=bR hW _
          have g2:Same (upd H W (.lst [])) (upd (upd H W (.lst [])) L (.lst [])):=bR hL2 _
          have b0:BI H (upd (upd H W (.lst [])) L (.lst [])) W L [] []:=⟨fun b o e=>g2 b o (g1 b o e),hW,hL0,wl,by rw [ai wl];exact aA,aA,(fun _ z=>by cases z),(fun _ z=>by cases z),by simp⟩
          refine ⟨_,rfl,C,us,rfl,b0.same.seq hL,mK (fun i σ H'=>∃ws cs x3 x4 x5 x6 x7 x8,σ=[some (.ref C),some (.ref W),some (.ref L),x3,x4,x5,x6,x7,x8]∧BI H H' W L ws cs∧aD i (c.drop i) (ws.map (·.2.2),cs.map (·.2))=aD 0 c ([],[])∧vK i (ws.map (·.2.2),cs.map (·.2)))
            ⟨[],[],_,_,_,_,_,_,rfl,b0,rfl,Nat.zero_le _,Nat.zero_le _,fun _ z=>by cases z⟩ (fun i σ H' hi ⟨ws,cs,_,_,_,_,_,_,_,b,_⟩=>b.same.seq hL) (fun i u σ H' T hv ⟨ws,cs,x3,x4,x5,x6,x7,x8,es,b,eb,sz⟩ hT=>?_) fun σ H' ⟨ws,cs,x3,x4,x5,x6,x7,x8,es,b,eb,sz⟩=>?_⟩
          · subst es
            have hi:i < c.length:=by rw [←lu];exact (List.getElem?_eq_some_iff.mp hv).1
            obtain ⟨t,ht,hq⟩:=hu i c[i] (List.getElem?_eq_getElem hi)
            rw [hv] at ht
            cases ht
            have gT:=bR hT (.tup [.int i, .ref t])
            refine ⟨T,_,rfl,SqT.of aA,rfl,_,_,rfl,_,_,rfl,rfl,?_⟩
            rw [List.drop_eq_getElem_cons hi,aD] at eb
            have sm:Same H (upd H' T (.tup [.int i, .ref t])):=fun b' o e=>gT b' o (b.same b' o e)
            refine mL (b.grow gT) (sm.tup hq) (by have:=sz.1;simp at this;omega) (by have:=sz.2.1;simp at this;omega) (fun x hx=>by have:=sz.2.2 x.2.2 (List.mem_map.mpr ⟨x,hx,rfl⟩);omega) fun x4 x5 x6 x7 x8 H2 ws' cs' b' e'=>?_
            refine ⟨ws',cs',_,_,_,_,_,_,rfl,b',?_,?_⟩
            · rw [e'];exact eb
            · rw [e'];exact jW sz
          · subst es
            rw [lu,List.drop_length] at eb
            simp only [aD] at eb
            rw [←eb] at e
            have sz':=sz
            rw [lu] at sz'
            cases ws with
            | nil=>
              refine ⟨_,rfl,false, .inl ⟨_,SqL.of b.hw,rfl⟩,(if_neg (by decide)).mpr ?_⟩
              simp only [List.map_nil,List.isEmpty_nil,if_true,Option.some.injEq] at e
              subst e
              refine ⟨_,rfl,L,cs,rfl,SqL.of b.hl,fun x hx=>(b.tc x hx).1,by have:=sz'.2.1;simp at this;omega,fun l cs' hl p' srt=>hD _ _ (q _ _ (fun b' o e=>bR hl _ b' o (b.same b' o e)) ?_)⟩
              refine .lst (SqL.of aA) ?_
              rw [←srt,List.map_map]
              have key:∀zs:List (Addr×List Int),(∀x∈zs,x∈cs)→RpA K (upd H' l (.lst (cs'.map fun x=>V.ref x.1))) (zs.map fun x=>V.ref x.1) (zs.map fun x=>PyData.list (x.2.map PyData.int)):=fun zs=>by
                induction zs with
                | nil=>intro _;exact .nil
                | cons z zs ih=>
                  intro hz
                  exact .cons (.lst (SqL.of (bR hl _ _ _ (b.tc z (hz z (List.mem_cons_self ..))).1)) (jS _)) (ih fun x hx=>hz x (List.mem_cons_of_mem _ hx))
              exact key cs' fun x hx=>p'.mem_iff.mp hx
            | cons w ws=>
              refine ⟨_,rfl,true, .inl ⟨_,SqL.of b.hw,rfl⟩,(if_pos rfl).mpr ?_⟩
              simp only [List.map_cons,List.isEmpty_cons,Bool.false_eq_true,if_false,Option.some.injEq] at e
              subst e
              exact hD _ _ (q _ _ b.same .non)
    · cases e
  · cases e
end
end PL
namespace PL
open PySem L2 Nh
def xk (K:PySem.W.Frag):Sp:=fun vs H Q _=>∃cs c,RpA K H vs [.list cs]∧h6 cs=some c∧c.length≤60000∧(aD 0 c ([],[])).1=[]∧∀(l:Addr) (bs:List (Addr×List Int)) (H':Hp),Same H H'→bs.map (·.2)=dg (aD 0 c ([],[])).2→H l=none→H' l=some (.lst (bs.map fun x=>V.ref x.1))→
  (∀x∈bs,H' x.1=some (.lst (x.2.map V.int))∧H x.1=none∧x.1≠l)→(bs.map (·.1)).Nodup→Q (.ref l) H'
section
variable {K:PySem.W.Frag}
theorem mO {vs:List V} {H:Hp} {Q:VK} {E:XK} {D:Ends} (h:xk K vs H Q E) (hD:∀v H',Q v H'→D.rt v H'):∃v,vs=[v]∧wR K D [some v,none,none,none,none,none,none,none,none] H:=by
  obtain ⟨cs0,c,rp,ec,hcl,e,q⟩:=h
  cases rp with
  | cons r1 rr=>
    cases rr
    cases r1 with
    | lst hL hR=>
      rename_i C us
      obtain ⟨lu,hu⟩:=nX ec hR
      refine ⟨_,rfl,?_⟩
      have big:60000 < sizeLine:=by rw [sizeLine_eq];decide
      refine ⟨by show 0≤sizeLine;exact Nat.zero_le _,fun W hW=>?_⟩
      refine ⟨by show 0≤sizeLine;exact Nat.zero_le _,fun L hL2=>?_⟩
      have wl:W≠L:=fun z=>by subst z;rw [aA] at hL2;cases hL2
      have hL0:H L=none:=by rw [ai wl.symm] at hL2;exact hL2
      have g1:Same H (upd H W (.lst [])):=bR hW _
      have g2:Same (upd H W (.lst [])) (upd (upd H W (.lst [])) L (.lst [])):=bR hL2 _
      have b0:BI H (upd (upd H W (.lst [])) L (.lst [])) W L [] []:=⟨fun b o e=>g2 b o (g1 b o e),hW,hL0,wl,by rw [ai wl];exact aA,aA,(fun _ z=>by cases z),(fun _ z=>by cases z),by simp⟩
      refine ⟨_,rfl,C,us,rfl,b0.same.seq hL,mK (fun i σ H'=>∃ws cs x3 x4 x5 x6 x7 x8,σ=[some (.ref C),some (.ref W),some (.ref L),x3,x4,x5,x6,x7,x8]∧BI H H' W L ws cs∧aD i (c.drop i) (ws.map (·.2.2),cs.map (·.2))=aD 0 c ([],[])∧vK i (ws.map (·.2.2),cs.map (·.2)))
        ⟨[],[],_,_,_,_,_,_,rfl,b0,rfl,Nat.zero_le _,Nat.zero_le _,fun _ z=>by cases z⟩ (fun i σ H' hi ⟨ws,cs,_,_,_,_,_,_,_,b,_⟩=>b.same.seq hL) (fun i u σ H' T hv ⟨ws,cs,x3,x4,x5,x6,x7,x8,es,b,eb,sz⟩ hT=>?_) fun σ H' ⟨ws,cs,x3,x4,x5,x6,x7,x8,es,b,eb,sz⟩=>?_⟩
      · subst es
        have hi:i < c.length:=by rw [←lu];exact (List.getElem?_eq_some_iff.mp hv).1
        obtain ⟨t,ht,hq⟩:=hu i c[i] (List.getElem?_eq_getElem hi)
        rw [hv] at ht
        cases ht
        have gT:=bR hT (.tup [.int i, .ref t])
        refine ⟨T,_,rfl,SqT.of aA,rfl,_,_,rfl,_,_,rfl,rfl,?_⟩
        rw [List.drop_eq_getElem_cons hi,aD] at eb
        have sm:Same H (upd H' T (.tup [.int i, .ref t])):=fun b' o e=>gT b' o (b.same b' o e)
        refine mL (b.grow gT) (sm.tup hq) (by have:=sz.1;simp at this;omega) (by have:=sz.2.1;simp at this;omega) (fun x hx=>by have:=sz.2.2 x.2.2 (List.mem_map.mpr ⟨x,hx,rfl⟩);omega) fun x4 x5 x6 x7 x8 H2 ws' cs' b' e'=>?_
        refine ⟨ws',cs',_,_,_,_,_,_,rfl,b',?_,?_⟩
        · rw [e'];exact eb
        · rw [e'];exact jW sz
      · subst es
        rw [lu,List.drop_length] at eb
        simp only [aD] at eb
        rw [←eb] at e
        have sz':=sz
        rw [lu] at sz'
        cases ws with
        | nil=>
          refine ⟨_,rfl,false, .inl ⟨_,SqL.of b.hw,rfl⟩,(if_neg (by decide)).mpr ?_⟩
          refine ⟨_,rfl,L,cs,rfl,SqL.of b.hl,fun x hx=>(b.tc x hx).1,by have:=sz'.2.1;simp at this;omega,fun l cs' hl p' srt=>hD _ _ (q l cs' _ (fun b' o e=>bR hl _ b' o (b.same b' o e)) (by rw [srt,←eb]) ?_ aA (fun x hx=>?_) ?_)⟩
          · cases z:H l with
            | none=>rfl
            | some o=>have:=b.same l o z;rw [hl] at this;cases this
          · obtain ⟨t1,t2,_⟩:=b.tc x (p'.mem_iff.mp hx)
            exact ⟨bR hl _ _ _ t1,t2,fun z=>by rw [z,hl] at t1;cases t1⟩
          · have nd:=b.nd
            simp only [List.map_nil,List.nil_append] at nd
            exact (p'.map _).nodup_iff.mpr nd
        | cons w ws=>
          rw [List.map_cons] at e
          cases e
end
def kN (ix iy ib:Nat) (t:iE) (g:fg):fg:=fun E=>match (E[iy]?).bind Sl.val with
  | some (.list cs)=>match h6 cs with
    | some c=>if c.length≤60000∧(aD 0 c ([],[])).1=[]∧(∀l∈dg (aD 0 c ([],[])).2,l.length≤60000)∧ix < E.length∧ib < E.length∧ix≠ib then
        match t ((frzAll E).set ix (.sh (.list ((dg (aD 0 c ([],[])).2).map fun l=> .list (l.map .int))))) with
        | some (false,_)=>g ((E.set ix .no).set ib .no)
        | _=>none
      else none
    | none=>none
  | _=>none
theorem o3 {K:PySem.W.Frag} {H:Hp}:∀(bs:List (Addr×List Int)),(∀x∈bs,H x.1=some (.lst (x.2.map V.int)))→RpA K H (bs.map fun x=>V.ref x.1) (bs.map fun x=>PyData.list (x.2.map PyData.int))
  | [],_=> .nil
  | x::bs,h=> .cons (.lst (SqL.of (h x (List.mem_cons_self ..))) (jS _)) (o3 bs fun y hy=>h y (List.mem_cons_of_mem _ hy))
theorem SAll.drop {P:Option V→Sl→List Addr→Prop} (hP:∀o,P o .no []):∀{os:List (Option V)} {ss:List Sl} {A:List Addr} (i:Nat) (o:Option V),SAll P os ss A→∃A',SAll P (os.set i o) (ss.set i .no) A'∧A'.Sublist A
  | _,_,_,i,o, .nil=>⟨[], .nil,List.Sublist.refl _⟩
  | _,_,_,0,o, .cons (A:=A) (B:=B) h r=>⟨[]++B, .cons (hP o) r,List.sublist_append_right A B⟩
  | _,_,_,i+1,o, .cons (A:=A) (B:=B) h r=>by
    obtain ⟨B',r',s⟩:=SAll.drop hP i o r
    exact ⟨A++B', .cons h r',List.Sublist.append (List.Sublist.refl A) s⟩
theorem FrF.drop {K:PySem.W.Frag} {B F:Hp} {A:List Addr} {σ:Sg} {H:Hp} {E:List Sl} (i:Nat) (o:Option V) (h:FrF K B F A σ H E [] []):∃A',FrF K B F A' (σ.set i o) H (E.set i .no) [] []:=by
  obtain ⟨bf,fh,tf,sl,nd,fr,len,pl⟩:=h
  simp only [List.map_nil,List.nil_append] at sl
  have hal:∀s∈E,s.isAl=false:=pl
  have sl2:SAll (SlOk K F H (σ.set i o)) σ E A:=sl.mono fun o' s C hs _ q=>by
    have:=hal s hs
    cases s with
    | al j=>cases this
    | br d=>cases this
    | _=>exact q
  obtain ⟨A',r,s⟩:=SAll.drop (fun o=>rfl) i o sl2
  refine ⟨A',bf,fh,tf,by simpa using r,s.nodup nd,fun a ha=>fr a (s.subset ha),rfl,fun s hs=>?_⟩
  rcases List.mem_or_eq_of_mem_set hs with hs | hs
  · exact pl s hs
  · subst hs;rfl
theorem FrF.apart {K:PySem.W.Frag} {B F:Hp} {A:List Addr} {σ:Sg} {H H3:Hp} {E:List Sl} {N:List Addr} (h:FrF K B F A σ H E [] []) (hN:∀a∈N,H a=none) (g:Same H H3) (m:∀a∈N,∃us,H3 a=some (.lst us)):FrF K B (fun b=>if b∈A∨b∈N then none else H3 b) A σ H3 E [] []:=by
  have nF:∀b o,F b=some o→b∉A∧b∉N:=fun b o e=>⟨fun hb=>(by rw [h.fr b hb] at e;cases e),fun hb=>(by have:=h.fh b o e;rw [hN b hb] at this;cases this)⟩
  have FF:Same F (fun b=>if b∈A∨b∈N then none else H3 b):=fun b o e=>by
    show (if b∈A∨b∈N then none else H3 b)=some o
    rw [if_neg (fun z=>z.elim (nF b o e).1 (nF b o e).2)]
    exact g _ _ (h.fh _ _ e)
  have hA:∀b∈A,H3 b=H b:=fun b hb=>by
    rcases h.mutA b hb with ⟨_,z⟩ | ⟨_,z⟩ <;> rw [z,g _ _ z]
  refine ⟨h.bf.trans FF,fun b o e=>?_,fun b o e=>?_,h.sl.mono fun o s C hs hC q=>q.stay FF (fun b hb=>hA b (hC b hb)) fun _=>g,h.nd,fun a ha=>if_pos (.inl ha),h.len,h.pl⟩
  · by_cases hb:b∈A∨b∈N
    · rw [if_pos hb] at e;cases e
    · rw [if_neg hb] at e;exact e
  · obtain ⟨e1,e2⟩:=Option.filter_eq_some_iff.mp e
    show (if b∈A∨b∈N then none else H3 b)=some o
    by_cases hb:b∈A∨b∈N
    · rcases hb with hb | hb
      · rw [hA b hb] at e1
        rcases h.mutA b hb with ⟨_,z⟩ | ⟨_,z⟩ <;> rw [z] at e1 <;> cases e1 <;> cases e2
      · obtain ⟨us,z⟩:=m b hb
        rw [z] at e1;cases e1;cases e2
    · rw [if_neg hb];exact e1
section
variable {X:Cx} {k:Nat} {bf x y b:Str} {c:Expr} {m:Bool} {t:iE} {g:fg} {bd ce:List Stmt} {px p1 py cpos pos1 pos2 pb px2 pb2 ap pu pc2 cpos3 pe pos3:Pos} {j2:Nat}
theorem tP (ix iy ib:Nat) (nd:X.N.Nodup) (hca:X.calm=true) (D:Own X.prog X.w X.K X.mg X.base k bf ["cord"] (xk X.K)) (hr:Room k X.A) (hg:Gl X bf) (hc:TX X c m t) (hrest:qN X ce g) {tb:TS} (hbd:PSs X bd tb) (hpo:PassesOwn (model X.prog X.w) X.A X.env X.xe)
    (nx:X.N[ix]? =some x:=by rfl) (ny:X.N[iy]? =some y:=by rfl) (nb:X.N[ib]? =some b:=by rfl) (vx:qk X.env.scope x:=by first | exact Or.inl rfl | exact Or.inr (Or.inl rfl) | exact Or.inr (Or.inr rfl)) (vy:qk X.env.scope y:=by first | exact Or.inl rfl | exact Or.inr (Or.inl rfl) | exact Or.inr (Or.inr rfl)) (vb:qk X.env.scope b:=by first | exact Or.inl rfl | exact Or.inr (Or.inl rfl) | exact Or.inr (Or.inr rfl))
    (lx:sr X.env.scope x:=by first | exact Or.inl rfl | exact Or.inr rfl) (lb:sr X.env.scope b:=by first | exact Or.inl rfl | exact Or.inr rfl) (fx:X.fn x=true∨X.env.scope.names.lookup x=some .local:=by first | exact .inl rfl | exact .inr rfl) (fb:X.fn b=true∨X.env.scope.names.lookup b=some .local:=by first | exact .inl rfl | exact .inr rfl)
    (dx:(x == ("__debug__":Str))=false:=by decide) (dy:(y == ("__debug__":Str))=false:=by decide) (db:(b == ("__debug__":Str))=false:=by decide) (cx:(x == ("__classdict__":Str))=false:=by decide) (cy:(y == ("__classdict__":Str))=false:=by decide) (cb:(b == ("__classdict__":Str))=false:=by decide) (dbf:(bf == ("__debug__":Str))=false:=by decide)
    (hsw:swapsWith (.Call (.Name bf p1) [.Name y py] [] cpos) (some (.Name x px)) pos1.line X.env=pure false:=by rfl) (hln:(ap.endLine == cpos3.line)=true:=by rfl) (hsw2:swapsWith (.Call (.Attribute (.Name b pb2) "append" ap) [.UnaryOp .USub (.Constant (.int 1) j2 pc2) pu] [] cpos3) none pe.line X.env=pure false:=by rfl)
    (hbase:attributeBase (.Name b pb2) "append" X.env (eval (.Name b pb2) X.env)=eval (.Name b pb2) X.env:=by rfl) (hfs:∀v,foldedSetIterable (.Name x px2) X.env v=pure v:=by intro _;rfl):
    qN X (.Assign [.Name x px] (.Call (.Name bf p1) [.Name y py] [] cpos) pos1:: .If c bd [] pos2:: .For (.Name b pb) (.Name x px2) [.Expr (.Call (.Attribute (.Name b pb2) "append" ap) [.UnaryOp .USub (.Constant (.int 1) j2 pc2) pu] [] cpos3) pe] [] pos3::ce) (kN ix iy ib t g):=by
  have ap':MtR X "list.append" gq:=gg
  refine la (aK (dF (i:=ix) nd nx lx (qK D hr hg (be (fZ ny vy dy cy) bP) dbf) hsw fx) (aK (jg hc hbd g5) (aK (kR hpo hca (oj (fZ nx vx dx cx)) (gm nd nb lb fb) (dh (fW (jh PySem.F.plainAttrs_list PySem.F.slot_list_append PySem.F.type_list_append ap' (fZ nb vb db cb) (be (on kS d_) bP) hbase rfl hln) hsw2)) hfs) hrest))) fun Dd σ H z=>?_
  obtain ⟨B,E,xs,Xs,E',fl,⟨F,A,fr⟩,hXs,e,q⟩:=z
  subst hXs
  have hxs:xs=[]:=by simpa using fr.len
  subst hxs
  unfold kN at e
  split at e
  case h_2=>cases e
  rename_i cs ey
  split at e
  case h_2=>cases e
  rename_i c' ec
  split at e
  case isFalse=>cases e
  rename_i hcond
  split at e
  case h_2=>cases e
  rename_i E2 et
  obtain ⟨hcl,hnil,hlen,hix,hib,hne⟩:=hcond
  obtain ⟨sy,ei,ev⟩:=Option.bind_eq_some_iff.mp ey
  obtain ⟨o,A1,eo,hsy⟩:=fr.var ei
  obtain ⟨vy',rfl,ry,_⟩:=hsy.val fr.fh ev
  have sl:=fr.slen
  refine ⟨vy',eo,cs,c', .cons ry .nil,ec,hcl,hnil,fun l bs H1 g1 hb hl0 hl1 hbs hnd=>?_⟩
  have frA:=(fr.frzAll rfl).grow g1
  have eF:(fun b=>if b∈([]:List Addr) then none else H1 b)=H1:=by funext b;simp
  rw [eF] at frA
  have rl:Rp X.K H1 (.ref l) (.list ((dg (aD 0 c' ([],[])).2).map fun l=> .list (l.map .int))):=by
    rw [←hb,List.map_map]
    exact .lst (SqL.of hl1) (o3 bs fun x hx=>(hbs x hx).1)
  obtain ⟨A2,frC⟩:=(frA.push (v:= .ref l) (s:= .sh _) ⟨rfl,_,rfl,rl⟩).store (i:=ix) rfl (fun _ z=>nomatch z) (by rw [PL.frzAll,List.length_map];exact hix)
  refine ⟨H1,_,[],[],false,E2,⟨_,_,frC.raise⟩,fun _=>Calm.nil rfl,et,fun H2 ⟨F2,A3,fr2⟩=>(if_neg (by decide)).mpr ?_⟩
  have g2:Same H1 H2:=fr2.bf.trans fr2.fh
  have hl2:=g2 _ _ hl1
  have hb2:∀x∈bs,H2 x.1=some (.lst (x.2.map V.int)):=fun x hx=>g2 _ _ (hbs x hx).1
  have nl:l∉bs.map (·.1):=fun z=>by
    obtain ⟨x,hx,e⟩:=List.mem_map.mp z
    exact (hbs x hx).2.2 e
  have hσ:ix < σ.length:=by omega
  have hσb:ib < (σ.set ix (some (V.ref l))).length:=by rw [List.length_set];omega
  refine ⟨.ref l,List.getElem?_set_self hσ,l,rfl,⟨_,SqL.of hl2⟩,qw (xs:=bs.map fun x=>V.ref x.1) (fun i σ' H'=>(∃vb,σ'=(σ.set ix (some (V.ref l))).set ib vb)∧(∀a,a∉bs.map (·.1)→H' a=H2 a)∧∀j x,bs[j]? =some x→H' x.1=some (.lst (if j < i then x.2.map V.int++[.int (-1)] else x.2.map V.int)))
    ⟨⟨_,(List.set_getElem_self hσb).symm⟩,fun _ _=>rfl,fun j x hj=>by rw [if_neg (Nat.not_lt_zero j)];exact hb2 x (List.mem_of_getElem? hj)⟩ (fun i σ' H' _ ⟨_,h2,_⟩=>SqL.of ((h2 l nl).trans hl2)) (fun i u σ' H' hu ⟨⟨vb,es⟩,h2,h3⟩=>?_) fun σ' H' ⟨⟨vb,es⟩,h2,h3⟩=>?_⟩
  · subst es
    rw [List.getElem?_map] at hu
    cases hx:bs[i]? with
    | none=>rw [hx] at hu;cases hu
    | some xb=>
      rw [hx] at hu
      cases hu
      have hm:=List.mem_of_getElem? hx
      have h3i:=h3 i xb hx
      rw [if_neg (Nat.lt_irrefl i)] at h3i
      have sz:(xb.2.map V.int).length < sizeLine:=by
        rw [List.length_map]
        have:=hlen xb.2 (by rw [←hb];exact List.mem_map.mpr ⟨xb,hm,rfl⟩)
        exact mr (by omega)
      refine ⟨_,List.getElem?_set_self (by rw [List.length_set];exact hσb), .inl ⟨rfl,_,SqL.of h3i⟩,1,rfl,xb.1,_,_,rfl,rfl,h3i,sz,⟨_,List.set_set ..⟩,fun a ha=>?_,fun j x hj=>?_⟩
      · rw [ai (fun z:a=xb.1=>ha (by rw [z];exact List.mem_map.mpr ⟨xb,hm,rfl⟩))]
        exact h2 a ha
      · by_cases hji:j=i
        · subst hji
          rw [hx] at hj
          cases hj
          rw [aA,if_pos (Nat.lt_succ_self j)]
        · have ne:x.1≠xb.1:=fun z=>hji (by
            have h1:(bs.map (·.1))[j]? =some x.1:=by rw [List.getElem?_map,hj];rfl
            have h2':(bs.map (·.1))[i]? =some xb.1:=by rw [List.getElem?_map,hx];rfl
            rw [z] at h1
            exact (List.getElem?_inj (List.getElem?_eq_some_iff.mp h1).1 hnd).mp (h1.trans h2'.symm))
          rw [ai ne,h3 j x hj]
          congr 2
          by_cases hj2:j < i
          · rw [if_pos hj2,if_pos (by omega)]
          · rw [if_neg hj2,if_neg (by omega)]
  · subst es
    have g3:Same H H':=fun a o ea=>by
      have na:a∉bs.map (·.1):=fun z=>by
        obtain ⟨x,hx,e⟩:=List.mem_map.mp z
        rw [←e,(hbs x hx).2.1] at ea
        cases ea
      rw [h2 a na]
      exact g2 _ _ (g1 _ _ ea)
    have frN:=fr.apart (N:=bs.map (·.1)) (fun a ha=>by
      obtain ⟨x,hx,e⟩:=List.mem_map.mp ha
      rw [←e];exact (hbs x hx).2.1) g3 fun a ha=>by
      obtain ⟨x,hx,e⟩:=List.mem_map.mp ha
      obtain ⟨j,hj⟩:=List.getElem?_of_mem hx
      rw [←e]
      exact ⟨_,h3 j x hj⟩
    obtain ⟨A4,fr4⟩:=frN.drop ix (some (V.ref l))
    obtain ⟨A5,fr5⟩:=fr4.drop ib vb
    exact ⟨B,_,[],[],E',fl,⟨_,_,fr5⟩,rfl,e,q⟩
end
end PL
namespace PL
open PySem L2 Nh
def eQ:List (bN×PyData)→bN→Option PyData
  | [],_=>none
  | p::r,k=>if p.1=k then some p.2 else eQ r k
def qe (kvs:List (bN×PyData)) (k:bN) (d:PyData):List (bN×PyData):=if (kvs.any fun kv=>decide (kv.1=k))=true then kvs.map (fun kv=>if kv.1=k then (kv.1,d) else kv) else kvs++[(k,d)]
def rT:aV:=fun E=>some (.oi [],E)
def vL (i:Nat) (f:aV):iE:=fun E=>(f E).bind fun a=>(look a.2 a.1).bind fun kd=>(mD kd).bind fun k=>match a.2[i]? with
  | some (.oi kvs)=>some ((eQ kvs k).isSome,a.2)
  | _=>none
def o5 (i:Nat) (f g:aV):aV:=fun E=>match E[i]? with
  | some (.oi _)=>(f E).bind fun a=>(g a.2).bind fun b=>(look b.2 a.1).bind fun kd=>(look b.2 b.1).bind fun c=>(mD kd).bind fun k=>match b.2[i]? with
    | some (.oi kvs)=>(match eQ kvs k with
      | some d=>some (.sh d,b.2)
      | none=>if b7 c then some (.sh c,b.2) else none)
    | _=>none
  | _=>none
def uA (i:Nat) (fk fe:aV):fg:=fun E=>(fe E).bind fun a=>(frz a.2 a.1).bind fun b=>match b.2[i]? with
  | some (.oi _)=>(fk b.2).bind fun c=>(look c.2 c.1).bind fun kd=>(mD kd).bind fun k=>match c.2[i]? with
    | some (.oi kvs)=>if kvs.length < 1000000 then some (c.2.set i (.oi (qe kvs k b.1)), .nx) else none
    | _=>none
  | _=>none
section
variable {K:PySem.W.Frag} {F H B:Hp} {A:List Addr} {σ:Sg} {E:List Sl} {xs:List V} {Xs:List Sl}
theorem nY {k:bN}:∀{us:List (bN×V)} {kvs:List (bN×PyData)},KvOk K F us kvs→(hJ us k=none∧eQ kvs k=none)∨∃v d,hJ us k=some v∧eQ kvs k=some d∧Rp K F v d
  | [],[],_=> .inl ⟨rfl,rfl⟩
  | p::us,q::kvs,h=>by
    cases h with
    | cons a b=>
      by_cases c:q.1=k
      · exact .inr ⟨p.2,q.2,iI (a.1.trans c),by simp [eQ,c],a.2⟩
      · have c':¬p.1=k:=fun z=>c (a.1.symm.trans z)
        rcases nY (k:=k) b with ⟨e1,e2⟩ | ⟨v,d,e1,e2,r⟩
        · exact .inl ⟨(gQ c').trans e1,by simp [eQ,c,e2]⟩
        · exact .inr ⟨v,d,(gQ c').trans e1,by simp [eQ,c,e2],r⟩
theorem KvOk.len {us:List (bN×V)} {kvs:List (bN×PyData)} (h:KvOk K F us kvs):us.length=kvs.length:=Paired.length h
theorem rV {k:bN}:∀{us:List (bN×V)} {kvs:List (bN×PyData)},KvOk K F us kvs→(us.any fun kv=>decide (kv.1=k))=kvs.any fun kv=>decide (kv.1=k)
  | [],[],_=>rfl
  | p::us,q::kvs,h=>by
    cases h with
    | cons a b=>rw [List.any_cons,List.any_cons,a.1,rV b]
theorem rW {k:bN} {v:V} {d:PyData} (r:Rp K F v d):∀{us:List (bN×V)} {kvs:List (bN×PyData)},KvOk K F us kvs→KvOk K F (us.map fun kv=>if kv.1=k then (kv.1,v) else kv) (kvs.map fun kv=>if kv.1=k then (kv.1,d) else kv)
  | [],[],_=> .nil
  | p::us,q::kvs,h=>by
    cases h with
    | cons a b=>
      refine .cons ?_ (rW r b)
      by_cases c:q.1=k
      · dsimp only;rw [if_pos c,if_pos (a.1.trans c)];exact ⟨a.1,r⟩
      · dsimp only;rw [if_neg c,if_neg fun z=>c (a.1.symm.trans z)];exact a
theorem o6 {k:bN} {v:V} {d:PyData} (r:Rp K F v d):∀{us:List (bN×V)} {kvs:List (bN×PyData)},KvOk K F us kvs→KvOk K F (us++[(k,v)]) (kvs++[(k,d)])
  | [],[],_=> .cons ⟨rfl,r⟩ .nil
  | p::us,q::kvs,h=>by
    cases h with
    | cons a b=>exact .cons a (o6 r b)
theorem vM {k:bN} {v:V} {d:PyData} (r:Rp K F v d) {us:List (bN×V)} {kvs:List (bN×PyData)} (h:KvOk K F us kvs):KvOk K F (iH us k v) (qe kvs k d):=by
  unfold iH qe
  rw [rV h]
  split
  · exact rW r h
  · exact o6 r h
theorem FrF.newI {p:Addr} (h:FrF K B F A σ H E xs Xs) (hp:H p=none):FrF K B F (p::A) σ (upd H p (.dK [])) E (.ref p::xs) (.oi []::Xs):=by
  have g:Same H (upd H p (.dK [])):=bR hp _
  have nA:=h.newA hp
  refine ⟨h.bf,h.fh.trans g,fun b o e=>?_, .cons (A:=[p]) ⟨p,[],rfl,rfl,aA, .nil⟩ (h.sl.mono fun o s C _ hC q=>q.stay (Same.refl _) (fun b hb=>ai fun z=>nA (z▸hC b hb)) fun _=>g),List.nodup_cons.mpr ⟨nA,h.nd⟩,fun a ha=>?_,by simp [h.len],h.pl⟩
  · obtain ⟨e1,e2⟩:=Option.filter_eq_some_iff.mp e
    by_cases hb:b=p
    · subst hb;rw [aA] at e1;cases e1;cases e2
    · rw [ai hb] at e1;exact h.tf b o (gr e1 e2)
  · rcases List.mem_cons.mp ha with z | z
    · subst z;exact h.fh.free hp
    · exact h.fr a z
theorem FrF.mutI {i:Nat} {kvs:List (bN×PyData)} (h:FrF K B F A σ H E xs Xs) (e:E[i]? =some (.oi kvs)) (c:∀s∈Xs,s.isBr=false):
    ∃l us,σ[i]? =some (some (.ref l))∧H l=some (.dK us)∧KvOk K F us kvs∧∀us' kvs',KvOk K F us' kvs'→FrF K B F A σ (upd H l (.dK us')) (E.set i (.oi kvs')) xs Xs:=by
  obtain ⟨o,A0,A1,A2,eA,eo,hp,put⟩:=h.sl.at (k:=Xs.length+i) (s:= .oi kvs) (by rw [List.getElem?_append_right (by omega)];simpa using e)
  rw [List.getElem?_append_right (by rw [List.length_map,h.len];omega),List.length_map,h.len,Nat.add_sub_cancel_left] at eo
  obtain ⟨l,us,rfl,rfl,hl,r⟩:=hp
  refine ⟨l,us,eo,hl,r,fun us' kvs' r'=>?_⟩
  have hlA:l∈A:=by rw [eA];simp
  have nl:∀b,b∈A0∨b∈A2→b≠l:=fun b hb z=>by
    subst z
    have nd:=h.nd
    rw [eA] at nd
    rcases hb with hb | hb
    · exact (List.nodup_append.mp nd).2.2 b hb b (by simp) rfl
    · exact (List.nodup_append.mp (List.nodup_append.mp nd).2.1).2.2 b (by simp) b hb rfl
  have lF:F l=none:=h.fr l hlA
  have z:=put (SlOk K F (upd H l (.dK us')) σ) (some (.ref l)) (.oi kvs') [l] ⟨l,us',rfl,rfl,aA,r'⟩ fun o s C hs hC q=>q.stay (Same.refl _) (fun b hb=>ai (nl b (hC b hb))) fun z=>by
    rcases List.mem_append.mp hs with hs | hs
    · rw [c s hs] at z;cases z
    · have:=h.pl s hs
      cases s <;> simp [Sl.isAl,Sl.isBr] at this z
  have e3:(Xs++E).set (Xs.length+i) (.oi kvs')=Xs++E.set i (.oi kvs'):=by
    rw [List.set_append_right _ _ (by omega),Nat.add_sub_cancel_left]
  have e2:(List.map some xs++σ).set (Xs.length+i) (some (V.ref l))=List.map some xs++σ:=by
    rw [←h.len,List.set_append_right _ _ (by rw [List.length_map];omega),List.length_map,Nat.add_sub_cancel_left]
    congr 1
    exact List.ext_getElem? fun j=>by
      by_cases hj:i=j
      · subst hj
        rw [List.getElem?_set_self',eo];rfl
      · rw [List.getElem?_set_ne hj]
  rw [e2,e3,←eA] at z
  refine ⟨h.bf,fun b o q=>?_,fun b o q=>?_,z,h.nd,h.fr,h.len,fun s hs=>?_⟩
  · rw [ai (fun z=>by rw [z,lF] at q;cases q)]
    exact h.fh _ _ q
  · obtain ⟨q1,q2⟩:=Option.filter_eq_some_iff.mp q
    by_cases hb:b=l
    · subst hb;rw [aA] at q1;cases q1;cases q2
    · rw [ai hb] at q1;exact h.tf b o (gr q1 q2)
  · rcases List.mem_or_eq_of_mem_set hs with hs | hs
    · exact h.pl s hs
    · subst hs;rfl
end
section
variable {X:Cx} {e ek:Expr} {m m2:Bool} {f fk fe:aV} {x:Str} {p p2 pos:Pos}
theorem tQ:EX X (.Dict [] [] pos) true rT:=by
  refine dl qZ fun σ H Q z=>?_
  obtain ⟨B,E,xs,Xs,res,E',⟨F,A,fr⟩,c,e,q⟩:=z
  cases e
  intro p hp
  exact q _ _ ⟨_,_,fr.newI hp⟩
theorem vN (i:Nat) (hu:X.A.units+64 < cLine) (he:EX X e m f) (hN:X.N[i]? =some x:=by rfl) (hv:qk X.env.scope x:=by first | exact Or.inl rfl | exact Or.inr (Or.inl rfl) | exact Or.inr (Or.inr rfl)) (hd:(x == ("__debug__":Str))=false:=by decide) (hcd:(x == ("__classdict__":Str))=false:=by decide)
    (hm:behindInMarks .In (.Name x p)=false:=by with_unfolding_all rfl):TX X (.Compare e [.In] [.Name x p] pos) m (vL i f):=by
  refine jM (g6 (vE (by omega)) he (fZ hN hv hd hcd) hm) fun σ H Q z=>?_
  obtain ⟨B,E,xs,Xs,b,E',fr,cl,e,q⟩:=z
  obtain ⟨⟨s1,E1⟩,e1,e⟩:=Option.bind_eq_some_iff.mp e
  obtain ⟨kd,e2,e⟩:=Option.bind_eq_some_iff.mp e
  obtain ⟨k,e3,e⟩:=Option.bind_eq_some_iff.mp e
  simp only at e
  split at e
  · rename_i kvs ei
    cases e
    refine ⟨B,E,xs,Xs,s1,_,fr,cl,e1,fun v1 H1 ⟨F1,A1,fr1⟩=>?_⟩
    have r1:=(fr1.look0 e2).1
    rw [lB e3] at r1
    obtain rfl:=nM r1
    obtain ⟨A',fr2⟩:=fr1.pop
    obtain ⟨o,A2,eo,l,us,rfl,rfl,hl,hkv⟩:=fr2.var ei
    refine ⟨_,eo,l,us,k,rfl,rfl,hl,_,rfl,?_⟩
    have g:(hJ us k).isSome=(eQ kvs k).isSome:=by
      rcases nY (k:=k) hkv with ⟨a,b⟩ | ⟨_,_,a,b,_⟩ <;> rw [a,b] <;> rfl
    rw [g]
    exact q _ ⟨F1,A',fr2⟩
  · cases e
theorem tR (i:Nat) {ed:Expr} {fd:aV} {apos cpos:Pos} (hu:X.A.units+64 < cLine) (hk:EX X ek false fk) (hc:EX X ed false fd) (hN:X.N[i]? =some x:=by rfl) (hv:qk X.env.scope x:=by first | exact Or.inl rfl | exact Or.inr (Or.inl rfl) | exact Or.inr (Or.inr rfl)) (hd:(x == ("__debug__":Str))=false:=by decide) (hcd:(x == ("__classdict__":Str))=false:=by decide)
    (hm:M2 X (.Name x p) "get" apos ek ed cpos:=by exact ⟨rfl,rfl,rfl,rfl⟩):EX X (.Call (.Attribute (.Name x p) "get" apos) [ek,ed] [] cpos) false (o5 i fk fd):=by
  refine dl (q9 (by omega) (fZ hN hv hd hcd) hk hc hm) fun σ H Q z=>?_
  obtain ⟨B,E,xs,Xs,res,E',fr,cl,e,q⟩:=z
  unfold o5 at e
  split at e
  · rename_i kv0 ei0
    obtain ⟨⟨s1,E1⟩,e1,e⟩:=Option.bind_eq_some_iff.mp e
    obtain ⟨⟨s2,E2⟩,e4,e⟩:=Option.bind_eq_some_iff.mp e
    obtain ⟨kd,e2,e⟩:=Option.bind_eq_some_iff.mp e
    obtain ⟨c,e5,e⟩:=Option.bind_eq_some_iff.mp e
    obtain ⟨k,e3,e⟩:=Option.bind_eq_some_iff.mp e
    simp only at e
    split at e
    · rename_i kvs ei
      obtain ⟨F0,A0,fr0⟩:=fr
      obtain ⟨o0,C0,eo0,l0,us0,rfl,rfl,hl0,hkv0⟩:=fr0.var ei0
      refine ⟨_,eo0,l0,rfl, .inl ⟨us0, .inl hl0⟩,B,E,xs,Xs,s1,E1,⟨F0,A0,fr0⟩,(fun z=>by cases z),e1,fun y H2 fr2=>?_⟩
      refine ⟨B,E1,_,_,s2,E2,fr2,(fun z=>by cases z),e4,fun w H3 ⟨F3,A3,fr3⟩=>?_⟩
      obtain ⟨v1,ev1,rb,_⟩:=fr3.look (k:=1) rfl e2
      obtain ⟨v2,ev2,rc,_⟩:=fr3.look (k:=0) rfl e5
      cases ev1;cases ev2
      rw [lB e3] at rb
      obtain rfl:=nM rb
      obtain ⟨o,C1,eo,l,us,rfl,rfl,hl,hkv⟩:=fr3.var ei
      rw [eo0] at eo
      cases eo
      refine ⟨_, .inl ⟨us,k, .inl hl,rfl,rfl⟩,?_⟩
      obtain ⟨A4,fr4⟩:=fr3.pop
      obtain ⟨A5,fr5⟩:=fr4.pop
      rcases nY (k:=k) hkv with ⟨a,b⟩ | ⟨v,d,a,b,r⟩
      · rw [b] at e
        simp only at e
        split at e
        · rename_i hf
          cases e
          rw [a]
          exact q _ _ ⟨F3,A5,fr5.push ⟨rfl,_,rfl,fr3.cold rc hf⟩⟩
        · cases e
      · rw [b] at e
        cases e
        rw [a]
        exact q _ _ ⟨F3,A5,fr5.push ⟨rfl,_,rfl,r⟩⟩
    · cases e
  · cases e
theorem tS (i:Nat) (hu:X.A.units+64 < cLine) (he:EX X e m fe) (hk:EX X ek m2 fk) (hN:X.N[i]? =some x:=by rfl) (hv:qk X.env.scope x:=by first | exact Or.inl rfl | exact Or.inr (Or.inl rfl) | exact Or.inr (Or.inr rfl)) (hd:(x == ("__debug__":Str))=false:=by decide) (hcd:(x == ("__classdict__":Str))=false:=by decide)
    (hs:swapsWith e (some (.Subscript (.Name x p) ek p2)) pos.line X.env=pure false:=by rfl):SX X (.Assign [.Subscript (.Name x p) ek p2] e pos) (uA i fk fe):=ie (tj (by omega) (fZ hN hv hd hcd) hk he hs) fun D σ H z=>by
  obtain ⟨B,E,xs,Xs,E',fl,fr,cl,e,q⟩:=z
  obtain ⟨⟨s,E1⟩,e1,e⟩:=Option.bind_eq_some_iff.mp e
  obtain ⟨⟨d,E2⟩,e2,e⟩:=Option.bind_eq_some_iff.mp e
  refine ⟨B,E,xs,Xs,s,E1,fr,fun _=>Calm.nil cl,e1,fun v H1 ⟨F,A,fr1⟩=>?_⟩
  obtain ⟨F2,A2,fr2⟩:=fr1.frz0 e2
  simp only at e
  split at e
  · rename_i kv0 ei
    obtain ⟨⟨s3,E3⟩,e3,e⟩:=Option.bind_eq_some_iff.mp e
    obtain ⟨kd,e4,e⟩:=Option.bind_eq_some_iff.mp e
    obtain ⟨k,e5,e⟩:=Option.bind_eq_some_iff.mp e
    obtain ⟨o,A1,eo,l,us0,rfl,_⟩:=fr2.var ei
    refine ⟨_,eo,B,E2,v::xs, .sh d::Xs,s3,E3,⟨F2,A2,fr2⟩,fun _=>Calm.cons (Calm.nil cl) rfl,e3,fun v3 H3 ⟨F3,A3,fr3⟩=>?_⟩
    simp only at e
    split at e
    · rename_i kvs ei3
      split at e
      · rename_i hlen
        cases e
        have r3:=(fr3.look0 e4).1
        rw [lB e5] at r3
        obtain rfl:=nM r3
        obtain ⟨A4,fr4⟩:=fr3.pop
        obtain ⟨v',A5,ev,rfl,w,ew,rv⟩:=fr4.ext (k:=0) rfl
        cases ev;cases ew
        obtain ⟨A6,fr5⟩:=fr4.pop
        obtain ⟨l',us',eo',hl',r',put⟩:=fr5.mutI ei3 (Calm.nil cl)
        rw [eo] at eo'
        cases eo'
        refine ⟨l,_,rfl,DPut.k hl' (by rw [r'.len];exact mr (by omega)),q _ _ ⟨_,_,put _ _ (vM rv r')⟩⟩
      · cases e
    · cases e
  · cases e
end
end PL
namespace PL
open PySem L2 Nh
def rI (i:Nat):List Int:=(List.range i).map fun (k:Nat)=>(k:Int)
theorem o7 (i:Nat):rI (i+1)=rI i++[(i:Int)]:=by simp [rI,List.range_succ]
theorem rI_mem {i:Nat} {k:Int}:k∈rI i↔0≤k∧k < (i:Int):=by
  unfold rI
  rw [List.mem_map]
  constructor
  · rintro ⟨n,hn,rfl⟩
    have:=List.mem_range.mp hn
    omega
  · rintro ⟨h1,h2⟩
    exact ⟨k.toNat,List.mem_range.mpr (by omega),by omega⟩
theorem rX (i:Nat):(rI i).Nodup:=by
  unfold rI
  refine List.Pairwise.map _ (fun a b h=>?_) List.nodup_range
  omega
def tn (c:List (Str×Int)) (k:Int):Int:=(c.getD k.toNat (⟨#[]⟩,0)).2
structure BOk (c:List (Str×Int)) (is:List Int) (a:Str) (n:Int):Prop where
  ne:is≠[]
  up:is.Pairwise (· < ·)
  nail:∀k∈is,∃q,c[k.toNat]? =some q∧q.1=a
  sum:(is.map (tn c)).sum=n
structure BIn (c:List (Str×Int)) (i:Nat) (st:List Bw×List (List Int)):Prop where
  pm:((st.1.map (·.2.2)).flatten++st.2.flatten).Perm (rI i)
  w:∀x∈st.1,BOk c x.2.2 x.1 x.2.1
  b:∀x∈st.2,∃a,BOk c x a 0
theorem o8 {c:List (Str×Int)} {i:Nat} {st:List Bw×List (List Int)} {is:List Int} {a:Str} {m n:Int} (pm:(is++((st.1.map (·.2.2)).flatten++st.2.flatten)).Perm (rI i)) (hw:∀x∈st.1,BOk c x.2.2 x.1 x.2.1) (hb:∀x∈st.2,∃a,BOk c x a 0)
    (his:(is=[]∧m=0)∨BOk c is a m) (hc:c[i]? =some (a,n)):BIn c (i+1) (cE i a (m+n) is st):=by
  have lt:∀k∈is,k < (i:Int):=fun k hk=>(rI_mem.mp (pm.mem_iff.mp (List.mem_append_left _ hk))).2
  have up:is.Pairwise (· < ·):=his.elim (fun z=>by rw [z.1];exact .nil) (·.up)
  have nl:∀k∈is,∃q,c[k.toNat]? =some q∧q.1=a:=his.elim (fun z=>by rw [z.1];exact fun _ h=>nomatch h) (·.nail)
  have sm:(is.map (tn c)).sum=m:=his.elim (fun z=>by rw [z.1,z.2];rfl) (·.sum)
  have ti:tn c (i:Int)=n:=by
    unfold tn
    rw [List.getD_eq_getElem?_getD,show ((i:Int)).toNat=i by omega,hc]
    rfl
  have ok:BOk c (is++[(i:Int)]) a (m+n):=by
    refine ⟨by simp,List.pairwise_append.mpr ⟨up,List.pairwise_singleton _ _,fun x hx y hy=>?_⟩,fun k hk=>?_,?_⟩
    · rw [List.mem_singleton.mp hy]
      exact lt x hx
    · rcases List.mem_append.mp hk with h | h
      · exact nl k h
      · rw [List.mem_singleton.mp h,show ((i:Int)).toNat=i by omega]
        exact ⟨_,hc,rfl⟩
    · rw [List.map_append,List.sum_append,sm]
      simp [ti]
  unfold cE
  by_cases h0:m+n=0
  · rw [if_pos h0]
    rw [h0] at ok
    refine ⟨?_,hw,fun x hx=>?_⟩
    · refine List.perm_iff_count.mpr fun x=>?_
      have:=pm.count_eq x
      simp only [List.flatten_append,List.flatten_cons,List.flatten_nil,List.append_nil,List.count_append,o7] at this ⊢
      omega
    · rcases List.mem_append.mp hx with h | h
      · exact hb x h
      · rw [List.mem_singleton.mp h]
        exact ⟨_,ok⟩
  · rw [if_neg h0]
    refine ⟨?_,fun x hx=>?_,hb⟩
    · refine List.perm_iff_count.mpr fun x=>?_
      have:=pm.count_eq x
      simp only [List.map_append,List.map_cons,List.map_nil,List.flatten_append,List.flatten_cons,List.flatten_nil,List.append_nil,List.count_append,o7] at this ⊢
      omega
    · rcases List.mem_append.mp hx with h | h
      · exact hw x h
      · rw [List.mem_singleton.mp h]
        exact ok
theorem jX (i:Nat) (p:Str×Int) (st:List Bw×List (List Int)):eM i p st=cE i p.1 p.2 [] st∨∃ws n is,st.1=ws++[(p.1,n,is)]∧eM i p st=cE i p.1 (n+p.2) is (ws,st.2):=by
  rcases List.eq_nil_or_concat st.1 with e | ⟨ws,x,e⟩
  · exact .inl (by unfold eM;rw [e];rfl)
  · rw [List.concat_eq_append] at e
    obtain ⟨a,n,is⟩:=x
    have hb:eM i p st=if a=p.1 then cE i p.1 (n+p.2) is (st.1.dropLast,st.2) else cE i p.1 p.2 [] st:=by
      unfold eM
      rw [e,List.getLast?_concat]
    by_cases h:a=p.1
    · rw [if_pos h,e,List.dropLast_concat] at hb
      subst h
      exact .inr ⟨ws,n,is,e,hb⟩
    · rw [if_neg h] at hb
      exact .inl hb
theorem o9 {c:List (Str×Int)} {i:Nat} {st:List Bw×List (List Int)} {p:Str×Int} (h:BIn c i st) (hc:c[i]? =some p):BIn c (i+1) (eM i p st):=by
  rcases jX i p st with e | ⟨ws,n,is,e1,e⟩
  · rw [e]
    have:=o8 (is:=[]) (a:=p.1) (m:=0) (n:=p.2) h.pm h.w h.b (.inl ⟨rfl,rfl⟩) hc
    rwa [Int.zero_add] at this
  · rw [e]
    refine o8 (st:=(ws,st.2)) ?_ (fun x hx=>h.w x (by rw [e1];exact List.mem_append_left _ hx)) h.b (.inr (h.w _ (by rw [e1];exact List.mem_append_right _ (List.mem_singleton.mpr rfl)))) hc
    have:=h.pm
    rw [e1] at this
    refine List.perm_iff_count.mpr fun x=>?_
    have:=this.count_eq x
    simp only [List.map_append,List.map_cons,List.map_nil,List.flatten_append,List.flatten_cons,List.flatten_nil,List.append_nil,List.count_append] at this ⊢
    omega
theorem o_ {c:List (Str×Int)}:∀(r:List (Str×Int)) (i:Nat) (st:List Bw×List (List Int)),c.drop i=r→BIn c i st→BIn c (i+r.length) (aD i r st)
  | [],i,st,_,h=>h
  | p::r,i,st,e,h=>by
    have hc:c[i]? =some p:=by
      have:=congrArg (fun l=>l[0]?) e
      simpa using this
    have hd:c.drop (i+1)=r:=by
      rw [←List.drop_drop,e]
      rfl
    rw [aD,List.length_cons,show i+(r.length+1)=(i+1)+r.length by omega]
    exact o_ r (i+1) _ hd (o9 h hc)
theorem mP:∀(r:List (Str×Int)) (i:Nat) (st:List Bw×List (List Int)) (F:List (List Int)),aD i r st=([],F)→(∀w∈st.1,∃b∈F,∃t,t≠[]∧b=w.2.2++t)∧∀b∈st.2,b∈F
  | [],i,st,F,e=>by
    rw [aD] at e
    subst e
    exact ⟨fun _ h=>(nomatch h),fun _ h=>h⟩
  | p::r,i,st,F,e=>by
    rw [aD] at e
    obtain ⟨h1,h2⟩:=mP r (i+1) _ F e
    have push:∀(ws:List Bw) (a:Str) (n:Int) (is:List Int),eM i p st=cE i a n is (ws,st.2)→(∀w∈ws,∃b∈F,∃t,t≠[]∧b=w.2.2++t)∧(∀b∈st.2,b∈F)∧∃b∈F,∃t,t≠[]∧b=is++t:=by
      intro ws a n is eb
      rw [eb] at h1 h2
      unfold cE at h1 h2
      by_cases h0:n=0
      · rw [if_pos h0] at h1 h2
        exact ⟨h1,fun b hb=>h2 b (List.mem_append_left _ hb),_,h2 _ (List.mem_append_right _ (List.mem_singleton.mpr rfl)),[(i:Int)],by simp,rfl⟩
      · rw [if_neg h0] at h1 h2
        refine ⟨fun w hw=>h1 w (List.mem_append_left _ hw),h2,?_⟩
        obtain ⟨b,hb,t,ht,e⟩:=h1 _ (List.mem_append_right _ (List.mem_singleton.mpr rfl))
        exact ⟨b,hb,(i:Int)::t,by simp,by rw [e];simp⟩
    rcases jX i p st with e1 | ⟨ws,n,is,e0,e1⟩
    · obtain ⟨q1,q2,_⟩:=push st.1 _ _ _ e1
      exact ⟨q1,q2⟩
    · obtain ⟨q1,q2,q3⟩:=push ws _ _ _ e1
      refine ⟨fun w hw=>?_,q2⟩
      rw [e0] at hw
      rcases List.mem_append.mp hw with h | h
      · exact q1 w h
      · rw [List.mem_singleton.mp h]
        exact q3
theorem apart {bs:List (List Int)} (nd:bs.flatten.Nodup) {m m':Nat} {b b':List Int} {x:Int} (h:bs[m]? =some b) (h':bs[m']? =some b') (hx:x∈b) (hx':x∈b'):m=m':=by
  have pw:=(List.pairwise_flatten.mp nd).2
  rcases Nat.lt_trichotomy m m' with l | l | l
  · exact absurd rfl (List.pairwise_iff_getElem.mp pw m m' (List.getElem?_eq_some_iff.mp h).1 (List.getElem?_eq_some_iff.mp h').1 l x (by rw [(List.getElem?_eq_some_iff.mp h).2];exact hx) x (by rw [(List.getElem?_eq_some_iff.mp h').2];exact hx'))
  · exact l
  · exact absurd rfl (List.pairwise_iff_getElem.mp pw m' m (List.getElem?_eq_some_iff.mp h').1 (List.getElem?_eq_some_iff.mp h).1 l x (by rw [(List.getElem?_eq_some_iff.mp h').2];exact hx') x (by rw [(List.getElem?_eq_some_iff.mp h).2];exact hx))
structure Bks (c:List (Str×Int)) (bs:List (List Int)):Prop where
  pm:bs.flatten.Perm (rI c.length)
  ok:∀b∈bs,∃a,BOk c b a 0
  up:bs.Pairwise fun x y=>x.getD 0 0 < y.getD 0 0
  pre:∀(i:Nat) (st:List Bw×List (List Int)),BIn c i st→(aD i (c.drop i) st).1=[]→(aD i (c.drop i) st).2.Perm bs→(∀w∈st.1,∃b∈bs,∃t,t≠[]∧b=w.2.2++t)∧∀b∈st.2,b∈bs
theorem yc {c:List (Str×Int)} (h:(aD 0 c ([],[])).1=[]):Bks c (dg (aD 0 c ([],[])).2):=by
  have hi:=o_ (c:=c) c 0 ([],[]) rfl ⟨List.Perm.refl _,fun _ z=>(nomatch z),fun _ z=>(nomatch z)⟩
  rw [Nat.zero_add] at hi
  have hp:=hi.pm
  rw [h] at hp
  have sp:(dg (aD 0 c ([],[])).2).Perm (aD 0 c ([],[])).2:=List.mergeSort_perm _ _
  have pmF:(dg (aD 0 c ([],[])).2).flatten.Perm (rI c.length):=sp.flatten.trans hp
  have okF:∀b∈dg (aD 0 c ([],[])).2,∃a,BOk c b a 0:=fun b hb=>hi.b b (sp.mem_iff.mp hb)
  refine ⟨pmF,okF,?_,fun i st hst h1 h2=>?_⟩
  · have so:(dg (aD 0 c ([],[])).2).Pairwise fun x y=>oY x y=true:=List.pairwise_mergeSort kJ kK _
    have nd:(dg (aD 0 c ([],[])).2).flatten.Nodup:=pmF.nodup_iff.mpr (rX _)
    have dj:=(List.pairwise_flatten.mp nd).2
    generalize dg (aD 0 c ([],[])).2=bs at so dj okF
    refine List.Pairwise.imp_of_mem (fun {x y} hx hy q=>?_) (so.and dj)
    obtain ⟨ax,ox⟩:=okF x hx
    obtain ⟨ay,oy⟩:=okF y hy
    obtain ⟨q1,q2⟩:=q
    cases x with
    | nil=>exact absurd rfl ox.ne
    | cons u us=>
      cases y with
      | nil=>exact absurd rfl oy.ne
      | cons v vs=>
        show u < v
        have ne:u≠v:=q2 u (List.mem_cons_self ..) v (List.mem_cons_self ..)
        rcases Int.lt_or_gt_of_ne ne with l | l
        · exact l
        · exfalso
          have:(v::vs) < (u::us):=List.cons_lt_cons_iff.mpr (.inl l)
          simp [oY,this] at q1
  · have e:aD i (c.drop i) st=([],(aD i (c.drop i) st).2):=by rw [←h1]
    obtain ⟨a,b⟩:=mP _ i st _ e
    exact ⟨fun w hw=>let ⟨b,hb,t⟩:=a w hw;⟨b,h2.mem_iff.mp hb,t⟩,fun x hx=>h2.mem_iff.mp (b x hx)⟩
end PL
namespace Nhk05
open PySem L2 Nh PL
abbrev av:List PyData→Option Sl:=rS
def iN:fg:=(aP (bU (dr (ad (eN (bX .lt)) false (ab 1) (cG cM (af false (ab 0) aF))))
  (bQ (ad dY false (ab 0) (ab 1)))
  a8)
  (bQ (pC (.int 0))))
def dE:List PyData→Option Sl:=gc 2 2 iN
def hG:fg:=(aP (aR 2 (ad b8 false (ad bO false (ad bO false (ad du false (ad b8 false (ab 0) (ad dQ false (pC (.int 10)) (pC (.int 40)))) (ad bO false (pC (.int 62089911)) (ad du false (pC (.int 2)) (ab 1)))) (ad du false (pC (.int 982451653)) (ab 1))) (pC (.int 17))) (pC (.int 4294967291))))
  (bQ (ad b8 false (ad du false (ab 2) (ad bO false (ad bO false (ad bx false (ab 2) (pC (.int 1024))) (ad du false (pC (.int 2)) (ab 1))) (pC (.int 1)))) (pC (.int 4294967279)))))
def e_:List PyData→Option Sl:=gc 2 3 hG
def dN:iR:=(cA 2 (a_ (aG 0) (a_ (aG 1) cw)))
def cF:aV:=(dO (aJ (ab 0) (aJ (ad dt false (pC (.int 0)) (ab 1)) bG)))
def eS:fg:=(bQ (iJ [none,none] (cH (ab 0)) dN gS cF))
def aI:List PyData→Option Sl:=gc 1 1 eS
def bL:iR:=(aG 5)
def bM:fg:=(aP (aR 6 (ab 1))
  (aP (bU (dm (dr (ad (eN (bX .lt)) false (cG eO (af false (ab 0) aF)) (ad dQ false (pC (.int 10)) (pC (.int 18))))) (dr (a9 (bX .lt) (bX .lt) false false (gb dZ (pC (.int 28))) (ab 1) (pC (.int 28)))))
  (aR 6 (ao e_ (af false (ab 0) (af false (ab 5) aF))))
  a8)
  (aP (cu (aO 4 (dO (aJ (ad dY false (pC (.str "abcz")) (ad b8 false (ab 6) (pC (.int 4)))) (aJ (ad dt false (ad b8 false (ad bx false (ab 6) (pC (.int 4))) (pC (.int 7))) (pC (.int 3))) bG)))))
  (aR 1 (ad bx false (ab 1) (pC (.int 28)))))))
def eT:fg:=(aP (aR 1 (ad bx false (ab 0) (pC (.int 5))))
  (aP (bU (dr (ad fO false (ad b8 false (ab 0) (pC (.int 5))) (pC (.int 2))))
  (aP (aR 2 (ad dY false (pC (.str "abcdefghijklmnopqrstuvwxyz")) (ad b8 false (ab 1) (pC (.int 26)))))
  (bQ (ca (aJ (dO (aJ (ab 2) (aJ (ad dt false (ad b8 false (ad bx false (ab 1) (pC (.int 26))) (ad dt false (ad du false (pC (.int 2)) (ad dQ false (pC (.int 10)) (pC (.int 30)))) (pC (.int 1)))) (ad dt false (ad dQ false (pC (.int 10)) (pC (.int 30))) (pC (.int 1)))) bG))) bG))))
  a8)
  (aP (aR 3 (ad b8 false (ab 1) (pC (.int 13))))
  (aP (aR 1 (ad bx false (ab 1) (pC (.int 13))))
  (aP (aR 4 (ca bG))
  (aP (dv (ba (af false (ab 3) aF)) bL
  bM)
  (bQ (ab 4))))))))
def bv:List PyData→Option Sl:=gc 1 7 eT
def bE:iR:=(aG 5)
def bF:fg:=(aP (aR 6 (ad b8 false (ad bx false (ab 5) (pC (.int 5))) (ad bO false (cG cM (af false (ab 4) aF)) (pC (.int 1)))))
  (aP (bU (dr (ad fO false (ad b8 false (ab 5) (pC (.int 5))) (pC (.int 3))))
  (aR 4 (ad bO false (ab 4) (ao aI (af false (cC false (ab 4) (aW (ab 6)) bg) aF))))
  (bU (dr (ad fO false (ad b8 false (ab 5) (pC (.int 5))) (pC (.int 4))))
  (aP (aR 7 (ao bv (af false (ad bx false (ab 5) (pC (.int 5))) aF)))
  (aP (aR 7 (ad bO false (ab 7) (ao aI (af false (ab 7) aF))))
  (aR 4 (ad bO false (ad bO false (cC false (ab 4) bg (aW (ab 6))) (ab 7)) (cC false (ab 4) (aW (ab 6)) bg)))))
  (aR 4 (ad bO false (ab 4) (ao bv (af false (ab 5) aF))))))
  (aR 4 (cC false (ab 4) bg (aW (ab 3))))))
def gz:fg:=(aP (aR 4 (ca bG))
  (aP (dv (dw (ad bO false (ca (aJ (ao dE (af false (ab 0) (af false (ab 1) aF))) bG)) (cC false (ab 0) (aW (ad bO false (ab 1) (pC (.int 1)))) (aW (ab 2))))) bE
  bF)
  (bQ (ab 4))))
def dS:List PyData→Option Sl:=gc 4 8 gz
def bJ:iR:=(aG 2)
def bK:fg:=(aP (bU (dm (bC (cJ (gb (ee .int) (ad dY false (ab 0) (ab 2))))) (dm (cJ (gb (ee .bool) (ad dY false (ab 0) (ab 2)))) (bC (dr (a9 (bX .le) (bX .lt) false false (pC (.int 0)) (ad dY false (ab 0) (ab 2)) (ab 1))))))
  (bQ (pC (.bool false)))
  a8)
  (bU (bS (dr (ad (eN (bX .gt)) false (ab 2) (pC (.int 0)))) (dr (ad (eN (bX .le)) false (ad dY false (ab 0) (ab 2)) (ad dY false (ab 0) (ad dt false (ab 2) (pC (.int 1)))))))
  (bQ (pC (.bool false)))
  a8))
def cc:fg:=(aP (bU (dm (bC (cJ (gb (ee .list) (ab 0)))) (dr (ad fO false (ab 0) (ca bG))))
  (bQ (pC (.bool false)))
  a8)
  (aP (dv (ba (af false (cG cM (af false (ab 0) aF)) aF)) bJ
  bK)
  (bQ (pC (.bool true)))))
def aN:List PyData→Option Sl:=gc 2 3 cc
def bA:iR:=(aG 3)
def bB:fg:=(aP (bU (dr (ad gv false (ad dY false (ad dY false (ab 0) (ab 3)) (pC (.int 0))) (ad dY false (ad dY false (ab 0) (ad dY false (ab 1) (pC (.int 0)))) (pC (.int 0)))))
  (bQ (pC (.bool false)))
  a8)
  (aR 2 (ad bO false (ab 2) (ad dY false (ad dY false (ab 0) (ab 3)) (pC (.int 1))))))
def b6:fg:=(aP (aR 2 (pC (.int 0)))
  (aP (dv (dw (ab 1)) bA
  bB)
  (bQ (ad fO false (ab 2) (pC (.int 0))))))
def aH:List PyData→Option Sl:=gc 2 4 b6
def dC:iR:=(aG 5)
def dD:fg:=(aP (bU (vL 2 (ab 5))
  (bQ (pC (.bool false)))
  a8)
  (uA 2 (ab 5) (ab 3)))
def eC:iR:=(cA 2 (a_ (aG 3) (a_ (aG 4) cw)))
def eD:fg:=(dv (dw (ab 4)) dC
  dD)
def b9:iR:=(aG 5)
def b_:fg:=(aP (aR 3 (o5 2 (ab 5) (gb dZ (pC (.int 1)))))
  (aP (bU (dr (ad (eN (bX .lt)) false (ab 3) (pC (.int 0))))
  (bQ (pC (.bool false)))
  a8)
  (aP (bU (dr (ad fO false (ad dY false (ad dY false (ab 0) (ab 3)) (pC (.int 0))) (ab 5)))
  (cu (aO 6 (ab 3)))
  a8)
  (aP (bU (dr (ad gv false (ad dY false (ab 6) (gb dZ (pC (.int 1)))) (ab 3)))
  (bQ (pC (.bool false)))
  a8)
  (bU (dr (ad fO false (ad dY false (ad dY false (ab 0) (ab 3)) (gb dZ (pC (.int 1)))) (ab 5)))
  (cu (eP 6))
  a8)))))
def eU:fg:=(aP (aR 2 rT)
  (aP (dv (bI (ab 0)) eC
  eD)
  (aP (aR 6 (ca bG))
  (aP (dv (ba (af false (ab 1) aF)) b9
  b_)
  (bQ (pC (.bool true)))))))
def cn:List PyData→Option Sl:=gc 2 7 eU
def dU:iR:=(aG 2)
def dW:fg:=(aP (bU (dm (bC (cJ (ao aN (af false (ad dY false (ab 1) (ab 2)) (af false (cG cM (af false (ab 0) aF)) aF))))) (bC (cJ (ao aH (af false (ab 0) (af false (ad dY false (ab 1) (ab 2)) aF))))))
  (bQ (pC (.bool false)))
  a8)
  (bU (bS (dr (ad (eN (bX .gt)) false (ab 2) (pC (.int 0)))) (dr (ad (eN (bX .le)) false (ad dY false (ad dY false (ab 1) (ab 2)) (pC (.int 0))) (ad dY false (ad dY false (ab 1) (ad dt false (ab 2) (pC (.int 1)))) (pC (.int 0))))))
  (bQ (pC (.bool false)))
  a8))
def fL:fg:=(aP (bU (bC (cJ (gb (ee .list) (ab 1))))
  (bQ (pC (.bool false)))
  a8)
  (aP (dv (ba (af false (cG cM (af false (ab 1) aF)) aF)) dU
  dW)
  (bQ (ao cn (af false (ab 1) (af false (cG cM (af false (ab 0) aF)) aF))))))
def aE:List PyData→Option Sl:=gc 2 3 fL
def fS:iR:=(cA 2 (a_ (aG 0) (a_ (aG 1) cw)))
def fM:aV:=(dO (aJ (pC (.str "q")) (aJ (ab 1) bG)))
def gW:iR:=(aG 3)
def gX:fg:=(aP (aR 4 (ad b8 false (ad bx false (ab 3) (pC (.int 3))) (ad bO false (cG cM (af false (ab 2) aF)) (pC (.int 1)))))
  (aP (aR 5 (cC false (ao bv (af false (ad bx false (ab 3) (pC (.int 7))) aF)) bg (aW (pC (.int 2)))))
  (bU (bS (dr (ad fO false (ad b8 false (ab 3) (pC (.int 3))) (pC (.int 0)))) (dr (ad (eN (bX .lt)) false (ab 4) (cG cM (af false (ab 2) aF)))))
  (aP (aR 6 (ad dY false (ad dY false (ab 2) (ab 4)) (pC (.int 0))))
  (aP (aR 7 (ad dt false (ad b8 false (ad bx false (ab 3) (pC (.int 5))) (ad du false (pC (.int 2)) (ad dQ false (pC (.int 10)) (pC (.int 30))))) (ad dQ false (pC (.int 10)) (pC (.int 30)))))
  (aP (aR 8 (ca (aJ (dO (aJ (ab 6) (aJ (ab 7) bG))) (aJ (dO (aJ (ab 6) (aJ (ad dt false (ad dY false (ad dY false (ab 2) (ab 4)) (pC (.int 1))) (ab 7)) bG))) bG))))
  (aR 2 (ad bO false (ad bO false (cC false (ab 2) bg (aW (ab 4))) (ab 8)) (cC false (ab 2) (aW (ad bO false (ab 4) (pC (.int 1)))) bg))))))
  (bU (dr (ad fO false (ad b8 false (ab 3) (pC (.int 3))) (pC (.int 1))))
  (aP (aR 5 (ad bO false (ab 5) (ao aI (af false (ab 5) aF))))
  (aR 2 (ad bO false (ad bO false (cC false (ab 2) bg (aW (ab 4))) (ab 5)) (cC false (ab 2) (aW (ab 4)) bg))))
  (aR 2 (ad bO false (ad bO false (cC false (ab 2) bg (aW (ab 4))) (ca (aJ (dO (aJ (ad dY false (pC (.str "abcdefghijklmnopqrstuvwxyz")) (ad b8 false (ad bx false (ab 3) (pC (.int 11))) (pC (.int 26)))) (aJ (pC (.int 0)) bG))) bG))) (cC false (ab 2) (aW (ab 4)) bg)))))))
def mQ:fg:=(aP (aR 1 (ao dS (af false (ab 0) (af false (pC (.int 0)) (af false (pC (.int 63)) (af false (pC (.int 60)) aF))))))
  (aP (bU (dr (ad fO false (ad b8 false (ao dE (af false (ab 0) (af false (pC (.int 0)) aF))) (pC (.int 3))) (pC (.int 1))))
  (aR 1 (iJ [none,none] (dw (ab 1)) fS gS fM))
  a8)
  (aP (aR 2 (ad bO false (ab 1) (ao aI (af false (ab 1) aF))))
  (aP (dv (dw (cC false (ab 0) bg (aW (pC (.int 20))))) gW
  gX)
  (aP (aR 9 (bH (ab 2)))
  (kN 10 9 11 (dm (bC (cJ (ao aE (af false (ab 2) (af false (ab 10) aF))))) (dr (ad gv false (ab 9) (ab 2))))
  (bQ (cq (ao aE (af false (ab 2) (af false (ao av (af false (ab 9) aF)) aF))) (ad fO false (ao av (af false (ca bG) aF)) (ca bG))))))))))
def iw:List PyData→Option Sl:=gc 1 12 mQ
end Nhk05
namespace Nhk05
open PySem L2 Nh PL
def nV (i:Nat):Stmt:=PySem.Challenge.pw_nailhang_k05_blocks.main.body.getD i (.Pass ⟨0,0,0,0⟩)
section
variable {P:Program} {w:World} {K:PySem.W.Frag} {mg:Str→Option Value} {base:Heap}
abbrev fX:Stmt:=nV 1
theorem sc_blocks_of:FnScope ["cord","waiting","closed","place","piece","nail","total","places","last"] ["cord"] (am fX):=⟨rfl,rfl,rfl,by decide+kernel,rfl,by decide+kernel,by decide+kernel⟩
theorem lV (D:Def K mg "blocks_of" fX ["cord"]) (B:Bn mg):Own P w K mg base 1 "blocks_of" ["cord"] (hU K av):=by
  refine D.own sc_blocks_of (fun vs H Q E h=>?_) (fun f cdv A outer s H vs Q E hr h=>?_)
  · obtain ⟨v,e,_⟩:=oZ (D:={nx:=fun _ _=>False,rt:=Q}) h fun _ _ z=>z
    rw [e]
    rfl
  obtain ⟨v,e,t⟩:=oZ (D:={nx:=fun _ H'=>Q .non H',rt:=Q}) h fun _ _ z=>z
  subst e
  have nd:=sc_blocks_of.nd
  have ap {X:Cx}:MtR X "list.append" gq:=gg
  refine ⟨_,aK (dF (i:=1) nd rfl (Or.inl rfl) (h8 bP)) (aK (dF (i:=2) nd rfl (Or.inl rfl) (h8 bP))
    (aK (kR PassesOwn.never rfl (lD (by rfl) B.enumerate (be (pv 0) bP)) (m7 rfl (gJ (gm (i:=3) nd rfl (Or.inl rfl)) (gJ (gm (i:=4) nd rfl (Or.inl rfl)) kQ)))
      (aK (dF (i:=5) nd rfl (Or.inl rfl) (gf ix_tup (pv 4) d_ (fun _ _=>rfl))) (aK (dF (i:=6) nd rfl (Or.inl rfl) (gf ix_tup (pv 4) d_ (fun _ _=>rfl)))
      (aK (dF (i:=7) nd rfl (Or.inl rfl) (h8 bP))
      (aK (jg (PW.pt (m6 (gL (pv 1) (fun _=>rfl)) (kP (g6 kh (gf ix_tup (gf ix_list (pv 1) (on kS d_) (fun _ _=>rfl)) d_ (fun _ _=>rfl)) (pv 5) (gK _)))))
        (aK (dF (i:=8) nd rfl (Or.inl rfl) (nu PySem.F.plainAttrs_list PySem.F.slot_list_pop PySem.F.type_list_pop nz (pv 1)))
        (aK (dF (i:=6) nd rfl (Or.inl rfl) (qx m_ (gf ix_tup (pv 8) d_ (fun _ _=>rfl)) (pv 6)))
        (dh (dF (i:=7) nd rfl (Or.inl rfl) (gf ix_tup (pv 8) d_ (fun _ _=>rfl)))))) g5)
      (aK (fW (jh PySem.F.plainAttrs_list PySem.F.slot_list_append PySem.F.type_list_append ap (pv 7) (be (pv 3) bP)))
      (dh (jg (g6 kh (pv 6) d_ (gK _)) (dh (fW (jh PySem.F.plainAttrs_list PySem.F.slot_list_append PySem.F.type_list_append ap (pv 2) (be (pv 7) bP))))
        (dh (fW (jh PySem.F.plainAttrs_list PySem.F.slot_list_append PySem.F.type_list_append ap (pv 1) (be (nk (be (pv 5) (be (pv 6) (be (pv 7) bP)))) bP))))))))))))
    (aK (jg (gL (pv 1) (fun _=>rfl)) (dh (iT qp)) g5)
    (dh (iT (iD (iM (Nat.lt_of_le_of_lt (Nat.add_le_add_left (show 8≤64 by decide) _) hr.units)) (by rfl) B.sorted PyProof.Rows.boot_sorted (be (pv 2) bP))))))),t⟩
theorem kb (D:Def K mg "blocks_of" fX ["cord"]) (B:Bn mg):Own P w K mg base 1 "blocks_of" ["cord"] (xk K):=by
  refine D.own sc_blocks_of (fun vs H Q E h=>?_) (fun f cdv A outer s H vs Q E hr h=>?_)
  · obtain ⟨v,e,_⟩:=mO (D:={nx:=fun _ _=>False,rt:=Q}) h fun _ _ z=>z
    rw [e]
    rfl
  obtain ⟨v,e,t⟩:=mO (D:={nx:=fun _ H'=>Q .non H',rt:=Q}) h fun _ _ z=>z
  subst e
  have nd:=sc_blocks_of.nd
  have ap {X:Cx}:MtR X "list.append" gq:=gg
  refine ⟨_,aK (dF (i:=1) nd rfl (Or.inl rfl) (h8 bP)) (aK (dF (i:=2) nd rfl (Or.inl rfl) (h8 bP))
    (aK (kR PassesOwn.never rfl (lD (by rfl) B.enumerate (be (pv 0) bP)) (m7 rfl (gJ (gm (i:=3) nd rfl (Or.inl rfl)) (gJ (gm (i:=4) nd rfl (Or.inl rfl)) kQ)))
      (aK (dF (i:=5) nd rfl (Or.inl rfl) (gf ix_tup (pv 4) d_ (fun _ _=>rfl))) (aK (dF (i:=6) nd rfl (Or.inl rfl) (gf ix_tup (pv 4) d_ (fun _ _=>rfl)))
      (aK (dF (i:=7) nd rfl (Or.inl rfl) (h8 bP))
      (aK (jg (PW.pt (m6 (gL (pv 1) (fun _=>rfl)) (kP (g6 kh (gf ix_tup (gf ix_list (pv 1) (on kS d_) (fun _ _=>rfl)) d_ (fun _ _=>rfl)) (pv 5) (gK _)))))
        (aK (dF (i:=8) nd rfl (Or.inl rfl) (nu PySem.F.plainAttrs_list PySem.F.slot_list_pop PySem.F.type_list_pop nz (pv 1)))
        (aK (dF (i:=6) nd rfl (Or.inl rfl) (qx m_ (gf ix_tup (pv 8) d_ (fun _ _=>rfl)) (pv 6)))
        (dh (dF (i:=7) nd rfl (Or.inl rfl) (gf ix_tup (pv 8) d_ (fun _ _=>rfl)))))) g5)
      (aK (fW (jh PySem.F.plainAttrs_list PySem.F.slot_list_append PySem.F.type_list_append ap (pv 7) (be (pv 3) bP)))
      (dh (jg (g6 kh (pv 6) d_ (gK _)) (dh (fW (jh PySem.F.plainAttrs_list PySem.F.slot_list_append PySem.F.type_list_append ap (pv 2) (be (pv 7) bP))))
        (dh (fW (jh PySem.F.plainAttrs_list PySem.F.slot_list_append PySem.F.type_list_append ap (pv 1) (be (nk (be (pv 5) (be (pv 6) (be (pv 7) bP)))) bP))))))))))))
    (aK (jg (gL (pv 1) (fun _=>rfl)) (dh (iT qp)) g5)
    (dh (iT (iD (iM (Nat.lt_of_le_of_lt (Nat.add_le_add_left (show 8≤64 by decide) _) hr.units)) (by rfl) B.sorted PyProof.Rows.boot_sorted (be (pv 2) bP))))))),t⟩
abbrev jY:Stmt:=nV 3
theorem qf:FnScope ["_law_script","_law_k"] ["_law_script","_law_k"] (am jY):=⟨rfl,rfl,rfl,by decide+kernel,rfl,by decide+kernel,by decide+kernel⟩
theorem qg (D:Def K mg "_law_at" jY ["_law_script","_law_k"]) (B:Bn mg):Own P w K mg base 1 "_law_at" ["_law_script","_law_k"] (hU K dE):=by
  delta dE
  refine lA (g:=iN) D qf rfl rfl (by decide) fun f cdv A outer s H E hr=>?_
  delta iN
  exact (ag (eL (jn .lt (aa 1) (gR (by rfl) (by exact B.len) (ak (aa 0) bw)))
  (aj (cB (cr (aa 0) (aa 1))))
  cL)
  (aj (cB ae)))
abbrev jd:Stmt:=nV 4
theorem sc_law_mix:FnScope ["_law_cell","_law_k","_law_one"] ["_law_cell","_law_k"] (am jd):=⟨rfl,rfl,rfl,by decide+kernel,rfl,by decide+kernel,by decide+kernel⟩
theorem nZ (D:Def K mg "_law_mix" jd ["_law_cell","_law_k"]) (B:Bn mg):Own P w K mg base 1 "_law_mix" ["_law_cell","_law_k"] (hU K e_):=by
  delta e_
  refine lA (g:=hG) D sc_law_mix rfl rfl (by decide) fun f cdv A outer s H E hr=>?_
  delta hG
  exact (ag (aY 2 sc_law_mix.nd (dG (cf (cf (ig (dG (aa 0) (iZ ae ae)) (cf ae (ig ae (aa 1)))) (ig ae (aa 1))) ae) ae))
  (aj (cB (dG (ig (aa 2) (cf (cf (eu (aa 2) ae) (ig ae (aa 1))) ae)) ae))))
abbrev fT:Stmt:=nV 5
theorem jy:FnScope ["_law_cord_here"] ["_law_cord_here"] (am fT):=⟨rfl,rfl,rfl,by decide+kernel,rfl,by decide+kernel,by decide+kernel⟩
theorem jz (D:Def K mg "_law_contrary" fT ["_law_cord_here"]) (B:Bn mg):Own P w K mg base 1 "_law_contrary" ["_law_cord_here"] (hU K aI):=by
  delta aI
  refine lA (g:=eS) D jy rfl rfl (by decide) fun f cdv A outer s H E hr=>?_
  delta eS
  exact (aj (cB (rk (N:=["_law_nail","_law_turns"]) (js:=[none,none]) jK (by rfl) (vz (by rfl) (by exact B.reversed) (aa 0)) (fun _ _ _ _=>(by delta dN;exact (nJ (by rfl) (gh (dM 0 (show (["_law_nail","_law_turns"]:List Str).Nodup by decide+kernel)) (gh (dM 1 (show (["_law_nail","_law_turns"]:List Str).Nodup by decide+kernel)) ly))))) (fun _ _ _ _=>(by delta cF;exact (io (cg (aa 0) (cg (gu ae (aa 1)) dR))))))))
abbrev gA:Stmt:=nV 6
theorem sc_law_pieces:FnScope ["_law_cell","_law_rest","_law_nail","_law_many","_law_found","_law_k","_law_value"] ["_law_cell"] (am gA):=⟨rfl,rfl,rfl,by decide+kernel,rfl,by decide+kernel,by decide+kernel⟩
theorem kc (D:Def K mg "_law_pieces" gA ["_law_cell"]) (B:Bn mg) (D_law_mix:Own P w K mg base 1 "_law_mix" ["_law_cell","_law_k"] (hU K e_)):Own P w K mg base 2 "_law_pieces" ["_law_cell"] (hU K bv):=by
  delta bv
  refine lA (g:=eT) D sc_law_pieces rfl rfl (by decide) fun f cdv A outer s H E hr=>?_
  delta eT
  exact (ag (aY 1 sc_law_pieces.nd (eu (aa 0) ae))
  (ag (eL (iG hr.units (dG (aa 0) ae) ae)
  (ag (aY 2 sc_law_pieces.nd (cr lf (dG (aa 1) ae)))
  (aj (cB (f8 (cg (io (cg (aa 2) (cg (gu (dG (eu (aa 1) ae) (gu (ig ae (iZ ae ae)) ae)) (gu (iZ ae ae) ae)) dR))) dR)))))
  cL)
  (ag (aY 3 sc_law_pieces.nd (dG (aa 1) ae))
  (ag (aY 1 sc_law_pieces.nd (eu (aa 1) ae))
  (ag (aY 4 sc_law_pieces.nd (f8 dR))
  (ag (gw PassesOwn.never (by rfl) (g_ (by rfl) (by exact B.range) (ak (aa 3) bw)) (by delta bL;exact (dM 5 sc_law_pieces.nd))
  (by delta bM;exact (ag (aY 6 sc_law_pieces.nd (aa 1))
  (ag (eL (ms (kz (jn .lt (vt (by rfl) (by exact B.abs) (ak (aa 0) bw)) (iZ ae ae)) (jO (ur .lt .lt (lm ae) (aa 1) ae))))
  (aj (aY 6 sc_law_pieces.nd (dH D_law_mix (hr.mono (by decide)) (by rfl) (ak (aa 0) (ak (aa 5) bw)))))
  cL)
  (ag (lv (kB 4 (io (cg (cr lf (dG (aa 6) ae)) (cg (gu (dG (eu (aa 6) ae) ae) ae) dR)))))
  (aj (aY 1 sc_law_pieces.nd (eu (aa 1) ae))))))))
  (aj (cB (aa 4)))))))))
abbrev iz:Stmt:=nV 7
theorem sc_law_cord:FnScope ["_law_script","_law_first","_law_last","_law_most","_law_cord_here","_law_cell","_law_at_here","_law_pieces_here"] ["_law_script","_law_first","_law_last","_law_most"] (am iz):=⟨rfl,rfl,rfl,by decide+kernel,rfl,by decide+kernel,by decide+kernel⟩
theorem mR (D:Def K mg "_law_cord" iz ["_law_script","_law_first","_law_last","_law_most"]) (B:Bn mg) (D_law_at:Own P w K mg base 1 "_law_at" ["_law_script","_law_k"] (hU K dE)) (D_law_contrary:Own P w K mg base 1 "_law_contrary" ["_law_cord_here"] (hU K aI)) (D_law_pieces:Own P w K mg base 2 "_law_pieces" ["_law_cell"] (hU K bv)):Own P w K mg base 3 "_law_cord" ["_law_script","_law_first","_law_last","_law_most"] (hU K dS):=by
  delta dS
  refine lA (g:=gz) D sc_law_cord rfl rfl (by decide) fun f cdv A outer s H E hr=>?_
  delta gz
  exact (ag (aY 4 sc_law_cord.nd (f8 dR))
  (ag (gw PassesOwn.never (by rfl) (jQ (cf (f8 (cg (dH D_law_at (hr.mono (by decide)) (by rfl) (ak (aa 0) (ak (aa 1) bw))) dR)) (eY (aa 0) (dL (cf (aa 1) ae)) (dL (aa 2))))) (by delta bE;exact (dM 5 sc_law_cord.nd))
  (by delta bF;exact (ag (aY 6 sc_law_cord.nd (dG (eu (aa 5) ae) (cf (gR (by rfl) (by exact B.len) (ak (aa 4) bw)) ae)))
  (ag (eL (iG hr.units (dG (aa 5) ae) ae)
  (aj (aY 4 sc_law_cord.nd (cf (aa 4) (dH D_law_contrary (hr.mono (by decide)) (by rfl) (ak (eY (aa 4) (dL (aa 6)) eB) bw)))))
  (aj (eL (iG hr.units (dG (aa 5) ae) ae)
  (ag (aY 7 sc_law_cord.nd (dH D_law_pieces (hr.mono (by decide)) (by rfl) (ak (eu (aa 5) ae) bw)))
  (ag (aY 7 sc_law_cord.nd (cf (aa 7) (dH D_law_contrary (hr.mono (by decide)) (by rfl) (ak (aa 7) bw))))
  (aj (aY 4 sc_law_cord.nd (cf (cf (eY (aa 4) eB (dL (aa 6))) (aa 7)) (eY (aa 4) (dL (aa 6)) eB))))))
  (aj (aY 4 sc_law_cord.nd (cf (aa 4) (dH D_law_pieces (hr.mono (by decide)) (by rfl) (ak (aa 5) bw))))))))
  (aj (aY 4 sc_law_cord.nd (eY (aa 4) eB (dL (aa 3)))))))))
  (aj (cB (aa 4)))))
abbrev ef:Stmt:=nV 8
theorem sc_law_numbers_right:FnScope ["_law_block","_law_many","_law_k"] ["_law_block","_law_many"] (am ef):=⟨rfl,rfl,rfl,by decide+kernel,rfl,by decide+kernel,by decide+kernel⟩
theorem gY (D:Def K mg "_law_numbers_right" ef ["_law_block","_law_many"]) (B:Bn mg):Own P w K mg base 1 "_law_numbers_right" ["_law_block","_law_many"] (hU K aN):=by
  delta aN
  refine lA (g:=cc) D sc_law_numbers_right rfl rfl (by decide) fun f cdv A outer s H E hr=>?_
  delta cc
  exact (ag (eL (ms (kz (ii (ij (ls .list (by rfl) (by exact B.isinstance) (aa 0) (by rfl) (by exact B.list) PyProof.Rows.boot_list))) (jO (iG hr.units (aa 0) (f8 dR)))))
  (aj (cB gD))
  cL)
  (ag (gw PassesOwn.never (by rfl) (g_ (by rfl) (by exact B.range) (ak (gR (by rfl) (by exact B.len) (ak (aa 0) bw)) bw)) (by delta bJ;exact (dM 2 sc_law_numbers_right.nd))
  (by delta bK;exact (ag (eL (ms (kz (ii (ij (ls .int (by rfl) (by exact B.isinstance) (cr (aa 0) (aa 2)) (by rfl) (by exact B.int) PyProof.Rows.boot_int))) (kz (ij (ls .bool (by rfl) (by exact B.isinstance) (cr (aa 0) (aa 2)) (by rfl) (by exact B.bool) PyProof.Rows.boot_bool)) (jO (ii (ur .le .lt ae (cr (aa 0) (aa 2)) (aa 1)))))))
  (aj (cB gD))
  cL)
  (aj (eL (ms (nI (jn .gt (aa 2) ae) (ln (jn .le (cr (aa 0) (aa 2)) (cr (aa 0) (gu (aa 2) ae))))))
  (aj (cB gD))
  cL)))))
  (aj (cB gD))))
abbrev dX:Stmt:=nV 9
theorem sc_law_come_to_nought:FnScope ["_law_cord_here","_law_block","_law_total","_law_place"] ["_law_cord_here","_law_block"] (am dX):=⟨rfl,rfl,rfl,by decide+kernel,rfl,by decide+kernel,by decide+kernel⟩
theorem gI (D:Def K mg "_law_come_to_nought" dX ["_law_cord_here","_law_block"]) (B:Bn mg):Own P w K mg base 1 "_law_come_to_nought" ["_law_cord_here","_law_block"] (hU K aH):=by
  delta aH
  refine lA (g:=b6) D sc_law_come_to_nought rfl rfl (by decide) fun f cdv A outer s H E hr=>?_
  delta b6
  exact (ag (aY 2 sc_law_come_to_nought.nd ae)
  (ag (gw PassesOwn.never (by rfl) (jQ (aa 1)) (by delta bA;exact (dM 3 sc_law_come_to_nought.nd))
  (by delta bB;exact (ag (eL (qV hr.units (cr (cr (aa 0) (aa 3)) ae) (cr (cr (aa 0) (cr (aa 1) ae)) ae))
  (aj (cB gD))
  cL)
  (aj (aY 2 sc_law_come_to_nought.nd (cf (aa 2) (cr (cr (aa 0) (aa 3)) ae)))))))
  (aj (cB (ul hr.units (aa 2) ae)))))
abbrev gB:Stmt:=nV 10
theorem sc_law_walked:FnScope ["_law_found","_law_many","_law_owner","_law_number","_law_block","_law_place","_law_waiting"] ["_law_found","_law_many"] (am gB):=⟨rfl,rfl,rfl,by decide+kernel,rfl,by decide+kernel,by decide+kernel⟩
theorem ke (D:Def K mg "_law_walked" gB ["_law_found","_law_many"]) (B:Bn mg):Own P w K mg base 1 "_law_walked" ["_law_found","_law_many"] (hU K cn):=by
  delta cn
  refine lA (g:=eU) D sc_law_walked rfl rfl (by decide) fun f cdv A outer s H E hr=>?_
  delta eU
  exact (ag (aY 2 sc_law_walked.nd tQ)
  (ag (gw PassesOwn.never (by rfl) (tz (by rfl) (by exact B.enumerate) (aa 0)) (by delta eC;exact (nJ (by rfl) (gh (dM 3 sc_law_walked.nd) (gh (dM 4 sc_law_walked.nd) ly))))
  (by delta eD;exact (aj (gw PassesOwn.never (by rfl) (jQ (aa 4)) (by delta dC;exact (dM 5 sc_law_walked.nd))
  (by delta dD;exact (ag (eL (vN 2 hr.units (aa 5))
  (aj (cB gD))
  cL)
  (aj (tS 2 hr.units (aa 3) (aa 5)))))))))
  (ag (aY 6 sc_law_walked.nd (f8 dR))
  (ag (gw PassesOwn.never (by rfl) (g_ (by rfl) (by exact B.range) (ak (aa 1) bw)) (by delta b9;exact (dM 5 sc_law_walked.nd))
  (by delta b_;exact (ag (aY 3 sc_law_walked.nd (tR 2 hr.units (aa 5) (lm ae)))
  (ag (eL (jn .lt (aa 3) ae)
  (aj (cB gD))
  cL)
  (ag (eL (iG hr.units (cr (cr (aa 0) (aa 3)) ae) (aa 5))
  (aj (lv (kB 6 (aa 3))))
  cL)
  (ag (eL (qV hr.units (cr (aa 6) (lm ae)) (aa 3))
  (aj (cB gD))
  cL)
  (aj (eL (iG hr.units (cr (cr (aa 0) (aa 3)) (lm ae)) (aa 5))
  (aj (lv (vv 6)))
  cL))))))))
  (aj (cB gD))))))
abbrev gZ:Stmt:=nV 11
theorem sc_law_right:FnScope ["_law_cord_here","_law_found","_law_k"] ["_law_cord_here","_law_found"] (am gZ):=⟨rfl,rfl,rfl,by decide+kernel,rfl,by decide+kernel,by decide+kernel⟩
theorem lW (D:Def K mg "_law_right" gZ ["_law_cord_here","_law_found"]) (B:Bn mg) (D_law_numbers_right:Own P w K mg base 1 "_law_numbers_right" ["_law_block","_law_many"] (hU K aN)) (D_law_come_to_nought:Own P w K mg base 1 "_law_come_to_nought" ["_law_cord_here","_law_block"] (hU K aH)) (D_law_walked:Own P w K mg base 1 "_law_walked" ["_law_found","_law_many"] (hU K cn)):Own P w K mg base 2 "_law_right" ["_law_cord_here","_law_found"] (hU K aE):=by
  delta aE
  refine lA (g:=fL) D sc_law_right rfl rfl (by decide) fun f cdv A outer s H E hr=>?_
  delta fL
  exact (ag (eL (ii (ij (ls .list (by rfl) (by exact B.isinstance) (aa 1) (by rfl) (by exact B.list) PyProof.Rows.boot_list)))
  (aj (cB gD))
  cL)
  (ag (gw PassesOwn.never (by rfl) (g_ (by rfl) (by exact B.range) (ak (gR (by rfl) (by exact B.len) (ak (aa 1) bw)) bw)) (by delta dU;exact (dM 2 sc_law_right.nd))
  (by delta dW;exact (ag (eL (ms (kz (ii (ij (dH D_law_numbers_right (hr.mono (by decide)) (by rfl) (ak (cr (aa 1) (aa 2)) (ak (gR (by rfl) (by exact B.len) (ak (aa 0) bw)) bw))))) (jO (ii (ij (dH D_law_come_to_nought (hr.mono (by decide)) (by rfl) (ak (aa 0) (ak (cr (aa 1) (aa 2)) bw))))))))
  (aj (cB gD))
  cL)
  (aj (eL (ms (nI (jn .gt (aa 2) ae) (ln (jn .le (cr (cr (aa 1) (aa 2)) ae) (cr (cr (aa 1) (gu (aa 2) ae)) ae)))))
  (aj (cB gD))
  cL)))))
  (aj (cB (dH D_law_walked (hr.mono (by decide)) (by rfl) (ak (aa 1) (ak (gR (by rfl) (by exact B.len) (ak (aa 0) bw)) bw)))))))
abbrev jZ:Stmt:=nV 12
theorem sc_law:FnScope ["_law_script","_law_half","_law_cord_here","_law_cell","_law_at_here","_law_pieces_here","_law_nail","_law_turns","_law_pair","_law_handed","_law_found","_law_block"] ["_law_script"] (am jZ):=⟨rfl,rfl,rfl,by decide+kernel,rfl,by decide+kernel,by decide+kernel⟩
theorem vO {f0:Addr} {fd:FuncData} (D:Fun K "law" "law" jZ f0 fd) (B:Bn mg) (D_law_right:Own P w K mg base 2 "_law_right" ["_law_cord_here","_law_found"] (hU K aE)) (D_blocks_of:Own P w K mg base 1 "blocks_of" ["cord"] (hU K av)) (D_blocks_of2:Own P w K mg base 1 "blocks_of" ["cord"] (xk K)) (D_law_cord:Own P w K mg base 3 "_law_cord" ["_law_script","_law_first","_law_last","_law_most"] (hU K dS)) (D_law_at:Own P w K mg base 1 "_law_at" ["_law_script","_law_k"] (hU K dE)) (D_law_contrary:Own P w K mg base 1 "_law_contrary" ["_law_cord_here"] (hU K aI)) (D_law_pieces:Own P w K mg base 2 "_law_pieces" ["_law_cell"] (hU K bv)):FnOk P w K mg base qm 4 f0 fd ["_law_script"] (hU K iw):=by
  delta iw
  refine yi (g:=mQ) D sc_law rfl rfl (by decide) fun cdv A outer s H E hr=>?_
  delta mQ
  exact (ag (aY 1 sc_law.nd (dH D_law_cord (hr.mono (by decide)) (by rfl) (ak (aa 0) (ak ae (ak ae (ak ae bw))))))
  (ag (eL (iG hr.units (dG (dH D_law_at (hr.mono (by decide)) (by rfl) (ak (aa 0) (ak ae bw))) ae) ae)
  (aj (rn 1 sc_law.nd (N:=["_law_nail","_law_turns"]) (js:=[none,none]) jK (by rfl) (jQ (aa 1)) (fun _ _ _ _=>(by delta fS;exact (nJ (by rfl) (gh (dM 0 (show (["_law_nail","_law_turns"]:List Str).Nodup by decide+kernel)) (gh (dM 1 (show (["_law_nail","_law_turns"]:List Str).Nodup by decide+kernel)) ly))))) (fun _ _ _ _=>(by delta fM;exact (io (cg lf (cg (aa 1) dR)))))))
  cL)
  (ag (aY 2 sc_law.nd (cf (aa 1) (dH D_law_contrary (hr.mono (by decide)) (by rfl) (ak (aa 1) bw))))
  (ag (gw PassesOwn.never (by rfl) (jQ (eY (aa 0) eB (dL ae))) (by delta gW;exact (dM 3 sc_law.nd))
  (by delta gX;exact (ag (aY 4 sc_law.nd (dG (eu (aa 3) ae) (cf (gR (by rfl) (by exact B.len) (ak (aa 2) bw)) ae)))
  (ag (aY 5 sc_law.nd (eY (dH D_law_pieces (hr.mono (by decide)) (by rfl) (ak (eu (aa 3) ae) bw)) eB (dL ae)))
  (aj (eL (ms (nI (iG hr.units (dG (aa 3) ae) ae) (ln (jn .lt (aa 4) (gR (by rfl) (by exact B.len) (ak (aa 2) bw))))))
  (ag (aY 6 sc_law.nd (cr (cr (aa 2) (aa 4)) ae))
  (ag (aY 7 sc_law.nd (gu (dG (eu (aa 3) ae) (ig ae (iZ ae ae))) (iZ ae ae)))
  (ag (aY 8 sc_law.nd (f8 (cg (io (cg (aa 6) (cg (aa 7) dR))) (cg (io (cg (aa 6) (cg (gu (cr (cr (aa 2) (aa 4)) ae) (aa 7)) dR))) dR))))
  (aj (aY 2 sc_law.nd (cf (cf (eY (aa 2) eB (dL (aa 4))) (aa 8)) (eY (aa 2) (dL (cf (aa 4) ae)) eB)))))))
  (aj (eL (iG hr.units (dG (aa 3) ae) ae)
  (ag (aY 5 sc_law.nd (cf (aa 5) (dH D_law_contrary (hr.mono (by decide)) (by rfl) (ak (aa 5) bw))))
  (aj (aY 2 sc_law.nd (cf (cf (eY (aa 2) eB (dL (aa 4))) (aa 5)) (eY (aa 2) (dL (aa 4)) eB)))))
  (aj (aY 2 sc_law.nd (cf (cf (eY (aa 2) eB (dL (aa 4))) (f8 (cg (io (cg (cr lf (dG (eu (aa 3) ae) ae)) (cg ae dR))) dR))) (eY (aa 2) (dL (aa 4)) eB))))))))))))
  (ag (aY 9 sc_law.nd (tu (by rfl) (by exact B.list) (aa 2)))
  (tP 10 9 11 sc_law.nd rfl D_blocks_of2 (hr.mono (by decide)) (by rfl) (ms (kz (ii (ij (dH D_law_right (hr.mono (by decide)) (by rfl) (ak (aa 2) (ak (aa 10) bw))))) (jO (qV hr.units (aa 9) (aa 2)))))
  (aj (cB (vg (dH D_law_right (hr.mono (by decide)) (by rfl) (ak (aa 2) (ak (dH D_blocks_of (hr.mono (by decide)) (by rfl) (ak (aa 9) bw)) bw))) (vf (ul hr.units (dH D_blocks_of (hr.mono (by decide)) (by rfl) (ak (f8 dR) bw)) (f8 dR)))))) (dh (iT uc)) PassesOwn.never))))))
end
end Nhk05
namespace Nhk05
open PySem L2 Nh PL
theorem kO (ns:List Int) (k:Nat):dE [.list (ns.map .int), .int k]=some (.sh (.int (ns.getD k 0))):=by
  simp only [dE,iN,gc,eX,bu,ck,b7,ar,aP,a8,bT,cO,cu,cP,bQ,bU,aR,PL.settle,Sl.isAl,Sl.isBr,frz,ab,pC,ad,bO,dt,du,bx,b8,dQ,fO,gv,dY,gb,dZ,fj,eN,f6,fm,fo,look,bt,Sl.val,fN,eK,dr,cJ,d0,bS,dm,bC,cq,fq,jk,aF,af,bG,aJ,dO,ca,cG,cM,eO,ft,fu,bH,ee,ip,Ty.is,bg,aW,jm,a9,ao,aO,eP,fw,bV,aG,cw,a_,cA,fz,cH,ba,bW,dv,List.length_cons,List.length_nil,List.map_cons,List.map_nil,List.replicate,List.cons_append,List.nil_append,List.getElem?_cons_zero,List.getElem?_cons_succ,List.set_cons_zero,List.set_cons_succ,List.isEmpty_nil,List.isEmpty_cons,Option.bind_some,Option.bind_none,Option.map_some,Option.map_none,Option.any_some,Nat.sub_self,Nat.zero_add,Nat.reduceAdd,Nat.reduceSub,Nat.reduceLT,Nat.reduceLeDiff,if_true,if_false,ite_true,ite_false,Bool.false_and,Bool.and_false,Bool.true_and,Bool.and_true,Bool.true_or,Bool.or_true,Bool.false_or,Bool.or_false,Bool.not_true,Bool.not_false,Bool.false_eq_true,reduceIte,decide_true,decide_false,cS,cT,cU,aQ,aS,bh,List.map_append,List.dropLast_concat,ah,au,aw,az,aT,aC,dP,aB,frzAll,dw,cV,bI,bX,Cm.i,Cm.s,cC,fA,fB,fD,jr,i5,fE,cW,bi,aL,bj,aU,bo,aM,bp,eq_self,not_true_eq_false,not_false_eq_true,Int.cast_ofNat_Int,PL.takeP,fF,cX,cY,cZ,e8,eZ,bY,Pt.val,List.all_cons,List.all_nil,fG,c7,c9,c8,bZ,c_,gN,Option.isSome_some,b4,jt,fH,fI,fJ,bn,b5,de,df,cQ,cR]
  by_cases h:k < ns.length
  · simp [h,cN,b7,dP,ck]
  · simp [h,List.getElem?_eq_none (Nat.le_of_not_lt h),b7,dP,ck]
theorem n4 (cell:Int) (k:Nat) (h:k≤1000000):∃z:Int,e_ [.int cell, .int k]=some (.sh (.int z)):=by
  have a1:∀i:Int,fQ i (62089911+2*(k:Int))=true:=fun i=>lI (by omega) (by omega)
  have a2:fQ 982451653 (k:Int)=true:=lI (by omega) (by omega)
  have a3:fQ 2 (k:Int)=true:=lI (by omega) (by omega)
  have a4:∀i j:Int,fQ (i % 4294967291) j=true:=fun i j=>lJ (by have:=Int.emod_nonneg i (show (4294967291:Int)≠0 by decide);omega) (by have:=Int.emod_lt_of_pos i (show (0:Int) < 4294967291 by decide);omega)
  have d1:gP 1024=true:=by decide
  simp only [e_,hG,gc,eX,bu,ck,b7,ar,aP,a8,bT,cO,cu,cP,bQ,bU,aR,PL.settle,Sl.isAl,Sl.isBr,frz,ab,pC,ad,bO,dt,du,bx,b8,dQ,fO,gv,dY,gb,dZ,fj,eN,f6,fm,fo,look,bt,Sl.val,fN,eK,dr,cJ,d0,bS,dm,bC,cq,fq,jk,aF,af,bG,aJ,dO,ca,cG,cM,eO,ft,fu,bH,ee,ip,Ty.is,bg,aW,jm,a9,ao,aO,eP,fw,bV,aG,cw,a_,cA,fz,cH,ba,bW,dv,List.length_cons,List.length_nil,List.map_cons,List.map_nil,List.replicate,List.cons_append,List.nil_append,List.getElem?_cons_zero,List.getElem?_cons_succ,List.set_cons_zero,List.set_cons_succ,List.isEmpty_nil,List.isEmpty_cons,Option.bind_some,Option.bind_none,Option.map_some,Option.map_none,Option.any_some,Nat.sub_self,Nat.zero_add,Nat.reduceAdd,Nat.reduceSub,Nat.reduceLT,Nat.reduceLeDiff,if_true,if_false,ite_true,ite_false,Bool.false_and,Bool.and_false,Bool.true_and,Bool.and_true,Bool.true_or,Bool.or_true,Bool.false_or,Bool.or_false,Bool.not_true,Bool.not_false,Bool.false_eq_true,reduceIte,decide_true,decide_false,cS,cT,cU,aQ,aS,bh,List.map_append,List.dropLast_concat,ah,au,aw,az,aT,aC,dP,aB,frzAll,dw,cV,bI,bX,Cm.i,Cm.s,cC,fA,fB,fD,jr,i5,fE,cW,bi,aL,bj,aU,bo,aM,bp,eq_self,not_true_eq_false,not_false_eq_true,Int.cast_ofNat_Int,PL.takeP,fF,cX,cY,cZ,e8,eZ,bY,Pt.val,List.all_cons,List.all_nil,fG,c7,c9,c8,bZ,c_,gN,Option.isSome_some,b4,jt,fH,fI,fJ,bn,b5,de,df,cQ,cR,a1,a2,a3,a4,d1,Int.reduceToNat,Int.reducePow,Int.reduceNeg,Int.reduceLT,Int.reduceLE,Nat.reducePow,and_self]
  exact ⟨_,rfl⟩
theorem bb {f g:fg} {E E1:List Sl} (h:f E=some (E1, .nx)):aP f g E=g E1:=by
  unfold aP
  rw [h]
  rfl
theorem eV {c:iE} {a b:fg} {E E1:List Sl} {r:Option (List Sl×Fl)} (h:c E=some (false,E1)) (k:b E1=r):bU c a b E=r:=by
  unfold bU
  rw [h,←k]
  rfl
theorem j0 {c:iE} {a b:fg} {E E1:List Sl} {r:Option (List Sl×Fl)} (h:c E=some (true,E1)) (k:a E1=r):bU c a b E=r:=by
  unfold bU
  rw [h,←k]
  rfl
theorem eG {c:List PyData→Option Sl} {g:kx} {E E1:List Sl} {ss:List Sl} {ds:List PyData} {r:Sl} (h:g E=some (ss,E1)) (hl:bt E1 ss=some ds) (hc:c ds=some r):ao c g E=some (r,E1):=by
  unfold ao
  rw [h,Option.bind_some]
  show (bt E1 ss).bind _=_
  rw [hl,Option.bind_some,hc]
  rfl
theorem rY {x:Int} {f:aV} {E:List Sl} {y:Int} {g:aV} (hf:g E=some (.sh (.int x),E)) (h:f E=some (.sh (.int y),E)) (ok:fQ x y=true):ad du false g f E=some (.sh (.int (x*y)),E):=by
  simp only [ad,du,hf,h,Option.bind_some,look,Sl.val,ok,Bool.false_and,Bool.false_eq_true,if_false,if_true]
theorem j4 {x:Int} {f:aV} {E:List Sl} {y:Int} {g:aV} (hf:g E=some (.sh (.int x),E)) (h:f E=some (.sh (.int y),E)):ad bO false g f E=some (.sh (.int (x+y)),E):=by
  simp only [ad,bO,hf,h,Option.bind_some,look,Sl.val,Bool.false_and,Bool.false_eq_true,if_false]
theorem j5 {f:aV} {E E1:List Sl} {d:PyData} {i:Nat} (h:f E=some (.sh d,E1)) (hi:i < E1.length):aR i f E=some (E1.set i (.sh d), .nx):=by
  unfold aR
  rw [h]
  simp only [Option.bind_some,PL.settle,hi,if_true]
theorem mS {a b:iE} {E E1:List Sl} {r:Option (Bool×List Sl)} (h:a E=some (false,E1)) (k:b E1=r):dm a b E=r:=by
  unfold dm
  rw [h,Option.bind_some]
  exact k
theorem vZ {f g:aV} {E:List Sl} {s1 s2:Sl} (hf:f E=some (s1,E)) (hg:g E=some (s2,E)):af false f (af false g aF) E=some ([s1,s2],E):=by
  simp only [af,aF,hf,hg,Option.bind_some,Option.map_some,Bool.false_and,Bool.false_eq_true,if_false]
theorem je {E:List Sl} {f g:aV} {x y:Int} (hf:f E=some (.sh (.int x),E)) (hg:g E=some (.sh (.int y),E)) (h:0 < y):ad b8 false f g E=some (.sh (.int (x % y)),E):=by
  simp only [ad,hf,hg,Option.bind_some,Bool.false_and,Bool.false_eq_true,if_false,b8,eN,f6,look,Sl.val,h,decide_true,if_true,Option.map_some]
theorem jA {E:List Sl} {f g:aV} {x y:Int} (hf:f E=some (.sh (.int x),E)) (hg:g E=some (.sh (.int y),E)) (h:gP y=true):ad bx false f g E=some (.sh (.int (x / y)),E):=by
  simp only [ad,hf,hg,Option.bind_some,Bool.false_and,Bool.false_eq_true,if_false,bx,eN,f6,look,Sl.val,h,if_true,Option.map_some]
theorem lX {E:List Sl} {f g:aV} {x y:Int} (hf:f E=some (.sh (.int x),E)) (hg:g E=some (.sh (.int y),E)):ad dt false f g E=some (.sh (.int (x - y)),E):=by
  simp only [ad,hf,hg,Option.bind_some,Bool.false_and,Bool.false_eq_true,if_false,dt,eN,f6,look,Sl.val,if_true,Option.map_some]
theorem wS {f:aV} {E:List Sl} {s1:Sl} (hf:f E=some (s1,E)):af false f aF E=some ([s1],E):=by
  simp only [af,aF,hf,Option.bind_some,Option.map_some,Bool.false_and,Bool.false_eq_true,if_false]
theorem gE:∀(d:List Pc) (x0 x1:Sl),gU dN gS cF (d.map aq) [x0,x1]=some ((d.map fun p=>((p.1,-p.2):Pc)).map aq)
  | [],x0,x1=>rfl
  | p::d,x0,x1=>by
    have e:(dN (aq p) [x0,x1])=some [.sh (.str ⟨#[p.1]⟩), .sh (.int p.2)]:=rfl
    have e2:cF [.sh (.str ⟨#[p.1]⟩), .sh (.int p.2)]=some (.sh (aq (p.1,-p.2)),[.sh (.str ⟨#[p.1]⟩), .sh (.int p.2)]):=by
      simp only [cF,aq,gc,eX,bu,ck,b7,ar,aP,a8,bT,cO,cu,cP,bQ,bU,aR,PL.settle,Sl.isAl,Sl.isBr,frz,ab,pC,ad,bO,dt,du,bx,b8,dQ,fO,gv,dY,gb,dZ,fj,eN,f6,fm,fo,look,bt,Sl.val,fN,eK,dr,cJ,d0,bS,dm,bC,cq,fq,jk,aF,af,bG,aJ,dO,ca,cG,cM,eO,ft,fu,bH,ee,ip,Ty.is,bg,aW,jm,a9,ao,aO,eP,fw,bV,aG,cw,a_,cA,fz,cH,ba,bW,dv,List.length_cons,List.length_nil,List.map_cons,List.map_nil,List.replicate,List.cons_append,List.nil_append,List.getElem?_cons_zero,List.getElem?_cons_succ,List.set_cons_zero,List.set_cons_succ,List.isEmpty_nil,List.isEmpty_cons,Option.bind_some,Option.bind_none,Option.map_some,Option.map_none,Option.any_some,Nat.sub_self,Nat.zero_add,Nat.reduceAdd,Nat.reduceSub,Nat.reduceLT,Nat.reduceLeDiff,if_true,if_false,ite_true,ite_false,Bool.false_and,Bool.and_false,Bool.true_and,Bool.and_true,Bool.true_or,Bool.or_true,Bool.false_or,Bool.or_false,Bool.not_true,Bool.not_false,Bool.false_eq_true,reduceIte,decide_true,decide_false,cS,cT,cU,aQ,aS,bh,List.map_append,List.dropLast_concat,ah,au,aw,az,aT,aC,dP,aB,frzAll,dw,cV,bI,bX,Cm.i,Cm.s,cC,fA,fB,fD,jr,i5,fE,cW,bi,aL,bj,aU,bo,aM,bp,eq_self,not_true_eq_false,not_false_eq_true,Int.cast_ofNat_Int,PL.takeP,fF,cX,cY,cZ,e8,eZ,bY,Pt.val,List.all_cons,List.all_nil,fG,c7,c9,c8,bZ,c_,gN,Option.isSome_some,b4,jt,fH,fI,fJ,bn,b5,de,df,cQ,cR,Int.zero_sub]
    rw [List.map_cons,gU,e,Option.bind_some]
    simp only [gS,e2,gE d,gc,eX,bu,ck,b7,ar,aP,a8,bT,cO,cu,cP,bQ,bU,aR,PL.settle,Sl.isAl,Sl.isBr,frz,ab,pC,ad,bO,dt,du,bx,b8,dQ,fO,gv,dY,gb,dZ,fj,eN,f6,fm,fo,look,bt,Sl.val,fN,eK,dr,cJ,d0,bS,dm,bC,cq,fq,jk,aF,af,bG,aJ,dO,ca,cG,cM,eO,ft,fu,bH,ee,ip,Ty.is,bg,aW,jm,a9,ao,aO,eP,fw,bV,aG,cw,a_,cA,fz,cH,ba,bW,dv,List.length_cons,List.length_nil,List.map_cons,List.map_nil,List.replicate,List.cons_append,List.nil_append,List.getElem?_cons_zero,List.getElem?_cons_succ,List.set_cons_zero,List.set_cons_succ,List.isEmpty_nil,List.isEmpty_cons,Option.bind_some,Option.bind_none,Option.map_some,Option.map_none,Option.any_some,Nat.sub_self,Nat.zero_add,Nat.reduceAdd,Nat.reduceSub,Nat.reduceLT,Nat.reduceLeDiff,if_true,if_false,ite_true,ite_false,Bool.false_and,Bool.and_false,Bool.true_and,Bool.and_true,Bool.true_or,Bool.or_true,Bool.false_or,Bool.or_false,Bool.not_true,Bool.not_false,Bool.false_eq_true,reduceIte,decide_true,decide_false,cS,cT,cU,aQ,aS,bh,List.map_append,List.dropLast_concat,ah,au,aw,az,aT,aC,dP,aB,frzAll,dw,cV,bI,bX,Cm.i,Cm.s,cC,fA,fB,fD,jr,i5,fE,cW,bi,aL,bj,aU,bo,aM,bp,eq_self,not_true_eq_false,not_false_eq_true,Int.cast_ofNat_Int,PL.takeP,fF,cX,cY,cZ,e8,eZ,bY,Pt.val,List.all_cons,List.all_nil,fG,c7,c9,c8,bZ,c_,gN,Option.isSome_some,b4,jt,fH,fI,fJ,bn,b5,de,df,cQ,cR]
theorem eI (c:List Pc) (h:c.length≤1000000):aI [.list (c.map aq)]=some (.ow ((NH.contr c).map aq)):=by
  have hl:(NH.contr c).length=c.length:=NH.di c
  have e:(c.reverse.map fun p=>((p.1,-p.2):Pc))=NH.contr c:=rfl
  have k:=gE c.reverse .no .no
  rw [e,List.map_reverse] at k
  simp only [aI,eS,iJ,jP,rh,k,List.length_map,hl,h,gc,eX,bu,ck,b7,ar,aP,a8,bT,cO,cu,cP,bQ,bU,aR,PL.settle,Sl.isAl,Sl.isBr,frz,ab,pC,ad,bO,dt,du,bx,b8,dQ,fO,gv,dY,gb,dZ,fj,eN,f6,fm,fo,look,bt,Sl.val,fN,eK,dr,cJ,d0,bS,dm,bC,cq,fq,jk,aF,af,bG,aJ,dO,ca,cG,cM,eO,ft,fu,bH,ee,ip,Ty.is,bg,aW,jm,a9,ao,aO,eP,fw,bV,aG,cw,a_,cA,fz,cH,ba,bW,dv,List.length_cons,List.length_nil,List.map_cons,List.map_nil,List.replicate,List.cons_append,List.nil_append,List.getElem?_cons_zero,List.getElem?_cons_succ,List.set_cons_zero,List.set_cons_succ,List.isEmpty_nil,List.isEmpty_cons,Option.bind_some,Option.bind_none,Option.map_some,Option.map_none,Option.any_some,Nat.sub_self,Nat.zero_add,Nat.reduceAdd,Nat.reduceSub,Nat.reduceLT,Nat.reduceLeDiff,if_true,if_false,ite_true,ite_false,Bool.false_and,Bool.and_false,Bool.true_and,Bool.and_true,Bool.true_or,Bool.or_true,Bool.false_or,Bool.or_false,Bool.not_true,Bool.not_false,Bool.false_eq_true,reduceIte,decide_true,decide_false,cS,cT,cU,aQ,aS,bh,List.map_append,List.dropLast_concat,ah,au,aw,az,aT,aC,dP,aB,frzAll,dw,cV,bI,bX,Cm.i,Cm.s,cC,fA,fB,fD,jr,i5,fE,cW,bi,aL,bj,aU,bo,aM,bp,eq_self,not_true_eq_false,not_false_eq_true,Int.cast_ofNat_Int,PL.takeP,fF,cX,cY,cZ,e8,eZ,bY,Pt.val,List.all_cons,List.all_nil,fG,c7,c9,c8,bZ,c_,gN,Option.isSome_some,b4,jt,fH,fI,fJ,bn,b5,de,df,cQ,cR]
theorem h7 (cell:Int) (x2 x3:Sl):∀(n lo:Nat) (ce:Int) (c:List Pc) (a b:Sl),lo+n≤1000→c.length+n≤1000→CordOk c→
    ∃(rest':Int) (c':List Pc) (a' b':Sl),cI bL bM (ir lo n) [.sh (.int cell), .sh (.int ce),x2,x3, .ow (c.map aq),a,b]=some ([.sh (.int cell), .sh (.int rest'),x2,x3, .ow (c'.map aq),a',b'], .nx)∧c'.length=c.length+n∧CordOk c'
  | 0,lo,ce,c,a,b,_,_,hN=>⟨ce,c,a,b,rfl,rfl,hN⟩
  | n+1,lo,ce,c,a,b,h1,h2,hN=>by
    obtain ⟨z,ez⟩:=n4 cell lo (by omega)
    have dd:gP 4=true∧gP 28=true:=by decide
    have step:∃v:Int,(bL (.int lo) [.sh (.int cell), .sh (.int ce),x2,x3, .ow (c.map aq),a,b]).bind bM=some ([.sh (.int cell), .sh (.int (ce / 28)),x2,x3, .ow ((c++[((l4 (v % 4),v / 4 % 7 - 3):Pc)]).map aq), .sh (.int lo), .sh (.int v)], .nx):=by
      have lb:c.length < 1000000:=by omega
      by_cases c1:(if cell < 0 then -cell else cell) < 1000000000000000000
      · refine ⟨z,?_⟩
        simp only [bL,bM,gc,eX,bu,ck,b7,ar,aP,a8,bT,cO,cu,cP,bQ,bU,aR,PL.settle,Sl.isAl,Sl.isBr,frz,ab,pC,ad,bO,dt,du,bx,b8,dQ,fO,gv,dY,gb,dZ,fj,eN,f6,fm,fo,look,bt,Sl.val,fN,eK,dr,cJ,d0,bS,dm,bC,cq,fq,jk,aF,af,bG,aJ,dO,ca,cG,cM,eO,ft,fu,bH,ee,ip,Ty.is,bg,aW,jm,a9,ao,aO,eP,fw,bV,aG,cw,a_,cA,fz,cH,ba,bW,dv,List.length_cons,List.length_nil,List.map_cons,List.map_nil,List.replicate,List.cons_append,List.nil_append,List.getElem?_cons_zero,List.getElem?_cons_succ,List.set_cons_zero,List.set_cons_succ,List.isEmpty_nil,List.isEmpty_cons,Option.bind_some,Option.bind_none,Option.map_some,Option.map_none,Option.any_some,Nat.sub_self,Nat.zero_add,Nat.reduceAdd,Nat.reduceSub,Nat.reduceLT,Nat.reduceLeDiff,if_true,if_false,ite_true,ite_false,Bool.false_and,Bool.and_false,Bool.true_and,Bool.and_true,Bool.true_or,Bool.or_true,Bool.false_or,Bool.or_false,Bool.not_true,Bool.not_false,Bool.false_eq_true,reduceIte,decide_true,decide_false,cS,cT,cU,aQ,aS,bh,List.map_append,List.dropLast_concat,ah,au,aw,az,aT,aC,dP,aB,frzAll,dw,cV,bI,bX,Cm.i,Cm.s,cC,fA,fB,fD,jr,i5,fE,cW,bi,aL,bj,aU,bo,aM,bp,eq_self,not_true_eq_false,not_false_eq_true,Int.cast_ofNat_Int,PL.takeP,fF,cX,cY,cZ,e8,eZ,bY,Pt.val,List.all_cons,List.all_nil,fG,c7,c9,c8,bZ,c_,gN,Option.isSome_some,b4,jt,fH,fI,fJ,bn,b5,de,df,cQ,cR,Int.reduceToNat,Int.reducePow,Int.reduceNeg,Int.reduceLT,Int.reduceLE,Nat.reducePow,and_self,ez,dd.1,dd.2,List.length_map,lb,lH,iK,aq,c1]
      · by_cases c2: -28 < ce
        · by_cases c3:ce < 28
          · refine ⟨z,?_⟩
            simp only [bL,bM,gc,eX,bu,ck,b7,ar,aP,a8,bT,cO,cu,cP,bQ,bU,aR,PL.settle,Sl.isAl,Sl.isBr,frz,ab,pC,ad,bO,dt,du,bx,b8,dQ,fO,gv,dY,gb,dZ,fj,eN,f6,fm,fo,look,bt,Sl.val,fN,eK,dr,cJ,d0,bS,dm,bC,cq,fq,jk,aF,af,bG,aJ,dO,ca,cG,cM,eO,ft,fu,bH,ee,ip,Ty.is,bg,aW,jm,a9,ao,aO,eP,fw,bV,aG,cw,a_,cA,fz,cH,ba,bW,dv,List.length_cons,List.length_nil,List.map_cons,List.map_nil,List.replicate,List.cons_append,List.nil_append,List.getElem?_cons_zero,List.getElem?_cons_succ,List.set_cons_zero,List.set_cons_succ,List.isEmpty_nil,List.isEmpty_cons,Option.bind_some,Option.bind_none,Option.map_some,Option.map_none,Option.any_some,Nat.sub_self,Nat.zero_add,Nat.reduceAdd,Nat.reduceSub,Nat.reduceLT,Nat.reduceLeDiff,if_true,if_false,ite_true,ite_false,Bool.false_and,Bool.and_false,Bool.true_and,Bool.and_true,Bool.true_or,Bool.or_true,Bool.false_or,Bool.or_false,Bool.not_true,Bool.not_false,Bool.false_eq_true,reduceIte,decide_true,decide_false,cS,cT,cU,aQ,aS,bh,List.map_append,List.dropLast_concat,ah,au,aw,az,aT,aC,dP,aB,frzAll,dw,cV,bI,bX,Cm.i,Cm.s,cC,fA,fB,fD,jr,i5,fE,cW,bi,aL,bj,aU,bo,aM,bp,eq_self,not_true_eq_false,not_false_eq_true,Int.cast_ofNat_Int,PL.takeP,fF,cX,cY,cZ,e8,eZ,bY,Pt.val,List.all_cons,List.all_nil,fG,c7,c9,c8,bZ,c_,gN,Option.isSome_some,b4,jt,fH,fI,fJ,bn,b5,de,df,cQ,cR,Int.reduceToNat,Int.reducePow,Int.reduceNeg,Int.reduceLT,Int.reduceLE,Nat.reducePow,and_self,ez,dd.1,dd.2,List.length_map,lb,lH,iK,aq,c1,c2,c3]
          · refine ⟨ce,?_⟩
            simp only [bL,bM,gc,eX,bu,ck,b7,ar,aP,a8,bT,cO,cu,cP,bQ,bU,aR,PL.settle,Sl.isAl,Sl.isBr,frz,ab,pC,ad,bO,dt,du,bx,b8,dQ,fO,gv,dY,gb,dZ,fj,eN,f6,fm,fo,look,bt,Sl.val,fN,eK,dr,cJ,d0,bS,dm,bC,cq,fq,jk,aF,af,bG,aJ,dO,ca,cG,cM,eO,ft,fu,bH,ee,ip,Ty.is,bg,aW,jm,a9,ao,aO,eP,fw,bV,aG,cw,a_,cA,fz,cH,ba,bW,dv,List.length_cons,List.length_nil,List.map_cons,List.map_nil,List.replicate,List.cons_append,List.nil_append,List.getElem?_cons_zero,List.getElem?_cons_succ,List.set_cons_zero,List.set_cons_succ,List.isEmpty_nil,List.isEmpty_cons,Option.bind_some,Option.bind_none,Option.map_some,Option.map_none,Option.any_some,Nat.sub_self,Nat.zero_add,Nat.reduceAdd,Nat.reduceSub,Nat.reduceLT,Nat.reduceLeDiff,if_true,if_false,ite_true,ite_false,Bool.false_and,Bool.and_false,Bool.true_and,Bool.and_true,Bool.true_or,Bool.or_true,Bool.false_or,Bool.or_false,Bool.not_true,Bool.not_false,Bool.false_eq_true,reduceIte,decide_true,decide_false,cS,cT,cU,aQ,aS,bh,List.map_append,List.dropLast_concat,ah,au,aw,az,aT,aC,dP,aB,frzAll,dw,cV,bI,bX,Cm.i,Cm.s,cC,fA,fB,fD,jr,i5,fE,cW,bi,aL,bj,aU,bo,aM,bp,eq_self,not_true_eq_false,not_false_eq_true,Int.cast_ofNat_Int,PL.takeP,fF,cX,cY,cZ,e8,eZ,bY,Pt.val,List.all_cons,List.all_nil,fG,c7,c9,c8,bZ,c_,gN,Option.isSome_some,b4,jt,fH,fI,fJ,bn,b5,de,df,cQ,cR,Int.reduceToNat,Int.reducePow,Int.reduceNeg,Int.reduceLT,Int.reduceLE,Nat.reducePow,and_self,ez,dd.1,dd.2,List.length_map,lb,lH,iK,aq,c1,c2,c3]
        · refine ⟨ce,?_⟩
          simp only [bL,bM,gc,eX,bu,ck,b7,ar,aP,a8,bT,cO,cu,cP,bQ,bU,aR,PL.settle,Sl.isAl,Sl.isBr,frz,ab,pC,ad,bO,dt,du,bx,b8,dQ,fO,gv,dY,gb,dZ,fj,eN,f6,fm,fo,look,bt,Sl.val,fN,eK,dr,cJ,d0,bS,dm,bC,cq,fq,jk,aF,af,bG,aJ,dO,ca,cG,cM,eO,ft,fu,bH,ee,ip,Ty.is,bg,aW,jm,a9,ao,aO,eP,fw,bV,aG,cw,a_,cA,fz,cH,ba,bW,dv,List.length_cons,List.length_nil,List.map_cons,List.map_nil,List.replicate,List.cons_append,List.nil_append,List.getElem?_cons_zero,List.getElem?_cons_succ,List.set_cons_zero,List.set_cons_succ,List.isEmpty_nil,List.isEmpty_cons,Option.bind_some,Option.bind_none,Option.map_some,Option.map_none,Option.any_some,Nat.sub_self,Nat.zero_add,Nat.reduceAdd,Nat.reduceSub,Nat.reduceLT,Nat.reduceLeDiff,if_true,if_false,ite_true,ite_false,Bool.false_and,Bool.and_false,Bool.true_and,Bool.and_true,Bool.true_or,Bool.or_true,Bool.false_or,Bool.or_false,Bool.not_true,Bool.not_false,Bool.false_eq_true,reduceIte,decide_true,decide_false,cS,cT,cU,aQ,aS,bh,List.map_append,List.dropLast_concat,ah,au,aw,az,aT,aC,dP,aB,frzAll,dw,cV,bI,bX,Cm.i,Cm.s,cC,fA,fB,fD,jr,i5,fE,cW,bi,aL,bj,aU,bo,aM,bp,eq_self,not_true_eq_false,not_false_eq_true,Int.cast_ofNat_Int,PL.takeP,fF,cX,cY,cZ,e8,eZ,bY,Pt.val,List.all_cons,List.all_nil,fG,c7,c9,c8,bZ,c_,gN,Option.isSome_some,b4,jt,fH,fI,fJ,bn,b5,de,df,cQ,cR,Int.reduceToNat,Int.reducePow,Int.reduceNeg,Int.reduceLT,Int.reduceLE,Nat.reducePow,and_self,ez,dd.1,dd.2,List.length_map,lb,lH,iK,aq,c1,c2]
    obtain ⟨v,e⟩:=step
    obtain ⟨r',c',a',b',e2,l2,n2⟩:=h7 cell x2 x3 n (lo+1) (ce / 28) (c++[((l4 (v % 4),v / 4 % 7 - 3):Pc)]) (.sh (.int lo)) (.sh (.int v)) (by omega) (by simp;omega) (hN.append fun p hp=>by rw [List.mem_singleton.mp hp];exact ⟨wL _,by show (v / 4 % 7 - 3).natAbs < 2 ^ 100;have:=Int.emod_nonneg (v / 4) (show (7:Int)≠0 by decide);have:=Int.emod_lt_of_pos (v / 4) (show (0:Int) < 7 by decide);omega⟩)
    refine ⟨r',c',a',b',?_,by rw [l2];simp;omega,n2⟩
    rw [hE,cI,e]
    exact e2
theorem ga (cell:Int):∃c:List Pc,bv [.int cell]=some (.ow (c.map aq))∧c.length≤12∧CordOk c:=by
  have dd:gP 5=true∧gP 26=true∧gP 13=true:=by decide
  have mm:fQ 2 1000000000000000000000000000000=true:=lJ (by decide) (by decide)
  by_cases c5:cell % 5=2
  · refine ⟨[((97+(cell / 5 % 26).toNat,cell / 5 / 26 % (2*10 ^ 30 - 1) - (10 ^ 30 - 1)):Pc)],?_,by simp,fun p hp=>?_⟩
    · simp only [bv,eT,gc,eX,bu,ck,b7,ar,aP,a8,bT,cO,cu,cP,bQ,bU,aR,PL.settle,Sl.isAl,Sl.isBr,frz,ab,pC,ad,bO,dt,du,bx,b8,dQ,fO,gv,dY,gb,dZ,fj,eN,f6,fm,fo,look,bt,Sl.val,fN,eK,dr,cJ,d0,bS,dm,bC,cq,fq,jk,aF,af,bG,aJ,dO,ca,cG,cM,eO,ft,fu,bH,ee,ip,Ty.is,bg,aW,jm,a9,ao,aO,eP,fw,bV,aG,cw,a_,cA,fz,cH,ba,bW,dv,List.length_cons,List.length_nil,List.map_cons,List.map_nil,List.replicate,List.cons_append,List.nil_append,List.getElem?_cons_zero,List.getElem?_cons_succ,List.set_cons_zero,List.set_cons_succ,List.isEmpty_nil,List.isEmpty_cons,Option.bind_some,Option.bind_none,Option.map_some,Option.map_none,Option.any_some,Nat.sub_self,Nat.zero_add,Nat.reduceAdd,Nat.reduceSub,Nat.reduceLT,Nat.reduceLeDiff,if_true,if_false,ite_true,ite_false,Bool.false_and,Bool.and_false,Bool.true_and,Bool.and_true,Bool.true_or,Bool.or_true,Bool.false_or,Bool.or_false,Bool.not_true,Bool.not_false,Bool.false_eq_true,reduceIte,decide_true,decide_false,cS,cT,cU,aQ,aS,bh,List.map_append,List.dropLast_concat,ah,au,aw,az,aT,aC,dP,aB,frzAll,dw,cV,bI,bX,Cm.i,Cm.s,cC,fA,fB,fD,jr,i5,fE,cW,bi,aL,bj,aU,bo,aM,bp,eq_self,not_true_eq_false,not_false_eq_true,Int.cast_ofNat_Int,PL.takeP,fF,cX,cY,cZ,e8,eZ,bY,Pt.val,List.all_cons,List.all_nil,fG,c7,c9,c8,bZ,c_,gN,Option.isSome_some,b4,jt,fH,fI,fJ,bn,b5,de,df,cQ,cR,Int.reduceToNat,Int.reducePow,Int.reduceNeg,Int.reduceLT,Int.reduceLE,Int.reduceMul,Int.reduceSub,Nat.reducePow,and_self,dd.1,dd.2.1,dd.2.2,mm,c5,wN,rG,aq]
    · rw [List.mem_singleton.mp hp]
      have:=Int.emod_lt_of_pos (cell / 5) (show (0:Int) < 26 by decide)
      have h2:=Int.emod_nonneg (cell / 5 / 26) (show (2*10 ^ 30 - 1:Int)≠0 by decide)
      have h3:=Int.emod_lt_of_pos (cell / 5 / 26) (show (0:Int) < 2*10 ^ 30 - 1 by decide)
      refine ⟨?_,?_⟩
      · show 97+(cell / 5 % 26).toNat < 128
        omega
      · show (cell / 5 / 26 % (2*10 ^ 30 - 1) - (10 ^ 30 - 1)).natAbs < 2 ^ 100
        generalize cell / 5 / 26 % (2*10 ^ 30 - 1)=z at h2 h3
        omega
  · have m0:=Int.emod_nonneg (cell / 5) (show (13:Int)≠0 by decide)
    have m1:=Int.emod_lt_of_pos (cell / 5) (show (0:Int) < 13 by decide)
    obtain ⟨r',c',a',b',e,l,n⟩:=h7 cell .no (.sh (.int (cell / 5 % 13))) (cell / 5 % 13).toNat 0 (cell / 5 / 13) [] .no .no (by omega) (by simp;omega) mG
    refine ⟨c',?_,by rw [l];simp;omega,n⟩
    have hb: -1000000≤cell / 5 % 13∧cell / 5 % 13≤1000000:=by omega
    simp only [List.map_nil,Int.natCast_zero] at e
    simp only [bv,eT,gc,eX,bu,ck,b7,ar,aP,a8,bT,cO,cu,cP,bQ,bU,aR,PL.settle,Sl.isAl,Sl.isBr,frz,ab,pC,ad,bO,dt,du,bx,b8,dQ,fO,gv,dY,gb,dZ,fj,eN,f6,fm,fo,look,bt,Sl.val,fN,eK,dr,cJ,d0,bS,dm,bC,cq,fq,jk,aF,af,bG,aJ,dO,ca,cG,cM,eO,ft,fu,bH,ee,ip,Ty.is,bg,aW,jm,a9,ao,aO,eP,fw,bV,aG,cw,a_,cA,fz,cH,ba,bW,dv,List.length_cons,List.length_nil,List.map_cons,List.map_nil,List.replicate,List.cons_append,List.nil_append,List.getElem?_cons_zero,List.getElem?_cons_succ,List.set_cons_zero,List.set_cons_succ,List.isEmpty_nil,List.isEmpty_cons,Option.bind_some,Option.bind_none,Option.map_some,Option.map_none,Option.any_some,Nat.sub_self,Nat.zero_add,Nat.reduceAdd,Nat.reduceSub,Nat.reduceLT,Nat.reduceLeDiff,if_true,if_false,ite_true,ite_false,Bool.false_and,Bool.and_false,Bool.true_and,Bool.and_true,Bool.true_or,Bool.or_true,Bool.false_or,Bool.or_false,Bool.not_true,Bool.not_false,Bool.false_eq_true,reduceIte,decide_true,decide_false,cS,cT,cU,aQ,aS,bh,List.map_append,List.dropLast_concat,ah,au,aw,az,aT,aC,dP,aB,frzAll,dw,cV,bI,bX,Cm.i,Cm.s,cC,fA,fB,fD,jr,i5,fE,cW,bi,aL,bj,aU,bo,aM,bp,eq_self,not_true_eq_false,not_false_eq_true,Int.cast_ofNat_Int,PL.takeP,fF,cX,cY,cZ,e8,eZ,bY,Pt.val,List.all_cons,List.all_nil,fG,c7,c9,c8,bZ,c_,gN,Option.isSome_some,b4,jt,fH,fI,fJ,bn,b5,de,df,cQ,cR,Int.reduceLT,dd.1,dd.2.1,dd.2.2,c5,hb,and_self,e]
theorem ju (s0 s1 s2:Sl) (most:Int) (hm0:0≤most) (hm:most≤1000):∀(zs:List Int) (c:List Pc) (a b d:Sl),(c.length:Int)≤most→CordOk c→
    ∃(c':List Pc) (a' b' d':Sl),cI bE bF (zs.map .int) [s0,s1,s2, .sh (.int most), .ow (c.map aq),a,b,d]=some ([s0,s1,s2, .sh (.int most), .ow (c'.map aq),a',b',d'], .nx)∧(c'.length:Int)≤most∧CordOk c'
  | [],c,a,b,d,h,hN=>⟨c,a,b,d,rfl,h,hN⟩
  | z::zs,c,a,b,d,h,hN=>by
    have step:∃(c':List Pc) (a' b' d':Sl),(bE (.int z) [s0,s1,s2, .sh (.int most), .ow (c.map aq),a,b,d]).bind bF=some ([s0,s1,s2, .sh (.int most), .ow (c'.map aq),a',b',d'], .nx)∧(c'.length:Int)≤most∧CordOk c':=by
      have hp:0 < (c.length:Int)+1:=by omega
      have k0:0≤z / 5 % ((c.length:Int)+1):=Int.emod_nonneg _ (by omega)
      have d5:gP 5=true:=by decide
      generalize hk:z / 5 % ((c.length:Int)+1)=k at k0
      have l1:=gi c (some k) none
      have l2:=gi c none (some k)
      by_cases c3:z % 5=3
      · have e1:=eI (cutL c (some k) none) (by omega)
        have lb:c.length+(NH.contr (cutL c (some k) none)).length≤1000000:=by rw [NH.di];omega
        obtain ⟨a1,b1,d1,e⟩:∃a1 b1 d1,(bE (.int z) [s0,s1,s2, .sh (.int most), .ow (c.map aq),a,b,d]).bind bF=some ([s0,s1,s2, .sh (.int most), .ow ((cutL (c++NH.contr (cutL c (some k) none)) none (some most)).map aq),a1,b1,d1], .nx):=by
          simp only [bE,bF,gc,eX,bu,ck,b7,ar,aP,a8,bT,cO,cu,cP,bQ,bU,aR,PL.settle,Sl.isAl,Sl.isBr,frz,ab,pC,ad,bO,dt,du,bx,b8,dQ,fO,gv,dY,gb,dZ,fj,eN,f6,fm,fo,look,bt,Sl.val,fN,eK,dr,cJ,d0,bS,dm,bC,cq,fq,jk,aF,af,bG,aJ,dO,ca,cG,cM,eO,ft,fu,bH,ee,ip,Ty.is,bg,aW,jm,a9,ao,aO,eP,fw,bV,aG,cw,a_,cA,fz,cH,ba,bW,dv,List.length_cons,List.length_nil,List.map_cons,List.map_nil,List.replicate,List.cons_append,List.nil_append,List.getElem?_cons_zero,List.getElem?_cons_succ,List.set_cons_zero,List.set_cons_succ,List.isEmpty_nil,List.isEmpty_cons,Option.bind_some,Option.bind_none,Option.map_some,Option.map_none,Option.any_some,Nat.sub_self,Nat.zero_add,Nat.reduceAdd,Nat.reduceSub,Nat.reduceLT,Nat.reduceLeDiff,if_true,if_false,ite_true,ite_false,Bool.false_and,Bool.and_false,Bool.true_and,Bool.and_true,Bool.true_or,Bool.or_true,Bool.false_or,Bool.or_false,Bool.not_true,Bool.not_false,Bool.false_eq_true,reduceIte,decide_true,decide_false,cS,cT,cU,aQ,aS,bh,List.dropLast_concat,ah,au,aw,az,aT,aC,dP,aB,frzAll,dw,cV,bI,bX,Cm.i,Cm.s,cC,fA,fB,fD,jr,i5,fE,cW,bi,aL,bj,aU,bo,aM,bp,eq_self,not_true_eq_false,not_false_eq_true,Int.cast_ofNat_Int,PL.takeP,fF,cX,cY,cZ,e8,eZ,bY,Pt.val,List.all_cons,List.all_nil,fG,c7,c9,c8,bZ,c_,gN,Option.isSome_some,b4,jt,fH,fI,fJ,bn,b5,de,df,cQ,cR,Int.reduceLT,List.length_map,hp,hk,d5,c3,e1,lb,←List.map_append]
          exact ⟨_,_,_,rfl⟩
        exact ⟨_,a1,b1,d1,e,gj _ hm0,(hN.append (hN.cutL _ _).contr).cutL _ _⟩
      · by_cases c4:z % 5=4
        · obtain ⟨p,ep,lp,np⟩:=ga (z / 5)
          have e1:=eI p (by omega)
          have lb:p.length+(NH.contr p).length≤1000000:=by rw [NH.di];omega
          have lb2:(cutL c none (some k)).length+(p++NH.contr p).length≤1000000:=by rw [List.length_append,NH.di];omega
          have lb3:(cutL c none (some k)++(p++NH.contr p)).length+(cutL c (some k) none).length≤1000000:=by rw [List.length_append,List.length_append,NH.di];omega
          obtain ⟨a1,b1,d1,e⟩:∃a1 b1 d1,(bE (.int z) [s0,s1,s2, .sh (.int most), .ow (c.map aq),a,b,d]).bind bF=some ([s0,s1,s2, .sh (.int most), .ow ((cutL (cutL c none (some k)++(p++NH.contr p)++cutL c (some k) none) none (some most)).map aq),a1,b1,d1], .nx):=by
            simp only [bE,bF,gc,eX,bu,ck,b7,ar,aP,a8,bT,cO,cu,cP,bQ,bU,aR,PL.settle,Sl.isAl,Sl.isBr,frz,ab,pC,ad,bO,dt,du,bx,b8,dQ,fO,gv,dY,gb,dZ,fj,eN,f6,fm,fo,look,bt,Sl.val,fN,eK,dr,cJ,d0,bS,dm,bC,cq,fq,jk,aF,af,bG,aJ,dO,ca,cG,cM,eO,ft,fu,bH,ee,ip,Ty.is,bg,aW,jm,a9,ao,aO,eP,fw,bV,aG,cw,a_,cA,fz,cH,ba,bW,dv,List.length_cons,List.length_nil,List.map_cons,List.map_nil,List.replicate,List.cons_append,List.nil_append,List.getElem?_cons_zero,List.getElem?_cons_succ,List.set_cons_zero,List.set_cons_succ,List.isEmpty_nil,List.isEmpty_cons,Option.bind_some,Option.bind_none,Option.map_some,Option.map_none,Option.any_some,Nat.sub_self,Nat.zero_add,Nat.reduceAdd,Nat.reduceSub,Nat.reduceLT,Nat.reduceLeDiff,if_true,if_false,ite_true,ite_false,Bool.false_and,Bool.and_false,Bool.true_and,Bool.and_true,Bool.true_or,Bool.or_true,Bool.false_or,Bool.or_false,Bool.not_true,Bool.not_false,Bool.false_eq_true,reduceIte,decide_true,decide_false,cS,cT,cU,aQ,aS,bh,List.dropLast_concat,ah,au,aw,az,aT,aC,dP,aB,frzAll,dw,cV,bI,bX,Cm.i,Cm.s,cC,fA,fB,fD,jr,i5,fE,cW,bi,aL,bj,aU,bo,aM,bp,eq_self,not_true_eq_false,not_false_eq_true,Int.cast_ofNat_Int,PL.takeP,fF,cX,cY,cZ,e8,eZ,bY,Pt.val,List.all_cons,List.all_nil,fG,c7,c9,c8,bZ,c_,gN,Option.isSome_some,b4,jt,fH,fI,fJ,bn,b5,de,df,cQ,cR,Int.reduceLT,Int.reduceEq,List.length_map,hp,hk,d5,c3,c4,ep,e1,←List.map_append,lb,lb2,lb3]
            exact ⟨_,_,_,rfl⟩
          exact ⟨_,a1,b1,d1,e,gj _ hm0,(((hN.cutL _ _).append (np.append np.contr)).append (hN.cutL _ _)).cutL _ _⟩
        · obtain ⟨p,ep,lp,np⟩:=ga z
          have lb:c.length+p.length≤1000000:=by omega
          obtain ⟨a1,b1,d1,e⟩:∃a1 b1 d1,(bE (.int z) [s0,s1,s2, .sh (.int most), .ow (c.map aq),a,b,d]).bind bF=some ([s0,s1,s2, .sh (.int most), .ow ((cutL (c++p) none (some most)).map aq),a1,b1,d1], .nx):=by
            simp only [bE,bF,gc,eX,bu,ck,b7,ar,aP,a8,bT,cO,cu,cP,bQ,bU,aR,PL.settle,Sl.isAl,Sl.isBr,frz,ab,pC,ad,bO,dt,du,bx,b8,dQ,fO,gv,dY,gb,dZ,fj,eN,f6,fm,fo,look,bt,Sl.val,fN,eK,dr,cJ,d0,bS,dm,bC,cq,fq,jk,aF,af,bG,aJ,dO,ca,cG,cM,eO,ft,fu,bH,ee,ip,Ty.is,bg,aW,jm,a9,ao,aO,eP,fw,bV,aG,cw,a_,cA,fz,cH,ba,bW,dv,List.length_cons,List.length_nil,List.map_cons,List.map_nil,List.replicate,List.cons_append,List.nil_append,List.getElem?_cons_zero,List.getElem?_cons_succ,List.set_cons_zero,List.set_cons_succ,List.isEmpty_nil,List.isEmpty_cons,Option.bind_some,Option.bind_none,Option.map_some,Option.map_none,Option.any_some,Nat.sub_self,Nat.zero_add,Nat.reduceAdd,Nat.reduceSub,Nat.reduceLT,Nat.reduceLeDiff,if_true,if_false,ite_true,ite_false,Bool.false_and,Bool.and_false,Bool.true_and,Bool.and_true,Bool.true_or,Bool.or_true,Bool.false_or,Bool.or_false,Bool.not_true,Bool.not_false,Bool.false_eq_true,reduceIte,decide_true,decide_false,cS,cT,cU,aQ,aS,bh,List.dropLast_concat,ah,au,aw,az,aT,aC,dP,aB,frzAll,dw,cV,bI,bX,Cm.i,Cm.s,cC,fA,fB,fD,jr,i5,fE,cW,bi,aL,bj,aU,bo,aM,bp,eq_self,not_true_eq_false,not_false_eq_true,Int.cast_ofNat_Int,PL.takeP,fF,cX,cY,cZ,e8,eZ,bY,Pt.val,List.all_cons,List.all_nil,fG,c7,c9,c8,bZ,c_,gN,Option.isSome_some,b4,jt,fH,fI,fJ,bn,b5,de,df,cQ,cR,Int.reduceLT,List.length_map,hp,hk,d5,c3,c4,ep,←List.map_append,lb]
            exact ⟨_,_,_,rfl⟩
          exact ⟨_,a1,b1,d1,e,gj _ hm0,(hN.append np).cutL _ _⟩
    obtain ⟨c1,a1,b1,d1,e,l1,n1⟩:=step
    obtain ⟨c',a',b',d',e2,l2,n2⟩:=ju s0 s1 s2 most hm0 hm zs c1 a1 b1 d1 l1 n1
    refine ⟨c',a',b',d',?_,l2,n2⟩
    rw [List.map_cons,cI,e]
    exact e2
theorem mT (ns:List Int) (first last most:Int) (h0:0≤first) (hm0:0≤most) (hm:most≤1000) (hl:ns.length≤63):∃c:List Pc,dS [.list (ns.map .int), .int first, .int last, .int most]=some (.ow (c.map aq))∧(c.length:Int)≤most∧CordOk c:=by
  obtain ⟨k,rfl⟩:∃k:Nat,first=k:=⟨first.toNat,by omega⟩
  have e0:=kO ns k
  obtain ⟨c,a,b,d,e,l,n⟩:=ju (.sh (.list (ns.map .int))) (.sh (.int k)) (.sh (.int last)) most hm0 hm (ns.getD k 0::cutL ns (some ((k:Int)+1)) (some last)) [] .no .no .no (by simpa using hm0) mG
  have lb:=gi ns (some ((k:Int)+1)) (some last)
  have lb2:1+(cutL ns (some ((k:Int)+1)) (some last)).length≤1000000:=by omega
  simp only [List.map_nil,List.map_cons] at e
  refine ⟨c,?_,l,n⟩
  simp only [dS,gz,gc,eX,bu,ck,b7,ar,aP,a8,bT,cO,cu,cP,bQ,bU,aR,PL.settle,Sl.isAl,Sl.isBr,frz,ab,pC,ad,bO,dt,du,bx,b8,dQ,fO,gv,dY,gb,dZ,fj,eN,f6,fm,fo,look,bt,Sl.val,fN,eK,dr,cJ,d0,bS,dm,bC,cq,fq,jk,aF,af,bG,aJ,dO,ca,cG,cM,eO,ft,fu,bH,ee,ip,Ty.is,bg,aW,jm,a9,ao,aO,eP,fw,bV,aG,cw,a_,cA,fz,cH,ba,bW,dv,List.length_cons,List.length_nil,List.map_cons,List.map_nil,List.replicate,List.cons_append,List.nil_append,List.getElem?_cons_zero,List.getElem?_cons_succ,List.set_cons_zero,List.set_cons_succ,List.isEmpty_nil,List.isEmpty_cons,Option.bind_some,Option.bind_none,Option.map_some,Option.map_none,Option.any_some,Nat.sub_self,Nat.zero_add,Nat.reduceAdd,Nat.reduceSub,Nat.reduceLT,Nat.reduceLeDiff,if_true,if_false,ite_true,ite_false,Bool.false_and,Bool.and_false,Bool.true_and,Bool.and_true,Bool.true_or,Bool.or_true,Bool.false_or,Bool.or_false,Bool.not_true,Bool.not_false,Bool.false_eq_true,reduceIte,decide_true,decide_false,cS,cT,cU,aQ,aS,bh,List.map_append,List.dropLast_concat,ah,au,aw,az,aT,aC,dP,aB,frzAll,dw,cV,bI,bX,Cm.i,Cm.s,cC,fA,fB,fD,jr,i5,fE,cW,bi,aL,bj,aU,bo,aM,bp,eq_self,not_true_eq_false,not_false_eq_true,Int.cast_ofNat_Int,PL.takeP,fF,cX,cY,cZ,e8,eZ,bY,Pt.val,List.all_cons,List.all_nil,fG,c7,c9,c8,bZ,c_,gN,Option.isSome_some,b4,jt,fH,fI,fJ,bn,b5,de,df,cQ,cR,e0,List.length_map,lb2,e]
def mU (x:Bw):Str×Int:=(x.1,x.2.1)
theorem j6 (i:Nat) (a:Str) (n:Int) (is:List Int) (st:List Bw×List (List Int)):((cE i a n is st).1.map mU).reverse=if n=0 then (st.1.map mU).reverse else (a,n)::(st.1.map mU).reverse:=by
  unfold cE
  split
  · rfl
  · simp [mU]
theorem rZ (i:Nat) (p:Str×Int) (st:List Bw×List (List Int)):((eM i p st).1.map mU).reverse=NH.stp (st.1.map mU).reverse p:=by
  rcases List.eq_nil_or_concat st.1 with e | ⟨ws,x,e⟩
  · have hb:eM i p st=cE i p.1 p.2 [] st:=by unfold eM;rw [e];rfl
    rw [hb,j6,e]
    simp only [List.map_nil,List.reverse_nil,NH.stp]
  · rw [List.concat_eq_append] at e
    have hr:(st.1.map mU).reverse=mU x::(ws.map mU).reverse:=by rw [e];simp
    have hb:eM i p st=if x.1=p.1 then cE i p.1 (x.2.1+p.2) x.2.2 (st.1.dropLast,st.2) else cE i p.1 p.2 [] st:=by
      unfold eM
      rw [e,List.getLast?_concat]
    rw [hr,hb]
    by_cases h:x.1=p.1
    · rw [if_pos h,j6]
      have hd:(st.1.dropLast.map mU).reverse=(ws.map mU).reverse:=by rw [e,List.dropLast_concat]
      show (if x.2.1+p.2=0 then (st.1.dropLast.map mU).reverse else (p.1,x.2.1+p.2)::(st.1.dropLast.map mU).reverse)=_
      rw [hd]
      simp [NH.stp,mU,h]
    · rw [if_neg h,j6,hr]
      simp [NH.stp,mU,h]
theorem mV:∀(c:List (Str×Int)) (i:Nat) (st:List Bw×List (List Int)),((aD i c st).1.map mU).reverse=c.foldl NH.stp (st.1.map mU).reverse
  | [],_,_=>rfl
  | p::c,i,st=>by rw [aD,mV c,rZ,List.foldl_cons]
def q2 (p:Pc):Str×Int:=(⟨#[p.1]⟩,p.2)
theorem vP {p q:Pc}:((q2 p).1=(q2 q).1)↔p.1=q.1:=by simp [q2]
theorem tT (r:List Pc) (p:Pc):NH.stp (r.map q2) (q2 p)=(NH.stp r p).map q2:=by
  cases r with
  | nil=>
    show (if p.2=0 then [] else [q2 p])=_
    unfold NH.stp
    by_cases h:p.2=0 <;> simp [h]
  | cons q r=>
    simp only [List.map_cons,NH.stp,vP]
    have e1:(q2 q).2=q.2:=rfl
    have e2:(q2 p).2=p.2:=rfl
    rw [e1,e2]
    by_cases h:q.1=p.1
    · rw [if_pos h,if_pos h]
      by_cases k:q.2+p.2=0 <;> simp [k,q2]
    · rw [if_neg h,if_neg h]
      by_cases k:p.2=0 <;> simp [k]
theorem mW:∀(c r:List Pc),(c.map q2).foldl NH.stp (r.map q2)=(c.foldl NH.stp r).map q2
  | [],_=>rfl
  | p::c,r=>by rw [List.map_cons,List.foldl_cons,tT,mW c,List.foldl_cons]
theorem lY:∀c:List Pc,h6 (c.map aq)=some (c.map q2)
  | []=>rfl
  | p::c=>by
    show (h6 (c.map aq)).map _=_
    rw [lY c]
    rfl
theorem jf (c:List Pc):(aD 0 (c.map q2) ([],[])).1.isEmpty=decide (NH.short c=[]):=by
  have h:=mV (c.map q2) 0 ([],[])
  have e:=mW c []
  simp only [List.map_nil,List.reverse_nil] at h e
  rw [e] at h
  rw [Bool.eq_iff_iff,List.isEmpty_iff,decide_eq_true_iff]
  constructor
  · intro z
    rw [z] at h
    simp only [List.map_nil,List.reverse_nil] at h
    have:=List.map_eq_nil_iff.mp h.symm
    show (NH.stk c).reverse=[]
    rw [NH.stk,this]
    rfl
  · intro z
    have z':c.foldl NH.stp []=[]:=List.reverse_eq_nil_iff.mp z
    rw [z'] at h
    simpa using h
theorem gC {f:aV} {E E1:List Sl} {ds:List PyData} {i:Nat} (h:f E=some (.ow ds,E1)) (hi:i < E1.length):aR i f E=some (E1.set i (.ow ds), .nx):=by
  simp only [aR,h,Option.bind_some,PL.settle,Sl.isAl,Bool.false_eq_true,if_false,hi,if_true,Option.map_some]
theorem r8 {E:List Sl} {f g:aV} {j:Nat} {b:List Pc} {k:Int} {q:Pc} (hf:f E=some (.al j,E)) (hj:E[j]? =some (.ow (b.map aq))) (hg:g E=some (.sh (.int k),E)) (hq:atI b k=some q):ad dY false f g E=some (.sh (aq q),E):=by
  have e:atI (b.map aq) k=some (aq q):=tD aq hq
  have fl:=aT q
  simp only [gc,eX,bu,ck,b7,ar,aP,a8,bT,cO,cu,cP,bQ,bU,aR,PL.settle,Sl.isAl,Sl.isBr,frz,ab,pC,ad,bO,dt,du,bx,b8,dQ,fO,gv,dY,gb,dZ,fj,eN,f6,fm,fo,look,bt,Sl.val,fN,eK,dr,cJ,d0,bS,dm,bC,cq,fq,jk,aF,af,bG,aJ,dO,ca,cG,cM,eO,ft,fu,bH,ee,ip,Ty.is,bg,aW,jm,a9,ao,aO,eP,fw,bV,aG,cw,a_,cA,fz,cH,ba,bW,dv,List.length_cons,List.length_nil,List.map_cons,List.map_nil,List.replicate,List.cons_append,List.nil_append,List.getElem?_cons_zero,List.getElem?_cons_succ,List.set_cons_zero,List.set_cons_succ,List.isEmpty_nil,List.isEmpty_cons,Option.bind_some,Option.bind_none,Option.map_some,Option.map_none,Option.any_some,Nat.sub_self,Nat.zero_add,Nat.reduceAdd,Nat.reduceSub,Nat.reduceLT,Nat.reduceLeDiff,if_true,if_false,ite_true,ite_false,Bool.false_and,Bool.and_false,Bool.true_and,Bool.and_true,Bool.true_or,Bool.or_true,Bool.false_or,Bool.or_false,Bool.not_true,Bool.not_false,Bool.false_eq_true,reduceIte,decide_true,decide_false,cS,cT,cU,aQ,aS,bh,List.map_append,List.dropLast_concat,ah,au,aw,az,aT,aC,dP,aB,frzAll,dw,cV,bI,bX,Cm.i,Cm.s,cC,fA,fB,fD,jr,i5,fE,cW,bi,aL,bj,aU,bo,aM,bp,eq_self,not_true_eq_false,not_false_eq_true,Int.cast_ofNat_Int,PL.takeP,fF,cX,cY,cZ,e8,eZ,bY,Pt.val,List.all_cons,List.all_nil,fG,c7,c9,c8,bZ,c_,gN,Option.isSome_some,b4,jt,fH,fI,fJ,bn,b5,de,df,cQ,cR,hf,hj,hg,e,fl]
theorem n5 {E:List Sl} {f:aV} {q:Pc} (hf:f E=some (.sh (aq q),E)):ad dY false f (pC (.int 0)) E=some (.sh (.str ⟨#[q.1]⟩),E):=by
  simp only [gc,eX,bu,ck,b7,ar,aP,a8,bT,cO,cu,cP,bQ,bU,aR,PL.settle,Sl.isAl,Sl.isBr,frz,ab,pC,ad,bO,dt,du,bx,b8,dQ,fO,gv,dY,gb,dZ,fj,eN,f6,fm,fo,look,bt,Sl.val,fN,eK,dr,cJ,d0,bS,dm,bC,cq,fq,jk,aF,af,bG,aJ,dO,ca,cG,cM,eO,ft,fu,bH,ee,ip,Ty.is,bg,aW,jm,a9,ao,aO,eP,fw,bV,aG,cw,a_,cA,fz,cH,ba,bW,dv,List.length_cons,List.length_nil,List.map_cons,List.map_nil,List.replicate,List.cons_append,List.nil_append,List.getElem?_cons_zero,List.getElem?_cons_succ,List.set_cons_zero,List.set_cons_succ,List.isEmpty_nil,List.isEmpty_cons,Option.bind_some,Option.bind_none,Option.map_some,Option.map_none,Option.any_some,Nat.sub_self,Nat.zero_add,Nat.reduceAdd,Nat.reduceSub,Nat.reduceLT,Nat.reduceLeDiff,if_true,if_false,ite_true,ite_false,Bool.false_and,Bool.and_false,Bool.true_and,Bool.and_true,Bool.true_or,Bool.or_true,Bool.false_or,Bool.or_false,Bool.not_true,Bool.not_false,Bool.false_eq_true,reduceIte,decide_true,decide_false,cS,cT,cU,aQ,aS,bh,List.map_append,List.dropLast_concat,ah,au,aw,az,aT,aC,dP,aB,frzAll,dw,cV,bI,bX,Cm.i,Cm.s,cC,fA,fB,fD,jr,i5,fE,cW,bi,aL,bj,aU,bo,aM,bp,eq_self,not_true_eq_false,not_false_eq_true,Int.cast_ofNat_Int,PL.takeP,fF,cX,cY,cZ,e8,eZ,bY,Pt.val,List.all_cons,List.all_nil,fG,c7,c9,c8,bZ,c_,gN,Option.isSome_some,b4,jt,fH,fI,fJ,bn,b5,de,df,cQ,cR,hf,aq]
theorem r_ {E:List Sl} {f:aV} {q:Pc} (hf:f E=some (.sh (aq q),E)):ad dY false f (pC (.int 1)) E=some (.sh (.int q.2),E):=by
  simp only [gc,eX,bu,ck,b7,ar,aP,a8,bT,cO,cu,cP,bQ,bU,aR,PL.settle,Sl.isAl,Sl.isBr,frz,ab,pC,ad,bO,dt,du,bx,b8,dQ,fO,gv,dY,gb,dZ,fj,eN,f6,fm,fo,look,bt,Sl.val,fN,eK,dr,cJ,d0,bS,dm,bC,cq,fq,jk,aF,af,bG,aJ,dO,ca,cG,cM,eO,ft,fu,bH,ee,ip,Ty.is,bg,aW,jm,a9,ao,aO,eP,fw,bV,aG,cw,a_,cA,fz,cH,ba,bW,dv,List.length_cons,List.length_nil,List.map_cons,List.map_nil,List.replicate,List.cons_append,List.nil_append,List.getElem?_cons_zero,List.getElem?_cons_succ,List.set_cons_zero,List.set_cons_succ,List.isEmpty_nil,List.isEmpty_cons,Option.bind_some,Option.bind_none,Option.map_some,Option.map_none,Option.any_some,Nat.sub_self,Nat.zero_add,Nat.reduceAdd,Nat.reduceSub,Nat.reduceLT,Nat.reduceLeDiff,if_true,if_false,ite_true,ite_false,Bool.false_and,Bool.and_false,Bool.true_and,Bool.and_true,Bool.true_or,Bool.or_true,Bool.false_or,Bool.or_false,Bool.not_true,Bool.not_false,Bool.false_eq_true,reduceIte,decide_true,decide_false,cS,cT,cU,aQ,aS,bh,List.map_append,List.dropLast_concat,ah,au,aw,az,aT,aC,dP,aB,frzAll,dw,cV,bI,bX,Cm.i,Cm.s,cC,fA,fB,fD,jr,i5,fE,cW,bi,aL,bj,aU,bo,aM,bp,eq_self,not_true_eq_false,not_false_eq_true,Int.cast_ofNat_Int,PL.takeP,fF,cX,cY,cZ,e8,eZ,bY,Pt.val,List.all_cons,List.all_nil,fG,c7,c9,c8,bZ,c_,gN,Option.isSome_some,b4,jt,fH,fI,fJ,bn,b5,de,df,cQ,cR,hf,aq]
theorem pc {E:List Sl} {A:List Pc} {i:Nat} (hi:E[i]? =some (.ow (A.map aq))) (hl:A.length≤1000000):cG cM (af false (ab i) aF) E=some (.sh (.int (A.length:Int)),E):=by
  simp only [gc,eX,bu,ck,b7,ar,aP,a8,bT,cO,cu,cP,bQ,bU,aR,PL.settle,Sl.isAl,Sl.isBr,frz,ab,pC,ad,bO,dt,du,bx,b8,dQ,fO,gv,dY,gb,dZ,fj,eN,f6,fm,fo,look,bt,Sl.val,fN,eK,dr,cJ,d0,bS,dm,bC,cq,fq,jk,aF,af,bG,aJ,dO,ca,cG,cM,eO,ft,fu,bH,ee,ip,Ty.is,bg,aW,jm,a9,ao,aO,eP,fw,bV,aG,cw,a_,cA,fz,cH,ba,bW,dv,List.length_cons,List.length_nil,List.map_cons,List.map_nil,List.replicate,List.cons_append,List.nil_append,List.getElem?_cons_zero,List.getElem?_cons_succ,List.set_cons_zero,List.set_cons_succ,List.isEmpty_nil,List.isEmpty_cons,Option.bind_some,Option.bind_none,Option.map_some,Option.map_none,Option.any_some,Nat.sub_self,Nat.zero_add,Nat.reduceAdd,Nat.reduceSub,Nat.reduceLT,Nat.reduceLeDiff,if_true,if_false,ite_true,ite_false,Bool.false_and,Bool.and_false,Bool.true_and,Bool.and_true,Bool.true_or,Bool.or_true,Bool.false_or,Bool.or_false,Bool.not_true,Bool.not_false,Bool.false_eq_true,reduceIte,decide_true,decide_false,cS,cT,cU,aQ,aS,bh,List.map_append,List.dropLast_concat,ah,au,aw,az,aT,aC,dP,aB,frzAll,dw,cV,bI,bX,Cm.i,Cm.s,cC,fA,fB,fD,jr,i5,fE,cW,bi,aL,bj,aU,bo,aM,bp,eq_self,not_true_eq_false,not_false_eq_true,Int.cast_ofNat_Int,PL.takeP,fF,cX,cY,cZ,e8,eZ,bY,Pt.val,List.all_cons,List.all_nil,fG,c7,c9,c8,bZ,c_,gN,Option.isSome_some,b4,jt,fH,fI,fJ,bn,b5,de,df,cQ,cR,hi,List.length_map,hl]
theorem jv {c:List Pc} (h:NailsOk c):NailsOk (NH.contr c):=fun p hp=>by
  obtain ⟨q,hq,e⟩:=List.mem_map.mp hp
  subst e
  exact h q (List.mem_reverse.mp hq)
theorem mX {E:List Sl} {f g:aV} {x y:Int} (hf:f E=some (.sh (.int x),E)) (hg:g E=some (.sh (.int y),E)):dr (ad fO false f g) E=some (decide (x=y),E):=by
  simp only [dr,ad,hf,hg,Option.bind_some,fO,eN,look,Sl.val,aU,Option.map_some,Bool.false_and,Bool.false_eq_true,if_false]
theorem uB {E:List Sl} {f g:aV} {x y:Int} (hf:f E=some (.sh (.int x),E)) (hg:g E=some (.sh (.int y),E)):dr (ad (eN (bX .lt)) false f g) E=some (decide (x < y),E):=by
  simp only [dr,ad,hf,hg,Option.bind_some,eN,look,Sl.val,bX,Cm.i,Option.map_some,Bool.false_and,Bool.false_eq_true,if_false]
theorem uC (E:List Sl):ad dQ false (pC (.int 10)) (pC (.int 30)) E=some (.sh (.int (10 ^ 30)),E):=by
  simp only [gc,eX,bu,ck,b7,ar,aP,a8,bT,cO,cu,cP,bQ,bU,aR,PL.settle,Sl.isAl,Sl.isBr,frz,ab,pC,ad,bO,dt,du,bx,b8,dQ,fO,gv,dY,gb,dZ,fj,eN,f6,fm,fo,look,bt,Sl.val,fN,eK,dr,cJ,d0,bS,dm,bC,cq,fq,jk,aF,af,bG,aJ,dO,ca,cG,cM,eO,ft,fu,bH,ee,ip,Ty.is,bg,aW,jm,a9,ao,aO,eP,fw,bV,aG,cw,a_,cA,fz,cH,ba,bW,dv,List.length_cons,List.length_nil,List.map_cons,List.map_nil,List.replicate,List.cons_append,List.nil_append,List.getElem?_cons_zero,List.getElem?_cons_succ,List.set_cons_zero,List.set_cons_succ,List.isEmpty_nil,List.isEmpty_cons,Option.bind_some,Option.bind_none,Option.map_some,Option.map_none,Option.any_some,Nat.sub_self,Nat.zero_add,Nat.reduceAdd,Nat.reduceSub,Nat.reduceLT,Nat.reduceLeDiff,if_true,if_false,ite_true,ite_false,Bool.false_and,Bool.and_false,Bool.true_and,Bool.and_true,Bool.true_or,Bool.or_true,Bool.false_or,Bool.or_false,Bool.not_true,Bool.not_false,Bool.false_eq_true,reduceIte,decide_true,decide_false,cS,cT,cU,aQ,aS,bh,List.map_append,List.dropLast_concat,ah,au,aw,az,aT,aC,dP,aB,frzAll,dw,cV,bI,bX,Cm.i,Cm.s,cC,fA,fB,fD,jr,i5,fE,cW,bi,aL,bj,aU,bo,aM,bp,eq_self,not_true_eq_false,not_false_eq_true,Int.cast_ofNat_Int,PL.takeP,fF,cX,cY,cZ,e8,eZ,bY,Pt.val,List.all_cons,List.all_nil,fG,c7,c9,c8,bZ,c_,gN,Option.isSome_some,b4,jt,fH,fI,fJ,bn,b5,de,df,cQ,cR,Int.reduceLT,Int.reduceLE,Int.reduceEq,Int.reduceNe,Int.reduceNeg,Int.reduceAdd,Int.reduceSub,Int.reduceMul,Int.reduceToNat,Int.reducePow,Nat.reducePow,and_self]
theorem iA {it:iY} {tg:iR} {body:fg} {E E1 E2:List Sl} {ds:List PyData} (h:it E=some (ds,E1)) (l:cI tg body ds E1=some (E2, .nx)):dv it tg body E=some (E2, .nx):=by
  unfold dv
  rw [h,Option.bind_some,l]
theorem n6 {E:List Sl} {f:aV} {z:Int} {c:Nat} (hf:f E=some (.sh (.int z),E)) (h1:z=(c:Int)) (h2:c≤1000):ba (af false f aF) E=some (ir 0 c,E):=by
  have o1:(-1000000:Int)≤z:=by omega
  have o2:z≤1000000:=by omega
  have t:z.toNat=c:=by omega
  simp only [ba,af,aF,hf,Option.bind_some,Option.map_some,Bool.false_and,Bool.false_eq_true,if_false,bt,look,Sl.val,o1,o2,and_self,if_true,decide_true,t]
theorem gG {E:List Sl} {f g:aV} {ds:List PyData} {k:Int} {d:PyData} (hf:f E=some (.sh (.list ds),E)) (hg:g E=some (.sh (.int k),E)) (ha:atI ds k=some d):ad dY false f g E=some (.sh d,E):=by
  simp only [ad,hf,hg,Option.bind_some,Bool.false_and,Bool.false_eq_true,if_false,dY,look,Sl.val,ha,Option.map_some,fN,eK]
theorem wT {E:List Sl} {f g:aV} {ds:List PyData} {j:Nat} {k:Int} {d:PyData} (hf:f E=some (.al j,E)) (hj:E[j]? =some (.ow ds)) (hg:g E=some (.sh (.int k),E)) (ha:atI ds k=some d):ad dY false f g E=some (.sh d,E):=by
  simp only [ad,hf,hg,hj,Option.bind_some,Bool.false_and,Bool.false_eq_true,if_false,dY,look,Sl.val,ha,Option.map_some,fN,eK,Option.any_some]
theorem xL {E:List Sl} {f g:aV} {x y:Int} (hf:f E=some (.sh (.int x),E)) (hg:g E=some (.sh (.int y),E)):dr (ad gv false f g) E=some (!decide (x=y),E):=by
  simp only [dr,ad,hf,hg,Option.bind_some,gv,eN,look,Sl.val,aU,Option.map_some,Bool.false_and,Bool.false_eq_true,if_false]
theorem xM {E:List Sl} {f g:aV} {x y:Str} (hf:f E=some (.sh (.str x),E)) (hg:g E=some (.sh (.str y),E)):dr (ad gv false f g) E=some (!decide (x=y),E):=by
  have q:pR (.str x) (.str y)=some (decide (x=y)):=rfl
  simp only [dr,ad,hf,hg,Option.bind_some,gv,eN,look,Sl.val,q,Option.map_some,Bool.false_and,Bool.false_eq_true,if_false]
theorem iL {E:List Sl} {f g:aV} {x y:Int} (hf:f E=some (.sh (.int x),E)) (hg:g E=some (.sh (.int y),E)):dr (ad (eN (bX .le)) false f g) E=some (decide (x≤y),E):=by
  simp only [dr,ad,hf,hg,Option.bind_some,eN,look,Sl.val,bX,Cm.i,Option.map_some,Bool.false_and,Bool.false_eq_true,if_false]
theorem uD {E:List Sl} {f g:aV} {x y:Int} (hf:f E=some (.sh (.int x),E)) (hg:g E=some (.sh (.int y),E)):dr (ad (eN (bX .gt)) false f g) E=some (decide (x > y),E):=by
  simp only [dr,ad,hf,hg,Option.bind_some,eN,look,Sl.val,bX,Cm.i,Option.map_some,Bool.false_and,Bool.false_eq_true,if_false]
theorem lZ {E:List Sl} {f:aV} {n:Ty} {d:PyData} (hf:f E=some (.sh d,E)):cJ (gb (ee n) f) E=some ((ip d).is n,E):=by
  simp only [cJ,gb,hf,Option.bind_some,look,Sl.val,ee,Option.map_some,d0]
theorem iB {E:List Sl} {t:iE} {b:Bool} (h:t E=some (b,E)):bC t E=some (!b,E):=by
  simp only [bC,h,Option.map_some]
theorem n8 {a b:iE} {E:List Sl} (h:a E=some (false,E)):bS a b E=some (false,E):=by
  simp only [bS,h,Option.bind_some,Bool.false_eq_true,if_false]
theorem jB {a b:iE} {E:List Sl} {r:Option (Bool×List Sl)} (h:a E=some (true,E)) (k:b E=r):bS a b E=r:=by
  simp only [bS,h,Option.bind_some,if_true,k]
theorem se {E:List Sl} {f g h:aV} {x y z:Int} (hf:f E=some (.sh (.int x),E)) (hg:g E=some (.sh (.int y),E)) (hh:h E=some (.sh (.int z),E)) (h1:x≤y) (h2:y < z):dr (a9 (bX .le) (bX .lt) false false f g h) E=some (true,E):=by
  simp only [dr,a9,hf,hg,hh,Option.bind_some,look,Sl.val,bX,Cm.i,Option.map_some,Bool.false_and,Bool.or_self,Bool.false_eq_true,if_false,decide_eq_true h1,decide_eq_true h2]
theorem jC {E:List Sl} {i:Nat} {ds:List PyData} (h:E[i]? =some (.sh (.list ds))) (hl:ds.length≤1000000):cG cM (af false (ab i) aF) E=some (.sh (.int (ds.length:Int)),E):=by
  simp only [gc,eX,bu,ck,b7,ar,aP,a8,bT,cO,cu,cP,bQ,bU,aR,PL.settle,Sl.isAl,Sl.isBr,frz,ab,pC,ad,bO,dt,du,bx,b8,dQ,fO,gv,dY,gb,dZ,fj,eN,f6,fm,fo,look,bt,Sl.val,fN,eK,dr,cJ,d0,bS,dm,bC,cq,fq,jk,aF,af,bG,aJ,dO,ca,cG,cM,eO,ft,fu,bH,ee,ip,Ty.is,bg,aW,jm,a9,ao,aO,eP,fw,bV,aG,cw,a_,cA,fz,cH,ba,bW,dv,List.length_cons,List.length_nil,List.map_cons,List.map_nil,List.replicate,List.cons_append,List.nil_append,List.getElem?_cons_zero,List.getElem?_cons_succ,List.set_cons_zero,List.set_cons_succ,List.isEmpty_nil,List.isEmpty_cons,Option.bind_some,Option.bind_none,Option.map_some,Option.map_none,Option.any_some,Nat.sub_self,Nat.zero_add,Nat.reduceAdd,Nat.reduceSub,Nat.reduceLT,Nat.reduceLeDiff,if_true,if_false,ite_true,ite_false,Bool.false_and,Bool.and_false,Bool.true_and,Bool.and_true,Bool.true_or,Bool.or_true,Bool.false_or,Bool.or_false,Bool.not_true,Bool.not_false,Bool.false_eq_true,reduceIte,decide_true,decide_false,cS,cT,cU,aQ,aS,bh,List.map_append,List.dropLast_concat,ah,au,aw,az,aT,aC,dP,aB,frzAll,dw,cV,bI,bX,Cm.i,Cm.s,cC,fA,fB,fD,jr,i5,fE,cW,bi,aL,bj,aU,bo,aM,bp,eq_self,not_true_eq_false,not_false_eq_true,Int.cast_ofNat_Int,PL.takeP,fF,cX,cY,cZ,e8,eZ,bY,Pt.val,List.all_cons,List.all_nil,fG,c7,c9,c8,bZ,c_,gN,Option.isSome_some,b4,jt,fH,fI,fJ,bn,b5,de,df,cQ,cR,h,hl]
theorem tU (b:List Int) (n x:Int) (k:Nat) (x2:Sl) (hk:b[k]? =some x) (h0:0≤x) (h1:x < n) (hu:∀(j:Nat) (y:Int),k=j+1→b[j]? =some y→y < x):(bJ (.int k) [.sh (.list (b.map .int)), .sh (.int n),x2]).bind bK=some ([.sh (.list (b.map .int)), .sh (.int n), .sh (.int k)], .nx):=by
  have t:bJ (.int k) [.sh (.list (b.map .int)), .sh (.int n),x2]=some [.sh (.list (b.map .int)), .sh (.int n), .sh (.int k)]:=rfl
  rw [t,Option.bind_some,bK]
  have ea:atI (b.map PyData.int) (k:Int)=some (.int x):=by rw [cN,List.getElem?_map,hk];rfl
  have ex:=gG (E:=[.sh (.list (b.map .int)), .sh (.int n), .sh (.int k)]) (f:=ab 0) (g:=ab 2) rfl rfl ea
  refine (bb (eV (E1:=[.sh (.list (b.map .int)), .sh (.int n), .sh (.int k)]) (mS (iB (lZ ex)) (mS (lZ ex) (iB (se (f:=pC (.int 0)) (h:=ab 1) rfl ex rfl h0 h1)))) rfl)).trans ?_
  have g:=uD (E:=[.sh (.list (b.map .int)), .sh (.int n), .sh (.int k)]) (f:=ab 2) (g:=pC (.int 0)) (x:=k) (y:=0) rfl rfl
  cases k with
  | zero=>
    refine eV (n8 (g.trans ?_)) rfl
    rw [decide_eq_false (by omega)]
  | succ j=>
    have hj:j < b.length:=by have:=(List.getElem?_eq_some_iff.mp hk).1;omega
    have ej:b[j]? =some b[j]:=List.getElem?_eq_getElem hj
    have eb:atI (b.map PyData.int) ((j+1:Nat) - 1:Int)=some (.int b[j]):=by
      rw [show ((j+1:Nat) - 1:Int)=(j:Int) by omega,cN,List.getElem?_map,ej]
      rfl
    have ey:=gG (E:=[.sh (.list (b.map .int)), .sh (.int n), .sh (.int (j+1:Nat))]) (f:=ab 0) rfl (lX (f:=ab 2) (g:=pC (.int 1)) (x:=(j+1:Nat)) (y:=1) rfl rfl) eb
    rw [decide_eq_true (by omega)] at g
    refine eV (jB g ((iL ex ey).trans ?_)) rfl
    rw [decide_eq_false (by have:=hu j _ rfl ej;omega)]
theorem pf (b:List Int) (n:Int) (hb:∀x∈b,0≤x∧x < n) (hu:b.Pairwise (· < ·)):∀(m k:Nat) (x2:Sl),k+m=b.length→∃x2',cI bJ bK (ir k m) [.sh (.list (b.map .int)), .sh (.int n),x2]=some ([.sh (.list (b.map .int)), .sh (.int n),x2'], .nx)
  | 0,k,x2,_=>⟨x2,rfl⟩
  | m+1,k,x2,h=>by
    have hk:k < b.length:=by omega
    have ek:b[k]? =some b[k]:=List.getElem?_eq_getElem hk
    have hx:=hb _ (List.getElem_mem hk)
    have st:=tU b n b[k] k x2 ek hx.1 hx.2 fun j y e ey=>by
      subst e
      have hj:=(List.getElem?_eq_some_iff.mp ey)
      rw [←hj.2]
      exact List.pairwise_iff_getElem.mp hu j (j+1) hj.1 hk (by omega)
    obtain ⟨x2',e⟩:=pf b n hb hu m (k+1) (.sh (.int k)) (by omega)
    refine ⟨x2',?_⟩
    rw [hE,cI,st]
    exact e
theorem ph:∀l:List Int,PyData.canLayAll0 (l.map PyData.int)=true∧PyData.depthAll (l.map PyData.int)=0
  | []=>by simp [PyData.canLayAll0,PyData.depthAll]
  | a::l=>by
    obtain ⟨x,y⟩:=ph l
    have h1:(PyData.int a).canLay0=true:=by simp [PyData.canLay0]
    have h2:(PyData.int a).depth=0:=by simp [PyData.depth]
    simp only [List.map_cons,PyData.canLayAll0,PyData.depthAll,h1,h2,x,y,Bool.and_self,true_and]
    rfl
theorem j7 (l:List Int):SeqAt.shaped (.list (l.map .int))=true:=by
  obtain ⟨x,y⟩:=ph l
  unfold SeqAt.shaped
  simp only [PyData.canLay0,PyData.depth,x,y,Bool.true_and]
  decide
theorem sf {b:List Int} (ne:b≠[]):pR (.list (b.map .int)) (.list [])=some false:=by
  show (if SeqAt.shaped (.list (b.map .int))&&SeqAt.shaped (.list []) then some (PyData.eqv (.list (b.map .int)) (.list [])) else none)=_
  rw [j7,show SeqAt.shaped (.list [])=true from j7 []]
  cases b with
  | nil=>exact absurd rfl ne
  | cons x b=>simp [PyData.eqv,PyData.eqvAll]
theorem n_ (b:List Int) (n:Int) (ne:b≠[]) (hl:b.length≤1000) (hb:∀x∈b,0≤x∧x < n) (hu:b.Pairwise (· < ·)):aN [.list (b.map .int), .int n]=some (.sh (.bool true)):=by
  obtain ⟨x2,e⟩:=pf b n hb hu b.length 0 .no (by omega)
  have it:=n6 (E:=[.sh (.list (b.map .int)), .sh (.int n), .no]) (jC (i:=0) (ds:=b.map .int) rfl (by rw [List.length_map];omega)) (c:=b.length) (by rw [List.length_map]) hl
  have s:=iA it e
  have q:pR (.list (b.map .int)) (.list [])=some false:=sf ne
  have g:aN [.list (b.map .int), .int n]=(cc [.sh (.list (b.map .int)), .sh (.int n), .no]).bind fun a=>match a.2 with | .rt r=>dP r | .nx=>some (.sh .none) | _=>none:=rfl
  rw [g,cc,bb (eV (E1:=[.sh (.list (b.map .int)), .sh (.int n), .no]) (mS (E1:=[.sh (.list (b.map .int)), .sh (.int n), .no]) ((iB (lZ (d:= .list (b.map .int)) (f:=ab 0) rfl)).trans rfl) ?_) rfl),bb s]
  · rfl
  · simp only [gc,eX,bu,ck,b7,ar,aP,a8,bT,cO,cu,cP,bQ,bU,aR,PL.settle,Sl.isAl,Sl.isBr,frz,ab,pC,ad,bO,dt,du,bx,b8,dQ,fO,gv,dY,gb,dZ,fj,eN,f6,fm,fo,look,bt,Sl.val,fN,eK,dr,cJ,d0,bS,dm,bC,cq,fq,jk,aF,af,bG,aJ,dO,ca,cG,cM,eO,ft,fu,bH,ee,ip,Ty.is,bg,aW,jm,a9,ao,aO,eP,fw,bV,aG,cw,a_,cA,fz,cH,ba,bW,dv,List.length_cons,List.length_nil,List.map_cons,List.map_nil,List.replicate,List.cons_append,List.nil_append,List.getElem?_cons_zero,List.getElem?_cons_succ,List.set_cons_zero,List.set_cons_succ,List.isEmpty_nil,List.isEmpty_cons,Option.bind_some,Option.bind_none,Option.map_some,Option.map_none,Option.any_some,Nat.sub_self,Nat.zero_add,Nat.reduceAdd,Nat.reduceSub,Nat.reduceLT,Nat.reduceLeDiff,if_true,if_false,ite_true,ite_false,Bool.false_and,Bool.and_false,Bool.true_and,Bool.and_true,Bool.true_or,Bool.or_true,Bool.false_or,Bool.or_false,Bool.not_true,Bool.not_false,Bool.false_eq_true,reduceIte,decide_true,decide_false,cS,cT,cU,aQ,aS,bh,List.map_append,List.dropLast_concat,ah,au,aw,az,aT,aC,dP,aB,frzAll,dw,cV,bI,bX,Cm.i,Cm.s,cC,fA,fB,fD,jr,i5,fE,cW,bi,aL,bj,aU,bo,aM,bp,eq_self,not_true_eq_false,not_false_eq_true,Int.cast_ofNat_Int,PL.takeP,fF,cX,cY,cZ,e8,eZ,bY,Pt.val,List.all_cons,List.all_nil,fG,c7,c9,c8,bZ,c_,gN,Option.isSome_some,b4,jt,fH,fI,fJ,bn,b5,de,df,cQ,cR,q]
theorem uE {E:List Sl} {f g:aV} {c:List Pc} {k:Int} {q:Pc} (hf:f E=some (.sh (.list (c.map aq)),E)) (hg:g E=some (.sh (.int k),E)) (h0:0≤k) (hq:c[k.toNat]? =some q):ad dY false f g E=some (.sh (aq q),E):=by
  refine gG hf hg ?_
  rw [lC h0,List.getElem?_map,hq]
  rfl
theorem tV (c:List Pc) (b:List Int) (tot k:Int) (x3:Sl) (q q0:Pc) (k0:Int) (hb:b[0]? =some k0) (h0:0≤k0) (h1:0≤k) (e0:c[k0.toNat]? =some q0) (e1:c[k.toNat]? =some q) (hq:q.1=q0.1):
    (bA (.int k) [.sh (.list (c.map aq)), .sh (.list (b.map .int)), .sh (.int tot),x3]).bind bB=some ([.sh (.list (c.map aq)), .sh (.list (b.map .int)), .sh (.int (tot+q.2)), .sh (.int k)], .nx):=by
  have t:bA (.int k) [.sh (.list (c.map aq)), .sh (.list (b.map .int)), .sh (.int tot),x3]=some [.sh (.list (c.map aq)), .sh (.list (b.map .int)), .sh (.int tot), .sh (.int k)]:=rfl
  rw [t,Option.bind_some,bB]
  have p:=uE (E:=[.sh (.list (c.map aq)), .sh (.list (b.map .int)), .sh (.int tot), .sh (.int k)]) (f:=ab 0) (g:=ab 3) rfl rfl h1 e1
  have ea:atI (b.map PyData.int) 0=some (.int k0):=by
    rw [show (0:Int)=((0:Nat):Int) from rfl,cN,List.getElem?_map,hb]
    rfl
  have p0:=uE (E:=[.sh (.list (c.map aq)), .sh (.list (b.map .int)), .sh (.int tot), .sh (.int k)]) (f:=ab 0) rfl (gG (f:=ab 1) (g:=pC (.int 0)) rfl rfl ea) h0 e0
  have tt:=xM (n5 p) (n5 p0)
  rw [hq,decide_eq_true rfl] at tt
  refine (bb (eV tt rfl)).trans ?_
  exact j5 (i:=2) (j4 (g:=ab 2) (x:=tot) rfl (r_ p)) (show 2 < 4 by decide)
theorem pi (c:List Pc) (b:List Int) (q0:Pc) (k0:Int) (hb:b[0]? =some k0) (h0:0≤k0) (e0:c[k0.toNat]? =some q0):∀(r:List Int) (tot:Int) (x3:Sl),(∀k∈r,0≤k∧∃q,c[k.toNat]? =some q∧q.1=q0.1)→
    ∃x3',cI bA bB (r.map .int) [.sh (.list (c.map aq)), .sh (.list (b.map .int)), .sh (.int tot),x3]=some ([.sh (.list (c.map aq)), .sh (.list (b.map .int)), .sh (.int (tot+(r.map (tn (c.map q2))).sum)),x3'], .nx)
  | [],tot,x3,_=>⟨x3,by simp [cI]⟩
  | k::r,tot,x3,h=>by
    obtain ⟨h1,q,e1,hq⟩:=h k (List.mem_cons_self ..)
    obtain ⟨x3',e⟩:=pi c b q0 k0 hb h0 e0 r (tot+q.2) (.sh (.int k)) fun z hz=>h z (List.mem_cons_of_mem _ hz)
    refine ⟨x3',?_⟩
    have tq:tn (c.map q2) k=q.2:=by
      unfold tn
      rw [List.getD_eq_getElem?_getD,List.getElem?_map,e1]
      rfl
    rw [List.map_cons,cI,tV c b tot k x3 q q0 k0 hb h0 h1 e0 e1 hq,List.map_cons,List.sum_cons,tq,←Int.add_assoc]
    exact e
theorem tW (c:List Pc) (b:List Int) (a:Str) (ok:BOk (c.map q2) b a 0) (nn:∀k∈b,0≤k):aH [.list (c.map aq), .list (b.map .int)]=some (.sh (.bool true)):=by
  have nl:∀k∈b,∃q:Pc,c[k.toNat]? =some q∧(⟨#[q.1]⟩:Str)=a:=fun k hk=>by
    obtain ⟨q,e,h⟩:=ok.nail k hk
    rw [List.getElem?_map] at e
    obtain ⟨p,ep,e⟩:=Option.map_eq_some_iff.mp e
    subst e
    exact ⟨p,ep,h⟩
  obtain ⟨k0,hb⟩:∃k0,b[0]? =some k0:=by
    cases b with
    | nil=>exact absurd rfl ok.ne
    | cons x b=>exact ⟨x,rfl⟩
  have m0:=List.mem_of_getElem? hb
  obtain ⟨q0,e0,n0⟩:=nl k0 m0
  obtain ⟨x3,e⟩:=pi c b q0 k0 hb (nn k0 m0) e0 b 0 .no fun k hk=>by
    obtain ⟨q,eq,nq⟩:=nl k hk
    refine ⟨nn k hk,q,eq,?_⟩
    have:=nq.trans n0.symm
    simpa using this
  rw [ok.sum] at e
  have it:dw (ab 1) [.sh (.list (c.map aq)), .sh (.list (b.map .int)), .sh (.int 0), .no]=some (b.map .int,[.sh (.list (c.map aq)), .sh (.list (b.map .int)), .sh (.int 0), .no]):=rfl
  have s:=iA it e
  have g:aH [.list (c.map aq), .list (b.map .int)]=(b6 [.sh (.list (c.map aq)), .sh (.list (b.map .int)), .no, .no]).bind fun a=>match a.2 with | .rt r=>dP r | .nx=>some (.sh .none) | _=>none:=rfl
  have s0:aR 2 (pC (.int 0)) [.sh (.list (c.map aq)), .sh (.list (b.map .int)), .no, .no]=some ([.sh (.list (c.map aq)), .sh (.list (b.map .int)), .sh (.int 0), .no], .nx):=rfl
  rw [g,b6,bb s0,bb s]
  rfl
def bD (b:List Int):PyData:= .list (b.map .int)
theorem tX {kvs:List (bN×PyData)} {k:bN} (h:eQ kvs k=none):(kvs.any fun kv=>decide (kv.1=k))=false:=by
  induction kvs with
  | nil=>rfl
  | cons p r ih=>
    unfold eQ at h
    by_cases e:p.1=k
    · rw [if_pos e] at h
      cases h
    · rw [if_neg e] at h
      rw [List.any_cons,decide_eq_false e,Bool.false_or]
      exact ih h
theorem tY {kvs:List (bN×PyData)} {k:bN} {d:PyData} (h:eQ kvs k=none):qe kvs k d=kvs++[(k,d)]:=by
  unfold qe
  rw [tX h]
  rfl
theorem iO:∀(a b:List (bN×PyData)) (k:bN),eQ (a++b) k=(eQ a k).or (eQ b k)
  | [],b,k=>rfl
  | p::a,b,k=>by
    rw [List.cons_append,eQ,eQ]
    by_cases e:p.1=k
    · rw [if_pos e,if_pos e]
      rfl
    · rw [if_neg e,if_neg e]
      exact iO a b k
def mY (m:Nat) (b:List Int):List (bN×PyData):=b.map fun k=>(.inl k, .int m)
def kf:Nat→List (List Int)→List (bN×PyData)
  | _,[]=>[]
  | m,b::r=>mY m b++kf (m+1) r
theorem iP (m:Nat):∀(b:List Int) (k:Int),eQ (mY m b) (.inl k)=if k∈b then some (.int m) else none
  | [],k=>by simp [mY,eQ]
  | x::b,k=>by
    have ih:=iP m b k
    unfold mY at ih ⊢
    rw [List.map_cons,eQ]
    by_cases e:x=k
    · subst e
      simp
    · have e1:¬((Sum.inl x:bN)=Sum.inl k):=fun z=>e (Sum.inl.inj z)
      have e2:¬(k=x):=fun z=>e z.symm
      rw [if_neg e1,ih]
      simp [e2]
theorem mZ:∀(m:Nat) (bs:List (List Int)) (j:Nat) (b:List Int) (k:Int),bs.flatten.Nodup→bs[j]? =some b→k∈b→eQ (kf m bs) (.inl k)=some (.int ((m+j:Nat):Int))
  | m,[],j,b,k,_,h,_=>by simp at h
  | m,c::r,0,b,k,_,h,hk=>by
    cases h
    rw [kf,iO,iP,if_pos hk]
    rfl
  | m,c::r,j+1,b,k,nd,h,hk=>by
    rw [List.flatten_cons] at nd
    have h':r[j]? =some b:=h
    have hr:k∈r.flatten:=List.mem_flatten.mpr ⟨b,List.mem_of_getElem? h',hk⟩
    have hc:k∉c:=fun z=>(List.nodup_append.mp nd).2.2 k z k hr rfl
    rw [kf,iO,iP,if_neg hc,mZ (m+1) r j b k (List.nodup_append.mp nd).2.1 h' hk]
    rw [Nat.add_assoc,Nat.add_comm 1 j]
    rfl
theorem tZ (x0 x1 x4 x5 x6:Sl) (kvs:List (bN×PyData)) (m:Nat) (k:Int) (h:eQ kvs (.inl k)=none) (hl:kvs.length < 1000000):(dC (.int k) [x0,x1, .oi kvs, .sh (.int m),x4,x5,x6]).bind dD=some ([x0,x1, .oi (kvs++[(.inl k, .int m)]), .sh (.int m),x4, .sh (.int k),x6], .nx):=by
  have t:dC (.int k) [x0,x1, .oi kvs, .sh (.int m),x4,x5,x6]=some [x0,x1, .oi kvs, .sh (.int m),x4, .sh (.int k),x6]:=rfl
  rw [t,Option.bind_some,dD]
  have i:vL 2 (ab 5) [x0,x1, .oi kvs, .sh (.int m),x4, .sh (.int k),x6]=some (false,[x0,x1, .oi kvs, .sh (.int m),x4, .sh (.int k),x6]):=by
    show some ((eQ kvs (.inl k)).isSome,_)=_
    rw [h]
    rfl
  refine (bb (eV i rfl)).trans ?_
  show (if kvs.length < 1000000 then some ([x0,x1, .oi (qe kvs (.inl k) (.int m)), .sh (.int m),x4, .sh (.int k),x6],Fl.nx) else none)=_
  rw [if_pos hl,tY h]
theorem m5 (x0 x1 x4 x6:Sl) (m:Nat):∀(b:List Int) (kvs:List (bN×PyData)) (x5:Sl),b.Nodup→(∀k∈b,eQ kvs (.inl k)=none)→kvs.length+b.length≤100000→
    ∃x5',cI dC dD (b.map .int) [x0,x1, .oi kvs, .sh (.int m),x4,x5,x6]=some ([x0,x1, .oi (kvs++mY m b), .sh (.int m),x4,x5',x6], .nx)
  | [],kvs,x5,_,_,_=>⟨x5,by simp [cI,mY]⟩
  | k::b,kvs,x5,nd,h,hl=>by
    rw [List.nodup_cons] at nd
    rw [List.length_cons] at hl
    obtain ⟨x5',e⟩:=m5 x0 x1 x4 x6 m b (kvs++[(.inl k, .int m)]) (.sh (.int k)) nd.2 (fun z hz=>by
      have ne:¬((Sum.inl k:bN)=Sum.inl z):=fun q=>nd.1 (by rw [Sum.inl.inj q];exact hz)
      rw [iO,h z (List.mem_cons_of_mem _ hz),eQ,if_neg ne]
      rfl) (by rw [List.length_append,List.length_singleton];omega)
    refine ⟨x5',?_⟩
    rw [List.map_cons,cI,tZ x0 x1 x4 x5 x6 kvs m k (h k (List.mem_cons_self ..)) (by omega)]
    rw [List.append_assoc] at e
    exact e
theorem pj (x0 x1 x6:Sl):∀(bs:List (List Int)) (m:Nat) (kvs:List (bN×PyData)) (x3 x4 x5:Sl),bs.flatten.Nodup→(∀k∈bs.flatten,eQ kvs (.inl k)=none)→kvs.length+bs.flatten.length≤100000→
    ∃x3' x4' x5',cI eC eD (gk m (bs.map bD)) [x0,x1, .oi kvs,x3,x4,x5,x6]=some ([x0,x1, .oi (kvs++kf m bs),x3',x4',x5',x6], .nx)
  | [],m,kvs,x3,x4,x5,_,_,_=>⟨x3,x4,x5,by simp [cI,gk,kf]⟩
  | b::bs,m,kvs,x3,x4,x5,nd,h,hl=>by
    rw [List.flatten_cons] at nd h hl
    rw [List.length_append] at hl
    obtain ⟨n1,n2,n3⟩:=List.nodup_append.mp nd
    obtain ⟨y5,e1⟩:=m5 x0 x1 (.sh (bD b)) x6 m b kvs x5 n1 (fun k hk=>h k (List.mem_append_left _ hk)) (by omega)
    obtain ⟨y3,y4,y5',e2⟩:=pj x0 x1 x6 bs (m+1) (kvs++mY m b) (.sh (.int m)) (.sh (bD b)) y5 n2 (fun k hk=>by
      rw [iO,h k (List.mem_append_right _ hk),iP,if_neg fun z=>n3 k z k hk rfl]
      rfl) (by rw [List.length_append,mY,List.length_map];omega)
    refine ⟨y3,y4,y5',?_⟩
    have t:eC (.tuple [.int m,bD b]) [x0,x1, .oi kvs,x3,x4,x5,x6]=some [x0,x1, .oi kvs, .sh (.int m), .sh (bD b),x5,x6]:=rfl
    have it:dw (ab 4) [x0,x1, .oi kvs, .sh (.int m), .sh (bD b),x5,x6]=some (b.map .int,[x0,x1, .oi kvs, .sh (.int m), .sh (bD b),x5,x6]):=rfl
    rw [List.map_cons,gk,cI,t,Option.bind_some,eD,iA it e1]
    rw [List.append_assoc] at e2
    exact e2
theorem uF {α:Type} {l:List α} {x:α} (h:l.getLast? =some x):∃r,l=r++[x]:=by
  rcases List.eq_nil_or_concat l with e | ⟨r,y,e⟩
  · rw [e] at h
    cases h
  · rw [List.concat_eq_append] at e
    rw [e,List.getLast?_concat] at h
    cases h
    exact ⟨r,e⟩
theorem jD (bs:List (List Int)) (x1 x3 x4 x5:Sl) (kvs:List (bN×PyData)) (W W1 W':List Int) (i m:Nat) (b:List Int) (u v:Int) (hb:bs[m]? =some b) (hg:eQ kvs (.inl (i:Int))=some (.int (m:Int))) (hl:W.length < 1000000)
    (hu:b[0]? =some u) (hv:b.getLast? =some v) (h1:(u=i∧W1=W++[(m:Int)])∨(u≠i∧W1=W)) (ht:W1.getLast? =some (m:Int)) (h2:(v=i∧W'=W1.dropLast)∨(v≠i∧W'=W1)):
    (b9 (.int i) [.sh (.list (bs.map bD)),x1, .oi kvs,x3,x4,x5, .ow (W.map .int)]).bind b_=some ([.sh (.list (bs.map bD)),x1, .oi kvs, .sh (.int m),x4, .sh (.int i), .ow (W'.map .int)], .nx):=by
  have t:b9 (.int i) [.sh (.list (bs.map bD)),x1, .oi kvs,x3,x4,x5, .ow (W.map .int)]=some [.sh (.list (bs.map bD)),x1, .oi kvs,x3,x4, .sh (.int i), .ow (W.map .int)]:=rfl
  rw [t,Option.bind_some,b_]
  have q:o5 2 (ab 5) (gb dZ (pC (.int 1))) [.sh (.list (bs.map bD)),x1, .oi kvs,x3,x4, .sh (.int i), .ow (W.map .int)]=some (.sh (.int m),[.sh (.list (bs.map bD)),x1, .oi kvs,x3,x4, .sh (.int i), .ow (W.map .int)]):=by
    show (match eQ kvs (.inl (i:Int)) with | some d=>some (Sl.sh d,_) | none=>_)=_
    rw [hg]
  have s1:=j5 (i:=3) q (show 3 < 7 by decide)
  simp only [List.set_cons_succ,List.set_cons_zero] at s1
  have c1:=uB (E:=[.sh (.list (bs.map bD)),x1, .oi kvs, .sh (.int m),x4, .sh (.int i), .ow (W.map .int)]) (f:=ab 3) (g:=pC (.int 0)) (x:=m) (y:=0) rfl rfl
  rw [decide_eq_false (by omega)] at c1
  have em:atI (bs.map bD) (m:Int)=some (bD b):=by rw [cN,List.getElem?_map,hb];rfl
  have e0:atI (b.map PyData.int) 0=some (.int u):=by
    rw [show (0:Int)=((0:Nat):Int) from rfl,cN,List.getElem?_map,hu]
    rfl
  obtain ⟨b',eb'⟩:=uF hv
  have e9:atI (b.map PyData.int) (-1)=some (.int v):=by
    rw [eb',List.map_append]
    exact aQ _ _
  have ng:∀E:List Sl,gb dZ (pC (.int 1)) E=some (.sh (.int (-1)),E):=fun E=>rfl
  refine (bb s1).trans ((bb (eV c1 rfl)).trans ?_)
  have k0:=mX (gG (E:=[.sh (.list (bs.map bD)),x1, .oi kvs, .sh (.int m),x4, .sh (.int i), .ow (W.map .int)]) (g:=pC (.int 0)) (gG (f:=ab 0) (g:=ab 3) rfl rfl em) rfl e0) (g:=ab 5) (y:=i) rfl
  have s2:bU (dr (ad fO false (ad dY false (ad dY false (ab 0) (ab 3)) (pC (.int 0))) (ab 5))) (cu (aO 6 (ab 3))) a8 [.sh (.list (bs.map bD)),x1, .oi kvs, .sh (.int m),x4, .sh (.int i), .ow (W.map .int)]=some ([.sh (.list (bs.map bD)),x1, .oi kvs, .sh (.int m),x4, .sh (.int i), .ow (W1.map .int)], .nx):=by
    rcases h1 with ⟨hu',e⟩ | ⟨hu',e⟩
    · rw [decide_eq_true hu'] at k0
      refine j0 k0 ?_
      have lw:(W.map PyData.int).length < 1000000:=by rw [List.length_map];exact hl
      show ((if (W.map PyData.int).length < 1000000 then some (Sl.sh PyData.none,[.sh (.list (bs.map bD)),x1, .oi kvs, .sh (.int m),x4, .sh (.int i), .ow (W.map .int++[.int m])]) else none).map fun a=>(a.2,Fl.nx))=_
      rw [if_pos lw,e,List.map_append]
      rfl
    · rw [decide_eq_false hu'] at k0
      rw [e]
      exact eV k0 rfl
  refine (bb s2).trans ?_
  obtain ⟨R,eR⟩:=uF ht
  have ew:atI (W1.map PyData.int) (-1)=some (.int m):=by
    rw [eR,List.map_append]
    exact aQ _ _
  have k1:=xL (wT (E:=[.sh (.list (bs.map bD)),x1, .oi kvs, .sh (.int m),x4, .sh (.int i), .ow (W1.map .int)]) (f:=ab 6) (j:=6) rfl rfl (ng _) ew) (g:=ab 3) (y:=m) rfl
  rw [decide_eq_true rfl] at k1
  refine (bb (eV k1 rfl)).trans ?_
  have k2:=mX (gG (E:=[.sh (.list (bs.map bD)),x1, .oi kvs, .sh (.int m),x4, .sh (.int i), .ow (W1.map .int)]) (gG (f:=ab 0) (g:=ab 3) rfl rfl em) (ng _) e9) (g:=ab 5) (y:=i) rfl
  rcases h2 with ⟨hv',e⟩ | ⟨hv',e⟩
  · rw [decide_eq_true hv'] at k2
    refine j0 k2 ?_
    show (((W1.map PyData.int)[(W1.map PyData.int).length - 1]?.map fun d=>(Sl.sh d,[.sh (.list (bs.map bD)),x1, .oi kvs, .sh (.int m),x4, .sh (.int i), .ow (W1.map PyData.int).dropLast])).map fun a=>(a.2,Fl.nx))=_
    rw [e,eR,List.map_append,List.map_cons,List.map_nil,aS,List.dropLast_concat,List.dropLast_concat]
    rfl
  · rw [decide_eq_false hv'] at k2
    rw [e]
    exact eV k2 rfl
inductive Wt (bs:List (List Int)):List Int→List Bw→Prop
  | nil:Wt bs [] []
  | snoc {W:List Int} {ws:List Bw} {m:Nat} {w:Bw} {b t:List Int} (h:Wt bs W ws) (hb:bs[m]? =some b) (ht:t≠[]) (e:b=w.2.2++t):Wt bs (W++[(m:Int)]) (ws++[w])
theorem Wt.len {bs:List (List Int)} {W:List Int} {ws:List Bw} (h:Wt bs W ws):W.length=ws.length:=by
  induction h with
  | nil=>rfl
  | snoc h _ _ _ ih=>rw [List.length_append,List.length_append,ih];rfl
theorem Wt.last {bs:List (List Int)} {W:List Int} {l ws:List Bw} {w:Bw} (h:Wt bs W l) (e:l=ws++[w]):∃(V:List Int) (m:Nat) (b t:List Int),W=V++[(m:Int)]∧Wt bs V ws∧bs[m]? =some b∧t≠[]∧b=w.2.2++t:=by
  cases h with
  | nil=>simp at e
  | snoc h hb ht eb=>
    obtain ⟨e1,e2⟩:=List.append_inj' e rfl
    cases e2
    subst e1
    exact ⟨_,_,_,_,rfl,h,hb,ht,eb⟩
theorem sg {b is t:List Int} {i:Int} (e:b=is++i::t) (up:b.Pairwise (· < ·)):∃u v,b[0]? =some u∧b.getLast? =some v∧(is=[]→u=i)∧(is≠[]→u≠i)∧(t=[]→v=i)∧(t≠[]→v≠i):=by
  subst e
  obtain ⟨p1,p2,p3⟩:=List.pairwise_append.mp up
  have lt:∀x∈t,i < x:=(List.pairwise_cons.mp p2).1
  have hv:∃v,(is++i::t).getLast? =some v∧(t=[]→v=i)∧(t≠[]→v≠i):=by
    rcases List.eq_nil_or_concat t with e | ⟨r,y,e⟩
    · subst e
      exact ⟨i,List.getLast?_concat,fun _=>rfl,fun z=>absurd rfl z⟩
    · rw [List.concat_eq_append] at e
      subst e
      refine ⟨y,?_,fun z=>absurd z (by simp),fun _ z=>?_⟩
      · rw [show is++i::(r++[y])=(is++i::r)++[y] by simp,List.getLast?_concat]
      · have:=lt y (by simp)
        omega
  obtain ⟨v,v1,v2,v3⟩:=hv
  cases is with
  | nil=>exact ⟨i,v,rfl,v1,fun _=>rfl,fun z=>absurd rfl z,v2,v3⟩
  | cons x is=>
    refine ⟨x,v,rfl,v1,fun z=>(nomatch z),fun _ z=>?_,v2,v3⟩
    have:=p3 x (List.mem_cons_self ..) i (List.mem_cons_self ..)
    omega
theorem pk {c:List (Str×Int)} {bs:List (List Int)} (B:Bks c bs) {kvs:List (bN×PyData)} (hkv:∀(m:Nat) (b:List Int) (k:Int),bs[m]? =some b→k∈b→eQ kvs (.inl k)=some (.int (m:Int))) (hlen:c.length≤1000) (x1 x4:Sl):
    ∀(r:List (Str×Int)) (i:Nat) (st:List Bw×List (List Int)) (W:List Int) (x3 x5:Sl),c.drop i=r→BIn c i st→vK i st→(aD i r st).1=[]→(aD i r st).2.Perm bs→Wt bs W st.1→
    ∃(x3' x5':Sl) (W':List Int),cI b9 b_ (ir i r.length) [.sh (.list (bs.map bD)),x1, .oi kvs,x3,x4,x5, .ow (W.map .int)]=some ([.sh (.list (bs.map bD)),x1, .oi kvs,x3',x4,x5', .ow (W'.map .int)], .nx)
  | [],i,st,W,x3,x5,_,_,_,_,_,_=>⟨x3,x5,W,rfl⟩
  | p::r,i,st,W,x3,x5,e,hi,hz,hn,hp,hW=>by
    have hc:c[i]? =some p:=by
      have:=congrArg (fun l=>l[0]?) e
      simpa using this
    have hic:i < c.length:=(List.getElem?_eq_some_iff.mp hc).1
    have hd:c.drop (i+1)=r:=by
      rw [←List.drop_drop,e]
      rfl
    have hi':=o9 hi hc
    have hz':=jW (p:=p) hz
    rw [aD] at hn hp
    obtain ⟨q1,q2⟩:=B.pre (i+1) _ hi' (by rw [hd];exact hn) (by rw [hd];exact hp)
    have nd:bs.flatten.Nodup:=B.pm.nodup_iff.mpr (rX _)
    have wl:W.length < 1000000:=by
      rw [hW.len]
      have:=hz.1
      omega
    have go:∀(W':List Int) (m:Nat),Wt bs W' (eM i p st).1→(b9 (.int i) [.sh (.list (bs.map bD)),x1, .oi kvs,x3,x4,x5, .ow (W.map .int)]).bind b_=some ([.sh (.list (bs.map bD)),x1, .oi kvs, .sh (.int m),x4, .sh (.int i), .ow (W'.map .int)], .nx)→
        ∃(x3' x5':Sl) (W':List Int),cI b9 b_ (ir i (p::r).length) [.sh (.list (bs.map bD)),x1, .oi kvs,x3,x4,x5, .ow (W.map .int)]=some ([.sh (.list (bs.map bD)),x1, .oi kvs,x3',x4,x5', .ow (W'.map .int)], .nx):=by
      intro W' m hW' es
      obtain ⟨y3,y5,W2,e2⟩:=pk B hkv hlen x1 x4 r (i+1) (eM i p st) W' (.sh (.int m)) (.sh (.int i)) hd hi' hz' hn hp hW'
      refine ⟨y3,y5,W2,?_⟩
      rw [List.length_cons,hE,cI,es]
      exact e2
    have upb:∀b∈bs,b.Pairwise (· < ·):=fun b hb=>let ⟨_,o⟩:=B.ok b hb;o.up
    rcases jX i p st with e1 | ⟨ws,n,is,e0,e1⟩
    · rw [e1] at q1 q2
      by_cases h0:p.2=0
      · have eb:cE i p.1 p.2 [] st=(st.1,st.2++[[(i:Int)]]):=by unfold cE;rw [if_pos h0];rfl
        rw [eb] at q2
        have hb:=q2 [(i:Int)] (by simp)
        obtain ⟨m,hm⟩:=List.getElem?_of_mem hb
        refine go W m (by rw [e1,eb];exact hW) ?_
        exact jD bs x1 x3 x4 x5 kvs W (W++[(m:Int)]) W i m [(i:Int)] i i hm (hkv m _ i hm (by simp)) wl rfl rfl (.inl ⟨rfl,rfl⟩) List.getLast?_concat (.inl ⟨rfl,(List.dropLast_concat).symm⟩)
      · have eb:cE i p.1 p.2 [] st=(st.1++[(p.1,p.2,[(i:Int)])],st.2):=by unfold cE;rw [if_neg h0];rfl
        rw [eb] at q1
        obtain ⟨b,hb,t,ht,ebt⟩:=q1 (p.1,p.2,[(i:Int)]) (by simp)
        obtain ⟨m,hm⟩:=List.getElem?_of_mem hb
        obtain ⟨u,v,u1,v1,u2,_,_,v3⟩:=sg (is:=[]) (i:=(i:Int)) (t:=t) ebt (upb b hb)
        refine go (W++[(m:Int)]) m (by rw [e1,eb];exact .snoc hW hm ht ebt) ?_
        exact jD bs x1 x3 x4 x5 kvs W (W++[(m:Int)]) (W++[(m:Int)]) i m b u v hm (hkv m _ i hm (by rw [ebt];simp)) wl u1 v1 (.inl ⟨u2 rfl,rfl⟩) List.getLast?_concat (.inr ⟨v3 ht,rfl⟩)
    · obtain ⟨V,m,b,t,eW,hV,hm,ht,ebt⟩:=hW.last e0
      have isne:is≠[]:=(hi.w (p.1,n,is) (by rw [e0];simp)).ne
      obtain ⟨x,hx⟩:=List.exists_mem_of_ne_nil _ isne
      have xb:x∈b:=by rw [ebt];exact List.mem_append_left _ hx
      rw [e1] at q1 q2
      by_cases h0:n+p.2=0
      · have eb:cE i p.1 (n+p.2) is (ws,st.2)=(ws,st.2++[is++[(i:Int)]]):=by unfold cE;rw [if_pos h0]
        rw [eb] at q2
        have hb:=q2 (is++[(i:Int)]) (by simp)
        obtain ⟨m',hm'⟩:=List.getElem?_of_mem hb
        have em:=apart nd hm' hm (List.mem_append_left _ hx) xb
        subst em
        obtain ⟨u,v,u1,v1,_,u3,v2,_⟩:=sg (i:=(i:Int)) (t:=[]) rfl (upb _ hb)
        refine go V m' (by rw [e1,eb];exact hV) ?_
        exact jD bs x1 x3 x4 x5 kvs W W V i m' _ u v hm' (hkv m' _ i hm' (by simp)) wl u1 v1 (.inr ⟨u3 isne,rfl⟩) (by rw [eW,List.getLast?_concat]) (.inl ⟨v2 rfl,by rw [eW,List.dropLast_concat]⟩)
      · have eb:cE i p.1 (n+p.2) is (ws,st.2)=(ws++[(p.1,n+p.2,is++[(i:Int)])],st.2):=by unfold cE;rw [if_neg h0]
        rw [eb] at q1
        obtain ⟨b',hb',t',ht',ebt'⟩:=q1 (p.1,n+p.2,is++[(i:Int)]) (by simp)
        obtain ⟨m',hm'⟩:=List.getElem?_of_mem hb'
        have em:=apart nd hm' hm (by rw [ebt'];exact List.mem_append_left _ (List.mem_append_left _ hx)) xb
        subst em
        have ebt2:b'=is++(i:Int)::t':=by rw [ebt'];simp
        obtain ⟨u,v,u1,v1,_,u3,_,v3⟩:=sg ebt2 (upb _ hb')
        refine go W m' (by rw [e1,eb,eW];exact .snoc hV hm' ht' ebt') ?_
        exact jD bs x1 x3 x4 x5 kvs W W W i m' b' u v hm' (hkv m' _ i hm' (by rw [ebt2];simp)) wl u1 v1 (.inr ⟨u3 isne,rfl⟩) (by rw [eW,List.getLast?_concat]) (.inr ⟨v3 ht',rfl⟩)
theorem qh {c:List (Str×Int)} {bs:List (List Int)} (B:Bks c bs) (hn:(aD 0 c ([],[])).1=[]) (hp:(aD 0 c ([],[])).2.Perm bs) (hlen:c.length≤1000):cn [.list (bs.map bD), .int c.length]=some (.sh (.bool true)):=by
  have nd:bs.flatten.Nodup:=B.pm.nodup_iff.mpr (rX _)
  have fl:bs.flatten.length=c.length:=by rw [B.pm.length_eq,PL.rI,List.length_map,List.length_range]
  obtain ⟨x3,x4,x5,e1⟩:=pj (.sh (.list (bs.map bD))) (.sh (.int c.length)) .no bs 0 [] .no .no .no nd (fun _ _=>rfl) (by rw [fl,List.length_nil];omega)
  rw [List.nil_append] at e1
  obtain ⟨y3,y5,W,e2⟩:=pk B (kvs:=kf 0 bs) (fun m b k hb hk=>by rw [mZ 0 bs m b k nd hb hk,Nat.zero_add]) hlen (.sh (.int c.length)) x4 c 0 ([],[]) [] x3 x5 rfl ⟨List.Perm.refl _,fun _ z=>(nomatch z),fun _ z=>(nomatch z)⟩ ⟨Nat.le_refl _,Nat.le_refl _,fun _ z=>(nomatch z)⟩ hn hp .nil
  have i1:bI (ab 0) [.sh (.list (bs.map bD)), .sh (.int c.length), .oi [], .no, .no, .no, .no]=some (gk 0 (bs.map bD),[.sh (.list (bs.map bD)), .sh (.int c.length), .oi [], .no, .no, .no, .no]):=rfl
  have i2:=n6 (E:=[.sh (.list (bs.map bD)), .sh (.int c.length), .oi (kf 0 bs),x3,x4,x5, .ow []]) (f:=ab 1) (z:=c.length) (c:=c.length) rfl rfl hlen
  have s1:=iA i1 e1
  have s2:=iA i2 e2
  have g:cn [.list (bs.map bD), .int c.length]=(eU [.sh (.list (bs.map bD)), .sh (.int c.length), .no, .no, .no, .no, .no]).bind fun a=>match a.2 with | .rt r=>dP r | .nx=>some (.sh .none) | _=>none:=rfl
  have s0:aR 2 rT [.sh (.list (bs.map bD)), .sh (.int c.length), .no, .no, .no, .no, .no]=some ([.sh (.list (bs.map bD)), .sh (.int c.length), .oi [], .no, .no, .no, .no], .nx):=rfl
  have s3:aR 6 (ca bG) [.sh (.list (bs.map bD)), .sh (.int c.length), .oi (kf 0 bs),x3,x4,x5, .no]=some ([.sh (.list (bs.map bD)), .sh (.int c.length), .oi (kf 0 bs),x3,x4,x5, .ow []], .nx):=rfl
  rw [g,eU,bb s0,bb s1,bb s3,bb s2]
  rfl
theorem oa {E:List Sl} {f:aV} {b:Bool} (h:f E=some (.sh (.bool b),E)):cJ f E=some (b,E):=by
  simp only [cJ,h,Option.bind_some,Sl.val,d0,Option.map_some]
theorem t5 (c:List Pc) (bs:List (List Int)) (k:Nat) (b:List Int) (u:Int) (x2:Sl) (hc:c.length≤1000) (hk:bs[k]? =some b) (hn:aN [bD b, .int c.length]=some (.sh (.bool true))) (hm:aH [.list (c.map aq),bD b]=some (.sh (.bool true)))
    (hu:b[0]? =some u) (hp:∀(j:Nat) (b':List Int),k=j+1→bs[j]? =some b'→∃u',b'[0]? =some u'∧u' < u):
    (dU (.int k) [.sh (.list (c.map aq)), .sh (.list (bs.map bD)),x2]).bind dW=some ([.sh (.list (c.map aq)), .sh (.list (bs.map bD)), .sh (.int k)], .nx):=by
  have t:dU (.int k) [.sh (.list (c.map aq)), .sh (.list (bs.map bD)),x2]=some [.sh (.list (c.map aq)), .sh (.list (bs.map bD)), .sh (.int k)]:=rfl
  rw [t,Option.bind_some,dW]
  have em:atI (bs.map bD) (k:Int)=some (bD b):=by rw [cN,List.getElem?_map,hk];rfl
  have ib:=gG (E:=[.sh (.list (c.map aq)), .sh (.list (bs.map bD)), .sh (.int k)]) (f:=ab 1) (g:=ab 2) rfl rfl em
  have il:=jC (E:=[.sh (.list (c.map aq)), .sh (.list (bs.map bD)), .sh (.int k)]) (i:=0) (ds:=c.map aq) rfl (by rw [List.length_map];omega)
  rw [List.length_map] at il
  have k1:=eG (c:=aN) (vZ ib il) rfl hn
  have k2:=eG (c:=aH) (vZ (f:=ab 0) (s1:= .sh (.list (c.map aq))) rfl ib) rfl hm
  refine (bb (eV (mS (iB (oa k1)) (iB (oa k2))) rfl)).trans ?_
  have g:=uD (E:=[.sh (.list (c.map aq)), .sh (.list (bs.map bD)), .sh (.int k)]) (f:=ab 2) (g:=pC (.int 0)) (x:=k) (y:=0) rfl rfl
  have e0:∀{b:List Int} {u:Int},b[0]? =some u→atI (b.map PyData.int) 0=some (.int u):=fun {b u} h=>by
    rw [show (0:Int)=((0:Nat):Int) from rfl,cN,List.getElem?_map,h]
    rfl
  cases k with
  | zero=>
    refine eV (n8 (g.trans ?_)) rfl
    rw [decide_eq_false (by omega)]
  | succ j=>
    have hj:j < bs.length:=by have:=(List.getElem?_eq_some_iff.mp hk).1;omega
    have ej:bs[j]? =some bs[j]:=List.getElem?_eq_getElem hj
    obtain ⟨u',hu',lt⟩:=hp j _ rfl ej
    have eb:atI (bs.map bD) ((j+1:Nat) - 1:Int)=some (bD bs[j]):=by
      rw [show ((j+1:Nat) - 1:Int)=(j:Int) by omega,cN,List.getElem?_map,ej]
      rfl
    have iy:=gG (E:=[.sh (.list (c.map aq)), .sh (.list (bs.map bD)), .sh (.int (j+1:Nat))]) (f:=ab 1) rfl (lX (f:=ab 2) (g:=pC (.int 1)) (x:=(j+1:Nat)) (y:=1) rfl rfl) eb
    rw [decide_eq_true (by omega)] at g
    refine eV (jB g ((iL (gG (g:=pC (.int 0)) ib rfl (e0 hu)) (gG (g:=pC (.int 0)) iy rfl (e0 hu'))).trans ?_)) rfl
    rw [decide_eq_false (by omega)]
theorem pp (c:List Pc) (bs:List (List Int)) (hc:c.length≤1000) (B:Bks (c.map q2) bs):∀(m k:Nat) (x2:Sl),k+m=bs.length→∃x2',cI dU dW (ir k m) [.sh (.list (c.map aq)), .sh (.list (bs.map bD)),x2]=some ([.sh (.list (c.map aq)), .sh (.list (bs.map bD)),x2'], .nx)
  | 0,k,x2,_=>⟨x2,rfl⟩
  | m+1,k,x2,h=>by
    have hk:k < bs.length:=by omega
    have ek:bs[k]? =some bs[k]:=List.getElem?_eq_getElem hk
    have mk:=List.getElem_mem hk
    obtain ⟨a,ok⟩:=B.ok _ mk
    have rng:∀x∈bs[k],0≤x∧x < (c.length:Int):=fun x hx=>by
      have:=rI_mem.mp (B.pm.mem_iff.mp (List.mem_flatten.mpr ⟨_,mk,hx⟩))
      rwa [List.length_map] at this
    have len:(bs[k]).length≤1000:=by
      have h1:(bs[k]).length≤bs.flatten.length:=(List.sublist_flatten_of_mem mk).length_le
      rw [B.pm.length_eq,PL.rI,List.length_map,List.length_range,List.length_map] at h1
      omega
    have hd:∀{b:List Int},b∈bs→b[0]? =some (b.getD 0 0):=fun {b} hb=>by
      obtain ⟨_,o⟩:=B.ok b hb
      cases b with
      | nil=>exact absurd rfl o.ne
      | cons x b=>rfl
    obtain ⟨x2',e⟩:=pp c bs hc B m (k+1) (.sh (.int k)) (by omega)
    refine ⟨x2',?_⟩
    rw [hE,cI,t5 c bs k bs[k] _ x2 hc ek (n_ _ _ ok.ne len rng ok.up) (tW c _ a ok fun x hx=>(rng x hx).1) (hd mk) fun j b' e eb=>by
      subst e
      have hb':=List.mem_of_getElem? eb
      refine ⟨_,hd hb',?_⟩
      have hj:=List.getElem?_eq_some_iff.mp eb
      have:=List.pairwise_iff_getElem.mp B.up j (j+1) hj.1 hk (by omega)
      rw [hj.2] at this
      exact this]
    exact e
theorem si (c:List Pc) (hc:c.length≤1000) (hs:NH.short c=[]):aE [.list (c.map aq), .list ((dg (aD 0 (c.map q2) ([],[])).2).map bD)]=some (.sh (.bool true)):=by
  have hn:(aD 0 (c.map q2) ([],[])).1=[]:=by
    have:=jf c
    rw [decide_eq_true hs] at this
    exact List.isEmpty_iff.mp this
  have B:=yc hn
  have sp:(aD 0 (c.map q2) ([],[])).2.Perm (dg (aD 0 (c.map q2) ([],[])).2):=(List.mergeSort_perm _ _).symm
  have w:=qh B hn sp (by rw [List.length_map];exact hc)
  rw [List.length_map] at w
  have bl:(dg (aD 0 (c.map q2) ([],[])).2).length≤1000:=by
    have key:∀l:List (List Int),(∀b∈l,b≠[])→l.length≤l.flatten.length:=fun l=>by
      induction l with
      | nil=>exact fun _=>Nat.le_refl _
      | cons b l ih=>
        intro h
        have:=ih fun x hx=>h x (List.mem_cons_of_mem _ hx)
        have:=List.length_pos_iff.mpr (h b (List.mem_cons_self ..))
        rw [List.flatten_cons,List.length_append,List.length_cons]
        omega
    have:=key _ fun b hb=>let ⟨_,o⟩:=B.ok b hb;o.ne
    rw [B.pm.length_eq,PL.rI,List.length_map,List.length_range,List.length_map] at this
    omega
  generalize dg (aD 0 (c.map q2) ([],[])).2=bs at B w bl
  obtain ⟨x2,e⟩:=pp c bs hc B bs.length 0 .no (by omega)
  have il:=jC (E:=[.sh (.list (c.map aq)), .sh (.list (bs.map bD)), .no]) (i:=1) (ds:=bs.map bD) rfl (by rw [List.length_map];omega)
  have it:=n6 il (c:=bs.length) (by rw [List.length_map]) bl
  have s:=iA it e
  have il2:=jC (E:=[.sh (.list (c.map aq)), .sh (.list (bs.map bD)),x2]) (i:=0) (ds:=c.map aq) rfl (by rw [List.length_map];omega)
  rw [List.length_map] at il2
  have k:=eG (c:=cn) (vZ (f:=ab 1) (s1:= .sh (.list (bs.map bD))) rfl il2) rfl w
  have g:aE [.list (c.map aq), .list (bs.map bD)]=(fL [.sh (.list (c.map aq)), .sh (.list (bs.map bD)), .no]).bind fun a=>match a.2 with | .rt r=>dP r | .nx=>some (.sh .none) | _=>none:=rfl
  have r:bQ (ao cn (af false (ab 1) (af false (cG cM (af false (ab 0) aF)) aF))) [.sh (.list (c.map aq)), .sh (.list (bs.map bD)),x2]=some ([.sh (.list (c.map aq)), .sh (.list (bs.map bD)),x2], .rt (.sh (.bool true))):=by
    unfold bQ
    rw [k]
    rfl
  rw [g,fL,bb (eV (E1:=[.sh (.list (c.map aq)), .sh (.list (bs.map bD)), .no]) ((iB (lZ (d:= .list (bs.map bD)) (f:=ab 1) rfl)).trans rfl) rfl),bb s,r]
  rfl
theorem jE {E:List Sl} {f g:aV} {s:Sl} {c:List Pc} {k:Int} (hf:f E=some (s,E)) (hs:PL.look E s=some (.list (c.map aq))) (hg:g E=some (.sh (.int k),E)):cC false f bg (aW g) E=some (.ow ((cutL c none (some k)).map aq),E):=by
  have fl:=au (cutL c none (some k))
  have hk:PL.look E (.sh (.int k))=some (.int k):=rfl
  simp only [cC,hf,hg,hs,bg,aW,Option.bind_some,Option.map_some,Bool.false_and,Bool.false_eq_true,if_false,hk,aC,fl,Bool.or_true,if_true]
theorem l5 {E:List Sl} {f g:aV} {s:Sl} {c:List Pc} {k:Int} (hf:f E=some (s,E)) (hs:PL.look E s=some (.list (c.map aq))) (hg:g E=some (.sh (.int k),E)):cC false f (aW g) bg E=some (.ow ((cutL c (some k) none).map aq),E):=by
  have fl:=au (cutL c (some k) none)
  have hk:PL.look E (.sh (.int k))=some (.int k):=rfl
  simp only [cC,hf,hg,hs,bg,aW,Option.bind_some,Option.map_some,Bool.false_and,Bool.false_eq_true,if_false,hk,aC,fl,Bool.or_true,if_true]
theorem fY {E:List Sl} {f g:aV} {s1 s2:Sl} {A B:List Pc} (hf:f E=some (s1,E)) (h1:PL.look E s1=some (.list (A.map aq))) (hg:g E=some (s2,E)) (h2:PL.look E s2=some (.list (B.map aq))) (hl:A.length+B.length≤1000000):ad bO false f g E=some (.ow ((A++B).map aq),E):=by
  have f1:=au A
  have f2:=au B
  simp only [ad,hf,hg,Option.bind_some,Bool.false_and,Bool.false_eq_true,if_false,bO,h1,h2,List.length_map,hl,decide_true,f1,f2,Bool.or_true,Bool.and_self,if_true,List.map_append]
theorem jF {E:List Sl} {f g:aV} {a:Nat} {n:Int} (hf:f E=some (.sh (.str ⟨#[a]⟩),E)) (hg:g E=some (.sh (.int n),E)):dO (aJ f (aJ g bG)) E=some (.sh (aq (a,n)),E):=by
  simp only [dO,aJ,bG,hf,hg,Option.bind_some,Option.map_some,frz,List.length_cons,List.length_nil]
  rfl
theorem t6 {E:List Sl} {f:aV} {p:Pc} (hf:f E=some (.sh (aq p),E)):ca (aJ f bG) E=some (.ow ([p].map aq),E):=by
  simp only [ca,aJ,bG,hf,Option.bind_some,Option.map_some,frz,List.length_cons,List.length_nil]
  rfl
theorem t7 {E:List Sl} {f g:aV} {p q:Pc} (hf:f E=some (.sh (aq p),E)) (hg:g E=some (.sh (aq q),E)):ca (aJ f (aJ g bG)) E=some (.ow ([p,q].map aq),E):=by
  simp only [ca,aJ,bG,hf,hg,Option.bind_some,Option.map_some,frz,List.length_cons,List.length_nil]
  rfl
theorem t8 {E:List Sl} {f:aV} {x:Int} (hf:f E=some (.sh (.int x),E)):ad dY false (pC (.str "abcdefghijklmnopqrstuvwxyz")) (ad b8 false f (pC (.int 26))) E=some (.sh (.str ⟨#[97+(x % 26).toNat]⟩),E):=by
  have m:=je (g:=pC (.int 26)) (y:=26) hf rfl (by decide)
  generalize ad b8 false f (pC (.int 26))=g at m
  simp only [gc,eX,bu,ck,b7,ar,aP,a8,bT,cO,cu,cP,bQ,bU,aR,PL.settle,Sl.isAl,Sl.isBr,frz,ab,pC,ad,bO,dt,du,bx,b8,dQ,fO,gv,dY,gb,dZ,fj,eN,f6,fm,fo,look,bt,Sl.val,fN,eK,dr,cJ,d0,bS,dm,bC,cq,fq,jk,aF,af,bG,aJ,dO,ca,cG,cM,eO,ft,fu,bH,ee,ip,Ty.is,bg,aW,jm,a9,ao,aO,eP,fw,bV,aG,cw,a_,cA,fz,cH,ba,bW,dv,List.length_cons,List.length_nil,List.map_cons,List.map_nil,List.replicate,List.cons_append,List.nil_append,List.getElem?_cons_zero,List.getElem?_cons_succ,List.set_cons_zero,List.set_cons_succ,List.isEmpty_nil,List.isEmpty_cons,Option.bind_some,Option.bind_none,Option.map_some,Option.map_none,Option.any_some,Nat.sub_self,Nat.zero_add,Nat.reduceAdd,Nat.reduceSub,Nat.reduceLT,Nat.reduceLeDiff,if_true,if_false,ite_true,ite_false,Bool.false_and,Bool.and_false,Bool.true_and,Bool.and_true,Bool.true_or,Bool.or_true,Bool.false_or,Bool.or_false,Bool.not_true,Bool.not_false,Bool.false_eq_true,reduceIte,decide_true,decide_false,cS,cT,cU,aQ,aS,bh,List.map_append,List.dropLast_concat,ah,au,aw,az,aT,aC,dP,aB,frzAll,dw,cV,bI,bX,Cm.i,Cm.s,cC,fA,fB,fD,jr,i5,fE,cW,bi,aL,bj,aU,bo,aM,bp,eq_self,not_true_eq_false,not_false_eq_true,Int.cast_ofNat_Int,PL.takeP,fF,cX,cY,cZ,e8,eZ,bY,Pt.val,List.all_cons,List.all_nil,fG,c7,c9,c8,bZ,c_,gN,Option.isSome_some,b4,jt,fH,fI,fJ,bn,b5,de,df,cQ,cR,m,wN,rG]
theorem wU (E:List Sl):ad du false (pC (.int 2)) (ad dQ false (pC (.int 10)) (pC (.int 30))) E=some (.sh (.int (2*10 ^ 30)),E):=rY rfl (uC E) (lJ (by decide) (by decide))
theorem t9 {c:List Pc} {k:Int} (h0:0≤k) (hk:k < c.length):cutL c (some k) none=c[k.toNat]'(by omega)::cutL c (some (k+1)) none:=by
  rw [i4 c h0,i4 c (by omega),show (k+1).toNat=k.toNat+1 by omega]
  exact List.drop_eq_getElem_cons (by omega)
theorem t_ (c:List Pc) {k:Int} (h0:0≤k):cutL c none (some k)++cutL c (some k) none=c:=by
  rw [pY c h0,i4 c h0,List.take_append_drop]
def xN (c c':List Pc):Prop:=NailsOk c'∧NH.short c'=NH.short c∧c'.length≤c.length+4
theorem ua (s0 x1 x3 x4 x5 x6 x7 x8 x9 x10 x11:Sl) (c:List Pc) (z:Int) (hN:NailsOk c) (hl:c.length≤1000):∃(c':List Pc) (y4 y5 y6 y7 y8:Sl),xN c c'∧
    (gW (.int z) [s0,x1, .ow (c.map aq),x3,x4,x5,x6,x7,x8,x9,x10,x11]).bind gX=some ([s0,x1, .ow (c'.map aq), .sh (.int z),y4,y5,y6,y7,y8,x9,x10,x11], .nx):=by
  have t:gW (.int z) [s0,x1, .ow (c.map aq),x3,x4,x5,x6,x7,x8,x9,x10,x11]=some [s0,x1, .ow (c.map aq), .sh (.int z),x4,x5,x6,x7,x8,x9,x10,x11]:=rfl
  rw [t,Option.bind_some,gX]
  have l2:=pc (E:=[s0,x1, .ow (c.map aq), .sh (.int z),x4,x5,x6,x7,x8,x9,x10,x11]) (i:=2) (A:=c) rfl (by omega)
  have m4:=je (jA (f:=ab 3) (g:=pC (.int 3)) (x:=z) (y:=3) rfl rfl (by decide)) (j4 (f:=pC (.int 1)) (y:=1) l2 rfl) (by omega)
  have k0:=Int.emod_nonneg (z / 3) (show (c.length:Int)+1≠0 by omega)
  generalize z / 3 % ((c.length:Int)+1)=k at m4 k0
  have s4:=j5 (i:=4) m4 (show 4 < 12 by decide)
  simp only [List.set_cons_succ,List.set_cons_zero] at s4
  obtain ⟨p0,ep,lp,np⟩:=ga (z / 7)
  have c5:=eG (c:=bv) (wS (jA (E:=[s0,x1, .ow (c.map aq), .sh (.int z), .sh (.int k),x5,x6,x7,x8,x9,x10,x11]) (f:=ab 3) (g:=pC (.int 7)) (x:=z) (y:=7) rfl rfl (by decide))) rfl ep
  have s5:=gC (i:=5) (jE (g:=pC (.int 2)) (k:=2) c5 rfl rfl) (show 5 < 12 by decide)
  simp only [List.set_cons_succ,List.set_cons_zero] at s5
  have hp2:(cutL p0 none (some 2)).length≤2:=by have:=gj p0 (m:=2) (by decide);omega
  have np2:NailsOk (cutL p0 none (some 2)):=(np.cutL _ _).n
  generalize cutL p0 none (some 2)=p at s5 hp2 np2
  have ha:=gi c none (some k)
  have hb:=gi c (some k) none
  have hb1:=gi c (some (k+1)) none
  have sp:=t_ c k0
  have sl:(cutL c none (some k)).length+(cutL c (some k) none).length=c.length:=by rw [←List.length_append,sp]
  have nA:NailsOk (cutL c none (some k)):=fun q hq=>hN q (gV hq)
  have nB:NailsOk (cutL c (some k) none):=fun q hq=>hN q (gV hq)
  have nC:NailsOk (cutL c (some (k+1)) none):=fun q hq=>hN q (gV hq)
  have app:∀{A B:List Pc},NailsOk A→NailsOk B→NailsOk (A++B):=fun h1 h2 q hq=>(List.mem_append.mp hq).elim (h1 q) (h2 q)
  have t0:=mX (E:=[s0,x1, .ow (c.map aq), .sh (.int z), .sh (.int k), .ow (p.map aq),x6,x7,x8,x9,x10,x11]) (je (f:=ab 3) (g:=pC (.int 3)) (x:=z) (y:=3) rfl rfl (by decide)) (g:=pC (.int 0)) (y:=0) rfl
  have t1:=uB (E:=[s0,x1, .ow (c.map aq), .sh (.int z), .sh (.int k), .ow (p.map aq),x6,x7,x8,x9,x10,x11]) (f:=ab 4) (x:=k) rfl (pc (i:=2) (A:=c) rfl (by omega))
  have t2:=mX (E:=[s0,x1, .ow (c.map aq), .sh (.int z), .sh (.int k), .ow (p.map aq),x6,x7,x8,x9,x10,x11]) (je (f:=ab 3) (g:=pC (.int 3)) (x:=z) (y:=3) rfl rfl (by decide)) (g:=pC (.int 1)) (y:=1) rfl
  by_cases h:z % 3=0∧k < (c.length:Int)
  · rw [decide_eq_true h.1] at t0
    rw [decide_eq_true h.2] at t1
    have hn:k.toNat < c.length:=by omega
    have ea:atI c k=some c[k.toNat]:=by rw [lC k0,List.getElem?_eq_getElem hn]
    have dq:=t9 k0 h.2
    have nq:(c[k.toNat]).1 < 128:=hN _ (List.getElem_mem hn)
    generalize c[k.toNat]=q at ea dq nq
    have i6:=n5 (r8 (E:=[s0,x1, .ow (c.map aq), .sh (.int z), .sh (.int k), .ow (p.map aq),x6,x7,x8,x9,x10,x11]) (f:=ab 2) (g:=ab 4) (j:=2) rfl rfl rfl ea)
    have s6:=j5 (i:=6) i6 (show 6 < 12 by decide)
    simp only [List.set_cons_succ,List.set_cons_zero] at s6
    have i7:=lX (je (E:=[s0,x1, .ow (c.map aq), .sh (.int z), .sh (.int k), .ow (p.map aq), .sh (.str ⟨#[q.1]⟩),x7,x8,x9,x10,x11]) (jA (f:=ab 3) (g:=pC (.int 5)) (x:=z) (y:=5) rfl rfl (by decide)) (wU _) (by decide)) (uC _)
    generalize z / 5 % (2*10 ^ 30) - 10 ^ 30=tt at i7
    have s7:=j5 (i:=7) i7 (show 7 < 12 by decide)
    simp only [List.set_cons_succ,List.set_cons_zero] at s7
    have iq:=r_ (r8 (E:=[s0,x1, .ow (c.map aq), .sh (.int z), .sh (.int k), .ow (p.map aq), .sh (.str ⟨#[q.1]⟩), .sh (.int tt),x8,x9,x10,x11]) (f:=ab 2) (g:=ab 4) (j:=2) rfl rfl rfl ea)
    have i8:=t7 (jF (f:=ab 6) (g:=ab 7) (a:=q.1) (n:=tt) rfl rfl) (jF (f:=ab 6) (a:=q.1) rfl (lX iq (g:=ab 7) (y:=tt) rfl))
    have s8:=gC (i:=8) i8 (show 8 < 12 by decide)
    simp only [List.set_cons_succ,List.set_cons_zero] at s8
    have i9:=fY (fY (E:=[s0,x1, .ow (c.map aq), .sh (.int z), .sh (.int k), .ow (p.map aq), .sh (.str ⟨#[q.1]⟩), .sh (.int tt), .ow ([((q.1,tt):Pc),(q.1,q.2 - tt)].map aq),x9,x10,x11]) (jE (f:=ab 2) (g:=ab 4) (s:= .al 2) (c:=c) (k:=k) rfl rfl rfl) rfl (g:=ab 8) (s2:= .al 8) (B:=[((q.1,tt):Pc),(q.1,q.2 - tt)]) rfl rfl (by simp;omega)) rfl (l5 (f:=ab 2) (s:= .al 2) (c:=c) rfl rfl (j4 (g:=ab 4) (x:=k) (f:=pC (.int 1)) (y:=1) rfl rfl)) rfl (by simp;omega)
    have s9:=gC (i:=2) i9 (show 2 < 12 by decide)
    simp only [List.set_cons_succ,List.set_cons_zero] at s9
    refine ⟨_,_,_,_,_,_,⟨?_,?_,?_⟩,(bb s4).trans ((bb s5).trans (j0 (jB t0 t1) ((bb s6).trans ((bb s7).trans ((bb s8).trans s9)))))⟩
    · refine app (app nA fun w hw=>?_) nC
      rcases List.mem_cons.mp hw with e | e
      · rw [e];exact nq
      · rw [List.mem_singleton.mp e];exact nq
    · rw [NH.iW (NH.pQ q.1 tt q.2),List.append_assoc]
      show NH.short (cutL c none (some k)++([q]++cutL c (some (k+1)) none))=_
      rw [List.singleton_append,←dq,sp]
    · have:=congrArg List.length dq
      simp only [List.length_append,List.length_cons,List.length_nil] at this ⊢
      omega
  · have tA:bS (dr (ad fO false (ad b8 false (ab 3) (pC (.int 3))) (pC (.int 0)))) (dr (ad (eN (bX .lt)) false (ab 4) (cG cM (af false (ab 2) aF)))) [s0,x1, .ow (c.map aq), .sh (.int z), .sh (.int k), .ow (p.map aq),x6,x7,x8,x9,x10,x11]=some (false,[s0,x1, .ow (c.map aq), .sh (.int z), .sh (.int k), .ow (p.map aq),x6,x7,x8,x9,x10,x11]):=by
      by_cases h0:z % 3=0
      · rw [decide_eq_true h0] at t0
        rw [decide_eq_false fun w=>h ⟨h0,w⟩] at t1
        exact jB t0 t1
      · rw [decide_eq_false h0] at t0
        exact n8 t0
    by_cases h1:z % 3=1
    · rw [decide_eq_true h1] at t2
      have ec:=eI p (by omega)
      have lc:(NH.contr p).length=p.length:=NH.di p
      have k5:=eG (c:=aI) (E:=[s0,x1, .ow (c.map aq), .sh (.int z), .sh (.int k), .ow (p.map aq),x6,x7,x8,x9,x10,x11]) (wS (f:=ab 5) (s1:= .al 5) rfl) rfl ec
      have s6:=gC (i:=5) (fY (f:=ab 5) (s1:= .al 5) (A:=p) rfl rfl k5 rfl (by omega)) (show 5 < 12 by decide)
      simp only [List.set_cons_succ,List.set_cons_zero] at s6
      have i9:=fY (fY (E:=[s0,x1, .ow (c.map aq), .sh (.int z), .sh (.int k), .ow ((p++NH.contr p).map aq),x6,x7,x8,x9,x10,x11]) (jE (f:=ab 2) (g:=ab 4) (s:= .al 2) (c:=c) (k:=k) rfl rfl rfl) rfl (g:=ab 5) (s2:= .al 5) (B:=p++NH.contr p) rfl rfl (by simp [lc];omega)) rfl (l5 (f:=ab 2) (s:= .al 2) (c:=c) (g:=ab 4) (k:=k) rfl rfl rfl) rfl (by simp [lc];omega)
      have s9:=gC (i:=2) i9 (show 2 < 12 by decide)
      simp only [List.set_cons_succ,List.set_cons_zero] at s9
      refine ⟨_,_,_,_,_,_,⟨?_,?_,?_⟩,(bb s4).trans ((bb s5).trans (eV tA (j0 t2 ((bb s6).trans s9))))⟩
      · exact app (app nA (app np2 (jv np2))) nB
      · rw [NH.iW (NH.qH p),List.append_nil,sp]
      · simp only [List.length_append,lc]
        omega
    · rw [decide_eq_false h1] at t2
      have i9:=fY (fY (E:=[s0,x1, .ow (c.map aq), .sh (.int z), .sh (.int k), .ow (p.map aq),x6,x7,x8,x9,x10,x11]) (jE (f:=ab 2) (g:=ab 4) (s:= .al 2) (c:=c) (k:=k) rfl rfl rfl) rfl (t6 (jF (t8 (jA (f:=ab 3) (g:=pC (.int 11)) (x:=z) (y:=11) rfl rfl (by decide))) (g:=pC (.int 0)) (n:=0) rfl)) rfl (by simp;omega)) rfl (l5 (f:=ab 2) (s:= .al 2) (c:=c) (g:=ab 4) (k:=k) rfl rfl rfl) rfl (by simp;omega)
      have s9:=gC (i:=2) i9 (show 2 < 12 by decide)
      simp only [List.set_cons_succ,List.set_cons_zero] at s9
      refine ⟨_,_,_,_,_,_,⟨?_,?_,?_⟩,(bb s4).trans ((bb s5).trans (eV tA (eV t2 s9)))⟩
      · refine app (app nA fun w hw=>?_) nB
        rw [List.mem_singleton.mp hw]
        show 97+(z / 11 % 26).toNat < 128
        have:=Int.emod_lt_of_pos (z / 11) (show (0:Int) < 26 by decide)
        omega
      · rw [NH.iW (NH.qG _),List.append_nil,sp]
      · simp only [List.length_append,List.length_cons,List.length_nil]
        omega
theorem pq (s0 x1 x9 x10 x11:Sl):∀(zs:List Int) (c:List Pc) (x3 x4 x5 x6 x7 x8:Sl),NailsOk c→NH.short c=[]→c.length+4*zs.length≤1000→∃(c':List Pc) (y3 y4 y5 y6 y7 y8:Sl),NailsOk c'∧NH.short c'=[]∧c'.length≤1000∧
    cI gW gX (zs.map .int) [s0,x1, .ow (c.map aq),x3,x4,x5,x6,x7,x8,x9,x10,x11]=some ([s0,x1, .ow (c'.map aq),y3,y4,y5,y6,y7,y8,x9,x10,x11], .nx)
  | [],c,x3,x4,x5,x6,x7,x8,hN,hs,hl=>⟨c,x3,x4,x5,x6,x7,x8,hN,hs,by rw [List.length_nil] at hl;omega,rfl⟩
  | z::zs,c,x3,x4,x5,x6,x7,x8,hN,hs,hl=>by
    rw [List.length_cons] at hl
    obtain ⟨c1,y4,y5,y6,y7,y8,⟨n1,e1,l1⟩,st⟩:=ua s0 x1 x3 x4 x5 x6 x7 x8 x9 x10 x11 c z hN (by omega)
    obtain ⟨c',w3,w4,w5,w6,w7,w8,n2,e2,l2,lp⟩:=pq s0 x1 x9 x10 x11 zs c1 (.sh (.int z)) y4 y5 y6 y7 y8 n1 (e1.trans hs) (by omega)
    refine ⟨c',w3,w4,w5,w6,w7,w8,n2,e2,l2,?_⟩
    rw [List.map_cons,cI,st]
    exact lp
theorem vQ:("q":Str)=⟨#[113]⟩:=by decide+kernel
theorem wV:∀(d:List Pc) (x0 x1:Sl),gU fS gS fM (d.map aq) [x0,x1]=some ((d.map fun p=>((113,p.2):Pc)).map aq)
  | [],x0,x1=>rfl
  | p::d,x0,x1=>by
    have e:(fS (aq p) [x0,x1])=some [.sh (.str ⟨#[p.1]⟩), .sh (.int p.2)]:=rfl
    have e2:fM [.sh (.str ⟨#[p.1]⟩), .sh (.int p.2)]=some (.sh (aq (113,p.2)),[.sh (.str ⟨#[p.1]⟩), .sh (.int p.2)]):=by
      unfold fM
      refine jF (f:=pC (.str "q")) ?_ rfl
      rw [←vQ]
      rfl
    rw [List.map_cons,gU,e,Option.bind_some]
    simp only [gS,e2,wV d,gc,eX,bu,ck,b7,ar,aP,a8,bT,cO,cu,cP,bQ,bU,aR,PL.settle,Sl.isAl,Sl.isBr,frz,ab,pC,ad,bO,dt,du,bx,b8,dQ,fO,gv,dY,gb,dZ,fj,eN,f6,fm,fo,look,bt,Sl.val,fN,eK,dr,cJ,d0,bS,dm,bC,cq,fq,jk,aF,af,bG,aJ,dO,ca,cG,cM,eO,ft,fu,bH,ee,ip,Ty.is,bg,aW,jm,a9,ao,aO,eP,fw,bV,aG,cw,a_,cA,fz,cH,ba,bW,dv,List.length_cons,List.length_nil,List.map_cons,List.map_nil,List.replicate,List.cons_append,List.nil_append,List.getElem?_cons_zero,List.getElem?_cons_succ,List.set_cons_zero,List.set_cons_succ,List.isEmpty_nil,List.isEmpty_cons,Option.bind_some,Option.bind_none,Option.map_some,Option.map_none,Option.any_some,Nat.sub_self,Nat.zero_add,Nat.reduceAdd,Nat.reduceSub,Nat.reduceLT,Nat.reduceLeDiff,if_true,if_false,ite_true,ite_false,Bool.false_and,Bool.and_false,Bool.true_and,Bool.and_true,Bool.true_or,Bool.or_true,Bool.false_or,Bool.or_false,Bool.not_true,Bool.not_false,Bool.false_eq_true,reduceIte,decide_true,decide_false,cS,cT,cU,aQ,aS,bh,List.map_append,List.dropLast_concat,ah,au,aw,az,aT,aC,dP,aB,frzAll,dw,cV,bI,bX,Cm.i,Cm.s,cC,fA,fB,fD,jr,i5,fE,cW,bi,aL,bj,aU,bo,aM,bp,eq_self,not_true_eq_false,not_false_eq_true,Int.cast_ofNat_Int,PL.takeP,fF,cX,cY,cZ,e8,eZ,bY,Pt.val,List.all_cons,List.all_nil,fG,c7,c9,c8,bZ,c_,gN,Option.isSome_some,b4,jt,fH,fI,fJ,bn,b5,de,df,cQ,cR]
theorem sj (c:List Pc) (hl:c.length≤60000) (hs:NH.short c=[]):av [.list (c.map aq)]=some (.br (.list ((dg (aD 0 (c.map q2) ([],[])).2).map bD))):=by
  show ((h6 (c.map aq)).bind _)=_
  rw [lY,Option.bind_some,if_pos (by rw [List.length_map];exact hl),jf,decide_eq_true hs]
  rfl
theorem vR (ns:List Int) (c:List Pc) (hN:NailsOk c) (hl:c.length≤60):∃c':List Pc,NailsOk c'∧c'.length≤60∧bU (dr (ad fO false (ad b8 false (ao dE (af false (ab 0) (af false (pC (.int 0)) aF))) (pC (.int 3))) (pC (.int 1))))
    (aR 1 (iJ [none,none] (dw (ab 1)) fS gS fM)) a8 [.sh (.list (ns.map .int)), .ow (c.map aq), .no, .no, .no, .no, .no, .no, .no, .no, .no, .no]=some ([.sh (.list (ns.map .int)), .ow (c'.map aq), .no, .no, .no, .no, .no, .no, .no, .no, .no, .no], .nx):=by
  have e2:=kO ns 0
  rw [Int.natCast_zero] at e2
  have k2:=eG (c:=dE) (E:=[.sh (.list (ns.map .int)), .ow (c.map aq), .no, .no, .no, .no, .no, .no, .no, .no, .no, .no]) (vZ (f:=ab 0) (g:=pC (.int 0)) (s1:= .sh (.list (ns.map .int))) (s2:= .sh (.int 0)) rfl rfl) rfl e2
  have t0:=mX (je k2 (g:=pC (.int 3)) (y:=3) rfl (by decide)) (g:=pC (.int 1)) (y:=1) rfl
  by_cases h:ns.getD 0 0 % 3=1
  · rw [decide_eq_true h] at t0
    refine ⟨c.map fun p=>((113,p.2):Pc),fun p hp=>?_,by rw [List.length_map];exact hl,j0 t0 ?_⟩
    · obtain ⟨q,_,rfl⟩:=List.mem_map.mp hp
      show 113 < 128
      decide
    · have cl:=wV c .no .no
      have it:dw (ab 1) [.sh (.list (ns.map .int)), .ow (c.map aq), .no, .no, .no, .no, .no, .no, .no, .no, .no, .no]=some (c.map aq,[.sh (.list (ns.map .int)), .sh (.list (c.map aq)), .no, .no, .no, .no, .no, .no, .no, .no, .no, .no]):=rfl
      have fl:=au (c.map fun p=>((113,p.2):Pc))
      have ll:(List.map aq (c.map fun p=>((113,p.2):Pc))).length≤1000000:=by rw [List.length_map,List.length_map];omega
      have k:iJ [none,none] (dw (ab 1)) fS gS fM [.sh (.list (ns.map .int)), .ow (c.map aq), .no, .no, .no, .no, .no, .no, .no, .no, .no, .no]=some (.ow ((c.map fun p=>((113,p.2):Pc)).map aq),[.sh (.list (ns.map .int)), .sh (.list (c.map aq)), .no, .no, .no, .no, .no, .no, .no, .no, .no, .no]):=by
        unfold iJ
        rw [it,Option.bind_some]
        show (gU fS gS fM (c.map aq) [.no, .no]).bind _=_
        rw [cl,Option.bind_some,fl,decide_eq_true ll]
        rfl
      exact gC (i:=1) k (show 1 < 12 by decide)
  · rw [decide_eq_false h] at t0
    exact ⟨c,hN,hl,eV t0 rfl⟩
theorem vS (s0 x1 x3 x4 x5 x6 x7 x8:Sl) (c:List Pc) (hN:NailsOk c) (hs:NH.short c=[]) (hl:c.length≤1000):∃E',kN 10 9 11 (dm (bC (cJ (ao aE (af false (ab 2) (af false (ab 10) aF))))) (dr (ad gv false (ab 9) (ab 2))))
  (bQ (cq (ao aE (af false (ab 2) (af false (ao av (af false (ab 9) aF)) aF))) (ad fO false (ao av (af false (ca bG) aF)) (ca bG)))) [s0,x1, .ow (c.map aq),x3,x4,x5,x6,x7,x8, .ow (c.map aq), .no, .no]=some (E', .rt (.sh (.bool true))):=by
  have hn:(aD 0 (c.map q2) ([],[])).1=[]:=by
    have:=jf c
    rw [decide_eq_true hs] at this
    exact List.isEmpty_iff.mp this
  have B:=yc hn
  have rt:=si c hl hs
  have bk:=sj c (by omega) hs
  have b0:=sj [] (by simp) rfl
  have b0':av [.list []]=some (.br (.list [])):=by
    rw [show av [.list []]=av [.list (([]:List Pc).map aq)] from rfl,b0]
    simp [aD,dg]
  have bl:∀l∈dg (aD 0 (c.map q2) ([],[])).2,l.length≤60000:=fun l hm=>by
    have h1:l.length≤(dg (aD 0 (c.map q2) ([],[])).2).flatten.length:=(List.sublist_flatten_of_mem hm).length_le
    rw [B.pm.length_eq,PL.rI,List.length_map,List.length_range,List.length_map] at h1
    omega
  have cond:(c.map q2).length≤60000∧(aD 0 (c.map q2) ([],[])).1=[]∧(∀l∈dg (aD 0 (c.map q2) ([],[])).2,l.length≤60000)∧10 < 12∧11 < 12∧(10:Nat)≠11:=⟨by rw [List.length_map];omega,hn,bl,by decide,by decide,by decide⟩
  generalize hbs:dg (aD 0 (c.map q2) ([],[])).2=bs at rt bk cond
  have tt:(dm (bC (cJ (ao aE (af false (ab 2) (af false (ab 10) aF))))) (dr (ad gv false (ab 9) (ab 2)))) [aB s0,aB x1, .sh (.list (c.map aq)),aB x3,aB x4,aB x5,aB x6,aB x7,aB x8, .sh (.list (c.map aq)), .sh (.list (bs.map bD)), .no]=some (false,[aB s0,aB x1, .sh (.list (c.map aq)),aB x3,aB x4,aB x5,aB x6,aB x7,aB x8, .sh (.list (c.map aq)), .sh (.list (bs.map bD)), .no]):=by
    have k:=eG (c:=aE) (E:=[aB s0,aB x1, .sh (.list (c.map aq)),aB x3,aB x4,aB x5,aB x6,aB x7,aB x8, .sh (.list (c.map aq)), .sh (.list (bs.map bD)), .no]) (vZ (f:=ab 2) (g:=ab 10) (s1:= .sh (.list (c.map aq))) (s2:= .sh (.list (bs.map bD))) rfl rfl) rfl rt
    refine mS (iB (oa k)) ?_
    have q:=mE hN hN
    rw [decide_eq_true rfl] at q
    simp only [gc,eX,bu,ck,b7,ar,aP,a8,bT,cO,cu,cP,bQ,bU,aR,PL.settle,Sl.isAl,Sl.isBr,frz,ab,pC,ad,bO,dt,du,bx,b8,dQ,fO,gv,dY,gb,dZ,fj,eN,f6,fm,fo,look,bt,Sl.val,fN,eK,dr,cJ,d0,bS,dm,bC,cq,fq,jk,aF,af,bG,aJ,dO,ca,cG,cM,eO,ft,fu,bH,ee,ip,Ty.is,bg,aW,jm,a9,ao,aO,eP,fw,bV,aG,cw,a_,cA,fz,cH,ba,bW,dv,List.length_cons,List.length_nil,List.map_cons,List.map_nil,List.replicate,List.cons_append,List.nil_append,List.getElem?_cons_zero,List.getElem?_cons_succ,List.set_cons_zero,List.set_cons_succ,List.isEmpty_nil,List.isEmpty_cons,Option.bind_some,Option.bind_none,Option.map_some,Option.map_none,Option.any_some,Nat.sub_self,Nat.zero_add,Nat.reduceAdd,Nat.reduceSub,Nat.reduceLT,Nat.reduceLeDiff,if_true,if_false,ite_true,ite_false,Bool.false_and,Bool.and_false,Bool.true_and,Bool.and_true,Bool.true_or,Bool.or_true,Bool.false_or,Bool.or_false,Bool.not_true,Bool.not_false,Bool.false_eq_true,reduceIte,decide_true,decide_false,cS,cT,cU,aQ,aS,bh,List.map_append,List.dropLast_concat,ah,au,aw,az,aT,aC,dP,aB,frzAll,dw,cV,bI,bX,Cm.i,Cm.s,cC,fA,fB,fD,jr,i5,fE,cW,bi,aL,bj,aU,bo,aM,bp,eq_self,not_true_eq_false,not_false_eq_true,Int.cast_ofNat_Int,PL.takeP,fF,cX,cY,cZ,e8,eZ,bY,Pt.val,List.all_cons,List.all_nil,fG,c7,c9,c8,bZ,c_,gN,Option.isSome_some,b4,jt,fH,fI,fJ,bn,b5,de,df,cQ,cR,q]
  have e1:kN 10 9 11 (dm (bC (cJ (ao aE (af false (ab 2) (af false (ab 10) aF))))) (dr (ad gv false (ab 9) (ab 2))))
      (bQ (cq (ao aE (af false (ab 2) (af false (ao av (af false (ab 9) aF)) aF))) (ad fO false (ao av (af false (ca bG) aF)) (ca bG)))) [s0,x1, .ow (c.map aq),x3,x4,x5,x6,x7,x8, .ow (c.map aq), .no, .no]=
      bQ (cq (ao aE (af false (ab 2) (af false (ao av (af false (ab 9) aF)) aF))) (ad fO false (ao av (af false (ca bG) aF)) (ca bG))) [s0,x1, .ow (c.map aq),x3,x4,x5,x6,x7,x8, .ow (c.map aq), .no, .no]:=by
    unfold kN
    show (match h6 (c.map aq) with | some c=>_ | none=>_)=_
    rw [lY]
    show (if (c.map q2).length≤60000∧(aD 0 (c.map q2) ([],[])).1=[]∧(∀l∈dg (aD 0 (c.map q2) ([],[])).2,l.length≤60000)∧10 < 12∧11 < 12∧(10:Nat)≠11 then _ else _)=_
    rw [hbs,if_pos cond]
    show (match (dm (bC (cJ (ao aE (af false (ab 2) (af false (ab 10) aF))))) (dr (ad gv false (ab 9) (ab 2)))) [aB s0,aB x1, .sh (.list (c.map aq)),aB x3,aB x4,aB x5,aB x6,aB x7,aB x8, .sh (.list (c.map aq)), .sh (.list (bs.map bD)), .no] with | some (false,_)=>_ | _=>_)=_
    rw [tt]
    rfl
  have k9:=eG (c:=av) (E:=[s0,x1, .ow (c.map aq),x3,x4,x5,x6,x7,x8, .ow (c.map aq), .no, .no]) (wS (f:=ab 9) (s1:= .al 9) rfl) rfl bk
  have kr:=eG (c:=aE) (vZ (f:=ab 2) (s1:= .al 2) rfl k9) rfl rt
  have k0:=eG (c:=av) (E:=[s0,x1, .ow (c.map aq),x3,x4,x5,x6,x7,x8, .ow (c.map aq), .no, .no]) (wS (f:=ca bG) (s1:= .ow []) rfl) rfl b0'
  refine ⟨[s0,x1, .ow (c.map aq),x3,x4,x5,x6,x7,x8, .ow (c.map aq), .no, .no],?_⟩
  rw [e1]
  have q0:pR (.list []) (.list [])=some true:=by
    have:=mE (c:=[]) (d:=[]) kH kH
    rwa [decide_eq_true rfl] at this
  generalize ao aE (af false (ab 2) (af false (ao av (af false (ab 9) aF)) aF))=f1 at kr
  generalize ao av (af false (ca bG) aF)=f2 at k0
  simp only [gc,eX,bu,ck,b7,ar,aP,a8,bT,cO,cu,cP,bQ,bU,aR,PL.settle,Sl.isAl,Sl.isBr,frz,ab,pC,ad,bO,dt,du,bx,b8,dQ,fO,gv,dY,gb,dZ,fj,eN,f6,fm,fo,look,bt,Sl.val,fN,eK,dr,cJ,d0,bS,dm,bC,cq,fq,jk,aF,af,bG,aJ,dO,ca,cG,cM,eO,ft,fu,bH,ee,ip,Ty.is,bg,aW,jm,a9,ao,aO,eP,fw,bV,aG,cw,a_,cA,fz,cH,ba,bW,dv,List.length_cons,List.length_nil,List.map_cons,List.map_nil,List.replicate,List.cons_append,List.nil_append,List.getElem?_cons_zero,List.getElem?_cons_succ,List.set_cons_zero,List.set_cons_succ,List.isEmpty_nil,List.isEmpty_cons,Option.bind_some,Option.bind_none,Option.map_some,Option.map_none,Option.any_some,Nat.sub_self,Nat.zero_add,Nat.reduceAdd,Nat.reduceSub,Nat.reduceLT,Nat.reduceLeDiff,if_true,if_false,ite_true,ite_false,Bool.false_and,Bool.and_false,Bool.true_and,Bool.and_true,Bool.true_or,Bool.or_true,Bool.false_or,Bool.or_false,Bool.not_true,Bool.not_false,Bool.false_eq_true,reduceIte,decide_true,decide_false,cS,cT,cU,aQ,aS,bh,List.map_append,List.dropLast_concat,ah,au,aw,az,aT,aC,dP,aB,frzAll,dw,cV,bI,bX,Cm.i,Cm.s,cC,fA,fB,fD,jr,i5,fE,cW,bi,aL,bj,aU,bo,aM,bp,eq_self,not_true_eq_false,not_false_eq_true,Int.cast_ofNat_Int,PL.takeP,fF,cX,cY,cZ,e8,eZ,bY,Pt.val,List.all_cons,List.all_nil,fG,c7,c9,c8,bZ,c_,gN,Option.isSome_some,b4,jt,fH,fI,fJ,bn,b5,de,df,cQ,cR,kr,k0,q0]
theorem vT (ns:List Int) (hl:ns.length≤63):iw [.list (ns.map .int)]=some (.sh (.bool true)):=by
  obtain ⟨c1,e1,l1,n1⟩:=mT ns 0 63 60 (by decide) (by decide) (by decide) hl
  have k1:ao dS (af false (ab 0) (af false (pC (.int 0)) (af false (pC (.int 63)) (af false (pC (.int 60)) aF)))) [.sh (.list (ns.map .int)), .no, .no, .no, .no, .no, .no, .no, .no, .no, .no, .no]=some (.ow (c1.map aq),[.sh (.list (ns.map .int)), .no, .no, .no, .no, .no, .no, .no, .no, .no, .no, .no]):=eG (ss:=[.sh (.list (ns.map .int)), .sh (.int 0), .sh (.int 63), .sh (.int 60)]) rfl rfl e1
  have s1:=gC (i:=1) k1 (show 1 < 12 by decide)
  simp only [List.set_cons_succ,List.set_cons_zero] at s1
  obtain ⟨c2,n2,l2,s2⟩:=vR ns c1 n1.n (by omega)
  have ec:=eI c2 (by omega)
  have lc:(NH.contr c2).length=c2.length:=NH.di c2
  have k3:=eG (c:=aI) (E:=[.sh (.list (ns.map .int)), .ow (c2.map aq), .no, .no, .no, .no, .no, .no, .no, .no, .no, .no]) (wS (f:=ab 1) (s1:= .al 1) rfl) rfl ec
  have s3:=gC (i:=2) (fY (f:=ab 1) (s1:= .al 1) (A:=c2) rfl rfl k3 rfl (by omega)) (show 2 < 12 by decide)
  simp only [List.set_cons_succ,List.set_cons_zero] at s3
  have cm:((cutL ns none (some 20)).length:Int)≤20:=gj ns (by decide)
  obtain ⟨c,y3,y4,y5,y6,y7,y8,nc,hs,lc2,lp⟩:=pq (.sh (.list (ns.map .int))) (.ow (c2.map aq)) .no .no .no (cutL ns none (some 20)) (c2++NH.contr c2) .no .no .no .no .no .no (fun p hp=>(List.mem_append.mp hp).elim (n2 p) (jv n2 p)) (NH.nG c2) (by rw [List.length_append,lc];omega)
  have it:dw (cC false (ab 0) bg (aW (pC (.int 20)))) [.sh (.list (ns.map .int)), .ow (c2.map aq), .ow ((c2++NH.contr c2).map aq), .no, .no, .no, .no, .no, .no, .no, .no, .no]=some ((cutL ns none (some 20)).map .int,[.sh (.list (ns.map .int)), .ow (c2.map aq), .ow ((c2++NH.contr c2).map aq), .no, .no, .no, .no, .no, .no, .no, .no, .no]):=by
    rw [←aC]
    rfl
  have s4:=iA it lp
  have s5:aR 9 (bH (ab 2)) [.sh (.list (ns.map .int)), .ow (c2.map aq), .ow (c.map aq),y3,y4,y5,y6,y7,y8, .no, .no, .no]=some ([.sh (.list (ns.map .int)), .ow (c2.map aq), .ow (c.map aq),y3,y4,y5,y6,y7,y8, .ow (c.map aq), .no, .no], .nx):=rfl
  obtain ⟨E',s6⟩:=vS (.sh (.list (ns.map .int))) (.ow (c2.map aq)) y3 y4 y5 y6 y7 y8 c nc hs lc2
  have g:iw [.list (ns.map .int)]=(mQ [.sh (.list (ns.map .int)), .no, .no, .no, .no, .no, .no, .no, .no, .no, .no, .no]).bind fun a=>match a.2 with | .rt r=>dP r | .nx=>some (.sh .none) | _=>none:=rfl
  rw [g,mQ,bb s1,bb s2,bb s3,bb s4,bb s5,s6]
  rfl
end Nhk05
namespace Nhk05
open PySem L2 Nh PL
open PySem.W (nsIn codeIn keepIn fnOf)
theorem ub {fd:FuncData} {xs:List Str} (h:∀a0,bindArgs fd ⟨[a0],[]⟩=pure (xs.zip [a0])):∀us:List Value,us.length=1→bindArgs fd ⟨us,[]⟩=pure (xs.zip us)
  | [a0],_=>h a0
theorem qi {fd:FuncData} {xs:List Str} (h:∀a0 a1,bindArgs fd ⟨[a0,a1],[]⟩=pure (xs.zip [a0,a1])):∀us:List Value,us.length=2→bindArgs fd ⟨us,[]⟩=pure (xs.zip us)
  | [a0,a1],_=>h a0 a1
theorem xO {fd:FuncData} {xs:List Str} (h:∀a0 a1 a2 a3,bindArgs fd ⟨[a0,a1,a2,a3],[]⟩=pure (xs.zip [a0,a1,a2,a3])):∀us:List Value,us.length=4→bindArgs fd ⟨us,[]⟩=pure (xs.zip us)
  | [a0,a1,a2,a3],_=>h a0 a1 a2 a3
abbrev HD (K:PySem.W.Frag) (n:Str) (st:Stmt):Prop:=∃(f:Addr) (oc:Value) (od an:Option Addr) (sl:Array (Option Value)) (kV dc pm cd ct:Value),nsIn K mainGlobals n=some (some (.ref f))∧K.lookup f=some ⟨oc,od, .func (fnOf n n (fc st) (dJ st) (am st) .none kV dc pm an cd ct),sl⟩∧codeIn K cd n=true∧keepIn K (.ref f)=true
theorem wW {K:PySem.W.Frag} {n:Str} {st:Stmt} {f:Addr} {oc:Value} {od an:Option Addr} {sl:Array (Option Value)} {kV dc pm cd ct:Value} (a:nsIn K mainGlobals n=some (some (.ref f))) (l:K.lookup f=some ⟨oc,od, .func (fnOf n n (fc st) (dJ st) (am st) .none kV dc pm an cd ct),sl⟩) (c:codeIn K cd n=true) (k:keepIn K (.ref f)=true):HD K n st:=⟨f,oc,od,an,sl,kV,dc,pm,cd,ct,a,l,c,k⟩
theorem g4 {K:PySem.W.Frag} {h:Heap} {mg:Str→Option Value} {x:Str} {st:Stmt} {ps:List Str} (d:HD K x st) (X:K.In h) (G:h.Ns mainGlobals mg) (b:∀(kV doc pm:Value) (an:Option Addr) (cdv ct:Value) (us:List Value),us.length=ps.length→bindArgs (fnOf x x (fc st) (dJ st) (am st) .none kV doc pm an cdv ct) ⟨us,[]⟩=pure (ps.zip us)):Def K mg x st ps:=by
  obtain ⟨f,oc,od,an,sl,kV,dc,pm,cd,ct,a,l,c,k⟩:=d
  exact u8 X G a l c k b
theorem vU {l:PySem.W.OpenLaw} {w:World} {K:PySem.W.Frag} {h:Heap} {mg:Str→Option Value} {fa:Addr} (X:K.In h) (G:h.Ns mainGlobals mg) (hfa:mg "law"=some (.ref fa)) (B:Bn mg)
    (d1:HD K "blocks_of" fX)
    (d2:HD K "_law_at" jY)
    (d3:HD K "_law_mix" jd)
    (d4:HD K "_law_contrary" fT)
    (d5:HD K "_law_pieces" gA)
    (d6:HD K "_law_cord" iz)
    (d7:HD K "_law_numbers_right" ef)
    (d8:HD K "_law_come_to_nought" dX)
    (d9:HD K "_law_walked" gB)
    (d10:HD K "_law_right" gZ)
    (d11:HD K "law" jZ):
    ∃fd:FuncData,(∀(s:Shared) (v:Value),BindsTo s fd ⟨[v],[]⟩ [("_law_script",v)])∧∀base:Heap,K.In base→base.Ns mainGlobals mg→FnOk l.prog w K mg base qm 4 fa fd ["_law_script"] (hU K iw):=by
  obtain ⟨f0,oc0,od0,an0,sl0,kV0,dc0,pm0,cd0,ct0,a0,l0,c0,k0⟩:=d11
  have e:=hfa.symm.trans (PySem.W.mg_of X G a0)
  cases e
  have F0:=nD (st:=jZ) l0 c0 k0
  refine ⟨fnOf "law" "law" (fc jZ) (dJ jZ) (am jZ) .none kV0 dc0 pm0 an0 cd0 ct0,fun s v=> .of_eq rfl,fun base _ _=>?_⟩
  have D_blocks_of:=lV (P:=l.prog) (w:=w) (base:=base) (g4 d1 X G fun _ _ _ _ _ _=>ub fun _=>rfl) B
  have D_law_at:=qg (P:=l.prog) (w:=w) (base:=base) (g4 d2 X G fun _ _ _ _ _ _=>qi fun _ _=>rfl) B
  have D_law_mix:=nZ (P:=l.prog) (w:=w) (base:=base) (g4 d3 X G fun _ _ _ _ _ _=>qi fun _ _=>rfl) B
  have D_law_contrary:=jz (P:=l.prog) (w:=w) (base:=base) (g4 d4 X G fun _ _ _ _ _ _=>ub fun _=>rfl) B
  have D_law_pieces:=kc (P:=l.prog) (w:=w) (base:=base) (g4 d5 X G fun _ _ _ _ _ _=>ub fun _=>rfl) B D_law_mix
  have D_law_cord:=mR (P:=l.prog) (w:=w) (base:=base) (g4 d6 X G fun _ _ _ _ _ _=>xO fun _ _ _ _=>rfl) B D_law_at D_law_contrary D_law_pieces
  have D_law_numbers_right:=gY (P:=l.prog) (w:=w) (base:=base) (g4 d7 X G fun _ _ _ _ _ _=>qi fun _ _=>rfl) B
  have D_law_come_to_nought:=gI (P:=l.prog) (w:=w) (base:=base) (g4 d8 X G fun _ _ _ _ _ _=>qi fun _ _=>rfl) B
  have D_law_walked:=ke (P:=l.prog) (w:=w) (base:=base) (g4 d9 X G fun _ _ _ _ _ _=>qi fun _ _=>rfl) B
  have D_law_right:=lW (P:=l.prog) (w:=w) (base:=base) (g4 d10 X G fun _ _ _ _ _ _=>qi fun _ _=>rfl) B D_law_numbers_right D_law_come_to_nought D_law_walked
  have D_blocks_of2:=kb (P:=l.prog) (w:=w) (base:=base) (g4 d1 X G fun _ _ _ _ _ _=>ub fun _=>rfl) B
  exact vO F0 B D_law_right D_blocks_of D_blocks_of2 D_law_cord D_law_at D_law_contrary D_law_pieces
theorem oe {K:PySem.W.Frag} {h:Heap} (e:nsIn K mainGlobals "in_told_order"=some none):L2.oQ K h:=fun b q z=>by
  unfold jH v4 at z
  rw [e] at z
  cases z
theorem xP {l:PySem.W.OpenLaw} {q:Program} {loose:List Str} {XP:(Str→Option Value)→Heap→Prop} {YP:World→Heap→Prop} {d:DefRec} {K:Params→PySem.W.Frag} (hn:l.most=some 63) (hdf:d.params.defaults=[])
    (hY:∀(w:World) (h:Heap),YP w h→(K w.params).In h∧oQ (K w.params) h)
    (F:∀(w:World) (mg:Str→Option Value) (fa:Addr) (h:Heap),(K w.params).In h→h.Ns mainGlobals mg→mg d.name=some (.ref fa)→
      ∃fd:FuncData,(∀(s:Shared) (u:Value),BindsTo s fd ⟨[u],[]⟩ [("_law_script",u)])∧∀base:Heap,(K w.params).In base→base.Ns mainGlobals mg→FnOk l.prog w (K w.params) mg base qm 4 fa fd ["_law_script"] (hU (K w.params) iw)):
    PySem.W.WalkO q loose XP YP l.row.toRowW d [] (fun f vs=>PySem.call f vs):=
  L2.rH (n:=63) (k:=4) (x:="_law_script") (CX:=fun _=>qm) (sp:=fun w=>hU (K w.params) iw) hn (by decide) hdf ⟨rfl,by decide,by decide⟩ hY F (fun _ _ a ns hl hS=>vA (vT ns hl) hS) fun _ _ _ _ _ z=>z
end Nhk05
open PySem PySem.W PyProof.Rows
namespace PySem.W.Fast
def tw6930369644540999840:=0
def tw16271758388543061697:=0
def tw10022485665414939489:=0
def tw4891648256975005602:=0
def tw16645045381775286403:=0
def tw8710333614373281796:=0
def tw11087370329592442564:=0
def tw4401684418220937060:=0
def tw7097238279054973892:=0
def tw6836152926780946725:=0
def tw13603153761622955589:=0
def tw9520939680576940710:=0
def tw769200882241896358:=0
def tw8953389421588353128:=0
def tw15254538960092461321:=0
def tw9528785658141860233:=0
def tw16505578229834460010:=0
def tw3335892555637912587:=0
def tw15452390610387150155:=0
def tw11308585826430725803:=0
def tw3359193770167410475:=0
def tw8367512889049987500:=0
def tw5865824716362399308:=0
def tw4794899797728907084:=0
def tw14894938042304696172:=0
def tw2010466985057614796:=0
def tw9343631606980817005:=0
def tw7088535922792198445:=0
def tw3767448190104627533:=0
def tw695241861579652813:=0
def tw9536139884688662830:=0
def tw13510823405302905422:=0
def tw6576846335099303694:=0
def tw5888770445069655918:=0
def tw1015397655727206031:=0
def tw10788614888171247760:=0
def tw7502801014896330992:=0
def tw1659269321539181296:=0
def tw17460788988503954288:=0
def tw2588962646039091057:=0
def tw12723351925248051954:=0
def tw17458088174261916915:=0
def tw4080108234090085715:=0
def tw2947961536138096660:=0
def tw5269986496118574356:=0
def tw11645644267328626100:=0
def tw1392353249652276212:=0
def tw15969356135027654741:=0
def tw2036863040779785493:=0
def tw14694369056534418997:=0
def tw14486354004247226005:=0
def tw16728235144318959285:=0
def tw12538259110950580534:=0
def tw18254212344341953560:=0
def tw15293986442894000472:=0
def tw15557848813901585880:=0
def tw16489311102803190744:=0
def tw12936383546092079001:=0
def tw8517701477471276154:=0
def tw2284987709435876443:=0
def tw16669942171601894683:=0
def tw890252242379479515:=0
def tw12217805931416966683:=0
def tw10606872963491281755:=0
def tw11064886093207140251:=0
def tw1078045708186935259:=0
def tw8491027628224392764:=0
def tw17834117453944122972:=0
def tw14816714559687044733:=0
def tw868516499589555486:=0
def tw16509637641472002175:=0
def tw7554751658246261887:=0
def tw7500666489830556223:=0
def tw1628983248355207071:=0
def tw14015000207460667310:=0
end PySem.W.Fast
set_option maxRecDepth 100000 in
set_option maxHeartbeats 0 in
theorem PySem.Challenge.cw_nailhang_k05_blocks_holds : PySem.Challenge.rw_nailhang_k05_blocks.Holds := by
  w_on;o_law;k_head;(case hw=>w_witness2)
  k_fill
  refine Nhk05.xP (l:=PySem.Challenge.rw_nailhang_k05_blocks) rfl rfl (fun w h Y=>⟨PySem.W.kIn_of Y,Nhk05.oe (by k_is)⟩) ?F
  case F=>
    intro w mg fa h KX G hmg
    refine' Nhk05.vU KX G hmg (PL.wG KX G ?_ ?_ ?_ ?_ ?_ ?_ ?_ ?_ ?_ ?_ ?_ ?_ ?_ ?_ ?_ ?_ ?_ ?_ ?_ ?_) ?_ ?_ ?_ ?_ ?_ ?_ ?_ ?_ ?_ ?_ ?_
    all_goals first | (refine' Nhk05.wW ?_ ?_ ?_ ?_ <;> first | k_is | skip) | k_is | exact rfl | kernel_rfl | skip
