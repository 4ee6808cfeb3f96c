import PyProof.Rows.All
import KE.KLam
import KE.KNestM
import PyProof.OldK
import Wide.All
import OpenK.AllK
import Wide.FinOn
import Lean
import PyProof.EqAt
import PyProof.EqKinds
import PyProof.TupleCall
import KE.KRevIter
import PyProof.Rows.SeqMore
import PyProof.Rows.ListMulArg
import PyProof.ZipIter
import PyProof.Rows.ZipGen
import PyProof.EnumMake
import PyProof.StrWalks
import PyProof.SliceStr2
import PyProof.StrBlockH
import PyProof.FString5
import PyProof.Rows.StrJoin2
import PyProof.Rows.Range3
import KE.KDictLaws
import PyProof.ConsumeWalk
import PyProof.SumWalkG
import PyProof.Rows.SeqCalls
import PyProof.Rows.SeqGen
import PyProof.Rows.MinMaxN
import PyProof.Rows.CallKwBuiltin
import PyProof.Rows.SortStr
import PyProof.StrOps2
import PyProof.Rows.StrMul
import PyProof.IsRules
import PyProof.Rows.SetFrom
import PyProof.CollectStr
import KE.KTryMore
import KE.KSortTup
import PyProof.StrOps
import PyProof.Rows.SortRuns
import PyProof.Rows.SortKey
import KE.RegKIsAll
import PyProof.P3Eq
import KE.RegKTryMore
import PySem.Challenge.RW_nailhang_k74_no_moves
set_option Elab.async false
set_option linter.all false
set_option maxRecDepth 100000
set_option maxHeartbeats 4000000
local macro_rules | `(tactic| omega) => `(tactic| lia)
noncomputable section
namespace L2
open PySem PySem.Spec PyProof.Rows
abbrev bZ:=Sum Int Str
def km:bZ→Value→Bool
  | .inl k,v=>Value.isInt k v
  | .inr x,v=>Value.isStrOf x v
def yY (w:World):bZ→Int
  | .inl k=>hashInt k
  | .inr x=>hashStr w x
theorem bU:∀{k:bZ} {v:Value},km k v=true→(∃i t,k=Sum.inl i∧v=Value.int i t)∨(∃x t,k=Sum.inr x∧v=Value.str x t)
  | .inl i,v,h=>by
    obtain ⟨t,e⟩:=Value.isInt_shape (k:=i) (v:=v) h
    exact .inl ⟨i,t,rfl,e⟩
  | .inr x,v,h=>by
    obtain ⟨t,e⟩:=Value.isStrOf_shape (x:=x) (v:=v) h
    exact .inr ⟨x,t,rfl,e⟩
theorem pA (i:Int) (t:Tok):km (.inl i) (.int i t)=true:=by simp [km,Value.isInt]
theorem pB (x:Str) (t:Tok):km (.inr x) (.str x t)=true:=by simp [km,Value.isStrOf]
theorem vS (a b:Int):decide ((Sum.inl a:bZ)=Sum.inl b)=(a == b):=by
  by_cases e:a=b
  · subst e;simp
  · have h:¬(Sum.inl a:bZ)=Sum.inl b:=fun q=>e (Sum.inl.inj q)
    rw [decide_eq_false h]
    exact (beq_eq_false_iff_ne.mpr e).symm
theorem vT (a b:Str):decide ((Sum.inr a:bZ)=Sum.inr b)=decide (a=b):=by
  by_cases e:a=b
  · subst e;simp
  · have h:¬(Sum.inr a:bZ)=Sum.inr b:=fun q=>e (Sum.inr.inj q)
    rw [decide_eq_false h,decide_eq_false e]
theorem vU (a:Int) (b:Str):decide ((Sum.inl a:bZ)=Sum.inr b)=false:=decide_eq_false (fun q=>nomatch q)
theorem vV (a:Str) (b:Int):decide ((Sum.inr a:bZ)=Sum.inl b)=false:=decide_eq_false (fun q=>nomatch q)
def bV (prog:Program) (w:World):PySem.KeyKind prog w bZ where
  is:=km
  hash:=yY w
  inj:=fun v a b ha hb=>by
    rcases bU ha with ⟨i,t,rfl,rfl⟩ | ⟨x,t,rfl,rfl⟩
    · rcases bU hb with ⟨j,u,rfl,e⟩ | ⟨y,u,rfl,e⟩
      · injection e with e1 _;rw [e1]
      · exact nomatch e
    · rcases bU hb with ⟨j,u,rfl,e⟩ | ⟨y,u,rfl,e⟩
      · exact nomatch e
      · injection e with e1 _;rw [e1]
  byValue:=fun k v h=>by
    rcases bU h with ⟨i,t,rfl,rfl⟩ | ⟨x,t,rfl,rfl⟩ <;> rfl
  pyHash:=fun hv h=>by
    rcases bU hv with ⟨i,t,rfl,rfl⟩ | ⟨x,t,rfl,rfl⟩
    · exact wpAny_pyHash_int h
    · exact wpAny_pyHash_str h
  eqBool:=fun hu hv h=>by
    rcases bU hu with ⟨i,t,rfl,rfl⟩ | ⟨x,t,rfl,rfl⟩
    · rcases bU hv with ⟨j,u,rfl,rfl⟩ | ⟨y,u,rfl,rfl⟩
      · rw [vS] at h;exact wpAny_eqBool_int h
      · rw [vU] at h;exact SeqAt.EqAt.int_str i t y u _ _ _ _ h
    · rcases bU hv with ⟨j,u,rfl,rfl⟩ | ⟨y,u,rfl,rfl⟩
      · rw [vV] at h;exact SeqAt.EqAt.str_int x t j u _ _ _ _ h
      · rw [vT] at h;exact wpAny_eqBool_str h
  «strs»:=fun k x t v h=>by
    rcases bU h with ⟨i,u,rfl,e⟩ | ⟨y,u,rfl,e⟩
    · exact nomatch e
    · injection e with e1 _
      subst e1
      cases v <;> rfl
theorem l0 (prog:Program) (w:World) (i:Int) (t:Tok):(bV prog w).is (.inl i) (.int i t)=true:=pA i t
theorem l_ (prog:Program) (w:World) (x:Str) (t:Tok):(bV prog w).is (.inr x) (.str x t)=true:=pB x t
end L2
namespace L2
open PySem PySem.Spec PyProof.Rows
inductive V where
  | non | bl (b:Bool) | int (i:Int) | str (x:Str) | byt (b:Array UInt8) | flt (b:UInt64) | ref (a:Addr) | ty (n:String)
  deriving DecidableEq
def RelV:V→Value→Prop
  | .non,u=>u=Value.none
  | .bl b,u=>u=Value.bool b
  | .int i,u=>∃t,u=Value.int i t
  | .str x,u=>∃t,u=Value.str x t
  | .byt b,u=>∃t,u=Value.bytes b t
  | .flt b,u=>∃t,u=Value.float b t
  | .ref a,u=>u=Value.ref a
  | .ty n,u=>u=Value.type n
abbrev Vals:List V→List Value→Prop:=Paired RelV
theorem Vals.length {xs:List V} {us:List Value} (r:Vals xs us):xs.length=us.length:=Paired.length r
theorem Vals.get:∀{xs:List V} {us:List Value} {i:Nat} {x:V},Vals xs us→xs[i]? =some x→∃u,us[i]? =some u∧RelV x u
  | _,_,_,_, .nil,e=>by simp at e
  | _,_,0,_, .cons r _,e=>by simp at e;subst e;exact ⟨_,rfl,r⟩
  | _,_,i+1,x, .cons _ t,e=>by
    obtain ⟨u,h1,h2⟩:=Vals.get (i:=i) (x:=x) t (by simpa using e)
    exact ⟨u,by simpa using h1,h2⟩
theorem Vals.set {x:V} {u:Value} (r:RelV x u):∀{xs:List V} {us:List Value} (i:Nat),Vals xs us→Vals (xs.set i x) (us.set i u)
  | _,_,_, .nil=> .nil
  | _,_,0, .cons _ t=> .cons r t
  | _,_,i+1, .cons q t=> .cons q (Vals.set r i t)
theorem Vals.append:∀{xs ys:List V} {us ws:List Value},Vals xs us→Vals ys ws→Vals (xs++ys) (us++ws)
  | _,_,_,_, .nil,s=>s
  | _,_,_,_, .cons r t,s=> .cons r (Vals.append t s)
theorem Vals.take:∀{xs:List V} {us:List Value} (n:Nat),Vals xs us→Vals (xs.take n) (us.take n)
  | _,_,0,_=> .nil
  | _,_,_+1, .nil=> .nil
  | _,_,n+1, .cons r t=> .cons r (Vals.take n t)
theorem Vals.drop:∀{xs:List V} {us:List Value} (n:Nat),Vals xs us→Vals (xs.drop n) (us.drop n)
  | _,_,0,r=>r
  | _,_,_+1, .nil=> .nil
  | _,_,n+1, .cons _ t=>Vals.drop n t
def RelO:Option V→Option Value→Prop
  | some v,some u=>RelV v u
  | none,none=>True
  | _,_=>False
def KV {κ:Type}:List (κ×V)→List (κ×Value)→Prop:=Paired fun (p:κ×V) (q:κ×Value)=>p.1=q.1∧RelV p.2 q.2
def kV:bZ→V
  | .inl i=> .int i
  | .inr x=> .str x
inductive HO where
  /-- a list -/
  | lst (xs:List V)
  /-- a tuple (never changes) -/
  | tup (xs:List V)
  /-- a dict whose keys are ints and texts;one whose keys are tuples of ints and texts (the empty one is both) -/
  | dK (kvs:List (bZ×V)) | dT (kvs:List (List bZ×V))
  /-- a set of ints:its members,its size -/
  | set (S:Int→Bool) (n:Nat)
  /-- an instance of the class at C,its dict at dx,its attributes -/
  | ins (C dx:Addr) (fs:List (Str×V))
  /-- the dict of the instance at x -/
  | own (x:Addr)
  /-- the dict of an exception -/
  | xd (fs:List (Str×V))
  /-- a bound method,f of x -/
  | met (f x:Addr)
  /-- a range object lo,lo+1, .. below hi -/
  | rng (lo hi:Int)
  /-- a thing that is known to the object (the script;a dict while a loop walks it):read,never written while it is so -/
  | frz (o:Obj) (u:HO)
  /-- a code object's table -/
  | tbl (q:Str)
  /-- any other thing,by what is true of its one object (a def of one's own:SetO a S n:=HO.ext fun h=> ..) -/
  | ext (φ:Heap→Prop)
abbrev Hp:=Addr→Option HO
def upd (H:Hp) (a:Addr) (o:HO):Hp:=fun b=>if b=a then some o else H b
theorem upd_same {H:Hp} {a:Addr} {o:HO}:upd H a o a=some o:=by unfold upd;rw [if_pos rfl]
theorem aw {H:Hp} {a b:Addr} {o:HO} (h:b≠a):upd H a o b=H b:=by unfold upd;rw [if_neg h]
theorem vp {H:Hp} {a b:Addr} {o u:HO} (h:H a=some o) (h':H b=some u) (d:o≠u):a≠b:=by
  intro e;subst e;rw [h] at h';exact d (Option.some.inj h')
theorem ba {H:Hp} {a b:Addr} {o:HO} (h:H a=some o) (h':H b=none):a≠b:=by
  intro e;subst e;rw [h] at h';cases h'
section
variable (P:Program) (w:World)
def ObjOk (H:Hp) (h:Heap) (a:Addr):HO→Prop
  | .lst xs=>xs.length≤sizeLine∧∃(its:List Value) (n:Nat),Vals xs its∧h.get? a=some {cls:= .type "list",data:= .seq its.toArray n}
  | .tup xs=>xs.length≤sizeLine∧∃its:List Value,Vals xs its∧IsTup h a its.toArray
  | .dK kvs=>kvs.length≤sizeLine∧(a == sysModules)=false∧∃vs,KV kvs vs∧h.DictOf (bV P w) a vs
  | .dT kvs=>kvs.length≤sizeLine∧(a == sysModules)=false∧∃xs:List (List bZ×Addr×Value),
      Paired (fun (p:List bZ×V) (q:List bZ×Addr×Value)=>p.1=q.1∧H q.2.1=some (.tup (p.1.map kV))∧RelV p.2 q.2.2) kvs xs∧
      ∃o es ep,h.get? a=some o∧o.ExactDict∧o.data= .dict es ep∧es.toList=xs.map (entryOfKey (tupleKind (bV P w)))∧(xs.map (·.1)).Nodup
  | .set S n=>h.SetOf (intKind P w) a S n
  | .ins C dx fs=>H dx=some (.own a)∧fs.length≤1000∧dx≠a∧h.get? a=some (PySem.W.instObj C dx)∧
      ∃mA,h.Ns1 dx mA∧(∀f,RelO (fs.lookup f) (mA f))∧PySem.Within mA (fs.map (·.1))
  | .own _=>∃o,h.get? a=some o
  | .xd fs=>∃mA,h.Ns1 a mA∧∀f,RelO (fs.lookup f) (mA f)
  | .rng lo hi=>∃t u v,h.get? a=some {cls:= .type "range",data:= .fields #[.int lo t, .int hi u, .int 1 v]}
  | .frz o u=>h.get? a=some o∧ObjOk H h a u
  | .tbl q=>∃ps:Array Value,h.get? a=some (PySem.W.tabObj ps)∧TriplesOk ps.toList∧∀pos cv,codeAmong pos ps.toList=some cv→∃c,cv=Value.ref c∧H c=some (.own a)∧h.CodeRec cv q
  | .met f x=>h.get? a=some (PySem.W.methodObj (.ref f) (.ref x))
  | .ext φ=>φ h∧(∃o,h.get? a=some o)∧∀h1 h2:Heap,φ h1→(∀o,h1.get? a=some o→h2.get? a=some o)→φ h2
def HOk (H:Hp) (h:Heap):Prop:=∀a o,H a=some o→ObjOk P w H h a o
end
section
variable {P:Program} {w:World} {H H':Hp} {h h':Heap} {a:Addr} {o:HO}
theorem ObjOk.lt (x:ObjOk P w H h a o):a < h.objs.size:=by
  cases o with
  | lst xs=>obtain ⟨_,_,_,_,e⟩:=x;exact Heap.lt_size e
  | tup xs=>obtain ⟨_,_,_,p⟩:=x;exact p.lt
  | dK kvs=>obtain ⟨_,_,_,_,o,_,_,e,_⟩:=x;exact Heap.lt_size e
  | dT kvs=>obtain ⟨_,_,_,_,o,_,_,e,_⟩:=x;exact Heap.lt_size e
  | set S n=>obtain ⟨o,_,_,_,e,_⟩:=x;exact Heap.lt_size e
  | ins C dx fs=>obtain ⟨_,_,_,e,_⟩:=x;exact Heap.lt_size e
  | own y=>obtain ⟨_,e⟩:=x;exact Heap.lt_size e
  | xd fs=>obtain ⟨_,⟨_,_,_,e,_⟩,_⟩:=x;exact Heap.lt_size e
  | rng lo hi=>obtain ⟨_,_,_,e⟩:=x;exact Heap.lt_size e
  | frz ob u=>obtain ⟨e,_⟩:=x;exact Heap.lt_size e
  | tbl q=>obtain ⟨_,e,_⟩:=x;exact Heap.lt_size e
  | met f y=>exact Heap.lt_size (show h.get? a=some _ from x)
  | ext φ=>obtain ⟨_,⟨_,e⟩,_⟩:=x;exact Heap.lt_size e
theorem Paired.mapP {α β:Type} {F G:α→β→Prop} {l₁:List α} {l₂:List β} (h:Paired F l₁ l₂) (f:∀a b,F a b→G a b):Paired G l₁ l₂:=by
  induction h with
  | nil=>exact .nil
  | cons r _ t=>exact .cons (f _ _ r) t
theorem ObjOk.stay (x:ObjOk P w H h a o) (k:∀b u,(b=a∨H b=some (.own a))→h.get? b=some u→h'.get? b=some u)
    (ho:∀b,H b=some (.own a)→H' b=some (.own a)) (ht:∀b xs,H b=some (.tup xs)→H' b=some (.tup xs)):ObjOk P w H' h' a o:=by
  induction o with
  | lst xs=>obtain ⟨z,its,n,r,e⟩:=x;exact ⟨z,its,n,r,k _ _ (.inl rfl) e⟩
  | tup xs=>obtain ⟨z,its,r,ob,e,c⟩:=x;exact ⟨z,its,r,ob,k _ _ (.inl rfl) e,c⟩
  | dK kvs=>obtain ⟨z,y,vs,r,ob,es,ep,e,c⟩:=x;exact ⟨z,y,vs,r,ob,es,ep,k _ _ (.inl rfl) e,c⟩
  | dT kvs=>
    obtain ⟨z,y,xs,r,ob,es,ep,e,c⟩:=x
    exact ⟨z,y,xs,Paired.mapP r fun p q z=>⟨z.1,ht _ _ z.2.1,z.2.2⟩,ob,es,ep,k _ _ (.inl rfl) e,c⟩
  | set S n=>obtain ⟨ob,es,ep,t,e,c⟩:=x;exact ⟨ob,es,ep,t,k _ _ (.inl rfl) e,c⟩
  | ins C dx fs=>
    obtain ⟨d,z,ne,e,mA,⟨od,es,ep,e2,c⟩,r⟩:=x
    exact ⟨ho _ d,z,ne,k _ _ (.inl rfl) e,mA,⟨od,es,ep,k _ _ (.inr d) e2,c⟩,r⟩
  | own y=>obtain ⟨ob,e⟩:=x;exact ⟨ob,k _ _ (.inl rfl) e⟩
  | xd fs=>obtain ⟨mA,⟨od,es,ep,e,c⟩,r⟩:=x;exact ⟨mA,⟨od,es,ep,k _ _ (.inl rfl) e,c⟩,r⟩
  | rng lo hi=>obtain ⟨t,u,v,e⟩:=x;exact ⟨t,u,v,k _ _ (.inl rfl) e⟩
  | frz ob u ih=>obtain ⟨e,q⟩:=x;exact ⟨k _ _ (.inl rfl) e,ih q⟩
  | tbl q=>
    obtain ⟨ps,e,t,r⟩:=x
    refine ⟨ps,k _ _ (.inl rfl) e,t,fun pos cv z=>?_⟩
    obtain ⟨c,ec,ho',c2,oc,vs,tq,hc,hoc,hd⟩:=r pos cv z
    subst ec
    cases hc
    exact ⟨c,rfl,ho _ ho',c,oc,vs,tq,rfl,k _ _ (.inr ho') hoc,hd⟩
  | met f y=>
    have e:h.get? a=some (PySem.W.methodObj (.ref f) (.ref y)):=x
    show h'.get? a=some (PySem.W.methodObj (.ref f) (.ref y))
    exact k a _ (.inl rfl) e
  | ext φ=>obtain ⟨p,⟨o,e⟩,st⟩:=x;exact ⟨st _ _ p fun o q=>k _ _ (.inl rfl) q,⟨o,k _ _ (.inl rfl) e⟩,st⟩
theorem HOk.lt (x:HOk P w H h) (e:H a=some o):a < h.objs.size:=(x a o e).lt
theorem HOk.fresh (x:HOk P w H h) (e:h.objs.size≤a):H a=none:=by
  cases q:H a with
  | none=>rfl
  | some u=>exact absurd (Nat.lt_of_lt_of_le (x.lt q) e) (Nat.lt_irrefl _)
theorem HOk.kept (x:HOk P w H h) (k:∀b u,h.get? b=some u→h'.get? b=some u):HOk P w H h':=fun a o e=>
  (x a o e).stay (fun b u _ q=>k b u q) (fun _ q=>q) fun _ _ q=>q
theorem HOk.laid (x:HOk P w H h) (k:∀b u,h.get? b=some u→h'.get? b=some u) (hp:h.objs.size≤a) (new:ObjOk P w (upd H a o) h' a o):HOk P w (upd H a o) h':=fun b u e=>by
  have hn:=x.fresh hp
  by_cases hb:b=a
  · subst hb;rw [upd_same] at e;cases e;exact new
  · rw [aw hb] at e
    exact (x b u e).stay (fun c v _ q=>k c v q) (fun c q=>by rw [aw (ba q hn)];exact q) fun c xs q=>by rw [aw (ba q hn)];exact q
end
def Rd (H:Hp) (a:Addr) (u:HO):Prop:=H a=some u∨∃o,H a=some (.frz o u)
theorem Rd.of {H:Hp} {a:Addr} {u:HO} (h:H a=some u):Rd H a u:= .inl h
theorem Rd.ok {P:Program} {w:World} {H:Hp} {h:Heap} {a:Addr} {u:HO} (r:Rd H a u) (x:HOk P w H h):ObjOk P w H h a u:=by
  rcases r with r | ⟨o,r⟩
  · exact x a u r
  · obtain ⟨_,q⟩:=x a _ r
    exact q
def xH:Option HO→Prop
  | some (.lst _)=>True
  | some (.dK _)=>True
  | some (.dT _)=>True
  | some (.set _ _)=>True
  | some (.ins _ _ _)=>True
  | some (.ext _)=>True
  | _=>False
section
variable {P:Program} {w:World} {H:Hp} {h h':Heap} {x e:Addr} {o':HO}
theorem HOk.write (ok:HOk P w H h) (mu:xH (H x)) (he:e=x∨H e=some (.own x)) (k:∀b u,b≠e→h.get? b=some u→h'.get? b=some u) (heo:∃u,h'.get? e=some u)
    (new:ObjOk P w (upd H x o') h' x o'):HOk P w (upd H x o') h':=fun b u q=>by
  have nown:∀c y,H c=some (.own y)→c≠x:=fun c y r z=>by subst z;rw [r] at mu;exact mu
  have ntup:∀c xs,H c=some (.tup xs)→c≠x:=fun c xs r z=>by subst z;rw [r] at mu;exact mu
  by_cases hb:b=x
  · subst hb;rw [upd_same] at q;cases q;exact new
  · rw [aw hb] at q
    by_cases hbe:b=e
    · have q':H b=some (.own x):=by
        rcases he with z | z
        · exact absurd (hbe.trans z) hb
        · rw [hbe];exact z
      rw [q] at q';cases q'
      obtain ⟨v,hv⟩:=heo
      exact ⟨v,by rw [hbe];exact hv⟩
    · refine (ok b u q).stay (fun c v hc r=>k c v ?_ r) (fun c r=>by rw [aw (nown c b r)];exact r) fun c xs r=>by rw [aw (ntup c xs r)];exact r
      rcases hc with rfl | hc
      · exact hbe
      · rintro rfl
        rcases he with z | z
        · exact nown c b hc z
        · rw [hc] at z;cases z;exact hb rfl
end
structure Un (fs ex:List Addr) (H H':Hp) (h h':Heap):Prop where
  keep:∀b o,h.get? b=some o→H b=none→b∉fs→b∉ex→h'.get? b=some o
  slot:∀b o,h.get? b=some o→H b=none→b∈fs→b∉ex→∃sl,h'.get? b=some {o with slots:=sl}
  free:∀b o,h.get? b=some o→H b=none→b∉ex→H' b=none
  there:∀b o,h.get? b=some o→b∉ex→∃o',h'.get? b=some o'
  tups:∀b xs,H b=some (.tup xs)→H' b=some (.tup xs)
  frzs:∀b o u,H b=some (.frz o u)→H' b=some (.frz o u)
  tbls:∀b ps,H b=some (.tbl ps)→H' b=some (.tbl ps)
section
variable {fs fs' ex ex':List Addr} {H H1 H2:Hp} {h h1 h2 h':Heap} {a x e:Addr} {o:HO}
theorem Un.any (u:Un fs ex H H1 h h1) {b:Addr} {ob:Obj} (q:h.get? b=some ob) (n:H b=none) (hx:b∉ex):∃sl,h1.get? b=some {ob with slots:=sl}:=by
  by_cases hb:b∈fs
  · exact u.slot b ob q n hb hx
  · exact ⟨ob.slots,u.keep b ob q n hb hx⟩
theorem Un.trans (a:Un fs ex H H1 h h1) (b:Un fs ex H1 H2 h1 h2):Un fs ex H H2 h h2 where
  keep:=fun c ob q n hc hx=>b.keep c ob (a.keep c ob q n hc hx) (a.free c ob q n hx) hc hx
  slot:=fun c ob q n hc hx=>by
    obtain ⟨sl,e1⟩:=a.slot c ob q n hc hx
    obtain ⟨sl',e2⟩:=b.slot c _ e1 (a.free c ob q n hx) hc hx
    exact ⟨sl',e2⟩
  free:=fun c ob q n hx=>by
    obtain ⟨o',e1⟩:=a.there c ob q hx
    exact b.free c o' e1 (a.free c ob q n hx) hx
  there:=fun c ob q hx=>by
    obtain ⟨o',e1⟩:=a.there c ob q hx
    exact b.there c o' e1 hx
  tups:=fun c xs q=>b.tups c xs (a.tups c xs q)
  frzs:=fun c ob xs q=>b.frzs c ob xs (a.frzs c ob xs q)
  tbls:=fun c ps q=>b.tbls c ps (a.tbls c ps q)
theorem Un.kept (k:∀b u,h.get? b=some u→h'.get? b=some u):Un fs ex H H h h':=
  ⟨fun b ob q _ _ _=>k b ob q,fun b ob q _ _ _=>⟨ob.slots,k b ob q⟩,fun _ _ _ n _=>n,fun b ob q _=>⟨ob,k b ob q⟩,fun _ _ q=>q,fun _ _ _ q=>q,fun _ _ q=>q⟩
theorem Un.refl:Un fs ex H H h h:=Un.kept fun _ _ q=>q
theorem Un.laid (k:∀b u,h.get? b=some u→h'.get? b=some u) (hp:h.objs.size≤a) (hn:H a=none):Un fs ex H (upd H a o) h h' where
  keep:=fun b u q _ _ _=>k b u q
  slot:=fun b u q _ _ _=>⟨u.slots,k b u q⟩
  free:=fun b u q n _=>by rw [aw (Nat.ne_of_lt (Nat.lt_of_lt_of_le (Heap.lt_size q) hp))];exact n
  there:=fun b u q _=>⟨u,k b u q⟩
  tups:=fun b xs q=>by rw [aw (ba q hn)];exact q
  frzs:=fun b u xs q=>by rw [aw (ba q hn)];exact q
  tbls:=fun b ps q=>by rw [aw (ba q hn)];exact q
theorem Un.write (mu:xH (H x)) (he:e=x∨H e=some (.own x)) (k:∀b u,b≠e→h.get? b=some u→h'.get? b=some u) (heo:∃u,h'.get? e=some u):Un fs ex H (upd H x o) h h':=by
  have hx:∀b,H b=none→b≠x:=fun b n z=>by subst z;rw [n] at mu;exact mu
  have hb:∀b,H b=none→b≠e:=fun b n z=>by
    subst z
    rcases he with r | r
    · exact hx b n r
    · rw [n] at r;cases r
  have hm:∀b u,H b=some u→¬xH (some u)→b≠x:=fun b u q nm z=>by subst z;rw [q] at mu;exact nm mu
  refine ⟨fun b u q n _ _=>k b u (hb b n) q,fun b u q n _ _=>⟨u.slots,k b u (hb b n) q⟩,fun b u q n _=>by rw [aw (hx b n)];exact n,fun b u q _=>?_,
    fun b xs q=>by rw [aw (hm b _ q fun z=>z)];exact q,fun b u xs q=>by rw [aw (hm b _ q fun z=>z)];exact q,fun b ps q=>by rw [aw (hm b _ q fun z=>z)];exact q⟩
  by_cases hbe:b=e
  · subst hbe;exact heo
  · exact ⟨u,k b u hbe q⟩
theorem Un.mono (u:Un fs ex H H1 h h1) (hs:∀b∈fs,b∈fs') (hx:∀b∈ex,b∈ex'):Un fs' ex' H H1 h h1:=
  ⟨fun b ob q n hb he=>u.keep b ob q n (fun z=>hb (hs b z)) fun z=>he (hx b z),fun _ _ q n _ he=>u.any q n fun z=>he (hx _ z),fun b ob q n he=>u.free b ob q n fun z=>he (hx b z),fun b ob q he=>u.there b ob q fun z=>he (hx b z),u.tups,u.frzs,u.tbls⟩
end
def yR (h:Heap) (H:Hp):List Addr:=(List.range h.objs.size).filter fun a=>(H a).isSome
def ma (h:Heap) (H:Hp):Heap:=PySem.W.hideAll h (yR h H)
theorem pD (h:Heap) (H:Hp):(ma h H).objs.size=h.objs.size:=PySem.W.hideAll_size _ _
theorem jq {h:Heap} {H:Hp} {b:Addr} {o:Obj} (e:h.get? b=some o) (n:H b=none):(ma h H).get? b=some o:=
  PySem.W.hideAll_get _ e fun hm=>by
    have q:(H b).isSome=true:=(List.mem_filter.mp hm).2
    rw [n] at q;simp at q
theorem tN {h:Heap} {H:Hp} {b:Addr} {o:Obj} (e:(ma h H).get? b=some o):h.get? b=some o∧H b=none:=by
  have e':h.get? b=some o:=PySem.W.of_hideAll (yR h H) e
  refine ⟨e',?_⟩
  cases q:H b with
  | none=>rfl
  | some x=>
    have hm:b∈yR h H:=List.mem_filter.mpr ⟨List.mem_range.mpr (Heap.lt_size e'),by simp [q]⟩
    have z:(ma h H).get? b=none:=PySem.W.hideAll_none (yR h H) hm
    rw [z] at e;cases e
def tO (g h:Heap) (L:Addr):List (Addr×Obj):=(List.range h.objs.size).filterMap fun a=>if a=L∨(g.get? a).isSome=true then none else (h.get? a).map fun o=>(a,o)
def ce (g h:Heap) (L d:Addr):List (Addr×Obj):=(tO g h L).filter fun p=>decide (p.1≠d)
end L2
namespace L2
open PySem PySem.Spec PyProof.Rows
def kn (K:PySem.W.Frag) (n:Str):Option Addr:=match PySem.W.nsIn K mainGlobals n with
  | some (some (.ref f))=>match K.lookup f with
    | some ⟨_,_, .func fd,_⟩=>match fd.code with
      | .ref c=>match K.lookup c with
        | some ⟨_,_, .fields vs,_⟩=>match (vs[11]? :Option Value) with
          | some (.ref P)=>some P
          | _=>none
        | _=>none
      | _=>none
    | _=>none
  | _=>none
def ko:List (Str×Str):=[("in_told_order","in_told_order.<locals>.<lambda>"),("_law_moves_refused","_law_moves_refused.<locals>.<lambda>"),("_law_long_refused","_law_long_refused.<locals>.<lambda>"),("_law_sets_refused","_law_sets_refused.<locals>.<lambda>"),("_law_cords_refused","_law_cords_refused.<locals>.<lambda>"),("_law_many_refused","_law_many_refused.<locals>.<lambda>"),("_law_two_refused","_law_two_refused.<locals>.<lambda>"),("_law_at_least_refused","_law_at_least_refused.<locals>.<lambda>")]
def tP (K:PySem.W.Frag) (b:Addr):List (Str×Str)→Option Str
  | []=>none
  | n::r=>if kn K n.1=some b then some n.2 else tP K b r
def g4 (K:PySem.W.Frag) (b:Addr):Option Str:=tP K b ko
structure Mod (K:PySem.W.Frag) (mg:Str→Option Value) (base:Heap):Prop where
  kin:K.In base
  glob:base.Ns mainGlobals mg
  blt:∃mb,base.Ns builtinsNs mb∧∀x:Str,x≠"__name__"→mb x=bootBuiltins x
  nolimit:base.NoLimit
  bmain:∃bm ob,mg "__builtins__"=some (.ref bm)∧bm≠builtinsNs∧base.get? bm=some ob∧ob.cls= .type "module"∧ob.dict=some builtinsNs∧ob.data= .plain
structure Cx where
  prog:Program
  w:World
  K:PySem.W.Frag
  mg:Str→Option Value
  base:Heap
  A:Around
  N:List Str
  s₀:Shared
  H₀:Hp
  env:Env
  outer:List Env
  stack:List Env
  ex:List Addr
  fn:Str→Bool
  calm:Bool
  pn:List (Addr×Obj)
  xe:Value→Shared→Prop
def gU (l:List Env):List Addr:=l.filterMap (·.frame)
abbrev Cx.fs (X:Cx):List Addr:=gU X.outer
def vW (sc:Scope) (x:Str):Prop:=sc.names.lookup x=some .local∨sc.names.lookup x=some .cell∨sc.names.lookup x=some .free
def vX (sc:Scope) (x:Str):Prop:=sc.names.lookup x=some .local∨sc.names.lookup x=some .cell
def yZ (env:Env) (h:Heap) (m:Str→Option Value) (x:Str) (u:Value):Prop:=
  (env.kindOf x=some .local∧m x=some u)∨((env.kindOf x=some .cell∨env.kindOf x=some .free)∧∃c,env.cells.lookup x=some c∧h.IsCell c (some u))
structure Cx.Ok (X:Cx):Prop where
  mod:Mod X.K X.mg X.base
  kind:X.env.scope.kind= .function
  glob:X.env.globals=mainGlobals
  blt:X.env.builtins=builtinsNs
  above:X.s₀.heap.objs.size≤X.env.locals
  inj:∀x y c,X.env.cells.lookup x=some c→X.env.cells.lookup y=some c→x=y
  has:∀x,(X.env.kindOf x=some .cell∨X.env.kindOf x=some .free)→∃c,X.env.cells.lookup x=some c
  cab:∀x c,X.fn x=true→X.env.cells.lookup x=some c→X.s₀.heap.objs.size≤c
  hd:X.calm=true→X.A.handled=none
  frames:X.A.frames=some X.stack
  stk:X.stack=X.outer∨(X.stack=X.env::X.outer∧X.env.frame=some X.env.locals)
  exf:∀b∈X.ex,b≠X.env.locals∧∀x c,X.env.cells.lookup x=some c→c≠b
  bs:∀b o,X.base.get? b=some o→X.s₀.heap.get? b=some o∧X.H₀ b=none
  bsz:X.base.objs.size≤X.s₀.heap.objs.size
  noex:∀b o,X.base.get? b=some o→b∉X.ex
  exfs:∀b∈X.ex,b∉X.fs
  funs:X.s₀.heap.FunFrames X.base X.outer
  frf:∀b∈X.fs,X.H₀ b=none
  tab:∀b q,g4 X.K b=some q→X.H₀ b=some (.tbl q)
structure Inv (X:Cx) (pins:List (Addr×Obj)) (σ:List (Option V)) (H:Hp) (s:Shared):Prop where
  ok:X.Ok
  os:s.os=X.s₀.os
  bare:AllBare s.gens
  base:Un X.fs X.ex X.H₀ H X.s₀.heap s.heap
  loc:∃m,s.heap.Ns X.env.locals m∧∀(i:Nat) (x:Str) (v:V),X.N[i]? =some x→σ[i]? =some (some v)→vW X.env.scope x→∃u,RelV v u∧yZ X.env s.heap m x u
  cell:∀x c,X.env.cells.lookup x=some c→∃v,s.heap.IsCell c v
  free:H X.env.locals=none
  freeC:∀x c,X.env.cells.lookup x=some c→H c=none
  pin:∀p∈X.pn++pins,s.heap.get? p.1=some p.2∧H p.1=none∧p.1≠X.env.locals∧p.1∉X.fs∧∀v,p.2.data≠ .cell v
  hok:HOk X.prog X.w H s.heap
  len:σ.length=X.N.length
section
variable {X:Cx} {pins:List (Addr×Obj)} {σ:List (Option V)} {H H':Hp} {s:Shared} {h':Heap}
theorem Cx.Ok.nofr (ok:X.Ok) {b:Addr} {o:Obj} (e:X.base.get? b=some o):b∉X.fs:=fun hb=>by
  have:=(ok.funs.mem hb).1
  rw [e] at this;cases this
theorem Inv.bs (I:Inv X pins σ H s):∀b o,X.base.get? b=some o→s.heap.get? b=some o∧H b=none:=fun b o e=>
  ⟨I.base.keep b o (I.ok.bs b o e).1 (I.ok.bs b o e).2 (I.ok.nofr e) (I.ok.noex b o e),I.base.free b o (I.ok.bs b o e).1 (I.ok.bs b o e).2 (I.ok.noex b o e)⟩
theorem Inv.bk (I:Inv X pins σ H s):∀b o,X.base.get? b=some o→s.heap.get? b=some o:=fun b o e=>(I.bs b o e).1
theorem Inv.mod (I:Inv X pins σ H s):Mod X.K X.mg X.base:=I.ok.mod
theorem Inv.tab (I:Inv X pins σ H s):∀b q,g4 X.K b=some q→H b=some (.tbl q):=fun b q e=>I.base.tbls b q (I.ok.tab b q e)
theorem Inv.kIn (I:Inv X pins σ H s):X.K.In s.heap:=I.ok.mod.kin.keeps I.bk
theorem Inv.nolimit (I:Inv X pins σ H s):s.heap.NoLimit:=I.ok.mod.nolimit.keeps I.bk
theorem Inv.fr (I:Inv X pins σ H s):∃m,Fr X.base X.env.locals s.heap m:=
  let ⟨m,hn,_⟩:=I.loc
  ⟨m,hn,I.bk,Nat.le_trans I.ok.bsz I.ok.above⟩
theorem Inv.lt (I:Inv X pins σ H s):X.env.locals < s.heap.objs.size:=let ⟨_,hn,_⟩:=I.loc;hn.lt
theorem Inv.sz (I:Inv X pins σ H s):X.s₀.heap.objs.size≤s.heap.objs.size:=Nat.le_trans I.ok.above (Nat.le_of_lt I.lt)
theorem Inv.nofs (I:Inv X pins σ H s) {a:Addr} (h:s.heap.objs.size≤a):a∉X.fs:=fun hb=>by
  obtain ⟨_,o,ho,_⟩:=I.ok.funs.mem hb
  exact absurd (Nat.lt_of_lt_of_le (Heap.lt_size ho) (Nat.le_trans I.sz h)) (Nat.lt_irrefl _)
theorem Inv.cne (I:Inv X pins σ H s):∀x c,X.env.cells.lookup x=some c→c≠X.env.locals:=fun x c e z=>by
  obtain ⟨v,o,ho,hd⟩:=I.cell x c e
  obtain ⟨m,⟨o',es,ep,ho',hd',_⟩,_⟩:=I.loc
  rw [z,ho'] at ho;cases ho;rw [hd'] at hd;cases hd
theorem Inv.funs (I:Inv X pins σ H s):s.heap.FunFrames X.base X.outer:=by
  have all:∀(l:List Env),(∀b∈gU l,b∈X.fs)→X.s₀.heap.FunFrames X.base l→s.heap.FunFrames X.base l:=by
    intro l
    induction l with
    | nil=>intro _ _;trivial
    | cons env r ih=>
      intro hs hl
      obtain ⟨hk,⟨L,o,hf,hn,ho,hd⟩,hr⟩:=hl
      have hL:L∈X.fs:=hs L (by unfold gU;rw [List.filterMap_cons,hf];exact List.mem_cons_self)
      obtain ⟨sl,e⟩:=I.base.slot L o ho (I.ok.frf L hL) hL fun z=>I.ok.exfs L z hL
      exact ⟨hk,⟨L,_,hf,hn,e,hd⟩,ih (fun b hb=>hs b (by unfold gU;rw [List.filterMap_cons,hf];exact List.mem_cons_of_mem _ hb)) hr⟩
  exact all X.outer (fun _ hb=>hb) I.ok.funs
theorem Inv.stack (I:Inv X pins σ H s):s.heap.FunFrames X.base X.stack:=by
  rcases I.ok.stk with e | ⟨e,hf⟩
  · rw [e];exact I.funs
  · rw [e]
    obtain ⟨m,hn,_⟩:=I.loc
    refine .cons (by rw [I.ok.kind];decide) hf hn ?_ I.funs
    exact Heap.get?_none_of_le (Nat.le_trans I.ok.bsz I.ok.above)
theorem Inv.stkSub (I:Inv X pins σ H s):∀b∈gU X.stack,b∈X.env.locals::X.fs:=fun b hb=>by
  rcases I.ok.stk with e | ⟨e,hf⟩
  · rw [e] at hb;exact List.mem_cons_of_mem _ hb
  · rw [e] at hb
    unfold gU at hb
    rw [List.filterMap_cons,hf] at hb
    exact hb
theorem Inv.stkFree (I:Inv X pins σ H s):∀b∈gU X.stack,H b=none:=fun b hb=>by
  rcases List.mem_cons.mp (I.stkSub b hb) with e | hb
  · rw [e];exact I.free
  · obtain ⟨_,o,ho,_⟩:=I.ok.funs.mem hb
    exact I.base.free b o ho (I.ok.frf b hb) fun z=>I.ok.exfs b z hb
theorem Inv.step {g':Array GenState} {t':Nat} {d':Drawn} {ch:List Addr} (I:Inv X pins σ H s)
    (hch:∀b∈ch,(b∈X.ex∨X.s₀.heap.objs.size≤b)∧b≠X.env.locals∧(∀x c,X.env.cells.lookup x=some c→c≠b)∧∀p∈X.pn++pins,p.1≠b)
    (keep:∀b o,b≠X.env.locals→b∉X.fs→b∉ch→s.heap.get? b=some o→H b=none→h'.get? b=some o)
    (slot:∀b o,b≠X.env.locals→b∈X.fs→b∉ch→s.heap.get? b=some o→H b=none→∃sl,h'.get? b=some {o with slots:=sl}) (free:∀b o,b∉ch→s.heap.get? b=some o→H b=none→H' b=none)
    (there:∀b o,b∉ch→s.heap.get? b=some o→∃o',h'.get? b=some o')
    (tups:∀b xs,H b=some (.tup xs)→H' b=some (.tup xs)) (frzs:∀b o u,H b=some (.frz o u)→H' b=some (.frz o u)) (tbls:∀b ps,H b=some (.tbl ps)→H' b=some (.tbl ps))
    (ns:∀m,s.heap.Ns X.env.locals m→h'.Ns X.env.locals m) (hok:HOk X.prog X.w H' h') (hg:AllBare g'):
    Inv X pins σ H' {s with heap:=h',gens:=g',drawn:=d',toks:=t'}:=by
  have neL:∀b o,X.s₀.heap.get? b=some o→b≠X.env.locals:=fun b o e=>Nat.ne_of_lt (Nat.lt_of_lt_of_le (Heap.lt_size e) I.ok.above)
  have neC:∀b o,X.s₀.heap.get? b=some o→b∉X.ex→b∉ch:=fun b o e hx hb=>by
    rcases (hch b hb).1 with z | z
    · exact hx z
    · exact absurd (Nat.lt_of_lt_of_le (Heap.lt_size e) z) (Nat.lt_irrefl _)
  have cellK:∀x c,X.env.cells.lookup x=some c→∀v,s.heap.IsCell c v→h'.IsCell c v:=fun x c e v ⟨o,ho,hd⟩=>by
    have nch:c∉ch:=fun z=>(hch c z).2.2.1 x c e rfl
    by_cases hc:c∈X.fs
    · obtain ⟨sl,q⟩:=slot c o (I.cne x c e) hc nch ho (I.freeC x c e)
      exact ⟨_,q,hd⟩
    · exact ⟨o,keep c o (I.cne x c e) hc nch ho (I.freeC x c e),hd⟩
  refine ⟨I.ok,I.os,hg,⟨fun b o e n hb hx=>?_,fun b o e n hb hx=>?_,fun b o e n hx=>?_,fun b o e hx=>?_,fun b xs e=>tups b xs (I.base.tups b xs e),fun b o xs e=>frzs b o xs (I.base.frzs b o xs e),fun b ps e=>?_⟩,?_,fun x c e=>?_,?_,fun x c e=>?_,fun p hp=>?_,hok,I.len⟩
  · exact keep b o (neL b o e) hb (neC b o e hx) (I.base.keep b o e n hb hx) (I.base.free b o e n hx)
  · obtain ⟨sl,e1⟩:=I.base.slot b o e n hb hx
    obtain ⟨sl',e2⟩:=slot b _ (neL b o e) hb (neC b o e hx) e1 (I.base.free b o e n hx)
    exact ⟨sl',e2⟩
  · obtain ⟨o',e1⟩:=I.base.there b o e hx
    exact free b o' (neC b o e hx) e1 (I.base.free b o e n hx)
  · obtain ⟨o',e1⟩:=I.base.there b o e hx
    exact there b o' (neC b o e hx) e1
  · exact tbls b _ (I.base.tbls b ps e)
  · obtain ⟨m,hn,hl⟩:=I.loc
    refine ⟨m,ns m hn,fun i x v e1 e2 e3=>?_⟩
    obtain ⟨u,r,l⟩:=hl i x v e1 e2 e3
    refine ⟨u,r,?_⟩
    rcases l with l | ⟨k,c,e,z⟩
    · exact .inl l
    · exact .inr ⟨k,c,e,cellK x c e _ z⟩
  · obtain ⟨v,z⟩:=I.cell x c e
    exact ⟨v,cellK x c e v z⟩
  · obtain ⟨m,⟨o,_,_,ho,_⟩,_⟩:=I.loc
    exact free _ o (fun z=>(hch _ z).2.1 rfl) ho I.free
  · obtain ⟨v,o,ho,hd⟩:=I.cell x c e
    exact free c o (fun z=>(hch c z).2.2.1 x c e rfl) ho (I.freeC x c e)
  · obtain ⟨e,n,ne,nf,d⟩:=I.pin p hp
    have nch:p.1∉ch:=fun z=>(hch p.1 z).2.2.2 p hp rfl
    exact ⟨keep p.1 p.2 ne nf nch e n,free p.1 p.2 nch e n,ne,nf,d⟩
theorem Inv.un {t':Nat} (I:Inv X pins σ H s) (u:Un X.fs [] H H' s.heap h') (hok:HOk X.prog X.w H' h'):Inv X pins σ H' {s with heap:=h',toks:=t'}:=by
  obtain ⟨m,⟨o,es,ep,ho,r⟩,_⟩:=id I.loc
  obtain ⟨sl,hL⟩:=u.any ho I.free (by simp)
  exact I.step (g':=s.gens) (d':=s.drawn) (ch:=[]) (fun _ z=>nomatch z) (fun b o _ hb _ e n=>u.keep b o e n hb (by simp)) (fun b o _ hb _ e n=>u.slot b o e n hb (by simp)) (fun b o _ e n=>u.free b o e n (by simp)) (fun b o _ e=>u.there b o e (by simp)) u.tups u.frzs u.tbls (fun m' hm=>by
    obtain ⟨o',es',ep',ho',r'⟩:=hm
    rw [ho] at ho';cases ho'
    exact ⟨_,es',ep',hL,r'⟩) hok I.bare
theorem Inv.call {g':Array GenState} {t':Nat} {d':Drawn} {ch:List Addr} (I:Inv X pins σ H s) (u:Un (gU X.stack) ch H H' s.heap h') (hok:HOk X.prog X.w H' h') (hg:AllBare g')
    (hch:∀b∈ch,(b∈X.ex∨X.s₀.heap.objs.size≤b)∧b≠X.env.locals∧(∀x c,X.env.cells.lookup x=some c→c≠b)∧∀p∈X.pn++pins,p.1≠b):
    Inv X pins σ H' {s with heap:=h',gens:=g',drawn:=d',toks:=t'}:=by
  obtain ⟨m,⟨o,es,ep,ho,r⟩,_⟩:=id I.loc
  obtain ⟨sl,hL⟩:=u.any ho I.free fun z=>(hch _ z).2.1 rfl
  exact I.step (ch:=ch) hch (fun b o hL hb hc e n=>u.keep b o e n (fun z=>(List.mem_cons.mp (I.stkSub b z)).elim hL hb) hc) (fun b o _ _ hc e n=>u.any e n hc) (fun b o hc e n=>u.free b o e n hc) (fun b o hc e=>u.there b o e hc) u.tups u.frzs u.tbls (fun m' hm=>by
    obtain ⟨o',es',ep',ho',r'⟩:=hm
    rw [ho] at ho';cases ho'
    exact ⟨_,es',ep',hL,r'⟩) hok hg
theorem Inv.turned {t':Nat} {it:Addr} (I:Inv X pins σ H s) (k:∀b o,b≠it→s.heap.get? b=some o→h'.get? b=some o) (hn:H it=none) (hL:it≠X.env.locals)
    (h1:it∈X.ex∨X.s₀.heap.objs.size≤it) (h2:∀x c,X.env.cells.lookup x=some c→c≠it) (h3:∀p∈X.pn++pins,p.1≠it):Inv X pins σ H {s with heap:=h',toks:=t'}:=by
  have nit:∀b u,H b=some u→b≠it:=fun b u e z=>by rw [z,hn] at e;cases e
  refine I.step (g':=s.gens) (d':=s.drawn) (ch:=[it]) (fun b hb=>?_) (fun b o _ _ hc e _=>k b o (fun z=>hc (by simp [z])) e) (fun b o _ _ hc e _=>⟨o.slots,k b o (fun z=>hc (by simp [z])) e⟩) (fun _ _ _ _ n=>n)
    (fun b o hc e=>⟨o,k b o (fun z=>hc (by simp [z])) e⟩) (fun _ _ e=>e) (fun _ _ _ e=>e) (fun _ _ e=>e) (fun m hm=>?_) (fun b u e=>?_) I.bare
  · have e:b=it:=by simpa using hb
    subst e
    exact ⟨h1,hL,h2,h3⟩
  · obtain ⟨o,es,ep,ho,r⟩:=hm
    exact ⟨o,es,ep,k _ o (Ne.symm hL) ho,r⟩
  · refine (I.hok b u e).stay (fun c v hc q=>k c v ?_ q) (fun _ q=>q) fun _ _ q=>q
    rcases hc with z | z
    · rw [z];exact nit b u e
    · exact nit c _ z
theorem Inv.tok (I:Inv X pins σ H s) (t:Nat):Inv X pins σ H {s with toks:=t}:=I.un (h':=s.heap) (t':=t) Un.refl I.hok
theorem Inv.kept {t':Nat} (I:Inv X pins σ H s) (k:∀b u,s.heap.get? b=some u→h'.get? b=some u):Inv X pins σ H {s with heap:=h',toks:=t'}:=I.un (Un.kept k) (I.hok.kept k)
theorem Inv.laid {a:Addr} {o:HO} {t':Nat} (I:Inv X pins σ H s) (k:∀b u,s.heap.get? b=some u→h'.get? b=some u) (hp:s.heap.objs.size≤a) (new:ObjOk X.prog X.w (upd H a o) h' a o):
    Inv X pins σ (upd H a o) {s with heap:=h',toks:=t'}:=I.un (Un.laid k hp (I.hok.fresh hp)) (I.hok.laid k hp new)
theorem Inv.write {x e:Addr} {o:HO} {t':Nat} (I:Inv X pins σ H s) (mu:xH (H x)) (he:e=x∨H e=some (.own x)) (k:∀b u,b≠e→s.heap.get? b=some u→h'.get? b=some u) (heo:∃u,h'.get? e=some u)
    (new:ObjOk X.prog X.w (upd H x o) h' x o):Inv X pins σ (upd H x o) {s with heap:=h',toks:=t'}:=I.un (Un.write mu he k heo) (I.hok.write mu he k heo new)
theorem Inv.pins_of {pins':List (Addr×Obj)} (I:Inv X pins σ H s) (h:∀p∈pins',s.heap.get? p.1=some p.2∧H p.1=none∧p.1≠X.env.locals∧p.1∉X.fs∧∀v,p.2.data≠ .cell v):Inv X pins' σ H s:=
  ⟨I.ok,I.os,I.bare,I.base,I.loc,I.cell,I.free,I.freeC,fun p hp=>(List.mem_append.mp hp).elim (fun z=>I.pin p (List.mem_append_left _ z)) (h p),I.hok,I.len⟩
theorem jr {N:List Str} (hN:N.Nodup) {i j:Nat} {x:Str} (a:N[i]? =some x) (b:N[j]? =some x):i=j:=by
  obtain ⟨h1,e1⟩:=List.getElem?_eq_some_iff.mp a
  obtain ⟨h2,e2⟩:=List.getElem?_eq_some_iff.mp b
  exact (List.getElem_inj hN).mp (e1.trans e2.symm)
theorem pE {M:Model} {A:Around} {E:Value→Shared→Prop} {i:Nat} {x:Str} {v:V} {u:Value} {Q:Unit→Shared→Prop} (I:Inv X pins σ H s) (hN:X.N.Nodup) (hi:X.N[i]? =some x) (hx:vX X.env.scope x) (r:RelV v u)
    (h:∀s',Inv X pins (σ.set i (some v)) H s'→(∃a,Heap.SameBut a s.heap s'.heap∧(a=X.env.locals∨X.env.cells.lookup x=some a))→Q () s') (hf:X.fn x=true∨X.env.scope.names.lookup x=some .local:=by first | exact .inl rfl | exact .inr rfl | assumption):wpAny M A (storeName X.env x u) Q E s:=by
  obtain ⟨m,hn,hl⟩:=id I.loc
  have hcls:(X.env.scope.kind == .class||(X.env.scope.kind == .module&&X.env.locals != X.env.globals))=false:=by rw [I.ok.kind];rfl
  have hiσ:i < σ.length:=by rw [I.len];exact (List.getElem?_eq_some_iff.mp hi).1
  have cne:=I.cne
  have tracked:∀{a:Addr} {h':Heap},(∃o,s.heap.get? a=some o∧H a=none)→Heap.SameBut a s.heap h'→HOk X.prog X.w H h':=fun {a h'} ha hs b ob e=>by
    obtain ⟨_,_,hfree⟩:=ha
    refine (I.hok b ob e).stay (fun c w' hc q=>(hs.2 c ?_).trans q) (fun _ q=>q) fun _ _ q=>q
    rintro rfl
    rcases hc with rfl | hc
    · rw [hfree] at e;cases e
    · rw [hfree] at hc;cases hc
  rcases hx with hk | hk
  · refine wpAny_storeName_local hk hn (fun h' hn' hs=>?_) hcls
    obtain ⟨oL,_,_,hoL,_⟩:=id hn
    refine h _ ⟨I.ok,I.os,I.bare,⟨fun b o e n hb hx=>?_,fun b o e n hb hx=>?_,I.base.free,fun b o e hx=>?_,I.base.tups,I.base.frzs,I.base.tbls⟩,⟨_,hn',fun j y v' e1 e2 e3=>?_⟩,fun y c e=>?_,I.free,I.freeC,fun p hp=>?_,tracked ⟨oL,hoL,I.free⟩ hs,by simpa using I.len⟩ ⟨_,hs, .inl rfl⟩
    · exact (hs.2 b (Nat.ne_of_lt (Nat.lt_of_lt_of_le (Heap.lt_size e) I.ok.above))).trans (I.base.keep b o e n hb hx)
    · obtain ⟨sl,e1⟩:=I.base.slot b o e n hb hx
      exact ⟨sl,(hs.2 b (Nat.ne_of_lt (Nat.lt_of_lt_of_le (Heap.lt_size e) I.ok.above))).trans e1⟩
    · obtain ⟨o',e1⟩:=I.base.there b o e hx
      exact ⟨o',(hs.2 b (Nat.ne_of_lt (Nat.lt_of_lt_of_le (Heap.lt_size e) I.ok.above))).trans e1⟩
    · by_cases hj:j=i
      · subst hj
        rw [hi] at e1;cases e1
        rw [List.getElem?_set_self hiσ] at e2
        cases e2
        exact ⟨u,r, .inl ⟨hk,by simp⟩⟩
      · rw [List.getElem?_set_ne (Ne.symm hj)] at e2
        obtain ⟨u',r',q⟩:=hl j y v' e1 e2 e3
        refine ⟨u',r',?_⟩
        rcases q with ⟨k,e⟩ | ⟨k,c,e,z⟩
        · refine .inl ⟨k,?_⟩
          have:y≠x:=fun e=>hj (jr hN e1 (e▸hi))
          simp [this,e]
        · exact .inr ⟨k,c,e,z.sameBut hs (cne y c e)⟩
    · obtain ⟨w',z⟩:=I.cell y c e
      exact ⟨w',z.sameBut hs (cne y c e)⟩
    · obtain ⟨e,n,ne,nf,d⟩:=I.pin p hp
      exact ⟨(hs.2 p.1 ne).trans e,n,ne,nf,d⟩
  · have hfn:X.fn x=true:=by
      rcases hf with z | z
      · exact z
      · rw [z] at hk;cases hk
    obtain ⟨c,hc⟩:=I.ok.has x (.inl hk)
    obtain ⟨w',z⟩:=I.cell x c hc
    refine wpAny_storeName_cell I.ok.kind hk hc z (fun h' hc' hs=>?_)
    obtain ⟨oc,hoc,hocd⟩:=id z
    refine h {s with heap:=h'} ⟨I.ok,I.os,I.bare,⟨fun b o e n hb hx=>?_,fun b o e n hb hx=>?_,I.base.free,fun b o e hx=>?_,I.base.tups,I.base.frzs,I.base.tbls⟩,⟨m,hn.sameBut hs (Ne.symm (cne x c hc)),fun j y v' e1 e2 e3=>?_⟩,fun y c' e=>?_,I.free,I.freeC,fun p hp=>?_,tracked ⟨oc,hoc,I.freeC x c hc⟩ hs,by simpa using I.len⟩ ⟨c,hs, .inr hc⟩
    · exact (hs.2 b (Nat.ne_of_lt (Nat.lt_of_lt_of_le (Heap.lt_size e) (I.ok.cab x c hfn hc)))).trans (I.base.keep b o e n hb hx)
    · obtain ⟨sl,e1⟩:=I.base.slot b o e n hb hx
      exact ⟨sl,(hs.2 b (Nat.ne_of_lt (Nat.lt_of_lt_of_le (Heap.lt_size e) (I.ok.cab x c hfn hc)))).trans e1⟩
    · obtain ⟨o',e1⟩:=I.base.there b o e hx
      exact ⟨o',(hs.2 b (Nat.ne_of_lt (Nat.lt_of_lt_of_le (Heap.lt_size e) (I.ok.cab x c hfn hc)))).trans e1⟩
    · by_cases hj:j=i
      · subst hj
        rw [hi] at e1;cases e1
        rw [List.getElem?_set_self hiσ] at e2
        cases e2
        exact ⟨u,r, .inr ⟨.inl hk,c,hc,hc'⟩⟩
      · rw [List.getElem?_set_ne (Ne.symm hj)] at e2
        obtain ⟨u',r',q⟩:=hl j y v' e1 e2 e3
        refine ⟨u',r',?_⟩
        rcases q with q | ⟨k,c',e,z'⟩
        · exact .inl q
        · refine .inr ⟨k,c',e,z'.sameBut hs ?_⟩
          rintro rfl
          exact hj (jr hN e1 (I.ok.inj _ _ _ e hc▸hi))
    · by_cases hcc:c'=c
      · subst hcc;exact ⟨_,hc'⟩
      · obtain ⟨w2,z2⟩:=I.cell y c' e
        exact ⟨w2,z2.sameBut hs hcc⟩
    · obtain ⟨e,n,ne,nf,d⟩:=I.pin p hp
      refine ⟨(hs.2 p.1 ?_).trans e,n,ne,nf,d⟩
      intro q
      rw [q,hoc] at e
      have q':oc=p.2:=Option.some.inj e
      exact d w' (by rw [←q'];exact hocd)
theorem jt {M:Model} {A:Around} {E:Value→Shared→Prop} {i:Nat} {x:Str} {v:V} {u:Value} {Q:Unit→Shared→Prop} (I:Inv X pins σ H s) (hN:X.N.Nodup) (hi:X.N[i]? =some x) (hx:vX X.env.scope x) (r:RelV v u)
    (h:∀s',Inv X pins (σ.set i (some v)) H s'→Q () s') (hf:X.fn x=true∨X.env.scope.names.lookup x=some .local:=by first | exact .inl rfl | exact .inr rfl | assumption):wpAny M A (storeName X.env x u) Q E s:=
  pE I hN hi hx r (fun s' I' _=>h s' I') hf
theorem Inv.call' {s':Shared} {ch:List Addr} (I:Inv X pins σ H s) (ho:s'.os=s.os) (u:Un (gU X.stack) ch H H' s.heap s'.heap) (hok:HOk X.prog X.w H' s'.heap) (hg:AllBare s'.gens)
    (hch:∀b∈ch,(b∈X.ex∨X.s₀.heap.objs.size≤b)∧b≠X.env.locals∧(∀x c,X.env.cells.lookup x=some c→c≠b)∧∀p∈X.pn++pins,p.1≠b):Inv X pins σ H' s':=by
  obtain ⟨h',g',d',t',o'⟩:=s'
  have e:o'=s.os:=ho
  subst e
  exact I.call (g':=g') (t':=t') (d':=d') u hok hg hch
end
abbrev XK:=Value→Option Addr→Hp→Prop
abbrev St:=List (Option V)
abbrev VK:=V→Hp→Prop
abbrev TE:=St→Hp→VK→Prop
abbrev TT:=St→Hp→(Bool→Hp→Prop)→Prop
abbrev TA:=St→Hp→(List V→Hp→Prop)→Prop
structure Ends where
  nx:St→Hp→Prop
  rt:VK
  bk:St→Hp→Prop:=fun _ _=>False
  ct:St→Hp→Prop:=fun _ _=>False
abbrev TS:=Ends→St→Hp→Prop
def EP (X:Cx) (pins:List (Addr×Obj)) (σ:St) (Q:VK) (u:Value) (s':Shared):Prop:=∃v H',Inv X pins σ H' s'∧RelV v u∧Q v H'
def TP (X:Cx) (pins:List (Addr×Obj)) (σ:St) (Q:Bool→Hp→Prop) (b:Bool) (s':Shared):Prop:=∃H',Inv X pins σ H' s'∧Q b H'
def AP (X:Cx) (pins:List (Addr×Obj)) (σ:St) (Q:List V→Hp→Prop) (us:List Value) (s':Shared):Prop:=∃vs H',Inv X pins σ H' s'∧Vals vs us∧Q vs H'
def SP (X:Cx) (pins:List (Addr×Obj)) (D:Ends) (f:Flow) (s':Shared):Prop:=
  match f with
  | .next=>∃σ' H',Inv X pins σ' H' s'∧D.nx σ' H'
  | .brk=>∃σ' H',Inv X pins σ' H' s'∧D.bk σ' H'
  | .cont=>∃σ' H',Inv X pins σ' H' s'∧D.ct σ' H'
  | .ret u=>∃v σ' H',Inv X pins σ' H' s'∧RelV v u∧D.rt v H'
def PE (X:Cx) (e:Expr) (t:TE):Prop:=
  ∀(pins:List (Addr×Obj)) (s:Shared) (σ:St) (H:Hp) (Q:VK),Inv X pins σ H s→t σ H Q→wpAny (model X.prog X.w) X.A (eval e X.env) (EP X pins σ Q) X.xe s
def PT (X:Cx) (e:Expr) (t:TT):Prop:=
  ∀(pins:List (Addr×Obj)) (s:Shared) (σ:St) (H:Hp) (Q:Bool→Hp→Prop),Inv X pins σ H s→t σ H Q→wpAny (model X.prog X.w) X.A (isTrue e X.env (eval e X.env)) (TP X pins σ Q) X.xe s
def PW (X:Cx) (e:Expr) (t:TT):Prop:=
  ∀(whole:Sem Value) (pins:List (Addr×Obj)) (s:Shared) (σ:St) (H:Hp) (Q:Bool→Hp→Prop),Inv X pins σ H s→t σ H Q→wpAny (model X.prog X.w) X.A (isTrue e X.env whole) (TP X pins σ Q) X.xe s
theorem PW.pt {X:Cx} {e:Expr} {t:TT} (h:PW X e t):PT X e t:=h _
def PA (X:Cx) (es:List Expr) (t:TA):Prop:=
  ∀(pos:Pos) (pins:List (Addr×Obj)) (s:Shared) (σ:St) (H:Hp) (Q:List V→Hp→Prop),Inv X pins σ H s→t σ H Q→wpAny (model X.prog X.w) X.A (spliced (backTo pos (starEach es X.env))) (AP X pins σ Q) X.xe s
def PS (X:Cx) (st:Stmt) (t:TS):Prop:=
  ∀(pins:List (Addr×Obj)) (s:Shared) (σ:St) (H:Hp) (D:Ends),Inv X pins σ H s→t D σ H→wpAny (model X.prog X.w) X.A (exec st X.env) (SP X pins D) X.xe s
def PSs (X:Cx) (st:List Stmt) (t:TS):Prop:=
  ∀(pins:List (Addr×Obj)) (s:Shared) (σ:St) (H:Hp) (D:Ends),Inv X pins σ H s→t D σ H→wpAny (model X.prog X.w) X.A (execs st X.env) (SP X pins D) X.xe s
theorem ci {α:Type} {t:Sem α} {Q Q':α→Shared→Prop} {M:Model} {A:Around} {E:Value→Shared→Prop} {s:Shared} (h:wpAny M A t Q E s) (hQ:∀a s,Q a s→Q' a s):wpAny M A t Q' E s:=wpAny_mono h hQ fun _ _ x=>x
end L2
namespace L2
open PySem PySem.Spec PyProof.Rows
section
variable {X:Cx}
def y0 (i:Nat):TE:=fun σ H Q=>∃v,σ[i]? =some (some v)∧Q v H
def tC (v:V):TE:=fun _ H Q=>Q v H
theorem ju {i:Nat} {x:Str} {pos:Pos} (hN:X.N[i]? =some x) (hv:vW X.env.scope x) (hd:(x == ("__debug__":Str))=false:=by decide) (hcd:(x == ("__classdict__":Str))=false:=by decide):PE X (.Name x pos) (y0 i):=by
  intro pins s σ H Q I h
  obtain ⟨v,e,h⟩:=h
  obtain ⟨m,hn,hl⟩:=I.loc
  obtain ⟨u,r,l⟩:=hl i x v hN e hv
  have fin:EP X pins σ Q u s:=⟨v,H,I,r,h⟩
  rcases l with ⟨hk,hm⟩ | ⟨hk,c,hc,hcell⟩
  · exact wpAny_Name (wpAny_loadName_local I.ok.kind hk hn hm fin) hd
  · rcases hk with hk | hk
    · exact wpAny_Name (wpAny_loadName_cell I.ok.kind hk hc hcell fin) hd
    · exact wpAny_Name (wpAny_loadName_free I.ok.kind hk hc hcell fin hcd) hd
theorem vY {i j pos}:PE X (.Constant (.int i) j pos) (tC (.int i)):=fun _ _ _ H _ I h=>wpAny_Constant_int ⟨.int i,H,I.tok _,⟨_,rfl⟩,h⟩
theorem xI {b j pos}:PE X (.Constant (.bool b) j pos) (tC (.bl b)):=fun _ _ _ H _ I h=>Constant_bool ⟨.bl b,H,I,rfl,h⟩
theorem vZ {j pos}:PE X (.Constant .none j pos) (tC .non):=fun _ _ _ H _ I h=>Constant_none ⟨.non,H,I,rfl,h⟩
theorem qD {x j pos}:PE X (.Constant (.str x) j pos) (tC (.str x)):=fun _ _ _ H _ I h=>Calls.Constant_str ⟨.str x,H,I.tok _,⟨_,rfl⟩,h⟩
def Gl (X:Cx) (x:Str):Prop:=X.env.kindOf x=some .globalImplicit
theorem fJ {E:Value→Shared→Prop} {pins:List (Addr×Obj)} {s:Shared} {σ:St} {H:Hp} {x:Str} {u:Value} {pos:Pos} {Q:Value→Shared→Prop} (I:Inv X pins σ H s) (hg:Gl X x) (hm:X.mg x=some u) (h:Q u s)
    (hd:(x == ("__debug__":Str))=false:=by decide):wpAny (model X.prog X.w) X.A (eval (.Name x pos) X.env) Q E s:=
  Calls.Name_function_global I.ok.kind hg (Calls.loadGlobal_global (by rw [I.ok.glob];exact I.mod.glob.keeps I.bk) hm h) hd
theorem im {E:Value→Shared→Prop} {pins:List (Addr×Obj)} {s:Shared} {σ:St} {H:Hp} {x:Str} {u:Value} {pos:Pos} {Q:Value→Shared→Prop} (I:Inv X pins σ H s) (hg:Gl X x) (hm:X.mg x=none) (hv:bootBuiltins x=some u) (h:Q u s)
    (hn:x≠"__name__":=by decide) (hd:(x == ("__debug__":Str))=false:=by decide):wpAny (model X.prog X.w) X.A (eval (.Name x pos) X.env) Q E s:=by
  obtain ⟨mb,h1,h2⟩:=I.mod.blt
  exact Calls.Name_function_global I.ok.kind hg (Calls.loadGlobal_builtin (by rw [I.ok.glob];exact I.mod.glob.keeps I.bk) hm (by rw [I.ok.blt];exact h1.keeps I.bk) ((h2 x hn).trans hv) h) hd
theorem oB {x:Str} {v:V} {u:Value} {pos:Pos} (hg:Gl X x) (hm:X.mg x=some u) (r:RelV v u) (hd:(x == ("__debug__":Str))=false:=by decide):PE X (.Name x pos) (tC v):=
  fun _ _ _ H _ I h=>fJ I hg hm ⟨v,H,I,r,h⟩ hd
theorem oC {x:Str} {v:V} {u:Value} {pos:Pos} (hg:Gl X x) (hm:X.mg x=none) (hv:bootBuiltins x=some u) (r:RelV v u) (hn:x≠"__name__":=by decide) (hd:(x == ("__debug__":Str))=false:=by decide):PE X (.Name x pos) (tC v):=
  fun _ _ _ H _ I h=>im I hg hm hv ⟨v,H,I,r,h⟩ hn hd
variable {a b:Expr} {ta tb:TE} {pos:Pos}
variable {tA tB':TT} {ce:List Expr}
def y1 (t u:TT):TT:=fun σ H Q=>t σ H fun c H1=>if c=true then u σ H1 Q else Q false H1
def Ak (t u:TT):TT:=fun σ H Q=>t σ H fun c H1=>if c=true then Q true H1 else u σ H1 Q
def y2 (t:TT):TT:=fun σ H Q=>t σ H fun c H1=>Q (!c) H1
theorem tQ (ha:PT X a tA):PW X (.BoolOp .And [a] pos) tA:=by
  intro wh pins s σ H Q I h
  refine isTrue_and (ci (ha pins s σ H Q I h) fun c s1 e=>?_)
  cases c with
  | true=>exact isTrue_and_nil e
  | false=>exact e
theorem v4 (ha:PT X a tA):PW X (.BoolOp .Or [a] pos) tA:=by
  intro wh pins s σ H Q I h
  refine isTrue_or (ci (ha pins s σ H Q I h) fun c s1 e=>?_)
  cases c with
  | false=>exact isTrue_or_nil e
  | true=>exact e
theorem v5 (ha:PT X a tA) (hb:PW X (.BoolOp .And (b::ce) pos) tB'):PW X (.BoolOp .And (a::b::ce) pos) (y1 tA tB'):=by
  intro wh pins s σ H Q I h
  refine isTrue_and (ci (ha pins s σ H _ I h) fun c s1 ⟨H1,I1,q1⟩=>?_)
  cases c with
  | true=>exact hb wh pins s1 σ H1 Q I1 q1
  | false=>exact ⟨H1,I1,q1⟩
theorem xJ (ha:PT X a tA) (hb:PW X (.BoolOp .Or (b::ce) pos) tB'):PW X (.BoolOp .Or (a::b::ce) pos) (Ak tA tB'):=by
  intro wh pins s σ H Q I h
  refine isTrue_or (ci (ha pins s σ H _ I h) fun c s1 ⟨H1,I1,q1⟩=>?_)
  cases c with
  | true=>exact ⟨H1,I1,q1⟩
  | false=>exact hb wh pins s1 σ H1 Q I1 q1
theorem v6 (ha:PT X a tA):PT X (.UnaryOp .Not a pos) (y2 tA):=by
  intro pins s σ H Q I h
  exact isTrue_not (ha pins s σ H (fun c H1=>Q (!c) H1) I h)
def xK (ta tb:TE):TE:=fun σ H Q=>ta σ H fun x H1=>∃c,x= .bl c∧if c=true then tb σ H1 Q else Q (.bl false) H1
def xL (ta:TE):TE:=fun σ H Q=>ta σ H fun x H1=>∃c,x= .bl c∧Q (.bl (!c)) H1
theorem v7 {op} {t:TE} (h:PE X a t):PE X (.BoolOp op [a] pos) t:=fun pins s σ H Q I hw=>BoolOp_one (h pins s σ H Q I hw)
theorem v8 (ha:PE X a ta) (hb:PE X (.BoolOp .And (b::ce) pos) tb):PE X (.BoolOp .And (a::b::ce) pos) (xK ta tb):=by
  intro pins s σ H Q I h
  refine BoolOp_and (ci (ha pins s σ H _ I h) fun v s1 ⟨x,H1,I1,r1,q1⟩=>?_)
  obtain ⟨c,rfl,q1⟩:=q1
  cases r1
  refine wpAny_truthy_bool ?_
  cases c with
  | true=>exact hb pins s1 σ H1 Q I1 q1
  | false=>exact ⟨.bl false,H1,I1,rfl,q1⟩
theorem v9 (ha:PE X a ta):PE X (.UnaryOp .Not a pos) (xL ta):=by
  intro pins s σ H Q I h
  refine UnaryOp_ (ci (ha pins s σ H _ I h) fun v s1 ⟨x,H1,I1,r1,q1⟩=>?_)
  obtain ⟨c,rfl,q1⟩:=q1
  cases r1
  exact not_of (wpAny_truthy_bool ⟨.bl (!c),H1,I1,rfl,q1⟩)
def Al (t:TT) (ta tb:TE):TE:=fun σ H Q=>t σ H fun c H1=>if c=true then ta σ H1 Q else tb σ H1 Q
theorem qE {c:Expr} (hc:PT X c tA) (ha:PE X a ta) (hb:PE X b tb):PE X (.IfExp c a b pos) (Al tA ta tb):=by
  intro pins s σ H Q I h
  refine wpAny_IfExp (ci (hc pins s σ H _ I h) fun d s1 ⟨H1,I1,q1⟩=>?_)
  cases d with
  | true=>exact ha pins s1 σ H1 Q I1 q1
  | false=>exact hb pins s1 σ H1 Q I1 q1
end
end L2
namespace L2
open PySem PySem.Spec PyProof.Rows
def SqL (K:PySem.W.Frag) (H:Hp) (a:Addr) (xs:List V):Prop:=
  Rd H a (.lst xs)∨
    ∃(o:Obj) (its:Array Value) (n:Nat),K.lookup a=some o∧o.cls= .type "list"∧o.dict=none∧o.data= .seq its n∧its.size≤sizeLine∧Vals xs its.toList
def SqT (K:PySem.W.Frag) (H:Hp) (a:Addr) (xs:List V):Prop:=
  Rd H a (.tup xs)∨
    ∃(o:Obj) (its:Array Value) (n:Nat),K.lookup a=some o∧o.cls= .type "tuple"∧o.data= .seq its n∧its.size≤sizeLine∧Vals xs its.toList
def y3:Value→Option V
  | .none=>some .non
  | .bool b=>some (.bl b)
  | .int i _=>some (.int i)
  | .str x _=>some (.str x)
  | .bytes b _=>some (.byt b)
  | .float b _=>some (.flt b)
  | .ref a=>some (.ref a)
  | .type n=>some (.ty n)
  | _=>none
theorem RelV.abs {x:V} {u:Value} (r:RelV x u):y3 u=some x:=by
  cases x with
  | non=>cases r;rfl
  | bl _=>cases r;rfl
  | int _=>obtain ⟨t,rfl⟩:=r;rfl
  | str _=>obtain ⟨t,rfl⟩:=r;rfl
  | byt _=>obtain ⟨t,rfl⟩:=r;rfl
  | flt _=>obtain ⟨t,rfl⟩:=r;rfl
  | ref _=>cases r;rfl
  | ty _=>cases r;rfl
theorem RelV.inj {x y:V} {u:Value} (r:RelV x u) (q:RelV y u):x=y:=Option.some.inj (r.abs.symm.trans q.abs)
theorem Vals.inj {xs ys:List V} {us:List Value} (h:Vals xs us) (k:Vals ys us):xs=ys:=by
  induction h generalizing ys with
  | nil=>cases k;rfl
  | cons r _ ih=>cases k with | cons r' t'=>rw [r.inj r',ih t']
section
variable {X:Cx} {pins:List (Addr×Obj)} {σ:St} {H:Hp} {s:Shared} {a:Addr} {xs ys:List V}
theorem SqL.of {K:PySem.W.Frag} (h:H a=some (.lst xs)):SqL K H a xs:= .inl (.inl h)
theorem SqT.of {K:PySem.W.Frag} (h:H a=some (.tup xs)):SqT K H a xs:= .inl (.inl h)
theorem Inv.list (I:Inv X pins σ H s) (h:SqL X.K H a xs):∃its:List Value,Vals xs its∧PlainL s.heap a its.toArray∧xs.length≤sizeLine:=by
  rcases h with h | ⟨o,its,n,hk,hc,hd,hs,hz,r⟩
  · obtain ⟨z,its,n,r,e⟩:=h.ok I.hok
    exact ⟨its,r,⟨_,n,e,rfl,rfl,rfl⟩,z⟩
  · refine ⟨its.toList,r,⟨o,n,I.kIn a o hk,hc,hd,by simpa using hs⟩,?_⟩
    have e:=r.length
    simp only [Array.length_toList] at e
    omega
theorem Inv.tuple (I:Inv X pins σ H s) (h:SqT X.K H a xs):∃its:List Value,Vals xs its∧IsTup s.heap a its.toArray∧xs.length≤sizeLine:=by
  rcases h with h | ⟨o,its,n,hk,hc,hs,hz,r⟩
  · obtain ⟨z,its,r,p⟩:=h.ok I.hok
    exact ⟨its,r,p,z⟩
  · refine ⟨its.toList,r,⟨o,I.kIn a o hk,hc,n,by simpa using hs⟩,?_⟩
    have e:=r.length
    simp only [Array.length_toList] at e
    omega
theorem Inv.list_inj (I:Inv X pins σ H s) (h:SqL X.K H a xs) (h':SqL X.K H a ys):xs=ys:=by
  obtain ⟨its,r,⟨o,n,e,_,_,d⟩,_⟩:=I.list h
  obtain ⟨its',r',⟨o',n',e',_,_,d'⟩,_⟩:=I.list h'
  rw [e] at e';cases e'
  rw [d] at d'
  injection d' with d1 _
  have:its=its':=by simpa using congrArg Array.toList d1
  subst this
  exact r.inj r'
theorem Inv.tuple_inj (I:Inv X pins σ H s) (h:SqT X.K H a xs) (h':SqT X.K H a ys):xs=ys:=by
  obtain ⟨its,r,⟨o,e,_,n,d⟩,_⟩:=I.tuple h
  obtain ⟨its',r',⟨o',e',_,n',d'⟩,_⟩:=I.tuple h'
  rw [e] at e';cases e'
  rw [d] at d'
  injection d' with d1 _
  have:its=its':=by simpa using congrArg Array.toList d1
  subst this
  exact r.inj r'
end
abbrev Cx.wish (X:Cx) (E:Value→Shared→Prop):Cx:={X with xe:=E}
abbrev Cx.nox (X:Cx):Cx:=X.wish fun _ _=>False
theorem Cx.Ok.wish {X:Cx} (ok:X.Ok) (E:Value→Shared→Prop):(X.wish E).Ok:=
  ⟨ok.mod,ok.kind,ok.glob,ok.blt,ok.above,ok.inj,ok.has,ok.cab,ok.hd,ok.frames,ok.stk,ok.exf,ok.bs,ok.bsz,ok.noex,ok.exfs,ok.funs,ok.frf,ok.tab⟩
theorem Cx.Ok.unwish {X:Cx} {E:Value→Shared→Prop} (ok:(X.wish E).Ok):X.Ok:=
  ⟨ok.mod,ok.kind,ok.glob,ok.blt,ok.above,ok.inj,ok.has,ok.cab,ok.hd,ok.frames,ok.stk,ok.exf,ok.bs,ok.bsz,ok.noex,ok.exfs,ok.funs,ok.frf,ok.tab⟩
section
variable {X:Cx} {pins:List (Addr×Obj)} {σ:St} {H:Hp} {s:Shared} {E:Value→Shared→Prop}
theorem Inv.wish (I:Inv X pins σ H s) (E:Value→Shared→Prop):Inv (X.wish E) pins σ H s:=⟨I.ok.wish E,I.os,I.bare,I.base,I.loc,I.cell,I.free,I.freeC,I.pin,I.hok,I.len⟩
theorem Inv.unwish (I:Inv (X.wish E) pins σ H s):Inv X pins σ H s:=⟨I.ok.unwish,I.os,I.bare,I.base,I.loc,I.cell,I.free,I.freeC,I.pin,I.hok,I.len⟩
theorem SP.unwish {D:Ends} {f:Flow} {s':Shared} (h:SP (X.wish E) pins D f s'):SP X pins D f s':=by
  cases f with
  | next=>obtain ⟨σ',H',I,q⟩:=h;exact ⟨σ',H',I.unwish,q⟩
  | brk=>obtain ⟨σ',H',I,q⟩:=h;exact ⟨σ',H',I.unwish,q⟩
  | cont=>obtain ⟨σ',H',I,q⟩:=h;exact ⟨σ',H',I.unwish,q⟩
  | ret u=>obtain ⟨v,σ',H',I,r,q⟩:=h;exact ⟨v,σ',H',I.unwish,r,q⟩
theorem PE.nox {e:Expr} {t:TE} (h:PE X.nox e t):PE X e t:=fun pins s σ H Q I hw=>
  wpAny_mono (h pins s σ H Q (I.wish _) hw) (fun _ _ ⟨v,H',I',r,q⟩=>⟨v,H',I'.unwish,r,q⟩) fun _ _ z=>False.elim z
theorem PT.nox {e:Expr} {t:TT} (h:PT X.nox e t):PT X e t:=fun pins s σ H Q I hw=>
  wpAny_mono (h pins s σ H Q (I.wish _) hw) (fun _ _ ⟨H',I',q⟩=>⟨H',I'.unwish,q⟩) fun _ _ z=>False.elim z
theorem PSs.nox {st:List Stmt} {t:TS} (h:PSs X.nox st t):PSs X st t:=fun pins s σ H D I hw=>
  wpAny_mono (h pins s σ H D (I.wish _) hw) (fun _ _ q=>q.unwish) fun _ _ z=>False.elim z
end
section
variable {X:Cx} {st:Stmt} {ce:List Stmt} {t u:TS} {e:Expr} {te:TE} {pos:Pos}
def xM:TS:=fun D σ H=>D.nx σ H
def y4 (t u:TS):TS:=fun D σ H=>t {D with nx:=u D} σ H
theorem oD:PSs X [] xM:=fun _ _ σ H _ I h=>wpAny_execs_nil ⟨σ,H,I,h⟩
theorem me (h1:PS X st t) (h2:PSs X ce u):PSs X (st::ce) (y4 t u):=by
  intro pins s σ H D I h
  refine wpAny_execs_cons (ci (h1 pins s σ H {D with nx:=u D} I h) fun f s1 q=>?_)
  cases f with
  | next=>
    obtain ⟨σ',H',I',q⟩:=q
    exact h2 pins s1 σ' H' D I' q
  | ret v=>exact q
  | brk=>exact q
  | cont=>exact q
theorem oE (h1:PS X st t):PSs X [st] t:=by
  intro pins s σ H D I h
  refine wpAny_execs_cons (ci (h1 pins s σ H D I h) fun f s1 q=>?_)
  cases f with
  | next=>exact wpAny_execs_nil q
  | ret v=>exact q
  | brk=>exact q
  | cont=>exact q
theorem Inv.quiet {pins:List (Addr×Obj)} {σ:St} {H:Hp} {s:Shared} (I:Inv X pins σ H s):interactive X.env=false:=by simp [interactive,I.ok.kind]
def xN (te:TE):TS:=fun D σ H=>te σ H fun _ H1=>D.nx σ H1
theorem tR (he:PE X e te) (hs:swapsWith e none pos.line X.env=pure false:=by rfl):PS X (.Expr e pos) (xN te):=by
  intro pins s σ H D I h
  exact wpAny_Expr_any (ci (he pins s σ H _ I h) fun v s1 ⟨x,H1,I1,r1,q1⟩=>⟨σ,H1,I1,q1⟩) I.quiet hs
def y7 (te:TE):TS:=fun D σ H=>te σ H D.rt
theorem qF (he:PE X e te):PS X (.Return (some e) pos) (y7 te):=by
  intro pins s σ H D I h
  exact wpAny_Return_some (ci (he pins s σ H _ I h) fun v s1 ⟨x,H1,I1,r1,q1⟩=>⟨x,σ,H1,I1,r1,q1⟩)
def y8 (c:TT) (t u:TS):TS:=fun D σ H=>c σ H fun b H1=>if b=true then t D σ H1 else u D σ H1
theorem vq {c:Expr} {a b:List Stmt} {tc:TT} (hc:PT X c tc) (ha:PSs X a t) (hb:PSs X b u):PS X (.If c a b pos) (y8 tc t u):=by
  intro pins s σ H D I h
  refine wpAny_If (ci (hc pins s σ H _ I h) fun d s1 ⟨H1,I1,q1⟩=>?_)
  cases d with
  | true=>exact ha pins s1 σ H1 D I1 q1
  | false=>exact hb pins s1 σ H1 D I1 q1
def v_:TS:=fun _ _ _=>False
theorem mf:PS X st v_:=fun _ _ _ _ _ _ h=>h.elim
end
abbrev TG:=V→St→Hp→(St→Hp→Prop)→Prop
abbrev tS:=List V→St→Hp→(St→Hp→Prop)→Prop
def PG (X:Cx) (target:Expr) (t:TG):Prop:=
  ∀(pins:List (Addr×Obj)) (s:Shared) (σ:St) (H:Hp) (v:V) (u:Value) (Q:St→Hp→Prop),Inv X pins σ H s→RelV v u→t v σ H Q→
    wpAny (model X.prog X.w) X.A (assign target X.env u) (fun _ s'=>∃σ' H',Inv X pins σ' H' s'∧Q σ' H') X.xe s
def wa (X:Cx) (ts:List Expr) (t:tS):Prop:=
  ∀(pins:List (Addr×Obj)) (s:Shared) (σ:St) (H:Hp) (vs:List V) (us:List Value) (Q:St→Hp→Prop),Inv X pins σ H s→Vals vs us→t vs σ H Q→
    wpAny (model X.prog X.w) X.A (assignInOrder ((assignEach ts X.env).map (·.2)) us) (fun _ s'=>∃σ' H',Inv X pins σ' H' s'∧Q σ' H') X.xe s
section
variable {X:Cx} {pos:Pos}
def vt (i:Nat):TG:=fun v σ H Q=>Q (σ.set i (some v)) H
theorem tT {i:Nat} {x:Str} (hN:X.N.Nodup) (hi:X.N[i]? =some x) (hx:vX X.env.scope x) (hf:X.fn x=true∨X.env.scope.names.lookup x=some .local:=by first | exact .inl rfl | exact .inr rfl | assumption):PG X (.Name x pos) (vt i):=by
  intro pins s σ H v u Q I r h
  exact wpAny_assign_Name (jt I hN hi hx r (fun s' I'=>⟨_,H,I',h⟩) hf)
def y9:tS:=fun vs σ H Q=>vs=[]∧Q σ H
def xO (t:TG) (u:tS):tS:=fun vs σ H Q=>∃v r,vs=v::r∧t v σ H fun σ' H'=>u r σ' H' Q
theorem tU:wa X [] y9:=by
  intro pins s σ H vs us Q I r h
  obtain ⟨e,h⟩:=h
  subst e
  cases r
  exact assignInOrder_nil ⟨σ,H,I,h⟩
theorem qG {e:Expr} {es:List Expr} {t:TG} {u:tS} (h1:PG X e t) (h2:wa X es u)
    (hs:(assignEach (e::es) X.env).map (·.2)=assign e X.env::(assignEach es X.env).map (·.2):=by rfl):wa X (e::es) (xO t u):=by
  intro pins s σ H vs us Q I r h
  obtain ⟨v,vr,e1,h⟩:=h
  subst e1
  cases r with
  | cons r rr=>
    rw [hs]
    refine assignInOrder_cons (ci (h1 pins s σ H _ _ _ I r h) fun _ s1 ⟨σ1,H1,I1,q1⟩=>?_)
    exact h2 pins s1 σ1 H1 _ _ Q I1 rr q1
def y_ (K:PySem.W.Frag) (n:Nat) (t:tS):TG:=fun v σ H Q=>∃a xs,v= .ref a∧SqT K H a xs∧xs.length=n∧t xs σ H Q
theorem wb {es:List Expr} {k:Nat} {t:tS} {n:Nat} (hc:X.calm=true) (h:wa X es t)
    (hn:(assignEach es X.env).length=n:=by rfl) (hst:(assignEach es X.env).findIdx? (·.1)=none:=by rfl):PG X (.Tuple es k pos) (y_ X.K n t):=by
  intro pins s σ H v u Q I r hw
  obtain ⟨a,xs,e1,hq,hl,hw⟩:=hw
  subst e1
  cases r
  obtain ⟨its,rv,ht,hz⟩:=I.tuple hq
  refine assign_Tuple_tuple (I.ok.hd hc) ht (by simp [hn,←hl,rv.length]) hst fun h' hx=>?_
  have I1:Inv X pins σ H {s with heap:=h'}:=I.kept (t':=s.toks) fun b o e=>hx b o (Nat.ne_of_lt (Heap.lt_size e)) e
  exact h pins _ σ H xs _ Q I1 (by simpa using rv) hw
def za (te:TE) (g:TG):TS:=fun D σ H=>te σ H fun x H1=>g x σ H1 D.nx
theorem qH {i:Nat} {x:Str} {e:Expr} {te:TE} {pos':Pos} (hN:X.N.Nodup) (hi:X.N[i]? =some x) (hx:vX X.env.scope x) (he:PE X e te) (hs:swapsWith e (some (.Name x pos')) pos.line X.env=pure false:=by rfl) (hf:X.fn x=true∨X.env.scope.names.lookup x=some .local:=by first | exact .inl rfl | exact .inr rfl | assumption):
    PS X (.Assign [.Name x pos'] e pos) (za te (vt i)):=by
  intro pins s σ H D I h
  refine wpAny_Assign_Name (ci (he pins s σ H _ I h) fun v s1 ⟨y,H1,I1,r1,q1⟩=>?_) hs
  exact jt I1 hN hi hx r1 (fun s2 I2=>⟨_,H1,I2,q1⟩) hf
end
structure It where
  go:Nat→Hp→Prop
  yld:Nat→Hp→V→Hp→Prop
  stop:Nat→Hp→Prop
def io (X:Cx) (pins:List (Addr×Obj)) (H:Hp) (b:Addr):Prop:=
  H b=none∧b≠X.env.locals∧b∉X.fs∧(b∈X.ex∨X.s₀.heap.objs.size≤b)∧(∀x c,X.env.cells.lookup x=some c→c≠b)∧∀p∈X.pn++pins,p.1≠b
theorem Inv.fpOk {X:Cx} {pins:List (Addr×Obj)} {σ:St} {H H':Hp} {s:Shared} {b:Addr} (I:Inv X pins σ H s) (hb:s.heap.objs.size≤b) (hn:H' b=none):io X pins H' b:=by
  refine ⟨hn,Nat.ne_of_gt (Nat.lt_of_lt_of_le I.lt hb),I.nofs hb, .inr (Nat.le_trans I.sz hb),fun x c e z=>?_,fun p hp z=>?_⟩
  · obtain ⟨v,q⟩:=I.cell x c e
    exact absurd (Nat.lt_of_lt_of_le q.lt (by rw [z];exact hb)) (Nat.lt_irrefl _)
  · exact absurd (Nat.lt_of_lt_of_le (Heap.lt_size (I.pin p hp).1) (by rw [z];exact hb)) (Nat.lt_irrefl _)
structure Turn (P:Program) (w:World) (K:PySem.W.Frag) (tg:Expr) (J:It) (fp:List Addr) (it:Addr) (tn:Nat→Heap→Prop):Prop where
  mem:it∈fp
  obj:∀i h,tn i h→∀b∈fp,∃o,h.get? b=some o∧∀v,o.data≠ .cell v
  keep:∀i h h',tn i h→(∀b∈fp,∀o,h.get? b=some o→h'.get? b=some o)→tn i h'
  item:∀(X:Cx),X.prog=P→X.w=w→X.K=K→X.calm=true→∀(i:Nat) (pins:List (Addr×Obj)) (s:Shared) (σ:St) (H:Hp) (E:Value→Shared→Prop),Inv X pins σ H s→(∀b∈fp,io X pins H b)→tn i s.heap→J.go i H→
    wpAny (model P w) X.A (pyNext (.ref it)) (fun r s1=>∃u,r=some u∧
      wpAny (model P w) X.A (letOwnedTupleGo tg (.ref it) u) (fun _ s2=>∃x H',Inv X pins σ H' s2∧RelV x u∧J.yld i H x H'∧tn (i+1) s2.heap∧∀b∈fp,H' b=none) E s1) E s
  done:∀(X:Cx),X.prog=P→X.w=w→X.K=K→X.calm=true→∀(i:Nat) (pins:List (Addr×Obj)) (s:Shared) (σ:St) (H:Hp) (E:Value→Shared→Prop),Inv X pins σ H s→(∀b∈fp,io X pins H b)→tn i s.heap→J.stop i H→
    wpAny (model P w) X.A (pyNext (.ref it)) (fun r s1=>r=none∧Inv X pins σ H s1) E s
  self:∀(A:Around) (i:Nat) (s:Shared) (Q:Value→Shared→Prop) (E:Value→Shared→Prop),tn i s.heap→Q (.ref it) s→wpAny (model P w) A (pyIter (.ref it)) Q E s
abbrev TI:=St→Hp→(It→Hp→Prop)→Prop
def zZ (X:Cx) (pins:List (Addr×Obj)) (σ:St) (tg:Expr) (R:It→Hp→Prop) (itv:Value) (s2:Shared):Prop:=
  ∃(it:Addr) (fp:List Addr) (tn:Nat→Heap→Prop) (J:It) (H':Hp),itv= .ref it∧Inv X pins σ H' s2∧Turn X.prog X.w X.K tg J fp it tn∧tn 0 s2.heap∧(∀b∈fp,io X pins H' b)∧R J H'
def PI (X:Cx) (tg iter:Expr) (wi:TI):Prop:=
  ∀(pins:List (Addr×Obj)) (s:Shared) (σ:St) (H:Hp) (R:It→Hp→Prop),Inv X pins σ H s→wi σ H R→
    wpAny (model X.prog X.w) X.A (eval iter X.env) (fun v s1=>wpAny (model X.prog X.w) X.A (pyIter v) (zZ X pins σ tg R) X.xe s1) X.xe s
theorem kq {M:Model} {A:Around} {E:Value→Shared→Prop} {s:Shared} {tg:Expr} {it:Addr} {u:Value} {o:Obj} {n:String} {vs:Array Value} {Q:Unit→Shared→Prop} (ho:s.heap.get? it=some o) (hc:o.cls= .type n) (hd:o.data= .fields vs)
    (hn:["enumerate","zip","dict_itemiterator","dict_reverseitemiterator","odict_iterator","itertools.zip_longest","itertools.pairwise"].contains n=false) (hQ:Q () s):wpAny M A (letOwnedTupleGo tg (.ref it) u) Q E s:=by
  unfold letOwnedTupleGo
  cases tg <;> first
    | exact wpAny_pure hQ
    | (cases u <;> first
        | exact wpAny_pure hQ
        | (refine wpAny_bind (wpAny_load ho ?_)
           rw [hc,hd]
           show wpAny M A (if (["enumerate","zip","dict_itemiterator","dict_reverseitemiterator","odict_iterator","itertools.zip_longest","itertools.pairwise"].contains n&&vs[0]? == some (rawInt _))=true then _ else _) Q E s
           rw [if_neg (by intro h;rw [hn,Bool.false_and] at h;cases h)]
           exact wpAny_pure hQ))
def zb (K:PySem.W.Frag) (a:Addr):It:=
  ⟨fun i H=>∃xs x,SqL K H a xs∧xs[i]? =some x,fun i H x H'=>H'=H∧∀xs,SqL K H a xs→xs[i]? =some x,fun i H=>∃xs,SqL K H a xs∧xs.length≤i⟩
def zc (K:PySem.W.Frag) (a:Addr):It:=
  ⟨fun i H=>∃xs x,SqT K H a xs∧xs[i]? =some x,fun i H x H'=>H'=H∧∀xs,SqT K H a xs→xs[i]? =some x,fun i H=>∃xs,SqT K H a xs∧xs.length≤i⟩
def xB (lo:Int) (n:Nat):It:=⟨fun i _=>i < n,fun i H x H'=>H'=H∧x= .int (lo+i),fun i _=>n≤i⟩
theorem pG {P:Program} {w:World} {K:PySem.W.Frag} {tg:Expr} (a it:Addr):Turn P w K tg (zb K a) [it] it (fun i h=>h.IsListIter it a i) where
  mem:=by simp
  obj:=fun i h st b hb=>by
    have e:b=it:=by simpa using hb
    subst e
    obtain ⟨o,e,c,d⟩:=st
    exact ⟨o,e,fun v z=>by rw [d] at z;cases z⟩
  keep:=fun i h h' st k=>st.at fun o e=>k it (by simp) o e
  item:=by
    intro X hP hw hK hc i pins s σ H E I hf st hg
    subst hP hw hK
    obtain ⟨xs,x,hq,hx⟩:=hg
    obtain ⟨its,rv,p,hz⟩:=I.list hq
    obtain ⟨u,hu,ru⟩:=rv.get hx
    obtain ⟨f0,f1,f2,f3,f4,f5⟩:=hf it (by simp)
    refine wpAny_pyNext_list_item st p.isList (x:=u) (by simpa using hu) fun h' st' sb=>?_
    have I1:Inv X pins σ H {s with heap:=h'}:=I.turned (t':=s.toks) (fun b o hb e=>(sb.2 b hb).trans e) f0 f1 f3 f4 f5
    obtain ⟨o,e,c,d⟩:=id st'
    exact ⟨u,rfl,kq (s:={s with heap:=h'}) e c d (by decide) ⟨x,H,I1,ru,⟨rfl,fun ys hy=>by rw [I.list_inj hy hq];exact hx⟩,st',fun b hb=>(hf b hb).1⟩⟩
  done:=by
    intro X hP hw hK hc i pins s σ H E I hf st hg
    subst hP hw hK
    obtain ⟨xs,hq,hx⟩:=hg
    obtain ⟨its,rv,p,hz⟩:=I.list hq
    obtain ⟨f0,f1,f2,f3,f4,f5⟩:=hf it (by simp)
    have hl:=rv.length
    exact wpAny_pyNext_list_end (I.ok.hd hc) st p.isList (by simp;omega) fun h' eb=>⟨rfl,I.turned (t':=s.toks) (fun b o hb e=>eb b o hb e) f0 f1 f3 f4 f5⟩
  self:=fun _ _ _ _ _ st h=>wpAny_pyIter_listiter st h
theorem nC {P:Program} {w:World} {K:PySem.W.Frag} {tg:Expr} (a it:Addr):Turn P w K tg (zc K a) [it] it (fun i h=>h.IsTupleIter it a i) where
  mem:=by simp
  obj:=fun i h st b hb=>by
    have e:b=it:=by simpa using hb
    subst e
    obtain ⟨o,e,c,d⟩:=st
    exact ⟨o,e,fun v z=>by rw [d] at z;cases z⟩
  keep:=fun i h h' st k=>st.at fun o e=>k it (by simp) o e
  item:=by
    intro X hP hw hK hc i pins s σ H E I hf st hg
    subst hP hw hK
    obtain ⟨xs,x,hq,hx⟩:=hg
    obtain ⟨its,rv,p,hz⟩:=I.tuple hq
    obtain ⟨u,hu,ru⟩:=rv.get hx
    obtain ⟨f0,f1,f2,f3,f4,f5⟩:=hf it (by simp)
    refine wpAny_pyNext_tuple_item st (show s.heap.IsTuple a its.toArray from p) (x:=u) (by simpa using hu) fun h' st' sb=>?_
    have I1:Inv X pins σ H {s with heap:=h'}:=I.turned (t':=s.toks) (fun b o hb e=>(sb.2 b hb).trans e) f0 f1 f3 f4 f5
    obtain ⟨o,e,c,d⟩:=id st'
    exact ⟨u,rfl,kq (s:={s with heap:=h'}) e c d (by decide) ⟨x,H,I1,ru,⟨rfl,fun ys hy=>by rw [I.tuple_inj hy hq];exact hx⟩,st',fun b hb=>(hf b hb).1⟩⟩
  done:=by
    intro X hP hw hK hc i pins s σ H E I hf st hg
    subst hP hw hK
    obtain ⟨xs,hq,hx⟩:=hg
    obtain ⟨its,rv,p,hz⟩:=I.tuple hq
    obtain ⟨f0,f1,f2,f3,f4,f5⟩:=hf it (by simp)
    have hl:=rv.length
    exact wpAny_pyNext_tuple_end (I.ok.hd hc) st (show s.heap.IsTuple a its.toArray from p) (by simp;omega) fun h' eb=>⟨rfl,I.turned (t':=s.toks) (fun b o hb e=>eb b o hb e) f0 f1 f3 f4 f5⟩
  self:=fun _ _ _ _ _ st h=>wpAny_pyIter_tupleiter st h
theorem nD {P:Program} {w:World} {K:PySem.W.Frag} {tg:Expr} (it:Addr) (lo:Int) (n:Nat):Turn P w K tg (xB lo n) [it] it (fun i h=>IsRangeIter h it (lo+(i:Nat)*1) ((n:Int) - (i:Nat)) 1) where
  mem:=by simp
  obj:=fun i h st b hb=>by
    have e:b=it:=by simpa using hb
    subst e
    exact ⟨_,st,fun v z=>by
      have z':Data.fields _=Data.cell v:=z
      cases z'⟩
  keep:=fun i h h' st k=>k it (by simp) _ st
  item:=by
    intro X hP hw hK hc i pins s σ H E I hf st hg
    subst hP hw hK
    obtain ⟨f0,f1,f2,f3,f4,f5⟩:=hf it (by simp)
    have W:=Walks.range (prog:=X.prog) (w:=X.w) (I.ok.hd hc) it lo 1 n
    refine W.item i s _ _ hg st fun v h' tk hv st' kk=>?_
    obtain ⟨t,rfl⟩:=hv
    have I1:Inv X pins σ H {s with heap:=h',toks:=tk}:=I.turned (fun b o hb e=>kk b o (by simpa using hb) e) f0 f1 f3 f4 f5
    refine ⟨_,rfl,kq (s:={s with heap:=h',toks:=tk}) (n:="range_iterator") st' rfl rfl (by decide) ⟨.int (lo+i),H,I1,⟨t,?_⟩,⟨rfl,rfl⟩,st',fun b hb=>(hf b hb).1⟩⟩
    rw [Int.mul_one]
  done:=by
    intro X hP hw hK hc i pins s σ H E I hf st hg
    subst hP hw hK
    obtain ⟨f0,f1,f2,f3,f4,f5⟩:=hf it (by simp)
    exact wpAny_pyNext_range_end (I.ok.hd hc) st (by have:n≤i:=hg;omega) fun h' eb=>⟨rfl,I.turned (t':=s.toks) (fun b o hb e=>eb b o hb e) f0 f1 f3 f4 f5⟩
  self:=fun _ _ _ _ _ st h=>wpAny_pyIter_rangeiter st h
end L2
namespace L2
open PySem PySem.Spec PyProof.Rows
section
variable {X:Cx} {tg:Expr}
def xP (K:PySem.W.Frag) (tl:TE):TI:=fun σ H R=>tl σ H fun x H1=>∃a,x= .ref a∧(∃xs,SqL K H1 a xs)∧R (zb K a) H1
def zd (K:PySem.W.Frag) (tl:TE):TI:=fun σ H R=>tl σ H fun x H1=>∃a,x= .ref a∧(∃xs,SqT K H1 a xs)∧R (zc K a) H1
theorem tV {l:Expr} {tl:TE} (hl:PE X l tl):PI X tg l (xP X.K tl):=by
  intro pins s σ H R I h
  refine ci (hl pins s σ H _ I h) fun v s1 ⟨x,H1,I1,r1,q1⟩=>?_
  obtain ⟨a,e,⟨xs,hq⟩,q⟩:=q1
  subst e
  cases r1
  obtain ⟨its,rv,p,hz⟩:=I1.list hq
  refine wpAny_pyIter_list p.isList ?_
  refine ⟨s1.heap.objs.size,[s1.heap.objs.size],_,_,H1,rfl,I1.kept (t':=s1.toks) fun b o e=>Heap.get?_push_of_some _ e,pG a _,⟨_,Heap.get?_push_size _ rfl,rfl,rfl⟩,fun b hb=>?_,q⟩
  have e:b=s1.heap.objs.size:=by simpa using hb
  subst e
  exact I1.fpOk (Nat.le_refl _) (I1.hok.fresh (Nat.le_refl _))
theorem wc {l:Expr} {tl:TE} (hl:PE X l tl):PI X tg l (zd X.K tl):=by
  intro pins s σ H R I h
  refine ci (hl pins s σ H _ I h) fun v s1 ⟨x,H1,I1,r1,q1⟩=>?_
  obtain ⟨a,e,⟨xs,hq⟩,q⟩:=q1
  subst e
  cases r1
  obtain ⟨its,rv,p,hz⟩:=I1.tuple hq
  refine wpAny_pyIter_tuple (show s1.heap.IsTuple a its.toArray from p) ?_
  refine ⟨s1.heap.objs.size,[s1.heap.objs.size],_,_,H1,rfl,I1.kept (t':=s1.toks) fun b o e=>Heap.get?_push_of_some _ e,nC a _,⟨_,Heap.get?_push_size _ rfl,rfl,rfl⟩,fun b hb=>?_,q⟩
  have e:b=s1.heap.objs.size:=by simpa using hb
  subst e
  exact I1.fpOk (Nat.le_refl _) (I1.hok.fresh (Nat.le_refl _))
theorem qI {pins:List (Addr×Obj)} {σ:St} {H:Hp} {s:Shared} {R:It→Hp→Prop} {E:Value→Shared→Prop} {lo hi:Int} {t u v:Tok} {tk:Nat} (I:Inv X pins σ H s) (h1: -(2 ^ 62)≤lo) (h2:lo < 2 ^ 62) (h3: -(2 ^ 62)≤hi) (h4:hi < 2 ^ 62)
    (q:R (xB lo (hi - lo).toNat) H):wpAny (model X.prog X.w) X.A (pyIter (.ref s.heap.objs.size)) (zZ X pins σ tg R) E {s with heap:=s.heap.push {cls:= .type "range",data:= .fields #[.int lo t, .int hi u, .int 1 v]},toks:=tk}:=by
  refine wpAny_pyIter_range (IsRange.new ..) (small_one h1 h2 h3 h4) ?_
  have I1:Inv X pins σ H {s with heap:=s.heap.push {cls:= .type "range",data:= .fields #[.int lo t, .int hi u, .int 1 v]},toks:=tk}:=I.kept fun b o e=>Heap.get?_push_of_some _ e
  refine ⟨(s.heap.push {cls:= .type "range",data:= .fields #[.int lo t, .int hi u, .int 1 v]}).objs.size,[(s.heap.push {cls:= .type "range",data:= .fields #[.int lo t, .int hi u, .int 1 v]}).objs.size],_,_,H,rfl,
    I1.kept (t':=tk) fun b o e=>Heap.get?_push_of_some _ e,nD _ lo (hi - lo).toNat,?_,fun b hb=>?_,q⟩
  · have e1:lo+((0:Nat):Int)*1=lo:=by simp
    have e2:(((hi - lo).toNat:Nat):Int) - ((0:Nat):Int)=Builtin.Range.rangeSize lo hi 1:=by rw [rangeSize_one];split <;> omega
    show IsRangeIter _ _ (lo+((0:Nat):Int)*1) ((((hi - lo).toNat:Nat):Int) - ((0:Nat):Int)) 1
    rw [e1,e2]
    exact Heap.get?_push_size _ rfl
  · have e:b=(s.heap.push {cls:= .type "range",data:= .fields #[.int lo t, .int hi u, .int 1 v]}).objs.size:=by simpa using hb
    subst e
    exact I1.fpOk (Nat.le_refl _) (I1.hok.fresh (Nat.le_refl _))
def vv (ta:TA):TI:=fun σ H R=>ta σ H fun vs H1=>∃j:Int,vs=[.int j]∧ -(2 ^ 62)≤j∧j < 2 ^ 62∧R (xB 0 j.toNat) H1
theorem pH {a:Expr} {ta:TA} {p pos:Pos} (hg:Gl X "range") (hm:X.mg "range"=none) (ha:PA X [a] ta) (hs:starEach [a] X.env=[(false,eval a X.env)]:=by rfl):PI X tg (.Call (.Name "range" p) [a] [] pos) (vv ta):=by
  intro pins s σ H R I h
  refine Call_ (im I hg hm boot_range (PyProof.Rows.callWith_type1 (ci (ha pos pins s σ H _ I h) fun us s1 ⟨vs,H1,I1,r1,q1⟩=>?_) hs rfl))
  obtain ⟨j,e,q1,q2,q⟩:=q1
  subst e
  cases r1 with
  | cons r rr=>
    cases rr
    obtain ⟨t,rfl⟩:=r
    exact call_range_1 (qI I1 (by omega) (by omega) q1 q2 (by simpa using q))
def ze (wi:TI) (g:TG) (tb:TS):TS:=fun D σ H=>wi σ H fun J H1=>∃W:Nat→Nat→St→Hp→Prop,(∃m,W 0 m σ H1)∧∀i m σ H,W i m σ H→
  (J.stop i H∧D.nx σ H)∨(J.go i H∧∃N:St→Hp→Prop,(∀σ' H',N σ' H'→∃m',m' < m∧W (i+1) m' σ' H')∧∀x H',J.yld i H x H'→g x σ H' fun σ2 H2=>tb {D with nx:=N,ct:=N,bk:=D.nx} σ2 H2)
def ip (fp:List Addr) (h:Heap):List (Addr×Obj):=fp.filterMap fun b=>(h.get? b).map fun o=>(b,o)
theorem dL {fp:List Addr} {h:Heap} {b:Addr} {o:Obj} (hb:b∈fp) (e:h.get? b=some o):(b,o)∈ip fp h:=List.mem_filterMap.mpr ⟨b,hb,by rw [e];rfl⟩
theorem pI {fp:List Addr} {h:Heap} {p:Addr×Obj} (hp:p∈ip fp h):p.1∈fp∧h.get? p.1=some p.2:=by
  obtain ⟨b,hb,e⟩:=List.mem_filterMap.mp hp
  cases q:h.get? b with
  | none=>rw [q] at e;cases e
  | some o=>
    rw [q] at e
    have e':(b,o)=p:=Option.some.inj e
    subst e'
    exact ⟨hb,q⟩
theorem Inv.pinned {pins:List (Addr×Obj)} {σ:St} {H:Hp} {s:Shared} {fp:List Addr} (I:Inv X pins σ H s) (hf:∀b∈fp,io X pins H b) (ho:∀b∈fp,∃o,s.heap.get? b=some o∧∀v,o.data≠ .cell v):Inv X (pins++ip fp s.heap) σ H s:=
  I.pins_of fun p hp=>(List.mem_append.mp hp).elim (fun z=>I.pin p (List.mem_append_right _ z)) fun z=>by
    obtain ⟨hb,e⟩:=pI z
    obtain ⟨f0,f1,f2,_⟩:=hf p.1 hb
    obtain ⟨o,e',d⟩:=ho p.1 hb
    rw [e] at e';cases e'
    exact ⟨e,f0,f1,f2,d⟩
theorem Inv.unpinned {pins pl:List (Addr×Obj)} {σ:St} {H:Hp} {s:Shared} (I:Inv X (pins++pl) σ H s):Inv X pins σ H s:=I.pins_of fun p hp=>I.pin p (List.mem_append_right _ (List.mem_append_left _ hp))
theorem qJ {iter:Expr} {body:List Stmt} {wi:TI} {g:TG} {tb:TS} {pos:Pos} (hp:PassesOwn (model X.prog X.w) X.A X.env X.xe) (hc:X.calm=true) (hi:PI X tg iter wi) (hg:PG X tg g) (hb:PSs X body tb)
    (hs:∀x,foldedSetIterable iter X.env x=pure x:=by intro _;rfl):PS X (.For tg iter body [] pos) (ze wi g tb):=by
  intro pins s σ H D I h
  refine wpAny_For (ci (hi pins s σ H _ I h) fun v s1 h1=>ci h1 fun itv s2 h2=>?_) hs
  obtain ⟨it,fp,tn,J,H2,e,I2,T,st2,f2,W,⟨m0,w0⟩,turn⟩:=h2
  subst e
  -- what stays true of the iterator's objects through the loop
  have stat:∀{H':Hp},(∀b∈fp,H' b=none)→∀b∈fp,io X pins H' b:=fun hn b hb=>⟨hn b hb,(f2 b hb).2⟩
  refine codeAny_forLoop_any (fun n s'=>∃i σ' H',Inv X pins σ' H' s'∧tn i s'.heap∧(∀b∈fp,H' b=none)∧W i n σ' H') ?_ m0 ⟨0,σ,H2,I2,st2,fun b hb=>(f2 b hb).1,w0⟩
  rintro n s3 ⟨i,σ3,H3,I3,st3,fr3,w3⟩
  rcases turn i n σ3 H3 w3 with ⟨stop,qn⟩ | ⟨go,N,hN,step⟩
  · refine wpAny_passesOwn hp (ci (T.done X rfl rfl rfl hc i pins s3 σ3 H3 X.xe I3 (stat fr3) st3 stop) fun r s4 ⟨hr,I4⟩=>?_)
    subst hr
    exact wpAny_execs_nil ⟨σ3,H3,I4,qn⟩
  · refine wpAny_passesOwn hp (ci (T.item X rfl rfl rfl hc i pins s3 σ3 H3 X.xe I3 (stat fr3) st3 go) fun r s4 ⟨u,hr,h4⟩=>?_)
    subst hr
    refine wpAny_passesOwn hp (ci h4 fun _ s5 ⟨x,H5,I5,r5,y5,st5,fr5⟩=>?_)
    have I5':=I5.pinned (stat fr5) (T.obj _ _ st5)
    refine wpAny_passesOwn hp (ci (hg _ s5 σ3 H5 x u _ I5' r5 (step x H5 y5)) fun _ s6 ⟨σ6,H6,I6,q6⟩=>?_)
    refine wpAny_passesOwn hp (ci (hb _ s6 σ6 H6 _ I6 q6) fun f s7 q7=>?_)
    have again:∀{σ7:St} {H7:Hp},Inv X (pins++ip fp s5.heap) σ7 H7 s7→N σ7 H7→∃m,m < n∧∃i σ' H',Inv X pins σ' H' s7∧tn i s7.heap∧(∀b∈fp,H' b=none)∧W i m σ' H':=fun {σ7 H7} I7 n7=>by
      obtain ⟨m',hm,w7⟩:=hN σ7 H7 n7
      refine ⟨m',hm,i+1,σ7,H7,I7.unpinned,T.keep _ _ _ st5 fun b hb o e=>(I7.pin (b,o) (List.mem_append_right _ (List.mem_append_right _ (dL hb e)))).1,fun b hb=>?_,w7⟩
      obtain ⟨o,e,d⟩:=T.obj _ _ st5 b hb
      exact (I7.pin (b,o) (List.mem_append_right _ (List.mem_append_right _ (dL hb e)))).2.1
    cases f with
    | next=>obtain ⟨σ7,H7,I7,n7⟩:=q7;exact again I7 n7
    | cont=>obtain ⟨σ7,H7,I7,n7⟩:=q7;exact again I7 n7
    | brk=>obtain ⟨σ7,H7,I7,q7⟩:=q7;exact ⟨σ7,H7,I7.unpinned,q7⟩
    | ret v=>obtain ⟨x7,σ7,H7,I7,r7,q7⟩:=q7;exact ⟨x7,σ7,H7,I7.unpinned,r7,q7⟩
end
end L2
namespace L2
open PySem PySem.Spec PyProof.Rows
abbrev R2:=V→V→Hp→VK→Prop
def OpR (X:Cx) (f:Value→Value→Sem Value) (r:R2):Prop:=
  ∀(pins:List (Addr×Obj)) (s:Shared) (σ:St) (H:Hp) (x y:V) (v u:Value) (Q:VK),Inv X pins σ H s→RelV x v→RelV y u→r x y H Q→
    wpAny (model X.prog X.w) X.A (f v u) (EP X pins σ Q) X.xe s
def zf (X:Cx) (f:Value→Sem Value) (r:V→Hp→VK→Prop):Prop:=
  ∀(pins:List (Addr×Obj)) (s:Shared) (σ:St) (H:Hp) (x:V) (v:Value) (Q:VK),Inv X pins σ H s→RelV x v→r x H Q→
    wpAny (model X.prog X.w) X.A (f v) (EP X pins σ Q) X.xe s
def CallR (X:Cx) (f:Value) (r:List V→Hp→VK→Prop):Prop:=
  ∀(pins:List (Addr×Obj)) (s:Shared) (σ:St) (H:Hp) (xs:List V) (us:List Value) (Q:VK),Inv X pins σ H s→Vals xs us→r xs H Q→
    wpAny (model X.prog X.w) X.A (call f us) (EP X pins σ Q) X.xe s
def zg (X:Cx) (r:V→Hp→(Bool→Hp→Prop)→Prop):Prop:=
  ∀(pins:List (Addr×Obj)) (s:Shared) (σ:St) (H:Hp) (x:V) (v:Value) (Q:Bool→Hp→Prop),Inv X pins σ H s→RelV x v→r x H Q→
    wpAny (model X.prog X.w) X.A (truthy v) (TP X pins σ Q) X.xe s
def xQ (r:R2) (ta tb:TE):TE:=fun σ H Q=>ta σ H fun x H1=>tb σ H1 fun y H2=>r x y H2 Q
def Am (r:V→Hp→VK→Prop) (ta:TE):TE:=fun σ H Q=>ta σ H fun x H1=>r x H1 Q
def rI (C:Int→Int→Prop) (g:Int→Int→V):R2:=fun x y H Q=>∃i j,x= .int i∧y= .int j∧C i j∧Q (g i j) H
def vw (g:Int→Int→V):R2:=fun x y H Q=>∃i j,x= .int i∧y= .int j∧Q (g i j) H
def rU (g:Int→V):V→Hp→VK→Prop:=fun x H Q=>∃i,x= .int i∧Q (g i) H
section
variable {X:Cx} {a b c:Expr} {ta tb tc:TE} {pos:Pos}
theorem wd (ha:PE X a ta) (hb:PE X b tb) {pins:List (Addr×Obj)} {s:Shared} {σ:St} {H:Hp} {R:V→V→Hp→Prop} (I:Inv X pins σ H s)
    (h:ta σ H fun x H1=>tb σ H1 fun y H2=>R x y H2) {Q:Value→Shared→Prop} {f:Value→Value→Sem Value}
    (hf:∀v u s2 x y H2,Inv X pins σ H2 s2→RelV x v→RelV y u→R x y H2→wpAny (model X.prog X.w) X.A (f v u) Q X.xe s2):
    wpAny (model X.prog X.w) X.A (eval a X.env) (fun v s₁=>wpAny (model X.prog X.w) X.A (eval b X.env) (fun u s₂=>wpAny (model X.prog X.w) X.A (f v u) Q X.xe s₂) X.xe s₁) X.xe s:=by
  refine ci (ha pins s σ H _ I h) fun v s1 ⟨x,H1,I1,r1,q1⟩=>?_
  refine ci (hb pins s1 σ H1 _ I1 q1) fun u s2 ⟨y,H2,I2,r2,q2⟩=>?_
  exact hf v u s2 x y H2 I2 r1 r2 q2
theorem xR {op:Operator} {r:R2} (ho:OpR X (binaryOp op) r) (ha:PE X a ta) (hb:PE X b tb):PE X (.BinOp a op b pos) (xQ r ta tb):=by
  intro pins s σ H Q I h
  exact wpAny_BinOp (wd ha hb I h fun v u s2 x y H2 I2 rx ry q=>ho pins s2 σ H2 x y v u Q I2 rx ry q)
theorem xS {op:UnaryOp} {r:V→Hp→VK→Prop} (ho:zf X (unaryOp op) r) (ha:PE X a ta):PE X (.UnaryOp op a pos) (Am r ta):=by
  intro pins s σ H Q I h
  exact UnaryOp_ (ci (ha pins s σ H _ I h) fun v s1 ⟨x,H1,I1,r1,q1⟩=>ho pins s1 σ H1 x v Q I1 r1 q1)
theorem yS {f:Value→Value→Sem Value} {C:Int→Int→Prop} {g:Int→Int→Int}
    (rule:∀(i j:Int) (t u:Tok) (s:Shared) (Q:Value→Shared→Prop) (E:Value→Shared→Prop),C i j→Q (.int (g i j) s.toks) {s with toks:=s.toks+1}→wpAny (model X.prog X.w) X.A (f (.int i t) (.int j u)) Q E s):
    OpR X f (rI C fun i j=> .int (g i j)):=by
  intro pins s σ H x y v u Q I rx ry h
  obtain ⟨i,j,rfl,rfl,hc,q⟩:=h
  obtain ⟨t,rfl⟩:=rx
  obtain ⟨t',rfl⟩:=ry
  exact rule i j t t' s _ _ hc ⟨.int (g i j),H,I.tok _,⟨_,rfl⟩,q⟩
theorem xT {f:Value→Value→Sem Value} {g:Int→Int→Int}
    (rule:∀(i j:Int) (t u:Tok) (s:Shared) (Q:Value→Shared→Prop) (E:Value→Shared→Prop),Q (.int (g i j) s.toks) {s with toks:=s.toks+1}→wpAny (model X.prog X.w) X.A (f (.int i t) (.int j u)) Q E s):
    OpR X f (vw fun i j=> .int (g i j)):=by
  intro pins s σ H x y v u Q I rx ry h
  obtain ⟨i,j,rfl,rfl,q⟩:=h
  obtain ⟨t,rfl⟩:=rx
  obtain ⟨t',rfl⟩:=ry
  exact rule i j t t' s _ _ ⟨.int (g i j),H,I.tok _,⟨_,rfl⟩,q⟩
theorem tW {f:Value→Value→Sem Value} {g:Int→Int→Bool}
    (rule:∀(i j:Int) (t u:Tok) (s:Shared) (Q:Value→Shared→Prop) (E:Value→Shared→Prop),Q (.bool (g i j)) s→wpAny (model X.prog X.w) X.A (f (.int i t) (.int j u)) Q E s):
    OpR X f (vw fun i j=> .bl (g i j)):=by
  intro pins s σ H x y v u Q I rx ry h
  obtain ⟨i,j,rfl,rfl,q⟩:=h
  obtain ⟨t,rfl⟩:=rx
  obtain ⟨t',rfl⟩:=ry
  exact rule i j t t' s _ _ ⟨.bl (g i j),H,I,rfl,q⟩
def xU (i j:Int):Prop:=0≤j∧j≤1000000∧i.natAbs < 2 ^ 64
def CMul (i j:Int):Prop:=(-(2 ^ 64) < i∧i < 2 ^ 64)∨(-(2 ^ 64) < j∧j < 2 ^ 64)
theorem CMul.ok {i j:Int} (h:CMul i j):IntMulOk i j:=by
  rcases h with ⟨h1,h2⟩ | ⟨h1,h2⟩
  · exact .of_left (intBits_le_64 h1 h2)
  · exact .of_right (intBits_le_64 h1 h2)
theorem we:OpR X (binaryOp .Add) (vw fun i j=> .int (i+j)):=xT fun _ _ _ _ _ _ _ q=>add_int q
theorem wf:OpR X (binaryOp .Sub) (vw fun i j=> .int (i - j)):=xT fun _ _ _ _ _ _ _ q=>sub_int q
theorem wg:OpR X (binaryOp .Mod) (rI (fun _ j=>0 < j) fun i j=> .int (i % j)):=yS fun i j _ _ _ _ _ hc q=>by
  have h1:(0:Int) < j:=hc
  exact mod_int' (by omega) (by rw [Int.fmod_eq_emod_of_nonneg i (by omega)];exact q)
theorem wj:OpR X (binaryOp .Pow) (rI xU fun i j=> .int (i ^ j.toNat)):=yS fun _ _ _ _ _ _ _ hc q=>pow_int_small hc.1 hc.2.1 hc.2.2 q
theorem An {f:Value→Sem Value} {g:Int→Int}
    (rule:∀(i:Int) (t:Tok) (s:Shared) (Q:Value→Shared→Prop) (E:Value→Shared→Prop),Q (.int (g i) s.toks) {s with toks:=s.toks+1}→wpAny (model X.prog X.w) X.A (f (.int i t)) Q E s):
    zf X f (rU fun i=> .int (g i)):=by
  intro pins s σ H x v Q I rx h
  obtain ⟨i,rfl,q⟩:=h
  obtain ⟨t,rfl⟩:=rx
  exact rule i t s _ _ ⟨.int (g i),H,I.tok _,⟨_,rfl⟩,q⟩
theorem wk:zf X (unaryOp .USub) (rU fun i=> .int (-i)):=An fun _ _ _ _ _ q=>neg_int q
end
def wl:V→V→Bool
  | .non, .non=>true | .non, .int _=>true | .int _, .non=>true | .non, .bl _=>true | .bl _, .non=>true | .non, .str _=>true | .str _, .non=>true
  | .int _, .int _=>true | .bl _, .bl _=>true | .str _, .str _=>true | .byt _, .byt _=>true
  | .int _, .str _=>true | .str _, .int _=>true | .bl _, .str _=>true | .str _, .bl _=>true
  | _,_=>false
def z0:R2:=fun x y H Q=>wl x y=true∧Q (.bl (decide (x=y))) H
def z_:R2:=fun x y H Q=>wl x y=true∧Q (.bl (!decide (x=y))) H
theorem oF {i j:Int}:decide (V.int i=V.int j)=(i == j):=by
  rw [Bool.eq_iff_iff]
  simp
theorem qK {i j:Bool}:decide (V.bl i=V.bl j)=(i == j):=by
  rw [Bool.eq_iff_iff]
  simp
theorem oG {i j:Str}:decide (V.str i=V.str j)=(i == j):=by
  rw [Bool.eq_iff_iff]
  simp
theorem oH {i j:Array UInt8}:decide (V.byt i=V.byt j)=(i.toList == j.toList):=by
  rw [Bool.eq_iff_iff]
  cases i
  cases j
  simp
section
variable {X:Cx} {a b c:Expr} {ta tb tc:TE} {pos:Pos}
theorem aW {pins:List (Addr×Obj)} {σ:St} {H:Hp} {s:Shared} {Q:VK} {k k':Bool} (I:Inv X pins σ H s) (q:Q (.bl k) H) (e:k=k'):EP X pins σ Q (.bool k') s:=by
  subst e
  exact ⟨.bl k,H,I,rfl,q⟩
theorem vx:OpR X (compareOp .Eq) z0:=by
  intro pins s σ H x y v u Q I rx ry h
  obtain ⟨hs,q⟩:=h
  cases x with
  | non=>
    cases rx
    cases y with
    | non=>cases ry;exact PySem.EqNone.eq_none_none (aW I q (by simp))
    | bl j=>cases ry;exact PySem.EqNone.eq_none_bool (aW I q (by simp))
    | int j=>obtain ⟨t',rfl⟩:=ry;exact PySem.EqNone.eq_none_int (aW I q (by simp))
    | str j=>obtain ⟨t',rfl⟩:=ry;exact PySem.EqNone.eq_none_str (aW I q (by simp))
    | _=>exact absurd (show false=true from hs) Bool.false_ne_true
  | bl i=>
    cases rx
    cases y with
    | non=>cases ry;exact PySem.EqNone.eq_bool_none (aW I q (by simp))
    | bl j=>cases ry;exact eq_bool (aW I q qK)
    | str j=>obtain ⟨t',rfl⟩:=ry;exact PySem.EqMixed.eq_bool_str (aW I q (by simp))
    | _=>exact absurd (show false=true from hs) Bool.false_ne_true
  | int i=>
    obtain ⟨t,rfl⟩:=rx
    cases y with
    | non=>cases ry;exact PySem.EqNone.eq_int_none (aW I q (by simp))
    | int j=>obtain ⟨t',rfl⟩:=ry;exact eq_int (aW I q oF)
    | str j=>obtain ⟨t',rfl⟩:=ry;exact PySem.EqMixed.eq_int_str (aW I q (by simp))
    | _=>exact absurd (show false=true from hs) Bool.false_ne_true
  | str i=>
    obtain ⟨t,rfl⟩:=rx
    cases y with
    | non=>cases ry;exact PySem.EqNone.eq_str_none (aW I q (by simp))
    | bl j=>cases ry;exact PySem.EqMixed.eq_str_bool (aW I q (by simp))
    | int j=>obtain ⟨t',rfl⟩:=ry;exact PySem.EqMixed.eq_str_int (aW I q (by simp))
    | str j=>obtain ⟨t',rfl⟩:=ry;exact eq_str (aW I q oG)
    | _=>exact absurd (show false=true from hs) Bool.false_ne_true
  | byt i=>
    obtain ⟨t,rfl⟩:=rx
    cases y with
    | byt j=>obtain ⟨t',rfl⟩:=ry;exact PySem.W.eq_bytes (aW I q oH)
    | _=>exact absurd (show false=true from hs) Bool.false_ne_true
  | _=>cases y <;> exact absurd (show false=true from hs) Bool.false_ne_true
theorem vy:OpR X (compareOp .NotEq) z_:=by
  intro pins s σ H x y v u Q I rx ry h
  obtain ⟨hs,q⟩:=h
  cases x with
  | non=>
    cases rx
    cases y with
    | non=>cases ry;exact PySem.EqNone.ne_none_none (aW I q (by simp))
    | bl j=>cases ry;exact PySem.EqNone.ne_none_bool (aW I q (by simp))
    | int j=>obtain ⟨t',rfl⟩:=ry;exact PySem.EqNone.ne_none_int (aW I q (by simp))
    | str j=>obtain ⟨t',rfl⟩:=ry;exact PySem.EqNone.ne_none_str (aW I q (by simp))
    | _=>exact absurd (show false=true from hs) Bool.false_ne_true
  | bl i=>
    cases rx
    cases y with
    | non=>cases ry;exact PySem.EqNone.ne_bool_none (aW I q (by simp))
    | bl j=>cases ry;exact ne_bool (aW I q (congrArg not qK))
    | str j=>obtain ⟨t',rfl⟩:=ry;exact PySem.EqMixed.ne_bool_str (aW I q (by simp))
    | _=>exact absurd (show false=true from hs) Bool.false_ne_true
  | int i=>
    obtain ⟨t,rfl⟩:=rx
    cases y with
    | non=>cases ry;exact PySem.EqNone.ne_int_none (aW I q (by simp))
    | int j=>obtain ⟨t',rfl⟩:=ry;exact ne_int (aW I q (congrArg not oF))
    | str j=>obtain ⟨t',rfl⟩:=ry;exact PySem.EqMixed.ne_int_str (aW I q (by simp))
    | _=>exact absurd (show false=true from hs) Bool.false_ne_true
  | str i=>
    obtain ⟨t,rfl⟩:=rx
    cases y with
    | non=>cases ry;exact PySem.EqNone.ne_str_none (aW I q (by simp))
    | bl j=>cases ry;exact PySem.EqMixed.ne_str_bool (aW I q (by simp))
    | int j=>obtain ⟨t',rfl⟩:=ry;exact PySem.EqMixed.ne_str_int (aW I q (by simp))
    | str j=>obtain ⟨t',rfl⟩:=ry;exact ne_str (aW I q (congrArg not oG))
    | _=>exact absurd (show false=true from hs) Bool.false_ne_true
  | byt i=>
    obtain ⟨t,rfl⟩:=rx
    cases y with
    | byt j=>obtain ⟨t',rfl⟩:=ry;exact PySem.W.ne_bytes (aW I q (congrArg not oH))
    | _=>exact absurd (show false=true from hs) Bool.false_ne_true
  | _=>cases y <;> exact absurd (show false=true from hs) Bool.false_ne_true
theorem xV:OpR X (compareOp .Lt) (vw fun i j=> .bl (decide (i < j))):=tW fun _ _ _ _ _ _ _ q=>lt_int q
theorem xW:OpR X (compareOp .LtE) (vw fun i j=> .bl (decide (i≤j))):=tW fun _ _ _ _ _ _ _ q=>le_int q
theorem xX:OpR X (compareOp .Gt) (vw fun i j=> .bl (decide (j < i))):=tW fun _ _ _ _ _ _ _ q=>gt_int q
theorem xY:OpR X (compareOp .GtE) (vw fun i j=> .bl (decide (j≤i))):=tW fun _ _ _ _ _ _ _ q=>ge_int q
theorem pJ:OpR X (compareOp .Lt) (fun x y H Q=>∃i j,x= .str i∧y= .str j∧Q (.bl (decide (i.cps.toList < j.cps.toList))) H):=by
  intro pins s σ H x y v u Q I rx ry h
  obtain ⟨i,j,rfl,rfl,q⟩:=h
  obtain ⟨t,rfl⟩:=rx
  obtain ⟨t',rfl⟩:=ry
  exact lt_str (aW I q rfl)
theorem OpR.or {f:Value→Value→Sem Value} {r r':R2} (h:OpR X f r) (h':OpR X f r'):OpR X f (fun x y H Q=>r x y H Q∨r' x y H Q):=by
  intro pins s σ H x y v u Q I rx ry q
  rcases q with q | q
  · exact h pins s σ H x y v u Q I rx ry q
  · exact h' pins s σ H x y v u Q I rx ry q
theorem jv (b:Expr) {op:CmpOp} (h:op≠ .In:=by decide) (h2:op≠ .NotIn:=by decide):behindInMarks op b=false:=by
  have e1:(op == CmpOp.In)=false:=by cases op <;> first | rfl | exact absurd rfl h
  have e2:(op == CmpOp.NotIn)=false:=by cases op <;> first | rfl | exact absurd rfl h2
  cases b <;> simp [behindInMarks,e1,e2]
theorem tX {op:CmpOp} {r:R2} (ho:OpR X (compareOp op) r) (ha:PE X a ta) (hb:PE X b tb) (hm:behindInMarks op b=false):PE X (.Compare a [op] [b] pos) (xQ r ta tb):=by
  intro pins s σ H Q I h
  exact wpAny_Compare1 (wd ha hb I h fun v u s2 x y H2 I2 rx ry q=>ho pins s2 σ H2 x y v u Q I2 rx ry q) hm
def xZ (t:TE):TT:=fun σ H Q=>t σ H fun x H'=>∃k,x= .bl k∧Q k H'
theorem tY {op:CmpOp} {r:R2} (ho:OpR X (compareOp op) r) (ha:PE X a ta) (hb:PE X b tb) (hm:behindInMarks op b=false):PT X (.Compare a [op] [b] pos) (xZ (xQ r ta tb)):=by
  intro pins s σ H Q I h
  refine wpAny_isTrue_Compare1 (ci (ha pins s σ H _ I h) fun v s1 ⟨x,H1,I1,r1,q1⟩=>ci (hb pins s1 σ H1 _ I1 q1) fun u s2 ⟨y,H2,I2,r2,q2⟩=>
    ci (ho pins s2 σ H2 x y v u _ I2 r1 r2 q2) fun c s3 ⟨z,H3,I3,r3,k,e,q3⟩=>?_) hm
  subst e
  cases r3
  exact wpAny_truthy_bool ⟨H3,I3,q3⟩
def qL (r r':R2) (ta tb tc:TE):TE:=fun σ H Q=>ta σ H fun x H1=>tb σ H1 fun y H2=>r x y H2 fun z H3=>∃k,z= .bl k∧
  (if k=true then tc σ H3 fun w' H4=>r' y w' H4 Q else Q (.bl false) H3)
theorem qM {op op':CmpOp} {r r':R2} (ho:OpR X (compareOp op) r) (ho':OpR X (compareOp op') r') (ha:PE X a ta) (hb:PE X b tb) (hc:PE X c tc)
    (hm:lastMarks [op,op'] [b,c]=false:=by with_unfolding_all rfl):PE X (.Compare a [op,op'] [b,c] pos) (qL r r' ta tb tc):=by
  intro pins s σ H Q I h
  refine Compare_chain (ci (ha pins s σ H _ I h) fun v s1 ⟨x,H1,I1,r1,q1⟩=>chain_link (ci (hb pins s1 σ H1 _ I1 q1) fun u s2 ⟨y,H2,I2,r2,q2⟩=>
    ci (ho pins s2 σ H2 x y v u _ I2 r1 r2 q2) fun d s3 ⟨z,H3,I3,r3,k,e,q3⟩=>?_)) hm
  subst e
  cases r3
  refine wpAny_truthy_bool ?_
  cases k with
  | false=>exact ite_ff ⟨.bl false,H3,I3,rfl,q3⟩
  | true=>exact ite_tt (chain_last (ci (hc pins s3 σ H3 _ I3 q3) fun w' s4 ⟨z',H4,I4,r4,q4⟩=>ho' pins s4 σ H4 y z' u w' Q I4 r2 r4 q4))
def qN (K:PySem.W.Frag) (x:V) (H:Hp) (k:Bool):Prop:=
  match x with
  | .non=>k=false
  | .bl b=>k=b
  | .int i=>k=(i != 0)
  | .str y=>y.length≤sizeLine∧k=((y.length:Int) != 0)
  | .byt y=>y.size≤sizeLine∧k=((y.size:Int) != 0)
  | .ref p=>(∃xs,SqL K H p xs∧k= !xs.isEmpty)∨(∃xs,SqT K H p xs∧k= !xs.isEmpty)∨∃kvs,H p=some (.dK kvs)∧k= !kvs.isEmpty
  | _=>False
theorem nE {κ:Type} {kvs:List (κ×V)} {vs:List (κ×Value)} (r:KV kvs vs):(!vs.isEmpty)= !kvs.isEmpty:=by
  cases r <;> rfl
theorem jw {xs:List V} {its:List Value} (r:Vals xs its):(!its.toArray.isEmpty)= !xs.isEmpty:=by
  cases r <;> simp
theorem iq:(sizeLine:Nat) < 2 ^ 63:=by rw [sizeLine_eq];decide
theorem wm:zg X (fun x H Q=>∃k,qN X.K x H k∧Q k H):=by
  intro pins s σ H x v Q I rx h
  obtain ⟨k,e,q⟩:=h
  have hl:=iq
  have hs:sizeLine=16777216:=sizeLine_eq
  cases x with
  | non=>
    cases rx
    have e':k=false:=e
    subst e'
    exact truthy_none ⟨H,I,q⟩
  | bl b=>
    cases rx
    have e':k=b:=e
    subst e'
    exact wpAny_truthy_bool ⟨H,I,q⟩
  | int i=>
    obtain ⟨t,rfl⟩:=rx
    have e':k=(i != 0):=e
    subst e'
    exact PySem.P.truthy_int ⟨H,I,q⟩
  | str y=>
    obtain ⟨t,rfl⟩:=rx
    obtain ⟨hy,e'⟩:y.length≤sizeLine∧k=((y.length:Int) != 0):=e
    subst e'
    exact PySem.P.truthy_str (by omega) ⟨H,I.tok _,q⟩
  | byt y=>
    obtain ⟨t,rfl⟩:=rx
    obtain ⟨hy,e'⟩:y.size≤sizeLine∧k=((y.size:Int) != 0):=e
    subst e'
    exact PySem.W.truthy_bytes (by omega) ⟨H,I.tok _,q⟩
  | ref p=>
    cases rx
    have e':(∃xs,SqL X.K H p xs∧k= !xs.isEmpty)∨(∃xs,SqT X.K H p xs∧k= !xs.isEmpty)∨∃kvs,H p=some (.dK kvs)∧k= !kvs.isEmpty:=e
    rcases e' with ⟨xs,hx,e'⟩ | ⟨xs,hx,e'⟩ | ⟨kvs,hx,e'⟩
    · subst e'
      obtain ⟨its,r,pl,hz⟩:=I.list hx
      have hlen:=r.length
      exact wpAny_truthy_list pl.isList (by simp only [List.size_toArray];omega) ⟨H,I.tok _,by rw [jw r];exact q⟩
    · subst e'
      obtain ⟨its,r,pl,hz⟩:=I.tuple hx
      have hlen:=r.length
      exact truthy_tuple pl (by simp only [List.size_toArray];omega) ⟨H,I.tok _,by rw [jw r];exact q⟩
    · subst e'
      obtain ⟨hz,hS,vs,r,m⟩:kvs.length≤sizeLine∧(p == sysModules)=false∧∃vs,KV kvs vs∧s.heap.DictOf (bV X.prog X.w) p vs:=I.hok p _ hx
      have hlen:kvs.length=vs.length:=Paired.length r
      exact wpAny_truthy_dict hS m (by omega) ⟨H,I.tok _,by rw [nE r];exact q⟩
  | _=>exact (show False from e).elim
theorem qO (ha:PE X a ta) (he:∀whole,isTrue a X.env whole=(do let v ←whole;standAt a.pos;holding [v] (truthy v))):
    PT X a (fun σ H Q=>ta σ H fun x H'=>∃k,qN X.K x H' k∧Q k H'):=by
  intro pins s σ H Q I h
  exact isTrue_plain (ci (ha pins s σ H _ I h) fun v s1 ⟨x,H1,I1,r1,q1⟩=>wm pins s1 σ H1 x v Q I1 r1 q1) (he _)
theorem nG:OpR X (binaryOp .Add) (fun x y H Q=>∃i j,x= .str i∧y= .str j∧i.length+j.length≤sizeLine∧Q (.str (i++j)) H):=by
  intro pins s σ H x y v u Q I rx ry h
  obtain ⟨i,j,rfl,rfl,hz,q⟩:=h
  obtain ⟨t,rfl⟩:=rx
  obtain ⟨t',rfl⟩:=ry
  exact add_str (fun t' tk=>⟨.str (i++j),H,I.tok _,⟨_,rfl⟩,q⟩) hz
theorem mh {x:V} {us:List Value} (r:Vals [x] us):∃u,us=[u]∧RelV x u:=by
  cases r with
  | cons r1 r2=>cases r2;exact ⟨_,rfl,r1⟩
theorem qP:CallR X (.builtin "abs") (fun xs H Q=>∃i,xs=[.int i]∧Q (.int (if i < 0 then -i else i)) H):=by
  intro pins s σ H xs us Q I r h
  obtain ⟨i,rfl,q⟩:=h
  obtain ⟨u,rfl,t,rfl⟩:=mh r
  exact call_abs_int fun u tk=>⟨.int (if i < 0 then -i else i),H,I.tok _,⟨_,rfl⟩,q⟩
end
end L2
namespace L2
open PySem PySem.Spec PyProof.Rows
structure ObjM (h:Heap) (x dx C:Addr) (mA:Str→Option Value):Prop where
  obj:h.get? x=some (PySem.W.instObj C dx)
  ns:h.Ns1 dx mA
  ne:dx≠x
theorem pK {h:Heap} {dx:Addr} {mA:Str→Option Value} (n:h.Ns1 dx mA):∃od,h.get? dx=some od∧∀name,PySem.W.lookIn name od=some (mA name):=by
  obtain ⟨o,es,ep,ho,hd,hk,_,hm⟩:=n
  refine ⟨o,ho,fun name=>?_⟩
  have e:=hm name
  unfold nsFind findBy at e
  rw [←Array.find?_toList] at e
  unfold PySem.W.lookIn
  rw [hd]
  dsimp only
  split
  · rename_i y q
    rw [q] at e
    exact congrArg some e
  · rename_i q
    rw [q] at e
    have a:es.toList.any (·.refKey)=false:=by
      rw [List.any_eq_false]
      intro y hy
      obtain ⟨z,t,hkey⟩:=hk y (Array.mem_toList_iff.mp hy)
      simp [DictEntry.refKey,hkey]
    have a':¬es.toList.any (·.refKey)=true:=by rw [a];exact Bool.false_ne_true
    rw [if_neg a']
    exact congrArg some e
theorem ObjM.look {h:Heap} {x dx C:Addr} {mA:Str→Option Value} (I:ObjM h x dx C mA):∃od,PySem.W.InstAt h x (PySem.W.instObj C dx) C (some od)∧∀name,PySem.W.lookIn name od=some (mA name):=
  let ⟨od,ho,hl⟩:=pK I.ns
  ⟨od,⟨I.obj,rfl,rfl,ho⟩,hl⟩
section
variable {P:Program} {w:World} {H H':Hp} {h h':Heap} {a C dx:Addr} {fs fs':List (Str×V)}
theorem tZ (hok:HOk P w H h) (e:H a=some (.ins C dx fs)):∃mA,ObjM h a dx C mA∧(∀f,RelO (fs.lookup f) (mA f))∧PySem.Within mA (fs.map (·.1))∧fs.length≤1000∧H dx=some (.own a):=by
  obtain ⟨d,z,ne,ob,mA,n,r,q⟩:=(show ObjOk P w H h a (.ins C dx fs) from hok a _ e)
  exact ⟨mA,⟨ob,n,ne⟩,r,q,z,d⟩
end
structure Cls (K:PySem.W.Frag) (C:Addr):Prop where
  pg:PySem.W.plainGet K C Str.empty=true
  hd:PySem.W.hasDictIn K C=true
  po:PySem.W.plainOver K C=true
  sa:PySem.W.findIn K (.ref C) "__setattr__"=some (some (.builtin "object.__setattr__"))
theorem Cls.get {K:PySem.W.Frag} {C:Addr} (c:Cls K C) (f:Str):PySem.W.plainGet K C f=true:=c.pg
section
variable {X:Cx} {pins:List (Addr×Obj)} {σ:St} {H:Hp} {s:Shared} {A:Around} {E:Value→Shared→Prop} {Q:Value→Shared→Prop} {c:Value} {b:Bool}
inductive TyOf (K:PySem.W.Frag) (H:Hp):V→Value→Prop where
  | non:TyOf K H .non (.type "NoneType")
  | bl (x:Bool):TyOf K H (.bl x) (.type "bool")
  | int (i:Int):TyOf K H (.int i) (.type "int")
  | str (x:Str):TyOf K H (.str x) (.type "str")
  | flt (x:UInt64):TyOf K H (.flt x) (.type "float")
  | lst {a:Addr} {xs:List V} (e:H a=some (.lst xs)):TyOf K H (.ref a) (.type "list")
  | frz {a:Addr} {o:Obj} {xs:List V} (e:H a=some (.frz o (.lst xs))):TyOf K H (.ref a) (.type "list")
  | tup {a:Addr} {xs:List V} (e:H a=some (.tup xs)):TyOf K H (.ref a) (.type "tuple")
  | dK {a:Addr} {kvs:List (bZ×V)} (e:H a=some (.dK kvs)):TyOf K H (.ref a) (.type "dict")
  | dT {a:Addr} {kvs:List (List bZ×V)} (e:H a=some (.dT kvs)):TyOf K H (.ref a) (.type "dict")
  | ins {a C dx:Addr} {fs:List (Str×V)} (e:H a=some (.ins C dx fs)) (cl:Cls K C) (ha:PySem.W.findIn K (.ref C) "__class__"=some (some (.builtin "object.__class__")))
      (hn:PySem.W.specialIn K (.builtin "object.__class__") "__get__"=some (some (.builtin "getset_descriptor.__get__"))) (htk:PySem.W.takesIn K (.builtin "object.__class__")=some true)
      (hm:PySem.W.mroIn K C (.type "object")=some true):TyOf K H (.ref a) (.ref C)
theorem gE {x:V} {u t:Value} (I:Inv X pins σ H s) (rx:RelV x u) (ty:TyOf X.K H x t) (e:PySem.W.kitOne X.K t c=some b) (h:∀tk,Q (.bool b) {s with toks:=tk}):
    wpAny (model X.prog X.w) A (call (.builtin "isinstance") [u,c]) Q E s:=by
  cases ty with
  | non=>cases (show u=Value.none from rx);exact PySem.W.kia_one PySem.W.kitx_none I.kIn True.intro e (fun z=>nomatch z) h
  | bl y=>cases (show u=Value.bool y from rx);exact PySem.W.kia_one PySem.W.kitx_bool I.kIn True.intro e (fun z=>nomatch z) h
  | int i=>obtain ⟨t,q⟩:=(show ∃t,u=Value.int i t from rx);cases q;exact PySem.W.kia_one PySem.W.kitx_int I.kIn True.intro e (fun z=>nomatch z) h
  | str y=>obtain ⟨t,q⟩:=(show ∃t,u=Value.str y t from rx);cases q;exact PySem.W.kia_one PySem.W.kitx_str I.kIn True.intro e (fun z=>nomatch z) h
  | flt y=>obtain ⟨t,q⟩:=(show ∃t,u=Value.float y t from rx);cases q;exact PySem.W.kia_one PySem.W.kitx_float I.kIn True.intro e (fun z=>nomatch z) h
  | @lst a xs ea=>
    cases (show u=Value.ref a from rx)
    obtain ⟨_,_,n,_,h1⟩:=(show ObjOk X.prog X.w H s.heap a (.lst xs) from I.hok a _ ea)
    exact PySem.W.kia_one PySem.W.kitx_list I.kIn ⟨_,h1,rfl⟩ e (fun z=>nomatch z) h
  | @frz a ob xs ea=>
    cases (show u=Value.ref a from rx)
    obtain ⟨_,_,_,n,_,h1⟩:=(show ObjOk X.prog X.w H s.heap a (.frz ob (.lst xs)) from I.hok a _ ea)
    exact PySem.W.kia_one PySem.W.kitx_list I.kIn ⟨_,h1,rfl⟩ e (fun z=>nomatch z) h
  | @tup a xs ea=>
    cases (show u=Value.ref a from rx)
    obtain ⟨_,_,_,p⟩:=(show ObjOk X.prog X.w H s.heap a (.tup xs) from I.hok a _ ea)
    obtain ⟨o,h1,h2,_⟩:=p
    exact PySem.W.kia_one PySem.W.kitx_tuple I.kIn ⟨o,h1,h2⟩ e (fun z=>nomatch z) h
  | @dK a kvs ea=>
    cases (show u=Value.ref a from rx)
    obtain ⟨_,_,vs,_,p⟩:=(show ObjOk X.prog X.w H s.heap a (.dK kvs) from I.hok a _ ea)
    obtain ⟨o,es,ep,h1,h2,_⟩:=p
    exact PySem.W.kia_one PySem.W.kitx_dict I.kIn ⟨o,h1,h2.1⟩ e (fun z=>nomatch z) h
  | @dT a kvs ea=>
    cases (show u=Value.ref a from rx)
    obtain ⟨_,_,xs,_,o,es,ep,h1,h2,_⟩:=(show ObjOk X.prog X.w H s.heap a (.dT kvs) from I.hok a _ ea)
    exact PySem.W.kia_one PySem.W.kitx_dict I.kIn ⟨o,h1,h2.1⟩ e (fun z=>nomatch z) h
  | @ins a C dx fs ea cl ha hn htk hm=>
    cases (show u=Value.ref a from rx)
    obtain ⟨mA,O,_⟩:=tZ I.hok ea
    obtain ⟨od,J,_⟩:=O.look
    exact PySem.W.kia_one (PySem.W.kitx_own (cl.get _) cl.hd ha hn htk hm) I.kIn J e (fun z=>nomatch z) h
end
end L2
namespace L2
open PySem PySem.Spec PyProof.Rows
structure Room (k:Nat) (A:Around):Prop where
  hd:A.handled=none
  dp:A.depth+3*k+5 < recursionLimit
  un:A.units+16*k+200 < cLine
theorem Room.mono {j k:Nat} {A:Around} (r:Room k A) (h:j≤k):Room j A:=⟨r.hd,by have:=r.dp;omega,by have:=r.un;omega⟩
theorem Room.deeper {k:Nat} {A:Around} (r:Room (k+1) A) (env:Env):Room k (A.deeper env):=
  ⟨r.hd,by have:=r.dp;show A.depth+1+3*k+5 < _;omega,by have:=r.un;show A.units+3+16*k+200 < _;omega⟩
theorem Room.in1 {k:Nat} {A:Around} (r:Room (k+1) A):Room k A.in1:=
  ⟨r.hd,by have:=r.dp;show A.depth+3*k+5 < _;omega,by have:=r.un;show A.units+1+16*k+200 < _;omega⟩
theorem Room.depth {k:Nat} {A:Around} (r:Room k A):A.depth < recursionLimit:=by have:=r.dp;omega
theorem Room.units {k:Nat} {A:Around} (r:Room k A):A.units+64 < cLine:=by have:=r.un;omega
def zh:TA:=fun _ H Q=>Q [] H
def x8 (ta:TE) (tr:TA):TA:=fun σ H Q=>ta σ H fun x H1=>tr σ H1 fun xs H2=>Q (x::xs) H2
section
variable {X:Cx} {e:Expr} {es:List Expr} {te:TE} {t:TA} {pos:Pos}
theorem fj:PA X [] zh:=fun _ _ _ _ H Q I h=>Calls.spliced_nil ⟨[],H,I, .nil,h⟩
theorem cX (ha:PE X e te) (hr:PA X es t) (hs:starEach (e::es) X.env=(false,eval e X.env)::starEach es X.env:=by rfl):PA X (e::es) (x8 te t):=by
  intro pos pins s σ H Q I h
  rw [hs]
  show wpAny _ _ (spliced ((false,eval e X.env)::backTo pos (starEach es X.env))) _ _ s
  refine Calls.spliced_cons (ci (ha pins s σ H _ I h) fun u s1 ⟨x,H1,I1,r1,q1⟩=>?_)
  exact ci (hr pos pins s1 σ H1 _ I1 q1) fun us s2 ⟨xs,H2,I2,r2,q2⟩=>⟨x::xs,H2,I2, .cons r1 r2,q2⟩
def zi (t:TA):TE:=fun σ H Q=>t σ H fun xs H1=>xs.length≤sizeLine∧∀p,H1 p=none→Q (.ref p) (upd H1 p (.tup xs))
def zj (t:TA):TE:=fun σ H Q=>t σ H fun xs H1=>xs.length≤sizeLine∧∀p,H1 p=none→Q (.ref p) (upd H1 p (.lst xs))
theorem wn {x1} (h:PA X es t):PE X (.Tuple es x1 pos) (zi t):=by
  intro pins s σ H Q I hq
  refine wpAny_Tuple_spliced (ci (h pos pins s σ H _ I hq) fun us s1 ⟨xs,H1,I1,r,z,q⟩=>⟨by rw [←r.length];exact z,?_⟩)
  have hf:H1 s1.heap.objs.size=none:=I1.hok.fresh (Nat.le_refl _)
  refine ⟨.ref s1.heap.objs.size,upd H1 s1.heap.objs.size (.tup xs),I1.laid (t':=s1.toks) (fun b u e=>Heap.get?_push_of_some _ e) (Nat.le_refl _) ?_,rfl,q _ hf⟩
  exact ⟨z,us,r,⟨_,Heap.get?_push_size _ rfl,rfl,_,rfl⟩⟩
theorem qQ (h:PA X es t):PE X (.List es pos) (zj t):=by
  intro pins s σ H Q I hq
  refine wpAny_List_spliced (ci (h pos pins s σ H _ I hq) fun us s1 ⟨xs,H1,I1,r,z,q⟩=>⟨by rw [←r.length];exact z,?_⟩)
  have hf:H1 s1.heap.objs.size=none:=I1.hok.fresh (Nat.le_refl _)
  refine ⟨.ref s1.heap.objs.size,upd H1 s1.heap.objs.size (.lst xs),I1.laid (t':=s1.toks) (fun b u e=>Heap.get?_push_of_some _ e) (Nat.le_refl _) ?_,rfl,q _ hf⟩
  exact ⟨z,us,0,r,Heap.get?_push_size _ rfl⟩
end
abbrev Sp:=List V→Hp→VK→XK→Prop
abbrev pL:=List Env→Hp→Shared→XK→Value→Shared→Prop
structure Env0 (P:Program) (w:World) (K:PySem.W.Frag) (mg:Str→Option Value) (base:Heap) (A:Around) (outer:List Env) (s:Shared) (H:Hp):Prop where
  frames:A.frames=some outer
  mod:Mod K mg base
  bs:∀b o,base.get? b=some o→s.heap.get? b=some o∧H b=none
  bsz:base.objs.size≤s.heap.objs.size
  funs:s.heap.FunFrames base outer
  frf:∀b∈gU outer,H b=none
  hok:HOk P w H s.heap
  bare:AllBare s.gens
  tab:∀b q,g4 K b=some q→H b=some (.tbl q)
def CE (outer:List Env) (P:Program) (w:World) (H:Hp) (s:Shared) (Q:VK) (u:Value) (s':Shared):Prop:=
  ∃v H',s'.os=s.os∧AllBare s'.gens∧Un (gU outer) [] H H' s.heap s'.heap∧HOk P w H' s'.heap∧RelV v u∧Q v H'
def CR (CX:pL) (outer:List Env) (P:Program) (w:World) (H:Hp) (s:Shared) (Q:VK) (E:XK) (r:Result) (s':Shared):Prop:=
  match r with
  | .ok (.ret u)=>CE outer P w H s Q u s'
  | .ok _=>False
  | .error e=>CX outer H s E e s'
structure FnOk (P:Program) (w:World) (K:PySem.W.Frag) (mg:Str→Option Value) (base:Heap) (CX:pL) (k:Nat) (f:Addr) (fd:FuncData) (ps:List Str) (sp:Sp):Prop where
  len:∀vs H Q E,sp vs H Q E→vs.length=ps.length
  run:∀(A:Around) (outer:List Env) (s:Shared) (H:Hp) (args:Args) (us:List Value) (vs:List V) (Q:VK) (E:XK),Room k A→Env0 P w K mg base A outer s H→BindsTo s fd args (ps.zip us)→Vals vs us→sp vs H Q E→
    codeAny (model P w) A (.call (.ref f) args) (CR CX outer P w H s Q E) s
theorem FnOk.mono {P:Program} {w:World} {K:PySem.W.Frag} {mg:Str→Option Value} {base:Heap} {CX:pL} {j k:Nat} {f:Addr} {fd:FuncData} {ps:List Str} {sp:Sp} (F:FnOk P w K mg base CX j f fd ps sp) (h:j≤k):
    FnOk P w K mg base CX k f fd ps sp:=⟨F.len,fun A outer s H args us vs Q E hr=>F.run A outer s H args us vs Q E (hr.mono h)⟩
theorem FnOk.imp {P:Program} {w:World} {K:PySem.W.Frag} {mg:Str→Option Value} {base:Heap} {CX:pL} {k:Nat} {f:Addr} {fd:FuncData} {ps:List Str} {sp sp':Sp} (F:FnOk P w K mg base CX k f fd ps sp)
    (h:∀vs H Q E,sp' vs H Q E→sp vs H Q E):FnOk P w K mg base CX k f fd ps sp':=
  ⟨fun vs H Q E q=>F.len vs H Q E (h _ _ _ _ q),fun A outer s H args us vs Q E hr he hb hv hs=>F.run A outer s H args us vs Q E hr he hb hv (h _ _ _ _ hs)⟩
theorem Env0.in1 {P:Program} {w:World} {K:PySem.W.Frag} {mg:Str→Option Value} {base:Heap} {A:Around} {outer:List Env} {s:Shared} {H:Hp} (e:Env0 P w K mg base A outer s H):
    Env0 P w K mg base A.in1 outer s H:=⟨e.frames,e.mod,e.bs,e.bsz,e.funs,e.frf,e.hok,e.bare,e.tab⟩
section
variable {X:Cx} {pins:List (Addr×Obj)} {σ:St} {H:Hp} {s s':Shared}
theorem Inv.env0 (I:Inv X pins σ H s):Env0 X.prog X.w X.K X.mg X.base X.A X.stack s H:=
  ⟨I.ok.frames,I.ok.mod,I.bs,Nat.le_trans I.ok.bsz I.sz,I.stack,I.stkFree,I.hok,I.bare,I.tab⟩
theorem Inv.after {Q:VK} {u:Value} (I:Inv X pins σ H s) (h:CE X.stack X.prog X.w H s Q u s'):EP X pins σ Q u s':=by
  obtain ⟨v,H',os,bare,un,hok,r,q⟩:=h
  obtain ⟨hh,g,d,t,os'⟩:=s'
  obtain rfl:os'=s.os:=os
  exact ⟨v,H',I.call (h':=hh) (g':=g) (d':=d) (t':=t) (ch:=[]) un hok bare (fun b z=>absurd z (by simp)),r,q⟩
end
def qR (sp:Sp) (dvs:List V) (E:XK) (t:TA):TE:=fun σ H Q=>t σ H fun vs H1=>sp (vs++dvs) H1 Q E
def Binds (K:PySem.W.Frag) (fd:FuncData) (ps:List Str) (ds:List Value):Prop:=
  ∀(s:Shared) (us:List Value),K.In s.heap→(us++ds).length=ps.length→BindsTo s fd ⟨us,[]⟩ (ps.zip (us++ds))
theorem Binds.all {K:PySem.W.Frag} {fd:FuncData} {ps:List Str} (h:∀us:List Value,us.length=ps.length→bindArgs fd ⟨us,[]⟩=pure (ps.zip us)):Binds K fd ps []:=fun s us _ hl=>by
  rw [List.append_nil] at hl ⊢
  exact .of_eq (h us hl)
def nH (CX:pL) (X:Cx) (E:XK):Prop:=∀(pins:List (Addr×Obj)) (σ:St) (H:Hp) (s:Shared) (e:Value) (s':Shared),Inv X pins σ H s→CX X.stack H s E e s'→X.xe e s'
section
variable {X:Cx} {CX:pL} {k:Nat} {f C:Addr} {fd:FuncData} {ps:List Str} {sp:Sp} {dvs:List V} {ds:List Value} {E:XK} {x m:Str} {p pos apos:Pos} {e o:Expr} {es:List Expr} {ta:TE} {t:TA}
theorem wo {pins:List (Addr×Obj)} {σ:St} {H:Hp} {s:Shared} {Q:VK} {us:List Value} {vs:List V} (F:FnOk X.prog X.w X.K X.mg X.base CX k f fd ps sp) (hr:Room k X.A) (hb:Binds X.K fd ps ds) (hd:Vals dvs ds) (hx:nH CX X E)
    (I:Inv X pins σ H s) (r:Vals vs us) (h:sp (vs++dvs) H Q E):wpAny (model X.prog X.w) X.A (call (.ref f) us) (EP X pins σ Q) X.xe s:=by
  have r2:Vals (vs++dvs) (us++ds):=r.append hd
  have hl:(us++ds).length=ps.length:=by rw [←r2.length];exact F.len _ _ _ _ h
  refine wpAny_call (codeAny_mono (F.run X.A X.stack s H ⟨us,[]⟩ (us++ds) (vs++dvs) Q E hr I.env0 (hb s us I.kIn hl) r2 h) fun r s' hq=>?_)
  cases r with
  | error e=>exact hx pins σ H s e s' I hq
  | ok fl=>
    cases fl with
    | ret u=>exact I.after hq
    | next=>exact False.elim hq
    | brk=>exact False.elim hq
    | cont=>exact False.elim hq
theorem t4 (F:FnOk X.prog X.w X.K X.mg X.base CX k f fd ps sp) (hr:Room k X.A) (hg:Gl X x) (hm:X.mg x=some (.ref f)) (hk:PySem.W.keepIn X.K (.ref f)=true) (hb:Binds X.K fd ps ds) (hd:Vals dvs ds) (hx:nH CX X E)
    (ha:PA X (e::es) t) (hdb:(x == ("__debug__":Str))=false:=by decide) (he:starEach (e::es) X.env=(false,eval e X.env)::starEach es X.env:=by rfl) (hpl:(backTo pos (starEach es X.env)).any (·.1)=false:=by rfl):
    PE X (.Call (.Name x p) (e::es) [] pos) (qR sp dvs E t):=by
  intro pins s σ H Q I h
  refine wpAny_Call_Name_kw (fJ I hg hm ?_ hdb)
  refine PySem.W.callWith_K (h₀:=X.base) I.ok.mod.kin hk (ci (ha pos pins s σ H _ I h) fun us s1 ⟨vs,H1,I1,r,q⟩=>⟨I1.kIn,?_⟩) he hpl
  exact wo F hr hb hd hx I1 r q
end
structure FnScope (N P:List Str) (sc:Scope):Prop where
  kind:sc.kind= .function
  co:sc.isCoroutine=false
  gen:sc.isGenerator=false
  nd:N.Nodup
  pre:N.take P.length=P
  par:∀x∈P,sc.names.lookup x=some .local∨sc.names.lookup x=some .cell
  nofree:∀y∈sc.names,y.2≠ .free
theorem kr {kindOf:Str→Option NameKind} {x:Str}:∀{binds:List (Str×Value)} {m:Str→Option Value},(∀v,(x,v)∉binds)→bindL kindOf binds m x=m x
  | [],_,_=>rfl
  | (n,v)::r,m,h=>by
    unfold bindL
    rw [kr fun w hw=>h w (List.mem_cons_of_mem _ hw)]
    split
    · have:x≠n:=by rintro rfl;exact h v List.mem_cons_self
      simp [this]
    · rfl
theorem kt {kindOf:Str→Option NameKind} {x:Str}:∀{binds:List (Str×Value)} {m:Str→Option Value},(∀v,(x,v)∉binds)→bindC kindOf binds m x=m x
  | [],_,_=>rfl
  | (n,v)::r,m,h=>by
    unfold bindC
    rw [kt fun w hw=>h w (List.mem_cons_of_mem _ hw)]
    split
    · rfl
    · have:x≠n:=by rintro rfl;exact h v List.mem_cons_self
      simp [this]
theorem ku {kindOf:Str→Option NameKind} {x:Str} {v:Value}:∀{P:List Str} {vs:List Value} {i:Nat} {m:Str→Option Value},P.Nodup→P[i]? =some x→vs[i]? =some v→kindOf x=some .local→
    bindL kindOf (P.zip vs) m x=some v
  | [],_,_,_,_,h,_,_=>by simp at h
  | _::_,[],_,_,_,_,h,_=>by simp at h
  | p::P,w::vs,0,m,nd,h1,h2,hk=>by
    simp at h1 h2;subst h1;subst h2
    show bindL kindOf ((p,w)::P.zip vs) m p=_
    unfold bindL
    rw [kr fun v hv=>(List.nodup_cons.mp nd).1 (List.of_mem_zip hv).1,if_pos hk]
    simp
  | p::P,w::vs,i+1,m,nd,h1,h2,hk=>by
    show bindL kindOf ((p,w)::P.zip vs) m x=_
    unfold bindL
    exact ku (i:=i) (List.nodup_cons.mp nd).2 (by simpa using h1) (by simpa using h2) hk
theorem kw {kindOf:Str→Option NameKind} {x:Str} {v:Value}:∀{P:List Str} {vs:List Value} {i:Nat} {m:Str→Option Value},P.Nodup→P[i]? =some x→vs[i]? =some v→kindOf x≠some .local→
    bindC kindOf (P.zip vs) m x=some v
  | [],_,_,_,_,h,_,_=>by simp at h
  | _::_,[],_,_,_,_,h,_=>by simp at h
  | p::P,w::vs,0,m,nd,h1,h2,hk=>by
    simp at h1 h2;subst h1;subst h2
    show bindC kindOf ((p,w)::P.zip vs) m p=_
    unfold bindC
    rw [kt fun v hv=>(List.nodup_cons.mp nd).1 (List.of_mem_zip hv).1,if_neg hk]
    simp
  | p::P,w::vs,i+1,m,nd,h1,h2,hk=>by
    show bindC kindOf ((p,w)::P.zip vs) m x=_
    unfold bindC
    exact kw (i:=i) (List.nodup_cons.mp nd).2 (by simpa using h1) (by simpa using h2) hk
def cH (N:List Str) (vs:List V):St:=vs.map some++List.replicate (N.length - vs.length) none
def ez (CX:pL) (P:Program) (w:World) (K:PySem.W.Frag) (mg:Str→Option Value) (base:Heap) (N:List Str) (qual:Str) (scope:Scope) (f:Addr) (cd:Value) (A:Around) (outer:List Env) (s:Shared) (H:Hp) (E:XK):Cx where
  prog:=P
  w:=w
  K:=K
  mg:=mg
  base:=base
  A:=A.deeper (envOfC qual scope s.heap.objs.size f cd)
  N:=N
  s₀:=s
  H₀:=H
  env:=envOfC qual scope s.heap.objs.size f cd
  outer:=outer
  stack:=envOfC qual scope s.heap.objs.size f cd::outer
  ex:=[]
  calm:=true
  fn:=fun _=>true
  pn:=[]
  xe:=fun e s'=>wpAny (model P w) (A.deeper (envOfC qual scope s.heap.objs.size f cd)) (leaving (envOfC qual scope s.heap.objs.size f cd) e) (fun _ s''=>CX outer H s E e s'') (fun e' s''=>CX outer H s E e' s'') s'
theorem mi {sc:Scope} {n:Nat} {x:Str} (h:sc.names.lookup x=some .cell):∃c,(cellsFrom n sc.names []).lookup x=some c:=by
  have q:=PySem.W.cellsFrom_some sc.names n [] (.inl h)
  exact Option.isSome_iff_exists.mp q
theorem ir {CX:pL} {P:Program} {w:World} {K:PySem.W.Frag} {mg:Str→Option Value} {base:Heap} {N ps:List Str} {qual:Str} {scope:Scope} {f:Addr} {cd:Value} {A:Around} {outer:List Env} {s s1:Shared} {H:Hp} {E:XK} {us:List Value} {vs:List V}
    (S:FnScope N ps scope) (hd:A.handled=none) (e0:Env0 P w K mg base A outer s H) (hl:vs.length=ps.length) (r:Vals vs us)
    (x:InCallC s s.heap.objs.size (bindL (envOfC qual scope s.heap.objs.size f cd).kindOf (ps.zip us) fun _=>none) (cellsFrom (s.heap.objs.size+1) scope.names []) (bindC (envOfC qual scope s.heap.objs.size f cd).kindOf (ps.zip us) fun _=>none) s1):
    Inv (ez CX P w K mg base N qual scope f cd A outer s H E) [] (cH N vs) H s1:=by
  have hpl:ps.length≤N.length:=by have:=congrArg List.length S.pre;rw [List.length_take] at this;omega
  obtain ⟨h1,tk,rfl,hk⟩:=x.done
  have noA:∀b:Addr,b∉(ez CX P w K mg base N qual scope f cd A outer s H E).ex:=fun b z=>absurd (show b∈([]:List Addr) from z) (by simp)
  refine ⟨⟨e0.mod,S.kind,rfl,rfl,Nat.le_refl _,fun y z c h1 h2=>?_,fun y hy=>?_,fun y c _ h=>?_,fun _=>hd,Around.frames_deeper e0.frames, .inr ⟨rfl,rfl⟩,fun b z=>absurd z (noA b),e0.bs,e0.bsz,fun b _ _=>noA b,fun b z=>absurd z (noA b),e0.funs,e0.frf,e0.tab⟩,
    rfl,e0.bare,Un.kept hk,⟨_,x.toInCall.ns,fun i y v h1 h2 h3=>?_⟩,fun y c h=>⟨_,x.cell y c h⟩,e0.hok.fresh (Nat.le_refl _),fun y c h=>?_,fun p hp=>absurd (show p∈([]:List (Addr×Obj)) from hp) (by simp),e0.hok.kept hk,?_⟩
  · exact name_of_addr x.apart (PySem.mem_of_lookup h1) (PySem.mem_of_lookup h2)
  · have hy:scope.names.lookup y=some .cell∨scope.names.lookup y=some .free:=hy
    rcases hy with hy | hy
    · exact mi hy
    · exact absurd rfl (S.nofree _ (PySem.mem_of_lookup hy))
  · exact Nat.le_of_lt (x.above y c (PySem.mem_of_lookup h))
  · have hi:i < vs.length:=by
      unfold cH at h2
      by_cases hi:i < vs.length
      · exact hi
      · rw [List.getElem?_append_right (by simpa using hi)] at h2
        rw [List.getElem?_replicate] at h2
        split at h2 <;> cases h2
    have ha:vs[i]? =some v:=by
      unfold cH at h2
      rw [List.getElem?_append_left (by simpa using hi),List.getElem?_map] at h2
      cases e:vs[i]? with
      | none=>rw [e] at h2;cases h2
      | some a=>rw [e] at h2;cases h2;rfl
    obtain ⟨u,hu,rv⟩:=r.get ha
    have hp:ps[i]? =some y:=by
      rw [←S.pre,List.getElem?_take_of_lt (by omega)];exact h1
    have ndP:ps.Nodup:=by rw [←S.pre];exact S.nd.sublist (List.take_sublist _ _)
    refine ⟨u,rv,?_⟩
    rcases S.par y (List.mem_of_getElem? hp) with k | k
    · exact .inl ⟨k,ku ndP hp hu k⟩
    · obtain ⟨c,e⟩:=mi (n:=s.heap.objs.size+1) k
      refine .inr ⟨.inl k,c,e,?_⟩
      have q:=x.cell y c e
      rw [kw ndP hp hu (by show scope.names.lookup y≠_;rw [k];decide)] at q
      exact q
  · exact e0.hok.fresh (Nat.le_of_lt (x.above y c (PySem.mem_of_lookup h)))
  · unfold cH
    show _=N.length
    rw [List.length_append,List.length_map,List.length_replicate]
    omega
theorem qS {CX:pL} {P:Program} {w:World} {K:PySem.W.Frag} {mg:Str→Option Value} {base:Heap} {k:Nat} {f:Addr} {name qual:Str} {params:Arguments} {body:List Stmt} {scope:Scope} {dV kV doc pm cdv ct oc:Value} {an od:Option Addr}
    {osl:Array (Option Value)} {N ps:List Str} {sp:Sp} (lk:K.lookup f=some ⟨oc,od, .func (PySem.W.fnOf name qual params body scope dV kV doc pm an cdv ct),osl⟩) (hcd:PySem.W.codeIn K cdv qual=true) (S:FnScope N ps scope)
    (len:∀vs H Q E,sp vs H Q E→vs.length=ps.length)
    (hbody:∀(A:Around) (outer:List Env) (s:Shared) (H:Hp) (vs:List V) (Q:VK) (E:XK),Room k (A.deeper (envOfC qual scope s.heap.objs.size f cdv))→sp vs H Q E→
      ∃t,PSs (ez CX P w K mg base N qual scope f cdv A outer s H E) body t∧t {nx:=fun _ H'=>Q .non H',rt:=Q} (cH N vs) H):
    FnOk P w K mg base CX (k+1) f (PySem.W.fnOf name qual params body scope dV kV doc pm an cdv ct) ps sp:=by
  refine ⟨len,fun A outer s H args us vs Q E hr e0 hb r hsp=>?_⟩
  have hl:=len _ _ _ _ hsp
  have KX:K.In s.heap:=e0.mod.kin.keeps fun b o e=>(e0.bs b o e).1
  have lim:s.heap.NoLimit:=e0.mod.nolimit.keeps fun b o e=>(e0.bs b o e).1
  have hkind:∀y∈ps.zip us,scope.names.lookup y.1=some .local∨(scope.names.lookup y.1=some .cell∧((cellsFrom (s.heap.objs.size+1) scope.names []).lookup y.1).isSome=true):=fun ⟨n,v⟩ hy=>by
    rcases S.par n (List.of_mem_zip hy).1 with q | q
    · exact .inl q
    · exact .inr ⟨q,PySem.W.cellsFrom_some _ _ _ (.inl q)⟩
  refine codeAny_call_function hr.depth (KX _ _ lk) rfl S.co S.gen rfl (PySem.W.codeRec_of KX hcd) (hb _ _ _ _ ?_)
  refine wpAny_newFunctionEnv_cells S.kind hkind fun env he s1 x=>?_
  subst he
  refine ⟨lim.keeps x.toInCall.keep,codeAny_func ?_⟩
  obtain ⟨t,ht,hq⟩:=hbody A outer s H vs Q E (hr.deeper _) hsp
  have I:Inv (ez CX P w K mg base N qual scope f cdv A outer s H E) [] (cH N vs) H s1:=ir S hr.hd e0 hl r x
  refine wpAny_mono (ht [] s1 (cH N vs) H _ I hq) (fun fl s' hs=>?_) fun e s' hs=>hs
  have fin:∀{σ':St} {H':Hp} {v:V} {u:Value},Inv (ez CX P w K mg base N qual scope f cdv A outer s H E) [] σ' H' s'→RelV v u→Q v H'→CE outer P w H s Q u s':=
    fun {σ' H' v u} J rv q=>⟨v,H',J.os,J.bare,J.base,J.hok,rv,q⟩
  cases fl with
  | ret u=>
    obtain ⟨v,σ',H',J,rv,q⟩:=hs
    exact fin J rv q
  | next=>
    obtain ⟨σ',H',J,q⟩:=hs
    exact fin (v:=V.non) (u:=Value.none) J rfl q
  | brk=>
    obtain ⟨_,_,_,q⟩:=hs
    exact False.elim q
  | cont=>
    obtain ⟨_,_,_,q⟩:=hs
    exact False.elim q
end L2
namespace L2
open PySem PySem.Spec PyProof.Rows
section
variable {X:Cx} {x:Str} {p pos:Pos} {e:Expr} {es:List Expr} {t:TA} {id T:String} {r:List V→Hp→VK→Prop}
def zk (r:List V→Hp→VK→Prop) (t:TA):TE:=fun σ H Q=>t σ H fun vs H1=>r vs H1 Q
theorem jx (hc:CallR X (.builtin id) r) (hg:Gl X x) (hm:X.mg x=none) (hv:bootBuiltins x=some (.builtin id)) (ha:PA X (e::es) t) (hn:x≠"__name__":=by decide) (hdb:(x == ("__debug__":Str))=false:=by decide)
    (he:starEach (e::es) X.env=(false,eval e X.env)::starEach es X.env:=by rfl) (hpl:(backTo pos (starEach es X.env)).any (·.1)=false:=by rfl):PE X (.Call (.Name x p) (e::es) [] pos) (zk r t):=by
  intro pins s σ H Q I h
  refine wpAny_Call_Name_kw (im I hg hm hv ?_ hn hdb)
  exact PyProof.Rows.callWith_builtin1 (ci (ha pos pins s σ H _ I h) fun us s1 ⟨vs,H1,I1,r1,q1⟩=>hc pins s1 σ H1 vs us Q I1 r1 q1) he hpl
theorem kx (hc:CallR X (.type T) r) (hg:Gl X x) (hm:X.mg x=none) (hv:bootBuiltins x=some (.type T)) (ha:PA X (e::es) t) (hn:x≠"__name__":=by decide) (hdb:(x == ("__debug__":Str))=false:=by decide)
    (he:starEach (e::es) X.env=(false,eval e X.env)::starEach es X.env:=by rfl) (hpl:(backTo pos (starEach es X.env)).any (·.1)=false:=by rfl):PE X (.Call (.Name x p) (e::es) [] pos) (zk r t):=by
  intro pins s σ H Q I h
  refine wpAny_Call_Name_kw (im I hg hm hv ?_ hn hdb)
  exact PyProof.Rows.callWith_type1 (ci (ha pos pins s σ H _ I h) fun us s1 ⟨vs,H1,I1,r1,q1⟩=>hc pins s1 σ H1 vs us Q I1 r1 q1) he hpl
end
end L2
namespace HT
open PySem PyProof.Rows
section
open PySem.SeqAt
open PySem.AutoSeq1 (wpAny_loadPart')
open PySem.MeetsSeq PySem.MeetsSeq2 PySem.MeetsSeq3
end
section
variable {prog:Program} {w:World} {A:Around} {E:Value→Shared→Prop} {s:Shared}
def j8 (n d:Nat):Option Int→Nat
  | none=>d
  | some v=>if v < 0 then (v+(n:Int)).toNat else min v.toNat n
end
end HT
namespace L2
open PySem PySem.Spec PyProof.Rows
abbrev TO:=St→Hp→(Option Int→Hp→Prop)→Prop
def PO (X:Cx) (e:Option Expr) (t:TO):Prop:=
  ∀(pins:List (Addr×Obj)) (s:Shared) (σ:St) (H:Hp) (Q:Option Int→Hp→Prop),Inv X pins σ H s→t σ H Q→
    wpAny (model X.prog X.w) X.A (evalPart e X.env) (fun u s'=>∃o H',Inv X pins σ H' s'∧IsPart u o∧Q o H') X.xe s
def t5:TO:=fun _ H Q=>Q none H
def x9 (t:TE):TO:=fun σ H Q=>t σ H fun x H1=>∃i,x= .int i∧Q (some i) H1
section
variable {X:Cx} {e:Expr} {te:TE} {lo hi:Option Expr} {tl th:TO} {pos p2:Pos}
theorem t6:PO X none t5:=by
  intro pins s σ H Q I h
  rw [evalPart_none]
  exact wpAny_pure ⟨none,H,I, .none,h⟩
theorem t7 (h:PE X e te):PO X (some e) (x9 te):=by
  intro pins s σ H Q I hw
  rw [evalPart_some]
  refine ci (h pins s σ H _ I hw) fun u s1 ⟨x,H1,I1,r1,q1⟩=>?_
  obtain ⟨i,rfl,q⟩:=q1
  obtain ⟨t,rfl⟩:=r1
  exact ⟨some i,H1,I1, .int i t,q⟩
def SlR (X:Cx) (r:V→Option Int→Option Int→Hp→VK→Prop):Prop:=
  ∀(pins:List (Addr×Obj)) (s:Shared) (σ:St) (H:Hp) (x:V) (v vl vu:Value) (lo hi:Option Int) (sl:Addr) (Q:VK),Inv X pins σ H s→RelV x v→s.heap.IsSliceOf sl vl vu .none→IsPart vl lo→IsPart vu hi→r x lo hi H Q→
    ∃T id,typeLookup (.type T) "__getitem__"=pure (some (.builtin id))∧s.TypeIs v T∧wpAny (model X.prog X.w) X.A (getItem v (.ref sl)) (EP X pins σ Q) X.xe s
theorem SlR.or {r r':V→Option Int→Option Int→Hp→VK→Prop} (h:SlR X r) (h':SlR X r'):SlR X (fun x lo hi H Q=>r x lo hi H Q∨r' x lo hi H Q):=by
  intro pins s σ H x v vl vu lo hi sl Q I rx hs pl pu q
  rcases q with q | q
  · exact h pins s σ H x v vl vu lo hi sl Q I rx hs pl pu q
  · exact h' pins s σ H x v vl vu lo hi sl Q I rx hs pl pu q
def Ao (r:V→Option Int→Option Int→Hp→VK→Prop) (te:TE) (tl th:TO):TE:=fun σ H Q=>te σ H fun x H1=>tl σ H1 fun l H2=>th σ H2 fun u H3=>r x l u H3 Q
theorem qT {r:V→Option Int→Option Int→Hp→VK→Prop} (hr:SlR X r) (he:PE X e te) (hl:PO X lo tl) (hu:PO X hi th):PE X (.Subscript e (.Slice lo hi none p2) pos) (Ao r te tl th):=by
  intro pins s σ H Q I h
  refine Subscript_ (ci (he pins s σ H _ I h) fun v s1 ⟨x,H1,I1,r1,q1⟩=>?_)
  refine wpAny_Slice (ci (hl pins s1 σ H1 _ I1 q1) fun vl s2 ⟨l,H2,I2,pl,q2⟩=>ci (hu pins s2 σ H2 _ I2 q2) fun vu s3 ⟨u,H3,I3,pu,q3⟩=>?_)
  rw [evalPart_none]
  refine wpAny_pure ?_
  have I4:Inv X pins σ H3 {s3 with heap:=s3.heap.push {cls:= .type "slice",data:= .fields #[vl,vu, .none]}}:=I3.kept (t':=s3.toks) fun b ob q=>Heap.get?_push_of_some _ q
  obtain ⟨T,id,hT,ht,hg⟩:=hr pins {s3 with heap:=s3.heap.push {cls:= .type "slice",data:= .fields #[vl,vu, .none]}} σ H3 x v vl vu l u s3.heap.objs.size Q I4 r1 (Heap.IsSliceOf.new ..) pl pu q3
  show wpAny (model X.prog X.w) X.A (subscriptTail e (.Slice lo hi none p2) v (.ref s3.heap.objs.size)) (EP X pins σ Q) X.xe {s3 with heap:=s3.heap.push {cls:= .type "slice",data:= .fields #[vl,vu, .none]}}
  exact tail_any (ops:=[.ref s3.heap.objs.size,v]) ht hT hg (by with_unfolding_all rfl)
def pM (xs:List V) (lo hi:Option Int):List V:=(xs.drop (HT.j8 xs.length 0 lo)).take (HT.j8 xs.length xs.length hi - HT.j8 xs.length 0 lo)
theorem mj (xs:List V) (lo hi:Option Int):(pM xs lo hi).length≤xs.length:=by
  unfold pM
  rw [List.length_take,List.length_drop]
  omega
end
end L2
namespace L2
open PySem PySem.Spec PyProof.Rows
def xC (n:Nat) (i:Int):Option Nat:=if 0≤i then (if i < n then some i.toNat else none) else if -(n:Int)≤i then some (i+n).toNat else none
def atI {α:Type} (xs:List α) (i:Int):Option α:=(xC xs.length i).bind fun j=>xs[j]?
theorem t8 {n:Nat} {i:Int} {j:Nat} (h:xC n i=some j):seqIndex? i n=some j∧j < n∧ -(n:Int)≤i∧i < n:=by
  unfold xC at h
  by_cases h0:0≤i
  · rw [if_pos h0] at h
    by_cases h1:i < n
    · rw [if_pos h1] at h
      have e:i.toNat=j:=Option.some.inj h
      exact ⟨by rw [seqIndex_of h0 h1,e],by omega,by omega,h1⟩
    · rw [if_neg h1] at h;cases h
  · rw [if_neg h0] at h
    by_cases h1: -(n:Int)≤i
    · rw [if_pos h1] at h
      have e:(i+n).toNat=j:=Option.some.inj h
      exact ⟨by rw [seqIndex_neg (by omega) h1,e],by omega,h1,by omega⟩
    · rw [if_neg h1] at h;cases h
theorem kU {α:Type} {xs:List α} {i:Int} {v:α} (h:atI xs i=some v):∃j,seqIndex? i xs.length=some j∧xs[j]? =some v∧j < xs.length∧ -(xs.length:Int)≤i∧i < xs.length:=by
  unfold atI at h
  cases e:xC xs.length i with
  | none=>rw [e] at h;cases h
  | some j=>
    rw [e] at h
    obtain ⟨h1,h2,h3,h4⟩:=t8 e
    exact ⟨j,h1,h,h2,h3,h4⟩
def oI (b:Expr):Prop:=∀o i,subscripted b false o i=operate [o,i] (getItem o i)
def IxR (X:Cx) (r:R2):Prop:=
  ∀(value slice:Expr) (pins:List (Addr×Obj)) (s:Shared) (σ:St) (H:Hp) (x y:V) (v u:Value) (Q:VK),Inv X pins σ H s→RelV x v→RelV y u→r x y H Q→
    subscripted slice false v u=operate [v,u] (getItem v u)→wpAny (model X.prog X.w) X.A (subscriptTail value slice v u) (EP X pins σ Q) X.xe s
def MtR (X:Cx) (id:String) (r:V→List V→Hp→VK→Prop):Prop:=
  ∀(pins:List (Addr×Obj)) (s:Shared) (σ:St) (H:Hp) (x:V) (xs:List V) (v:Value) (us:List Value) (Q:VK),Inv X pins σ H s→RelV x v→Vals xs us→r x xs H Q→
    wpAny (model X.prog X.w) X.A (call (.builtin id) (v::us)) (EP X pins σ Q) X.xe s
section
variable {X:Cx} {a b:Expr} {ta tb:TE} {pos:Pos}
theorem IxR.or {r r':R2} (h:IxR X r) (h':IxR X r'):IxR X (fun x y H Q=>r x y H Q∨r' x y H Q):=by
  intro value slice pins s σ H x y v u Q I rx ry q hs
  rcases q with q | q
  · exact h value slice pins s σ H x y v u Q I rx ry q hs
  · exact h' value slice pins s σ H x y v u Q I rx ry q hs
theorem MtR.or {id:String} {r r':V→List V→Hp→VK→Prop} (h:MtR X id r) (h':MtR X id r'):MtR X id (fun x xs H Q=>r x xs H Q∨r' x xs H Q):=by
  intro pins s σ H x xs v us Q I rx rs q
  rcases q with q | q
  · exact h pins s σ H x xs v us Q I rx rs q
  · exact h' pins s σ H x xs v us Q I rx rs q
theorem x_ {r:R2} (hr:IxR X r) (ha:PE X a ta) (hb:PE X b tb) (hs:oI b):PE X (.Subscript a b pos) (xQ r ta tb):=by
  intro pins s σ H Q I h
  exact Subscript_ (wd ha hb I h fun v u s2 x y H2 I2 rx ry q=>hr a b pins s2 σ H2 x y v u Q I2 rx ry q (hs _ _))
def ya (K:PySem.W.Frag):R2:=fun x y H Q=>∃p xs i v,x= .ref p∧y= .int i∧SqL K H p xs∧atI xs i=some v∧Q v H
def yb (K:PySem.W.Frag):R2:=fun x y H Q=>∃p xs i v,x= .ref p∧y= .int i∧SqT K H p xs∧atI xs i=some v∧Q v H
def yc:R2:=fun x y H Q=>∃z i c,x= .str z∧y= .int i∧z.length≤sizeLine∧atI z.cps.toList i=some c∧Q (.str ⟨#[c]⟩) H
theorem ix_list:IxR X (ya X.K):=by
  intro value slice pins s σ H x y v u Q I rx ry h hs
  obtain ⟨p,xs,i,z,rfl,rfl,hq,he,q⟩:=h
  cases rx
  obtain ⟨t,rfl⟩:=ry
  obtain ⟨its,r,pl,hz⟩:=I.list hq
  obtain ⟨j,h1,h2,h3,h4,h5⟩:=kU he
  obtain ⟨w,ew,rw'⟩:=r.get h2
  have hl:=r.length
  have hn:=iq
  have fin:EP X pins σ Q w s:=⟨z,H,I,rw',q⟩
  by_cases h0:0≤i
  · have hj:i.toNat=j:=by
      rw [seqIndex_of h0 h5] at h1
      exact Option.some.inj h1
    exact item_listR pl.isList h0 (by omega) (by rw [hj];simpa using ew) fin hs
  · have hj:(i+(its.toArray.size:Int)).toNat=j:=by
      rw [seqIndex_neg (by omega) h4] at h1
      rw [List.size_toArray,←hl]
      exact Option.some.inj h1
    exact subscriptTail_builtinR (x:=w) pl.isList.typeIs slot_list_getitem.lookup
      (wpAny_getItem_list_neg (Q:=fun r s'=>r=w∧EP X pins σ Q r s') pl.isList (by omega) (by rw [List.size_toArray] <;> omega) (by omega) (by rw [hj];simpa using ew) ⟨rfl,fin⟩) hs
theorem ix_tup:IxR X (yb X.K):=by
  intro value slice pins s σ H x y v u Q I rx ry h hs
  obtain ⟨p,xs,i,z,rfl,rfl,hq,he,q⟩:=h
  cases rx
  obtain ⟨t,rfl⟩:=ry
  obtain ⟨its,r,pl,hz⟩:=I.tuple hq
  obtain ⟨j,h1,h2,h3,h4,h5⟩:=kU he
  obtain ⟨w,ew,rw'⟩:=r.get h2
  have hl:=r.length
  have hn:=iq
  have fin:EP X pins σ Q w s:=⟨z,H,I,rw',q⟩
  exact subscriptTail_builtinR (x:=w) pl.typeIs slot_tuple_getitem.lookup
    (getItem_tuple (j:=j) (Q:=fun r s'=>r=w∧EP X pins σ Q r s') pl (by omega) (by omega) (by rw [List.size_toArray,←hl];exact h1) (by simpa using ew) ⟨rfl,fin⟩) hs
theorem wq:IxR X yc:=by
  intro value slice pins s σ H x y v u Q I rx ry h hs
  obtain ⟨z,i,c,rfl,rfl,hz,he,q⟩:=h
  obtain ⟨t,rfl⟩:=rx
  obtain ⟨t',rfl⟩:=ry
  obtain ⟨j,h1,h2,h3,h4,h5⟩:=kU he
  have hl:z.cps.toList.length=z.length:=by simp [Str.length]
  rw [hl] at h1 h4 h5
  have hn:=iq
  exact tail_any (typeIs_str s z t) slot_str_getitem.lookup (getItem_str (c:=c) (by
    have e1:decide (i < -(2 ^ 63:Int))=false:=decide_eq_false (by omega)
    have e2:decide (i≥2 ^ 63)=false:=decide_eq_false (by omega)
    rw [e1,e2,Bool.or_false]) (by rw [h1];simpa using h2) ⟨.str ⟨#[c]⟩,H,I.tok _,⟨_,rfl⟩,q⟩) hs
def Aa (K:PySem.W.Frag):R2:=fun x y H Q=>ya K x y H Q∨yb K x y H Q∨yc x y H Q
theorem wr:IxR X (Aa X.K):=ix_list.or (ix_tup.or wq)
theorem Inv.lst {pins:List (Addr×Obj)} {σ:St} {H:Hp} {s:Shared} {p:Addr} {xs:List V} (I:Inv X pins σ H s) (h:H p=some (.lst xs)):
    ∃(its:List Value) (n:Nat),Vals xs its∧s.heap.get? p=some {cls:= .type "list",data:= .seq its.toArray n}∧xs.length≤sizeLine:=by
  obtain ⟨z,its,n,r,e⟩:=I.hok p _ h
  exact ⟨its,n,r,e,z⟩
theorem kW (lo hi:Option Int) (n:Nat):(sliceBounds lo hi none n).1=((HT.j8 n 0 lo:Nat):Int)∧(sliceBounds lo hi none n).2.1=((HT.j8 n n hi:Nat):Int)∧(sliceBounds lo hi none n).2.2=1:=by
  refine ⟨?_,?_,rfl⟩
  · cases lo with
    | none=>simp [sliceBounds,HT.j8]
    | some i=>
      simp only [sliceBounds,HT.j8,Option.getD_none,show (1:Int) > 0 by decide,if_true]
      by_cases h:i < 0
      · simp only [h,if_true] <;> omega
      · simp only [h,if_false] <;> omega
  · cases hi with
    | none=>simp [sliceBounds,HT.j8]
    | some i=>
      simp only [sliceBounds,HT.j8,Option.getD_none,show (1:Int) > 0 by decide,if_true]
      by_cases h:i < 0
      · simp only [h,if_true] <;> omega
      · simp only [h,if_false] <;> omega
theorem j9 (its:List Value) (lo hi:Option Int):slicePick its.toArray lo hi none=((its.drop (HT.j8 its.length 0 lo)).take (HT.j8 its.length its.length hi - HT.j8 its.length 0 lo)).toArray:=by
  obtain ⟨h1,h2,h3⟩:=kW lo hi its.toArray.size
  unfold slicePick
  rw [h1,h2,h3]
  simp only [sliceRange_one,pick_run,List.size_toArray] <;> rfl
def zl (K:PySem.W.Frag):V→Option Int→Option Int→Hp→VK→Prop:=fun x lo hi H Q=>∃a xs,x= .ref a∧SqL K H a xs∧∀p,H p=none→Q (.ref p) (upd H p (.lst (pM xs lo hi)))
theorem t9:SlR X (zl X.K):=by
  intro pins s σ H x v vl vu lo hi sl Q I rx hs pl pu h
  obtain ⟨a,xs,rfl,hx,q⟩:=h
  cases rx
  obtain ⟨its,r,ht,hz⟩:=I.list hx
  have hlen:=r.length
  refine ⟨"list",_,slot_list_getitem.lookup,ht.isList.typeIs,?_⟩
  refine wpAny_getItem_list_slice ht.isList hs pl pu .none (by simp) ?_ (by rw [List.size_toArray] <;> omega)
  rw [j9,←hlen]
  refine ⟨.ref s.heap.objs.size,_,I.laid (t':=s.toks) (o:= .lst (pM xs lo hi)) (fun b ob q=>Heap.get?_push_of_some _ q) (Nat.le_refl _) ?_,rfl,q _ (I.hok.fresh (Nat.le_refl _))⟩
  exact ⟨Nat.le_trans (mj xs lo hi) hz,_,0,(r.drop (HT.j8 xs.length 0 lo)).take (HT.j8 xs.length xs.length hi - HT.j8 xs.length 0 lo),Heap.get?_push_size _ rfl⟩
theorem kX:CallR X (.builtin "len") (fun xs H Q=>∃p ys,xs=[.ref p]∧(SqL X.K H p ys∨SqT X.K H p ys)∧Q (.int ys.length) H):=by
  intro pins s σ H xs us Q I r h
  obtain ⟨p,ys,rfl,hq,q⟩:=h
  obtain ⟨u,rfl,rx⟩:=mh r
  cases rx
  have hn:=iq
  rcases hq with hq | hq
  · obtain ⟨its,r',pl,hz⟩:=I.list hq
    have hlen:=r'.length
    exact Calls.call_len_list pl.isList (by simp only [List.size_toArray] <;> omega) ⟨.int ys.length,H,I.tok _,⟨s.toks+1,by rw [List.size_toArray,hlen]⟩,q⟩
  · obtain ⟨its,r',pl,hz⟩:=I.tuple hq
    have hlen:=r'.length
    exact len_tuple pl (by simp only [List.size_toArray] <;> omega) ⟨.int ys.length,H,I.tok _,⟨s.toks+1,by rw [List.size_toArray,hlen]⟩,q⟩
theorem kY:CallR X (.builtin "len") (fun xs H Q=>∃z,xs=[.str z]∧z.length≤sizeLine∧Q (.int z.length) H):=by
  intro pins s σ H xs us Q I r h
  obtain ⟨z,rfl,hz,q⟩:=h
  obtain ⟨u,rfl,t,rfl⟩:=mh r
  have hn:=iq
  exact len_str (by omega) ⟨.int z.length,H,I.tok _,⟨_,rfl⟩,q⟩
theorem CallR.or {f:Value} {r r':List V→Hp→VK→Prop} (h:CallR X f r) (h':CallR X f r'):CallR X f (fun xs H Q=>r xs H Q∨r' xs H Q):=by
  intro pins s σ H xs us Q I rs q
  rcases q with q | q
  · exact h pins s σ H xs us Q I rs q
  · exact h' pins s σ H xs us Q I rs q
theorem kZ:CallR X (.type "list") (fun xs H Q=>∃p ys,xs=[.ref p]∧(SqL X.K H p ys∨SqT X.K H p ys)∧∀l,H l=none→Q (.ref l) (upd H l (.lst ys))):=by
  intro pins s σ H xs us Q I r h
  obtain ⟨p,ys,rfl,hq,q⟩:=h
  obtain ⟨u,rfl,rx⟩:=mh r
  cases rx
  have fin:∀(its:List Value),Vals ys its→ys.length≤sizeLine→∀(h':Heap) (c':Nat),(∀b o',s.heap.get? b=some o'→h'.get? b=some o')→
      h'.get? s.heap.objs.size=some {cls:= .type "list",dict:=none,data:= .seq its.toArray c',slots:=#[]}→EP X pins σ Q (.ref s.heap.objs.size) {s with heap:=h'}:=fun its r' hz h' c' kp e=>
    ⟨.ref s.heap.objs.size,_,I.laid (t':=s.toks) kp (Nat.le_refl _) (show ObjOk X.prog X.w _ h' _ (.lst ys) from ⟨hz,its,c',r',e⟩),rfl,q _ (I.hok.fresh (Nat.le_refl _))⟩
  rcases hq with hq | hq
  · obtain ⟨its,r',pl,hz⟩:=I.list hq
    have hlen:=r'.length
    obtain ⟨o,ho,hc,n,hd⟩:=pl.isList
    exact call_list_seq p (.inl rfl) ho hc hd (fun h' c' kp e=>fin its r' hz h' c' kp e) (by simp only [List.size_toArray] <;> omega)
  · obtain ⟨its,r',pl,hz⟩:=I.tuple hq
    have hlen:=r'.length
    obtain ⟨o,ho,hc,n,hd⟩:=pl
    exact call_list_seq p (.inr rfl) ho hc hd (fun h' c' kp e=>fin its r' hz h' c' kp e) (by simp only [List.size_toArray] <;> omega)
theorem j_:CallR X (.type "tuple") (fun xs H Q=>∃p ys,xs=[.ref p]∧((SqL X.K H p ys∧∀l,H l=none→Q (.ref l) (upd H l (.tup ys)))∨(SqT X.K H p ys∧Q (.ref p) H))):=by
  intro pins s σ H xs us Q I r h
  obtain ⟨p,ys,rfl,h⟩:=h
  obtain ⟨u,rfl,rx⟩:=mh r
  cases rx
  rcases h with ⟨hq,q⟩ | ⟨hq,q⟩
  · obtain ⟨its,r',pl,hz⟩:=I.list hq
    have hlen:=r'.length
    refine call_tuple_list pl.isList (fun h' kp=>?_) (by simp only [List.size_toArray] <;> omega)
    have I1:Inv X pins σ H {s with heap:=h'}:=I.kept (t':=s.toks) kp
    have I2:Inv X pins σ (upd H h'.objs.size (.tup ys)) {s with heap:=h'.push {cls:= .type "tuple",data:= .seq its.toArray}}:=
      I1.laid (t':=s.toks) (fun b o e=>Heap.get?_push_of_some _ e) (Nat.le_refl _) (show ObjOk X.prog X.w _ _ _ (.tup ys) from ⟨hz,its,r',IsTup.new _ _⟩)
    exact ⟨.ref h'.objs.size,_,I2,rfl,q _ (I1.hok.fresh (Nat.le_refl _))⟩
  · obtain ⟨its,r',pl,hz⟩:=I.tuple hq
    exact call_tuple_same pl ⟨.ref p,H,I,rfl,q⟩
def zm (K:PySem.W.Frag) (T:String) (x:V) (H:Hp):Prop:=match x with
  | .str _=>T="str"
  | .int _=>T="int"
  | .ref p=>(T="list"∧∃xs,SqL K H p xs)∨(T="tuple"∧∃o,K.lookup p=some o∧o.cls= .type "tuple"∧o.dict=none)∨
      (T="dict"∧((∃kvs,H p=some (.dK kvs))∨∃kvs,H p=some (.dT kvs)))∨(T="set"∧∃S n,H p=some (.set S n))
  | _=>False
theorem qU {pins:List (Addr×Obj)} {σ:St} {H:Hp} {s:Shared} {T:String} {x:V} {v:Value} (I:Inv X pins σ H s) (r:RelV x v) (ty:zm X.K T x H):
    s.TypeIs v T∧∀a,v= .ref a→∃ob,s.heap.get? a=some ob∧ob.dict=none:=by
  cases x with
  | str z=>
    obtain ⟨t,rfl⟩:=r
    cases (show T="str" from ty)
    exact ⟨typeIs_str s z t,fun _ e=>nomatch e⟩
  | int i=>
    obtain ⟨t,rfl⟩:=r
    cases (show T="int" from ty)
    exact ⟨typeIs_int s i t,fun _ e=>nomatch e⟩
  | ref p=>
    cases r
    rcases ty with ⟨rfl,xs,hq⟩ | ⟨rfl,o,hk,hc,hd⟩ | ⟨rfl,hk⟩ | ⟨rfl,S,n,hk⟩
    · obtain ⟨its,_,pl,_⟩:=I.list hq
      refine ⟨pl.isList.typeIs,fun a e=>?_⟩
      cases e
      obtain ⟨o,n,e,c,hd,_⟩:=pl
      exact ⟨o,e,hd⟩
    · refine ⟨⟨o,I.kIn p o hk,hc⟩,fun a e=>?_⟩
      cases e
      exact ⟨o,I.kIn _ o hk,hd⟩
    · have z:∃o,s.heap.get? p=some o∧o.ExactDict:=by
        rcases hk with ⟨kvs,hk⟩ | ⟨kvs,hk⟩
        · obtain ⟨_,_,_,_,o,_,_,e,ex,_⟩:=I.hok p _ hk
          exact ⟨o,e,ex⟩
        · obtain ⟨_,_,_,_,o,_,_,e,ex,_⟩:=I.hok p _ hk
          exact ⟨o,e,ex⟩
      obtain ⟨o,e,ex⟩:=z
      refine ⟨⟨o,e,ex.1⟩,fun a e2=>?_⟩
      cases e2
      exact ⟨o,e,ex.2.1⟩
    · obtain ⟨o,_,_,_,e,ex,_⟩:=I.hok p _ hk
      refine ⟨⟨o,e,ex.1⟩,fun a e2=>?_⟩
      cases e2
      exact ⟨o,e,ex.2.1⟩
  | _=>exact False.elim ty
def zn (K:PySem.W.Frag) (T:String) (r:V→List V→Hp→VK→Prop) (to:TE):TE:=fun σ H Q=>to σ H fun x H1=>zm K T x H1∧r x [] H1 Q
def Ap (K:PySem.W.Frag) (T:String) (r:V→List V→Hp→VK→Prop) (to:TE) (t:TA):TE:=fun σ H Q=>to σ H fun x H1=>zm K T x H1∧t σ H1 fun xs H2=>r x xs H2 Q
variable {o e:Expr} {es:List Expr} {to:TE} {t:TA} {name:Str} {apos cpos:Pos} {T id:String} {r:V→List V→Hp→VK→Prop}
theorem wt (pa:PlainAttrs T) (slot:Slot T name id) (hty:typeOf (.builtin id)=pure (.type "method_descriptor")) (hm:MtR X id r) (ho:PE X o to)
    (hbase:attributeBase o name X.env (eval o X.env)=eval o X.env:=by rfl) (hline:(apos.endLine == cpos.line)=true:=by rfl):PE X (.Call (.Attribute o name apos) [] [] cpos) (zn X.K T r to):=by
  intro pins s σ H Q I h
  refine wpAny_Call_method0_late hbase hline (ci (ho pins s σ H _ I h) fun v s1 ⟨x,H1,I1,r1,ty,q1⟩=>?_)
  obtain ⟨h1,h2⟩:=qU I1 r1 ty
  exact ⟨T,id,pa,slot,hty,h1,h2,Calls.callWith_builtin rfl (PySem.evalArgs_none (hm pins s1 σ H1 x [] v [] Q I1 r1 .nil q1))⟩
theorem vz (pa:PlainAttrs T) (slot:Slot T name id) (hty:typeOf (.builtin id)=pure (.type "method_descriptor")) (hm:MtR X id r) (ho:PE X o to) (ha:PA X (e::es) t)
    (hbase:attributeBase o name X.env (eval o X.env)=eval o X.env:=by rfl)
    (hfew:((backTo cpos (starEach (e::es) X.env)).all (fun x=> !x.1)&&(backToKw cpos (keywordEach [] X.env)).all (fun x=>x.1.isSome)
      &&decide ((e::es).length+([]:List Keyword).length+(if ([]:List Keyword).isEmpty then 0 else 1) < 30))=true:=by rfl)
    (hline:(apos.endLine == cpos.line)=true:=by rfl) (hs:starEach (e::es) X.env=(false,eval e X.env)::starEach es X.env:=by rfl) (hplain:(backTo cpos (starEach es X.env)).any (·.1)=false:=by rfl):
    PE X (.Call (.Attribute o name apos) (e::es) [] cpos) (Ap X.K T r to t):=by
  intro pins s σ H Q I h
  refine wpAny_Call_method_late hbase hfew hline rfl (ci (ho pins s σ H _ I h) fun v s1 ⟨x,H1,I1,r1,ty,q1⟩=>?_)
  obtain ⟨h1,h2⟩:=qU I1 r1 ty
  refine ⟨T,id,pa,slot,hty,h1,h2,?_⟩
  have hA:=ha cpos pins s1 σ H1 _ I1 q1
  rw [hs] at hA ⊢
  refine Calls.callWith_builtin (by show (false||(backTo cpos (starEach es X.env)).any (·.1))=false;rw [hplain] <;> rfl) (Calls.evalArgs_plain ?_)
  exact ci hA fun us s2 ⟨vs,H2,I2,r2,q2⟩=>hm pins s2 σ H2 x vs v us Q I2 r1 r2 q2
end
end L2
namespace L2
open PySem PySem.Spec PyProof.Rows
def zo (X:Cx) (id:String) (r:V→List V→Hp→VK→Prop):Prop:=
  ∀(pins:List (Addr×Obj)) (s:Shared) (σ:St) (H:Hp) (x:V) (xs:List V) (v:Value) (us:List Value) (Q:VK),Inv X pins σ H s→RelV x v→Vals xs us→r x xs H Q→
    wpAny (model X.prog X.w) X.A (call (.builtin id) (v::us)) (EP X pins σ Q) X.xe s
theorem Vals.one {x:V} {us:List Value} (h:Vals [x] us):∃u,us=[u]∧RelV x u:=by
  cases h with
  | cons r t=>cases t;exact ⟨_,rfl,r⟩
theorem Vals.two {x y:V} {us:List Value} (h:Vals [x,y] us):∃u v,us=[u,v]∧RelV x u∧RelV y v:=by
  cases h with
  | cons r t=>
    obtain ⟨v,rfl,q⟩:=Vals.one t
    exact ⟨_,_,rfl,r,q⟩
theorem Vals.zero:∀{us:List Value},Vals [] us→us=[]
  | _, .nil=>rfl
theorem Vals.dropLast {xs:List V} {us:List Value} (h:Vals xs us):Vals xs.dropLast us.dropLast:=by
  induction h with
  | nil=>exact .nil
  | cons r t ih=>
    cases t with
    | nil=>exact .nil
    | cons q t'=>exact .cons r ih
theorem Vals.eraseIdx:∀{xs:List V} {us:List Value} (i:Nat),Vals xs us→Vals (xs.eraseIdx i) (us.eraseIdx i)
  | _,_,_, .nil=> .nil
  | _,_,0, .cons _ t=>t
  | _,_,i+1, .cons r t=> .cons r (Vals.eraseIdx i t)
theorem Vals.reverse {xs:List V} {us:List Value} (h:Vals xs us):Vals xs.reverse us.reverse:=by
  induction h with
  | nil=>exact .nil
  | cons r t ih=>rw [List.reverse_cons,List.reverse_cons];exact Vals.append ih (.cons r .nil)
theorem Vals.rep {xs:List V} {us:List Value} (h:Vals xs us):∀k:Nat,Vals (List.replicate k xs).flatten (List.replicate k us).flatten
  | 0=> .nil
  | k+1=>by
    rw [List.replicate_succ,List.replicate_succ,List.flatten_cons,List.flatten_cons]
    exact Vals.append h (Vals.rep h k)
theorem nI {α:Type} (l:List α):l.eraseIdx (l.length - 1)=l.dropLast:=by
  induction l with
  | nil=>rfl
  | cons a r ih=>
    cases r with
    | nil=>rfl
    | cons b r=>
      have e:(a::b::r).length - 1=((b::r).length - 1)+1:=by
        have h1:(a::b::r).length=r.length+2:=rfl
        have h2:(b::r).length=r.length+1:=rfl
        omega
      rw [e,List.eraseIdx_cons_succ,ih]
      all_goals rfl
section
variable {X:Cx} {pins:List (Addr×Obj)} {σ:St} {H:Hp} {s:Shared} {l b:Addr} {xs ys zs:List V}
theorem Inv.lset {its its':List Value} {n:Nat} {f:Array Value→Array Value} {t':Nat} (I:Inv X pins σ H s) (hH:H l=some (.lst xs))
    (e:s.heap.get? l=some {cls:= .type "list",data:= .seq its.toArray n}) (hf:f its.toArray=its'.toArray) (hv:Vals ys its') (hz:ys.length≤sizeLine):
    Inv X pins σ (upd H l (.lst ys)) {s with heap:=s.heap.update l (Obj.mapSeq f),toks:=t'}:=by
  have q:=PySem.IsL.update e f
  rw [hf] at q
  refine I.write (x:=l) (e:=l) (by rw [hH];exact trivial) (.inl rfl) (fun b' u hb hu=>(Heap.get?_update_other s.heap (Obj.mapSeq f) (Ne.symm hb)).trans hu) ⟨_,q⟩ ?_
  exact ⟨hz,its',_,hv,q⟩
theorem Inv.lnew {its:List Value} {t':Nat} (I:Inv X pins σ H s) (hv:Vals ys its) (hz:ys.length≤sizeLine):
    Inv X pins σ (upd H s.heap.objs.size (.lst ys)) {s with heap:=s.heap.push {cls:= .type "list",data:= .seq its.toArray},toks:=t'}:=
  I.laid (fun _ _ q=>Heap.get?_push_of_some _ q) (Nat.le_refl _) ⟨hz,its,0,hv,Heap.get?_push_size _ rfl⟩
theorem Inv.fresh (I:Inv X pins σ H s):H s.heap.objs.size=none:=I.hok.fresh (Nat.le_refl _)
theorem Inv.lstM (I:Inv X pins σ H s) (hH:H l=some (.lst xs)):xs.length≤sizeLine∧∃(its:List Value) (n:Nat),Vals xs its∧xs.length=its.length∧s.heap.get? l=some {cls:= .type "list",data:= .seq its.toArray n}:=by
  obtain ⟨z,its,n,r,e⟩:=I.hok l _ hH
  exact ⟨z,its,n,r,r.length,e⟩
theorem qV {n:Nat} (h:n≤sizeLine):Builtin.List.listTooLong n=false:=by
  unfold Builtin.List.listTooLong
  exact decide_eq_false (by omega)
end
section
variable {X:Cx}
def t_:V→List V→Hp→VK→Prop:=fun x vs H Q=>∃l xs y,x= .ref l∧vs=[y]∧H l=some (.lst xs)∧xs.length < sizeLine∧Q .non (upd H l (.lst (xs++[y])))
theorem iu:zo X "list.append" t_:=by
  intro pins s σ H x vs v us Q I rx rv h
  obtain ⟨l,xs,y,rfl,rfl,hH,hz,q⟩:=h
  cases rx
  obtain ⟨u,rfl,ru⟩:=rv.one
  obtain ⟨z,its,n,r,hl,e⟩:=I.lstM hH
  refine call_meets F.slot_list_append ⟨_,e,rfl⟩ F.entry_list_append (F.args_list_append_2 _ _) (PySem.list_append l its.toArray n u (by rw [List.size_toArray];omega)) ⟨e,?_⟩
  refine ⟨.non,_,I.lset (its':=its++[u]) hH e (by simp) (r.append (.cons ru .nil)) ?_,rfl,q⟩
  rw [List.length_append,List.length_singleton]
  omega
def ua:V→List V→Hp→VK→Prop:=fun x vs H Q=>∃l b xs zs,x= .ref l∧vs=[.ref b]∧H l=some (.lst xs)∧H b=some (.lst zs)∧xs.length+zs.length≤sizeLine∧Q .non (upd H l (.lst (xs++zs)))
theorem pN:zo X "list.extend" ua:=by
  intro pins s σ H x vs v us Q I rx rv h
  obtain ⟨l,b,xs,zs,rfl,rfl,hH,hB,hz,q⟩:=h
  cases rx
  obtain ⟨u,rfl,ru⟩:=rv.one
  cases ru
  obtain ⟨z,its,n,r,hl,e⟩:=I.lstM hH
  obtain ⟨z2,its2,n2,r2,hl2,e2⟩:=I.lstM hB
  have hsz:its.toArray.size+its2.toArray.size≤sizeLine:=by rw [List.size_toArray,List.size_toArray];omega
  have hlong:¬(!its.toArray.isEmpty&&Builtin.List.listTooLong (its.toArray.size+its2.toArray.size))=true:=by
    rw [qV hsz,Bool.and_false]
    exact Bool.false_ne_true
  refine call_meets F.slot_list_extend ⟨_,e,rfl⟩ F.entry_list_extend (F.args_list_extend_2 _ _)
    (AutoSeq1.list_extend_list_list_0 l its.toArray n b its2.toArray n2 hlong (by rw [List.size_toArray];omega) (by omega)) ⟨e,e2,?_⟩
  refine ⟨.non,_,I.lset (its':=its++its2) hH e (by simp) (r.append r2) ?_,rfl,q⟩
  rw [List.length_append]
  omega
def zp:V→List V→Hp→VK→Prop:=fun x vs H Q=>∃l xs y,x= .ref l∧vs=[]∧H l=some (.lst xs)∧xs[xs.length - 1]? =some y∧Q y (upd H l (.lst xs.dropLast))
theorem wu:zo X "list.pop" zp:=by
  intro pins s σ H x vs v us Q I rx rv h
  obtain ⟨l,xs,y,rfl,rfl,hH,hy,q⟩:=h
  cases rx
  have hus:=rv.zero
  subst hus
  obtain ⟨z,its,n,r,hl,e⟩:=I.lstM hH
  obtain ⟨u,hu,ru⟩:=r.get hy
  have hy':its.toArray[its.toArray.size - 1]? =some u:=by
    show its.toArray[its.length - 1]? =some u
    rw [←Array.getElem?_toList,←hl]
    exact hu
  refine call_meets F.slot_list_pop ⟨_,e,rfl⟩ F.entry_list_pop (F.args_list_pop_1 _) (MeetsSeq.list_pop_last l its.toArray n u hy' (by rw [List.size_toArray];omega)) ⟨e,?_⟩
  refine ⟨y,_,I.lset (its':=its.dropLast) hH e ?_ r.dropLast ?_,ru,q⟩
  · show its.toArray.eraseIdxIfInBounds (its.toArray.size - 1)=its.dropLast.toArray
    rw [List.size_toArray,List.eraseIdxIfInBounds_toArray,nI]
  · rw [List.length_dropLast]
    omega
theorem ub {α:Type} (xs:List α) (k:Nat):(List.replicate k xs).flatten.length=k*xs.length:=by
  induction k with
  | zero=>simp
  | succ k ih=>rw [List.replicate_succ,List.flatten_cons,List.length_append,ih,Nat.succ_mul,Nat.add_comm]
end
end L2
namespace Att
open PySem PySem.W PySem.Calls PyProof.Rows
theorem jb {P:Params} {h:Heap}:∀(ns:List Int) (vs:List Value),WellAll P h vs (ns.map WData.int)→IntsAre vs ns:=by
  intro ns
  induction ns with
  | nil=>
    intro vs w
    rw [List.map_nil] at w
    cases w
    exact .nil
  | cons n ns ih=>
    intro vs w
    rw [List.map_cons] at w
    cases w with
    | cons a b=>
      cases a
      exact .cons _ _ (ih _ b)
theorem pO {l:OpenLaw} {n:Nat} (hn:l.most=some n) {P:Params} {h:Heap} {args:List WData} {vals:List Value}
    (hpre:l.row.toRowW.claim.pre args=true) (hwl:WellAll P h vals args):
    ∃a vs ns,vals=[Value.ref a]∧args=[WData.list (ns.map WData.int)]∧h.get? a=some {cls:= .type "list",data:= .seq vs.toArray}∧IntsAre vs ns∧ns.length≤n:=by
  have hsh:WShape.hasAll [] args [.list .int]=true:=(pre_splitW hpre).1
  have hc:l.pre.holds [] {args:=args}=true:=(pre_splitW hpre).2
  obtain ⟨d,r,rfl,h1,h2⟩:=hasAllW_cons hsh
  obtain rfl:=hasAllW_nil h2
  obtain ⟨xs,rfl,h3⟩:=hasW_list h1
  obtain ⟨ns,rfl⟩:=items_int h3
  have hlen:ns.length≤n:=by
    unfold OpenLaw.pre at hc
    have h4:(WTm.not (.lt (.lit (.int (n:Int))) (.len (.arg 0)))).holds [] {args:=[.list (ns.map .int)]}=true:=by
      have h4:=(holds_andW hc).1
      rw [hn] at h4
      exact h4
    have h5:=condW_of h4 (w_not (w_lt w_lit (w_len_list (w_arg rfl))))
    rw [List.length_map] at h5
    refine Nat.le_of_not_lt fun q=>?_
    have q':(n:Int) < ((ns.length:Nat):Int):=by omega
    first
      | (rw [decide_eq_true q'] at h5;exact absurd h5 (by decide))
      | (simp at h5;omega)
  cases hwl with
  | cons w1 w2=>
    cases w2
    cases w1 with
    | list ho hall=>exact ⟨_,_,ns,rfl,rfl,ho,jb ns _ hall,hlen⟩
theorem pP (l:OpenLaw) (args:List WData):l.row.toRowW.claim.post args (.bool true) args=true:=
  postW_of (r:=l.row.toRowW) (X:=(true == true))
    (show WShape.has [] (.bool true) .bool=true by first | rfl | decide | simp [WShape.has,WShape.arms,WShape.armsAll])
    (show (WTm.eq .res (.lit (.bool true))).value [] {args:=args,res:=some (.bool true),after:=args}=some (.bool (true == true)) from w_eq_bool (w_res rfl) w_lit) rfl
theorem ml {l:OpenLaw} {n:Nat} {q:Program} {loose:List Str} {XP:(Str→Option Value)→Heap→Prop} {YP:World→Heap→Prop} {d:DefRec}
    (hn:l.most=some n) (hdf:d.params.defaults=[])
    (call:∀(w:World) (s₀ s₁:Shared) (mg mb:Str→Option Value) (fa:Addr) (o:Obj) (pm cd doc:Value) (a:Addr) (vs:List Value) (ns:List Int),
      Ground q loose [] XP w s₀ mg mb s₁.heap→YP w s₁.heap→
      s₁.heap.get? fa=some o→o.data= .func (docDef d.name d.params d.body d.scope pm cd doc)→s₁.heap.CodeRec cd d.name→mg d.name=some (.ref fa)→
      s₁.heap.get? a=some {cls:= .type "list",data:= .seq vs.toArray}→IntsAre vs ns→ns.length≤n→s₁.gens=#[]→
      codeAny (model l.prog w) callerA (.call (.ref fa) ⟨[.ref a],[]⟩) (fun r s'=>r= .ok (.ret (.bool true))∧OldK s₁.heap s'.heap∧s'.os=s₁.os∧AllBare s'.gens) s₁):
    WalkO q loose XP YP l.row.toRowW d [] (fun f vs=>PySem.call f vs):=by
  intro w s₀ s₁ mg mb G Y fa o pm cd doc dV kV ho hd hcd hD hmg hg args vals as hpre hlay hrd hwl hlo
  obtain rfl:dV= .none:=Dflts.none hD hdf
  obtain rfl:kV= .none:=Dflts.noKw hD
  obtain ⟨a,vs,ns,rfl,rfl,hobj,hints,hlen⟩:=pO hn hpre hwl
  refine enter_call (codeAny_mono (call w s₀ s₁ mg mb fa o pm cd doc a vs ns G Y ho (fd_plain hd) hcd hmg hobj hints hlen hg) fun r s' hq=>?_)
  obtain ⟨rfl,h2,h3,h4⟩:=hq
  exact ⟨.inl ⟨.bool true, .bool true,[],rfl,fun _=>rfl, .bool true,pP l _,fun _=>⟨List.Pairwise.nil,fun _ hm=>(nomatch hm)⟩⟩,h2,h3,h4⟩
end Att
namespace L2
open PySem PySem.Spec PyProof.Rows
theorem fB:∀{vs:List Value} {ns:List Int},IntsAre vs ns→Vals (ns.map V.int) vs
  | _,_, .nil=> .nil
  | _,_, .cons n t h=> .cons ⟨t,rfl⟩ (fB h)
theorem ObjOk.tbl0 {P:Program} {w:World} {H:Hp} {h:Heap} {b:Addr} {q:Str} (e:h.get? b=some (PySem.W.tabObj #[])):ObjOk P w H h b (.tbl q):=⟨#[],e,trivial,fun pos cv z=>by cases z⟩
end L2
namespace L2
open PySem PySem.Spec PyProof.Rows
def aL (s:Stmt):Arguments:=match s with
  | .FunctionDef _ a _ _ _ _ _ _ _ _=>a
  | _=>{posonlyargs:=[],args:=[],vararg:=none,kwonlyargs:=[],kw_defaults:=[],kwarg:=none,defaults:=[]}
def ax (s:Stmt):List Stmt:=match s with
  | .FunctionDef _ _ b _ _ _ _ _ _ _=>b
  | _=>[]
def ag (s:Stmt):Scope:=match s with
  | .FunctionDef _ _ _ _ _ _ sc _ _ _=>sc
  | _=>{kind:= .function,names:=[],isGenerator:=false,isCoroutine:=false}
abbrev jc:pL:=fun _ _ _ _ _ _=>False
abbrev E0:XK:=fun _ _ _=>False
theorem yd {X:Cx}:nH jc X E0:=fun _ _ _ _ _ _ _ h=>h.elim
structure Fun (K:PySem.W.Frag) (x qual:Str) (st:Stmt) (f:Addr) (fd:FuncData):Prop where
  ex:∃(oc:Value) (od:Option Addr) (kV doc pm:Value) (an:Option Addr) (cdv ct:Value) (osl:Array (Option Value)),
    fd=PySem.W.fnOf x qual (aL st) (ax st) (ag st) .none kV doc pm an cdv ct∧K.lookup f=some ⟨oc,od, .func fd,osl⟩∧PySem.W.codeIn K cdv qual=true
  kp:PySem.W.keepIn K (.ref f)=true
section
variable {P:Program} {w:World} {K:PySem.W.Frag} {mg:Str→Option Value} {base:Heap}
theorem Fun.ok {x qual:Str} {st:Stmt} {f:Addr} {fd:FuncData} {N ps:List Str} {k:Nat} {sp:Sp} (F:Fun K x qual st f fd) (S:FnScope N ps (ag st)) (len:∀vs H Q E,sp vs H Q E→vs.length=ps.length)
    (hbody:∀(cdv:Value) (A:Around) (outer:List Env) (s:Shared) (H:Hp) (vs:List V) (Q:VK) (E:XK),Room k (A.deeper (envOfC qual (ag st) s.heap.objs.size f cdv))→sp vs H Q E→
      ∃t,PSs (ez jc P w K mg base N qual (ag st) f cdv A outer s H E).nox (ax st) t∧t {nx:=fun _ H'=>Q .non H',rt:=Q} (cH N vs) H):FnOk P w K mg base jc (k+1) f fd ps sp:=by
  obtain ⟨oc,od,kV,doc,pm,an,cdv,ct,osl,rfl,lk,hcd⟩:=F.ex
  refine qS lk hcd S len fun A outer s H vs Q E hr hsp=>?_
  obtain ⟨t,h,q⟩:=hbody cdv A outer s H vs Q E hr hsp
  exact ⟨t,h.nox,q⟩
theorem Fun.binds {x qual:Str} {st:Stmt} {f:Addr} {fd:FuncData} {ps:List Str} (F:Fun K x qual st f fd)
    (h:∀(kV doc pm:Value) (an:Option Addr) (cdv ct:Value) (us:List Value),us.length=ps.length→bindArgs (PySem.W.fnOf x qual (aL st) (ax st) (ag st) .none kV doc pm an cdv ct) ⟨us,[]⟩=pure (ps.zip us)):Binds K fd ps []:=by
  obtain ⟨oc,od,kV,doc,pm,an,cdv,ct,osl,rfl,lk,hcd⟩:=F.ex
  exact .all (h kV doc pm an cdv ct)
theorem nJ {x qual:Str} {st:Stmt} {f:Addr} {oc:Value} {od an:Option Addr} {osl:Array (Option Value)} {kV doc pm cdv ct:Value} (l:K.lookup f=some ⟨oc,od, .func (PySem.W.fnOf x qual (aL st) (ax st) (ag st) .none kV doc pm an cdv ct),osl⟩)
    (c:PySem.W.codeIn K cdv qual=true) (k:PySem.W.keepIn K (.ref f)=true):Fun K x qual st f (PySem.W.fnOf x qual (aL st) (ax st) (ag st) .none kV doc pm an cdv ct):=⟨⟨oc,od,kV,doc,pm,an,cdv,ct,osl,rfl,l,c⟩,k⟩
end
def Same (H H':Hp):Prop:=∀b o,H b=some o→H' b=some o
theorem Same.refl (H:Hp):Same H H:=fun _ _ h=>h
theorem Same.trans {H H1 H2:Hp} (a:Same H H1) (b:Same H1 H2):Same H H2:=fun c o h=>b c o (a c o h)
theorem Same.free {H H':Hp} (e:Same H H') {l:Addr} (h:H' l=Option.none):H l=Option.none:=by
  cases q:H l with
  | none=>rfl
  | some o=>
    rw [e l o q] at h
    cases h
theorem Same.seq {K:PySem.W.Frag} {H H':Hp} {a:Addr} {xs:List V} (e:Same H H') (h:SqL K H a xs):SqL K H' a xs:=by
  rcases h with (h | ⟨o,h⟩) | h
  · exact .inl (.inl (e _ _ h))
  · exact .inl (.inr ⟨o,e _ _ h⟩)
  · exact .inr h
end L2
namespace NH
section
variable {α:Type} [DecidableEq α]
def stp (r:List (α×Int)) (p:α×Int):List (α×Int):=
  match r with
  | []=>if p.2=0 then [] else [p]
  | q::r'=>if q.1=p.1 then (if q.2+p.2=0 then r' else (p.1,q.2+p.2)::r') else (if p.2=0 then q::r' else p::q::r')
def stk (c:List (α×Int)):List (α×Int):=c.foldl stp []
def short (c:List (α×Int)):List (α×Int):=(stk c).reverse
def runs (c:List (α×Int)):List (α×Int):=c.foldr (fun p r=>stp r p) []
def Red:List (α×Int)→Prop
  | []=>True
  | [p]=>p.2≠0
  | p::q::r=>p.2≠0∧p.1≠q.1∧Red (q::r)
theorem Red.tail {p:α×Int} {r:List (α×Int)} (h:Red (p::r)):Red r:=by
  cases r with
  | nil=>trivial
  | cons q r=>exact h.2.2
theorem Red.head {p:α×Int} {r:List (α×Int)} (h:Red (p::r)):p.2≠0:=by
  cases r with
  | nil=>exact h
  | cons q r=>exact h.1
theorem Red.cons {p:α×Int} {r:List (α×Int)} (h0:p.2≠0) (h1:∀q∈r.head?,p.1≠q.1) (h:Red r):Red (p::r):=by
  cases r with
  | nil=>exact h0
  | cons q r=>exact ⟨h0,h1 q rfl,h⟩
theorem Red.next {p:α×Int} {r:List (α×Int)} (h:Red (p::r)):∀q∈r.head?,p.1≠q.1:=by
  cases r with
  | nil=>intro q hq;cases hq
  | cons q r=>intro q' hq;cases hq;exact h.2.1
theorem uc {r:List (α×Int)} (h:Red r) (p:α×Int):Red (stp r p):=by
  cases r with
  | nil=>
    unfold stp
    by_cases h0:p.2=0
    · simp [h0,Red]
    · simp [h0,Red]
  | cons q r=>
    show Red (if q.1=p.1 then (if q.2+p.2=0 then r else (p.1,q.2+p.2)::r) else (if p.2=0 then q::r else p::q::r))
    by_cases e:q.1=p.1
    · rw [if_pos e]
      by_cases z:q.2+p.2=0
      · rw [if_pos z];exact h.tail
      · rw [if_neg z]
        refine Red.cons z (fun s hs=>?_) h.tail
        rw [←e];exact h.next s hs
    · rw [if_neg e]
      by_cases z:p.2=0
      · rw [if_pos z];exact h
      · rw [if_neg z];exact ⟨z,fun t=>e t.symm,h⟩
theorem ky:∀(c:List (α×Int)) {r:List (α×Int)},Red r→Red (c.foldl stp r)
  | [],_,h=>h
  | p::c,_,h=>ky c (uc h p)
theorem ud (c:List (α×Int)):Red (stk c):=ky c trivial
def contr (c:List (α×Int)):List (α×Int):=c.reverse.map fun p=>(p.1,-p.2)
theorem hV (c:List (α×Int)):(contr c).length=c.length:=by simp [contr]
def sn (w:List (α×Int)) (p:α×Int):List (α×Int):=(stp w.reverse p).reverse
def j7 (p x:α×Int):List (α×Int):=if x.1=p.1 then (if x.2+p.2=0 then [] else [(p.1,x.2+p.2)]) else (if p.2=0 then [x] else [p,x])
theorem fD (p x:α×Int) (r:List (α×Int)):stp (x::r) p=j7 p x++r:=by
  show (if x.1=p.1 then (if x.2+p.2=0 then r else (p.1,x.2+p.2)::r) else (if p.2=0 then x::r else p::x::r))=j7 p x++r
  unfold j7
  by_cases e:x.1=p.1
  · rw [if_pos e,if_pos e];split <;> rfl
  · rw [if_neg e,if_neg e];split <;> rfl
def yT (x p:α×Int):List (α×Int):=(j7 p x).reverse
theorem oJ (p x:α×Int) (r:List (α×Int)):sn (r++[x]) p=r++yT x p:=by
  unfold sn yT
  rw [List.reverse_append,List.reverse_singleton,List.singleton_append,fD,List.reverse_append,List.reverse_reverse]
theorem ye (p q:α×Int) (x:α×Int) (hx:x.2≠0):stp (sn [x] q) p=sn (stp [x] p) q:=by
  obtain ⟨n,a⟩:=p
  obtain ⟨k,b⟩:=q
  obtain ⟨m,u⟩:=x
  simp at hx
  by_cases e1:m=n
  · subst e1
    by_cases e2:m=k
    · subst e2
      by_cases z1:u+a=0 <;> by_cases z2:u+b=0
      · simp [stp,sn,z1,z2]
        have:a=b:=by omega
        have ha:a≠0:=by omega
        have hb:b≠0:=by omega
        simp [ha,hb,this]
      · have hb:u+b+a=b:=by omega
        by_cases b0:b=0
        · subst b0;simp [stp,sn,z1,hx]
        · simp [stp,sn,z1,z2,hb,b0]
      · have hb:u+a+b=a:=by omega
        by_cases a0:a=0
        · subst a0;simp [stp,sn,z2,hx]
        · simp [stp,sn,z1,z2,hb,a0]
      · have hb:u+b+a=u+a+b:=by omega
        by_cases z3:u+a+b=0
        · simp [stp,sn,z1,z2,hb,z3]
        · simp [stp,sn,z1,z2,hb,z3]
    · by_cases z1:u+a=0 <;> by_cases z2:b=0 <;> simp [stp,sn,e2,z1,z2]
  · by_cases e2:m=k
    · subst e2
      by_cases z1:u+b=0 <;> by_cases z2:a=0 <;> simp [stp,sn,e1,z1,z2]
    · by_cases z1:a=0 <;> by_cases z2:b=0 <;> simp [stp,sn,e1,e2,z1,z2]
theorem yf (p q:α×Int):stp (sn [] q) p=sn (stp [] p) q:=by
  obtain ⟨n,a⟩:=p
  obtain ⟨k,b⟩:=q
  by_cases z1:a=0 <;> by_cases z2:b=0
  · simp [stp,sn,z1,z2]
  · by_cases e:k=n <;> simp [stp,sn,z1,z2,e]
  · by_cases e:n=k <;> simp [stp,sn,z1,z2,e]
  · by_cases e:k=n
    · subst e
      by_cases z:a+b=0
      · have z':b+a=0:=by omega
        simp [stp,sn,z1,z2,z,z']
      · have z':¬b+a=0:=by omega
        simp [stp,sn,z1,z2,z,z']
        omega
    · have e':¬n=k:=fun t=>e t.symm
      simp [stp,sn,z1,z2,e,e']
theorem zq (p q:α×Int) {w:List (α×Int)} (h:Red w):stp (sn w q) p=sn (stp w p) q:=by
  cases w with
  | nil=>exact yf p q
  | cons x r=>
    rcases List.eq_nil_or_concat r with rfl | ⟨m,y,e⟩
    · exact ye p q x h
    · have e':r=m++[y]:=by rw [e] <;> simp
      subst e'
      have e1:x::(m++[y])=(x::m)++[y]:=rfl
      have e2:sn (x::(m++[y])) q=x::(m++yT y q):=by rw [e1,oJ];rfl
      rw [e2,fD,fD,←List.append_assoc,←List.append_assoc,oJ]
theorem eB:∀{m:List (α×Int)} {y z:α×Int},Red (m++[y])→z.2≠0→y.1≠z.1→Red (m++[y]++[z])
  | [],y,z,h,h0,h1=>⟨h,h1,h0⟩
  | [x],y,z,h,h0,h1=>⟨h.1,h.2.1,eB (m:=[]) h.2.2 h0 h1⟩
  | x::x'::m,y,z,h,h0,h1=>⟨h.1,h.2.1,eB (m:=x'::m) h.2.2 h0 h1⟩
theorem iU:∀{w:List (α×Int)},Red w→Red w.reverse
  | [],_=>trivial
  | [p],h=>h
  | p::q::r,h=>by
    have ih:=iU (w:=q::r) h.2.2
    rw [List.reverse_cons,List.reverse_cons]
    rw [List.reverse_cons] at ih
    exact eB ih h.1 fun t=>h.2.1 t.symm
theorem pQ (c:List (α×Int)):Red (short c):=iU (ud c)
theorem jy (c:List (α×Int)) (p:α×Int):short (c++[p])=sn (short c) p:=by
  unfold short stk sn
  rw [List.foldl_append,List.reverse_reverse]
  rfl
theorem nK (p:α×Int):∀c:List (α×Int),short (p::c)=stp (short c) p:=by
  intro c
  induction hn:c.length generalizing c with
  | zero=>
    have:c=[]:=List.length_eq_zero_iff.mp hn
    subst this
    simp [short,stk,stp]
    by_cases z:p.2=0 <;> simp [z]
  | succ n ih=>
    rcases List.eq_nil_or_concat c with rfl | ⟨m,y,e⟩
    · simp at hn
    · have e':c=m++[y]:=by rw [e] <;> simp
      subst e'
      have hm:m.length=n:=by simp at hn;exact hn
      have e1:p::(m++[y])=(p::m)++[y]:=rfl
      rw [e1,jy,ih m hm,jy,zq p y (pQ m)]
theorem cB:∀c:List (α×Int),short c=runs c
  | []=>rfl
  | p::c=>by rw [nK,cB c];rfl
theorem gb:∀{w:List (α×Int)},Red w→runs w=w
  | [],_=>rfl
  | [p],h=>by
    have:p.2≠0:=h
    simp [runs,stp,this]
  | p::q::r,h=>by
    have ih:=gb (w:=q::r) h.2.2
    show stp (runs (q::r)) p=_
    rw [ih]
    have h1:¬q.1=p.1:=fun t=>h.2.1 t.symm
    simp [stp,h1,h.1]
theorem ue (r:List (α×Int)) (p:α×Int):(stp r p).length≤r.length+1:=by
  cases r with
  | nil=>by_cases z:p.2=0 <;> simp [stp,z]
  | cons q r=>rw [fD];unfold j7;split <;> split <;> simp <;> omega
end
end NH
namespace L2
open PySem PySem.Spec PyProof.Rows
theorem dy {H:Hp} {p:Addr} (h:H p=none) (o:HO):Same H (upd H p o):=fun b u q=>by rw [aw (ba q h)];exact q
theorem Same.tup {K:PySem.W.Frag} {H H':Hp} {a:Addr} {xs:List V} (e:Same H H') (h:SqT K H a xs):SqT K H' a xs:=by
  rcases h with (h | ⟨o,h⟩) | h
  · exact .inl (.inl (e _ _ h))
  · exact .inl (.inr ⟨o,e _ _ h⟩)
  · exact .inr h
def SameBut (l:Addr) (H H':Hp):Prop:=∀b o,b≠l→H b=some o→H' b=some o
theorem SameBut.upd {H:Hp} {l:Addr} (o:HO):SameBut l H (upd H l o):=fun b u hb q=>by rw [aw hb];exact q
theorem SameBut.trans {H H1 H2:Hp} {l:Addr} (a:SameBut l H H1) (b:SameBut l H1 H2):SameBut l H H2:=fun c o hc q=>b c o hc (a c o hc q)
theorem SameBut.same {H H':Hp} {l:Addr} (a:SameBut l H H') (h:H l=none):Same H H':=fun b o q=>a b o (ba q h) q
theorem SameBut.tup {K:PySem.W.Frag} {H H':Hp} {l a:Addr} {xs ys:List V} (e:SameBut l H H') (hl:H l=some (.lst ys)) (h:SqT K H a xs):SqT K H' a xs:=by
  rcases h with (h | ⟨o,h⟩) | h
  · exact .inl (.inl (e _ _ (vp h hl (by intro z;cases z)) h))
  · exact .inl (.inr ⟨o,e _ _ (vp h hl (by intro z;cases z)) h⟩)
  · exact .inr h
mutual
inductive DOf (K:PySem.W.Frag) (H:Hp):V→PyData→Prop
  | non:DOf K H .non .none
  | bl (b:Bool):DOf K H (.bl b) (.bool b)
  | int (i:Int):DOf K H (.int i) (.int i)
  | str (x:Str):DOf K H (.str x) (.str x)
  | lst {a:Addr} {xs:List V} {ds:List PyData}:SqL K H a xs→DAll K H xs ds→DOf K H (.ref a) (.list ds)
  | tup {a:Addr} {xs:List V} {ds:List PyData}:SqT K H a xs→DAll K H xs ds→DOf K H (.ref a) (.tuple ds)
inductive DAll (K:PySem.W.Frag) (H:Hp):List V→List PyData→Prop
  | nil:DAll K H [] []
  | cons {x:V} {xs:List V} {d:PyData} {ds:List PyData}:DOf K H x d→DAll K H xs ds→DAll K H (x::xs) (d::ds)
end
section
variable {X:Cx} {pins:List (Addr×Obj)} {σ:St} {H:Hp} {s:Shared}
theorem DOf.reads (I:Inv X pins σ H s) {x:V} {d:PyData} {u:Value} (h:DOf X.K H x d) (r:RelV x u):∃as,Reads s.heap u d as:=DOf.rec (motive_1:=fun x d _=>∀{u:Value},RelV x u→∃as,Reads s.heap u d as) (motive_2:=fun xs ds _=>∀{us:List Value},Vals xs us→∃as,ReadsAll s.heap us ds as)
    (fun r=>by cases r;exact ⟨_,Reads.none⟩) (fun b _ r=>by cases r;exact ⟨_,Reads.bool b⟩) (fun i _ r=>by obtain ⟨t,rfl⟩:=r;exact ⟨_,Reads.int i t⟩) (fun x _ r=>by obtain ⟨t,rfl⟩:=r;exact ⟨_,Reads.str x t⟩)
    (fun hq _ ih _ r=>by
      cases r
      obtain ⟨its,rv,⟨o,n,e,c,_,d⟩,_⟩:=I.list hq
      obtain ⟨as,q⟩:=ih rv
      exact ⟨_,reads_list_at e c d (by simpa using q)⟩)
    (fun hq _ ih _ r=>by
      cases r
      obtain ⟨its,rv,⟨o,e,c,n,d⟩,_⟩:=I.tuple hq
      obtain ⟨as,q⟩:=ih rv
      exact ⟨_,reads_tuple_at e c d (by simpa using q)⟩)
    (fun r=>by cases r;exact ⟨_,ReadsAll.nil⟩)
    (fun _ _ a b _ r=>by
      cases r with
      | cons r rt=>
        obtain ⟨as,q⟩:=a r
        obtain ⟨bs,p⟩:=b rt
        exact ⟨_,ReadsAll.cons q p⟩) h r
end
def yg (K:PySem.W.Frag):R2:=fun x y H Q=>∃d e,DOf K H x d∧DOf K H y e∧SeqAt.shaped d=true∧SeqAt.shaped e=true∧Q (.bl (PyData.eqv d e)) H
def yh (K:PySem.W.Frag):R2:=fun x y H Q=>∃d e,DOf K H x d∧DOf K H y e∧SeqAt.shaped d=true∧SeqAt.shaped e=true∧Q (.bl (!PyData.eqv d e)) H
theorem qW {X:Cx} (hu:X.A.units+64 < cLine):OpR X (compareOp .Eq) (yg X.K):=by
  intro pins s σ H x y v u Q I rx ry h
  obtain ⟨d,e,hd,he,s1,s2,q⟩:=h
  obtain ⟨as,ra⟩:=hd.reads I rx
  obtain ⟨bs,rb⟩:=he.reads I ry
  exact eq_dataH ra rb s1 s2 hu ⟨.bl _,H,I,rfl,q⟩
theorem qX {X:Cx} (hu:X.A.units+64 < cLine):OpR X (compareOp .NotEq) (yh X.K):=by
  intro pins s σ H x y v u Q I rx ry h
  obtain ⟨d,e,hd,he,s1,s2,q⟩:=h
  obtain ⟨as,ra⟩:=hd.reads I rx
  obtain ⟨bs,rb⟩:=he.reads I ry
  exact ne_dataH ra rb s1 s2 hu ⟨.bl _,H,I,rfl,q⟩
def zr (K:PySem.W.Frag) (a:Addr) (xs:List V):It:=
  ⟨fun i H=>SqL K H a xs∧i < xs.length,fun i H x H'=>H'=H∧xs.reverse[i]? =some x,fun i H=>SqL K H a xs∧i=xs.length⟩
theorem qY {P:Program} {w:World} {K:PySem.W.Frag} {tg:Expr} (a it:Addr) (xs:List V):Turn P w K tg (zr K a xs) [it] it (fun i h=>h.IsRevIter it a ((xs.length:Int) - 1 - (i:Int))) where
  mem:=by simp
  obj:=fun i h st b hb=>by
    have e:b=it:=by simpa using hb
    subst e
    obtain ⟨o,e,c,d⟩:=st
    exact ⟨o,e,fun v z=>by rw [d] at z;cases z⟩
  keep:=fun i h h' st k=>st.at fun o e=>k it (by simp) o e
  item:=by
    intro X hP hw hK hc i pins s σ H E I hf st hg
    subst hP hw hK
    obtain ⟨hq,hx⟩:=hg
    obtain ⟨its,rv,p,hz⟩:=I.list hq
    have hlen:=rv.length
    have e0:(xs.length:Int) - 1 - (i:Int)=((xs.length - 1 - i:Nat):Int):=by omega
    have hget:xs.reverse[i]? =xs[xs.length - 1 - i]? :=List.getElem?_reverse hx
    obtain ⟨x,hx'⟩:∃x,xs[xs.length - 1 - i]? =some x:=⟨xs[xs.length - 1 - i]'(by omega),List.getElem?_eq_getElem (by omega)⟩
    obtain ⟨u,hu,ru⟩:=rv.get hx'
    obtain ⟨f0,f1,f2,f3,f4,f5⟩:=hf it (by simp)
    have st1:s.heap.IsRevIter it a ((xs.length - 1 - i:Nat):Int):=by rw [←e0];exact st
    refine wpAny_pyNext_rev_item st1 p.isList (x:=u) (by simpa using hu) fun h' st' sb=>?_
    have I1:Inv X pins σ H {s with heap:=h'}:=I.turned (t':=s.toks) (fun b o hb e=>(sb.2 b hb).trans e) f0 f1 f3 f4 f5
    have e1:((xs.length - 1 - i:Nat):Int) - 1=(xs.length:Int) - 1 - ((i+1:Nat):Int):=by omega
    have st2:h'.IsRevIter it a ((xs.length:Int) - 1 - ((i+1:Nat):Int)):=by rw [←e1];exact st'
    obtain ⟨o,e,c,d⟩:=id st'
    exact ⟨u,rfl,kq (s:={s with heap:=h'}) e c d (by decide) ⟨x,H,I1,ru,⟨rfl,hget.trans hx'⟩,st2,fun b hb=>(hf b hb).1⟩⟩
  done:=by
    intro X hP hw hK hc i pins s σ H E I hf st hg
    subst hP hw hK
    obtain ⟨hq,hx⟩:=hg
    obtain ⟨f0,f1,f2,f3,f4,f5⟩:=hf it (by simp)
    have e0:(xs.length:Int) - 1 - (i:Int)= -1:=by omega
    have st1:s.heap.IsRevIter it a (-1):=by rw [←e0];exact st
    exact wpAny_pyNext_rev_end (I.ok.hd hc) st1 fun h' eb=>⟨rfl,I.turned (t':=s.toks) (fun b o hb e=>eb b o hb e) f0 f1 f3 f4 f5⟩
  self:=fun _ _ _ _ _ st h=>wpAny_pyIter_revIter st h
section
variable {X:Cx} {tg:Expr}
def zt (K:PySem.W.Frag) (tl:TA):TI:=fun σ H R=>tl σ H fun vs H1=>∃a xs,vs=[.ref a]∧SqL K H1 a xs∧R (zr K a xs) H1
theorem wv {l:Expr} {tl:TA} {p pos:Pos} (hg:Gl X "reversed") (hm:X.mg "reversed"=none) (ha:PA X [l] tl) (hs:starEach [l] X.env=[(false,eval l X.env)]:=by rfl):PI X tg (.Call (.Name "reversed" p) [l] [] pos) (zt X.K tl):=by
  intro pins s σ H R I h
  refine Call_ (im I hg hm boot_reversed (PyProof.Rows.callWith_type1 (ci (ha pos pins s σ H _ I h) fun us s1 ⟨vs,H1,I1,r1,q1⟩=>?_) hs rfl))
  obtain ⟨a,xs,e,hq,q⟩:=q1
  subst e
  cases r1 with
  | cons r rr=>
    cases rr
    cases r
    obtain ⟨its,rv,p,hz⟩:=I1.list hq
    have hlen:=rv.length
    refine call_reversed_list p.isList ?_
    have hit:(s1.heap.push (revObj a (((its.toArray).size:Int) - 1))).IsRevIter s1.heap.objs.size a ((xs.length:Int) - 1 - ((0:Nat):Int)):=by
      refine ⟨_,Heap.get?_push_size _ rfl,rfl,?_⟩
      have e1:((its.toArray.size:Nat):Int) - 1=(xs.length:Int) - 1 - ((0:Nat):Int):=by rw [List.size_toArray];omega
      show Data.fields #[.ref a,rawInt ((its.toArray.size:Int) - 1)]=_
      rw [e1]
    have I2:Inv X pins σ H1 {s1 with heap:=s1.heap.push (revObj a (((its.toArray).size:Int) - 1))}:=I1.kept (t':=s1.toks) fun b o e=>Heap.get?_push_of_some _ e
    refine wpAny_pyIter_revIter hit ?_
    refine ⟨s1.heap.objs.size,[s1.heap.objs.size],_,_,H1,rfl,I2,qY a _ xs,hit,fun b hb=>?_,q⟩
    have e:b=s1.heap.objs.size:=by simpa using hb
    subst e
    have f:=I1.fpOk (H':=H1) (Nat.le_refl _) (I1.hok.fresh (Nat.le_refl _))
    exact f
end
end L2
namespace L2
open PySem PySem.Spec PyProof.Rows
section
variable {prog:Program} {w:World} {A:Around} {R:Result→Shared→Prop} {s:Shared}
theorem hW {elt target iter:Expr} {ifs:List Expr} {scope:Scope} {pos:Pos} {it acc:Value} {env:Env} (I:Nat→Shared→Prop)
    (turn:∀n s,I n s→wpAny (model prog w) A (pyNext it) (fun r s₁=>match r with
      | none=>R (.ok .next) s₁
      | some v=>wpAny (model prog w) A (letOwnedTupleGo target it v) (fun _ s₁'=>wpAny (model prog w) A (assign target env v) (fun _ s₂=>
          wpAny (model prog w) A (forIn ifs true fun c r=>if r=true then do let ok ←isTrue c env (eval c env);pure (ForInStep.yield ok) else pure (ForInStep.yield r)) (fun ok s₃=>
            if ok=true then wpAny (model prog w) A (eval elt env) (fun x s₄=>
              wpAny (model prog w) A (call (.builtin "list.append") [acc,x]) (fun _ s₅=>∃m,m < n∧I m s₅) (fun _ _=>False) s₄) (fun _ _=>False) s₃
            else ∃m,m < n∧I m s₃) (fun _ _=>False) s₂) (fun _ _=>False) s₁') (fun _ _=>False) s₁) (fun _ _=>False) s)
    (n:Nat) (h:I n s):
    codeAny (model prog w) A (.compLoop (.ListComp elt [⟨target,iter,ifs,0⟩] scope pos) 0 it acc env) R s:=by
  refine codeAny_loop rfl I (fun n s hI=>?_) n h
  show wpAny _ A ((compTurn (.ListComp elt [⟨target,iter,ifs,0⟩] scope pos) 0 it acc env).onRaise (fun x=>do noteFrame x env;theTreesLotGoes x)) _ _ s
  refine wpAny_noted ?_
  rw [compTurn_list]
  refine wpAny_bind (wpAny_standAt (wpAny_bind (wpAny_mono (turn n s hI) (fun r s₁ h₁=>?_) fun _ _ h'=>h'.elim)))
  cases r with
  | none=>exact wpAny_pure h₁
  | some v=>
    refine wpAny_bind (wpAny_mono h₁ (fun _ s₁' h₁'=>?_) fun _ _ h'=>h'.elim)
    refine wpAny_bind (wpAny_mono h₁' (fun _ s₂ h₂=>wpAny_bind (wpAny_mono h₂ (fun ok s₃ h₃=>?_) fun _ _ h'=>h'.elim)) fun _ _ h'=>h'.elim)
    cases ok with
    | false=>exact wpAny_pure ⟨rfl,h₃⟩
    | true=>
      exact wpAny_bind (wpAny_bind (wpAny_mono h₃ (fun x s₄ h₄=>wpAny_bind (wpAny_mono h₄ (fun _ s₅ h₅=>wpAny_pure (wpAny_pure ⟨rfl,h₅⟩)) fun _ _ h'=>h'.elim)) fun _ _ h'=>h'.elim))
end
def Cx.comp (X:Cx) (sc:Scope) (cl:List (Str×Addr)) (N:List Str) (C:Addr) (s₀:Shared) (H₀:Hp) (fp:List Addr):Cx:=
  ⟨X.prog,X.w,X.K,X.mg,X.base,X.A,N,s₀,H₀,⟨sc,C,X.env.globals,cl,X.env.qual,none,X.env.code,X.env.frame,X.env.builtins⟩,X.stack,X.stack,fp,fun _=>false,X.calm,[],fun _ _=>False⟩
def yi (X:Cx) (ifs:List Expr) (t:TT):Prop:=
  ∀(pins:List (Addr×Obj)) (s:Shared) (σ:St) (H:Hp) (Q:Bool→Hp→Prop),Inv X pins σ H s→t σ H Q→
    wpAny (model X.prog X.w) X.A (forIn ifs true fun c r=>if r=true then do let ok ←isTrue c X.env (eval c X.env);pure (ForInStep.yield ok) else pure (ForInStep.yield r)) (TP X pins σ Q) X.xe s
def zu:TT:=fun _ H Q=>Q true H
theorem oK {X:Cx}:yi X [] zu:=fun _ _ _ H _ I h=>wpAny_tests_nil ⟨H,I,h⟩
def slots (js:List (Option Nat)) (σ:St):St:=js.map fun j=>j.bind fun j=>(σ[j]?).join
def mn (js:List (Option Nat)) (wi:TI) (g:TG) (tt:TT) (te:TE):TE:=fun σ H Q=>wi σ H fun J H1=>∀l,H1 l=none→∃W:Nat→Nat→St→Hp→Prop,(∃m,W 0 m (slots js σ) (upd H1 l (.lst [])))∧
  ∀i m σ' H',W i m σ' H'→(J.stop i H'∧Q (.ref l) H')∨(J.go i H'∧∃N:St→Hp→Prop,(∀σ' H',N σ' H'→∃m',m' < m∧W (i+1) m' σ' H')∧∀x H2,J.yld i H' x H2→g x σ' H2 fun σ3 H3=>tt σ3 H3 fun b H4=>
    if b=true then te σ3 H4 fun y H5=>∃ys,H5 l=some (.lst ys)∧ys.length < sizeLine∧N σ3 (upd H5 l (.lst (ys++[y]))) else N σ3 H4)
section
variable {X:Cx} {elt target iter:Expr} {ifs:List Expr} {scope sc:Scope} {cl:List (Str×Addr)} {N:List Str} {pos:Pos} {wi:TI} {g:TG} {tt:TT} {te:TE} {js:List (Option Nat)}
structure CompOk (X:Cx) (scope sc:Scope) (cl:List (Str×Addr)) (N:List Str) (js:List (Option Nat)):Prop where
  clos:closureFor scope X.env=pure cl
  rel:relabel scope X.env=sc
  nocell:∀y∈scope.names,y.2≠ .cell
  kind:scope.kind= .function
  names:∀y∈scope.names,y.2= .local→scope.names.lookup y.1=some .local
  same:∀x c,cl.lookup x=some c→X.env.cells.lookup x=some c
  has:∀x,(sc.names.lookup x=some .cell∨sc.names.lookup x=some .free)→∃c,cl.lookup x=some c
  len:js.length=N.length
  from_:∀(i j:Nat),js[i]? =some (some j)→∃x,N[i]? =some x∧X.N[j]? =some x∧(sc.names.lookup x=some .cell∨sc.names.lookup x=some .free)∧(X.env.kindOf x=some .cell∨X.env.kindOf x=some .free)
theorem qZ {use:Option (Value→Sem Unit)} {Qv:Value→Shared→Prop} (K:CompOk X scope sc cl N js) (hc:X.calm=true) (hi:PI X target iter wi)
    (hgg:∀C s₀ H₀ fp,PG (X.comp sc cl N C s₀ H₀ fp) target g) (htt:∀C s₀ H₀ fp,yi (X.comp sc cl N C s₀ H₀ fp) ifs tt) (hee:∀C s₀ H₀ fp,PE (X.comp sc cl N C s₀ H₀ fp) elt te)
    (hs:∀x,foldedSetIterable iter X.env x=pure x) (pins:List (Addr×Obj)) (s:Shared) (σ:St) (H:Hp) (Q:VK) (I:Inv X pins σ H s) (h:mn js wi g tt te σ H Q)
    (hend:∀(D C:Addr) (H4:Hp) (s5:Shared) (m:Str→Option Value),Inv X pins σ H4 s5→s5.heap.Ns C m→H4 C=none→C≠X.env.locals→C∉X.fs→X.s₀.heap.objs.size≤C→(∀x c,X.env.cells.lookup x=some c→c≠C)→(∀p∈X.pn++pins,p.1≠C)→Q (.ref D) H4→
      compPost (model X.prog X.w) X.A X.xe use Qv (.ref D) C (.ok .next) s5):
    wpAny (model X.prog X.w) X.A (comprehension (.ListComp elt [⟨target,iter,ifs,0⟩] scope pos) scope X.env (firstIterPos [⟨target,iter,ifs,0⟩] pos) (newList []) false (firstIter [⟨target,iter,ifs,0⟩] X.env) use) Qv X.xe s:=by
  refine wpAny_comprehension_free (use:=use) rfl hs K.clos K.kind K.names (ci (hi pins s σ H _ I h) fun v s1 h1=>ci h1 fun itv s2 h2=>?_)
  obtain ⟨it,fp,tn,J,H2,e,I2,T,st2,f2,R⟩:=h2
  subst e
  refine wpAny_newObj_type (wpAny_newFunctionEnv K.nocell (by intro y hy;simp at hy) (fun h₁ hns₁ hsb₁=>?_) K.kind)
  dsimp only at hns₁ hsb₁ ⊢
  have I3:Inv X pins σ (upd H2 s2.heap.objs.size (.lst [])) {s2 with heap:=s2.heap.push {cls:= .type "list",dict:=none,data:= .seq ([]:List Value).toArray}}:=
    I2.lnew (t':=s2.toks) (its:=[]) .nil (Nat.zero_le _)
  obtain ⟨W,⟨m0,w0⟩,turn⟩:=R s2.heap.objs.size (I2.hok.fresh (Nat.le_refl _))
  generalize hP:s2.heap.push {cls:= .type "list",dict:=none,data:= .seq ([]:List Value).toArray}=h3 at hns₁ hsb₁ I3 ⊢
  generalize hD:s2.heap.objs.size=D at w0 turn I3 ⊢
  have hsz3:h3.objs.size=D+1:=by rw [←hP,Heap.size_push,hD]
  have old3:∀b o,s2.heap.get? b=some o→h3.get? b=some o:=fun b o e=>by rw [←hP];exact Heap.get?_push_of_some _ e
  have old:∀b o,h3.get? b=some o→h₁.get? b=some o:=fun b o e=>hsb₁.extBut b o (Nat.ne_of_lt (Heap.lt_size e)) (Heap.get?_push_of_some _ e)
  have fpD:∀b∈fp,b < D:=fun b hb=>by
    obtain ⟨o,e,_⟩:=T.obj _ _ st2 b hb
    rw [←hD];exact Heap.lt_size e
  have frD:∀b∈fp,(upd H2 D (.lst [])) b=none:=fun b hb=>by rw [aw (Nat.ne_of_lt (fpD b hb))];exact (f2 b hb).1
  have f3:∀b∈fp,io X pins (upd H2 D (.lst [])) b:=fun b hb=>⟨frD b hb,(f2 b hb).2⟩
  have Hfresh:∀a,h3.objs.size≤a→(upd H2 D (.lst [])) a=none:=fun a ha=>I3.hok.fresh ha
  have cellC:∀x c,X.env.cells.lookup x=some c→c < h3.objs.size:=fun x c e=>by
    obtain ⟨v,q⟩:=I3.cell x c e
    exact q.lt
  have YOk:(X.comp sc cl N h3.objs.size {s2 with heap:=h3} (upd H2 D (.lst [])) fp).Ok:=by
    refine ⟨I3.ok.mod,?_,I3.ok.glob,I3.ok.blt,Nat.le_refl _,fun x y c e1 e2=>I3.ok.inj x y c (K.same x c e1) (K.same y c e2),fun x hx=>K.has x hx,fun x c hf _=>absurd hf (by intro z;cases z),I3.ok.hd,I3.ok.frames, .inl rfl,fun b hb=>⟨?_,fun x c e=>(f2 b hb).2.2.2.2.1 x c (K.same x c e)⟩,
      I3.bs,Nat.le_trans I3.ok.bsz I3.sz,fun b o e hb=>?_,fun b hb hm=>?_,I3.stack,I3.stkFree,I3.tab⟩
    · rw [←K.rel];exact K.kind
    · exact Nat.ne_of_lt (by rw [hsz3];exact Nat.lt_succ_of_lt (fpD b hb))
    · rcases (f2 b hb).2.2.2.1 with z | z
      · exact I3.ok.noex b o e z
      · exact absurd (Nat.lt_of_lt_of_le (Heap.lt_size (I3.ok.bs b o e).1) z) (Nat.lt_irrefl _)
    · rcases List.mem_cons.mp (I3.stkSub b hm) with z | z
      · exact (f2 b hb).2.1 z
      · exact (f2 b hb).2.2.1 z
  have IY:Inv (X.comp sc cl N h3.objs.size {s2 with heap:=h3} (upd H2 D (.lst [])) fp) [] (slots js σ) (upd H2 D (.lst [])) {s2 with heap:=h₁,toks:=s2.toks+([]:List (Str×Value)).length}:=by
    refine ⟨YOk,rfl,I3.bare,Un.kept old,⟨_,hns₁,fun i x v e1 e2 e3=>?_⟩,fun x c e=>?_,Hfresh _ (Nat.le_refl _),fun x c e=>I3.freeC x c (K.same x c e),fun p hp=>absurd (show p∈([]:List (Addr×Obj)) from hp) (by simp),I3.hok.kept old,?_⟩
    · unfold slots at e2
      rw [List.getElem?_map] at e2
      cases ej:js[i]? with
      | none=>rw [ej] at e2;cases e2
      | some jo=>
        rw [ej] at e2
        cases jo with
        | none=>cases e2
        | some j=>
          obtain ⟨y,n1,n2,k1,k2⟩:=K.from_ i j ej
          have exy:y=x:=Option.some.inj (n1.symm.trans e1)
          subst exy
          have e2':(σ[j]?).join=some v:=Option.some.inj e2
          have e4:σ[j]? =some (some v):=by
            cases es:σ[j]? with
            | none=>rw [es] at e2';cases e2'
            | some w=>rw [es] at e2';exact congrArg some e2'
          obtain ⟨m,_,hl⟩:=I3.loc
          obtain ⟨u,ru,lk⟩:=hl j y v n2 e4 (by
            rcases k2 with z | z
            · exact .inr (.inl z)
            · exact .inr (.inr z))
          refine ⟨u,ru, .inr ⟨k1,?_⟩⟩
          obtain ⟨c,hcl⟩:=K.has y k1
          refine ⟨c,hcl,?_⟩
          rcases lk with ⟨z,_⟩ | ⟨_,c',e5,ic⟩
          · rcases k2 with q | q
            · rw [q] at z;cases z
            · rw [q] at z;cases z
          · have:c'=c:=Option.some.inj (e5.symm.trans (K.same y c hcl))
            subst this
            obtain ⟨o,ho,hd⟩:=ic
            exact ⟨o,old _ _ ho,hd⟩
    · obtain ⟨v,o,ho,hd⟩:=I3.cell x c (K.same x c e)
      exact ⟨v,o,old _ _ ho,hd⟩
    · unfold slots;rw [List.length_map];exact K.len
  have loop:∀s₃:Shared,s₃={s2 with heap:=h₁,toks:=s2.toks+([]:List (Str×Value)).length}→
      codeAny (model X.prog X.w) X.A (.compLoop (.ListComp elt [⟨target,iter,ifs,0⟩] scope pos) 0 (.ref it) (.ref D) (X.comp sc cl N h3.objs.size {s2 with heap:=h3} (upd H2 D (.lst [])) fp).env)
        (compPost (model X.prog X.w) X.A X.xe use Qv (.ref D) h3.objs.size) s₃:=by
    rintro s₃ rfl
    refine hW (fun n s'=>∃i σ' H',Inv (X.comp sc cl N h3.objs.size {s2 with heap:=h3} (upd H2 D (.lst [])) fp) [] σ' H' s'∧tn i s'.heap∧(∀b∈fp,H' b=none)∧W i n σ' H') ?_ m0
      ⟨0,_,_,IY,T.keep _ _ _ st2 (fun b hb o e=>old b o (old3 b o e)),frD,w0⟩
    rintro n s4 ⟨i,σ4,H4,I4,st4,fr4,w4⟩
    have ff:∀{H':Hp},(∀b∈fp,H' b=none)→∀b∈fp,io (X.comp sc cl N h3.objs.size {s2 with heap:=h3} (upd H2 D (.lst [])) fp) [] H' b:=fun hn b hb=>
      ⟨hn b hb,(YOk.exf b hb).1,YOk.exfs b hb, .inl hb,(YOk.exf b hb).2,fun p hp=>absurd (show p∈([]:List (Addr×Obj)) from hp) (by simp)⟩
    have hg:=hgg h3.objs.size {s2 with heap:=h3} (upd H2 D (.lst [])) fp
    have ht:=htt h3.objs.size {s2 with heap:=h3} (upd H2 D (.lst [])) fp
    have he:=hee h3.objs.size {s2 with heap:=h3} (upd H2 D (.lst [])) fp
    rcases turn i n σ4 H4 w4 with ⟨stop,qn⟩ | ⟨go,Nx,hN,step⟩
    · refine ci (T.done (X.comp sc cl N h3.objs.size {s2 with heap:=h3} (upd H2 D (.lst [])) fp) rfl rfl rfl hc i [] s4 σ4 H4 _ I4 (ff fr4) st4 stop) fun r s5 ⟨hr,I5⟩=>?_
      subst hr
      obtain ⟨m,hn,_⟩:=I5.loc
      have IX:Inv X pins σ H4 s5:=I3.call' (ch:=fp) I5.os I5.base I5.hok I5.bare fun b hb=>⟨(f3 b hb).2.2.2.1,(f3 b hb).2.1,(f3 b hb).2.2.2.2.1,(f3 b hb).2.2.2.2.2⟩
      exact hend D h3.objs.size H4 s5 m IX hn I5.free (Ne.symm (Nat.ne_of_lt I3.lt)) (I3.nofs (Nat.le_refl _)) I3.sz (fun x c e=>Nat.ne_of_lt (cellC x c e)) (fun p hp=>Nat.ne_of_lt (Heap.lt_size (I3.pin p hp).1)) qn
    · refine ci (T.item (X.comp sc cl N h3.objs.size {s2 with heap:=h3} (upd H2 D (.lst [])) fp) rfl rfl rfl hc i [] s4 σ4 H4 _ I4 (ff fr4) st4 go) fun r s5 ⟨u,hr,h5⟩=>?_
      subst hr
      refine ci h5 fun _ s6 ⟨x,H6,I6,r6,y6,st6,fr6⟩=>?_
      have I6':=I6.pinned (ff fr6) (T.obj _ _ st6)
      have back:∀{σ7:St} {H7:Hp} {s7:Shared},Inv (X.comp sc cl N h3.objs.size {s2 with heap:=h3} (upd H2 D (.lst [])) fp) ([]++ip fp s6.heap) σ7 H7 s7→
          Inv (X.comp sc cl N h3.objs.size {s2 with heap:=h3} (upd H2 D (.lst [])) fp) [] σ7 H7 s7∧tn (i+1) s7.heap∧∀b∈fp,H7 b=none:=fun {σ7 H7 s7} I7=>
        ⟨I7.unpinned,T.keep _ _ _ st6 fun b hb o e=>(I7.pin (b,o) (List.mem_append_right _ (List.mem_append_right _ (dL hb e)))).1,fun b hb=>by
          obtain ⟨o,e,d⟩:=T.obj _ _ st6 b hb
          exact (I7.pin (b,o) (List.mem_append_right _ (List.mem_append_right _ (dL hb e)))).2.1⟩
      refine ci (hg _ s6 σ4 H6 x u _ I6' r6 (step x H6 y6)) fun _ s7 ⟨σ7,H7,I7,q7⟩=>?_
      refine ci (ht _ s7 σ7 H7 _ I7 q7) fun b s8 ⟨H8,I8,q8⟩=>?_
      cases b with
      | false=>
        obtain ⟨m',hm,w8⟩:=hN σ7 H8 q8
        obtain ⟨J1,J2,J3⟩:=back I8
        exact ⟨m',hm,i+1,σ7,H8,J1,J2,J3,w8⟩
      | true=>
        refine ci (he _ s8 σ7 H8 _ I8 q8) fun yv s9 ⟨y,H9,I9,r9,ys,hl,hz,n9⟩=>?_
        obtain ⟨m',hm,w9⟩:=hN _ _ n9
        refine ci (iu _ s9 σ7 H9 (.ref D) [y] (.ref D) [yv] (fun v H'=>v= .non∧H'=upd H9 D (.lst (ys++[y]))) I9 rfl (.cons r9 .nil) ⟨D,ys,y,rfl,rfl,hl,hz,rfl,rfl⟩) fun _ sA ⟨_,HA,IA,_,_,eA⟩=>?_
        subst eA
        obtain ⟨J1,J2,J3⟩:=back IA
        exact ⟨m',hm,i+1,σ7,_,J1,J2,J3,w9⟩
  rw [K.rel]
  exact codeAny_compStart_list (loop _ rfl) (T.self _ 0 _ _ _ (T.keep _ _ _ st2 (fun b hb o e=>old b o (old3 b o e))) (loop _ rfl))
theorem uf (K:CompOk X scope sc cl N js) (hc:X.calm=true) (hi:PI X target iter wi)
    (hgg:∀C s₀ H₀ fp,PG (X.comp sc cl N C s₀ H₀ fp) target g) (htt:∀C s₀ H₀ fp,yi (X.comp sc cl N C s₀ H₀ fp) ifs tt) (hee:∀C s₀ H₀ fp,PE (X.comp sc cl N C s₀ H₀ fp) elt te)
    (hs:∀x,foldedSetIterable iter X.env x=pure x:=by intro _;rfl):PE X (.ListComp elt [⟨target,iter,ifs,0⟩] scope pos) (mn js wi g tt te):=by
  intro pins s σ H Q I h
  rw [eval_ListComp]
  refine qZ (use:=none) K hc hi hgg htt hee hs pins s σ H Q I h fun D C H4 s5 m IX hn fC nL _ sz nc np qn=>?_
  exact ⟨m,hn,fun h' hs'=>⟨.ref D,H4,IX.turned (t':=s5.toks) (it:=C) (fun b o hb e=>(hs'.2 b hb).trans e) fC nL (.inr sz) nc np,rfl,qn⟩⟩
end
end L2
namespace L2
open PySem PySem.Spec PyProof.Rows
theorem g5 {X:Cx} {scope:Scope} {N:List Str} {js:List (Option Nat)} (hf:∀x∈scope.names,x.2≠ .free:=by decide+kernel) (hcell:∀x∈scope.names,x.2≠ .cell:=by decide+kernel)
    (hk:scope.kind= .function:=by rfl) (hn:∀y∈scope.names,y.2= .local→scope.names.lookup y.1=some .local:=by decide+kernel) (hl:js.length=N.length:=by rfl) (hj:∀j∈js,j=none:=by decide):CompOk X scope scope [] N js where
  clos:=closureFor_none hf
  rel:=by
    unfold relabel
    have e:(scope.names.map fun (x:Str×NameKind)=>match x with | (n,k)=>if (k == .free&&X.env.scope.kind == .function&&X.env.kindOf n == some .cell) then (n,NameKind.cell) else (n,k))=scope.names:=by
      refine map_eq_self fun x hx=>?_
      obtain ⟨n,k⟩:=x
      have:(k == NameKind.free)=false:=by simpa using hf _ hx
      simp [this]
    rw [e]
  nocell:=hcell
  kind:=hk
  names:=hn
  same:=fun x c e=>by simp at e
  has:=fun x h=>by
    rcases h with h | h
    · exact absurd rfl (hcell _ (PySem.mem_of_lookup h))
    · exact absurd rfl (hf _ (PySem.mem_of_lookup h))
  len:=hl
  from_:=fun i j h=>by
    have:=hj _ (List.mem_of_getElem? h)
    cases this
structure Own (P:Program) (w:World) (K:PySem.W.Frag) (mg:Str→Option Value) (base:Heap) (k:Nat) (x:Str) (ps:List Str) (sp:Sp):Prop where
  ex:∃(f:Addr) (fd:FuncData),FnOk P w K mg base jc k f fd ps sp∧Binds K fd ps []∧mg x=some (.ref f)∧PySem.W.keepIn K (.ref f)=true
theorem q5 {X:Cx} {k:Nat} {x:Str} {ps:List Str} {sp:Sp} {p pos:Pos} {e:Expr} {es:List Expr} {t:TA} (D:Own X.prog X.w X.K X.mg X.base k x ps sp) (hr:Room k X.A) (hg:Gl X x) (ha:PA X (e::es) t)
    (hdb:(x == ("__debug__":Str))=false:=by decide) (he:starEach (e::es) X.env=(false,eval e X.env)::starEach es X.env:=by rfl) (hpl:(backTo pos (starEach es X.env)).any (·.1)=false:=by rfl):
    PE X (.Call (.Name x p) (e::es) [] pos) (qR sp [] E0 t):=by
  obtain ⟨f,fd,F,b,m,kp⟩:=D.ex
  exact t4 F hr hg m kp b .nil yd ha hdb he hpl
structure Def (K:PySem.W.Frag) (mg:Str→Option Value) (x:Str) (st:Stmt) (ps:List Str):Prop where
  ex:∃(f:Addr) (fd:FuncData),Fun K x x st f fd∧mg x=some (.ref f)∧Binds K fd ps []
theorem Def.own {P:Program} {w:World} {K:PySem.W.Frag} {mg:Str→Option Value} {base:Heap} {x:Str} {st:Stmt} {N ps:List Str} {k:Nat} {sp:Sp} (D:Def K mg x st ps) (S:FnScope N ps (ag st))
    (len:∀vs H Q E,sp vs H Q E→vs.length=ps.length)
    (hbody:∀(f:Addr) (cdv:Value) (A:Around) (outer:List Env) (s:Shared) (H:Hp) (vs:List V) (Q:VK) (E:XK),Room k (A.deeper (envOfC x (ag st) s.heap.objs.size f cdv))→sp vs H Q E→
      ∃t,PSs (ez jc P w K mg base N x (ag st) f cdv A outer s H E).nox (ax st) t∧t {nx:=fun _ H'=>Q .non H',rt:=Q} (cH N vs) H):Own P w K mg base (k+1) x ps sp:=by
  obtain ⟨f,fd,F,m,b⟩:=D.ex
  exact ⟨f,fd,F.ok S len (hbody f),b,m,F.kp⟩
theorem b7 {K:PySem.W.Frag} {h:Heap} {mg:Str→Option Value} {x:Str} {st:Stmt} {ps:List Str} {f:Addr} {oc:Value} {od an:Option Addr} {osl:Array (Option Value)} {kV doc pm cdv ct:Value} (X:K.In h) (G:h.Ns mainGlobals mg)
    (a:PySem.W.nsIn K mainGlobals x=some (some (.ref f))) (l:K.lookup f=some ⟨oc,od, .func (PySem.W.fnOf x x (aL st) (ax st) (ag st) .none kV doc pm an cdv ct),osl⟩)
    (c:PySem.W.codeIn K cdv x=true) (k:PySem.W.keepIn K (.ref f)=true)
    (b:∀(kV doc pm:Value) (an:Option Addr) (cdv ct:Value) (us:List Value),us.length=ps.length→bindArgs (PySem.W.fnOf x x (aL st) (ax st) (ag st) .none kV doc pm an cdv ct) ⟨us,[]⟩=pure (ps.zip us)):Def K mg x st ps:=
  ⟨f,_,nJ l c k,PySem.W.mg_of X G a,(nJ (st:=st) l c k).binds b⟩
end L2
namespace Nh
open PySem L2
section
variable {α β:Type} {F:α→β→Prop}
theorem gG:∀{a:List α} {b:List β} {c:List α} {d:List β},Paired F a b→Paired F c d→Paired F (a++c) (b++d)
  | _,_,_,_, .nil,s=>s
  | _,_,_,_, .cons r t,s=> .cons r (gG t s)
theorem oM:∀{a:List α} {b:List β} (n:Nat),Paired F a b→Paired F (a.take n) (b.take n)
  | _,_,0,_=> .nil
  | _,_,_+1, .nil=> .nil
  | _,_,n+1, .cons r t=> .cons r (oM n t)
theorem oN:∀{a:List α} {b:List β} (n:Nat),Paired F a b→Paired F (a.drop n) (b.drop n)
  | _,_,0,r=>r
  | _,_,_+1, .nil=> .nil
  | _,_,n+1, .cons _ t=>oN n t
theorem g6:∀{a:List α} {b:List β},Paired F a b→Paired F a.reverse b.reverse
  | _,_, .nil=> .nil
  | _,_, .cons r t=>by
    rw [List.reverse_cons,List.reverse_cons]
    exact gG (g6 t) (.cons r .nil)
theorem oO:∀{a:List α} {b:List β} {i:Nat} {y:β},Paired F a b→b[i]? =some y→∃x,a[i]? =some x∧F x y
  | _,_,_,_, .nil,e=>by simp at e
  | _,_,0,_, .cons r _,e=>by simp at e;subst e;exact ⟨_,rfl,r⟩
  | _,_,i+1,x, .cons _ t,e=>by
    obtain ⟨u,h1,h2⟩:=oO (i:=i) (y:=x) t (by simpa using e)
    exact ⟨u,by simpa using h1,h2⟩
theorem q9 {a:List α} {b:List β} (h:Paired F a b):∀k:Nat,Paired F (List.replicate k a).flatten (List.replicate k b).flatten
  | 0=> .nil
  | k+1=>by
    rw [List.replicate_succ,List.replicate_succ,List.flatten_cons,List.flatten_cons]
    exact gG h (q9 h k)
end
abbrev Pc:=Nat×Int
def tv (p:Pc):List V:=[.str ⟨#[p.1]⟩, .int p.2]
def zv (H:Hp) (v:V) (p:Pc):Prop:=∃t,v= .ref t∧H t=some (.tup (tv p))
abbrev PAll (H:Hp):List V→List Pc→Prop:=Paired (zv H)
section
variable {H H':Hp} {l:Addr} {xs ys:List V} {c:List Pc}
theorem PAll.same (s:Same H H') (h:PAll H xs c):PAll H' xs c:=Paired.mapP h fun _ _ ⟨t,e,q⟩=>⟨t,e,s _ _ q⟩
theorem PAll.len (h:PAll H xs c):xs.length=c.length:=Paired.length h
end
def Cord (H:Hp) (a:Addr) (c:List Pc):Prop:=∃xs,H a=some (.lst xs)∧PAll H xs c
section
variable {H H':Hp} {a:Addr} {c d:List Pc}
theorem Cord.same (s:Same H H') (h:Cord H a c):Cord H' a c:=let ⟨xs,e,p⟩:=h;⟨xs,s _ _ e,p.same s⟩
end
def ay (p:Pc):PyData:= .tuple [.str ⟨#[p.1]⟩, .int p.2]
def yj (c:List Pc):PyData:= .list (c.map ay)
def NailsOk (c:List Pc):Prop:=∀p∈c,p.1 < 128
theorem kz {K:PySem.W.Frag} {H:Hp}:∀{xs:List V} {c:List Pc},PAll H xs c→DAll K H xs (c.map ay)
  | _,_, .nil=> .nil
  | _,_, .cons ⟨t,e,q⟩ r=>by
    subst e
    exact .cons (.tup (SqT.of q) (.cons (.str _) (.cons (.int _) .nil))) (kz r)
theorem Cord.data {K:PySem.W.Frag} {H:Hp} {a:Addr} {c:List Pc} (h:Cord H a c):DOf K H (.ref a) (yj c):=
  let ⟨_,e,p⟩:=h; .lst (SqL.of e) (kz p)
end Nh
namespace PL
open PySem PySem.Spec PyProof.Rows L2 Nh
def ug:bZ→PyData
  | .inl i=> .int i
  | .inr x=> .str x
def eJ (a C:Addr):Heap→Prop:=fun h=>∃o,h.get? a=some o∧o.cls= .ref C
mutual
inductive Rp (K:PySem.W.Frag) (H:Hp):V→PyData→Prop
  | non:Rp K H .non .none
  | bl (b:Bool):Rp K H (.bl b) (.bool b)
  | int (i:Int):Rp K H (.int i) (.int i)
  | str (x:Str):Rp K H (.str x) (.str x)
  | lst {a:Addr} {xs:List V} {ds:List PyData}:SqL K H a xs→RpA K H xs ds→Rp K H (.ref a) (.list ds)
  | tup {a:Addr} {xs:List V} {ds:List PyData}:SqT K H a xs→RpA K H xs ds→Rp K H (.ref a) (.tuple ds)
  | dct {a:Addr} {us:List (bZ×V)} {kvs:List (PyData×PyData)}:Rd H a (.dK us)→RpK K H us kvs→Rp K H (.ref a) (.dict kvs)
  | exc {a C:Addr} {n:Str} {o:Obj}:H a=some (.frz o (.ext (eJ a C)))→PySem.W.nsIn K mainGlobals n=some (some (.ref C))→Rp K H (.ref a) (.dict [(.none, .str n)])
inductive RpA (K:PySem.W.Frag) (H:Hp):List V→List PyData→Prop
  | nil:RpA K H [] []
  | cons {x:V} {xs:List V} {d:PyData} {ds:List PyData}:Rp K H x d→RpA K H xs ds→RpA K H (x::xs) (d::ds)
inductive RpK (K:PySem.W.Frag) (H:Hp):List (bZ×V)→List (PyData×PyData)→Prop
  | nil:RpK K H [] []
  | cons {k:bZ} {x:V} {us:List (bZ×V)} {d:PyData} {kvs:List (PyData×PyData)}:Rp K H x d→RpK K H us kvs→RpK K H ((k,x)::us) ((ug k,d)::kvs)
end
mutual
def bW:PyData→Bool
  | .none=>true
  | .bool _=>true
  | .int _=>true
  | .str _=>true
  | .list _=>false
  | .tuple xs=>bx xs
  | .dict _=>false
def bx:List PyData→Bool
  | []=>true
  | d::ds=>bW d&&bx ds
end
def vA:HO→Bool
  | .tup _=>true
  | .frz _ _=>true
  | _=>false
def tups (H:Hp):Hp:=fun b=>(H b).filter vA
theorem gH (H:Hp):Same (tups H) H:=fun b o h=>(Option.filter_eq_some_iff.mp h).1
theorem fK {H:Hp} {b:Addr} {o:HO} (h:H b=some o) (c:vA o=true):tups H b=some o:=Option.filter_eq_some_iff.mpr ⟨h,c⟩
theorem mq {H:Hp} {l:Addr} {xs ys:List V} (h:H l=some (.lst xs)):tups (upd H l (.lst ys))=tups H:=by
  funext b
  unfold tups
  by_cases e:b=l
  · subst e
    rw [upd_same,h]
    rfl
  · rw [aw e]
section
variable {K:PySem.W.Frag} {H H':Hp}
theorem mr {a:Addr} {xs:List V} (h:SqT K H a xs):SqT K (tups H) a xs:=by
  rcases h with (h | ⟨o,h⟩) | h
  · exact .inl (.inl (fK h rfl))
  · exact .inl (.inr ⟨o,fK h rfl⟩)
  · exact .inr h
theorem k_ {a:Addr} {u:HO} (s:Same H H') (h:Rd H a u):Rd H' a u:=by
  rcases h with h | ⟨o,h⟩
  · exact .inl (s _ _ h)
  · exact .inr ⟨o,s _ _ h⟩
theorem Rp.same (s:Same H H') {v:V} {d:PyData} (h:Rp K H v d):Rp K H' v d:=Rp.rec (motive_1:=fun v d _=>Rp K H' v d) (motive_2:=fun v d _=>RpA K H' v d) (motive_3:=fun v d _=>RpK K H' v d) .non .bl .int .str (fun h _ r=> .lst (s.seq h) r) (fun h _ r=> .tup (s.tup h) r) (fun h _ r=> .dct (k_ s h) r) (fun h r=> .exc (s _ _ h) r) .nil (fun _ _ a b=> .cons a b) .nil (fun _ _ a b=> .cons a b) h
theorem RpA.same (s:Same H H') {v:List V} {d:List PyData} (h:RpA K H v d):RpA K H' v d:=RpA.rec (motive_1:=fun v d _=>Rp K H' v d) (motive_2:=fun v d _=>RpA K H' v d) (motive_3:=fun v d _=>RpK K H' v d) .non .bl .int .str (fun h _ r=> .lst (s.seq h) r) (fun h _ r=> .tup (s.tup h) r) (fun h _ r=> .dct (k_ s h) r) (fun h r=> .exc (s _ _ h) r) .nil (fun _ _ a b=> .cons a b) .nil (fun _ _ a b=> .cons a b) h
theorem RpK.same (s:Same H H') {v:List (bZ×V)} {d:List (PyData×PyData)} (h:RpK K H v d):RpK K H' v d:=RpK.rec (motive_1:=fun v d _=>Rp K H' v d) (motive_2:=fun v d _=>RpA K H' v d) (motive_3:=fun v d _=>RpK K H' v d) .non .bl .int .str (fun h _ r=> .lst (s.seq h) r) (fun h _ r=> .tup (s.tup h) r) (fun h _ r=> .dct (k_ s h) r) (fun h r=> .exc (s _ _ h) r) .nil (fun _ _ a b=> .cons a b) .nil (fun _ _ a b=> .cons a b) h
theorem Rp.cold {v:V} {d:PyData} (h:Rp K H v d) (e:bW d=true):Rp K (tups H) v d:=Rp.rec (motive_1:=fun v d _=>bW d=true→Rp K (tups H) v d) (motive_2:=fun v d _=>bx d=true→RpA K (tups H) v d) (motive_3:=fun _ _ _=>True) (fun _=> .non) (fun b _=> .bl b) (fun i _=> .int i) (fun x _=> .str x) (fun _ _ _ e=>nomatch e) (fun h _ r e=> .tup (mr h) (r e)) (fun _ _ _ e=>nomatch e) (fun _ _ e=>nomatch e) (fun _=> .nil) (fun _ _ a b e=> .cons (a (Bool.and_eq_true_iff.mp e).1) (b (Bool.and_eq_true_iff.mp e).2)) trivial (fun _ _ _ _=>trivial) h e
theorem RpA.cold {v:List V} {d:List PyData} (h:RpA K H v d) (e:bx d=true):RpA K (tups H) v d:=RpA.rec (motive_1:=fun v d _=>bW d=true→Rp K (tups H) v d) (motive_2:=fun v d _=>bx d=true→RpA K (tups H) v d) (motive_3:=fun _ _ _=>True) (fun _=> .non) (fun b _=> .bl b) (fun i _=> .int i) (fun x _=> .str x) (fun _ _ _ e=>nomatch e) (fun h _ r e=> .tup (mr h) (r e)) (fun _ _ _ e=>nomatch e) (fun _ _ e=>nomatch e) (fun _=> .nil) (fun _ _ a b e=> .cons (a (Bool.and_eq_true_iff.mp e).1) (b (Bool.and_eq_true_iff.mp e).2)) trivial (fun _ _ _ _=>trivial) h e
theorem Rp.dof' {v:V} {d:PyData} (h:Rp K H v d) (e:d.canLay0=true):DOf K H v d:=Rp.rec (motive_1:=fun v d _=>d.canLay0=true→DOf K H v d) (motive_2:=fun v d _=>PyData.canLayAll0 d=true→DAll K H v d) (motive_3:=fun _ _ _=>True) (fun _=> .non) (fun b _=> .bl b) (fun i _=> .int i) (fun x _=> .str x) (fun h _ r e=> .lst h (r e)) (fun h _ r e=> .tup h (r e)) (fun _ _ _ e=>nomatch e) (fun _ _ e=>nomatch e) (fun _=> .nil) (fun _ _ a b e=> .cons (a (Bool.and_eq_true_iff.mp e).1) (b (Bool.and_eq_true_iff.mp e).2)) trivial (fun _ _ _ _=>trivial) h e
theorem Rp.dof {v:V} {d:PyData} (h:Rp K H v d) (e:SeqAt.shaped d=true):DOf K H v d:=h.dof' (SeqAt.canLay_of_shaped e)
theorem RpA.pr {vs:List V} {ds:List PyData} (h:RpA K H vs ds):Paired (Rp K H) vs ds:=RpA.rec (motive_1:=fun _ _ _=>True) (motive_2:=fun v d _=>Paired (Rp K H) v d) (motive_3:=fun _ _ _=>True) trivial (fun _=>trivial) (fun _=>trivial) (fun _=>trivial) (fun _ _ _=>trivial) (fun _ _ _=>trivial) (fun _ _ _=>trivial) (fun _ _=>trivial) .nil (fun h _ _ b=> .cons h b) trivial (fun _ _ _ _=>trivial) h
theorem RpA.of {vs:List V} {ds:List PyData} (h:Paired (Rp K H) vs ds):RpA K H vs ds:=by
  induction h with
  | nil=>exact .nil
  | cons a _ b=>exact .cons a b
theorem RpA.len {vs:List V} {ds:List PyData} (h:RpA K H vs ds):vs.length=ds.length:=Paired.length h.pr
theorem RpA.append {vs us:List V} {ds es:List PyData} (h:RpA K H vs ds) (k:RpA K H us es):RpA K H (vs++us) (ds++es):= .of (gG h.pr k.pr)
theorem RpA.take {vs:List V} {ds:List PyData} (n:Nat) (h:RpA K H vs ds):RpA K H (vs.take n) (ds.take n):= .of (oM n h.pr)
theorem RpA.drop {vs:List V} {ds:List PyData} (n:Nat) (h:RpA K H vs ds):RpA K H (vs.drop n) (ds.drop n):= .of (oN n h.pr)
theorem RpA.rev {vs:List V} {ds:List PyData} (h:RpA K H vs ds):RpA K H vs.reverse ds.reverse:= .of (g6 h.pr)
theorem RpA.rep {vs:List V} {ds:List PyData} (n:Nat) (h:RpA K H vs ds):RpA K H (List.replicate n vs).flatten (List.replicate n ds).flatten:= .of (q9 h.pr n)
theorem RpA.get {vs:List V} {ds:List PyData} {i:Nat} {d:PyData} (h:RpA K H vs ds) (e:ds[i]? =some d):∃v,vs[i]? =some v∧Rp K H v d:=oO h.pr e
theorem RpA.set:∀{vs:List V} {ds:List PyData} {v:V} {d:PyData} (i:Nat),RpA K H vs ds→Rp K H v d→RpA K H (vs.set i v) (ds.set i d)
  | _,_,_,_,_, .nil,_=> .nil
  | _,_,_,_,0, .cons _ r,h=> .cons h r
  | _,_,_,_,i+1, .cons q r,h=> .cons q (RpA.set i r h)
theorem RpA.dropLast {vs:List V} {ds:List PyData} (h:RpA K H vs ds):RpA K H vs.dropLast ds.dropLast:=by
  rw [List.dropLast_eq_take,List.dropLast_eq_take,h.len]
  exact h.take _
theorem RpA.snoc {vs:List V} {ds:List PyData} {v:V} {d:PyData} (h:RpA K H vs ds) (k:Rp K H v d):RpA K H (vs++[v]) (ds++[d]):=h.append (.cons k .nil)
end
inductive Pt where
  | fl (d:PyData) | ol (ds:List PyData)
def Pt.val:Pt→PyData
  | .fl d=>d
  | .ol ds=> .list ds
inductive Sl where
  /-- nothing is known -/
  | no
  /-- never written again -/
  | sh (d:PyData)
  /-- a list of one's own -/
  | ow (ds:List PyData)
  /-- a dict of one's own,its values lists of one's own -/
  | od (kvs:List (bZ×List PyData))
  /-- a tuple with lists of one's own -/
  | tx (ps:List Pt)
  /-- (a part of an expression) the value of a name -/
  | al (i:Nat)
  /-- (a part of an expression) as it stands just now -/
  | br (d:PyData)
def PtsOk (K:PySem.W.Frag) (F H:Hp):List V→List Pt→List Addr→Prop
  | [],[],A=>A=[]
  | v::vs, .fl d::ps,A=>Rp K F v d∧PtsOk K F H vs ps A
  | v::vs, .ol ds::ps,A=>∃l us A',v= .ref l∧A=l::A'∧H l=some (.lst us)∧RpA K F us ds∧PtsOk K F H vs ps A'
  | _,_,_=>False
def DlOk (K:PySem.W.Frag) (F H:Hp):List (bZ×V)→List (bZ×List PyData)→List Addr→Prop
  | [],[],A=>A=[]
  | p::us,q::kvs,A=>∃l vs A',p=(q.1, .ref l)∧A=l::A'∧H l=some (.lst vs)∧RpA K F vs q.2∧DlOk K F H us kvs A'
  | _,_,_=>False
def SlOk (K:PySem.W.Frag) (F H:Hp) (σ:L2.St) (o:Option V):Sl→List Addr→Prop
  | .no,A=>A=[]
  | .sh d,A=>A=[]∧∃v,o=some v∧Rp K F v d
  | .ow ds,A=>∃l vs,o=some (.ref l)∧A=[l]∧H l=some (.lst vs)∧RpA K F vs ds
  | .od kvs,A=>∃l us A',o=some (.ref l)∧A=l::A'∧H l=some (.dK us)∧DlOk K F H us kvs A'
  | .tx ps,A=>∃t vs,o=some (.ref t)∧F t=some (.tup vs)∧PtsOk K F H vs ps A
  | .al i,A=>A=[]∧∃v,o=some v∧σ[i]? =some (some v)
  | .br d,A=>A=[]∧∃v,o=some v∧Rp K H v d
def Sl.isBr:Sl→Bool
  | .br _=>true
  | _=>false
def Sl.isAl:Sl→Bool
  | .al _=>true
  | .br _=>true
  | _=>false
section
variable {K:PySem.W.Frag} {F F' H H':Hp} {σ σ':L2.St}
theorem PtsOk.stay (s:Same F F'):∀{vs:List V} {ps:List Pt} {A:List Addr},(∀b∈A,H' b=H b)→PtsOk K F H vs ps A→PtsOk K F' H' vs ps A
  | [],[],A,_,h=>h
  | v::vs, .fl d::ps,A,e,h=>⟨h.1.same s,PtsOk.stay s e h.2⟩
  | v::vs, .ol ds::ps,A,e,h=>by
    obtain ⟨l,us,A',rfl,rfl,hl,hr,q⟩:=h
    exact ⟨l,us,A',rfl,rfl,(e l (List.mem_cons_self ..)).trans hl,hr.same s,q.stay s fun b hb=>e b (List.mem_cons_of_mem _ hb)⟩
  | [],_::_,_,_,h=>False.elim h
  | _::_,[],_,_,h=>False.elim h
theorem DlOk.stay (s:Same F F'):∀{us:List (bZ×V)} {kvs:List (bZ×List PyData)} {A:List Addr},(∀b∈A,H' b=H b)→DlOk K F H us kvs A→DlOk K F' H' us kvs A
  | [],[],A,_,h=>h
  | p::us,q::kvs,A,e,h=>by
    obtain ⟨l,vs,A',rfl,rfl,hl,hr,k⟩:=h
    exact ⟨l,vs,A',rfl,rfl,(e l (List.mem_cons_self ..)).trans hl,hr.same s,k.stay s fun b hb=>e b (List.mem_cons_of_mem _ hb)⟩
  | [],_::_,_,_,h=>False.elim h
  | _::_,[],_,_,h=>False.elim h
theorem DlOk.some:∀{us:List (bZ×V)} {kvs:List (bZ×List PyData)} {A:List Addr},DlOk K F H us kvs A→∀a∈A,∃vs,H a=some (.lst vs)
  | [],[],A,h,a,ha=>by rw [show A=[] from h] at ha;cases ha
  | p::us,q::kvs,A,h,a,ha=>by
    obtain ⟨l,vs,A',rfl,rfl,hl,hr,k⟩:=h
    rcases List.mem_cons.mp ha with e | e
    · subst e;exact ⟨vs,hl⟩
    · exact k.some a e
  | [],_::_,_,h,_,_=>False.elim h
  | _::_,[],_,h,_,_=>False.elim h
theorem PtsOk.some:∀{vs:List V} {ps:List Pt} {A:List Addr},PtsOk K F H vs ps A→∀a∈A,∃us,H a=some (.lst us)
  | [],[],A,h,a,ha=>by rw [show A=[] from h] at ha;cases ha
  | v::vs, .fl d::ps,A,h,a,ha=>PtsOk.some h.2 a ha
  | v::vs, .ol ds::ps,A,h,a,ha=>by
    obtain ⟨l,us,A',rfl,rfl,hl,hr,q⟩:=h
    rcases List.mem_cons.mp ha with e | e
    · subst e;exact ⟨us,hl⟩
    · exact q.some a e
  | [],_::_,_,h,_,_=>False.elim h
  | _::_,[],_,h,_,_=>False.elim h
theorem PtsOk.rp (s:Same F H):∀{vs:List V} {ps:List Pt} {A:List Addr},PtsOk K F H vs ps A→RpA K H vs (ps.map Pt.val)
  | [],[],A,_=> .nil
  | v::vs, .fl d::ps,A,h=> .cons (h.1.same s) (PtsOk.rp s h.2)
  | v::vs, .ol ds::ps,A,h=>by
    obtain ⟨l,us,A',rfl,rfl,hl,hr,q⟩:=h
    exact .cons (.lst (SqL.of hl) (hr.same s)) (q.rp s)
  | [],_::_,_,h=>False.elim h
  | _::_,[],_,h=>False.elim h
theorem SlOk.stay {o:Option V} {s:Sl} {A:List Addr} (hF:Same F F') (e:∀b∈A,H' b=H b) (hb:s.isBr=true→Same H H') (h:SlOk K F H σ o s A):SlOk K F' H' σ o s A:=by
  cases s with
  | no=>exact h
  | sh d=>obtain ⟨rfl,v,rfl,r⟩:=h;exact ⟨rfl,v,rfl,r.same hF⟩
  | ow ds=>obtain ⟨l,vs,rfl,rfl,hl,r⟩:=h;exact ⟨l,vs,rfl,rfl,(e l (by simp)).trans hl,r.same hF⟩
  | od kvs=>obtain ⟨l,us,A',rfl,rfl,hl,r⟩:=h;exact ⟨l,us,A',rfl,rfl,(e l (by simp)).trans hl,r.stay hF fun b hb=>e b (List.mem_cons_of_mem _ hb)⟩
  | tx ps=>obtain ⟨t,vs,rfl,ht,r⟩:=h;exact ⟨t,vs,rfl,hF _ _ ht,r.stay hF e⟩
  | al i=>exact h
  | br d=>obtain ⟨rfl,v,rfl,r⟩:=h;exact ⟨rfl,v,rfl,r.same (hb rfl)⟩
theorem SlOk.mut {o:Option V} {s:Sl} {A:List Addr} (h:SlOk K F H σ o s A):∀a∈A,(∃us,H a=some (.lst us))∨∃us,H a=some (.dK us):=by
  cases s with
  | no=>intro a ha;rw [show A=[] from h] at ha;cases ha
  | sh d=>obtain ⟨rfl,_⟩:=h;intro a ha;cases ha
  | ow ds=>obtain ⟨l,vs,rfl,rfl,hl,r⟩:=h;intro a ha;rw [List.mem_singleton.mp ha];exact .inl ⟨_,hl⟩
  | od kvs=>
    obtain ⟨l,vs,A',rfl,rfl,hl,r⟩:=h
    intro a ha
    rcases List.mem_cons.mp ha with z | z
    · rw [z];exact .inr ⟨_,hl⟩
    · exact .inl (r.some a z)
  | tx ps=>obtain ⟨t,vs,rfl,ht,r⟩:=h;exact fun a ha=> .inl (r.some a ha)
  | al i=>obtain ⟨rfl,_⟩:=h;intro a ha;cases ha
  | br d=>obtain ⟨rfl,_⟩:=h;intro a ha;cases ha
end
inductive SAll (P:Option V→Sl→List Addr→Prop):List (Option V)→List Sl→List Addr→Prop
  | nil:SAll P [] [] []
  | cons {o:Option V} {s:Sl} {A:List Addr} {os:List (Option V)} {ss:List Sl} {B:List Addr}:P o s A→SAll P os ss B→SAll P (o::os) (s::ss) (A++B)
section
variable {P P':Option V→Sl→List Addr→Prop}
theorem SAll.len {os:List (Option V)} {ss:List Sl} {A:List Addr} (h:SAll P os ss A):os.length=ss.length:=by
  induction h with
  | nil=>rfl
  | cons _ _ b=>exact congrArg (· +1) b
theorem SAll.mono {os:List (Option V)} {ss:List Sl} {A:List Addr} (h:SAll P os ss A):(∀o s B,s∈ss→(∀b∈B,b∈A)→P o s B→P' o s B)→SAll P' os ss A:=by
  induction h with
  | nil=>exact fun _=> .nil
  | cons h _ r=>exact fun f=> .cons (f _ _ _ (List.mem_cons_self ..) (fun b hb=>List.mem_append_left _ hb) h) (r fun o s B hs hB q=>f o s B (List.mem_cons_of_mem _ hs) (fun b hb=>List.mem_append_right _ (hB b hb)) q)
theorem SAll.all {R:Addr→Prop} (hR:∀o s B,P o s B→∀b∈B,R b) {os:List (Option V)} {ss:List Sl} {A:List Addr} (h:SAll P os ss A):∀a∈A,R a:=by
  induction h with
  | nil=>exact fun _ ha=>nomatch ha
  | cons h _ r=>exact fun a ha=>(List.mem_append.mp ha).elim (hR _ _ _ h a) (r a)
theorem SAll.at:∀{os:List (Option V)} {ss:List Sl} {A:List Addr} {k:Nat} {s:Sl},SAll P os ss A→ss[k]? =some s→
    ∃o A0 A1 A2,A=A0++(A1++A2)∧os[k]? =some o∧P o s A1∧∀(P':Option V→Sl→List Addr→Prop) (o':Option V) (s':Sl) (A1':List Addr),P' o' s' A1'→
      (∀o s B,s∈ss→(∀b∈B,b∈A0∨b∈A2)→P o s B→P' o s B)→SAll P' (os.set k o') (ss.set k s') (A0++(A1'++A2))
  | _,_,_,_,_, .nil,e=>by simp at e
  | _,_,_,0,s, .cons (o:=o) (A:=A) (B:=B) h r,e=>by
    simp at e;subst e
    refine ⟨o,[],A,B,by simp,rfl,h,fun P' o' s' A1' h' f=>?_⟩
    have z:SAll P' _ _ (A1'++B):= .cons h' (r.mono (P':=P') fun o s B hs hB q=>f o s B (List.mem_cons_of_mem _ hs) (fun b hb=> .inr (hB b hb)) q)
    exact z
  | _,_,_,k+1,s, .cons (o:=o) (A:=A) (B:=B) h r,e=>by
    obtain ⟨o2,A0,A1,A2,eA,eo,hp,f⟩:=r.at (k:=k) (s:=s) (by simpa using e)
    subst eA
    refine ⟨o2,A++A0,A1,A2,by simp,by simpa using eo,hp,fun P' o' s' A1' h' g=>?_⟩
    have z:=f P' o' s' A1' h' fun o s B hs hB q=>g o s B (List.mem_cons_of_mem _ hs) (fun b hb=>(hB b hb).imp (fun x=>List.mem_append_right _ x) id) q
    rw [List.append_assoc]
    exact .cons (g _ _ _ (List.mem_cons_self ..) (fun b hb=> .inl (List.mem_append_left _ hb)) h) z
end
end PL
namespace PL
open PySem L2 Nh
abbrev Sg:=L2.St
structure FrF (K:PySem.W.Frag) (B F:Hp) (A:List Addr) (σ:Sg) (H:Hp) (E:List Sl) (xs:List V) (Xs:List Sl):Prop where
  bf:Same B F
  fh:Same F H
  tf:Same (tups H) F
  sl:SAll (SlOk K F H σ) (xs.map some++σ) (Xs++E) A
  nd:A.Nodup
  fr:∀a∈A,F a=none
  len:xs.length=Xs.length
  pl:∀s∈E,s.isAl=false
def Frm (K:PySem.W.Frag) (B:Hp) (σ:Sg) (H:Hp) (E:List Sl) (xs:List V) (Xs:List Sl):Prop:=∃F A,FrF K B F A σ H E xs Xs
def Sl.val:Sl→Option PyData
  | .sh d=>some d
  | .ow ds=>some (.list ds)
  | .tx ps=>some (.tuple (ps.map Pt.val))
  | .br d=>some d
  | _=>none
def look (E:List Sl):Sl→Option PyData
  | .al i=>(E[i]?).bind Sl.val
  | s=>s.val
def cR:Sl→Bool
  | .br _=>true
  | .tx _=>true
  | _=>false
def d5 (E:List Sl):Sl→Bool
  | .al i=>(E[i]?).any cR
  | s=>cR s
def RpF (K:PySem.W.Frag) (F H:Hp) (v:V):PyData→Prop
  | .list ds=>∃a vs,v= .ref a∧SqL K H a vs∧RpA K F vs ds
  | d=>Rp K F v d
def mw (F H:Hp) (A:List Addr):Hp:=fun b=>if b∈A then H b else F b
theorem lf {F H:Hp} {A:List Addr} {b:Addr} (h:b∈A):mw F H A b=H b:=if_pos h
theorem jz {F H:Hp} {A:List Addr} {b:Addr} (h:b∉A):mw F H A b=F b:=if_neg h
section
variable {K:PySem.W.Frag} {B F:Hp} {A:List Addr} {σ:Sg} {H:Hp} {E:List Sl} {xs:List V} {Xs:List Sl} {v:V} {s:Sl} {d:PyData}
theorem RpF.of (h:Rp K F v d) (s:Same F H):RpF K F H v d:=by
  cases h with
  | lst h r=>exact ⟨_,_,rfl,s.seq h,r⟩
  | non=>exact .non
  | bl b=>exact .bl b
  | int i=>exact .int i
  | str x=>exact .str x
  | tup h r=>exact .tup h r
  | dct h r=>exact .dct h r
  | exc h r=>exact .exc h r
theorem SlOk.val {o:Option V} {A1:List Addr} (h:SlOk K F H σ o s A1) (hF:Same F H) (e:s.val=some d):∃v,o=some v∧Rp K H v d∧(cR s=false→RpF K F H v d):=by
  cases s with
  | no=>cases e
  | sh d'=>
    obtain ⟨rfl,v,rfl,r⟩:=h
    cases e
    exact ⟨v,rfl,r.same hF,fun _=>RpF.of r hF⟩
  | ow ds=>
    obtain ⟨l,vs,rfl,rfl,hl,r⟩:=h
    cases e
    exact ⟨_,rfl, .lst (SqL.of hl) (r.same hF),fun _=>⟨_,_,rfl,SqL.of hl,r⟩⟩
  | od kvs=>cases e
  | tx ps=>
    obtain ⟨t,vs,rfl,ht,r⟩:=h
    cases e
    exact ⟨_,rfl, .tup (SqT.of (hF _ _ ht)) (r.rp hF),fun z=>by cases z⟩
  | al i=>cases e
  | br d'=>
    obtain ⟨rfl,v,rfl,r⟩:=h
    cases e
    exact ⟨v,rfl,r,fun z=>by cases z⟩
theorem FrF.slen (h:FrF K B F A σ H E xs Xs):σ.length=E.length:=by
  have e:=h.sl.len
  have:=h.len
  simp only [List.length_append,List.length_map] at e
  omega
theorem FrF.var {i:Nat} (h:FrF K B F A σ H E xs Xs) (e:E[i]? =some s):∃o A1,σ[i]? =some o∧SlOk K F H σ o s A1:=by
  obtain ⟨o,A0,A1,A2,eA,eo,hp,_⟩:=h.sl.at (k:=Xs.length+i) (s:=s) (by rw [List.getElem?_append_right (by omega)];simpa using e)
  rw [List.getElem?_append_right (by rw [List.length_map,h.len];omega),List.length_map,h.len,Nat.add_sub_cancel_left] at eo
  exact ⟨o,A1,eo,hp⟩
theorem FrF.ext {k:Nat} (h:FrF K B F A σ H E xs Xs) (e:Xs[k]? =some s):∃v A1,xs[k]? =some v∧SlOk K F H σ (some v) s A1:=by
  have hk:k < Xs.length:=(List.getElem?_eq_some_iff.mp e).1
  obtain ⟨o,A0,A1,A2,eA,eo,hp,_⟩:=h.sl.at (k:=k) (s:=s) (by rw [List.getElem?_append_left hk];exact e)
  rw [List.getElem?_append_left (by rw [List.length_map,h.len];omega),List.getElem?_map] at eo
  cases q:xs[k]? with
  | none=>rw [q] at eo;cases eo
  | some v=>rw [q] at eo;cases eo;exact ⟨v,A1,rfl,hp⟩
theorem FrF.look {k:Nat} (h:FrF K B F A σ H E xs Xs) (e:Xs[k]? =some s) (q:look E s=some d):∃v,xs[k]? =some v∧Rp K H v d∧(d5 E s=false→RpF K F H v d):=by
  obtain ⟨v,A1,ev,hs⟩:=h.ext e
  cases s with
  | al i=>
    obtain ⟨rfl,w,ew,hw⟩:=hs
    cases ew
    cases ei:E[i]? with
    | none=>simp [PL.look,ei] at q
    | some t=>
      obtain ⟨o,A2,eo,ht⟩:=h.var ei
      rw [hw] at eo
      cases eo
      obtain ⟨v',e',r,c⟩:=ht.val h.fh (d:=d) (by simpa [PL.look,ei] using q)
      cases e'
      exact ⟨v,ev,r,fun z=>c (by simpa [d5,ei] using z)⟩
  | no=>cases q
  | od kvs=>cases q
  | sh d'=>obtain ⟨v',e',r,c⟩:=hs.val h.fh q;cases e';exact ⟨v,ev,r,c⟩
  | ow ds=>obtain ⟨v',e',r,c⟩:=hs.val h.fh q;cases e';exact ⟨v,ev,r,c⟩
  | tx ps=>obtain ⟨v',e',r,c⟩:=hs.val h.fh q;cases e';exact ⟨v,ev,r,c⟩
  | br d'=>obtain ⟨v',e',r,c⟩:=hs.val h.fh q;cases e';exact ⟨v,ev,r,c⟩
theorem FrF.look0 (h:FrF K B F A σ H E (v::xs) (s::Xs)) (q:PL.look E s=some d):Rp K H v d∧(d5 E s=false→RpF K F H v d):=by
  obtain ⟨v',e,r⟩:=h.look (k:=0) rfl q
  cases e
  exact r
theorem FrF.look1 {w:V} {t:Sl} (h:FrF K B F A σ H E (w::v::xs) (t::s::Xs)) (q:PL.look E s=some d):Rp K H v d∧(d5 E s=false→RpF K F H v d):=by
  obtain ⟨v',e,r⟩:=h.look (k:=1) rfl q
  cases e
  exact r
theorem FrF.mutA (h:FrF K B F A σ H E xs Xs):∀a∈A,(∃us,H a=some (.lst us))∨∃us,H a=some (.dK us):=
  SAll.all (R:=fun a=>(∃us,H a=some (.lst us))∨∃us,H a=some (.dK us)) (fun _ _ _ q=>q.mut) h.sl
theorem FrF.newA {p:Addr} (h:FrF K B F A σ H E xs Xs) (hp:H p=none):p∉A:=fun hm=>by
  rcases h.mutA p hm with ⟨_,z⟩ | ⟨_,z⟩ <;> rw [hp] at z <;> cases z
theorem FrF.cold {u:V} {e:PyData} (h:FrF K B F A σ H E xs Xs) (r:Rp K H u e) (f:bW e=true):Rp K F u e:=(r.cold f).same h.tf
theorem FrF.coldA {us:List V} {es:List PyData} (h:FrF K B F A σ H E xs Xs) (r:RpA K H us es) (f:bx es=true):RpA K F us es:=(r.cold f).same h.tf
theorem FrF.push (h:FrF K B F A σ H E xs Xs) (q:SlOk K F H σ (some v) s []):FrF K B F A σ H E (v::xs) (s::Xs):=
  ⟨h.bf,h.fh,h.tf, .cons (A:=[]) q h.sl,h.nd,h.fr,by simp [h.len],h.pl⟩
theorem FrF.pop (h:FrF K B F A σ H E (v::xs) (s::Xs)):∃A',FrF K B F A' σ H E xs Xs:=by
  obtain ⟨bf,fh,tf,sl,nd,fr,len,pl⟩:=h
  generalize hT:List.map some (v::xs)++σ=T at sl
  generalize hS:(s::Xs)++E=S at sl
  cases sl with
  | nil=>cases hS
  | cons q r=>
    injection hT with _ hT
    injection hS with _ hS
    subst hT hS
    exact ⟨_,bf,fh,tf,r,(List.nodup_append.mp nd).2.1,fun a ha=>fr a (List.mem_append_right _ ha),by simpa using len,pl⟩
theorem FrF.grow {H':Hp} (h:FrF K B F A σ H E xs Xs) (g:Same H H'):FrF K B (fun b=>if b∈A then none else H' b) A σ H' E xs Xs:=by
  have nF:∀b o,F b=some o→b∉A:=fun b o e hb=>by rw [h.fr b hb] at e;cases e
  have FF:Same F (fun b=>if b∈A then none else H' b):=fun b o e=>by
    show (if b∈A then none else H' b)=some o
    rw [if_neg (nF b o e)]
    exact g _ _ (h.fh _ _ e)
  have hA:∀b∈A,H' b=H b:=fun b hb=>by
    rcases h.mutA b hb with ⟨_,z⟩ | ⟨_,z⟩ <;> rw [z,g _ _ z]
  refine ⟨h.bf.trans FF,fun b o e=>?_,fun b o e=>?_,h.sl.mono fun o s C _ hC q=>q.stay FF (fun b hb=>hA b (hC b hb)) fun _=>g,h.nd,fun a ha=>if_pos ha,h.len,h.pl⟩
  · by_cases hb:b∈A
    · rw [if_pos hb] at e;cases e
    · rw [if_neg hb] at e;exact e
  · obtain ⟨e1,e2⟩:=Option.filter_eq_some_iff.mp e
    show (if b∈A then none else H' b)=some o
    by_cases hb:b∈A
    · rw [hA b hb] at e1
      rcases h.mutA b hb with ⟨_,z⟩ | ⟨_,z⟩ <;> rw [z] at e1 <;> cases e1 <;> cases e2
    · rw [if_neg hb];exact e1
theorem FrF.newl {p:Addr} {vs:List V} {ds:List PyData} (h:FrF K B F A σ H E xs Xs) (r:RpA K F vs ds) (hp:H p=none):FrF K B F (p::A) σ (upd H p (.lst vs)) E (.ref p::xs) (.ow ds::Xs):=by
  have g:Same H (upd H p (.lst vs)):=dy hp _
  have nA:=h.newA hp
  refine ⟨h.bf,h.fh.trans g,fun b o e=>?_, .cons (A:=[p]) ⟨p,vs,rfl,rfl,upd_same,r⟩ (h.sl.mono fun o s C _ hC q=>q.stay (Same.refl _) (fun b hb=>aw fun z=>nA (z▸hC b hb)) fun _=>g),List.nodup_cons.mpr ⟨nA,h.nd⟩,fun a ha=>?_,by simp [h.len],h.pl⟩
  · obtain ⟨e1,e2⟩:=Option.filter_eq_some_iff.mp e
    by_cases hb:b=p
    · subst hb;rw [upd_same] at e1;cases e1;cases e2
    · rw [aw hb] at e1;exact h.tf b o (fK e1 e2)
  · rcases List.mem_cons.mp ha with z | z
    · subst z;exact h.fh.free hp
    · exact h.fr a z
theorem FrF.newt {p:Addr} {vs:List V} {ds:List PyData} (h:FrF K B F A σ H E xs Xs) (r:RpA K F vs ds) (hp:H p=none):FrF K B (upd F p (.tup vs)) A σ (upd H p (.tup vs)) E (.ref p::xs) (.sh (.tuple ds)::Xs):=by
  have g:Same H (upd H p (.tup vs)):=dy hp _
  have nA:=h.newA hp
  have gF:Same F (upd F p (.tup vs)):=dy (h.fh.free hp) _
  refine ⟨h.bf.trans gF,fun b o e=>?_,fun b o e=>?_, .cons (A:=[]) ⟨rfl,_,rfl, .tup (.inl (.inl upd_same)) (r.same gF)⟩ (h.sl.mono fun o s C _ hC q=>q.stay gF (fun b hb=>aw fun z=>nA (z▸hC b hb)) fun _=>g),h.nd,fun a ha=>?_,by simp [h.len],h.pl⟩
  · by_cases hb:b=p
    · subst hb;rw [upd_same] at e ⊢;exact e
    · rw [aw hb] at e ⊢;exact h.fh _ _ e
  · obtain ⟨e1,e2⟩:=Option.filter_eq_some_iff.mp e
    by_cases hb:b=p
    · subst hb;rw [upd_same] at e1 ⊢;exact e1
    · rw [aw hb] at e1 ⊢;exact h.tf b o (fK e1 e2)
  · have ne:a≠p:=fun z=>nA (z▸ha)
    rw [aw ne];exact h.fr a ha
theorem FrF.mut {i:Nat} {ds:List PyData} (h:FrF K B F A σ H E xs Xs) (e:E[i]? =some (.ow ds)) (c:∀s∈Xs,s.isBr=false):
    ∃l vs,σ[i]? =some (some (.ref l))∧H l=some (.lst vs)∧RpA K F vs ds∧∀vs' ds',RpA K F vs' ds'→FrF K B F A σ (upd H l (.lst vs')) (E.set i (.ow ds')) xs Xs:=by
  obtain ⟨o,A0,A1,A2,eA,eo,hp,put⟩:=h.sl.at (k:=Xs.length+i) (s:= .ow ds) (by rw [List.getElem?_append_right (by omega)];simpa using e)
  rw [List.getElem?_append_right (by rw [List.length_map,h.len];omega),List.length_map,h.len,Nat.add_sub_cancel_left] at eo
  obtain ⟨l,vs,rfl,rfl,hl,r⟩:=hp
  refine ⟨l,vs,eo,hl,r,fun vs' ds' r'=>?_⟩
  have hlA:l∈A:=by rw [eA];simp
  have nl:∀b,b∈A0∨b∈A2→b≠l:=fun b hb z=>by
    subst z
    have nd:=h.nd
    rw [eA] at nd
    rcases hb with hb | hb
    · exact (List.nodup_append.mp nd).2.2 b hb b (by simp) rfl
    · exact (List.nodup_append.mp (List.nodup_append.mp nd).2.1).2.2 b (by simp) b hb rfl
  have lF:F l=none:=h.fr l hlA
  have z:=put (SlOk K F (upd H l (.lst vs')) σ) (some (.ref l)) (.ow ds') [l] ⟨l,vs',rfl,rfl,upd_same,r'⟩ fun o s C hs hC q=>q.stay (Same.refl _) (fun b hb=>aw (nl b (hC b hb))) fun z=>by
    rcases List.mem_append.mp hs with hs | hs
    · rw [c s hs] at z;cases z
    · have:=h.pl s hs
      cases s <;> simp [Sl.isAl,Sl.isBr] at this z
  have e3:(Xs++E).set (Xs.length+i) (.ow ds')=Xs++E.set i (.ow ds'):=by
    rw [List.set_append_right _ _ (by omega),Nat.add_sub_cancel_left]
  have e2:(List.map some xs++σ).set (Xs.length+i) (some (V.ref l))=List.map some xs++σ:=by
    rw [←h.len,List.set_append_right _ _ (by rw [List.length_map];omega),List.length_map,Nat.add_sub_cancel_left]
    congr 1
    exact List.ext_getElem? fun j=>by
      by_cases hj:i=j
      · subst hj
        rw [List.getElem?_set_self',eo];rfl
      · rw [List.getElem?_set_ne hj]
  rw [e2,e3,←eA] at z
  refine ⟨h.bf,fun b o q=>?_,?_,z,h.nd,h.fr,h.len,fun s hs=>?_⟩
  · rw [aw (fun z=>by rw [z,lF] at q;cases q)]
    exact h.fh _ _ q
  · rw [mq hl];exact h.tf
  · rcases List.mem_or_eq_of_mem_set hs with hs | hs
    · exact h.pl s hs
    · subst hs;rfl
theorem FrF.frzAt {k:Nat} (h:FrF K B F A σ H E xs Xs) (e:(Xs++E)[k]? =some s) (q:s.val=some d) (c:s.isAl=false):
    ∃F' A' v,(xs.map some++σ)[k]? =some (some v)∧Rp K F' v d∧Same B F'∧Same F' H∧Same (tups H) F'∧SAll (SlOk K F' H σ) (xs.map some++σ) ((Xs++E).set k (.sh d)) A'∧A'.Nodup∧∀a∈A',F' a=none:=by
  obtain ⟨o,A0,A1,A2,eA,eo,hp,put⟩:=h.sl.at e
  have nd:=h.nd
  rw [eA] at nd
  have nA1:∀b o,F b=some o→b∉A1:=fun b o e hb=>by
    have:=h.fr b (by rw [eA];simp [hb])
    rw [this] at e;cases e
  have FF:Same F (mw F H A1):=fun b o e=>by rw [jz (nA1 b o e)];exact e
  obtain ⟨v,rfl,r⟩:∃v,o=some v∧Rp K (mw F H A1) v d:=by
    cases s with
    | no=>cases q
    | od kvs=>cases q
    | al i=>cases c
    | br d'=>cases c
    | sh d'=>
      obtain ⟨rfl,v,rfl,r⟩:=hp
      cases q
      exact ⟨v,rfl,r.same FF⟩
    | ow ds=>
      obtain ⟨l,vs,rfl,rfl,hl,r⟩:=hp
      cases q
      exact ⟨_,rfl, .lst (SqL.of ((lf (by simp)).trans hl)) (r.same FF)⟩
    | tx ps=>
      obtain ⟨t,vs,rfl,ht,r⟩:=hp
      cases q
      refine ⟨_,rfl, .tup (SqT.of (FF _ _ ht)) ?_⟩
      have r':PtsOk K (mw F H A1) (mw F H A1) vs ps A1:=r.stay FF fun b hb=>lf hb
      exact r'.rp (Same.refl _)
  have e2:(List.map some xs++σ).set k (some v)=List.map some xs++σ:=List.ext_getElem? fun j=>by
    by_cases hj:k=j
    · subst hj
      rw [List.getElem?_set_self',eo];rfl
    · rw [List.getElem?_set_ne hj]
  have z:=put (SlOk K (mw F H A1) H σ) (some v) (.sh d) [] ⟨rfl,v,rfl,r⟩ fun o s C _ hC q=>q.stay FF (fun b _=>rfl) fun _=>Same.refl _
  rw [e2] at z
  refine ⟨mw F H A1,A0++A2,v,eo,r,h.bf.trans FF,fun b o e=>?_,fun b o e=>FF _ _ (h.tf _ _ e),by simpa using z,?_,fun a ha=>?_⟩
  · by_cases hb:b∈A1
    · rw [lf hb] at e;exact e
    · rw [jz hb] at e;exact h.fh _ _ e
  · exact List.Nodup.sublist (List.Sublist.append (List.Sublist.refl _) (List.sublist_append_right _ _)) nd
  · have hn:a∉A1:=fun hm=>by
      rcases List.mem_append.mp ha with z | z
      · exact (List.nodup_append.mp nd).2.2 a z a (by simp [hm]) rfl
      · exact (List.nodup_append.mp (List.nodup_append.mp nd).2.1).2.2 a hm a z rfl
    rw [jz hn]
    exact h.fr a (by rw [eA];rcases List.mem_append.mp ha with z | z <;> simp [z])
end
def frz (E:List Sl):Sl→Option (PyData×List Sl)
  | .sh d=>some (d,E)
  | .ow ds=>some (.list ds,E)
  | .tx ps=>some (.tuple (ps.map Pt.val),E)
  | .br d=>if bW d then some (d,E) else none
  | .al i=>match E[i]? with
    | some (.sh d)=>some (d,E)
    | some (.ow ds)=>some (.list ds,E.set i (.sh (.list ds)))
    | some (.tx ps)=>some (.tuple (ps.map Pt.val),E.set i (.sh (.tuple (ps.map Pt.val))))
    | _=>none
  | _=>none
section
variable {K:PySem.W.Frag} {B F:Hp} {A:List Addr} {σ:Sg} {H:Hp} {E E':List Sl} {xs:List V} {Xs:List Sl} {v:V} {s:Sl} {d:PyData}
theorem FrF.frzVar {i:Nat} (h:FrF K B F A σ H E xs Xs) (e:E[i]? =some s) (q:s.val=some d):∃F' A' v,σ[i]? =some (some v)∧Rp K F' v d∧FrF K B F' A' σ H (E.set i (.sh d)) xs Xs:=by
  obtain ⟨F',A',v,ev,r,b1,b2,b3,sl,nd,fr⟩:=h.frzAt (k:=Xs.length+i) (by rw [List.getElem?_append_right (by omega)];simpa using e) q (h.pl s (List.mem_of_getElem? e))
  rw [List.getElem?_append_right (by rw [List.length_map,h.len];omega),List.length_map,h.len,Nat.add_sub_cancel_left] at ev
  have e3:(Xs++E).set (Xs.length+i) (.sh d)=Xs++E.set i (.sh d):=by
    rw [List.set_append_right _ _ (by omega),Nat.add_sub_cancel_left]
  rw [e3] at sl
  refine ⟨F',A',v,ev,r,b1,b2,b3,sl,nd,fr,h.len,fun s hs=>?_⟩
  rcases List.mem_or_eq_of_mem_set hs with hs | hs
  · exact h.pl s hs
  · subst hs;rfl
theorem FrF.frz0 (h:FrF K B F A σ H E (v::xs) (s::Xs)) (q:PL.frz E s=some (d,E')):∃F' A',FrF K B F' A' σ H E' (v::xs) (.sh d::Xs):=by
  have key:s.val=some d→s.isAl=false→E=E'→∃F' A',FrF K B F' A' σ H E' (v::xs) (.sh d::Xs):=fun q' c e=>by
    subst e
    obtain ⟨F',A',v',ev,r,b1,b2,b3,sl,nd,fr⟩:=h.frzAt (k:=0) rfl q' c
    exact ⟨F',A',b1,b2,b3,sl,nd,fr,by simpa using h.len,h.pl⟩
  have al:∀i t,s= .al i→E[i]? =some t→t.val=some d→E'=E.set i (.sh d)→∃F' A',FrF K B F' A' σ H E' (v::xs) (.sh d::Xs):=fun i t es ei qt eE=>by
    subst es eE
    obtain ⟨v',A1,ev,hs⟩:=h.ext (k:=0) rfl
    cases ev
    obtain ⟨rfl,w,ew,hw⟩:=hs
    cases ew
    obtain ⟨F',A',w,ew,r,h'⟩:=h.frzVar ei qt
    rw [hw] at ew
    cases ew
    obtain ⟨A2,h2⟩:=h'.pop
    exact ⟨F',A2,h2.push ⟨rfl,_,rfl,r⟩⟩
  cases s with
  | no=>cases q
  | od kvs=>cases q
  | sh d'=>cases q;exact key rfl rfl rfl
  | ow ds=>cases q;exact key rfl rfl rfl
  | tx ps=>cases q;exact key rfl rfl rfl
  | br d'=>
    simp only [PL.frz] at q
    split at q
    · rename_i hf
      cases q
      obtain ⟨r,_⟩:=h.look0 (d:=d) rfl
      obtain ⟨A2,h2⟩:=h.pop
      exact ⟨F,A2,h2.push ⟨rfl,_,rfl,h.cold r hf⟩⟩
    · cases q
  | al i=>
    simp only [PL.frz] at q
    split at q
    · rename_i d' ei
      cases q
      refine al i _ rfl ei rfl ?_
      exact List.ext_getElem? fun j=>by
        by_cases hj:i=j
        · subst hj;rw [List.getElem?_set_self',ei];rfl
        · rw [List.getElem?_set_ne hj]
    · rename_i ds ei
      cases q
      exact al i _ rfl ei rfl rfl
    · rename_i ps ei
      cases q
      exact al i _ rfl ei rfl rfl
    · cases q
theorem FrF.store {i:Nat} (h:FrF K B F A σ H E (v::xs) (s::Xs)) (c:s.isAl=false) (cx:∀s∈Xs,s.isAl=false) (hi:i < E.length):∃A',FrF K B F A' (σ.set i (some v)) H (E.set i s) xs Xs:=by
  have hlen:=h.len
  have hsl:=h.slen
  obtain ⟨bf,fh,tf,sl,nd,fr,len,pl⟩:=h
  generalize hT:List.map some (v::xs)++σ=T at sl
  generalize hS:(s::Xs)++E=S at sl
  cases sl with
  | nil=>cases hS
  | cons q r=>
    rename_i A1 _ _ A2
    injection hT with h1 hT
    injection hS with h2 hS
    subst h1 h2 hT hS
    have len':xs.length=Xs.length:=by simpa using len
    have r:SAll (SlOk K F H σ) (List.map some xs++σ) (Xs++E) A2:=r
    obtain ⟨t,et⟩:∃t,E[i]? =some t:=⟨E[i],List.getElem?_eq_getElem hi⟩
    obtain ⟨o,C0,C1,C2,eA,eo,hp,put⟩:=r.at (k:=Xs.length+i) (s:=t) (by rw [List.getElem?_append_right (by omega)];simpa using et)
    have all:∀s'∈Xs++E,s'.isAl=false:=fun s' hs=>(List.mem_append.mp hs).elim (cx s') (pl s')
    have chg:∀(o:Option V) (s':Sl) (C:List Addr),s'.isAl=false→SlOk K F H σ o s' C→SlOk K F H (σ.set i (some v)) o s' C:=fun o s' C hc z=>by
      cases s' <;> first | exact z | cases hc
    have z:=put (SlOk K F H (σ.set i (some v))) (some v) s A1 (chg _ _ _ c q) fun o s' C hs _ z=>chg o s' C (all s' hs) z
    have e3:(Xs++E).set (Xs.length+i) s=Xs++E.set i s:=by
      rw [List.set_append_right _ _ (by omega),Nat.add_sub_cancel_left]
    have e2:(List.map some xs++σ).set (Xs.length+i) (some v)=List.map some xs++σ.set i (some v):=by
      rw [←len',List.set_append_right _ _ (by rw [List.length_map];omega),List.length_map,Nat.add_sub_cancel_left]
    rw [e2,e3] at z
    refine ⟨_,bf,fh,tf,z,?_,fun a ha=>fr a ?_,len',fun s' hs=>?_⟩
    · rw [eA] at nd
      have p:(C0++(A1++C2)).Perm (A1++(C0++C2)):=by
        rw [←List.append_assoc,←List.append_assoc]
        exact List.Perm.append_right _ List.perm_append_comm
      refine p.nodup_iff.mpr (List.Nodup.sublist ?_ nd)
      exact List.Sublist.append (List.Sublist.refl _) (List.Sublist.append (List.Sublist.refl _) (List.sublist_append_right _ _))
    · rw [eA]
      simp only [List.mem_append] at ha ⊢
      rcases ha with z | z | z
      · exact .inr (.inl z)
      · exact .inl z
      · exact .inr (.inr (.inr z))
    · rcases List.mem_or_eq_of_mem_set hs with hs | hs
      · exact pl s' hs
      · subst hs;exact c
end
end PL
namespace PL
open PySem L2 Nh
abbrev bz:=List Sl→Option (Sl×List Sl)
abbrev iw:=List Sl→Option (Bool×List Sl)
abbrev ix:=List Sl→Option (List Sl×List Sl)
abbrev iy:=List Sl→Option (List PyData×List Sl)
inductive Fl where
  | nx | bk | ct | rt (r:Sl)
abbrev cJ:=List Sl→Option (List Sl×Fl)
abbrev Calm (Xs:List Sl):Prop:=∀s∈Xs,s.isBr=false
abbrev Still (Xs:List Sl):Prop:=∀s∈Xs,s.isAl=false
theorem Still.calm {Xs:List Sl} (h:Still Xs):Calm Xs:=fun s hs=>by
  have:=h s hs
  cases s <;> simp [Sl.isAl,Sl.isBr] at this ⊢
theorem Still.nil {Xs:List Sl} (h:Xs=[]):Still Xs:=fun s hs=>by subst h;cases hs
theorem Calm.nil {Xs:List Sl} (h:Xs=[]):Calm Xs:=(Still.nil h).calm
theorem Calm.cons {Xs:List Sl} {s:Sl} (h:Calm Xs) (hs:s.isBr=false):Calm (s::Xs):=fun t ht=>(List.mem_cons.mp ht).elim (fun e=>e▸hs) (h t)
def rd (K:PySem.W.Frag) (m:Bool) (f:bz):TE:=fun σ H Q=>∃B E xs Xs r E',Frm K B σ H E xs Xs∧(m=true→Calm Xs)∧f E=some (r,E')∧∀v H',Frm K B σ H' E' (v::xs) (r::Xs)→Q v H'
def rt (K:PySem.W.Frag) (m:Bool) (f:iw):TT:=fun σ H Q=>∃B E xs Xs b E',Frm K B σ H E xs Xs∧(m=true→Calm Xs)∧f E=some (b,E')∧∀H',Frm K B σ H' E' xs Xs→Q b H'
def ra (K:PySem.W.Frag) (m:Bool) (f:ix):TA:=fun σ H Q=>∃B E xs Xs rs E',Frm K B σ H E xs Xs∧(m=true→Calm Xs)∧f E=some (rs,E')∧∀vs H',vs.length=rs.length→Frm K B σ H' E' (vs.reverse++xs) (rs.reverse++Xs)→Q vs H'
def Aq (K:PySem.W.Frag) (m:Bool) (f:iy):TA:=fun σ H Q=>∃B E xs Xs ds E',Frm K B σ H E xs Xs∧(m=true→Calm Xs)∧f E=some (ds,E')∧∀vs H',vs.length=ds.length→Frm K B σ H' E' (vs.reverse++xs) (ds.reverse.map .sh++Xs)→Q vs H'
def rs (K:PySem.W.Frag) (g:cJ):TS:=fun D σ H=>∃B E xs Xs E' fl,Frm K B σ H E xs Xs∧Xs=[]∧g E=some (E',fl)∧match fl with
  | .nx=>∀σ' H',Frm K B σ' H' E' xs Xs→D.nx σ' H'
  | .bk=>∀σ' H',Frm K B σ' H' E' xs Xs→D.bk σ' H'
  | .ct=>∀σ' H',Frm K B σ' H' E' xs Xs→D.ct σ' H'
  | .rt r=>∀σ' v H',Frm K B σ' H' E' (v::xs) (r::Xs)→D.rt v H'
def EX (X:Cx) (e:Expr) (m:Bool) (f:bz):Prop:=PE X e (rd X.K m f)
def TX (X:Cx) (e:Expr) (m:Bool) (f:iw):Prop:=PT X e (rt X.K m f)
def WX (X:Cx) (e:Expr) (m:Bool) (f:iw):Prop:=PW X e (rt X.K m f)
def AX (X:Cx) (es:List Expr) (m:Bool) (f:ix):Prop:=PA X es (ra X.K m f)
def DX (X:Cx) (es:List Expr) (m:Bool) (f:iy):Prop:=PA X es (Aq X.K m f)
def SX (X:Cx) (s:Stmt) (g:cJ):Prop:=PS X s (rs X.K g)
def ny (X:Cx) (s:List Stmt) (g:cJ):Prop:=PSs X s (rs X.K g)
section
variable {X:Cx}
theorem aY {e:Expr} {t t':TE} (h:PE X e t) (k:∀σ H Q,t' σ H Q→t σ H Q):PE X e t':=fun pins s σ H Q I q=>h pins s σ H Q I (k σ H Q q)
theorem nM {e:Expr} {t t':TT} (h:PT X e t) (k:∀σ H Q,t' σ H Q→t σ H Q):PT X e t':=fun pins s σ H Q I q=>h pins s σ H Q I (k σ H Q q)
theorem q_ {e:Expr} {t t':TT} (h:PW X e t) (k:∀σ H Q,t' σ H Q→t σ H Q):PW X e t':=fun whole pins s σ H Q I q=>h whole pins s σ H Q I (k σ H Q q)
theorem lg {es:List Expr} {t t':TA} (h:PA X es t) (k:∀σ H Q,t' σ H Q→t σ H Q):PA X es t':=fun pos pins s σ H Q I q=>h pos pins s σ H Q I (k σ H Q q)
theorem fm {st:Stmt} {t t':TS} (h:PS X st t) (k:∀D σ H,t' D σ H→t D σ H):PS X st t':=fun pins s σ H D I q=>h pins s σ H D I (k D σ H q)
theorem je {st:List Stmt} {t t':TS} (h:PSs X st t) (k:∀D σ H,t' D σ H→t D σ H):PSs X st t':=fun pins s σ H D I q=>h pins s σ H D I (k D σ H q)
end
def vB:PyData→Option V
  | .none=>some .non
  | .bool b=>some (.bl b)
  | .int i=>some (.int i)
  | .str x=>some (.str x)
  | _=>none
theorem jA {K:PySem.W.Frag} {H:Hp} {d:PyData} {v:V} (h:vB d=some v):Rp K H v d:=by
  cases d <;> simp [vB] at h <;> subst h <;> constructor
def ad (i:Nat):bz:=fun E=>match E[i]? with
  | some (.sh d)=>some (.sh d,E)
  | some (.ow _)=>some (.al i,E)
  | some (.od _)=>some (.al i,E)
  | some (.tx _)=>some (.al i,E)
  | _=>none
def pC (d:PyData):bz:=fun E=>some (.sh d,E)
section
variable {X:Cx} {K:PySem.W.Frag}
theorem ae (i:Nat) {x:Str} {pos:Pos} (hN:X.N[i]? =some x:=by rfl) (hv:vW X.env.scope x:=by first | exact Or.inl rfl | exact Or.inr (Or.inl rfl) | exact Or.inr (Or.inr rfl)) (hd:(x == ("__debug__":Str))=false:=by decide)
    (hcd:(x == ("__classdict__":Str))=false:=by decide):EX X (.Name x pos) false (ad i):=by
  refine aY (ju hN hv hd hcd) fun σ H Q h=>?_
  obtain ⟨B,E,xs,Xs,r,E',⟨F,A,fr⟩,_,e,q⟩:=h
  unfold ad at e
  split at e
  · rename_i d ei
    cases e
    obtain ⟨o,A1,eo,rfl,v,rfl,rp⟩:=fr.var ei
    exact ⟨v,eo,q v H ⟨F,A,fr.push ⟨rfl,v,rfl,rp⟩⟩⟩
  · rename_i ds ei
    cases e
    obtain ⟨o,A1,eo,l,vs,rfl,_⟩:=fr.var ei
    exact ⟨_,eo,q _ H ⟨F,A,fr.push ⟨rfl,_,rfl,eo⟩⟩⟩
  · rename_i ds ei
    cases e
    obtain ⟨o,A1,eo,l,vs,A2,rfl,_⟩:=fr.var ei
    exact ⟨_,eo,q _ H ⟨F,A,fr.push ⟨rfl,_,rfl,eo⟩⟩⟩
  · rename_i ds ei
    cases e
    obtain ⟨o,A1,eo,l,vs,rfl,_⟩:=fr.var ei
    exact ⟨_,eo,q _ H ⟨F,A,fr.push ⟨rfl,_,rfl,eo⟩⟩⟩
  · cases e
theorem uh {e:Expr} {v:V} (d:PyData) (h:PE X e (tC v)) (hd:vB d=some v:=by rfl):EX X e false (pC d):=by
  refine aY h fun σ H Q h=>?_
  obtain ⟨B,E,xs,Xs,r,E',⟨F,A,fr⟩,_,e,q⟩:=h
  cases e
  exact q v H ⟨F,A,fr.push ⟨rfl,v,rfl,jA hd⟩⟩
theorem aj {i j pos}:EX X (.Constant (.int i) j pos) false (pC (.int i)):=uh _ vY
theorem gc {b j pos}:EX X (.Constant (.bool b) j pos) false (pC (.bool b)):=uh _ xI
theorem lh {j pos}:EX X (.Constant .none j pos) false (pC .none):=uh _ vZ
theorem ak {x j pos}:EX X (.Constant (.str x) j pos) false (pC (.str x)):=uh _ qD
end
abbrev P2:=List Sl→Sl→Sl→Option (Sl×List Sl)
def fU (K:PySem.W.Frag) (r:R2) (p:P2):Prop:=∀{B F:Hp} {A:List Addr} {σ:Sg} {H:Hp} {E:List Sl} {xs:List V} {Xs:List Sl} {v1 v2:V} {s1 s2 res:Sl} {E':List Sl} {Q:VK},
  FrF K B F A σ H E (v2::v1::xs) (s2::s1::Xs)→p E s1 s2=some (res,E')→(∀v H',Frm K B σ H' E' (v::xs) (res::Xs)→Q v H')→r v1 v2 H Q
def ah (p:P2) (m2:Bool) (f g:bz):bz:=fun E=>(f E).bind fun a=>if m2&&a.1.isBr then none else (g a.2).bind fun b=>p b.2 a.1 b.1
theorem li {K:PySem.W.Frag} {r:R2} {p:P2} (hp:fU K r p) {m1 m2:Bool} {f g:bz} {σ:Sg} {H:Hp} {Q:VK} (h:rd K (m1||m2) (ah p m2 f g) σ H Q):xQ r (rd K m1 f) (rd K m2 g) σ H Q:=by
  obtain ⟨B,E,xs,Xs,res,E',fr,c,e,q⟩:=h
  obtain ⟨⟨s1,E1⟩,e1,e⟩:=Option.bind_eq_some_iff.mp e
  by_cases hb:(m2&&s1.isBr)=true
  · rw [if_pos hb] at e;cases e
  rw [if_neg hb] at e
  obtain ⟨⟨s2,E2⟩,e2,e⟩:=Option.bind_eq_some_iff.mp e
  refine ⟨B,E,xs,Xs,s1,E1,fr,fun z=>c (by simp [z]),e1,fun v1 H1 fr1=>?_⟩
  refine ⟨B,E1,v1::xs,s1::Xs,s2,E2,fr1,fun z=>?_,e2,fun v2 H2 fr2=>?_⟩
  · refine Calm.cons (c (by simp [z])) ?_
    cases hs:s1.isBr with
    | false=>rfl
    | true=>exact absurd (by simp [z,hs]) hb
  · obtain ⟨F,A,fr2⟩:=fr2
    exact hp fr2 e q
def dI (op:PyData→PyData→Option PyData):P2:=fun E s1 s2=>(look E s1).bind fun d1=>(look E s2).bind fun d2=>(op d1 d2).map fun d=>(.sh d,E)
theorem FrF.res2 {K:PySem.W.Frag} {B F:Hp} {A:List Addr} {σ:Sg} {H:Hp} {E:List Sl} {xs:List V} {Xs:List Sl} {v1 v2 v:V} {s1 s2 s:Sl} (h:FrF K B F A σ H E (v2::v1::xs) (s2::s1::Xs)) (q:SlOk K F H σ (some v) s []):Frm K B σ H E (v::xs) (s::Xs):=by
  obtain ⟨A1,h⟩:=h.pop
  obtain ⟨A2,h⟩:=h.pop
  exact ⟨F,A2,h.push q⟩
theorem lj {K:PySem.W.Frag} {r:R2} {op:PyData→PyData→Option PyData} (h:∀(d1 d2 d:PyData) (v1 v2:V) (H:Hp) (Q:VK),op d1 d2=some d→Rp K H v1 d1→Rp K H v2 d2→∃v,vB d=some v∧(Q v H→r v1 v2 H Q)):fU K r (dI op):=by
  intro B F A σ H E xs Xs v1 v2 s1 s2 res E' Q fr e q
  obtain ⟨d1,e1,e⟩:=Option.bind_eq_some_iff.mp e
  obtain ⟨d2,e2,e⟩:=Option.bind_eq_some_iff.mp e
  obtain ⟨d,e3,e⟩:=Option.map_eq_some_iff.mp e
  cases e
  obtain ⟨v,hv,k⟩:=h d1 d2 d v1 v2 H Q e3 (fr.look1 e1).1 (fr.look0 e2).1
  exact k (q v H (fr.res2 ⟨rfl,v,rfl,jA hv⟩))
section
variable {X:Cx} {a b:Expr} {m1 m2:Bool} {f g:bz} {pos:Pos}
theorem jB {op:Operator} {r:R2} {p:P2} (ho:OpR X (binaryOp op) r) (hp:fU X.K r p) (ha:EX X a m1 f) (hb:EX X b m2 g):EX X (.BinOp a op b pos) (m1||m2) (ah p m2 f g):=aY (xR ho ha hb) fun _ _ _ h=>li hp h
theorem re {op:CmpOp} {r:R2} {p:P2} (ho:OpR X (compareOp op) r) (hp:fU X.K r p) (ha:EX X a m1 f) (hb:EX X b m2 g) (hm:behindInMarks op b=false):EX X (.Compare a [op] [b] pos) (m1||m2) (ah p m2 f g):=aY (tX ho ha hb hm) fun _ _ _ h=>li hp h
def cS (f:bz):iw:=fun E=>(f E).bind fun a=>match a.1 with
  | .sh (.bool b)=>some (b,a.2)
  | _=>none
theorem ww {K:PySem.W.Frag} {m:Bool} {f:bz} {σ:Sg} {H:Hp} {Q:Bool→Hp→Prop} (h:rt K m (cS f) σ H Q):rd K m f σ H (fun x H'=>∃k,x= .bl k∧Q k H'):=by
  obtain ⟨B,E,xs,Xs,b,E',fr,c,e,q⟩:=h
  obtain ⟨⟨s,E1⟩,e1,e⟩:=Option.bind_eq_some_iff.mp e
  refine ⟨B,E,xs,Xs,s,E1,fr,c,e1,fun v H' ⟨F,A,fr'⟩=>?_⟩
  simp only at e
  split at e
  · cases e
    obtain ⟨r,_⟩:=fr'.look0 (d:= .bool b) rfl
    cases r
    obtain ⟨A',fr2⟩:=fr'.pop
    exact ⟨b,rfl,q H' ⟨F,A',fr2⟩⟩
  · cases e
theorem nN {op:CmpOp} {r:R2} {p:P2} (ho:OpR X (compareOp op) r) (hp:fU X.K r p) (ha:EX X a m1 f) (hb:EX X b m2 g) (hm:behindInMarks op b=false):TX X (.Compare a [op] [b] pos) (m1||m2) (cS (ah p m2 f g)):=by
  refine nM (tY ho ha hb hm) fun σ H Q h=>?_
  exact li hp (ww h)
end
def wx:Int:=2 ^ 20000
def iV (i j:Int):Bool:=decide (-(2 ^ 64) < i∧i < 2 ^ 64)||decide (-(2 ^ 64) < j∧j < 2 ^ 64)||decide (-wx < i∧i < wx∧ -wx < j∧j < wx)
def oP (j:Int):Bool:=decide (0 < j∧j < 2 ^ 200)
def vC (C:Int→Int→Bool) (g:Int→Int→PyData):PyData→PyData→Option PyData
  | .int i, .int j=>if C i j then some (g i j) else none
  | _,_=>none
abbrev xD (C:Int→Int→Bool) (g:Int→Int→V):R2:=rI (fun i j=>C i j=true) g
theorem ln {K:PySem.W.Frag} {C:Int→Int→Bool} {g:Int→Int→PyData} {g':Int→Int→V} (hg:∀i j,vB (g i j)=some (g' i j)):fU K (xD C g') (dI (vC C g)):=by
  refine lj fun d1 d2 d v1 v2 H Q e r1 r2=>?_
  unfold vC at e
  split at e
  · split at e
    · cases e
      cases r1
      cases r2
      rename_i hC
      exact ⟨_,hg _ _,fun q=>⟨_,_,rfl,rfl,hC,q⟩⟩
    · cases e
  · cases e
section
variable {X:Cx}
theorem iW {i:Int} (h1: -wx < i) (h2:i < wx):Builtin.Int.intBits i≤2 ^ 20:=by
  unfold wx at h1 h2
  have h:i.natAbs < 2 ^ 20000:=by
    have e:((2 ^ 20000:Nat):Int)=2 ^ 20000:=Int.natCast_pow 2 20000
    generalize (2 ^ 20000:Int)=z at h1 h2 e
    generalize (2 ^ 20000:Nat)=y at e ⊢
    omega
  unfold Builtin.Int.intBits
  split
  · exact Nat.zero_le _
  · rename_i hz
    have hz':i≠0:=by simpa using hz
    have:i.natAbs.log2 < 20000:=(Nat.log2_lt (by omega)).mpr h
    omega
theorem rf {i j:Int} (h:iV i j=true):PySem.IntMulOk i j:=by
  unfold iV at h
  simp only [Bool.or_eq_true,decide_eq_true_eq] at h
  rcases h with (h | h) | h
  · exact CMul.ok (.inl h)
  · exact CMul.ok (.inr h)
  · exact PySem.IntMulOk.of_bits (iW h.1 h.2.1) (iW h.2.2.1 h.2.2.2)
end
end PL
namespace PL
open PySem L2 Nh PyProof.Rows
abbrev iX:=L2.St
section
variable {X:Cx}
theorem OpR.or {f:Value→Value→Sem Value} {r r':R2} (h:OpR X f r) (h':OpR X f r'):OpR X f (fun x y H Q=>r x y H Q∨r' x y H Q):=by
  intro pins s σ H x y v u Q I rx ry q
  rcases q with q | q
  · exact h pins s σ H x y v u Q I rx ry q
  · exact h' pins s σ H x y v u Q I rx ry q
theorem OpR.imp {f:Value→Value→Sem Value} {r r':R2} (h:OpR X f r) (k:∀x y H Q,r' x y H Q→r x y H Q):OpR X f r':=fun pins s σ H x y v u Q I rx ry q=>h pins s σ H x y v u Q I rx ry (k _ _ _ _ q)
def vD (K:PySem.W.Frag):R2:=fun x y H Q=>∃l b xs zs,x= .ref l∧y= .ref b∧SqL K H l xs∧SqL K H b zs∧xs.length+zs.length≤sizeLine∧∀p,H p=none→Q (.ref p) (upd H p (.lst (xs++zs)))
theorem uk:OpR X (binaryOp .Add) (vD X.K):=by
  intro pins s σ H x y v u Q I rx ry h
  obtain ⟨l,b,xs,zs,rfl,rfl,hH,hB,hz,q⟩:=h
  cases rx
  cases ry
  obtain ⟨its,r,p1,z1⟩:=I.list hH
  obtain ⟨its2,r2,p2,z2⟩:=I.list hB
  obtain ⟨⟨cls,dd,data,sl⟩,ho,hc,n,hd⟩:=p1.isList
  obtain ⟨⟨cls2,dd2,data2,sl2⟩,ho2,hc2,n2,j7⟩:=p2.isList
  simp only at hc hd hc2 j7
  subst hc hd hc2 j7
  have l1:=r.length
  have l2:=r2.length
  refine concat_meets ⟨_,ho,rfl⟩ ⟨_,ho2,rfl⟩ noFill_list_add seq_list_add PySem.F.slot_list_add PySem.F.entry_list_add (PySem.F.args_list_add_2 _ _) (list_addW l b its.toArray its2.toArray n n2 dd dd2 sl sl2 (by simp only [List.size_toArray];omega)) ⟨ho,ho2,?_⟩
  have ea:its.toArray++its2.toArray=(its++its2).toArray:=by simp
  rw [ea]
  exact ⟨.ref _,_,I.lnew (t':=s.toks) (r.append r2) (by rw [List.length_append];omega),rfl,q _ I.fresh⟩
def vE (K:PySem.W.Frag):R2:=fun x y H Q=>∃l k xs,x= .ref l∧y= .int k∧SqL K H l xs∧ -(2 ^ 63)≤k∧k < 2 ^ 63∧xs.length*k.toNat≤sizeLine∧
  ∀p,H p=none→Q (.ref p) (upd H p (.lst (List.replicate k.toNat xs).flatten))
theorem ul:OpR X (binaryOp .Mult) (vE X.K):=by
  intro pins s σ H x y v u Q I rx ry h
  obtain ⟨l,k,xs,rfl,rfl,hH,h1,h2,hz,q⟩:=h
  cases rx
  obtain ⟨t,rfl⟩:=ry
  obtain ⟨its,r,p1,z1⟩:=I.list hH
  obtain ⟨⟨cls,d,data,sl⟩,ho,hcl,n,hd⟩:=p1.isList
  simp only at hcl hd
  subst hcl hd
  have l1:=r.length
  have hsz:its.toArray.size*k.toNat≤2 ^ 24:=by rw [List.size_toArray,←l1];exact hz
  refine wpAny_binaryOp_repeat_ref (T:="list") (U:="int") (by decide) ⟨_,ho,rfl⟩ (fun s'=>typeIs_int s' k t) noFill_list_mul F.fills_int_mul F.slot_int_rmul repeat_list F.slot_int_index.lookup
    (call_meets F.slot_int_rmul (typeIs_int s k t) F.entry_int_rmul (F.args_int_rmul_2 _ _) (lm_int_rmul_list_any k t l its.toArray n d sl)
      ⟨ho,rfl,⟨_,ho,rfl⟩,call_meets F.slot_list_mul ⟨_,ho,rfl⟩ F.entry_list_mul (F.args_list_mul_2 _ _)
        (lm_list_mul_any l its.toArray n d sl k t (by simp [Builtin.List.listFitsIndex];omega) (by omega) (by simp [Builtin.List.listTooLong,sizeLine];omega))
        ⟨ho,?_⟩⟩)
  rw [listMul_foldl_if]
  exact ⟨.ref _,_,I.lnew (t':=s.toks) (r.rep k.toNat) (by rw [ub,Nat.mul_comm];exact hz),rfl,q _ I.fresh⟩
end
def bH:P2:=fun E s1 s2=>(look E s1).bind fun d1=>(look E s2).bind fun d2=>match d1,d2 with
  | .int i, .int j=>some (.sh (.int (i+j)),E)
  | .str a, .str b=>if a.length+b.length≤1000000 then some (.sh (.str (a++b)),E) else none
  | .list a, .list b=>if decide (a.length+b.length≤1000000)&&(!d5 E s1||bx a)&&(!d5 E s2||bx b) then some (.ow (a++b),E) else none
  | _,_=>none
theorem rh {n:Nat} (h:n≤1000000):n < sizeLine:=Nat.lt_of_le_of_lt h (by rw [sizeLine_eq];decide)
theorem eD {n:Nat} (h:n≤1000000):n≤sizeLine:=Nat.le_of_lt (rh h)
section
variable {K:PySem.W.Frag} {B F:Hp} {A:List Addr} {σ:iX} {H:Hp} {E:List Sl} {xs:List V} {Xs:List Sl} {v:V} {s:Sl} {ds:List PyData}
theorem FrF.items {k:Nat} (h:FrF K B F A σ H E xs Xs) (e:Xs[k]? =some s) (q:PL.look E s=some (.list ds)) (c:(!d5 E s||bx ds)=true):∃a vs,xs[k]? =some (.ref a)∧SqL K H a vs∧RpA K F vs ds:=by
  obtain ⟨v,ev,r,f⟩:=h.look e q
  cases hh:d5 E s with
  | false=>
    obtain ⟨a,vs,rfl,h1,h2⟩:=f hh
    exact ⟨a,vs,ev,h1,h2⟩
  | true=>
    rw [hh] at c
    cases r with
    | lst h1 h2=>exact ⟨_,_,ev,h1,h.coldA h2 (by simpa using c)⟩
theorem FrF.res2l {v1 v2:V} {s1 s2:Sl} {vs:List V} (h:FrF K B F A σ H E (v2::v1::xs) (s2::s1::Xs)) (r:RpA K F vs ds) {p:Addr} (hp:H p=none):Frm K B σ (upd H p (.lst vs)) E (.ref p::xs) (.ow ds::Xs):=by
  obtain ⟨A1,h⟩:=h.pop
  obtain ⟨A2,h⟩:=h.pop
  exact ⟨F,_,h.newl r hp⟩
end
abbrev rj (K:PySem.W.Frag):R2:=fun x y H Q=>(∃i j,x= .int i∧y= .int j∧Q (.int (i+j)) H)∨(∃i j,x= .str i∧y= .str j∧i.length+j.length≤sizeLine∧Q (.str (i++j)) H)∨vD K x y H Q
theorem oQ {X:Cx}:OpR X (binaryOp .Add) (rj X.K):=OpR.or we (OpR.or nG uk)
theorem um {K:PySem.W.Frag}:fU K (rj K) bH:=by
  intro B F A σ H E xs Xs v1 v2 s1 s2 res E' Q fr e q
  obtain ⟨d1,e1,e⟩:=Option.bind_eq_some_iff.mp e
  obtain ⟨d2,e2,e⟩:=Option.bind_eq_some_iff.mp e
  have r1:=(fr.look1 e1).1
  have r2:=(fr.look0 e2).1
  split at e
  · cases e;cases r1;cases r2
    exact .inl ⟨_,_,rfl,rfl,q _ _ (fr.res2 ⟨rfl,_,rfl, .int _⟩)⟩
  · split at e
    · rename_i hl
      cases e;cases r1;cases r2
      exact .inr (.inl ⟨_,_,rfl,rfl,eD hl,q _ _ (fr.res2 ⟨rfl,_,rfl, .str _⟩)⟩)
    · cases e
  · split at e
    · rename_i hc
      cases e
      simp only [Bool.and_eq_true,decide_eq_true_eq] at hc
      obtain ⟨a1,u1,x1,q1,i1⟩:=fr.items (k:=1) rfl e1 hc.1.2
      obtain ⟨a2,u2,x2,q2,i2⟩:=fr.items (k:=0) rfl e2 hc.2
      cases x1;cases x2
      have l1:=i1.len
      have l2:=i2.len
      exact .inr (.inr ⟨_,_,_,_,rfl,rfl,q1,q2,eD (by omega),fun p hp=>q _ _ (fr.res2l (i1.append i2) hp)⟩)
    · cases e
  · cases e
def wy:P2:=dI (vC (fun _ _=>true) fun i j=> .int (i - j))
def cb:P2:=dI (vC (fun _ j=>oP j) fun i j=> .int (i / j))
def cK:P2:=dI (vC (fun _ j=>decide (0 < j)) fun i j=> .int (i % j))
def gR:P2:=dI (vC (fun i j=>decide (0≤j∧j≤1000000∧ -(2 ^ 64) < i∧i < 2 ^ 64)) fun i j=> .int (i ^ j.toNat))
section
variable {X:Cx}
theorem uo:OpR X (binaryOp .Sub) (xD (fun _ _=>true) fun i j=> .int (i - j)):=OpR.imp wf fun x y H Q ⟨i,j,a,b,_,q⟩=>⟨i,j,a,b,q⟩
theorem rl:OpR X (binaryOp .FloorDiv) (xD (fun _ j=>oP j) fun i j=> .int (i / j)):=yS fun i j _ _ _ _ _ hc q=>by
  obtain ⟨h1,h2⟩:=of_decide_eq_true hc
  have h3:j.natAbs.log2 < 9000:=by
    have:j.natAbs < 2 ^ 200:=by omega
    have:=(Nat.log2_lt (n:=j.natAbs) (k:=200) (by omega)).mpr this
    omega
  exact floordiv_int (by omega) (by rw [Int.fdiv_eq_ediv_of_nonneg i (by omega)];exact q) (.inl (PyProof.noPylong_of_log2 h3))
theorem uq:OpR X (binaryOp .Mod) (xD (fun _ j=>decide (0 < j)) fun i j=> .int (i % j)):=OpR.imp wg fun x y H Q ⟨i,j,a,b,c,q⟩=>⟨i,j,a,b,of_decide_eq_true c,q⟩
theorem ur {i j:Int} (c:0≤j∧j≤1000000∧ -(2 ^ 64) < i∧i < 2 ^ 64):xU i j:=⟨c.1,c.2.1,by omega⟩
theorem ut:OpR X (binaryOp .Pow) (xD (fun i j=>decide (0≤j∧j≤1000000∧ -(2 ^ 64) < i∧i < 2 ^ 64)) fun i j=> .int (i ^ j.toNat)):=OpR.imp wj fun x y H Q ⟨i,j,a,b,c,q⟩=>⟨i,j,a,b,ur (of_decide_eq_true c),q⟩
end
def iz:P2:=fun E s1 s2=>(look E s1).bind fun d1=>(look E s2).bind fun d2=>match d1,d2 with
  | .int i, .int j=>if iV i j then some (.sh (.int (i*j)),E) else none
  | .list a, .int k=>if decide (a.length*k.toNat≤1000000∧ -1000000≤k∧k≤1000000)&&(!d5 E s1||bx a) then some (.ow (List.replicate k.toNat a).flatten,E) else none
  | _,_=>none
abbrev vF (K:PySem.W.Frag):R2:=fun x y H Q=>xD iV (fun i j=> .int (i*j)) x y H Q∨vE K x y H Q
theorem uv {X:Cx}:OpR X (binaryOp .Mult) (vF X.K):=OpR.or (yS fun _ _ _ _ _ _ _ hc q=>mul_int q (rf hc)) ul
theorem uw {K:PySem.W.Frag}:fU K (vF K) iz:=by
  intro B F A σ H E xs Xs v1 v2 s1 s2 res E' Q fr e q
  obtain ⟨d1,e1,e⟩:=Option.bind_eq_some_iff.mp e
  obtain ⟨d2,e2,e⟩:=Option.bind_eq_some_iff.mp e
  have r1:=(fr.look1 e1).1
  have r2:=(fr.look0 e2).1
  split at e
  · split at e
    · rename_i hm
      cases e;cases r1;cases r2
      exact .inl ⟨_,_,rfl,rfl,hm,q _ _ (fr.res2 ⟨rfl,_,rfl, .int _⟩)⟩
    · cases e
  · split at e
    · rename_i hc
      cases e
      simp only [Bool.and_eq_true,decide_eq_true_eq] at hc
      obtain ⟨a1,u1,x1,q1,i1⟩:=fr.items (k:=1) rfl e1 hc.2
      cases x1;cases r2
      have l1:=i1.len
      exact .inr ⟨_,_,_,rfl,rfl,q1,by omega,by omega,eD (by rw [l1];exact hc.1.1),fun p hp=>q _ _ (fr.res2l (i1.rep _) hp)⟩
    · cases e
  · cases e
section
variable {X:Cx} {a b:Expr} {m1 m2:Bool} {f g:bz} {pos:Pos}
theorem ck (ha:EX X a m1 f) (hb:EX X b m2 g):EX X (.BinOp a .Add b pos) (m1||m2) (ah bH m2 f g):=jB oQ um ha hb
theorem wz (ha:EX X a m1 f) (hb:EX X b m2 g):EX X (.BinOp a .Sub b pos) (m1||m2) (ah wy m2 f g):=jB uo (ln fun _ _=>rfl) ha hb
theorem lq (ha:EX X a m1 f) (hb:EX X b m2 g):EX X (.BinOp a .Mult b pos) (m1||m2) (ah iz m2 f g):=jB uv uw ha hb
theorem eL (ha:EX X a m1 f) (hb:EX X b m2 g):EX X (.BinOp a .FloorDiv b pos) (m1||m2) (ah cb m2 f g):=jB rl (ln fun _ _=>rfl) ha hb
theorem eF (ha:EX X a m1 f) (hb:EX X b m2 g):EX X (.BinOp a .Mod b pos) (m1||m2) (ah cK m2 f g):=jB uq (ln fun _ _=>rfl) ha hb
theorem lr (ha:EX X a m1 f) (hb:EX X b m2 g):EX X (.BinOp a .Pow b pos) (m1||m2) (ah gR m2 f g):=jB ut (ln fun _ _=>rfl) ha hb
end
def zw (K:PySem.W.Frag) (r:V→Hp→VK→Prop) (op:PyData→Option PyData):Prop:=∀(d1 d:PyData) (v1:V) (H:Hp) (Q:VK),op d1=some d→Rp K H v1 d1→∃v,vB d=some v∧(Q v H→r v1 H Q)
def dH (op:PyData→Option PyData) (f:bz):bz:=fun E=>(f E).bind fun a=>(look a.2 a.1).bind fun d1=>(op d1).map fun d=>(.sh d,a.2)
theorem vG {K:PySem.W.Frag} {r:V→Hp→VK→Prop} {op:PyData→Option PyData} (hp:zw K r op) {m:Bool} {f:bz} {σ:iX} {H:Hp} {Q:VK} (h:rd K m (dH op f) σ H Q):rd K m f σ H (fun x H1=>r x H1 Q):=by
  obtain ⟨B,E,xs,Xs,res,E',fr,c,e,q⟩:=h
  obtain ⟨⟨s1,E1⟩,e1,e⟩:=Option.bind_eq_some_iff.mp e
  obtain ⟨d1,e2,e⟩:=Option.bind_eq_some_iff.mp e
  obtain ⟨d,e3,e⟩:=Option.map_eq_some_iff.mp e
  cases e
  refine ⟨B,E,xs,Xs,s1,E1,fr,c,e1,fun v1 H1 ⟨F,A,fr1⟩=>?_⟩
  obtain ⟨v,hv,k⟩:=hp d1 d v1 H1 Q e3 (fr1.look0 e2).1
  obtain ⟨A',fr2⟩:=fr1.pop
  exact k (q v H1 ⟨F,A',fr2.push ⟨rfl,v,rfl,jA hv⟩⟩)
def fq:PyData→Option PyData
  | .int i=>some (.int (-i))
  | _=>none
def ux:PyData→Option PyData
  | .bool b=>some (.bool (!b))
  | _=>none
section
variable {X:Cx} {a b c:Expr} {m1 m2 m3:Bool} {f g h:bz} {pos:Pos}
theorem iA (ha:EX X a m1 f):EX X (.UnaryOp .USub a pos) m1 (dH fq f):=aY (xS wk ha) fun σ H Q h=>vG (r:=rU fun i=> .int (-i)) (fun d1 d v1 H Q e r=>by
  cases d1 <;> simp [fq] at e
  cases e;cases r
  exact ⟨_,rfl,fun q=>⟨_,rfl,q⟩⟩) h
theorem wA (ha:EX X a m1 f):EX X (.UnaryOp .Not a pos) m1 (dH ux f):=aY (v9 ha) fun σ H Q h=>vG (r:=fun x H1 Q=>∃c,x= .bl c∧Q (.bl (!c)) H1) (fun d1 d v1 H Q e r=>by
  cases d1 <;> simp [ux] at e
  cases e;cases r
  exact ⟨_,rfl,fun q=>⟨_,rfl,q⟩⟩) h
end
def uy (d1 d2:PyData):Option Bool:=match d1,d2 with
  | .int i, .int j=>some (decide (i=j))
  | .str a, .str b=>some (decide (a=b))
  | .bool a, .bool b=>some (decide (a=b))
  | .none, .none=>some true
  | .none, .str _=>some false
  | .str _, .none=>some false
  | d1,d2=>if SeqAt.shaped d1&&SeqAt.shaped d2 then some (PyData.eqv d1 d2) else none
def dw:P2:=dI fun d1 d2=>(uy d1 d2).map fun b=> .bool b
def kA:P2:=dI fun d1 d2=>(uy d1 d2).map fun b=> .bool (!b)
abbrev zx (K:PySem.W.Frag):R2:=fun x y H Q=>z0 x y H Q∨yg K x y H Q
abbrev zy (K:PySem.W.Frag):R2:=fun x y H Q=>z_ x y H Q∨yh K x y H Q
theorem rm {K:PySem.W.Frag} {H:Hp} {v1 v2:V} {d1 d2:PyData} {b:Bool} (e:uy d1 d2=some b) (r1:Rp K H v1 d1) (r2:Rp K H v2 d2):
    (wl v1 v2=true∧decide (v1=v2)=b)∨(DOf K H v1 d1∧DOf K H v2 d2∧SeqAt.shaped d1=true∧SeqAt.shaped d2=true∧PyData.eqv d1 d2=b):=by
  unfold uy at e
  split at e
  · cases e;cases r1;cases r2;exact .inl ⟨rfl,by simp⟩
  · cases e;cases r1;cases r2;exact .inl ⟨rfl,by simp⟩
  · cases e;cases r1;cases r2;exact .inl ⟨rfl,by simp⟩
  · cases e;cases r1;cases r2;exact .inl ⟨rfl,rfl⟩
  · cases e;cases r1;cases r2;exact .inl ⟨rfl,rfl⟩
  · cases e;cases r1;cases r2;exact .inl ⟨rfl,rfl⟩
  · split at e
    · rename_i hs
      cases e
      simp only [Bool.and_eq_true] at hs
      exact .inr ⟨r1.dof hs.1,r2.dof hs.2,hs.1,hs.2,rfl⟩
    · cases e
theorem rn {K:PySem.W.Frag}:fU K (zx K) dw:=lj fun d1 d2 d v1 v2 H Q e r1 r2=>by
  obtain ⟨b,e',rfl⟩:=Option.map_eq_some_iff.mp e
  refine ⟨_,rfl,fun q=>?_⟩
  rcases rm e' r1 r2 with ⟨a,rfl⟩ | ⟨a1,a2,a3,a4,rfl⟩
  · exact .inl ⟨a,q⟩
  · exact .inr ⟨_,_,a1,a2,a3,a4,q⟩
theorem rq {K:PySem.W.Frag}:fU K (zy K) kA:=lj fun d1 d2 d v1 v2 H Q e r1 r2=>by
  obtain ⟨b,e',rfl⟩:=Option.map_eq_some_iff.mp e
  refine ⟨_,rfl,fun q=>?_⟩
  rcases rm e' r1 r2 with ⟨a,rfl⟩ | ⟨a1,a2,a3,a4,rfl⟩
  · exact .inl ⟨a,q⟩
  · exact .inr ⟨_,_,a1,a2,a3,a4,q⟩
def rA (K:PySem.W.Frag) (r:R2) (op:PyData→PyData→Option PyData):Prop:=∀(d1 d2 d:PyData) (v1 v2:V) (H:Hp) (Q:VK),op d1 d2=some d→Rp K H v1 d1→Rp K H v2 d2→∃v,vB d=some v∧(Q v H→r v1 v2 H Q)
def jC (op op':PyData→PyData→Option PyData) (m2 m3:Bool) (f g h:bz):bz:=fun E=>(f E).bind fun a=>if (m2||m3)&&a.1.isBr then none else (g a.2).bind fun b=>if m3&&b.1.isBr then none else
  (look b.2 a.1).bind fun d1=>(look b.2 b.1).bind fun d2=>match op d1 d2 with
    | some (.bool true)=>(h b.2).bind fun c=>(look c.2 b.1).bind fun d2=>(look c.2 c.1).bind fun d3=>(op' d2 d3).map fun d=>(.sh d,c.2)
    | some (.bool false)=>some (.sh (.bool false),b.2)
    | _=>none
section
variable {X:Cx} {a b c:Expr} {m1 m2 m3:Bool} {f g h:bz} {pos:Pos}
theorem iY (hu:X.A.units+64 < cLine) (ha:EX X a m1 f) (hb:EX X b m2 g):EX X (.Compare a [.Eq] [b] pos) (m1||m2) (ah dw m2 f g):=re (OpR.or vx (qW hu)) rn ha hb (jv _)
theorem yk (hu:X.A.units+64 < cLine) (ha:EX X a m1 f) (hb:EX X b m2 g):EX X (.Compare a [.NotEq] [b] pos) (m1||m2) (ah kA m2 f g):=re (OpR.or vy (qX hu)) rq ha hb (jv _)
theorem d7 (hu:X.A.units+64 < cLine) (ha:EX X a m1 f) (hb:EX X b m2 g):TX X (.Compare a [.Eq] [b] pos) (m1||m2) (cS (ah dw m2 f g)):=nN (OpR.or vx (qW hu)) rn ha hb (jv _)
theorem rB (hu:X.A.units+64 < cLine) (ha:EX X a m1 f) (hb:EX X b m2 g):TX X (.Compare a [.NotEq] [b] pos) (m1||m2) (cS (ah kA m2 f g)):=nN (OpR.or vy (qX hu)) rq ha hb (jv _)
theorem rC {K:PySem.W.Frag} {r r':R2} {op op':PyData→PyData→Option PyData} (k:rA K r op) (k':rA K r' op') {σ:iX} {H:Hp} {Q:VK} (z:rd K (m1||(m2||m3)) (jC op op' m2 m3 f g h) σ H Q):qL r r' (rd K m1 f) (rd K m2 g) (rd K m3 h) σ H Q:=by
  obtain ⟨B,E,xs,Xs,res,E',fr,cl,e,q⟩:=z
  obtain ⟨⟨s1,E1⟩,e1,e⟩:=Option.bind_eq_some_iff.mp e
  by_cases hb:((m2||m3)&&s1.isBr)=true
  · rw [if_pos hb] at e;cases e
  rw [if_neg hb] at e
  obtain ⟨⟨s2,E2⟩,e2,e⟩:=Option.bind_eq_some_iff.mp e
  by_cases hb2:(m3&&s2.isBr)=true
  · rw [if_pos hb2] at e;cases e
  rw [if_neg hb2] at e
  obtain ⟨d1,l1,e⟩:=Option.bind_eq_some_iff.mp e
  obtain ⟨d2,l2,e⟩:=Option.bind_eq_some_iff.mp e
  have n1:(m2||m3)=true→s1.isBr=false:=fun z=>by
    cases hs:s1.isBr with
    | false=>rfl
    | true=>exact absurd (by rw [z,hs];rfl) hb
  have n2:m3=true→s2.isBr=false:=fun z=>by
    cases hs:s2.isBr with
    | false=>rfl
    | true=>exact absurd (by rw [z,hs];rfl) hb2
  refine ⟨B,E,xs,Xs,s1,E1,fr,fun z=>cl (by simp [z]),e1,fun v1 H1 fr1=>?_⟩
  refine ⟨B,E1,v1::xs,s1::Xs,s2,E2,fr1,fun z=>Calm.cons (cl (by simp [z])) (n1 (by simp [z])),e2,fun v2 H2 ⟨F,A,fr2⟩=>?_⟩
  cases ho:op d1 d2 with
  | none=>rw [ho] at e;cases e
  | some d=>
    rw [ho] at e
    obtain ⟨v,hv,kk⟩:=k d1 d2 d v1 v2 H2 (fun z H3=>∃k,z= .bl k∧(if k=true then rd K m3 h σ H3 fun w' H4=>r' v2 w' H4 Q else Q (.bl false) H3)) ho (fr2.look1 l1).1 (fr2.look0 l2).1
    cases d with
    | bool t=>
      cases hv
      refine kk ⟨t,rfl,?_⟩
      cases t with
      | true=>
        rw [if_pos rfl]
        obtain ⟨⟨s3,E3⟩,e3,e⟩:=Option.bind_eq_some_iff.mp e
        obtain ⟨d2',l2',e⟩:=Option.bind_eq_some_iff.mp e
        obtain ⟨d3,l3,e⟩:=Option.bind_eq_some_iff.mp e
        obtain ⟨d,ho',e⟩:=Option.map_eq_some_iff.mp e
        cases e
        refine ⟨B,E2,v2::v1::xs,s2::s1::Xs,s3,E3,⟨F,A,fr2⟩,fun z=>Calm.cons (Calm.cons (cl (by simp [z])) (n1 (by simp [z]))) (n2 z),e3,fun v3 H3 ⟨F3,A3,fr3⟩=>?_⟩
        obtain ⟨v,hv,kk⟩:=k' d2' d3 d v2 v3 H3 Q ho' (fr3.look1 l2').1 (fr3.look0 l3).1
        obtain ⟨A4,fr4⟩:=fr3.pop
        exact kk (q v H3 (fr4.res2 ⟨rfl,v,rfl,jA hv⟩))
      | false=>
        rw [if_neg (by decide)]
        cases e
        exact q _ _ (fr2.res2 ⟨rfl,_,rfl, .bl _⟩)
    | none=>cases e
    | int i=>cases e
    | str x=>cases e
    | list xs=>cases e
    | tuple xs=>cases e
    | dict kvs=>cases e
theorem rD {o1 o2:CmpOp} {r r':R2} {op op':PyData→PyData→Option PyData} (ho:OpR X (compareOp o1) r) (ho':OpR X (compareOp o2) r') (k:rA X.K r op) (k':rA X.K r' op') (ha:EX X a m1 f) (hb:EX X b m2 g) (hc:EX X c m3 h)
    (hm:lastMarks [o1,o2] [b,c]=false:=by with_unfolding_all rfl):EX X (.Compare a [o1,o2] [b,c] pos) (m1||(m2||m3)) (jC op op' m2 m3 f g h):=aY (qM ho ho' ha hb hc hm) fun _ _ _ z=>rC k k' z
end
end PL
namespace PL
open PySem L2 Nh
def cL (f g:bz):bz:=fun E=>(f E).bind fun a=>match a.1 with
  | .sh (.bool true)=>g a.2
  | .sh (.bool false)=>some (.sh (.bool false),a.2)
  | _=>none
def iZ (f g:iw):iw:=fun E=>(f E).bind fun a=>if a.1 then g a.2 else some (false,a.2)
def kb (f g:iw):iw:=fun E=>(f E).bind fun a=>if a.1 then some (true,a.2) else g a.2
def bA (f:iw):iw:=fun E=>(f E).map fun a=>(!a.1,a.2)
def tJ (c:iw) (f g:bz):bz:=fun E=>(c E).bind fun a=>if a.1 then f a.2 else g a.2
def eM:PyData→Option Bool
  | .none=>some false
  | .bool b=>some b
  | .int i=>some (i != 0)
  | .str x=>if x.length≤1000000 then some ((x.length:Int) != 0) else none
  | .list xs=>some (!xs.isEmpty)
  | .tuple xs=>some (!xs.isEmpty)
  | .dict _=>none
def bX (f:bz):iw:=fun E=>(f E).bind fun a=>match a.1 with
  | .al i=>match a.2[i]? with
    | some (.od kvs)=>some (!kvs.isEmpty,a.2)
    | some s=>(s.val.bind eM).map fun b=>(b,a.2)
    | none=>none
  | s=>(s.val.bind eM).map fun b=>(b,a.2)
section
variable {X:Cx} {a b c:Expr} {ce:List Expr} {m1 m2 m3:Bool} {f g h:bz} {t u:iw} {pos:Pos} {K:PySem.W.Frag}
theorem fL {op} (h:EX X a m1 f):EX X (.BoolOp op [a] pos) m1 f:=v7 h
theorem eG (ha:EX X a m1 f) (hb:EX X (.BoolOp .And (b::ce) pos) m2 g):EX X (.BoolOp .And (a::b::ce) pos) (m1||m2) (cL f g):=by
  refine aY (v8 ha hb) fun σ H Q z=>?_
  obtain ⟨B,E,xs,Xs,res,E',fr,cl,e,q⟩:=z
  obtain ⟨⟨s1,E1⟩,e1,e⟩:=Option.bind_eq_some_iff.mp e
  refine ⟨B,E,xs,Xs,s1,E1,fr,fun z=>cl (by simp [z]),e1,fun v1 H1 ⟨F,A,fr1⟩=>?_⟩
  simp only at e
  split at e
  · obtain ⟨r,_⟩:=fr1.look0 (d:= .bool true) rfl
    cases r
    obtain ⟨A',fr2⟩:=fr1.pop
    exact ⟨true,rfl,(if_pos rfl).mpr ⟨B,E1,xs,Xs,res,E',⟨F,A',fr2⟩,fun z=>cl (by simp [z]),e,q⟩⟩
  · cases e
    obtain ⟨r,_⟩:=fr1.look0 (d:= .bool false) rfl
    cases r
    exact ⟨false,rfl,(if_neg (by decide)).mpr (q _ _ ⟨F,A,fr1⟩)⟩
  · cases e
theorem uz (ha:TX X a m1 t):WX X (.BoolOp .And [a] pos) m1 t:=tQ ha
theorem rE (ha:TX X a m1 t):WX X (.BoolOp .Or [a] pos) m1 t:=v4 ha
theorem wB (ha:TX X a m1 t) (hb:WX X (.BoolOp .And (b::ce) pos) m2 u):WX X (.BoolOp .And (a::b::ce) pos) (m1||m2) (iZ t u):=by
  refine q_ (v5 ha hb) fun σ H Q z=>?_
  obtain ⟨B,E,xs,Xs,res,E',fr,cl,e,q⟩:=z
  obtain ⟨⟨b1,E1⟩,e1,e⟩:=Option.bind_eq_some_iff.mp e
  refine ⟨B,E,xs,Xs,b1,E1,fr,fun z=>cl (by simp [z]),e1,fun H1 fr1=>?_⟩
  cases b1 with
  | true=>exact (if_pos rfl).mpr ⟨B,E1,xs,Xs,res,E',fr1,fun z=>cl (by simp [z]),e,q⟩
  | false=>cases e;exact (if_neg (by decide)).mpr (q _ fr1)
theorem vH (ha:TX X a m1 t) (hb:WX X (.BoolOp .Or (b::ce) pos) m2 u):WX X (.BoolOp .Or (a::b::ce) pos) (m1||m2) (kb t u):=by
  refine q_ (xJ ha hb) fun σ H Q z=>?_
  obtain ⟨B,E,xs,Xs,res,E',fr,cl,e,q⟩:=z
  obtain ⟨⟨b1,E1⟩,e1,e⟩:=Option.bind_eq_some_iff.mp e
  refine ⟨B,E,xs,Xs,b1,E1,fr,fun z=>cl (by simp [z]),e1,fun H1 fr1=>?_⟩
  cases b1 with
  | true=>cases e;exact (if_pos rfl).mpr (q _ fr1)
  | false=>exact (if_neg (by decide)).mpr ⟨B,E1,xs,Xs,res,E',fr1,fun z=>cl (by simp [z]),e,q⟩
theorem wC (h:WX X a m1 t):TX X a m1 t:=PW.pt h
theorem dM (ha:TX X a m1 t):TX X (.UnaryOp .Not a pos) m1 (bA t):=by
  refine nM (v6 ha) fun σ H Q z=>?_
  obtain ⟨B,E,xs,Xs,res,E',fr,cl,e,q⟩:=z
  obtain ⟨⟨b1,E1⟩,e1,e⟩:=Option.map_eq_some_iff.mp e
  cases e
  exact ⟨B,E,xs,Xs,b1,E1,fr,cl,e1,fun H1 fr1=>q _ fr1⟩
theorem rF (hc:TX X c m1 t) (ha:EX X a m2 f) (hb:EX X b m3 g):EX X (.IfExp c a b pos) (m1||(m2||m3)) (tJ t f g):=by
  refine aY (qE hc ha hb) fun σ H Q z=>?_
  obtain ⟨B,E,xs,Xs,res,E',fr,cl,e,q⟩:=z
  obtain ⟨⟨b1,E1⟩,e1,e⟩:=Option.bind_eq_some_iff.mp e
  refine ⟨B,E,xs,Xs,b1,E1,fr,fun z=>cl (by simp [z]),e1,fun H1 fr1=>?_⟩
  cases b1 with
  | true=>exact (if_pos rfl).mpr ⟨B,E1,xs,Xs,res,E',fr1,fun z=>cl (by simp [z]),e,q⟩
  | false=>exact (if_neg (by decide)).mpr ⟨B,E1,xs,Xs,res,E',fr1,fun z=>cl (by simp [z]),e,q⟩
theorem wD {H:Hp} {v:V} {d:PyData} {b:Bool} (r:Rp K H v d) (e:eM d=some b):qN K v H b:=by
  cases r with
  | non=>cases e;rfl
  | bl b=>cases e;rfl
  | int i=>cases e;rfl
  | str x=>
    simp only [eM] at e
    split at e
    · rename_i hl
      cases e
      exact ⟨eD hl,rfl⟩
    · cases e
  | lst h r=>cases e;exact .inl ⟨_,h,by cases r <;> rfl⟩
  | tup h r=>cases e;exact .inr (.inl ⟨_,h,by cases r <;> rfl⟩)
  | dct h r=>cases e
  | exc h r=>cases e
theorem dz (ha:EX X a m1 f) (he:∀whole,isTrue a X.env whole=(do let v ←whole;standAt a.pos;holding [v] (truthy v)):=by exact fun _=>rfl):TX X a m1 (bX f):=by
  refine nM (qO ha he) fun σ H Q z=>?_
  obtain ⟨B,E,xs,Xs,res,E',fr,cl,e,q⟩:=z
  obtain ⟨⟨s,E1⟩,e1,e⟩:=Option.bind_eq_some_iff.mp e
  refine ⟨B,E,xs,Xs,s,E1,fr,cl,e1,fun v1 H1 ⟨F,A,fr1⟩=>?_⟩
  have key:∀d,look E1 s=some d→(eM d).map (fun b=>(b,E1))=some (res,E')→∃k,qN X.K v1 H1 k∧Q k H1:=fun d l e=>by
    obtain ⟨b,e',z⟩:=Option.map_eq_some_iff.mp e
    cases z
    obtain ⟨A',fr2⟩:=fr1.pop
    exact ⟨_,wD (fr1.look0 l).1 e',q _ ⟨F,A',fr2⟩⟩
  have kv:(s.val.bind eM).map (fun b=>(b,E1))=some (res,E')→(∀i,s≠ .al i)→∃k,qN X.K v1 H1 k∧Q k H1:=fun e na=>by
    obtain ⟨b,e',z⟩:=Option.map_eq_some_iff.mp e
    obtain ⟨d,e1,e2⟩:=Option.bind_eq_some_iff.mp e'
    refine key d ?_ (by rw [e2];exact congrArg some z)
    cases s <;> first | exact e1 | exact absurd rfl (na _)
  simp only at e
  split at e
  · rename_i i
    split at e
    · rename_i kvs ei
      cases e
      obtain ⟨v',A1,ev,rfl,w,ew,hw⟩:=fr1.ext (k:=0) rfl
      cases ev;cases ew
      obtain ⟨o,A1,eo,l,us,A2,rfl,_,hl,r⟩:=fr1.var ei
      rw [hw] at eo
      cases eo
      obtain ⟨A',fr2⟩:=fr1.pop
      exact ⟨_, .inr (.inr ⟨_,hl,by cases us <;> cases kvs <;> first | rfl | exact False.elim r⟩),q _ ⟨F,A',fr2⟩⟩
    · rename_i s' _ ei
      obtain ⟨b,e',z⟩:=Option.map_eq_some_iff.mp e
      obtain ⟨d,e1,e2⟩:=Option.bind_eq_some_iff.mp e'
      exact key d (by simp [look,ei,e1]) (by rw [e2];exact congrArg some z)
    · cases e
  · rename_i na
    exact kv e na
end
def am:ix:=fun E=>some ([],E)
def af (m2:Bool) (f:bz) (g:ix):ix:=fun E=>(f E).bind fun a=>if m2&&a.1.isBr then none else (g a.2).map fun b=>(a.1::b.1,b.2)
def ar:iy:=fun E=>some ([],E)
def aa (f:bz) (g:iy):iy:=fun E=>(f E).bind fun a=>(frz a.2 a.1).bind fun b=>(g b.2).map fun c=>(b.1::c.1,c.2)
def aG (f:iy):bz:=fun E=>(f E).bind fun a=>if a.1.length≤1000000 then some (.sh (.tuple a.1),a.2) else none
def bi (f:iy):bz:=fun E=>(f E).bind fun a=>if a.1.length≤1000000 then some (.ow a.1,a.2) else none
section
variable {X:Cx} {e:Expr} {es:List Expr} {m1 m2:Bool} {f:bz} {g:ix} {d:iy} {pos:Pos} {K:PySem.W.Frag}
theorem au:AX X [] false am:=by
  refine lg fj fun σ H Q z=>?_
  obtain ⟨B,E,xs,Xs,res,E',fr,cl,e,q⟩:=z
  cases e
  exact q [] H rfl fr
theorem ai (ha:EX X e m1 f) (hr:AX X es m2 g) (hs:starEach (e::es) X.env=(false,eval e X.env)::starEach es X.env:=by rfl):AX X (e::es) (m1||m2) (af m2 f g):=by
  refine lg (cX ha hr hs) fun σ H Q z=>?_
  obtain ⟨B,E,xs,Xs,res,E',fr,cl,e,q⟩:=z
  obtain ⟨⟨s,E1⟩,e1,e⟩:=Option.bind_eq_some_iff.mp e
  by_cases hb:(m2&&s.isBr)=true
  · rw [if_pos hb] at e;cases e
  rw [if_neg hb] at e
  obtain ⟨⟨rs,E2⟩,e2,e⟩:=Option.map_eq_some_iff.mp e
  cases e
  refine ⟨B,E,xs,Xs,s,E1,fr,fun z=>cl (by simp [z]),e1,fun v1 H1 fr1=>?_⟩
  refine ⟨B,E1,v1::xs,s::Xs,rs,E2,fr1,fun z=>Calm.cons (cl (by simp [z])) ?_,e2,fun vs H2 hl fr2=>?_⟩
  · cases hs:s.isBr with
    | false=>rfl
    | true=>exact absurd (by simp [z,hs]) hb
  · exact q (v1::vs) H2 (by simp [hl]) (by simpa using fr2)
theorem wE:DX X [] false ar:=by
  refine lg fj fun σ H Q z=>?_
  obtain ⟨B,E,xs,Xs,res,E',fr,cl,e,q⟩:=z
  cases e
  exact q [] H rfl fr
theorem uA (ha:EX X e m1 f) (hr:DX X es m2 d) (hs:starEach (e::es) X.env=(false,eval e X.env)::starEach es X.env:=by rfl):DX X (e::es) (m1||m2) (aa f d):=by
  refine lg (cX ha hr hs) fun σ H Q z=>?_
  obtain ⟨B,E,xs,Xs,res,E',fr,cl,e,q⟩:=z
  obtain ⟨⟨s,E1⟩,e1,e⟩:=Option.bind_eq_some_iff.mp e
  obtain ⟨⟨d1,E2⟩,e2,e⟩:=Option.bind_eq_some_iff.mp e
  obtain ⟨⟨rs,E3⟩,e3,e⟩:=Option.map_eq_some_iff.mp e
  cases e
  refine ⟨B,E,xs,Xs,s,E1,fr,fun z=>cl (by simp [z]),e1,fun v1 H1 ⟨F,A,fr1⟩=>?_⟩
  obtain ⟨F2,A2,fr2⟩:=fr1.frz0 e2
  refine ⟨B,E2,v1::xs, .sh d1::Xs,rs,E3,⟨F2,A2,fr2⟩,fun z=>Calm.cons (cl (by simp [z])) rfl,e3,fun vs H2 hl fr2=>?_⟩
  exact q (v1::vs) H2 (by simp [hl]) (by simpa using fr2)
theorem FrF.shsR {B F:Hp} {σ:iX} {H:Hp} {E:List Sl} {xs:List V} {Xs:List Sl}:∀{us:List V} {es:List PyData} {A:List Addr},us.length=es.length→FrF K B F A σ H E (us++xs) (es.map .sh++Xs)→RpA K F us es∧∃A',FrF K B F A' σ H E xs Xs
  | [],[],A,_,h=>⟨.nil,A,h⟩
  | u::us,e::es,A,hl,h=>by
    obtain ⟨v,A1,ev,rfl,w,ew,r⟩:=h.ext (k:=0) rfl
    cases ev;cases ew
    obtain ⟨A',h'⟩:=FrF.pop (xs:=us++xs) (Xs:=es.map .sh++Xs) h
    obtain ⟨r',q⟩:=FrF.shsR (by simpa using hl) h'
    exact ⟨.cons r r',q⟩
  | [],_::_,_,e,_=>by cases e
  | _::_,[],_,e,_=>by cases e
theorem FrF.shs {B F:Hp} {σ:iX} {H:Hp} {E:List Sl} {xs:List V} {Xs:List Sl} {us:List V} {es:List PyData} {A:List Addr} (hl:us.length=es.length) (h:FrF K B F A σ H E (us.reverse++xs) (es.reverse.map .sh++Xs)):RpA K F us es∧∃A',FrF K B F A' σ H E xs Xs:=by
  obtain ⟨r,q⟩:=FrF.shsR (by simpa using hl) h
  have:=r.rev
  rw [List.reverse_reverse,List.reverse_reverse] at this
  exact ⟨this,q⟩
theorem wF {x1} (h:DX X es m1 d):EX X (.Tuple es x1 pos) m1 (aG d):=by
  refine aY (wn h) fun σ H Q z=>?_
  obtain ⟨B,E,xs,Xs,res,E',fr,cl,e,q⟩:=z
  obtain ⟨⟨ds,E1⟩,e1,e⟩:=Option.bind_eq_some_iff.mp e
  simp only at e
  split at e
  · rename_i hl
    cases e
    refine ⟨B,E,xs,Xs,ds,_,fr,cl,e1,fun vs H1 hv ⟨F,A,fr1⟩=>?_⟩
    obtain ⟨r,A',fr2⟩:=fr1.shs hv
    exact ⟨eD (by omega),fun p hp=>q _ _ ⟨_,_,fr2.newt r hp⟩⟩
  · cases e
theorem wG (h:DX X es m1 d):EX X (.List es pos) m1 (bi d):=by
  refine aY (qQ h) fun σ H Q z=>?_
  obtain ⟨B,E,xs,Xs,res,E',fr,cl,e,q⟩:=z
  obtain ⟨⟨ds,E1⟩,e1,e⟩:=Option.bind_eq_some_iff.mp e
  simp only at e
  split at e
  · rename_i hl
    cases e
    refine ⟨B,E,xs,Xs,ds,_,fr,cl,e1,fun vs H1 hv ⟨F,A,fr1⟩=>?_⟩
    obtain ⟨r,A',fr2⟩:=fr1.shs hv
    exact ⟨eD (by omega),fun p hp=>q _ _ ⟨_,_,fr2.newl r hp⟩⟩
  · cases e
end
def dN (ds:List PyData) (lo hi:Option Int):List PyData:=(ds.drop (HT.j8 ds.length 0 lo)).take (HT.j8 ds.length ds.length hi - HT.j8 ds.length 0 lo)
def cI:P2:=fun E s1 s2=>(look E s1).bind fun d1=>(look E s2).bind fun d2=>match d2 with
  | .int i=>match d1 with
    | .list ds=>(atI ds i).map fun d=>(if d5 E s1&& !bW d then .br d else .sh d,E)
    | .tuple ds=>(atI ds i).map fun d=>(if d5 E s1&& !bW d then .br d else .sh d,E)
    | .str z=>if z.length≤1000000 then (atI z.cps.toList i).map fun c=>(.sh (.str ⟨#[c]⟩),E) else none
    | _=>none
  | _=>none
section
variable {K:PySem.W.Frag} {H:Hp}
theorem RpA.atI {vs:List V} {ds:List PyData} {i:Int} {d:PyData} (h:RpA K H vs ds) (e:L2.atI ds i=some d):∃v,L2.atI vs i=some v∧Rp K H v d:=by
  unfold L2.atI at e ⊢
  obtain ⟨j,e1,e2⟩:=Option.bind_eq_some_iff.mp e
  obtain ⟨v,ev,r⟩:=h.get e2
  exact ⟨v,by rw [h.len,e1];exact ev,r⟩
theorem FrF.item {B F:Hp} {A:List Addr} {σ:iX} {E:List Sl} {xs:List V} {Xs:List Sl} {v1 v2 v:V} {s1 s2:Sl} {d:PyData} (fr:FrF K B F A σ H E (v2::v1::xs) (s2::s1::Xs)) (r:Rp K H v d) (f:d5 E s1=false→Rp K F v d):
    Frm K B σ H E (v::xs) ((if d5 E s1&& !bW d then .br d else .sh d)::Xs):=by
  by_cases hc:(d5 E s1&& !bW d)=true
  · rw [if_pos hc]
    exact fr.res2 ⟨rfl,v,rfl,r⟩
  · rw [if_neg hc]
    refine fr.res2 ⟨rfl,v,rfl,?_⟩
    cases hh:d5 E s1 with
    | false=>exact f hh
    | true=>
      rw [hh] at hc
      exact fr.cold r (by simpa using hc)
theorem wH:fU K (Aa K) cI:=by
  intro B F A σ H E xs Xs v1 v2 s1 s2 res E' Q fr e q
  obtain ⟨d1,e1,e⟩:=Option.bind_eq_some_iff.mp e
  obtain ⟨d2,e2,e⟩:=Option.bind_eq_some_iff.mp e
  obtain ⟨r1,f1⟩:=fr.look1 e1
  have r2:=(fr.look0 e2).1
  split at e
  · cases r2
    split at e
    · obtain ⟨d,ed,e⟩:=Option.map_eq_some_iff.mp e
      cases e
      cases hh:d5 E s1 with
      | false=>
        obtain ⟨a,vs,rfl,h1,h2⟩:=f1 hh
        obtain ⟨v,ev,rv⟩:=h2.atI ed
        have z:=fr.item (rv.same fr.fh) fun _=>rv
        rw [hh] at z q
        exact .inl ⟨_,_,_,v,rfl,rfl,h1,ev,q _ _ z⟩
      | true=>
        cases r1 with
        | lst h1 h2=>
          obtain ⟨v,ev,rv⟩:=h2.atI ed
          have z:=fr.item rv fun h=>absurd (hh.symm.trans h) (by decide)
          rw [hh] at z q
          exact .inl ⟨_,_,_,v,rfl,rfl,h1,ev,q _ _ z⟩
    · obtain ⟨d,ed,e⟩:=Option.map_eq_some_iff.mp e
      cases e
      cases hh:d5 E s1 with
      | false=>
        have h0:Rp K F v1 _:=f1 hh
        cases h0 with
        | tup h1 h2=>
          obtain ⟨v,ev,rv⟩:=h2.atI ed
          have z:=fr.item (rv.same fr.fh) fun _=>rv
          rw [hh] at z q
          exact .inr (.inl ⟨_,_,_,v,rfl,rfl,fr.fh.tup h1,ev,q _ _ z⟩)
      | true=>
        cases r1 with
        | tup h1 h2=>
          obtain ⟨v,ev,rv⟩:=h2.atI ed
          have z:=fr.item rv fun h=>absurd (hh.symm.trans h) (by decide)
          rw [hh] at z q
          exact .inr (.inl ⟨_,_,_,v,rfl,rfl,h1,ev,q _ _ z⟩)
    · split at e
      · rename_i hl
        obtain ⟨c,ec,e⟩:=Option.map_eq_some_iff.mp e
        cases e;cases r1
        exact .inr (.inr ⟨_,_,c,rfl,rfl,eD hl,ec,q _ _ (fr.res2 ⟨rfl,_,rfl, .str _⟩)⟩)
      · cases e
    · cases e
  · cases e
end
end PL
namespace L2
open PySem PySem.Spec PyProof.Rows
section
variable {κ:Type} [DecidableEq κ]
def g7 (kvs:List (κ×V)) (k:κ):Option V:=(kvs.find? fun kv=>decide (kv.1=k)).map (·.2)
def fZ (kvs:List (κ×V)) (k:κ) (v:V):List (κ×V):=
  if (kvs.any fun kv=>decide (kv.1=k))=true then kvs.map (fun kv=>if kv.1=k then (kv.1,v) else kv) else kvs++[(k,v)]
def vI (kvs:List (κ×V)) (k:κ):List (κ×V):=kvs.filter fun kv=>decide (kv.1≠k)
theorem h7 {p:κ×V} {r:List (κ×V)} {k:κ} (e:p.1=k):g7 (p::r) k=some p.2:=by simp [g7,List.find?_cons,e]
theorem gd {p:κ×V} {r:List (κ×V)} {k:κ} (e:¬p.1=k):g7 (p::r) k=g7 r k:=by simp [g7,List.find?_cons,e]
theorem jD (k:κ):∀kvs:List (κ×V),(kvs.any fun kv=>decide (kv.1=k))=(g7 kvs k).isSome
  | []=>rfl
  | p::r=>by
    rw [List.any_cons]
    by_cases e:p.1=k
    · simp only [h7 e,decide_eq_true e,Bool.true_or,Option.isSome_some]
    · rw [gd e,decide_eq_false e,Bool.false_or];exact jD k r
theorem my (kvs:List (κ×V)) (k:κ) (v:V):(fZ kvs k v).length≤kvs.length+1:=by
  unfold fZ
  split
  · rw [List.length_map];omega
  · rw [List.length_append,List.length_cons,List.length_nil];omega
theorem rG {kvs:List (κ×V)} {k:κ} (v:V) (h:g7 kvs k=none):fZ kvs k v=kvs++[(k,v)]:=by
  unfold fZ
  rw [jD,h]
  exact if_neg (by decide)
theorem RelO.isSome_eq {o:Option V} {u:Option Value} (r:RelO o u):o.isSome=u.isSome:=by
  cases o with
  | none=>cases u with
    | none=>rfl
    | some _=>exact (show False from r).elim
  | some _=>cases u with
    | none=>exact (show False from r).elim
    | some _=>rfl
theorem RelO.getD {o:Option V} {u:Option Value} {d:V} {d':Value} (r:RelO o u) (rd:RelV d d'):RelV (o.getD d) (u.getD d'):=by
  cases o with
  | none=>cases u with
    | none=>exact rd
    | some _=>exact (show False from r).elim
  | some _=>cases u with
    | none=>exact (show False from r).elim
    | some _=>exact r
theorem KV.val {kvs:List (κ×V)} {vs:List (κ×Value)} (r:KV kvs vs) (k:κ):RelO (g7 kvs k) (valueAt vs k):=by
  unfold KV at r
  induction r with
  | nil=>exact True.intro
  | @cons p q ps qs h t ih=>
    obtain ⟨h1,h2⟩:=h
    by_cases e:p.1=k
    · have e':q.1=k:=h1.symm.trans e
      have b:valueAt (q::qs) k=some q.2:=by simp [valueAt,List.find?_cons,e']
      rw [h7 e,b];exact h2
    · have e':¬q.1=k:=fun z=>e (h1.trans z)
      have b:valueAt (q::qs) k=valueAt qs k:=by simp [valueAt,List.find?_cons,e']
      rw [gd e,b];exact ih
theorem KV.any {kvs:List (κ×V)} {vs:List (κ×Value)} (r:KV kvs vs) (k:κ):(kvs.any fun kv=>decide (kv.1=k))=vs.any fun kv=>decide (kv.1=k):=by
  unfold KV at r
  induction r with
  | nil=>rfl
  | cons h t ih=>rw [List.any_cons,List.any_cons,ih,h.1]
theorem KV.repl {kvs:List (κ×V)} {vs:List (κ×Value)} (r:KV kvs vs) (k:κ) {y:V} {u:Value} (ry:RelV y u):
    KV (kvs.map fun kv=>if kv.1=k then (kv.1,y) else kv) (vs.map fun kv=>if kv.1=k then (kv.1,u) else kv):=by
  unfold KV at r ⊢
  induction r with
  | nil=>exact .nil
  | @cons p q ps qs h t ih=>
    rw [List.map_cons,List.map_cons]
    refine .cons ?_ ih
    obtain ⟨h1,h2⟩:=h
    by_cases e:p.1=k
    · rw [if_pos e,if_pos (h1.symm.trans e)];exact ⟨h1,ry⟩
    · rw [if_neg e,if_neg (fun z=>e (h1.trans z))];exact ⟨h1,h2⟩
theorem KV.put {kvs:List (κ×V)} {vs:List (κ×Value)} (r:KV kvs vs) (k:κ) {y:V} {u:Value} (ry:RelV y u):KV (fZ kvs k y) (stored vs k u):=by
  unfold fZ stored
  rw [r.any k]
  by_cases e:(vs.any fun kv=>decide (kv.1=k))=true
  · rw [if_pos e,if_pos e];exact r.repl k ry
  · rw [if_neg e,if_neg e];exact Paired.snoc r ⟨rfl,ry⟩
theorem KV.drop {kvs:List (κ×V)} {vs:List (κ×Value)} (r:KV kvs vs) (k:κ):KV (vI kvs k) (without vs k):=by
  unfold KV at r ⊢
  unfold vI without
  induction r with
  | nil=>exact .nil
  | @cons p q ps qs h t ih=>
    obtain ⟨h1,h2⟩:=h
    rw [List.filter_cons,List.filter_cons]
    by_cases e:p.1=k
    · have a:¬decide (p.1≠k)=true:=by simp [e]
      have b:¬decide (q.1≠k)=true:=by simp [h1.symm.trans e]
      rw [if_neg a,if_neg b];exact ih
    · have e':¬q.1=k:=fun z=>e (h1.trans z)
      have a:decide (p.1≠k)=true:=by simp [e]
      have b:decide (q.1≠k)=true:=by simp [e']
      rw [if_pos a,if_pos b];exact .cons ⟨h1,h2⟩ ih
theorem KV.keys {kvs:List (κ×V)} {vs:List (κ×Value)} (r:KV kvs vs):kvs.map (·.1)=vs.map (·.1):=by
  unfold KV at r
  induction r with
  | nil=>rfl
  | cons h t ih=>rw [List.map_cons,List.map_cons,ih,h.1]
theorem KV.length {kvs:List (κ×V)} {vs:List (κ×Value)} (r:KV kvs vs):kvs.length=vs.length:=Paired.length r
end
theorem rH {P:Program} {w:World} {k:bZ} {u:Value} (r:RelV (kV k) u):(bV P w).is k u=true:=by
  cases k with
  | inl i=>obtain ⟨t,e⟩:=(show ∃t,u=Value.int i t from r);subst e;exact l0 P w i t
  | inr x=>obtain ⟨t,e⟩:=(show ∃t,u=Value.str x t from r);subst e;exact l_ P w x t
theorem kB {P:Program} {w:World}:∀{ks:List bZ} {us:List Value},Vals (ks.map kV) us→ItemsAre (bV P w) ks us
  | [],_,r=>by rw [List.map_nil] at r;cases r;exact .nil
  | k::ks,_,r=>by
    rw [List.map_cons] at r
    cases r with
    | cons h t=>exact .cons (rH h) (kB t)
abbrev KT (H:Hp):List (List bZ×V)→List (List bZ×Addr×Value)→Prop:=Paired fun p q=>p.1=q.1∧H q.2.1=some (.tup (p.1.map kV))∧RelV p.2 q.2.2
theorem KT.val {H:Hp} {kvs:List (List bZ×V)} {xs:List (List bZ×Addr×Value)} (r:KT H kvs xs) (k:List bZ):RelO (g7 kvs k) ((atKey xs k).map (·.2)):=by
  induction r with
  | nil=>exact True.intro
  | @cons p q ps qs h t ih=>
    obtain ⟨h1,_,h2⟩:=h
    by_cases e:p.1=k
    · have e':q.1=k:=h1.symm.trans e
      have b:atKey (q::qs) k=some q.2:=by simp [atKey,List.find?_cons,e']
      rw [h7 e,b];exact h2
    · have e':¬q.1=k:=fun z=>e (h1.trans z)
      have b:atKey (q::qs) k=atKey qs k:=by simp [atKey,List.find?_cons,e']
      rw [gd e,b];exact ih
theorem KT.repl {H:Hp} {kvs:List (List bZ×V)} {xs:List (List bZ×Addr×Value)} (r:KT H kvs xs) (k:List bZ) {y:V} {u:Value} (ry:RelV y u):
    KT H (kvs.map fun kv=>if kv.1=k then (kv.1,y) else kv) (xs.map (putAt k u)):=by
  induction r with
  | nil=>exact .nil
  | @cons p q ps qs h t ih=>
    rw [List.map_cons,List.map_cons]
    refine .cons ?_ ih
    obtain ⟨h1,h2,h3⟩:=h
    unfold putAt
    by_cases e:p.1=k
    · rw [if_pos e,if_pos (h1.symm.trans e)];exact ⟨h1,h2,ry⟩
    · rw [if_neg e,if_neg (fun z=>e (h1.trans z))];exact ⟨h1,h2,h3⟩
theorem KT.put {H:Hp} {kvs:List (List bZ×V)} {xs:List (List bZ×Addr×Value)} (r:KT H kvs xs) (k:List bZ) {b:Addr} {y:V} {u:Value} (hb:H b=some (.tup (k.map kV))) (ry:RelV y u):
    KT H (fZ kvs k y) (storedH xs k b u):=by
  have e:(kvs.any fun kv=>decide (kv.1=k))=(atKey xs k).isSome:=by
    rw [jD,(r.val k).isSome_eq,Option.isSome_map]
  unfold fZ storedH
  rw [e]
  by_cases q:(atKey xs k).isSome=true
  · rw [if_pos q,if_pos q];exact r.repl k ry
  · rw [if_neg q,if_neg q];exact Paired.snoc r ⟨rfl,hb,ry⟩
theorem KT.keeps {H H':Hp} {kvs:List (List bZ×V)} {xs:List (List bZ×Addr×Value)} (r:KT H kvs xs) (ht:∀b ys,H b=some (.tup ys)→H' b=some (.tup ys)):KT H' kvs xs:=
  Paired.mapP r fun _ _ z=>⟨z.1,ht _ _ z.2.1,z.2.2⟩
section
variable {P:Program} {w:World} {H:Hp} {h:Heap} {a:Addr}
theorem vJ {u:HO} (ok:HOk P w H h) (e:Rd H a u):ObjOk P w H h a u:=e.ok ok
theorem oR {kvs:List (bZ×V)} (ok:HOk P w H h) (e:Rd H a (.dK kvs)):kvs.length≤sizeLine∧(a == sysModules)=false∧∃vs,KV kvs vs∧h.DictOf (bV P w) a vs:=
  show ObjOk P w H h a (.dK kvs) from vJ ok e
theorem ym {kvs:List (bZ×V)} (ok:HOk P w H h) (e:H a=some (.dK kvs)):kvs.length≤sizeLine∧(a == sysModules)=false∧∃vs,KV kvs vs∧h.DictOf (bV P w) a vs:=oR ok (.inl e)
theorem rJ {ks:List bZ} (ok:HOk P w H h) (e:H a=some (.tup (ks.map kV))):(tupleKind (bV P w)).is h ks a:=by
  obtain ⟨_,its,r,o,h1,h2,n,h3⟩:=(show ObjOk P w H h a (.tup (ks.map kV)) from ok a _ e)
  exact ⟨o,its.toArray,n,h1,h2,h3,by simpa using kB r⟩
theorem vK {kvs:List (List bZ×V)} (ok:HOk P w H h) (e:Rd H a (.dT kvs)):kvs.length≤sizeLine∧(a == sysModules)=false∧
    ∃xs,KT H kvs xs∧h.DictOfH (tupleKind (bV P w)) a xs:=by
  obtain ⟨z,y,xs,r,o,es,ep,h1,h2,h3,h4,h5⟩:=(show ObjOk P w H h a (.dT kvs) from vJ ok e)
  refine ⟨z,y,xs,r,o,es,ep,h1,h2,h3,h4,fun x hx=>?_,h5⟩
  have all:∀{l:List (List bZ×V)} {m:List (List bZ×Addr×Value)},KT H l m→∀x∈m,(tupleKind (bV P w)).is h x.1 x.2.1:=by
    intro l m q
    induction q with
    | nil=>intro x hx;exact nomatch hx
    | @cons p q ps qs hq t ih=>
      intro x hx
      rcases List.mem_cons.mp hx with e | hx
      · subst e
        exact rJ ok (by rw [←hq.1];exact hq.2.1)
      · exact ih x hx
  exact all r x hx
end
def DGet (H:Hp) (a:Addr) (y:V) (r:Option V):Prop:=
  (∃kvs k,Rd H a (.dK kvs)∧y=kV k∧r=g7 kvs k)∨∃kvs k b,Rd H a (.dT kvs)∧y= .ref b∧H b=some (.tup (k.map kV))∧r=g7 kvs k
def DPut (H:Hp) (a:Addr) (y v:V) (H':Hp):Prop:=
  (∃kvs k,H a=some (.dK kvs)∧y=kV k∧kvs.length < sizeLine∧H'=upd H a (.dK (fZ kvs k v)))∨
  ∃kvs k b,H a=some (.dT kvs)∧y= .ref b∧H b=some (.tup (k.map kV))∧kvs.length < sizeLine∧H'=upd H a (.dT (fZ kvs k v))
theorem DGet.k {H:Hp} {a:Addr} {kvs:List (bZ×V)} {k:bZ} (e:H a=some (.dK kvs)):DGet H a (kV k) (g7 kvs k):= .inl ⟨kvs,k, .inl e,rfl,rfl⟩
theorem DGet.t {H:Hp} {a b:Addr} {kvs:List (List bZ×V)} {k:List bZ} (e:H a=some (.dT kvs)) (eb:H b=some (.tup (k.map kV))):DGet H a (.ref b) (g7 kvs k):= .inr ⟨kvs,k,b, .inl e,rfl,eb,rfl⟩
theorem DPut.k {H:Hp} {a:Addr} {kvs:List (bZ×V)} {k:bZ} {v:V} (e:H a=some (.dK kvs)) (hl:kvs.length < sizeLine):DPut H a (kV k) v (upd H a (.dK (fZ kvs k v))):= .inl ⟨kvs,k,e,rfl,hl,rfl⟩
theorem DPut.t {H:Hp} {a b:Addr} {kvs:List (List bZ×V)} {k:List bZ} {v:V} (e:H a=some (.dT kvs)) (eb:H b=some (.tup (k.map kV))) (hl:kvs.length < sizeLine):
    DPut H a (.ref b) v (upd H a (.dT (fZ kvs k v))):= .inr ⟨kvs,k,b,e,rfl,eb,hl,rfl⟩
section
variable {X:Cx} {pins:List (Addr×Obj)} {σ:St} {H:Hp} {s:Shared} {a:Addr} {y v:V} {u r:Value} {o:Option V} {A:Around} {E:Value→Shared→Prop}
theorem Inv.big (I:Inv X pins σ H s):sysModules < s.heap.objs.size:=by
  have h:mainGlobals < s.heap.objs.size:=(I.mod.glob.keeps I.bk).lt
  exact Nat.lt_trans (by decide) h
theorem uB {h':Heap} {t':Nat} {ob:HO} (I:Inv X pins σ H s) (mu:xH (H a)) (hs:Heap.SameBut a s.heap h') (he:∃q,h'.get? a=some q) (new:ObjOk X.prog X.w (upd H a ob) h' a ob):
    Inv X pins σ (upd H a ob) {s with heap:=h',toks:=t'}:=
  I.write (x:=a) (e:=a) mu (.inl rfl) (fun b q hb z=>(hs.2 b hb).trans z) he new
theorem wI {P:Program} {w:World} {H':Hp} {h':Heap} {kvs:List (bZ×V)} {vs:List (bZ×Value)} (z:kvs.length≤sizeLine) (hd:(a == sysModules)=false) (rel:KV kvs vs) (dd:h'.DictOf (bV P w) a vs):
    ObjOk P w H' h' a (.dK kvs):=⟨z,hd,vs,rel,dd⟩
end
theorem mz {P:Program} {w:World} {H:Hp} (h:Heap) (hb:sysModules < h.objs.size):ObjOk P w H (h.push {cls:= .type "dict",data:= .dict #[]}) h.objs.size (.dK []):=
  ⟨Nat.zero_le _,beq_eq_false_iff_ne.mpr (Ne.symm (Nat.ne_of_lt hb)),[], .nil,Heap.DictOf.new h⟩
def wJ:TE:=fun _ H Q=>∀p,H p=none→Q (.ref p) (upd H p (.dK []))
section
variable {X:Cx} {pos:Pos}
theorem rK:PE X (.Dict [] [] pos) wJ:=fun pins s σ H Q I h=>
  wpAny_Dict_empty ⟨.ref s.heap.objs.size,_,I.laid (a:=s.heap.objs.size) (o:= .dK []) (t':=s.toks) (fun _ _ q=>Heap.get?_push_of_some _ q) (Nat.le_refl _) (mz s.heap I.big),rfl,h _ (I.hok.fresh (Nat.le_refl _))⟩
end
def ls:List (TE×TE)→St→Hp→(List (V×V)→Hp→Prop)→Prop
  | [],_,H,Q=>Q [] H
  | (tk,tv)::r,σ,H,Q=>tk σ H fun x H1=>tv σ H1 fun y H2=>ls r σ H2 fun ps H3=>Q ((x,y)::ps) H3
abbrev VV:List (V×V)→List (Value×Value)→Prop:=Paired fun p q=>RelV p.1 q.1∧RelV p.2 q.2
def yn (X:Cx) (pos:Pos) (keys:List (Option Expr)) (values:List Expr) (trs:List (TE×TE)):Prop:=
  ∀(pins:List (Addr×Obj)) (s:Shared) (σ:St) (H:Hp) (Q:List (V×V)→Hp→Prop),Inv X pins σ H s→ls trs σ H Q→
    wpAny (model X.prog X.w) X.A (evalPairs (pairTrees keys values X.env pos)) (fun vs s'=>∃ps H',Inv X pins σ H' s'∧VV ps vs∧Q ps H') X.xe s
theorem uC {X:Cx} {pos:Pos}:yn X pos [] [] []:=fun pins s σ H Q I h=>pairTrees_nil_walk ⟨[],H,I, .nil,h⟩
theorem rL {X:Cx} {pos:Pos} {k v:Expr} {ks:List (Option Expr)} {vs:List Expr} {tk tv:TE} {trs:List (TE×TE)} (hk:PE X k tk) (hv:PE X v tv) (hr:yn X pos ks vs trs):
    yn X pos (some k::ks) (v::vs) ((tk,tv)::trs):=fun pins s σ H Q I h=>
  pairTrees_cons_walk (ci (hk pins s σ H _ I h) fun u s1 ⟨x,H1,I1,rx,q1⟩=>ci (hv pins s1 σ H1 _ I1 q1) fun w2 s2 ⟨y,H2,I2,ry,q2⟩=>
    ci (hr pins s2 σ H2 _ I2 q2) fun ws s3 ⟨ps,H3,I3,rel,q3⟩=>⟨(x,y)::ps,H3,I3, .cons ⟨rx,ry⟩ rel,q3⟩)
def gf (kvs more:List (bZ×V)):List (bZ×V):=more.foldl (fun acc kv=>fZ acc kv.1 kv.2) kvs
theorem KV.merge:∀{more:List (bZ×V)} {rs:List (bZ×Value)} {kvs:List (bZ×V)} {vs:List (bZ×Value)},KV more rs→KV kvs vs→KV (gf kvs more) (merged vs rs):=by
  intro more rs kvs vs r
  unfold KV at r
  induction r generalizing kvs vs with
  | nil=>intro q;exact q
  | @cons p q ps qs h t ih=>
    intro r0
    have e:KV (fZ kvs p.1 p.2) (stored vs q.1 q.2):=by
      have:=r0.put p.1 h.2
      rw [←h.1];exact this
    exact ih e
theorem gV:∀(more kvs:List (bZ×V)),(gf kvs more).length≤kvs.length+more.length
  | [],kvs=>by show kvs.length≤kvs.length+0;omega
  | p::r,kvs=>by
    have h1:=gV r (fZ kvs p.1 p.2)
    have h2:=my kvs p.1 p.2
    show (gf (fZ kvs p.1 p.2) r).length≤_
    rw [List.length_cons];omega
theorem jE {P:Program} {w:World}:∀{kvs:List (bZ×V)} {ws:List (Value×Value)},VV (kvs.map fun kv=>(kV kv.1,kv.2)) ws→∃rs,Carries (bV P w) ws rs∧KV kvs rs
  | [],_,r=>by rw [List.map_nil] at r;cases r;exact ⟨[],True.intro, .nil⟩
  | p::kvs,_,r=>by
    rw [List.map_cons] at r
    cases r with
    | @cons a b as bs h t=>
      obtain ⟨rs,c,q⟩:=jE (P:=P) (w:=w) t
      obtain ⟨b1,b2⟩:=b
      exact ⟨(p.1,b2)::rs,⟨rH h.1,rfl,c⟩, .cons ⟨rfl,h.2⟩ q⟩
def vL (trs:List (TE×TE)):TE:=fun σ H Q=>∀p,H p=none→ls trs σ (upd H p (.dK [])) fun ps H2=>H2 p=some (.dK [])∧∃kvs:List (bZ×V),ps=kvs.map (fun kv=>(kV kv.1,kv.2))∧kvs.length≤15∧Q (.ref p) (upd H2 p (.dK (gf [] kvs)))
theorem uD {X:Cx} {pos:Pos} {keys:List (Option Expr)} {values:List Expr} {trs:List (TE×TE)} (h:yn X pos keys values trs) (hall:keys.all (·.isSome)=true) (hl:keys.length=values.length) (h0:keys≠[])
    (h15:keys.length≤15):PE X (.Dict keys values pos) (vL trs):=by
  intro pins s σ H Q I q
  have hn:=I.hok.fresh (Nat.le_refl s.heap.objs.size)
  have I1:=I.laid (a:=s.heap.objs.size) (o:= .dK []) (h':=s.heap.push {cls:= .type "dict",data:= .dict #[]}) (t':=s.toks) (fun _ _ q=>Heap.get?_push_of_some _ q) (Nat.le_refl _) (mz s.heap I.big)
  refine wpAny_Dict_walk (knd:=bV X.prog X.w) hall hl h0 h15 (ci (h pins _ σ _ _ I1 (q _ hn)) fun ws s2 ⟨ps,H2,I2,rel,e,kvs,ep,lk,q2⟩=>?_)
  subst ep
  obtain ⟨rs,c,rk⟩:=jE (P:=X.prog) (w:=X.w) rel
  obtain ⟨z,hd,vs0,r0,dd⟩:=ym I2.hok e
  cases r0
  refine ⟨rs,c,dd,fun h' dd' hs=>⟨.ref s.heap.objs.size,_,?_,rfl,q2⟩⟩
  have hz:(gf [] kvs).length≤sizeLine:=by
    have h1:=gV kvs []
    rw [List.length_nil] at h1
    rw [sizeLine_eq];omega
  have he:∃q,h'.get? s.heap.objs.size=some q:=let ⟨q,_,_,hq,_⟩:=dd';⟨q,hq⟩
  exact uB I2 (by rw [e];exact True.intro) hs he (wI hz hd (rk.merge .nil) dd')
structure M2 (X:Cx) (o:Expr) (m:Str) (apos:Pos) (e f:Expr) (cpos:Pos):Prop where
  base:attributeBase o m X.env (eval o X.env)=eval o X.env
  few:((backTo cpos (starEach [e,f] X.env)).all (fun x=> !x.1)&&(backToKw cpos (keywordEach [] X.env)).all (fun x=>x.1.isSome)
    &&decide (([e,f]:List Expr).length+([]:List Keyword).length+(if ([]:List Keyword).isEmpty then 0 else 1) < 30))=true
  line:(apos.endLine == cpos.line)=true
  trees:backTo cpos (starEach [e,f] X.env)=[(false,eval e X.env),(false,eval f X.env)]
def Ab (H:Hp) (a:Addr):Prop:=(∃kvs,Rd H a (.dK kvs))∨∃kvs,Rd H a (.dT kvs)
theorem wK {X:Cx} {pins:List (Addr×Obj)} {σ:St} {H:Hp} {s:Shared} {a:Addr} (I:Inv X pins σ H s) (d:Ab H a):
    s.TypeIs (.ref a) "dict"∧(∀b,Value.ref a= .ref b→∃ob,s.heap.get? b=some ob∧ob.dict=none)∧(a == sysModules)=false:=by
  rcases d with ⟨kvs,e⟩ | ⟨kvs,e⟩
  · obtain ⟨_,hd,vs,_,dd⟩:=oR I.hok e
    refine ⟨dd.typeIs,fun b q=>?_,hd⟩
    cases q
    obtain ⟨ob,_,_,h1,h2,_⟩:=dd
    exact ⟨ob,h1,h2.2.1⟩
  · obtain ⟨_,hd,xs,_,dd⟩:=vK I.hok e
    refine ⟨dd.typeIs,fun b q=>?_,hd⟩
    cases q
    obtain ⟨ob,_,_,h1,h2,_⟩:=dd
    exact ⟨ob,h1,h2.2.1⟩
section
variable {X:Cx} {pins:List (Addr×Obj)} {σ:St} {H:Hp} {s:Shared} {a:Addr} {y d:V} {u r:Value} {o:Option V} {A:Around} {E:Value→Shared→Prop}
theorem wL {Q:Value→Shared→Prop} (hu:A.units+1 < cLine) (I:Inv X pins σ H s) (g:DGet H a y o) (ry:RelV y u) (rd:RelV d r) (h:∀w' s',Inv X pins σ H s'→RelV (o.getD d) w'→Q w' s'):
    wpAny (model X.prog X.w) A (call (.builtin "dict.get") [.ref a,u,r]) Q E s:=by
  rcases g with ⟨kvs,k,e,ey,l⟩ | ⟨kvs,k,b,e,ey,eb,l⟩
  · subst ey
    obtain ⟨z,hd,vs,rel,dd⟩:=oR I.hok e
    refine call_meetsIn PySem.F.slot_dict_get dd.typeIs PySem.F.entry_dict_get (PySem.F.args_dict_get_3 _ _ _) (meets_dict_get_default (bV X.prog X.w) a (rH ry) hd r) ⟨_,dd.mapOf,h _ _ (I.tok _) ?_⟩
    rw [l]
    exact (rel.val k).getD rd
  · subst ey
    cases (show u=Value.ref b from ry)
    obtain ⟨z,hd,xs,rel,dd⟩:=vK I.hok e
    refine call_meetsIn PySem.F.slot_dict_get dd.typeIs PySem.F.entry_dict_get (PySem.F.args_dict_get_3 _ _ _) (meetsH_dict_get_default (tupleKind (bV X.prog X.w)) a b hd r) ⟨tupleKind_room_in1 hu,k,xs,rJ I.hok eb,dd,h _ _ (I.tok _) ?_⟩
    rw [l]
    exact (rel.val k).getD rd
end
def wM (td ty tx:TE):TE:=fun σ H Q=>td σ H fun x H1=>∃a,x= .ref a∧Ab H1 a∧ty σ H1 fun y H2=>tx σ H2 fun z H3=>∃o,DGet H3 a y o∧Q (o.getD z) H3
section
variable {X:Cx} {o e f:Expr} {apos cpos:Pos} {td ty tx:TE}
theorem rM (hu:X.A.units+1 < cLine) (ho:PE X o td) (he:PE X e ty) (hf:PE X f tx) (m:M2 X o "get" apos e f cpos):PE X (.Call (.Attribute o "get" apos) [e,f] [] cpos) (wM td ty tx):=by
  intro pins s σ H Q I h
  refine wpAny_Call_method m.base m.few m.line PySem.F.plainAttrs_dict PySem.F.slot_dict_get PySem.F.type_dict_get (ci (ho pins s σ H _ I h) fun u s1 ⟨x,H1,I1,rx,a,ex,d,q1⟩=>?_)
  subst ex
  obtain rfl:u=Value.ref a:=rx
  obtain ⟨t1,t2,_⟩:=wK I1 d
  refine ⟨t1,t2,?_⟩
  rw [m.trees]
  refine Calls.callWith_builtin rfl (Calls.evalArgs_plain (Calls.spliced_cons (ci (he pins s1 σ H1 _ I1 q1) fun iv s2 ⟨y,H2,I2,ry,q2⟩=>
    Calls.spliced_cons (ci (hf pins s2 σ H2 _ I2 q2) fun fv s3 ⟨z,H3,I3,rz,ov,g,q3⟩=>Calls.spliced_nil ?_))))
  exact wL hu I3 g ry rz fun w' s4 I4 rw'=>⟨_,H3,I4,rw',q3⟩
end
end L2
namespace PL
open PySem L2 Nh
theorem bu {X:Cx} {a b:Expr} {m1 m2:Bool} {f g:bz} {pos:Pos} (ha:EX X a m1 f) (hb:EX X b m2 g) (hs:oI b:=by exact fun _ _=>rfl):EX X (.Subscript a b pos) (m1||m2) (ah cI m2 f g):=aY (x_ wr ha hb hs) fun _ _ _ h=>li wH h
abbrev wN:=List Sl→Option (Option Int×List Sl)
def ro (K:PySem.W.Frag) (m:Bool) (f:wN):TO:=fun σ H Q=>∃B E xs Xs o E',Frm K B σ H E xs Xs∧(m=true→Calm Xs)∧f E=some (o,E')∧∀H',Frm K B σ H' E' xs Xs→Q o H'
def OX (X:Cx) (e:Option Expr) (m:Bool) (f:wN):Prop:=PO X e (ro X.K m f)
def d8:wN:=fun E=>some (none,E)
def d9 (f:bz):wN:=fun E=>(f E).bind fun a=>match look a.2 a.1 with
  | some (.int i)=>some (some i,a.2)
  | _=>none
section
variable {X:Cx} {e:Expr} {lo hi:Option Expr} {m1 m2 m3:Bool} {f:bz} {g h:wN} {pos p2:Pos} {K:PySem.W.Frag}
theorem rN {e:Option Expr} {t t':TO} (h:PO X e t) (k:∀σ H Q,t' σ H Q→t σ H Q):PO X e t':=fun pins s σ H Q I q=>h pins s σ H Q I (k σ H Q q)
theorem jf:OX X none false d8:=rN t6 fun σ H Q z=>by
  obtain ⟨B,E,xs,Xs,res,E',fr,cl,e,q⟩:=z
  cases e
  exact q _ fr
theorem jg (he:EX X e m1 f):OX X (some e) m1 (d9 f):=rN (t7 he) fun σ H Q z=>by
  obtain ⟨B,E,xs,Xs,res,E',fr,cl,e,q⟩:=z
  obtain ⟨⟨s,E1⟩,e1,e⟩:=Option.bind_eq_some_iff.mp e
  refine ⟨B,E,xs,Xs,s,E1,fr,cl,e1,fun v1 H1 ⟨F,A,fr1⟩=>?_⟩
  simp only at e
  split at e
  · rename_i i l
    cases e
    have r:=(fr1.look0 l).1
    cases r
    obtain ⟨A',fr2⟩:=fr1.pop
    exact ⟨i,rfl,q _ ⟨F,A',fr2⟩⟩
  · cases e
theorem RpA.cut {F:Hp} {vs:List V} {ds:List PyData} (h:RpA K F vs ds) (lo hi:Option Int):RpA K F (pM vs lo hi) (dN ds lo hi):=by
  unfold pM dN
  rw [h.len]
  exact (h.drop _).take _
end
def az (E:List Sl):List Sl→Option (List PyData)
  | []=>some []
  | s::ss=>(look E s).bind fun d=>(az E ss).map fun ds=>d::ds
theorem lookA_iff {E:List Sl}:∀{ss:List Sl} {ds:List PyData},az E ss=some ds↔Paired (fun s d=>look E s=some d) ss ds
  | [],ds=>⟨fun h=>by cases h;exact .nil,fun h=>by cases h;rfl⟩
  | s::ss,ds=>by
    constructor
    · intro h
      obtain ⟨d,h1,h⟩:=Option.bind_eq_some_iff.mp h
      obtain ⟨es,h2,h⟩:=Option.map_eq_some_iff.mp h
      cases h
      exact .cons h1 (lookA_iff.mp h2)
    · intro h
      cases h with
      | cons h1 h2=>simp [az,h1,lookA_iff.mpr h2]
theorem pR {E:List Sl} {ss:List Sl} {ds:List PyData} (h:az E ss=some ds):az E ss.reverse=some ds.reverse:=lookA_iff.mpr (g6 (lookA_iff.mp h))
section
variable {X:Cx} {K:PySem.W.Frag} {B F:Hp} {σ:iX} {H:Hp} {E:List Sl} {xs:List V} {Xs:List Sl}
theorem FrF.looksR:∀{us:List V} {ts:List Sl} {es:List PyData} {A:List Addr},us.length=ts.length→FrF K B F A σ H E (us++xs) (ts++Xs)→az E ts=some es→RpA K H us es∧∃A',FrF K B F A' σ H E xs Xs
  | [],[],es,A,_,h,e=>by cases e;exact ⟨.nil,A,h⟩
  | u::us,t::ts,es,A,hl,h,e=>by
    obtain ⟨d,h1,e⟩:=Option.bind_eq_some_iff.mp e
    obtain ⟨es',h2,e⟩:=Option.map_eq_some_iff.mp e
    cases e
    have r:=(FrF.look0 (xs:=us++xs) (Xs:=ts++Xs) h h1).1
    obtain ⟨A',h'⟩:=FrF.pop (xs:=us++xs) (Xs:=ts++Xs) h
    obtain ⟨r',q⟩:=FrF.looksR (by simpa using hl) h' h2
    exact ⟨.cons r r',q⟩
  | [],_::_,_,_,e,_,_=>by cases e
  | _::_,[],_,_,e,_,_=>by cases e
theorem FrF.looks {us:List V} {ts:List Sl} {es:List PyData} {A:List Addr} (hl:us.length=ts.length) (h:FrF K B F A σ H E (us.reverse++xs) (ts.reverse++Xs)) (e:az E ts=some es):RpA K H us es∧∃A',FrF K B F A' σ H E xs Xs:=by
  obtain ⟨r,q⟩:=FrF.looksR (by simpa using hl) h (pR e)
  have:=r.rev
  rw [List.reverse_reverse,List.reverse_reverse] at this
  exact ⟨this,q⟩
end
def uE (K:PySem.W.Frag) (r:List V→Hp→VK→Prop) (op:List PyData→Option PyData):Prop:=∀(ds:List PyData) (d:PyData) (vs:List V) (H:Hp) (Q:VK),op ds=some d→RpA K H vs ds→∃v,vB d=some v∧(Q v H→r vs H Q)
def bY (op:List PyData→Option PyData) (g:ix):bz:=fun E=>(g E).bind fun a=>(az a.2 a.1).bind fun ds=>(op ds).map fun d=>(.sh d,a.2)
theorem wO {K:PySem.W.Frag} {r:List V→Hp→VK→Prop} {op:List PyData→Option PyData} (hp:uE K r op) {m:Bool} {g:ix} {σ:iX} {H:Hp} {Q:VK} (h:rd K m (bY op g) σ H Q):zk r (ra K m g) σ H Q:=by
  obtain ⟨B,E,xs,Xs,res,E',fr,cl,e,q⟩:=h
  obtain ⟨⟨rs,E1⟩,e1,e⟩:=Option.bind_eq_some_iff.mp e
  obtain ⟨ds,e2,e⟩:=Option.bind_eq_some_iff.mp e
  obtain ⟨d,e3,e⟩:=Option.map_eq_some_iff.mp e
  cases e
  refine ⟨B,E,xs,Xs,rs,E1,fr,cl,e1,fun vs H1 hl ⟨F,A,fr1⟩=>?_⟩
  obtain ⟨r1,A',fr2⟩:=fr1.looks hl e2
  obtain ⟨v,hv,k⟩:=hp ds d vs H1 Q e3 r1
  exact k (q v H1 ⟨F,A',fr2.push ⟨rfl,v,rfl,jA hv⟩⟩)
def dt:List PyData→Option PyData
  | [.list xs]=>some (.int xs.length)
  | [.tuple xs]=>some (.int xs.length)
  | [.str z]=>if z.length≤1000000 then some (.int z.length) else none
  | _=>none
def iB:List PyData→Option PyData
  | [.int i]=>some (.int (if i < 0 then -i else i))
  | _=>none
theorem RpA.one {K:PySem.W.Frag} {H:Hp} {vs:List V} {d:PyData} (h:RpA K H vs [d]):∃v,vs=[v]∧Rp K H v d:=by
  cases h with
  | cons h t=>cases t;exact ⟨_,rfl,h⟩
theorem RpA.two {K:PySem.W.Frag} {H:Hp} {vs:List V} {d e:PyData} (h:RpA K H vs [d,e]):∃v u,vs=[v,u]∧Rp K H v d∧Rp K H u e:=by
  cases h with
  | cons h t=>
    obtain ⟨u,rfl,r⟩:=t.one
    exact ⟨_,_,rfl,h,r⟩
section
variable {X:Cx} {e:Expr} {es:List Expr} {m1:Bool} {g:ix} {p pos:Pos} {K:PySem.W.Frag}
abbrev yo (K:PySem.W.Frag):List V→Hp→VK→Prop:=fun xs H Q=>(∃p ys,xs=[.ref p]∧(SqL K H p ys∨SqT K H p ys)∧Q (.int ys.length) H)∨(∃z,xs=[.str z]∧z.length≤sizeLine∧Q (.int z.length) H)
theorem uF:uE K (yo K) dt:=fun ds d vs H Q e r=>by
  unfold dt at e
  split at e
  · cases e
    obtain ⟨v,rfl,r'⟩:=r.one
    cases r' with
    | lst h1 h2=>exact ⟨_,rfl,fun q=> .inl ⟨_,_,rfl, .inl h1,by rw [h2.len];exact q⟩⟩
  · cases e
    obtain ⟨v,rfl,r'⟩:=r.one
    cases r' with
    | tup h1 h2=>exact ⟨_,rfl,fun q=> .inl ⟨_,_,rfl, .inr h1,by rw [h2.len];exact q⟩⟩
  · split at e
    · rename_i hl
      cases e
      obtain ⟨v,rfl,r'⟩:=r.one
      cases r'
      exact ⟨_,rfl,fun q=> .inr ⟨_,rfl,eD hl,q⟩⟩
    · cases e
  · cases e
theorem jF {x:Str} {id:String} {r:List V→Hp→VK→Prop} {op:List PyData→Option PyData} (hp:uE X.K r op) (hc:CallR X (.builtin id) r) (hg:Gl X x) (hm:X.mg x=none) (hv:bootBuiltins x=some (.builtin id)) (ha:AX X (e::es) m1 g) (hn:x≠"__name__":=by decide) (hdb:(x == ("__debug__":Str))=false:=by decide)
    (he:starEach (e::es) X.env=(false,eval e X.env)::starEach es X.env:=by rfl) (hpl:(backTo pos (starEach es X.env)).any (·.1)=false:=by rfl):EX X (.Call (.Name x p) (e::es) [] pos) m1 (bY op g):=
  aY (jx hc hg hm hv ha hn hdb he hpl) fun _ _ _ h=>wO hp h
theorem eV (hg:Gl X "len") (hm:X.mg "len"=none) (ha:AX X [e] m1 g) (he:starEach [e] X.env=[(false,eval e X.env)]:=by rfl):EX X (.Call (.Name "len" p) [e] [] pos) m1 (bY dt g):=jF uF (CallR.or kX kY) hg hm PySem.boot_len ha (by decide) (by decide) he rfl
theorem lv (hg:Gl X "abs") (hm:X.mg "abs"=none) (ha:AX X [e] m1 g) (he:starEach [e] X.env=[(false,eval e X.env)]:=by rfl):EX X (.Call (.Name "abs" p) [e] [] pos) m1 (bY iB g):=jF (fun ds d vs H Q e r=>by
  unfold iB at e
  split at e
  · cases e
    obtain ⟨v,rfl,r'⟩:=r.one
    cases r'
    exact ⟨_,rfl,fun q=>⟨_,rfl,q⟩⟩
  · cases e) qP hg hm PyProof.Rows.boot_abs ha (by decide) (by decide) he rfl
end
def gh (g:bz):bz:=fun E=>(g E).bind fun a=>match look a.2 a.1 with
  | some (.list ds)=>if !d5 a.2 a.1||bx ds then some (.ow ds,a.2) else none
  | some (.tuple ds)=>if !d5 a.2 a.1||bx ds then some (.ow ds,a.2) else none
  | _=>none
section
variable {X:Cx} {e:Expr} {m1:Bool} {f:bz} {p pos:Pos} {K:PySem.W.Frag}
theorem oS (hg:Gl X "list") (hm:X.mg "list"=none) (ha:EX X e m1 f) (he:starEach [e] X.env=[(false,eval e X.env)]:=by rfl):EX X (.Call (.Name "list" p) [e] [] pos) m1 (gh f):=by
  refine aY (kx kZ hg hm PyProof.Rows.boot_list (cX ha fj he) (by decide) (by decide) he rfl) fun σ H Q z=>?_
  obtain ⟨B,E,xs,Xs,res,E',fr,cl,e,q⟩:=z
  obtain ⟨⟨s,E1⟩,e1,e⟩:=Option.bind_eq_some_iff.mp e
  refine ⟨B,E,xs,Xs,s,E1,fr,cl,e1,fun v1 H1 ⟨F,A,fr1⟩=>?_⟩
  obtain ⟨A',fr2⟩:=fr1.pop
  simp only at e
  split at e
  · rename_i ds ld
    split at e
    · rename_i hc
      cases e
      obtain ⟨a,vs,ev,h1,h2⟩:=fr1.items (k:=0) rfl ld hc
      cases ev
      exact ⟨a,vs,rfl, .inl h1,fun l hl=>q _ _ ⟨F,_,fr2.newl h2 hl⟩⟩
    · cases e
  · rename_i ds ld
    split at e
    · rename_i hc
      cases e
      obtain ⟨r,f0⟩:=fr1.look0 ld
      cases hh:d5 E' s with
      | false=>
        have h0:Rp X.K F v1 _:=f0 hh
        cases h0 with
        | tup h1 h2=>exact ⟨_,_,rfl, .inr (fr1.fh.tup h1),fun l hl=>q _ _ ⟨F,_,fr2.newl h2 hl⟩⟩
      | true=>
        rw [hh] at hc
        cases r with
        | tup h1 h2=>exact ⟨_,_,rfl, .inr h1,fun l hl=>q _ _ ⟨F,_,fr2.newl (fr1.coldA h2 (by simpa using hc)) hl⟩⟩
    · cases e
  · cases e
end
inductive Ty where
  | non | bool | int | str | list | tuple | dict
def Ty.name:Ty→String
  | .non=>"NoneType"
  | .bool=>"bool"
  | .int=>"int"
  | .str=>"str"
  | .list=>"list"
  | .tuple=>"tuple"
  | .dict=>"dict"
def Ty.is:Ty→Ty→Bool
  | .non, .non=>true
  | .bool, .bool=>true
  | .bool, .int=>true
  | .int, .int=>true
  | .str, .str=>true
  | .list, .list=>true
  | .tuple, .tuple=>true
  | .dict, .dict=>true
  | _,_=>false
def tK:PyData→Ty
  | .none=> .non
  | .bool _=> .bool
  | .int _=> .int
  | .str _=> .str
  | .list _=> .list
  | .tuple _=> .tuple
  | .dict _=> .dict
theorem yp (K:PySem.W.Frag) (t n:Ty):PySem.W.kitOne K (.type t.name) (.type n.name)=some (t.is n):=by cases t <;> cases n <;> rfl
def eW (n:Ty):PyData→Option PyData
  | .dict ((.none,_)::_)=>none
  | d=>some (.bool ((tK d).is n))
section
variable {X:Cx} {e:Expr} {m1:Bool} {f:bz} {p p2 pos:Pos}
theorem pS {pins:List (Addr×Obj)} {s:Shared} {σ:iX} {H:Hp} {x:V} {u:Value} {d r:PyData} {n:Ty} {A:Around} {E:Value→Shared→Prop} {Q:Value→Shared→Prop} (I:Inv X pins σ H s) (rx:RelV x u) (rp:Rp X.K H x d) (hd:eW n d=some r) (h:∀tk b,r= .bool b→Q (.bool b) {s with toks:=tk}):
    wpAny (model X.prog X.w) A (call (.builtin "isinstance") [u, .type n.name]) Q E s:=by
  have e:=yp X.K (tK d) n
  have h:∀tk,r= .bool ((tK d).is n)→Q (.bool ((tK d).is n)) {s with toks:=tk}:=fun tk z=>h tk _ z
  cases rp with
  | non=>cases hd;exact gE I rx .non e fun tk=>h tk rfl
  | bl b=>cases hd;exact gE I rx (.bl b) e fun tk=>h tk rfl
  | int i=>cases hd;exact gE I rx (.int i) e fun tk=>h tk rfl
  | str y=>cases hd;exact gE I rx (.str y) e fun tk=>h tk rfl
  | lst h1 _=>
    cases hd
    cases rx
    obtain ⟨its,rv,⟨o,n',e1,c,_,d⟩,_⟩:=I.list h1
    exact PySem.W.kia_one PySem.W.kitx_list I.kIn ⟨_,e1,c⟩ e (fun z=>nomatch z) fun tk=>h tk rfl
  | tup h1 _=>
    cases hd
    cases rx
    obtain ⟨its,rv,⟨o,e1,c,n',d⟩,_⟩:=I.tuple h1
    exact PySem.W.kia_one PySem.W.kitx_tuple I.kIn ⟨_,e1,c⟩ e (fun z=>nomatch z) fun tk=>h tk rfl
  | dct h1 hk=>
    cases rx
    obtain ⟨_,_,vs,_,ob,es,ep,e1,c,_⟩:=oR I.hok h1
    refine PySem.W.kia_one PySem.W.kitx_dict I.kIn ⟨_,e1,c.1⟩ e (fun z=>nomatch z) fun tk=>h tk ?_
    cases hk with
    | nil=>cases hd;rfl
    | @cons k x us d kvs a b=>cases k <;> (cases hd;rfl)
  | exc h1 h2=>cases hd
theorem pT (n:Ty):CallR X (.builtin "isinstance") (fun xs H Q=>∃x d r,xs=[x, .ty n.name]∧Rp X.K H x d∧eW n d=some r∧∀b,r= .bool b→Q (.bl b) H):=by
  intro pins s σ H xs us Q I r h
  obtain ⟨x,d,r',rfl,rp,hd,q⟩:=h
  obtain ⟨u,w',rfl,ru,rw'⟩:=r.two
  cases (show w'=Value.type n.name from rw')
  exact pS I ru rp hd fun tk b z=>⟨.bl _,H,I.tok _,rfl,q b z⟩
theorem g8 (n:Ty) (hg:Gl X "isinstance") (hm:X.mg "isinstance"=none) (ha:EX X e m1 f) {x:Str} (hgx:Gl X x) (hmx:X.mg x=none) (hbx:bootBuiltins x=some (.type n.name)) (hnx:x≠"__name__":=by decide) (hdx:(x == ("__debug__":Str))=false:=by decide)
    (he:starEach [e, .Name x p2] X.env=(false,eval e X.env)::starEach [.Name x p2] X.env:=by rfl) (he2:starEach [.Name x p2] X.env=[(false,eval (.Name x p2) X.env)]:=by rfl) (hpl:(backTo pos (starEach [.Name x p2] X.env)).any (·.1)=false:=by rfl):
    EX X (.Call (.Name "isinstance" p) [e, .Name x p2] [] pos) m1 (dH (eW n) f):=by
  have h2:PE X (.Name x p2) (tC (.ty n.name)):=oC (v:= .ty n.name) hgx hmx hbx rfl hnx hdx
  refine aY (jx (pT n) hg hm PyProof.Rows.boot_isinstance (cX ha (cX h2 fj he2) he) (by decide) (by decide) he hpl) fun σ H Q z=>?_
  obtain ⟨B,E,xs,Xs,res,E',fr,cl,e,q⟩:=z
  obtain ⟨⟨s,E1⟩,e1,e⟩:=Option.bind_eq_some_iff.mp e
  obtain ⟨d1,e2,e⟩:=Option.bind_eq_some_iff.mp e
  obtain ⟨d2,e3,e⟩:=Option.map_eq_some_iff.mp e
  cases e
  refine ⟨B,E,xs,Xs,s,E1,fr,cl,e1,fun v1 H1 ⟨F,A,fr1⟩=>?_⟩
  obtain ⟨A',fr2⟩:=fr1.pop
  exact ⟨v1,d1,d2,rfl,(fr1.look0 e2).1,e3,fun b z=>q _ _ ⟨F,A',fr2.push ⟨rfl,_,rfl,z▸ .bl b⟩⟩⟩
end
end PL
namespace PL
open PySem L2 Nh
def kC (K:PySem.W.Frag) (H H':Hp) (v:V):Sl→Prop
  | .sh d=>Rp K (tups H') v d
  | .ow ds=>∃l vs,v= .ref l∧H l=none∧H' l=some (.lst vs)∧RpA K (tups H') vs ds
  | .tx ps=>∃t vs A,v= .ref t∧tups H' t=some (.tup vs)∧A.Nodup∧(∀a∈A,H a=none)∧PtsOk K (tups H') H' vs ps A
  | .od kvs=>∃l us A,v= .ref l∧(l::A).Nodup∧(∀a∈l::A,H a=none)∧H' l=some (.dK us)∧DlOk K (tups H') H' us kvs A
  | .br d=>Rp K H' v d
  | _=>False
def cV (K:PySem.W.Frag) (c:List PyData→Option Sl):Sp:=fun vs H Q _=>∃ds r,c ds=some r∧RpA K H vs ds∧∀v H',Same H H'→kC K H H' v r→Q v H'
section
variable {K:PySem.W.Frag} {B F:Hp} {A N:List Addr} {σ:iX} {H H':Hp} {E:List Sl} {xs:List V} {Xs:List Sl} {v:V} {s:Sl}
theorem FrF.growN (h:FrF K B F A σ H E xs Xs) (g:Same H H') (hN:∀a∈N,H a=none∧((∃us,H' a=some (.lst us))∨∃us,H' a=some (.dK us))):FrF K B (fun b=>if b∈N then none else if b∈A then none else H' b) A σ H' E xs Xs:=by
  have h1:=h.grow g
  have nF:∀b o,F b=some o→b∉N:=fun b o e hb=>by
    have:=h.fh.free (hN b hb).1
    rw [this] at e;cases e
  have FF:Same F (fun b=>if b∈N then none else if b∈A then none else H' b):=fun b o e=>by
    have nA:b∉A:=fun hb=>by rw [h.fr b hb] at e;cases e
    show (if b∈N then none else if b∈A then none else H' b)=some o
    rw [if_neg (nF b o e),if_neg nA]
    exact g _ _ (h.fh _ _ e)
  have hA:∀b∈A,H' b=H b:=fun b hb=>by
    rcases h.mutA b hb with ⟨_,z⟩ | ⟨_,z⟩ <;> rw [z,g _ _ z]
  refine ⟨h.bf.trans FF,fun b o e=>?_,fun b o e=>?_,h.sl.mono fun o s C _ hC q=>q.stay FF (fun b hb=>hA b (hC b hb)) fun _=>g,h.nd,fun a ha=>?_,h.len,h.pl⟩
  · by_cases hb:b∈N
    · rw [if_pos hb] at e;cases e
    · rw [if_neg hb] at e;exact h1.fh _ _ e
  · show (if b∈N then none else if b∈A then none else H' b)=some o
    by_cases hb:b∈N
    · obtain ⟨e1,e2⟩:=Option.filter_eq_some_iff.mp e
      rcases (hN b hb).2 with ⟨us,z⟩ | ⟨us,z⟩ <;> rw [z] at e1 <;> cases e1 <;> cases e2
    · rw [if_neg hb];exact h1.tf _ _ e
  · show (if a∈N then none else if a∈A then none else H' a)=none
    by_cases hb:a∈N
    · rw [if_pos hb]
    · rw [if_neg hb,if_pos ha]
theorem FrF.pushR (h:FrF K B F A σ H E xs Xs) (q:SlOk K F H σ (some v) s N) (nd:N.Nodup) (dj:∀a∈N,a∉A) (fr:∀a∈N,F a=none):FrF K B F (N++A) σ H E (v::xs) (s::Xs):=
  ⟨h.bf,h.fh,h.tf, .cons q h.sl,List.nodup_append.mpr ⟨nd,h.nd,fun a ha b hb e=>dj a ha (e▸hb)⟩,fun a ha=>(List.mem_append.mp ha).elim (fr a) (h.fr a),by simp [h.len],h.pl⟩
theorem FrF.told (h:FrF K B F A σ H E xs Xs) (g:Same H H') (q:kC K H H' v s):Frm K B σ H' E (v::xs) (s::Xs):=by
  cases s with
  | sh d=>
    have h1:=h.grow g
    exact ⟨_,_,h1.push ⟨rfl,v,rfl,Rp.same h1.tf q⟩⟩
  | ow ds=>
    obtain ⟨l,vs,rfl,hl,hl',r⟩:=q
    have h1:=h.growN (N:=[l]) g fun a ha=>by rw [List.mem_singleton.mp ha];exact ⟨hl, .inl ⟨vs,hl'⟩⟩
    exact ⟨_,_,h1.pushR (N:=[l]) ⟨l,vs,rfl,rfl,hl',r.same h1.tf⟩ (by simp) (fun a ha=>by rw [List.mem_singleton.mp ha];exact h.newA hl) fun a ha=>if_pos ha⟩
  | tx ps=>
    obtain ⟨t,vs,N,rfl,ht,nd,hN,r⟩:=q
    have h1:=h.growN (N:=N) g fun a ha=>⟨hN a ha, .inl (r.some a ha)⟩
    exact ⟨_,_,h1.pushR (N:=N) ⟨t,vs,rfl,h1.tf _ _ ht,r.stay h1.tf fun _ _=>rfl⟩ nd (fun a ha=>h.newA (hN a ha)) fun a ha=>if_pos ha⟩
  | no=>exact False.elim q
  | od kvs=>
    obtain ⟨l,us,N,rfl,nd,hN,hl,r⟩:=q
    have h1:=h.growN (N:=l::N) g fun a ha=>⟨hN a ha,(List.mem_cons.mp ha).elim (fun z=> .inr ⟨us,z▸hl⟩) fun z=> .inl (r.some a z)⟩
    exact ⟨_,_,h1.pushR (N:=l::N) ⟨l,us,N,rfl,rfl,hl,r.stay h1.tf fun _ _=>rfl⟩ nd (fun a ha=>h.newA (hN a ha)) fun a ha=>if_pos ha⟩
  | al i=>exact False.elim q
  | br d=>
    have h1:=h.grow g
    exact ⟨_,_,h1.push ⟨rfl,v,rfl,q⟩⟩
end
def ao (c:List PyData→Option Sl) (g:ix):bz:=fun E=>(g E).bind fun a=>(az a.2 a.1).bind fun ds=>(c ds).map fun r=>(r,a.2)
theorem aX {X:Cx} {k:Nat} {x:Str} {ps:List Str} {c:List PyData→Option Sl} {p pos:Pos} {e:Expr} {es:List Expr} {m:Bool} {g:ix} (D:Own X.prog X.w X.K X.mg X.base k x ps (cV X.K c)) (hr:Room k X.A) (hg:Gl X x) (ha:AX X (e::es) m g)
    (hdb:(x == ("__debug__":Str))=false:=by decide) (he:starEach (e::es) X.env=(false,eval e X.env)::starEach es X.env:=by rfl) (hpl:(backTo pos (starEach es X.env)).any (·.1)=false:=by rfl):
    EX X (.Call (.Name x p) (e::es) [] pos) m (ao c g):=by
  refine aY (q5 D hr hg ha hdb he hpl) fun σ H Q z=>?_
  obtain ⟨B,E,xs,Xs,res,E',fr,cl,e,q⟩:=z
  obtain ⟨⟨rs,E1⟩,e1,e⟩:=Option.bind_eq_some_iff.mp e
  obtain ⟨ds,e2,e⟩:=Option.bind_eq_some_iff.mp e
  obtain ⟨r,e3,e⟩:=Option.map_eq_some_iff.mp e
  cases e
  refine ⟨B,E,xs,Xs,rs,E1,fr,cl,e1,fun vs H1 hl ⟨F,A,fr1⟩=>?_⟩
  obtain ⟨r1,A',fr2⟩:=fr1.looks hl e2
  exact ⟨ds,res,e3,by rw [List.append_nil];exact r1,fun v H' g q'=>q v H' (fr2.told g q')⟩
def cY (i:Nat) (f:bz):bz:=fun E=>match E[i]? with
  | some (.ow _)=>(f E).bind fun a=>(frz a.2 a.1).bind fun b=>match b.2[i]? with
    | some (.ow ds)=>if ds.length < 1000000 then some (.sh .none,b.2.set i (.ow (ds++[b.1]))) else none
    | _=>none
  | _=>none
def lw (i:Nat):bz:=fun E=>match E[i]? with
  | some (.ow ds)=>(ds[ds.length - 1]?).map fun d=>(.sh d,E.set i (.ow ds.dropLast))
  | _=>none
section
variable {X:Cx} {e:Expr} {m1:Bool} {f:bz} {x:Str} {p apos cpos:Pos}
theorem kD (i:Nat) (he:EX X e m1 f) (hN:X.N[i]? =some x:=by rfl) (hv:vW X.env.scope x:=by first | exact Or.inl rfl | exact Or.inr (Or.inl rfl) | exact Or.inr (Or.inr rfl)) (hd:(x == ("__debug__":Str))=false:=by decide) (hcd:(x == ("__classdict__":Str))=false:=by decide)
    (hs:starEach [e] X.env=[(false,eval e X.env)]:=by rfl) (hbase:attributeBase (.Name x p) "append" X.env (eval (.Name x p) X.env)=eval (.Name x p) X.env:=by rfl)
    (hfew:((backTo cpos (starEach [e] X.env)).all (fun x=> !x.1)&&(backToKw cpos (keywordEach [] X.env)).all (fun x=>x.1.isSome)
      &&decide (([e]:List Expr).length+([]:List Keyword).length+(if ([]:List Keyword).isEmpty then 0 else 1) < 30))=true:=by rfl) (hline:(apos.endLine == cpos.line)=true:=by rfl):
    EX X (.Call (.Attribute (.Name x p) "append" apos) [e] [] cpos) true (cY i f):=by
  refine aY (vz PySem.F.plainAttrs_list PySem.F.slot_list_append PySem.F.type_list_append iu (ju hN hv hd hcd) (cX he fj hs) hbase hfew hline hs rfl) fun σ H Q z=>?_
  obtain ⟨B,E,xs,Xs,res,E',⟨F,A,fr⟩,cl,e,q⟩:=z
  unfold cY at e
  split at e
  · rename_i ds0 ei
    obtain ⟨⟨s,E1⟩,e1,e⟩:=Option.bind_eq_some_iff.mp e
    obtain ⟨⟨d,E2⟩,e2,e⟩:=Option.bind_eq_some_iff.mp e
    simp only at e
    split at e
    · rename_i ds ei2
      split at e
      · rename_i hl
        cases e
        obtain ⟨o,A1,eo,l,vs,rfl,rfl,hl0,_⟩:=fr.var ei
        refine ⟨_,eo, .inl ⟨rfl,_,SqL.of hl0⟩,B,E,xs,Xs,s,E1,⟨F,A,fr⟩,fun _=>cl rfl,e1,fun v H1 ⟨F1,A1,fr1⟩=>?_⟩
        obtain ⟨F2,A2,fr2⟩:=fr1.frz0 e2
        obtain ⟨v',A3,ev,rfl,w,ew,rv⟩:=fr2.ext (k:=0) rfl
        cases ev;cases ew
        obtain ⟨A4,fr3⟩:=fr2.pop
        obtain ⟨l',vs',eo',hl',r',put⟩:=fr3.mut ei2 (cl rfl)
        rw [eo] at eo'
        cases eo'
        have ll:=r'.len
        have fr4:=put (vs'++[v]) (ds++[d]) (r'.snoc rv)
        exact ⟨l,vs',v,rfl,rfl,hl',rh (by omega),q _ _ ⟨_,_,fr4.push ⟨rfl,_,rfl, .non⟩⟩⟩
      · cases e
    · cases e
  · cases e
theorem wP (i:Nat) (hN:X.N[i]? =some x:=by rfl) (hv:vW X.env.scope x:=by first | exact Or.inl rfl | exact Or.inr (Or.inl rfl) | exact Or.inr (Or.inr rfl)) (hd:(x == ("__debug__":Str))=false:=by decide) (hcd:(x == ("__classdict__":Str))=false:=by decide)
    (hbase:attributeBase (.Name x p) "pop" X.env (eval (.Name x p) X.env)=eval (.Name x p) X.env:=by rfl) (hline:(apos.endLine == cpos.line)=true:=by rfl):
    EX X (.Call (.Attribute (.Name x p) "pop" apos) [] [] cpos) true (lw i):=by
  refine aY (wt PySem.F.plainAttrs_list PySem.F.slot_list_pop PySem.F.type_list_pop wu (ju hN hv hd hcd) hbase hline) fun σ H Q z=>?_
  obtain ⟨B,E,xs,Xs,res,E',⟨F,A,fr⟩,cl,e,q⟩:=z
  unfold lw at e
  split at e
  · rename_i ds ei
    obtain ⟨d,ed,e⟩:=Option.map_eq_some_iff.mp e
    cases e
    obtain ⟨l,vs,eo,hl,r,put⟩:=fr.mut ei (cl rfl)
    obtain ⟨y,ey,ry⟩:=r.get ed
    have fr2:=put vs.dropLast ds.dropLast r.dropLast
    exact ⟨_,eo, .inl ⟨rfl,_,SqL.of hl⟩,l,vs,y,rfl,rfl,hl,by rw [r.len];exact ey,q _ _ ⟨_,_,fr2.push ⟨rfl,_,rfl,ry⟩⟩⟩
  · cases e
end
def jG (s:Sl):Sl:=match s.val with
  | some d=> .sh d
  | none=> .no
def frzAll (E:List Sl):List Sl:=E.map jG
def settle (E:List Sl):Sl→Option (Sl×List Sl)
  | .al i=>(frz E (.al i)).map fun a=>(.sh a.1,a.2)
  | .br d=>if bW d then some (.sh d,E) else some (.sh d,frzAll E)
  | s=>some (s,E)
def aP (g h:cJ):cJ:=fun E=>(g E).bind fun a=>match a.2 with
  | .nx=>h a.1
  | fl=>some (a.1,fl)
def aQ:cJ:=fun E=>some (E, .nx)
def dJ (f:bz):cJ:=fun E=>(f E).map fun a=>(a.2, .nx)
def aV (f:bz):cJ:=fun E=>(f E).bind fun a=>match a.1 with
  | .al i=>(a.2[i]?).map fun s=>(a.2.set i .no, .rt s)
  | s=>some (a.2, .rt s)
def bn (c:iw) (g h:cJ):cJ:=fun E=>(c E).bind fun a=>if a.1 then g a.2 else h a.2
def bc (i:Nat) (f:bz):cJ:=fun E=>(f E).bind fun a=>(settle a.2 a.1).bind fun b=>if i < b.2.length then some (b.2.set i b.1, .nx) else none
section
variable {K:PySem.W.Frag} {B F:Hp} {A:List Addr} {σ:iX} {H:Hp} {E E':List Sl} {xs:List V} {Xs:List Sl} {v:V} {s s':Sl} {d:PyData}
theorem FrF.frzAll (h:FrF K B F A σ H E xs Xs) (hX:Xs=[]):FrF K B H [] σ H (PL.frzAll E) [] []:=by
  subst hX
  have hx:xs=[]:=by simpa using h.len
  subst hx
  refine ⟨h.bf.trans h.fh,Same.refl _,gH H,?_,List.nodup_nil,fun a ha=>(by cases ha),rfl,fun s hs=>?_⟩
  · have key:∀{os:List (Option V)} {ss:List Sl} {C:List Addr},SAll (SlOk K F H σ) os ss C→SAll (SlOk K H H σ) os (PL.frzAll ss) []:=fun {os ss C} r=>by
      induction r with
      | nil=>exact .nil
      | cons q _ ih=>
        refine .cons (A:=[]) ?_ ih
        unfold jG
        split
        · rename_i d e
          obtain ⟨v,rfl,r,_⟩:=q.val h.fh e
          exact ⟨rfl,v,rfl,r⟩
        · exact rfl
    exact key h.sl
  · obtain ⟨t,_,rfl⟩:=List.mem_map.mp hs
    unfold jG
    split <;> rfl
theorem FrF.settle (h:FrF K B F A σ H E (v::xs) (s::Xs)) (hX:Xs=[]) (q:PL.settle E s=some (s',E')):s'.isAl=false∧Frm K B σ H E' (v::xs) (s'::Xs):=by
  cases s with
  | al i=>
    obtain ⟨⟨d,E2⟩,e,z⟩:=Option.map_eq_some_iff.mp (show (frz E (.al i)).map (fun a=>(Sl.sh a.1,a.2))=some (s',E') from q)
    cases z
    obtain ⟨F',A',h'⟩:=h.frz0 e
    exact ⟨rfl,F',A',h'⟩
  | br d=>
    have r:=(h.look0 (d:=d) rfl).1
    obtain ⟨A',h'⟩:=h.pop
    simp only [PL.settle] at q
    split at q
    · rename_i hf
      cases q
      exact ⟨rfl,F,A',h'.push ⟨rfl,v,rfl,h.cold r hf⟩⟩
    · cases q
      have h2:=h'.frzAll hX
      have hl:=h'.len
      subst hX
      have hx:xs=[]:=by simpa using hl
      subst hx
      exact ⟨rfl,H,[],h2.push ⟨rfl,v,rfl,r⟩⟩
  | no=>cases q;exact ⟨rfl,F,A,h⟩
  | sh d=>cases q;exact ⟨rfl,F,A,h⟩
  | ow ds=>cases q;exact ⟨rfl,F,A,h⟩
  | od kvs=>cases q;exact ⟨rfl,F,A,h⟩
  | tx ps=>cases q;exact ⟨rfl,F,A,h⟩
theorem FrF.move {i:Nat} (h:FrF K B F A σ H E (v::xs) (.al i::Xs)) (e:E[i]? =some s):Frm K B σ H (E.set i .no) (v::xs) (s::Xs):=by
  obtain ⟨v',A1,ev,rfl,w,ew,hw⟩:=h.ext (k:=0) rfl
  cases ev;cases ew
  obtain ⟨A',h'⟩:=h.pop
  obtain ⟨o,A0,A1,A2,eA,eo,hp,put⟩:=h'.sl.at (k:=Xs.length+i) (s:=s) (by rw [List.getElem?_append_right (by omega)];simpa using e)
  have z:=put (SlOk K F H σ) o .no [] rfl fun _ _ _ _ _ q=>q
  have e3:(Xs++E).set (Xs.length+i) .no=Xs++E.set i .no:=by
    rw [List.set_append_right _ _ (by omega),Nat.add_sub_cancel_left]
  have e2:(List.map some xs++σ).set (Xs.length+i) o=List.map some xs++σ:=List.ext_getElem? fun j=>by
    by_cases hj:Xs.length+i=j
    · subst hj
      rw [List.getElem?_set_self',eo];rfl
    · rw [List.getElem?_set_ne hj]
  rw [e2,e3] at z
  rw [List.getElem?_append_right (by rw [List.length_map,h'.len];omega),List.length_map,h'.len,Nat.add_sub_cancel_left,hw] at eo
  cases eo
  have nd:=h'.nd
  rw [eA] at nd
  refine ⟨F,A1++(A0++([]++A2)),h.bf,h.fh,h.tf, .cons hp z,?_,fun a ha=>h'.fr a ?_,h.len,fun s' hs=>?_⟩
  · have p:(A1++(A0++([]++A2))).Perm (A0++(A1++A2)):=by
      rw [List.nil_append,←List.append_assoc,←List.append_assoc]
      exact List.Perm.append_right _ List.perm_append_comm
    exact p.nodup_iff.mpr nd
  · rw [eA]
    simp only [List.mem_append,List.nil_append] at ha ⊢
    rcases ha with z | z | z
    · exact .inr (.inl z)
    · exact .inl z
    · exact .inr (.inr z)
  · rcases List.mem_or_eq_of_mem_set hs with hs | hs
    · exact h.pl s' hs
    · subst hs;rfl
end
section
variable {X:Cx} {st:Stmt} {ce a b:List Stmt} {g h:cJ} {e c:Expr} {m:Bool} {f:bz} {t:iw} {pos:Pos}
theorem aZ:ny X [] aQ:=je oD fun D σ H z=>by
  obtain ⟨B,E,xs,Xs,E',fl,fr,cl,e,q⟩:=z
  cases e
  exact q _ _ fr
theorem aq (h1:SX X st g):ny X [st] g:=oE h1
theorem wQ {K:PySem.W.Frag} {D:Ends} {σ:iX} {H:Hp} (z:rs K (aP g h) D σ H):rs K g {D with nx:=rs K h D} σ H:=by
  obtain ⟨B,E,xs,Xs,E',fl,fr,cl,e,q⟩:=z
  obtain ⟨⟨E1,f1⟩,e1,e⟩:=Option.bind_eq_some_iff.mp e
  refine ⟨B,E,xs,Xs,E1,f1,fr,cl,e1,?_⟩
  cases f1 with
  | nx=>exact fun σ' H' fr'=>⟨B,E1,xs,Xs,E',fl,fr',cl,e,q⟩
  | bk=>cases e;exact q
  | ct=>cases e;exact q
  | rt r=>cases e;exact q
theorem ap (h1:SX X st g) (h2:ny X ce h):ny X (st::ce) (aP g h):=je (me h1 h2) fun D σ H z=>wQ z
theorem gI (he:EX X e m f) (hs:swapsWith e none pos.line X.env=pure false:=by rfl):SX X (.Expr e pos) (dJ f):=fm (tR he hs) fun D σ H z=>by
  obtain ⟨B,E,xs,Xs,E',fl,fr,cl,e,q⟩:=z
  obtain ⟨⟨s,E1⟩,e1,e⟩:=Option.map_eq_some_iff.mp e
  cases e
  refine ⟨B,E,xs,Xs,s,E1,fr,fun _=>Calm.nil cl,e1,fun v H1 ⟨F,A,fr1⟩=>?_⟩
  obtain ⟨A',fr2⟩:=fr1.pop
  exact q _ _ ⟨F,A',fr2⟩
theorem aO (he:EX X e m f):SX X (.Return (some e) pos) (aV f):=fm (qF he) fun D σ H z=>by
  obtain ⟨B,E,xs,Xs,E',fl,fr,cl,e,q⟩:=z
  obtain ⟨⟨s,E1⟩,e1,e⟩:=Option.bind_eq_some_iff.mp e
  refine ⟨B,E,xs,Xs,s,E1,fr,fun _=>Calm.nil cl,e1,fun v H1 ⟨F,A,fr1⟩=>?_⟩
  simp only at e
  split at e
  · obtain ⟨s',es,e⟩:=Option.map_eq_some_iff.mp e
    cases e
    exact q σ _ _ (fr1.move es)
  · cases e
    exact q σ _ _ ⟨F,A,fr1⟩
theorem cf (hc:TX X c m t) (ha:ny X a g) (hb:ny X b h):SX X (.If c a b pos) (bn t g h):=fm (vq hc ha hb) fun D σ H z=>by
  obtain ⟨B,E,xs,Xs,E',fl,fr,cl,e,q⟩:=z
  obtain ⟨⟨b1,E1⟩,e1,e⟩:=Option.bind_eq_some_iff.mp e
  refine ⟨B,E,xs,Xs,b1,E1,fr,fun _=>Calm.nil cl,e1,fun H1 fr1=>?_⟩
  cases b1 with
  | true=>exact (if_pos rfl).mpr ⟨B,E1,xs,Xs,E',fl,fr1,cl,e,q⟩
  | false=>exact (if_neg (by decide)).mpr ⟨B,E1,xs,Xs,E',fl,fr1,cl,e,q⟩
theorem bC (i:Nat) {x:Str} {pos':Pos} (hN:X.N.Nodup) (he:EX X e m f) (hi:X.N[i]? =some x:=by rfl) (hx:vX X.env.scope x:=by first | exact Or.inl rfl | exact Or.inr rfl) (hs:swapsWith e (some (.Name x pos')) pos.line X.env=pure false:=by rfl) (hf:X.fn x=true∨X.env.scope.names.lookup x=some .local:=by first | exact .inl rfl | exact .inr rfl | assumption):
    SX X (.Assign [.Name x pos'] e pos) (bc i f):=fm (qH hN hi hx he hs hf) fun D σ H z=>by
  obtain ⟨B,E,xs,Xs,E',fl,fr,cl,e,q⟩:=z
  obtain ⟨⟨s,E1⟩,e1,e⟩:=Option.bind_eq_some_iff.mp e
  obtain ⟨⟨s',E2⟩,e2,e⟩:=Option.bind_eq_some_iff.mp e
  refine ⟨B,E,xs,Xs,s,E1,fr,fun _=>Calm.nil cl,e1,fun v H1 ⟨F,A,fr1⟩=>?_⟩
  obtain ⟨c1,F2,A2,fr2⟩:=fr1.settle cl e2
  simp only at e
  split at e
  · rename_i hi
    cases e
    obtain ⟨A3,fr3⟩:=fr2.store c1 (Still.nil cl) hi
    exact q _ _ ⟨F2,A3,fr3⟩
  · cases e
end
end PL
namespace PL
open PySem L2 Nh
abbrev gJ:=PyData→List Sl→Option (List Sl)
abbrev mB:=List PyData→List Sl→Option (List Sl)
def rg (K:PySem.W.Frag) (h:gJ):TG:=fun v σ H Q=>∃B E xs Xs d E',Frm K B σ H E (v::xs) (.sh d::Xs)∧Still Xs∧h d E=some E'∧∀σ' H',Frm K B σ' H' E' xs Xs→Q σ' H'
def Ar (K:PySem.W.Frag) (h:mB):tS:=fun vs σ H Q=>∃B E xs Xs ds E',vs.length=ds.length∧Frm K B σ H E (vs++xs) (ds.map .sh++Xs)∧Still Xs∧h ds E=some E'∧∀σ' H',Frm K B σ' H' E' xs Xs→Q σ' H'
def GX (X:Cx) (e:Expr) (h:gJ):Prop:=PG X e (rg X.K h)
def yU (X:Cx) (es:List Expr) (h:mB):Prop:=wa X es (Ar X.K h)
def be (i:Nat):gJ:=fun d E=>if i < E.length then some (E.set i (.sh d)) else none
def e9:mB:=fun ds E=>if ds.isEmpty then some E else none
def cm (h:gJ) (hs:mB):mB:=fun ds E=>match ds with
  | d::ds=>(h d E).bind (hs ds)
  | []=>none
def e_ (n:Nat) (hs:mB):gJ:=fun d E=>match d with
  | .tuple ds=>if ds.length=n then hs ds E else none
  | _=>none
section
variable {X:Cx}
theorem rO {e:Expr} {t t':TG} (h:PG X e t) (k:∀v σ H Q,t' v σ H Q→t v σ H Q):PG X e t':=fun pins s σ H v u Q I r q=>h pins s σ H v u Q I r (k v σ H Q q)
theorem oU {es:List Expr} {t t':tS} (h:wa X es t) (k:∀v σ H Q,t' v σ H Q→t v σ H Q):wa X es t':=fun pins s σ H v u Q I r q=>h pins s σ H v u Q I r (k v σ H Q q)
theorem bv (i:Nat) {x:Str} {pos:Pos} (hN:X.N.Nodup) (hi:X.N[i]? =some x:=by rfl) (hx:vX X.env.scope x:=by first | exact Or.inl rfl | exact Or.inr rfl) (hf:X.fn x=true∨X.env.scope.names.lookup x=some .local:=by first | exact .inl rfl | exact .inr rfl | assumption):GX X (.Name x pos) (be i):=rO (tT hN hi hx hf) fun v σ H Q z=>by
  obtain ⟨B,E,xs,Xs,d,E',⟨F,A,fr⟩,cl,e,q⟩:=z
  unfold be at e
  split at e
  · rename_i hi
    cases e
    obtain ⟨A',fr'⟩:=fr.store rfl cl hi
    exact q _ _ ⟨F,A',fr'⟩
  · cases e
theorem gK:yU X [] e9:=oU tU fun v σ H Q z=>by
  obtain ⟨B,E,xs,Xs,ds,E',hl,fr,cl,e,q⟩:=z
  unfold e9 at e
  split at e
  · rename_i hd
    cases e
    have:ds=[]:=by simpa using hd
    subst this
    have hv:v=[]:=by simpa using hl
    subst hv
    exact ⟨rfl,q _ _ fr⟩
  · cases e
theorem cz {e:Expr} {es:List Expr} {h:gJ} {hs:mB} (h1:GX X e h) (h2:yU X es hs) (hst:(assignEach (e::es) X.env).map (·.2)=assign e X.env::(assignEach es X.env).map (·.2):=by rfl):yU X (e::es) (cm h hs):=oU (qG h1 h2 hst) fun v σ H Q z=>by
  obtain ⟨B,E,xs,Xs,ds,E',hl,fr,cl,e,q⟩:=z
  cases ds with
  | nil=>cases e
  | cons d ds=>
    cases v with
    | nil=>cases hl
    | cons v vs=>
      obtain ⟨E1,e1,e2⟩:=Option.bind_eq_some_iff.mp e
      refine ⟨v,vs,rfl,B,E,vs++xs,ds.map Sl.sh++Xs,d,E1,fr,fun s hs=>?_,e1,fun σ1 H1 fr1=>⟨B,E1,xs,Xs,ds,E',by simpa using hl,fr1,cl,e2,q⟩⟩
      rcases List.mem_append.mp hs with hs | hs
      · obtain ⟨d',_,rfl⟩:=List.mem_map.mp hs
        rfl
      · exact cl s hs
theorem iC {es:List Expr} {k:Nat} {pos:Pos} {hs:mB} {n:Nat} (hc:X.calm=true) (h:yU X es hs) (hn:(assignEach es X.env).length=n:=by rfl) (hst:(assignEach es X.env).findIdx? (·.1)=none:=by rfl):GX X (.Tuple es k pos) (e_ n hs):=rO (wb hc h hn hst) fun v σ H Q z=>by
  obtain ⟨B,E,xs,Xs,d,E',⟨F,A,fr⟩,cl,e,q⟩:=z
  unfold e_ at e
  split at e
  · rename_i ds
    split at e
    · rename_i hl
      obtain ⟨v',A1,ev,rfl,w,ew,r⟩:=fr.ext (k:=0) rfl
      cases ev;cases ew
      cases r with
      | tup h1 h2=>
        obtain ⟨A',fr'⟩:=fr.pop
        have key:∀{us:List V} {es:List PyData},RpA X.K F us es→FrF X.K B F A' σ H E (us++xs) (es.map .sh++Xs):=fun {us es} r=>by
          induction us generalizing es with
          | nil=>cases r;exact fr'
          | cons u us ih=>
            cases r with
            | cons r1 r2=>exact (ih r2).push ⟨rfl,_,rfl,r1⟩
        exact ⟨_,_,rfl,fr.fh.tup h1,by rw [h2.len];exact hl,B,E,xs,Xs,ds,E',h2.len,⟨F,A',key h2⟩,cl,e,q⟩
    · cases e
  · cases e
end
def nO (K:PySem.W.Frag) (B0:Hp) (J:It) (ds:List PyData):Prop:=∀{B F:Hp} {A:List Addr} {σ:iX} {H:Hp} {E:List Sl} {xs:List V} {Xs:List Sl} (i:Nat),Same B0 B→FrF K B F A σ H E xs Xs→
  (∀d,ds[i]? =some d→J.go i H∧∀x H2,J.yld i H x H2→Frm K B σ H2 E (x::xs) (.sh d::Xs))∧(i=ds.length→J.stop i H)
def ri (K:PySem.W.Frag) (m:Bool) (f:iy):TI:=fun σ H R=>∃B E xs Xs ds E',Frm K B σ H E xs Xs∧(m=true→Calm Xs)∧f E=some (ds,E')∧∀B' J H',Same B B'→Frm K B' σ H' E' xs Xs→nO K B' J ds→R J H'
def IX (X:Cx) (tg e:Expr) (m:Bool) (f:iy):Prop:=PI X tg e (ri X.K m f)
theorem FrF.base {K:PySem.W.Frag} {B B' F:Hp} {A:List Addr} {σ:iX} {H:Hp} {E:List Sl} {xs:List V} {Xs:List Sl} (h:FrF K B' F A σ H E xs Xs) (s:Same B B'):FrF K B F A σ H E xs Xs:=⟨s.trans h.bf,h.fh,h.tf,h.sl,h.nd,h.fr,h.len,h.pl⟩
theorem Frm.base {K:PySem.W.Frag} {B B':Hp} {σ:iX} {H:Hp} {E:List Sl} {xs:List V} {Xs:List Sl} (h:Frm K B' σ H E xs Xs) (s:Same B B'):Frm K B σ H E xs Xs:=let ⟨F,A,h⟩:=h;⟨F,A,h.base s⟩
theorem FrF.raise {K:PySem.W.Frag} {B F:Hp} {A:List Addr} {σ:iX} {H:Hp} {E:List Sl} {xs:List V} {Xs:List Sl} (h:FrF K B F A σ H E xs Xs):FrF K F F A σ H E xs Xs:=⟨Same.refl _,h.fh,h.tf,h.sl,h.nd,h.fr,h.len,h.pl⟩
def rP (lo:Int) (n:Nat):List PyData:=(List.range n).map fun (k:Nat)=> .int (lo+(k:Int))
def iD (g:ix):iy:=fun E=>(g E).bind fun a=>match az a.2 a.1 with
  | some [.int j]=>if -1000000≤j∧j≤1000000 then some (rP 0 j.toNat,a.2) else none
  | _=>none
def oV (f:bz):iy:=fun E=>(f E).bind fun a=>(frz a.2 a.1).bind fun b=>match b.1 with
  | .list ds=>some (ds.reverse,b.2)
  | _=>none
section
variable {X:Cx} {tg e e2:Expr} {m:Bool} {f:bz} {g:ix} {p pos:Pos} {K:PySem.W.Frag} {B:Hp}
theorem nP {t t':TI} (h:PI X tg e t) (k:∀σ H Q,t' σ H Q→t σ H Q):PI X tg e t':=fun pins s σ H R I q=>h pins s σ H R I (k σ H R q)
theorem pU {a:Addr} {vs:List V} {ds:List PyData} (h:SqL K B a vs) (r:RpA K B vs ds):nO K B (zb K a) ds:=fun {B' F A σ H E xs Xs} i sB fr=>by
  have hH:=fr.fh.seq (fr.bf.seq (sB.seq h))
  refine ⟨fun d ed=>?_,fun e=>⟨vs,hH,by rw [e,r.len];exact Nat.le_refl _⟩⟩
  obtain ⟨v,ev,rv⟩:=r.get ed
  refine ⟨⟨vs,v,hH,ev⟩,fun x H2 ⟨e2,y⟩=>?_⟩
  subst e2
  have:=y vs hH
  rw [ev] at this
  cases this
  exact ⟨F,A,fr.push ⟨rfl,_,rfl,rv.same (sB.trans fr.bf)⟩⟩
theorem rQ {a:Addr} {vs:List V} {ds:List PyData} (h:SqL K B a vs) (r:RpA K B vs ds):nO K B (zr K a vs) ds.reverse:=fun {B' F A σ H E xs Xs} i sB fr=>by
  have hH:=fr.fh.seq (fr.bf.seq (sB.seq h))
  refine ⟨fun d ed=>?_,fun e=>⟨hH,by rw [e,List.length_reverse,r.len]⟩⟩
  obtain ⟨v,ev,rv⟩:=r.rev.get ed
  have hi:i < vs.length:=by
    have:=(List.getElem?_eq_some_iff.mp ev).1
    simpa using this
  refine ⟨⟨hH,hi⟩,fun x H2 ⟨e2,y⟩=>?_⟩
  subst e2
  rw [ev] at y
  cases y
  exact ⟨F,A,fr.push ⟨rfl,_,rfl,rv.same (sB.trans fr.bf)⟩⟩
theorem jH {lo:Int} {n:Nat}:nO K B (xB lo n) (rP lo n):=fun {B' F A σ H E xs Xs} i sB fr=>by
  have hl:(rP lo n).length=n:=by simp [rP]
  refine ⟨fun d ed=>?_,fun e=>?_⟩
  · have hi:i < n:=by have:=(List.getElem?_eq_some_iff.mp ed).1;omega
    refine ⟨hi,fun x H2 ⟨e2,y⟩=>?_⟩
    subst e2 y
    have:d= .int (lo+i):=by
      unfold rP at ed
      rw [List.getElem?_map,List.getElem?_range hi] at ed
      exact (Option.some.inj ed).symm
    subst this
    exact ⟨F,A,fr.push ⟨rfl,_,rfl, .int _⟩⟩
  · show n≤i
    omega
theorem rR (hg:Gl X "reversed") (hm:X.mg "reversed"=none) (he:EX X e m f) (hs:starEach [e] X.env=[(false,eval e X.env)]:=by rfl):IX X tg (.Call (.Name "reversed" p) [e] [] pos) m (oV f):=nP (wv hg hm (cX he fj hs) hs) fun σ H R z=>by
  obtain ⟨B,E,xs,Xs,ds,E',fr,cl,e,q⟩:=z
  obtain ⟨⟨s,E1⟩,e1,e⟩:=Option.bind_eq_some_iff.mp e
  obtain ⟨⟨d,E2⟩,e2,e⟩:=Option.bind_eq_some_iff.mp e
  refine ⟨B,E,xs,Xs,s,E1,fr,cl,e1,fun v H1 ⟨F,A,fr1⟩=>?_⟩
  obtain ⟨F2,A2,fr2⟩:=fr1.frz0 e2
  simp only at e
  split at e
  · cases e
    obtain ⟨v',A1,ev,rfl,w,ew,r⟩:=fr2.ext (k:=0) rfl
    cases ev;cases ew
    cases r with
    | lst h1 h2=>
      obtain ⟨A3,fr3⟩:=fr2.pop
      exact ⟨_,_,rfl,fr2.fh.seq h1,q F2 _ _ fr2.bf ⟨F2,A3,fr3.raise⟩ (rQ h1 h2)⟩
  · cases e
theorem pV (hg:Gl X "range") (hm:X.mg "range"=none) (ha:AX X [e] m g) (hs:starEach [e] X.env=[(false,eval e X.env)]:=by rfl):IX X tg (.Call (.Name "range" p) [e] [] pos) m (iD g):=nP (pH hg hm ha hs) fun σ H R z=>by
  obtain ⟨B,E,xs,Xs,ds,E',fr,cl,e,q⟩:=z
  obtain ⟨⟨rs,E1⟩,e1,e⟩:=Option.bind_eq_some_iff.mp e
  refine ⟨B,E,xs,Xs,rs,E1,fr,cl,e1,fun vs H1 hl ⟨F,A,fr1⟩=>?_⟩
  simp only at e
  split at e
  · rename_i j ld
    split at e
    · rename_i hj
      cases e
      obtain ⟨r,A',fr2⟩:=fr1.looks hl ld
      obtain ⟨v,rfl,r'⟩:=r.one
      cases r'
      exact ⟨j,rfl,by omega,by omega,q B _ _ (Same.refl _) ⟨F,A',fr2⟩ jH⟩
    · cases e
  · cases e
end
def cM (tg:gJ) (body:cJ):List PyData→cJ
  | [],E=>some (E, .nx)
  | d::ds,E=>((tg d E).bind body).bind fun a=>match a.2 with
    | .nx=>cM tg body ds a.1
    | .ct=>cM tg body ds a.1
    | .bk=>some (a.1, .nx)
    | .rt r=>some (a.1, .rt r)
def g9 (it:iy) (tg:gJ) (body:cJ):cJ:=fun E=>(it E).bind fun a=>cM tg body a.1 a.2
theorem iE {X:Cx} {tg iter:Expr} {body:List Stmt} {m:Bool} {it:iy} {g:gJ} {b:cJ} {pos:Pos} (hp:PassesOwn (model X.prog X.w) X.A X.env X.xe) (hc:X.calm=true) (hi:IX X tg iter m it) (hg:GX X tg g) (hb:ny X body b)
    (hs:∀x,foldedSetIterable iter X.env x=pure x:=by intro _;rfl):SX X (.For tg iter body [] pos) (g9 it g b):=fm (qJ hp hc hi hg hb hs) fun D σ H z=>by
  obtain ⟨B,E,xs,Xs,E',fl,fr,cl,e,q⟩:=z
  obtain ⟨⟨ds,E1⟩,e1,e⟩:=Option.bind_eq_some_iff.mp e
  refine ⟨B,E,xs,Xs,ds,E1,fr,fun _=>Calm.nil cl,e1,fun B' J H1 hB fr1 ok=>?_⟩
  refine ⟨fun i mm σ' H'=>mm=ds.length - i∧i≤ds.length∧∃Ei,cM g b (ds.drop i) Ei=some (E',fl)∧Frm X.K B' σ' H' Ei xs Xs,⟨ds.length,by simp,Nat.zero_le _,E1,by simpa using e,fr1⟩,?_⟩
  rintro i mm σ' H' ⟨rfl,hi,Ei,ei,F,A,fri⟩
  obtain ⟨go,stop⟩:=ok i (Same.refl _) fri
  by_cases hlt:i < ds.length
  · obtain ⟨d,ed⟩:∃d,ds[i]? =some d:=⟨ds[i],List.getElem?_eq_getElem hlt⟩
    obtain ⟨g1,yl⟩:=go d ed
    have edr:ds.drop i=d::ds.drop (i+1):=by
      rw [List.drop_eq_getElem_cons hlt]
      congr 1
      exact Option.some.inj ((List.getElem?_eq_getElem hlt).symm.trans ed)
    rw [edr] at ei
    obtain ⟨⟨E2,f2⟩,e2,ei⟩:=Option.bind_eq_some_iff.mp ei
    obtain ⟨E3,e3,e2⟩:=Option.bind_eq_some_iff.mp e2
    refine .inr ⟨g1,fun σ2 H2=>∃Ej,cM g b (ds.drop (i+1)) Ej=some (E',fl)∧Frm X.K B' σ2 H2 Ej xs Xs,fun σ2 H2 ⟨Ej,ej,frj⟩=>⟨ds.length - (i+1),by omega,rfl,hlt,Ej,ej,frj⟩,fun x H2 y=>?_⟩
    refine ⟨B',Ei,xs,Xs,d,E3,yl x H2 y,Still.nil cl,e3,fun σ3 H3 fr3=>?_⟩
    refine ⟨B',E3,xs,Xs,E2,f2,fr3,cl,e2,?_⟩
    cases f2 with
    | nx=>exact fun σ4 H4 fr4=>⟨E2,ei,fr4⟩
    | ct=>exact fun σ4 H4 fr4=>⟨E2,ei,fr4⟩
    | bk=>cases ei;exact fun σ4 H4 fr4=>q _ _ (fr4.base hB)
    | rt r=>cases ei;exact fun σ4 v H4 fr4=>q _ _ _ (fr4.base hB)
  · have e0:i=ds.length:=by omega
    refine .inl ⟨stop e0,?_⟩
    rw [e0,List.drop_length] at ei
    cases ei
    exact q _ _ (Frm.base ⟨F,A,fri⟩ hB)
def bM:Sl→Bool
  | .sh d=>bW d
  | .ow ds=>bx ds
  | .tx ps=>ps.all fun p=>match p with | .fl d=>bW d | .ol ds=>bx ds
  | .od kvs=>kvs.all fun p=>bx p.2
  | _=>false
def aM (n:Nat) (ds:List PyData):List Sl:=ds.map .sh++List.replicate (n - ds.length) .no
def cT (r:Sl):Option Sl:=if bM r then some r else match r with
  | .sh d=>some (.br d)
  | .ow ds=>some (.br (.list ds))
  | .tx ps=>some (.br (.tuple (ps.map Pt.val)))
  | .br d=>some (if bW d then .sh d else .br d)
  | _=>none
def cU (n:Nat) (g:cJ):List PyData→Option Sl:=fun ds=>(g (aM n ds)).bind fun a=>match a.2 with
  | .rt r=>cT r
  | .nx=>some (.sh .none)
  | _=>none
section
variable {K:PySem.W.Frag} {B F:Hp} {A:List Addr} {σ:iX} {H:Hp} {E:List Sl} {v:V} {r:Sl}
theorem DlOk.cold {F H:Hp} (sF:Same F H):∀{us:List (bZ×V)} {kvs:List (bZ×List PyData)} {A:List Addr},(∀p∈kvs,bx p.2=true)→DlOk K F H us kvs A→DlOk K (tups H) H us kvs A
  | [],[],A,_,h=>h
  | p::us,q::kvs,A,c,h=>by
    obtain ⟨l,vs,A',rfl,rfl,hl,hr,k⟩:=h
    exact ⟨l,vs,A',rfl,rfl,hl,(hr.same sF).cold (c q (List.mem_cons_self ..)),DlOk.cold sF (fun p hp=>c p (List.mem_cons_of_mem _ hp)) k⟩
  | [],_::_,_,_,h=>False.elim h
  | _::_,[],_,_,h=>False.elim h
theorem PtsOk.cold {F H G:Hp} (sF:Same F H) (tG:∀{v:V} {d:PyData},Rp K F v d→bW d=true→Rp K G v d):∀{vs:List V} {ps:List Pt} {A:List Addr},(∀p∈ps,(match p with | .fl d=>bW d | .ol ds=>bx ds)=true)→PtsOk K F H vs ps A→PtsOk K G H vs ps A
  | [],[],A,_,h=>h
  | v::vs, .fl d::ps,A,c,h=>⟨tG h.1 (c (.fl d) (List.mem_cons_self ..)),PtsOk.cold sF tG (fun p hp=>c p (List.mem_cons_of_mem _ hp)) h.2⟩
  | v::vs, .ol ds::ps,A,c,h=>by
    obtain ⟨l,us,A',rfl,rfl,hl,hr,q⟩:=h
    refine ⟨l,us,A',rfl,rfl,hl,?_,q.cold sF tG fun p hp=>c p (List.mem_cons_of_mem _ hp)⟩
    have cd:bx ds=true:=c (.ol ds) (List.mem_cons_self ..)
    have key:∀{us:List V} {ds:List PyData},RpA K F us ds→bx ds=true→RpA K G us ds:=fun {us ds} r c=>by
      induction us generalizing ds with
      | nil=>cases r;exact .nil
      | cons u us ih=>
        cases r with
        | cons r1 r2=>
          simp only [bx,Bool.and_eq_true] at c
          exact .cons (tG r1 c.1) (ih r2 c.2)
    exact key hr cd
  | [],_::_,_,_,h=>False.elim h
  | _::_,[],_,_,h=>False.elim h
theorem FrF.result (h:FrF K B F A σ H E [v] [r]) (c:bM r=true):Same B H∧kC K B H v r:=by
  refine ⟨h.bf.trans h.fh,?_⟩
  have nB:∀a,F a=none→B a=none:=fun a e=>h.bf.free e
  have cold:∀{v:V} {d:PyData},Rp K F v d→bW d=true→Rp K (tups H) v d:=fun r f=>(r.same h.fh).cold f
  obtain ⟨v',A1,ev,hs⟩:=h.ext (k:=0) rfl
  cases ev
  obtain ⟨o,C0,C1,C2,eA,eo,hp,_⟩:=h.sl.at (k:=0) (s:=r) rfl
  cases eo
  have sub:∀a∈C1,F a=none:=fun a ha=>h.fr a (by rw [eA];simp [ha])
  have nd:C1.Nodup:=by
    have:=h.nd
    rw [eA] at this
    exact (List.nodup_append.mp (List.nodup_append.mp this).2.1).1
  cases r with
  | sh d=>obtain ⟨_,w,ew,r⟩:=hp;cases ew;exact cold r c
  | ow ds=>
    obtain ⟨l,vs,el,rfl,hl,r⟩:=hp
    cases el
    exact ⟨l,vs,rfl,nB l (sub l (by simp)),hl,(r.same h.fh).cold c⟩
  | tx ps=>
    obtain ⟨t,vs,et,ht,r⟩:=hp
    cases et
    exact ⟨t,vs,C1,rfl,fK (h.fh _ _ ht) rfl,nd,fun a ha=>nB a (sub a ha),r.cold h.fh cold (by simpa [bM,List.all_eq_true] using c)⟩
  | no=>cases c
  | od kvs=>
    obtain ⟨l,us,A',el,rfl,hl,r⟩:=hp
    cases el
    exact ⟨l,us,A',rfl,nd,fun a ha=>nB a (sub a ha),hl,r.cold h.fh (by simpa [bM,List.all_eq_true] using c)⟩
  | al i=>cases c
  | br d=>cases c
theorem FrF.resultO {r':Sl} (h:FrF K B F A σ H E [v] [r]) (c:cT r=some r'):Same B H∧kC K B H v r':=by
  unfold cT at c
  split at c
  · rename_i hc
    cases c
    exact h.result hc
  · refine ⟨h.bf.trans h.fh,?_⟩
    cases r with
    | sh d=>cases c;exact (h.look0 (d:=d) rfl).1
    | ow ds=>cases c;exact (h.look0 (d:= .list ds) rfl).1
    | tx ps=>cases c;exact (h.look0 (d:= .tuple (ps.map Pt.val)) rfl).1
    | br d=>
      have r:=(h.look0 (d:=d) rfl).1
      simp only at c
      split at c
      · rename_i hf
        cases c
        exact r.cold hf
      · cases c
        exact r
    | no=>cases c
    | od kvs=>cases c
    | al i=>cases c
theorem fb {N:List Str} {vs:List V} {ds:List PyData} (r:RpA K H vs ds) (hn:ds.length≤N.length):FrF K H H [] (L2.cH N vs) H (aM N.length ds) [] []:=by
  refine ⟨Same.refl _,Same.refl _,gH H,?_,List.nodup_nil,fun a ha=>(by cases ha),rfl,?_⟩
  · have l:=r.len
    unfold L2.cH aM
    rw [l]
    generalize N.length - ds.length=k
    have base:∀τ:iX,SAll (SlOk K H H τ) (List.replicate k none) (List.replicate k .no) []:=fun τ=>by
      induction k with
      | zero=>exact .nil
      | succ k ih=>exact .cons (A:=[]) rfl ih
    have key:∀(τ:iX) {us:List V} {es:List PyData},RpA K H us es→SAll (SlOk K H H τ) (us.map some++List.replicate k none) (es.map .sh++List.replicate k .no) []:=fun τ us es r=>by
      induction us generalizing es with
      | nil=>cases r;exact base τ
      | cons u us ih=>
        cases r with
        | cons r1 r2=>exact .cons (A:=[]) ⟨rfl,_,rfl,r1⟩ (ih _ r2)
    exact key _ r
  · intro s hs
    unfold aM at hs
    rcases List.mem_append.mp hs with hs | hs
    · obtain ⟨d,_,rfl⟩:=List.mem_map.mp hs
      rfl
    · rw [(List.mem_replicate.mp hs).2]
      rfl
end
def da (k n:Nat) (g:cJ):List PyData→Option Sl:=fun ds=>if ds.length=k then cU n g ds else none
theorem f_ {P:Program} {w:World} {K:PySem.W.Frag} {mg:Str→Option Value} {base:Heap} {x:Str} {st:Stmt} {N ps:List Str} {k a n:Nat} {g:cJ} (D:Def K mg x st ps) (S:FnScope N ps (ag st)) (hpa:ps.length=a) (hNn:N.length=n) (hps:a≤n)
    (hbody:∀(f:Addr) (cdv:Value) (A:Around) (outer:List Env) (s:Shared) (H:Hp) (E:XK),Room k (A.deeper (PyProof.Rows.envOfC x (ag st) s.heap.objs.size f cdv))→
      ny (ez jc P w K mg base N x (ag st) f cdv A outer s H E).nox (ax st) g):Own P w K mg base (k+1) x ps (cV K (da a n g)):=by
  subst hpa hNn
  refine D.own S (fun vs H Q E h=>?_) (fun f cdv A outer s H vs Q E hr h=>?_)
  · obtain ⟨ds,r,e,rp,_⟩:=h
    unfold da at e
    split at e
    · rename_i hl
      rw [rp.len];exact hl
    · cases e
  obtain ⟨ds,r,e,rp,q⟩:=h
  unfold da at e
  split at e
  · rename_i hl
    refine ⟨_,hbody f cdv A outer s H E hr,?_⟩
    obtain ⟨⟨E',fl⟩,e1,e⟩:=Option.bind_eq_some_iff.mp e
    refine ⟨H,aM N.length ds,[],[],E',fl,⟨H,[],fb rp (by omega)⟩,rfl,e1,?_⟩
    cases fl with
    | nx=>
      cases e
      rintro σ' H' ⟨F',A',fr'⟩
      exact q _ _ (fr'.bf.trans fr'.fh) .non
    | bk=>cases e
    | ct=>cases e
    | rt r'=>
      rintro σ' v H' ⟨F',A',fr'⟩
      obtain ⟨s1,s2⟩:=fr'.resultO e
      exact q v H' s1 s2
  · cases e
theorem As {P:Program} {w:World} {K:PySem.W.Frag} {mg:Str→Option Value} {base:Heap} {x:Str} {st:Stmt} {N ps:List Str} {k a n:Nat} {g:cJ} {f0:Addr} {fd:FuncData} (D:Fun K x x st f0 fd) (S:FnScope N ps (ag st)) (hpa:ps.length=a) (hNn:N.length=n) (hps:a≤n)
    (hbody:∀(cdv:Value) (A:Around) (outer:List Env) (s:Shared) (H:Hp) (E:XK),Room k (A.deeper (PyProof.Rows.envOfC x (ag st) s.heap.objs.size f0 cdv))→
      ny (ez jc P w K mg base N x (ag st) f0 cdv A outer s H E).nox (ax st) g):FnOk P w K mg base jc (k+1) f0 fd ps (cV K (da a n g)):=by
  subst hpa hNn
  refine D.ok S (fun vs H Q E h=>?_) (fun cdv A outer s H vs Q E hr h=>?_)
  · obtain ⟨ds,r,e,rp,_⟩:=h
    unfold da at e
    split at e
    · rename_i hl
      rw [rp.len];exact hl
    · cases e
  obtain ⟨ds,r,e,rp,q⟩:=h
  unfold da at e
  split at e
  · rename_i hl
    refine ⟨_,hbody cdv A outer s H E hr,?_⟩
    obtain ⟨⟨E',fl⟩,e1,e⟩:=Option.bind_eq_some_iff.mp e
    refine ⟨H,aM N.length ds,[],[],E',fl,⟨H,[],fb rp (by omega)⟩,rfl,e1,?_⟩
    cases fl with
    | nx=>
      cases e
      rintro σ' H' ⟨F',A',fr'⟩
      exact q _ _ (fr'.bf.trans fr'.fh) .non
    | bk=>cases e
    | ct=>cases e
    | rt r'=>
      rintro σ' v H' ⟨F',A',fr'⟩
      obtain ⟨s1,s2⟩:=fr'.resultO e
      exact q v H' s1 s2
  · cases e
theorem kE {K:PySem.W.Frag} {H:Hp}:∀ns:List Int,RpA K H (ns.map V.int) (ns.map PyData.int)
  | []=> .nil
  | n::ns=> .cons (.int n) (kE ns)
theorem wR {K:PySem.W.Frag} {H:Hp} {a:Addr} {ns:List Int} {c:List PyData→Option Sl} (e:c [.list (ns.map .int)]=some (.sh (.bool true))) (h:SqL K H a (ns.map V.int)):cV K c [.ref a] H (fun v _=>v= .bl true) fun _ _ _=>False:=
  ⟨_,_,e, .cons (.lst h (kE ns)) .nil,fun v H' _ r=>by
    have r':Rp K (tups H') v (.bool true):=r
    cases r'
    rfl⟩
end PL
namespace PL
open PySem L2 Nh
def kF (E:List Sl):Option Nat→Sl
  | none=> .no
  | some j=>match (E[j]?).bind Sl.val with
    | some d=> .sh d
    | none=> .no
def fM (js:List (Option Nat)) (E:List Sl):List Sl:=js.map (kF E)
def cA:iw:=fun E=>some (true,E)
def db (tg:gJ) (cond:iw) (elt:bz):List PyData→List Sl→Option (List PyData)
  | [],_=>some []
  | d::ds,E=>(tg d E).bind fun E1=>(cond E1).bind fun b=>if b.1 then (elt b.2).bind fun c=>(frz c.2 c.1).bind fun e=>(db tg cond elt ds e.2).map fun r=>e.1::r else db tg cond elt ds b.2
def dc (js:List (Option Nat)) (it:iy) (tg:gJ) (cond:iw) (elt:bz):bz:=fun E=>(it E).bind fun a=>(db tg cond elt a.1 (fM js a.2)).bind fun ds=>if bx ds&&decide (ds.length≤1000000) then some (.ow ds,a.2) else none
section
variable {X:Cx} {elt target iter:Expr} {ifs:List Expr} {scope sc:Scope} {cl:List (Str×Addr)} {N:List Str} {pos:Pos} {js:List (Option Nat)} {K:PySem.W.Frag}
theorem rS {B F:Hp} {A:List Addr} {σ:iX} {H:Hp} {E:List Sl} {xs:List V} {Xs:List Sl} (fr:FrF K B F A σ H E xs Xs) (js:List (Option Nat)):FrF K H H [] (slots js σ) H (fM js E) [] []:=by
  refine ⟨Same.refl _,Same.refl _,gH H,?_,List.nodup_nil,fun a ha=>(by cases ha),rfl,fun s hs=>?_⟩
  · have key:∀(τ:iX) (ks:List (Option Nat)),SAll (SlOk K H H τ) (slots ks σ) (fM ks E) []:=fun τ ks=>by
      induction ks with
      | nil=>exact .nil
      | cons j ks ih=>
        refine .cons (A:=[]) ?_ ih
        cases j with
        | none=>exact rfl
        | some j=>
          show SlOk K H H τ _ (match (E[j]?).bind Sl.val with | some d=> .sh d | none=> .no) []
          cases ej:E[j]? with
          | none=>exact rfl
          | some s=>
            cases ev:s.val with
            | none=>simp only [Option.bind_some,ev];exact rfl
            | some d=>
              simp only [Option.bind_some,ev]
              obtain ⟨o,A1,eo,hs⟩:=fr.var ej
              obtain ⟨v,rfl,r,_⟩:=hs.val fr.fh ev
              refine ⟨rfl,v,?_,r⟩
              show (σ[j]?).join=some v
              rw [eo]
              rfl
    exact key _ js
  · obtain ⟨j,_,rfl⟩:=List.mem_map.mp hs
    cases j with
    | none=>rfl
    | some j=>
      simp only [kF]
      split <;> rfl
theorem pW {m2 m3:Bool} {tg:gJ} {cond:iw} {el:bz} {tt:TT} (htt:∀σ H Q,rt K m2 cond σ H Q→tt σ H Q) {B B' F:Hp} {A:List Addr} {σ:iX} {H1:Hp} {E1:List Sl} {xs:List V} {Xs:List Sl} {ds rs:List PyData} {J:It} {Q:VK}
    (fr1:FrF K B F A σ H1 E1 xs Xs) (B2:Same B' H1) (ok:nO K B' J ds) (e2:db tg cond el ds (fM js E1)=some rs) (hc:bx rs=true∧rs.length≤1000000) (q:∀v H',Frm K B σ H' E1 (v::xs) (.ow rs::Xs)→Q v H') (l:Addr) (hl:H1 l=none):
    ∃W:Nat→Nat→iX→Hp→Prop,(∃m,W 0 m (slots js σ) (upd H1 l (.lst [])))∧
  ∀i m σ' H',W i m σ' H'→(J.stop i H'∧Q (.ref l) H')∨(J.go i H'∧∃N:iX→Hp→Prop,(∀σ' H',N σ' H'→∃m',m' < m∧W (i+1) m' σ' H')∧∀x H2,J.yld i H' x H2→rg K tg x σ' H2 fun σ3 H3=>tt σ3 H3 fun b H4=>
    if b=true then rd K m3 el σ3 H4 fun y H5=>∃ys,H5 l=some (.lst ys)∧ys.length < sizeLine∧N σ3 (upd H5 l (.lst (ys++[y]))) else N σ3 H4):=by
  have fr0:=(rS fr1 js).newl (ds:=[]) .nil hl
  refine ⟨fun i mm σ' H'=>mm=ds.length - i∧i≤ds.length∧∃Ei acc ce,db tg cond el (ds.drop i) Ei=some ce∧rs=acc++ce∧Frm K H1 σ' H' Ei [.ref l] [.ow acc],⟨ds.length,by simp,Nat.zero_le _,_,[],rs,by simpa using e2,rfl,⟨_,_,fr0⟩⟩,?_⟩
  rintro i mm σ' H' ⟨rfl,hi,Ei,acc,ce,ei,er,F',A',fri⟩
  obtain ⟨go,stop⟩:=ok i B2 fri
  by_cases hlt:i < ds.length
  · obtain ⟨d,ed⟩:∃d,ds[i]? =some d:=⟨ds[i],List.getElem?_eq_getElem hlt⟩
    obtain ⟨g1,yl⟩:=go d ed
    have edr:ds.drop i=d::ds.drop (i+1):=by
      rw [List.drop_eq_getElem_cons hlt]
      congr 1
      exact Option.some.inj ((List.getElem?_eq_getElem hlt).symm.trans ed)
    rw [edr] at ei
    obtain ⟨E3,e3,ei⟩:=Option.bind_eq_some_iff.mp ei
    obtain ⟨⟨b,E4⟩,e4,ei⟩:=Option.bind_eq_some_iff.mp ei
    refine .inr ⟨g1,fun σ2 H2=>∃Ej acc ce,db tg cond el (ds.drop (i+1)) Ej=some ce∧rs=acc++ce∧Frm K H1 σ2 H2 Ej [.ref l] [.ow acc],fun σ2 H2 ⟨Ej,ac,rt,ej,er,frj⟩=>⟨ds.length - (i+1),by omega,rfl,hlt,Ej,ac,rt,ej,er,frj⟩,fun x H2 y=>?_⟩
    have clm:Calm [Sl.ow acc]:=Calm.cons (fun s hs=>absurd hs (by simp)) rfl
    refine ⟨H1,Ei,[.ref l],[.ow acc],d,E3,yl x H2 y,(fun s hs=>by rw [List.mem_singleton.mp hs];rfl),e3,fun σ3 H3 fr3=>htt _ _ _ ?_⟩
    refine ⟨H1,E3,[.ref l],[.ow acc],b,E4,fr3,fun _=>clm,e4,fun H4 fr4=>?_⟩
    cases b with
    | false=>
      rw [if_neg (by decide)]
      exact ⟨E4,acc,ce,ei,er,fr4⟩
    | true=>
      rw [if_pos rfl]
      obtain ⟨⟨s5,E5⟩,e5,ei⟩:=Option.bind_eq_some_iff.mp ei
      obtain ⟨⟨d6,E6⟩,e6,ei⟩:=Option.bind_eq_some_iff.mp ei
      obtain ⟨rest',e7,ei⟩:=Option.map_eq_some_iff.mp ei
      subst ei
      refine ⟨H1,E4,[.ref l],[.ow acc],s5,E5,fr4,fun _=>clm,e5,fun y5 H5 ⟨F5,A5,fr5⟩=>?_⟩
      obtain ⟨F6,A6,fr6⟩:=fr5.frz0 e6
      obtain ⟨v',C1,ev,rfl,w,ew,ry⟩:=fr6.ext (k:=0) rfl
      cases ev;cases ew
      obtain ⟨A7,fr7⟩:=fr6.pop
      -- the list under way is the one part that owns
      obtain ⟨bf,fh,tf,sl,nd,frn,len,pl⟩:=fr7
      generalize hT:List.map some [V.ref l]++σ3=T at sl
      generalize hS:[Sl.ow acc]++E6=S at sl
      cases sl with
      | nil=>cases hS
      | cons q0 r0=>
        injection hT with h1 hT
        injection hS with h2 hS
        subst h1 h2 hT hS
        obtain ⟨l',us,el,rfl,hl5,ru⟩:=q0
        cases el
        have lu:=ru.len
        refine ⟨us,hl5,rh (by rw [er] at hc;simp at hc;omega),E6,acc++[d6],rest',e7,by rw [er];simp,F6,_,bf,fun b o qb=>?_,?_, .cons (A:=[l]) ⟨l,us++[y5],rfl,rfl,upd_same,ru.snoc ry⟩ (r0.mono fun o s C hs hC qq=>qq.stay (Same.refl _) (fun b hb=>aw fun z=>?_) fun z=>?_),nd,frn,rfl,pl⟩
        · have lF:F6 l=none:=frn l (by simp)
          rw [aw (fun z=>by rw [z,lF] at qb;cases qb)]
          exact fh _ _ qb
        · rw [mq hl5];exact tf
        · have:=hC b hb
          rw [z] at this
          exact (List.nodup_cons.mp nd).1 this
        · have:=pl s hs
          cases s <;> simp [Sl.isAl,Sl.isBr] at this z
  · have e0:i=ds.length:=by omega
    refine .inl ⟨stop e0,?_⟩
    rw [e0,List.drop_length] at ei
    cases ei
    rw [List.append_nil] at er
    subst er
    obtain ⟨g1,g2⟩:=fri.result hc.1
    exact q _ _ (fr1.told g1 g2)
theorem oW {m m2 m3:Bool} {it:iy} {tg:gJ} {cond:iw} {el:bz} {tt:TT} (htt:∀σ H Q,rt K m2 cond σ H Q→tt σ H Q) {σ:iX} {H:Hp} {Q:VK} (z:rd K m (dc js it tg cond el) σ H Q):mn js (ri K m it) (rg K tg) tt (rd K m3 el) σ H Q:=by
  obtain ⟨B,E,xs,Xs,res,E',fr,cl,e,q⟩:=z
  obtain ⟨⟨ds,E1⟩,e1,e⟩:=Option.bind_eq_some_iff.mp e
  obtain ⟨rs,e2,e⟩:=Option.bind_eq_some_iff.mp e
  simp only at e
  split at e
  · rename_i hc
    cases e
    simp only [Bool.and_eq_true,decide_eq_true_eq] at hc
    exact ⟨B,E,xs,Xs,ds,_,fr,cl,e1,fun B' J H1 hB ⟨F,A,fr1⟩ ok l hl=>pW htt (fr1.base hB) (fr1.bf.trans fr1.fh) ok e2 hc q l hl⟩
  · cases e
theorem eX {m m3:Bool} {it:iy} {tg:gJ} {el:bz} (C:CompOk X scope sc cl N js) (hc:X.calm=true) (hi:IX X target iter m it) (hg:∀C s₀ H₀ fp,GX (X.comp sc cl N C s₀ H₀ fp) target tg) (he:∀C s₀ H₀ fp,EX (X.comp sc cl N C s₀ H₀ fp) elt m3 el)
    (hs:∀x,foldedSetIterable iter X.env x=pure x:=by intro _;rfl):EX X (.ListComp elt [⟨target,iter,[],0⟩] scope pos) m (dc js it tg cA el):=
  aY (uf (g:=rg X.K tg) (te:=rd X.K m3 el) C hc hi hg (fun _ _ _ _=>oK) he hs) fun σ H Q z=>oW (m2:=false) (fun σ H Q z=>by
    obtain ⟨B,E,xs,Xs,b,E',fr,cl,e,q⟩:=z
    cases e
    exact q _ fr) z
end
end PL
namespace PL
open PySem L2 Nh
def jI:PyData→Option bZ
  | .int i=>some (.inl i)
  | .str x=>some (.inr x)
  | _=>none
theorem oX {d:PyData} {k:bZ} (h:jI d=some k):d=ug k:=by
  cases d <;> simp [jI] at h <;> subst h <;> rfl
theorem jJ (k:bZ):jI (ug k)=some k:=by cases k <;> rfl
def lx:List (PyData×PyData)→Option (List bZ)
  | []=>some []
  | p::r=>(jI p.1).bind fun k=>(lx r).map fun ks=>k::ks
def kc:List (PyData×PyData)→bZ→Option PyData
  | [],_=>none
  | p::r,k=>if jI p.1=some k then some p.2 else kc r k
def ly:List (bz×bz)→List Sl→Option (List (PyData×PyData)×List Sl)
  | [],E=>some ([],E)
  | p::r,E=>(p.1 E).bind fun a=>(frz a.2 a.1).bind fun ka=>(p.2 ka.2).bind fun b=>(frz b.2 b.1).bind fun vb=>(ly r vb.2).map fun c=>((ka.1,vb.1)::c.1,c.2)
def mC (ps:List (bz×bz)):bz:=fun E=>(ly ps E).bind fun a=>match lx a.1 with
  | some ks=>if decide ks.Nodup&&decide (ks.length≤15) then some (.sh (.dict a.1),a.2) else none
  | none=>none
def wS (K:PySem.W.Frag) (ps:List (bz×bz)):List (TE×TE):=ps.map fun p=>(rd K true p.1,rd K true p.2)
def mD:List (V×V)→List V
  | []=>[]
  | p::r=>mD r++[p.2,p.1]
def mE:List (PyData×PyData)→List Sl
  | []=>[]
  | p::r=>mE r++[.sh p.2, .sh p.1]
section
variable {X:Cx} {K:PySem.W.Frag} {B F:Hp} {σ:iX} {H:Hp} {E:List Sl} {xs:List V} {Xs:List Sl}
theorem vM {m:Bool} {f:bz} {Q:VK} (h:rd K true f σ H Q):rd K m f σ H Q:=by
  obtain ⟨B,E,xs,Xs,r,E',fr,c,e,q⟩:=h
  exact ⟨B,E,xs,Xs,r,E',fr,fun _=>c rfl,e,q⟩
theorem mF:∀(ps:List (bz×bz)) {H:Hp} {E:List Sl} {xs:List V} {Xs:List Sl} {r:List (PyData×PyData)} {E':List Sl} {Q:List (V×V)→Hp→Prop},Frm K B σ H E xs Xs→Calm Xs→ly ps E=some (r,E')→
    (∀vs H',vs.length=r.length→Frm K B σ H' E' (mD vs++xs) (mE r++Xs)→Q vs H')→ls (wS K ps) σ H Q
  | [],H,E,xs,Xs,r,E',Q,fr,c,e,q=>by
    cases e
    exact q [] H rfl fr
  | (f,g)::ps,H,E,xs,Xs,r,E',Q,fr,c,e,q=>by
    obtain ⟨⟨s1,E1⟩,e1,e⟩:=Option.bind_eq_some_iff.mp e
    obtain ⟨⟨d1,E2⟩,e2,e⟩:=Option.bind_eq_some_iff.mp e
    obtain ⟨⟨s3,E3⟩,e3,e⟩:=Option.bind_eq_some_iff.mp e
    obtain ⟨⟨d4,E4⟩,e4,e⟩:=Option.bind_eq_some_iff.mp e
    obtain ⟨⟨r5,E5⟩,e5,e⟩:=Option.map_eq_some_iff.mp e
    cases e
    refine ⟨B,E,xs,Xs,s1,E1,fr,fun _=>c,e1,fun x H1 ⟨F1,A1,fr1⟩=>?_⟩
    obtain ⟨F2,A2,fr2⟩:=fr1.frz0 e2
    refine ⟨B,E2,x::xs, .sh d1::Xs,s3,E3,⟨F2,A2,fr2⟩,fun _=>c.cons rfl,e3,fun y H2 ⟨F3,A3,fr3⟩=>?_⟩
    obtain ⟨F4,A4,fr4⟩:=fr3.frz0 e4
    refine mF ps ⟨F4,A4,fr4⟩ ((c.cons rfl).cons rfl) e5 fun vs H' l fr5=>q _ _ (by simp [l]) ?_
    simpa [mD,mE] using fr5
theorem FrF.unflat:∀{vs:List (V×V)} {r:List (PyData×PyData)} {A:List Addr} {xs:List V} {Xs:List Sl},vs.length=r.length→FrF K B F A σ H E (mD vs++xs) (mE r++Xs)→
    (∃A',FrF K B F A' σ H E xs Xs)∧Paired (fun p q=>Rp K F p.1 q.1∧Rp K F p.2 q.2) vs r
  | [],[],A,xs,Xs,_,h=>⟨⟨A,h⟩, .nil⟩
  | (x,y)::vs,(k,d)::r,A,xs,Xs,l,h=>by
    obtain ⟨⟨A',h1⟩,p⟩:=FrF.unflat (vs:=vs) (r:=r) (xs:=y::x::xs) (Xs:= .sh d:: .sh k::Xs) (by simpa using l) (by simpa [mD,mE] using h)
    obtain ⟨v1,C1,ev1,rfl,w1,ew1,r1⟩:=h1.ext (k:=0) rfl
    obtain ⟨v2,C2,ev2,rfl,w2,ew2,r2⟩:=h1.ext (k:=1) rfl
    cases ev1;cases ew1;cases ev2;cases ew2
    obtain ⟨A1,h2⟩:=h1.pop
    obtain ⟨A2,h3⟩:=h2.pop
    exact ⟨⟨A2,h3⟩, .cons ⟨r2,r1⟩ p⟩
  | [],_::_,_,_,_,l,_=>by simp at l
  | _::_,[],_,_,_,l,_=>by simp at l
theorem FrF.newd {p:Addr} {A:List Addr} (h:FrF K B F A σ H E xs Xs) (hp:H p=none):FrF K B F (p::A) σ (upd H p (.dK [])) E (.ref p::xs) (.od []::Xs):=by
  have g:Same H (upd H p (.dK [])):=dy hp _
  have nA:=h.newA hp
  refine ⟨h.bf,h.fh.trans g,fun b o e=>?_, .cons (A:=[p]) ⟨p,[],[],rfl,rfl,upd_same,rfl⟩ (h.sl.mono fun o s C _ hC q=>q.stay (Same.refl _) (fun b hb=>aw fun z=>nA (z▸hC b hb)) fun _=>g),List.nodup_cons.mpr ⟨nA,h.nd⟩,fun a ha=>?_,by simp [h.len],h.pl⟩
  · obtain ⟨e1,e2⟩:=Option.filter_eq_some_iff.mp e
    by_cases hb:b=p
    · subst hb;rw [upd_same] at e1;cases e1;cases e2
    · rw [aw hb] at e1;exact h.tf b o (fK e1 e2)
  · rcases List.mem_cons.mp ha with z | z
    · subst z;exact h.fh.free hp
    · exact h.fr a z
theorem FrF.filld {v:V} {us:List (bZ×V)} {r:List (PyData×PyData)} {A:List Addr} (h:FrF K B F A σ H E (v::xs) (.od []::Xs)) (c:Calm Xs) (hr:RpK K F us r):
    ∃p,v= .ref p∧H p=some (.dK [])∧Frm K B σ (upd H p (.dK us)) E (.ref p::xs) (.sh (.dict r)::Xs):=by
  obtain ⟨bf,fh,tf,sl,nd,fr,len,pl⟩:=h
  generalize hT:List.map some (v::xs)++σ=T at sl
  generalize hS:(Sl.od []::Xs)++E=S at sl
  cases sl with
  | nil=>cases hS
  | cons q0 r0=>
    injection hT with h1 hT
    injection hS with h2 hS
    subst h1 h2 hT hS
    obtain ⟨p,us0,A0,ep,rfl,hp,k0⟩:=q0
    cases ep
    cases us0 with
    | cons _ _=>exact False.elim k0
    | nil=>
    have eA:A0=[]:=k0
    subst eA
    have Fp:F p=none:=fr p (by simp)
    have gF:Same F (upd F p (.dK us)):=dy Fp _
    refine ⟨p,rfl,hp,upd F p (.dK us),_,bf.trans gF,fun b o e=>?_,fun b o e=>?_, .cons (A:=[]) ⟨rfl,_,rfl, .dct (.inl upd_same) (hr.same gF)⟩ (r0.mono fun o s C hs hC qq=>qq.stay gF (fun b hb=>aw fun z=>?_) fun z=>?_),(List.nodup_append.mp nd).2.1,fun a ha=>?_,by simpa using len,pl⟩
    · by_cases hb:b=p
      · subst hb;rw [upd_same] at e ⊢;exact e
      · rw [aw hb] at e ⊢;exact fh _ _ e
    · obtain ⟨e1,e2⟩:=Option.filter_eq_some_iff.mp e
      by_cases hb:b=p
      · subst hb;rw [upd_same] at e1;cases e1;cases e2
      · rw [aw hb] at e1 ⊢;exact tf b o (fK e1 e2)
    · have:=hC b hb
      rw [z] at this
      exact (List.nodup_cons.mp nd).1 this
    · rcases List.mem_append.mp hs with hs | hs
      · rw [c s hs] at z;cases z
      · have:=pl s hs
        cases s <;> simp [Sl.isAl,Sl.isBr] at this z
    · have hb:a≠p:=fun z=>(List.nodup_cons.mp nd).1 (z▸ha)
      rw [aw hb]
      exact fr a (List.mem_append_right _ (by simpa using ha))
theorem kG {k:bZ}:∀{kvs:List (bZ×V)},¬k∈kvs.map (·.1)→g7 kvs k=none
  | [],_=>rfl
  | p::r,h=>by
    rw [gd fun e=>h (by simp [e])]
    exact kG fun m=>h (by simp at m ⊢;exact .inr m)
theorem kH:∀(more kvs:List (bZ×V)),((kvs++more).map (·.1)).Nodup→gf kvs more=kvs++more
  | [],kvs,_=>by simp [gf]
  | p::r,kvs,h=>by
    have hn:¬p.1∈kvs.map (·.1):=fun m=>by
      rw [List.map_append,List.map_cons] at h
      exact (List.nodup_append.mp h).2.2 _ m _ (by simp) rfl
    have e:fZ kvs p.1 p.2=kvs++[p]:=rG p.2 (kG hn)
    show gf (fZ kvs p.1 p.2) r=_
    rw [e,kH r (kvs++[p]) (by simpa using h)]
    simp
theorem rT {v:V} {k:bZ} (h:Rp K H v (ug k)):v=kV k:=by
  cases k with
  | inl i=>cases h;rfl
  | inr x=>cases h;rfl
theorem vN:∀{vs:List (V×V)} {r:List (PyData×PyData)} {ks:List bZ},Paired (fun p q=>Rp K F p.1 q.1∧Rp K F p.2 q.2) vs r→lx r=some ks→
    ∃us:List (bZ×V),vs=us.map (fun kv=>(kV kv.1,kv.2))∧us.map (·.1)=ks∧RpK K F us r
  | _,_,ks, .nil,e=>by cases e;exact ⟨[],rfl,rfl, .nil⟩
  | _,_,ks, .cons (a:=(x,y)) (b:=(kd,d)) h t,e=>by
    obtain ⟨k,e1,e⟩:=Option.bind_eq_some_iff.mp e
    obtain ⟨ks',e2,e⟩:=Option.map_eq_some_iff.mp e
    subst e
    obtain ⟨us,rfl,e3,hr⟩:=vN t e2
    have ek:=oX e1
    simp only at ek h
    subst ek
    obtain rfl:=rT h.1
    exact ⟨(k,y)::us,rfl,by simp [e3], .cons h.2 hr⟩
theorem uG {ps:List (bz×bz)} {Q:VK} (z:rd K true (mC ps) σ H Q):vL (wS K ps) σ H Q:=by
  obtain ⟨B,E,xs,Xs,res,E',fr,c,e,q⟩:=z
  obtain ⟨⟨r,E1⟩,e1,e⟩:=Option.bind_eq_some_iff.mp e
  simp only at e
  split at e
  · rename_i ks ek
    split at e
    · rename_i hc
      cases e
      simp only [Bool.and_eq_true,decide_eq_true_eq] at hc
      intro p hp
      obtain ⟨F,A,fr⟩:=fr
      refine mF ps ⟨_,_,fr.newd hp⟩ ((c rfl).cons rfl) e1 fun vs H' l ⟨F1,A1,fr1⟩=>?_
      obtain ⟨⟨A2,fr2⟩,pr⟩:=fr1.unflat l
      obtain ⟨us,ev,ek',hr⟩:=vN pr ek
      obtain ⟨p',ep,hp0,fr3⟩:=fr2.filld (c rfl) hr
      cases ep
      refine ⟨hp0,us,ev,?_,?_⟩
      · have:us.length=ks.length:=by rw [←ek',List.length_map]
        omega
      · rw [kH us [] (by simpa [ek'] using hc.1),List.nil_append]
        exact q _ _ fr3
    · cases e
  · cases e
end
section
variable {X:Cx} {pos apos cpos:Pos} {o e f:Expr} {m m1 m2:Bool}
def PX (X:Cx) (pos:Pos) (keys:List (Option Expr)) (values:List Expr) (ps:List (bz×bz)):Prop:=yn X pos keys values (wS X.K ps)
theorem wT:PX X pos [] [] []:=uC
theorem oY {k v:Expr} {ks:List (Option Expr)} {vs:List Expr} {fk fv:bz} {ps:List (bz×bz)} (hk:EX X k m1 fk) (hv:EX X v m2 fv) (hr:PX X pos ks vs ps):PX X pos (some k::ks) (v::vs) ((fk,fv)::ps):=
  rL (aY hk fun _ _ _ h=>vM h) (aY hv fun _ _ _ h=>vM h) hr
theorem uH {keys:List (Option Expr)} {values:List Expr} {ps:List (bz×bz)} (h:PX X pos keys values ps) (hall:keys.all (·.isSome)=true:=by rfl) (hl:keys.length=values.length:=by rfl) (h0:keys≠[]:=by simp) (h15:keys.length≤15:=by decide):
    EX X (.Dict keys values pos) true (mC ps):=aY (uD h hall hl h0 h15) fun _ _ _ z=>uG z
def yq:List (PyData×PyData)→Bool
  | (.none,_)::_=>false
  | _=>true
def oZ (fo fk fd:bz):bz:=fun E=>(fo E).bind fun a=>match look a.2 a.1 with
  | some (.dict kv)=>if yq kv then (fk a.2).bind fun b=>(fd b.2).bind fun c=>match look c.2 a.1,look c.2 b.1,look c.2 c.1 with
    | some (.dict kvs),some k,some d=>(jI k).bind fun k=>if (yq kvs&&bW ((kc kvs k).getD d)) then some (.sh ((kc kvs k).getD d),c.2) else none
    | _,_,_=>none
    else none
  | _=>none
theorem o0 {K:PySem.W.Frag} {H:Hp} {k:bZ} {z:V} {d:PyData} (hz:Rp K H z d):∀{us:List (bZ×V)} {kvs:List (PyData×PyData)},RpK K H us kvs→Rp K H ((g7 us k).getD z) ((kc kvs k).getD d)
  | _,_, .nil=>hz
  | _,_, .cons (k:=k') (x:=x) (us:=us) h t=>by
    by_cases e:k'=k
    · rw [h7 (p:=(k',x)) e]
      simp only [kc,jJ,e,if_true,Option.getD_some]
      exact h
    · rw [gd (p:=(k',x)) e]
      simp only [kc,jJ,Option.some.injEq,e,if_false]
      exact o0 hz t
theorem uI {fo fk fd:bz} (hu:X.A.units+64 < cLine) (ho:EX X o m fo) (hk:EX X e false fk) (hd:EX X f false fd) (hm:M2 X o "get" apos e f cpos:=by exact ⟨rfl,rfl,rfl,rfl⟩):EX X (.Call (.Attribute o "get" apos) [e,f] [] cpos) m (oZ fo fk fd):=by
  refine aY (rM (by omega) ho hk hd hm) fun σ H Q z=>?_
  obtain ⟨B,E,xs,Xs,res,E',fr,c,e,q⟩:=z
  obtain ⟨⟨s1,E1⟩,e1,e⟩:=Option.bind_eq_some_iff.mp e
  simp only at e
  split at e
  · rename_i kv1 l1
    split at e
    rotate_left
    · cases e
    rename_i hx1
    obtain ⟨⟨s2,E2⟩,e2,e⟩:=Option.bind_eq_some_iff.mp e
    obtain ⟨⟨s3,E3⟩,e3,e⟩:=Option.bind_eq_some_iff.mp e
    simp only at e
    split at e
    · rename_i kvs kd d la lb lc
      obtain ⟨k,ek,e⟩:=Option.bind_eq_some_iff.mp e
      split at e
      · rename_i hf
        cases e
        refine ⟨B,E,xs,Xs,s1,E1,fr,c,e1,fun x H1 ⟨F1,A1,fr1⟩=>?_⟩
        obtain ⟨r1,_⟩:=fr1.look0 l1
        cases r1 with
        | exc h1 h2=>cases hx1
        | dct h1 h2=>
          refine ⟨_,rfl, .inl ⟨_,h1⟩,B,E1,_,_,s2,E2,⟨F1,A1,fr1⟩,(fun z=>by cases z),e2,fun y H2 fr2=>?_⟩
          refine ⟨B,E2,_,_,s3,_,fr2,(fun z=>by cases z),e3,fun w H3 ⟨F3,A3,fr3⟩=>?_⟩
          obtain ⟨v0,ev0,ra,_⟩:=fr3.look (k:=2) rfl la
          obtain ⟨v1,ev1,rb,_⟩:=fr3.look (k:=1) rfl lb
          obtain ⟨v2,ev2,rc,_⟩:=fr3.look (k:=0) rfl lc
          cases ev0;cases ev1;cases ev2
          cases ra with
          | exc h3 h4=>cases (Bool.and_eq_true_iff.mp hf).1
          | dct h3 h4=>
            have ekd:=oX ek
            subst ekd
            refine ⟨_, .inl ⟨_,k,h3,rT rb,rfl⟩,q _ _ ?_⟩
            have rr:=fr3.cold (o0 (k:=k) rc h4) (Bool.and_eq_true_iff.mp hf).2
            obtain ⟨A4,fr4⟩:=fr3.pop
            obtain ⟨A5,fr5⟩:=fr4.pop
            obtain ⟨A6,fr6⟩:=fr5.pop
            exact ⟨F3,A6,fr6.push ⟨rfl,_,rfl,rr⟩⟩
      · cases e
    · cases e
  · cases e
end
end PL
namespace PL
open PySem L2 Nh
theorem dA {α:Type} (xs:List α) (k:Nat):atI xs (k:Int)=xs[k]? :=by
  unfold atI xC
  rw [if_pos (by omega)]
  split
  · simp
  · rw [List.getElem?_eq_none (by omega)];rfl
theorem eK {α:Type} (a:α) (l:List α):atI (a::l) 0=some a:=dA (a::l) 0
theorem fV {α:Type} (a b:α) (l:List α):atI (a::b::l) 1=some b:=dA (a::b::l) 1
theorem mG {α:Type} (a b c:α) (l:List α):atI (a::b::c::l) 2=some c:=dA (a::b::c::l) 2
theorem jh {α:Type} (l:List α) (a:α):atI (l++[a]) (-1)=some a:=by
  unfold atI xC
  rw [if_neg (by omega),if_pos (by simp;omega)]
  have e:(-1+(((l++[a]).length:Nat):Int)).toNat=l.length:=by simp;omega
  rw [e]
  simp
theorem lz {α:Type} (l:List α) (a:α):(l++[a])[(l++[a]).length - 1]? =some a:=by simp
theorem ji {α:Type} (l:List α) (a:α):(l++[a]).isEmpty=false:=by cases l <;> rfl
theorem flatA_all:∀{a:List PyData},(∀d∈a,bW d=true)→bx a=true
  | [],_=>rfl
  | x::a,h=>by simp [bx,h x (List.mem_cons_self ..),flatA_all fun d hd=>h d (List.mem_cons_of_mem _ hd)]
theorem pX {α:Type} {f:α→PyData} (h:∀a,bW (f a)=true) (l:List α):bx (l.map f)=true:=flatA_all fun d hd=>by
  obtain ⟨a,_,rfl⟩:=List.mem_map.mp hd
  exact h a
theorem uJ (p:Pc):bW (ay p)=true:=rfl
theorem cN (c:List Pc):bx (c.map ay)=true:=pX uJ c
def cutL {α:Type} (l:List α) (lo hi:Option Int):List α:=(l.drop (HT.j8 l.length 0 lo)).take (HT.j8 l.length l.length hi - HT.j8 l.length 0 lo)
theorem rV {α:Type} (f:α→PyData) (l:List α) (lo hi:Option Int):dN (l.map f) lo hi=(cutL l lo hi).map f:=by
  unfold dN cutL
  rw [List.length_map,List.map_take,List.map_drop]
theorem rW {α:Type} (l:List α) (lo hi:Option Int):(cutL l lo hi).length≤l.length:=by
  unfold cutL
  rw [List.length_take,List.length_drop]
  omega
theorem mH {α:Type} {l:List α} {lo hi:Option Int} {x:α} (h:x∈cutL l lo hi):x∈l:=List.mem_of_mem_drop (List.mem_of_mem_take h)
theorem o3 {α β:Type} (f:α→β) (k:Nat) (l:List α):(List.replicate k (l.map f)).flatten=((List.replicate k l).flatten).map f:=by
  induction k with
  | zero=>rfl
  | succ k ih=>rw [List.replicate_succ,List.replicate_succ,List.flatten_cons,List.flatten_cons,List.map_append,ih]
end PL
namespace L2
open PySem PySem.Spec PyProof.Rows
def yV (x:Str):It:=⟨fun i _=>i < x.cps.toList.length,fun i H v H'=>H'=H∧∃c,x.cps.toList[i]? =some c∧v= .str ⟨#[c]⟩,fun i _=>i=x.cps.toList.length⟩
theorem rX {P:Program} {w:World} {K:PySem.W.Frag} {tg:Expr} {it:Addr} {T:String} {x:Str} {t:Tok} (hT:T="str_ascii_iterator"∨T="str_iterator"):Turn P w K tg (yV x) [it] it (fun i h=>h.IsStrIter it T x t i) where
  mem:=by simp
  obj:=fun i h st b hb=>by
    have e:b=it:=by simpa using hb
    subst e
    obtain ⟨o,e,c,d⟩:=st
    exact ⟨o,e,fun v z=>by rw [d] at z;cases z⟩
  keep:=fun i h h' st k=>let ⟨o,ho,r⟩:=st;⟨o,k it (by simp) o ho,r⟩
  item:=by
    intro X hP hw hK hc i pins s σ H E I hf st hg
    subst hP hw hK
    obtain ⟨f0,f1,f2,f3,f4,f5⟩:=hf it (by simp)
    have hi:i < x.cps.toList.length:=hg
    have hx:x.cps[i]? =some (x.cps.toList[i]'hi):=by simp at hi;simp [hi]
    have fin:∀(h':Heap),h'.IsStrIter it T x t (i+1)→Heap.SameBut it s.heap h'→∃u,some (Value.str ⟨#[x.cps.toList[i]'hi]⟩ s.toks)=some u∧
        wpAny (model X.prog X.w) X.A (letOwnedTupleGo tg (.ref it) u) (fun _ s2=>∃v H',Inv X pins σ H' s2∧RelV v u∧(yV x).yld i H v H'∧s2.heap.IsStrIter it T x t (i+1)∧∀b∈[it],H' b=none) E {s with heap:=h',toks:=s.toks+1}:=fun h' st' sb=>by
      have I1:Inv X pins σ H {s with heap:=h',toks:=s.toks+1}:=I.turned (t':=s.toks+1) (fun b o hb e=>(sb.2 b hb).trans e) f0 f1 f3 f4 f5
      obtain ⟨o,e,c,d⟩:=id st'
      exact ⟨_,rfl,kq (s:={s with heap:=h',toks:=s.toks+1}) e c d (by rcases hT with rfl | rfl <;> decide) ⟨.str ⟨#[x.cps.toList[i]'hi]⟩,H,I1,⟨_,rfl⟩,⟨rfl,_,List.getElem?_eq_getElem hi,rfl⟩,st',fun b hb=>(hf b hb).1⟩⟩
    rcases hT with rfl | rfl
    · exact wpAny_pyNext_ascii_item st hx fun h' st' sb=>fin h' st' sb
    · exact wpAny_pyNext_wide_item st hx fun h' st' sb=>fin h' st' sb
  done:=by
    intro X hP hw hK hc i pins s σ H E I hf st hg
    subst hP hw hK
    obtain ⟨f0,f1,f2,f3,f4,f5⟩:=hf it (by simp)
    have hi:i=x.cps.toList.length:=hg
    have hx:x.cps[i]? =none:=by simp at hi;simp [hi]
    rcases hT with rfl | rfl
    · exact wpAny_pyNext_ascii_end (I.ok.hd hc) st hx fun h' eb=>⟨rfl,I.turned (t':=s.toks) (fun b o hb e=>eb b o hb e) f0 f1 f3 f4 f5⟩
    · exact wpAny_pyNext_wide_end (I.ok.hd hc) st hx fun h' eb=>⟨rfl,I.turned (t':=s.toks) (fun b o hb e=>eb b o hb e) f0 f1 f3 f4 f5⟩
  self:=fun _ _ _ _ _ st h=>by
    rcases hT with rfl | rfl
    · exact wpAny_pyIter_striter_ascii st h
    · exact wpAny_pyIter_striter_wide st h
def zz (tl:TE):TI:=fun σ H R=>tl σ H fun v H1=>∃x,v= .str x∧R (yV x) H1
theorem wU {X:Cx} {tg l:Expr} {tl:TE} (hl:PE X l tl):PI X tg l (zz tl):=by
  intro pins s σ H R I h
  refine ci (hl pins s σ H _ I h) fun v s1 ⟨y,H1,I1,r1,q1⟩=>?_
  obtain ⟨x,e,q⟩:=q1
  subst e
  obtain ⟨t,rfl⟩:=r1
  refine wpAny_pyIter_strU ?_
  refine ⟨s1.heap.objs.size,[s1.heap.objs.size],fun i h=>h.IsStrIter s1.heap.objs.size (strIterType x) x t i,_,H1,rfl,I1.kept (t':=s1.toks) fun b o e=>Heap.get?_push_of_some _ e,rX (t:=t) ?_,⟨_,Heap.get?_push_size _ rfl,rfl,rfl⟩,fun b hb=>?_,q⟩
  · unfold strIterType
    split
    · exact .inl rfl
    · exact .inr rfl
  · have e:b=s1.heap.objs.size:=by simpa using hb
    subst e
    exact I1.fpOk (Nat.le_refl _) (I1.hok.fresh (Nat.le_refl _))
theorem PI.or {X:Cx} {tg l:Expr} {a b:TI} (h1:PI X tg l a) (h2:PI X tg l b):PI X tg l (fun σ H R=>a σ H R∨b σ H R):=by
  intro pins s σ H R I h
  rcases h with h | h
  · exact h1 pins s σ H R I h
  · exact h2 pins s σ H R I h
end L2
namespace PL
open PySem L2 Nh
def lA (x:Str):List PyData:=x.cps.toList.map fun c=> .str ⟨#[c]⟩
def du (f:bz):iy:=fun E=>(f E).bind fun a=>(frz a.2 a.1).bind fun b=>match b.1 with
  | .list ds=>some (ds,b.2)
  | .tuple ds=>some (ds,b.2)
  | .str x=>some (lA x,b.2)
  | _=>none
section
variable {X:Cx} {K:PySem.W.Frag} {B:Hp}
theorem rY {x:Str}:nO K B (yV x) (lA x):=fun {B' F A σ H E xs Xs} i sB fr=>by
  refine ⟨fun d ed=>?_,fun e=>by show i=x.cps.toList.length;rw [e];simp [lA]⟩
  unfold lA at ed
  rw [List.getElem?_map] at ed
  obtain ⟨c,ec,rfl⟩:=Option.map_eq_some_iff.mp ed
  refine ⟨(List.getElem?_eq_some_iff.mp ec).1,fun z H2 ⟨e1,c',e2,e3⟩=>?_⟩
  rw [ec] at e2;cases e2
  subst e1 e3
  exact ⟨F,A,fr.push ⟨rfl,_,rfl, .str _⟩⟩
theorem rZ {a:Addr} {vs:List V} {ds:List PyData} (h:SqT K B a vs) (r:RpA K B vs ds):nO K B (zc K a) ds:=fun {B' F A σ H E xs Xs} i sB fr=>by
  have hH:=fr.fh.tup (fr.bf.tup (sB.tup h))
  refine ⟨fun d ed=>?_,fun e=>⟨vs,hH,by rw [e,r.len];exact Nat.le_refl _⟩⟩
  obtain ⟨v,ev,rv⟩:=r.get ed
  refine ⟨⟨vs,v,hH,ev⟩,fun x H2 ⟨e2,y⟩=>?_⟩
  subst e2
  have:=y vs hH
  rw [ev] at this
  cases this
  exact ⟨F,A,fr.push ⟨rfl,_,rfl,rv.same (sB.trans fr.bf)⟩⟩
theorem eI {tg e:Expr} {m:Bool} {f:bz} (he:EX X e m f):IX X tg e m (du f):=nP (PI.or (tV he) (PI.or (wc he) (wU he))) fun σ H R z=>by
  obtain ⟨B,E,xs,Xs,ds,E',fr,cl,e,q⟩:=z
  obtain ⟨⟨s,E1⟩,e1,e⟩:=Option.bind_eq_some_iff.mp e
  obtain ⟨⟨d,E2⟩,e2,e⟩:=Option.bind_eq_some_iff.mp e
  have key:∀(v:V) (H1:Hp),Frm X.K B σ H1 E1 (v::xs) (s::Xs)→∃F2 A2 A3,Rp X.K F2 v d∧Same B F2∧FrF X.K F2 F2 A3 σ H1 E2 xs Xs∧FrF X.K B F2 A2 σ H1 E2 (v::xs) (.sh d::Xs):=fun v H1 ⟨F,A,fr1⟩=>by
    obtain ⟨F2,A2,fr2⟩:=fr1.frz0 e2
    obtain ⟨v',A1,ev,rfl,w,ew,r⟩:=fr2.ext (k:=0) rfl
    cases ev;cases ew
    obtain ⟨A3,fr3⟩:=fr2.pop
    exact ⟨F2,A2,A3,r,fr2.bf,fr3.raise,fr2⟩
  simp only at e
  split at e
  · cases e
    refine .inl ⟨B,E,xs,Xs,s,E1,fr,cl,e1,fun v H1 fr1=>?_⟩
    obtain ⟨F2,A2,A3,r,sb,fr3,fr2⟩:=key v H1 fr1
    cases r with
    | lst h1 h2=>exact ⟨_,rfl,⟨_,fr2.fh.seq h1⟩,q F2 _ _ sb ⟨F2,A3,fr3⟩ (pU h1 h2)⟩
  · cases e
    refine .inr (.inl ⟨B,E,xs,Xs,s,E1,fr,cl,e1,fun v H1 fr1=>?_⟩)
    obtain ⟨F2,A2,A3,r,sb,fr3,fr2⟩:=key v H1 fr1
    cases r with
    | tup h1 h2=>exact ⟨_,rfl,⟨_,fr2.fh.tup h1⟩,q F2 _ _ sb ⟨F2,A3,fr3⟩ (rZ h1 h2)⟩
  · cases e
    refine .inr (.inr ⟨B,E,xs,Xs,s,E1,fr,cl,e1,fun v H1 fr1=>?_⟩)
    obtain ⟨F2,A2,A3,r,sb,fr3,fr2⟩:=key v H1 fr1
    cases r
    exact ⟨_,rfl,q F2 _ _ sb ⟨F2,A3,fr3⟩ rY⟩
  · cases e
end
end PL
namespace PL
open PySem L2 Nh
inductive Cm where
  | lt | le | gt | ge
def Cm.op:Cm→CmpOp
  | .lt=> .Lt
  | .le=> .LtE
  | .gt=> .Gt
  | .ge=> .GtE
def Cm.i:Cm→Int→Int→Bool
  | .lt,i,j=>decide (i < j)
  | .le,i,j=>decide (i≤j)
  | .gt,i,j=>decide (j < i)
  | .ge,i,j=>decide (j≤i)
def Cm.s:Cm→List Nat→List Nat→Bool
  | .lt,i,j=>decide (i < j)
  | .le,i,j=> !decide (j < i)
  | .gt,i,j=>decide (j < i)
  | .ge,i,j=> !decide (i < j)
def dB (c:Cm):PyData→PyData→Option PyData
  | .int i, .int j=>some (.bool (c.i i j))
  | .str x, .str y=>some (.bool (c.s x.cps.toList y.cps.toList))
  | _,_=>none
def Ac (c:Cm):R2:=fun x y H Q=>(∃i j,x= .int i∧y= .int j∧Q (.bl (c.i i j)) H)∨(∃i j,x= .str i∧y= .str j∧Q (.bl (c.s i.cps.toList j.cps.toList)) H)
section
variable {X:Cx} {a b c:Expr} {m1 m2 m3:Bool} {f g h:bz} {pos:Pos} {K:PySem.W.Frag}
theorem r8 (c:Cm):OpR X (compareOp c.op) (Ac c):=by
  cases c with
  | lt=>exact OpR.or xV pJ
  | le=>exact OpR.or xW (fun pins s σ H x y v u Q I rx ry h=>by
      obtain ⟨i,j,rfl,rfl,q⟩:=h
      obtain ⟨t,rfl⟩:=rx
      obtain ⟨t',rfl⟩:=ry
      exact PySem.P.le_str (aW I q rfl))
  | gt=>exact OpR.or xX (fun pins s σ H x y v u Q I rx ry h=>by
      obtain ⟨i,j,rfl,rfl,q⟩:=h
      obtain ⟨t,rfl⟩:=rx
      obtain ⟨t',rfl⟩:=ry
      exact PySem.P.gt_str (aW I q rfl))
  | ge=>exact OpR.or xY (fun pins s σ H x y v u Q I rx ry h=>by
      obtain ⟨i,j,rfl,rfl,q⟩:=h
      obtain ⟨t,rfl⟩:=rx
      obtain ⟨t',rfl⟩:=ry
      exact PySem.P.ge_str (aW I q rfl))
theorem r_ (c:Cm):rA K (Ac c) (dB c):=fun d1 d2 d v1 v2 H Q e r1 r2=>by
  unfold dB at e
  split at e
  · cases e;cases r1;cases r2
    exact ⟨_,rfl,fun q=> .inl ⟨_,_,rfl,rfl,q⟩⟩
  · cases e;cases r1;cases r2
    exact ⟨_,rfl,fun q=> .inr ⟨_,_,rfl,rfl,q⟩⟩
  · cases e
theorem pY (c:Cm) (b:Expr):behindInMarks c.op b=false:=by cases c <;> exact jv _
theorem kI (c:Cm) (ha:EX X a m1 f) (hb:EX X b m2 g):TX X (.Compare a [c.op] [b] pos) (m1||m2) (cS (ah (dI (dB c)) m2 f g)):=nN (r8 c) (lj (r_ c)) ha hb (pY c b)
theorem yr (c1 c2:Cm) (ha:EX X a m1 f) (hb:EX X b m2 g) (hc:EX X c m3 h) (hm:lastMarks [c1.op,c2.op] [b,c]=false:=by with_unfolding_all rfl):EX X (.Compare a [c1.op,c2.op] [b,c] pos) (m1||(m2||m3)) (jC (dB c1) (dB c2) m2 m3 f g h):=rD (r8 c1) (r8 c2) (r_ c1) (r_ c2) ha hb hc hm
def isInt:PyData→Option Int
  | .int x=>some x
  | _=>none
end
theorem fE {X:Cx} {st:Stmt}:SX X st (fun _=>none):=fm mf fun D σ H z=>by
  obtain ⟨B,E,xs,Xs,E',fl,fr,cl,e,q⟩:=z
  cases e
def gi:cJ:=fun _=>none
end PL
namespace PL
open PySem L2 Nh
theorem wV {X:Cx}:SlR X (fun x lo hi H Q=>∃z,x= .str z∧z.length≤sizeLine∧Q (.str (Txt.slice z lo hi)) H):=by
  intro pins s σ H x v vl vu lo hi sl Q I rx hs pl pu h
  obtain ⟨z,rfl,hz,q⟩:=h
  obtain ⟨t,rfl⟩:=rx
  cases pl with
  | none=>
    cases pu with
    | none=>exact ⟨"str",_,PySem.F.slot_str_getitem.lookup,typeIs_str _ _ _,wpAny_getItem_str_slice (l:=none) (u:=none) (st:=none) hs rfl (post_val_or_str ⟨Nat.le_trans (Txt.slice_le z _ _) hz,fun t' k=>⟨.str _,H,I.tok _,⟨_,rfl⟩,q⟩⟩)⟩
    | int j uj=>exact ⟨"str",_,PySem.F.slot_str_getitem.lookup,typeIs_str _ _ _,wpAny_getItem_str_slice (l:=none) (u:=some (j,uj)) (st:=none) hs rfl (post_val_or_str ⟨Nat.le_trans (Txt.slice_le z _ _) hz,fun t' k=>⟨.str _,H,I.tok _,⟨_,rfl⟩,q⟩⟩)⟩
  | int i ui=>
    cases pu with
    | none=>exact ⟨"str",_,PySem.F.slot_str_getitem.lookup,typeIs_str _ _ _,wpAny_getItem_str_slice (l:=some (i,ui)) (u:=none) (st:=none) hs rfl (post_val_or_str ⟨Nat.le_trans (Txt.slice_le z _ _) hz,fun t' k=>⟨.str _,H,I.tok _,⟨_,rfl⟩,q⟩⟩)⟩
    | int j uj=>exact ⟨"str",_,PySem.F.slot_str_getitem.lookup,typeIs_str _ _ _,wpAny_getItem_str_slice (l:=some (i,ui)) (u:=some (j,uj)) (st:=none) hs rfl (post_val_or_str ⟨Nat.le_trans (Txt.slice_le z _ _) hz,fun t' k=>⟨.str _,H,I.tok _,⟨_,rfl⟩,q⟩⟩)⟩
def gj (m2:Bool) (f:bz) (lo hi:wN):bz:=fun E=>(f E).bind fun a=>if m2&&a.1.isBr then none else (lo a.2).bind fun b=>(hi b.2).bind fun c=>match look c.2 a.1 with
  | some (.list ds)=>if !d5 c.2 a.1||bx (dN ds b.1 c.1) then some (.ow (dN ds b.1 c.1),c.2) else none
  | some (.str z)=>if z.length≤1000000 then some (.sh (.str (Txt.slice z b.1 c.1)),c.2) else none
  | _=>none
theorem lB {X:Cx} {e:Expr} {lo hi:Option Expr} {m1 m2 m3:Bool} {f:bz} {g h:wN} {pos p2:Pos} (he:EX X e m1 f) (hl:OX X lo m2 g) (hh:OX X hi m3 h):EX X (.Subscript e (.Slice lo hi none p2) pos) (m1||(m2||m3)) (gj (m2||m3) f g h):=by
  refine aY (qT (SlR.or t9 wV) he hl hh) fun σ H Q z=>?_
  obtain ⟨B,E,xs,Xs,res,E',fr,cl,e,q⟩:=z
  obtain ⟨⟨s,E1⟩,e1,e⟩:=Option.bind_eq_some_iff.mp e
  by_cases hb:((m2||m3)&&s.isBr)=true
  · rw [if_pos hb] at e;cases e
  rw [if_neg hb] at e
  have n1:(m2||m3)=true→s.isBr=false:=fun z=>by
    cases hs:s.isBr with
    | false=>rfl
    | true=>exact absurd (by rw [z,hs];rfl) hb
  obtain ⟨⟨l,E2⟩,e2,e⟩:=Option.bind_eq_some_iff.mp e
  obtain ⟨⟨u,E3⟩,e3,e⟩:=Option.bind_eq_some_iff.mp e
  refine ⟨B,E,xs,Xs,s,E1,fr,fun z=>cl (by simp [z]),e1,fun v1 H1 fr1=>?_⟩
  refine ⟨B,E1,v1::xs,s::Xs,l,E2,fr1,fun z=>Calm.cons (cl (by simp [z])) (n1 (by simp [z])),e2,fun H2 fr2=>?_⟩
  refine ⟨B,E2,v1::xs,s::Xs,u,E3,fr2,fun z=>Calm.cons (cl (by simp [z])) (n1 (by simp [z])),e3,fun H3 ⟨F,A,fr3⟩=>?_⟩
  simp only at e
  split at e
  · rename_i ds ld
    split at e
    · rename_i hc
      cases e
      obtain ⟨v,ev,r,f0⟩:=fr3.look (k:=0) rfl ld
      cases ev
      obtain ⟨A',fr4⟩:=fr3.pop
      cases hh:d5 E' s with
      | false=>
        obtain ⟨a,vs,rfl,h1,h2⟩:=f0 hh
        exact .inl ⟨a,vs,rfl,h1,fun p hp=>q _ _ ⟨F,_,fr4.newl (h2.cut l u) hp⟩⟩
      | true=>
        rw [hh] at hc
        cases r with
        | lst h1 h2=>exact .inl ⟨_,_,rfl,h1,fun p hp=>q _ _ ⟨F,_,fr4.newl (fr3.coldA (h2.cut l u) (by simpa using hc)) hp⟩⟩
    · cases e
  · rename_i z ld
    split at e
    · rename_i hc
      cases e
      have r:=(fr3.look0 ld).1
      cases r
      obtain ⟨A',fr4⟩:=fr3.pop
      exact .inr ⟨_,rfl,eD hc,q _ _ ⟨F,A',fr4.push ⟨rfl,_,rfl, .str _⟩⟩⟩
    · cases e
  · cases e
def h8 (i:Nat) (f:bz):bz:=fun E=>match E[i]? with
  | some (.ow _)=>(f E).bind fun a=>match a.1,a.2[i]? with
    | .ow es,some (.ow ds)=>if ds.length+es.length≤1000000 then some (.sh .none,a.2.set i (.ow (ds++es))) else none
    | _,_=>none
  | _=>none
section
variable {X:Cx} {e:Expr} {m1:Bool} {f:bz} {x:Str} {p apos cpos:Pos}
theorem pZ (i:Nat) (he:EX X e m1 f) (hN:X.N[i]? =some x:=by rfl) (hv:vW X.env.scope x:=by first | exact Or.inl rfl | exact Or.inr (Or.inl rfl) | exact Or.inr (Or.inr rfl)) (hd:(x == ("__debug__":Str))=false:=by decide) (hcd:(x == ("__classdict__":Str))=false:=by decide)
    (hs:starEach [e] X.env=[(false,eval e X.env)]:=by rfl) (hbase:attributeBase (.Name x p) "extend" X.env (eval (.Name x p) X.env)=eval (.Name x p) X.env:=by rfl)
    (hfew:((backTo cpos (starEach [e] X.env)).all (fun x=> !x.1)&&(backToKw cpos (keywordEach [] X.env)).all (fun x=>x.1.isSome)
      &&decide (([e]:List Expr).length+([]:List Keyword).length+(if ([]:List Keyword).isEmpty then 0 else 1) < 30))=true:=by rfl) (hline:(apos.endLine == cpos.line)=true:=by rfl):
    EX X (.Call (.Attribute (.Name x p) "extend" apos) [e] [] cpos) true (h8 i f):=by
  refine aY (vz PySem.F.plainAttrs_list PySem.F.slot_list_extend PySem.F.type_list_extend pN (ju hN hv hd hcd) (cX he fj hs) hbase hfew hline hs rfl) fun σ H Q z=>?_
  obtain ⟨B,E,xs,Xs,res,E',⟨F,A,fr⟩,cl,e,q⟩:=z
  unfold h8 at e
  split at e
  · rename_i ds0 ei
    obtain ⟨⟨s,E1⟩,e1,e⟩:=Option.bind_eq_some_iff.mp e
    simp only at e
    split at e
    · rename_i s1 es ds ei2
      split at e
      · rename_i hc
        cases e
        obtain ⟨o,A1,eo,l,vs,rfl,rfl,hl0,_⟩:=fr.var ei
        refine ⟨_,eo, .inl ⟨rfl,_,SqL.of hl0⟩,B,E,xs,Xs,_,E1,⟨F,A,fr⟩,fun _=>cl rfl,e1,fun v H1 ⟨F1,A1,fr1⟩=>?_⟩
        obtain ⟨v',A3,ev,l2,us,el,rfl,hl2,ru⟩:=fr1.ext (k:=0) rfl
        cases ev;cases el
        obtain ⟨A4,fr3⟩:=fr1.pop
        obtain ⟨l',vs',eo',hl',r',put⟩:=fr3.mut ei2 (cl rfl)
        rw [eo] at eo'
        cases eo'
        have n1:=r'.len
        have n2:=ru.len
        have fr4:=put (vs'++us) (ds++es) (r'.append ru)
        exact ⟨l,l2,vs',us,rfl,rfl,hl',hl2,eD (by omega),q _ _ ⟨_,_,fr4.push ⟨rfl,_,rfl, .non⟩⟩⟩
      · cases e
    · cases e
  · cases e
end
def gk (scope:Scope) (env:Env):List (Str×Addr):=((scope.names.filter fun p=>p.2 == .free).map fun p=>(p.1,(env.cells.lookup p.1).getD 0)).reverse
theorem gn {X:Cx} {scope:Scope} {N:List Str} {js:List (Option Nat)} (clos:closureFor scope X.env=pure (gk scope X.env):=by rfl) (nocell:∀y∈scope.names,y.2≠ .cell:=by decide+kernel) (kind:scope.kind= .function:=by rfl)
    (names:∀y∈scope.names,y.2= .local→scope.names.lookup y.1=some .local:=by decide+kernel) (same:(scope.names.filter fun p=>p.2 == .free).all (fun p=>(X.env.cells.lookup p.1).isSome)=true:=by rfl)
    (has:(relabel scope X.env).names.all (fun y=> !(y.2 == .cell||y.2 == .free)||((gk scope X.env).lookup y.1).isSome)=true:=by rfl) (len:js.length=N.length:=by rfl)
    (fr:(js.zip N).all (fun p=>match p.1 with | none=>true | some j=>X.N[j]? == some p.2&&((relabel scope X.env).names.lookup p.2 == some .cell||(relabel scope X.env).names.lookup p.2 == some .free)&&(X.env.kindOf p.2 == some .cell||X.env.kindOf p.2 == some .free))=true:=by rfl):
    CompOk X scope (relabel scope X.env) (gk scope X.env) N js where
  clos:=clos
  rel:=rfl
  nocell:=nocell
  kind:=kind
  names:=names
  same:=fun x c e=>by
    have hm:=PySem.mem_of_lookup e
    unfold gk at hm
    obtain ⟨p,hp,ep⟩:=List.mem_map.mp (List.mem_reverse.mp hm)
    have:=List.all_eq_true.mp same _ hp
    obtain ⟨c',ec⟩:=Option.isSome_iff_exists.mp this
    injection ep with e1 e2
    subst e1
    rw [ec] at e2 ⊢
    exact congrArg some e2
  has:=fun x h=>by
    have key:∀k,(relabel scope X.env).names.lookup x=some k→(k == NameKind.cell||k == NameKind.free)=true→∃c,(gk scope X.env).lookup x=some c:=fun k h hk=>by
      have:=List.all_eq_true.mp has _ (PySem.mem_of_lookup h)
      simp only [hk,Bool.not_true,Bool.false_or] at this
      exact Option.isSome_iff_exists.mp this
    rcases h with h | h
    · exact key _ h rfl
    · exact key _ h rfl
  len:=len
  from_:=fun i j h=>by
    have hi:i < js.length:=(List.getElem?_eq_some_iff.mp h).1
    obtain ⟨x,ex⟩:∃x,N[i]? =some x:=⟨N[i]'(by omega),List.getElem?_eq_getElem (by omega)⟩
    have hz:(js.zip N)[i]? =some (some j,x):=by rw [List.getElem?_zip_eq_some];exact ⟨h,ex⟩
    have:=List.all_eq_true.mp fr _ (List.mem_of_getElem? hz)
    simp only [Bool.and_eq_true,Bool.or_eq_true,beq_iff_eq] at this
    exact ⟨x,ex,this.1.1,this.1.2,this.2⟩
structure Bn (mg:Str→Option Value):Prop where
  len:mg "len"=none
  range:mg "range"=none
  abs:mg "abs"=none
  min:mg "min"=none
  max:mg "max"=none
  reversed:mg "reversed"=none
  enumerate:mg "enumerate"=none
  isinstance:mg "isinstance"=none
  list:mg "list"=none
  tuple:mg "tuple"=none
  str:mg "str"=none
  int:mg "int"=none
  bool:mg "bool"=none
  sorted:mg "sorted"=none
  zip:mg "zip"=none
  sum:mg "sum"=none
  any:mg "any"=none
  all:mg "all"=none
  set:mg "set"=none
  dict:mg "dict"=none
theorem yt {K:PySem.W.Frag} {h:Heap} {mg:Str→Option Value} (X:K.In h) (G:h.Ns mainGlobals mg)
    (z1:PySem.W.nsIn K mainGlobals "len"=some none) (z2:PySem.W.nsIn K mainGlobals "range"=some none) (z3:PySem.W.nsIn K mainGlobals "abs"=some none) (z4:PySem.W.nsIn K mainGlobals "min"=some none) (z5:PySem.W.nsIn K mainGlobals "max"=some none) (z6:PySem.W.nsIn K mainGlobals "reversed"=some none) (z7:PySem.W.nsIn K mainGlobals "enumerate"=some none) (z8:PySem.W.nsIn K mainGlobals "isinstance"=some none) (z9:PySem.W.nsIn K mainGlobals "list"=some none) (z10:PySem.W.nsIn K mainGlobals "tuple"=some none) (z11:PySem.W.nsIn K mainGlobals "str"=some none) (z12:PySem.W.nsIn K mainGlobals "int"=some none) (z13:PySem.W.nsIn K mainGlobals "bool"=some none) (z14:PySem.W.nsIn K mainGlobals "sorted"=some none) (z15:PySem.W.nsIn K mainGlobals "zip"=some none) (z16:PySem.W.nsIn K mainGlobals "sum"=some none) (z17:PySem.W.nsIn K mainGlobals "any"=some none) (z18:PySem.W.nsIn K mainGlobals "all"=some none) (z19:PySem.W.nsIn K mainGlobals "set"=some none) (z20:PySem.W.nsIn K mainGlobals "dict"=some none):Bn mg:=
  ⟨PySem.W.mg_none_of X G z1,PySem.W.mg_none_of X G z2,PySem.W.mg_none_of X G z3,PySem.W.mg_none_of X G z4,PySem.W.mg_none_of X G z5,PySem.W.mg_none_of X G z6,PySem.W.mg_none_of X G z7,PySem.W.mg_none_of X G z8,PySem.W.mg_none_of X G z9,PySem.W.mg_none_of X G z10,PySem.W.mg_none_of X G z11,PySem.W.mg_none_of X G z12,PySem.W.mg_none_of X G z13,PySem.W.mg_none_of X G z14,PySem.W.mg_none_of X G z15,PySem.W.mg_none_of X G z16,PySem.W.mg_none_of X G z17,PySem.W.mg_none_of X G z18,PySem.W.mg_none_of X G z19,PySem.W.mg_none_of X G z20⟩
end PL
namespace PL
open PySem L2 Nh
abbrev o4:=List Sl→Option (List Sl×Bool)
def Ad (K:PySem.W.Frag) (i:Nat) (g:o4):TS:=fun D σ H=>∃B E E' b,Frm K B σ H E [] []∧g E=some (E',b)∧if b=true then ∃v,σ[i]? =some (some v)∧∀H',Frm K B σ H' E' [] []→D.rt v H' else ∀H',Frm K B σ H' E' [] []→D.nx σ H'
def yu (X:Cx) (s:Stmt) (i:Nat) (g:o4):Prop:=PS X s (Ad X.K i g)
def nQ (X:Cx) (s:List Stmt) (i:Nat) (g:o4):Prop:=PSs X s (Ad X.K i g)
def kJ:o4:=fun E=>some (E,false)
def sd:o4:=fun E=>some (E,true)
def jK:o4:=fun _=>none
def p0 (g h:o4):o4:=fun E=>(g E).bind fun a=>if a.2 then some (a.1,true) else h a.1
def xE (c:iw) (g h:o4):o4:=fun E=>(c E).bind fun a=>if a.1 then g a.2 else h a.2
section
variable {X:Cx} {i:Nat} {g h:o4} {st:Stmt} {ce:List Stmt} {pos:Pos}
theorem jk:nQ X [] i kJ:=je oD fun D σ H z=>by
  obtain ⟨B,E,E',b,fr,e,q⟩:=z
  cases e
  rw [if_neg (by decide)] at q
  exact q _ fr
theorem h9 (h1:yu X st i g):nQ X [st] i g:=oE h1
theorem ia (h1:yu X st i g) (h2:nQ X ce i h):nQ X (st::ce) i (p0 g h):=je (me h1 h2) fun D σ H z=>by
  obtain ⟨B,E,E',b,fr,e,q⟩:=z
  obtain ⟨⟨E1,b1⟩,e1,e⟩:=Option.bind_eq_some_iff.mp e
  refine ⟨B,E,E1,b1,fr,e1,?_⟩
  cases b1 with
  | true=>
    rw [if_pos rfl] at e ⊢
    cases e
    rw [if_pos rfl] at q
    exact q
  | false=>
    simp only [Bool.false_eq_true,if_false] at e ⊢
    exact fun H1 fr1=>⟨B,E1,E',b,fr1,e,q⟩
theorem lC {c:Expr} {m:Bool} {t:iw} {a b:List Stmt} (hc:TX X c m t) (ha:nQ X a i g) (hb:nQ X b i h):yu X (.If c a b pos) i (xE t g h):=fm (vq hc ha hb) fun D σ H z=>by
  obtain ⟨B,E,E',b,fr,e,q⟩:=z
  obtain ⟨⟨b1,E1⟩,e1,e⟩:=Option.bind_eq_some_iff.mp e
  refine ⟨B,E,[],[],b1,E1,fr,fun _=>Calm.nil rfl,e1,fun H1 fr1=>?_⟩
  cases b1 with
  | true=>exact (if_pos rfl).mpr ⟨B,E1,E',b,fr1,e,q⟩
  | false=>exact (if_neg (by decide)).mpr ⟨B,E1,E',b,fr1,e,q⟩
theorem se {x:Str} {p:Pos} (hN:X.N[i]? =some x:=by rfl) (hv:vW X.env.scope x:=by first | exact Or.inl rfl | exact Or.inr (Or.inl rfl) | exact Or.inr (Or.inr rfl)) (hd:(x == ("__debug__":Str))=false:=by decide)
    (hcd:(x == ("__classdict__":Str))=false:=by decide):yu X (.Return (some (.Name x p)) pos) i sd:=fm (qF (ju hN hv hd hcd)) fun D σ H z=>by
  obtain ⟨B,E,E',b,fr,e,q⟩:=z
  cases e
  rw [if_pos rfl] at q
  obtain ⟨v,ev,q⟩:=q
  exact ⟨v,ev,q _ fr⟩
theorem gL:yu X st i jK:=fm mf fun D σ H z=>by
  obtain ⟨B,E,E',b,fr,e,q⟩:=z
  cases e
end
def yw (k n:Nat) (g:o4) (ds:List PyData):Bool:=decide (ds.length=k)&&match g (aM n ds) with
  | some (_,b)=>b
  | none=>false
def yx (K:PySem.W.Frag) (c:List PyData→Option Sl) (i:Nat) (ca:List PyData→Bool):Sp:=fun vs H Q _=>∃ds,RpA K H vs ds∧
  ((∃r,c ds=some r∧∀v H',Same H H'→kC K H H' v r→Q v H')∨(ca ds=true∧∃v,vs[i]? =some v∧∀H',Same H H'→Q v H'))
theorem zA {P:Program} {w:World} {K:PySem.W.Frag} {mg:Str→Option Value} {base:Heap} {x:Str} {st:Stmt} {N ps:List Str} {k a n i:Nat} {g:cJ} {ga:o4} (D:Def K mg x st ps) (S:FnScope N ps (ag st)) (hpa:ps.length=a) (hNn:N.length=n) (hps:a≤n) (hi:i < a)
    (hbody:∀(f:Addr) (cdv:Value) (A:Around) (outer:List Env) (s:Shared) (H:Hp) (E:XK),Room k (A.deeper (PyProof.Rows.envOfC x (ag st) s.heap.objs.size f cdv))→
      ny (ez jc P w K mg base N x (ag st) f cdv A outer s H E).nox (ax st) g)
    (hbodyA:∀(f:Addr) (cdv:Value) (A:Around) (outer:List Env) (s:Shared) (H:Hp) (E:XK),Room k (A.deeper (PyProof.Rows.envOfC x (ag st) s.heap.objs.size f cdv))→
      nQ (ez jc P w K mg base N x (ag st) f cdv A outer s H E).nox (ax st) i ga):Own P w K mg base (k+1) x ps (yx K (da a n g) i (yw a n ga)):=by
  subst hpa hNn
  refine D.own S (fun vs H Q E h=>?_) (fun f cdv A outer s H vs Q E hr h=>?_)
  · obtain ⟨ds,rp,⟨r,e,_⟩ | ⟨e,_⟩⟩:=h
    · unfold da at e
      split at e
      · rename_i hl
        rw [rp.len];exact hl
      · cases e
    · unfold yw at e
      simp only [Bool.and_eq_true,decide_eq_true_eq] at e
      rw [rp.len];exact e.1
  obtain ⟨ds,rp,⟨r,e,q⟩ | ⟨e,v,ev,q⟩⟩:=h
  · unfold da at e
    split at e
    · rename_i hl
      refine ⟨_,hbody f cdv A outer s H E hr,?_⟩
      obtain ⟨⟨E',fl⟩,e1,e⟩:=Option.bind_eq_some_iff.mp e
      refine ⟨H,aM N.length ds,[],[],E',fl,⟨H,[],fb rp (by omega)⟩,rfl,e1,?_⟩
      cases fl with
      | nx=>
        cases e
        rintro σ' H' ⟨F',A',fr'⟩
        exact q _ _ (fr'.bf.trans fr'.fh) .non
      | bk=>cases e
      | ct=>cases e
      | rt r'=>
        rintro σ' v H' ⟨F',A',fr'⟩
        obtain ⟨s1,s2⟩:=fr'.resultO e
        exact q v H' s1 s2
    · cases e
  · unfold yw at e
    simp only [Bool.and_eq_true,decide_eq_true_eq] at e
    obtain ⟨hl,e⟩:=e
    split at e
    · rename_i E' b eg
      subst e
      refine ⟨_,hbodyA f cdv A outer s H E hr,?_⟩
      refine ⟨H,aM N.length ds,E',true,⟨H,[],fb rp (by omega)⟩,eg,(if_pos rfl).mpr ⟨v,?_,fun H' ⟨F',A',fr'⟩=>q H' (fr'.bf.trans fr'.fh)⟩⟩
      unfold L2.cH
      have hv:i < vs.length:=(List.getElem?_eq_some_iff.mp ev).1
      rw [List.getElem?_append_left (by simpa using hv),List.getElem?_map,ev]
      rfl
    · cases e
def yy:Sl→Option Sl
  | .al j=>some (.al j)
  | .sh d=>some (.sh d)
  | _=>none
def lD (c:List PyData→Option Sl) (i:Nat) (ca:List PyData→Bool) (g:ix):bz:=fun E=>(g E).bind fun a=>(az a.2 a.1).bind fun ds=>match c ds with
  | some r=>some (r,a.2)
  | none=>if ca ds then (a.1[i]?).bind fun s=>(yy s).map fun r=>(r,a.2) else none
theorem o5 {X:Cx} {k i:Nat} {x:Str} {ps:List Str} {c:List PyData→Option Sl} {ca:List PyData→Bool} {p pos:Pos} {e:Expr} {es:List Expr} {m:Bool} {g:ix} (D:Own X.prog X.w X.K X.mg X.base k x ps (yx X.K c i ca)) (hr:Room k X.A) (hg:Gl X x) (ha:AX X (e::es) m g)
    (hdb:(x == ("__debug__":Str))=false:=by decide) (he:starEach (e::es) X.env=(false,eval e X.env)::starEach es X.env:=by rfl) (hpl:(backTo pos (starEach es X.env)).any (·.1)=false:=by rfl):
    EX X (.Call (.Name x p) (e::es) [] pos) m (lD c i ca g):=by
  refine aY (q5 D hr hg ha hdb he hpl) fun σ H Q z=>?_
  obtain ⟨B,E,xs,Xs,res,E',fr,cl,e,q⟩:=z
  obtain ⟨⟨rs,E1⟩,e1,e⟩:=Option.bind_eq_some_iff.mp e
  obtain ⟨ds,e2,e⟩:=Option.bind_eq_some_iff.mp e
  refine ⟨B,E,xs,Xs,rs,E1,fr,cl,e1,fun vs H1 hl ⟨F,A,fr1⟩=>?_⟩
  obtain ⟨r1,A',fr2⟩:=fr1.looks hl e2
  refine ⟨ds,by rw [List.append_nil];exact r1,?_⟩
  rw [List.append_nil]
  simp only at e
  split at e
  · rename_i r e3
    cases e
    exact .inl ⟨_,e3,fun v H' g q'=>q v H' (fr2.told g q')⟩
  · split at e
    · rename_i hc
      obtain ⟨s,es,e⟩:=Option.bind_eq_some_iff.mp e
      obtain ⟨r,et,e⟩:=Option.map_eq_some_iff.mp e
      cases e
      have hi:i < rs.length:=(List.getElem?_eq_some_iff.mp es).1
      have hk:(rs.reverse++Xs)[rs.length - 1 - i]? =some s:=by
        rw [List.getElem?_append_left (by rw [List.length_reverse];omega),List.getElem?_reverse (by omega),←es]
        congr 1
        omega
      obtain ⟨v,C,ev,hs⟩:=fr1.ext hk
      rw [List.getElem?_append_left (by rw [List.length_reverse];omega),List.getElem?_reverse (by omega),hl,show rs.length - 1 - (rs.length - 1 - i)=i by omega] at ev
      refine .inr ⟨hc,v,ev,fun H' g=>q v H' ?_⟩
      have h1:=fr2.grow g
      cases s with
      | al j=>
        cases et
        obtain ⟨_,w,ew,hw⟩:=hs
        cases ew
        exact ⟨_,_,h1.push ⟨rfl,v,rfl,hw⟩⟩
      | sh d=>
        cases et
        obtain ⟨_,w,ew,hw⟩:=hs
        cases ew
        refine ⟨_,_,h1.push ⟨rfl,v,rfl,hw.same fun b o eb=>?_⟩⟩
        have nA:b∉A':=fun hb=>by rw [fr2.fr b hb] at eb;cases eb
        show (if b∈A' then none else H' b)=some o
        rw [if_neg nA]
        exact g _ _ (fr2.fh _ _ eb)
      | no=>cases et
      | ow ds=>cases et
      | od kvs=>cases et
      | tx ps=>cases et
      | br d=>cases et
    · cases e
def o6 (i:Nat) (f:bz):cJ:=fun E=>(f E).bind fun a=>match a.1 with
  | .al j=>if j=i then some (a.2, .nx) else none
  | s=>(settle a.2 s).bind fun b=>if i < b.2.length then some (b.2.set i b.1, .nx) else none
theorem o7 {X:Cx} {e:Expr} {m:Bool} {f:bz} {pos:Pos} (i:Nat) {x:Str} {pos':Pos} (hN:X.N.Nodup) (he:EX X e m f) (hi:X.N[i]? =some x:=by rfl) (hx:vX X.env.scope x:=by first | exact Or.inl rfl | exact Or.inr rfl) (hs:swapsWith e (some (.Name x pos')) pos.line X.env=pure false:=by rfl) (hf:X.fn x=true∨X.env.scope.names.lookup x=some .local:=by first | exact .inl rfl | exact .inr rfl | assumption):
    SX X (.Assign [.Name x pos'] e pos) (o6 i f):=fm (qH hN hi hx he hs hf) fun D σ H z=>by
  obtain ⟨B,E,xs,Xs,E',fl,fr,cl,e,q⟩:=z
  obtain ⟨⟨s,E1⟩,e1,e⟩:=Option.bind_eq_some_iff.mp e
  refine ⟨B,E,xs,Xs,s,E1,fr,fun _=>Calm.nil cl,e1,fun v H1 ⟨F,A,fr1⟩=>?_⟩
  simp only at e
  split at e
  · split at e
    · rename_i hj
      cases e
      subst hj
      obtain ⟨v',C,ev,rfl,w,ew,hw⟩:=fr1.ext (k:=0) rfl
      cases ev;cases ew
      obtain ⟨A',fr2⟩:=fr1.pop
      have es:∀j,σ[j]? =some (some v)→σ.set j (some v)=σ:=fun j hw=>by
        have hj:j < σ.length:=(List.getElem?_eq_some_iff.mp hw).1
        rw [←(List.getElem?_eq_some_iff.mp hw).2]
        exact List.set_getElem_self hj
      show D.nx (σ.set _ (some v)) H1
      rw [es _ hw]
      exact q _ _ ⟨F,A',fr2⟩
    · cases e
  · obtain ⟨⟨s',E2⟩,e2,e⟩:=Option.bind_eq_some_iff.mp e
    obtain ⟨c1,F2,A2,fr2⟩:=fr1.settle cl e2
    simp only at e
    split at e
    · rename_i hi
      cases e
      obtain ⟨A3,fr3⟩:=fr2.store c1 (Still.nil cl) hi
      exact q _ _ ⟨F2,A3,fr3⟩
    · cases e
end PL
namespace PL
open PySem PySem.Spec L2 Nh PyProof.Rows
def At (i:Int):Prop:= -1000000≤i∧i≤1000000
instance (i:Int):Decidable (At i):=inferInstanceAs (Decidable (_∧_))
end PL
namespace PL
open PySem PySem.SeqAt
open AutoSeq1 (wpAny_loadPart')
open MeetsSeq MeetsSeq2 MeetsSeq3 SeqRoads2
def RcLtAt (A:Around) (s:Shared) (y x:Value) (b:Bool):Prop:=
  ∀(prog:Program) (w:World) (E:Value→Shared→Prop) (Q:Value→Shared→Prop),Q (.bool b) s→wpAny (model prog w) A (richCompare .Lt y x) Q E s
def lE (e r:Nat→Bool) (fin:Bool):List Nat→Bool
  | []=>fin
  | j::js=>if e j then lE e r fin js else r j
theorem p4 (l b:Addr) (items items2:Array Value) (n n2:Nat) (dd dd2:Option Addr) (sl sl2:Array (Option Value)) (e r:Nat→Bool) (k:Nat):
    ∀i:Nat,min items.size items2.size - i=k→Meets (Builtin.«list.__eq__.loop» ⟨[.ref l, .ref b,rawInt i,rawInt 0],[]⟩)
      (fun A R s=>s.heap.get? l=some {cls:= .type "list",dict:=dd,data:= .seq items n,slots:=sl}∧s.heap.get? b=some {cls:= .type "list",dict:=dd2,data:= .seq items2 n2,slots:=sl2}∧
        (∀j (h1:j < items.size) (h2:j < items2.size),EqAt A.in1 s items[j] items2[j] (e j))∧(∀j (h1:j < items.size) (h2:j < items2.size),e j=false→RcLtAt A.in1 s items[j] items2[j] (r j))∧
        R (.ok (.ret (.bool (lE e r (decide (items.size < items2.size)) ((List.range (min items.size items2.size)).drop i))))) s):=by
  induction k with
  | zero=>
    intro i hk prog w A R s h
    obtain ⟨hp,g,d,tk,os⟩:=s;obtain ⟨hl,hb,he,hr,h⟩:=h
    wp_walk using wpAny_loadPart' hl,wpAny_loadPart' hb
    have hd:(List.range (min items.size items2.size)).drop i=[]:=by simp;omega
    rw [hd] at h
    have hi:items[((i:Nat):Int).toNat]? =none∨items2[((i:Nat):Int).toNat]? =none:=by
      simp
      omega
    have fin:R (.ok (.ret (.bool (decide (items.size < items2.size))))) ⟨hp,g,d,tk,os⟩:=h
    rcases h1:items[((i:Nat):Int).toNat]? with _ | x1
    · wp_walk using wpAny_loadPart' hl,wpAny_loadPart' hb
      exact fin
    · rcases h2:items2[((i:Nat):Int).toNat]? with _ | x2
      · wp_walk using wpAny_loadPart' hl,wpAny_loadPart' hb
        exact fin
      · rw [h1,h2] at hi
        rcases hi with hi | hi <;> cases hi
  | succ k ih=>
    intro i hk prog w A R s h
    obtain ⟨hp,g,d,tk,os⟩:=s;obtain ⟨hl,hb,he,hr,h⟩:=h
    wp_walk using wpAny_loadPart' hl,wpAny_loadPart' hb
    have hm:i < min items.size items2.size:=by omega
    have hlt:i < items.size:=by omega
    have hlt2:i < items2.size:=by omega
    have hi1:items[((i:Nat):Int).toNat]? =some items[i]:=by simp [hlt]
    have hi2:items2[((i:Nat):Int).toNat]? =some items2[i]:=by simp [hlt2]
    have hd:(List.range (min items.size items2.size)).drop i=i::(List.range (min items.size items2.size)).drop (i+1):=by simp [List.drop_eq_getElem_cons,hm]
    have hc:((i:Int)+1)=((i+1:Nat):Int):=by push_cast;rfl
    rw [hd,lE] at h
    rw [hi1,hi2]
    refine wpAny_bind (he i hlt hlt2 prog w _ _ ?_)
    cases hb':e i with
    | true=>
      rw [hb',if_pos rfl] at h
      wp_walk
      rw [hc]
      exact ⟨plainId_quiet plain_eq_loop _,codeAny_builtin entry_eq_loop (by
        rw [Around.under_plainId plain_eq_loop _]
        exact ih (i+1) (by omega) prog w A R _ ⟨hl,hb,he,hr,h⟩)⟩
    | false=>
      rw [hb',if_neg (by decide)] at h
      wp_walk using wpAny_loadPart' hl,wpAny_loadPart' hb
      rw [hi1,hi2]
      refine wpAny_bind (hr i hlt hlt2 hb' prog w _ _ ?_)
      wp_walk
      exact h
theorem p5 (l b:Addr) (items items2:Array Value) (n n2:Nat) (dd dd2:Option Addr) (sl sl2:Array (Option Value)) (e r:Nat→Bool):
    Meets (Builtin.«list.__lt__» ⟨[.ref l, .ref b],[]⟩)
      (fun A R s=>s.heap.get? l=some {cls:= .type "list",dict:=dd,data:= .seq items n,slots:=sl}∧s.heap.get? b=some {cls:= .type "list",dict:=dd2,data:= .seq items2 n2,slots:=sl2}∧
        (∀j (h1:j < items.size) (h2:j < items2.size),EqAt A.in1 s items[j] items2[j] (e j))∧(∀j (h1:j < items.size) (h2:j < items2.size),e j=false→RcLtAt A.in1 s items[j] items2[j] (r j))∧
        R (.ok (.ret (.bool (lE e r (decide (items.size < items2.size)) (List.range (min items.size items2.size)))))) s):=by
  intro prog w A R s h
  obtain ⟨hp,g,d,tk,os⟩:=s;obtain ⟨hl,hb,he,hr,h⟩:=h
  have f3:=AutoSeq1.sub_list_list
  wp_walk using wpAny_loadPart' hl,wpAny_loadPart' hb
  exact ⟨plainId_quiet plain_eq_loop _,codeAny_builtin entry_eq_loop (by
    rw [Around.under_plainId plain_eq_loop _]
    exact p4 l b items items2 n n2 dd dd2 sl sl2 e r _ 0 rfl prog w A R _ ⟨hl,hb,he,hr,by simpa using h⟩)⟩
theorem nR (l b:Addr) (items items2:Array Value) (n n2:Nat) (dd dd2:Option Addr) (sl sl2:Array (Option Value)) (e r:Nat→Bool):
    Meets (Builtin.«tuple.__lt__» ⟨[.ref l, .ref b],[]⟩)
      (fun A R s=>s.heap.get? l=some {cls:= .type "tuple",dict:=dd,data:= .seq items n,slots:=sl}∧s.heap.get? b=some {cls:= .type "tuple",dict:=dd2,data:= .seq items2 n2,slots:=sl2}∧
        (∀j (h1:j < items.size) (h2:j < items2.size),EqAt A.in1 s items[j] items2[j] (e j))∧(∀j (h1:j < items.size) (h2:j < items2.size),e j=false→RcLtAt A.in1 s items[j] items2[j] (r j))∧
        R (.ok (.ret (.bool (lE e r (decide (items.size < items2.size)) (List.range (min items.size items2.size)))))) s):=
  .of_wp fun prog w A R s h=>by
    obtain ⟨hp,g,d,tk,os⟩:=s;obtain ⟨hl,hb,he,hr,h⟩:=h
    have f2:=AutoSeq1.sub_tuple_tuple
    have hZ:(items.toList.zip items2.toList).length=min items.size items2.size:=by simp
    wp_walk using wpAny_loadPart' hl,wpAny_loadPart' hb,wpAny_forIn_list _ (fun ce b s'=>b.1=none∧s'=⟨hp,g,d,tk,os⟩∧∃i,ce=(items.toList.zip items2.toList).drop i∧
      R (.ok (.ret (.bool (lE e r (decide (items.size < items2.size)) ((List.range (min items.size items2.size)).drop i))))) ⟨hp,g,d,tk,os⟩) _
    case turn=>
      rintro ⟨y,x⟩ ce b s' ⟨hb',rfl,i,hz,hR⟩
      have hlt:i < (items.toList.zip items2.toList).length:=by
        rcases Nat.lt_or_ge i (items.toList.zip items2.toList).length with h' | h'
        · exact h'
        · rw [List.drop_of_length_le h'] at hz;cases hz
      have hm:i < min items.size items2.size:=hZ▸hlt
      have h1:i < items.size:=Nat.lt_of_lt_of_le hm (Nat.min_le_left _ _)
      have h2:i < items2.size:=Nat.lt_of_lt_of_le hm (Nat.min_le_right _ _)
      rw [List.drop_eq_getElem_cons hlt] at hz
      injection hz with hyx hrest
      have hy:y=items[i]:=by have:=congrArg Prod.fst hyx;simpa using this
      have hx:x=items2[i]:=by have:=congrArg Prod.snd hyx;simpa using this
      subst hy hx
      have hd:(List.range (min items.size items2.size)).drop i=i::(List.range (min items.size items2.size)).drop (i+1):=by simp [List.drop_eq_getElem_cons,hm]
      rw [hd,lE] at hR
      refine wpAny_bind (he i h1 h2 prog w _ _ ?_)
      cases hy:e i with
      | true=>
        rw [hy,if_pos rfl] at hR
        wp_walk
        exact ⟨rfl,rfl,i+1,hrest,hR⟩
      | false=>
        rw [hy,if_neg (by decide)] at hR
        rw [show (!false)=true from rfl,if_pos rfl]
        refine wpAny_bind (wpAny_rule (wpAny_bind (hr i h1 h2 hy prog w _ _ ?_)))
        wp_walk
        exact ⟨_,rfl,hR⟩
    case fin=>
      rintro ⟨b1,b2⟩ s' ⟨hb',rfl,i,hz,hR⟩
      simp only at hb'
      subst hb'
      have hge:min items.size items2.size≤i:=by
        rcases Nat.lt_or_ge i (items.toList.zip items2.toList).length with h' | h'
        · rw [List.drop_eq_getElem_cons h'] at hz;cases hz
        · exact hZ▸h'
      rw [List.drop_of_length_le (by simpa using hge)] at hR
      wp_walk
      exact ⟨_,rfl,hR⟩
    case h=>
      exact ⟨rfl,rfl,0,rfl,by simpa using h⟩
section
variable {A:Around} {s:Shared}
theorem RcLtAt.lists {l b:Addr} {items items2:Array Value} {e r:Nat→Bool} (hl:s.heap.IsList l items) (hb:s.heap.IsList b items2) (hu:A.units < cLine)
    (he:∀j (h1:j < items.size) (h2:j < items2.size),EqAt A.in1 s items[j] items2[j] (e j)) (hr:∀j (h1:j < items.size) (h2:j < items2.size),e j=false→RcLtAt A.in1 s items[j] items2[j] (r j)):RcLtAt A s (.ref l) (.ref b) (lE e r (decide (items.size < items2.size)) (List.range (min items.size items2.size))):=fun prog w E Q h=>by
  obtain ⟨⟨cls,dd,data,sl⟩,ho,hc,n,hd⟩:=id hl
  obtain ⟨⟨cls2,dd2,data2,sl2⟩,ho2,hc2,n2,j7⟩:=id hb
  simp only at hc hd hc2 j7
  subst hc hd hc2 j7
  exact richCompare_meets_room (op:= .Lt) ⟨_,ho,rfl⟩ ⟨_,ho2,rfl⟩ F.slot_list_lt F.entry_list_lt (F.args_list_lt_2 _ _) (p5 l b items items2 n n2 dd dd2 sl sl2 e r)
    ⟨ho,ho2,he,hr,show Value.bool _≠Value.notImplemented∧Q (.bool _) s from ⟨(fun x=>nomatch x),h⟩⟩ hu
theorem RcLtAt.tuples {l b:Addr} {items items2:Array Value} {e r:Nat→Bool} (hl:s.heap.IsTuple l items) (hb:s.heap.IsTuple b items2) (hu:A.units < cLine)
    (he:∀j (h1:j < items.size) (h2:j < items2.size),EqAt A.in1 s items[j] items2[j] (e j)) (hr:∀j (h1:j < items.size) (h2:j < items2.size),e j=false→RcLtAt A.in1 s items[j] items2[j] (r j)):RcLtAt A s (.ref l) (.ref b) (lE e r (decide (items.size < items2.size)) (List.range (min items.size items2.size))):=fun prog w E Q h=>by
  obtain ⟨⟨cls,dd,data,sl⟩,ho,hc,n,hd⟩:=id hl
  obtain ⟨⟨cls2,dd2,data2,sl2⟩,ho2,hc2,n2,j7⟩:=id hb
  simp only at hc hd hc2 j7
  subst hc hd hc2 j7
  exact richCompare_meets_room (op:= .Lt) ⟨_,ho,rfl⟩ ⟨_,ho2,rfl⟩ F.slot_tuple_lt F.entry_tuple_lt (F.args_tuple_lt_2 _ _) (nR l b items items2 n n2 dd dd2 sl sl2 e r)
    ⟨ho,ho2,he,hr,show Value.bool _≠Value.notImplemented∧Q (.bool _) s from ⟨(fun x=>nomatch x),h⟩⟩ hu
theorem RcLtAt.ints (i j:Int) (t u:Tok):RcLtAt A s (.int i t) (.int j u) (decide (i < j)):=fun prog w E Q h=>PyProof.Rows.lt_int h
end
end PL
namespace PL
open PySem PySem.SeqAt L2 Nh
abbrev yz:=PyData→PyData→Option Bool
def Ae:yz
  | .int i, .int j=>some (decide (i < j))
  | .str a, .str b=>some (decide (a.cps.toList < b.cps.toList))
  | _,_=>none
def uK (lt:yz):List PyData→List PyData→Option Bool
  | [],ys=>some (!ys.isEmpty)
  | _::_,[]=>some false
  | x::xs,y::ys=>if PyData.eqv x y then uK lt xs ys else (lt x y).bind fun b=>(uK lt xs ys).map fun _=>b
def Af (lt:yz):yz
  | .list xs, .list ys=>uK lt xs ys
  | .tuple xs, .tuple ys=>uK lt xs ys
  | d,e=>Ae d e
def yT:yz:=Af (Af Ae)
end PL
namespace PL
open PySem L2 Nh
section
variable {X:Cx} {e:Expr} {es:List Expr} {m1:Bool} {g:ix} {p pos:Pos}
def kK:List PyData→Option (List Int)
  | []=>some []
  | .int i::ds=>(kK ds).map (i:: ·)
  | _=>none
def mI:List PyData→Option PyData
  | [.list ds]=>(kK ds).map fun ns=> .int ns.sum
  | _=>none
def wW (K:PySem.W.Frag):List V→Hp→VK→Prop:=fun xs H Q=>∃(p:Addr) (ns:List Int),xs=[.ref p]∧SqL K H p (ns.map V.int)∧Q (.int ns.sum) H
theorem o8 {K:PySem.W.Frag} {H:Hp}:∀{vs:List V} {ds:List PyData} {bs:List Int},RpA K H vs ds→kK ds=some bs→vs=bs.map V.int
  | _,_,bs, .nil,e=>by cases e;rfl
  | _,_,bs, .cons (d:=d) h t,e=>by
    cases d <;> simp [kK] at e
    obtain ⟨cs,e,rfl⟩:=e
    cases h
    rw [o8 t e]
    rfl
theorem wX {K:PySem.W.Frag}:uE K (wW K) mI:=fun ds d vs H Q e r=>by
  unfold mI at e
  split at e
  · obtain ⟨bs,eb,rfl⟩:=Option.map_eq_some_iff.mp e
    obtain ⟨v,rfl,r1⟩:=r.one
    cases r1 with
    | lst h1 h2=>
      have:=o8 h2 eb
      subst this
      exact ⟨_,rfl,fun q=>⟨_,bs,rfl,h1,q⟩⟩
  · cases e
theorem fB:∀{ns:List Int} {us:List Value},Vals (ns.map V.int) us→us.length=ns.length∧∀(i:Nat) (v:Value),us[i]? =some v→∃t,v=Value.int (ns.getD i 0) t
  | [],_, .nil=>⟨rfl,fun i v h=>by simp at h⟩
  | n::ns,_, .cons h t=>by
    obtain ⟨tk,rfl⟩:=h
    obtain ⟨h1,h2⟩:=fB t
    refine ⟨by simp [h1],fun i v h=>?_⟩
    cases i with
    | zero=>simp at h;subst h;exact ⟨tk,rfl⟩
    | succ i=>simpa using h2 i v (by simpa using h)
theorem i4 (ns:List Int):∀k,k≤ns.length→preSum (fun i=>ns.getD i 0) k=(ns.take k).sum
  | 0,_=>by simp [preSum]
  | k+1,h=>by
    have hk:k < ns.length:=by omega
    rw [preSum,i4 ns k (by omega),List.take_add_one,List.getElem?_eq_getElem hk,List.sum_append]
    simp [List.getD_eq_getElem?_getD,hk]
theorem p6 (hc:X.calm=true):CallR X (.builtin "sum") (wW X.K):=by
  intro pins s σ H xs us Q I r h
  obtain ⟨a,ns,rfl,hq,q⟩:=h
  cases r with
  | cons r rr=>
    cases rr
    cases r
    obtain ⟨its,rv,pl,hz⟩:=I.list hq
    obtain ⟨hl,hv⟩:=fB rv
    obtain ⟨o,n,eo,_⟩:=id pl
    have hlt:a < s.heap.objs.size:=Heap.lt_size eo
    refine call_sum_walkG (wpAny_pyIter_list pl.isList ?_)
    refine ⟨s.heap.objs.size,_,_,_,_,_,fun i=>ns.getD i 0,rfl,Walks.list (A:=X.A.in1) (I.ok.hd hc) s.heap.objs.size a (Nat.ne_of_lt hlt) its.toArray,?_,?_,?_,?_⟩
    · exact ⟨⟨_,Heap.get?_push_size _ rfl,rfl,rfl⟩,pl.isList.at fun o e=>Heap.get?_push_of_some _ e⟩
    · intro b hb
      have hsz:∀o,(s.heap.push o).objs.size=s.heap.objs.size+1:=fun o=>by simp [Heap.push]
      show b < (s.heap.push _).objs.size
      rw [hsz]
      rcases List.mem_cons.mp hb with rfl | hb
      · exact Nat.lt_succ_self _
      · have:b=a:=by simpa using hb
        subst this
        exact Nat.lt_succ_of_lt hlt
    · intro i v h
      exact hv i v (by simpa using h)
    · intro h' tk t' hk
      refine ⟨.int _,H,I.kept (t':=tk) fun b o e=>hk b o (fun z=>?_) (Heap.get?_push_of_some _ e),⟨t',rfl⟩,?_⟩
      · have:b=s.heap.objs.size:=by simpa using z
        exact Nat.lt_irrefl _ (this▸Heap.lt_size e)
      · rw [show its.toArray.size=ns.length by simpa using hl,i4 ns _ (Nat.le_refl _),List.take_length]
        exact q
theorem wY (hc:X.calm=true) (hg:Gl X "sum") (hm:X.mg "sum"=none) (ha:AX X [e] m1 g) (he:starEach [e] X.env=[(false,eval e X.env)]:=by rfl):EX X (.Call (.Name "sum" p) [e] [] pos) m1 (bY mI g):=jF (r:=wW X.K) wX (p6 hc) hg hm PyProof.Rows.boot_sum ha (by decide) (by decide) he rfl
end
end PL
namespace PL
open PySem L2 Nh
def lG (g:bz):bz:=fun E=>(g E).bind fun a=>match look a.2 a.1 with
  | some (.list ds)=>if !d5 a.2 a.1||bx ds then some (.sh (.tuple ds),a.2) else none
  | _=>none
section
variable {X:Cx} {e:Expr} {m1:Bool} {f:bz} {p pos:Pos}
theorem sf (hg:Gl X "tuple") (hm:X.mg "tuple"=none) (ha:EX X e m1 f) (he:starEach [e] X.env=[(false,eval e X.env)]:=by rfl):EX X (.Call (.Name "tuple" p) [e] [] pos) m1 (lG f):=by
  refine aY (kx j_ hg hm PyProof.Rows.boot_tuple (cX ha fj he) (by decide) (by decide) he rfl) fun σ H Q z=>?_
  obtain ⟨B,E,xs,Xs,res,E',fr,cl,e,q⟩:=z
  obtain ⟨⟨s,E1⟩,e1,e⟩:=Option.bind_eq_some_iff.mp e
  refine ⟨B,E,xs,Xs,s,E1,fr,cl,e1,fun v1 H1 ⟨F,A,fr1⟩=>?_⟩
  obtain ⟨A',fr2⟩:=fr1.pop
  simp only at e
  split at e
  · rename_i ds ld
    split at e
    · rename_i hc
      cases e
      obtain ⟨a,vs,ev,h1,h2⟩:=fr1.items (k:=0) rfl ld hc
      cases ev
      exact ⟨a,vs,rfl, .inl ⟨h1,fun l hl=>q _ _ ⟨_,_,fr2.newt h2 hl⟩⟩⟩
    · cases e
  · cases e
end
end PL
namespace PL
open PySem L2 Nh
theorem lH {X:Cx} {x:Str} {i:Int} {t:Tok} {pos:Pos} (hg:Gl X x) (hm:X.mg x=some (.int i t)) (hd:(x == ("__debug__":Str))=false:=by decide):EX X (.Name x pos) false (pC (.int i)):=by
  refine aY (oB (v:= .int i) hg hm ⟨t,rfl⟩ hd) fun σ H Q z=>?_
  obtain ⟨B,E,xs,Xs,res,E',⟨F,A,fr⟩,cl,e,q⟩:=z
  cases e
  exact q _ _ ⟨F,A,fr.push ⟨rfl,_,rfl, .int _⟩⟩
end PL
namespace Nh
open PySem L2
theorem NailsOk.stp {r:List Pc} {p:Pc} (h:NailsOk r) (hp:p.1 < 128):NailsOk (NH.stp r p):=by
  cases r with
  | nil=>
    show NailsOk (if p.2=0 then [] else [p])
    split
    · exact h
    · intro q hq;rw [List.mem_singleton.mp hq];exact hp
  | cons x r=>
    rw [NH.fD]
    intro q hq
    rcases List.mem_append.mp hq with h1 | h1
    · unfold NH.j7 at h1
      split at h1
      · split at h1
        · cases h1
        · rw [List.mem_singleton.mp h1];exact hp
      · split at h1
        · rw [List.mem_singleton.mp h1];exact h x (List.mem_cons_self ..)
        · rcases List.mem_cons.mp h1 with h2 | h2
          · rw [h2];exact hp
          · rw [List.mem_singleton.mp h2];exact h x (List.mem_cons_self ..)
    · exact h q (List.mem_cons_of_mem _ h1)
theorem NailsOk.foldl:∀(c:List Pc) {r:List Pc},NailsOk r→NailsOk c→NailsOk (c.foldl NH.stp r)
  | [],_,h,_=>h
  | p::c,_,h,hc=>NailsOk.foldl c (h.stp (hc p (List.mem_cons_self ..))) fun q hq=>hc q (List.mem_cons_of_mem _ hq)
theorem NailsOk.take {c:List Pc} (h:NailsOk c) (i:Nat):NailsOk (c.take i):=fun p hp=>h p (List.mem_of_mem_take hp)
theorem NailsOk.drop {c:List Pc} (h:NailsOk c) (i:Nat):NailsOk (c.drop i):=fun p hp=>h p (List.mem_of_mem_drop hp)
theorem NailsOk.reverse {c:List Pc} (h:NailsOk c):NailsOk c.reverse:=fun p hp=>h p (List.mem_reverse.mp hp)
theorem NailsOk.append {c d:List Pc} (h:NailsOk c) (h':NailsOk d):NailsOk (c++d):=fun p hp=>(List.mem_append.mp hp).elim (h p) (h' p)
theorem NailsOk.contr {c:List Pc} (h:NailsOk c):NailsOk (NH.contr c):=fun p hp=>by
  obtain ⟨q,hq,e⟩:=List.mem_map.mp hp
  subst e
  exact h q (List.mem_reverse.mp hq)
theorem NailsOk.short {c:List Pc} (h:NailsOk c):NailsOk (NH.short c):=(NailsOk.foldl c (fun _ z=>by cases z) h).reverse
end Nh
namespace Nh
open PySem L2 PL
theorem NailsOk.rep {c:List Pc} (h:NailsOk c) (k:Nat):NailsOk (List.replicate k c).flatten:=fun p hp=>by
  obtain ⟨l,hl,hpl⟩:=List.mem_flatten.mp hp
  rw [(List.mem_replicate.mp hl).2] at hpl
  exact h p hpl
theorem NailsOk.cutL {c:List Pc} (h:NailsOk c) (lo hi:Option Int):NailsOk (cutL c lo hi):=fun p hp=>h p (mH hp)
def l4 (i:Int):Nat:=[97,98,99,122].getD i.toNat 97
theorem o9 {i j:Int} (h1: -(2 ^ 64) < i) (h2:i < 2 ^ 64):iV i j=true:=by
  simp only [iV,Bool.or_eq_true,decide_eq_true_eq]
  exact .inl (.inl ⟨h1,h2⟩)
theorem cp (i j:Int):uy (.int i) (.int j)=some (decide (i=j)):=rfl
theorem bo (i j:Str):uy (.str i) (.str j)=some (decide (i=j)):=rfl
theorem eN (a b:Nat):((⟨#[a]⟩:Str)=⟨#[b]⟩)=(a=b):=propext ⟨fun h=>by
  injection h with h
  simpa using congrArg Array.toList h,fun h=>by rw [h]⟩
end Nh
namespace L2
open PySem PySem.Spec PyProof.Rows
def o_ (K:PySem.W.Frag) (h:Heap):Prop:=∀b q,g4 K b=some q→h.get? b=some (PySem.W.tabObj #[])∧(∃c,PySem.W.CodeHd h c b)∧K.lookup b=none
def cG (K:PySem.W.Frag) (a:Addr) (so:Option HO):Hp:=fun b=>match g4 K b with
  | some q=>some (.tbl q)
  | none=>if b=a then so else none
theorem nS {K:PySem.W.Frag} {a b:Addr} {so:Option HO} {q:Str} (e:g4 K b=some q):cG K a so b=some (.tbl q):=by unfold cG;rw [e]
theorem p7 {K:PySem.W.Frag} {a:Addr} {so:Option HO} (e:g4 K a=none):cG K a so a=so:=by unfold cG;rw [e];exact if_pos rfl
theorem d_ {K:PySem.W.Frag} {a b:Addr} {so:Option HO} {u:HO} (e:cG K a so b=some u):(∃q,g4 K b=some q∧u= .tbl q)∨(b=a∧so=some u):=by
  unfold cG at e
  split at e
  · rename_i q h;cases e;exact .inl ⟨q,h,rfl⟩
  · by_cases hb:b=a
    · rw [if_pos hb] at e;exact .inr ⟨hb,e⟩
    · rw [if_neg hb] at e;cases e
section
variable {P:Program} {w:World} {K:PySem.W.Frag} {mg mb:Str→Option Value} {CX:pL} {k:Nat} {fa a:Addr} {fd:FuncData} {x:Str} {sp:Sp} {s₁:Shared} {vs:List Value} {ns:List Int}
theorem uL (KX:K.In s₁.heap) (hns:s₁.heap.Ns mainGlobals mg) (hb:s₁.heap.Ns builtinsNs mb) (hbb:∀x:Str,x≠"__name__"→mb x=bootBuiltins x) (hlim:s₁.heap.NoLimit) (hg:s₁.gens=#[]) (hbm:∃bm ob,mg "__builtins__"=some (.ref bm)∧bm≠builtinsNs∧s₁.heap.get? bm=some ob∧ob.cls= .type "module"∧ob.dict=some builtinsNs∧ob.data= .plain) (hT:o_ K s₁.heap)
    (ha:s₁.heap.get? a=some {cls:= .type "list",data:= .seq vs.toArray}) (hi:IntsAre vs ns) (hl:ns.length≤sizeLine) (hr:Room k callerA)
    (F:∀base:Heap,K.In base→base.Ns mainGlobals mg→FnOk P w K mg base CX k fa fd [x] sp) (hbind:∀(s:Shared) (u:Value),BindsTo s fd ⟨[u],[]⟩ [(x,u)])
    (hsp:∀H:Hp,SqL K H a (ns.map V.int)→sp [.ref a] H (fun v _=>v= .bl true) fun _ _ _=>False)
    (hCX:∀H e s',CX [] H s₁ (fun _ _ _=>False) e s'→False):
    codeAny (model P w) callerA (.call (.ref fa) ⟨[.ref a],[]⟩) (fun r s'=>r= .ok (.ret (.bool true))∧OldK s₁.heap s'.heap∧s'.os=s₁.os∧AllBare s'.gens) s₁:=by
  have rv:=fB hi
  have lenV:=hi.length
  have tabA:g4 K a=none:=by
    cases q:g4 K a with
    | none=>rfl
    | some z=>
      have e:=(hT a z q).1
      rw [ha] at e
      cases e
  have main:∀so:Option HO,(so=none∨(so=some (.frz {cls:= .type "list",data:= .seq vs.toArray} (.lst (ns.map V.int)))∧K.lookup a=none))→SqL K (cG K a so) a (ns.map V.int)→
      codeAny (model P w) callerA (.call (.ref fa) ⟨[.ref a],[]⟩) (fun r s'=>r= .ok (.ret (.bool true))∧OldK s₁.heap s'.heap∧s'.os=s₁.os∧AllBare s'.gens) s₁:=by
    intro so hso hS
    have hok:HOk P w (cG K a so) s₁.heap:=fun b u e=>by
      rcases d_ e with ⟨q,e1,rfl⟩ | ⟨rfl,e1⟩
      · exact ObjOk.tbl0 (hT b q e1).1
      · rcases hso with z | ⟨z,_⟩
        · rw [z] at e1;cases e1
        · rw [z] at e1;cases e1
          exact ⟨ha,by rw [List.length_map];exact hl,vs,_,rv,ha⟩
    have free:∀{b:Addr} {o:Obj} {es:Array DictEntry} {ep:Nat},s₁.heap.get? b=some o→o.data= .dict es ep→cG K a so b=none:=fun {b o es ep} e d=>by
      cases q:cG K a so b with
      | none=>rfl
      | some u=>
        rcases d_ q with ⟨z,e1,_⟩ | ⟨rfl,_⟩
        · rw [(hT b z e1).1] at e;cases e;cases d
        · rw [ha] at e;cases e;cases d
    have nsK:∀{b:Addr} {m:Str→Option Value},s₁.heap.Ns b m→(ma s₁.heap (cG K a so)).Ns b m:=fun {b m} ⟨o,es,ep,e,d,r⟩=>⟨o,es,ep,jq e (free e d),d,r⟩
    have kin:K.In (ma s₁.heap (cG K a so)):=fun b o e=>jq (KX b o e) (by
      cases q:cG K a so b with
      | none=>rfl
      | some u=>
        rcases d_ q with ⟨z,e1,_⟩ | ⟨rfl,e1⟩
        · rw [(hT b z e1).2.2] at e;cases e
        · rcases hso with z | ⟨_,z⟩
          · rw [z] at e1;cases e1
          · rw [z] at e;cases e)
    have bmK:∃bm ob,mg "__builtins__"=some (.ref bm)∧bm≠builtinsNs∧(ma s₁.heap (cG K a so)).get? bm=some ob∧ob.cls= .type "module"∧ob.dict=some builtinsNs∧ob.data= .plain:=by
      obtain ⟨bm,ob,c1,c2,c3,c4,c5⟩:=hbm
      refine ⟨bm,ob,c1,c2,jq c3 ?_,c4,c5⟩
      cases q:cG K a so bm with
      | none=>rfl
      | some u=>
        rcases d_ q with ⟨z,e1,_⟩ | ⟨rfl,_⟩
        · rw [(hT bm z e1).1] at c3;cases c3;cases c4
        · rw [ha] at c3
          cases c3
          injection c4 with c6
          exact absurd c6 (by decide)
    have e0:Env0 P w K mg (ma s₁.heap (cG K a so)) callerA [] s₁ (cG K a so):=
      ⟨rfl,⟨kin,nsK hns,⟨mb,nsK hb,hbb⟩,let ⟨mc,h1,h2⟩:=hlim;⟨mc,nsK h1,h2⟩,bmK⟩,fun b o e=>tN e,Nat.le_of_eq (pD _ _),trivial,fun b hb=>absurd (show b∈([]:List Addr) from hb) (by simp),hok, .of_eq hg,fun b q e=>nS e⟩
    refine codeAny_mono ((F _ kin (nsK hns)).run callerA [] s₁ _ ⟨[.ref a],[]⟩ [.ref a] [.ref a] _ _ hr e0 (hbind s₁ (.ref a)) (.cons rfl .nil) (hsp _ hS)) fun r s' h=>?_
    cases r with
    | error e=>exact (hCX _ e s' h).elim
    | ok fl=>
      cases fl with
      | next=>exact False.elim h
      | brk=>exact False.elim h
      | cont=>exact False.elim h
      | ret u=>
        obtain ⟨v,H',os,bare,un,hok',r',q⟩:=h
        have q':v= .bl true:=q
        subst q'
        obtain rfl:u=Value.bool true:=r'
        have nofs:∀b,b∉gU ([]:List Env):=fun b z=>absurd (show b∈([]:List Addr) from z) (by simp)
        have step:∀b o,s₁.heap.get? b=some o→asItWas s₁.heap s'.heap b o∧∃o',s'.heap.get? b=some o':=fun b o e=>by
          cases q:cG K a so b with
          | none=>exact ⟨.inl (un.keep b o e q (nofs b) (by simp)),_,un.keep b o e q (nofs b) (by simp)⟩
          | some u=>
            rcases d_ q with ⟨z,e1,rfl⟩ | ⟨rfl,e1⟩
            · obtain ⟨t1,⟨c,t2⟩,_⟩:=hT b z e1
              obtain ⟨ps,p1,_⟩:=hok' b _ (un.tbls b z q)
              rw [t1] at e
              cases e
              exact ⟨.inr (.inl ⟨(t2.tab t1).isCodeTable,rfl,#[],ps,rfl,by simpa using p1⟩),_,p1⟩
            · rcases hso with z | ⟨z,_⟩
              · rw [z] at e1;cases e1
              · rw [z] at e1;cases e1
                have z2:=un.frzs b _ _ q
                obtain ⟨e2,_⟩:=hok' b _ z2
                rw [ha] at e;cases e
                exact ⟨.inl e2,_,e2⟩
        exact ⟨rfl,⟨fun b o e=>(step b o e).1,fun b o e=>(step b o e).2⟩,os,bare⟩
  cases hk:K.lookup a with
  | some o=>
    have e:=KX a o hk
    rw [ha] at e
    cases e
    exact main none (.inl rfl) (.inr ⟨_,vs.toArray,_,hk,rfl,rfl,rfl,by rw [List.size_toArray,lenV];exact hl,by simpa using rv⟩)
  | none=>exact main _ (.inr ⟨rfl,hk⟩) (.inl (.inr ⟨_,p7 tabA⟩))
end
theorem si {l:PySem.W.OpenLaw} {n k:Nat} {q:Program} {loose:List Str} {XP:(Str→Option Value)→Heap→Prop} {YP:World→Heap→Prop} {d:DefRec} {K:Params→PySem.W.Frag} {CX:World→pL} {sp:World→Sp} {x:Str}
    (hn:l.most=some n) (hn2:n≤sizeLine) (hdf:d.params.defaults=[]) (hr:Room k callerA)
    (hY:∀(w:World) (h:Heap),YP w h→(K w.params).In h∧o_ (K w.params) h)
    (F:∀(w:World) (mg:Str→Option Value) (fa:Addr) (h:Heap),(K w.params).In h→h.Ns mainGlobals mg→mg d.name=some (.ref fa)→
      ∃fd:FuncData,(∀(s:Shared) (u:Value),BindsTo s fd ⟨[u],[]⟩ [(x,u)])∧
        ∀base:Heap,(K w.params).In base→base.Ns mainGlobals mg→FnOk l.prog w (K w.params) mg base (CX w) k fa fd [x] (sp w))
    (hsp:∀(w:World) (H:Hp) (a:Addr) (ns:List Int),ns.length≤n→SqL (K w.params) H a (ns.map V.int)→sp w [.ref a] H (fun v _=>v= .bl true) fun _ _ _=>False)
    (hCX:∀(w:World) (H:Hp) (s:Shared) (e:Value) (s':Shared),CX w [] H s (fun _ _ _=>False) e s'→False):
    PySem.W.WalkO q loose XP YP l.row.toRowW d [] (fun f vs=>PySem.call f vs):=by
  refine Att.ml hn hdf fun w s₀ s₁ mg mb fa o pm cd doc a vs ns G Y ho hd hcd hmg hobj hints hlen hg=>?_
  obtain ⟨KX,KT⟩:=hY w _ Y
  obtain ⟨fd,hb,hF⟩:=F w mg fa _ KX G.T.g hmg
  exact uL KX G.T.g G.T.b G.T.builtins G.T.nolimit hg G.T.bmain KT hobj hints (Nat.le_trans hlen hn2) hr hF hb (fun H hS=>hsp w H a ns hlen hS) fun H e s'=>hCX w H s₁ e s'
end L2
namespace PL
open PySem L2 Nh
def jL (g:ix):bz:=fun E=>(g E).bind fun a=>(az a.2 a.1).bind fun ds=>if a.1.length≤1000000 then some (.br (.list ds),a.2) else none
theorem uM {X:Cx} {es:List Expr} {m1:Bool} {g:ix} {pos:Pos} (h:AX X es m1 g):EX X (.List es pos) m1 (jL g):=by
  refine aY (qQ h) fun σ H Q z=>?_
  obtain ⟨B,E,xs,Xs,res,E',fr,cl,e,q⟩:=z
  obtain ⟨⟨rs,E1⟩,e1,e⟩:=Option.bind_eq_some_iff.mp e
  obtain ⟨ds,e2,e⟩:=Option.bind_eq_some_iff.mp e
  split at e
  · rename_i hl
    cases e
    refine ⟨B,E,xs,Xs,rs,_,fr,cl,e1,fun vs H1 hv ⟨F,A,fr1⟩=>?_⟩
    obtain ⟨r,A',fr2⟩:=FrF.looks hv fr1 e2
    refine ⟨eD (by simp only at hl;omega),fun p hp=>q _ _ ?_⟩
    have g:=dy hp (.lst vs)
    exact ⟨_,_,(fr2.grow g).push ⟨rfl,_,rfl, .lst (SqL.of upd_same) (r.same g)⟩⟩
  · cases e
def gq:P2:=fun E s1 s2=>(look E s1).bind fun d1=>(look E s2).bind fun d2=>match d1,d2 with
  | .list a, .list b=>if a.length+b.length≤1000000 then some (.br (.list (a++b)),E) else none
  | _,_=>none
theorem sj {K:PySem.W.Frag}:fU K (rj K) gq:=by
  intro B F A σ H E xs Xs v1 v2 s1 s2 res E' Q fr e q
  obtain ⟨d1,e1,e⟩:=Option.bind_eq_some_iff.mp e
  obtain ⟨d2,e2,e⟩:=Option.bind_eq_some_iff.mp e
  have r1:=(fr.look1 e1).1
  have r2:=(fr.look0 e2).1
  obtain ⟨A1,fr1⟩:=fr.pop
  obtain ⟨A2,fr2⟩:=fr1.pop
  split at e
  · rename_i a b
    split at e
    · rename_i hl
      cases e
      cases r1 with
      | @lst l1 us1 _ h1 k1=>
        cases r2 with
        | @lst l2 us2 _ h2 k2=>
          refine .inr (.inr ⟨_,_,_,_,rfl,rfl,h1,h2,eD (by rw [k1.len,k2.len];exact hl),fun p hp=>q _ _ ?_⟩)
          have g:=dy hp (.lst (us1++us2))
          exact ⟨_,_,(fr2.grow g).push ⟨rfl,_,rfl, .lst (SqL.of upd_same) ((k1.same g).append (k2.same g))⟩⟩
    · cases e
  · cases e
section
variable {X:Cx} {a b:Expr} {m1 m2:Bool} {f g:bz} {pos:Pos}
theorem pb (ha:EX X a m1 f) (hb:EX X b m2 g):EX X (.BinOp a .Add b pos) (m1||m2) (ah gq m2 f g):=jB oQ sj ha hb
end
end PL
namespace PL
open PySem PySem.Spec PyProof.Rows L2 Nh
theorem ke:entryFor table "proto.unchain"=some Builtin.«proto.unchain»:=entryFor_of_fast (by kernel_rfl)
section
variable {prog:Program} {w:World} {A:Around} {E:Value→Shared→Prop} {s:Shared}
theorem mJ {id:String} {args:Args} {b:Builtin} {R:Result→Shared→Prop} (hb:entryFor table id=some b)
    (h:wpAny (model prog w) (A.under (.builtin id args)) (b args) (fun fin s'=>match fin with | .done f=>R (.ok f) s' | .again c'=>c'.quiet=true∧codeAny (model prog w) A c' R s') (fun e s'=>R (.error e) s') s):codeAny (model prog w) A (.builtin id args) R s:=by
  refine codeAny_of_tree ?_
  show wpAny _ _ (match entryFor table id with | some b=>b args | none=>unsupported ((withoutEnding? id "#data").getD id)) _ _ s
  rw [hb]
  exact h
theorem sm {e:Value} {ea:Addr} {oe:Obj} {ws:Array Value} {Q:Value→Shared→Prop} (ho:s.heap.get? ea=some oe) (hd:oe.data= .fields ws) (h2:ws[2]? =some .none) (hQ:Q .none s):
    wpAny (model prog w) A (runValue (.builtin "proto.unchain" ⟨[e, .ref ea, .ref ea, .bool false],[]⟩)) Q E s:=by
  refine wpAny_runValue (mJ ke ?_)
  show wpAny _ _ (field (.ref ea) 2 >>= _) _ _ s
  refine wpAny_bind (wpAny_field ho hd h2 ?_)
  exact wpAny_pure hQ
theorem nU {it ea:Addr} {x left step:Int} {oe:Obj} {ws:Array Value} {Q:Option Value→Shared→Prop} (hh:A.handled=some (.ref ea)) (ho:s.heap.get? ea=some oe) (hd:oe.data= .fields ws) (h2:ws[2]? =some .none) (hit:IsRangeIter s.heap it x left step) (hleft:left≤0)
    (hQ:∀h',Heap.ExtBut it s.heap h'→Q none {s with heap:=h'}):wpAny (model prog w) A (pyNext (.ref it)) Q E s:=by
  have hT:s.TypeIs (.ref it) "range_iterator":=⟨_,hit,rfl⟩
  unfold pyNext
  refine wpAny_bind (wpAny_attempt (wpAny_callSpecial?_slot (name:=Str.ofString "__next__") hT F.slot_range_iterator_next
    (wpAny_call_entry F.slot_range_iterator_next hT F.entry_range_iterator_next ?_ (F.args_range_iterator_next_1 _))))
  show wpAny _ _ (field (.ref it) 0 >>= _) _ _ s
  refine wpAny_bind (wpAny_field hit rfl (x:=rawInt x) rfl ?_)
  show wpAny _ _ (field (.ref it) 1 >>= _) _ _ s
  refine wpAny_bind (wpAny_field hit rfl (x:=rawInt left) rfl ?_)
  show wpAny _ _ (field (.ref it) 2 >>= _) _ _ s
  refine wpAny_bind (wpAny_field hit rfl (x:=rawInt step) rfl ?_)
  show wpAny _ _ (if left≤0 then _ else _) _ _ s
  rw [if_pos hleft]
  refine wpAny_bind (wpAny_rule ?_)
  refine wpAny_bind ?_
  show wpAny _ _ (newExc (.type "StopIteration") [] >>= _) _ _ _
  refine wpAny_bind ?_
  simp only [newExc,newTuple]
  refine wpAny_bind (wpAny_newObj_type ?_ (by size_fits))
  refine wpAny_bind (m:=firstArgMember _ _) (wpAny_of_eq (a:=Value.none) (by first | rfl | (simp only [firstArgMember];rfl)) ?_)
  refine wpAny_newObj_type ?_ (by size_fits)
  simp only [raiseNew]
  refine wpAny_bind (wpAny_handled ?_)
  first | rw [show A.in1.handled=some (.ref ea) from hh] | rw [hh]
  simp only
  have hlt:=Heap.lt_size ho
  rw [if_pos (by rw [bne_iff_ne];intro z;injection z with z;rw [z,Heap.size_push] at hlt;exact absurd (Nat.lt_of_succ_lt hlt) (Nat.lt_irrefl _))]
  refine wpAny_bind (wpAny_holding (sm (Heap.get?_push_of_some _ (Heap.get?_push_of_some _ ho)) hd h2 ?_))
  show wpAny _ _ (setField (.ref _) 2 (.ref ea) >>= _) _ _ _
  have hn:=Heap.get?_push_size (s.heap.push {cls:=Value.type "tuple",data:=Data.seq #[]}) (o:={cls:=Value.type "StopIteration",data:=Data.fields (#[Value.ref s.heap.objs.size,Value.none,Value.none,Value.none,Value.bool false,Value.none]++ownMembersOf (Value.type "StopIteration") [])}) rfl
  refine wpAny_bind (wpAny_setField hn rfl (by rw [Array.size_append];exact Nat.lt_of_lt_of_le (by decide) (Nat.le_add_right 6 _)) (wpAny_throw ?_))
  refine wpAny_bind (wpAny_isInstance (T:="StopIteration") (b:=true) ⟨_,Heap.get?_update_self _ hn (Obj.isFreed_of_fields (Obj.data_mapFields rfl _)),rfl⟩ isSubtype_stop ?_)
  refine wpAny_pure (hQ _ fun b o hb e=>?_)
  have:=Heap.lt_size e
  rw [Heap.get?_update_other _ _ (by rw [Heap.size_push];intro z;rw [←z] at this;exact absurd (Nat.lt_of_succ_lt this) (Nat.lt_irrefl _))]
  exact Heap.get?_push_of_some _ (Heap.get?_push_of_some _ e)
end
end PL
namespace PL
open PySem PySem.Spec PyProof.Rows L2 Nh PySem.W PySem.Calls Builtin Builtin.ObjectAttr Builtin.Getset_descriptor
structure ExCls (K:Frag) (C:Addr):Prop where
  cls:∃cd,clsIn K C=some cd
  ga:findIn K (.ref C) "__getattribute__"=some (some (.builtin "BaseException.__getattribute__"))
  gt:findIn K (.ref C) "__getattr__"=some none
  ca:findIn K (.ref C) "__class__"=some (some (.builtin "object.__class__"))
  mb:mroIn K C (.type "BaseException")=some true
  mo:mroIn K C (.type "object")=some true
section
variable {K:Frag} {a C:Addr} {M:Model} {h:Heap}
theorem iF (p:eJ a C h):Looks M h (typeOf (.ref a)) (.ref C):=by
  obtain ⟨o,h1,h2⟩:=p
  exact h2▸(Looks.ld h1).andThen .now
theorem uN {prog:Program} {w:World} {A:Around} {R:Result→Shared→Prop} {s:Shared} {tp:Value} (Z:ExCls K C) (X:K.In s.heap) (I:eJ a C s.heap) (h:R (.ok (.ret (.ref C))) s):
    codeAny (model prog w) A (.call (.builtin "getset_descriptor.__get__") ⟨[.builtin "object.__class__", .ref a,tp],[]⟩) R s:=by
  obtain ⟨hh,g,dr,t,os⟩:=s
  have L0:=iF (M:=model prog w) I
  have L1:=looks_mroIn (M:=model prog w) X Z.mo
  refine codeAny_call_builtin KF.slot_gs.plain KF.entry_gs (KF.slot_gs.check _ _ _ _ _ _ _ _ KF.type_class (KF.args_gs _ _ _) ?_)
  unfold Builtin.«getset_descriptor.__get__» descrGet
  rw [dga_obj]
  refine wpAny_bind (wpAny_pure ?_)
  unfold descrGetter descrCheckInstance descrNameAndClass isInstance
  simp only [KF.owner_class]
  repeat lk
  refine ⟨Code.quiet_builtin _ (by decide+kernel),codeAny_builtin KF.entry_class ?_⟩
  unfold Builtin.«object.__class__» shownTypeOf
  repeat lk
  exact h
theorem p8 {prog:Program} {w:World} {A:Around} {E:Value→Shared→Prop} {Q:Fin→Shared→Prop} {s:Shared} {tk:Tok} (Z:ExCls K C) (X:K.In s.heap) (I:eJ a C s.heap) (h:Q (.done (.ret (.ref C))) s):
    wpAny (model prog w) A (Builtin.«object.__getattribute__» ⟨[.ref a, .str "__class__" tk],[]⟩) Q E s:=by
  obtain ⟨hh,g,dr,t,os⟩:=s
  have L0:=iF (M:=model prog w) I
  have L1:=looks_findIn (M:=model prog w) X Z.ca
  have hT5:(⟨hh,g,dr,t,os⟩:Shared).TypeIs (.builtin "object.__class__") "getset_descriptor":=F.typeOf_object_class
  have f5:=F.typeOf_object_class
  have f6:=F.slot_gs_get.lookup
  have f7:=F.slot_gs_set.lookup
  repeat (any_goals (first | assumption | with_reducible refine L0.at ?_ | with_reducible refine L1.at ?_ | wp_step))
  refine uN Z X I ?_
  repeat (any_goals (first | assumption | wp_step))
theorem p9 {A:Around} {E:Value→Shared→Prop} {nameV:Value} {Q:Unit→Shared→Prop} {s:Shared} (Z:ExCls K C) (X:K.In s.heap) (I:eJ a C s.heap) (hq:Q () s):wpAny M A (checkBuiltinCall "BaseException.__getattribute__" ⟨[.ref a,nameV],[]⟩) Q E s:=by
  obtain ⟨hh,g,dr,t,os⟩:=s
  have L0:=iF (M:=M) I
  have L1:=looks_mroIn (M:=M) X Z.mb
  have hk:builtinKind "BaseException.__getattribute__"=some .slot:=by decide+kernel
  have hsplit:splitId "BaseException.__getattribute__"=some ("BaseException","__getattribute__"):=by decide+kernel
  have ha:=F.args_bexc_ga (.ref a) nameV
  simp only [checkBuiltinCall,hk,hsplit]
  refine wpAny_bind ?_
  unfold isInstance
  repeat (first | with_reducible refine L0.at ?_ | with_reducible refine L1.at ?_ | wp_step)
  exact hq
theorem wZ {prog:Program} {w:World} {A:Around} {E:Value→Shared→Prop} {Q:Value→Shared→Prop} {s:Shared} {tk:Tok} {fill expr:Bool} (Z:ExCls K C) (X:K.In s.heap) (I:eJ a C s.heap) (hq:Q (.ref C) s):
    wpAny (model prog w) A (getAttrBy (.ref a) (.str "__class__" tk) fill expr) Q E s:=by
  obtain ⟨hh,g,dr,t,os⟩:=s
  have L0:=iF (M:=model prog w) I
  have L1:=looks_findIn (M:=model prog w) X Z.ga
  have L2:=looks_findIn (M:=model prog w) X Z.gt
  have f3:=F.attr_ValueError.ga.bind (.ref a)
  have hx0:(expr&&onTheHeap (Value.builtin "BaseException.__getattribute__"))=false:=by cases expr <;> rfl
  have hx2:(Value.builtin "BaseException.__getattribute__" == Value.builtin "object.__getattribute__")=false:=by decide+kernel
  have hx1:(onTheHeap (Value.ref C)&&Value.builtin "BaseException.__getattribute__" == Value.builtin "object.__getattribute__")=false:=by rw [hx2];rfl
  repeat (any_goals (first | assumption | with_reducible refine L0.at ?_ | with_reducible refine L1.at ?_ | with_reducible refine L2.at ?_ | wp_step))
  refine codeAny_call_builtin F.attr_ValueError.ga.plain F.entry_bexc_ga (p9 Z X I (p8 Z X I ?_))
  repeat (any_goals (first | assumption | wp_step))
theorem sq {prog:Program} {w:World} {A:Around} {E:Value→Shared→Prop} {Q:Option Value→Shared→Prop} {s:Shared} (Z:ExCls K C) (X:K.In s.heap) (I:eJ a C s.heap) (hq:Q (some (.ref C)) {s with toks:=s.toks+1}):
    wpAny (model prog w) A (getAttr? (.ref a) "__class__") Q E s:=by
  obtain ⟨hh,g,dr,t,os⟩:=s
  unfold getAttr?
  repeat (any_goals (first | assumption | with_reducible apply wZ (s:=⟨hh,g,dr,t+1,os⟩) Z X I | wp_step))
theorem sr (Z:ExCls K C):KitX K (.ref a) (.ref C) (eJ a C) where
  ty:=fun _ _ _ I=>iF I
  it:=fun _ _ X _=>by
    obtain ⟨cdD,hcD⟩:=Z.cls
    unfold clsIn at hcD
    split at hcD
    · rename_i c' d' cd' sl' ho
      intro A' Q' E' s' k q
      unfold isType loadHead
      exact wpAny_bind (wpAny_loadPart (k _ _ (X _ _ ho)) (wpAny_pure q))
    · cases hcD
  ne:=fun h tp dd its n sl X htp=>by
    obtain ⟨cdD,hcD⟩:=Z.cls
    refine Bool.eq_false_iff.mpr fun q=>?_
    have e:C=tp:=Value.ref.inj (beq_iff_eq.mp q)
    subst e
    unfold clsIn at hcD
    split at hcD
    · rename_i c' d' cd' sl' ho
      have z:=(X _ _ ho).symm.trans htp
      cases z
    · cases hcD
  ca:=fun X I k=>sq Z X I k
end
end PL
namespace PL
open PySem PySem.Spec PyProof.Rows L2 Nh
def Ctx0 (e:Addr) (h:Heap):Prop:=∃o vs,h.get? e=some o∧o.data= .fields vs∧vs[2]? =some .none
def K2 (f:Obj→Obj):Prop:=∀o vs,o.data= .fields vs→∃ws,(f o).data= .fields ws∧ws[2]? =vs[2]?
def Tm {α:Type}:Sem α→Prop
  | .pure _=>True
  | .raise _=>True
  | .unsupported _=>True
  | .rule _ k=>Tm (k ())
  | .at _ k=>Tm (k ())
  | .load _ _ k=>∀o,Tm (k o)
  | .update _ _ f k=>K2 f∧Tm (k ())
  | .loadIfAlive _ k=>∀o,Tm (k o)
  | .point _ k=>Tm (k ())
  | .alloc _ k=>∀a,Tm (k a)
  | .fresh k=>∀t,Tm (k t)
  | .handled _ k=>∀x,Tm (k x)
  | .stack k=>∀x,Tm (k x)
  | _=>False
theorem Tm.bind {α β:Type} {k:α→Sem β} (hk:∀a,Tm (k a)):∀{t:Sem α},Tm t→Tm (t >>= k)
  | .pure a,_=>hk a
  | .raise _,_=>trivial
  | .unsupported _,_=>trivial
  | .rule _ f,h=>Tm.bind hk (t:=f ()) h
  | .at _ f,h=>Tm.bind hk (t:=f ()) h
  | .load _ _ f,h=>fun o=>Tm.bind hk (t:=f o) (h o)
  | .update _ _ g f,h=>⟨h.1,Tm.bind hk (t:=f ()) h.2⟩
  | .loadIfAlive _ f,h=>fun o=>Tm.bind hk (t:=f o) (h o)
  | .point _ f,h=>Tm.bind hk (t:=f ()) h
  | .alloc _ f,h=>fun a=>Tm.bind hk (t:=f a) (h a)
  | .fresh f,h=>fun a=>Tm.bind hk (t:=f a) (h a)
  | .handled _ f,h=>fun a=>Tm.bind hk (t:=f a) (h a)
  | .stack f,h=>fun a=>Tm.bind hk (t:=f a) (h a)
  | .finish _,h=>h.elim
  | .register _ _,h=>h.elim
  | .ask _,h=>h.elim
  | .choose _ _ _,h=>h.elim
  | .os _ _ _,h=>h.elim
  | .call _ _ _ _ _,h=>h.elim
  | .newGen _ _,h=>h.elim
  | .genState _ _,h=>h.elim
  | .resume _ _ _ _,h=>h.elim
  | .yield _ _ _ _,h=>h.elim
  | .fork _ _,h=>h.elim
  | .thread _,h=>h.elim
  | .await _ _ _ _ _,h=>h.elim
theorem Ctx0.upd {e a:Addr} {h:Heap} {f:Obj→Obj} (x:Ctx0 e h) (k:K2 f):Ctx0 e (h.update a f):=by
  obtain ⟨o,vs,ho,hd,h2⟩:=x
  by_cases q:a=e
  · subst q
    obtain ⟨ws,hw,e2⟩:=k o vs hd
    exact ⟨_,ws,Heap.get?_update_self f ho (Obj.isFreed_of_fields hw),hw,e2.trans h2⟩
  · exact ⟨o,vs,(Heap.get?_update_other _ _ q).trans ho,hd,h2⟩
theorem gr {α:Type} {M:Model} {Γ:PySem.Ctx} {Q:α→Pos→Shared→Prop} {E:Value→Pos→Shared→Prop} {e:Addr}:∀{t:Sem α} {p:Pos} {s:Shared},Tm t→Ctx0 e s.heap→Sem.wp M Γ t Q E p s→Sem.wp M Γ t (fun a p s'=>Q a p s'∧Ctx0 e s'.heap) (fun x p s'=>E x p s'∧Ctx0 e s'.heap) p s
  | .pure a,p,s,_,c,h=>by rw [Sem.wp] at h ⊢;exact ⟨h,c⟩
  | .raise _,p,s,_,c,h=>by rw [Sem.wp] at h ⊢;exact ⟨h,c⟩
  | .unsupported _,p,s,_,c,h=>by rw [Sem.wp] at h;exact h.elim
  | .rule _ f,p,s,t,c,h=>by rw [Sem.wp] at h ⊢;exact gr (t:=f ()) t c h
  | .at _ f,p,s,t,c,h=>by rw [Sem.wp] at h ⊢;exact gr (t:=f ()) t c h
  | .load _ _ f,p,s,t,c,h=>by rw [Sem.wp] at h ⊢;obtain ⟨o,ho,h⟩:=h;exact ⟨o,ho,gr (t:=f o) (t o) c h⟩
  | .update _ _ g f,p,s,t,c,h=>by rw [Sem.wp] at h ⊢;exact ⟨h.1,gr (t:=f ()) t.2 (c.upd t.1) h.2⟩
  | .loadIfAlive _ f,p,s,t,c,h=>by rw [Sem.wp] at h ⊢;exact gr (t:=f _) (t _) c h
  | .point _ f,p,s,t,c,h=>by rw [Sem.wp] at h ⊢;exact gr (t:=f ()) t c h
  | .alloc _ f,p,s,t,c,h=>by rw [Sem.wp] at h ⊢;exact gr (t:=f _) (t _) (let ⟨o,vs,ho,r⟩:=c;⟨o,vs,Heap.get?_push_of_some _ ho,r⟩) h
  | .fresh f,p,s,t,c,h=>by rw [Sem.wp] at h ⊢;exact gr (t:=f _) (t _) c h
  | .handled _ f,p,s,t,c,h=>by rw [Sem.wp] at h ⊢;exact gr (t:=f _) (t _) c h
  | .stack f,p,s,t,c,h=>by rw [Sem.wp] at h ⊢;exact gr (t:=f _) (t _) c h
  | .finish _,_,_,h,_,_=>h.elim
  | .register _ _,_,_,h,_,_=>h.elim
  | .ask _,_,_,h,_,_=>h.elim
  | .choose _ _ _,_,_,h,_,_=>h.elim
  | .os _ _ _,_,_,h,_,_=>h.elim
  | .call _ _ _ _ _,_,_,h,_,_=>h.elim
  | .newGen _ _,_,_,h,_,_=>h.elim
  | .genState _ _,_,_,h,_,_=>h.elim
  | .resume _ _ _ _,_,_,h,_,_=>h.elim
  | .yield _ _ _ _,_,_,h,_,_=>h.elim
  | .fork _ _,_,_,h,_,_=>h.elim
  | .thread _,_,_,h,_,_=>h.elim
  | .await _ _ _ _ _,_,_,h,_,_=>h.elim
theorem su {α:Type} {M:Model} {A:Around} {Q:α→Shared→Prop} {E:Value→Shared→Prop} {e:Addr} {t:Sem α} {s:Shared} (T:Tm t) (c:Ctx0 e s.heap) (h:wpAny M A t Q E s):wpAny M A t (fun a s'=>Q a s'∧Ctx0 e s'.heap) (fun x s'=>E x s'∧Ctx0 e s'.heap) s:=fun Γ p hΓ=>gr T c (h Γ p hΓ)
theorem p_ (v:Value):Tm (fieldsOf v):=by
  unfold fieldsOf
  split
  · refine Tm.bind (fun o=>?_) (fun o=>trivial)
    split <;> trivial
  · trivial
theorem ib (v:Value) (i:Nat):Tm (field v i):=by
  unfold field
  refine Tm.bind (fun vs=>?_) (p_ v)
  split <;> trivial
theorem sw {i:Nat} {x:Value} (h:i≠2):K2 (Obj.mapFields (·.setIfInBounds i x)):=fun o vs hd=>⟨_,Obj.data_mapFields hd _,by rw [Array.getElem?_setIfInBounds_ne h]⟩
theorem nV (v:Value) {i:Nat} (x:Value) (h:i≠2):Tm (setField v i x):=by
  unfold setField
  split
  · unfold updateField
    refine Tm.bind (fun o=>?_) (fun o=>trivial)
    split
    · split
      · exact ⟨sw h,trivial⟩
      · trivial
    · trivial
  · trivial
theorem qa (env:Env) (outer:List Env):Tm (behindIsImport env outer):=by
  unfold behindIsImport
  split
  · trivial
  · split
    · trivial
    · refine Tm.bind (fun a=>?_) (ib _ _)
      trivial
theorem sx:Tm underTheClaimsCaller:=by
  unfold underTheClaimsCaller
  refine Tm.bind (fun a=>?_) (fun a=>?_)
  · trivial
  · trivial
theorem uO (env:Env) (b:Bool) (outer:List Env):Tm (keptBack env b outer):=by
  cases outer with
  | nil=>
    show Tm (if _ then _ else _)
    by_cases h:(env.scope.isGenerator||env.scope.isCoroutine)=true
    · rw [if_pos h];trivial
    · rw [if_neg h]
      refine Tm.bind (fun a=>?_) sx
      trivial
  | cons c r=>trivial
theorem mK:∀l:List Env,Tm (readyFrames l)
  | []=>trivial
  | env::outer=>by
    unfold readyFrames
    split
    · refine Tm.bind (fun o=>?_) (fun o=>?_)
      · split
        · trivial
        · refine Tm.bind (fun _=>?_) (qa _ _)
          refine Tm.bind (fun _=>?_) (uO _ _ _)
          refine Tm.bind (fun _=>mK outer) ?_
          exact ⟨fun o vs hd=>⟨vs,hd,rfl⟩,trivial⟩
      · trivial
    · trivial
theorem nW (env:Env):Tm (PySem.frameOf env):=by
  unfold PySem.frameOf
  refine Tm.bind (fun l=>?_) ?_
  · refine Tm.bind (fun o=>?_) ?_
    · split <;> trivial
    · generalize List.dropWhile _ _=l
      cases l with
      | nil=>trivial
      | cons e r=>
        refine Tm.bind (fun _=>?_) (mK _)
        trivial
  · refine Tm.bind (fun a=>?_) (fun a=>?_)
    · trivial
    · trivial
theorem sy (f:Addr) (b:Bool):Tm (entryPlaceOf f b):=by
  unfold entryPlaceOf
  refine Tm.bind (fun l=>?_) (fun _=>?_)
  · split <;> trivial
  · trivial
theorem w5 (ty:String) (vs:List Value):Tm (newFields ty vs):=by
  show Tm (if _ then _ else _)
  split
  · trivial
  · refine Tm.bind (fun _=>?_) (fun _=>?_)
    · trivial
    · trivial
theorem lI (e:Value) (env:Env):Tm (noteFrame e env):=by
  have last:∀(hd:Value) (f:Addr),Tm (do setField e 1 (←EntryCells.newEntry hd (←PySem.frameOf env) .none (rawInt f) .none (←entryPlaceOf f (hd != .none)))):=fun hd f=>by
    refine Tm.bind (fun fr=>?_) (nW _)
    refine Tm.bind (fun pl=>?_) (sy _ _)
    refine Tm.bind (fun en=>?_) (w5 _ _)
    exact nV _ _ (by decide)
  unfold noteFrame
  split
  · refine Tm.bind (fun hd=>?_) (ib _ _)
    split
    · refine Tm.bind (fun w=>?_) (ib _ _)
      split
      · trivial
      · refine Tm.bind (fun _=>last _ _) (nV _ _ (by decide))
    · exact last _ _
  · trivial
theorem iG (e:Value):Tm (setFlight e none):=by
  unfold setFlight
  refine Tm.bind (fun tb=>?_) (ib _ _)
  split
  · exact nV _ _ (by decide)
  · trivial
theorem jM (env:Env) (e:Value):Tm (leaving env e):=by
  unfold leaving
  exact Tm.bind (fun _=>iG e) (lI e env)
def FlyC (base:Heap) (l:List Env) (e:Addr) (cls a0:Value) (h:Heap):Prop:=base.StaysIn h∧base.get? e=none∧h.FunFrames base l∧h.TracedW base e cls a0∧Ctx0 e h
def HeldC (base:Heap) (l:List Env) (e:Addr) (cls a0:Value) (L:Addr) (h:Heap):Prop:=base.StaysIn h∧base.get? e=none∧h.FunFrames base l∧h.TracedAtW base e cls a0 (rawInt L)∧Ctx0 e h
section
variable {M:Model} {A:Around} {E:Value→Shared→Prop} {s:Shared} {base:Heap} {env:Env} {outer l:List Env} {L e:Addr} {cls a0:Value} {Q:Unit→Shared→Prop} {h:Heap}
theorem FlyC.to (x:FlyC base l e cls a0 h):Heap.FlyingW base l e cls a0 h:=⟨x.1,x.2.1,x.2.2.1,x.2.2.2.1⟩
theorem FlyC.of (x:Heap.FlyingW base l e cls a0 h) (c:Ctx0 e h):FlyC base l e cls a0 h:=⟨x.1,x.2.1,x.2.2.1,x.2.2.2,c⟩
theorem HeldC.to (x:HeldC base l e cls a0 L h):Heap.HeldW base l e cls a0 L h:=⟨x.1,x.2.1,x.2.2.1,x.2.2.2.1⟩
theorem HeldC.of (x:Heap.HeldW base l e cls a0 L h) (c:Ctx0 e h):HeldC base l e cls a0 L h:=⟨x.1,x.2.1,x.2.2.1,x.2.2.2,c⟩
theorem FlyC.there (x:FlyC base l e cls a0 h):∃ob,h.get? e=some ob∧ob.cls=cls:=x.to.there
theorem FlyC.first (x:FlyC base l e cls a0 h):∃oe vs,h.get? e=some oe∧oe.cls=cls∧oe.data= .fields vs∧vs[0]? =some a0:=x.to.first
theorem HeldC.there (x:HeldC base l e cls a0 L h):∃ob,h.get? e=some ob∧ob.cls=cls:=x.to.there
theorem kL {t:Sem Unit} {P:Heap→Prop} (T:Tm t) (c:Ctx0 e s.heap) (k:∀{Q:Unit→Shared→Prop},(∀h',P h'→Q () {s with heap:=h'})→wpAny M A t Q E s) (hQ:∀h',P h'→Ctx0 e h'→Q () {s with heap:=h'}):wpAny M A t Q E s:=
  wpAny_mono (su T c (k (Q:=fun _ s'=>∃h',P h'∧s'={s with heap:=h'}) fun h' p=>⟨h',p,rfl⟩)) (fun _ s' ⟨⟨h',p,z⟩,c'⟩=>by subst z;exact hQ h' p c') fun _ _ z=>z.1
theorem jN (hfr:A.frames=some (env::outer)) (hf:env.frame=some L) (hfl:FlyC base (env::outer) e cls a0 s.heap) (hQ:∀h',FlyC base outer e cls a0 h'→s.heap.UpToSlots h'→Q () {s with heap:=h'}):wpAny M A (leaving env (.ref e)) Q E s:=
  kL (P:=fun h'=>Heap.FlyingW base outer e cls a0 h'∧s.heap.UpToSlots h') (jM _ _) hfl.2.2.2.2 (fun k=>wpAny_leaves_onW hfr hf hfl.to fun h' a b=>k h' ⟨a,b⟩) fun h' p c=>hQ h' (.of p.1 c) p.2
theorem kM (hfr:A.frames=some (env::outer)) (hf:env.frame=some L) (hfl:FlyC base (env::outer) e cls a0 s.heap) (hQ:∀h',HeldC base (env::outer) e cls a0 L h'→s.heap.UpToSlots h'→Q () {s with heap:=h'}):wpAny M A (noteFrame (.ref e) env) Q E s:=
  kL (P:=fun h'=>Heap.HeldW base (env::outer) e cls a0 L h'∧s.heap.UpToSlots h') (lI _ _) hfl.2.2.2.2 (fun k=>wpAny_looks_onW hfr hf hfl.to fun h' a b=>k h' ⟨a,b⟩) fun h' p c=>hQ h' (.of p.1 c) p.2
theorem sC (hh:HeldC base l e cls a0 L s.heap) (hQ:∀h',FlyC base l e cls a0 h'→s.heap.UpToSlots h'→Q () {s with heap:=h'}):wpAny M A (setFlight (.ref e) none) Q E s:=
  kL (P:=fun h'=>Heap.FlyingW base l e cls a0 h'∧s.heap.UpToSlots h') (iG _) hh.2.2.2.2 (fun k=>wpAny_landsW hh.to fun h' a b=>k h' ⟨a,b⟩) fun h' p c=>hQ h' (.of p.1 c) p.2
theorem lJ (hh:FlyC base l e cls a0 s.heap) (hQ:∀h',FlyC base l e cls a0 h'→s.heap.UpToSlots h'→Q () {s with heap:=h'}):wpAny M A (setFlight (.ref e) none) Q E s:=
  kL (P:=fun h'=>Heap.FlyingW base l e cls a0 h'∧s.heap.UpToSlots h') (iG _) hh.2.2.2.2 (fun k=>lands_againW hh.to fun h' a b=>k h' ⟨a,b⟩) fun h' p c=>hQ h' (.of p.1 c) p.2
theorem mL {args:List Value} {h':Heap} (hx:Heap.MadeExcOf h h' e cls args):Ctx0 e h':=let ⟨_,he,_⟩:=hx.there;⟨_,_,he,rfl,rfl⟩
theorem lK {args:List Value} (hfr:A.frames=some (env::outer)) (hf:env.frame=some L) (hkb:base.StaysIn h) (hl:h.FunFrames base (env::outer)) (hx:Heap.MadeExcOf h s.heap e cls args)
    (hQ:∀h' t,FlyC base outer e cls (.ref t) h'→h'.TupAt t args→base.get? t=none→s.heap.UpToSlots h'→Q () {s with heap:=h'}):wpAny M A (leaving env (.ref e)) Q E s:=
  kL (P:=fun h'=>∃t,Heap.FlyingW base outer e cls (.ref t) h'∧h'.TupAt t args∧base.get? t=none∧s.heap.UpToSlots h') (jM _ _) (mL hx) (fun k=>wpAny_leaves_madeW hfr hf hkb hl hx fun h' t a b c d=>k h' ⟨t,a,b,c,d⟩) fun h' ⟨t,a,b,c,d⟩ z=>hQ h' t (.of a z) b c d
end
end PL
namespace PL
open PySem PySem.Spec PyProof.Rows L2 Nh
structure UnB (fs:List Addr) (H H':Hp) (h B h':Heap):Prop where
  keep:∀b o,h.get? b=some o→H b=none→b∉fs→B.get? b=some o
  slot:∀b o,h.get? b=some o→H b=none→b∈fs→∃sl,h'.get? b=some {o with slots:=sl}
  free:∀b o,h.get? b=some o→H b=none→H' b=none
  there:∀b o,h.get? b=some o→b∉fs→∃o',B.get? b=some o'
  tups:∀b xs,H b=some (.tup xs)→H' b=some (.tup xs)
  frzs:∀b o u,H b=some (.frz o u)→H' b=some (.frz o u)
  tbls:∀b ps,H b=some (.tbl ps)→H' b=some (.tbl ps)
theorem UnB.un {fs:List Addr} {H H':Hp} {h B h':Heap} (u:UnB fs H H' h B h') (st:B.StaysIn h') (hf:∀b∈fs,H b=none):Un fs [] H H' h h':=
  ⟨fun b o e n hb _=>st b o (u.keep b o e n hb),fun b o e n hb _=>u.slot b o e n hb,fun b o e n _=>u.free b o e n,fun b o e _=>by
    by_cases hb:b∈fs
    · obtain ⟨sl,z⟩:=u.slot b o e (hf b hb) hb
      exact ⟨_,z⟩
    · obtain ⟨o',z⟩:=u.there b o e hb
      exact ⟨o',st b o' z⟩,u.tups,u.frzs,u.tbls⟩
theorem UnB.on {l:List Env} {H H':Hp} {h B h' h2:Heap} (u:UnB (gU l) H H' h B h') (ff:h'.FunFrames B l) (k:h'.UpToSlots h2):UnB (gU l) H H' h B h2:=
  ⟨u.keep,fun b o e n hb=>by
    obtain ⟨sl,z⟩:=u.slot b o e n hb
    obtain ⟨_,o',ho',hd⟩:=ff.mem hb
    rw [z] at ho'
    cases ho'
    obtain ⟨sl2,z2⟩:=k b _ z hd
    exact ⟨sl2,z2⟩,u.free,u.there,u.tups,u.frzs,u.tbls⟩
theorem UnB.out {X:Cx} {pins:List (Addr×Obj)} {σ:L2.St} {H H':Hp} {s:Shared} {B h':Heap} (I:Inv X pins σ H s) (hx:X.ex=[]) (u:UnB (gU X.stack) H H' s.heap B h'):UnB X.fs X.H₀ H' X.s₀.heap B h':=by
  have nx:∀b:Addr,b∉X.ex:=fun b z=>by rw [hx] at z;cases z
  have ne:∀b o,X.s₀.heap.get? b=some o→b≠X.env.locals:=fun b o e=>Nat.ne_of_lt (Nat.lt_of_lt_of_le (Heap.lt_size e) I.ok.above)
  have nf:∀b o,X.s₀.heap.get? b=some o→b∉X.fs→b∉gU X.stack:=fun b o e hb z=>(List.mem_cons.mp (I.stkSub b z)).elim (ne b o e) hb
  refine ⟨fun b o e n hb=>u.keep b o (I.base.keep b o e n hb (nx b)) (I.base.free b o e n (nx b)) (nf b o e hb),fun b o e n hb=>?_,fun b o e n=>?_,fun b o e hb=>?_,fun b xs e=>u.tups b xs (I.base.tups b xs e),fun b o v e=>u.frzs b o v (I.base.frzs b o v e),fun b ps e=>u.tbls b ps (I.base.tbls b ps e)⟩
  · obtain ⟨sl,z⟩:=I.base.slot b o e n hb (nx b)
    have hb':b∈gU X.stack:=by
      rcases I.ok.stk with q | ⟨q,hf⟩
      · rw [q];exact hb
      · rw [q];unfold gU;rw [List.filterMap_cons,hf];exact List.mem_cons_of_mem _ hb
    obtain ⟨sl2,z2⟩:=u.slot b _ z (I.base.free b o e n (nx b)) hb'
    exact ⟨sl2,z2⟩
  · obtain ⟨o',z⟩:=I.base.there b o e (nx b)
    exact u.free b o' z (I.base.free b o e n (nx b))
  · obtain ⟨o',z⟩:=I.base.there b o e (nx b)
    exact u.there b o' z (nf b o e hb)
theorem mM {P:Program} {w:World} {H:Hp} {h:Heap} {a:Addr} {o:HO} (x:ObjOk P w H h a o):∃u,h.get? a=some u:=by
  cases o with
  | lst xs=>obtain ⟨_,_,_,_,e⟩:=x;exact ⟨_,e⟩
  | tup xs=>obtain ⟨_,_,_,o,e,_⟩:=x;exact ⟨_,e⟩
  | dK kvs=>obtain ⟨_,_,_,_,o,_,_,e,_⟩:=x;exact ⟨_,e⟩
  | dT kvs=>obtain ⟨_,_,_,_,o,_,_,e,_⟩:=x;exact ⟨_,e⟩
  | set S n=>obtain ⟨o,_,_,_,e,_⟩:=x;exact ⟨_,e⟩
  | ins C dx fs=>obtain ⟨_,_,_,e,_⟩:=x;exact ⟨_,e⟩
  | own y=>obtain ⟨_,e⟩:=x;exact ⟨_,e⟩
  | xd fs=>obtain ⟨_,⟨_,_,_,e,_⟩,_⟩:=x;exact ⟨_,e⟩
  | rng lo hi=>obtain ⟨_,_,_,e⟩:=x;exact ⟨_,e⟩
  | frz ob u=>obtain ⟨e,_⟩:=x;exact ⟨_,e⟩
  | tbl q=>obtain ⟨_,e,_⟩:=x;exact ⟨_,e⟩
  | met f y=>exact ⟨_,(show h.get? a=some _ from x)⟩
  | ext φ=>obtain ⟨_,⟨_,e⟩,_⟩:=x;exact ⟨_,e⟩
def vO (P:Program) (w:World):pL:=fun outer H s E e s'=>∃H' ea C a0 B,e= .ref ea∧E (.ref C) none H'∧s'.os=s.os∧AllBare s'.gens∧FlyC B outer ea (.ref C) a0 s'.heap∧HOk P w H' B∧UnB (gU outer) H H' s.heap B s'.heap
def sD (X:Cx) (C:Addr) (pins:List (Addr×Obj)) (σ:L2.St) (H:Hp):Prop:=∀s h' ea vs,Inv X pins σ H s→Heap.MadeExcOf s.heap h' ea (.ref C) vs→X.xe (.ref ea) {s with heap:=h'}
def uP (X:Cx) (C:Addr) (pins:List (Addr×Obj)) (σ:L2.St) (H':Hp):Prop:=∀H s ea s' a0 B,Inv X pins σ H s→s'.os=s.os→AllBare s'.gens→FlyC B X.stack ea (.ref C) a0 s'.heap→HOk X.prog X.w H' B→UnB (gU X.stack) H H' s.heap B s'.heap→X.xe (.ref ea) s'
def sE (X:Cx) (C:Addr) (pins:List (Addr×Obj)) (σ:L2.St) (H':Hp):Prop:=∀H s ea s' a0 B,Inv X pins σ H s→s'.os=s.os→AllBare s'.gens→HeldC B X.stack ea (.ref C) a0 X.env.locals s'.heap→HOk X.prog X.w H' B→UnB (gU X.stack) H H' s.heap B s'.heap→X.xe (.ref ea) s'
theorem mO {M:Model} {A:Around} {E:Value→Shared→Prop} {s:Shared} {base:Heap} {env:Env} {outer:List Env} {L e:Addr} {cls a0:Value} {Q:Unit→Shared→Prop} (hf:env.frame=some L) (hh:HeldC base (env::outer) e cls a0 L s.heap)
    (hQ:∀h',FlyC base outer e cls a0 h'→s.heap.UpToSlots h'→Q () {s with heap:=h'}):wpAny M A (leaving env (.ref e)) Q E s:=by
  unfold leaving
  refine wpAny_bind (wpAny_noteFrame_againW hf hh.2.2.2.1 ?_)
  refine sC hh fun h' hfl k=>?_
  obtain ⟨k1,k2,⟨_,_,k3⟩,k4⟩:=hfl
  exact hQ h' ⟨k1,k2,k3,k4⟩ k
section
variable {P:Program} {w:World} {K:PySem.W.Frag} {mg:Str→Option Value} {base:Heap} {N:List Str} {qual:Str} {scope:Scope} {f:Addr} {cd:Value} {A:Around} {outer:List Env} {s:Shared} {H H':Hp} {E:XK} {C:Addr} {pins:List (Addr×Obj)} {σ:L2.St}
theorem uQ (hE:E (.ref C) none H'):sD (ez (vO P w) P w K mg base N qual scope f cd A outer s H E) C pins σ H':=by
  intro s1 h' ea vs I hx
  show wpAny (model P w) _ (leaving _ (.ref ea)) _ _ _
  have st:=I.stack
  have hin:∀env∈(ez (vO P w) P w K mg base N qual scope f cd A outer s H E).stack,∀b,env.frame=some b→b∈gU (ez (vO P w) P w K mg base N qual scope f cd A outer s H E).stack:=fun env he b hb=>List.mem_filterMap.mpr ⟨env,he,hb⟩
  refine lK (base:=PySem.W.hideAll s1.heap (gU (ez (vO P w) P w K mg base N qual scope f cd A outer s H E).stack)) (h:=s1.heap) I.ok.frames rfl (fun b o q=>PySem.W.of_hideAll _ q) (PySem.W.funFrames_hide st hin) hx fun h2 t x1 x2 x3 x4=>?_
  refine ⟨H',ea,C,_,_,rfl,hE,I.os,I.bare,x1,fun a o e=>?_,?_⟩
  · refine (I.hok a o e).stay (fun b u hb q=>PySem.W.hideAll_get _ q fun z=>?_) (fun _ q=>q) fun _ _ q=>q
    have n:=I.stkFree b z
    rcases hb with rfl | hb
    · rw [n] at e;cases e
    · rw [n] at hb;cases hb
  · refine UnB.out I rfl ⟨fun b o e n hb=>PySem.W.hideAll_get _ e hb,fun b o e n hb=>?_,fun _ _ _ n=>n,fun b o e hb=>⟨o,PySem.W.hideAll_get _ e hb⟩,fun _ _ e=>e,fun _ _ _ e=>e,fun _ _ e=>e⟩
    obtain ⟨_,o',ho',hd⟩:=st.mem hb
    rw [e] at ho'
    cases ho'
    exact x4 b o (hx.keeps b o e) hd
theorem w6 (hE:E (.ref C) none H'):uP (ez (vO P w) P w K mg base N qual scope f cd A outer s H E) C pins σ H':=by
  intro H1 s1 ea s' a0 B I os bare fl hok u
  show wpAny (model P w) _ (leaving _ (.ref ea)) _ _ _
  refine jN I.ok.frames rfl fl fun h2 x1 x2=>?_
  exact ⟨H',ea,C,a0,B,rfl,hE,os.trans I.os,bare,x1,hok,UnB.out I rfl (u.on fl.2.2.1 x2)⟩
theorem uR (hE:E (.ref C) none H'):sE (ez (vO P w) P w K mg base N qual scope f cd A outer s H E) C pins σ H':=by
  intro H1 s1 ea s' a0 B I os bare fl hok u
  show wpAny (model P w) _ (leaving _ (.ref ea)) _ _ _
  refine mO rfl fl fun h2 x1 x2=>?_
  exact ⟨H',ea,C,a0,B,rfl,hE,os.trans I.os,bare,x1,hok,UnB.out I rfl (u.on fl.2.2.1 x2)⟩
end
abbrev jO:=List Sl→Option (Str×List Sl)
def uS (X:Cx) (mk al:Bool) (body:List Stmt) (r:jO):Prop:=∀pins s σ H B E n E',Inv X pins σ H s→Frm X.K B σ H E [] []→r E=some (n,E')→
  (∀pins',(al=false→pins'=pins)→∀σ' C H',PySem.W.nsIn X.K mainGlobals n=some (some (.ref C))→Frm X.K B σ' H' E' [] []→(mk=true→sD X C pins' σ' H')∧uP X C pins' σ' H'∧(al=true→sE X C pins' σ' H'))→wpAny (model X.prog X.w) X.A (execs body X.env) (fun _ _=>False) X.xe s
def RX (X:Cx) (mk al:Bool) (st:Stmt) (r:jO):Prop:=∀pins s σ H B E n E',Inv X pins σ H s→Frm X.K B σ H E [] []→r E=some (n,E')→
  (∀pins',(al=false→pins'=pins)→∀σ' C H',PySem.W.nsIn X.K mainGlobals n=some (some (.ref C))→Frm X.K B σ' H' E' [] []→(mk=true→sD X C pins' σ' H')∧uP X C pins' σ' H'∧(al=true→sE X C pins' σ' H'))→wpAny (model X.prog X.w) X.A (exec st X.env) (fun _ _=>False) X.xe s
def mP (g:cJ) (r:jO):jO:=fun E=>match g E with
  | some (E', .nx)=>r E'
  | _=>none
def lL (t:iw) (r:jO):jO:=fun E=>match t E with
  | some (true,E')=>r E'
  | _=>none
def uT (r q:jO):jO:=fun E=>match r E with
  | some x=>some x
  | none=>q E
def ef (n:Str):jO:=fun E=>some (n,E)
section
variable {X:Cx} {mk al:Bool} {st:Stmt} {ce a b:List Stmt} {g:cJ} {r:jO} {c:Expr} {m:Bool} {t:iw} {pos:Pos}
theorem dC (h:RX X mk al st r):uS X mk al (st::ce) r:=fun pins s σ H B E n E' I fr e k=>
  wpAny_execs_cons (wpAny_mono (h pins s σ H B E n E' I fr e k) (fun _ _ z=>z.elim) fun _ _ z=>z)
theorem nX (h1:SX X.nox st g) (h2:uS X mk al ce r):uS X mk al (st::ce) (mP g r):=fun pins s σ H B E n E' I fr e k=>by
  unfold mP at e
  split at e
  · rename_i E1 eg
    have q:=h1 pins s σ H {nx:=fun σ' H'=>Frm X.K B σ' H' E1 [] [],bk:=fun _ _=>False,ct:=fun _ _=>False,rt:=fun _ _=>False} (I.wish _) ⟨B,E,[],[],E1, .nx,fr,rfl,eg,fun σ' H' f=>f⟩
    refine wpAny_execs_cons (wpAny_mono q (fun f s1 z=>?_) fun _ _ z=>z.elim)
    cases f with
    | next=>obtain ⟨σ',H',I',fr'⟩:=z;exact h2 pins s1 σ' H' B E1 n E' I'.unwish fr' e k
    | brk=>obtain ⟨_,_,_,z⟩:=z;exact z.elim
    | cont=>obtain ⟨_,_,_,z⟩:=z;exact z.elim
    | ret u=>obtain ⟨_,_,_,_,_,z⟩:=z;exact z.elim
  · cases e
theorem sG (hc:TX X.nox c m t) (h:uS X mk al a r):RX X mk al (.If c a b pos) (lL t r):=fun pins s σ H B E n E' I fr e k=>by
  unfold lL at e
  split at e
  · rename_i E1 et
    have q:=hc pins s σ H (fun bb H1=>bb=true∧Frm X.K B σ H1 E1 [] []) (I.wish _) ⟨B,E,[],[],true,E1,fr,fun _=>Calm.nil rfl,et,fun H1 f=>⟨rfl,f⟩⟩
    refine wpAny_If (wpAny_mono q (fun bb s1 z=>?_) fun _ _ z=>z.elim)
    obtain ⟨H1,I1,rfl,fr1⟩:=z
    exact h pins s1 σ H1 B E1 n E' I1.unwish fr1 e k
  · cases e
theorem vP {q:jO} (h1:uS X mk al a r) (h2:uS X mk al a q):uS X mk al a (uT r q):=fun pins s σ H B E n E' I fr e k=>by
  unfold uT at e
  split at e
  · rename_i x ex
    cases e
    exact h1 pins s σ H B E n E' I fr ex k
  · exact h2 pins s σ H B E n E' I fr e k
end
end PL
namespace PL
open PySem PySem.Spec PyProof.Rows L2 Nh
abbrev zB:List Value:=[.type "ValueError", .type "Exception", .type "BaseException", .type "object"]
structure XC (K:PySem.W.Frag) (mg:Str→Option Value) (x:Str) (C:Addr):Prop where
  ns:PySem.W.nsIn K mainGlobals x=some (some (.ref C))
  mg:mg x=some (.ref C)
  ex:PySem.W.excIn K C zB "ValueError.__new__"=true
  cls:ExCls K C
theorem w_ {K:PySem.W.Frag} {h:Heap} {mg:Str→Option Value} {x:Str} {C:Addr} {bmB:List Value} {newId:String} (X:K.In h) (m:mg x=some (.ref C)) (q:PySem.W.excIn K C bmB newId=true):OwnCls x C bmB newId mg h:=by
  refine ⟨m,?_⟩
  unfold PySem.W.excIn at q
  split at q
  · rename_i dd cd sl ho
    split at q
    · rename_i C' bm k0 k1 k2 k3 n k5 hm hs
      simp only [Bool.and_eq_true,beq_iff_eq,Bool.not_eq_true'] at q
      obtain ⟨⟨⟨⟨⟨rfl,rfl⟩,hdel⟩,ht⟩,hok⟩,hni⟩:=q
      obtain ⟨nm,bs,mro,ns,qn,hd,sn,sub,ab,col,del⟩:=cd
      dsimp only at hm hdel hok hni
      subst hm hdel
      have hsl:sl=#[k0,k1,k2,k3,some (.builtin n),k5]:=by
        obtain ⟨l⟩:=sl
        simp only at hs
        rw [hs]
      subst hsl
      exact ⟨bm,ns,nm,qn,bs,hd,sn,sub,ab,col,dd,k0,k1,k2,k3,k5,_,X _ _ ho, .of_isNs (PySem.W.isNs_of_in X hok),PySem.W.nsMap_none_of_in X hok hni,PySem.W.tail_of_in X ht⟩
    · cases q
  · cases q
section
variable {X:Cx} {mk al:Bool} {x:Str} {C:Addr} {np p cpos pos:Pos}
theorem jP {tx:Str} {j:Nat} (hcalm:X.calm=true) (hg:Gl X x) (Z:XC X.K X.mg x C) (hd:(x == ("__debug__":Str))=false:=by decide)
    (he:starEach [.Constant (.str tx) j p] X.env=[(false,eval (.Constant (.str tx) j p) X.env)]:=by rfl):
    RX X true al (.Raise (some (.Call (.Name x np) [.Constant (.str tx) j p] [] cpos)) none pos) (ef x):=fun pins s σ H B E n E' I fr e k=>by
  cases e
  obtain ⟨tl,N,nm,q,bs,hdct,sn,sub,ab,col,dd,k0,k1,k2,k3,k5,mN,hC,hN,hni,T⟩:=(w_ I.ok.mod.kin Z.mg Z.ex).obj
  refine wpAny_Raise_call_subT (C:=C) (nm:=nm) (q:=q) (N:=N) (bs:=bs) (bm:=tl) (hdct:=hdct) (sn:=sn) (sub:=sub) (ab:=ab) (col:=col) (dd:=dd) (k0:=k0) (k1:=k1) (k2:=k2) (k3:=k3) (k5:=k5)
    PySem.F.excBase_ValueError (mN:=mN) (T.hasType PySem.F.excBase_ValueError.hasBase) (I.ok.hd hcalm) (by rw [he];rfl) hni (fJ I hg Z.mg ⟨rfl,?_⟩ hd)
  have q1:=cX (X:=X) (qD (x:=tx) (j:=j) (pos:=p)) fj he cpos pins s σ H (fun vs H1=>vs=[.str tx]∧H1=H) I ⟨rfl,rfl⟩
  rw [he] at q1 ⊢
  refine Calls.evalArgs_plain (ci q1 fun vs s2 ⟨us,H2,I2,r,eu,eH⟩=>?_)
  subst eu eH
  have fin:=(k pins (fun _=>rfl) σ C H2 Z.ns fr).1 rfl
  exact ⟨rfl,by rw [←r.length];exact Nat.le_of_ble_eq_true rfl,I2.bk _ _ hC,hN.keeps I2.bk,T.keeps I2.bk,fun h' ea hm=>fin s2 h' ea vs I2 hm⟩
end
def lM (K:PySem.W.Frag) (r:List PyData→Option Str):Sp:=fun vs H _ E=>∃ds n,r ds=some n∧RpA K H vs ds∧∀C H',PySem.W.nsIn K mainGlobals n=some (some (.ref C))→Same H H'→E (.ref C) none H'
structure OwnR (P:Program) (w:World) (K:PySem.W.Frag) (mg:Str→Option Value) (base:Heap) (k:Nat) (x:Str) (ps:List Str) (sp:Sp):Prop where
  ex:∃(f:Addr) (fd:FuncData),FnOk P w K mg base (vO P w) k f fd ps sp∧Binds K fd ps []∧mg x=some (.ref f)∧PySem.W.keepIn K (.ref f)=true
def cO (r:List PyData→Option Str) (g:ix):jO:=fun E=>(g E).bind fun a=>(az a.2 a.1).bind fun ds=>(r ds).map fun n=>(n,a.2)
section
variable {X:Cx} {k:Nat} {x:Str} {ps:List Str} {r:List PyData→Option Str} {p pos cpos:Pos} {e:Expr} {es:List Expr} {m:Bool} {g:ix}
theorem iH (D:OwnR X.prog X.w X.K X.mg X.base k x ps (lM X.K r)) (hr:Room k X.A) (hg:Gl X x) (ha:AX X.nox (e::es) m g) (hdb:(x == ("__debug__":Str))=false) (he:starEach (e::es) X.env=(false,eval e X.env)::starEach es X.env) (hpl:(backTo pos (starEach es X.env)).any (·.1)=false)
    {pins:List (Addr×Obj)} {s:Shared} {σ:L2.St} {H B:Hp} {E E':List Sl} {n:Str} (I:Inv X pins σ H s) (fr:Frm X.K B σ H E [] []) (ee:cO r g E=some (n,E')) (k:∀C H',PySem.W.nsIn X.K mainGlobals n=some (some (.ref C))→Frm X.K B σ H' E' [] []→uP X C pins σ H'):
    wpAny (model X.prog X.w) X.A (eval (.Call (.Name x p) (e::es) [] pos) X.env) (fun _ _=>False) X.xe s:=by
  obtain ⟨f,fd,F,b,mx,kp⟩:=D.ex
  obtain ⟨⟨rs,E1⟩,e1,ee⟩:=Option.bind_eq_some_iff.mp ee
  obtain ⟨ds,e2,ee⟩:=Option.bind_eq_some_iff.mp ee
  obtain ⟨n',e3,ee⟩:=Option.map_eq_some_iff.mp ee
  cases ee
  refine wpAny_Call_Name_kw (fJ I hg mx ?_ hdb)
  have q1:=ha pos pins s σ H (fun vs H1=>vs.length=rs.length∧Frm X.K B σ H1 E1 (vs.reverse++[]) (rs.reverse++[])) (I.wish _) ⟨B,E,[],[],rs,E1,fr,fun _=>Calm.nil rfl,e1,fun vs H1 hl f=>⟨hl,f⟩⟩
  refine PySem.W.callWith_K (h₀:=X.base) I.ok.mod.kin kp (wpAny_mono q1 (fun us s1 ⟨vs,H1,I1,rv,hl,F1,A1,fr1⟩=>⟨I1.kIn,?_⟩) fun _ _ z=>z.elim) he hpl
  have I1:=I1.unwish
  obtain ⟨r1,A',fr2⟩:=fr1.looks hl e2
  have hlen:(us++[]).length=ps.length:=by
    rw [List.append_nil,←rv.length]
    exact F.len vs H1 (fun _ _=>False) (fun _ _ _=>True) ⟨ds,n,e3,r1,fun _ _ _ _=>trivial⟩
  have bd:=b s1 us I1.kIn hlen
  rw [List.append_nil] at bd
  refine wpAny_call (codeAny_mono (F.run X.A X.stack s1 H1 ⟨us,[]⟩ us vs (fun _ _=>False) (fun c _ H'=>∃C,c= .ref C∧PySem.W.nsIn X.K mainGlobals n=some (some (.ref C))∧Same H1 H') hr I1.env0 bd rv ⟨ds,n,e3,r1,fun C H' z g=>⟨C,rfl,z,g⟩⟩) fun rr s' hq=>?_)
  cases rr with
  | error er=>
    obtain ⟨H',ea,C,a0,B',rfl,⟨C',eC,ns,g⟩,os,bare,fl,hok,u⟩:=hq
    cases eC
    exact k C H' ns ⟨_,_,fr2.grow g⟩ H1 s1 ea s' a0 B' I1 os bare fl hok u
  | ok fl=>
    cases fl with
    | ret u=>obtain ⟨_,_,_,_,_,_,_,z⟩:=hq;exact z
    | next=>exact False.elim hq
    | brk=>exact False.elim hq
    | cont=>exact False.elim hq
theorem pc (D:OwnR X.prog X.w X.K X.mg X.base k x ps (lM X.K r)) (hr:Room k X.A) (hg:Gl X x) (ha:AX X.nox (e::es) m g) (hs:swapsWith (.Call (.Name x p) (e::es) [] cpos) none pos.line X.env=pure false:=by rfl) (hdb:(x == ("__debug__":Str))=false:=by decide) (he:starEach (e::es) X.env=(false,eval e X.env)::starEach es X.env:=by rfl) (hpl:(backTo cpos (starEach es X.env)).any (·.1)=false:=by rfl) {mk al:Bool}:
    RX X mk al (.Expr (.Call (.Name x p) (e::es) [] cpos) pos) (cO r g):=fun pins s σ H B E n E' I fr ee k=>
  wpAny_Expr_any (ci (iH D hr hg ha hdb he hpl I fr ee fun C H' z f=>(k pins (fun _=>rfl) σ C H' z f).2.1) fun _ _ z=>z.elim) I.quiet hs
theorem xa {y:Str} {pos':Pos} (D:OwnR X.prog X.w X.K X.mg X.base k x ps (lM X.K r)) (hr:Room k X.A) (hg:Gl X x) (ha:AX X.nox (e::es) m g) (hs:swapsWith (.Call (.Name x p) (e::es) [] cpos) (some (.Name y pos')) pos.line X.env=pure false:=by rfl) (hdb:(x == ("__debug__":Str))=false:=by decide) (he:starEach (e::es) X.env=(false,eval e X.env)::starEach es X.env:=by rfl) (hpl:(backTo cpos (starEach es X.env)).any (·.1)=false:=by rfl) {mk al:Bool}:
    RX X mk al (.Assign [.Name y pos'] (.Call (.Name x p) (e::es) [] cpos) pos) (cO r g):=fun pins s σ H B E n E' I fr ee k=>
  wpAny_Assign_Name (ci (iH D hr hg ha hdb he hpl I fr ee fun C H' z f=>(k pins (fun _=>rfl) σ C H' z f).2.1) fun _ _ z=>z.elim) hs
end
def xb (k n:Nat) (r:jO):List PyData→Option Str:=fun ds=>if ds.length=k then (r (aM n ds)).map (·.1) else none
theorem uU {P:Program} {w:World} {K:PySem.W.Frag} {mg:Str→Option Value} {base:Heap} {x:Str} {st:Stmt} {N ps:List Str} {k a n:Nat} {r:jO} {mk al:Bool} (D:Def K mg x st ps) (S:FnScope N ps (ag st)) (hpa:ps.length=a) (hNn:N.length=n) (hps:a≤n)
    (hbody:∀(f:Addr) (cdv:Value) (A:Around) (outer:List Env) (s:Shared) (H:Hp) (E:XK),Room k (A.deeper (PyProof.Rows.envOfC x (ag st) s.heap.objs.size f cdv))→
      uS (ez (vO P w) P w K mg base N x (ag st) f cdv A outer s H E) mk al (ax st) r):OwnR P w K mg base (k+1) x ps (lM K (xb a n r)):=by
  subst hpa hNn
  obtain ⟨f,fd,F,mx,b⟩:=D.ex
  have kp:=F.kp
  obtain ⟨oc,od,kV,doc,pm,an,cdv,ct,osl,rfl,lk,hcd⟩:=F.ex
  refine ⟨f,_,qS lk hcd S (fun vs H Q E h=>?_) fun A outer s H vs Q E hr h=>?_,b,mx,kp⟩
  · obtain ⟨ds,n,e,rp,_⟩:=h
    unfold xb at e
    split at e
    · rename_i hl
      rw [rp.len];exact hl
    · cases e
  obtain ⟨ds,n,e,rp,q⟩:=h
  unfold xb at e
  split at e
  · rename_i hl
    obtain ⟨⟨n',E'⟩,er,z⟩:=Option.map_eq_some_iff.mp e
    cases z
    refine ⟨fun D σ H'=>σ=cH N vs∧H'=H,fun pins s1 σ H1 D I z=>?_,rfl,rfl⟩
    obtain ⟨rfl,rfl⟩:=z
    refine ci (hbody f cdv A outer s H1 E hr pins s1 _ H1 H1 (aM N.length ds) n' E' I ⟨H1,[],fb rp (by omega)⟩ er fun _ _ σ' C H' ns ⟨F',A',fr'⟩=>?_) fun _ _ z=>z.elim
    have hE:=q C H' ns (fr'.bf.trans fr'.fh)
    exact ⟨fun _=>uQ hE,w6 hE,fun _=>uR hE⟩
  · cases e
end PL
namespace PL
open PySem PySem.Spec PyProof.Rows L2 Nh
abbrev Ag (X:Cx) (ea:Addr):Cx:={X with A:=X.A.mark (some (.ref ea)),calm:=false,xe:=fun _ _=>False}
abbrev hX (X:Cx) (ea:Addr) (oe:Obj) (C:Addr):Cx:={X with A:=X.A.mark (some (.ref ea)),calm:=false,xe:=fun _ _=>False,H₀:=upd X.H₀ ea (.frz oe (.ext (eJ ea C)))}
structure EaNew (X:Cx) (ea:Addr):Prop where
  s0:X.s₀.heap.get? ea=none
  nt:∀xs,X.H₀ ea≠some (.tup xs)
  nf:∀o u,X.H₀ ea≠some (.frz o u)
  nb:∀q,X.H₀ ea≠some (.tbl q)
section
variable {X:Cx} {pins:List (Addr×Obj)} {σ:L2.St} {H:Hp} {s:Shared} {ea:Addr}
theorem sH (I:Inv X pins σ H s):Inv (Ag X ea) pins σ H s:=
  let ok:=I.ok
  ⟨⟨ok.mod,ok.kind,ok.glob,ok.blt,ok.above,ok.inj,ok.has,ok.cab,fun z=>(nomatch z),ok.frames,ok.stk,ok.exf,ok.bs,ok.bsz,ok.noex,ok.exfs,ok.funs,ok.frf,ok.tab⟩,I.os,I.bare,I.base,I.loc,I.cell,I.free,I.freeC,I.pin,I.hok,I.len⟩
theorem uV {oe:Obj} {C:Addr} (I:Inv X pins σ H s) (n:EaNew X ea) (hH:H ea=some (.frz oe (.ext (eJ ea C)))):Inv (hX X ea oe C) pins σ H s:=by
  have ok:=I.ok
  have ne:∀b o,X.s₀.heap.get? b=some o→b≠ea:=fun b o e z=>by rw [z,n.s0] at e;cases e
  have up:∀b u,(upd X.H₀ ea (.frz oe (.ext (eJ ea C)))) b=u→b≠ea→X.H₀ b=u:=fun b u e z=>by rw [aw z] at e;exact e
  refine ⟨⟨ok.mod,ok.kind,ok.glob,ok.blt,ok.above,ok.inj,ok.has,ok.cab,fun z=>(nomatch z),ok.frames,ok.stk,ok.exf,fun b o e=>?_,ok.bsz,ok.noex,ok.exfs,ok.funs,fun b hb=>?_,fun b q e=>?_⟩,I.os,I.bare,⟨fun b o e h=>I.base.keep b o e (up b _ h (ne b o e)),fun b o e h=>I.base.slot b o e (up b _ h (ne b o e)),fun b o e h=>I.base.free b o e (up b _ h (ne b o e)),I.base.there,fun b xs e=>?_,fun b o u e=>?_,fun b q e=>?_⟩,I.loc,I.cell,I.free,I.freeC,I.pin,I.hok,I.len⟩
  · obtain ⟨e1,e2⟩:=ok.bs b o e
    exact ⟨e1,(aw (ne b o e1)).trans e2⟩
  · obtain ⟨_,o,e1,_⟩:=ok.funs.mem hb
    exact (aw (ne b o e1)).trans (ok.frf b hb)
  · refine (aw fun z=>?_).trans (ok.tab b q e)
    subst z
    exact n.nb q (ok.tab _ q e)
  · by_cases z:b=ea
    · subst z
      replace e:=upd_same.symm.trans e
      cases e
    · exact I.base.tups b xs (up b _ e z)
  · by_cases z:b=ea
    · subst z
      replace e:=upd_same.symm.trans e
      cases e
      exact hH
    · exact I.base.frzs b o u (up b _ e z)
  · by_cases z:b=ea
    · subst z
      replace e:=upd_same.symm.trans e
      cases e
    · exact I.base.tbls b q (up b _ e z)
theorem sI {oe:Obj} {C:Addr} (I:Inv (hX X ea oe C) pins σ H s) (ok:X.Ok) (n:EaNew X ea):Inv X pins σ H s:=by
  have ne:∀b o,X.s₀.heap.get? b=some o→b≠ea:=fun b o e z=>by rw [z,n.s0] at e;cases e
  have dn:∀b u,X.H₀ b=u→b≠ea→(hX X ea oe C).H₀ b=u:=fun b u e z=>(aw z).trans e
  exact ⟨ok,I.os,I.bare,⟨fun b o e h=>I.base.keep b o e (dn b _ h (ne b o e)),fun b o e h=>I.base.slot b o e (dn b _ h (ne b o e)),fun b o e h=>I.base.free b o e (dn b _ h (ne b o e)),I.base.there,fun b xs e=>I.base.tups b xs (dn b _ e fun z=>n.nt xs (z▸e)),fun b o u e=>I.base.frzs b o u (dn b _ e fun z=>n.nf o u (z▸e)),fun b q e=>I.base.tbls b q (dn b _ e fun z=>n.nb q (z▸e))⟩,I.loc,I.cell,I.free,I.freeC,I.pin,I.hok,I.len⟩
theorem qc {a:Addr} {o:HO} (I:Inv X pins σ H s) (hn:H a=none) (h0:X.s₀.heap.get? a=none) (hL:X.env.locals≠a) (hc:∀x c,X.env.cells.lookup x=some c→c≠a) (hp:∀p∈X.pn++pins,p.1≠a) (ok:ObjOk X.prog X.w (upd H a o) s.heap a o):Inv X pins σ (upd H a o) s:=by
  have ne:∀b u,H b=some u→b≠a:=fun b u e=>ba e hn
  refine ⟨I.ok,I.os,I.bare,⟨I.base.keep,I.base.slot,fun b u e n hx=>?_,I.base.there,fun b xs e=>?_,fun b u v e=>?_,fun b q e=>?_⟩,I.loc,I.cell,?_,fun x c e=>?_,fun p q=>?_,fun b u e=>?_,I.len⟩
  · rw [aw (fun z=>by rw [z,h0] at e;cases e)];exact I.base.free b u e n hx
  · have z:=I.base.tups b xs e
    rw [aw (ne _ _ z)];exact z
  · have z:=I.base.frzs b u v e
    rw [aw (ne _ _ z)];exact z
  · have z:=I.base.tbls b q e
    rw [aw (ne _ _ z)];exact z
  · rw [aw hL];exact I.free
  · rw [aw (hc x c e)];exact I.freeC x c e
  · obtain ⟨e1,e2,e3⟩:=I.pin p q
    exact ⟨e1,by rw [aw (hp p q)];exact e2,e3⟩
  · by_cases hb:b=a
    · subst hb;rw [upd_same] at e;cases e;exact ok
    · rw [aw hb] at e
      refine (I.hok b u e).stay (fun c w' _ q=>q) (fun c q=>?_) fun c xs q=>?_
      · rw [aw (ne _ _ q)];exact q
      · rw [aw (ne _ _ q)];exact q
theorem sJ {M:Model} {A:Around} {E:Value→Shared→Prop} {i:Nat} {x:Str} {pos:Pos} {Q:Unit→Shared→Prop} (I:Inv X pins σ H s) (hN:X.N.Nodup) (hi:X.N[i]? =some x) (hk:X.env.scope.names.lookup x=some .local)
    (h:∀s',Inv X pins (σ.set i none) H s'→Q () s'):wpAny M A (do bindName X.env x .none;unbindBehindTheSuite X.env x pos) Q E s:=by
  obtain ⟨m,hn,hl⟩:=id I.loc
  have hcls:(X.env.scope.kind == .class||(X.env.scope.kind == .module&&X.env.locals != X.env.globals))=false:=by rw [I.ok.kind];rfl
  have hiσ:i < σ.length:=by rw [I.len];exact (List.getElem?_eq_some_iff.mp hi).1
  have cne:=I.cne
  refine wpAny_nameGoes_keeps hk hn hcls fun h' v hn' hs=>?_
  obtain ⟨oL,_,_,hoL,_⟩:=id hn
  refine h _ ⟨I.ok,I.os,I.bare,⟨fun b o e n hb hx=>?_,fun b o e n hb hx=>?_,I.base.free,fun b o e hx=>?_,I.base.tups,I.base.frzs,I.base.tbls⟩,⟨_,hn',fun j y v' e1 e2 e3=>?_⟩,fun y c e=>?_,I.free,I.freeC,fun p hp=>?_,fun b ob e=>?_,by simpa using I.len⟩
  · exact (hs.2 b (Nat.ne_of_lt (Nat.lt_of_lt_of_le (Heap.lt_size e) I.ok.above))).trans (I.base.keep b o e n hb hx)
  · obtain ⟨sl,e1⟩:=I.base.slot b o e n hb hx
    exact ⟨sl,(hs.2 b (Nat.ne_of_lt (Nat.lt_of_lt_of_le (Heap.lt_size e) I.ok.above))).trans e1⟩
  · obtain ⟨o',e1⟩:=I.base.there b o e hx
    exact ⟨o',(hs.2 b (Nat.ne_of_lt (Nat.lt_of_lt_of_le (Heap.lt_size e) I.ok.above))).trans e1⟩
  · by_cases hj:j=i
    · subst hj
      rw [List.getElem?_set_self hiσ] at e2
      cases e2
    · rw [List.getElem?_set_ne (Ne.symm hj)] at e2
      obtain ⟨u',r',q⟩:=hl j y v' e1 e2 e3
      refine ⟨u',r',?_⟩
      rcases q with ⟨k,e⟩ | ⟨k,c,e,z⟩
      · refine .inl ⟨k,?_⟩
        have:y≠x:=fun e=>hj (jr hN e1 (e▸hi))
        simp [this,e]
      · exact .inr ⟨k,c,e,z.sameBut hs (cne y c e)⟩
  · obtain ⟨w',z⟩:=I.cell y c e
    exact ⟨w',z.sameBut hs (cne y c e)⟩
  · obtain ⟨e,n,ne,nf,d⟩:=I.pin p hp
    exact ⟨(hs.2 p.1 ne).trans e,n,ne,nf,d⟩
  · refine (I.hok b ob e).stay (fun c w' hc q=>(hs.2 c ?_).trans q) (fun _ q=>q) fun _ _ q=>q
    rintro rfl
    rcases hc with rfl | hc
    · rw [I.free] at e;cases e
    · rw [I.free] at hc;cases hc
end
abbrev xc (n:Str):PyData:= .dict [(.none, .str n)]
end PL
namespace PL
open PySem PySem.Spec PyProof.Rows L2 Nh
def XT (K:PySem.W.Frag) (c:Value) (tab:List (Str×Bool)):Prop:=∀n b C,tab.lookup n=some b→PySem.W.nsIn K mainGlobals n=some (some (.ref C))→ExCls K C∧PySem.W.kitOne K (.ref C) c=some b
theorem eY {K:PySem.W.Frag} {c:Value}:XT K c []:=fun _ _ _ e=>nomatch e
theorem bw {K:PySem.W.Frag} {c:Value} {n:Str} {C:Addr} {b:Bool} {tab:List (Str×Bool)} (ns:PySem.W.nsIn K mainGlobals n=some (some (.ref C))) (Z:ExCls K C) (k:PySem.W.kitOne K (.ref C) c=some b) (h:XT K c tab):XT K c ((n,b)::tab):=fun n' b' C' e ns'=>by
  rw [List.lookup_cons] at e
  split at e
  · rename_i q
    rw [beq_iff_eq] at q
    subst q
    rw [ns] at ns'
    cases ns'
    cases e
    exact ⟨Z,k⟩
  · exact h n' b' C' e ns'
def gS (tab:List (Str×Bool)):PyData→Option PyData
  | .dict [(.none, .str n)]=>(tab.lookup n).map .bool
  | _=>none
theorem xf {K:PySem.W.Frag} {H:Hp} {v:V} {n:Str} (r:Rp K H v (.dict [(.none, .str n)])):∃a C o,v= .ref a∧H a=some (.frz o (.ext (eJ a C)))∧PySem.W.nsIn K mainGlobals n=some (some (.ref C)):=by
  generalize e:PyData.dict [(PyData.none,PyData.str n)]=d at r
  cases r with
  | exc h1 h2=>cases e;exact ⟨_,_,_,rfl,h1,h2⟩
  | dct h1 h2=>
    cases h2 with
    | nil=>cases e
    | @cons k x us d kvs a b=>cases k <;> cases e
  | _=>cases e
section
variable {X:Cx} {e:Expr} {m1:Bool} {f:bz} {p p2 pos:Pos}
theorem qd {c:Value} {vc:V} {tab:List (Str×Bool)} (rc:∀u,RelV vc u→u=c) (T:XT X.K c tab):CallR X (.builtin "isinstance") (fun xs H Q=>∃x d r,xs=[x,vc]∧Rp X.K H x d∧gS tab d=some r∧∀b,r= .bool b→Q (.bl b) H):=by
  intro pins s σ H xs us Q I r h
  obtain ⟨x,d,r',rfl,rp,hd,q⟩:=h
  obtain ⟨u,w',rfl,ru,rw'⟩:=r.two
  cases rc w' rw'
  unfold gS at hd
  split at hd
  · rename_i n
    obtain ⟨b,eb,z⟩:=Option.map_eq_some_iff.mp hd
    obtain ⟨a,C,oz,rfl,ha,ns⟩:=xf rp
    obtain ⟨Z,k⟩:=T n b C eb ns
    cases (show u=Value.ref a from ru)
    exact PySem.W.kia_one (sr Z) I.kIn (show eJ a C s.heap from (I.hok a _ ha).2.1) k (fun z=>nomatch z) fun tk=>⟨.bl b,H,I.tok _,rfl,q b z.symm⟩
  · cases hd
theorem pd {c:Value} {vc:V} {tab:List (Str×Bool)} (rc:∀u,RelV vc u→u=c) (T:XT X.K c tab) (hg:Gl X "isinstance") (hm:X.mg "isinstance"=none) (ha:EX X e m1 f) {x:Str} (h2:PE X (.Name x p2) (tC vc))
    (he:starEach [e, .Name x p2] X.env=(false,eval e X.env)::starEach [.Name x p2] X.env) (he2:starEach [.Name x p2] X.env=[(false,eval (.Name x p2) X.env)]) (hpl:(backTo pos (starEach [.Name x p2] X.env)).any (·.1)=false):
    EX X (.Call (.Name "isinstance" p) [e, .Name x p2] [] pos) m1 (dH (gS tab) f):=by
  refine aY (jx (qd rc T) hg hm PyProof.Rows.boot_isinstance (cX ha (cX h2 fj he2) he) (by decide) (by decide) he hpl) fun σ H Q z=>?_
  obtain ⟨B,E,xs,Xs,res,E',fr,cl,e,q⟩:=z
  obtain ⟨⟨s,E1⟩,e1,e⟩:=Option.bind_eq_some_iff.mp e
  obtain ⟨d1,e2,e⟩:=Option.bind_eq_some_iff.mp e
  obtain ⟨d2,e3,e⟩:=Option.map_eq_some_iff.mp e
  cases e
  refine ⟨B,E,xs,Xs,s,E1,fr,cl,e1,fun v1 H1 ⟨F,A,fr1⟩=>?_⟩
  obtain ⟨A',fr2⟩:=fr1.pop
  exact ⟨v1,d1,d2,rfl,(fr1.look0 e2).1,e3,fun b z=>q _ _ ⟨F,A',fr2.push ⟨rfl,_,rfl,z▸ .bl b⟩⟩⟩
theorem dX {C:Addr} {tab:List (Str×Bool)} (hg:Gl X "isinstance") (hm:X.mg "isinstance"=none) (ha:EX X e m1 f) {x:Str} (hgx:Gl X x) (hmx:X.mg x=some (.ref C)) (T:XT X.K (.ref C) tab) (hdx:(x == ("__debug__":Str))=false:=by decide)
    (he:starEach [e, .Name x p2] X.env=(false,eval e X.env)::starEach [.Name x p2] X.env:=by rfl) (he2:starEach [.Name x p2] X.env=[(false,eval (.Name x p2) X.env)]:=by rfl) (hpl:(backTo pos (starEach [.Name x p2] X.env)).any (·.1)=false:=by rfl):
    EX X (.Call (.Name "isinstance" p) [e, .Name x p2] [] pos) m1 (dH (gS tab) f):=pd (vc:= .ref C) (fun _ z=>z) T hg hm ha (oB (v:= .ref C) hgx hmx rfl hdx) he he2 hpl
theorem uW {t:String} {tab:List (Str×Bool)} (hg:Gl X "isinstance") (hm:X.mg "isinstance"=none) (ha:EX X e m1 f) {x:Str} (hgx:Gl X x) (hmx:X.mg x=none) (hbx:bootBuiltins x=some (.type t)) (T:XT X.K (.type t) tab) (hnx:x≠"__name__":=by decide) (hdx:(x == ("__debug__":Str))=false:=by decide)
    (he:starEach [e, .Name x p2] X.env=(false,eval e X.env)::starEach [.Name x p2] X.env:=by rfl) (he2:starEach [.Name x p2] X.env=[(false,eval (.Name x p2) X.env)]:=by rfl) (hpl:(backTo pos (starEach [.Name x p2] X.env)).any (·.1)=false:=by rfl):
    EX X (.Call (.Name "isinstance" p) [e, .Name x p2] [] pos) m1 (dH (gS tab) f):=pd (vc:= .ty t) (fun _ z=>z) T hg hm ha (oC (v:= .ty t) hgx hmx hbx rfl hnx hdx) he he2 hpl
end
structure RoomH (k:Nat) (A:Around):Prop where
  dp:A.depth+3*k+5 < recursionLimit
  un:A.units+16*k+200 < cLine
theorem RoomH.mono {j k:Nat} {A:Around} (r:RoomH k A) (h:j≤k):RoomH j A:=⟨by have:=r.dp;omega,by have:=r.un;omega⟩
theorem RoomH.deeper {k:Nat} {A:Around} (r:RoomH (k+1) A) (env:Env):RoomH k (A.deeper env):=
  ⟨by have:=r.dp;show A.depth+1+3*k+5 < _;omega,by have:=r.un;show A.units+3+16*k+200 < _;omega⟩
theorem RoomH.depth {k:Nat} {A:Around} (r:RoomH k A):A.depth < recursionLimit:=by have:=r.dp;omega
theorem RoomH.units {k:Nat} {A:Around} (r:RoomH k A):A.units+64 < cLine:=by have:=r.un;omega
theorem Room.mark {k:Nat} {A:Around} (r:Room k A) (v:Option Value):RoomH k (A.mark v):=⟨r.dp,r.un⟩
abbrev yW (P:Program) (w:World) (K:PySem.W.Frag) (mg:Str→Option Value) (base:Heap) (N:List Str) (qual:Str) (scope:Scope) (f:Addr) (cd:Value) (A:Around) (outer:List Env) (s:Shared) (H:Hp) (E:XK):Cx:={ez jc P w K mg base N qual scope f cd A outer s H E with calm:=false,xe:=fun _ _=>False}
structure FnOkH (P:Program) (w:World) (K:PySem.W.Frag) (mg:Str→Option Value) (base:Heap) (k:Nat) (f:Addr) (fd:FuncData) (ps:List Str) (sp:Sp):Prop where
  len:∀vs H Q E,sp vs H Q E→vs.length=ps.length
  run:∀(A:Around) (outer:List Env) (s:Shared) (H:Hp) (args:Args) (us:List Value) (vs:List V) (Q:VK) (E:XK),RoomH k A→Env0 P w K mg base A outer s H→BindsTo s fd args (ps.zip us)→Vals vs us→sp vs H Q E→
    codeAny (model P w) A (.call (.ref f) args) (CR jc outer P w H s Q E) s
structure OwnH (P:Program) (w:World) (K:PySem.W.Frag) (mg:Str→Option Value) (base:Heap) (k:Nat) (x:Str) (ps:List Str) (sp:Sp):Prop where
  ex:∃(f:Addr) (fd:FuncData),FnOkH P w K mg base k f fd ps sp∧Binds K fd ps []∧mg x=some (.ref f)∧PySem.W.keepIn K (.ref f)=true
theorem xg {P:Program} {w:World} {K:PySem.W.Frag} {mg:Str→Option Value} {base:Heap} {k:Nat} {f:Addr} {name qual:Str} {params:Arguments} {body:List Stmt} {scope:Scope} {dV kV doc pm cdv ct oc:Value} {an od:Option Addr}
    {osl:Array (Option Value)} {N ps:List Str} {sp:Sp} (lk:K.lookup f=some ⟨oc,od, .func (PySem.W.fnOf name qual params body scope dV kV doc pm an cdv ct),osl⟩) (hcd:PySem.W.codeIn K cdv qual=true) (S:FnScope N ps scope)
    (len:∀vs H Q E,sp vs H Q E→vs.length=ps.length)
    (hbody:∀(A:Around) (outer:List Env) (s:Shared) (H:Hp) (vs:List V) (Q:VK) (E:XK),RoomH k (A.deeper (envOfC qual scope s.heap.objs.size f cdv))→sp vs H Q E→
      ∃t,PSs (yW P w K mg base N qual scope f cdv A outer s H E) body t∧t {nx:=fun _ H'=>Q .non H',rt:=Q} (cH N vs) H):
    FnOkH P w K mg base (k+1) f (PySem.W.fnOf name qual params body scope dV kV doc pm an cdv ct) ps sp:=by
  refine ⟨len,fun A outer s H args us vs Q E hr e0 hb r hsp=>?_⟩
  have hl:=len _ _ _ _ hsp
  have KX:K.In s.heap:=e0.mod.kin.keeps fun b o e=>(e0.bs b o e).1
  have lim:s.heap.NoLimit:=e0.mod.nolimit.keeps fun b o e=>(e0.bs b o e).1
  have hkind:∀y∈ps.zip us,scope.names.lookup y.1=some .local∨(scope.names.lookup y.1=some .cell∧((cellsFrom (s.heap.objs.size+1) scope.names []).lookup y.1).isSome=true):=fun ⟨n,v⟩ hy=>by
    rcases S.par n (List.of_mem_zip hy).1 with q | q
    · exact .inl q
    · exact .inr ⟨q,PySem.W.cellsFrom_some _ _ _ (.inl q)⟩
  refine codeAny_call_function hr.depth (KX _ _ lk) rfl S.co S.gen rfl (PySem.W.codeRec_of KX hcd) (hb _ _ _ _ ?_)
  refine wpAny_newFunctionEnv_cells S.kind hkind fun env he s1 x=>?_
  subst he
  refine ⟨lim.keeps x.toInCall.keep,codeAny_func ?_⟩
  obtain ⟨t,ht,hq⟩:=hbody A outer s H vs Q E (hr.deeper _) hsp
  have I0:Inv (ez jc P w K mg base N qual scope f cdv {A with handled:=none} outer s H E) [] (cH N vs) H s1:=ir S rfl ⟨e0.frames,e0.mod,e0.bs,e0.bsz,e0.funs,e0.frf,e0.hok,e0.bare,e0.tab⟩ hl r x
  have I:Inv (yW P w K mg base N qual scope f cdv A outer s H E) [] (cH N vs) H s1:=
    let ok:=I0.ok
    ⟨⟨ok.mod,ok.kind,ok.glob,ok.blt,ok.above,ok.inj,ok.has,ok.cab,fun z=>(nomatch z),Around.frames_deeper e0.frames,ok.stk,ok.exf,ok.bs,ok.bsz,ok.noex,ok.exfs,ok.funs,ok.frf,ok.tab⟩,I0.os,I0.bare,I0.base,I0.loc,I0.cell,I0.free,I0.freeC,I0.pin,I0.hok,I0.len⟩
  refine wpAny_mono (ht [] s1 (cH N vs) H _ I hq) (fun fl s' hs=>?_) fun e s' hs=>hs.elim
  have fin:∀{σ':L2.St} {H':Hp} {v:V} {u:Value},Inv (yW P w K mg base N qual scope f cdv A outer s H E) [] σ' H' s'→RelV v u→Q v H'→CE outer P w H s Q u s':=
    fun {σ' H' v u} J rv q=>⟨v,H',J.os,J.bare,J.base,J.hok,rv,q⟩
  cases fl with
  | ret u=>
    obtain ⟨v,σ',H',J,rv,q⟩:=hs
    exact fin J rv q
  | next=>
    obtain ⟨σ',H',J,q⟩:=hs
    exact fin (v:=V.non) (u:=Value.none) J rfl q
  | brk=>
    obtain ⟨_,_,_,q⟩:=hs
    exact False.elim q
  | cont=>
    obtain ⟨_,_,_,q⟩:=hs
    exact False.elim q
theorem zC {P:Program} {w:World} {K:PySem.W.Frag} {mg:Str→Option Value} {base:Heap} {x:Str} {st:Stmt} {N ps:List Str} {k a n:Nat} {g:cJ} (D:Def K mg x st ps) (S:FnScope N ps (ag st)) (hpa:ps.length=a) (hNn:N.length=n) (hps:a≤n)
    (hbody:∀(f:Addr) (cdv:Value) (A:Around) (outer:List Env) (s:Shared) (H:Hp) (E:XK),RoomH k (A.deeper (PyProof.Rows.envOfC x (ag st) s.heap.objs.size f cdv))→
      ny (yW P w K mg base N x (ag st) f cdv A outer s H E) (ax st) g):OwnH P w K mg base (k+1) x ps (cV K (da a n g)):=by
  subst hpa hNn
  obtain ⟨f,fd,F,mx,b⟩:=D.ex
  have kp:=F.kp
  obtain ⟨oc,od,kV,doc,pm,an,cdv,ct,osl,rfl,lk,hcd⟩:=F.ex
  refine ⟨f,_,xg lk hcd S (fun vs H Q E h=>?_) fun A outer s H vs Q E hr h=>?_,b,mx,kp⟩
  · obtain ⟨ds,r,e,rp,_⟩:=h
    unfold da at e
    split at e
    · rename_i hl
      rw [rp.len];exact hl
    · cases e
  obtain ⟨ds,r,e,rp,q⟩:=h
  unfold da at e
  split at e
  · rename_i hl
    refine ⟨_,hbody f cdv A outer s H E hr,?_⟩
    obtain ⟨⟨E',fl⟩,e1,e⟩:=Option.bind_eq_some_iff.mp e
    refine ⟨H,aM N.length ds,[],[],E',fl,⟨H,[],fb rp (by omega)⟩,rfl,e1,?_⟩
    cases fl with
    | nx=>
      cases e
      rintro σ' H' ⟨F',A',fr'⟩
      exact q _ _ (fr'.bf.trans fr'.fh) .non
    | bk=>cases e
    | ct=>cases e
    | rt r'=>
      rintro σ' v H' ⟨F',A',fr'⟩
      obtain ⟨s1,s2⟩:=fr'.resultO e
      exact q v H' s1 s2
  · cases e
theorem uX {X:Cx} {k:Nat} {x:Str} {ps:List Str} {c:List PyData→Option Sl} {p pos:Pos} {e:Expr} {es:List Expr} {m:Bool} {g:ix} (D:OwnH X.prog X.w X.K X.mg X.base k x ps (cV X.K c)) (hr:RoomH k X.A) (hg:Gl X x) (ha:AX X (e::es) m g)
    (hdb:(x == ("__debug__":Str))=false:=by decide) (he:starEach (e::es) X.env=(false,eval e X.env)::starEach es X.env:=by rfl) (hpl:(backTo pos (starEach es X.env)).any (·.1)=false:=by rfl):
    EX X (.Call (.Name x p) (e::es) [] pos) m (ao c g):=by
  obtain ⟨f,fd,F,b,mx,kp⟩:=D.ex
  have hc:PE X (.Call (.Name x p) (e::es) [] pos) (qR (cV X.K c) [] E0 (ra X.K m g)):=by
    intro pins s σ H Q I h
    refine wpAny_Call_Name_kw (fJ I hg mx ?_ hdb)
    refine PySem.W.callWith_K (h₀:=X.base) I.ok.mod.kin kp (ci (ha pos pins s σ H _ I h) fun us s1 ⟨vs,H1,I1,r,q⟩=>⟨I1.kIn,?_⟩) he hpl
    have q:cV X.K c (vs++[]) H1 Q E0:=q
    rw [List.append_nil] at q
    have hlen:(us++[]).length=ps.length:=by rw [List.append_nil,←r.length];exact F.len _ _ _ _ q
    have bd:=b s1 us I1.kIn hlen
    rw [List.append_nil] at bd
    refine wpAny_call (codeAny_mono (F.run X.A X.stack s1 H1 ⟨us,[]⟩ us vs Q E0 hr I1.env0 bd r q) fun rr s' hq=>?_)
    cases rr with
    | error e=>exact False.elim hq
    | ok fl=>
      cases fl with
      | ret u=>exact I1.after hq
      | next=>exact False.elim hq
      | brk=>exact False.elim hq
      | cont=>exact False.elim hq
  refine aY hc fun σ H Q z=>?_
  obtain ⟨B,E,xs,Xs,res,E',fr,cl,e,q⟩:=z
  obtain ⟨⟨rs,E1⟩,e1,e⟩:=Option.bind_eq_some_iff.mp e
  obtain ⟨ds,e2,e⟩:=Option.bind_eq_some_iff.mp e
  obtain ⟨r,e3,e⟩:=Option.map_eq_some_iff.mp e
  cases e
  refine ⟨B,E,xs,Xs,rs,E1,fr,cl,e1,fun vs H1 hl ⟨F,A,fr1⟩=>?_⟩
  obtain ⟨r1,A',fr2⟩:=fr1.looks hl e2
  exact ⟨ds,res,e3,by rw [List.append_nil];exact r1,fun v H' g q'=>q v H' (fr2.told g q')⟩
end PL
namespace PL
open PySem L2 Nh
theorem kf {pos:Pos} {a b:Int} {c cv:Value} (l:List Value) (h:TriplesOk l) (e:codeAmong pos (l++[rawInt a,rawInt b,c])=some cv):codeAmong pos l=some cv∨cv=c:=by
  fun_induction TriplesOk l with
  | case1=>
    simp only [List.nil_append,codeAmong,rawInt] at e
    split at e
    · cases e;exact .inr rfl
    · cases e
  | case2 a' t b' u x ce ih=>
    simp only [List.cons_append,codeAmong] at e ⊢
    split at e
    · rename_i hc;rw [if_pos hc];exact .inl e
    · rename_i hc;rw [if_neg hc];exact ih h e
  | case3 l h1 h2=>exact h.elim
section
variable {X:Cx} {pins:List (Addr×Obj)} {σ:L2.St} {H:Hp} {s:Shared}
theorem qe {P c':Addr} {q:Str} {ps:Array Value} {a b:Int} {h':Heap} {tk:Nat} (I:Inv X pins σ H s) (hT:H P=some (.tbl q)) (hps:s.heap.get? P=some (PySem.W.tabObj ps))
    (hx:∀b o,b≠P→s.heap.get? b=some o→h'.get? b=some o) (hc:s.heap.objs.size≤c') (hr:h'.CodeRec (.ref c') q) (hP:h'.get? P=some (PySem.W.tabObj (ps++#[rawInt a,rawInt b, .ref c']))):
    Inv X pins σ (upd H c' (.own P)) {s with heap:=h',toks:=tk}:=by
  have hn:H c'=none:=I.hok.fresh hc
  have neP:∀b,H b=none→b≠P:=fun b n z=>by subst z;rw [hT] at n;cases n
  obtain ⟨ps0,e0,t0,r0⟩:=I.hok P _ hT
  rw [hps] at e0
  cases e0
  refine I.un (h':=h') (t':=tk) ⟨fun b o e n _ _=>hx b o (neP b n) e,fun b o e n _ _=>⟨o.slots,hx b o (neP b n) e⟩,fun b o e n _=>?_,fun b o e _=>?_,fun b xs e=>?_,fun b o u e=>?_,fun b z e=>?_⟩ fun d o e=>?_
  · rw [aw (Nat.ne_of_lt (Nat.lt_of_lt_of_le (Heap.lt_size e) hc))];exact n
  · by_cases hb:b=P
    · subst hb;exact ⟨_,hP⟩
    · exact ⟨o,hx b o hb e⟩
  · rw [aw (ba e hn)];exact e
  · rw [aw (ba e hn)];exact e
  · rw [aw (ba e hn)];exact e
  · by_cases hd:d=c'
    · subst hd
      rw [upd_same] at e
      cases e
      obtain ⟨c2,oc,_,_,hc2,hoc,_⟩:=hr
      cases hc2
      exact ⟨oc,hoc⟩
    · rw [aw hd] at e
      by_cases hp:d=P
      · subst hp
        rw [hT] at e
        cases e
        refine ⟨_,hP,by simpa using TriplesOk_snoc a b (.ref c') _ t0,fun pos cv z=>?_⟩
        rcases kf (a:=a) (b:=b) (c:= .ref c') ps.toList t0 (by simpa using z) with z | z
        · obtain ⟨c,ec,ho,c2,oc,vs,tq,hc2,hoc,hr2⟩:=r0 pos cv z
          subst ec
          cases hc2
          refine ⟨c,rfl,by rw [aw (ba ho hn)];exact ho,c,oc,vs,tq,rfl,hx _ _ (fun z=>?_) hoc,hr2⟩
          subst z
          rw [hT] at ho
          cases ho
        · subst z
          exact ⟨c',rfl,upd_same,hr⟩
      · refine (I.hok d o e).stay (fun b u hb q=>hx b u ?_ q) (fun b hb=>by rw [aw (ba hb hn)];exact hb) fun b xs hb=>by rw [aw (ba hb hn)];exact hb
        rcases hb with rfl | hb
        · exact hp
        · intro z
          subst z
          rw [hT] at hb
          cases hb
theorem yA {P:Addr} {ps:Array Value} (I:Inv X pins σ H s) (hps:s.heap.get? P=some (PySem.W.tabObj ps)):mainGlobals≠P∧s.heap.BuiltinsAt X.mg P:=by
  have hg:=I.mod.glob.keeps I.bk
  obtain ⟨bm,ob,b1,b2,b3,b4,b5,b6⟩:=I.mod.bmain
  have b3':=I.bk _ _ b3
  refine ⟨fun q=>?_,bm,ob,b1,b2,fun q=>?_,fun q=>?_,b3',b4,b5,b6⟩
  · obtain ⟨o,es,ep,e,hd,_⟩:=hg
    rw [q,hps] at e;cases e;cases hd
  · obtain ⟨o,es,ep,e,hd,_⟩:=hg
    rw [q,e] at b3';cases b3';rw [hd] at b6;cases b6
  · rw [q,hps] at b3';cases b3';cases b4
end
structure DefT (K:PySem.W.Frag) (mg:Str→Option Value) (x:Str) (st:Stmt) (ps:List Str) (c P:Addr):Prop where
  ex:∃(f:Addr) (oc:Value) (od:Option Addr) (kV doc pm:Value) (an:Option Addr) (ct:Value) (osl:Array (Option Value)),
    K.lookup f=some ⟨oc,od, .func (PySem.W.fnOf x x (aL st) (ax st) (ag st) .none kV doc pm an (.ref c) ct),osl⟩∧PySem.W.codeIn K (.ref c) x=true∧PySem.W.keepIn K (.ref f)=true∧mg x=some (.ref f)∧
      Binds K (PySem.W.fnOf x x (aL st) (ax st) (ag st) .none kV doc pm an (.ref c) ct) ps []
  hd:PySem.W.codeHdIn K c P=true
  tp:g4 K P=some (x++".<locals>."++"<lambda>")
theorem yB {P:Program} {w:World} {K:PySem.W.Frag} {mg:Str→Option Value} {base:Heap} {x:Str} {st:Stmt} {N ps:List Str} {k a n:Nat} {g:cJ} {c T:Addr} (D:DefT K mg x st ps c T) (S:FnScope N ps (ag st)) (hpa:ps.length=a) (hNn:N.length=n) (hps:a≤n)
    (hbody:∀(f:Addr) (A:Around) (outer:List Env) (s:Shared) (H:Hp) (E:XK),Room k (A.deeper (PyProof.Rows.envOfC x (ag st) s.heap.objs.size f (.ref c)))→
      ny (ez jc P w K mg base N x (ag st) f (.ref c) A outer s H E).nox (ax st) g):Own P w K mg base (k+1) x ps (cV K (da a n g)):=by
  subst hpa hNn
  obtain ⟨f,oc,od,kV,doc,pm,an,ct,osl,lk,hcd,kp,hm,hb⟩:=D.ex
  refine ⟨f,_,qS lk hcd S (fun vs H Q E h=>?_) (fun A outer s H vs Q E hr h=>?_),hb,hm,kp⟩
  · obtain ⟨ds,r,e,rp,_⟩:=h
    unfold da at e
    split at e
    · rename_i hl
      rw [rp.len];exact hl
    · cases e
  obtain ⟨ds,r,e,rp,q⟩:=h
  unfold da at e
  split at e
  · rename_i hl
    refine ⟨_,(hbody f A outer s H E hr).nox,?_⟩
    obtain ⟨⟨E',fl⟩,e1,e⟩:=Option.bind_eq_some_iff.mp e
    refine ⟨H,aM N.length ds,[],[],E',fl,⟨H,[],fb rp (by omega)⟩,rfl,e1,?_⟩
    cases fl with
    | nx=>
      cases e
      rintro σ' H' ⟨F',A',fr'⟩
      exact q _ _ (fr'.bf.trans fr'.fh) .non
    | bk=>cases e
    | ct=>cases e
    | rt r'=>
      rintro σ' v H' ⟨F',A',fr'⟩
      obtain ⟨s1,s2⟩:=fr'.resultO e
      exact q v H' s1 s2
  · cases e
theorem nY {K:PySem.W.Frag} {n:Str} (a:PySem.W.nsIn K mainGlobals n=some none):kn K n=none:=by
  unfold kn
  rw [a]
theorem sK {K:PySem.W.Frag} {n:Str} {f c P:Addr} {oc occ:Value} {od odc:Option Addr} {fd:FuncData} {sl slc:Array (Option Value)} {vs:Array Value} (a:PySem.W.nsIn K mainGlobals n=some (some (.ref f))) (l:K.lookup f=some ⟨oc,od, .func fd,sl⟩) (hc:fd.code= .ref c)
    (lc:K.lookup c=some ⟨occ,odc, .fields vs,slc⟩) (hv:(vs[11]? :Option Value)=some (.ref P)):kn K n=some P:=by
  unfold kn
  rw [a]
  simp only [l,hc,lc,hv]
def sL (K:PySem.W.Frag) (n:Str) (o:Option Addr):Prop:=kn K n=o∧∀P,o=some P→∃c,PySem.W.codeHdIn K c P=true
theorem dO {K:PySem.W.Frag} {n:Str} (a:PySem.W.nsIn K mainGlobals n=some none):sL K n none:=⟨nY a,nofun⟩
theorem mQ {K:PySem.W.Frag} {n:Str} {f c P:Addr} {oc occ:Value} {od odc:Option Addr} {fd:FuncData} {sl slc:Array (Option Value)} {vs:Array Value} (a:PySem.W.nsIn K mainGlobals n=some (some (.ref f))) (l:K.lookup f=some ⟨oc,od, .func fd,sl⟩) (hc:fd.code= .ref c)
    (lc:K.lookup c=some ⟨occ,odc, .fields vs,slc⟩) (hv:(vs[11]? :Option Value)=some (.ref P)) (hd:PySem.W.codeHdIn K c P=true):sL K n (some P):=⟨sK a l hc lc hv,fun _ e=>by cases e;exact ⟨c,hd⟩⟩
def fe (K:PySem.W.Frag):List (Str×Str)→List (Option Addr)→Prop
  | [],[]=>True
  | n::r,o::os=>sL K n.1 o∧fe K r os
  | _,_=>False
def sN (b:Addr):List (Str×Str)→List (Option Addr)→Option Str
  | n::r,o::os=>if o=some b then some n.2 else sN b r os
  | _,_=>none
theorem jl {K:PySem.W.Frag} {b:Addr}:∀{l:List (Str×Str)} {os:List (Option Addr)},fe K l os→tP K b l=sN b l os
  | [],[],_=>rfl
  | n::r,o::os,h=>by
    unfold tP sN
    rw [h.1.1,jl h.2]
theorem mR {b:Addr} {q:Str}:∀{l:List (Str×Str)} {os:List (Option Addr)},sN b l os=some q→some b∈os
  | n::r,o::os,h=>by
    unfold sN at h
    split at h
    · rename_i e;rw [e];exact List.mem_cons_self ..
    · exact List.mem_cons_of_mem _ (mR h)
  | [],_,h=>by cases h
  | _::_,[],h=>by cases h
theorem sO {K:PySem.W.Frag} {h:Heap} {os:List (Option Addr)} (T:fe K ko os) (ht:∀b,some b∈os→h.get? b=some (PySem.W.tabObj #[])∧(∃c,PySem.W.CodeHd h c b)∧K.lookup b=none):o_ K h:=fun b q e=>by
  unfold g4 at e
  rw [jl T] at e
  exact ht b (mR e)
def jQ (K:PySem.W.Frag) (h:Heap):List (Option Addr)→Prop
  | []=>True
  | none::r=>jQ K h r
  | some P::r=>(h.get? P=some (PySem.W.tabObj #[])∧K.lookup P=none)∧jQ K h r
theorem g_ {K:PySem.W.Frag} {h:Heap} {b:Addr}:∀{l:List (Str×Str)} {os:List (Option Addr)},fe K l os→jQ K h os→some b∈os→h.get? b=some (PySem.W.tabObj #[])∧(∃c,PySem.W.codeHdIn K c b=true)∧K.lookup b=none
  | _,[],_,_,m=>by cases m
  | [],_::_,T,_,_=>T.elim
  | _::l,none::r,T,t,m=>by
    rcases List.mem_cons.mp m with e | e
    · cases e
    · exact g_ (os:=r) T.2 t e
  | _::l,some P::r,T,t,m=>by
    rcases List.mem_cons.mp m with e | e
    · cases e;exact ⟨t.1.1,T.1.2 _ rfl,t.1.2⟩
    · exact g_ T.2 t.2 e
theorem uY {K:PySem.W.Frag} {h:Heap} {os:List (Option Addr)} (X:K.In h) (T:fe K ko os) (t:jQ K h os):o_ K h:=sO T fun b m=>
  let ⟨t1,⟨c,t2⟩,t3⟩:=g_ T t m
  ⟨t1,⟨c,PySem.W.codeHd_of_K X t2⟩,t3⟩
end PL
namespace PL
open PySem PySem.Spec PyProof.Rows L2 Nh
def yC (W:Value→Shared→Prop) (P:Program) (w:World) (K:PySem.W.Frag) (mg:Str→Option Value) (base:Heap) (N:List Str) (qual:Str) (scope:Scope) (f:Addr) (cd:Value) (cl:List (Str×Addr)) (A:Around) (outer:List Env) (s:Shared) (H:Hp):Cx where
  prog:=P
  w:=w
  K:=K
  mg:=mg
  base:=base
  A:=A.deeper (PySem.W.envX qual scope s.heap.objs.size f cd cl)
  N:=N
  s₀:=s
  H₀:=H
  env:=PySem.W.envX qual scope s.heap.objs.size f cd cl
  outer:=outer
  stack:=PySem.W.envX qual scope s.heap.objs.size f cd cl::outer
  ex:=[]
  calm:=true
  fn:=fun _=>false
  pn:=[]
  xe:=W
section
variable {W:Value→Shared→Prop} {P:Program} {w:World} {K:PySem.W.Frag} {mg:Str→Option Value} {base:Heap} {N:List Str} {qual:Str} {scope:Scope} {f:Addr} {cd:Value} {cl:List (Str×Addr)} {A:Around} {outer:List Env} {s:Shared} {H:Hp} {σ:L2.St}
structure LamIn (N:List Str) (scope:Scope) (cl:List (Str×Addr)) (σ:L2.St) (H:Hp) (h:Heap):Prop where
  cell:∀x c,cl.lookup x=some c→(∃v,h.IsCell c v)∧H c=none
  inj:∀x y c,cl.lookup x=some c→cl.lookup y=some c→x=y
  has:∀x,(scope.names.lookup x=some .cell∨scope.names.lookup x=some .free)→∃c,cl.lookup x=some c
  val:∀(i:Nat) x v,N[i]? =some x→σ[i]? =some (some v)→scope.names.lookup x=some .free∧∃u c,RelV v u∧cl.lookup x=some c∧h.IsCell c (some u)
  len:σ.length=N.length
theorem LamIn.keeps {h h':Heap} (L:LamIn N scope cl σ H h) (k:∀b o,h.get? b=some o→h'.get? b=some o):LamIn N scope cl σ H h':=
  ⟨fun x c e=>let ⟨⟨v,o,ho,hd⟩,n⟩:=L.cell x c e;⟨⟨v,o,k _ _ ho,hd⟩,n⟩,L.inj,L.has,fun i x v e1 e2=>let ⟨z,u,c,r,e,o,ho,hd⟩:=L.val i x v e1 e2;⟨z,u,c,r,e,o,k _ _ ho,hd⟩,L.len⟩
theorem uZ {h₁:Heap} {tk:Nat} {m:Str→Option Value} (sk:scope.kind= .function) (hd:A.handled=none) (e0:Env0 P w K mg base A outer s H) (L:LamIn N scope cl σ H s.heap)
    (hns:h₁.Ns s.heap.objs.size m) (hk:∀b o,s.heap.get? b=some o→h₁.get? b=some o):Inv (yC W P w K mg base N qual scope f cd cl A outer s H) [] σ H {s with heap:=h₁,toks:=tk}:=by
  have noA:∀b:Addr,b∉(yC W P w K mg base N qual scope f cd cl A outer s H).ex:=fun b z=>absurd (show b∈([]:List Addr) from z) (by simp)
  have L1:=L.keeps hk
  refine ⟨⟨e0.mod,sk,rfl,rfl,Nat.le_refl _,L.inj,L.has,fun y c z _=>(nomatch z),fun _=>hd,Around.frames_deeper e0.frames, .inr ⟨rfl,rfl⟩,fun b z=>absurd z (noA b),e0.bs,e0.bsz,fun b _ _=>noA b,fun b z=>absurd z (noA b),e0.funs,e0.frf,e0.tab⟩,
    rfl,e0.bare,Un.kept hk,⟨_,hns,fun i y v h1 h2 h3=>?_⟩,fun y c h=>(L1.cell y c h).1,e0.hok.fresh (Nat.le_refl _),fun y c h=>(L.cell y c h).2,fun p hp=>absurd (show p∈([]:List (Addr×Obj)) from hp) (by simp),e0.hok.kept hk,L.len⟩
  obtain ⟨z,u,c,r,e,o⟩:=L1.val i y v h1 h2
  exact ⟨u,r, .inr ⟨.inr z,c,e,o⟩⟩
def yD (P:Program) (w:World) (K:PySem.W.Frag) (A:Around) (outer:List Env) (H:Hp) (fa:Addr) (n:Str) (s:Shared):Prop:=
  ∀W:Value→Shared→Prop,(∀C H' ea s' a0 B,PySem.W.nsIn K mainGlobals n=some (some (.ref C))→Same H H'→s'.os=s.os→AllBare s'.gens→FlyC B outer ea (.ref C) a0 s'.heap→HOk P w H' B→UnB (gU outer) H H' s.heap B s'.heap→W (.ref ea) s')→
    wpAny (model P w) A (call (.ref fa) [] []) (fun _ _=>False) W s
theorem sP {k:Nat} {name x:Str} {ps:List Str} {r:List PyData→Option Str} {p pos:Pos} {e:Expr} {es:List Expr} {m:Bool} {g:ix} {params:Arguments} {pm ctv:Value} {c':Addr} {ds:List PyData} {vs:List V} {n:Str} {E':List Sl}
    (D:OwnR P w K mg base k x ps (lM K r)) (hr:Room (k+1) A) (e0:Env0 P w K mg base A outer s H) (L:LamIn N scope cl (cH N vs) H s.heap) (rp:RpA K H vs ds) (hn:ds.length≤N.length)
    (ho:s.heap.get? f=some (PySem.W.kla_obj name qual params (.Call (.Name x p) (e::es) [] pos) scope cl pm c' ctv)) (hcd:s.heap.CodeRec (.ref c') qual)
    (ha:∀s:Shared,AX (yC (fun _ _=>False) P w K mg base N qual scope f (.ref c') cl A outer s H) (e::es) m g) (eg:cO r g (aM N.length ds)=some (n,E'))
    (hbind:bindArgs (PySem.W.kla_fn name qual params (.Call (.Name x p) (e::es) [] pos) scope cl pm (.ref c') ctv) ⟨[],[]⟩=pure [])
    (sg:scope.names.lookup x=some .globalImplicit) (sk:scope.kind= .function) (hco:scope.isCoroutine=false) (hgen:scope.isGenerator=false) (hcell:∀x∈scope.names,x.2≠ .cell) (hdb:(x == ("__debug__":Str))=false)
    (he:∀env,starEach (e::es) env=(false,eval e env)::starEach es env) (hpl:∀env,(backTo pos (starEach es env)).any (·.1)=false):yD P w K A outer H f n s:=by
  intro W k1
  have hroom:A.depth < recursionLimit:=by have:=hr.dp;omega
  have lim:s.heap.NoLimit:=e0.mod.nolimit.keeps fun b o e=>(e0.bs b o e).1
  refine wpAny_call (PySem.W.kla_callFunE hroom ho rfl hco hgen rfl hcd ?_)
  rw [hbind]
  refine wpAny_pure (wpAny_newFunctionEnv hcell (fun y hy=>(nomatch hy)) (fun h₁ hns hsb=>⟨lim.fresh _ hsb,PySem.W.kla_codeExpr ?_⟩) sk)
  have hk₁:∀b o,s.heap.get? b=some o→h₁.get? b=some o:=fun b o e=>hsb.extBut b o (Nat.ne_of_lt (Heap.lt_size e)) (Heap.get?_push_of_some _ e)
  have IL:=fun W'=>uZ (W:=W') (P:=P) (w:=w) (K:=K) (mg:=mg) (base:=base) (qual:=qual) (f:=f) (cd:= .ref c') (tk:=s.toks+([]:List (Str×Value)).length) sk hr.hd e0 L hns hk₁
  refine wpAny_mono (iH (X:=yC _ P w K mg base N qual scope f (.ref c') cl A outer s H) (es:=es) D (hr.deeper _) sg (ha s) hdb (he _) (hpl _) (IL (fun e' s'=>wpAny (model P w) (A.deeper (PySem.W.envX qual scope s.heap.objs.size f (.ref c') cl)) (leaving (PySem.W.envX qual scope s.heap.objs.size f (.ref c') cl) e') (fun _ s''=>W e' s'') (fun e'' s''=>W e'' s'') s')) (B:=H) ⟨H,[],fb rp hn⟩ eg fun C H' ns ⟨F',A',fr'⟩=>?_) (fun _ _ z=>z.elim) fun _ _ z=>z
  intro H1 s1 ea s' a0 B I1 os bare fl hok u
  refine jN I1.ok.frames rfl fl fun h2 x1 x2=>?_
  exact k1 C H' ea _ a0 B ns (fr'.bf.trans fr'.fh) (os.trans I1.os) bare x1 hok (UnB.out I1 rfl (u.on fl.2.2.1 x2))
end
end PL
namespace PL
open PySem PySem.Spec PyProof.Rows L2 Nh
theorem yE {P:Program} {w:World} {K:PySem.W.Frag} {mg:Str→Option Value} {base:Heap} {k:Nat} {f:Addr} {name qual:Str} {params:Arguments} {body:List Stmt} {scope:Scope} {dV kV doc pm cdv ct oc:Value} {an od:Option Addr}
    {osl:Array (Option Value)} {N ps:List Str} (lk:K.lookup f=some ⟨oc,od, .func (PySem.W.fnOf name qual params body scope dV kV doc pm an cdv ct),osl⟩) (hcd:PySem.W.codeIn K cdv qual=true) (S:FnScope N ps scope)
    {A:Around} {outer:List Env} {s:Shared} {H:Hp} {args:Args} {us:List Value} {vs:List V} {Q:VK} (hr:Room (k+1) A) (e0:Env0 P w K mg base A outer s H) (hb:BindsTo s (PySem.W.fnOf name qual params body scope dV kV doc pm an cdv ct) args (ps.zip us)) (r:Vals vs us) (hl:vs.length=ps.length)
    (hbody:∀s1,(∀b o,s.heap.get? b=some o→s1.heap.get? b=some o)→Inv (ez jc P w K mg base N qual scope f cdv A outer s H E0).nox [] (cH N vs) H s1→Room k (A.deeper (envOfC qual scope s.heap.objs.size f cdv))→
      wpAny (model P w) (A.deeper (envOfC qual scope s.heap.objs.size f cdv)) (execs body (envOfC qual scope s.heap.objs.size f cdv)) (SP (ez jc P w K mg base N qual scope f cdv A outer s H E0).nox [] {nx:=fun _ H'=>Q .non H',rt:=Q}) (fun _ _=>False) s1):
    codeAny (model P w) A (.call (.ref f) args) (CR jc outer P w H s Q E0) s:=by
  have KX:K.In s.heap:=e0.mod.kin.keeps fun b o e=>(e0.bs b o e).1
  have lim:s.heap.NoLimit:=e0.mod.nolimit.keeps fun b o e=>(e0.bs b o e).1
  refine codeAny_call_function hr.depth (KX _ _ lk) rfl S.co S.gen rfl (PySem.W.codeRec_of KX hcd) (hb _ _ _ _ ?_)
  refine wpAny_newFunctionEnv_cells S.kind (fun ⟨n,v⟩ hy=>(S.par n (List.of_mem_zip hy).1).imp id fun q=>⟨q,PySem.W.cellsFrom_some _ _ _ (.inl q)⟩) fun env he s1 x=>?_
  subst he
  refine ⟨lim.keeps x.toInCall.keep,codeAny_func ?_⟩
  refine wpAny_mono (hbody s1 x.toInCall.keep ((ir (CX:=jc) (E:=E0) S hr.hd e0 hl r x).wish _) (hr.deeper _)) (fun fl s' hs=>?_) fun e s' hs=>hs.elim
  cases fl with
  | ret u=>obtain ⟨v,σ',H',J,rv,q⟩:=hs;exact ⟨v,H',J.os,J.bare,J.base,J.hok,rv,q⟩
  | next=>obtain ⟨σ',H',J,q⟩:=hs;exact ⟨V.non,H',J.os,J.bare,J.base,J.hok,rfl,q⟩
  | brk=>obtain ⟨_,_,_,q⟩:=hs;exact q.elim
  | cont=>obtain ⟨_,_,_,q⟩:=hs;exact q.elim
theorem xh {X:Cx} {body:List Stmt} {cn en:Str} {CH:Addr} {np hpos pos:Pos} {b₀:Stmt} {suite:List Stmt} {ok:List Str} {i:Nat} {hs:cJ} (hx:X.xe=fun _ _=>False) (hN:X.N.Nodup) (hex:X.ex=[]) (hst:X.stack=X.env::X.outer) (hfr:X.env.frame=some X.env.locals) (hg:Gl X cn) (hm:X.mg cn=some (.ref CH))
    (hok:∀n∈ok,∀C,PySem.W.nsIn X.K mainGlobals n=some (some (.ref C))→PySem.W.exmOne X.K (.ref C) (.ref CH)=some true) (hh:∀ea oe C,(∃vs,oe.data= .fields vs∧vs[2]? =some .none)→ny (hX X ea oe C) (b₀::suite) hs) (hi:X.N[i]? =some en) (hk:X.env.scope.names.lookup en=some .local) (hdb:(cn == ("__debug__":Str))=false)
    {pins:List (Addr×Obj)} {s:Shared} {σ:L2.St} {H B:Hp} {D:Ends} {E E2:List Sl} {n:Str} {sv:Sl} (I:Inv X pins σ H s) (fr:Frm X.K B σ H E [] [])
    (hr:∀W:Value→Shared→Prop,(∀C H' ea s' a0 Bb,PySem.W.nsIn X.K mainGlobals n=some (some (.ref C))→Same H H'→s'.os=s.os→AllBare s'.gens→FlyC Bb X.stack ea (.ref C) a0 s'.heap→HOk X.prog X.w H' Bb→UnB (gU X.stack) H H' s.heap Bb s'.heap→W (.ref ea) s')→wpAny (model X.prog X.w) X.A (execs body X.env) (fun _ _=>False) W s)
    (hc:n∈ok∧i < E.length) (eh:hs (E.set i (.sh (xc n)))=some (E2, .rt sv)) (q:∀σ9 v H9,Frm X.K B σ9 H9 E2 [v] [sv]→D.rt v H9):
    wpAny (model X.prog X.w) X.A (exec (.Try body [.ExceptHandler (some (.Name cn np)) (some en) (b₀::suite) hpos] [] [] pos) X.env) (SP X pins D) X.xe s:=by
  refine wpAny_Try_except (wpAny_mono (hr (fun e s₁=>wpAny (model X.prog X.w) X.A (noteFrame e X.env) (fun _ s₂=>wpAny (model X.prog X.w) X.A (setFlight e none) (fun _ s₃=>wpAny (model X.prog X.w) X.A (handleBy e X.env [.ExceptHandler (some (.Name cn np)) (some en) (b₀::suite) hpos]) (SP X pins D) X.xe s₃) X.xe s₂) X.xe s₁) fun C H' ea s' a0 Bb ns gg os bare fly hokB u=>?_) (fun _ _ z=>z.elim) fun _ _ z=>z)
  have ff:s'.heap.FunFrames Bb X.stack:=fly.2.2.1
  have fly':FlyC Bb (X.env::X.outer) ea (.ref C) a0 s'.heap:=hst▸fly
  have invAt:∀h5,Bb.StaysIn h5→s'.heap.UpToSlots h5→Inv X pins σ H' {s' with heap:=h5}:=fun h5 st k=>by
    have u2:UnB (gU X.stack) H H' s.heap Bb h5:=u.on ff k
    exact I.call' (s':={s' with heap:=h5}) os (u2.un st I.stkFree) (hokB.kept fun b o e=>st b o e) bare fun b z=>(nomatch z)
  refine kM (by rw [I.ok.frames,hst]) hfr fly' fun h4 held4 k4=>?_
  refine sC held4 fun h5 fly5 k5=>?_
  have I5:=invAt h5 fly5.1 (k4.trans k5)
  obtain ⟨ob,hob,hobc⟩:=fly5.there
  have Z5:eJ ea C h5:=⟨ob,hob,hobc⟩
  refine wpAny_handleBy_cons (codeAny_handlers_test (fJ (X:=Ag X ea) (sH I5) hg hm ?_ hdb)) (by intro q;cases q)
  refine (PySem.W.exm_one (I5.kIn) (iF Z5) (hok n hc.1 C ns)).here ?_
  refine codeAny_handlers_suite_as ?_
  refine lJ fly5 fun h6 fly6 k6=>?_
  have I6:=invAt h6 fly6.1 ((k4.trans k5).trans k6)
  obtain ⟨oe,vs,hoe,hoec,hoed,_⟩:=fly6.first
  have nB:Bb.get? ea=none:=fly6.2.1
  have old:∀b o,s.heap.get? b=some o→b≠ea:=fun b o eb z=>by
    subst z
    by_cases hf:b∈gU X.stack
    · obtain ⟨_,o',ho',hd⟩:=(show h6.FunFrames Bb X.stack from hst▸fly6.2.2.1).mem hf
      rw [hoe] at ho'
      cases ho'
      exact hd vs hoed
    · obtain ⟨o',ho'⟩:=u.there b o eb hf
      rw [nB] at ho'
      cases ho'
  have hn6:H' ea=none:=by
    cases q:H' ea with
    | none=>rfl
    | some o=>
      obtain ⟨z,e⟩:=mM (hokB ea o q)
      rw [nB] at e
      cases e
  have hs0:X.s₀.heap.get? ea=none:=by
    cases q:X.s₀.heap.get? ea with
    | none=>rfl
    | some o=>
      obtain ⟨o',z⟩:=I.base.there ea o q (by rw [hex];exact fun z=>(nomatch z))
      exact absurd rfl (old ea o' z)
  have hnew:EaNew X ea:=⟨hs0,fun xs z=>(nomatch hn6.symm.trans (I6.base.tups ea xs z)),fun o u z=>(nomatch hn6.symm.trans (I6.base.frzs ea o u z)),fun q z=>(nomatch hn6.symm.trans (I6.base.tbls ea q z))⟩
  have hctx:∃vs,oe.data= .fields vs∧vs[2]? =some .none:=by
    obtain ⟨o,ws,ho,hd,h2⟩:=fly6.2.2.2.2
    rw [hoe] at ho
    cases ho
    exact ⟨ws,hd,h2⟩
  have I7:Inv X pins σ (upd H' ea (.frz oe (.ext (eJ ea C)))) {s' with heap:=h6}:=by
    refine qc I6 hn6 ?_ ?_ (fun x c e=>?_) (fun p hp=>?_) ?_
    · cases q:X.s₀.heap.get? ea with
      | none=>rfl
      | some o=>
        obtain ⟨o',z⟩:=I.base.there ea o q (by rw [hex];exact fun z=>(nomatch z))
        exact absurd rfl (old ea o' z)
    · obtain ⟨_,⟨o,_,_,ho,_⟩,_⟩:=I.loc
      exact old _ o ho
    · obtain ⟨v,o,ho,_⟩:=I.cell x c e
      exact old _ o ho
    · exact old _ _ (I.pin p hp).1
    · exact ⟨hoe,⟨oe,hoe,hoec⟩,⟨oe,hoe⟩,fun h1 h2 ⟨o,z,c⟩ k=>⟨o,k o z,c⟩⟩
  refine jt (X:=X) I7 hN hi (.inl hk) (v:= .ref ea) rfl (fun s8 I8=>?_) (.inr hk)
  have g:Same H' (upd H' ea (.frz oe (.ext (eJ ea C)))):=fun b o e=>by rw [aw (ba e hn6)];exact e
  obtain ⟨F0,A0,fr0⟩:=fr
  have fr1:=fr0.grow gg
  have fr2:=fr1.grow g
  have nA:ea∉A0:=fun z=>by
    rcases fr1.mutA ea z with ⟨_,w⟩ | ⟨_,w⟩ <;> rw [hn6] at w <;> cases w
  have fr3:=fr2.push (v:= .ref ea) (s:= .sh (xc n)) ⟨rfl,_,rfl, .exc (by show (if ea∈A0 then none else _)=_;rw [if_neg nA];exact upd_same) ns⟩
  obtain ⟨A3,fr4⟩:=fr3.store rfl (fun _ z=>(nomatch z)) hc.2
  have q8:=hh ea oe C hctx pins s8 _ _ {nx:=fun _ _=>False,bk:=fun _ _=>False,ct:=fun _ _=>False,rt:=fun v H9=>∃σ9,Frm X.K B σ9 H9 E2 [v] [sv]} (uV I8 hnew upd_same) ⟨B,_,[],[],E2, .rt sv,⟨_,A3,fr4⟩,rfl,eh,fun σ9 v H9 f=>⟨σ9,f⟩⟩
  refine wpAny_mono q8 (fun f s9 z=>?_) fun _ _ z=>z.elim
  cases f with
  | next=>obtain ⟨_,_,_,z⟩:=z;exact z.elim
  | brk=>obtain ⟨_,_,_,z⟩:=z;exact z.elim
  | cont=>obtain ⟨_,_,_,z⟩:=z;exact z.elim
  | ret uu=>
    obtain ⟨v,σ9,H9,I9,rv,σx,fx⟩:=z
    have I9:Inv X pins σ9 H9 s9:=sI I9 I.ok hnew
    exact sJ I9 hN hi hk fun s10 I10=>⟨v,_,H9,I10,rv,q _ v H9 fx⟩
end PL
namespace PL
open PySem PySem.Spec PyProof.Rows L2 Nh
structure OwnF (P:Program) (w:World) (K:PySem.W.Frag) (mg:Str→Option Value) (base:Heap) (k:Nat) (x:Str) (ok:List Str) (c:Str→PyData→Option Sl):Prop where
  ex:∃(f:Addr) (fd:FuncData) (ps:List Str),ps.length=2∧Binds K fd ps []∧mg x=some (.ref f)∧PySem.W.keepIn K (.ref f)=true∧
    ∀(A:Around) (outer:List Env) (s:Shared) (H:Hp) (us:List Value) (fa:Addr) (o:Obj) (fd':FuncData) (dv:V) (d:PyData) (n:Str) (sv:Sl) (Q:VK),Room (k+1) A→Env0 P w K mg base A outer s H→BindsTo s fd ⟨us,[]⟩ (ps.zip us)→Vals [.ref fa,dv] us→Rp K H dv d→
      s.heap.get? fa=some o→o.data= .func fd'→(∀env s1,Env0 P w K mg base (A.deeper env) (env::outer) s1 H→Room k (A.deeper env)→(∀b o,s.heap.get? b=some o→s1.heap.get? b=some o)→yD P w K (A.deeper env) (env::outer) H fa n s1)→n∈ok→c n d=some sv→
      (∀v H',Same H H'→kC K H H' v sv→Q v H')→codeAny (model P w) A (.call (.ref f) ⟨us,[]⟩) (CR jc outer P w H s Q E0) s
def zD (n i:Nat) (hs:cJ):Str→PyData→Option Sl:=fun nm d=>if 2≤n∧i < n then match hs ((.no:: .sh d::List.replicate (n - 2) .no).set i (.sh (xc nm))) with
  | some (_, .rt r)=>cT r
  | _=>none
  else none
theorem xi {K:PySem.W.Frag} {H:Hp} {N:List Str} {fv dv:V} {d:PyData} (r:Rp K H dv d):FrF K H H [] (L2.cH N [fv,dv]) H (.no:: .sh d::List.replicate (N.length - 2) .no) [] []:=by
  refine ⟨Same.refl _,Same.refl _,gH H,?_,List.nodup_nil,fun a ha=>(by cases ha),rfl,?_⟩
  · show SAll _ (some fv::some dv::List.replicate (N.length - 2) none) _ []
    refine .cons (A:=[]) rfl (.cons (A:=[]) ⟨rfl,_,rfl,r⟩ ?_)
    generalize N.length - 2=k
    generalize L2.cH N [fv,dv]=τ
    induction k with
    | zero=>exact .nil
    | succ k ih=>exact .cons (A:=[]) rfl ih
  · intro s hs
    rcases List.mem_cons.mp hs with rfl | hs
    · rfl
    rcases List.mem_cons.mp hs with rfl | hs
    · rfl
    rw [(List.mem_replicate.mp hs).2]
    rfl
theorem zE {P:Program} {w:World} {K:PySem.W.Frag} {mg:Str→Option Value} {base:Heap} {x dn due cn en:Str} {st b₀:Stmt} {suite ce:List Stmt} {N:List Str} {k n i:Nat} {hs:cJ} {ok:List Str} {CH:Addr} {p1 p2 p3 np hpos tpos:Pos} (D:Def K mg x st [dn,due]) (S:FnScope N [dn,due] (ag st)) (hNn:N.length=n)
    (hb:ax st= .Try [.Expr (.Call (.Name dn p1) [] [] p2) p3] [.ExceptHandler (some (.Name cn np)) (some en) (b₀::suite) hpos] [] [] tpos::ce)
    (hm:mg cn=some (.ref CH)) (hok:∀n∈ok,∀C,PySem.W.nsIn K mainGlobals n=some (some (.ref C))→PySem.W.exmOne K (.ref C) (.ref CH)=some true)
    (hbody:∀(f:Addr) (cdv:Value) (A:Around) (outer:List Env) (s:Shared) (H:Hp),Room k (A.deeper (PyProof.Rows.envOfC x (ag st) s.heap.objs.size f cdv))→∀ea oe C,(∃vs,oe.data= .fields vs∧vs[2]? =some .none)→ny (hX (ez jc P w K mg base N x (ag st) f cdv A outer s H E0).nox ea oe C) (b₀::suite) hs)
    (hg:(ag st).names.lookup cn=some .globalImplicit:=by rfl) (hi:N[i]? =some en:=by rfl) (hk:(ag st).names.lookup en=some .local:=by rfl) (h0:N[0]? =some dn:=by rfl) (hk0:(ag st).names.lookup dn=some .local:=by rfl) (hdb:(cn == ("__debug__":Str))=false:=by decide) (hdb2:(dn == ("__debug__":Str))=false:=by decide)
    (hsw:∀env,swapsWith (.Call (.Name dn p1) [] [] p2) none p3.line env=pure false:=by intro _;rfl):OwnF P w K mg base k x ok (zD n i hs):=by
  subst hNn
  obtain ⟨f,fd,F,mx,b⟩:=D.ex
  have kp:=F.kp
  obtain ⟨oc,od,kV,doc,pm,an,cdv,ct,osl,rfl,lk,hcd⟩:=F.ex
  refine ⟨f,_,_,rfl,b,mx,kp,fun A outer s H us fa o fd' dv d nm sv Q hr e0 bd rv rp ho hfd deed hn hc q=>?_⟩
  refine yE lk hcd S hr e0 bd rv rfl fun s1 keep I hr1=>?_
  unfold zD at hc
  split at hc
  rotate_left
  · cases hc
  rename_i hlen
  split at hc
  rotate_left
  · cases hc
  rename_i E2 r eh
  rw [hb]
  refine wpAny_execs_cons (wpAny_mono (xh (X:=(ez jc P w K mg base N x (ag st) f cdv A outer s H E0).nox) (ok:=ok) (D:={nx:=fun _ _=>False,bk:=fun _ _=>False,ct:=fun _ _=>False,rt:=Q}) rfl S.nd rfl rfl rfl hg hm hok (hbody f cdv A outer s H hr1) hi hk hdb I ⟨H,[],xi rp⟩ (fun W kk=>?_) ⟨hn,by simp;omega⟩ eh fun σ9 v H9 ⟨F9,A9,f9⟩=>?_) (fun fl s' z=>?_) fun _ _ z=>z)
  · obtain ⟨m,hns,hl⟩:=I.loc
    obtain ⟨u,ru,lo⟩:=hl 0 dn (.ref fa) h0 rfl (.inl hk0)
    cases (show u=Value.ref fa from ru)
    have hm0:m dn=some (.ref fa):=by
      rcases lo with ⟨_,z⟩ | ⟨z,_⟩
      · exact z
      · rcases z with z | z <;> exact absurd ((show (ag st).names.lookup dn=_ from z).symm.trans hk0) (by decide)
    refine wpAny_execs_cons (wpAny_mono (wpAny_Expr_any (Q:=fun _ _=>False) (wpAny_Call_Name_kw (wpAny_Name (wpAny_loadName_local S.kind hk0 hns hm0 (Calls.callWith_function (evalArgs_nil3 ⟨⟨keep _ _ ho,hfd⟩,?_⟩))) hdb2)) I.quiet (hsw _)) (fun _ _ z=>z.elim) fun _ _ z=>z)
    exact deed _ s1 I.env0 hr1 keep W kk
  · obtain ⟨s1,s2⟩:=f9.resultO hc
    exact q v H9 s1 s2
  · cases fl with
    | next=>obtain ⟨_,_,_,z⟩:=z;exact z.elim
    | brk=>obtain ⟨_,_,_,z⟩:=z;exact z.elim
    | cont=>obtain ⟨_,_,_,z⟩:=z;exact z.elim
    | ret u=>exact z
end PL
namespace PL
open PySem PySem.Spec PyProof.Rows L2 Nh
structure LamOk (X:Cx) (scope:Scope) (cl:List (Str×Addr)) (N:List Str) (js:List Nat):Prop where
  clos:closureFor scope X.env=pure cl
  same:∀x c,cl.lookup x=some c→X.env.cells.lookup x=some c
  has:∀x,(scope.names.lookup x=some .cell∨scope.names.lookup x=some .free)→∃c,cl.lookup x=some c
  len:js.length=N.length
  from_:∀(i:Nat) x,N[i]? =some x→∃j,js[i]? =some j∧X.N[j]? =some x∧scope.names.lookup x=some .free∧(X.env.kindOf x=some .cell∨X.env.kindOf x=some .free)∧∃c,cl.lookup x=some c
theorem fN {X:Cx} {scope:Scope} {N:List Str} {js:List Nat} (clos:closureFor scope X.env=pure (gk scope X.env):=by rfl) (same:(scope.names.filter fun p=>p.2 == .free).all (fun p=>(X.env.cells.lookup p.1).isSome)=true:=by rfl)
    (has:scope.names.all (fun y=> !(y.2 == .cell||y.2 == .free)||((gk scope X.env).lookup y.1).isSome)=true:=by rfl) (len:js.length=N.length:=by rfl)
    (fr:(js.zip N).all (fun p=>X.N[p.1]? == some p.2&&scope.names.lookup p.2 == some .free&&(X.env.kindOf p.2 == some .cell||X.env.kindOf p.2 == some .free)&&((gk scope X.env).lookup p.2).isSome)=true:=by rfl):LamOk X scope (gk scope X.env) N js:=by
  refine ⟨clos,fun x c e=>?_,fun x h=>?_,len,fun i x hx=>?_⟩
  · have hm:=PySem.mem_of_lookup e
    unfold gk at hm
    obtain ⟨p,hp,ep⟩:=List.mem_map.mp (List.mem_reverse.mp hm)
    obtain ⟨c',ec⟩:=Option.isSome_iff_exists.mp (List.all_eq_true.mp same _ hp)
    injection ep with e1 e2
    subst e1
    rw [ec] at e2 ⊢
    exact congrArg some e2
  · have key:∀k,scope.names.lookup x=some k→(k == NameKind.cell||k == NameKind.free)=true→∃c,(gk scope X.env).lookup x=some c:=fun k h hk=>by
      have:=List.all_eq_true.mp has _ (PySem.mem_of_lookup h)
      simp only [hk,Bool.not_true,Bool.false_or] at this
      exact Option.isSome_iff_exists.mp this
    rcases h with h | h
    · exact key _ h rfl
    · exact key _ h rfl
  · have hi:i < N.length:=(List.getElem?_eq_some_iff.mp hx).1
    have ej:js[i]? =some (js[i]'(by omega)):=List.getElem?_eq_getElem (by omega)
    have hz:(js.zip N)[i]? =some (js[i]'(by omega),x):=by rw [List.getElem?_zip_eq_some];exact ⟨ej,hx⟩
    have:=List.all_eq_true.mp fr _ (List.mem_of_getElem? hz)
    simp only [Bool.and_eq_true,Bool.or_eq_true,beq_iff_eq] at this
    exact ⟨_,ej,this.1.1.1,this.1.1.2,this.1.2,Option.isSome_iff_exists.mp this.2⟩
def vals (E:List Sl):List Nat→Option (List PyData)
  | []=>some []
  | j::js=>((E[j]?).bind Sl.val).bind fun d=>(vals E js).map fun ds=>d::ds
theorem FrF.vals {K:PySem.W.Frag} {B F:Hp} {A:List Addr} {σ:L2.St} {H:Hp} {E:List Sl} {xs:List V} {Xs:List Sl} (h:FrF K B F A σ H E xs Xs):∀{js:List Nat} {ds:List PyData},PL.vals E js=some ds→∃vs,RpA K H vs ds∧vs.length=js.length∧∀i j:Nat,js[i]? =some j→∃v,vs[i]? =some v∧σ[j]? =some (some v)
  | [],ds,e=>by cases e;exact ⟨[], .nil,rfl,fun i j z=>nomatch z⟩
  | j::js,ds,e=>by
    unfold PL.vals at e
    obtain ⟨d,e1,e⟩:=Option.bind_eq_some_iff.mp e
    obtain ⟨ds',e2,e⟩:=Option.map_eq_some_iff.mp e
    cases e
    obtain ⟨s,es,ev⟩:=Option.bind_eq_some_iff.mp e1
    obtain ⟨o,A1,eo,hs⟩:=h.var es
    obtain ⟨v,rfl,r,_⟩:=hs.val h.fh ev
    obtain ⟨vs,r2,l2,f2⟩:=h.vals e2
    refine ⟨v::vs, .cons r r2,by simp [l2],fun i k z=>?_⟩
    cases i with
    | zero=>cases z;exact ⟨v,rfl,eo⟩
    | succ i=>exact f2 i k z
def jR (js:List Nat) (n:Nat) (r:List PyData→Option Str) (g:ix) (ok:List Str) (c:Str→PyData→Option Sl) (due:Int):bz:=fun E=>(vals E js).bind fun ds=>(cO r g (aM n ds)).bind fun a=>if a.1∈ok then (c a.1 (.int due)).map fun s=>(s,E) else none
section
variable {X:Cx} {k kg:Nat} {x gx:Str} {ok ps N:List Str} {cF:Str→PyData→Option Sl} {r:List PyData→Option Str} {e:Expr} {es:List Expr} {g:ix} {m m':Bool} {p gp gpos pos lp dp:Pos} {j:Nat} {due:Int} {params:Arguments} {scope:Scope} {cl:List (Str×Addr)} {js:List Nat} {c P:Addr}
theorem hJ (F:OwnF X.prog X.w X.K X.mg X.base k x ok cF) (hcode:X.env.code= .ref c) (hQ:g4 X.K P=some (X.env.qual++"<lambda>")) (hC:PySem.W.codeHdIn X.K c P=true) (hr:Room (k+1) X.A) (hg:Gl X x) (D:OwnR X.prog X.w X.K X.mg X.base kg gx ps (lM X.K r)) (hkg:kg+1≤k) (L:LamOk X scope cl N js)
    (ha:∀(fa c':Addr) (A:Around) (outer:List Env) (s:Shared) (H:Hp),AX (yC (fun _ _=>False) X.prog X.w X.K X.mg X.base N (X.env.qual++"<lambda>") scope fa (.ref c') cl A outer s H) (e::es) m' g)
    (hdef:defaultsOf params X.env=([],[]):=by rfl) (hbind:∀(qual:Str) (pm cd ctv:Value),bindArgs (PySem.W.kla_fn "<lambda>" qual params (.Call (.Name gx gp) (e::es) [] gpos) scope cl pm cd ctv) ⟨[],[]⟩=pure []:=by intros;rfl)
    (sg:scope.names.lookup gx=some .globalImplicit:=by rfl) (sk:scope.kind= .function:=by rfl) (hco:scope.isCoroutine=false:=by rfl) (hgen:scope.isGenerator=false:=by rfl) (hcell:∀x∈scope.names,x.2≠ .cell:=by decide) (hdb:(gx == ("__debug__":Str))=false:=by decide) (hdbx:(x == ("__debug__":Str))=false:=by decide)
    (he:∀env,starEach (e::es) env=(false,eval e env)::starEach es env:=by intro _;rfl) (hpl:∀env,(backTo gpos (starEach es env)).any (·.1)=false:=by intro _;rfl)
    (he1:starEach [.Lambda params (.Call (.Name gx gp) (e::es) [] gpos) scope lp, .Constant (.int due) j dp] X.env=(false,eval (.Lambda params (.Call (.Name gx gp) (e::es) [] gpos) scope lp) X.env)::starEach [.Constant (.int due) j dp] X.env:=by rfl)
    (he2:backTo pos (starEach [.Constant (.int due) j dp] X.env)=[(false,eval (.Constant (.int due) j dp) X.env)]:=by rfl):
    EX X (.Call (.Name x p) [.Lambda params (.Call (.Name gx gp) (e::es) [] gpos) scope lp, .Constant (.int due) j dp] [] pos) false (jR js N.length r g ok cF due):=by
  intro pins s σ H Q I z
  obtain ⟨B,E,xs,Xs,res,E',⟨F0,A0,fr⟩,_,e0,q⟩:=z
  obtain ⟨ds,ev,e0⟩:=Option.bind_eq_some_iff.mp e0
  obtain ⟨⟨n,E1⟩,er,e0⟩:=Option.bind_eq_some_iff.mp e0
  simp only at e0
  split at e0
  rotate_left
  · cases e0
  rename_i hn
  obtain ⟨sv,ec,e0⟩:=Option.map_eq_some_iff.mp e0
  cases e0
  obtain ⟨vs,rp,vl,vf⟩:=fr.vals ev
  obtain ⟨f,fd,pF,hp2,hb,mx,kp,run⟩:=F.ex
  refine wpAny_Call_Name_kw (fJ I hg mx ?_ hdbx)
  have hT:H P=some (.tbl _):=I.tab P _ hQ
  obtain ⟨pt,hps,ht,hit⟩:=I.hok P _ hT
  obtain ⟨hgP,hbA⟩:=yA I hps
  have C:=PySem.W.codeHd_of_K I.kIn hC
  have fin:∀(H3:Hp) (s3:Shared) (fa c':Addr) (pm ctv:Value),Inv X pins σ H3 s3→Same H H3→s3.heap.get? fa=some (PySem.W.kla_obj "<lambda>" (X.env.qual++"<lambda>") params (.Call (.Name gx gp) (e::es) [] gpos) scope cl pm c' ctv)→s3.heap.CodeRec (.ref c') (X.env.qual++"<lambda>")→
      wpAny (model X.prog X.w) X.A (spliced (backTo pos (starEach [.Constant (.int due) j dp] X.env))) (fun us s4=>X.K.In s4.heap∧wpAny (model X.prog X.w) X.A (call (.ref f) ([]++(.ref fa::us))) (EP X pins σ Q) X.xe s4) X.xe s3:=fun H3 s3 fa c' pm ctv I3 g3 ho hrec=>by
    rw [he2]
    refine Calls.spliced_cons (wpAny_Constant_int ?_)
    have I4:=I3.tok (s3.toks+1)
    refine Calls.spliced_nil ⟨I3.kIn,?_⟩
    have bd:=hb {s3 with toks:=s3.toks+1} [.ref fa, .int due s3.toks] I3.kIn hp2.symm
    refine wpAny_call (codeAny_mono (run X.A X.stack _ H3 [.ref fa, .int due s3.toks] fa _ _ (.int due) (.int due) n _ Q hr I4.env0 bd (.cons rfl (.cons ⟨_,rfl⟩ .nil)) (.int _) ho rfl (fun env s1 e01 hr1 keep=>?_) hn ec fun v H' gg rs=>q v H' ((fr.grow g3).told gg rs)) fun rr s' hq=>?_)
    · have lam:LamIn N scope cl (cH N vs) H3 s3.heap:=by
        refine ⟨fun y c e=>⟨I3.cell y c (L.same y c e),I3.freeC y c (L.same y c e)⟩,fun y z c e1 e2=>I3.ok.inj y z c (L.same y c e1) (L.same z c e2),L.has,fun i y v e1 e2=>?_,?_⟩
        · obtain ⟨jj,ej,en,k1,k2,cc,ecl⟩:=L.from_ i y e1
          obtain ⟨v',ev',es'⟩:=vf i jj ej
          have hi:i < vs.length:=(List.getElem?_eq_some_iff.mp ev').1
          have:v'=v:=by
            unfold L2.cH at e2
            rw [List.getElem?_append_left (by simpa using hi),List.getElem?_map,ev'] at e2
            cases e2
            rfl
          subst this
          obtain ⟨mm,_,hl⟩:=I3.loc
          obtain ⟨u,ru,lk⟩:=hl jj y v' en es' (by
            rcases k2 with z | z
            · exact .inr (.inl z)
            · exact .inr (.inr z))
          refine ⟨k1,u,cc,ru,ecl,?_⟩
          rcases lk with ⟨z,_⟩ | ⟨_,c2,e5,ic⟩
          · rcases k2 with q | q
            · rw [q] at z;cases z
            · rw [q] at z;cases z
          · rw [L.same y cc ecl] at e5
            cases e5
            exact ic
        · unfold L2.cH
          have:=L.len
          simp
          omega
      exact sP D (hr1.mono hkg) e01 (lam.keeps keep) (rp.same g3) (by rw [←rp.len,vl,L.len];exact Nat.le_refl _) (keep _ _ ho) (hrec.keeps keep) (fun s=>ha fa c' _ _ s H3) er (hbind _ _ _ _) sg sk hco hgen hcell hdb he hpl
    · cases rr with
      | error er=>exact False.elim hq
      | ok fl=>
        cases fl with
        | ret u=>exact I4.after hq
        | next=>exact False.elim hq
        | brk=>exact False.elim hq
        | cont=>exact False.elim hq
  refine PySem.W.callWith_K (h₀:=X.base) I.ok.mod.kin kp ?_ he1 (by rw [he2];rfl)
  rw [he1]
  refine Calls.spliced_cons (PySem.W.kla_eval hdef ?_)
  cases hca:codeAmong lp pt.toList with
  | none=>
    refine PySem.W.kla_makeFunction L.clos I.ok.glob (I.mod.glob.keeps I.bk) hcode C hps ht hca hgP hbA fun c' ctv h' tk hx hge hlt hrec htb=>?_
    have I2:=qe (tk:=tk) I hT hps (fun b o hb e=>hx b o hb e) hge hrec htb
    have g:Same H (upd H c' (.own P)):=dy (I.hok.fresh hge) _
    have I3:=I2.kept (t':=tk) (fun b o eb=>Heap.get?_push_of_some (PySem.W.kla_obj "<lambda>" (X.env.qual++"<lambda>") params (.Call (.Name gx gp) (e::es) [] gpos) scope cl ((X.mg "__name__").getD .none) c' ctv) eb)
    exact fin _ _ _ _ _ _ I3 g (Heap.get?_push_size _ rfl) (hrec.keeps fun b o e=>Heap.get?_push_of_some _ e)
  | some cv=>
    obtain ⟨c',rfl,ho,hrec⟩:=hit lp cv hca
    refine PySem.W.kla_makeFunctionHit L.clos I.ok.glob (I.mod.glob.keeps I.bk) hcode C hps ht hca hbA fun ctv h' tk hx hsz=>?_
    have I3:=I.kept (t':=tk) (fun b o eb=>Heap.get?_push_of_some (PySem.W.kla_obj "<lambda>" (X.env.qual++"<lambda>") params (.Call (.Name gx gp) (e::es) [] gpos) scope cl ((X.mg "__name__").getD .none) c' ctv) (hx b o eb))
    exact fin _ _ _ _ _ _ I3 (Same.refl _) (Heap.get?_push_size _ rfl) (hrec.keeps fun b o e=>Heap.get?_push_of_some _ (hx b o e))
end
end PL
namespace L2
open PySem PySem.Spec PyProof.Rows PL
def hM (X:Cx):Prop:=∃(ea:Addr) (oe:Obj) (u:HO) (ws:Array Value),X.A.handled=some (.ref ea)∧X.H₀ ea=some (.frz oe u)∧oe.data= .fields ws∧ws[2]? =some .none
structure TurnL (P:Program) (w:World) (K:PySem.W.Frag) (tg:Expr) (J:It) (fp:List Addr) (it:Addr) (tn:Nat→Heap→Prop):Prop where
  mem:it∈fp
  obj:∀i h,tn i h→∀b∈fp,∃o,h.get? b=some o∧∀v,o.data≠ .cell v
  keep:∀i h h',tn i h→(∀b∈fp,∀o,h.get? b=some o→h'.get? b=some o)→tn i h'
  item:∀(X:Cx),X.prog=P→X.w=w→X.K=K→hM X→∀(i:Nat) (pins:List (Addr×Obj)) (s:Shared) (σ:St) (H:Hp) (E:Value→Shared→Prop),Inv X pins σ H s→(∀b∈fp,io X pins H b)→tn i s.heap→J.go i H→
    wpAny (model P w) X.A (pyNext (.ref it)) (fun r s1=>∃u,r=some u∧
      wpAny (model P w) X.A (letOwnedTupleGo tg (.ref it) u) (fun _ s2=>∃x H',Inv X pins σ H' s2∧RelV x u∧J.yld i H x H'∧tn (i+1) s2.heap∧∀b∈fp,H' b=none) E s1) E s
  done:∀(X:Cx),X.prog=P→X.w=w→X.K=K→hM X→∀(i:Nat) (pins:List (Addr×Obj)) (s:Shared) (σ:St) (H:Hp) (E:Value→Shared→Prop),Inv X pins σ H s→(∀b∈fp,io X pins H b)→tn i s.heap→J.stop i H→
    wpAny (model P w) X.A (pyNext (.ref it)) (fun r s1=>r=none∧Inv X pins σ H s1) E s
  self:∀(A:Around) (i:Nat) (s:Shared) (Q:Value→Shared→Prop) (E:Value→Shared→Prop),tn i s.heap→Q (.ref it) s→wpAny (model P w) A (pyIter (.ref it)) Q E s
def yF (X:Cx) (pins:List (Addr×Obj)) (σ:St) (tg:Expr) (R:It→Hp→Prop) (itv:Value) (s2:Shared):Prop:=
  ∃(it:Addr) (fp:List Addr) (tn:Nat→Heap→Prop) (J:It) (H':Hp),itv= .ref it∧Inv X pins σ H' s2∧TurnL X.prog X.w X.K tg J fp it tn∧tn 0 s2.heap∧(∀b∈fp,io X pins H' b)∧R J H'
def xF (X:Cx) (tg iter:Expr) (wi:TI):Prop:=
  ∀(pins:List (Addr×Obj)) (s:Shared) (σ:St) (H:Hp) (R:It→Hp→Prop),Inv X pins σ H s→wi σ H R→
    wpAny (model X.prog X.w) X.A (eval iter X.env) (fun v s1=>wpAny (model X.prog X.w) X.A (pyIter v) (yF X pins σ tg R) X.xe s1) X.xe s
theorem mS {P:Program} {w:World} {K:PySem.W.Frag} {tg:Expr} (it:Addr) (lo:Int) (n:Nat):TurnL P w K tg (xB lo n) [it] it (fun i h=>IsRangeIter h it (lo+(i:Nat)*1) ((n:Int) - (i:Nat)) 1) where
  mem:=by simp
  obj:=fun i h st b hb=>by
    have e:b=it:=by simpa using hb
    subst e
    exact ⟨_,st,fun v z=>by
      have z':Data.fields _=Data.cell v:=z
      cases z'⟩
  keep:=fun i h h' st k=>k it (by simp) _ st
  item:=by
    intro X hP hw hK hc i pins s σ H E I hf st hg
    subst hP hw hK
    obtain ⟨f0,f1,f2,f3,f4,f5⟩:=hf it (by simp)
    refine wpAny_pyNext_range_item st (by have:i < n:=hg;omega) fun h' st' kk=>?_
    have I1:Inv X pins σ H {s with heap:=h',toks:=s.toks+1}:=I.turned (fun b o hb e=>(kk.2 b hb).trans e) f0 f1 f3 f4 f5
    have st2:IsRangeIter h' it (lo+((i+1:Nat):Int)*1) ((n:Int) - ((i+1:Nat):Int)) 1:=by
      have e1:lo+((i+1:Nat):Int)*1=lo+(i:Nat)*1+1:=by omega
      have e2:(n:Int) - ((i+1:Nat):Int)=(n:Int) - (i:Nat) - 1:=by omega
      rw [e1,e2];exact st'
    refine ⟨_,rfl,kq (s:={s with heap:=h',toks:=s.toks+1}) (n:="range_iterator") st' rfl rfl (by decide) ⟨.int (lo+i),H,I1,⟨s.toks,?_⟩,⟨rfl,rfl⟩,st2,fun b hb=>(hf b hb).1⟩⟩
    rw [Int.mul_one]
  done:=by
    intro X hP hw hK hc i pins s σ H E I hf st hg
    subst hP hw hK
    obtain ⟨f0,f1,f2,f3,f4,f5⟩:=hf it (by simp)
    obtain ⟨ea,oe,u,ws,h1,h2,h3,h4⟩:=hc
    exact nU h1 (I.hok ea _ (I.base.frzs ea oe u h2)).1 h3 h4 st (by have:n≤i:=hg;omega) fun h' eb=>⟨rfl,I.turned (t':=s.toks) (fun b o hb e=>eb b o hb e) f0 f1 f3 f4 f5⟩
  self:=fun _ _ _ _ _ st h=>wpAny_pyIter_rangeiter st h
section
variable {X:Cx} {tg:Expr}
theorem qf {pins:List (Addr×Obj)} {σ:St} {H:Hp} {s:Shared} {R:It→Hp→Prop} {E:Value→Shared→Prop} {lo hi:Int} {t u v:Tok} {tk:Nat} (I:Inv X pins σ H s) (h1: -(2 ^ 62)≤lo) (h2:lo < 2 ^ 62) (h3: -(2 ^ 62)≤hi) (h4:hi < 2 ^ 62)
    (q:R (xB lo (hi - lo).toNat) H):wpAny (model X.prog X.w) X.A (pyIter (.ref s.heap.objs.size)) (yF X pins σ tg R) E {s with heap:=s.heap.push {cls:= .type "range",data:= .fields #[.int lo t, .int hi u, .int 1 v]},toks:=tk}:=by
  refine wpAny_pyIter_range (IsRange.new ..) (small_one h1 h2 h3 h4) ?_
  have I1:Inv X pins σ H {s with heap:=s.heap.push {cls:= .type "range",data:= .fields #[.int lo t, .int hi u, .int 1 v]},toks:=tk}:=I.kept fun b o e=>Heap.get?_push_of_some _ e
  refine ⟨(s.heap.push {cls:= .type "range",data:= .fields #[.int lo t, .int hi u, .int 1 v]}).objs.size,[(s.heap.push {cls:= .type "range",data:= .fields #[.int lo t, .int hi u, .int 1 v]}).objs.size],_,_,H,rfl,
    I1.kept (t':=tk) fun b o e=>Heap.get?_push_of_some _ e,mS _ lo (hi - lo).toNat,?_,fun b hb=>?_,q⟩
  · have e1:lo+((0:Nat):Int)*1=lo:=by simp
    have e2:(((hi - lo).toNat:Nat):Int) - ((0:Nat):Int)=Builtin.Range.rangeSize lo hi 1:=by rw [rangeSize_one];split <;> omega
    show IsRangeIter _ _ (lo+((0:Nat):Int)*1) ((((hi - lo).toNat:Nat):Int) - ((0:Nat):Int)) 1
    rw [e1,e2]
    exact Heap.get?_push_size _ rfl
  · have e:b=(s.heap.push {cls:= .type "range",data:= .fields #[.int lo t, .int hi u, .int 1 v]}).objs.size:=by simpa using hb
    subst e
    exact I1.fpOk (Nat.le_refl _) (I1.hok.fresh (Nat.le_refl _))
theorem nZ {a:Expr} {ta:TA} {p pos:Pos} (hg:Gl X "range") (hm:X.mg "range"=none) (ha:PA X [a] ta) (hs:starEach [a] X.env=[(false,eval a X.env)]:=by rfl):xF X tg (.Call (.Name "range" p) [a] [] pos) (vv ta):=by
  intro pins s σ H R I h
  refine Call_ (im I hg hm boot_range (PyProof.Rows.callWith_type1 (ci (ha pos pins s σ H _ I h) fun us s1 ⟨vs,H1,I1,r1,q1⟩=>?_) hs rfl))
  obtain ⟨j,e,q1,q2,q⟩:=q1
  subst e
  cases r1 with
  | cons r rr=>
    cases rr
    obtain ⟨t,rfl⟩:=r
    exact call_range_1 (qf I1 (by omega) (by omega) q1 q2 (by simpa using q))
end
section
variable {X:Cx} {elt target iter:Expr} {ifs:List Expr} {scope sc:Scope} {cl:List (Str×Addr)} {N:List Str} {pos:Pos} {wi:TI} {g:TG} {tt:TT} {te:TE} {js:List (Option Nat)}
theorem qg {use:Option (Value→Sem Unit)} {Qv:Value→Shared→Prop} (K:CompOk X scope sc cl N js) (hc:hM X) (hi:xF X target iter wi)
    (hgg:∀C s₀ H₀ fp,PG (X.comp sc cl N C s₀ H₀ fp) target g) (htt:∀C s₀ H₀ fp,yi (X.comp sc cl N C s₀ H₀ fp) ifs tt) (hee:∀C s₀ H₀ fp,PE (X.comp sc cl N C s₀ H₀ fp) elt te)
    (hs:∀x,foldedSetIterable iter X.env x=pure x) (pins:List (Addr×Obj)) (s:Shared) (σ:St) (H:Hp) (Q:VK) (I:Inv X pins σ H s) (h:mn js wi g tt te σ H Q)
    (hend:∀(D C:Addr) (H4:Hp) (s5:Shared) (m:Str→Option Value),Inv X pins σ H4 s5→s5.heap.Ns C m→H4 C=none→C≠X.env.locals→C∉X.fs→X.s₀.heap.objs.size≤C→(∀x c,X.env.cells.lookup x=some c→c≠C)→(∀p∈X.pn++pins,p.1≠C)→Q (.ref D) H4→
      compPost (model X.prog X.w) X.A X.xe use Qv (.ref D) C (.ok .next) s5):
    wpAny (model X.prog X.w) X.A (comprehension (.ListComp elt [⟨target,iter,ifs,0⟩] scope pos) scope X.env (firstIterPos [⟨target,iter,ifs,0⟩] pos) (newList []) false (firstIter [⟨target,iter,ifs,0⟩] X.env) use) Qv X.xe s:=by
  refine wpAny_comprehension_free (use:=use) rfl hs K.clos K.kind K.names (ci (hi pins s σ H _ I h) fun v s1 h1=>ci h1 fun itv s2 h2=>?_)
  obtain ⟨it,fp,tn,J,H2,e,I2,T,st2,f2,R⟩:=h2
  subst e
  refine wpAny_newObj_type (wpAny_newFunctionEnv K.nocell (by intro y hy;simp at hy) (fun h₁ hns₁ hsb₁=>?_) K.kind)
  dsimp only at hns₁ hsb₁ ⊢
  have I3:Inv X pins σ (upd H2 s2.heap.objs.size (.lst [])) {s2 with heap:=s2.heap.push {cls:= .type "list",dict:=none,data:= .seq ([]:List Value).toArray}}:=
    I2.lnew (t':=s2.toks) (its:=[]) .nil (Nat.zero_le _)
  obtain ⟨W,⟨m0,w0⟩,turn⟩:=R s2.heap.objs.size (I2.hok.fresh (Nat.le_refl _))
  generalize hP:s2.heap.push {cls:= .type "list",dict:=none,data:= .seq ([]:List Value).toArray}=h3 at hns₁ hsb₁ I3 ⊢
  generalize hD:s2.heap.objs.size=D at w0 turn I3 ⊢
  have hsz3:h3.objs.size=D+1:=by rw [←hP,Heap.size_push,hD]
  have old3:∀b o,s2.heap.get? b=some o→h3.get? b=some o:=fun b o e=>by rw [←hP];exact Heap.get?_push_of_some _ e
  have old:∀b o,h3.get? b=some o→h₁.get? b=some o:=fun b o e=>hsb₁.extBut b o (Nat.ne_of_lt (Heap.lt_size e)) (Heap.get?_push_of_some _ e)
  have fpD:∀b∈fp,b < D:=fun b hb=>by
    obtain ⟨o,e,_⟩:=T.obj _ _ st2 b hb
    rw [←hD];exact Heap.lt_size e
  have frD:∀b∈fp,(upd H2 D (.lst [])) b=none:=fun b hb=>by rw [aw (Nat.ne_of_lt (fpD b hb))];exact (f2 b hb).1
  have f3:∀b∈fp,io X pins (upd H2 D (.lst [])) b:=fun b hb=>⟨frD b hb,(f2 b hb).2⟩
  have Hfresh:∀a,h3.objs.size≤a→(upd H2 D (.lst [])) a=none:=fun a ha=>I3.hok.fresh ha
  have cellC:∀x c,X.env.cells.lookup x=some c→c < h3.objs.size:=fun x c e=>by
    obtain ⟨v,q⟩:=I3.cell x c e
    exact q.lt
  have YOk:(X.comp sc cl N h3.objs.size {s2 with heap:=h3} (upd H2 D (.lst [])) fp).Ok:=by
    refine ⟨I3.ok.mod,?_,I3.ok.glob,I3.ok.blt,Nat.le_refl _,fun x y c e1 e2=>I3.ok.inj x y c (K.same x c e1) (K.same y c e2),fun x hx=>K.has x hx,fun x c hf _=>absurd hf (by intro z;cases z),I3.ok.hd,I3.ok.frames, .inl rfl,fun b hb=>⟨?_,fun x c e=>(f2 b hb).2.2.2.2.1 x c (K.same x c e)⟩,
      I3.bs,Nat.le_trans I3.ok.bsz I3.sz,fun b o e hb=>?_,fun b hb hm=>?_,I3.stack,I3.stkFree,I3.tab⟩
    · rw [←K.rel];exact K.kind
    · exact Nat.ne_of_lt (by rw [hsz3];exact Nat.lt_succ_of_lt (fpD b hb))
    · rcases (f2 b hb).2.2.2.1 with z | z
      · exact I3.ok.noex b o e z
      · exact absurd (Nat.lt_of_lt_of_le (Heap.lt_size (I3.ok.bs b o e).1) z) (Nat.lt_irrefl _)
    · rcases List.mem_cons.mp (I3.stkSub b hm) with z | z
      · exact (f2 b hb).2.1 z
      · exact (f2 b hb).2.2.1 z
  have hcC:hM (X.comp sc cl N h3.objs.size {s2 with heap:=h3} (upd H2 D (.lst [])) fp):=by
    obtain ⟨ea,oe,u,ws,h1,h2,h4,h5⟩:=hc
    exact ⟨ea,oe,u,ws,h1,I3.base.frzs ea oe u h2,h4,h5⟩
  have IY:Inv (X.comp sc cl N h3.objs.size {s2 with heap:=h3} (upd H2 D (.lst [])) fp) [] (slots js σ) (upd H2 D (.lst [])) {s2 with heap:=h₁,toks:=s2.toks+([]:List (Str×Value)).length}:=by
    refine ⟨YOk,rfl,I3.bare,Un.kept old,⟨_,hns₁,fun i x v e1 e2 e3=>?_⟩,fun x c e=>?_,Hfresh _ (Nat.le_refl _),fun x c e=>I3.freeC x c (K.same x c e),fun p hp=>absurd (show p∈([]:List (Addr×Obj)) from hp) (by simp),I3.hok.kept old,?_⟩
    · unfold slots at e2
      rw [List.getElem?_map] at e2
      cases ej:js[i]? with
      | none=>rw [ej] at e2;cases e2
      | some jo=>
        rw [ej] at e2
        cases jo with
        | none=>cases e2
        | some j=>
          obtain ⟨y,n1,n2,k1,k2⟩:=K.from_ i j ej
          have exy:y=x:=Option.some.inj (n1.symm.trans e1)
          subst exy
          have e2':(σ[j]?).join=some v:=Option.some.inj e2
          have e4:σ[j]? =some (some v):=by
            cases es:σ[j]? with
            | none=>rw [es] at e2';cases e2'
            | some w=>rw [es] at e2';exact congrArg some e2'
          obtain ⟨m,_,hl⟩:=I3.loc
          obtain ⟨u,ru,lk⟩:=hl j y v n2 e4 (by
            rcases k2 with z | z
            · exact .inr (.inl z)
            · exact .inr (.inr z))
          refine ⟨u,ru, .inr ⟨k1,?_⟩⟩
          obtain ⟨c,hcl⟩:=K.has y k1
          refine ⟨c,hcl,?_⟩
          rcases lk with ⟨z,_⟩ | ⟨_,c',e5,ic⟩
          · rcases k2 with q | q
            · rw [q] at z;cases z
            · rw [q] at z;cases z
          · have:c'=c:=Option.some.inj (e5.symm.trans (K.same y c hcl))
            subst this
            obtain ⟨o,ho,hd⟩:=ic
            exact ⟨o,old _ _ ho,hd⟩
    · obtain ⟨v,o,ho,hd⟩:=I3.cell x c (K.same x c e)
      exact ⟨v,o,old _ _ ho,hd⟩
    · unfold slots;rw [List.length_map];exact K.len
  have loop:∀s₃:Shared,s₃={s2 with heap:=h₁,toks:=s2.toks+([]:List (Str×Value)).length}→
      codeAny (model X.prog X.w) X.A (.compLoop (.ListComp elt [⟨target,iter,ifs,0⟩] scope pos) 0 (.ref it) (.ref D) (X.comp sc cl N h3.objs.size {s2 with heap:=h3} (upd H2 D (.lst [])) fp).env)
        (compPost (model X.prog X.w) X.A X.xe use Qv (.ref D) h3.objs.size) s₃:=by
    rintro s₃ rfl
    refine hW (fun n s'=>∃i σ' H',Inv (X.comp sc cl N h3.objs.size {s2 with heap:=h3} (upd H2 D (.lst [])) fp) [] σ' H' s'∧tn i s'.heap∧(∀b∈fp,H' b=none)∧W i n σ' H') ?_ m0
      ⟨0,_,_,IY,T.keep _ _ _ st2 (fun b hb o e=>old b o (old3 b o e)),frD,w0⟩
    rintro n s4 ⟨i,σ4,H4,I4,st4,fr4,w4⟩
    have ff:∀{H':Hp},(∀b∈fp,H' b=none)→∀b∈fp,io (X.comp sc cl N h3.objs.size {s2 with heap:=h3} (upd H2 D (.lst [])) fp) [] H' b:=fun hn b hb=>
      ⟨hn b hb,(YOk.exf b hb).1,YOk.exfs b hb, .inl hb,(YOk.exf b hb).2,fun p hp=>absurd (show p∈([]:List (Addr×Obj)) from hp) (by simp)⟩
    have hg:=hgg h3.objs.size {s2 with heap:=h3} (upd H2 D (.lst [])) fp
    have ht:=htt h3.objs.size {s2 with heap:=h3} (upd H2 D (.lst [])) fp
    have he:=hee h3.objs.size {s2 with heap:=h3} (upd H2 D (.lst [])) fp
    rcases turn i n σ4 H4 w4 with ⟨stop,qn⟩ | ⟨go,Nx,hN,step⟩
    · refine ci (T.done (X.comp sc cl N h3.objs.size {s2 with heap:=h3} (upd H2 D (.lst [])) fp) rfl rfl rfl hcC i [] s4 σ4 H4 _ I4 (ff fr4) st4 stop) fun r s5 ⟨hr,I5⟩=>?_
      subst hr
      obtain ⟨m,hn,_⟩:=I5.loc
      have IX:Inv X pins σ H4 s5:=I3.call' (ch:=fp) I5.os I5.base I5.hok I5.bare fun b hb=>⟨(f3 b hb).2.2.2.1,(f3 b hb).2.1,(f3 b hb).2.2.2.2.1,(f3 b hb).2.2.2.2.2⟩
      exact hend D h3.objs.size H4 s5 m IX hn I5.free (Ne.symm (Nat.ne_of_lt I3.lt)) (I3.nofs (Nat.le_refl _)) I3.sz (fun x c e=>Nat.ne_of_lt (cellC x c e)) (fun p hp=>Nat.ne_of_lt (Heap.lt_size (I3.pin p hp).1)) qn
    · refine ci (T.item (X.comp sc cl N h3.objs.size {s2 with heap:=h3} (upd H2 D (.lst [])) fp) rfl rfl rfl hcC i [] s4 σ4 H4 _ I4 (ff fr4) st4 go) fun r s5 ⟨u,hr,h5⟩=>?_
      subst hr
      refine ci h5 fun _ s6 ⟨x,H6,I6,r6,y6,st6,fr6⟩=>?_
      have I6':=I6.pinned (ff fr6) (T.obj _ _ st6)
      have back:∀{σ7:St} {H7:Hp} {s7:Shared},Inv (X.comp sc cl N h3.objs.size {s2 with heap:=h3} (upd H2 D (.lst [])) fp) ([]++ip fp s6.heap) σ7 H7 s7→
          Inv (X.comp sc cl N h3.objs.size {s2 with heap:=h3} (upd H2 D (.lst [])) fp) [] σ7 H7 s7∧tn (i+1) s7.heap∧∀b∈fp,H7 b=none:=fun {σ7 H7 s7} I7=>
        ⟨I7.unpinned,T.keep _ _ _ st6 fun b hb o e=>(I7.pin (b,o) (List.mem_append_right _ (List.mem_append_right _ (dL hb e)))).1,fun b hb=>by
          obtain ⟨o,e,d⟩:=T.obj _ _ st6 b hb
          exact (I7.pin (b,o) (List.mem_append_right _ (List.mem_append_right _ (dL hb e)))).2.1⟩
      refine ci (hg _ s6 σ4 H6 x u _ I6' r6 (step x H6 y6)) fun _ s7 ⟨σ7,H7,I7,q7⟩=>?_
      refine ci (ht _ s7 σ7 H7 _ I7 q7) fun b s8 ⟨H8,I8,q8⟩=>?_
      cases b with
      | false=>
        obtain ⟨m',hm,w8⟩:=hN σ7 H8 q8
        obtain ⟨J1,J2,J3⟩:=back I8
        exact ⟨m',hm,i+1,σ7,H8,J1,J2,J3,w8⟩
      | true=>
        refine ci (he _ s8 σ7 H8 _ I8 q8) fun yv s9 ⟨y,H9,I9,r9,ys,hl,hz,n9⟩=>?_
        obtain ⟨m',hm,w9⟩:=hN _ _ n9
        refine ci (iu _ s9 σ7 H9 (.ref D) [y] (.ref D) [yv] (fun v H'=>v= .non∧H'=upd H9 D (.lst (ys++[y]))) I9 rfl (.cons r9 .nil) ⟨D,ys,y,rfl,rfl,hl,hz,rfl,rfl⟩) fun _ sA ⟨_,HA,IA,_,_,eA⟩=>?_
        subst eA
        obtain ⟨J1,J2,J3⟩:=back IA
        exact ⟨m',hm,i+1,σ7,_,J1,J2,J3,w9⟩
  rw [K.rel]
  exact codeAny_compStart_list (loop _ rfl) (T.self _ 0 _ _ _ (T.keep _ _ _ st2 (fun b hb o e=>old b o (old3 b o e))) (loop _ rfl))
theorem sQ (K:CompOk X scope sc cl N js) (hc:hM X) (hi:xF X target iter wi)
    (hgg:∀C s₀ H₀ fp,PG (X.comp sc cl N C s₀ H₀ fp) target g) (htt:∀C s₀ H₀ fp,yi (X.comp sc cl N C s₀ H₀ fp) ifs tt) (hee:∀C s₀ H₀ fp,PE (X.comp sc cl N C s₀ H₀ fp) elt te)
    (hs:∀x,foldedSetIterable iter X.env x=pure x:=by intro _;rfl):PE X (.ListComp elt [⟨target,iter,ifs,0⟩] scope pos) (mn js wi g tt te):=by
  intro pins s σ H Q I h
  rw [eval_ListComp]
  refine qg (use:=none) K hc hi hgg htt hee hs pins s σ H Q I h fun D C H4 s5 m IX hn fC nL _ sz nc np qn=>?_
  exact ⟨m,hn,fun h' hs'=>⟨.ref D,H4,IX.turned (t':=s5.toks) (it:=C) (fun b o hb e=>(hs'.2 b hb).trans e) fC nL (.inr sz) nc np,rfl,qn⟩⟩
end
end L2
namespace PL
open PySem L2 Nh
def Ah (X:Cx) (tg e:Expr) (m:Bool) (f:iy):Prop:=xF X tg e (ri X.K m f)
section
variable {X:Cx} {tg e:Expr} {m:Bool} {g:ix} {p pos:Pos}
theorem u3 {t t':TI} (h:xF X tg e t) (k:∀σ H Q,t' σ H Q→t σ H Q):xF X tg e t':=fun pins s σ H R I q=>h pins s σ H R I (k σ H R q)
theorem n0 (hg:Gl X "range") (hm:X.mg "range"=none) (ha:AX X [e] m g) (hs:starEach [e] X.env=[(false,eval e X.env)]:=by rfl):Ah X tg (.Call (.Name "range" p) [e] [] pos) m (iD g):=u3 (nZ hg hm ha hs) fun σ H R z=>by
  obtain ⟨B,E,xs,Xs,ds,E',fr,cl,e,q⟩:=z
  obtain ⟨⟨rs,E1⟩,e1,e⟩:=Option.bind_eq_some_iff.mp e
  refine ⟨B,E,xs,Xs,rs,E1,fr,cl,e1,fun vs H1 hl ⟨F,A,fr1⟩=>?_⟩
  simp only at e
  split at e
  · rename_i j ld
    split at e
    · rename_i hj
      cases e
      obtain ⟨r,A',fr2⟩:=fr1.looks hl ld
      obtain ⟨v,rfl,r'⟩:=r.one
      cases r'
      exact ⟨j,rfl,by omega,by omega,q B _ _ (Same.refl _) ⟨F,A',fr2⟩ jH⟩
    · cases e
  · cases e
end
section
variable {X:Cx} {elt target iter:Expr} {scope sc:Scope} {cl:List (Str×Addr)} {N:List Str} {pos:Pos} {js:List (Option Nat)}
theorem qh {m m3:Bool} {it:iy} {tg:gJ} {el:bz} (C:CompOk X scope sc cl N js) (hc:hM X) (hi:Ah X target iter m it) (hg:∀C s₀ H₀ fp,GX (X.comp sc cl N C s₀ H₀ fp) target tg) (he:∀C s₀ H₀ fp,EX (X.comp sc cl N C s₀ H₀ fp) elt m3 el)
    (hs:∀x,foldedSetIterable iter X.env x=pure x:=by intro _;rfl):EX X (.ListComp elt [⟨target,iter,[],0⟩] scope pos) m (dc js it tg cA el):=
  aY (sQ (g:=rg X.K tg) (te:=rd X.K m3 el) C hc hi hg (fun _ _ _ _=>oK) he hs) fun σ H Q z=>oW (m2:=false) (fun σ H Q z=>by
    obtain ⟨B,E,xs,Xs,b,E',fr,cl,e,q⟩:=z
    cases e
    exact q _ fr) z
theorem u4 {X:Cx} {ea C:Addr} {oe:Obj} (h:∃vs,oe.data= .fields vs∧vs[2]? =some .none):hM (hX X ea oe C):=let ⟨ws,a,b⟩:=h;⟨ea,oe,_,ws,rfl,upd_same,a,b⟩
end
end PL
namespace PL
open PySem PySem.Spec PyProof.Rows L2 Nh
section
variable {M:Model} {A:Around} {E:Value→Shared→Prop} {s:Shared}
theorem mT {base h:Heap} {env:Env} {outer:List Env} {L e:Addr} {cls:Value} {args:List Value} {Q:Unit→Shared→Prop}
    (hfr:A.frames=some (env::outer)) (hf:env.frame=some L) (hkb:base.StaysIn h) (hl:h.FunFrames base (env::outer)) (hx:Heap.MadeExcOf h s.heap e cls args)
    (hQ:∀h' t,Heap.HeldW base (env::outer) e cls (.ref t) L h'→s.heap.UpToSlots h'→Q () {s with heap:=h'}):wpAny M A (noteFrame (.ref e) env) Q E s:=by
  obtain ⟨t,he,htn,ht⟩:=hx.there
  have hen:base.get? e=none:=by
    cases hq:base.get? e with
    | none=>rfl
    | some o'=>have:=hkb e o' hq;rw [hx.new] at this;cases this
  have h1:(#[Value.ref t, .none, .none, .none, .bool false, .none]:Array Value)[1]? =some Value.none:=rfl
  unfold noteFrame
  simp only [hf]
  refine wpAny_bind (wpAny_field he rfl h1 ?_)
  rw [if_neg (show ¬((Value.none != Value.none)=true) from by decide)]
  exact wpAny_entryW (a0:= .ref t) hfr (hl.of_keeps fun b o hb _=>⟨o,hx.keeps b o hb,rfl⟩) hf he (fun b o hb=>hx.keeps b o (hkb b o hb)) hen rfl (by simp) rfl fun h' ⟨x1,x2,x3,x4⟩=>hQ h' t ⟨x1,hen,x2,x3⟩ x4
theorem n3 {base h:Heap} {env:Env} {outer:List Env} {L e:Addr} {cls:Value} {args:List Value} {Q:Unit→Shared→Prop}
    (hfr:A.frames=some (env::outer)) (hf:env.frame=some L) (hkb:base.StaysIn h) (hl:h.FunFrames base (env::outer)) (hx:Heap.MadeExcOf h s.heap e cls args)
    (hQ:∀h' t,HeldC base (env::outer) e cls (.ref t) L h'→s.heap.UpToSlots h'→Q () {s with heap:=h'}):wpAny M A (noteFrame (.ref e) env) Q E s:=
  kL (P:=fun h'=>∃t,Heap.HeldW base (env::outer) e cls (.ref t) L h'∧s.heap.UpToSlots h') (lI _ _) (mL hx) (fun k=>mT hfr hf hkb hl hx fun h' t a b=>k h' ⟨t,a,b⟩) fun h' ⟨t,a,b⟩ z=>hQ h' t (.of a z) b
theorem qi {base:Heap} {env:Env} {l:List Env} {L e:Addr} {cls a0:Value} (hf:env.frame=some L) (hh:HeldC base l e cls a0 L s.heap)
    (hE:∀h',HeldC base l e cls a0 L h'→s.heap.UpToSlots h'→E (.ref e) {s with heap:=h'}):cameBackBy M A env E (.ref e) s:=by
  obtain ⟨hkb,hen,hl,⟨oe,vs,T,oT,ts,he,hcls,hd,h1,hnT,hTe,hT,hdT,h3⟩,c0⟩:=hh
  have hsz3:3 < ts.size:=(Array.getElem?_eq_some_iff.mp h3).1
  have other:∀b,b≠T→(s.heap.update T (Obj.mapFields (·.setIfInBounds 3 ((some L).elim Value.none fun f=>rawInt f)))).get? b=s.heap.get? b:=
    fun b hb=>Heap.get?_update_other _ _ (Ne.symm hb)
  have noRecord:∀b o,s.heap.get? b=some o→(∀vs,o.data≠ .fields vs)→b≠T:=fun b o hb hnf q=>by
    rw [q,hT] at hb;injection hb with hb;subst hb;exact hnf ts hdT
  unfold cameBackBy
  refine wpAny_bind (wpAny_field he hd h1 ?_)
  rw [if_neg (show ¬((Value.ref T == Value.none)=true) from by simp)]
  rw [hf]
  unfold setFlight
  refine wpAny_bind (wpAny_field he hd h1 ?_)
  rw [if_pos (show (Value.ref T != Value.none)=true from by simp)]
  refine wpAny_setField hT hdT hsz3 (hE _ ⟨fun b o hbo=>(other b fun q=>by rw [q,hnT] at hbo;cases hbo).trans (hkb b o hbo),hen,
    hl.of_keeps fun b o hb hnf=>⟨o,(other b (noRecord b o hb hnf)).trans hb,rfl⟩,?_⟩ fun b o hb hnf=>⟨o.slots,(other b (noRecord b o hb hnf)).trans hb⟩)
  exact ⟨⟨oe,vs,T,_,_,(other e (Ne.symm hTe)).trans he,hcls,hd,h1,hnT,hTe,Heap.get?_update_self _ hT (Obj.isFreed_of_fields (Obj.data_mapFields hdT _)),Obj.data_mapFields hdT _,by simp [hsz3]⟩,c0.upd (sw (by decide))⟩
end
def eZ (g:gJ) (b:cJ) (r:jO):List PyData→jO
  | []=>fun _=>none
  | d::ds=>fun E=>(g d E).bind fun E1=>match r E1 with
    | some x=>some x
    | none=>match b E1 with
      | some (E2, .nx)=>eZ g b r ds E2
      | some (E2, .ct)=>eZ g b r ds E2
      | _=>none
def qj (it:iy) (g:gJ) (b:cJ) (r:jO):jO:=fun E=>(it E).bind fun a=>eZ g b r a.1 a.2
def sR (X:Cx) (mk:Bool) (n:Str) (B:Hp) (E':List Sl) (e:Value) (s':Shared):Prop:=∃pins σ C H' ea,e= .ref ea∧PySem.W.nsIn X.K mainGlobals n=some (some (.ref C))∧Frm X.K B σ H' E' [] []∧
  ((mk=true∧∃s h' vs,Inv X pins σ H' s∧Heap.MadeExcOf s.heap h' ea (.ref C) vs∧s'={s with heap:=h'})∨
   (∃H s a0 Bb,Inv X pins σ H s∧s'.os=s.os∧AllBare s'.gens∧FlyC Bb X.stack ea (.ref C) a0 s'.heap∧HOk X.prog X.w H' Bb∧UnB (gU X.stack) H H' s.heap Bb s'.heap)∨
   (∃H s a0 Bb,Inv X pins σ H s∧s'.os=s.os∧AllBare s'.gens∧HeldC Bb X.stack ea (.ref C) a0 X.env.locals s'.heap∧HOk X.prog X.w H' Bb∧UnB (gU X.stack) H H' s.heap Bb s'.heap))
theorem sS {X:Cx} {mk:Bool} {n:Str} {B:Hp} {E':List Sl} (hst:X.stack=X.env::X.outer) (hfr:X.env.frame=some X.env.locals):PassesOwn (model X.prog X.w) X.A X.env (sR X mk n B E'):=by
  intro e s' h
  obtain ⟨pins,σ,C,H',ea,rfl,ns,fr,h⟩:=h
  have came:∀(s1:Shared) (H:Hp) (s:Shared) (a0:Value) (Bb:Heap),Inv X pins σ H s→s1.os=s.os→AllBare s1.gens→HeldC Bb X.stack ea (.ref C) a0 X.env.locals s1.heap→HOk X.prog X.w H' Bb→UnB (gU X.stack) H H' s.heap Bb s1.heap→cameBackBy (model X.prog X.w) X.A X.env (sR X mk n B E') (.ref ea) s1:=fun s1 H s a0 Bb I os bare hh hok u=>
    qi hfr hh fun h2 x1 x2=>⟨pins,σ,C,H',ea,rfl,ns,fr, .inr (.inr ⟨H,s,a0,Bb,I,os,bare,x1,hok,u.on hh.2.2.1 x2⟩)⟩
  show wpAny _ _ (noteFrame _ _) _ _ _
  rcases h with ⟨hm,s,h',vs,I,hx,rfl⟩ | ⟨H,s,a0,Bb,I,os,bare,fl,hok,u⟩ | ⟨H,s,a0,Bb,I,os,bare,hh,hok,u⟩
  · have st:=I.stack
    have hin:∀env∈X.stack,∀b,env.frame=some b→b∈gU X.stack:=fun env he b hb=>List.mem_filterMap.mpr ⟨env,he,hb⟩
    have ff:=PySem.W.funFrames_hide st hin
    refine n3 (base:=PySem.W.hideAll s.heap (gU X.stack)) (h:=s.heap) (outer:=X.outer) (by rw [I.ok.frames,hst]) hfr (fun b o q=>PySem.W.of_hideAll _ q) (hst▸ff) hx fun h2 t x1 x2=>?_
    refine came {s with heap:=h2} H' s (.ref t) _ I rfl I.bare (hst▸x1) (fun a o e=>?_) ⟨fun b o e n hb=>PySem.W.hideAll_get _ e hb,fun b o e n hb=>?_,fun _ _ _ n=>n,fun b o e hb=>⟨o,PySem.W.hideAll_get _ e hb⟩,fun _ _ e=>e,fun _ _ _ e=>e,fun _ _ e=>e⟩
    · refine (I.hok a o e).stay (fun b u hb q=>PySem.W.hideAll_get _ q fun z=>?_) (fun _ q=>q) fun _ _ q=>q
      have n:=I.stkFree b z
      rcases hb with rfl | hb
      · rw [n] at e;cases e
      · rw [n] at hb;cases hb
    · obtain ⟨_,o',ho',hd⟩:=st.mem hb
      rw [e] at ho'
      cases ho'
      exact x2 b o (hx.keeps b o e) hd
  · refine kM (outer:=X.outer) (by rw [I.ok.frames,hst]) hfr (hst▸fl) fun h2 x1 x2=>?_
    exact came {s' with heap:=h2} H s a0 Bb I os bare (hst▸x1) hok (u.on fl.2.2.1 x2)
  · exact wpAny_noteFrame_againW hfr hh.2.2.2.1 (came s' H s a0 Bb I os bare hh hok u)
theorem sT {X:Cx} {mk:Bool} {tg iter:Expr} {body:List Stmt} {m:Bool} {it:iy} {g:gJ} {b:cJ} {r:jO} {pos:Pos} (hst:X.stack=X.env::X.outer) (hfr:X.env.frame=some X.env.locals) (hc:X.calm=true) (hi:∀W,IX (X.wish W) tg iter m it) (hg:∀W,GX (X.wish W) tg g) (hb:ny X.nox body b) (hr:∀W,uS (X.wish W) mk true body r)
    (hs:∀x,foldedSetIterable iter X.env x=pure x:=by intro _;rfl):RX X mk true (.For tg iter body [] pos) (qj it g b r):=fun pins s σ H B E n E' I fr e k=>by
  obtain ⟨⟨ds,E1⟩,e1,e⟩:=Option.bind_eq_some_iff.mp e
  have hbW:PSs (X.wish (sR X mk n B E')) body (rs X.K b):=fun pins s σ H D I hw=>
    wpAny_mono (hb pins s σ H D (I.unwish.wish _) hw) (fun _ _ q=>SP.unwish (X:=X) q |> fun z=>by
      rename_i f s'
      cases f with
      | next=>obtain ⟨σ',H',I,q⟩:=z;exact ⟨σ',H',I.wish _,q⟩
      | brk=>obtain ⟨σ',H',I,q⟩:=z;exact ⟨σ',H',I.wish _,q⟩
      | cont=>obtain ⟨σ',H',I,q⟩:=z;exact ⟨σ',H',I.wish _,q⟩
      | ret u=>obtain ⟨v,σ',H',I,r,q⟩:=z;exact ⟨v,σ',H',I.wish _,r,q⟩) fun _ _ z=>z.elim
  have hbody:PSs (X.wish (sR X mk n B E')) body (fun D σ H=>rs X.K b D σ H∨∃B' Ei,Same B B'∧Frm X.K B' σ H Ei [] []∧r Ei=some (n,E')):=fun pins s σ H D I hw=>by
    rcases hw with hw | ⟨B',Ei,sb,fri,er⟩
    · exact hbW pins s σ H D I hw
    · refine wpAny_mono (hr _ pins s σ H B' Ei n E' I fri er fun pp _ σ' C H' ns fr'=>⟨fun hm=>?_,?_,fun _=>?_⟩) (fun _ _ z=>z.elim) fun _ _ z=>z
      · exact fun s h' ea vs I hx=>⟨pp,σ',C,H',ea,rfl,ns,fr'.base sb, .inl ⟨hm,s,h',vs,I.unwish,hx,rfl⟩⟩
      · exact fun H s ea s' a0 Bb I os bare fl hok u=>⟨pp,σ',C,H',ea,rfl,ns,fr'.base sb, .inr (.inl ⟨H,s,a0,Bb,I.unwish,os,bare,fl,hok,u⟩)⟩
      · exact fun H s ea s' a0 Bb I os bare fl hok u=>⟨pp,σ',C,H',ea,rfl,ns,fr'.base sb, .inr (.inr ⟨H,s,a0,Bb,I.unwish,os,bare,fl,hok,u⟩)⟩
  have q:=qJ (X:=X.wish (sR X mk n B E')) (pos:=pos) (sS hst hfr) hc (hi _) (hg _) hbody hs pins s σ H {nx:=fun _ _=>False,bk:=fun _ _=>False,ct:=fun _ _=>False,rt:=fun _ _=>False} (I.wish _) (by
    refine ⟨B,E,[],[],ds,E1,fr,fun _=>Calm.nil rfl,e1,fun B' J H1 hB fr1 ok=>?_⟩
    refine ⟨fun i mm σ' H'=>mm=ds.length - i∧i≤ds.length∧∃Ei,eZ g b r (ds.drop i) Ei=some (n,E')∧Frm X.K B' σ' H' Ei [] [],⟨ds.length,by simp,Nat.zero_le _,E1,by simpa using e,fr1⟩,?_⟩
    rintro i mm σ' H' ⟨rfl,hi,Ei,ei,F,A,fri⟩
    obtain ⟨go,stop⟩:=ok i (Same.refl _) fri
    by_cases hlt:i < ds.length
    · obtain ⟨d,ed⟩:∃d,ds[i]? =some d:=⟨ds[i],List.getElem?_eq_getElem hlt⟩
      obtain ⟨g1,yl⟩:=go d ed
      have edr:ds.drop i=d::ds.drop (i+1):=by
        rw [List.drop_eq_getElem_cons hlt]
        congr 1
        exact Option.some.inj ((List.getElem?_eq_getElem hlt).symm.trans ed)
      rw [edr] at ei
      obtain ⟨E3,e3,ei⟩:=Option.bind_eq_some_iff.mp ei
      refine .inr ⟨g1,fun σ2 H2=>∃Ej,eZ g b r (ds.drop (i+1)) Ej=some (n,E')∧Frm X.K B' σ2 H2 Ej [] [],fun σ2 H2 ⟨Ej,ej,frj⟩=>⟨ds.length - (i+1),by omega,rfl,hlt,Ej,ej,frj⟩,fun x H2 y=>?_⟩
      refine ⟨B',Ei,[],[],d,E3,yl x H2 y,Still.nil rfl,e3,fun σ3 H3 fr3=>?_⟩
      split at ei
      · rename_i x er
        cases ei
        exact .inr ⟨B',E3,hB,fr3,er⟩
      · split at ei
        · rename_i E2 eb
          exact .inl ⟨B',E3,[],[],E2, .nx,fr3,rfl,eb,fun σ4 H4 fr4=>⟨E2,ei,fr4⟩⟩
        · rename_i E2 eb
          exact .inl ⟨B',E3,[],[],E2, .ct,fr3,rfl,eb,fun σ4 H4 fr4=>⟨E2,ei,fr4⟩⟩
        · cases ei
    · have e0:i=ds.length:=by omega
      rw [e0,List.drop_length] at ei
      cases ei)
  refine wpAny_mono q (fun f s1 z=>?_) fun e1 s1 z=>?_
  · cases f with
    | next=>obtain ⟨_,_,_,z⟩:=z;exact z
    | brk=>obtain ⟨_,_,_,z⟩:=z;exact z
    | cont=>obtain ⟨_,_,_,z⟩:=z;exact z
    | ret u=>obtain ⟨_,_,_,_,_,z⟩:=z;exact z
  · obtain ⟨pp,σ',C,H',ea,rfl,ns,fr',z⟩:=z
    obtain ⟨k1,k2,k3⟩:=k pp (fun h=>nomatch h) σ' C H' ns fr'
    rcases z with ⟨hm,s2,h2,vs,I2,hx,rfl⟩ | ⟨H2,s2,a0,Bb,I2,os,bare,fl,hok,u⟩ | ⟨H2,s2,a0,Bb,I2,os,bare,fl,hok,u⟩
    · exact k1 hm s2 h2 ea vs I2 hx
    · exact k2 H2 s2 ea s1 a0 Bb I2 os bare fl hok u
    · exact k3 rfl H2 s2 ea s1 a0 Bb I2 os bare fl hok u
end PL
namespace PL
open PySem PySem.Spec PyProof.Rows L2 Nh
def yX:bz:=fun E=>some (.sh (.dict []),E)
theorem yG {X:Cx} {pos:Pos}:EX X (.Dict [] [] pos) false yX:=by
  refine aY rK fun σ H Q z=>?_
  obtain ⟨B,E,xs,Xs,res,E',⟨F,A,fr⟩,c,e,q⟩:=z
  cases e
  intro p hp
  have fr2:=fr.grow (dy hp (.dK []))
  exact q _ _ ⟨_,_,fr2.push ⟨rfl,_,rfl, .dct (.inl (by show (if p∈A then none else _)=_;rw [if_neg (fr.newA hp)];exact upd_same)) .nil⟩⟩
end PL
namespace PL
open PySem L2 Nh
def sU:Expr→Bool
  | .Starred .. =>false
  | _=>true
theorem u5 {e:Expr} {es:List Expr} {env:Env} (h:sU e=true):starEach (e::es) env=(false,eval e env)::starEach es env:=by
  cases e <;> first | rfl | cases h
inductive DL (X:Cx):List Expr→Bool→iy→Prop
  | nil:DL X [] false ar
  | cons {e:Expr} {es:List Expr} {m1 m2:Bool} {f:bz} {d:iy}:EX X e m1 f→sU e=true→DL X es m2 d→DL X (e::es) (m1||m2) (aa f d)
section
variable {X:Cx} {es:List Expr} {m:Bool} {d:iy} {pos:Pos}
theorem DL.dx (h:DL X es m d):DX X es m d:=by
  induction h with
  | nil=>exact wE
  | cons a n _ ih=>exact uA a ih (u5 n)
theorem bK (h:DL X es m d):EX X (.List es pos) m (bi d):=wG h.dx
theorem aB {x1} (h:DL X es m d):EX X (.Tuple es x1 pos) m (aG d):=wF h.dx
end
def gs:List Nat→Expr→Expr
  | [],e=>e
  | k::r,e=>match e with
    | .Call _ as _ _=>gs r (as.getD k e)
    | .BinOp a _ b _=>if k=0 then gs r a else gs r b
    | .Subscript a b _=>if k=0 then gs r a else gs r b
    | .Compare a _ cs _=>if k=0 then gs r a else gs r (cs.getD (k - 1) e)
    | .BoolOp _ vs _=>gs r (vs.getD k e)
    | .UnaryOp _ a _=>gs r a
    | .List es _=>gs r (es.getD k e)
    | .Tuple es _ _=>gs r (es.getD k e)
    | .ListComp _ (c::_) _ _=>gs r c.iter
    | e=>e
def gu (v:Expr):List Nat→Expr→Expr
  | [],_=>v
  | k::r,e=>match e with
    | .Call f as ks p=> .Call f (as.set k (gu v r (as.getD k e))) ks p
    | .BinOp a o b p=>if k=0 then .BinOp (gu v r a) o b p else .BinOp a o (gu v r b) p
    | .Subscript a b p=>if k=0 then .Subscript (gu v r a) b p else .Subscript a (gu v r b) p
    | .Compare a os cs p=>if k=0 then .Compare (gu v r a) os cs p else .Compare a os (cs.set (k - 1) (gu v r (cs.getD (k - 1) e))) p
    | .BoolOp o vs p=> .BoolOp o (vs.set k (gu v r (vs.getD k e))) p
    | .UnaryOp o a p=> .UnaryOp o (gu v r a) p
    | .List es p=> .List (es.set k (gu v r (es.getD k e))) p
    | .Tuple es n p=> .Tuple (es.set k (gu v r (es.getD k e))) n p
    | .ListComp el (c::cs) sc p=> .ListComp el ({c with iter:=gu v r c.iter}::cs) sc p
    | e=>e
def kh:List Nat→List Stmt→Expr
  | [],_=> .Constant .none 0 ⟨0,0,0,0⟩
  | i::r,b=>match b[i]? with
    | some (.Assign _ e _)=>gs r e
    | some (.Return (some e) _)=>gs r e
    | some (.Expr e _)=>gs r e
    | some (.If t bb _ _)=>match r with
      | 0::q=>gs q t
      | 1::q=>kh q bb
      | _=>t
    | some (.For t it bb _ _)=>match r with
      | 0::q=>gs q it
      | 1::q=>kh q bb
      | _=>t
    | _=> .Constant .none 0 ⟨0,0,0,0⟩
def qk (v:Expr):List Nat→List Stmt→List Stmt
  | [],b=>b
  | i::r,b=>match b[i]? with
    | some (.Assign t e p)=>b.set i (.Assign t (gu v r e) p)
    | some (.Return (some e) p)=>b.set i (.Return (some (gu v r e)) p)
    | some (.Expr e p)=>b.set i (.Expr (gu v r e) p)
    | some (.If t bb o p)=>match r with
      | 0::q=>b.set i (.If (gu v q t) bb o p)
      | 1::q=>b.set i (.If t (qk v q bb) o p)
      | _=>b
    | some (.For t it bb o p)=>match r with
      | 0::q=>b.set i (.For t (gu v q it) bb o p)
      | 1::q=>b.set i (.For t it (qk v q bb) o p)
      | _=>b
    | _=>b
def u6:Expr→List Expr
  | .List es _=>es
  | .Tuple es _ _=>es
  | _=>[]
def pe (es:List Expr):Expr→Expr
  | .List _ p=> .List es p
  | .Tuple _ n p=> .Tuple es n p
  | e=>e
structure BodyOk (X:Cx) (body:List Stmt) (g:cJ):Prop where
  of:ny X body g
theorem fg {X:Cx} {body:List Stmt} {g:cJ} (path:List Nat) {m:Bool} {d:iy} (hP:∀Y:Cx,DL Y (u6 (kh path body)) m d) (key:∀es,(∀Y:Cx,DL Y es m d)→BodyOk X (qk (pe es (kh path body)) path body) g) (hb:qk (pe (u6 (kh path body)) (kh path body)) path body=body:=by rfl):BodyOk X body g:=by
  have:=key _ hP
  rw [hb] at this
  exact this
theorem gM {X:Cx} {body:List Stmt} {g:cJ} (path:List Nat) {m:Bool} {d:iy} (hP:DL X (u6 (kh path body)) m d) (key:∀es,DL X es m d→BodyOk X (qk (pe es (kh path body)) path body) g) (hb:qk (pe (u6 (kh path body)) (kh path body)) path body=body:=by rfl):BodyOk X body g:=by
  have:=key _ hP
  rw [hb] at this
  exact this
end PL
namespace NH
section
variable {α:Type} [DecidableEq α]
def Rot (a b:List (α×Int)):Prop:=∃u v,a=u++v∧b=v++u
theorem Rot.refl (a:List (α×Int)):Rot a a:=⟨[],a,rfl,by simp⟩
theorem Rot.symm {a b:List (α×Int)} (h:Rot a b):Rot b a:=let ⟨u,v,e,f⟩:=h;⟨v,u,f,e⟩
theorem Rot.trans {a b c:List (α×Int)} (h:Rot a b) (k:Rot b c):Rot a c:=by
  obtain ⟨u,v,rfl,e⟩:=h
  obtain ⟨x,y,e2,rfl⟩:=k
  rw [e] at e2
  rcases List.append_eq_append_iff.mp e2 with ⟨w,e3,e4⟩ | ⟨w,e3,e4⟩
  · subst e3 e4
    exact ⟨w,y++v,by simp,by simp⟩
  · subst e3 e4
    exact ⟨u++x,w,by simp,by simp⟩
theorem Rot.eq {a b:List (α×Int)} (h:a=b):Rot a b:=h▸Rot.refl a
theorem Rot.len {a b:List (α×Int)} (h:Rot a b):a.length=b.length:=by
  obtain ⟨u,v,rfl,rfl⟩:=h
  simp [Nat.add_comm]
def mU:List (α×Int)→Bool
  | []=>false
  | [_]=>false
  | p::q::w=>decide (p.1=((q::w).getLastD p).1)
theorem n4 (p y:α×Int) (m:List (α×Int)):mU (p::(m++[y]))=decide (p.1=y.1):=by
  cases m with
  | nil=>rfl
  | cons q m=>
    show decide (p.1=(((q::m)++[y]).getLastD p).1)=_
    rw [List.getLastD_concat]
theorem n5:∀(w:List (α×Int)),w=[]∨(∃x,w=[x])∨∃x m y,w=x::(m++[y])
  | []=> .inl rfl
  | [x]=> .inr (.inl ⟨x,rfl⟩)
  | x::q::w=> .inr (.inr ⟨x,(q::w).dropLast,(q::w).getLast (by simp),by rw [List.dropLast_concat_getLast]⟩)
theorem dD {w:List (α×Int)} (h:Red w):short w=w:=by rw [cB,gb h]
end
end NH
namespace NH
variable {α:Type} [DecidableEq α]
end NH
namespace NH
def zF:Nat→Nat→Nat
  | _,0=>1
  | 0,_+1=>0
  | n+1,k+1=>zF n (k+1)+zF n k
def zG:Nat→Nat→Int
  | _,0=>1
  | 0,_+1=>0
  | m+1,k+1=>zG m (k+1) - zG (m+1) k
def ch (n:Int) (k:Nat):Int:=match n with
  | .ofNat n=>(zF n k:Int)
  | .negSucc m=>zG (m+1) k
def ff (n:Int):Nat→Int
  | 0=>1
  | k+1=>ff n k*(n - k)
section
variable {α:Type}
def conv (f g:List α→Int):List α→Int
  | []=>f []*g []
  | a::w=>f []*g (a::w)+conv (fun u=>f (a::u)) g w
def Au:List α→Int
  | []=>1
  | _::_=>0
end
section
variable {α:Type} [DecidableEq α]
def yH (p:α×Int) (w:List α):Int:=if w.all (fun b=>decide (b=p.1)) then ch p.2 w.length else 0
def Ai (w:List α) (c:List (α×Int)):Int:=c.foldr (fun p f=>conv (yH p) f) Au w
def vs (j:Nat) (m n:Int):Nat→Int
  | 0=>ch m j
  | k+1=>ch m j*ch n (k+1)+vs (j+1) m n k
def Unlike:List α→Prop
  | []=>True
  | [_]=>True
  | a::b::w=>a≠b∧Unlike (b::w)
theorem Unlike.tail {a:α} {w:List α} (h:Unlike (a::w)):Unlike w:=by
  cases w with
  | nil=>trivial
  | cons b w=>exact h.2
end
end NH
namespace NH
variable {α:Type} [DecidableEq α]
end NH
namespace Nh
open PySem L2 PL
def CordOk (c:List Pc):Prop:=∀p∈c,p.1 < 128∧p.2.natAbs < 2 ^ 100
theorem CordOk.n {c:List Pc} (h:CordOk c):NailsOk c:=fun p hp=>(h p hp).1
theorem CordOk.append {c d:List Pc} (h:CordOk c) (h':CordOk d):CordOk (c++d):=fun p hp=>(List.mem_append.mp hp).elim (h p) (h' p)
theorem CordOk.contr {c:List Pc} (h:CordOk c):CordOk (NH.contr c):=fun p hp=>by
  obtain ⟨q,hq,e⟩:=List.mem_map.mp hp
  subst e
  have:=h q (List.mem_reverse.mp hq)
  exact ⟨this.1,by simpa using this.2⟩
theorem CordOk.cutL {c:List Pc} (h:CordOk c) (lo hi:Option Int):CordOk (cutL c lo hi):=fun p hp=>h p (mH hp)
end Nh
namespace Nh
open PySem L2 PL
def lp (p q:Pc):Bool:=if p.1=q.1 then decide (p.2 < q.2) else decide (p.1 < q.1)
def ll:List Pc→List Pc→Bool
  | [],[]=>false
  | [],_::_=>true
  | _::_,[]=>false
  | x::xs,y::ys=>if x=y then ll xs ys else lp x y
theorem sV {p q:Pc} (h:p≠q):lp p q=true∨lp q p=true:=by
  unfold lp
  by_cases e:p.1=q.1
  · rw [if_pos e,if_pos e.symm]
    simp only [decide_eq_true_eq]
    have:p.2≠q.2:=fun z=>h (by cases p;cases q;simp_all)
    omega
  · rw [if_neg e,if_neg (fun z=>e z.symm)]
    simp only [decide_eq_true_eq]
    omega
theorem mV:∀{a b:List Pc},a≠b→ll a b=true∨ll b a=true
  | [],[],h=>absurd rfl h
  | [],_::_,_=> .inl rfl
  | _::_,[],_=> .inr rfl
  | x::a,y::b,h=>by
    unfold ll
    by_cases e:x=y
    · subst e
      rw [if_pos rfl,if_pos rfl]
      exact mV fun z=>h (by rw [z])
    · rw [if_neg e,if_neg (fun z=>e z.symm)]
      exact sV e
def xG (a:List Pc) (p:Nat):List Pc:=a.drop p++a.take p
def Least (a w:List Pc):Prop:=(∃p,p≤a.length∧w=xG a p)∧∀p,p≤a.length→ll (xG a p) w=false
theorem Least.one {a w w':List Pc} (h:Least a w) (h':Least a w'):w=w':=by
  obtain ⟨⟨p,hp,rfl⟩,k⟩:=h
  obtain ⟨⟨p',hp',rfl⟩,k'⟩:=h'
  by_cases e:xG a p=xG a p'
  · exact e
  · rcases mV e with z | z
    · rw [k' p hp] at z;cases z
    · rw [k p' hp'] at z;cases z
end Nh
namespace NH
variable {α:Type} [DecidableEq α]
theorem mW {a a':List (α×Int)} (h:short a=short a') (b:List (α×Int)):short (a++b)=short (a'++b):=by
  have k:stk a=stk a':=by
    have:=congrArg List.reverse h
    simpa [short] using this
  unfold short stk at *
  rw [List.foldl_append,List.foldl_append,k]
theorem ql {b b':List (α×Int)} (a:List (α×Int)) (h:short b=short b'):short (a++b)=short (a++b'):=by
  rw [cB,cB] at h ⊢
  unfold runs at *
  rw [List.foldr_append,List.foldr_append,h]
end NH
namespace NH
variable {α:Type} [DecidableEq α]
def pw {β:Type} (t:Nat) (v:List β):List β:=(List.replicate t v).flatten
theorem u7 {β:Type} (v:List β):pw 0 v=[]:=rfl
theorem lN {β:Type} (t:Nat) (v:List β):pw (t+1) v=v++pw t v:=by simp [pw,List.replicate_succ]
theorem xj {β:Type} (t:Nat) (v:List β):(pw t v).length=t*v.length:=by
  induction t with
  | zero=>simp [u7]
  | succ t ih=>rw [lN,List.length_append,ih,Nat.succ_mul];omega
end NH
namespace Nh
open NH
def Oft (C:List Pc) (t:Nat):Prop:=(∃p,C=[p]∧t=p.2.natAbs)∨(2≤C.length∧∃s,1≤s∧s*t=C.length∧xG C s=C∧∀l,1≤l→l < s→l∣C.length→xG C l≠C)
theorem Oft.one {C:List Pc} {t t':Nat} (h:Oft C t) (h':Oft C t'):t=t':=by
  rcases h with ⟨p,rfl,e⟩ | ⟨h2,s,s1,s2,s3,s4⟩
  · rcases h' with ⟨p',e',e2⟩ | ⟨h2,_⟩
    · cases e';rw [e,e2]
    · simp at h2
  · rcases h' with ⟨p',rfl,e2⟩ | ⟨_,s',s1',s2',s3',s4'⟩
    · simp at h2
    · have:s=s':=by
        rcases Nat.lt_trichotomy s s' with z | z | z
        · exact absurd s3 (s4' s s1 z ⟨t,s2.symm⟩)
        · exact z
        · exact absurd s3' (s4 s' s1' z ⟨t',s2'.symm⟩)
      subst this
      exact Nat.eq_of_mul_eq_mul_left (by omega) (s2.trans s2'.symm)
end Nh
namespace NH
variable {α:Type} [DecidableEq α]
def tL (z:Int) (v:List (α×Int)):List (α×Int):=if z < 0 then pw z.natAbs (contr v) else pw z.natAbs v
structure Hom (f:α×Int→List (α×Int)):Prop where
  zero:∀n,short (f (n,0))=[]
  add:∀n a b,short (f (n,a)++f (n,b))=short (f (n,a+b))
theorem Hom.stp {f:α×Int→List (α×Int)} (h:Hom f) (r:List (α×Int)) (p:α×Int):short ((stp r p).flatMap f)=short (f p++r.flatMap f):=by
  have z:∀(q:α×Int) (X:List (α×Int)),q.2=0→short (f q++X)=short X:=fun q X hq=>by
    have e:q=(q.1,0):=by rw [←hq]
    rw [e]
    have:=mW (show short (f (q.1,0))=short [] by rw [h.zero];rfl) X
    simpa using this
  cases r with
  | nil=>
    show short ((if p.2=0 then [] else [p]).flatMap f)=_
    split
    · rename_i hp
      rw [z p _ hp]
    · simp
  | cons q r=>
    rw [fD,List.flatMap_append,List.flatMap_cons]
    unfold j7
    split
    · rename_i e
      have k:short (f p++f q)=short (f (p.1,q.2+p.2)):=by
        have:=h.add p.1 p.2 q.2
        rw [show (p.1,q.2)=q by rw [←e],show (p.1,p.2)=p from rfl,Int.add_comm] at this
        exact this
      rw [←List.append_assoc,mW k]
      split
      · rename_i e2
        rw [e2,z (p.1,0) _ rfl]
        simp
      · simp
    · split
      · rename_i hp
        rw [z p _ hp]
        simp
      · simp
theorem Hom.runs {f:α×Int→List (α×Int)} (h:Hom f):∀c:List (α×Int),short ((runs c).flatMap f)=short (c.flatMap f)
  | []=>rfl
  | p::c=>by
    have:NH.runs (p::c)=NH.stp (NH.runs c) p:=rfl
    rw [this,h.stp,List.flatMap_cons,ql (f p) (h.runs c)]
theorem Hom.short {f:α×Int→List (α×Int)} (h:Hom f) (c:List (α×Int)):NH.short ((NH.short c).flatMap f)=NH.short (c.flatMap f):=by rw [cB c,h.runs]
theorem Hom.one {f:α×Int→List (α×Int)} (h:Hom f) {c d:List (α×Int)} (e:NH.short c=NH.short d):NH.short (c.flatMap f)=NH.short (d.flatMap f):=by rw [←h.short c,e,h.short d]
end NH
namespace Nh
open PySem L2 PL
inductive Mv where
  | turn (n:Nat)
  | change (n m:Nat)
  | slide (n m:Nat) (t:Int)
def aD:Mv→PyData
  | .turn n=> .tuple [.str "turn", .str ⟨#[n]⟩]
  | .change n m=> .tuple [.str "change", .str ⟨#[n]⟩, .str ⟨#[m]⟩]
  | .slide n m t=> .tuple [.str "slide", .str ⟨#[n]⟩, .str ⟨#[m]⟩, .int t]
def ft:Mv→Pc→List Pc
  | .turn n,p=>if p.1=n then [(p.1,-p.2)] else [p]
  | .change n m,p=>if p.1=n then [(m,p.2)] else if p.1=m then [(n,p.2)] else [p]
  | .slide n m t,p=>if p.1=n then (if p.2 < 0 then NH.pw p.2.natAbs [(m,-t),(n,-1)] else NH.pw p.2.natAbs [(n,1),(m,t)]) else [p]
def Mv.ok:Mv→Prop
  | .turn _=>True
  | .change n m=>n≠m
  | .slide n m _=>n≠m
theorem qm (n m:Nat) (t a:Int) (x:Nat):ft (.slide n m t) (x,a)=if x=n then NH.tL a [(n,1),(m,t)] else [(x,a)]:=by
  unfold ft NH.tL
  simp only
  split
  · rfl
  · rfl
end Nh
namespace NH
variable {α:Type} [DecidableEq α]
theorem lO:∀{a b:List (α×Int)},Red a→Red b→(∀x y,a.getLast? =some x→b.head? =some y→x.1≠y.1)→Red (a++b)
  | [],b,_,h,_=>h
  | [x],b,ha,hb,hj=>Red.cons ha.head (fun q hq=>hj x q rfl hq) hb
  | x::y::a,b,ha,hb,hj=>Red.cons ha.head (fun q hq=>ha.next q hq) (lO (a:=y::a) ha.tail hb fun u v hu hv=>hj u v (by simpa using hu) hv)
end NH
namespace Nh
open NH
def Per (I:List Pc) (a:Nat):Prop:=∀i,I[(i+a) % I.length]? =I[i % I.length]?
theorem Per.sub {I:List Pc} {a b:Nat} (ha:Per I a) (hb:Per I b) (h:a≤b):Per I (b - a):=fun i=>by
  rw [←ha (i+(b - a)),show i+(b - a)+a=i+b by omega,hb]
theorem sW {V:List Pc} (hr:Red V) (hl:mU V=false) (n2:2≤V.length):∀k,Red (pw k V)
  | 0=>trivial
  | k+1=>by
    rw [lN]
    refine lO hr (sW hr hl n2 k) fun x y hx hy=>?_
    cases k with
    | zero=>cases hy
    | succ k=>
      rcases n5 V with rfl | ⟨u,rfl⟩ | ⟨u,m,v,rfl⟩
      · simp at n2
      · simp at n2
      · rw [n4] at hl
        rw [←List.cons_append,List.getLast?_concat] at hx
        cases hx
        rw [lN] at hy
        cases hy
        exact fun z=>of_decide_eq_false hl z.symm
end Nh
namespace Nhk74
open PySem L2 Nh PL
def jS:List (Str×Bool):=[("NoMove",false),("TooLong",false)]
def i5:List (Str×Bool):=[("NoMove",false),("TooLong",false)]
def jT:List (Str×Bool):=[("NoMove",false),("TooLong",false)]
def jU:List (Str×Bool):=[("NoMove",false),("TooLong",false)]
def jV:List (Str×Bool):=[("NoMove",true),("TooLong",false)]
def jW:List (Str×Bool):=[("NoMove",false),("TooLong",false)]
def jX:List (Str×Bool):=[("NoMove",false),("TooLong",false)]
def ie:List (Str×Bool):=[("NoMove",false),("TooLong",false)]
def i6:List (Str×Bool):=[("NoMove",false),("TooLong",false)]
def i7:List (Str×Bool):=[("NoMove",false),("TooLong",true)]
def gv:List (Str×Bool):=[("NoMove",true),("TooLong",true)]
def gN:cJ:=(aV (cL (dH (eW .str) (ad 0)) (cL (ah dw false (bY dt (af false (ad 0) am)) (pC (.int 1))) (jC (dB .le) (dB .le) false false (pC (.str "a")) (ad 0) (pC (.str "z"))))))
def cq:List PyData→Option Sl:=da 1 1 gN
def fO:cJ:=(aV (cL (dH (eW .int) (ad 0)) (dH ux (dH (eW .bool) (ad 0)))))
def de:List PyData→Option Sl:=da 1 1 fO
def aR:gJ:=(e_ 2 (cm (be 2) (cm (be 3) e9)))
def aS:cJ:=(aP (bc 4 (ad 3))
  (aP (bn (iZ (bX (ad 1)) (cS (ah dw false (ah cI false (ah cI false (ad 1) (dH fq (pC (.int 1)))) (pC (.int 0))) (ad 2))))
  (bc 4 (ah bH false (ah cI false (lw 1) (pC (.int 1))) (ad 3)))
  aQ)
  (bn (cS (ah kA false (ad 4) (pC (.int 0))))
  (dJ (cY 1 (aG (aa (ad 2) (aa (ad 4) ar)))))
  aQ)))
def eO:cJ:=(aP (bc 1 (bi ar))
  (aP (g9 (du (ad 0)) aR
  aS)
  (aV (ad 1))))
def aT:List PyData→Option Sl:=da 1 5 eO
def dY:gJ:=(e_ 2 (cm (be 0) (cm (be 1) e9)))
def cW:bz:=(aG (aa (ad 0) (aa (dH fq (ad 1)) ar)))
def fP:cJ:=(aV (dc [none,none] (oV (ad 0)) dY cA cW))
def df:List PyData→Option Sl:=da 1 1 fP
def e8:cJ:=(aV (ah iz false (tJ (cS (ah (dI (dB .lt)) false (ad 1) (pC (.int 0)))) (ao df (af false (ad 0) am)) (ad 0)) (bY iB (af false (ad 1) am))))
def cj:List PyData→Option Sl:=da 2 2 e8
def cZ:cJ:=(aV (cL (ao cq (af false (ad 0) am)) (cL (ao cq (af false (ad 1) am)) (ah kA false (ad 0) (ad 1)))))
def bD:List PyData→Option Sl:=da 2 2 cZ
def eR:cJ:=(aP (bn (kb (bA (bX (dH (eW .tuple) (ad 0)))) (cS (ah dw false (bY dt (af false (ad 0) am)) (pC (.int 0)))))
  (aV (pC (.bool false)))
  aQ)
  (aP (bn (cS (ah dw false (ah cI false (ad 0) (pC (.int 0))) (pC (.str "turn"))))
  (aV (cL (ah dw false (bY dt (af false (ad 0) am)) (pC (.int 2))) (ao cq (af false (ah cI false (ad 0) (pC (.int 1))) am))))
  aQ)
  (aP (bn (cS (ah dw false (ah cI false (ad 0) (pC (.int 0))) (pC (.str "change"))))
  (aV (cL (ah dw false (bY dt (af false (ad 0) am)) (pC (.int 3))) (ao bD (af false (ah cI false (ad 0) (pC (.int 1))) (af false (ah cI false (ad 0) (pC (.int 2))) am)))))
  aQ)
  (aP (bn (cS (ah dw false (ah cI false (ad 0) (pC (.int 0))) (pC (.str "slide"))))
  (aV (cL (ah dw false (bY dt (af false (ad 0) am)) (pC (.int 4))) (cL (ao bD (af false (ah cI false (ad 0) (pC (.int 1))) (af false (ah cI false (ad 0) (pC (.int 2))) am))) (ao de (af false (ah cI false (ad 0) (pC (.int 3))) am)))))
  aQ)
  (aV (pC (.bool false)))))))
def aE:List PyData→Option Sl:=da 1 1 eR
def aH:gJ:=(be 1)
def aC:cJ:=(bn (bA (bX (ao aE (af false (ad 1) am))))
  gi
  aQ)
def dZ:cJ:=(aP (bn (bA (bX (dH (eW .list) (ad 0))))
  gi
  aQ)
  (g9 (du (ad 0)) aH
  aC))
def aN:List PyData→Option Sl:=da 1 2 dZ
def bI:jO:=(uT (lL (bA (bX (dH (eW .list) (ad 0)))) (ef "NoMove"))
  (mP (bn (bA (bX (dH (eW .list) (ad 0))))
  gi
  aQ)
  (qj (du (ad 0)) aH aC (lL (bA (bX (ao aE (af false (ad 1) am)))) (ef "NoMove")))))
def aA:List PyData→Option Str:=xb 1 2 bI
def bO:gJ:=(e_ 2 (cm (be 0) (cm (be 1) e9)))
def bg:bz:=(tJ (cS (ah dw false (ad 0) (ah cI false (ad 2) (pC (.int 1))))) (ah iz false (pC (.int 2)) (bY iB (af false (ad 1) am))) (pC (.int 1)))
def bL:cJ:=(aP (bn (kb (cS (ah kA false (ah cI false (ad 1) (pC (.int 0))) (pC (.str "slide")))) (cS (ah dw false (ah cI false (ad 1) (pC (.int 3))) (pC (.int 0)))))
  (aV (bY dt (af false (ad 0) am)))
  aQ)
  (aV (bY mI (af false (dc [none,none,some 1] (du (ad 0)) bO cA bg) am))))
def av:List PyData→Option Sl:=da 2 2 bL
def fi:gJ:=(e_ 2 (cm (be 0) (cm (be 1) e9)))
def dg:bz:=(aG (aa (ad 0) (aa (tJ (cS (ah dw false (ad 0) (ad 2))) (dH fq (ad 1)) (ad 1)) ar)))
def ig:cJ:=(aV (dc [none,none,some 1] (du (ad 0)) fi cA dg))
def dP:List PyData→Option Sl:=da 2 2 ig
def eP:gJ:=(e_ 2 (cm (be 0) (cm (be 1) e9)))
def dE:bz:=(aG (aa (oZ (ad 2) (ad 0) (ad 0)) (aa (ad 1) ar)))
def gO:cJ:=(aP (bc 3 (mC (((ad 1),(ad 2))::(((ad 2),(ad 1))::[]))))
  (aV (dc [none,none,some 3] (du (ad 0)) eP cA dE)))
def c_:List PyData→Option Sl:=da 3 4 gO
def dh:gJ:=(e_ 2 (cm (be 5) (cm (be 6) e9)))
def di:cJ:=(bn (cS (ah dw false (ad 5) (ad 1)))
  (dJ (h8 4 (ao cj (af false (bi (aa (aG (aa (ad 5) (aa (pC (.int 1)) ar))) (aa (aG (aa (ad 2) (aa (ad 3) ar))) ar))) (af false (ad 6) am)))))
  (dJ (cY 4 (aG (aa (ad 5) (aa (ad 6) ar))))))
def lP:cJ:=(aP (bc 4 (bi ar))
  (aP (g9 (du (ad 0)) dh
  di)
  (aV (ao aT (af false (ad 4) am)))))
def fQ:List PyData→Option Sl:=da 4 7 lP
def cr:cJ:=(aP (bn (cS (ah (dI (dB .gt)) false (ao av (af false (ad 0) (af false (ad 1) am))) (pC (.int 4000))))
  gi
  aQ)
  (aP (bn (cS (ah dw false (ah cI false (ad 1) (pC (.int 0))) (pC (.str "turn"))))
  (aV (ao dP (af false (ad 0) (af false (ah cI false (ad 1) (pC (.int 1))) am))))
  aQ)
  (aP (bn (cS (ah dw false (ah cI false (ad 1) (pC (.int 0))) (pC (.str "change"))))
  (aV (ao c_ (af false (ad 0) (af false (ah cI false (ad 1) (pC (.int 1))) (af false (ah cI false (ad 1) (pC (.int 2))) am)))))
  aQ)
  (aP (bn (cS (ah dw false (ah cI false (ad 1) (pC (.int 3))) (pC (.int 0))))
  gi
  aQ)
  (aV (ao fQ (af false (ad 0) (af false (ah cI false (ad 1) (pC (.int 1))) (af false (ah cI false (ad 1) (pC (.int 2))) (af false (ah cI false (ad 1) (pC (.int 3))) am))))))))))
def aK:List PyData→Option Sl:=da 2 2 cr
def cu:jO:=(lL (cS (ah (dI (dB .gt)) false (ao av (af false (ad 0) (af false (ad 1) am))) (pC (.int 4000)))) (ef "TooLong"))
def aU:List PyData→Option Str:=xb 2 2 cu
def d0:o4:=(p0 (xE (cS (ah (dI (dB .gt)) false (ao av (af false (ad 0) (af false (ad 1) am))) (pC (.int 4000))))
  jK
  kJ)
  (p0 (xE (cS (ah dw false (ah cI false (ad 1) (pC (.int 0))) (pC (.str "turn"))))
  jK
  kJ)
  (p0 (xE (cS (ah dw false (ah cI false (ad 1) (pC (.int 0))) (pC (.str "change"))))
  jK
  kJ)
  (p0 (xE (cS (ah dw false (ah cI false (ad 1) (pC (.int 3))) (pC (.int 0))))
  sd
  kJ)
  jK))))
def bN:List PyData→Bool:=yw 2 2 d0
def bh:gJ:=(be 3)
def bE:cJ:=(o6 2 (lD aK 0 bN (af false (ad 2) (af false (ad 3) am))))
def jm:cJ:=(aP (dJ (ao aN (af false (ad 1) am)))
  (aP (bc 2 (ao aT (af false (ad 0) am)))
  (aP (g9 (du (ad 1)) bh
  bE)
  (aV (ad 2)))))
def bp:List PyData→Option Sl:=da 2 4 jm
def fR:jO:=(uT (cO aA (af false (ad 1) am))
  (mP (dJ (ao aN (af false (ad 1) am)))
  (mP (bc 2 (ao aT (af false (ad 0) am)))
  (qj (du (ad 1)) bh bE (cO aU (af false (ad 2) (af false (ad 3) am)))))))
def cg:List PyData→Option Str:=xb 2 4 fR
def gw:cJ:=(aP (bn (cS (ah dw false (ah cI false (ad 0) (pC (.int 0))) (pC (.str "slide"))))
  (aV (aG (aa (pC (.str "slide")) (aa (ah cI false (ad 0) (pC (.int 1))) (aa (ah cI false (ad 0) (pC (.int 2))) (aa (dH fq (ah cI false (ad 0) (pC (.int 3)))) ar))))))
  aQ)
  (aV (ad 0)))
def dF:List PyData→Option Sl:=da 1 1 gw
def fW:gJ:=(be 0)
def fX:bz:=(ao dF (af false (ad 0) am))
def fS:cJ:=(aP (dJ (ao aN (af false (ad 0) am)))
  (aV (dc [none] (oV (ad 0)) fW cA fX)))
def gW:List PyData→Option Sl:=da 1 1 fS
def dG:jO:=(cO aA (af false (ad 0) am))
def b8:List PyData→Option Str:=xb 1 1 dG
def ii:cJ:=(aP (bn (cS (ah (dI (dB .lt)) false (ad 1) (bY dt (af false (ad 0) am))))
  (aV (ah cI false (ad 0) (ad 1)))
  aQ)
  (aV (pC (.int 0))))
def a_:List PyData→Option Sl:=da 2 2 ii
def gy:cJ:=(aP (bc 1 (bi (aa (dH (gS jS) (ad 0)) (aa (dH (gS i5) (ad 0)) (aa (dH (gS jT) (ad 0)) (aa (dH (gS jU) (ad 0)) ar))))))
  (aP (bc 1 (ah bH false (ad 1) (bi (aa (dH (gS jV) (ad 0)) (aa (dH (gS jW) (ad 0)) (aa (dH (gS jX) (ad 0)) (aa (dH (gS ie) (ad 0)) ar)))))))
  (aV (ah bH false (ad 1) (bi (aa (dH (gS i6) (ad 0)) (aa (dH (gS i7) (ad 0)) ar)))))))
def eQ:List PyData→Option Sl:=da 1 2 gy
def fF:gJ:=(be 0)
def fG:bz:=(ah dw false (ad 1) (ad 0))
def fu:cJ:=(aV (cL (dH (gS gv) (ad 2)) (ah dw false (ao eQ (af false (ad 2) am)) (dc [none,some 1] (iD (af false (pC (.int 10)) am)) fF cA fG))))
def aI:Str→PyData→Option Sl:=zD 3 2 fu
def fw:cJ:=(aP (bc 1 (bi (aa (aG (aa (pC (.str "turn")) ar)) (aa (aG (aa (pC (.str "turn")) (aa (pC (.str "a")) (aa (pC (.str "b")) ar)))) (aa (aG (aa (pC (.str "turn")) (aa (pC (.str "A")) ar))) (aa (aG (aa (pC (.str "turn")) (aa (pC (.str "ab")) ar))) (aa (aG (aa (pC (.str "turn")) (aa (pC (.int 1)) ar))) (aa (aG (aa (pC (.str "change")) (aa (pC (.str "a")) ar))) ar))))))))
  (aP (bc 1 (ah bH false (ad 1) (bi (aa (aG (aa (pC (.str "change")) (aa (pC (.str "a")) (aa (pC (.str "a")) ar)))) (aa (aG (aa (pC (.str "change")) (aa (pC (.str "a")) (aa (pC (.str "b")) (aa (pC (.str "c")) ar))))) (aa (aG (aa (pC (.str "slide")) (aa (pC (.str "a")) (aa (pC (.str "b")) ar)))) (aa (aG (aa (pC (.str "slide")) (aa (pC (.str "a")) (aa (pC (.str "a")) (aa (pC (.int 1)) ar))))) ar)))))))
  (aP (bc 1 (ah bH false (ad 1) (bi (aa (aG (aa (pC (.str "slide")) (aa (pC (.str "a")) (aa (pC (.str "b")) (aa (pC (.bool true)) ar))))) (aa (aG (aa (pC (.str "slide")) (aa (pC (.str "a")) (aa (pC (.str "b")) (aa (pC .none) ar))))) (aa (aG (aa (pC (.str "slide")) (aa (pC (.str "a")) (aa (pC (.str "b")) (aa (pC (.str "1")) ar))))) ar))))))
  (aP (bc 1 (ah bH false (ad 1) (bi (aa (aG (aa (pC (.str "slide")) (aa (pC (.str "a")) (aa (pC (.str "")) (aa (pC (.int 1)) ar))))) (aa (aG (aa (pC (.str "slide")) (aa (pC (.str "a")) (aa (pC (.str "b")) (aa (pC (.int 1)) (aa (pC (.int 1)) ar)))))) (aa (bi (aa (pC (.str "turn")) (aa (pC (.str "a")) ar))) (aa (pC (.str "turn a")) (aa (pC .none) (aa (pC (.int 3)) (aa (aG ar) ar))))))))))
  (aP (bc 1 (ah bH false (ad 1) (bi (aa (aG (aa (pC (.str "a")) (aa (pC (.str "turn")) ar))) (aa (aG (aa (pC (.str "Turn")) (aa (pC (.str "a")) ar))) (aa (aG (aa (pC (.int 1)) (aa (pC (.str "a")) ar))) (aa (aG (aa (pC (.str "slide")) (aa (pC .none) (aa (pC (.str "b")) (aa (pC (.int 1)) ar))))) ar)))))))
  (aV (ah cI false (ad 1) (ah cK false (ad 0) (bY dt (af false (ad 1) am))))))))))
def aJ:List PyData→Option Sl:=da 1 2 fw
def cC:gJ:=(be 0)
def bJ:bz:=(ah cI false (ad 1) (ah cK false (ah cb false (ad 2) (ad 0)) (pC (.int 5))))
def dQ:cJ:=(aP (bc 1 (bi (aa (aG (aa (pC (.str "turn")) (aa (pC (.str "c")) ar))) (aa (aG (aa (pC (.str "change")) (aa (pC (.str "c")) (aa (pC (.str "d")) ar)))) (aa (aG (aa (pC (.str "slide")) (aa (pC (.str "c")) (aa (pC (.str "d")) (aa (pC (.int 2)) ar))))) (aa (aG (aa (pC (.str "slide")) (aa (pC (.str "c")) (aa (pC (.str "e")) (aa (pC (.int 0)) ar))))) (aa (aG (aa (pC (.str "turn")) (aa (pC (.str "z")) ar))) ar)))))))
  (aV (gj false (dc [none,some 1,some 0] (du (aG (aa (pC (.int 1)) (aa (pC (.int 5)) (aa (pC (.int 25)) ar))))) cC cA bJ) d8 (d9 (ah cK false (ah cb false (ad 0) (pC (.int 125))) (pC (.int 4)))))))
def cP:List PyData→Option Sl:=da 1 2 dQ
def bq:cJ:=(aP (bc 1 (ao cP (af false (ah cb false (ad 0) (pC (.int 25))) am)))
  (aP (bc 2 (ah cK false (ah cb false (ad 0) (pC (.int 7))) (ah bH false (bY dt (af false (ad 1) am)) (pC (.int 1)))))
  (aP (bc 3 (ah gq false (ah gq false (gj false (ad 1) d8 (d9 (ad 2))) (jL (af false (ao aJ (af false (ad 0) am)) am))) (gj false (ad 1) (d9 (ad 2)) d8)))
  (aP (bc 4 (ah bH false (bi (aa (aG (aa (pC (.str "slide")) (aa (pC (.str "a")) (aa (pC (.str "b")) (aa (pC (.int 1)) ar))))) ar)) (ad 3)))
  (aP (bc 5 (bi (aa (aG (aa (pC (.str "a")) (aa (ah gR false (pC (.int 10)) (pC (.int 30))) ar))) (aa (aG (aa (pC (.str "c")) (aa (pC (.int 1)) ar))) ar))))
  (aP (bc 6 (gh (ad 3)))
  (aP (bn (bA (bX (jR [3] 1 cg (af false (bi (aa (aG (aa (pC (.str "c")) (aa (pC (.int 1)) ar))) (aa (aG (aa (pC (.str "d")) (aa (dH fq (pC (.int 2))) ar))) ar))) (af false (ad 0) am)) ["NoMove","TooLong"] aI 4)))
  (aV (pC (.bool false)))
  aQ)
  (aP (bc 7 (ah cI false (bi (aa (pC .none) (aa (lG (ad 1)) (aa (pC (.str "")) (aa (pC (.int 0)) (aa (pC (.bool true)) (aa yX (aa (aG (aa (pC (.str "turn")) (aa (pC (.str "a")) ar))) ar)))))))) (ah cK false (ah cb false (ad 0) (pC (.int 3))) (pC (.int 7)))))
  (aP (bn (bA (bX (jR [5,7] 2 cg (af false (ad 0) (af false (ad 1) am)) ["NoMove","TooLong"] aI 4)))
  (aV (pC (.bool false)))
  aQ)
  (aP (bn (bA (bX (jR [7] 1 b8 (af false (ad 0) am) ["NoMove","TooLong"] aI 4)))
  (aV (pC (.bool false)))
  aQ)
  (aP (bn (bA (bX (jR [5,4] 2 cg (af false (ad 0) (af false (ad 1) am)) ["NoMove","TooLong"] aI 4)))
  (aV (pC (.bool false)))
  aQ)
  (aV (cL (jR [3] 1 b8 (af false (ad 0) am) ["NoMove","TooLong"] aI 4) (ah dw false (ad 3) (ad 6)))))))))))))))
def bj:List PyData→Option Sl:=da 1 8 bq
def bP:gJ:=(be 0)
def bQ:bz:=(aG (aa (ah cI false (pC (.str "cd")) (ah cK false (ad 0) (pC (.int 2)))) (aa (ah bH false (pC (.int 1)) (ad 0)) ar)))
def bB:gJ:=(be 5)
def bR:cJ:=(bn (cS (ah kA false (bY dt (af false (ao bp (af false (gh (ad 3)) (af false (bi (aa (ad 5) ar)) am))) am)) (ah bH false (pC (.int 1)) (ad 2))))
  (aV (pC (.bool false)))
  aQ)
def bF:cJ:=(aP (bc 1 (ah cI false (bi (aa (pC (.int 1999)) (aa (pC (.int 2000)) (aa (pC (.int 2001)) (aa (ah bH false (pC (.int 1990)) (ah cK false (ah cb false (ad 0) (pC (.int 3))) (pC (.int 25)))) (aa (ah bH false (ah gR false (pC (.int 10)) (pC (.int 30))) (ah cK false (ad 0) (ah gR false (pC (.int 10)) (pC (.int 9))))) ar)))))) (ah cK false (ad 0) (pC (.int 5)))))
  (aP (bn (cS (ah dw false (ah cK false (ah cb false (ad 0) (pC (.int 5))) (pC (.int 2))) (pC (.int 1))))
  (bc 1 (ah wy false (pC (.int 0)) (ad 1)))
  aQ)
  (aP (bc 2 (ah cK false (ah cb false (ad 0) (pC (.int 10))) (pC (.int 12))))
  (aP (bc 3 (ah bH false (bi (aa (aG (aa (pC (.str "a")) (aa (ad 1) ar))) ar)) (dc [none] (iD (af false (ad 2) am)) bP cA bQ)))
  (aP (bc 4 (aG (aa (pC (.str "slide")) (aa (pC (.str "a")) (aa (pC (.str "b")) (aa (ah cI false (bi (aa (pC (.int 1)) (aa (dH fq (pC (.int 1))) (aa (pC (.int 7)) (aa (ah gR false (pC (.int 10)) (pC (.int 20))) ar))))) (ah cK false (ah cb false (ad 0) (pC (.int 120))) (pC (.int 4)))) ar))))))
  (aP (g9 (du (bi (aa (aG (aa (pC (.str "slide")) (aa (pC (.str "a")) (aa (pC (.str "b")) (aa (pC (.int 0)) ar))))) (aa (aG (aa (pC (.str "turn")) (aa (pC (.str "a")) ar))) (aa (aG (aa (pC (.str "change")) (aa (pC (.str "a")) (aa (pC (.str "b")) ar)))) (aa (aG (aa (pC (.str "slide")) (aa (pC (.str "b")) (aa (pC (.str "a")) (aa (pC (.int 3)) ar))))) ar)))))) bB
  bR)
  (aP (bn (cS (ah (dI (dB .gt)) false (ah bH false (ah iz false (pC (.int 2)) (bY iB (af false (ad 1) am))) (ad 2)) (pC (.int 4000))))
  (aP (bn (bA (bX (jR [3,4] 2 cg (af false (ad 0) (af false (bi (aa (aG (aa (pC (.str "turn")) (aa (pC (.str "c")) ar))) (aa (ad 1) ar))) am)) ["NoMove","TooLong"] aI 9)))
  (aV (pC (.bool false)))
  aQ)
  (aV (jR [3,4] 2 cg (af false (ad 0) (af false (bi (aa (ad 1) (aa (aG (aa (pC (.str "turn")) (aa (pC (.str "a")) ar))) ar))) am)) ["NoMove","TooLong"] aI 9)))
  aQ)
  (aV (ah dw false (bY dt (af false (ao bp (af false (ad 3) (af false (bi (aa (ad 4) ar)) am))) am)) (ah bH false (ah iz false (pC (.int 2)) (bY iB (af false (ad 1) am))) (ad 2)))))))))))
def aF:List PyData→Option Sl:=da 1 6 bF
def gz:gJ:=(be 1)
def gA:cJ:=(bn (bA (bX (ao bj (af false (ad 1) am))))
  (aV (pC (.bool false)))
  aQ)
def kN:cJ:=(aP (g9 (du (ah bH false (gj false (ad 0) d8 (d9 (pC (.int 16)))) (bi (aa (ah bH false (ao a_ (af false (ad 0) (af false (pC (.int 0)) am))) (pC (.int 3))) ar)))) gz
  gA)
  (aV (cL (ao aF (af false (ao a_ (af false (ad 0) (af false (pC (.int 0)) am))) am)) (ao aF (af false (ah bH false (ao a_ (af false (ad 0) (af false (pC (.int 1)) am))) (pC (.int 2))) am)))))
def iI:List PyData→Option Sl:=da 1 2 kN
end Nhk74
namespace Nhk74
open PySem L2 Nh PL
def jn (i:Nat):Stmt:=PySem.Challenge.pw_nailhang_k74_no_moves.main.body.getD i (.Pass ⟨0,0,0,0⟩)
structure XF (K:PySem.W.Frag) (mg:Str→Option Value):Prop where
  c_NoCord:∃C,mg "NoCord"=some (.ref C)∧XT K (.ref C) jS
  c_NoNails:∃C,mg "NoNails"=some (.ref C)∧XT K (.ref C) i5
  c_NoRule:∃C,mg "NoRule"=some (.ref C)∧XT K (.ref C) jT
  c_NoText:∃C,mg "NoText"=some (.ref C)∧XT K (.ref C) jU
  c_NoMove:∃C,mg "NoMove"=some (.ref C)∧XT K (.ref C) jV∧XC K mg "NoMove" C
  c_NoLine:∃C,mg "NoLine"=some (.ref C)∧XT K (.ref C) jW
  c_NoName:∃C,mg "NoName"=some (.ref C)∧XT K (.ref C) jX
  c_NoNumber:∃C,mg "NoNumber"=some (.ref C)∧XT K (.ref C) ie
  c_TooMany:∃C,mg "TooMany"=some (.ref C)∧XT K (.ref C) i6
  c_TooLong:∃C,mg "TooLong"=some (.ref C)∧XT K (.ref C) i7∧XC K mg "TooLong" C
  v_ValueError:mg "ValueError"=none∧XT K (.type "ValueError") gv
  e_HangError:∃C,mg "HangError"=some (.ref C)∧∀n∈[("NoMove":Str),("TooLong":Str)],∀D,PySem.W.nsIn K mainGlobals n=some (some (.ref D))→PySem.W.exmOne K (.ref D) (.ref C)=some true
section
variable {P:Program} {w:World} {K:PySem.W.Frag} {mg:Str→Option Value} {base:Heap}
abbrev eS:Stmt:=jn 14
theorem n6:FnScope ["thing"] ["thing"] (ag eS):=⟨rfl,rfl,rfl,by decide+kernel,rfl,by decide+kernel,by decide+kernel⟩
theorem n8 (D:Def K mg "is_nail" eS ["thing"]) (B:Bn mg):Own P w K mg base 1 "is_nail" ["thing"] (cV K cq):=by
  delta cq
  refine f_ (g:=gN) D n6 rfl rfl (by decide) fun f cdv A outer s H E hr=>?_
  delta gN
  exact (aq (aO (eG (g8 .str (by rfl) (by exact B.isinstance) (ae 0) (by rfl) (by exact B.str) PyProof.Rows.boot_str) (eG (iY hr.units (eV (by rfl) (by exact B.len) (ai (ae 0) au)) aj) (fL (yr .le .le ak (ae 0) ak))))))
abbrev dR:Stmt:=jn 15
theorem mX:FnScope ["thing"] ["thing"] (ag dR):=⟨rfl,rfl,rfl,by decide+kernel,rfl,by decide+kernel,by decide+kernel⟩
theorem mY (D:Def K mg "is_whole" dR ["thing"]) (B:Bn mg):Own P w K mg base 1 "is_whole" ["thing"] (cV K de):=by
  delta de
  refine f_ (g:=fO) D mX rfl rfl (by decide) fun f cdv A outer s H E hr=>?_
  delta fO
  exact (aq (aO (eG (g8 .int (by rfl) (by exact B.isinstance) (ae 0) (by rfl) (by exact B.int) PyProof.Rows.boot_int) (fL (wA (g8 .bool (by rfl) (by exact B.isinstance) (ae 0) (by rfl) (by exact B.bool) PyProof.Rows.boot_bool))))))
abbrev cQ:Stmt:=jn 16
theorem sc_short_form:FnScope ["cord","runs","nail","turns","total"] ["cord"] (ag cQ):=⟨rfl,rfl,rfl,by decide+kernel,rfl,by decide+kernel,by decide+kernel⟩
theorem ki (D:Def K mg "short_form" cQ ["cord"]) (B:Bn mg):Own P w K mg base 1 "short_form" ["cord"] (cV K aT):=by
  delta aT
  refine f_ (g:=eO) D sc_short_form rfl rfl (by decide) fun f cdv A outer s H E hr=>?_
  delta eO
  exact (ap (bC 1 sc_short_form.nd (bK DL.nil))
  (ap (iE PassesOwn.never (by rfl) (eI (ae 0)) (by delta aR;exact (iC (by rfl) (cz (bv 2 sc_short_form.nd) (cz (bv 3 sc_short_form.nd) gK))))
  (by delta aS;exact (ap (bC 4 sc_short_form.nd (ae 3))
  (ap (cf (wC (wB (dz (ae 1)) (uz (d7 hr.units (bu (bu (ae 1) (iA aj)) aj) (ae 2)))))
  (aq (bC 4 sc_short_form.nd (ck (bu (wP 1) aj) (ae 3))))
  aZ)
  (aq (cf (rB hr.units (ae 4) aj)
  (aq (gI (kD 1 (aB (DL.cons (ae 2) rfl (DL.cons (ae 4) rfl DL.nil))))))
  aZ))))))
  (aq (aO (ae 1)))))
abbrev dS:Stmt:=jn 17
theorem mZ:FnScope ["cord"] ["cord"] (ag dS):=⟨rfl,rfl,rfl,by decide+kernel,rfl,by decide+kernel,by decide+kernel⟩
theorem m4 (D:Def K mg "contrary" dS ["cord"]) (B:Bn mg):Own P w K mg base 1 "contrary" ["cord"] (cV K df):=by
  delta df
  refine f_ (g:=fP) D mZ rfl rfl (by decide) fun f cdv A outer s H E hr=>?_
  delta fP
  exact (aq (aO (eX (N:=["nail","turns"]) (js:=[none,none]) g5 (by rfl) (rR (by rfl) (by exact B.reversed) (ae 0)) (fun _ _ _ _=>(by delta dY;exact (iC (by rfl) (cz (bv 0 (show (["nail","turns"]:List Str).Nodup by decide+kernel)) (cz (bv 1 (show (["nail","turns"]:List Str).Nodup by decide+kernel)) gK))))) (fun _ _ _ _=>(by delta cW;exact (aB (DL.cons (ae 0) rfl (DL.cons (iA (ae 1)) rfl DL.nil))))))))
abbrev dU:Stmt:=jn 18
theorem m5:FnScope ["cord","times"] ["cord","times"] (ag dU):=⟨rfl,rfl,rfl,by decide+kernel,rfl,by decide+kernel,by decide+kernel⟩
theorem m6 (D:Def K mg "repeated" dU ["cord","times"]) (B:Bn mg) (D_contrary:Own P w K mg base 1 "contrary" ["cord"] (cV K df)):Own P w K mg base 2 "repeated" ["cord","times"] (cV K cj):=by
  delta cj
  refine f_ (g:=e8) D m5 rfl rfl (by decide) fun f cdv A outer s H E hr=>?_
  delta e8
  exact (aq (aO (lq (rF (kI .lt (ae 1) aj) (aX D_contrary (hr.mono (by decide)) (by rfl) (ai (ae 0) au)) (ae 0)) (lv (by rfl) (by exact B.abs) (ai (ae 1) au)))))
abbrev bS:Stmt:=jn 20
theorem iJ:FnScope ["one","other"] ["one","other"] (ag bS):=⟨rfl,rfl,rfl,by decide+kernel,rfl,by decide+kernel,by decide+kernel⟩
theorem iK (D:Def K mg "are_two_nails" bS ["one","other"]) (B:Bn mg) (D_is_nail:Own P w K mg base 1 "is_nail" ["thing"] (cV K cq)):Own P w K mg base 2 "are_two_nails" ["one","other"] (cV K bD):=by
  delta bD
  refine f_ (g:=cZ) D iJ rfl rfl (by decide) fun f cdv A outer s H E hr=>?_
  delta cZ
  exact (aq (aO (eG (aX D_is_nail (hr.mono (by decide)) (by rfl) (ai (ae 0) au)) (eG (aX D_is_nail (hr.mono (by decide)) (by rfl) (ai (ae 1) au)) (fL (yk hr.units (ae 0) (ae 1)))))))
abbrev eT:Stmt:=jn 21
theorem n_:FnScope ["thing"] ["thing"] (ag eT):=⟨rfl,rfl,rfl,by decide+kernel,rfl,by decide+kernel,by decide+kernel⟩
theorem oa (D:Def K mg "is_move" eT ["thing"]) (B:Bn mg) (D_is_nail:Own P w K mg base 1 "is_nail" ["thing"] (cV K cq)) (D_are_two_nails:Own P w K mg base 2 "are_two_nails" ["one","other"] (cV K bD)) (D_is_whole:Own P w K mg base 1 "is_whole" ["thing"] (cV K de)):Own P w K mg base 3 "is_move" ["thing"] (cV K aE):=by
  delta aE
  refine f_ (g:=eR) D n_ rfl rfl (by decide) fun f cdv A outer s H E hr=>?_
  delta eR
  exact (ap (cf (wC (vH (dM (dz (g8 .tuple (by rfl) (by exact B.isinstance) (ae 0) (by rfl) (by exact B.tuple) PyProof.Rows.boot_tuple))) (rE (d7 hr.units (eV (by rfl) (by exact B.len) (ai (ae 0) au)) aj))))
  (aq (aO gc))
  aZ)
  (ap (cf (d7 hr.units (bu (ae 0) aj) ak)
  (aq (aO (eG (iY hr.units (eV (by rfl) (by exact B.len) (ai (ae 0) au)) aj) (fL (aX D_is_nail (hr.mono (by decide)) (by rfl) (ai (bu (ae 0) aj) au))))))
  aZ)
  (ap (cf (d7 hr.units (bu (ae 0) aj) ak)
  (aq (aO (eG (iY hr.units (eV (by rfl) (by exact B.len) (ai (ae 0) au)) aj) (fL (aX D_are_two_nails (hr.mono (by decide)) (by rfl) (ai (bu (ae 0) aj) (ai (bu (ae 0) aj) au)))))))
  aZ)
  (ap (cf (d7 hr.units (bu (ae 0) aj) ak)
  (aq (aO (eG (iY hr.units (eV (by rfl) (by exact B.len) (ai (ae 0) au)) aj) (eG (aX D_are_two_nails (hr.mono (by decide)) (by rfl) (ai (bu (ae 0) aj) (ai (bu (ae 0) aj) au))) (fL (aX D_is_whole (hr.mono (by decide)) (by rfl) (ai (bu (ae 0) aj) au)))))))
  aZ)
  (aq (aO gc))))))
abbrev b9:Stmt:=jn 22
theorem sc_check_moves:FnScope ["moves","move"] ["moves"] (ag b9):=⟨rfl,rfl,rfl,by decide+kernel,rfl,by decide+kernel,by decide+kernel⟩
theorem jY (D:Def K mg "check_moves" b9 ["moves"]) (B:Bn mg) (D_is_move:Own P w K mg base 3 "is_move" ["thing"] (cV K aE)) (XX:XF K mg):Own P w K mg base 4 "check_moves" ["moves"] (cV K aN):=by
  obtain ⟨C_NoMove,m_NoMove,t_NoMove,z_NoMove⟩:=XX.c_NoMove
  delta aN
  refine f_ (g:=dZ) D sc_check_moves rfl rfl (by decide) fun f cdv A outer s H E hr=>?_
  delta dZ
  exact (ap (cf (dM (dz (g8 .list (by rfl) (by exact B.isinstance) (ae 0) (by rfl) (by exact B.list) PyProof.Rows.boot_list)))
  (aq fE)
  aZ)
  (aq (iE PassesOwn.never (by rfl) (eI (ae 0)) (by delta aH;exact (bv 1 sc_check_moves.nd))
  (by delta aC;exact (aq (cf (dM (dz (aX D_is_move (hr.mono (by decide)) (by rfl) (ai (ae 1) au))))
  (aq fE)
  aZ))))))
theorem jd (D:Def K mg "check_moves" b9 ["moves"]) (B:Bn mg) (D_is_move:Own P w K mg base 3 "is_move" ["thing"] (cV K aE)) (XX:XF K mg):OwnR P w K mg base 4 "check_moves" ["moves"] (lM K aA):=by
  obtain ⟨C_NoMove,m_NoMove,t_NoMove,z_NoMove⟩:=XX.c_NoMove
  delta aA
  refine uU (mk:=true) (al:=true) (r:=bI) D sc_check_moves rfl rfl (by decide) fun f cdv A outer s H E hr=>?_
  delta bI
  exact (vP (dC (sG (dM (dz (g8 .list (by rfl) (by exact B.isinstance) (ae 0) (by rfl) (by exact B.list) PyProof.Rows.boot_list))) (dC (jP (by rfl) (by rfl) z_NoMove))))
  (nX (cf (dM (dz (g8 .list (by rfl) (by exact B.isinstance) (ae 0) (by rfl) (by exact B.list) PyProof.Rows.boot_list)))
  (aq fE)
  aZ)
  (dC (sT rfl rfl (by rfl) (fun W=>(eI (ae 0))) (fun W=>by delta aH;exact (bv 1 sc_check_moves.nd)) (by delta aC;exact (aq (cf (dM (dz (aX D_is_move (hr.mono (by decide)) (by rfl) (ai (ae 1) au))))
  (aq fE)
  aZ))) (fun W=>(dC (sG (dM (dz (aX D_is_move (hr.mono (by decide)) (by rfl) (ai (ae 1) au)))) (dC (jP (by rfl) (by rfl) z_NoMove)))))))))
abbrev bT:Stmt:=jn 23
theorem iL:FnScope ["runs","move"] ["runs","move"] (ag bT):=⟨rfl,rfl,rfl,by decide+kernel,rfl,by decide+kernel,by decide+kernel⟩
theorem iM (D:Def K mg "pieces_beside" bT ["runs","move"]) (B:Bn mg):Own P w K mg base 1 "pieces_beside" ["runs","move"] (cV K av):=by
  delta av
  refine f_ (g:=bL) D iL rfl rfl (by decide) fun f cdv A outer s H E hr=>?_
  delta bL
  exact (ap (cf (wC (vH (rB hr.units (bu (ae 1) aj) ak) (rE (d7 hr.units (bu (ae 1) aj) aj))))
  (aq (aO (eV (by rfl) (by exact B.len) (ai (ae 0) au))))
  aZ)
  (aq (aO (wY (by rfl) (by rfl) (by exact B.sum) (ai (eX (N:=["nail","turns","move"]) (js:=[none,none,some 1]) gn (by rfl) (eI (ae 0)) (fun _ _ _ _=>(by delta bO;exact (iC (by rfl) (cz (bv 0 (show (["nail","turns","move"]:List Str).Nodup by decide+kernel)) (cz (bv 1 (show (["nail","turns","move"]:List Str).Nodup by decide+kernel)) gK))))) (fun _ _ _ _=>(by delta bg;exact (rF (d7 hr.units (ae 0) (bu (ae 2) aj)) (lq aj (lv (by rfl) (by exact B.abs) (ai (ae 1) au))) aj)))) au)))))
abbrev fH:Stmt:=jn 24
theorem qo:FnScope ["runs","turning"] ["runs","turning"] (ag fH):=⟨rfl,rfl,rfl,by decide+kernel,rfl,by decide+kernel,by decide+kernel⟩
theorem qp (D:Def K mg "turned" fH ["runs","turning"]) (B:Bn mg):Own P w K mg base 1 "turned" ["runs","turning"] (cV K dP):=by
  delta dP
  refine f_ (g:=ig) D qo rfl rfl (by decide) fun f cdv A outer s H E hr=>?_
  delta ig
  exact (aq (aO (eX (N:=["nail","turns","turning"]) (js:=[none,none,some 1]) gn (by rfl) (eI (ae 0)) (fun _ _ _ _=>(by delta fi;exact (iC (by rfl) (cz (bv 0 (show (["nail","turns","turning"]:List Str).Nodup by decide+kernel)) (cz (bv 1 (show (["nail","turns","turning"]:List Str).Nodup by decide+kernel)) gK))))) (fun _ _ _ _=>(by delta dg;exact (aB (DL.cons (ae 0) rfl (DL.cons (rF (d7 hr.units (ae 0) (ae 2)) (iA (ae 1)) (ae 1)) rfl DL.nil))))))))
abbrev eU:Stmt:=jn 25
theorem sc_changed:FnScope ["runs","one","other","names"] ["runs","one","other"] (ag eU):=⟨rfl,rfl,rfl,by decide+kernel,rfl,by decide+kernel,by decide+kernel⟩
theorem og (D:Def K mg "changed" eU ["runs","one","other"]) (B:Bn mg):Own P w K mg base 1 "changed" ["runs","one","other"] (cV K c_):=by
  delta c_
  refine f_ (g:=gO) D sc_changed rfl rfl (by decide) fun f cdv A outer s H E hr=>?_
  delta gO
  exact (ap (bC 3 sc_changed.nd (uH (oY (ae 1) (ae 2) (oY (ae 2) (ae 1) wT))))
  (aq (aO (eX (N:=["nail","turns","names"]) (js:=[none,none,some 3]) gn (by rfl) (eI (ae 0)) (fun _ _ _ _=>(by delta eP;exact (iC (by rfl) (cz (bv 0 (show (["nail","turns","names"]:List Str).Nodup by decide+kernel)) (cz (bv 1 (show (["nail","turns","names"]:List Str).Nodup by decide+kernel)) gK))))) (fun _ _ _ _=>(by delta dE;exact (aB (DL.cons (uI hr.units (ae 2) (ae 0) (ae 0)) rfl (DL.cons (ae 1) rfl DL.nil)))))))))
abbrev iN:Stmt:=jn 26
theorem sc_slid:FnScope ["runs","sliding","other","times","cord","nail","turns"] ["runs","sliding","other","times"] (ag iN):=⟨rfl,rfl,rfl,by decide+kernel,rfl,by decide+kernel,by decide+kernel⟩
theorem u8 (D:Def K mg "slid" iN ["runs","sliding","other","times"]) (B:Bn mg) (D_repeated:Own P w K mg base 2 "repeated" ["cord","times"] (cV K cj)) (D_short_form:Own P w K mg base 1 "short_form" ["cord"] (cV K aT)):Own P w K mg base 3 "slid" ["runs","sliding","other","times"] (cV K fQ):=by
  delta fQ
  refine f_ (g:=lP) D sc_slid rfl rfl (by decide) fun f cdv A outer s H E hr=>?_
  delta lP
  exact (ap (bC 4 sc_slid.nd (bK DL.nil))
  (ap (iE PassesOwn.never (by rfl) (eI (ae 0)) (by delta dh;exact (iC (by rfl) (cz (bv 5 sc_slid.nd) (cz (bv 6 sc_slid.nd) gK))))
  (by delta di;exact (aq (cf (d7 hr.units (ae 5) (ae 1))
  (aq (gI (pZ 4 (aX D_repeated (hr.mono (by decide)) (by rfl) (ai (bK (DL.cons (aB (DL.cons (ae 5) rfl (DL.cons aj rfl DL.nil))) rfl (DL.cons (aB (DL.cons (ae 2) rfl (DL.cons (ae 3) rfl DL.nil))) rfl DL.nil))) (ai (ae 6) au))))))
  (aq (gI (kD 4 (aB (DL.cons (ae 5) rfl (DL.cons (ae 6) rfl DL.nil))))))))))
  (aq (aO (aX D_short_form (hr.mono (by decide)) (by rfl) (ai (ae 4) au))))))
abbrev cw:Stmt:=jn 27
theorem gX:FnScope ["runs","move"] ["runs","move"] (ag cw):=⟨rfl,rfl,rfl,by decide+kernel,rfl,by decide+kernel,by decide+kernel⟩
theorem kj (D:Def K mg "moved_once" cw ["runs","move"]) (B:Bn mg) {t_LONGEST:Tok} (G_LONGEST:mg "LONGEST"=some (.int 4000 t_LONGEST)) (D_pieces_beside:Own P w K mg base 1 "pieces_beside" ["runs","move"] (cV K av)) (D_turned:Own P w K mg base 1 "turned" ["runs","turning"] (cV K dP)) (D_changed:Own P w K mg base 1 "changed" ["runs","one","other"] (cV K c_)) (D_slid:Own P w K mg base 3 "slid" ["runs","sliding","other","times"] (cV K fQ)) (XX:XF K mg):Own P w K mg base 4 "moved_once" ["runs","move"] (yx K aK 0 bN):=by
  obtain ⟨C_TooLong,m_TooLong,t_TooLong,z_TooLong⟩:=XX.c_TooLong
  delta aK bN
  refine zA (g:=cr) (ga:=d0) D gX rfl rfl (by decide) (by decide) (fun f cdv A outer s H E hr=>?_) (fun f cdv A outer s H E hr=>?_)
  · delta cr
    exact (ap (cf (kI .gt (aX D_pieces_beside (hr.mono (by decide)) (by rfl) (ai (ae 0) (ai (ae 1) au))) (lH (by rfl) (by exact G_LONGEST)))
  (aq fE)
  aZ)
  (ap (cf (d7 hr.units (bu (ae 1) aj) ak)
  (aq (aO (aX D_turned (hr.mono (by decide)) (by rfl) (ai (ae 0) (ai (bu (ae 1) aj) au)))))
  aZ)
  (ap (cf (d7 hr.units (bu (ae 1) aj) ak)
  (aq (aO (aX D_changed (hr.mono (by decide)) (by rfl) (ai (ae 0) (ai (bu (ae 1) aj) (ai (bu (ae 1) aj) au))))))
  aZ)
  (ap (cf (d7 hr.units (bu (ae 1) aj) aj)
  (aq fE)
  aZ)
  (aq (aO (aX D_slid (hr.mono (by decide)) (by rfl) (ai (ae 0) (ai (bu (ae 1) aj) (ai (bu (ae 1) aj) (ai (bu (ae 1) aj) au)))))))))))
  · delta d0
    exact (ia (lC (kI .gt (aX D_pieces_beside (hr.mono (by decide)) (by rfl) (ai (ae 0) (ai (ae 1) au))) (lH (by rfl) (by exact G_LONGEST)))
  (h9 gL)
  jk)
  (ia (lC (d7 hr.units (bu (ae 1) aj) ak)
  (h9 gL)
  jk)
  (ia (lC (d7 hr.units (bu (ae 1) aj) ak)
  (h9 gL)
  jk)
  (ia (lC (d7 hr.units (bu (ae 1) aj) aj)
  (h9 se)
  jk)
  (h9 gL)))))
theorem jZ (D:Def K mg "moved_once" cw ["runs","move"]) (B:Bn mg) {t_LONGEST:Tok} (G_LONGEST:mg "LONGEST"=some (.int 4000 t_LONGEST)) (D_pieces_beside:Own P w K mg base 1 "pieces_beside" ["runs","move"] (cV K av)) (D_turned:Own P w K mg base 1 "turned" ["runs","turning"] (cV K dP)) (D_changed:Own P w K mg base 1 "changed" ["runs","one","other"] (cV K c_)) (D_slid:Own P w K mg base 3 "slid" ["runs","sliding","other","times"] (cV K fQ)) (XX:XF K mg):OwnR P w K mg base 4 "moved_once" ["runs","move"] (lM K aU):=by
  obtain ⟨C_TooLong,m_TooLong,t_TooLong,z_TooLong⟩:=XX.c_TooLong
  delta aU
  refine uU (mk:=true) (al:=true) (r:=cu) D gX rfl rfl (by decide) fun f cdv A outer s H E hr=>?_
  delta cu
  exact (dC (sG (kI .gt (aX D_pieces_beside (hr.mono (by decide)) (by rfl) (ai (ae 0) (ai (ae 1) au))) (lH (by rfl) (by exact G_LONGEST))) (dC (jP (by rfl) (by rfl) z_TooLong))))
abbrev fT:Stmt:=jn 28
theorem sc_moved:FnScope ["cord","moves","runs","move"] ["cord","moves"] (ag fT):=⟨rfl,rfl,rfl,by decide+kernel,rfl,by decide+kernel,by decide+kernel⟩
theorem sX (D:Def K mg "moved" fT ["cord","moves"]) (B:Bn mg) (D_check_moves:Own P w K mg base 4 "check_moves" ["moves"] (cV K aN)) (D_short_form:Own P w K mg base 1 "short_form" ["cord"] (cV K aT)) (D_moved_once:Own P w K mg base 4 "moved_once" ["runs","move"] (yx K aK 0 bN)) (R_check_moves:OwnR P w K mg base 4 "check_moves" ["moves"] (lM K aA)) (R_moved_once:OwnR P w K mg base 4 "moved_once" ["runs","move"] (lM K aU)):Own P w K mg base 5 "moved" ["cord","moves"] (cV K bp):=by
  delta bp
  refine f_ (g:=jm) D sc_moved rfl rfl (by decide) fun f cdv A outer s H E hr=>?_
  delta jm
  exact (ap (gI (aX D_check_moves (hr.mono (by decide)) (by rfl) (ai (ae 1) au)))
  (ap (bC 2 sc_moved.nd (aX D_short_form (hr.mono (by decide)) (by rfl) (ai (ae 0) au)))
  (ap (iE PassesOwn.never (by rfl) (eI (ae 1)) (by delta bh;exact (bv 3 sc_moved.nd))
  (by delta bE;exact (aq (o7 2 sc_moved.nd (o5 D_moved_once (hr.mono (by decide)) (by rfl) (ai (ae 2) (ai (ae 3) au)))))))
  (aq (aO (ae 2))))))
theorem qr (D:Def K mg "moved" fT ["cord","moves"]) (B:Bn mg) (D_check_moves:Own P w K mg base 4 "check_moves" ["moves"] (cV K aN)) (D_short_form:Own P w K mg base 1 "short_form" ["cord"] (cV K aT)) (D_moved_once:Own P w K mg base 4 "moved_once" ["runs","move"] (yx K aK 0 bN)) (R_check_moves:OwnR P w K mg base 4 "check_moves" ["moves"] (lM K aA)) (R_moved_once:OwnR P w K mg base 4 "moved_once" ["runs","move"] (lM K aU)):OwnR P w K mg base 5 "moved" ["cord","moves"] (lM K cg):=by
  delta cg
  refine uU (mk:=true) (al:=true) (r:=fR) D sc_moved rfl rfl (by decide) fun f cdv A outer s H E hr=>?_
  delta fR
  exact (vP (dC (pc R_check_moves (hr.mono (by decide)) (by rfl) (ai (ae 1) au)))
  (nX (gI (aX D_check_moves (hr.mono (by decide)) (by rfl) (ai (ae 1) au)))
  (nX (bC 2 sc_moved.nd (aX D_short_form (hr.mono (by decide)) (by rfl) (ai (ae 0) au)))
  (dC (sT rfl rfl (by rfl) (fun W=>(eI (ae 1))) (fun W=>by delta bh;exact (bv 3 sc_moved.nd)) (by delta bE;exact (aq (o7 2 sc_moved.nd (o5 D_moved_once (hr.mono (by decide)) (by rfl) (ai (ae 2) (ai (ae 3) au)))))) (fun W=>(dC (xa R_moved_once (hr.mono (by decide)) (by rfl) (ai (ae 2) (ai (ae 3) au))))))))))
abbrev dk:Stmt:=jn 29
theorem lQ:FnScope ["move"] ["move"] (ag dk):=⟨rfl,rfl,rfl,by decide+kernel,rfl,by decide+kernel,by decide+kernel⟩
theorem lR (D:Def K mg "back_move" dk ["move"]) (B:Bn mg):Own P w K mg base 1 "back_move" ["move"] (cV K dF):=by
  delta dF
  refine f_ (g:=gw) D lQ rfl rfl (by decide) fun f cdv A outer s H E hr=>?_
  delta gw
  exact (ap (cf (d7 hr.units (bu (ae 0) aj) ak)
  (aq (aO (aB (DL.cons ak rfl (DL.cons (bu (ae 0) aj) rfl (DL.cons (bu (ae 0) aj) rfl (DL.cons (iA (bu (ae 0) aj)) rfl DL.nil)))))))
  aZ)
  (aq (aO (ae 0))))
abbrev cy:Stmt:=jn 30
theorem gY:FnScope ["moves"] ["moves"] (ag cy):=⟨rfl,rfl,rfl,by decide+kernel,rfl,by decide+kernel,by decide+kernel⟩
theorem kl (D:Def K mg "back_moves" cy ["moves"]) (B:Bn mg) (D_check_moves:Own P w K mg base 4 "check_moves" ["moves"] (cV K aN)) (D_back_move:Own P w K mg base 1 "back_move" ["move"] (cV K dF)) (R_check_moves:OwnR P w K mg base 4 "check_moves" ["moves"] (lM K aA)):Own P w K mg base 5 "back_moves" ["moves"] (cV K gW):=by
  delta gW
  refine f_ (g:=fS) D gY rfl rfl (by decide) fun f cdv A outer s H E hr=>?_
  delta fS
  exact (ap (gI (aX D_check_moves (hr.mono (by decide)) (by rfl) (ai (ae 0) au)))
  (aq (aO (eX (N:=["move"]) (js:=[none]) g5 (by rfl) (rR (by rfl) (by exact B.reversed) (ae 0)) (fun _ _ _ _=>(by delta fW;exact (bv 0 (show (["move"]:List Str).Nodup by decide+kernel)))) (fun _ _ _ _=>(by delta fX;exact (aX D_back_move (hr.mono (by decide)) (by rfl) (ai (ae 0) au))))))))
theorem j0 (D:Def K mg "back_moves" cy ["moves"]) (B:Bn mg) (D_check_moves:Own P w K mg base 4 "check_moves" ["moves"] (cV K aN)) (D_back_move:Own P w K mg base 1 "back_move" ["move"] (cV K dF)) (R_check_moves:OwnR P w K mg base 4 "check_moves" ["moves"] (lM K aA)):OwnR P w K mg base 5 "back_moves" ["moves"] (lM K b8):=by
  delta b8
  refine uU (mk:=true) (al:=true) (r:=dG) D gY rfl rfl (by decide) fun f cdv A outer s H E hr=>?_
  delta dG
  exact (dC (pc R_check_moves (hr.mono (by decide)) (by rfl) (ai (ae 0) au)))
abbrev fI:Stmt:=jn 32
theorem qu:FnScope ["_law_script","_law_k"] ["_law_script","_law_k"] (ag fI):=⟨rfl,rfl,rfl,by decide+kernel,rfl,by decide+kernel,by decide+kernel⟩
theorem qv (D:Def K mg "_law_at" fI ["_law_script","_law_k"]) (B:Bn mg):Own P w K mg base 1 "_law_at" ["_law_script","_law_k"] (cV K a_):=by
  delta a_
  refine f_ (g:=ii) D qu rfl rfl (by decide) fun f cdv A outer s H E hr=>?_
  delta ii
  exact (ap (cf (kI .lt (ae 1) (eV (by rfl) (by exact B.len) (ai (ae 0) au)))
  (aq (aO (bu (ae 0) (ae 1))))
  aZ)
  (aq (aO aj)))
abbrev dq:Stmt:=jn 34
theorem sc_law_kinds:FnScope ["_law_e","_law_some"] ["_law_e"] (ag dq):=⟨rfl,rfl,rfl,by decide+kernel,rfl,by decide+kernel,by decide+kernel⟩
theorem lS (D:Def K mg "_law_kinds" dq ["_law_e"]) (B:Bn mg) (XX:XF K mg):OwnH P w K mg base 1 "_law_kinds" ["_law_e"] (cV K eQ):=by
  obtain ⟨C_NoCord,m_NoCord,t_NoCord⟩:=XX.c_NoCord
  obtain ⟨C_NoNails,m_NoNails,t_NoNails⟩:=XX.c_NoNails
  obtain ⟨C_NoRule,m_NoRule,t_NoRule⟩:=XX.c_NoRule
  obtain ⟨C_NoText,m_NoText,t_NoText⟩:=XX.c_NoText
  obtain ⟨C_NoMove,m_NoMove,t_NoMove,z_NoMove⟩:=XX.c_NoMove
  obtain ⟨C_NoLine,m_NoLine,t_NoLine⟩:=XX.c_NoLine
  obtain ⟨C_NoName,m_NoName,t_NoName⟩:=XX.c_NoName
  obtain ⟨C_NoNumber,m_NoNumber,t_NoNumber⟩:=XX.c_NoNumber
  obtain ⟨C_TooMany,m_TooMany,t_TooMany⟩:=XX.c_TooMany
  obtain ⟨C_TooLong,m_TooLong,t_TooLong,z_TooLong⟩:=XX.c_TooLong
  delta eQ
  refine zC (g:=gy) D sc_law_kinds rfl rfl (by decide) fun f cdv A outer s H E hr=>?_
  refine BodyOk.of ?_
  refine gM [0] (DL.cons (dX (by rfl) (by exact B.isinstance) (ae 0) (by rfl) (by exact m_NoCord) t_NoCord) rfl (DL.cons (dX (by rfl) (by exact B.isinstance) (ae 0) (by rfl) (by exact m_NoNails) t_NoNails) rfl (DL.cons (dX (by rfl) (by exact B.isinstance) (ae 0) (by rfl) (by exact m_NoRule) t_NoRule) rfl (DL.cons (dX (by rfl) (by exact B.isinstance) (ae 0) (by rfl) (by exact m_NoText) t_NoText) rfl DL.nil)))) fun e0 hd0=>?_
  refine gM [1,1] (DL.cons (dX (by rfl) (by exact B.isinstance) (ae 0) (by rfl) (by exact m_NoMove) t_NoMove) rfl (DL.cons (dX (by rfl) (by exact B.isinstance) (ae 0) (by rfl) (by exact m_NoLine) t_NoLine) rfl (DL.cons (dX (by rfl) (by exact B.isinstance) (ae 0) (by rfl) (by exact m_NoName) t_NoName) rfl (DL.cons (dX (by rfl) (by exact B.isinstance) (ae 0) (by rfl) (by exact m_NoNumber) t_NoNumber) rfl DL.nil)))) fun e1 hd1=>?_
  refine gM [2,1] (DL.cons (dX (by rfl) (by exact B.isinstance) (ae 0) (by rfl) (by exact m_TooMany) t_TooMany) rfl (DL.cons (dX (by rfl) (by exact B.isinstance) (ae 0) (by rfl) (by exact m_TooLong) t_TooLong) rfl DL.nil)) fun e2 j7=>?_
  refine ⟨?_⟩
  delta gy
  exact (ap (bC 1 sc_law_kinds.nd (bK hd0))
  (ap (bC 1 sc_law_kinds.nd (ck (ae 1) (bK hd1)))
  (aq (aO (ck (ae 1) (bK j7))))))
abbrev cD:Stmt:=jn 35
theorem j1:FnScope ["_law_deed","_law_due","_law_e"] ["_law_deed","_law_due"] (ag cD):=⟨rfl,rfl,rfl,by decide+kernel,rfl,by decide+kernel,by decide+kernel⟩
theorem j2 (D:Def K mg "_law_refused" cD ["_law_deed","_law_due"]) (B:Bn mg) (D_law_kinds:OwnH P w K mg base 1 "_law_kinds" ["_law_e"] (cV K eQ)) (XX:XF K mg):OwnF P w K mg base 6 "_law_refused" ["NoMove","TooLong"] aI:=by
  obtain ⟨C_HangError,m_HangError,e_HangError⟩:=XX.e_HangError
  obtain ⟨v_ValueError,t_ValueError⟩:=XX.v_ValueError
  delta aI
  refine zE (hs:=fu) D j1 rfl rfl (by exact m_HangError) e_HangError fun f cdv A outer s H hr ea oe C hx=>?_
  delta fu
  exact (aq (aO (eG (uW (by rfl) (by exact B.isinstance) (ae 2) (by rfl) (by exact v_ValueError) PyProof.Rows.Boot.«ValueError» t_ValueError) (fL (iY (Room.mark hr _).units (uX D_law_kinds ((Room.mark hr _).mono (by decide)) (by rfl) (ai (ae 2) au)) (qh (N:=["_law_k","_law_due"]) (js:=[none,some 1]) gn (u4 hx) (n0 (by rfl) (by exact B.range) (ai aj au)) (fun _ _ _ _=>(by delta fF;exact (bv 0 (show (["_law_k","_law_due"]:List Str).Nodup by decide+kernel)))) (fun _ _ _ _=>(by delta fG;exact (iY (Room.mark hr _).units (ae 1) (ae 0))))))))))
abbrev cE:Stmt:=jn 36
theorem sc_law_no_move:FnScope ["_law_cell","_law_some"] ["_law_cell"] (ag cE):=⟨rfl,rfl,rfl,by decide+kernel,rfl,by decide+kernel,by decide+kernel⟩
theorem j3 (D:Def K mg "_law_no_move" cE ["_law_cell"]) (B:Bn mg):Own P w K mg base 1 "_law_no_move" ["_law_cell"] (cV K aJ):=by
  delta aJ
  refine f_ (g:=fw) D sc_law_no_move rfl rfl (by decide) fun f cdv A outer s H E hr=>?_
  refine BodyOk.of ?_
  refine fg [0] (fun _=>(DL.cons (aB (DL.cons ak rfl DL.nil)) rfl (DL.cons (aB (DL.cons ak rfl (DL.cons ak rfl (DL.cons ak rfl DL.nil)))) rfl (DL.cons (aB (DL.cons ak rfl (DL.cons ak rfl DL.nil))) rfl (DL.cons (aB (DL.cons ak rfl (DL.cons ak rfl DL.nil))) rfl (DL.cons (aB (DL.cons ak rfl (DL.cons aj rfl DL.nil))) rfl (DL.cons (aB (DL.cons ak rfl (DL.cons ak rfl DL.nil))) rfl DL.nil))))))) fun e0 hd0=>?_
  refine fg [1,1] (fun _=>(DL.cons (aB (DL.cons ak rfl (DL.cons ak rfl (DL.cons ak rfl DL.nil)))) rfl (DL.cons (aB (DL.cons ak rfl (DL.cons ak rfl (DL.cons ak rfl (DL.cons ak rfl DL.nil))))) rfl (DL.cons (aB (DL.cons ak rfl (DL.cons ak rfl (DL.cons ak rfl DL.nil)))) rfl (DL.cons (aB (DL.cons ak rfl (DL.cons ak rfl (DL.cons ak rfl (DL.cons aj rfl DL.nil))))) rfl DL.nil))))) fun e1 hd1=>?_
  refine fg [2,1] (fun _=>(DL.cons (aB (DL.cons ak rfl (DL.cons ak rfl (DL.cons ak rfl (DL.cons gc rfl DL.nil))))) rfl (DL.cons (aB (DL.cons ak rfl (DL.cons ak rfl (DL.cons ak rfl (DL.cons lh rfl DL.nil))))) rfl (DL.cons (aB (DL.cons ak rfl (DL.cons ak rfl (DL.cons ak rfl (DL.cons ak rfl DL.nil))))) rfl DL.nil)))) fun e2 j7=>?_
  refine fg [3,1] (fun _=>(DL.cons (aB (DL.cons ak rfl (DL.cons ak rfl (DL.cons ak rfl (DL.cons aj rfl DL.nil))))) rfl (DL.cons (aB (DL.cons ak rfl (DL.cons ak rfl (DL.cons ak rfl (DL.cons aj rfl (DL.cons aj rfl DL.nil)))))) rfl (DL.cons (bK (DL.cons ak rfl (DL.cons ak rfl DL.nil))) rfl (DL.cons ak rfl (DL.cons lh rfl (DL.cons aj rfl (DL.cons (aB DL.nil) rfl DL.nil)))))))) fun e3 hd3=>?_
  refine fg [4,1] (fun _=>(DL.cons (aB (DL.cons ak rfl (DL.cons ak rfl DL.nil))) rfl (DL.cons (aB (DL.cons ak rfl (DL.cons ak rfl DL.nil))) rfl (DL.cons (aB (DL.cons aj rfl (DL.cons ak rfl DL.nil))) rfl (DL.cons (aB (DL.cons ak rfl (DL.cons lh rfl (DL.cons ak rfl (DL.cons aj rfl DL.nil))))) rfl DL.nil))))) fun e4 hd4=>?_
  refine ⟨?_⟩
  delta fw
  exact (ap (bC 1 sc_law_no_move.nd (bK (hd0 _)))
  (ap (bC 1 sc_law_no_move.nd (ck (ae 1) (bK (hd1 _))))
  (ap (bC 1 sc_law_no_move.nd (ck (ae 1) (bK (j7 _))))
  (ap (bC 1 sc_law_no_move.nd (ck (ae 1) (bK (hd3 _))))
  (ap (bC 1 sc_law_no_move.nd (ck (ae 1) (bK (hd4 _))))
  (aq (aO (bu (ae 1) (eF (ae 0) (eV (by rfl) (by exact B.len) (ai (ae 1) au)))))))))))
abbrev dW:Stmt:=jn 37
theorem sc_law_good:FnScope ["_law_cell","_law_some"] ["_law_cell"] (ag dW):=⟨rfl,rfl,rfl,by decide+kernel,rfl,by decide+kernel,by decide+kernel⟩
theorem m7 (D:Def K mg "_law_good" dW ["_law_cell"]) (B:Bn mg):Own P w K mg base 1 "_law_good" ["_law_cell"] (cV K cP):=by
  delta cP
  refine f_ (g:=dQ) D sc_law_good rfl rfl (by decide) fun f cdv A outer s H E hr=>?_
  refine BodyOk.of ?_
  refine fg [0] (fun _=>(DL.cons (aB (DL.cons ak rfl (DL.cons ak rfl DL.nil))) rfl (DL.cons (aB (DL.cons ak rfl (DL.cons ak rfl (DL.cons ak rfl DL.nil)))) rfl (DL.cons (aB (DL.cons ak rfl (DL.cons ak rfl (DL.cons ak rfl (DL.cons aj rfl DL.nil))))) rfl (DL.cons (aB (DL.cons ak rfl (DL.cons ak rfl (DL.cons ak rfl (DL.cons aj rfl DL.nil))))) rfl (DL.cons (aB (DL.cons ak rfl (DL.cons ak rfl DL.nil))) rfl DL.nil)))))) fun e0 hd0=>?_
  refine ⟨?_⟩
  delta dQ
  exact (ap (bC 1 sc_law_good.nd (bK (hd0 _)))
  (aq (aO (lB (eX (N:=["_law_place","_law_some","_law_cell"]) (js:=[none,some 1,some 0]) gn (by rfl) (eI (aB (DL.cons aj rfl (DL.cons aj rfl (DL.cons aj rfl DL.nil))))) (fun _ _ _ _=>(by delta cC;exact (bv 0 (show (["_law_place","_law_some","_law_cell"]:List Str).Nodup by decide+kernel)))) (fun _ _ _ _=>(by delta bJ;exact (bu (ae 1) (eF (eL (ae 2) (ae 0)) aj))))) jf (jg (eF (eL (ae 0) aj) aj))))))
abbrev bt:Stmt:=jn 38
theorem sc_law_moves_refused:FnScope ["_law_cell","_law_moves","_law_at_here","_law_some","_law_long","_law_cord","_law_kept","_law_odd"] ["_law_cell"] (ag bt):=⟨rfl,rfl,rfl,by decide+kernel,rfl,by decide+kernel,by decide+kernel⟩
theorem gB {c T:Addr} (D:DefT K mg "_law_moves_refused" bt ["_law_cell"] c T) (B:Bn mg) (D_law_good:Own P w K mg base 1 "_law_good" ["_law_cell"] (cV K cP)) (D_law_no_move:Own P w K mg base 1 "_law_no_move" ["_law_cell"] (cV K aJ)) (D_law_refused:OwnF P w K mg base 6 "_law_refused" ["NoMove","TooLong"] aI) (R_moved:OwnR P w K mg base 5 "moved" ["cord","moves"] (lM K cg)) (R_back_moves:OwnR P w K mg base 5 "back_moves" ["moves"] (lM K b8)):Own P w K mg base 8 "_law_moves_refused" ["_law_cell"] (cV K bj):=by
  delta bj
  refine yB (g:=bq) D sc_law_moves_refused rfl rfl (by decide) fun f A outer s H E hr=>?_
  refine BodyOk.of ?_
  refine fg [4] (fun _=>(DL.cons (aB (DL.cons ak rfl (DL.cons (lr aj aj) rfl DL.nil))) rfl (DL.cons (aB (DL.cons ak rfl (DL.cons aj rfl DL.nil))) rfl DL.nil))) fun e0 hd0=>?_
  refine gM [7,0] (DL.cons lh rfl (DL.cons (sf (by rfl) (by exact B.tuple) (ae 1)) rfl (DL.cons ak rfl (DL.cons aj rfl (DL.cons gc rfl (DL.cons yG rfl (DL.cons (aB (DL.cons ak rfl (DL.cons ak rfl DL.nil))) rfl DL.nil))))))) fun e1 hd1=>?_
  refine ⟨?_⟩
  delta bq
  exact (ap (bC 1 sc_law_moves_refused.nd (aX D_law_good (hr.mono (by decide)) (by rfl) (ai (eL (ae 0) aj) au)))
  (ap (bC 2 sc_law_moves_refused.nd (eF (eL (ae 0) aj) (ck (eV (by rfl) (by exact B.len) (ai (ae 1) au)) aj)))
  (ap (bC 3 sc_law_moves_refused.nd (pb (pb (lB (ae 1) jf (jg (ae 2))) (uM (ai (aX D_law_no_move (hr.mono (by decide)) (by rfl) (ai (ae 0) au)) au))) (lB (ae 1) (jg (ae 2)) jf)))
  (ap (bC 4 sc_law_moves_refused.nd (ck (bK (DL.cons (aB (DL.cons ak rfl (DL.cons ak rfl (DL.cons ak rfl (DL.cons aj rfl DL.nil))))) rfl DL.nil)) (ae 3)))
  (ap (bC 5 sc_law_moves_refused.nd (bK (hd0 _)))
  (ap (bC 6 sc_law_moves_refused.nd (oS (by rfl) (by exact B.list) (ae 3)))
  (ap (cf (dM (dz (hJ (N:=["_law_some"]) (js:=[3]) D_law_refused rfl D.tp D.hd (hr.mono (by decide)) (by rfl) R_moved (by decide) fN (fun _ _ _ _ _ _=>(ai (bK (DL.cons (aB (DL.cons ak rfl (DL.cons aj rfl DL.nil))) rfl (DL.cons (aB (DL.cons ak rfl (DL.cons (iA aj) rfl DL.nil))) rfl DL.nil))) (ai (ae 0) au))))))
  (aq (aO gc))
  aZ)
  (ap (bC 7 sc_law_moves_refused.nd (bu (bK hd1) (eF (eL (ae 0) aj) aj)))
  (ap (cf (dM (dz (hJ (N:=["_law_cord","_law_odd"]) (js:=[5,7]) D_law_refused rfl D.tp D.hd (hr.mono (by decide)) (by rfl) R_moved (by decide) fN (fun _ _ _ _ _ _=>(ai (ae 0) (ai (ae 1) au))))))
  (aq (aO gc))
  aZ)
  (ap (cf (dM (dz (hJ (N:=["_law_odd"]) (js:=[7]) D_law_refused rfl D.tp D.hd (hr.mono (by decide)) (by rfl) R_back_moves (by decide) fN (fun _ _ _ _ _ _=>(ai (ae 0) au)))))
  (aq (aO gc))
  aZ)
  (ap (cf (dM (dz (hJ (N:=["_law_cord","_law_long"]) (js:=[5,4]) D_law_refused rfl D.tp D.hd (hr.mono (by decide)) (by rfl) R_moved (by decide) fN (fun _ _ _ _ _ _=>(ai (ae 0) (ai (ae 1) au))))))
  (aq (aO gc))
  aZ)
  (aq (aO (eG (hJ (N:=["_law_some"]) (js:=[3]) D_law_refused rfl D.tp D.hd (hr.mono (by decide)) (by rfl) R_back_moves (by decide) fN (fun _ _ _ _ _ _=>(ai (ae 0) au))) (fL (iY hr.units (ae 3) (ae 6)))))))))))))))))
abbrev bG:Stmt:=jn 39
theorem sc_law_long_refused:FnScope ["_law_cell","_law_turns","_law_more","_law_cord","_law_move","_law_idle"] ["_law_cell"] (ag bG):=⟨rfl,rfl,rfl,by decide+kernel,rfl,by decide+kernel,by decide+kernel⟩
theorem gT {c T:Addr} (D:DefT K mg "_law_long_refused" bG ["_law_cell"] c T) (B:Bn mg) (D_moved:Own P w K mg base 5 "moved" ["cord","moves"] (cV K bp)) (D_law_refused:OwnF P w K mg base 6 "_law_refused" ["NoMove","TooLong"] aI) (R_moved:OwnR P w K mg base 5 "moved" ["cord","moves"] (lM K cg)):Own P w K mg base 8 "_law_long_refused" ["_law_cell"] (cV K aF):=by
  delta aF
  refine yB (g:=bF) D sc_law_long_refused rfl rfl (by decide) fun f A outer s H E hr=>?_
  refine BodyOk.of ?_
  refine gM [0,0] (DL.cons aj rfl (DL.cons aj rfl (DL.cons aj rfl (DL.cons (ck aj (eF (eL (ae 0) aj) aj)) rfl (DL.cons (ck (lr aj aj) (eF (ae 0) (lr aj aj))) rfl DL.nil))))) fun e0 hd0=>?_
  refine gM [4] (DL.cons ak rfl (DL.cons ak rfl (DL.cons ak rfl (DL.cons (bu (bK (DL.cons aj rfl (DL.cons (iA aj) rfl (DL.cons aj rfl (DL.cons (lr aj aj) rfl DL.nil))))) (eF (eL (ae 0) aj) aj)) rfl DL.nil)))) fun e1 hd1=>?_
  refine fg [5,0] (fun _=>(DL.cons (aB (DL.cons ak rfl (DL.cons ak rfl (DL.cons ak rfl (DL.cons aj rfl DL.nil))))) rfl (DL.cons (aB (DL.cons ak rfl (DL.cons ak rfl DL.nil))) rfl (DL.cons (aB (DL.cons ak rfl (DL.cons ak rfl (DL.cons ak rfl DL.nil)))) rfl (DL.cons (aB (DL.cons ak rfl (DL.cons ak rfl (DL.cons ak rfl (DL.cons aj rfl DL.nil))))) rfl DL.nil))))) fun e2 j7=>?_
  refine ⟨?_⟩
  delta bF
  exact (ap (bC 1 sc_law_long_refused.nd (bu (bK hd0) (eF (ae 0) aj)))
  (ap (cf (d7 hr.units (eF (eL (ae 0) aj) aj) aj)
  (aq (bC 1 sc_law_long_refused.nd (wz aj (ae 1))))
  aZ)
  (ap (bC 2 sc_law_long_refused.nd (eF (eL (ae 0) aj) aj))
  (ap (bC 3 sc_law_long_refused.nd (ck (bK (DL.cons (aB (DL.cons ak rfl (DL.cons (ae 1) rfl DL.nil))) rfl DL.nil)) (eX (N:=["_law_k"]) (js:=[none]) g5 (by rfl) (pV (by rfl) (by exact B.range) (ai (ae 2) au)) (fun _ _ _ _=>(by delta bP;exact (bv 0 (show (["_law_k"]:List Str).Nodup by decide+kernel)))) (fun _ _ _ _=>(by delta bQ;exact (aB (DL.cons (bu ak (eF (ae 0) aj)) rfl (DL.cons (ck aj (ae 0)) rfl DL.nil))))))))
  (ap (bC 4 sc_law_long_refused.nd (aB hd1))
  (ap (iE PassesOwn.never (by rfl) (eI (bK (j7 _))) (by delta bB;exact (bv 5 sc_law_long_refused.nd))
  (by delta bR;exact (aq (cf (rB hr.units (eV (by rfl) (by exact B.len) (ai (aX D_moved (hr.mono (by decide)) (by rfl) (ai (oS (by rfl) (by exact B.list) (ae 3)) (ai (bK (DL.cons (ae 5) rfl DL.nil)) au))) au)) (ck aj (ae 2)))
  (aq (aO gc))
  aZ))))
  (ap (cf (kI .gt (ck (lq aj (lv (by rfl) (by exact B.abs) (ai (ae 1) au))) (ae 2)) aj)
  (ap (cf (dM (dz (hJ (N:=["_law_cord","_law_move"]) (js:=[3,4]) D_law_refused rfl D.tp D.hd (hr.mono (by decide)) (by rfl) R_moved (by decide) fN (fun _ _ _ _ _ _=>(ai (ae 0) (ai (bK (DL.cons (aB (DL.cons ak rfl (DL.cons ak rfl DL.nil))) rfl (DL.cons (ae 1) rfl DL.nil))) au))))))
  (aq (aO gc))
  aZ)
  (aq (aO (hJ (N:=["_law_cord","_law_move"]) (js:=[3,4]) D_law_refused rfl D.tp D.hd (hr.mono (by decide)) (by rfl) R_moved (by decide) fN (fun _ _ _ _ _ _=>(ai (ae 0) (ai (bK (DL.cons (ae 1) rfl (DL.cons (aB (DL.cons ak rfl (DL.cons ak rfl DL.nil))) rfl DL.nil))) au)))))))
  aZ)
  (aq (aO (iY hr.units (eV (by rfl) (by exact B.len) (ai (aX D_moved (hr.mono (by decide)) (by rfl) (ai (ae 3) (ai (bK (DL.cons (ae 4) rfl DL.nil)) au))) au)) (ck (lq aj (lv (by rfl) (by exact B.abs) (ai (ae 1) au))) (ae 2))))))))))))
abbrev ij:Stmt:=jn 40
theorem sc_law:FnScope ["_law_script","_law_cell"] ["_law_script"] (ag ij):=⟨rfl,rfl,rfl,by decide+kernel,rfl,by decide+kernel,by decide+kernel⟩
theorem xk {f0:Addr} {fd:FuncData} (D:Fun K "law" "law" ij f0 fd) (B:Bn mg) (D_law_at:Own P w K mg base 1 "_law_at" ["_law_script","_law_k"] (cV K a_)) (D_law_moves_refused:Own P w K mg base 8 "_law_moves_refused" ["_law_cell"] (cV K bj)) (D_law_long_refused:Own P w K mg base 8 "_law_long_refused" ["_law_cell"] (cV K aF)):FnOk P w K mg base jc 9 f0 fd ["_law_script"] (cV K iI):=by
  delta iI
  refine As (g:=kN) D sc_law rfl rfl (by decide) fun cdv A outer s H E hr=>?_
  delta kN
  exact (ap (iE PassesOwn.never (by rfl) (eI (ck (lB (ae 0) jf (jg aj)) (bK (DL.cons (ck (aX D_law_at (hr.mono (by decide)) (by rfl) (ai (ae 0) (ai aj au))) aj) rfl DL.nil)))) (by delta gz;exact (bv 1 sc_law.nd))
  (by delta gA;exact (aq (cf (dM (dz (aX D_law_moves_refused (hr.mono (by decide)) (by rfl) (ai (ae 1) au))))
  (aq (aO gc))
  aZ))))
  (aq (aO (eG (aX D_law_long_refused (hr.mono (by decide)) (by rfl) (ai (aX D_law_at (hr.mono (by decide)) (by rfl) (ai (ae 0) (ai aj au))) au)) (fL (aX D_law_long_refused (hr.mono (by decide)) (by rfl) (ai (ck (aX D_law_at (hr.mono (by decide)) (by rfl) (ai (ae 0) (ai aj au))) aj) au)))))))
end
end Nhk74
namespace Nhk74
open PySem L2 Nh PL
def badM:List PyData:=[.tuple [.str "turn"], .tuple [.str "turn", .str "a", .str "b"], .tuple [.str "turn", .str "A"], .tuple [.str "turn", .str "ab"], .tuple [.str "turn", .int 1], .tuple [.str "change", .str "a"],
  .tuple [.str "change", .str "a", .str "a"], .tuple [.str "change", .str "a", .str "b", .str "c"], .tuple [.str "slide", .str "a", .str "b"], .tuple [.str "slide", .str "a", .str "a", .int 1],
  .tuple [.str "slide", .str "a", .str "b", .bool true], .tuple [.str "slide", .str "a", .str "b", .none], .tuple [.str "slide", .str "a", .str "b", .str "1"], .tuple [.str "slide", .str "a", .str "", .int 1],
  .tuple [.str "slide", .str "a", .str "b", .int 1, .int 1], .list [.str "turn", .str "a"], .str "turn a", .none, .int 3, .tuple [], .tuple [.str "a", .str "turn"], .tuple [.str "Turn", .str "a"], .tuple [.int 1, .str "a"], .tuple [.str "slide", .none, .str "b", .int 1]]
theorem gC:aI "NoMove" (.int 4)=some (.sh (.bool true)):=by kernel_rfl
theorem m8:aI "TooLong" (.int 9)=some (.sh (.bool true)):=by kernel_rfl
def xl (d:PyData):Sl:=if bW d then .sh d else .br d
def yI (x i:Int):Option Sl:=(aV (ah cI false (ad 1) (pC (.int i))) [.sh (.int x), .ow badM]).bind fun a=>match a.2 with
  | .rt r=>cT r
  | .nx=>some (.sh .none)
  | _=>none
theorem u9 (x:Int):aJ [.int x]=yI x (x % 24):=by kernel_rfl
theorem xm (x:Int):∀k:Fin 24,yI x (k.val:Int)=(badM[k.val]?).map xl∧((badM[k.val]?).bind fun d=>aE [d])=some (.sh (.bool false))
  | ⟨0,_⟩=>⟨by kernel_rfl,by kernel_rfl⟩
  | ⟨1,_⟩=>⟨by kernel_rfl,by kernel_rfl⟩
  | ⟨2,_⟩=>⟨by kernel_rfl,by kernel_rfl⟩
  | ⟨3,_⟩=>⟨by kernel_rfl,by kernel_rfl⟩
  | ⟨4,_⟩=>⟨by kernel_rfl,by kernel_rfl⟩
  | ⟨5,_⟩=>⟨by kernel_rfl,by kernel_rfl⟩
  | ⟨6,_⟩=>⟨by kernel_rfl,by kernel_rfl⟩
  | ⟨7,_⟩=>⟨by kernel_rfl,by kernel_rfl⟩
  | ⟨8,_⟩=>⟨by kernel_rfl,by kernel_rfl⟩
  | ⟨9,_⟩=>⟨by kernel_rfl,by kernel_rfl⟩
  | ⟨10,_⟩=>⟨by kernel_rfl,by kernel_rfl⟩
  | ⟨11,_⟩=>⟨by kernel_rfl,by kernel_rfl⟩
  | ⟨12,_⟩=>⟨by kernel_rfl,by kernel_rfl⟩
  | ⟨13,_⟩=>⟨by kernel_rfl,by kernel_rfl⟩
  | ⟨14,_⟩=>⟨by kernel_rfl,by kernel_rfl⟩
  | ⟨15,_⟩=>⟨by kernel_rfl,by kernel_rfl⟩
  | ⟨16,_⟩=>⟨by kernel_rfl,by kernel_rfl⟩
  | ⟨17,_⟩=>⟨by kernel_rfl,by kernel_rfl⟩
  | ⟨18,_⟩=>⟨by kernel_rfl,by kernel_rfl⟩
  | ⟨19,_⟩=>⟨by kernel_rfl,by kernel_rfl⟩
  | ⟨20,_⟩=>⟨by kernel_rfl,by kernel_rfl⟩
  | ⟨21,_⟩=>⟨by kernel_rfl,by kernel_rfl⟩
  | ⟨22,_⟩=>⟨by kernel_rfl,by kernel_rfl⟩
  | ⟨23,_⟩=>⟨by kernel_rfl,by kernel_rfl⟩
  | ⟨n+24,h⟩=>by omega
theorem u_:∀d∈badM,d.canLay0=true∧d.depth≤60:=by
  have h:badM.all (fun d=>d.canLay0&&decide (d.depth≤60))=true:=by kernel_rfl
  intro d hd
  have:=List.all_eq_true.mp h d hd
  simpa using this
theorem oh (z:Int):∃d,aJ [.int z]=some (xl d)∧aE [d]=some (.sh (.bool false))∧d∈badM:=by
  have hk:(z % 24).toNat < 24:=by omega
  obtain ⟨a,b⟩:=xm z ⟨(z % 24).toNat,hk⟩
  have e:(((z % 24).toNat:Nat):Int)=z % 24:=by omega
  obtain ⟨d,hd,b⟩:=Option.bind_eq_some_iff.mp b
  refine ⟨d,?_,b,List.mem_of_getElem? hd⟩
  rw [u9,←e]
  refine a.trans ?_
  rw [hd]
  rfl
theorem m9 (x0:Sl) (d:PyData) (h:aE [d]=some (.sh (.bool false))):∀(ds es:List PyData) (a:Sl),(∀m∈ds,aE [m]=some (.sh (.bool true)))→∃E',eZ aH aC (lL (bA (bX (ao aE (af false (ad 1) am)))) (ef "NoMove")) (ds++d::es) [x0,a]=some (("NoMove":Str),E')
  | [],es,a,_=>by
    refine ⟨[x0,Sl.sh d],?_⟩
    have e1:aH d [x0,a]=some [x0, .sh d]:=rfl
    have e2:(lL (bA (bX (ao aE (af false (ad 1) am)))) (ef "NoMove")) [x0, .sh d]=some (("NoMove":Str),[x0, .sh d]):=by
      simp [lL,bA,bX,ao,af,am,ad,az,look,Sl.val,h,ef,eM]
    simp only [List.nil_append,eZ,e1,Option.bind_some,e2]
  | m::ds,es,a,hm=>by
    have hm0:=hm m (List.mem_cons_self ..)
    obtain ⟨E',ih⟩:=m9 x0 d h ds es (.sh m) fun y hy=>hm y (List.mem_cons_of_mem _ hy)
    refine ⟨E',?_⟩
    have e1:aH m [x0,a]=some [x0, .sh m]:=rfl
    have e2:(lL (bA (bX (ao aE (af false (ad 1) am)))) (ef "NoMove")) [x0, .sh m]=none:=by
      simp [lL,bA,bX,ao,af,am,ad,az,look,Sl.val,hm0,ef,eM]
    have e3:aC [x0, .sh m]=some ([x0, .sh m], .nx):=by
      simp [aC,bn,bA,bX,ao,af,am,ad,az,look,Sl.val,hm0,eM,aQ]
    simp only [List.cons_append,eZ,e1,Option.bind_some,e2,e3]
    exact ih
theorem b_ {f g:cJ} {E E1:List Sl} (h:f E=some (E1, .nx)):aP f g E=g E1:=by
  unfold aP
  rw [h]
  rfl
theorem pf {c:iw} {a b:cJ} {E E1:List Sl} {r:Option (List Sl×Fl)} (h:c E=some (false,E1)) (k:b E1=r):bn c a b E=r:=by
  unfold bn
  rw [h,←k]
  rfl
theorem sY {c:iw} {a b:cJ} {E E1:List Sl} {r:Option (List Sl×Fl)} (h:c E=some (true,E1)) (k:a E1=r):bn c a b E=r:=by
  unfold bn
  rw [h,←k]
  rfl
theorem oi {tg:gJ} {cond:iw} {elt:bz} {d r:PyData} {ds rs:List PyData} {E E1:List Sl} (t:tg d E=some E1) (c:cond E1=some (true,E1)) (el:elt E1=some (.sh r,E1)) (h:db tg cond elt ds E1=some rs):db tg cond elt (d::ds) E=some (r::rs):=by
  rw [db,t,Option.bind_some,c]
  simp only [Option.bind_some,el,frz,h,Option.map_some,if_true]
theorem flatA_all:∀{ds:List PyData},bx ds=true↔∀d∈ds,bW d=true
  | []=>⟨fun _ d h=>(nomatch h),fun _=>rfl⟩
  | a::ds=>by
    show (bW a&&bx ds)=true↔_
    rw [Bool.and_eq_true,flatA_all]
    exact ⟨fun h d hd=>(List.mem_cons.mp hd).elim (fun z=>z▸h.1) (h.2 d),fun h=>⟨h a (List.mem_cons_self ..),fun d hd=>h d (List.mem_cons_of_mem _ hd)⟩⟩
theorem sZ {ds:List PyData} {a b:Option Int} (h:bx ds=true):bx (dN ds a b)=true:=flatA_all.mpr fun d hd=>flatA_all.mp h d (List.mem_of_mem_drop (List.mem_of_mem_take hd))
def goodM:List PyData:=[.tuple [.str "turn", .str "c"], .tuple [.str "change", .str "c", .str "d"], .tuple [.str "slide", .str "c", .str "d", .int 2], .tuple [.str "slide", .str "c", .str "e", .int 0], .tuple [.str "turn", .str "z"]]
theorem ph:∀d∈goodM,aE [d]=some (.sh (.bool true)):=by
  intro d hd
  simp only [goodM,List.mem_cons,List.not_mem_nil,or_false] at hd
  rcases hd with rfl | rfl | rfl | rfl | rfl <;> kernel_rfl
theorem qw:∀d∈goodM,bW d=true:=by
  intro d hd
  simp only [goodM,List.mem_cons,List.not_mem_nil,or_false] at hd
  rcases hd with rfl | rfl | rfl | rfl | rfl <;> rfl
theorem lT (i:Int):∃d∈goodM,atI goodM (i % 5)=some d:=by
  obtain ⟨k,hk,e⟩:∃k:Nat,k < 5∧i % 5=(k:Int):=⟨(i % 5).toNat,by omega,by omega⟩
  rw [e,dA]
  exact ⟨goodM[k]'hk,List.getElem_mem _,List.getElem?_eq_getElem _⟩
theorem va (w:Int):bJ [.sh (.int 1), .sh (.list goodM), .sh (.int w)]=(atI goodM (w / 1 % 5)).map fun d=>(.sh d,[.sh (.int 1), .sh (.list goodM), .sh (.int w)]):=by kernel_rfl
theorem vd (w:Int):bJ [.sh (.int 5), .sh (.list goodM), .sh (.int w)]=(atI goodM (w / 5 % 5)).map fun d=>(.sh d,[.sh (.int 5), .sh (.list goodM), .sh (.int w)]):=by kernel_rfl
theorem s_ (w:Int):bJ [.sh (.int 25), .sh (.list goodM), .sh (.int w)]=(atI goodM (w / 25 % 5)).map fun d=>(.sh d,[.sh (.int 25), .sh (.list goodM), .sh (.int w)]):=by kernel_rfl
theorem oj (w:Int):fM [none,some 1,some 0] [.sh (.int w), .ow goodM]=[.no, .sh (.list goodM), .sh (.int w)]:=by kernel_rfl
theorem ve (w:Int):∃a b c,a∈goodM∧b∈goodM∧c∈goodM∧db cC cA bJ [.int 1, .int 5, .int 25] [.no, .sh (.list goodM), .sh (.int w)]=some [a,b,c]:=by
  obtain ⟨a,ha,ea⟩:=lT (w / 1)
  obtain ⟨b,hb,eb⟩:=lT (w / 5)
  obtain ⟨c,hc,ec⟩:=lT (w / 25)
  refine ⟨a,b,c,ha,hb,hc,oi (E1:=[.sh (.int 1), .sh (.list goodM), .sh (.int w)]) rfl rfl ?_ (oi (E1:=[.sh (.int 5), .sh (.list goodM), .sh (.int w)]) rfl rfl ?_ (oi (E1:=[.sh (.int 25), .sh (.list goodM), .sh (.int w)]) rfl rfl ?_ rfl))⟩
  · rw [va,ea];rfl
  · rw [vd,eb];rfl
  · rw [s_,ec];rfl
theorem vg (w:Int) (ds:List PyData) (fl:bx ds=true) (l:ds.length≤1000000) (h:db cC cA bJ [.int 1, .int 5, .int 25] [.no, .sh (.list goodM), .sh (.int w)]=some ds):
    cP [.int w]=some (.ow (dN ds none (some (w / 125 % 4)))):=by
  have s1:bc 1 (bi (aa (aG (aa (pC (.str "turn")) (aa (pC (.str "c")) ar))) (aa (aG (aa (pC (.str "change")) (aa (pC (.str "c")) (aa (pC (.str "d")) ar)))) (aa (aG (aa (pC (.str "slide")) (aa (pC (.str "c")) (aa (pC (.str "d")) (aa (pC (.int 2)) ar))))) (aa (aG (aa (pC (.str "slide")) (aa (pC (.str "c")) (aa (pC (.str "e")) (aa (pC (.int 0)) ar))))) (aa (aG (aa (pC (.str "turn")) (aa (pC (.str "z")) ar))) ar)))))) [.sh (.int w), .no]=some ([.sh (.int w), .ow goodM], .nx):=by kernel_rfl
  have it:du (aG (aa (pC (.int 1)) (aa (pC (.int 5)) (aa (pC (.int 25)) ar)))) [.sh (.int w), .ow goodM]=some ([.int 1, .int 5, .int 25],[.sh (.int w), .ow goodM]):=by kernel_rfl
  have c1:dc [none,some 1,some 0] (du (aG (aa (pC (.int 1)) (aa (pC (.int 5)) (aa (pC (.int 25)) ar))))) cC cA bJ [.sh (.int w), .ow goodM]=some (.ow ds,[.sh (.int w), .ow goodM]):=by
    unfold dc
    rw [it,Option.bind_some,oj,h,Option.bind_some,fl,decide_eq_true l]
    rfl
  have o1:d9 (ah cK false (ah cb false (ad 0) (pC (.int 125))) (pC (.int 4))) [.sh (.int w), .ow goodM]=some (some (w / 125 % 4),[.sh (.int w), .ow goodM]):=by kernel_rfl
  have fc:bx (dN ds none (some (w / 125 % 4)))=true:=sZ fl
  show cU 2 dQ [.int w]=_
  unfold cU
  show (dQ [.sh (.int w), .no]).bind _=_
  unfold dQ
  rw [b_ s1]
  have c2:gj false (dc [none,some 1,some 0] (du (aG (aa (pC (.int 1)) (aa (pC (.int 5)) (aa (pC (.int 25)) ar))))) cC cA bJ) d8 (d9 (ah cK false (ah cb false (ad 0) (pC (.int 125))) (pC (.int 4)))) [.sh (.int w), .ow goodM]=some (.ow (dN ds none (some (w / 125 % 4))),[.sh (.int w), .ow goodM]):=by
    unfold gj
    rw [c1]
    simp only [Option.bind_some,Bool.false_and,Bool.false_eq_true,if_false,d8,o1,look,Sl.val,fc,Bool.or_true,if_true]
  unfold aV
  rw [c2]
  simp only [Option.bind_some]
  show cT (.ow _)=_
  unfold cT
  rw [if_pos (by show bM _=true;simp [bM,fc])]
theorem pi (ds es:List PyData) (d:PyData) (h:aE [d]=some (.sh (.bool false))) (hm:∀m∈ds,aE [m]=some (.sh (.bool true))):aA [.list (ds++d::es)]=some ("NoMove":Str):=by
  obtain ⟨E',e⟩:=m9 (.sh (.list (ds++d::es))) d h ds es .no hm
  show ((bI [.sh (.list (ds++d::es)), .no]).map (·.1))=_
  have e1:(lL (bA (bX (dH (eW .list) (ad 0)))) (ef "NoMove")) [.sh (.list (ds++d::es)), .no]=none:=rfl
  have e2:(bn (bA (bX (dH (eW .list) (ad 0)))) gi aQ) [.sh (.list (ds++d::es)), .no]=some ([.sh (.list (ds++d::es)), .no], .nx):=rfl
  have e3:du (ad 0) [.sh (.list (ds++d::es)), .no]=some (ds++d::es,[.sh (.list (ds++d::es)), .no]):=rfl
  unfold bI uT
  simp only [e1]
  unfold mP
  simp only [e2]
  unfold qj
  simp only [e3,Option.bind_some,e,Option.map_some]
theorem vh (o:PyData) (h:eW .list o=some (.bool false)):aA [o]=some ("NoMove":Str):=by
  show ((bI [.sh o, .no]).map (·.1))=_
  have e1:(lL (bA (bX (dH (eW .list) (ad 0)))) (ef "NoMove")) [.sh o, .no]=some (("NoMove":Str),[.sh o, .no]):=by
    simp [lL,bA,bX,dH,ad,look,Sl.val,h,ef,eM]
  unfold bI uT
  simp only [e1,Option.map_some]
theorem iO (c o:PyData) (n:Str) (h:aA [o]=some n):cg [c,o]=some n:=by
  show ((fR [.sh c, .sh o, .no, .no]).map (·.1))=_
  have e1:(cO aA (af false (ad 1) am)) [.sh c, .sh o, .no, .no]=some (n,[.sh c, .sh o, .no, .no]):=by
    simp [cO,af,am,ad,az,look,Sl.val,h]
  unfold fR uT
  simp only [e1,Option.map_some]
theorem m_ (o:PyData) (n:Str) (h:aA [o]=some n):b8 [o]=some n:=by
  show ((dG [.sh o]).map (·.1))=_
  have e1:(cO aA (af false (ad 0) am)) [.sh o]=some (n,[.sh o]):=by
    simp [cO,af,am,ad,az,look,Sl.val,h]
  unfold dG
  simp only [e1,Option.map_some]
theorem hO {E E1:List Sl} {js:List Nat} {ds:List PyData} {n:Nat} {r:List PyData→Option Str} {g:ix} {ok:List Str} {c:Str→PyData→Option Sl} {due:Int} {nm:Str} {sv:Sl} (v:vals E js=some ds) (rc:cO r g (aM n ds)=some (nm,E1)) (ho:nm∈ok) (hc:c nm (.int due)=some sv):jR js n r g ok c due E=some (sv,E):=by
  unfold jR
  rw [v,Option.bind_some,rc,Option.bind_some]
  simp only [if_pos ho,hc,Option.map_some]
theorem iP {f:bz} {E:List Sl} (h:f E=some (.sh (.bool true),E)):(bn (bA (bX f)) (aV (pC (.bool false))) aQ) E=some (E, .nx):=by
  have t:(bA (bX f)) E=some (false,E):=by
    simp only [bA,bX,h,Option.bind_some,Sl.val,eM,Option.map_some,Bool.not_true]
  exact pf t rfl
theorem zH (z:Int) (G:List PyData) (h:cP [.int (z / 25)]=some (.ow G)) (x2 x3 x4 x5 x6 x7:Sl):bc 1 (ao cP (af false (ah cb false (ad 0) (pC (.int 25))) am)) [.sh (.int z), .no,x2,x3,x4,x5,x6,x7]=some ([.sh (.int z), .ow G,x2,x3,x4,x5,x6,x7], .nx):=by
  have d1:oP 25=true:=by decide
  simp only [bc,ao,af,ah,ad,List.getElem?_cons_zero,Sl.isBr,Bool.false_and,Bool.false_eq_true,pC,cb,dI,look,Sl.val,vC,Option.bind_some,if_false,d1,if_true,Option.map_some,am,az,h,PL.settle,frz,frzAll,List.length_cons,List.length_nil,Nat.zero_add,Nat.reduceAdd,Nat.reduceLT,List.set_cons_succ,List.set_cons_zero]
theorem zI (z:Int) (G:List PyData) (hl:G.length≤3) (x3 x4 x5 x6 x7:Sl):bc 2 (ah cK false (ah cb false (ad 0) (pC (.int 7))) (ah bH false (bY dt (af false (ad 1) am)) (pC (.int 1)))) [.sh (.int z), .ow G, .no,x3,x4,x5,x6,x7]=some ([.sh (.int z), .ow G, .sh (.int (z / 7 % ((G.length:Int)+1))),x3,x4,x5,x6,x7], .nx):=by
  have d1:oP 7=true:=by decide
  have d2:(0:Int) < (G.length:Int)+1:=by omega
  simp only [bc,ah,ad,List.getElem?_cons_zero,Sl.isBr,Bool.false_and,Bool.false_eq_true,pC,cb,dI,look,Sl.val,vC,Option.bind_some,if_false,d1,if_true,Option.map_some,bY,af,am,dt,bH,d5,cR,Bool.not_false,Bool.true_or,Bool.and_true,cK,List.getElem?_cons_succ,az,d2,decide_true,PL.settle,frz,frzAll,List.length_cons,List.length_nil,Nat.zero_add,Nat.reduceAdd,Nat.reduceLT,List.set_cons_succ,List.set_cons_zero]
theorem zJ (z k:Int) (G:List PyData) (d:PyData) (hl:G.length≤3) (h:aJ [.int z]=some (xl d)) (x4 x5 x6 x7:Sl) (f4:jG x4=x4) (f5:jG x5=x5) (f6:jG x6=x6) (f7:jG x7=x7):
    bc 3 (ah gq false (ah gq false (gj false (ad 1) d8 (d9 (ad 2))) (jL (af false (ao aJ (af false (ad 0) am)) am))) (gj false (ad 1) (d9 (ad 2)) d8)) [.sh (.int z), .ow G, .sh (.int k), .no,x4,x5,x6,x7]=some ([.sh (.int z), .sh (.list G), .sh (.int k), .sh (.list (dN G none (some k)++[d]++dN G (some k) none)),x4,x5,x6,x7], .nx):=by
  have c1:gj false (ad 1) d8 (d9 (ad 2)) [.sh (.int z), .ow G, .sh (.int k), .no,x4,x5,x6,x7]=some (.ow (dN G none (some k)),[.sh (.int z), .ow G, .sh (.int k), .no,x4,x5,x6,x7]):=rfl
  have c2:gj false (ad 1) (d9 (ad 2)) d8 [.sh (.int z), .ow G, .sh (.int k), .no,x4,x5,x6,x7]=some (.ow (dN G (some k) none),[.sh (.int z), .ow G, .sh (.int k), .no,x4,x5,x6,x7]):=rfl
  have l1:jL (af false (ao aJ (af false (ad 0) am)) am) [.sh (.int z), .ow G, .sh (.int k), .no,x4,x5,x6,x7]=some (.br (.list [d]),[.sh (.int z), .ow G, .sh (.int k), .no,x4,x5,x6,x7]):=by
    have e1:ao aJ (af false (ad 0) am) [.sh (.int z), .ow G, .sh (.int k), .no,x4,x5,x6,x7]=some (xl d,[.sh (.int z), .ow G, .sh (.int k), .no,x4,x5,x6,x7]):=by
      simp [ao,af,am,ad,az,look,Sl.val,h]
    have e2:look [.sh (.int z), .ow G, .sh (.int k), .no,x4,x5,x6,x7] (xl d)=some d:=by unfold xl;split <;> rfl
    have e3:af false (ao aJ (af false (ad 0) am)) am [.sh (.int z), .ow G, .sh (.int k), .no,x4,x5,x6,x7]=some ([xl d],[.sh (.int z), .ow G, .sh (.int k), .no,x4,x5,x6,x7]):=by
      show (ao aJ (af false (ad 0) am) [.sh (.int z), .ow G, .sh (.int k), .no,x4,x5,x6,x7]).bind _=_
      rw [e1]
      rfl
    unfold jL
    rw [e3,Option.bind_some]
    simp [az,e2]
  have n1:(dN G none (some k)).length≤3:=Nat.le_trans (by unfold dN;simp;omega) hl
  have n2:(dN G (some k) none).length≤3:=Nat.le_trans (by unfold dN;simp;omega) hl
  have a1:ah gq false (gj false (ad 1) d8 (d9 (ad 2))) (jL (af false (ao aJ (af false (ad 0) am)) am)) [.sh (.int z), .ow G, .sh (.int k), .no,x4,x5,x6,x7]=some (.br (.list (dN G none (some k)++[d])),[.sh (.int z), .ow G, .sh (.int k), .no,x4,x5,x6,x7]):=by
    unfold ah
    rw [c1]
    simp only [Option.bind_some,Bool.false_and,Bool.false_eq_true,if_false,l1,gq,look,Sl.val]
    rw [if_pos (by simp;omega)]
  unfold bc
  have a2:ah gq false (ah gq false (gj false (ad 1) d8 (d9 (ad 2))) (jL (af false (ao aJ (af false (ad 0) am)) am))) (gj false (ad 1) (d9 (ad 2)) d8) [.sh (.int z), .ow G, .sh (.int k), .no,x4,x5,x6,x7]=some (.br (.list (dN G none (some k)++[d]++dN G (some k) none)),[.sh (.int z), .ow G, .sh (.int k), .no,x4,x5,x6,x7]):=by
    unfold ah at a1 ⊢
    rw [a1]
    simp only [Option.bind_some,Bool.false_and,Bool.false_eq_true,if_false,c2,gq,look,Sl.val]
    rw [if_pos (by simp;omega)]
  rw [a2]
  simp only [Option.bind_some,PL.settle,bW,Bool.false_eq_true,if_false,frzAll,List.map_cons,List.map_nil,f4,f5,f6,f7]
  rfl
theorem fy {p:P2} {f g:bz} {E E1 E2:List Sl} {a b:Sl} {r:Option (Sl×List Sl)} (h1:f E=some (a,E1)) (h2:g E1=some (b,E2)) (h3:p E2 a b=r):ah p false f g E=r:=by
  unfold ah
  rw [h1]
  simp only [Option.bind_some,Bool.false_and,Bool.false_eq_true,if_false]
  rw [h2]
  exact h3
theorem ti {i:Nat} {f:bz} {E E1:List Sl} {d:PyData} (h:f E=some (.sh d,E1)) (hi:i < E1.length):bc i f E=some (E1.set i (.sh d), .nx):=by
  unfold bc
  rw [h]
  simp only [Option.bind_some,PL.settle,if_pos hi]
theorem j4 {r:List PyData→Option Str} {g:ix} {E E1:List Sl} {rs:List Sl} {ds:List PyData} {n:Str} (g1:g E=some (rs,E1)) (l:az E1 rs=some ds) (h:r ds=some n):cO r g E=some (n,E1):=by
  unfold cO
  rw [g1,Option.bind_some]
  simp only [l,Option.bind_some,h,Option.map_some]
def pj:PyData:= .tuple [.str "slide", .str "a", .str "b", .int 1]
theorem yJ:aE [pj]=some (.sh (.bool true)):=by kernel_rfl
def oo:List PyData:=[.tuple [.str "a", .int 1000000000000000000000000000000], .tuple [.str "c", .int 1]]
def Aj:List PyData:=[.tuple [.str "c", .int 1], .tuple [.str "d", .int (-2)]]
theorem zK (z k:Int) (G L:List PyData) (hl:L.length≤7) (x5 x6 x7:Sl):bc 4 (ah bH false (bi (aa (aG (aa (pC (.str "slide")) (aa (pC (.str "a")) (aa (pC (.str "b")) (aa (pC (.int 1)) ar))))) ar)) (ad 3)) [.sh (.int z), .sh (.list G), .sh (.int k), .sh (.list L), .no,x5,x6,x7]=some ([.sh (.int z), .sh (.list G), .sh (.int k), .sh (.list L), .ow (pj::L),x5,x6,x7], .nx):=by
  have a1:bi (aa (aG (aa (pC (.str "slide")) (aa (pC (.str "a")) (aa (pC (.str "b")) (aa (pC (.int 1)) ar))))) ar) [.sh (.int z), .sh (.list G), .sh (.int k), .sh (.list L), .no,x5,x6,x7]=some (.ow [pj],[.sh (.int z), .sh (.list G), .sh (.int k), .sh (.list L), .no,x5,x6,x7]):=by kernel_rfl
  have a2:ad 3 [.sh (.int z), .sh (.list G), .sh (.int k), .sh (.list L), .no,x5,x6,x7]=some (.sh (.list L),[.sh (.int z), .sh (.list G), .sh (.int k), .sh (.list L), .no,x5,x6,x7]):=rfl
  unfold bc ah
  rw [a1]
  simp only [Option.bind_some,Bool.false_and,Bool.false_eq_true,if_false,a2,bH,look,Sl.val,d5,cR,Bool.not_false,Bool.true_or,Bool.and_true]
  rw [if_pos (by simp;omega)]
  rfl
theorem zL (z k:Int) (G L:List PyData) (x4 x6 x7:Sl):bc 5 (bi (aa (aG (aa (pC (.str "a")) (aa (ah gR false (pC (.int 10)) (pC (.int 30))) ar))) (aa (aG (aa (pC (.str "c")) (aa (pC (.int 1)) ar))) ar))) [.sh (.int z), .sh (.list G), .sh (.int k), .sh (.list L),x4, .no,x6,x7]=some ([.sh (.int z), .sh (.list G), .sh (.int k), .sh (.list L),x4, .ow oo,x6,x7], .nx):=by kernel_rfl
theorem zM (z k:Int) (G L:List PyData) (x4 x5 x7:Sl):bc 6 (gh (ad 3)) [.sh (.int z), .sh (.list G), .sh (.int k), .sh (.list L),x4,x5, .no,x7]=some ([.sh (.int z), .sh (.list G), .sh (.int k), .sh (.list L),x4,x5, .ow L,x7], .nx):=by kernel_rfl
def ng (G:List PyData):List PyData:=[.none, .tuple G, .str "", .int 0, .bool true, .dict [], .tuple [.str "turn", .str "a"]]
theorem xn (G:List PyData):∀o∈ng G,eW .list o=some (.bool false):=by
  intro o ho
  simp only [ng,List.mem_cons,List.not_mem_nil,or_false] at ho
  rcases ho with rfl | rfl | rfl | rfl | rfl | rfl | rfl <;> rfl
theorem zN (z k:Int) (G L:List PyData) (x4 x5 x6:Sl):∃o∈ng G,bc 7 (ah cI false (bi (aa (pC .none) (aa (lG (ad 1)) (aa (pC (.str "")) (aa (pC (.int 0)) (aa (pC (.bool true)) (aa yX (aa (aG (aa (pC (.str "turn")) (aa (pC (.str "a")) ar))) ar)))))))) (ah cK false (ah cb false (ad 0) (pC (.int 3))) (pC (.int 7)))) [.sh (.int z), .sh (.list G), .sh (.int k), .sh (.list L),x4,x5,x6, .no]=some ([.sh (.int z), .sh (.list G), .sh (.int k), .sh (.list L),x4,x5,x6, .sh o], .nx):=by
  have a1:bi (aa (pC .none) (aa (lG (ad 1)) (aa (pC (.str "")) (aa (pC (.int 0)) (aa (pC (.bool true)) (aa yX (aa (aG (aa (pC (.str "turn")) (aa (pC (.str "a")) ar))) ar))))))) [.sh (.int z), .sh (.list G), .sh (.int k), .sh (.list L),x4,x5,x6, .no]=some (.ow (ng G),[.sh (.int z), .sh (.list G), .sh (.int k), .sh (.list L),x4,x5,x6, .no]):=by kernel_rfl
  have a2:ah cK false (ah cb false (ad 0) (pC (.int 3))) (pC (.int 7)) [.sh (.int z), .sh (.list G), .sh (.int k), .sh (.list L),x4,x5,x6, .no]=some (.sh (.int (z / 3 % 7)),[.sh (.int z), .sh (.list G), .sh (.int k), .sh (.list L),x4,x5,x6, .no]):=by kernel_rfl
  obtain ⟨n,hn,e⟩:∃n:Nat,n < 7∧z / 3 % 7=(n:Int):=⟨(z / 3 % 7).toNat,by omega,by omega⟩
  have hn':n < (ng G).length:=hn
  refine ⟨(ng G)[n]'hn',List.getElem_mem _,?_⟩
  have b3:cI [.sh (.int z), .sh (.list G), .sh (.int k), .sh (.list L),x4,x5,x6, .no] (.ow (ng G)) (.sh (.int (z / 3 % 7)))=some (.sh ((ng G)[n]'hn'),[.sh (.int z), .sh (.list G), .sh (.int k), .sh (.list L),x4,x5,x6, .no]):=by
    simp only [cI,look,Sl.val,e,Option.bind_some,dA,List.getElem?_eq_getElem hn',Option.map_some,d5,cR,Bool.false_and,Bool.false_eq_true,if_false]
  exact (ti (fy a1 a2 b3) (Nat.lt_succ_self 7)).trans rfl
theorem nh:∀d∈goodM,d.canLay0=true∧d.depth≤60:=by
  have h:goodM.all (fun d=>d.canLay0&&decide (d.depth≤60))=true:=by kernel_rfl
  intro d hd
  have:=List.all_eq_true.mp h d hd
  simpa using this
theorem pk:∀{L:List PyData},(∀m∈L,m.canLay0=true∧m.depth≤60)→PyData.canLayAll0 L=true∧PyData.depthAll L≤60
  | [],_=>⟨rfl,Nat.zero_le _⟩
  | a::L,h=>by
    obtain ⟨h1,h2⟩:=h a (List.mem_cons_self ..)
    obtain ⟨i1,i2⟩:=pk fun m hm=>h m (List.mem_cons_of_mem _ hm)
    refine ⟨?_,?_⟩
    · rw [PyData.canLayAll0,h1,i1];rfl
    · rw [PyData.depthAll];exact Nat.max_le.mpr ⟨h2,i2⟩
theorem vi {L:List PyData} (h:∀m∈L,m.canLay0=true∧m.depth≤60):uy (.list L) (.list L)=some true:=by
  obtain ⟨a,b⟩:=pk h
  have c:(PyData.list L).canLay0=true:=by rw [PyData.canLay0];exact a
  have s:SeqAt.shaped (.list L)=true:=by
    unfold SeqAt.shaped
    rw [c,PyData.depth]
    simp
    omega
  show (if SeqAt.shaped (.list L)&&SeqAt.shaped (.list L) then some (PyData.eqv (.list L) (.list L)) else none)=_
  rw [s]
  simp only [Bool.and_self,if_true]
  rw [SeqAt.eqv_refl _ c]
theorem iQ (z:Int):bj [.int z]=some (.sh (.bool true)):=by
  obtain ⟨a,b,c,ha,hb,hc,hp⟩:=ve (z / 25)
  have habc:∀m∈[a,b,c],m∈goodM:=by
    intro m hm
    simp only [List.mem_cons,List.not_mem_nil,or_false] at hm
    rcases hm with rfl | rfl | rfl
    · exact ha
    · exact hb
    · exact hc
  have hG:=vg (z / 25) [a,b,c] (flatA_all.mpr fun m hm=>qw m (habc m hm)) (by simp) hp
  generalize hGe:dN [a,b,c] none (some (z / 25 / 125 % 4))=G at hG
  have gl:G.length≤3:=by rw [←hGe];unfold dN;simp;omega
  have gm:∀m∈G,m∈goodM:=fun m hm=>by
    rw [←hGe] at hm
    exact habc m (List.mem_of_mem_drop (List.mem_of_mem_take hm))
  obtain ⟨d,hd,hbad,hdm⟩:=oh z
  generalize hk:z / 7 % ((G.length:Int)+1)=k
  generalize hds:dN G none (some k)=ds
  generalize hes:dN G (some k) none=es
  have dm:∀m∈ds,m∈goodM:=fun m hm=>by rw [←hds] at hm;exact gm m (List.mem_of_mem_drop (List.mem_of_mem_take hm))
  have em:∀m∈es,m∈goodM:=fun m hm=>by rw [←hes] at hm;exact gm m (List.mem_of_mem_drop (List.mem_of_mem_take hm))
  have dl:ds.length≤3:=by rw [←hds];exact Nat.le_trans (by unfold dN;simp;omega) gl
  have el:es.length≤3:=by rw [←hes];exact Nat.le_trans (by unfold dN;simp;omega) gl
  have s3:=zJ z k G d gl hd .no .no .no .no rfl rfl rfl rfl
  rw [hds,hes,show ds++[d]++es=ds++d::es by simp] at s3
  have chk:=pi ds es d hbad fun m hm=>ph m (dm m hm)
  have chk2:=pi (pj::ds) es d hbad fun m hm=>(List.mem_cons.mp hm).elim (fun z=>z▸yJ) fun hm=>ph m (dm m hm)
  rw [List.cons_append] at chk2
  have cmp:∀m∈ds++d::es,m.canLay0=true∧m.depth≤60:=fun m hm=>by
    rcases List.mem_append.mp hm with hm | hm
    · exact nh m (dm m hm)
    · rcases List.mem_cons.mp hm with rfl | hm
      · exact u_ _ hdm
      · exact nh m (em m hm)
  have ll:(ds++d::es).length≤7:=by simp;omega
  generalize ds++d::es=L at *
  obtain ⟨o,om,s8⟩:=zN z k G L (.ow (pj::L)) (.ow oo) (.ow L)
  have co:=vh o (xn G o om)
  have nm:("NoMove":Str)∈(["NoMove","TooLong"]:List Str):=List.mem_cons_self ..
  show cU 8 bq [.int z]=_
  unfold cU
  show (bq [.sh (.int z), .no, .no, .no, .no, .no, .no, .no]).bind _=_
  unfold bq
  rw [b_ (zH z G hG _ _ _ _ _ _),b_ ((zI z G gl _ _ _ _ _).trans (by rw [hk])),b_ s3,b_ (zK z k G L ll _ _ _),b_ (zL z k G L _ _ _),b_ (zM z k G L _ _ _)]
  rw [b_ (iP (hO (ds:=[.list L]) rfl (j4 (rs:=[.ow Aj, .sh (.list L)]) (E1:=[.sh (.list L)]) (ds:=[.list Aj, .list L]) (by kernel_rfl) rfl (iO _ _ _ chk)) nm gC))]
  rw [b_ s8]
  rw [b_ (iP (hO (ds:=[.list oo,o]) rfl (j4 (rs:=[.sh (.list oo), .sh o]) (E1:=[.sh (.list oo), .sh o]) (ds:=[.list oo,o]) (by kernel_rfl) rfl (iO _ _ _ co)) nm gC))]
  rw [b_ (iP (hO (ds:=[o]) rfl (j4 (rs:=[.sh o]) (E1:=[.sh o]) (ds:=[o]) (by kernel_rfl) rfl (m_ _ _ co)) nm gC))]
  rw [b_ (iP (hO (ds:=[.list oo, .list (pj::L)]) rfl (j4 (rs:=[.sh (.list oo), .sh (.list (pj::L))]) (E1:=[.sh (.list oo), .sh (.list (pj::L))]) (ds:=[.list oo, .list (pj::L)]) (by kernel_rfl) rfl (iO _ _ _ chk2)) nm gC))]
  have r5:=hO (E:=[.sh (.int z), .sh (.list G), .sh (.int k), .sh (.list L), .ow (pj::L), .ow oo, .ow L, .sh o]) (js:=[3]) (n:=1) (due:=4) (ds:=[.list L]) rfl (j4 (g:=af false (ad 0) am) (rs:=[.sh (.list L)]) (E1:=[.sh (.list L)]) (ds:=[.list L]) (by kernel_rfl) rfl (m_ _ _ chk)) nm gC
  have q:ah dw false (ad 3) (ad 6) [.sh (.int z), .sh (.list G), .sh (.int k), .sh (.list L), .ow (pj::L), .ow oo, .ow L, .sh o]=some (.sh (.bool true),[.sh (.int z), .sh (.list G), .sh (.int k), .sh (.list L), .ow (pj::L), .ow oo, .ow L, .sh o]):=by
    refine fy (a:= .sh (.list L)) (b:= .al 6) rfl rfl ?_
    simp [dw,dI,look,Sl.val,vi cmp]
  have w:cL (jR [3] 1 b8 (af false (ad 0) am) ["NoMove","TooLong"] aI 4) (ah dw false (ad 3) (ad 6)) [.sh (.int z), .sh (.list G), .sh (.int k), .sh (.list L), .ow (pj::L), .ow oo, .ow L, .sh o]=some (.sh (.bool true),[.sh (.int z), .sh (.list G), .sh (.int k), .sh (.list L), .ow (pj::L), .ow oo, .ow L, .sh o]):=by
    unfold cL
    rw [r5]
    exact q
  unfold aV
  rw [w]
  rfl
theorem kO (ns:List Int) (k:Nat):a_ [.list (ns.map .int), .int k]=some (.sh (.int (ns.getD k 0))):=by
  simp only [a_,da,List.length_cons,List.length_nil,Nat.zero_add,Nat.reduceAdd,cU,ii,aP,bn,cS,ah,ad,aM,List.map_cons,List.map_nil,Nat.sub_self,List.replicate,List.cons_append,List.nil_append,List.getElem?_cons_succ,List.getElem?_cons_zero,Sl.isBr,Bool.false_and,Bool.false_eq_true,bY,af,am,Option.map_some,if_false,dt,dI,look,Sl.val,dB,Cm.i,Cm.s,Option.bind_some,az,aV,cI,d5,cR,aQ,pC,cT,bM,if_true]
  by_cases h:k < ns.length
  · simp [h,dA,bW,cT,bM]
  · simp [h,List.getElem?_eq_none (Nat.le_of_not_lt h),bW,cT,bM]
theorem gZ (x0:Sl):∀(c:List Pc) (st:List Pc) (a b d:Sl),st.length+c.length≤100000→∃a' b' d',cM aR aS (c.map ay) [x0, .ow (st.reverse.map ay),a,b,d]=some ([x0, .ow ((c.foldl NH.stp st).reverse.map ay),a',b',d'], .nx)
  | [],st,a,b,d,_=>⟨a,b,d,rfl⟩
  | p::c,st,a,b,d,h=>by
    have step:∃a' b' d',(aR (ay p) [x0, .ow (st.reverse.map ay),a,b,d]).bind aS=some ([x0, .ow ((NH.stp st p).reverse.map ay),a',b',d'], .nx):=by
      cases st with
      | nil=>
        by_cases z:p.2=0
        · simp only [aR,e_,ay,z,List.length_cons,List.length_nil,Nat.zero_add,Nat.reduceAdd,cm,be,List.reverse_nil,List.map_nil,Nat.reduceLT,List.set_cons_succ,List.set_cons_zero,if_true,Option.bind_some,e9,List.isEmpty_nil,aS,dw,kA,aP,bc,ad,List.getElem?_cons_succ,List.getElem?_cons_zero,PL.settle,frz,frzAll,bn,iZ,bX,Sl.val,cS,ah,Sl.isBr,Bool.false_and,Bool.false_eq_true,dH,pC,look,fq,Option.map_some,cI,d5,cR,if_false,dI,lw,bH,aQ,dJ,cY,aG,aa,ar,eM,Bool.not_true,Option.any_some,Nat.reduceSub,cp,decide_true,Nat.reduceLeDiff,List.nil_append,NH.stp]
          exact ⟨_,_,_,rfl⟩
        · simp only [aR,e_,ay,List.length_cons,List.length_nil,Nat.zero_add,Nat.reduceAdd,cm,be,List.reverse_nil,List.map_nil,Nat.reduceLT,List.set_cons_succ,List.set_cons_zero,if_true,Option.bind_some,e9,List.isEmpty_nil,aS,dw,kA,aP,bc,ad,List.getElem?_cons_succ,List.getElem?_cons_zero,PL.settle,frz,frzAll,bn,iZ,bX,Sl.val,cS,ah,Sl.isBr,Bool.false_and,Bool.false_eq_true,dH,pC,look,fq,Option.map_some,cI,d5,cR,if_false,dI,lw,bH,aQ,dJ,cY,aG,aa,ar,eM,Bool.not_true,Option.any_some,Nat.reduceSub,cp,z,decide_false,Bool.not_false,Nat.reduceLeDiff,List.nil_append,NH.stp]
          exact ⟨_,_,_,rfl⟩
      | cons q st=>
        have lb:st.length < 1000000∧st.length+1 < 1000000:=by simp at h;omega
        by_cases e:q.1=p.1
        · by_cases z:q.2+p.2=0
          · simp only [aR,e_,cm,be,List.reverse_cons,List.map_append,List.map_cons,List.map_nil,List.length_cons,List.length_nil,Nat.zero_add,Nat.reduceAdd,Nat.reduceLT,List.set_cons_succ,List.set_cons_zero,if_true,Option.bind_some,e9,aS,dw,kA,NH.stp]
            simp only [ay,List.length_cons,List.length_nil,Nat.zero_add,Nat.reduceAdd,List.isEmpty_nil,e,if_true,Option.bind_some,aP,bc,ad,List.getElem?_cons_succ,List.getElem?_cons_zero,PL.settle,frz,frzAll,Nat.reduceLT,List.set_cons_succ,List.set_cons_zero,bn,iZ,bX,Sl.val,cS,ah,Sl.isBr,Bool.false_and,Bool.false_eq_true,dH,pC,look,fq,Option.map_some,cI,d5,cR,if_false,dI,lw,bH,aQ,dJ,cY,aG,aa,ar,eM,ji,Bool.not_false,Option.any_some,jh,eK,bo,decide_true,List.dropLast_concat,lz,fV,Bool.true_or,Bool.and_true,z,cp,Bool.not_true,Nat.reduceLeDiff]
            simp [ay]
          · simp only [aR,e_,cm,be,List.reverse_cons,List.map_append,List.map_cons,List.map_nil,List.length_cons,List.length_nil,Nat.zero_add,Nat.reduceAdd,Nat.reduceLT,List.set_cons_succ,List.set_cons_zero,if_true,Option.bind_some,e9,aS,dw,kA,NH.stp]
            simp only [ay,List.length_cons,List.length_nil,Nat.zero_add,Nat.reduceAdd,List.isEmpty_nil,e,if_true,Option.bind_some,aP,bc,ad,List.getElem?_cons_succ,List.getElem?_cons_zero,PL.settle,frz,frzAll,Nat.reduceLT,List.set_cons_succ,List.set_cons_zero,bn,iZ,bX,Sl.val,cS,ah,Sl.isBr,Bool.false_and,Bool.false_eq_true,dH,pC,look,fq,Option.map_some,cI,d5,cR,if_false,dI,lw,bH,aQ,dJ,cY,aG,aa,ar,eM,ji,Bool.not_false,Option.any_some,jh,eK,bo,decide_true,List.dropLast_concat,lz,fV,Bool.true_or,Bool.and_true,cp,z,decide_false,Nat.reduceLeDiff,List.length_map,List.length_reverse,lb]
            simp [ay]
        · by_cases z:p.2=0
          · simp only [aR,e_,cm,be,List.reverse_cons,List.map_append,List.map_cons,List.map_nil,List.length_cons,List.length_nil,Nat.zero_add,Nat.reduceAdd,Nat.reduceLT,List.set_cons_succ,List.set_cons_zero,if_true,Option.bind_some,e9,aS,dw,kA,NH.stp]
            simp only [ay,z,List.length_cons,List.length_nil,Nat.zero_add,Nat.reduceAdd,List.isEmpty_nil,if_true,Option.bind_some,aP,bc,ad,List.getElem?_cons_succ,List.getElem?_cons_zero,PL.settle,frz,frzAll,Nat.reduceLT,List.set_cons_succ,List.set_cons_zero,bn,iZ,bX,Sl.val,cS,ah,Sl.isBr,Bool.false_and,Bool.false_eq_true,dH,pC,look,fq,Option.map_some,cI,d5,cR,if_false,dI,lw,bH,aQ,dJ,cY,aG,aa,ar,eM,ji,Bool.not_false,Option.any_some,jh,eK,bo,eN,e,decide_false,List.dropLast_concat,lz,fV,Bool.true_or,Bool.and_true,cp,decide_true,Bool.not_true,Nat.reduceLeDiff]
            simp [ay]
          · simp only [aR,e_,cm,be,List.reverse_cons,List.map_append,List.map_cons,List.map_nil,List.length_cons,List.length_nil,Nat.zero_add,Nat.reduceAdd,Nat.reduceLT,List.set_cons_succ,List.set_cons_zero,if_true,Option.bind_some,e9,aS,dw,kA,NH.stp]
            simp only [ay,List.length_cons,List.length_nil,Nat.zero_add,Nat.reduceAdd,List.isEmpty_nil,if_true,Option.bind_some,aP,bc,ad,List.getElem?_cons_succ,List.getElem?_cons_zero,PL.settle,frz,frzAll,Nat.reduceLT,List.set_cons_succ,List.set_cons_zero,bn,iZ,bX,Sl.val,cS,ah,Sl.isBr,Bool.false_and,Bool.false_eq_true,dH,pC,look,fq,Option.map_some,cI,d5,cR,if_false,dI,lw,bH,aQ,dJ,cY,aG,aa,ar,eM,ji,Bool.not_false,Option.any_some,jh,eK,bo,eN,e,decide_false,List.dropLast_concat,List.length_append,List.length_map,List.length_reverse,cp,z,Nat.reduceLeDiff,lb]
            simp [ay]
    obtain ⟨a',b',d',e⟩:=step
    have ih:=gZ x0 c (NH.stp st p) a' b' d' (by have:=NH.ue st p;simp at h;omega)
    obtain ⟨a2,b2,d2,e2⟩:=ih
    refine ⟨a2,b2,d2,?_⟩
    rw [List.map_cons,cM,e]
    exact e2
theorem fz (c:List Pc) (h:c.length≤100000):aT [.list (c.map ay)]=some (.ow ((NH.short c).map ay)):=by
  obtain ⟨a,b,d,e⟩:=gZ (.sh (.list (c.map ay))) c [] .no .no .no (by simpa using h)
  simp only [List.reverse_nil,List.map_nil] at e
  simp only [aT,da,List.length_cons,List.length_nil,Nat.zero_add,cU,eO,aP,bc,bi,ar,aM,List.map_cons,List.map_nil,Nat.reduceSub,List.replicate,List.cons_append,List.nil_append,Option.bind_some,Nat.reduceLeDiff,if_true,PL.settle,frz,frzAll,Nat.reduceAdd,Nat.reduceLT,List.set_cons_succ,List.set_cons_zero,g9,du,ad,aV,List.getElem?_cons_zero,e,List.getElem?_cons_succ,Option.map_some,cT,bM,cN,Option.some.injEq]
  rfl
theorem i8:∀(d:List Pc) (x0 x1:Sl),db dY cA cW (d.map ay) [x0,x1]=some ((d.map fun p=>((p.1,-p.2):Pc)).map ay)
  | [],x0,x1=>rfl
  | p::d,x0,x1=>by
    have e:(dY (ay p) [x0,x1])=some [.sh (.str ⟨#[p.1]⟩), .sh (.int p.2)]:=rfl
    have e2:cW [.sh (.str ⟨#[p.1]⟩), .sh (.int p.2)]=some (.sh (ay (p.1,-p.2)),[.sh (.str ⟨#[p.1]⟩), .sh (.int p.2)]):=by
      simp only [cW,aG,aa,ad,List.getElem?_cons_zero,frz,dH,look,Sl.val,fq,ar,Option.map_some,Option.bind_some,List.getElem?_cons_succ,List.length_cons,List.length_nil,Nat.zero_add,Nat.reduceAdd,Nat.reduceLeDiff,if_true,ay]
    rw [List.map_cons,db,e,Option.bind_some]
    simp only [cA,frz,Option.bind_some,e2,i8 d,Option.map_some,if_true,List.map_cons]
theorem ni (c:List Pc) (h:c.length≤1000000):df [.list (c.map ay)]=some (.ow ((NH.contr c).map ay)):=by
  have hl:(NH.contr c).length=c.length:=NH.hV c
  have e:(c.reverse.map fun p=>((p.1,-p.2):Pc))=NH.contr c:=rfl
  have k:=i8 c.reverse .no .no
  rw [e,List.map_reverse] at k
  simp only [df,da,List.length_cons,List.length_nil,Nat.zero_add,cU,fP,aV,dc,oV,ad,aM,List.map_cons,List.map_nil,Nat.sub_self,List.replicate,List.cons_append,List.nil_append,List.getElem?_cons_zero,frz,Option.bind_some,fM,kF,k,cN,List.length_map,hl,h,decide_true,Bool.and_true,if_true,cT,bM]
theorem lU {tg:gJ} {elt:bz} {d r:PyData} {ds rs:List PyData} {E E1:List Sl} (t:tg d E=some E1) (el:elt E1=some (.sh r,E1)) (h:db tg cA elt ds E1=some rs):db tg cA elt (d::ds) E=some (r::rs):=by
  rw [db,t,Option.bind_some]
  simp only [cA,Option.bind_some,el,frz,h,Option.map_some,if_true]
theorem kP {α:Type} (a b c d:α) (l:List α):atI (a::b::c::d::l) 3=some d:=dA (a::b::c::d::l) 3
theorem yK:((Str.ofString "turn")=(Str.ofString "slide"))=False:=eq_false (by decide+kernel)
theorem vQ:((Str.ofString "change")=(Str.ofString "turn"))=False:=eq_false (by decide+kernel)
theorem yL:((Str.ofString "change")=(Str.ofString "slide"))=False:=eq_false (by decide+kernel)
theorem pq:((Str.ofString "slide")=(Str.ofString "turn"))=False:=eq_false (by decide+kernel)
theorem pv:((Str.ofString "slide")=(Str.ofString "change"))=False:=eq_false (by decide+kernel)
theorem fA {n m:Nat} {t:Int} {p:Pc} (h:p.1=n):(ft (.slide n m t) p).length=2*p.2.natAbs:=by
  simp only [ft,h,if_true]
  split <;> (rw [NH.xj];simp [Nat.mul_comm])
def lZ (n:Nat) (c:List Pc):Int:=(c.map fun p=>if p.1=n then 2*(p.2.natAbs:Int) else 1).sum
theorem tj:∀zs:List Int,kK (zs.map .int)=some zs
  | []=>rfl
  | z::zs=>by simp only [List.map_cons,kK,tj zs,Option.map_some]
theorem kQ:∀zs:List Int,bx (zs.map .int)=true
  | []=>rfl
  | z::zs=>by simp [bx,bW,kQ zs]
theorem tm {n m:Nat} {t:Int}:∀c:List Pc,((c.flatMap (ft (.slide n m t))).length:Int)≤lZ n c
  | []=>by simp [lZ]
  | p::c=>by
    have ih:=tm (n:=n) (m:=m) (t:=t) c
    rw [List.flatMap_cons,List.length_append]
    unfold lZ at ih ⊢
    rw [List.map_cons,List.sum_cons]
    by_cases h:p.1=n
    · rw [fA h,if_pos h]
      omega
    · have:(ft (.slide n m t) p).length=1:=by simp [ft,h]
      rw [this,if_neg h]
      omega
def nz (n:Nat):Prop:=97≤n∧n≤122
def MvL:Mv→Prop
  | .turn n=>nz n
  | .change n m=>nz n∧nz m∧n≠m
  | .slide n m _=>nz n∧nz m∧n≠m
theorem MvL.ok:∀{mv:Mv},MvL mv→mv.ok
  | .turn _,_=>trivial
  | .change _ _,h=>h.2.2
  | .slide _ _ _,h=>h.2.2
theorem yM:(Str.ofString "a").cps.toList=[97]:=by decide+kernel
theorem yN:(Str.ofString "z").cps.toList=[122]:=by decide+kernel
theorem zO {n:Nat} (h:nz n):decide ([n] < (Str.ofString "a").cps.toList)=false:=by
  have h1:=h.1
  rw [yM]
  refine decide_eq_false fun z=>?_
  rcases List.cons_lt_cons_iff.mp z with z | z
  · omega
  · exact absurd z.2 (by simp)
theorem zP {n:Nat} (h:nz n):decide ((Str.ofString "z").cps.toList < [n])=false:=by
  have h2:=h.2
  rw [yN]
  refine decide_eq_false fun z=>?_
  rcases List.cons_lt_cons_iff.mp z with z | z
  · omega
  · exact absurd z.2 (by simp)
theorem hU (n:Nat) (h:nz n):cq [.str ⟨#[n]⟩]=some (.sh (.bool true)):=by
  have l:(⟨#[n]⟩:Str).length=1:=rfl
  have a:=zO h
  have z:=zP h
  simp only [cq,da,List.length_cons,List.length_nil,Nat.zero_add,cU,gN,aV,cL,dH,ad,aM,List.map_cons,List.map_nil,Nat.sub_self,List.replicate,List.cons_append,List.nil_append,List.getElem?_cons_zero,look,Sl.val,eW,Ty.is,tK,Option.bind_some,Option.map_some,ah,bY,af,Sl.isBr,Bool.false_and,Bool.false_eq_true,am,if_false,dt,pC,dw,dI,jC,Bool.or_false,dB,Cm.i,Cm.s,az,l,Nat.reduceLeDiff,Int.cast_ofNat_Int,if_true,cp,decide_true,z,Bool.not_false,a,cT,bM,bW]
theorem nj (z:Int):de [.int z]=some (.sh (.bool true)):=by
  simp only [de,da,List.length_cons,List.length_nil,Nat.zero_add,cU,fO,aV,cL,dH,ad,aM,List.map_cons,List.map_nil,Nat.sub_self,List.replicate,List.cons_append,List.nil_append,List.getElem?_cons_zero,look,Sl.val,eW,Ty.is,tK,Option.bind_some,Option.map_some,ux,Bool.not_false,cT,bM,bW,if_true]
theorem ik {n m:Nat} (h1:nz n) (h2:nz m) (ne:n≠m):bD [.str ⟨#[n]⟩, .str ⟨#[m]⟩]=some (.sh (.bool true)):=by
  have e1:=hU n h1
  have e2:=hU m h2
  simp only [bD,da,List.length_cons,List.length_nil,Nat.zero_add,Nat.reduceAdd,cU,cZ,aV,cL,ao,af,ad,aM,List.map_cons,List.map_nil,Nat.sub_self,List.replicate,List.cons_append,List.nil_append,List.getElem?_cons_zero,Sl.isBr,Bool.false_and,Bool.false_eq_true,am,Option.map_some,if_false,Option.bind_some,az,look,Sl.val,e1,ah,kA,dI,List.getElem?_cons_succ,e2,bo,eN,ne,decide_false,Bool.not_false,cT,bM,bW,if_true]
theorem j5:∀(mv:Mv),MvL mv→aE [aD mv]=some (.sh (.bool true))
  | .turn n,h=>by
    have e1:=hU n h
    simp only [aE,da,aD,List.length_cons,List.length_nil,Nat.zero_add,cU,eR,aP,bn,kb,bA,bX,dH,ad,aM,List.map_cons,List.map_nil,Nat.sub_self,List.replicate,List.cons_append,List.nil_append,List.getElem?_cons_zero,look,Sl.val,eW,Ty.is,tK,Option.bind_some,Option.map_some,eM,Bool.not_true,cS,ah,bY,af,Sl.isBr,Bool.false_and,Bool.false_eq_true,am,if_false,dt,pC,dw,dI,az,Nat.reduceAdd,Int.cast_ofNat_Int,cp,Int.reduceEq,decide_false,aV,aQ,cI,d5,cR,cL,ao,eK,bo,decide_true,fV,e1,if_true,cT,bM,bW]
  | .change n m,h=>by
    have e1:=ik h.1 h.2.1 h.2.2
    simp only [aE,da,aD,List.length_cons,List.length_nil,Nat.zero_add,cU,eR,aP,bn,kb,bA,bX,dH,ad,aM,List.map_cons,List.map_nil,Nat.sub_self,List.replicate,List.cons_append,List.nil_append,List.getElem?_cons_zero,look,Sl.val,eW,Ty.is,tK,Option.bind_some,Option.map_some,eM,Bool.not_true,cS,ah,bY,af,Sl.isBr,Bool.false_and,Bool.false_eq_true,am,if_false,dt,pC,dw,dI,az,Nat.reduceAdd,Int.cast_ofNat_Int,cp,Int.reduceEq,decide_false,aV,aQ,cI,d5,cR,cL,ao,eK,bo,vQ,decide_true,fV,mG,e1,if_true,cT,bM,bW]
  | .slide n m t,h=>by
    have e1:=ik h.1 h.2.1 h.2.2
    have e2:=nj t
    simp only [aE,da,aD,List.length_cons,List.length_nil,Nat.zero_add,cU,eR,aP,bn,kb,bA,bX,dH,ad,aM,List.map_cons,List.map_nil,Nat.sub_self,List.replicate,List.cons_append,List.nil_append,List.getElem?_cons_zero,look,Sl.val,eW,Ty.is,tK,Option.bind_some,Option.map_some,eM,Bool.not_true,cS,ah,bY,af,Sl.isBr,Bool.false_and,Bool.false_eq_true,am,if_false,dt,pC,dw,dI,az,Nat.reduceAdd,Int.cast_ofNat_Int,cp,Int.reduceEq,decide_false,aV,aQ,cI,d5,cR,cL,ao,eK,bo,pq,pv,decide_true,fV,mG,e1,kP,e2,if_true,cT,bM,bW]
theorem nk (x0:Sl):∀(ms:List Mv) (a:Sl),(∀mv∈ms,MvL mv)→∃a',cM aH aC (ms.map aD) [x0,a]=some ([x0,a'], .nx)
  | [],a,_=>⟨a,rfl⟩
  | mv::ms,a,h=>by
    have e1:=j5 mv (h mv (List.mem_cons_self ..))
    have e:(aH (aD mv) [x0,a]).bind aC=some ([x0, .sh (aD mv)], .nx):=by
      simp only [aH,be,List.length_cons,List.length_nil,Nat.zero_add,Nat.reduceAdd,Nat.reduceLT,List.set_cons_succ,List.set_cons_zero,if_true,aC,Option.bind_some,bn,bA,bX,ao,af,ad,List.getElem?_cons_succ,List.getElem?_cons_zero,Sl.isBr,Bool.false_and,Bool.false_eq_true,am,Option.map_some,if_false,az,look,Sl.val,e1,eM,Bool.not_true,aQ]
    obtain ⟨a',ih⟩:=nk x0 ms (.sh (aD mv)) fun r hr=>h r (List.mem_cons_of_mem _ hr)
    refine ⟨a',?_⟩
    rw [List.map_cons,cM,e]
    exact ih
theorem gD (ms:List Mv) (h:∀mv∈ms,MvL mv):aN [.list (ms.map aD)]=some (.sh .none):=by
  obtain ⟨a,e⟩:=nk (.sh (.list (ms.map aD))) ms .no h
  simp only [aN,da,List.length_cons,List.length_nil,Nat.zero_add,cU,dZ,aP,bn,bA,bX,dH,ad,aM,List.map_cons,List.map_nil,Nat.reduceSub,List.replicate,List.cons_append,List.nil_append,List.getElem?_cons_zero,look,Sl.val,eW,Ty.is,tK,Option.bind_some,Option.map_some,eM,Bool.not_true,aQ,Bool.false_eq_true,if_false,g9,du,frz,e,cT,bM,if_true]
theorem qx (n:Nat) (x:PyData) (mv:PyData) (p:Pc) (h:∃r,mv= .tuple (x:: .str ⟨#[n]⟩::r)):bg [.sh (.str ⟨#[p.1]⟩), .sh (.int p.2), .sh mv]=some (.sh (.int (if p.1=n then 2*(p.2.natAbs:Int) else 1)),[.sh (.str ⟨#[p.1]⟩), .sh (.int p.2), .sh mv]):=by
  obtain ⟨r,rfl⟩:=h
  have a0:(if p.2 < 0 then -p.2 else p.2)=(p.2.natAbs:Int):=by split <;> omega
  have m2:∀i:Int,iV 2 i=true:=fun i=>o9 (by decide) (by decide)
  by_cases e:p.1=n
  · simp only [bg,tJ,cS,ah,ad,e,List.getElem?_cons_zero,Sl.isBr,Bool.false_and,Bool.false_eq_true,pC,cI,look,Sl.val,d5,cR,Option.bind_some,if_false,dw,dI,List.getElem?_cons_succ,fV,Option.map_some,bo,decide_true,bY,af,am,iB,iz,Int.reduceNeg,Bool.not_false,Bool.true_or,Bool.and_true,az,a0,m2,if_true]
  · simp only [bg,tJ,cS,ah,ad,List.getElem?_cons_zero,Sl.isBr,Bool.false_and,Bool.false_eq_true,pC,cI,look,Sl.val,d5,cR,Option.bind_some,if_false,dw,dI,List.getElem?_cons_succ,fV,Option.map_some,bo,eN,e,decide_false,bY,af,am,iB,iz,Int.reduceNeg,Bool.not_false,Bool.true_or,Bool.and_true,az]
theorem kR (n:Nat) (x:PyData) (mv:PyData) (h:∃r,mv= .tuple (x:: .str ⟨#[n]⟩::r)):∀(c:List Pc) (a b:Sl),db bO cA bg (c.map ay) [a,b, .sh mv]=some ((c.map fun p=>if p.1=n then 2*(p.2.natAbs:Int) else 1).map .int)
  | [],a,b=>rfl
  | p::c,a,b=>by
    have e:bO (ay p) [a,b, .sh mv]=some [.sh (.str ⟨#[p.1]⟩), .sh (.int p.2), .sh mv]:=rfl
    rw [List.map_cons,List.map_cons,List.map_cons]
    exact lU e (qx n x mv p h) (kR n x mv h c _ _)
theorem i9 (n:Nat) (c:List PyData):av [.list c,aD (.turn n)]=some (.sh (.int c.length)):=by
  simp only [av,da,aD,List.length_cons,List.length_nil,Nat.zero_add,Nat.reduceAdd,cU,bL,aP,bn,kb,cS,ah,ad,aM,List.map_cons,List.map_nil,Nat.sub_self,List.replicate,List.cons_append,List.nil_append,List.getElem?_cons_succ,List.getElem?_cons_zero,Sl.isBr,Bool.false_and,Bool.false_eq_true,pC,cI,look,Sl.val,d5,cR,Option.bind_some,if_false,eK,Option.map_some,kA,dI,bo,yK,decide_false,Bool.not_false,dw,if_true,aV,bY,af,am,dt,aQ,az,mI,cT,bM,bW]
theorem nn (n m:Nat) (c:List PyData):av [.list c,aD (.change n m)]=some (.sh (.int c.length)):=by
  simp only [av,da,aD,List.length_cons,List.length_nil,Nat.zero_add,Nat.reduceAdd,cU,bL,aP,bn,kb,cS,ah,ad,aM,List.map_cons,List.map_nil,Nat.sub_self,List.replicate,List.cons_append,List.nil_append,List.getElem?_cons_succ,List.getElem?_cons_zero,Sl.isBr,Bool.false_and,Bool.false_eq_true,pC,cI,look,Sl.val,d5,cR,Option.bind_some,if_false,eK,Option.map_some,kA,dI,bo,yL,decide_false,Bool.not_false,dw,if_true,aV,bY,af,am,dt,aQ,az,mI,cT,bM,bW]
theorem i_ (n m:Nat) (c:List PyData):av [.list c,aD (.slide n m 0)]=some (.sh (.int c.length)):=by
  simp only [av,da,aD,List.length_cons,List.length_nil,Nat.zero_add,Nat.reduceAdd,cU,bL,aP,bn,kb,cS,ah,ad,aM,List.map_cons,List.map_nil,Nat.sub_self,List.replicate,List.cons_append,List.nil_append,List.getElem?_cons_succ,List.getElem?_cons_zero,Sl.isBr,Bool.false_and,Bool.false_eq_true,pC,cI,look,Sl.val,d5,cR,Option.bind_some,if_false,eK,Option.map_some,kA,dI,bo,decide_true,Bool.not_true,dw,kP,cp,aV,bY,af,am,dt,aQ,az,if_true,mI,cT,bM,bW]
theorem oq (ds:List PyData) (n m:Nat) (t:Int) (ht:t≠0) (zs:List Int) (l:zs.length≤1000000) (k:db bO cA bg ds [.no, .no, .sh (aD (.slide n m t))]=some (zs.map .int)):av [.list ds,aD (.slide n m t)]=some (.sh (.int zs.sum)):=by
  have fl:=kQ zs
  have il:=tj zs
  simp only [aD] at k ⊢
  simp only [av,da,List.length_cons,List.length_nil,Nat.zero_add,Nat.reduceAdd,cU,bL,aP,bn,kb,cS,ah,ad,aM,List.map_cons,List.map_nil,Nat.sub_self,List.replicate,List.cons_append,List.nil_append,List.getElem?_cons_succ,List.getElem?_cons_zero,Sl.isBr,Bool.false_and,Bool.false_eq_true,pC,cI,look,Sl.val,d5,cR,Option.bind_some,if_false,eK,Option.map_some,kA,dI,bo,decide_true,Bool.not_true,dw,kP,cp,ht,decide_false,aV,bY,af,am,dt,aQ,az,dc,du,frz,fM,kF,mI,k,fl,List.length_map,l,Bool.and_true,if_true,il,cT,bM,bW]
theorem ja (n m:Nat) (t:Int) (ht:t≠0) (c:List Pc) (hl:c.length≤100000):av [.list (c.map ay),aD (.slide n m t)]=some (.sh (.int (lZ n c))):=
  oq _ n m t ht _ (by simp;omega) (kR n _ _ ⟨_,rfl⟩ c .no .no)
theorem qy (n:Nat) (p:Pc):dg [.sh (.str ⟨#[p.1]⟩), .sh (.int p.2), .sh (.str ⟨#[n]⟩)]=some (.sh (ay (if p.1=n then (p.1,-p.2) else p)),[.sh (.str ⟨#[p.1]⟩), .sh (.int p.2), .sh (.str ⟨#[n]⟩)]):=by
  by_cases e:p.1=n
  · simp only [dg,aG,aa,ad,List.getElem?_cons_zero,frz,tJ,cS,ah,Sl.isBr,Bool.false_and,Bool.false_eq_true,dw,dI,look,Sl.val,if_false,dH,fq,ar,Option.map_some,Option.bind_some,List.getElem?_cons_succ,bo,eN,eq_true e,decide_true,if_true,List.length_cons,List.length_nil,Nat.zero_add,Nat.reduceAdd,Nat.reduceLeDiff,ay]
  · simp only [dg,aG,aa,ad,List.getElem?_cons_zero,frz,tJ,cS,ah,Sl.isBr,Bool.false_and,Bool.false_eq_true,dw,dI,look,Sl.val,if_false,dH,fq,ar,Option.map_some,Option.bind_some,List.getElem?_cons_succ,bo,eN,e,decide_false,List.length_cons,List.length_nil,Nat.zero_add,Nat.reduceAdd,Nat.reduceLeDiff,if_true,ay]
theorem kS (n:Nat):∀(c:List Pc) (a b:Sl),db fi cA dg (c.map ay) [a,b, .sh (.str ⟨#[n]⟩)]=some ((c.flatMap (ft (.turn n))).map ay)
  | [],a,b=>rfl
  | p::c,a,b=>by
    have e:fi (ay p) [a,b, .sh (.str ⟨#[n]⟩)]=some [.sh (.str ⟨#[p.1]⟩), .sh (.int p.2), .sh (.str ⟨#[n]⟩)]:=rfl
    have f:ft (.turn n) p=[if p.1=n then (p.1,-p.2) else p]:=by
      simp only [ft]
      split <;> rfl
    rw [List.map_cons,List.flatMap_cons,f,List.singleton_append,List.map_cons]
    exact lU e (qy n p) (kS n c _ _)
theorem gP (n:Nat):∀c:List Pc,(c.flatMap (ft (.turn n))).length=c.length
  | []=>rfl
  | p::c=>by
    have:(ft (.turn n) p).length=1:=by simp only [ft];split <;> rfl
    rw [List.flatMap_cons,List.length_append,this,gP n c,List.length_cons]
    omega
theorem iR (n m:Nat):∀c:List Pc,(c.flatMap (ft (.change n m))).length=c.length
  | []=>rfl
  | p::c=>by
    have:(ft (.change n m) p).length=1:=by
      simp only [ft]
      split
      · rfl
      · split <;> rfl
    rw [List.flatMap_cons,List.length_append,this,iR n m c,List.length_cons]
    omega
theorem qz (n:Nat) (c:List Pc) (hl:c.length≤100000):dP [.list (c.map ay), .str ⟨#[n]⟩]=some (.ow ((c.flatMap (ft (.turn n))).map ay)):=by
  have k:=kS n c .no .no
  have l:(c.flatMap (ft (.turn n))).length≤1000000:=by rw [gP];omega
  simp only [dP,da,List.length_cons,List.length_nil,Nat.zero_add,Nat.reduceAdd,cU,ig,aV,dc,du,ad,aM,List.map_cons,List.map_nil,Nat.sub_self,List.replicate,List.cons_append,List.nil_append,List.getElem?_cons_zero,frz,Option.bind_some,fM,kF,List.getElem?_cons_succ,Sl.val,k,cN,List.length_map,l,decide_true,Bool.and_true,if_true,cT,bM]
abbrev g0 (n m:Nat):PyData:= .dict [(.str ⟨#[n]⟩, .str ⟨#[m]⟩),(.str ⟨#[m]⟩, .str ⟨#[n]⟩)]
theorem vj (n m:Nat) (h:n≠m) (x0 x3:Sl):mC (((ad 1),(ad 2))::(((ad 2),(ad 1))::[])) [x0, .sh (.str ⟨#[n]⟩), .sh (.str ⟨#[m]⟩),x3]=some (.sh (g0 n m),[x0, .sh (.str ⟨#[n]⟩), .sh (.str ⟨#[m]⟩),x3]):=by
  have e:ly (((ad 1),(ad 2))::(((ad 2),(ad 1))::[])) [x0, .sh (.str ⟨#[n]⟩), .sh (.str ⟨#[m]⟩),x3]=some ([(.str ⟨#[n]⟩, .str ⟨#[m]⟩),(.str ⟨#[m]⟩, .str ⟨#[n]⟩)],[x0, .sh (.str ⟨#[n]⟩), .sh (.str ⟨#[m]⟩),x3]):=rfl
  have k:lx [(.str ⟨#[n]⟩, .str ⟨#[m]⟩),(.str ⟨#[m]⟩, .str ⟨#[n]⟩)]=some [.inr ⟨#[n]⟩, .inr ⟨#[m]⟩]:=rfl
  have nd:([.inr ⟨#[n]⟩, .inr ⟨#[m]⟩]:List bZ).Nodup:=by
    simp only [List.nodup_cons,List.mem_singleton,Sum.inr.injEq,eN,h,List.not_mem_nil,not_false_eq_true,List.nodup_nil,and_self]
  unfold mC
  rw [e]
  simp only [Option.bind_some,k]
  rw [decide_eq_true nd]
  rfl
theorem vk (n m x:Nat) (b:Sl):oZ (ad 2) (ad 0) (ad 0) [.sh (.str ⟨#[x]⟩),b, .sh (g0 n m)]=some (.sh (.str ⟨#[if x=n then m else if x=m then n else x]⟩),[.sh (.str ⟨#[x]⟩),b, .sh (g0 n m)]):=by
  have g:kc [(.str ⟨#[n]⟩, .str ⟨#[m]⟩),(.str ⟨#[m]⟩, .str ⟨#[n]⟩)] (.inr ⟨#[x]⟩)=if n=x then some (.str ⟨#[m]⟩) else if m=x then some (.str ⟨#[n]⟩) else none:=by
    simp only [kc,jI,Option.some.injEq,Sum.inr.injEq,eN]
  have e:oZ (ad 2) (ad 0) (ad 0) [.sh (.str ⟨#[x]⟩),b, .sh (g0 n m)]=(if bW ((kc [(.str ⟨#[n]⟩, .str ⟨#[m]⟩),(.str ⟨#[m]⟩, .str ⟨#[n]⟩)] (.inr ⟨#[x]⟩)).getD (.str ⟨#[x]⟩)) then some (.sh ((kc [(.str ⟨#[n]⟩, .str ⟨#[m]⟩),(.str ⟨#[m]⟩, .str ⟨#[n]⟩)] (.inr ⟨#[x]⟩)).getD (.str ⟨#[x]⟩)),[.sh (.str ⟨#[x]⟩),b, .sh (g0 n m)]) else none):=rfl
  rw [e,g]
  by_cases h1:x=n
  · have h1':n=x:=h1.symm
    simp only [h1,if_true,Option.getD_some,bW]
  · have h1':¬n=x:=fun z=>h1 z.symm
    by_cases h2:x=m
    · have h2':m=x:=h2.symm
      simp only [h1,h1',h2,if_true,if_false,Option.getD_some,bW]
      simp [show ¬n=m from fun z=>h1' (z.trans h2'),show ¬m=n from fun z=>h1' (z.symm.trans h2'),bW]
    · have h2':¬m=x:=fun z=>h2 z.symm
      simp only [h1,h1',h2,h2',if_true,if_false,Option.getD_none,bW]
theorem ot (n m:Nat) (p:Pc):dE [.sh (.str ⟨#[p.1]⟩), .sh (.int p.2), .sh (g0 n m)]=some (.sh (ay ((if p.1=n then m else if p.1=m then n else p.1),p.2)),[.sh (.str ⟨#[p.1]⟩), .sh (.int p.2), .sh (g0 n m)]):=by
  have g:=vk n m p.1 (.sh (.int p.2))
  simp only [dE,aG,aa,ar,g,Option.bind_some,Option.map_some,frz,ad,List.getElem?_cons_zero,List.getElem?_cons_succ,ay,List.length_cons,List.length_nil,Nat.zero_add,Nat.reduceAdd,Nat.reduceLeDiff,if_true]
theorem j6 (n m:Nat):∀(c:List Pc) (a b:Sl),db eP cA dE (c.map ay) [a,b, .sh (g0 n m)]=some ((c.flatMap (ft (.change n m))).map ay)
  | [],a,b=>rfl
  | p::c,a,b=>by
    have e:eP (ay p) [a,b, .sh (g0 n m)]=some [.sh (.str ⟨#[p.1]⟩), .sh (.int p.2), .sh (g0 n m)]:=rfl
    have f:ft (.change n m) p=[((if p.1=n then m else if p.1=m then n else p.1),p.2)]:=by
      simp only [ft]
      split
      · rfl
      · split <;> rfl
    rw [List.map_cons,List.flatMap_cons,f,List.singleton_append,List.map_cons]
    exact lU e (ot n m p) (j6 n m c _ _)
theorem ou (n m:Nat) (h:n≠m) (c:List Pc) (hl:c.length≤100000):c_ [.list (c.map ay), .str ⟨#[n]⟩, .str ⟨#[m]⟩]=some (.ow ((c.flatMap (ft (.change n m))).map ay)):=by
  have k:=j6 n m c .no .no
  have l:(c.flatMap (ft (.change n m))).length≤1000000:=by rw [iR];omega
  have d:=vj n m h (.sh (.list (c.map ay))) .no
  simp only [c_,da,List.length_cons,List.length_nil,Nat.zero_add,Nat.reduceAdd,cU,gO,aP,bc,aM,List.map_cons,List.map_nil,Nat.reduceSub,List.replicate,List.cons_append,List.nil_append,d,PL.settle,frz,frzAll,Option.bind_some,Nat.reduceLT,List.set_cons_succ,List.set_cons_zero,if_true,aV,dc,du,ad,fM,kF,List.getElem?_cons_zero,List.getElem?_cons_succ,Sl.val,k,cN,List.length_map,l,decide_true,Bool.and_true,cT,bM]
def tn (n:Nat) (p:Pc):Pc:=if p.1=n then (p.1,-p.2) else p
theorem px (n:Nat):∀c:List Pc,c.flatMap (ft (.turn n))=c.map (tn n)
  | []=>rfl
  | p::c=>by
    rw [List.flatMap_cons,px n c,List.map_cons]
    simp only [ft,tn]
    split <;> rfl
theorem dD {c:List Pc} (h:NH.Red c):NH.short c=c:=by rw [NH.cB,NH.gb h]
def yO (r:List Pc):Mv→Prop
  | .slide n _ _=>lZ n r≤300
  | _=>True
instance (r:List Pc) (mv:Mv):Decidable (yO r mv):=by
  cases mv <;> (unfold yO;infer_instance)
theorem nq (v:List Pc) (a:Int) (hv:v.length≤10) (ha:a.natAbs≤10000):cj [.list (v.map ay), .int a]=some (.ow ((NH.tL a v).map ay)):=by
  obtain ⟨k,hk⟩:∃k,a.natAbs=k:=⟨_,rfl⟩
  have ec:=ni v (by omega)
  have lk:v.length*k≤1000000:=Nat.le_trans (Nat.mul_le_mul hv (show k≤10000 by omega)) (by decide)
  by_cases neg:a < 0
  · have hk2:(-a).toNat=k:=by omega
    have lm: -1000000≤ -a∧ -a≤1000000:=by omega
    have lc:(NH.contr v).length*k≤1000000:=by rw [NH.hV];exact lk
    have z:NH.tL a v=(List.replicate k (NH.contr v)).flatten:=by simp [NH.tL,neg,NH.pw,hk]
    rw [z]
    simp only [cj,da,List.length_cons,List.length_nil,Nat.zero_add,Nat.reduceAdd,cU,e8,aV,ah,tJ,cS,ad,aM,List.map_cons,List.map_nil,Nat.sub_self,List.replicate,List.cons_append,List.nil_append,List.getElem?_cons_succ,List.getElem?_cons_zero,Sl.isBr,Bool.false_and,Bool.false_eq_true,pC,dI,look,Sl.val,dB,Cm.i,Cm.s,Option.bind_some,if_false,neg,decide_true,Option.map_some,ao,af,am,az,ec,if_true,bY,iB,iz,d5,cR,Bool.not_false,Bool.true_or,Bool.and_true,List.length_map,hk2,lc,lm,and_self,o3,cT,bM,cN]
  · have hk2:a.toNat=k:=by omega
    have lm: -1000000≤a∧a≤1000000:=by omega
    have z:NH.tL a v=(List.replicate k v).flatten:=by simp [NH.tL,neg,NH.pw,hk]
    rw [z]
    simp only [cj,da,List.length_cons,List.length_nil,Nat.zero_add,Nat.reduceAdd,cU,e8,aV,ah,tJ,cS,ad,aM,List.map_cons,List.map_nil,Nat.sub_self,List.replicate,List.cons_append,List.nil_append,List.getElem?_cons_succ,List.getElem?_cons_zero,Sl.isBr,Bool.false_and,Bool.false_eq_true,pC,dI,look,Sl.val,dB,Cm.i,Cm.s,Option.bind_some,if_false,neg,decide_false,Option.map_some,ao,af,am,az,bY,iB,iz,d5,cR,Bool.not_false,Bool.true_or,Bool.and_true,List.length_map,hk2,lk,lm,and_self,decide_true,o3,if_true,cT,bM,cN]
theorem qA (x0 a b:Sl) (n m:Nat) (t:Int) (p:Pc) (f L:List Pc) (h:p.1=n) (e:cj [.list ([((n,1):Pc),(m,t)].map ay), .int p.2]=some (.ow (L.map ay))) (lb:f.length+L.length≤1000000):(dh (ay p) [x0, .sh (.str ⟨#[n]⟩), .sh (.str ⟨#[m]⟩), .sh (.int t), .ow (f.map ay),a,b]).bind di=some ([x0, .sh (.str ⟨#[n]⟩), .sh (.str ⟨#[m]⟩), .sh (.int t), .ow ((f++L).map ay), .sh (.str ⟨#[p.1]⟩), .sh (.int p.2)], .nx):=by
  have tt:dh (ay p) [x0, .sh (.str ⟨#[n]⟩), .sh (.str ⟨#[m]⟩), .sh (.int t), .ow (f.map ay),a,b]=some [x0, .sh (.str ⟨#[n]⟩), .sh (.str ⟨#[m]⟩), .sh (.int t), .ow (f.map ay), .sh (.str ⟨#[p.1]⟩), .sh (.int p.2)]:=rfl
  rw [tt,Option.bind_some]
  simp only [List.map_cons,List.map_nil,ay] at e
  subst h
  simp only [di,bn,cS,ah,ad,List.getElem?_cons_succ,List.getElem?_cons_zero,Sl.isBr,Bool.false_and,Bool.false_eq_true,dw,dI,look,Sl.val,if_false,Option.bind_some,bo,decide_true,Option.map_some,dJ,h8,ao,af,bi,aa,aG,frz,pC,ar,am,cY,List.length_cons,List.length_nil,Nat.zero_add,Nat.reduceAdd,Nat.reduceLeDiff,if_true,az,e,List.length_map,lb,←List.map_append,List.set_cons_succ,List.set_cons_zero]
theorem qB (x0 a b:Sl) (n m:Nat) (t:Int) (p:Pc) (f:List Pc) (h:p.1≠n) (lb:f.length < 1000000):(dh (ay p) [x0, .sh (.str ⟨#[n]⟩), .sh (.str ⟨#[m]⟩), .sh (.int t), .ow (f.map ay),a,b]).bind di=some ([x0, .sh (.str ⟨#[n]⟩), .sh (.str ⟨#[m]⟩), .sh (.int t), .ow ((f++[p]).map ay), .sh (.str ⟨#[p.1]⟩), .sh (.int p.2)], .nx):=by
  have tt:dh (ay p) [x0, .sh (.str ⟨#[n]⟩), .sh (.str ⟨#[m]⟩), .sh (.int t), .ow (f.map ay),a,b]=some [x0, .sh (.str ⟨#[n]⟩), .sh (.str ⟨#[m]⟩), .sh (.int t), .ow (f.map ay), .sh (.str ⟨#[p.1]⟩), .sh (.int p.2)]:=rfl
  have mm:∀v:Pc,(f++[v]).map ay=f.map ay++[PyData.tuple [.str ⟨#[v.1]⟩, .int v.2]]:=fun v=>by simp [ay]
  rw [tt,Option.bind_some,mm]
  simp only [di,bn,cS,ah,ad,List.getElem?_cons_succ,List.getElem?_cons_zero,Sl.isBr,Bool.false_and,Bool.false_eq_true,dw,dI,look,Sl.val,if_false,Option.bind_some,bo,eN,h,decide_false,Option.map_some,dJ,h8,ao,af,bi,aa,aG,frz,pC,ar,am,cY,List.length_cons,List.length_nil,Nat.zero_add,Nat.reduceAdd,Nat.reduceLeDiff,if_true,az,List.length_map,lb,List.set_cons_succ,List.set_cons_zero]
theorem lV (n m:Nat) (t:Int) (p:Pc):ft (.slide n m t) p=if p.1=n then NH.tL p.2 [(n,1),(m,t)] else [p]:=qm n m t p.2 p.1
theorem py (x0:Sl) (n m:Nat) (t:Int):∀(c f:List Pc) (a b:Sl),f.length+(c.flatMap (ft (.slide n m t))).length≤20000→∃a' b',cM dh di (c.map ay) [x0, .sh (.str ⟨#[n]⟩), .sh (.str ⟨#[m]⟩), .sh (.int t), .ow (f.map ay),a,b]=some ([x0, .sh (.str ⟨#[n]⟩), .sh (.str ⟨#[m]⟩), .sh (.int t), .ow ((f++c.flatMap (ft (.slide n m t))).map ay),a',b'], .nx)
  | [],f,a,b,_=>⟨a,b,by simp [cM]⟩
  | p::c,f,a,b,h=>by
    rw [List.flatMap_cons,List.length_append] at h
    have step:(dh (ay p) [x0, .sh (.str ⟨#[n]⟩), .sh (.str ⟨#[m]⟩), .sh (.int t), .ow (f.map ay),a,b]).bind di=some ([x0, .sh (.str ⟨#[n]⟩), .sh (.str ⟨#[m]⟩), .sh (.int t), .ow ((f++ft (.slide n m t) p).map ay), .sh (.str ⟨#[p.1]⟩), .sh (.int p.2)], .nx):=by
      by_cases e:p.1=n
      · have l:=fA (m:=m) (t:=t) e
        have r:=nq [((n,1):Pc),(m,t)] p.2 (by simp) (by omega)
        rw [lV,if_pos e] at h l ⊢
        exact qA x0 a b n m t p f _ e r (by omega)
      · rw [lV,if_neg e]
        exact qB x0 a b n m t p f e (by omega)
    obtain ⟨a2,b2,e2⟩:=py x0 n m t c (f++ft (.slide n m t) p) (.sh (.str ⟨#[p.1]⟩)) (.sh (.int p.2)) (by rw [List.length_append];omega)
    refine ⟨a2,b2,?_⟩
    rw [List.map_cons,cM,step,List.flatMap_cons,←List.append_assoc]
    exact e2
theorem vm (n m:Nat) (t:Int) (c:List Pc) (h:(c.flatMap (ft (.slide n m t))).length≤20000):fQ [.list (c.map ay), .str ⟨#[n]⟩, .str ⟨#[m]⟩, .int t]=some (.ow ((NH.short (c.flatMap (ft (.slide n m t)))).map ay)):=by
  obtain ⟨a,b,e⟩:=py (.sh (.list (c.map ay))) n m t c [] .no .no (by simpa using h)
  have s:=fz (c.flatMap (ft (.slide n m t))) (by omega)
  simp only [List.map_nil,List.nil_append] at e
  simp only [fQ,da,List.length_cons,List.length_nil,Nat.zero_add,Nat.reduceAdd,cU,lP,aP,bc,bi,ar,aM,List.map_cons,List.map_nil,Nat.reduceSub,List.replicate,List.cons_append,List.nil_append,Option.bind_some,Nat.reduceLeDiff,if_true,PL.settle,frz,frzAll,Nat.reduceLT,List.set_cons_succ,List.set_cons_zero,g9,du,ad,aV,ao,af,Sl.isBr,Bool.false_and,Bool.false_eq_true,am,Option.map_some,if_false,List.getElem?_cons_zero,e,List.getElem?_cons_succ,az,look,Sl.val,s,cT,bM,cN]
theorem tu (n:Nat) (c:List Pc) (hl:c.length≤4000):aK [.list (c.map ay),aD (.turn n)]=some (.ow ((c.flatMap (ft (.turn n))).map ay)):=by
  have e1:=i9 n (c.map ay)
  have e2:=qz n c (by omega)
  have g:¬(4000:Int) < c.length:=by omega
  simp only [aD] at e1
  simp only [aK,da,aD,List.length_cons,List.length_nil,Nat.zero_add,Nat.reduceAdd,cU,cr,aP,bn,cS,ah,ao,af,ad,aM,List.map_cons,List.map_nil,Nat.sub_self,List.replicate,List.cons_append,List.nil_append,List.getElem?_cons_zero,Sl.isBr,Bool.false_and,Bool.false_eq_true,am,Option.map_some,if_false,Option.bind_some,List.getElem?_cons_succ,az,look,Sl.val,e1,List.length_map,pC,dI,dB,Cm.i,Cm.s,g,decide_false,aQ,cI,d5,cR,dw,aV,eK,bo,decide_true,fV,e2,if_true,cT,bM,cN]
theorem xo (n m:Nat) (ne:n≠m) (c:List Pc) (hl:c.length≤4000):aK [.list (c.map ay),aD (.change n m)]=some (.ow ((c.flatMap (ft (.change n m))).map ay)):=by
  have e1:=nn n m (c.map ay)
  have e2:=ou n m ne c (by omega)
  have g:¬(4000:Int) < c.length:=by omega
  simp only [aD] at e1
  simp only [aK,da,aD,List.length_cons,List.length_nil,Nat.zero_add,Nat.reduceAdd,cU,cr,aP,bn,cS,ah,ao,af,ad,aM,List.map_cons,List.map_nil,Nat.sub_self,List.replicate,List.cons_append,List.nil_append,List.getElem?_cons_zero,Sl.isBr,Bool.false_and,Bool.false_eq_true,am,Option.map_some,if_false,Option.bind_some,List.getElem?_cons_succ,az,look,Sl.val,e1,List.length_map,pC,dI,dB,Cm.i,Cm.s,g,decide_false,aQ,cI,d5,cR,dw,aV,eK,bo,vQ,fV,decide_true,mG,e2,if_true,cT,bM,cN]
theorem xp (n m:Nat) (t:Int) (ht:t≠0) (c:List Pc) (hl:c.length≤4000) (hw:lZ n c≤4000):aK [.list (c.map ay),aD (.slide n m t)]=some (.ow ((NH.short (c.flatMap (ft (.slide n m t)))).map ay)):=by
  have e1:=ja n m t ht c (by omega)
  have w:=tm (n:=n) (m:=m) (t:=t) c
  have e2:=vm n m t c (by omega)
  have g:¬(4000:Int) < lZ n c:=by omega
  simp only [aD] at e1
  simp only [aK,da,aD,List.length_cons,List.length_nil,Nat.zero_add,Nat.reduceAdd,cU,cr,aP,bn,cS,ah,ao,af,ad,aM,List.map_cons,List.map_nil,Nat.sub_self,List.replicate,List.cons_append,List.nil_append,List.getElem?_cons_zero,Sl.isBr,Bool.false_and,Bool.false_eq_true,am,Option.map_some,if_false,Option.bind_some,List.getElem?_cons_succ,az,look,Sl.val,e1,pC,dI,dB,Cm.i,Cm.s,g,decide_false,aQ,cI,d5,cR,dw,aV,eK,bo,pq,fV,pv,mG,kP,cp,ht,e2,cT,bM,cN,if_true]
theorem vn (n m:Nat) (c:List Pc) (hl:c.length≤4000):aK [.list (c.map ay),aD (.slide n m 0)]=none:=by
  have e1:=i_ n m (c.map ay)
  have g:¬(4000:Int) < c.length:=by omega
  simp only [aD] at e1
  simp only [aK,da,aD,List.length_cons,List.length_nil,Nat.zero_add,Nat.reduceAdd,cU,cr,aP,bn,cS,ah,ao,af,ad,aM,List.map_cons,List.map_nil,Nat.sub_self,List.replicate,List.cons_append,List.nil_append,List.getElem?_cons_zero,Sl.isBr,Bool.false_and,Bool.false_eq_true,am,Option.map_some,if_false,Option.bind_some,List.getElem?_cons_succ,az,look,Sl.val,e1,List.length_map,pC,dI,dB,Cm.i,Cm.s,g,decide_false,gi,aQ,cI,d5,cR,dw,aV,eK,bo,pq,fV,pv,mG,kP,cp,decide_true,if_true,Option.bind_none,cT,bM]
theorem vo (n m:Nat) (c:List Pc) (hl:c.length≤4000):bN [.list (c.map ay),aD (.slide n m 0)]=true:=by
  have e1:=i_ n m (c.map ay)
  have g:¬(4000:Int) < c.length:=by omega
  simp only [aD] at e1
  simp only [bN,yw,aD,List.length_cons,List.length_nil,Nat.zero_add,Nat.reduceAdd,decide_true,d0,p0,xE,cS,ah,ao,af,ad,aM,List.map_cons,List.map_nil,Nat.sub_self,List.replicate,List.cons_append,List.nil_append,List.getElem?_cons_zero,Sl.isBr,Bool.false_and,Bool.false_eq_true,am,Option.map_some,if_false,Option.bind_some,List.getElem?_cons_succ,az,look,Sl.val,e1,List.length_map,pC,dI,dB,Cm.i,Cm.s,g,decide_false,kJ,cI,d5,cR,dw,sd,eK,bo,pq,pv,kP,cp,if_true,Bool.and_true]
theorem gQ (x0 x1:PyData) (a:Sl) (r R:List Pc) (mv:Mv) (e:aK [.list (r.map ay),aD mv]=some (.ow (R.map ay))):(bh (aD mv) [.sh x0, .sh x1, .ow (r.map ay),a]).bind bE=some ([.sh x0, .sh x1, .ow (R.map ay), .sh (aD mv)], .nx):=by
  simp only [bh,be,List.length_cons,List.length_nil,Nat.zero_add,Nat.reduceAdd,Nat.reduceLT,List.set_cons_succ,List.set_cons_zero,if_true,bE,Option.bind_some,o6,lD,af,ad,List.getElem?_cons_succ,List.getElem?_cons_zero,Sl.isBr,Bool.false_and,Bool.false_eq_true,am,Option.map_some,if_false,az,look,Sl.val,e,PL.settle,frz,frzAll]
theorem qC (x0 x1:PyData) (a:Sl) (r:List Pc) (mv:Mv) (e:aK [.list (r.map ay),aD mv]=none) (ea:bN [.list (r.map ay),aD mv]=true):(bh (aD mv) [.sh x0, .sh x1, .ow (r.map ay),a]).bind bE=some ([.sh x0, .sh x1, .ow (r.map ay), .sh (aD mv)], .nx):=by
  simp only [bh,be,List.length_cons,List.length_nil,Nat.zero_add,Nat.reduceAdd,Nat.reduceLT,List.set_cons_succ,List.set_cons_zero,if_true,bE,Option.bind_some,o6,lD,af,ad,List.getElem?_cons_succ,List.getElem?_cons_zero,Sl.isBr,Bool.false_and,Bool.false_eq_true,am,Option.map_some,if_false,yy,az,look,Sl.val,e,ea,PL.settle,frz,frzAll]
theorem tw (cd md:PyData) (S:List PyData) (ds L:List PyData) (a':Sl) (hm:md= .list ds) (e1:aN [md]=some (.sh .none)) (e2:aT [cd]=some (.ow S)) (e3:cM bh bE ds [.sh cd, .sh md, .ow S, .no]=some ([.sh cd, .sh md, .ow L,a'], .nx)) (fl:bx L=true):bp [cd,md]=some (.ow L):=by
  subst hm
  simp only [bp,da,List.length_cons,List.length_nil,Nat.zero_add,Nat.reduceAdd,cU,jm,aP,dJ,ao,af,ad,aM,List.map_cons,List.map_nil,Nat.reduceSub,List.replicate,List.cons_append,List.nil_append,List.getElem?_cons_succ,List.getElem?_cons_zero,Sl.isBr,Bool.false_and,Bool.false_eq_true,am,Option.map_some,if_false,Option.bind_some,az,look,Sl.val,e1,bc,PL.settle,frz,frzAll,g9,du,aV,e2,Nat.reduceLT,List.set_cons_succ,List.set_cons_zero,if_true,e3,cT,bM,fl]
theorem lW (c R:List Pc) (mv:Mv) (hc:NH.Red c) (hl:c.length≤300) (hm:MvL mv)
    (e:(bh (aD mv) [.sh (.list (c.map ay)), .sh (.list [aD mv]), .ow (c.map ay), .no]).bind bE=some ([.sh (.list (c.map ay)), .sh (.list [aD mv]), .ow (R.map ay), .sh (aD mv)], .nx)):bp [.list (c.map ay), .list [aD mv]]=some (.ow (R.map ay)):=by
  have e1:=gD [mv] fun x hx=>by rw [List.mem_singleton.mp hx];exact hm
  have e2:=fz c (by omega)
  rw [dD hc] at e2
  refine tw _ _ _ _ _ (.sh (aD mv)) rfl e1 e2 ?_ (cN _)
  rw [cM,e]
  rfl
theorem xq (c:List Pc) (n m:Nat) (hc:NH.Red c) (hl:c.length≤300) (hm:MvL (.slide n m 0)):bp [.list (c.map ay), .list [aD (.slide n m 0)]]=some (.ow (c.map ay)):=
  lW c c _ hc hl hm (qC _ _ _ c _ (vn n m c (by omega)) (vo n m c (by omega)))
theorem xr (c:List Pc) (n:Nat) (hc:NH.Red c) (hl:c.length≤300) (hm:MvL (.turn n)):∃R:List Pc,R.length=c.length∧bp [.list (c.map ay), .list [aD (.turn n)]]=some (.ow (R.map ay)):=
  ⟨_,gP n c,lW c _ _ hc hl hm (gQ _ _ _ c _ _ (tu n c (by omega)))⟩
theorem xt (c:List Pc) (n m:Nat) (hc:NH.Red c) (hl:c.length≤300) (hm:MvL (.change n m)):∃R:List Pc,R.length=c.length∧bp [.list (c.map ay), .list [aD (.change n m)]]=some (.ow (R.map ay)):=
  ⟨_,iR n m c,lW c _ _ hc hl hm (gQ _ _ _ c _ _ (xo n m hm.2.2 c (by omega)))⟩
theorem nr (c:List Pc) (n m:Nat) (t:Int) (ht:t≠0) (hc:NH.Red c) (hl:c.length≤300) (hm:MvL (.slide n m t)) (hw:lZ n c≤4000):bp [.list (c.map ay), .list [aD (.slide n m t)]]=some (.ow ((NH.short (c.flatMap (ft (.slide n m t)))).map ay)):=
  lW c _ _ hc hl hm (gQ _ _ _ c _ _ (xp n m t ht c (by omega) hw))
theorem iS (n m:Nat) (t:Int):∀c:List Pc,(∀p∈c,p.1≠n)→c.flatMap (ft (.slide n m t))=c
  | [],_=>rfl
  | p::c,h=>by
    rw [List.flatMap_cons,iS n m t c fun q hq=>h q (List.mem_cons_of_mem _ hq),lV,if_neg (h p (List.mem_cons_self ..))]
    rfl
theorem lX (n:Nat):∀c:List Pc,(∀p∈c,p.1≠n)→lZ n c=c.length
  | [],_=>rfl
  | p::c,h=>by
    have ih:=lX n c fun q hq=>h q (List.mem_cons_of_mem _ hq)
    unfold lZ at ih ⊢
    rw [List.map_cons,List.sum_cons,ih,if_neg (h p (List.mem_cons_self ..))]
    simp
    omega
theorem xu (c:List Pc) (n m:Nat) (t:Int) (ht:t≠0) (hc:NH.Red c) (hl:c.length≤300) (hm:MvL (.slide n m t)) (hn:∀p∈c,p.1≠n):bp [.list (c.map ay), .list [aD (.slide n m t)]]=some (.ow (c.map ay)):=by
  rw [nr c n m t ht hc hl hm (by rw [lX n c hn];omega),iS n m t c hn,dD hc]
theorem kT (c:List Pc) (n m:Nat) (t:Int) (ht:t≠0) (hl:c.length≤100000) (hw:4000 < lZ n c):aU [.list (c.map ay),aD (.slide n m t)]=some ("TooLong":Str):=by
  have b:=ja n m t ht c hl
  show ((cu [.sh (.list (c.map ay)), .sh (aD (.slide n m t))]).map (·.1))=_
  unfold cu
  have e:(cS (ah (dI (dB .gt)) false (ao av (af false (ad 0) (af false (ad 1) am))) (pC (.int 4000)))) [.sh (.list (c.map ay)), .sh (aD (.slide n m t))]=some (true,[.sh (.list (c.map ay)), .sh (aD (.slide n m t))]):=by
    simp only [cS,ah,ao,af,ad,List.getElem?_cons_zero,Sl.isBr,Bool.false_and,Bool.false_eq_true,am,Option.map_some,if_false,Option.bind_some,List.getElem?_cons_succ,az,look,Sl.val,b,pC,dI,dB,Cm.i,Cm.s,hw,decide_true]
  unfold lL
  simp only [e,ef,Option.map_some]
theorem tz {V:List Pc} {p:Pc}:∀k,p∈NH.pw k V→p∈V
  | 0,h=>by cases h
  | k+1,h=>by
    rcases List.mem_append.mp (show p∈V++NH.pw k V from h) with h | h
    · exact h
    · exact tz k h
theorem tB (n m:Nat) (ne:n≠m) (t s:Int) (hs:s≠0) (T:List Pc) (hT:NH.Red T) (nT:∀p∈T,p.1≠n∧p.1≠m):NH.Red (NH.tL t [((n,1):Pc),(m,s)]++T):=by
  have key:∀(V:List Pc) (k:Nat),NH.Red V→NH.mU V=false→V.length=2→(∀p∈V,p.1=n∨p.1=m)→NH.Red (NH.pw k V++T):=fun V k r l h2 hv=>by
    refine NH.lO (sW r l (by omega) k) hT fun x y hx hy e=>?_
    have h1:=hv x (tz k (List.mem_of_getLast? hx))
    have h3:=nT y (List.mem_of_head? hy)
    rcases h1 with h1 | h1
    · exact h3.1 (e▸h1)
    · exact h3.2 (e▸h1)
  unfold NH.tL
  split
  · refine key _ _ ?_ ?_ rfl ?_
    · show (-s≠0)∧m≠n∧((-1:Int)≠0)
      exact ⟨by omega,Ne.symm ne,by decide⟩
    · simp [NH.mU,NH.contr,Ne.symm ne]
    · intro p hp
      simp [NH.contr] at hp
      rcases hp with rfl | rfl
      · exact .inr rfl
      · exact .inl rfl
  · refine key _ _ ⟨show (1:Int)≠0 by decide,ne,hs⟩ ?_ rfl ?_
    · simp [NH.mU,ne]
    · intro p hp
      simp at hp
      rcases hp with rfl | rfl
      · exact .inl rfl
      · exact .inr rfl
theorem tD (n m:Nat) (ne:n≠m) (t s:Int) (hs:s≠0) (T:List Pc) (hT:NH.Red T) (nT:∀p∈T,p.1≠n∧p.1≠m):(NH.short ((((n,t):Pc)::T).flatMap (ft (.slide n m s)))).length=2*t.natAbs+T.length:=by
  rw [List.flatMap_cons,iS n m s T fun p hp=>(nT p hp).1]
  have e:=fA (n:=n) (m:=m) (t:=s) (p:=(n,t)) rfl
  rw [lV,if_pos rfl] at e ⊢
  rw [dD (tB n m ne t s hs T hT nT),List.length_append,e]
theorem pz (x0:Sl):∀(ms:List Mv) (a:Sl),(∀mv∈ms,MvL mv)→eZ aH aC (lL (bA (bX (ao aE (af false (ad 1) am)))) (ef "NoMove")) (ms.map aD) [x0,a]=none
  | [],a,_=>rfl
  | m::ms,a,hm=>by
    have hm0:=j5 m (hm m (List.mem_cons_self ..))
    have ih:=pz x0 ms (.sh (aD m)) fun y hy=>hm y (List.mem_cons_of_mem _ hy)
    have e1:aH (aD m) [x0,a]=some [x0, .sh (aD m)]:=rfl
    have e2:(lL (bA (bX (ao aE (af false (ad 1) am)))) (ef "NoMove")) [x0, .sh (aD m)]=none:=by
      simp [lL,bA,bX,ao,af,am,ad,az,look,Sl.val,hm0,ef,eM]
    have e3:aC [x0, .sh (aD m)]=some ([x0, .sh (aD m)], .nx):=by
      simp [aC,bn,bA,bX,ao,af,am,ad,az,look,Sl.val,hm0,eM,aQ]
    simp only [List.map_cons,eZ,e1,Option.bind_some,e2,e3]
    exact ih
theorem tE (ms:List Mv) (h:∀mv∈ms,MvL mv):aA [.list (ms.map aD)]=none:=by
  have e:=pz (.sh (.list (ms.map aD))) ms .no h
  show ((bI [.sh (.list (ms.map aD)), .no]).map (·.1))=_
  have e1:(lL (bA (bX (dH (eW .list) (ad 0)))) (ef "NoMove")) [.sh (.list (ms.map aD)), .no]=none:=rfl
  have e2:(bn (bA (bX (dH (eW .list) (ad 0)))) gi aQ) [.sh (.list (ms.map aD)), .no]=some ([.sh (.list (ms.map aD)), .no], .nx):=rfl
  have e3:du (ad 0) [.sh (.list (ms.map aD)), .no]=some (ms.map aD,[.sh (.list (ms.map aD)), .no]):=rfl
  unfold bI uT
  simp only [e1]
  unfold mP
  simp only [e2]
  unfold qj
  simp only [e3,Option.bind_some,e,Option.map_none]
theorem nu (c:List Pc) (ms:List Mv) (hc:NH.Red c) (hl:c.length≤300) (hm:∀mv∈ms,MvL mv) (n:Str) (E':List Sl)
    (h:eZ bh bE (cO aU (af false (ad 2) (af false (ad 3) am))) (ms.map aD) [.sh (.list (c.map ay)), .sh (.list (ms.map aD)), .ow (c.map ay), .no]=some (n,E')):cg [.list (c.map ay), .list (ms.map aD)]=some n:=by
  have k1:=tE ms hm
  have k2:=gD ms hm
  have k3:=fz c (by omega)
  rw [dD hc] at k3
  show ((fR [.sh (.list (c.map ay)), .sh (.list (ms.map aD)), .no, .no]).map (·.1))=_
  have e1:(cO aA (af false (ad 1) am)) [.sh (.list (c.map ay)), .sh (.list (ms.map aD)), .no, .no]=none:=by
    simp [cO,af,am,ad,az,look,Sl.val,k1]
  have e2:(dJ (ao aN (af false (ad 1) am))) [.sh (.list (c.map ay)), .sh (.list (ms.map aD)), .no, .no]=some ([.sh (.list (c.map ay)), .sh (.list (ms.map aD)), .no, .no], .nx):=by
    simp [dJ,ao,af,am,ad,az,look,Sl.val,k2]
  have e3:(bc 2 (ao aT (af false (ad 0) am))) [.sh (.list (c.map ay)), .sh (.list (ms.map aD)), .no, .no]=some ([.sh (.list (c.map ay)), .sh (.list (ms.map aD)), .ow (c.map ay), .no], .nx):=by
    simp [bc,ao,af,am,ad,az,look,Sl.val,k3,PL.settle]
  have e4:du (ad 1) [.sh (.list (c.map ay)), .sh (.list (ms.map aD)), .ow (c.map ay), .no]=some (ms.map aD,[.sh (.list (c.map ay)), .sh (.list (ms.map aD)), .ow (c.map ay), .no]):=rfl
  unfold fR uT
  simp only [e1]
  unfold mP
  simp only [e2,e3]
  unfold qj
  simp only [e4,Option.bind_some,h,Option.map_some]
theorem tF (x0 x1:Sl) (r:List Pc) (mv:Mv) (ds:List PyData) (a:Sl) (n:Str) (h:aU [.list (r.map ay),aD mv]=some n):∃E',eZ bh bE (cO aU (af false (ad 2) (af false (ad 3) am))) (aD mv::ds) [x0,x1, .ow (r.map ay),a]=some (n,E'):=by
  refine ⟨[x0,x1, .ow (r.map ay), .sh (aD mv)],?_⟩
  have e1:bh (aD mv) [x0,x1, .ow (r.map ay),a]=some [x0,x1, .ow (r.map ay), .sh (aD mv)]:=rfl
  have e2:(cO aU (af false (ad 2) (af false (ad 3) am))) [x0,x1, .ow (r.map ay), .sh (aD mv)]=some (n,[x0,x1, .ow (r.map ay), .sh (aD mv)]):=by
    simp [cO,af,am,ad,az,look,Sl.val,h]
  simp only [eZ,e1,Option.bind_some,e2]
theorem ox (c:List Pc) (n:Nat) (hl:c.length≤300):aU [.list (c.map ay),aD (.turn n)]=none:=by
  have b:=i9 n (c.map ay)
  have hw:¬(4000 < ((c.map ay).length:Int)):=by rw [List.length_map];omega
  show ((cu [.sh (.list (c.map ay)), .sh (aD (.turn n))]).map (·.1))=_
  have e:(cS (ah (dI (dB .gt)) false (ao av (af false (ad 0) (af false (ad 1) am))) (pC (.int 4000)))) [.sh (.list (c.map ay)), .sh (aD (.turn n))]=some (false,[.sh (.list (c.map ay)), .sh (aD (.turn n))]):=by
    simp only [cS,ah,ao,af,ad,List.getElem?_cons_zero,Sl.isBr,Bool.false_and,Bool.false_eq_true,am,Option.map_some,if_false,Option.bind_some,List.getElem?_cons_succ,az,look,Sl.val,b,pC,dI,dB,Cm.i,Cm.s,hw,decide_false]
  unfold cu lL
  simp only [e,Option.map_none]
theorem tH (n k:Nat):∀c:List Pc,lZ n (c.flatMap (ft (.turn k)))=lZ n c:=by
  intro c
  rw [px]
  unfold lZ
  rw [List.map_map]
  congr 1
  refine List.map_congr_left fun p _=>?_
  show (if (tn k p).1=n then 2*((tn k p).2.natAbs:Int) else 1)=_
  unfold tn
  split
  · simp
  · rfl
theorem xv (c:List Pc) (n m:Nat) (t:Int) (mv2:Mv) (ht:t≠0) (hc:NH.Red c) (hl:c.length≤300) (h1:MvL (.slide n m t)) (h2:MvL mv2) (hw:4000 < lZ n c):cg [.list (c.map ay), .list [aD (.slide n m t),aD mv2]]=some ("TooLong":Str):=by
  obtain ⟨E',e⟩:=tF (.sh (.list (c.map ay))) (.sh (.list [aD (.slide n m t),aD mv2])) c (.slide n m t) [aD mv2] .no _ (kT c n m t ht (by omega) hw)
  exact nu c [.slide n m t,mv2] hc hl (fun x hx=>by
    simp only [List.mem_cons,List.not_mem_nil,or_false] at hx
    rcases hx with rfl | rfl
    · exact h1
    · exact h2) _ E' e
theorem xw (c:List Pc) (k n m:Nat) (t:Int) (ht:t≠0) (hc:NH.Red c) (hl:c.length≤300) (h1:MvL (.slide n m t)) (h2:MvL (.turn k)) (hw:4000 < lZ n c):cg [.list (c.map ay), .list [aD (.turn k),aD (.slide n m t)]]=some ("TooLong":Str):=by
  obtain ⟨E',e⟩:=tF (.sh (.list (c.map ay))) (.sh (.list [aD (.turn k),aD (.slide n m t)])) (c.flatMap (ft (.turn k))) (.slide n m t) [] (.sh (aD (.turn k))) _ (kT _ n m t ht (by rw [gP];omega) (by rw [tH];exact hw))
  refine nu c [.turn k, .slide n m t] hc hl (fun x hx=>by
    simp only [List.mem_cons,List.not_mem_nil,or_false] at hx
    rcases hx with rfl | rfl
    · exact h2
    · exact h1) _ E' ?_
  have s:=gQ (.list (c.map ay)) (.list [aD (.turn k),aD (.slide n m t)]) .no c _ _ (tu k c (by omega))
  have e1:bh (aD (.turn k)) [.sh (.list (c.map ay)), .sh (.list [aD (.turn k),aD (.slide n m t)]), .ow (c.map ay), .no]=some [.sh (.list (c.map ay)), .sh (.list [aD (.turn k),aD (.slide n m t)]), .ow (c.map ay), .sh (aD (.turn k))]:=rfl
  have e2:(cO aU (af false (ad 2) (af false (ad 3) am))) [.sh (.list (c.map ay)), .sh (.list [aD (.turn k),aD (.slide n m t)]), .ow (c.map ay), .sh (aD (.turn k))]=none:=by
    simp [cO,af,am,ad,az,look,Sl.val,ox c k hl]
  rw [e1,Option.bind_some] at s
  show eZ bh bE _ (aD (.turn k)::[aD (.slide n m t)]) [.sh (.list (c.map ay)), .sh (.list [aD (.turn k),aD (.slide n m t)]), .ow (c.map ay), .no]=_
  rw [eZ]
  simp only [e1,Option.bind_some,e2,s]
  exact e
def tl (m:Nat):List Pc:=(List.range m).map fun k=>(((if k % 2=0 then 99 else 100),((1+k:Nat):Int)):Pc)
def tM (z:Int):List PyData:=[.int 1999, .int 2000, .int 2001, .int (1990+z / 3 % 25), .int (1000000000000000000000000000000+z % 1000000000)]
theorem zQ (z:Int) (x2 x3 x4 x5:Sl):∃t:Int,1990≤t∧bc 1 (ah cI false (bi (aa (pC (.int 1999)) (aa (pC (.int 2000)) (aa (pC (.int 2001)) (aa (ah bH false (pC (.int 1990)) (ah cK false (ah cb false (ad 0) (pC (.int 3))) (pC (.int 25)))) (aa (ah bH false (ah gR false (pC (.int 10)) (pC (.int 30))) (ah cK false (ad 0) (ah gR false (pC (.int 10)) (pC (.int 9))))) ar)))))) (ah cK false (ad 0) (pC (.int 5)))) [.sh (.int z), .no,x2,x3,x4,x5]=some ([.sh (.int z), .sh (.int t),x2,x3,x4,x5], .nx):=by
  have a1:bi (aa (pC (.int 1999)) (aa (pC (.int 2000)) (aa (pC (.int 2001)) (aa (ah bH false (pC (.int 1990)) (ah cK false (ah cb false (ad 0) (pC (.int 3))) (pC (.int 25)))) (aa (ah bH false (ah gR false (pC (.int 10)) (pC (.int 30))) (ah cK false (ad 0) (ah gR false (pC (.int 10)) (pC (.int 9))))) ar))))) [.sh (.int z), .no,x2,x3,x4,x5]=some (.ow (tM z),[.sh (.int z), .no,x2,x3,x4,x5]):=by kernel_rfl
  have a2:ah cK false (ad 0) (pC (.int 5)) [.sh (.int z), .no,x2,x3,x4,x5]=some (.sh (.int (z % 5)),[.sh (.int z), .no,x2,x3,x4,x5]):=by kernel_rfl
  obtain ⟨n,hn,e⟩:∃n:Nat,n < 5∧z % 5=(n:Int):=⟨(z % 5).toNat,by omega,by omega⟩
  have key:∀t:Int,(tM z)[n]? =some (.int t)→bc 1 (ah cI false (bi (aa (pC (.int 1999)) (aa (pC (.int 2000)) (aa (pC (.int 2001)) (aa (ah bH false (pC (.int 1990)) (ah cK false (ah cb false (ad 0) (pC (.int 3))) (pC (.int 25)))) (aa (ah bH false (ah gR false (pC (.int 10)) (pC (.int 30))) (ah cK false (ad 0) (ah gR false (pC (.int 10)) (pC (.int 9))))) ar)))))) (ah cK false (ad 0) (pC (.int 5)))) [.sh (.int z), .no,x2,x3,x4,x5]=some ([.sh (.int z), .sh (.int t),x2,x3,x4,x5], .nx):=fun t ht=>by
    have b3:cI [.sh (.int z), .no,x2,x3,x4,x5] (.ow (tM z)) (.sh (.int (z % 5)))=some (.sh (.int t),[.sh (.int z), .no,x2,x3,x4,x5]):=by
      simp only [cI,look,Sl.val,e,Option.bind_some,dA,ht,Option.map_some,d5,cR,Bool.false_and,Bool.false_eq_true,if_false]
    exact (ti (fy a1 a2 b3) (by show 1 < 6;omega)).trans rfl
  match n,hn with
  | 0,_=>exact ⟨1999,by decide,key _ rfl⟩
  | 1,_=>exact ⟨2000,by decide,key _ rfl⟩
  | 2,_=>exact ⟨2001,by decide,key _ rfl⟩
  | 3,_=>exact ⟨1990+z / 3 % 25,by omega,key _ rfl⟩
  | 4,_=>exact ⟨1000000000000000000000000000000+z % 1000000000,by omega,key _ rfl⟩
theorem zR (z t:Int) (x3 x4 x5:Sl):bc 2 (ah cK false (ah cb false (ad 0) (pC (.int 10))) (pC (.int 12))) [.sh (.int z), .sh (.int t), .no,x3,x4,x5]=some ([.sh (.int z), .sh (.int t), .sh (.int (z / 10 % 12)),x3,x4,x5], .nx):=by kernel_rfl
theorem zS (z t:Int) (x4 x5:Sl):∀m:Fin 12,bc 3 (ah bH false (bi (aa (aG (aa (pC (.str "a")) (aa (ad 1) ar))) ar)) (dc [none] (iD (af false (ad 2) am)) bP cA bQ)) [.sh (.int z), .sh (.int t), .sh (.int (m.val:Int)), .no,x4,x5]=some ([.sh (.int z), .sh (.int t), .sh (.int (m.val:Int)), .ow ((((97,t):Pc)::tl m.val).map ay),x4,x5], .nx)
  | ⟨0,_⟩=>by kernel_rfl
  | ⟨1,_⟩=>by kernel_rfl
  | ⟨2,_⟩=>by kernel_rfl
  | ⟨3,_⟩=>by kernel_rfl
  | ⟨4,_⟩=>by kernel_rfl
  | ⟨5,_⟩=>by kernel_rfl
  | ⟨6,_⟩=>by kernel_rfl
  | ⟨7,_⟩=>by kernel_rfl
  | ⟨8,_⟩=>by kernel_rfl
  | ⟨9,_⟩=>by kernel_rfl
  | ⟨10,_⟩=>by kernel_rfl
  | ⟨11,_⟩=>by kernel_rfl
  | ⟨n+12,h⟩=>by omega
theorem zT (z t:Int) (ht:1990≤t) (x2 x3 x4 x5:Sl):∃u:Int,1990≤u.natAbs∧(bn (cS (ah dw false (ah cK false (ah cb false (ad 0) (pC (.int 5))) (pC (.int 2))) (pC (.int 1)))) (bc 1 (ah wy false (pC (.int 0)) (ad 1))) aQ) [.sh (.int z), .sh (.int t),x2,x3,x4,x5]=some ([.sh (.int z), .sh (.int u),x2,x3,x4,x5], .nx):=by
  have c:(cS (ah dw false (ah cK false (ah cb false (ad 0) (pC (.int 5))) (pC (.int 2))) (pC (.int 1)))) [.sh (.int z), .sh (.int t),x2,x3,x4,x5]=some (decide (z / 5 % 2=1),[.sh (.int z), .sh (.int t),x2,x3,x4,x5]):=by kernel_rfl
  by_cases h:z / 5 % 2=1
  · rw [decide_eq_true h] at c
    exact ⟨0 - t,by omega,sY c (by kernel_rfl)⟩
  · rw [decide_eq_false h] at c
    exact ⟨t,by omega,pf c rfl⟩
def sM:List PyData:=[.int 1, .int (-1), .int 7, .int 100000000000000000000]
theorem zU (z t k:Int) (C:List PyData) (x5:Sl):∃s:Int,s≠0∧bc 4 (aG (aa (pC (.str "slide")) (aa (pC (.str "a")) (aa (pC (.str "b")) (aa (ah cI false (bi (aa (pC (.int 1)) (aa (dH fq (pC (.int 1))) (aa (pC (.int 7)) (aa (ah gR false (pC (.int 10)) (pC (.int 20))) ar))))) (ah cK false (ah cb false (ad 0) (pC (.int 120))) (pC (.int 4)))) ar))))) [.sh (.int z), .sh (.int t), .sh (.int k), .ow C, .no,x5]=some ([.sh (.int z), .sh (.int t), .sh (.int k), .ow C, .sh (aD (.slide 97 98 s)),x5], .nx):=by
  have a1:bi (aa (pC (.int 1)) (aa (dH fq (pC (.int 1))) (aa (pC (.int 7)) (aa (ah gR false (pC (.int 10)) (pC (.int 20))) ar)))) [.sh (.int z), .sh (.int t), .sh (.int k), .ow C, .no,x5]=some (.ow sM,[.sh (.int z), .sh (.int t), .sh (.int k), .ow C, .no,x5]):=by kernel_rfl
  have a2:ah cK false (ah cb false (ad 0) (pC (.int 120))) (pC (.int 4)) [.sh (.int z), .sh (.int t), .sh (.int k), .ow C, .no,x5]=some (.sh (.int (z / 120 % 4)),[.sh (.int z), .sh (.int t), .sh (.int k), .ow C, .no,x5]):=by kernel_rfl
  obtain ⟨n,hn,e⟩:∃n:Nat,n < 4∧z / 120 % 4=(n:Int):=⟨(z / 120 % 4).toNat,by omega,by omega⟩
  have key:∀s:Int,sM[n]? =some (.int s)→bc 4 (aG (aa (pC (.str "slide")) (aa (pC (.str "a")) (aa (pC (.str "b")) (aa (ah cI false (bi (aa (pC (.int 1)) (aa (dH fq (pC (.int 1))) (aa (pC (.int 7)) (aa (ah gR false (pC (.int 10)) (pC (.int 20))) ar))))) (ah cK false (ah cb false (ad 0) (pC (.int 120))) (pC (.int 4)))) ar))))) [.sh (.int z), .sh (.int t), .sh (.int k), .ow C, .no,x5]=some ([.sh (.int z), .sh (.int t), .sh (.int k), .ow C, .sh (aD (.slide 97 98 s)),x5], .nx):=fun s hs=>by
    have b3:cI [.sh (.int z), .sh (.int t), .sh (.int k), .ow C, .no,x5] (.ow sM) (.sh (.int (z / 120 % 4)))=some (.sh (.int s),[.sh (.int z), .sh (.int t), .sh (.int k), .ow C, .no,x5]):=by
      simp only [cI,look,Sl.val,e,Option.bind_some,dA,hs,Option.map_some,d5,cR,Bool.false_and,Bool.false_eq_true,if_false]
    have b:=fy a1 a2 b3
    generalize ah cI false (bi (aa (pC (.int 1)) (aa (dH fq (pC (.int 1))) (aa (pC (.int 7)) (aa (ah gR false (pC (.int 10)) (pC (.int 20))) ar))))) (ah cK false (ah cb false (ad 0) (pC (.int 120))) (pC (.int 4)))=f at b ⊢
    simp only [bc,aG,aa,ar,pC,Option.bind_some,b,frz,Option.map_some]
    rfl
  match n,hn with
  | 0,_=>exact ⟨1,by decide,key _ rfl⟩
  | 1,_=>exact ⟨-1,by decide,key _ rfl⟩
  | 2,_=>exact ⟨7,by decide,key _ rfl⟩
  | 3,_=>exact ⟨100000000000000000000,by decide,key _ rfl⟩
theorem xx (t:Int) (ht:t≠0):∀m:Fin 12,NH.Red (((97,t):Pc)::tl m.val)
  | ⟨0,_⟩=>ht
  | ⟨1,_⟩=>by simp [tl,NH.Red,List.range_succ,ht]
  | ⟨2,_⟩=>by simp [tl,NH.Red,List.range_succ,ht]
  | ⟨3,_⟩=>by simp [tl,NH.Red,List.range_succ,ht]
  | ⟨4,_⟩=>by simp [tl,NH.Red,List.range_succ,ht]
  | ⟨5,_⟩=>by simp [tl,NH.Red,List.range_succ,ht]
  | ⟨6,_⟩=>by simp [tl,NH.Red,List.range_succ,ht]
  | ⟨7,_⟩=>by simp [tl,NH.Red,List.range_succ,ht]
  | ⟨8,_⟩=>by simp [tl,NH.Red,List.range_succ,ht]
  | ⟨9,_⟩=>by simp [tl,NH.Red,List.range_succ,ht]
  | ⟨10,_⟩=>by simp [tl,NH.Red,List.range_succ,ht]
  | ⟨11,_⟩=>by simp [tl,NH.Red,List.range_succ,ht]
  | ⟨n+12,h⟩=>by omega
theorem oy (m:Nat):(tl m).length=m:=by simp [tl]
theorem nv (m:Nat):∀p∈tl m,p.1=99∨p.1=100:=by
  intro p hp
  obtain ⟨k,_,rfl⟩:=List.mem_map.mp hp
  show (if k % 2=0 then 99 else 100)=99∨(if k % 2=0 then 99 else 100)=100
  split
  · exact .inl rfl
  · exact .inr rfl
theorem jp (z u:Int) (m:Nat) (c R:List Pc) (S:PyData) (mv:Mv) (a:Sl) (e:bp [.list (c.map ay), .list [aD mv]]=some (.ow (R.map ay))) (hR:R.length=1+m):(bB (aD mv) [.sh (.int z), .sh (.int u), .sh (.int (m:Int)), .ow (c.map ay), .sh S,a]).bind bR=some ([.sh (.int z), .sh (.int u), .sh (.int (m:Int)), .ow (c.map ay), .sh S, .sh (aD mv)], .nx):=by
  have hl:((R.map ay).length:Int)=1+(m:Int):=by rw [List.length_map,hR];omega
  have e1:bB (aD mv) [.sh (.int z), .sh (.int u), .sh (.int (m:Int)), .ow (c.map ay), .sh S,a]=some [.sh (.int z), .sh (.int u), .sh (.int (m:Int)), .ow (c.map ay), .sh S, .sh (aD mv)]:=rfl
  rw [e1,Option.bind_some]
  have e2:ao bp (af false (gh (ad 3)) (af false (bi (aa (ad 5) ar)) am)) [.sh (.int z), .sh (.int u), .sh (.int (m:Int)), .ow (c.map ay), .sh S, .sh (aD mv)]=some (.ow (R.map ay),[.sh (.int z), .sh (.int u), .sh (.int (m:Int)), .ow (c.map ay), .sh S, .sh (aD mv)]):=by
    have g:af false (gh (ad 3)) (af false (bi (aa (ad 5) ar)) am) [.sh (.int z), .sh (.int u), .sh (.int (m:Int)), .ow (c.map ay), .sh S, .sh (aD mv)]=some ([.ow (c.map ay), .ow [aD mv]],[.sh (.int z), .sh (.int u), .sh (.int (m:Int)), .ow (c.map ay), .sh S, .sh (aD mv)]):=by kernel_rfl
    unfold ao
    rw [g,Option.bind_some]
    simp only [az,look,Sl.val,Option.bind_some,Option.map_some,e]
  have e3:(bY dt (af false (ao bp (af false (gh (ad 3)) (af false (bi (aa (ad 5) ar)) am))) am)) [.sh (.int z), .sh (.int u), .sh (.int (m:Int)), .ow (c.map ay), .sh S, .sh (aD mv)]=some (.sh (.int (1+(m:Int))),[.sh (.int z), .sh (.int u), .sh (.int (m:Int)), .ow (c.map ay), .sh S, .sh (aD mv)]):=by
    simp only [bY,af,am,e2,Option.bind_some,Bool.false_and,Bool.false_eq_true,if_false,Option.map_some,az,look,Sl.val,dt,hl]
  refine pf (E1:=[.sh (.int z), .sh (.int u), .sh (.int (m:Int)), .ow (c.map ay), .sh S, .sh (aD mv)]) ?_ rfl
  have e4:(ah bH false (pC (.int 1)) (ad 2)) [.sh (.int z), .sh (.int u), .sh (.int (m:Int)), .ow (c.map ay), .sh S, .sh (aD mv)]=some (.sh (.int (1+(m:Int))),[.sh (.int z), .sh (.int u), .sh (.int (m:Int)), .ow (c.map ay), .sh S, .sh (aD mv)]):=rfl
  have e5:ah kA false (bY dt (af false (ao bp (af false (gh (ad 3)) (af false (bi (aa (ad 5) ar)) am))) am)) (ah bH false (pC (.int 1)) (ad 2)) [.sh (.int z), .sh (.int u), .sh (.int (m:Int)), .ow (c.map ay), .sh S, .sh (aD mv)]=some (.sh (.bool false),[.sh (.int z), .sh (.int u), .sh (.int (m:Int)), .ow (c.map ay), .sh S, .sh (aD mv)]):=
    fy e3 e4 (by simp [kA,dI,look,Sl.val,uy])
  unfold cS
  rw [e5]
  rfl
theorem xy {f g:cJ} {E E1:List Sl} {r:Sl} (h:f E=some (E1, .rt r)):aP f g E=some (E1, .rt r):=by
  unfold aP
  rw [h]
  rfl
theorem oA {f:bz} {E E1:List Sl} {d:PyData} (h:f E=some (.sh d,E1)):aV f E=some (E1, .rt (.sh d)):=by
  unfold aV
  rw [h]
  rfl
theorem yP (u:Int) (m:Nat):lZ 97 (((97,u):Pc)::tl m)=2*(u.natAbs:Int)+m:=by
  have h:=lX 97 (tl m) fun p hp=>by rcases nv m p hp with h | h <;> rw [h] <;> decide
  rw [oy] at h
  unfold lZ at h ⊢
  rw [List.map_cons,List.sum_cons,h,if_pos rfl]
theorem yQ:nz 97:=by unfold nz;decide
theorem zV:nz 98:=by unfold nz;decide
theorem lY (s:Int):MvL (.slide 97 98 s):=⟨yQ,zV,by decide⟩
theorem fY (z:Int):aF [.int z]=some (.sh (.bool true)):=by
  obtain ⟨t,ht,s1⟩:=zQ z .no .no .no .no
  obtain ⟨u,hu,s2⟩:=zT z t ht .no .no .no .no
  obtain ⟨m,hm,em⟩:∃m:Nat,m < 12∧z / 10 % 12=(m:Int):=⟨(z / 10 % 12).toNat,by omega,by omega⟩
  have s3:=zR z u .no .no .no
  rw [em] at s3
  have s4:=zS z u .no .no ⟨m,hm⟩
  have u0:u≠0:=fun h=>by rw [h] at hu;exact absurd hu (by decide)
  have hr:NH.Red (((97,u):Pc)::tl m):=xx u u0 ⟨m,hm⟩
  have hlc:(((97,u):Pc)::tl m).length=1+m:=by rw [List.length_cons,oy];omega
  have hw:=yP u m
  have hT:NH.Red (tl m):=hr.tail
  have nT:∀p∈tl m,p.1≠97∧p.1≠98:=fun p hp=>by rcases nv m p hp with h | h <;> rw [h] <;> exact ⟨by decide,by decide⟩
  have nb:∀p∈(((97,u):Pc)::tl m),p.1≠98:=fun p hp=>(List.mem_cons.mp hp).elim (fun h=>by rw [h];show (97:Nat)≠98;decide) fun h=>(nT p h).2
  have sl:=fun s hs=>tD 97 98 (by decide) u s hs (tl m) hT nT
  have s4:bc 3 (ah bH false (bi (aa (aG (aa (pC (.str "a")) (aa (ad 1) ar))) ar)) (dc [none] (iD (af false (ad 2) am)) bP cA bQ)) [.sh (.int z), .sh (.int u), .sh (.int (m:Int)), .no, .no, .no]=some ([.sh (.int z), .sh (.int u), .sh (.int (m:Int)), .ow ((((97,u):Pc)::tl m).map ay), .no, .no], .nx):=s4
  rw [oy] at sl
  generalize (((97,u):Pc)::tl m)=c at *
  have hl:c.length≤300:=by omega
  obtain ⟨s,hs,s5⟩:=zU z u (m:Int) (c.map ay) .no
  obtain ⟨R1,l1,i1⟩:=xr c 97 hr hl yQ
  obtain ⟨R2,l2,i2⟩:=xt c 97 98 hr hl ⟨yQ,zV,by decide⟩
  have i0:=xq c 97 98 hr hl (lY 0)
  have i3:=xu c 98 97 3 (by decide) hr hl ⟨zV,yQ,by decide⟩ nb
  have it:du (bi (aa (aG (aa (pC (.str "slide")) (aa (pC (.str "a")) (aa (pC (.str "b")) (aa (pC (.int 0)) ar))))) (aa (aG (aa (pC (.str "turn")) (aa (pC (.str "a")) ar))) (aa (aG (aa (pC (.str "change")) (aa (pC (.str "a")) (aa (pC (.str "b")) ar)))) (aa (aG (aa (pC (.str "slide")) (aa (pC (.str "b")) (aa (pC (.str "a")) (aa (pC (.int 3)) ar))))) ar))))) [.sh (.int z), .sh (.int u), .sh (.int (m:Int)), .ow (c.map ay), .sh (aD (.slide 97 98 s)), .no]=some ([aD (.slide 97 98 0),aD (.turn 97),aD (.change 97 98),aD (.slide 98 97 3)],[.sh (.int z), .sh (.int u), .sh (.int (m:Int)), .ow (c.map ay), .sh (aD (.slide 97 98 s)), .no]):=by kernel_rfl
  have s6:g9 (du (bi (aa (aG (aa (pC (.str "slide")) (aa (pC (.str "a")) (aa (pC (.str "b")) (aa (pC (.int 0)) ar))))) (aa (aG (aa (pC (.str "turn")) (aa (pC (.str "a")) ar))) (aa (aG (aa (pC (.str "change")) (aa (pC (.str "a")) (aa (pC (.str "b")) ar)))) (aa (aG (aa (pC (.str "slide")) (aa (pC (.str "b")) (aa (pC (.str "a")) (aa (pC (.int 3)) ar))))) ar)))))) bB bR [.sh (.int z), .sh (.int u), .sh (.int (m:Int)), .ow (c.map ay), .sh (aD (.slide 97 98 s)), .no]=some ([.sh (.int z), .sh (.int u), .sh (.int (m:Int)), .ow (c.map ay), .sh (aD (.slide 97 98 s)), .sh (aD (.slide 98 97 3))], .nx):=by
    unfold g9
    rw [it]
    simp only [Option.bind_some]
    rw [cM,jp z u m c c _ _ _ i0 hlc]
    show cM _ _ _ _=_
    rw [cM,jp z u m c R1 _ _ _ i1 (l1.trans hlc)]
    show cM _ _ _ _=_
    rw [cM,jp z u m c R2 _ _ _ i2 (l2.trans hlc)]
    show cM _ _ _ _=_
    rw [cM,jp z u m c c _ _ _ i3 hlc]
    rfl
  show cU 6 bF [.int z]=_
  unfold cU
  show (bF [.sh (.int z), .no, .no, .no, .no, .no]).bind _=_
  unfold bF
  rw [b_ s1,b_ s2,b_ s3,b_ s4,b_ s5,b_ s6]
  have l99:MvL (.turn 99):=by show nz 99;unfold nz;decide
  have e4:(ah bH false (ah iz false (pC (.int 2)) (bY iB (af false (ad 1) am))) (ad 2)) [.sh (.int z), .sh (.int u), .sh (.int (m:Int)), .ow (c.map ay), .sh (aD (.slide 97 98 s)), .sh (aD (.slide 98 97 3))]=some (.sh (.int (2*(u.natAbs:Int)+m)),[.sh (.int z), .sh (.int u), .sh (.int (m:Int)), .ow (c.map ay), .sh (aD (.slide 97 98 s)), .sh (aD (.slide 98 97 3))]):=by
    have m2:∀j:Int,iV 2 j=true:=fun j=>o9 (by decide) (by decide)
    have ab:(if u < 0 then -u else u)=(u.natAbs:Int):=by split <;> omega
    simp only [ah,pC,Sl.isBr,Bool.false_and,Bool.false_eq_true,bY,af,ad,am,Option.map_some,if_false,iB,iz,look,Sl.val,d5,cR,Option.bind_some,List.getElem?_cons_succ,List.getElem?_cons_zero,az,ab,Bool.not_false,Bool.true_or,Bool.and_true,m2,if_true,bH]
  have cnd:∀b:Bool,decide ((4000:Int) < 2*(u.natAbs:Int)+m)=b→(cS (ah (dI (dB .gt)) false (ah bH false (ah iz false (pC (.int 2)) (bY iB (af false (ad 1) am))) (ad 2)) (pC (.int 4000)))) [.sh (.int z), .sh (.int u), .sh (.int (m:Int)), .ow (c.map ay), .sh (aD (.slide 97 98 s)), .sh (aD (.slide 98 97 3))]=some (b,[.sh (.int z), .sh (.int u), .sh (.int (m:Int)), .ow (c.map ay), .sh (aD (.slide 97 98 s)), .sh (aD (.slide 98 97 3))]):=fun b hb=>by
    have k:=fy (p:=dI (dB .gt)) (r:=some (.sh (.bool b),[.sh (.int z), .sh (.int u), .sh (.int (m:Int)), .ow (c.map ay), .sh (aD (.slide 97 98 s)), .sh (aD (.slide 98 97 3))])) e4 (show pC (.int 4000) [.sh (.int z), .sh (.int u), .sh (.int (m:Int)), .ow (c.map ay), .sh (aD (.slide 97 98 s)), .sh (aD (.slide 98 97 3))]=some (.sh (.int 4000),[.sh (.int z), .sh (.int u), .sh (.int (m:Int)), .ow (c.map ay), .sh (aD (.slide 97 98 s)), .sh (aD (.slide 98 97 3))]) from rfl) (by simp only [dI,look,Sl.val,dB,Cm.i,Cm.s,Option.bind_some,hb,Option.map_some])
    unfold cS
    rw [k]
    rfl
  have nl:("TooLong":Str)∈(["NoMove","TooLong"]:List Str):=List.mem_cons_of_mem _ (List.mem_cons_self ..)
  by_cases h:(4000:Int) < 2*(u.natAbs:Int)+m
  · have cnd:=cnd true (decide_eq_true h)
    have r1:=hO (E:=[.sh (.int z), .sh (.int u), .sh (.int (m:Int)), .ow (c.map ay), .sh (aD (.slide 97 98 s)), .sh (aD (.slide 98 97 3))]) (js:=[3,4]) (n:=2) (due:=9) (ds:=[.list (c.map ay),aD (.slide 97 98 s)]) rfl (j4 (g:=af false (ad 0) (af false (bi (aa (aG (aa (pC (.str "turn")) (aa (pC (.str "c")) ar))) (aa (ad 1) ar))) am)) (rs:=[.sh (.list (c.map ay)), .ow [aD (.turn 99),aD (.slide 97 98 s)]]) (E1:=[.sh (.list (c.map ay)), .sh (aD (.slide 97 98 s))]) (ds:=[.list (c.map ay), .list [aD (.turn 99),aD (.slide 97 98 s)]]) (by kernel_rfl) rfl (xw c 99 97 98 s hs hr hl (lY s) l99 (by rw [hw];exact h))) nl m8
    have r2:=hO (E:=[.sh (.int z), .sh (.int u), .sh (.int (m:Int)), .ow (c.map ay), .sh (aD (.slide 97 98 s)), .sh (aD (.slide 98 97 3))]) (js:=[3,4]) (n:=2) (due:=9) (ds:=[.list (c.map ay),aD (.slide 97 98 s)]) rfl (j4 (g:=af false (ad 0) (af false (bi (aa (ad 1) (aa (aG (aa (pC (.str "turn")) (aa (pC (.str "a")) ar))) ar))) am)) (rs:=[.sh (.list (c.map ay)), .ow [aD (.slide 97 98 s),aD (.turn 97)]]) (E1:=[.sh (.list (c.map ay)), .sh (aD (.slide 97 98 s))]) (ds:=[.list (c.map ay), .list [aD (.slide 97 98 s),aD (.turn 97)]]) (by kernel_rfl) rfl (xv c 97 98 s (.turn 97) hs hr hl (lY s) yQ (by rw [hw];exact h))) nl m8
    rw [xy (sY cnd ((b_ (iP r1)).trans (oA r2)))]
    rfl
  · have cnd:=cnd false (decide_eq_false h)
    rw [b_ (pf cnd rfl)]
    have e:=nr c 97 98 s hs hr hl (lY s) (by rw [hw];omega)
    have e2:ao bp (af false (ad 3) (af false (bi (aa (ad 4) ar)) am)) [.sh (.int z), .sh (.int u), .sh (.int (m:Int)), .ow (c.map ay), .sh (aD (.slide 97 98 s)), .sh (aD (.slide 98 97 3))]=some (.ow ((NH.short (c.flatMap (ft (.slide 97 98 s)))).map ay),[.sh (.int z), .sh (.int u), .sh (.int (m:Int)), .ow (c.map ay), .sh (aD (.slide 97 98 s)), .sh (aD (.slide 98 97 3))]):=by
      have g:af false (ad 3) (af false (bi (aa (ad 4) ar)) am) [.sh (.int z), .sh (.int u), .sh (.int (m:Int)), .ow (c.map ay), .sh (aD (.slide 97 98 s)), .sh (aD (.slide 98 97 3))]=some ([.al 3, .ow [aD (.slide 97 98 s)]],[.sh (.int z), .sh (.int u), .sh (.int (m:Int)), .ow (c.map ay), .sh (aD (.slide 97 98 s)), .sh (aD (.slide 98 97 3))]):=by kernel_rfl
      unfold ao
      rw [g,Option.bind_some]
      simp [az,look,Sl.val,e]
    have hlen:(((NH.short (c.flatMap (ft (.slide 97 98 s)))).map ay).length:Int)=2*(u.natAbs:Int)+m:=by rw [List.length_map,sl s hs];omega
    have e3:(bY dt (af false (ao bp (af false (ad 3) (af false (bi (aa (ad 4) ar)) am))) am)) [.sh (.int z), .sh (.int u), .sh (.int (m:Int)), .ow (c.map ay), .sh (aD (.slide 97 98 s)), .sh (aD (.slide 98 97 3))]=some (.sh (.int (2*(u.natAbs:Int)+m)),[.sh (.int z), .sh (.int u), .sh (.int (m:Int)), .ow (c.map ay), .sh (aD (.slide 97 98 s)), .sh (aD (.slide 98 97 3))]):=by
      simp only [bY,af,am,e2,Option.bind_some,Bool.false_and,Bool.false_eq_true,if_false,Option.map_some,az,look,Sl.val,dt,hlen]
    have e5:=fy (p:=dw) (r:=some (.sh (.bool true),[.sh (.int z), .sh (.int u), .sh (.int (m:Int)), .ow (c.map ay), .sh (aD (.slide 97 98 s)), .sh (aD (.slide 98 97 3))])) e3 e4 (by simp [dw,dI,look,Sl.val,uy])
    rw [oA e5]
    rfl
theorem vR {f:List PyData→Option Sl} {g:bz} {E E1:List Sl} {d:PyData} {r:Sl} (h:g E=some (.sh d,E1)) (hf:f [d]=some r):ao f (af false g am) E=some (r,E1):=by
  simp only [ao,af,am,h,Option.bind_some,Bool.false_and,Bool.false_eq_true,if_false,Option.map_some,az,look,Sl.val,hf]
theorem tI (x0:Sl):∀(zs:List Int) (a:Sl),∃a',cM gz gA (zs.map .int) [x0,a]=some ([x0,a'], .nx)
  | [],a=>⟨a,rfl⟩
  | z::zs,a=>by
    obtain ⟨a',ih⟩:=tI x0 zs (.sh (.int z))
    refine ⟨a',?_⟩
    have e1:gz (.int z) [x0,a]=some [x0, .sh (.int z)]:=rfl
    have e2:ao bj (af false (ad 1) am) [x0, .sh (.int z)]=some (.sh (.bool true),[x0, .sh (.int z)]):=by
      simp [ao,af,am,ad,az,look,Sl.val,iQ z]
    have e3:gA [x0, .sh (.int z)]=some ([x0, .sh (.int z)], .nx):=iP e2
    rw [List.map_cons,cM,e1,Option.bind_some,e3]
    exact ih
theorem xz (ns:List Int) (h:ns.length≤63):iI [.list (ns.map .int)]=some (.sh (.bool true)):=by
  have a0:ao a_ (af false (ad 0) (af false (pC (.int 0)) am))=fun E=>ao a_ (af false (ad 0) (af false (pC (.int 0)) am)) E:=rfl
  have at0:∀a:Sl,ao a_ (af false (ad 0) (af false (pC (.int 0)) am)) [.sh (.list (ns.map .int)),a]=some (.sh (.int (ns.getD 0 0)),[.sh (.list (ns.map .int)),a]):=fun a=>by
    have:=kO ns 0
    simp only [ao,af,am,ad,pC,List.getElem?_cons_zero,Option.bind_some,Bool.false_and,Bool.false_eq_true,if_false,Option.map_some,az,look,Sl.val]
    rw [show ((0:Nat):Int)=0 from rfl] at this
    rw [this]
    rfl
  have at1:∀a:Sl,ao a_ (af false (ad 0) (af false (pC (.int 1)) am)) [.sh (.list (ns.map .int)),a]=some (.sh (.int (ns.getD 1 0)),[.sh (.list (ns.map .int)),a]):=fun a=>by
    have:=kO ns 1
    simp only [ao,af,am,ad,pC,List.getElem?_cons_zero,Option.bind_some,Bool.false_and,Bool.false_eq_true,if_false,Option.map_some,az,look,Sl.val]
    rw [show ((1:Nat):Int)=1 from rfl] at this
    rw [this]
    rfl
  have c1:gj false (ad 0) d8 (d9 (pC (.int 16))) [.sh (.list (ns.map .int)), .no]=some (.ow ((cutL ns none (some 16)).map .int),[.sh (.list (ns.map .int)), .no]):=by
    rw [←rV]
    rfl
  have l1:bi (aa (ah bH false (ao a_ (af false (ad 0) (af false (pC (.int 0)) am))) (pC (.int 3))) ar) [.sh (.list (ns.map .int)), .no]=some (.ow [.int (ns.getD 0 0+3)],[.sh (.list (ns.map .int)), .no]):=by
    have b:=fy (p:=bH) (r:=some (.sh (.int (ns.getD 0 0+3)),[.sh (.list (ns.map .int)), .no])) (at0 .no) (show pC (.int 3) [.sh (.list (ns.map .int)), .no]=some (.sh (.int 3),[.sh (.list (ns.map .int)), .no]) from rfl) rfl
    generalize ah bH false (ao a_ (af false (ad 0) (af false (pC (.int 0)) am))) (pC (.int 3))=f at b ⊢
    simp only [bi,aa,ar,Option.bind_some,b,frz,Option.map_some]
    rfl
  have b1:ah bH false (gj false (ad 0) d8 (d9 (pC (.int 16)))) (bi (aa (ah bH false (ao a_ (af false (ad 0) (af false (pC (.int 0)) am))) (pC (.int 3))) ar)) [.sh (.list (ns.map .int)), .no]=some (.ow ((cutL ns none (some 16)++[ns.getD 0 0+3]).map .int),[.sh (.list (ns.map .int)), .no]):=by
    refine fy c1 l1 ?_
    have hl:=rW ns none (some 16)
    simp only [bH,look,Sl.val,Option.bind_some,d5,cR,Bool.not_false,Bool.true_or,Bool.and_true]
    rw [if_pos (by simp;omega),List.map_append]
    rfl
  obtain ⟨a',lp⟩:=tI (.sh (.list (ns.map .int))) (cutL ns none (some 16)++[ns.getD 0 0+3]) .no
  have s1:g9 (du (ah bH false (gj false (ad 0) d8 (d9 (pC (.int 16)))) (bi (aa (ah bH false (ao a_ (af false (ad 0) (af false (pC (.int 0)) am))) (pC (.int 3))) ar)))) gz gA [.sh (.list (ns.map .int)), .no]=some ([.sh (.list (ns.map .int)),a'], .nx):=by
    unfold g9 du
    rw [b1]
    simp only [Option.bind_some,look,Sl.val,frz,Option.map_some]
    exact lp
  have q1:=vR (f:=aF) (at0 a') (fY (ns.getD 0 0))
  have q2:=vR (f:=aF) (fy (p:=bH) (r:=some (.sh (.int (ns.getD 1 0+2)),[.sh (.list (ns.map .int)),a'])) (at1 a') (show pC (.int 2) [.sh (.list (ns.map .int)),a']=some (.sh (.int 2),[.sh (.list (ns.map .int)),a']) from rfl) rfl) (fY (ns.getD 1 0+2))
  have w:cL (ao aF (af false (ao a_ (af false (ad 0) (af false (pC (.int 0)) am))) am)) (ao aF (af false (ah bH false (ao a_ (af false (ad 0) (af false (pC (.int 1)) am))) (pC (.int 2))) am)) [.sh (.list (ns.map .int)),a']=some (.sh (.bool true),[.sh (.list (ns.map .int)),a']):=by
    unfold cL
    rw [q1]
    exact q2
  show cU 2 kN [.list (ns.map .int)]=_
  unfold cU
  show (kN [.sh (.list (ns.map .int)), .no]).bind _=_
  unfold kN
  rw [b_ s1,oA w]
  rfl
end Nhk74
namespace Nhk74
open PySem L2 Nh PL
theorem iT {fd:FuncData} {xs:List Str} (h:∀a0,bindArgs fd ⟨[a0],[]⟩=pure (xs.zip [a0])):∀us:List Value,us.length=1→bindArgs fd ⟨us,[]⟩=pure (xs.zip us)
  | [a0],_=>h a0
theorem nw {fd:FuncData} {xs:List Str} (h:∀a0 a1,bindArgs fd ⟨[a0,a1],[]⟩=pure (xs.zip [a0,a1])):∀us:List Value,us.length=2→bindArgs fd ⟨us,[]⟩=pure (xs.zip us)
  | [a0,a1],_=>h a0 a1
theorem zW {fd:FuncData} {xs:List Str} (h:∀a0 a1 a2,bindArgs fd ⟨[a0,a1,a2],[]⟩=pure (xs.zip [a0,a1,a2])):∀us:List Value,us.length=3→bindArgs fd ⟨us,[]⟩=pure (xs.zip us)
  | [a0,a1,a2],_=>h a0 a1 a2
theorem zX {fd:FuncData} {xs:List Str} (h:∀a0 a1 a2 a3,bindArgs fd ⟨[a0,a1,a2,a3],[]⟩=pure (xs.zip [a0,a1,a2,a3])):∀us:List Value,us.length=4→bindArgs fd ⟨us,[]⟩=pure (xs.zip us)
  | [a0,a1,a2,a3],_=>h a0 a1 a2 a3
theorem xA {l:PySem.W.OpenLaw} {w:World} {K:PySem.W.Frag} {h:Heap} {mg:Str→Option Value} {fa f1 f2 f3 f4 f5 f6 f7 f8 f9 f10 f11 f12 f13 f14 f15 f16 f17 f18 f19 f20 f21 f22 f23 f24:Addr} (X:K.In h) (G:h.Ns mainGlobals mg) (hfa:mg "law"=some (.ref fa))
    {od1 od2 od3 od4 od5 od6 od7 od8 od9 od10 od11 od12 od13 od14 od15 od16 od17 od18 od19 od20 od21 od22 od23 od24 an1 an2 an3 an4 an5 an6 an7 an8 an9 an10 an11 an12 an13 an14 an15 an16 an17 an18 an19 an20 an21 an22 an23 an24:Option Addr} {sl1 sl2 sl3 sl4 sl5 sl6 sl7 sl8 sl9 sl10 sl11 sl12 sl13 sl14 sl15 sl16 sl17 sl18 sl19 sl20 sl21 sl22 sl23 sl24:Array (Option Value)} {oc1 kV1 dc1 pm1 cd1 ct1 oc2 kV2 dc2 pm2 cd2 ct2 oc3 kV3 dc3 pm3 cd3 ct3 oc4 kV4 dc4 pm4 cd4 ct4 oc5 kV5 dc5 pm5 cd5 ct5 oc6 kV6 dc6 pm6 cd6 ct6 oc7 kV7 dc7 pm7 cd7 ct7 oc8 kV8 dc8 pm8 cd8 ct8 oc9 kV9 dc9 pm9 cd9 ct9 oc10 kV10 dc10 pm10 cd10 ct10 oc11 kV11 dc11 pm11 cd11 ct11 oc12 kV12 dc12 pm12 cd12 ct12 oc13 kV13 dc13 pm13 cd13 ct13 oc14 kV14 dc14 pm14 cd14 ct14 oc15 kV15 dc15 pm15 cd15 ct15 oc16 kV16 dc16 pm16 cd16 ct16 oc17 kV17 dc17 pm17 cd17 ct17 oc18 kV18 dc18 pm18 cd18 ct18 oc19 kV19 dc19 pm19 cd19 ct19 oc20 kV20 dc20 pm20 cd20 ct20 oc21 kV21 dc21 pm21 cd21 ct21 oc22 kV22 dc22 pm22 ct22 oc23 kV23 dc23 pm23 ct23 oc24 kV24 dc24 pm24 cd24 ct24:Value}
    {PT22 PT23:Addr} (T:fe K ko [none,some PT22,some PT23,none,none,none,none,none])
    (a1:PySem.W.nsIn K mainGlobals "is_nail"=some (some (.ref f1))) (l1:K.lookup f1=some ⟨oc1,od1, .func (PySem.W.fnOf "is_nail" "is_nail" (aL eS) (ax eS) (ag eS) .none kV1 dc1 pm1 an1 cd1 ct1),sl1⟩) (c1:PySem.W.codeIn K cd1 "is_nail"=true) (k1:PySem.W.keepIn K (.ref f1)=true)
    (a2:PySem.W.nsIn K mainGlobals "is_whole"=some (some (.ref f2))) (l2:K.lookup f2=some ⟨oc2,od2, .func (PySem.W.fnOf "is_whole" "is_whole" (aL dR) (ax dR) (ag dR) .none kV2 dc2 pm2 an2 cd2 ct2),sl2⟩) (c2:PySem.W.codeIn K cd2 "is_whole"=true) (k2:PySem.W.keepIn K (.ref f2)=true)
    (a3:PySem.W.nsIn K mainGlobals "short_form"=some (some (.ref f3))) (l3:K.lookup f3=some ⟨oc3,od3, .func (PySem.W.fnOf "short_form" "short_form" (aL cQ) (ax cQ) (ag cQ) .none kV3 dc3 pm3 an3 cd3 ct3),sl3⟩) (c3:PySem.W.codeIn K cd3 "short_form"=true) (k3:PySem.W.keepIn K (.ref f3)=true)
    (a4:PySem.W.nsIn K mainGlobals "contrary"=some (some (.ref f4))) (l4:K.lookup f4=some ⟨oc4,od4, .func (PySem.W.fnOf "contrary" "contrary" (aL dS) (ax dS) (ag dS) .none kV4 dc4 pm4 an4 cd4 ct4),sl4⟩) (c4:PySem.W.codeIn K cd4 "contrary"=true) (k4:PySem.W.keepIn K (.ref f4)=true)
    (a5:PySem.W.nsIn K mainGlobals "repeated"=some (some (.ref f5))) (l5:K.lookup f5=some ⟨oc5,od5, .func (PySem.W.fnOf "repeated" "repeated" (aL dU) (ax dU) (ag dU) .none kV5 dc5 pm5 an5 cd5 ct5),sl5⟩) (c5:PySem.W.codeIn K cd5 "repeated"=true) (k5:PySem.W.keepIn K (.ref f5)=true)
    (a6:PySem.W.nsIn K mainGlobals "are_two_nails"=some (some (.ref f6))) (l6:K.lookup f6=some ⟨oc6,od6, .func (PySem.W.fnOf "are_two_nails" "are_two_nails" (aL bS) (ax bS) (ag bS) .none kV6 dc6 pm6 an6 cd6 ct6),sl6⟩) (c6:PySem.W.codeIn K cd6 "are_two_nails"=true) (k6:PySem.W.keepIn K (.ref f6)=true)
    (a7:PySem.W.nsIn K mainGlobals "is_move"=some (some (.ref f7))) (l7:K.lookup f7=some ⟨oc7,od7, .func (PySem.W.fnOf "is_move" "is_move" (aL eT) (ax eT) (ag eT) .none kV7 dc7 pm7 an7 cd7 ct7),sl7⟩) (c7:PySem.W.codeIn K cd7 "is_move"=true) (k7:PySem.W.keepIn K (.ref f7)=true)
    (a8:PySem.W.nsIn K mainGlobals "check_moves"=some (some (.ref f8))) (l8:K.lookup f8=some ⟨oc8,od8, .func (PySem.W.fnOf "check_moves" "check_moves" (aL b9) (ax b9) (ag b9) .none kV8 dc8 pm8 an8 cd8 ct8),sl8⟩) (c8:PySem.W.codeIn K cd8 "check_moves"=true) (k8:PySem.W.keepIn K (.ref f8)=true)
    (a9:PySem.W.nsIn K mainGlobals "pieces_beside"=some (some (.ref f9))) (l9:K.lookup f9=some ⟨oc9,od9, .func (PySem.W.fnOf "pieces_beside" "pieces_beside" (aL bT) (ax bT) (ag bT) .none kV9 dc9 pm9 an9 cd9 ct9),sl9⟩) (c9:PySem.W.codeIn K cd9 "pieces_beside"=true) (k9:PySem.W.keepIn K (.ref f9)=true)
    (a10:PySem.W.nsIn K mainGlobals "turned"=some (some (.ref f10))) (l10:K.lookup f10=some ⟨oc10,od10, .func (PySem.W.fnOf "turned" "turned" (aL fH) (ax fH) (ag fH) .none kV10 dc10 pm10 an10 cd10 ct10),sl10⟩) (c10:PySem.W.codeIn K cd10 "turned"=true) (k10:PySem.W.keepIn K (.ref f10)=true)
    (a11:PySem.W.nsIn K mainGlobals "changed"=some (some (.ref f11))) (l11:K.lookup f11=some ⟨oc11,od11, .func (PySem.W.fnOf "changed" "changed" (aL eU) (ax eU) (ag eU) .none kV11 dc11 pm11 an11 cd11 ct11),sl11⟩) (c11:PySem.W.codeIn K cd11 "changed"=true) (k11:PySem.W.keepIn K (.ref f11)=true)
    (a12:PySem.W.nsIn K mainGlobals "slid"=some (some (.ref f12))) (l12:K.lookup f12=some ⟨oc12,od12, .func (PySem.W.fnOf "slid" "slid" (aL iN) (ax iN) (ag iN) .none kV12 dc12 pm12 an12 cd12 ct12),sl12⟩) (c12:PySem.W.codeIn K cd12 "slid"=true) (k12:PySem.W.keepIn K (.ref f12)=true)
    (a13:PySem.W.nsIn K mainGlobals "moved_once"=some (some (.ref f13))) (l13:K.lookup f13=some ⟨oc13,od13, .func (PySem.W.fnOf "moved_once" "moved_once" (aL cw) (ax cw) (ag cw) .none kV13 dc13 pm13 an13 cd13 ct13),sl13⟩) (c13:PySem.W.codeIn K cd13 "moved_once"=true) (k13:PySem.W.keepIn K (.ref f13)=true)
    (a14:PySem.W.nsIn K mainGlobals "moved"=some (some (.ref f14))) (l14:K.lookup f14=some ⟨oc14,od14, .func (PySem.W.fnOf "moved" "moved" (aL fT) (ax fT) (ag fT) .none kV14 dc14 pm14 an14 cd14 ct14),sl14⟩) (c14:PySem.W.codeIn K cd14 "moved"=true) (k14:PySem.W.keepIn K (.ref f14)=true)
    (a15:PySem.W.nsIn K mainGlobals "back_move"=some (some (.ref f15))) (l15:K.lookup f15=some ⟨oc15,od15, .func (PySem.W.fnOf "back_move" "back_move" (aL dk) (ax dk) (ag dk) .none kV15 dc15 pm15 an15 cd15 ct15),sl15⟩) (c15:PySem.W.codeIn K cd15 "back_move"=true) (k15:PySem.W.keepIn K (.ref f15)=true)
    (a16:PySem.W.nsIn K mainGlobals "back_moves"=some (some (.ref f16))) (l16:K.lookup f16=some ⟨oc16,od16, .func (PySem.W.fnOf "back_moves" "back_moves" (aL cy) (ax cy) (ag cy) .none kV16 dc16 pm16 an16 cd16 ct16),sl16⟩) (c16:PySem.W.codeIn K cd16 "back_moves"=true) (k16:PySem.W.keepIn K (.ref f16)=true)
    (a17:PySem.W.nsIn K mainGlobals "_law_at"=some (some (.ref f17))) (l17:K.lookup f17=some ⟨oc17,od17, .func (PySem.W.fnOf "_law_at" "_law_at" (aL fI) (ax fI) (ag fI) .none kV17 dc17 pm17 an17 cd17 ct17),sl17⟩) (c17:PySem.W.codeIn K cd17 "_law_at"=true) (k17:PySem.W.keepIn K (.ref f17)=true)
    (a18:PySem.W.nsIn K mainGlobals "_law_kinds"=some (some (.ref f18))) (l18:K.lookup f18=some ⟨oc18,od18, .func (PySem.W.fnOf "_law_kinds" "_law_kinds" (aL dq) (ax dq) (ag dq) .none kV18 dc18 pm18 an18 cd18 ct18),sl18⟩) (c18:PySem.W.codeIn K cd18 "_law_kinds"=true) (k18:PySem.W.keepIn K (.ref f18)=true)
    (a19:PySem.W.nsIn K mainGlobals "_law_refused"=some (some (.ref f19))) (l19:K.lookup f19=some ⟨oc19,od19, .func (PySem.W.fnOf "_law_refused" "_law_refused" (aL cD) (ax cD) (ag cD) .none kV19 dc19 pm19 an19 cd19 ct19),sl19⟩) (c19:PySem.W.codeIn K cd19 "_law_refused"=true) (k19:PySem.W.keepIn K (.ref f19)=true)
    (a20:PySem.W.nsIn K mainGlobals "_law_no_move"=some (some (.ref f20))) (l20:K.lookup f20=some ⟨oc20,od20, .func (PySem.W.fnOf "_law_no_move" "_law_no_move" (aL cE) (ax cE) (ag cE) .none kV20 dc20 pm20 an20 cd20 ct20),sl20⟩) (c20:PySem.W.codeIn K cd20 "_law_no_move"=true) (k20:PySem.W.keepIn K (.ref f20)=true)
    (a21:PySem.W.nsIn K mainGlobals "_law_good"=some (some (.ref f21))) (l21:K.lookup f21=some ⟨oc21,od21, .func (PySem.W.fnOf "_law_good" "_law_good" (aL dW) (ax dW) (ag dW) .none kV21 dc21 pm21 an21 cd21 ct21),sl21⟩) (c21:PySem.W.codeIn K cd21 "_law_good"=true) (k21:PySem.W.keepIn K (.ref f21)=true)
    {cT22:Addr} (a22:PySem.W.nsIn K mainGlobals "_law_moves_refused"=some (some (.ref f22))) (l22:K.lookup f22=some ⟨oc22,od22, .func (PySem.W.fnOf "_law_moves_refused" "_law_moves_refused" (aL bt) (ax bt) (ag bt) .none kV22 dc22 pm22 an22 (.ref cT22) ct22),sl22⟩) (c22:PySem.W.codeIn K (.ref cT22) "_law_moves_refused"=true) (k22:PySem.W.keepIn K (.ref f22)=true)
    (th22:PySem.W.codeHdIn K cT22 PT22=true) (tq22:g4 K PT22=some (("_law_moves_refused":Str)++".<locals>."++"<lambda>"))
    {cT23:Addr} (a23:PySem.W.nsIn K mainGlobals "_law_long_refused"=some (some (.ref f23))) (l23:K.lookup f23=some ⟨oc23,od23, .func (PySem.W.fnOf "_law_long_refused" "_law_long_refused" (aL bG) (ax bG) (ag bG) .none kV23 dc23 pm23 an23 (.ref cT23) ct23),sl23⟩) (c23:PySem.W.codeIn K (.ref cT23) "_law_long_refused"=true) (k23:PySem.W.keepIn K (.ref f23)=true)
    (th23:PySem.W.codeHdIn K cT23 PT23=true) (tq23:g4 K PT23=some (("_law_long_refused":Str)++".<locals>."++"<lambda>"))
    (a24:PySem.W.nsIn K mainGlobals "law"=some (some (.ref f24))) (l24:K.lookup f24=some ⟨oc24,od24, .func (PySem.W.fnOf "law" "law" (aL ij) (ax ij) (ag ij) .none kV24 dc24 pm24 an24 cd24 ct24),sl24⟩) (c24:PySem.W.codeIn K cd24 "law"=true) (k24:PySem.W.keepIn K (.ref f24)=true)
    {t_LONGEST:Tok} (g_LONGEST:PySem.W.nsIn K mainGlobals "LONGEST"=some (some (.int 4000 t_LONGEST)))
    {ec_NoCord ec_NoNails ec_NoRule ec_NoText ec_NoMove ec_NoLine ec_NoName ec_NoNumber ec_TooMany ec_TooLong ec_HangError:Addr}
    (qc_NoCord:PySem.W.nsIn K mainGlobals "NoCord"=some (some (.ref ec_NoCord)))
    (qc_NoNails:PySem.W.nsIn K mainGlobals "NoNails"=some (some (.ref ec_NoNails)))
    (qc_NoRule:PySem.W.nsIn K mainGlobals "NoRule"=some (some (.ref ec_NoRule)))
    (qc_NoText:PySem.W.nsIn K mainGlobals "NoText"=some (some (.ref ec_NoText)))
    (qc_NoMove:PySem.W.nsIn K mainGlobals "NoMove"=some (some (.ref ec_NoMove)))
    (qc_NoLine:PySem.W.nsIn K mainGlobals "NoLine"=some (some (.ref ec_NoLine)))
    (qc_NoName:PySem.W.nsIn K mainGlobals "NoName"=some (some (.ref ec_NoName)))
    (qc_NoNumber:PySem.W.nsIn K mainGlobals "NoNumber"=some (some (.ref ec_NoNumber)))
    (qc_TooMany:PySem.W.nsIn K mainGlobals "TooMany"=some (some (.ref ec_TooMany)))
    (qc_TooLong:PySem.W.nsIn K mainGlobals "TooLong"=some (some (.ref ec_TooLong)))
    (qc_ValueError:PySem.W.nsIn K mainGlobals "ValueError"=some none)
    (qc_HangError:PySem.W.nsIn K mainGlobals "HangError"=some (some (.ref ec_HangError)))
    (w1_NoMove:PySem.W.excIn K ec_NoMove zB "ValueError.__new__"=true)
    (w2_NoMove:(PySem.W.clsIn K ec_NoMove).isSome=true)
    (w3_NoMove:PySem.W.findIn K (.ref ec_NoMove) "__getattribute__"=some (some (.builtin "BaseException.__getattribute__")))
    (w4_NoMove:PySem.W.findIn K (.ref ec_NoMove) "__getattr__"=some none)
    (w5_NoMove:PySem.W.findIn K (.ref ec_NoMove) "__class__"=some (some (.builtin "object.__class__")))
    (w6_NoMove:PySem.W.mroIn K ec_NoMove (.type "BaseException")=some true)
    (w7_NoMove:PySem.W.mroIn K ec_NoMove (.type "object")=some true)
    (y_NoMove_NoCord:PySem.W.kitOne K (.ref ec_NoMove) (.ref ec_NoCord)=some false)
    (y_NoMove_NoNails:PySem.W.kitOne K (.ref ec_NoMove) (.ref ec_NoNails)=some false)
    (y_NoMove_NoRule:PySem.W.kitOne K (.ref ec_NoMove) (.ref ec_NoRule)=some false)
    (y_NoMove_NoText:PySem.W.kitOne K (.ref ec_NoMove) (.ref ec_NoText)=some false)
    (y_NoMove_NoMove:PySem.W.kitOne K (.ref ec_NoMove) (.ref ec_NoMove)=some true)
    (y_NoMove_NoLine:PySem.W.kitOne K (.ref ec_NoMove) (.ref ec_NoLine)=some false)
    (y_NoMove_NoName:PySem.W.kitOne K (.ref ec_NoMove) (.ref ec_NoName)=some false)
    (y_NoMove_NoNumber:PySem.W.kitOne K (.ref ec_NoMove) (.ref ec_NoNumber)=some false)
    (y_NoMove_TooMany:PySem.W.kitOne K (.ref ec_NoMove) (.ref ec_TooMany)=some false)
    (y_NoMove_TooLong:PySem.W.kitOne K (.ref ec_NoMove) (.ref ec_TooLong)=some false)
    (y_NoMove_ValueError:PySem.W.kitOne K (.ref ec_NoMove) (.type "ValueError")=some true)
    (y_NoMove_HangError:PySem.W.exmOne K (.ref ec_NoMove) (.ref ec_HangError)=some true)
    (w1_TooLong:PySem.W.excIn K ec_TooLong zB "ValueError.__new__"=true)
    (w2_TooLong:(PySem.W.clsIn K ec_TooLong).isSome=true)
    (w3_TooLong:PySem.W.findIn K (.ref ec_TooLong) "__getattribute__"=some (some (.builtin "BaseException.__getattribute__")))
    (w4_TooLong:PySem.W.findIn K (.ref ec_TooLong) "__getattr__"=some none)
    (w5_TooLong:PySem.W.findIn K (.ref ec_TooLong) "__class__"=some (some (.builtin "object.__class__")))
    (w6_TooLong:PySem.W.mroIn K ec_TooLong (.type "BaseException")=some true)
    (w7_TooLong:PySem.W.mroIn K ec_TooLong (.type "object")=some true)
    (y_TooLong_NoCord:PySem.W.kitOne K (.ref ec_TooLong) (.ref ec_NoCord)=some false)
    (y_TooLong_NoNails:PySem.W.kitOne K (.ref ec_TooLong) (.ref ec_NoNails)=some false)
    (y_TooLong_NoRule:PySem.W.kitOne K (.ref ec_TooLong) (.ref ec_NoRule)=some false)
    (y_TooLong_NoText:PySem.W.kitOne K (.ref ec_TooLong) (.ref ec_NoText)=some false)
    (y_TooLong_NoMove:PySem.W.kitOne K (.ref ec_TooLong) (.ref ec_NoMove)=some false)
    (y_TooLong_NoLine:PySem.W.kitOne K (.ref ec_TooLong) (.ref ec_NoLine)=some false)
    (y_TooLong_NoName:PySem.W.kitOne K (.ref ec_TooLong) (.ref ec_NoName)=some false)
    (y_TooLong_NoNumber:PySem.W.kitOne K (.ref ec_TooLong) (.ref ec_NoNumber)=some false)
    (y_TooLong_TooMany:PySem.W.kitOne K (.ref ec_TooLong) (.ref ec_TooMany)=some false)
    (y_TooLong_TooLong:PySem.W.kitOne K (.ref ec_TooLong) (.ref ec_TooLong)=some true)
    (y_TooLong_ValueError:PySem.W.kitOne K (.ref ec_TooLong) (.type "ValueError")=some true)
    (y_TooLong_HangError:PySem.W.exmOne K (.ref ec_TooLong) (.ref ec_HangError)=some true)
    (z1:PySem.W.nsIn K mainGlobals "len"=some none)
    (z2:PySem.W.nsIn K mainGlobals "range"=some none)
    (z3:PySem.W.nsIn K mainGlobals "abs"=some none)
    (z4:PySem.W.nsIn K mainGlobals "min"=some none)
    (z5:PySem.W.nsIn K mainGlobals "max"=some none)
    (z6:PySem.W.nsIn K mainGlobals "reversed"=some none)
    (z7:PySem.W.nsIn K mainGlobals "enumerate"=some none)
    (z8:PySem.W.nsIn K mainGlobals "isinstance"=some none)
    (z9:PySem.W.nsIn K mainGlobals "list"=some none)
    (z10:PySem.W.nsIn K mainGlobals "tuple"=some none)
    (z11:PySem.W.nsIn K mainGlobals "str"=some none)
    (z12:PySem.W.nsIn K mainGlobals "int"=some none)
    (z13:PySem.W.nsIn K mainGlobals "bool"=some none)
    (z14:PySem.W.nsIn K mainGlobals "sorted"=some none)
    (z15:PySem.W.nsIn K mainGlobals "zip"=some none)
    (z16:PySem.W.nsIn K mainGlobals "sum"=some none)
    (z17:PySem.W.nsIn K mainGlobals "any"=some none)
    (z18:PySem.W.nsIn K mainGlobals "all"=some none)
    (z19:PySem.W.nsIn K mainGlobals "set"=some none)
    (z20:PySem.W.nsIn K mainGlobals "dict"=some none):
    ∃fd:FuncData,(∀(s:Shared) (v:Value),BindsTo s fd ⟨[v],[]⟩ [("_law_script",v)])∧∀base:Heap,K.In base→base.Ns mainGlobals mg→FnOk l.prog w K mg base jc 9 fa fd ["_law_script"] (cV K iI):=by
  have e:=hfa.symm.trans (PySem.W.mg_of X G a24)
  cases e
  have F0:=nJ (st:=ij) l24 c24 k24
  have B:Bn mg:=yt X G z1 z2 z3 z4 z5 z6 z7 z8 z9 z10 z11 z12 z13 z14 z15 z16 z17 z18 z19 z20
  have G_LONGEST:=PySem.W.mg_of X G g_LONGEST
  have Z_NoMove:ExCls K ec_NoMove:=⟨Option.isSome_iff_exists.mp w2_NoMove,w3_NoMove,w4_NoMove,w5_NoMove,w6_NoMove,w7_NoMove⟩
  have Z_TooLong:ExCls K ec_TooLong:=⟨Option.isSome_iff_exists.mp w2_TooLong,w3_TooLong,w4_TooLong,w5_TooLong,w6_TooLong,w7_TooLong⟩
  have XX:XF K mg:=⟨⟨ec_NoCord,PySem.W.mg_of X G qc_NoCord,(bw qc_NoMove Z_NoMove y_NoMove_NoCord (bw qc_TooLong Z_TooLong y_TooLong_NoCord eY))⟩,⟨ec_NoNails,PySem.W.mg_of X G qc_NoNails,(bw qc_NoMove Z_NoMove y_NoMove_NoNails (bw qc_TooLong Z_TooLong y_TooLong_NoNails eY))⟩,⟨ec_NoRule,PySem.W.mg_of X G qc_NoRule,(bw qc_NoMove Z_NoMove y_NoMove_NoRule (bw qc_TooLong Z_TooLong y_TooLong_NoRule eY))⟩,⟨ec_NoText,PySem.W.mg_of X G qc_NoText,(bw qc_NoMove Z_NoMove y_NoMove_NoText (bw qc_TooLong Z_TooLong y_TooLong_NoText eY))⟩,⟨ec_NoMove,PySem.W.mg_of X G qc_NoMove,(bw qc_NoMove Z_NoMove y_NoMove_NoMove (bw qc_TooLong Z_TooLong y_TooLong_NoMove eY)),⟨qc_NoMove,PySem.W.mg_of X G qc_NoMove,w1_NoMove,Z_NoMove⟩⟩,⟨ec_NoLine,PySem.W.mg_of X G qc_NoLine,(bw qc_NoMove Z_NoMove y_NoMove_NoLine (bw qc_TooLong Z_TooLong y_TooLong_NoLine eY))⟩,⟨ec_NoName,PySem.W.mg_of X G qc_NoName,(bw qc_NoMove Z_NoMove y_NoMove_NoName (bw qc_TooLong Z_TooLong y_TooLong_NoName eY))⟩,⟨ec_NoNumber,PySem.W.mg_of X G qc_NoNumber,(bw qc_NoMove Z_NoMove y_NoMove_NoNumber (bw qc_TooLong Z_TooLong y_TooLong_NoNumber eY))⟩,⟨ec_TooMany,PySem.W.mg_of X G qc_TooMany,(bw qc_NoMove Z_NoMove y_NoMove_TooMany (bw qc_TooLong Z_TooLong y_TooLong_TooMany eY))⟩,⟨ec_TooLong,PySem.W.mg_of X G qc_TooLong,(bw qc_NoMove Z_NoMove y_NoMove_TooLong (bw qc_TooLong Z_TooLong y_TooLong_TooLong eY)),⟨qc_TooLong,PySem.W.mg_of X G qc_TooLong,w1_TooLong,Z_TooLong⟩⟩,⟨PySem.W.mg_none_of X G qc_ValueError,(bw qc_NoMove Z_NoMove y_NoMove_ValueError (bw qc_TooLong Z_TooLong y_TooLong_ValueError eY))⟩,⟨ec_HangError,PySem.W.mg_of X G qc_HangError,fun n hn D hD=>by
    simp only [List.mem_cons,List.not_mem_nil,or_false] at hn
    rcases hn with rfl | rfl
    · rw [qc_NoMove] at hD;cases hD;exact y_NoMove_HangError
    · rw [qc_TooLong] at hD;cases hD;exact y_TooLong_HangError⟩⟩
  have e_is_nail:Def K mg "is_nail" eS ["thing"]:=b7 X G a1 l1 c1 k1 fun _ _ _ _ _ _=>fun us hl=>iT (fun _=>rfl) us hl
  have e_is_whole:Def K mg "is_whole" dR ["thing"]:=b7 X G a2 l2 c2 k2 fun _ _ _ _ _ _=>fun us hl=>iT (fun _=>rfl) us hl
  have e_short_form:Def K mg "short_form" cQ ["cord"]:=b7 X G a3 l3 c3 k3 fun _ _ _ _ _ _=>fun us hl=>iT (fun _=>rfl) us hl
  have e_contrary:Def K mg "contrary" dS ["cord"]:=b7 X G a4 l4 c4 k4 fun _ _ _ _ _ _=>fun us hl=>iT (fun _=>rfl) us hl
  have e_repeated:Def K mg "repeated" dU ["cord","times"]:=b7 X G a5 l5 c5 k5 fun _ _ _ _ _ _=>fun us hl=>nw (fun _ _=>rfl) us hl
  have e_are_two_nails:Def K mg "are_two_nails" bS ["one","other"]:=b7 X G a6 l6 c6 k6 fun _ _ _ _ _ _=>fun us hl=>nw (fun _ _=>rfl) us hl
  have e_is_move:Def K mg "is_move" eT ["thing"]:=b7 X G a7 l7 c7 k7 fun _ _ _ _ _ _=>fun us hl=>iT (fun _=>rfl) us hl
  have e_check_moves:Def K mg "check_moves" b9 ["moves"]:=b7 X G a8 l8 c8 k8 fun _ _ _ _ _ _=>fun us hl=>iT (fun _=>rfl) us hl
  have e_pieces_beside:Def K mg "pieces_beside" bT ["runs","move"]:=b7 X G a9 l9 c9 k9 fun _ _ _ _ _ _=>fun us hl=>nw (fun _ _=>rfl) us hl
  have e_turned:Def K mg "turned" fH ["runs","turning"]:=b7 X G a10 l10 c10 k10 fun _ _ _ _ _ _=>fun us hl=>nw (fun _ _=>rfl) us hl
  have e_changed:Def K mg "changed" eU ["runs","one","other"]:=b7 X G a11 l11 c11 k11 fun _ _ _ _ _ _=>fun us hl=>zW (fun _ _ _=>rfl) us hl
  have e_slid:Def K mg "slid" iN ["runs","sliding","other","times"]:=b7 X G a12 l12 c12 k12 fun _ _ _ _ _ _=>fun us hl=>zX (fun _ _ _ _=>rfl) us hl
  have e_moved_once:Def K mg "moved_once" cw ["runs","move"]:=b7 X G a13 l13 c13 k13 fun _ _ _ _ _ _=>fun us hl=>nw (fun _ _=>rfl) us hl
  have e_moved:Def K mg "moved" fT ["cord","moves"]:=b7 X G a14 l14 c14 k14 fun _ _ _ _ _ _=>fun us hl=>nw (fun _ _=>rfl) us hl
  have e_back_move:Def K mg "back_move" dk ["move"]:=b7 X G a15 l15 c15 k15 fun _ _ _ _ _ _=>fun us hl=>iT (fun _=>rfl) us hl
  have e_back_moves:Def K mg "back_moves" cy ["moves"]:=b7 X G a16 l16 c16 k16 fun _ _ _ _ _ _=>fun us hl=>iT (fun _=>rfl) us hl
  have e_law_at:Def K mg "_law_at" fI ["_law_script","_law_k"]:=b7 X G a17 l17 c17 k17 fun _ _ _ _ _ _=>fun us hl=>nw (fun _ _=>rfl) us hl
  have e_law_kinds:Def K mg "_law_kinds" dq ["_law_e"]:=b7 X G a18 l18 c18 k18 fun _ _ _ _ _ _=>fun us hl=>iT (fun _=>rfl) us hl
  have e_law_refused:Def K mg "_law_refused" cD ["_law_deed","_law_due"]:=b7 X G a19 l19 c19 k19 fun _ _ _ _ _ _=>fun us hl=>nw (fun _ _=>rfl) us hl
  have e_law_no_move:Def K mg "_law_no_move" cE ["_law_cell"]:=b7 X G a20 l20 c20 k20 fun _ _ _ _ _ _=>fun us hl=>iT (fun _=>rfl) us hl
  have e_law_good:Def K mg "_law_good" dW ["_law_cell"]:=b7 X G a21 l21 c21 k21 fun _ _ _ _ _ _=>fun us hl=>iT (fun _=>rfl) us hl
  have e_law_moves_refused:DefT K mg "_law_moves_refused" bt ["_law_cell"] cT22 PT22:=⟨⟨f22,_,_,_,_,_,_,_,_,l22,c22,k22,PySem.W.mg_of X G a22, .all (fun us hl=>iT (fun _=>rfl) us hl)⟩,th22,tq22⟩
  have e_law_long_refused:DefT K mg "_law_long_refused" bG ["_law_cell"] cT23 PT23:=⟨⟨f23,_,_,_,_,_,_,_,_,l23,c23,k23,PySem.W.mg_of X G a23, .all (fun us hl=>iT (fun _=>rfl) us hl)⟩,th23,tq23⟩
  refine ⟨PySem.W.fnOf "law" "law" (aL ij) (ax ij) (ag ij) .none kV24 dc24 pm24 an24 cd24 ct24,fun s v=> .of_eq rfl,fun base _ _=>?_⟩
  have D_is_nail:=n8 (P:=l.prog) (w:=w) (base:=base) e_is_nail B
  have D_is_whole:=mY (P:=l.prog) (w:=w) (base:=base) e_is_whole B
  have D_short_form:=ki (P:=l.prog) (w:=w) (base:=base) e_short_form B
  have D_contrary:=m4 (P:=l.prog) (w:=w) (base:=base) e_contrary B
  have D_repeated:=m6 (P:=l.prog) (w:=w) (base:=base) e_repeated B D_contrary
  have D_are_two_nails:=iK (P:=l.prog) (w:=w) (base:=base) e_are_two_nails B D_is_nail
  have D_is_move:=oa (P:=l.prog) (w:=w) (base:=base) e_is_move B D_is_nail D_are_two_nails D_is_whole
  have D_check_moves:=jY (P:=l.prog) (w:=w) (base:=base) e_check_moves B D_is_move XX
  have R_check_moves:=jd (P:=l.prog) (w:=w) (base:=base) e_check_moves B D_is_move XX
  have D_pieces_beside:=iM (P:=l.prog) (w:=w) (base:=base) e_pieces_beside B
  have D_turned:=qp (P:=l.prog) (w:=w) (base:=base) e_turned B
  have D_changed:=og (P:=l.prog) (w:=w) (base:=base) e_changed B
  have D_slid:=u8 (P:=l.prog) (w:=w) (base:=base) e_slid B D_repeated D_short_form
  have D_moved_once:=kj (P:=l.prog) (w:=w) (base:=base) e_moved_once B G_LONGEST D_pieces_beside D_turned D_changed D_slid XX
  have R_moved_once:=jZ (P:=l.prog) (w:=w) (base:=base) e_moved_once B G_LONGEST D_pieces_beside D_turned D_changed D_slid XX
  have D_moved:=sX (P:=l.prog) (w:=w) (base:=base) e_moved B D_check_moves D_short_form D_moved_once R_check_moves R_moved_once
  have R_moved:=qr (P:=l.prog) (w:=w) (base:=base) e_moved B D_check_moves D_short_form D_moved_once R_check_moves R_moved_once
  have D_back_move:=lR (P:=l.prog) (w:=w) (base:=base) e_back_move B
  have D_back_moves:=kl (P:=l.prog) (w:=w) (base:=base) e_back_moves B D_check_moves D_back_move R_check_moves
  have R_back_moves:=j0 (P:=l.prog) (w:=w) (base:=base) e_back_moves B D_check_moves D_back_move R_check_moves
  have D_law_at:=qv (P:=l.prog) (w:=w) (base:=base) e_law_at B
  have D_law_kinds:=lS (P:=l.prog) (w:=w) (base:=base) e_law_kinds B XX
  have D_law_refused:=j2 (P:=l.prog) (w:=w) (base:=base) e_law_refused B D_law_kinds XX
  have D_law_no_move:=j3 (P:=l.prog) (w:=w) (base:=base) e_law_no_move B
  have D_law_good:=m7 (P:=l.prog) (w:=w) (base:=base) e_law_good B
  have D_law_moves_refused:=gB (P:=l.prog) (w:=w) (base:=base) e_law_moves_refused B D_law_good D_law_no_move D_law_refused R_moved R_back_moves
  have D_law_long_refused:=gT (P:=l.prog) (w:=w) (base:=base) e_law_long_refused B D_moved D_law_refused R_moved
  exact xk F0 B D_law_at D_law_moves_refused D_law_long_refused
theorem zY {PT22 PT23:Addr} {l:PySem.W.OpenLaw} {q:Program} {loose:List Str} {XP:(Str→Option Value)→Heap→Prop} {YP:World→Heap→Prop} {d:DefRec} {K:Params→PySem.W.Frag} (hn:l.most=some 63) (hdf:d.params.defaults=[])
    (T:∀w:World,fe (K w.params) ko [none,some PT22,some PT23,none,none,none,none,none]) (hY:∀(w:World) (h:Heap),YP w h→(K w.params).In h∧jQ (K w.params) h [none,some PT22,some PT23,none,none,none,none,none])
    (F:∀(w:World) (mg:Str→Option Value) (fa:Addr) (h:Heap),fe (K w.params) ko [none,some PT22,some PT23,none,none,none,none,none]→(K w.params).In h→h.Ns mainGlobals mg→mg d.name=some (.ref fa)→
      ∃fd:FuncData,(∀(s:Shared) (u:Value),BindsTo s fd ⟨[u],[]⟩ [("_law_script",u)])∧∀base:Heap,(K w.params).In base→base.Ns mainGlobals mg→FnOk l.prog w (K w.params) mg base jc 9 fa fd ["_law_script"] (cV (K w.params) iI)):
    PySem.W.WalkO q loose XP YP l.row.toRowW d [] (fun f vs=>PySem.call f vs):=
  L2.si (n:=63) (k:=9) (x:="_law_script") (CX:=fun _=>jc) (sp:=fun w=>cV (K w.params) iI) hn (by decide) hdf ⟨rfl,by decide,by decide⟩ (fun w h Y=>⟨(hY w h Y).1,uY (hY w h Y).1 (T w) (hY w h Y).2⟩) (fun w mg fa h=>F w mg fa h (T w)) (fun _ _ a ns hl hS=>wR (xz ns hl) hS) fun _ _ _ _ _ z=>z
end Nhk74
open PySem PySem.W PyProof.Rows
namespace PySem.W.Fast
def tw14720206070464388224:=0
def tw8600595894150993248:=0
def tw13142984582294209920:=0
def tw14700383929959541152:=0
def tw17963864307450710464:=0
def tw6746342531314687520:=0
def tw14085285429788658272:=0
def tw6907768459089575648:=0
def tw6050870023623066336:=0
def tw7992101762193846240:=0
def tw16956874466893678689:=0
def tw16170831305126579329:=0
def tw12639620617745729761:=0
def tw7543236425165070593:=0
def tw458386652238426561:=0
def tw11692319475118074465:=0
def tw7125544840754952833:=0
def tw2866024779747650177:=0
def tw12450758205377892097:=0
def tw17038716380580115297:=0
def tw16834095769137308609:=0
def tw11056404231486399554:=0
def tw2154655169681584258:=0
def tw4397907596354631938:=0
def tw16562366878627281218:=0
def tw1343706334710012482:=0
def tw5562572587699846786:=0
def tw5406721267795789730:=0
def tw4356664585377854467:=0
def tw11522686104475534435:=0
def tw4374125510500308739:=0
def tw13141000634094722819:=0
def tw10123634054583581571:=0
def tw16433720725250435172:=0
def tw3897074302713424004:=0
def tw11187697848835284228:=0
def tw8295356229892105668:=0
def tw5808993961524804068:=0
def tw8261240543659766532:=0
def tw13469145352919033636:=0
def tw1115442465868190564:=0
def tw14207814457498815557:=0
def tw1754003504660470853:=0
def tw15967670911893536869:=0
def tw10626802695760017573:=0
def tw8751022267042306597:=0
def tw14155931907190138437:=0
def tw4148087184750926469:=0
def tw6468805298386129765:=0
def tw4947518557880515493:=0
def tw3902846336779167685:=0
def tw12729289293982750790:=0
def tw6590990465221010566:=0
def tw7283645942738955494:=0
def tw16893801013499114758:=0
def tw14700867747983770054:=0
def tw9112480671575592486:=0
def tw10166574854917780102:=0
def tw16880290125165153958:=0
def tw8419685848483750726:=0
def tw6341380924728422310:=0
def tw9552061560897000422:=0
def tw9845427550893570119:=0
def tw17039562179582988391:=0
def tw16899321078724141223:=0
def tw13767808910839957703:=0
def tw9124007060453374151:=0
def tw13254015381877943687:=0
def tw9046010593407117703:=0
def tw14566182784297751975:=0
def tw3811939524034159175:=0
def tw10163494455751890695:=0
def tw17941496459190227176:=0
def tw9645940403213216136:=0
def tw4896961577916345192:=0
def tw15470287084151439240:=0
def tw4318917075515699176:=0
def tw10162178190550413288:=0
def tw8750994168306490473:=0
def tw15273941700012457161:=0
def tw9429377071971520745:=0
def tw1039655180449533161:=0
def tw15711747780976592169:=0
def tw5591158476571049481:=0
def tw4237024521472901673:=0
def tw4044819423195438857:=0
def tw6336013548263434217:=0
def tw15743381713626643466:=0
def tw18206869494764430378:=0
def tw13157262261009445962:=0
def tw6675949107312390250:=0
def tw10692033630452483210:=0
def tw6282296144572130538:=0
def tw751466103691021610:=0
def tw16053865360894873034:=0
def tw12786798418476546634:=0
def tw470228984547622730:=0
def tw15619014819371070346:=0
def tw5750459939413033930:=0
def tw11397331361503816715:=0
def tw3137786595962722347:=0
def tw11705484495744155755:=0
def tw10520160749356361067:=0
def tw2096908684505873835:=0
def tw420038269511216555:=0
def tw16254105366618769899:=0
def tw13689024109837444204:=0
def tw5350994531816101100:=0
def tw1302021491516264716:=0
def tw3413581933632896652:=0
def tw9719336796850049836:=0
def tw13152408232156929964:=0
def tw13504697253847215117:=0
def tw14560673147737593869:=0
def tw7570771451554671789:=0
def tw15010454935357817037:=0
def tw3118855593692964461:=0
def tw14456360292806465133:=0
def tw16846761863653298893:=0
def tw16591810043454693101:=0
def tw16637621695002539821:=0
def tw18349777132793283437:=0
def tw11877954349936847853:=0
def tw15241524053488950446:=0
def tw6000009114973126894:=0
def tw9886648007356518734:=0
def tw11983422898800763310:=0
def tw8347778505228576270:=0
def tw12598217653307894382:=0
def tw12668117699205647054:=0
def tw5337702658368102126:=0
def tw13409180103629671214:=0
def tw15350580506186484558:=0
def tw10103607542824580078:=0
def tw14876542839439065070:=0
def tw17493513466752326767:=0
def tw562498568599264463:=0
def tw6687575733051378959:=0
def tw2423621699789009199:=0
def tw2562749092529810863:=0
def tw3915884108250764975:=0
def tw13964667546023070479:=0
def tw10404472128396668687:=0
def tw5342310268161956815:=0
def tw6960757433807042768:=0
def tw1323257642519535856:=0
def tw17827692588320969040:=0
def tw1752625769457053168:=0
def tw8315512450051442224:=0
def tw15432166128391318128:=0
def tw1049176762465081104:=0
def tw16504487907163081648:=0
def tw10476307230720785392:=0
def tw16780168446087861361:=0
def tw3529081115034634449:=0
def tw17063624847871282417:=0
def tw12555269580103660881:=0
def tw4706080412653952369:=0
def tw179256481027074577:=0
def tw15035108791994481457:=0
def tw7522258821139034097:=0
def tw8403108493793693874:=0
def tw2203366278716333362:=0
def tw13087780525456400914:=0
def tw3924851739733424722:=0
def tw11851041121842121362:=0
def tw9724292911503883122:=0
def tw7719071513490375634:=0
def tw5375171172385825746:=0
def tw17571968788068331539:=0
def tw2561426071104121907:=0
def tw8458730698632117427:=0
def tw12067154416232674483:=0
def tw14800905312820435187:=0
def tw18258719986341411347:=0
def tw12741152563552076403:=0
def tw13899286062464238291:=0
def tw8654520190625166067:=0
def tw8540724529130387411:=0
def tw9535244188411022323:=0
def tw11819017101839718387:=0
def tw16841568196271857651:=0
def tw11607140872512880692:=0
def tw12094423883049570452:=0
def tw3939961208542871732:=0
def tw246368090581219508:=0
def tw11887792355056606420:=0
def tw4433019851798262036:=0
def tw12141447960457019956:=0
def tw12899469984564067988:=0
def tw4804528564906901172:=0
def tw7877344148965081844:=0
def tw8128452090754113300:=0
def tw11602284192806698836:=0
def tw2141028320237638548:=0
def tw7518489909361951700:=0
def tw2096888536560341269:=0
def tw283418728915194293:=0
def tw4315169936006202837:=0
def tw10396556209392288213:=0
def tw7235485403554089461:=0
def tw7219223320374489653:=0
def tw16064867611898320982:=0
def tw17748785039613801590:=0
def tw18088611024769176790:=0
def tw8946551856337456630:=0
def tw4920340142855210518:=0
def tw14252726922111970038:=0
def tw6805501535895811830:=0
def tw8142860325298687894:=0
def tw5549174892739513334:=0
def tw15688919819549466775:=0
def tw16019440556309358775:=0
def tw8247806034385512823:=0
def tw12362342706766965111:=0
def tw2861620019776249399:=0
def tw9757457072017891927:=0
def tw5348179428683628183:=0
def tw13475690585158267575:=0
def tw256364224378659575:=0
def tw1169112187348171543:=0
def tw18304125314227959639:=0
def tw18277584466298462071:=0
def tw3208026729322749016:=0
def tw2654719835270443256:=0
def tw13522728125903024504:=0
def tw1051541403415924152:=0
def tw122735194629435832:=0
def tw3749965492651867608:=0
def tw7956659239100431096:=0
def tw10904579515992147704:=0
def tw15305452209562258360:=0
def tw17138894629758521369:=0
def tw14765297958751871065:=0
def tw3773209137525825689:=0
def tw15606238120981918937:=0
def tw14965942802892161273:=0
def tw4921941692895067417:=0
def tw8512528246771985689:=0
def tw17825489010237738329:=0
def tw42761507137676729:=0
def tw5272237960994179577:=0
def tw13801219344768686681:=0
def tw7668586204828807801:=0
def tw4607319761659254425:=0
def tw2162624416483446489:=0
def tw2798772469652084441:=0
def tw4762394582042354457:=0
def tw17686346972993024857:=0
def tw17155039378753385337:=0
def tw4021401734172265337:=0
def tw4158684799713176473:=0
def tw11325857638156271642:=0
def tw5512455685333305498:=0
def tw14951040050699136186:=0
def tw12808709279575982330:=0
def tw12810582590341157114:=0
def tw11102862083407482106:=0
def tw2860620807265923834:=0
def tw17613721170954953530:=0
def tw2081144833134717754:=0
def tw14090342190496282458:=0
def tw18202220100368854906:=0
def tw3307205571751980379:=0
def tw17359287803119720987:=0
def tw5067650167505936091:=0
def tw12053385437039455388:=0
def tw15267134548034391356:=0
def tw13609060639538322876:=0
def tw8268479005626439132:=0
def tw18218541793959101916:=0
def tw2642412442975310364:=0
def tw2006298209209119388:=0
def tw8565265811481751420:=0
def tw1134093631203773308:=0
def tw17222207619121298428:=0
def tw5177123824206448957:=0
def tw13174263215368525309:=0
def tw6063127171905114621:=0
def tw15561796648157144669:=0
def tw12727515677694181085:=0
def tw7816633063261815613:=0
def tw16200199675849696221:=0
def tw6685258389545800734:=0
def tw10996415787293633598:=0
def tw16665981449736895550:=0
def tw15044488039269084318:=0
def tw7532484604992245918:=0
def tw6287445618717063422:=0
def tw17081083824179950910:=0
def tw2085468909661227518:=0
def tw6635564024217134622:=0
def tw18004597806216649406:=0
def tw11389649328321913758:=0
def tw16283151895349035966:=0
def tw8341021911916437502:=0
def tw12729738351976825951:=0
def tw7747603333247553727:=0
def tw12749896428924121279:=0
def tw4115580839736085823:=0
def tw17699117739809590687:=0
def tw11920201180517584319:=0
def tw542193868174428671:=0
def tw16359251513339646463:=0
def tw13236148085921586815:=0
def tw4703624296963663551:=0
def tw3487604274965545727:=0
def tw4530075571260472127:=0
def tw6109525735514767167:=0
def tw11617458341303626591:=0
def tw18332262897702975327:=0
def tw14029835340882705375:=0
def tw5941227076868739039:=0
def tw11753122544798398463:=0
def tw11459646117999334332:=0
end PySem.W.Fast
set_option maxRecDepth 100000 in
set_option maxHeartbeats 0 in
theorem PySem.Challenge.cw_nailhang_k74_no_moves_holds : PySem.Challenge.rw_nailhang_k74_no_moves.Holds := by
  w_on;o_law;k_head;(case hw=>w_witness2)
  k_fill
  refine' Nhk74.zY (l:=PySem.Challenge.rw_nailhang_k74_no_moves) rfl rfl ?T (fun w h Y=>⟨PySem.W.km_in_of Y,?Y⟩) ?F
  case T=>
    intro w
    refine' ⟨PL.dO ?tn0,PL.mQ ?ta22 ?tb22 ?tc22 ?td22 ?te22 ?tf22,PL.mQ ?ta23 ?tb23 ?tc23 ?td23 ?te23 ?tf23,PL.dO ?tn3,PL.dO ?tn4,PL.dO ?tn5,PL.dO ?tn6,PL.dO ?tn7,trivial⟩
    (case tn0=>k_is)
    (case ta22=>k_is)
    (case tb22=>k_is)
    (case tc22=>exact rfl)
    (case td22=>k_is)
    (case te22=>exact rfl)
    (case tf22=>kernel_rfl)
    (case ta23=>k_is)
    (case tb23=>k_is)
    (case tc23=>exact rfl)
    (case td23=>k_is)
    (case te23=>exact rfl)
    (case tf23=>kernel_rfl)
    (case tn3=>k_is)
    (case tn4=>k_is)
    (case tn5=>k_is)
    (case tn6=>k_is)
    (case tn7=>k_is)
  case Y=>
    refine' ⟨⟨PySem.W.km_tabs_of Y _ ?ua22,?uc22⟩,⟨⟨PySem.W.km_tabs_of Y _ ?ua23,?uc23⟩,trivial⟩⟩
    (case ua22=>k_mem)
    (case uc22=>kernel_rfl)
    (case ua23=>k_mem)
    (case uc23=>kernel_rfl)
  case F=>
    intro w mg fa h T KX G hmg
    refine' Nhk74.xA KX G hmg T ?a1 ?l1 ?c1 ?k1 ?a2 ?l2 ?c2 ?k2 ?a3 ?l3 ?c3 ?k3 ?a4 ?l4 ?c4 ?k4 ?a5 ?l5 ?c5 ?k5 ?a6 ?l6 ?c6 ?k6 ?a7 ?l7 ?c7 ?k7 ?a8 ?l8 ?c8 ?k8 ?a9 ?l9 ?c9 ?k9 ?a10 ?l10 ?c10 ?k10 ?a11 ?l11 ?c11 ?k11 ?a12 ?l12 ?c12 ?k12 ?a13 ?l13 ?c13 ?k13 ?a14 ?l14 ?c14 ?k14 ?a15 ?l15 ?c15 ?k15 ?a16 ?l16 ?c16 ?k16 ?a17 ?l17 ?c17 ?k17 ?a18 ?l18 ?c18 ?k18 ?a19 ?l19 ?c19 ?k19 ?a20 ?l20 ?c20 ?k20 ?a21 ?l21 ?c21 ?k21 ?a22 ?l22 ?c22 ?k22 ?th22 ?tq22 ?a23 ?l23 ?c23 ?k23 ?th23 ?tq23 ?a24 ?l24 ?c24 ?k24 ?g_LONGEST ?qc_NoCord ?qc_NoNails ?qc_NoRule ?qc_NoText ?qc_NoMove ?qc_NoLine ?qc_NoName ?qc_NoNumber ?qc_TooMany ?qc_TooLong ?qc_ValueError ?qc_HangError ?w1_NoMove ?w2_NoMove ?w3_NoMove ?w4_NoMove ?w5_NoMove ?w6_NoMove ?w7_NoMove ?y_NoMove_NoCord ?y_NoMove_NoNails ?y_NoMove_NoRule ?y_NoMove_NoText ?y_NoMove_NoMove ?y_NoMove_NoLine ?y_NoMove_NoName ?y_NoMove_NoNumber ?y_NoMove_TooMany ?y_NoMove_TooLong ?y_NoMove_ValueError ?y_NoMove_HangError ?w1_TooLong ?w2_TooLong ?w3_TooLong ?w4_TooLong ?w5_TooLong ?w6_TooLong ?w7_TooLong ?y_TooLong_NoCord ?y_TooLong_NoNails ?y_TooLong_NoRule ?y_TooLong_NoText ?y_TooLong_NoMove ?y_TooLong_NoLine ?y_TooLong_NoName ?y_TooLong_NoNumber ?y_TooLong_TooMany ?y_TooLong_TooLong ?y_TooLong_ValueError ?y_TooLong_HangError ?z1 ?z2 ?z3 ?z4 ?z5 ?z6 ?z7 ?z8 ?z9 ?z10 ?z11 ?z12 ?z13 ?z14 ?z15 ?z16 ?z17 ?z18 ?z19 ?z20
    (case a1=>k_is)
    (case l1=>k_is)
    (case c1=>k_is)
    (case k1=>k_is)
    (case a2=>k_is)
    (case l2=>k_is)
    (case c2=>k_is)
    (case k2=>k_is)
    (case a3=>k_is)
    (case l3=>k_is)
    (case c3=>k_is)
    (case k3=>k_is)
    (case a4=>k_is)
    (case l4=>k_is)
    (case c4=>k_is)
    (case k4=>k_is)
    (case a5=>k_is)
    (case l5=>k_is)
    (case c5=>k_is)
    (case k5=>k_is)
    (case a6=>k_is)
    (case l6=>k_is)
    (case c6=>k_is)
    (case k6=>k_is)
    (case a7=>k_is)
    (case l7=>k_is)
    (case c7=>k_is)
    (case k7=>k_is)
    (case a8=>k_is)
    (case l8=>k_is)
    (case c8=>k_is)
    (case k8=>k_is)
    (case a9=>k_is)
    (case l9=>k_is)
    (case c9=>k_is)
    (case k9=>k_is)
    (case a10=>k_is)
    (case l10=>k_is)
    (case c10=>k_is)
    (case k10=>k_is)
    (case a11=>k_is)
    (case l11=>k_is)
    (case c11=>k_is)
    (case k11=>k_is)
    (case a12=>k_is)
    (case l12=>k_is)
    (case c12=>k_is)
    (case k12=>k_is)
    (case a13=>k_is)
    (case l13=>k_is)
    (case c13=>k_is)
    (case k13=>k_is)
    (case a14=>k_is)
    (case l14=>k_is)
    (case c14=>k_is)
    (case k14=>k_is)
    (case a15=>k_is)
    (case l15=>k_is)
    (case c15=>k_is)
    (case k15=>k_is)
    (case a16=>k_is)
    (case l16=>k_is)
    (case c16=>k_is)
    (case k16=>k_is)
    (case a17=>k_is)
    (case l17=>k_is)
    (case c17=>k_is)
    (case k17=>k_is)
    (case a18=>k_is)
    (case l18=>k_is)
    (case c18=>k_is)
    (case k18=>k_is)
    (case a19=>k_is)
    (case l19=>k_is)
    (case c19=>k_is)
    (case k19=>k_is)
    (case a20=>k_is)
    (case l20=>k_is)
    (case c20=>k_is)
    (case k20=>k_is)
    (case a21=>k_is)
    (case l21=>k_is)
    (case c21=>k_is)
    (case k21=>k_is)
    (case a22=>k_is)
    (case l22=>k_is)
    (case c22=>k_is)
    (case k22=>k_is)
    (case th22=>kernel_rfl)
    (case tq22=>exact (PL.jl T).trans (by kernel_rfl))
    (case a23=>k_is)
    (case l23=>k_is)
    (case c23=>k_is)
    (case k23=>k_is)
    (case th23=>kernel_rfl)
    (case tq23=>exact (PL.jl T).trans (by kernel_rfl))
    (case a24=>k_is)
    (case l24=>k_is)
    (case c24=>k_is)
    (case k24=>k_is)
    (case g_LONGEST=>k_is)
    (case qc_NoCord=>k_is)
    (case qc_NoNails=>k_is)
    (case qc_NoRule=>k_is)
    (case qc_NoText=>k_is)
    (case qc_NoMove=>k_is)
    (case qc_NoLine=>k_is)
    (case qc_NoName=>k_is)
    (case qc_NoNumber=>k_is)
    (case qc_TooMany=>k_is)
    (case qc_TooLong=>k_is)
    (case qc_ValueError=>k_is)
    (case qc_HangError=>k_is)
    (case w1_NoMove=>k_exc)
    (case w2_NoMove=>kernel_rfl)
    (case w3_NoMove=>k_is)
    (case w4_NoMove=>k_is)
    (case w5_NoMove=>k_is)
    (case w6_NoMove=>k_is)
    (case w7_NoMove=>k_is)
    (case y_NoMove_NoCord=>kit_is)
    (case y_NoMove_NoNails=>kit_is)
    (case y_NoMove_NoRule=>kit_is)
    (case y_NoMove_NoText=>kit_is)
    (case y_NoMove_NoMove=>kit_is)
    (case y_NoMove_NoLine=>kit_is)
    (case y_NoMove_NoName=>kit_is)
    (case y_NoMove_NoNumber=>kit_is)
    (case y_NoMove_TooMany=>kit_is)
    (case y_NoMove_TooLong=>kit_is)
    (case y_NoMove_ValueError=>kit_is)
    (case y_NoMove_HangError=>kts_exm)
    (case w1_TooLong=>k_exc)
    (case w2_TooLong=>kernel_rfl)
    (case w3_TooLong=>k_is)
    (case w4_TooLong=>k_is)
    (case w5_TooLong=>k_is)
    (case w6_TooLong=>k_is)
    (case w7_TooLong=>k_is)
    (case y_TooLong_NoCord=>kit_is)
    (case y_TooLong_NoNails=>kit_is)
    (case y_TooLong_NoRule=>kit_is)
    (case y_TooLong_NoText=>kit_is)
    (case y_TooLong_NoMove=>kit_is)
    (case y_TooLong_NoLine=>kit_is)
    (case y_TooLong_NoName=>kit_is)
    (case y_TooLong_NoNumber=>kit_is)
    (case y_TooLong_TooMany=>kit_is)
    (case y_TooLong_TooLong=>kit_is)
    (case y_TooLong_ValueError=>kit_is)
    (case y_TooLong_HangError=>kts_exm)
    (case z1=>k_is)
    (case z2=>k_is)
    (case z3=>k_is)
    (case z4=>k_is)
    (case z5=>k_is)
    (case z6=>k_is)
    (case z7=>k_is)
    (case z8=>k_is)
    (case z9=>k_is)
    (case z10=>k_is)
    (case z11=>k_is)
    (case z12=>k_is)
    (case z13=>k_is)
    (case z14=>k_is)
    (case z15=>k_is)
    (case z16=>k_is)
    (case z17=>k_is)
    (case z18=>k_is)
    (case z19=>k_is)
    (case z20=>k_is)
