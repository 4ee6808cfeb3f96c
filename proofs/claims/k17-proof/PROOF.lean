import PyProof.Rows.All
import KE.KLam
import KE.KNestM
import PyProof.OldK
import Wide.All
import OpenK.AllK
import Wide.FinOn
import Lean
import PyProof.EqAt
import PyProof.EqKinds
import PyProof.TupleCall
import KE.KRevIter
import PyProof.Rows.SeqMore
import PyProof.Rows.ListMulArg
import PyProof.ZipIter
import PyProof.Rows.ZipGen
import PyProof.EnumMake
import PyProof.StrWalks
import PyProof.SliceStr2
import PyProof.StrBlockH
import PyProof.FString5
import PyProof.Rows.StrJoin2
import PyProof.Rows.Range3
import KE.KDictLaws
import PyProof.ConsumeWalk
import PyProof.SumWalkG
import PyProof.Rows.SeqCalls
import PyProof.Rows.SeqGen
import PyProof.Rows.MinMaxN
import PyProof.Rows.CallKwBuiltin
import PyProof.Rows.SortStr
import PyProof.StrOps2
import PyProof.Rows.StrMul
import PyProof.IsRules
import PyProof.Rows.SetFrom
import PyProof.CollectStr
import PyProof.Rows.SortRuns
import PyProof.Rows.SortKey
import KE.KSortTup
import PyProof.StrOps
import PyProof.DictItems
import KE.KItemsList
import PyProof.StrLawsNeg
import PySem.Challenge.RW_nailhang_k17_merged_rows
set_option Elab.async false
set_option linter.all false
set_option maxRecDepth 100000
set_option maxHeartbeats 4000000
local macro_rules | `(tactic| omega) => `(tactic| lia)
noncomputable section
namespace L2
open PySem PySem.Spec PyProof.Rows
abbrev aP:=Sum Int Str
def jD:aP→Value→Bool
  | .inl k,v=>Value.isInt k v
  | .inr x,v=>Value.isStrOf x v
def zQ (w:World):aP→Int
  | .inl k=>hashInt k
  | .inr x=>hashStr w x
theorem bg:∀{k:aP} {v:Value},jD k v=true→(∃i t,k=Sum.inl i∧v=Value.int i t)∨(∃x t,k=Sum.inr x∧v=Value.str x t)
  | .inl i,v,h=>by
    obtain ⟨t,e⟩:=Value.isInt_shape (k:=i) (v:=v) h
    exact .inl ⟨i,t,rfl,e⟩
  | .inr x,v,h=>by
    obtain ⟨t,e⟩:=Value.isStrOf_shape (x:=x) (v:=v) h
    exact .inr ⟨x,t,rfl,e⟩
theorem qA (i:Int) (t:Tok):jD (.inl i) (.int i t)=true:=by simp [jD,Value.isInt]
theorem qB (x:Str) (t:Tok):jD (.inr x) (.str x t)=true:=by simp [jD,Value.isStrOf]
theorem wN (a b:Int):decide ((Sum.inl a:aP)=Sum.inl b)=(a == b):=by
  by_cases e:a=b
  · subst e;simp
  · have h:¬(Sum.inl a:aP)=Sum.inl b:=fun q=>e (Sum.inl.inj q)
    rw [decide_eq_false h]
    exact (beq_eq_false_iff_ne.mpr e).symm
theorem wO (a b:Str):decide ((Sum.inr a:aP)=Sum.inr b)=decide (a=b):=by
  by_cases e:a=b
  · subst e;simp
  · have h:¬(Sum.inr a:aP)=Sum.inr b:=fun q=>e (Sum.inr.inj q)
    rw [decide_eq_false h,decide_eq_false e]
theorem wP (a:Int) (b:Str):decide ((Sum.inl a:aP)=Sum.inr b)=false:=decide_eq_false (fun q=>nomatch q)
theorem wQ (a:Str) (b:Int):decide ((Sum.inr a:aP)=Sum.inl b)=false:=decide_eq_false (fun q=>nomatch q)
def aS (prog:Program) (w:World):PySem.KeyKind prog w aP where
  is:=jD
  hash:=zQ w
  inj:=fun v a b ha hb=>by
    rcases bg ha with ⟨i,t,rfl,rfl⟩ | ⟨x,t,rfl,rfl⟩
    · rcases bg hb with ⟨j,u,rfl,e⟩ | ⟨y,u,rfl,e⟩
      · injection e with e1 _;rw [e1]
      · exact nomatch e
    · rcases bg hb with ⟨j,u,rfl,e⟩ | ⟨y,u,rfl,e⟩
      · exact nomatch e
      · injection e with e1 _;rw [e1]
  byValue:=fun k v h=>by
    rcases bg h with ⟨i,t,rfl,rfl⟩ | ⟨x,t,rfl,rfl⟩ <;> rfl
  pyHash:=fun hv h=>by
    rcases bg hv with ⟨i,t,rfl,rfl⟩ | ⟨x,t,rfl,rfl⟩
    · exact wpAny_pyHash_int h
    · exact wpAny_pyHash_str h
  eqBool:=fun hu hv h=>by
    rcases bg hu with ⟨i,t,rfl,rfl⟩ | ⟨x,t,rfl,rfl⟩
    · rcases bg hv with ⟨j,u,rfl,rfl⟩ | ⟨y,u,rfl,rfl⟩
      · rw [wN] at h;exact wpAny_eqBool_int h
      · rw [wP] at h;exact SeqAt.EqAt.int_str i t y u _ _ _ _ h
    · rcases bg hv with ⟨j,u,rfl,rfl⟩ | ⟨y,u,rfl,rfl⟩
      · rw [wQ] at h;exact SeqAt.EqAt.str_int x t j u _ _ _ _ h
      · rw [wO] at h;exact wpAny_eqBool_str h
  «strs»:=fun k x t v h=>by
    rcases bg h with ⟨i,u,rfl,e⟩ | ⟨y,u,rfl,e⟩
    · exact nomatch e
    · injection e with e1 _
      subst e1
      cases v <;> rfl
theorem mI (prog:Program) (w:World) (i:Int) (t:Tok):(aS prog w).is (.inl i) (.int i t)=true:=qA i t
theorem mJ (prog:Program) (w:World) (x:Str) (t:Tok):(aS prog w).is (.inr x) (.str x t)=true:=qB x t
end L2
namespace L2
open PySem PySem.Spec PyProof.Rows
inductive V where
  | non | bl (b:Bool) | int (i:Int) | str (x:Str) | byt (b:Array UInt8) | flt (b:UInt64) | ref (a:Addr) | ty (n:String)
  deriving DecidableEq
def RelV:V→Value→Prop
  | .non,u=>u=Value.none
  | .bl b,u=>u=Value.bool b
  | .int i,u=>∃t,u=Value.int i t
  | .str x,u=>∃t,u=Value.str x t
  | .byt b,u=>∃t,u=Value.bytes b t
  | .flt b,u=>∃t,u=Value.float b t
  | .ref a,u=>u=Value.ref a
  | .ty n,u=>u=Value.type n
abbrev Vals:List V→List Value→Prop:=Paired RelV
theorem Vals.length {xs:List V} {us:List Value} (r:Vals xs us):xs.length=us.length:=Paired.length r
theorem Vals.get:∀{xs:List V} {us:List Value} {i:Nat} {x:V},Vals xs us→xs[i]? =some x→∃u,us[i]? =some u∧RelV x u
  | _,_,_,_, .nil,e=>by simp at e
  | _,_,0,_, .cons r _,e=>by simp at e;subst e;exact ⟨_,rfl,r⟩
  | _,_,i+1,x, .cons _ t,e=>by
    obtain ⟨u,h1,h2⟩:=Vals.get (i:=i) (x:=x) t (by simpa using e)
    exact ⟨u,by simpa using h1,h2⟩
theorem Vals.set {x:V} {u:Value} (r:RelV x u):∀{xs:List V} {us:List Value} (i:Nat),Vals xs us→Vals (xs.set i x) (us.set i u)
  | _,_,_, .nil=> .nil
  | _,_,0, .cons _ t=> .cons r t
  | _,_,i+1, .cons q t=> .cons q (Vals.set r i t)
theorem Vals.append:∀{xs ys:List V} {us ws:List Value},Vals xs us→Vals ys ws→Vals (xs++ys) (us++ws)
  | _,_,_,_, .nil,s=>s
  | _,_,_,_, .cons r t,s=> .cons r (Vals.append t s)
theorem Vals.take:∀{xs:List V} {us:List Value} (n:Nat),Vals xs us→Vals (xs.take n) (us.take n)
  | _,_,0,_=> .nil
  | _,_,_+1, .nil=> .nil
  | _,_,n+1, .cons r t=> .cons r (Vals.take n t)
theorem Vals.drop:∀{xs:List V} {us:List Value} (n:Nat),Vals xs us→Vals (xs.drop n) (us.drop n)
  | _,_,0,r=>r
  | _,_,_+1, .nil=> .nil
  | _,_,n+1, .cons _ t=>Vals.drop n t
def RelO:Option V→Option Value→Prop
  | some v,some u=>RelV v u
  | none,none=>True
  | _,_=>False
def KV {κ:Type}:List (κ×V)→List (κ×Value)→Prop:=Paired fun (p:κ×V) (q:κ×Value)=>p.1=q.1∧RelV p.2 q.2
def kV:aP→V
  | .inl i=> .int i
  | .inr x=> .str x
inductive HO where
  /-- a list -/
  | lst (xs:List V)
  /-- a tuple (never changes) -/
  | tup (xs:List V)
  /-- a dict whose keys are ints and texts;one whose keys are tuples of ints and texts (the empty one is both) -/
  | dK (kvs:List (aP×V)) | dT (kvs:List (List aP×V))
  /-- a set of ints:its members,its size -/
  | set (S:Int→Bool) (n:Nat)
  /-- an instance of the class at C,its dict at dx,its attributes -/
  | ins (C dx:Addr) (fs:List (Str×V))
  /-- the dict of the instance at x -/
  | own (x:Addr)
  /-- the dict of an exception -/
  | xd (fs:List (Str×V))
  /-- a bound method,f of x -/
  | met (f x:Addr)
  /-- a range object lo,lo+1, .. below hi -/
  | rng (lo hi:Int)
  /-- a thing that is known to the object (the script;a dict while a qC walks it):read,never written while it is so -/
  | frz (o:Obj) (u:HO)
  /-- a code object's table -/
  | tbl (q:Str)
  /-- any other thing,by what is true of its one object (a def of one's own:SetO a S n:=HO.ext fun h=> ..) -/
  | ext (φ:Heap→Prop)
abbrev Hp:=Addr→Option HO
def upd (H:Hp) (a:Addr) (o:HO):Hp:=fun b=>if b=a then some o else H b
theorem upd_same {H:Hp} {a:Addr} {o:HO}:upd H a o a=some o:=by unfold upd;rw [if_pos rfl]
theorem ak {H:Hp} {a b:Addr} {o:HO} (h:b≠a):upd H a o b=H b:=by unfold upd;rw [if_neg h]
theorem se {H:Hp} {a b:Addr} {o u:HO} (h:H a=some o) (h':H b=some u) (d:o≠u):a≠b:=by
  intro e;subst e;rw [h] at h';exact d (Option.some.inj h')
theorem cP {H:Hp} {a b:Addr} {o:HO} (h:H a=some o) (h':H b=none):a≠b:=by
  intro e;subst e;rw [h] at h';cases h'
section
variable (P:Program) (w:World)
def ObjOk (H:Hp) (h:Heap) (a:Addr):HO→Prop
  | .lst xs=>xs.length≤sizeLine∧∃(its:List Value) (n:Nat),Vals xs its∧h.get? a=some {cls:= .type "list",data:= .seq its.toArray n}
  | .tup xs=>xs.length≤sizeLine∧∃its:List Value,Vals xs its∧IsTup h a its.toArray
  | .dK kvs=>kvs.length≤sizeLine∧(a == sysModules)=false∧∃vs,KV kvs vs∧h.DictOf (aS P w) a vs
  | .dT kvs=>kvs.length≤sizeLine∧(a == sysModules)=false∧∃xs:List (List aP×Addr×Value),
      Paired (fun (p:List aP×V) (q:List aP×Addr×Value)=>p.1=q.1∧H q.2.1=some (.tup (p.1.map kV))∧RelV p.2 q.2.2) kvs xs∧
      ∃o es ep,h.get? a=some o∧o.ExactDict∧o.data= .dict es ep∧es.toList=xs.map (entryOfKey (tupleKind (aS P w)))∧(xs.map (·.1)).Nodup
  | .set S n=>h.SetOf (intKind P w) a S n
  | .ins C dx fs=>H dx=some (.own a)∧fs.length≤1000∧dx≠a∧h.get? a=some (PySem.W.instObj C dx)∧
      ∃mA,h.Ns1 dx mA∧(∀f,RelO (fs.lookup f) (mA f))∧PySem.Within mA (fs.map (·.1))
  | .own _=>∃o,h.get? a=some o
  | .xd fs=>∃mA,h.Ns1 a mA∧∀f,RelO (fs.lookup f) (mA f)
  | .rng lo hi=>∃t u v,h.get? a=some {cls:= .type "range",data:= .fields #[.int lo t, .int hi u, .int 1 v]}
  | .frz o u=>h.get? a=some o∧ObjOk H h a u
  | .tbl q=>∃ps:Array Value,h.get? a=some (PySem.W.tabObj ps)∧TriplesOk ps.toList∧∀pos cv,codeAmong pos ps.toList=some cv→∃c,cv=Value.ref c∧H c=some (.own a)∧h.CodeRec cv q
  | .met f x=>h.get? a=some (PySem.W.methodObj (.ref f) (.ref x))
  | .ext φ=>φ h∧(∃o,h.get? a=some o)∧∀h1 h2:Heap,φ h1→(∀o,h1.get? a=some o→h2.get? a=some o)→φ h2
def HOk (H:Hp) (h:Heap):Prop:=∀a o,H a=some o→ObjOk P w H h a o
end
section
variable {P:Program} {w:World} {H H':Hp} {h h':Heap} {a:Addr} {o:HO}
theorem ObjOk.lt (x:ObjOk P w H h a o):a < h.objs.size:=by
  cases o with
  | lst xs=>obtain ⟨_,_,_,_,e⟩:=x;exact Heap.lt_size e
  | tup xs=>obtain ⟨_,_,_,p⟩:=x;exact p.lt
  | dK kvs=>obtain ⟨_,_,_,_,o,_,_,e,_⟩:=x;exact Heap.lt_size e
  | dT kvs=>obtain ⟨_,_,_,_,o,_,_,e,_⟩:=x;exact Heap.lt_size e
  | set S n=>obtain ⟨o,_,_,_,e,_⟩:=x;exact Heap.lt_size e
  | ins C dx fs=>obtain ⟨_,_,_,e,_⟩:=x;exact Heap.lt_size e
  | own y=>obtain ⟨_,e⟩:=x;exact Heap.lt_size e
  | xd fs=>obtain ⟨_,⟨_,_,_,e,_⟩,_⟩:=x;exact Heap.lt_size e
  | rng lo hi=>obtain ⟨_,_,_,e⟩:=x;exact Heap.lt_size e
  | frz ob u=>obtain ⟨e,_⟩:=x;exact Heap.lt_size e
  | tbl q=>obtain ⟨_,e,_⟩:=x;exact Heap.lt_size e
  | met f y=>exact Heap.lt_size (show h.get? a=some _ from x)
  | ext φ=>obtain ⟨_,⟨_,e⟩,_⟩:=x;exact Heap.lt_size e
theorem Paired.mapP {α β:Type} {F G:α→β→Prop} {l₁:List α} {l₂:List β} (h:Paired F l₁ l₂) (f:∀a b,F a b→G a b):Paired G l₁ l₂:=by
  induction h with
  | nil=>exact .nil
  | cons r _ t=>exact .cons (f _ _ r) t
theorem ObjOk.stay (x:ObjOk P w H h a o) (k:∀b u,(b=a∨H b=some (.own a))→h.get? b=some u→h'.get? b=some u)
    (ho:∀b,H b=some (.own a)→H' b=some (.own a)) (ht:∀b xs,H b=some (.tup xs)→H' b=some (.tup xs)):ObjOk P w H' h' a o:=by
  induction o with
  | lst xs=>obtain ⟨z,its,n,r,e⟩:=x;exact ⟨z,its,n,r,k _ _ (.inl rfl) e⟩
  | tup xs=>obtain ⟨z,its,r,ob,e,c⟩:=x;exact ⟨z,its,r,ob,k _ _ (.inl rfl) e,c⟩
  | dK kvs=>obtain ⟨z,y,vs,r,ob,es,ep,e,c⟩:=x;exact ⟨z,y,vs,r,ob,es,ep,k _ _ (.inl rfl) e,c⟩
  | dT kvs=>
    obtain ⟨z,y,xs,r,ob,es,ep,e,c⟩:=x
    exact ⟨z,y,xs,Paired.mapP r fun p q z=>⟨z.1,ht _ _ z.2.1,z.2.2⟩,ob,es,ep,k _ _ (.inl rfl) e,c⟩
  | set S n=>obtain ⟨ob,es,ep,t,e,c⟩:=x;exact ⟨ob,es,ep,t,k _ _ (.inl rfl) e,c⟩
  | ins C dx fs=>
    obtain ⟨d,z,ne,e,mA,⟨od,es,ep,e2,c⟩,r⟩:=x
    exact ⟨ho _ d,z,ne,k _ _ (.inl rfl) e,mA,⟨od,es,ep,k _ _ (.inr d) e2,c⟩,r⟩
  | own y=>obtain ⟨ob,e⟩:=x;exact ⟨ob,k _ _ (.inl rfl) e⟩
  | xd fs=>obtain ⟨mA,⟨od,es,ep,e,c⟩,r⟩:=x;exact ⟨mA,⟨od,es,ep,k _ _ (.inl rfl) e,c⟩,r⟩
  | rng lo hi=>obtain ⟨t,u,v,e⟩:=x;exact ⟨t,u,v,k _ _ (.inl rfl) e⟩
  | frz ob u ih=>obtain ⟨e,q⟩:=x;exact ⟨k _ _ (.inl rfl) e,ih q⟩
  | tbl q=>
    obtain ⟨ps,e,t,r⟩:=x
    refine ⟨ps,k _ _ (.inl rfl) e,t,fun pos cv z=>?_⟩
    obtain ⟨c,ec,ho',c2,oc,vs,tq,hc,hoc,hd⟩:=r pos cv z
    subst ec
    cases hc
    exact ⟨c,rfl,ho _ ho',c,oc,vs,tq,rfl,k _ _ (.inr ho') hoc,hd⟩
  | met f y=>
    have e:h.get? a=some (PySem.W.methodObj (.ref f) (.ref y)):=x
    show h'.get? a=some (PySem.W.methodObj (.ref f) (.ref y))
    exact k a _ (.inl rfl) e
  | ext φ=>obtain ⟨p,⟨o,e⟩,st⟩:=x;exact ⟨st _ _ p fun o q=>k _ _ (.inl rfl) q,⟨o,k _ _ (.inl rfl) e⟩,st⟩
theorem HOk.lt (x:HOk P w H h) (e:H a=some o):a < h.objs.size:=(x a o e).lt
theorem HOk.fresh (x:HOk P w H h) (e:h.objs.size≤a):H a=none:=by
  cases q:H a with
  | none=>rfl
  | some u=>exact absurd (Nat.lt_of_lt_of_le (x.lt q) e) (Nat.lt_irrefl _)
theorem HOk.kept (x:HOk P w H h) (k:∀b u,h.get? b=some u→h'.get? b=some u):HOk P w H h':=fun a o e=>
  (x a o e).stay (fun b u _ q=>k b u q) (fun _ q=>q) fun _ _ q=>q
theorem HOk.laid (x:HOk P w H h) (k:∀b u,h.get? b=some u→h'.get? b=some u) (hp:h.objs.size≤a) (new:ObjOk P w (upd H a o) h' a o):HOk P w (upd H a o) h':=fun b u e=>by
  have hn:=x.fresh hp
  by_cases hb:b=a
  · subst hb;rw [upd_same] at e;cases e;exact new
  · rw [ak hb] at e
    exact (x b u e).stay (fun c v _ q=>k c v q) (fun c q=>by rw [ak (cP q hn)];exact q) fun c xs q=>by rw [ak (cP q hn)];exact q
end
def Rd (H:Hp) (a:Addr) (u:HO):Prop:=H a=some u∨∃o,H a=some (.frz o u)
theorem Rd.of {H:Hp} {a:Addr} {u:HO} (h:H a=some u):Rd H a u:= .inl h
theorem Rd.ok {P:Program} {w:World} {H:Hp} {h:Heap} {a:Addr} {u:HO} (r:Rd H a u) (x:HOk P w H h):ObjOk P w H h a u:=by
  rcases r with r | ⟨o,r⟩
  · exact x a u r
  · obtain ⟨_,q⟩:=x a _ r
    exact q
def yz:Option HO→Prop
  | some (.lst _)=>True
  | some (.dK _)=>True
  | some (.dT _)=>True
  | some (.set _ _)=>True
  | some (.ins _ _ _)=>True
  | some (.ext _)=>True
  | _=>False
section
variable {P:Program} {w:World} {H:Hp} {h h':Heap} {x e:Addr} {o':HO}
theorem HOk.write (ok:HOk P w H h) (mu:yz (H x)) (he:e=x∨H e=some (.own x)) (k:∀b u,b≠e→h.get? b=some u→h'.get? b=some u) (heo:∃u,h'.get? e=some u)
    (new:ObjOk P w (upd H x o') h' x o'):HOk P w (upd H x o') h':=fun b u q=>by
  have nown:∀c y,H c=some (.own y)→c≠x:=fun c y r z=>by subst z;rw [r] at mu;exact mu
  have ntup:∀c xs,H c=some (.tup xs)→c≠x:=fun c xs r z=>by subst z;rw [r] at mu;exact mu
  by_cases hb:b=x
  · subst hb;rw [upd_same] at q;cases q;exact new
  · rw [ak hb] at q
    by_cases hbe:b=e
    · have q':H b=some (.own x):=by
        rcases he with z | z
        · exact absurd (hbe.trans z) hb
        · rw [hbe];exact z
      rw [q] at q';cases q'
      obtain ⟨v,hv⟩:=heo
      exact ⟨v,by rw [hbe];exact hv⟩
    · refine (ok b u q).stay (fun c v hc r=>k c v ?_ r) (fun c r=>by rw [ak (nown c b r)];exact r) fun c xs r=>by rw [ak (ntup c xs r)];exact r
      rcases hc with rfl | hc
      · exact hbe
      · rintro rfl
        rcases he with z | z
        · exact nown c b hc z
        · rw [hc] at z;cases z;exact hb rfl
end
structure Un (fs ex:List Addr) (H H':Hp) (h h':Heap):Prop where
  keep:∀b o,h.get? b=some o→H b=none→b∉fs→b∉ex→h'.get? b=some o
  slot:∀b o,h.get? b=some o→H b=none→b∈fs→b∉ex→∃sl,h'.get? b=some {o with slots:=sl}
  free:∀b o,h.get? b=some o→H b=none→b∉ex→H' b=none
  there:∀b o,h.get? b=some o→b∉ex→∃o',h'.get? b=some o'
  tups:∀b xs,H b=some (.tup xs)→H' b=some (.tup xs)
  frzs:∀b o u,H b=some (.frz o u)→H' b=some (.frz o u)
  tbls:∀b ps,H b=some (.tbl ps)→H' b=some (.tbl ps)
section
variable {fs fs' ex ex':List Addr} {H H1 H2:Hp} {h h1 h2 h':Heap} {a x e:Addr} {o:HO}
theorem Un.any (u:Un fs ex H H1 h h1) {b:Addr} {ob:Obj} (q:h.get? b=some ob) (n:H b=none) (hx:b∉ex):∃sl,h1.get? b=some {ob with slots:=sl}:=by
  by_cases hb:b∈fs
  · exact u.slot b ob q n hb hx
  · exact ⟨ob.slots,u.keep b ob q n hb hx⟩
theorem Un.trans (a:Un fs ex H H1 h h1) (b:Un fs ex H1 H2 h1 h2):Un fs ex H H2 h h2 where
  keep:=fun c ob q n hc hx=>b.keep c ob (a.keep c ob q n hc hx) (a.free c ob q n hx) hc hx
  slot:=fun c ob q n hc hx=>by
    obtain ⟨sl,e1⟩:=a.slot c ob q n hc hx
    obtain ⟨sl',e2⟩:=b.slot c _ e1 (a.free c ob q n hx) hc hx
    exact ⟨sl',e2⟩
  free:=fun c ob q n hx=>by
    obtain ⟨o',e1⟩:=a.there c ob q hx
    exact b.free c o' e1 (a.free c ob q n hx) hx
  there:=fun c ob q hx=>by
    obtain ⟨o',e1⟩:=a.there c ob q hx
    exact b.there c o' e1 hx
  tups:=fun c xs q=>b.tups c xs (a.tups c xs q)
  frzs:=fun c ob xs q=>b.frzs c ob xs (a.frzs c ob xs q)
  tbls:=fun c ps q=>b.tbls c ps (a.tbls c ps q)
theorem Un.kept (k:∀b u,h.get? b=some u→h'.get? b=some u):Un fs ex H H h h':=
  ⟨fun b ob q _ _ _=>k b ob q,fun b ob q _ _ _=>⟨ob.slots,k b ob q⟩,fun _ _ _ n _=>n,fun b ob q _=>⟨ob,k b ob q⟩,fun _ _ q=>q,fun _ _ _ q=>q,fun _ _ q=>q⟩
theorem Un.refl:Un fs ex H H h h:=Un.kept fun _ _ q=>q
theorem Un.laid (k:∀b u,h.get? b=some u→h'.get? b=some u) (hp:h.objs.size≤a) (hn:H a=none):Un fs ex H (upd H a o) h h' where
  keep:=fun b u q _ _ _=>k b u q
  slot:=fun b u q _ _ _=>⟨u.slots,k b u q⟩
  free:=fun b u q n _=>by rw [ak (Nat.ne_of_lt (Nat.lt_of_lt_of_le (Heap.lt_size q) hp))];exact n
  there:=fun b u q _=>⟨u,k b u q⟩
  tups:=fun b xs q=>by rw [ak (cP q hn)];exact q
  frzs:=fun b u xs q=>by rw [ak (cP q hn)];exact q
  tbls:=fun b ps q=>by rw [ak (cP q hn)];exact q
theorem Un.write (mu:yz (H x)) (he:e=x∨H e=some (.own x)) (k:∀b u,b≠e→h.get? b=some u→h'.get? b=some u) (heo:∃u,h'.get? e=some u):Un fs ex H (upd H x o) h h':=by
  have hx:∀b,H b=none→b≠x:=fun b n z=>by subst z;rw [n] at mu;exact mu
  have hb:∀b,H b=none→b≠e:=fun b n z=>by
    subst z
    rcases he with r | r
    · exact hx b n r
    · rw [n] at r;cases r
  have hm:∀b u,H b=some u→¬yz (some u)→b≠x:=fun b u q nm z=>by subst z;rw [q] at mu;exact nm mu
  refine ⟨fun b u q n _ _=>k b u (hb b n) q,fun b u q n _ _=>⟨u.slots,k b u (hb b n) q⟩,fun b u q n _=>by rw [ak (hx b n)];exact n,fun b u q _=>?_,
    fun b xs q=>by rw [ak (hm b _ q fun z=>z)];exact q,fun b u xs q=>by rw [ak (hm b _ q fun z=>z)];exact q,fun b ps q=>by rw [ak (hm b _ q fun z=>z)];exact q⟩
  by_cases hbe:b=e
  · subst hbe;exact heo
  · exact ⟨u,k b u hbe q⟩
theorem Un.mono (u:Un fs ex H H1 h h1) (hs:∀b∈fs,b∈fs') (hx:∀b∈ex,b∈ex'):Un fs' ex' H H1 h h1:=
  ⟨fun b ob q n hb he=>u.keep b ob q n (fun z=>hb (hs b z)) fun z=>he (hx b z),fun _ _ q n _ he=>u.any q n fun z=>he (hx _ z),fun b ob q n he=>u.free b ob q n fun z=>he (hx b z),fun b ob q he=>u.there b ob q fun z=>he (hx b z),u.tups,u.frzs,u.tbls⟩
end
def zI (h:Heap) (H:Hp):List Addr:=(List.range h.objs.size).filter fun a=>(H a).isSome
def mK (h:Heap) (H:Hp):Heap:=PySem.W.hideAll h (zI h H)
theorem qD (h:Heap) (H:Hp):(mK h H).objs.size=h.objs.size:=PySem.W.hideAll_size _ _
theorem jE {h:Heap} {H:Hp} {b:Addr} {o:Obj} (e:h.get? b=some o) (n:H b=none):(mK h H).get? b=some o:=
  PySem.W.hideAll_get _ e fun hm=>by
    have q:(H b).isSome=true:=(List.mem_filter.mp hm).2
    rw [n] at q;simp at q
theorem u6 {h:Heap} {H:Hp} {b:Addr} {o:Obj} (e:(mK h H).get? b=some o):h.get? b=some o∧H b=none:=by
  have e':h.get? b=some o:=PySem.W.of_hideAll (zI h H) e
  refine ⟨e',?_⟩
  cases q:H b with
  | none=>rfl
  | some x=>
    have hm:b∈zI h H:=List.mem_filter.mpr ⟨List.mem_range.mpr (Heap.lt_size e'),by simp [q]⟩
    have z:(mK h H).get? b=none:=PySem.W.hideAll_none (zI h H) hm
    rw [z] at e;cases e
def u7 (g h:Heap) (L:Addr):List (Addr×Obj):=(List.range h.objs.size).filterMap fun a=>if a=L∨(g.get? a).isSome=true then none else (h.get? a).map fun o=>(a,o)
def bd (g h:Heap) (L d:Addr):List (Addr×Obj):=(u7 g h L).filter fun p=>decide (p.1≠d)
end L2
namespace L2
open PySem PySem.Spec PyProof.Rows
def yA (K:PySem.W.Frag):Option Addr:=match PySem.W.nsIn K mainGlobals "in_told_order" with
  | some (some (.ref f))=>match K.lookup f with
    | some ⟨_,_, .func fd,_⟩=>match fd.code with
      | .ref c=>match K.lookup c with
        | some ⟨_,_, .fields vs,_⟩=>match (vs[11]? :Option Value) with
          | some (.ref P)=>some P
          | _=>none
        | _=>none
      | _=>none
    | _=>none
  | _=>none
def jF (K:PySem.W.Frag) (b:Addr):Option Str:=if yA K=some b then some (Str.ofString "in_told_order.<locals>.<lambda>") else none
structure Mod (K:PySem.W.Frag) (mg:Str→Option Value) (base:Heap):Prop where
  kin:K.In base
  glob:base.Ns mainGlobals mg
  blt:∃mb,base.Ns builtinsNs mb∧∀x:Str,x≠"__name__"→mb x=bootBuiltins x
  nolimit:base.NoLimit
  bmain:∃bm ob,mg "__builtins__"=some (.ref bm)∧bm≠builtinsNs∧base.get? bm=some ob∧ob.cls= .type "module"∧ob.dict=some builtinsNs∧ob.data= .plain
structure Cx where
  prog:Program
  w:World
  K:PySem.W.Frag
  mg:Str→Option Value
  base:Heap
  A:Around
  N:List Str
  s₀:Shared
  H₀:Hp
  env:Env
  outer:List Env
  stack:List Env
  ex:List Addr
  fn:Str→Bool
  calm:Bool
  pn:List (Addr×Obj)
  xe:Value→Shared→Prop
def rX (l:List Env):List Addr:=l.filterMap (·.frame)
abbrev Cx.fs (X:Cx):List Addr:=rX X.outer
def uY (sc:Scope) (x:Str):Prop:=sc.names.lookup x=some .local∨sc.names.lookup x=some .cell∨sc.names.lookup x=some .free
def yq (sc:Scope) (x:Str):Prop:=sc.names.lookup x=some .local∨sc.names.lookup x=some .cell
def zR (env:Env) (h:Heap) (m:Str→Option Value) (x:Str) (u:Value):Prop:=
  (env.kindOf x=some .local∧m x=some u)∨((env.kindOf x=some .cell∨env.kindOf x=some .free)∧∃c,env.cells.lookup x=some c∧h.IsCell c (some u))
structure Cx.Ok (X:Cx):Prop where
  mod:Mod X.K X.mg X.base
  kind:X.env.scope.kind= .function
  glob:X.env.globals=mainGlobals
  blt:X.env.builtins=builtinsNs
  above:X.s₀.heap.objs.size≤X.env.locals
  inj:∀x y c,X.env.cells.lookup x=some c→X.env.cells.lookup y=some c→x=y
  has:∀x,(X.env.kindOf x=some .cell∨X.env.kindOf x=some .free)→∃c,X.env.cells.lookup x=some c
  cab:∀x c,X.fn x=true→X.env.cells.lookup x=some c→X.s₀.heap.objs.size≤c
  hd:X.calm=true→X.A.handled=none
  frames:X.A.frames=some X.stack
  stk:X.stack=X.outer∨(X.stack=X.env::X.outer∧X.env.frame=some X.env.locals)
  exf:∀b∈X.ex,b≠X.env.locals∧∀x c,X.env.cells.lookup x=some c→c≠b
  bs:∀b o,X.base.get? b=some o→X.s₀.heap.get? b=some o∧X.H₀ b=none
  bsz:X.base.objs.size≤X.s₀.heap.objs.size
  noex:∀b o,X.base.get? b=some o→b∉X.ex
  exfs:∀b∈X.ex,b∉X.fs
  funs:X.s₀.heap.FunFrames X.base X.outer
  frf:∀b∈X.fs,X.H₀ b=none
  tab:∀b q,jF X.K b=some q→X.H₀ b=some (.tbl q)
structure Inv (X:Cx) (pins:List (Addr×Obj)) (σ:List (Option V)) (H:Hp) (s:Shared):Prop where
  ok:X.Ok
  os:s.os=X.s₀.os
  bare:AllBare s.gens
  base:Un X.fs X.ex X.H₀ H X.s₀.heap s.heap
  loc:∃m,s.heap.Ns X.env.locals m∧∀(i:Nat) (x:Str) (v:V),X.N[i]? =some x→σ[i]? =some (some v)→uY X.env.scope x→∃u,RelV v u∧zR X.env s.heap m x u
  cell:∀x c,X.env.cells.lookup x=some c→∃v,s.heap.IsCell c v
  free:H X.env.locals=none
  freeC:∀x c,X.env.cells.lookup x=some c→H c=none
  pin:∀p∈X.pn++pins,s.heap.get? p.1=some p.2∧H p.1=none∧p.1≠X.env.locals∧p.1∉X.fs∧∀v,p.2.data≠ .cell v
  hok:HOk X.prog X.w H s.heap
  len:σ.length=X.N.length
section
variable {X:Cx} {pins:List (Addr×Obj)} {σ:List (Option V)} {H H':Hp} {s:Shared} {h':Heap}
theorem Cx.Ok.nofr (ok:X.Ok) {b:Addr} {o:Obj} (e:X.base.get? b=some o):b∉X.fs:=fun hb=>by
  have:=(ok.funs.mem hb).1
  rw [e] at this;cases this
theorem Inv.bs (I:Inv X pins σ H s):∀b o,X.base.get? b=some o→s.heap.get? b=some o∧H b=none:=fun b o e=>
  ⟨I.base.keep b o (I.ok.bs b o e).1 (I.ok.bs b o e).2 (I.ok.nofr e) (I.ok.noex b o e),I.base.free b o (I.ok.bs b o e).1 (I.ok.bs b o e).2 (I.ok.noex b o e)⟩
theorem Inv.bk (I:Inv X pins σ H s):∀b o,X.base.get? b=some o→s.heap.get? b=some o:=fun b o e=>(I.bs b o e).1
theorem Inv.mod (I:Inv X pins σ H s):Mod X.K X.mg X.base:=I.ok.mod
theorem Inv.tab (I:Inv X pins σ H s):∀b q,jF X.K b=some q→H b=some (.tbl q):=fun b q e=>I.base.tbls b q (I.ok.tab b q e)
theorem Inv.kIn (I:Inv X pins σ H s):X.K.In s.heap:=I.ok.mod.kin.keeps I.bk
theorem Inv.nolimit (I:Inv X pins σ H s):s.heap.NoLimit:=I.ok.mod.nolimit.keeps I.bk
theorem Inv.fr (I:Inv X pins σ H s):∃m,Fr X.base X.env.locals s.heap m:=
  let ⟨m,hn,_⟩:=I.loc
  ⟨m,hn,I.bk,Nat.le_trans I.ok.bsz I.ok.above⟩
theorem Inv.lt (I:Inv X pins σ H s):X.env.locals < s.heap.objs.size:=let ⟨_,hn,_⟩:=I.loc;hn.lt
theorem Inv.sz (I:Inv X pins σ H s):X.s₀.heap.objs.size≤s.heap.objs.size:=Nat.le_trans I.ok.above (Nat.le_of_lt I.lt)
theorem Inv.nofs (I:Inv X pins σ H s) {a:Addr} (h:s.heap.objs.size≤a):a∉X.fs:=fun hb=>by
  obtain ⟨_,o,ho,_⟩:=I.ok.funs.mem hb
  exact absurd (Nat.lt_of_lt_of_le (Heap.lt_size ho) (Nat.le_trans I.sz h)) (Nat.lt_irrefl _)
theorem Inv.cne (I:Inv X pins σ H s):∀x c,X.env.cells.lookup x=some c→c≠X.env.locals:=fun x c e z=>by
  obtain ⟨v,o,ho,hd⟩:=I.cell x c e
  obtain ⟨m,⟨o',es,ep,ho',hd',_⟩,_⟩:=I.loc
  rw [z,ho'] at ho;cases ho;rw [hd'] at hd;cases hd
theorem Inv.funs (I:Inv X pins σ H s):s.heap.FunFrames X.base X.outer:=by
  have all:∀(l:List Env),(∀b∈rX l,b∈X.fs)→X.s₀.heap.FunFrames X.base l→s.heap.FunFrames X.base l:=by
    intro l
    induction l with
    | nil=>intro _ _;trivial
    | cons env r ih=>
      intro hs hl
      obtain ⟨hk,⟨L,o,hf,hn,ho,hd⟩,hr⟩:=hl
      have hL:L∈X.fs:=hs L (by unfold rX;rw [List.filterMap_cons,hf];exact List.mem_cons_self)
      obtain ⟨sl,e⟩:=I.base.slot L o ho (I.ok.frf L hL) hL fun z=>I.ok.exfs L z hL
      exact ⟨hk,⟨L,_,hf,hn,e,hd⟩,ih (fun b hb=>hs b (by unfold rX;rw [List.filterMap_cons,hf];exact List.mem_cons_of_mem _ hb)) hr⟩
  exact all X.outer (fun _ hb=>hb) I.ok.funs
theorem Inv.stack (I:Inv X pins σ H s):s.heap.FunFrames X.base X.stack:=by
  rcases I.ok.stk with e | ⟨e,hf⟩
  · rw [e];exact I.funs
  · rw [e]
    obtain ⟨m,hn,_⟩:=I.loc
    refine .cons (by rw [I.ok.kind];decide) hf hn ?_ I.funs
    exact Heap.get?_none_of_le (Nat.le_trans I.ok.bsz I.ok.above)
theorem Inv.stkSub (I:Inv X pins σ H s):∀b∈rX X.stack,b∈X.env.locals::X.fs:=fun b hb=>by
  rcases I.ok.stk with e | ⟨e,hf⟩
  · rw [e] at hb;exact List.mem_cons_of_mem _ hb
  · rw [e] at hb
    unfold rX at hb
    rw [List.filterMap_cons,hf] at hb
    exact hb
theorem Inv.stkFree (I:Inv X pins σ H s):∀b∈rX X.stack,H b=none:=fun b hb=>by
  rcases List.mem_cons.mp (I.stkSub b hb) with e | hb
  · rw [e];exact I.free
  · obtain ⟨_,o,ho,_⟩:=I.ok.funs.mem hb
    exact I.base.free b o ho (I.ok.frf b hb) fun z=>I.ok.exfs b z hb
theorem Inv.step {g':Array GenState} {t':Nat} {d':Drawn} {ch:List Addr} (I:Inv X pins σ H s)
    (hch:∀b∈ch,(b∈X.ex∨X.s₀.heap.objs.size≤b)∧b≠X.env.locals∧(∀x c,X.env.cells.lookup x=some c→c≠b)∧∀p∈X.pn++pins,p.1≠b)
    (keep:∀b o,b≠X.env.locals→b∉X.fs→b∉ch→s.heap.get? b=some o→H b=none→h'.get? b=some o)
    (slot:∀b o,b≠X.env.locals→b∈X.fs→b∉ch→s.heap.get? b=some o→H b=none→∃sl,h'.get? b=some {o with slots:=sl}) (free:∀b o,b∉ch→s.heap.get? b=some o→H b=none→H' b=none)
    (there:∀b o,b∉ch→s.heap.get? b=some o→∃o',h'.get? b=some o')
    (tups:∀b xs,H b=some (.tup xs)→H' b=some (.tup xs)) (frzs:∀b o u,H b=some (.frz o u)→H' b=some (.frz o u)) (tbls:∀b ps,H b=some (.tbl ps)→H' b=some (.tbl ps))
    (ns:∀m,s.heap.Ns X.env.locals m→h'.Ns X.env.locals m) (hok:HOk X.prog X.w H' h') (hg:AllBare g'):
    Inv X pins σ H' {s with heap:=h',gens:=g',drawn:=d',toks:=t'}:=by
  have neL:∀b o,X.s₀.heap.get? b=some o→b≠X.env.locals:=fun b o e=>Nat.ne_of_lt (Nat.lt_of_lt_of_le (Heap.lt_size e) I.ok.above)
  have neC:∀b o,X.s₀.heap.get? b=some o→b∉X.ex→b∉ch:=fun b o e hx hb=>by
    rcases (hch b hb).1 with z | z
    · exact hx z
    · exact absurd (Nat.lt_of_lt_of_le (Heap.lt_size e) z) (Nat.lt_irrefl _)
  have cellK:∀x c,X.env.cells.lookup x=some c→∀v,s.heap.IsCell c v→h'.IsCell c v:=fun x c e v ⟨o,ho,hd⟩=>by
    have nch:c∉ch:=fun z=>(hch c z).2.2.1 x c e rfl
    by_cases hc:c∈X.fs
    · obtain ⟨sl,q⟩:=slot c o (I.cne x c e) hc nch ho (I.freeC x c e)
      exact ⟨_,q,hd⟩
    · exact ⟨o,keep c o (I.cne x c e) hc nch ho (I.freeC x c e),hd⟩
  refine ⟨I.ok,I.os,hg,⟨fun b o e n hb hx=>?_,fun b o e n hb hx=>?_,fun b o e n hx=>?_,fun b o e hx=>?_,fun b xs e=>tups b xs (I.base.tups b xs e),fun b o xs e=>frzs b o xs (I.base.frzs b o xs e),fun b ps e=>?_⟩,?_,fun x c e=>?_,?_,fun x c e=>?_,fun p hp=>?_,hok,I.len⟩
  · exact keep b o (neL b o e) hb (neC b o e hx) (I.base.keep b o e n hb hx) (I.base.free b o e n hx)
  · obtain ⟨sl,e1⟩:=I.base.slot b o e n hb hx
    obtain ⟨sl',e2⟩:=slot b _ (neL b o e) hb (neC b o e hx) e1 (I.base.free b o e n hx)
    exact ⟨sl',e2⟩
  · obtain ⟨o',e1⟩:=I.base.there b o e hx
    exact free b o' (neC b o e hx) e1 (I.base.free b o e n hx)
  · obtain ⟨o',e1⟩:=I.base.there b o e hx
    exact there b o' (neC b o e hx) e1
  · exact tbls b _ (I.base.tbls b ps e)
  · obtain ⟨m,hn,hl⟩:=I.loc
    refine ⟨m,ns m hn,fun i x v e1 e2 e3=>?_⟩
    obtain ⟨u,r,l⟩:=hl i x v e1 e2 e3
    refine ⟨u,r,?_⟩
    rcases l with l | ⟨k,c,e,z⟩
    · exact .inl l
    · exact .inr ⟨k,c,e,cellK x c e _ z⟩
  · obtain ⟨v,z⟩:=I.cell x c e
    exact ⟨v,cellK x c e v z⟩
  · obtain ⟨m,⟨o,_,_,ho,_⟩,_⟩:=I.loc
    exact free _ o (fun z=>(hch _ z).2.1 rfl) ho I.free
  · obtain ⟨v,o,ho,hd⟩:=I.cell x c e
    exact free c o (fun z=>(hch c z).2.2.1 x c e rfl) ho (I.freeC x c e)
  · obtain ⟨e,n,ne,nf,d⟩:=I.pin p hp
    have nch:p.1∉ch:=fun z=>(hch p.1 z).2.2.2 p hp rfl
    exact ⟨keep p.1 p.2 ne nf nch e n,free p.1 p.2 nch e n,ne,nf,d⟩
theorem Inv.un {t':Nat} (I:Inv X pins σ H s) (u:Un X.fs [] H H' s.heap h') (hok:HOk X.prog X.w H' h'):Inv X pins σ H' {s with heap:=h',toks:=t'}:=by
  obtain ⟨m,⟨o,es,ep,ho,r⟩,_⟩:=id I.loc
  obtain ⟨sl,hL⟩:=u.any ho I.free (by simp)
  exact I.step (g':=s.gens) (d':=s.drawn) (ch:=[]) (fun _ z=>nomatch z) (fun b o _ hb _ e n=>u.keep b o e n hb (by simp)) (fun b o _ hb _ e n=>u.slot b o e n hb (by simp)) (fun b o _ e n=>u.free b o e n (by simp)) (fun b o _ e=>u.there b o e (by simp)) u.tups u.frzs u.tbls (fun m' hm=>by
    obtain ⟨o',es',ep',ho',r'⟩:=hm
    rw [ho] at ho';cases ho'
    exact ⟨_,es',ep',hL,r'⟩) hok I.bare
theorem Inv.call {g':Array GenState} {t':Nat} {d':Drawn} {ch:List Addr} (I:Inv X pins σ H s) (u:Un (rX X.stack) ch H H' s.heap h') (hok:HOk X.prog X.w H' h') (hg:AllBare g')
    (hch:∀b∈ch,(b∈X.ex∨X.s₀.heap.objs.size≤b)∧b≠X.env.locals∧(∀x c,X.env.cells.lookup x=some c→c≠b)∧∀p∈X.pn++pins,p.1≠b):
    Inv X pins σ H' {s with heap:=h',gens:=g',drawn:=d',toks:=t'}:=by
  obtain ⟨m,⟨o,es,ep,ho,r⟩,_⟩:=id I.loc
  obtain ⟨sl,hL⟩:=u.any ho I.free fun z=>(hch _ z).2.1 rfl
  exact I.step (ch:=ch) hch (fun b o hL hb hc e n=>u.keep b o e n (fun z=>(List.mem_cons.mp (I.stkSub b z)).elim hL hb) hc) (fun b o _ _ hc e n=>u.any e n hc) (fun b o hc e n=>u.free b o e n hc) (fun b o hc e=>u.there b o e hc) u.tups u.frzs u.tbls (fun m' hm=>by
    obtain ⟨o',es',ep',ho',r'⟩:=hm
    rw [ho] at ho';cases ho'
    exact ⟨_,es',ep',hL,r'⟩) hok hg
theorem Inv.turned {t':Nat} {it:Addr} (I:Inv X pins σ H s) (k:∀b o,b≠it→s.heap.get? b=some o→h'.get? b=some o) (hn:H it=none) (hL:it≠X.env.locals)
    (h1:it∈X.ex∨X.s₀.heap.objs.size≤it) (h2:∀x c,X.env.cells.lookup x=some c→c≠it) (h3:∀p∈X.pn++pins,p.1≠it):Inv X pins σ H {s with heap:=h',toks:=t'}:=by
  have nit:∀b u,H b=some u→b≠it:=fun b u e z=>by rw [z,hn] at e;cases e
  refine I.step (g':=s.gens) (d':=s.drawn) (ch:=[it]) (fun b hb=>?_) (fun b o _ _ hc e _=>k b o (fun z=>hc (by simp [z])) e) (fun b o _ _ hc e _=>⟨o.slots,k b o (fun z=>hc (by simp [z])) e⟩) (fun _ _ _ _ n=>n)
    (fun b o hc e=>⟨o,k b o (fun z=>hc (by simp [z])) e⟩) (fun _ _ e=>e) (fun _ _ _ e=>e) (fun _ _ e=>e) (fun m hm=>?_) (fun b u e=>?_) I.bare
  · have e:b=it:=by simpa using hb
    subst e
    exact ⟨h1,hL,h2,h3⟩
  · obtain ⟨o,es,ep,ho,r⟩:=hm
    exact ⟨o,es,ep,k _ o (Ne.symm hL) ho,r⟩
  · refine (I.hok b u e).stay (fun c v hc q=>k c v ?_ q) (fun _ q=>q) fun _ _ q=>q
    rcases hc with z | z
    · rw [z];exact nit b u e
    · exact nit c _ z
theorem Inv.tok (I:Inv X pins σ H s) (t:Nat):Inv X pins σ H {s with toks:=t}:=I.un (h':=s.heap) (t':=t) Un.refl I.hok
theorem Inv.kept {t':Nat} (I:Inv X pins σ H s) (k:∀b u,s.heap.get? b=some u→h'.get? b=some u):Inv X pins σ H {s with heap:=h',toks:=t'}:=I.un (Un.kept k) (I.hok.kept k)
theorem Inv.laid {a:Addr} {o:HO} {t':Nat} (I:Inv X pins σ H s) (k:∀b u,s.heap.get? b=some u→h'.get? b=some u) (hp:s.heap.objs.size≤a) (new:ObjOk X.prog X.w (upd H a o) h' a o):
    Inv X pins σ (upd H a o) {s with heap:=h',toks:=t'}:=I.un (Un.laid k hp (I.hok.fresh hp)) (I.hok.laid k hp new)
theorem Inv.write {x e:Addr} {o:HO} {t':Nat} (I:Inv X pins σ H s) (mu:yz (H x)) (he:e=x∨H e=some (.own x)) (k:∀b u,b≠e→s.heap.get? b=some u→h'.get? b=some u) (heo:∃u,h'.get? e=some u)
    (new:ObjOk X.prog X.w (upd H x o) h' x o):Inv X pins σ (upd H x o) {s with heap:=h',toks:=t'}:=I.un (Un.write mu he k heo) (I.hok.write mu he k heo new)
theorem Inv.pins_of {pins':List (Addr×Obj)} (I:Inv X pins σ H s) (h:∀p∈pins',s.heap.get? p.1=some p.2∧H p.1=none∧p.1≠X.env.locals∧p.1∉X.fs∧∀v,p.2.data≠ .cell v):Inv X pins' σ H s:=
  ⟨I.ok,I.os,I.bare,I.base,I.loc,I.cell,I.free,I.freeC,fun p hp=>(List.mem_append.mp hp).elim (fun z=>I.pin p (List.mem_append_left _ z)) (h p),I.hok,I.len⟩
theorem mL {N:List Str} (hN:N.Nodup) {i j:Nat} {x:Str} (a:N[i]? =some x) (b:N[j]? =some x):i=j:=by
  obtain ⟨h1,e1⟩:=List.getElem?_eq_some_iff.mp a
  obtain ⟨h2,e2⟩:=List.getElem?_eq_some_iff.mp b
  exact (List.getElem_inj hN).mp (e1.trans e2.symm)
theorem qE {M:Model} {A:Around} {E:Value→Shared→Prop} {i:Nat} {x:Str} {v:V} {u:Value} {Q:Unit→Shared→Prop} (I:Inv X pins σ H s) (hN:X.N.Nodup) (hi:X.N[i]? =some x) (hx:yq X.env.scope x) (r:RelV v u)
    (h:∀s',Inv X pins (σ.set i (some v)) H s'→(∃a,Heap.SameBut a s.heap s'.heap∧(a=X.env.locals∨X.env.cells.lookup x=some a))→Q () s') (hf:X.fn x=true∨X.env.scope.names.lookup x=some .local:=by first | exact .inl rfl | exact .inr rfl | assumption):wpAny M A (storeName X.env x u) Q E s:=by
  obtain ⟨m,hn,hl⟩:=id I.loc
  have hcls:(X.env.scope.kind == .class||(X.env.scope.kind == .module&&X.env.locals != X.env.globals))=false:=by rw [I.ok.kind];rfl
  have hiσ:i < σ.length:=by rw [I.len];exact (List.getElem?_eq_some_iff.mp hi).1
  have cne:=I.cne
  have tracked:∀{a:Addr} {h':Heap},(∃o,s.heap.get? a=some o∧H a=none)→Heap.SameBut a s.heap h'→HOk X.prog X.w H h':=fun {a h'} ha hs b ob e=>by
    obtain ⟨_,_,hfree⟩:=ha
    refine (I.hok b ob e).stay (fun c w' hc q=>(hs.2 c ?_).trans q) (fun _ q=>q) fun _ _ q=>q
    rintro rfl
    rcases hc with rfl | hc
    · rw [hfree] at e;cases e
    · rw [hfree] at hc;cases hc
  rcases hx with hk | hk
  · refine wpAny_storeName_local hk hn (fun h' hn' hs=>?_) hcls
    obtain ⟨oL,_,_,hoL,_⟩:=id hn
    refine h _ ⟨I.ok,I.os,I.bare,⟨fun b o e n hb hx=>?_,fun b o e n hb hx=>?_,I.base.free,fun b o e hx=>?_,I.base.tups,I.base.frzs,I.base.tbls⟩,⟨_,hn',fun j y v' e1 e2 e3=>?_⟩,fun y c e=>?_,I.free,I.freeC,fun p hp=>?_,tracked ⟨oL,hoL,I.free⟩ hs,by simpa using I.len⟩ ⟨_,hs, .inl rfl⟩
    · exact (hs.2 b (Nat.ne_of_lt (Nat.lt_of_lt_of_le (Heap.lt_size e) I.ok.above))).trans (I.base.keep b o e n hb hx)
    · obtain ⟨sl,e1⟩:=I.base.slot b o e n hb hx
      exact ⟨sl,(hs.2 b (Nat.ne_of_lt (Nat.lt_of_lt_of_le (Heap.lt_size e) I.ok.above))).trans e1⟩
    · obtain ⟨o',e1⟩:=I.base.there b o e hx
      exact ⟨o',(hs.2 b (Nat.ne_of_lt (Nat.lt_of_lt_of_le (Heap.lt_size e) I.ok.above))).trans e1⟩
    · by_cases hj:j=i
      · subst hj
        rw [hi] at e1;cases e1
        rw [List.getElem?_set_self hiσ] at e2
        cases e2
        exact ⟨u,r, .inl ⟨hk,by simp⟩⟩
      · rw [List.getElem?_set_ne (Ne.symm hj)] at e2
        obtain ⟨u',r',q⟩:=hl j y v' e1 e2 e3
        refine ⟨u',r',?_⟩
        rcases q with ⟨k,e⟩ | ⟨k,c,e,z⟩
        · refine .inl ⟨k,?_⟩
          have:y≠x:=fun e=>hj (mL hN e1 (e▸hi))
          simp [this,e]
        · exact .inr ⟨k,c,e,z.sameBut hs (cne y c e)⟩
    · obtain ⟨w',z⟩:=I.cell y c e
      exact ⟨w',z.sameBut hs (cne y c e)⟩
    · obtain ⟨e,n,ne,nf,d⟩:=I.pin p hp
      exact ⟨(hs.2 p.1 ne).trans e,n,ne,nf,d⟩
  · have hfn:X.fn x=true:=by
      rcases hf with z | z
      · exact z
      · rw [z] at hk;cases hk
    obtain ⟨c,hc⟩:=I.ok.has x (.inl hk)
    obtain ⟨w',z⟩:=I.cell x c hc
    refine wpAny_storeName_cell I.ok.kind hk hc z (fun h' hc' hs=>?_)
    obtain ⟨oc,hoc,hocd⟩:=id z
    refine h {s with heap:=h'} ⟨I.ok,I.os,I.bare,⟨fun b o e n hb hx=>?_,fun b o e n hb hx=>?_,I.base.free,fun b o e hx=>?_,I.base.tups,I.base.frzs,I.base.tbls⟩,⟨m,hn.sameBut hs (Ne.symm (cne x c hc)),fun j y v' e1 e2 e3=>?_⟩,fun y c' e=>?_,I.free,I.freeC,fun p hp=>?_,tracked ⟨oc,hoc,I.freeC x c hc⟩ hs,by simpa using I.len⟩ ⟨c,hs, .inr hc⟩
    · exact (hs.2 b (Nat.ne_of_lt (Nat.lt_of_lt_of_le (Heap.lt_size e) (I.ok.cab x c hfn hc)))).trans (I.base.keep b o e n hb hx)
    · obtain ⟨sl,e1⟩:=I.base.slot b o e n hb hx
      exact ⟨sl,(hs.2 b (Nat.ne_of_lt (Nat.lt_of_lt_of_le (Heap.lt_size e) (I.ok.cab x c hfn hc)))).trans e1⟩
    · obtain ⟨o',e1⟩:=I.base.there b o e hx
      exact ⟨o',(hs.2 b (Nat.ne_of_lt (Nat.lt_of_lt_of_le (Heap.lt_size e) (I.ok.cab x c hfn hc)))).trans e1⟩
    · by_cases hj:j=i
      · subst hj
        rw [hi] at e1;cases e1
        rw [List.getElem?_set_self hiσ] at e2
        cases e2
        exact ⟨u,r, .inr ⟨.inl hk,c,hc,hc'⟩⟩
      · rw [List.getElem?_set_ne (Ne.symm hj)] at e2
        obtain ⟨u',r',q⟩:=hl j y v' e1 e2 e3
        refine ⟨u',r',?_⟩
        rcases q with q | ⟨k,c',e,z'⟩
        · exact .inl q
        · refine .inr ⟨k,c',e,z'.sameBut hs ?_⟩
          rintro rfl
          exact hj (mL hN e1 (I.ok.inj _ _ _ e hc▸hi))
    · by_cases hcc:c'=c
      · subst hcc;exact ⟨_,hc'⟩
      · obtain ⟨w2,z2⟩:=I.cell y c' e
        exact ⟨w2,z2.sameBut hs hcc⟩
    · obtain ⟨e,n,ne,nf,d⟩:=I.pin p hp
      refine ⟨(hs.2 p.1 ?_).trans e,n,ne,nf,d⟩
      intro q
      rw [q,hoc] at e
      have q':oc=p.2:=Option.some.inj e
      exact d w' (by rw [←q'];exact hocd)
theorem mM {M:Model} {A:Around} {E:Value→Shared→Prop} {i:Nat} {x:Str} {v:V} {u:Value} {Q:Unit→Shared→Prop} (I:Inv X pins σ H s) (hN:X.N.Nodup) (hi:X.N[i]? =some x) (hx:yq X.env.scope x) (r:RelV v u)
    (h:∀s',Inv X pins (σ.set i (some v)) H s'→Q () s') (hf:X.fn x=true∨X.env.scope.names.lookup x=some .local:=by first | exact .inl rfl | exact .inr rfl | assumption):wpAny M A (storeName X.env x u) Q E s:=
  qE I hN hi hx r (fun s' I' _=>h s' I') hf
theorem Inv.call' {s':Shared} {ch:List Addr} (I:Inv X pins σ H s) (ho:s'.os=s.os) (u:Un (rX X.stack) ch H H' s.heap s'.heap) (hok:HOk X.prog X.w H' s'.heap) (hg:AllBare s'.gens)
    (hch:∀b∈ch,(b∈X.ex∨X.s₀.heap.objs.size≤b)∧b≠X.env.locals∧(∀x c,X.env.cells.lookup x=some c→c≠b)∧∀p∈X.pn++pins,p.1≠b):Inv X pins σ H' s':=by
  obtain ⟨h',g',d',t',o'⟩:=s'
  have e:o'=s.os:=ho
  subst e
  exact I.call (g':=g') (t':=t') (d':=d') u hok hg hch
end
abbrev XK:=Value→Option Addr→Hp→Prop
abbrev St:=List (Option V)
abbrev VK:=V→Hp→Prop
abbrev TE:=St→Hp→VK→Prop
abbrev TT:=St→Hp→(Bool→Hp→Prop)→Prop
abbrev TA:=St→Hp→(List V→Hp→Prop)→Prop
structure Ends where
  nx:St→Hp→Prop
  rt:VK
  bk:St→Hp→Prop:=fun _ _=>False
  ct:St→Hp→Prop:=fun _ _=>False
abbrev TS:=Ends→St→Hp→Prop
def EP (X:Cx) (pins:List (Addr×Obj)) (σ:St) (Q:VK) (u:Value) (s':Shared):Prop:=∃v H',Inv X pins σ H' s'∧RelV v u∧Q v H'
def TP (X:Cx) (pins:List (Addr×Obj)) (σ:St) (Q:Bool→Hp→Prop) (b:Bool) (s':Shared):Prop:=∃H',Inv X pins σ H' s'∧Q b H'
def AP (X:Cx) (pins:List (Addr×Obj)) (σ:St) (Q:List V→Hp→Prop) (us:List Value) (s':Shared):Prop:=∃vs H',Inv X pins σ H' s'∧Vals vs us∧Q vs H'
def SP (X:Cx) (pins:List (Addr×Obj)) (D:Ends) (f:Flow) (s':Shared):Prop:=
  match f with
  | .next=>∃σ' H',Inv X pins σ' H' s'∧D.nx σ' H'
  | .brk=>∃σ' H',Inv X pins σ' H' s'∧D.bk σ' H'
  | .cont=>∃σ' H',Inv X pins σ' H' s'∧D.ct σ' H'
  | .ret u=>∃v σ' H',Inv X pins σ' H' s'∧RelV v u∧D.rt v H'
def PE (X:Cx) (e:Expr) (t:TE):Prop:=
  ∀(pins:List (Addr×Obj)) (s:Shared) (σ:St) (H:Hp) (Q:VK),Inv X pins σ H s→t σ H Q→wpAny (model X.prog X.w) X.A (eval e X.env) (EP X pins σ Q) X.xe s
def PT (X:Cx) (e:Expr) (t:TT):Prop:=
  ∀(pins:List (Addr×Obj)) (s:Shared) (σ:St) (H:Hp) (Q:Bool→Hp→Prop),Inv X pins σ H s→t σ H Q→wpAny (model X.prog X.w) X.A (isTrue e X.env (eval e X.env)) (TP X pins σ Q) X.xe s
def PW (X:Cx) (e:Expr) (t:TT):Prop:=
  ∀(whole:Sem Value) (pins:List (Addr×Obj)) (s:Shared) (σ:St) (H:Hp) (Q:Bool→Hp→Prop),Inv X pins σ H s→t σ H Q→wpAny (model X.prog X.w) X.A (isTrue e X.env whole) (TP X pins σ Q) X.xe s
theorem PW.pt {X:Cx} {e:Expr} {t:TT} (h:PW X e t):PT X e t:=h _
def PA (X:Cx) (es:List Expr) (t:TA):Prop:=
  ∀(pos:Pos) (pins:List (Addr×Obj)) (s:Shared) (σ:St) (H:Hp) (Q:List V→Hp→Prop),Inv X pins σ H s→t σ H Q→wpAny (model X.prog X.w) X.A (spliced (backTo pos (starEach es X.env))) (AP X pins σ Q) X.xe s
def PS (X:Cx) (st:Stmt) (t:TS):Prop:=
  ∀(pins:List (Addr×Obj)) (s:Shared) (σ:St) (H:Hp) (D:Ends),Inv X pins σ H s→t D σ H→wpAny (model X.prog X.w) X.A (exec st X.env) (SP X pins D) X.xe s
def PSs (X:Cx) (st:List Stmt) (t:TS):Prop:=
  ∀(pins:List (Addr×Obj)) (s:Shared) (σ:St) (H:Hp) (D:Ends),Inv X pins σ H s→t D σ H→wpAny (model X.prog X.w) X.A (execs st X.env) (SP X pins D) X.xe s
theorem bN {α:Type} {t:Sem α} {Q Q':α→Shared→Prop} {M:Model} {A:Around} {E:Value→Shared→Prop} {s:Shared} (h:wpAny M A t Q E s) (hQ:∀a s,Q a s→Q' a s):wpAny M A t Q' E s:=wpAny_mono h hQ fun _ _ x=>x
end L2
namespace L2
open PySem PySem.Spec PyProof.Rows
section
variable {X:Cx}
def bC (i:Nat):TE:=fun σ H Q=>∃v,σ[i]? =some (some v)∧Q v H
def tC (v:V):TE:=fun _ H Q=>Q v H
theorem gg {i:Nat} {x:Str} {pos:Pos} (hN:X.N[i]? =some x) (hv:uY X.env.scope x) (hd:(x == ("__debug__":Str))=false:=by decide) (hcd:(x == ("__classdict__":Str))=false:=by decide):PE X (.Name x pos) (bC i):=by
  intro pins s σ H Q I h
  obtain ⟨v,e,h⟩:=h
  obtain ⟨m,hn,hl⟩:=I.loc
  obtain ⟨u,r,l⟩:=hl i x v hN e hv
  have fin:EP X pins σ Q u s:=⟨v,H,I,r,h⟩
  rcases l with ⟨hk,hm⟩ | ⟨hk,c,hc,hcell⟩
  · exact wpAny_Name (wpAny_loadName_local I.ok.kind hk hn hm fin) hd
  · rcases hk with hk | hk
    · exact wpAny_Name (wpAny_loadName_cell I.ok.kind hk hc hcell fin) hd
    · exact wpAny_Name (wpAny_loadName_free I.ok.kind hk hc hcell fin hcd) hd
theorem g4 {i j pos}:PE X (.Constant (.int i) j pos) (tC (.int i)):=fun _ _ _ H _ I h=>wpAny_Constant_int ⟨.int i,H,I.tok _,⟨_,rfl⟩,h⟩
theorem yB {b j pos}:PE X (.Constant (.bool b) j pos) (tC (.bl b)):=fun _ _ _ H _ I h=>Constant_bool ⟨.bl b,H,I,rfl,h⟩
theorem wR {x j pos}:PE X (.Constant (.str x) j pos) (tC (.str x)):=fun _ _ _ H _ I h=>Calls.Constant_str ⟨.str x,H,I.tok _,⟨_,rfl⟩,h⟩
def Gl (X:Cx) (x:Str):Prop:=X.env.kindOf x=some .globalImplicit
theorem u8 {E:Value→Shared→Prop} {pins:List (Addr×Obj)} {s:Shared} {σ:St} {H:Hp} {x:Str} {u:Value} {pos:Pos} {Q:Value→Shared→Prop} (I:Inv X pins σ H s) (hg:Gl X x) (hm:X.mg x=some u) (h:Q u s)
    (hd:(x == ("__debug__":Str))=false:=by decide):wpAny (model X.prog X.w) X.A (eval (.Name x pos) X.env) Q E s:=
  Calls.Name_function_global I.ok.kind hg (Calls.loadGlobal_global (by rw [I.ok.glob];exact I.mod.glob.keeps I.bk) hm h) hd
theorem g5 {E:Value→Shared→Prop} {pins:List (Addr×Obj)} {s:Shared} {σ:St} {H:Hp} {x:Str} {u:Value} {pos:Pos} {Q:Value→Shared→Prop} (I:Inv X pins σ H s) (hg:Gl X x) (hm:X.mg x=none) (hv:bootBuiltins x=some u) (h:Q u s)
    (hn:x≠"__name__":=by decide) (hd:(x == ("__debug__":Str))=false:=by decide):wpAny (model X.prog X.w) X.A (eval (.Name x pos) X.env) Q E s:=by
  obtain ⟨mb,h1,h2⟩:=I.mod.blt
  exact Calls.Name_function_global I.ok.kind hg (Calls.loadGlobal_builtin (by rw [I.ok.glob];exact I.mod.glob.keeps I.bk) hm (by rw [I.ok.blt];exact h1.keeps I.bk) ((h2 x hn).trans hv) h) hd
theorem u9 {x:Str} {v:V} {u:Value} {pos:Pos} (hg:Gl X x) (hm:X.mg x=none) (hv:bootBuiltins x=some u) (r:RelV v u) (hn:x≠"__name__":=by decide) (hd:(x == ("__debug__":Str))=false:=by decide):PE X (.Name x pos) (tC v):=
  fun _ _ _ H _ I h=>g5 I hg hm hv ⟨v,H,I,r,h⟩ hn hd
variable {a b:Expr} {ta tb:TE} {pos:Pos}
variable {tA tB':TT} {bd:List Expr}
def zS (t u:TT):TT:=fun σ H Q=>t σ H fun c H1=>if c=true then u σ H1 Q else Q false H1
def AB (t u:TT):TT:=fun σ H Q=>t σ H fun c H1=>if c=true then Q true H1 else u σ H1 Q
def zT (t:TT):TT:=fun σ H Q=>t σ H fun c H1=>Q (!c) H1
theorem u_ (ha:PT X a tA):PW X (.BoolOp .And [a] pos) tA:=by
  intro wh pins s σ H Q I h
  refine isTrue_and (bN (ha pins s σ H Q I h) fun c s1 e=>?_)
  cases c with
  | true=>exact isTrue_and_nil e
  | false=>exact e
theorem wS (ha:PT X a tA):PW X (.BoolOp .Or [a] pos) tA:=by
  intro wh pins s σ H Q I h
  refine isTrue_or (bN (ha pins s σ H Q I h) fun c s1 e=>?_)
  cases c with
  | false=>exact isTrue_or_nil e
  | true=>exact e
theorem wU (ha:PT X a tA) (hb:PW X (.BoolOp .And (b::bd) pos) tB'):PW X (.BoolOp .And (a::b::bd) pos) (zS tA tB'):=by
  intro wh pins s σ H Q I h
  refine isTrue_and (bN (ha pins s σ H _ I h) fun c s1 ⟨H1,I1,q1⟩=>?_)
  cases c with
  | true=>exact hb wh pins s1 σ H1 Q I1 q1
  | false=>exact ⟨H1,I1,q1⟩
theorem yC (ha:PT X a tA) (hb:PW X (.BoolOp .Or (b::bd) pos) tB'):PW X (.BoolOp .Or (a::b::bd) pos) (AB tA tB'):=by
  intro wh pins s σ H Q I h
  refine isTrue_or (bN (ha pins s σ H _ I h) fun c s1 ⟨H1,I1,q1⟩=>?_)
  cases c with
  | true=>exact ⟨H1,I1,q1⟩
  | false=>exact hb wh pins s1 σ H1 Q I1 q1
theorem wV (ha:PT X a tA):PT X (.UnaryOp .Not a pos) (zT tA):=by
  intro pins s σ H Q I h
  exact isTrue_not (ha pins s σ H (fun c H1=>Q (!c) H1) I h)
end
end L2
namespace L2
open PySem PySem.Spec PyProof.Rows
def SqL (K:PySem.W.Frag) (H:Hp) (a:Addr) (xs:List V):Prop:=
  Rd H a (.lst xs)∨
    ∃(o:Obj) (its:Array Value) (n:Nat),K.lookup a=some o∧o.cls= .type "list"∧o.dict=none∧o.data= .seq its n∧its.size≤sizeLine∧Vals xs its.toList
def SqT (K:PySem.W.Frag) (H:Hp) (a:Addr) (xs:List V):Prop:=
  Rd H a (.tup xs)∨
    ∃(o:Obj) (its:Array Value) (n:Nat),K.lookup a=some o∧o.cls= .type "tuple"∧o.data= .seq its n∧its.size≤sizeLine∧Vals xs its.toList
def zU:Value→Option V
  | .none=>some .non
  | .bool b=>some (.bl b)
  | .int i _=>some (.int i)
  | .str x _=>some (.str x)
  | .bytes b _=>some (.byt b)
  | .float b _=>some (.flt b)
  | .ref a=>some (.ref a)
  | .type n=>some (.ty n)
  | _=>none
theorem RelV.abs {x:V} {u:Value} (r:RelV x u):zU u=some x:=by
  cases x with
  | non=>cases r;rfl
  | bl _=>cases r;rfl
  | int _=>obtain ⟨t,rfl⟩:=r;rfl
  | str _=>obtain ⟨t,rfl⟩:=r;rfl
  | byt _=>obtain ⟨t,rfl⟩:=r;rfl
  | flt _=>obtain ⟨t,rfl⟩:=r;rfl
  | ref _=>cases r;rfl
  | ty _=>cases r;rfl
theorem RelV.inj {x y:V} {u:Value} (r:RelV x u) (q:RelV y u):x=y:=Option.some.inj (r.abs.symm.trans q.abs)
theorem Vals.inj {xs ys:List V} {us:List Value} (h:Vals xs us) (k:Vals ys us):xs=ys:=by
  induction h generalizing ys with
  | nil=>cases k;rfl
  | cons r _ ih=>cases k with | cons r' t'=>rw [r.inj r',ih t']
section
variable {X:Cx} {pins:List (Addr×Obj)} {σ:St} {H:Hp} {s:Shared} {a:Addr} {xs ys:List V}
theorem SqL.of {K:PySem.W.Frag} (h:H a=some (.lst xs)):SqL K H a xs:= .inl (.inl h)
theorem SqT.of {K:PySem.W.Frag} (h:H a=some (.tup xs)):SqT K H a xs:= .inl (.inl h)
theorem Inv.list (I:Inv X pins σ H s) (h:SqL X.K H a xs):∃its:List Value,Vals xs its∧PlainL s.heap a its.toArray∧xs.length≤sizeLine:=by
  rcases h with h | ⟨o,its,n,hk,hc,hd,hs,hz,r⟩
  · obtain ⟨z,its,n,r,e⟩:=h.ok I.hok
    exact ⟨its,r,⟨_,n,e,rfl,rfl,rfl⟩,z⟩
  · refine ⟨its.toList,r,⟨o,n,I.kIn a o hk,hc,hd,by simpa using hs⟩,?_⟩
    have e:=r.length
    simp only [Array.length_toList] at e
    omega
theorem Inv.tuple (I:Inv X pins σ H s) (h:SqT X.K H a xs):∃its:List Value,Vals xs its∧IsTup s.heap a its.toArray∧xs.length≤sizeLine:=by
  rcases h with h | ⟨o,its,n,hk,hc,hs,hz,r⟩
  · obtain ⟨z,its,r,p⟩:=h.ok I.hok
    exact ⟨its,r,p,z⟩
  · refine ⟨its.toList,r,⟨o,I.kIn a o hk,hc,n,by simpa using hs⟩,?_⟩
    have e:=r.length
    simp only [Array.length_toList] at e
    omega
theorem Inv.list_inj (I:Inv X pins σ H s) (h:SqL X.K H a xs) (h':SqL X.K H a ys):xs=ys:=by
  obtain ⟨its,r,⟨o,n,e,_,_,d⟩,_⟩:=I.list h
  obtain ⟨its',r',⟨o',n',e',_,_,d'⟩,_⟩:=I.list h'
  rw [e] at e';cases e'
  rw [d] at d'
  injection d' with d1 _
  have:its=its':=by simpa using congrArg Array.toList d1
  subst this
  exact r.inj r'
theorem Inv.tuple_inj (I:Inv X pins σ H s) (h:SqT X.K H a xs) (h':SqT X.K H a ys):xs=ys:=by
  obtain ⟨its,r,⟨o,e,_,n,d⟩,_⟩:=I.tuple h
  obtain ⟨its',r',⟨o',e',_,n',d'⟩,_⟩:=I.tuple h'
  rw [e] at e';cases e'
  rw [d] at d'
  injection d' with d1 _
  have:its=its':=by simpa using congrArg Array.toList d1
  subst this
  exact r.inj r'
end
abbrev Cx.wish (X:Cx) (E:Value→Shared→Prop):Cx:={X with xe:=E}
abbrev Cx.nox (X:Cx):Cx:=X.wish fun _ _=>False
theorem Cx.Ok.wish {X:Cx} (ok:X.Ok) (E:Value→Shared→Prop):(X.wish E).Ok:=
  ⟨ok.mod,ok.kind,ok.glob,ok.blt,ok.above,ok.inj,ok.has,ok.cab,ok.hd,ok.frames,ok.stk,ok.exf,ok.bs,ok.bsz,ok.noex,ok.exfs,ok.funs,ok.frf,ok.tab⟩
theorem Cx.Ok.unwish {X:Cx} {E:Value→Shared→Prop} (ok:(X.wish E).Ok):X.Ok:=
  ⟨ok.mod,ok.kind,ok.glob,ok.blt,ok.above,ok.inj,ok.has,ok.cab,ok.hd,ok.frames,ok.stk,ok.exf,ok.bs,ok.bsz,ok.noex,ok.exfs,ok.funs,ok.frf,ok.tab⟩
section
variable {X:Cx} {pins:List (Addr×Obj)} {σ:St} {H:Hp} {s:Shared} {E:Value→Shared→Prop}
theorem Inv.wish (I:Inv X pins σ H s) (E:Value→Shared→Prop):Inv (X.wish E) pins σ H s:=⟨I.ok.wish E,I.os,I.bare,I.base,I.loc,I.cell,I.free,I.freeC,I.pin,I.hok,I.len⟩
theorem Inv.unwish (I:Inv (X.wish E) pins σ H s):Inv X pins σ H s:=⟨I.ok.unwish,I.os,I.bare,I.base,I.loc,I.cell,I.free,I.freeC,I.pin,I.hok,I.len⟩
theorem SP.unwish {D:Ends} {f:Flow} {s':Shared} (h:SP (X.wish E) pins D f s'):SP X pins D f s':=by
  cases f with
  | next=>obtain ⟨σ',H',I,q⟩:=h;exact ⟨σ',H',I.unwish,q⟩
  | brk=>obtain ⟨σ',H',I,q⟩:=h;exact ⟨σ',H',I.unwish,q⟩
  | cont=>obtain ⟨σ',H',I,q⟩:=h;exact ⟨σ',H',I.unwish,q⟩
  | ret u=>obtain ⟨v,σ',H',I,r,q⟩:=h;exact ⟨v,σ',H',I.unwish,r,q⟩
theorem PE.nox {e:Expr} {t:TE} (h:PE X.nox e t):PE X e t:=fun pins s σ H Q I hw=>
  wpAny_mono (h pins s σ H Q (I.wish _) hw) (fun _ _ ⟨v,H',I',r,q⟩=>⟨v,H',I'.unwish,r,q⟩) fun _ _ z=>False.elim z
theorem PT.nox {e:Expr} {t:TT} (h:PT X.nox e t):PT X e t:=fun pins s σ H Q I hw=>
  wpAny_mono (h pins s σ H Q (I.wish _) hw) (fun _ _ ⟨H',I',q⟩=>⟨H',I'.unwish,q⟩) fun _ _ z=>False.elim z
theorem PSs.nox {st:List Stmt} {t:TS} (h:PSs X.nox st t):PSs X st t:=fun pins s σ H D I hw=>
  wpAny_mono (h pins s σ H D (I.wish _) hw) (fun _ _ q=>q.unwish) fun _ _ z=>False.elim z
end
section
variable {X:Cx} {st:Stmt} {bd:List Stmt} {t u:TS} {e:Expr} {te:TE} {pos:Pos}
def wf:TS:=fun D σ H=>D.nx σ H
def kC (t u:TS):TS:=fun D σ H=>t {D with nx:=u D} σ H
theorem ph:PSs X [] wf:=fun _ _ σ H _ I h=>wpAny_execs_nil ⟨σ,H,I,h⟩
theorem cH (h1:PS X st t) (h2:PSs X bd u):PSs X (st::bd) (kC t u):=by
  intro pins s σ H D I h
  refine wpAny_execs_cons (bN (h1 pins s σ H {D with nx:=u D} I h) fun f s1 q=>?_)
  cases f with
  | next=>
    obtain ⟨σ',H',I',q⟩:=q
    exact h2 pins s1 σ' H' D I' q
  | ret v=>exact q
  | brk=>exact q
  | cont=>exact q
theorem eS (h1:PS X st t):PSs X [st] t:=by
  intro pins s σ H D I h
  refine wpAny_execs_cons (bN (h1 pins s σ H D I h) fun f s1 q=>?_)
  cases f with
  | next=>exact wpAny_execs_nil q
  | ret v=>exact q
  | brk=>exact q
  | cont=>exact q
theorem Inv.quiet {pins:List (Addr×Obj)} {σ:St} {H:Hp} {s:Shared} (I:Inv X pins σ H s):interactive X.env=false:=by simp [interactive,I.ok.kind]
def pi (te:TE):TS:=fun D σ H=>te σ H fun _ H1=>D.nx σ H1
theorem gC (he:PE X e te) (hs:swapsWith e none pos.line X.env=pure false:=by rfl):PS X (.Expr e pos) (pi te):=by
  intro pins s σ H D I h
  exact wpAny_Expr_any (bN (he pins s σ H _ I h) fun v s1 ⟨x,H1,I1,r1,q1⟩=>⟨σ,H1,I1,q1⟩) I.quiet hs
def wW (te:TE):TS:=fun D σ H=>te σ H D.rt
theorem n8 (he:PE X e te):PS X (.Return (some e) pos) (wW te):=by
  intro pins s σ H D I h
  exact wpAny_Return_some (bN (he pins s σ H _ I h) fun v s1 ⟨x,H1,I1,r1,q1⟩=>⟨x,σ,H1,I1,r1,q1⟩)
def yD (c:TT) (t u:TS):TS:=fun D σ H=>c σ H fun b H1=>if b=true then t D σ H1 else u D σ H1
theorem wg {c:Expr} {a b:List Stmt} {tc:TT} (hc:PT X c tc) (ha:PSs X a t) (hb:PSs X b u):PS X (.If c a b pos) (yD tc t u):=by
  intro pins s σ H D I h
  refine wpAny_If (bN (hc pins s σ H _ I h) fun d s1 ⟨H1,I1,q1⟩=>?_)
  cases d with
  | true=>exact ha pins s1 σ H1 D I1 q1
  | false=>exact hb pins s1 σ H1 D I1 q1
end
abbrev TG:=V→St→Hp→(St→Hp→Prop)→Prop
abbrev va:=List V→St→Hp→(St→Hp→Prop)→Prop
def PG (X:Cx) (target:Expr) (t:TG):Prop:=
  ∀(pins:List (Addr×Obj)) (s:Shared) (σ:St) (H:Hp) (v:V) (u:Value) (Q:St→Hp→Prop),Inv X pins σ H s→RelV v u→t v σ H Q→
    wpAny (model X.prog X.w) X.A (assign target X.env u) (fun _ s'=>∃σ' H',Inv X pins σ' H' s'∧Q σ' H') X.xe s
def wX (X:Cx) (ts:List Expr) (t:va):Prop:=
  ∀(pins:List (Addr×Obj)) (s:Shared) (σ:St) (H:Hp) (vs:List V) (us:List Value) (Q:St→Hp→Prop),Inv X pins σ H s→Vals vs us→t vs σ H Q→
    wpAny (model X.prog X.w) X.A (assignInOrder ((assignEach ts X.env).map (·.2)) us) (fun _ s'=>∃σ' H',Inv X pins σ' H' s'∧Q σ' H') X.xe s
abbrev wY:=V→V→V→Hp→(Hp→Prop)→Prop
def yE (X:Cx) (t:wY):Prop:=
  ∀(pins:List (Addr×Obj)) (s:Shared) (σ:St) (H:Hp) (o i v:V) (ov iv u:Value) (Q:Hp→Prop),Inv X pins σ H s→RelV o ov→RelV i iv→RelV v u→t o i v H Q→
    wpAny (model X.prog X.w) X.A (setItem ov iv u) (fun _ s'=>∃H',Inv X pins σ H' s'∧Q H') X.xe s
section
variable {X:Cx} {pos:Pos}
def eU (i:Nat):TG:=fun v σ H Q=>Q (σ.set i (some v)) H
theorem eV {i:Nat} {x:Str} (hN:X.N.Nodup) (hi:X.N[i]? =some x) (hx:yq X.env.scope x) (hf:X.fn x=true∨X.env.scope.names.lookup x=some .local:=by first | exact .inl rfl | exact .inr rfl | assumption):PG X (.Name x pos) (eU i):=by
  intro pins s σ H v u Q I r h
  exact wpAny_assign_Name (mM I hN hi hx r (fun s' I'=>⟨_,H,I',h⟩) hf)
def wZ:va:=fun vs σ H Q=>vs=[]∧Q σ H
def mN (t:TG) (u:va):va:=fun vs σ H Q=>∃v r,vs=v::r∧t v σ H fun σ' H'=>u r σ' H' Q
theorem lz:wX X [] wZ:=by
  intro pins s σ H vs us Q I r h
  obtain ⟨e,h⟩:=h
  subst e
  cases r
  exact assignInOrder_nil ⟨σ,H,I,h⟩
theorem gh {e:Expr} {es:List Expr} {t:TG} {u:va} (h1:PG X e t) (h2:wX X es u)
    (hs:(assignEach (e::es) X.env).map (·.2)=assign e X.env::(assignEach es X.env).map (·.2):=by rfl):wX X (e::es) (mN t u):=by
  intro pins s σ H vs us Q I r h
  obtain ⟨v,vr,e1,h⟩:=h
  subst e1
  cases r with
  | cons r rr=>
    rw [hs]
    refine assignInOrder_cons (bN (h1 pins s σ H _ _ _ I r h) fun _ s1 ⟨σ1,H1,I1,q1⟩=>?_)
    exact h2 pins s1 σ1 H1 _ _ Q I1 rr q1
def w5 (K:PySem.W.Frag) (n:Nat) (t:va):TG:=fun v σ H Q=>∃a xs,v= .ref a∧SqT K H a xs∧xs.length=n∧t xs σ H Q
theorem n_ {es:List Expr} {k:Nat} {t:va} {n:Nat} (hc:X.calm=true) (h:wX X es t)
    (hn:(assignEach es X.env).length=n:=by rfl) (hst:(assignEach es X.env).findIdx? (·.1)=none:=by rfl):PG X (.Tuple es k pos) (w5 X.K n t):=by
  intro pins s σ H v u Q I r hw
  obtain ⟨a,xs,e1,hq,hl,hw⟩:=hw
  subst e1
  cases r
  obtain ⟨its,rv,ht,hz⟩:=I.tuple hq
  refine assign_Tuple_tuple (I.ok.hd hc) ht (by simp [hn,←hl,rv.length]) hst fun h' hx=>?_
  have I1:Inv X pins σ H {s with heap:=h'}:=I.kept (t':=s.toks) fun b o e=>hx b o (Nat.ne_of_lt (Heap.lt_size e)) e
  exact h pins _ σ H xs _ Q I1 (by simpa using rv) hw
def zV (to ti:TE) (t:wY):TG:=fun v σ H Q=>to σ H fun o H1=>ti σ H1 fun i H2=>t o i v H2 fun H3=>Q σ H3
theorem w6 {o i:Expr} {to ti:TE} {t:wY} (ho:PE X o to) (hi:PE X i ti) (hs:yE X t)
    (ha:∀v,assign (.Subscript o i pos) X.env v=(do
      let ov ←holding [v] (eval o X.env)
      let iv ←holding [v,ov] (eval i X.env)
      standAt pos
      holding [v,ov,iv] (setItem ov iv v)
      release [v,ov,iv] []):=by intro _;rfl):PG X (.Subscript o i pos) (zV to ti t):=by
  intro pins s σ H v u Q I r h
  rw [ha]
  refine wpAny_bind (wpAny_holding (bN (ho pins s σ H _ I h) fun ov s1 ⟨x,H1,I1,r1,q1⟩=>?_))
  refine wpAny_bind (wpAny_holding (bN (hi pins s1 σ H1 _ I1 q1) fun iv s2 ⟨y,H2,I2,r2,q2⟩=>?_))
  refine wpAny_bind (wpAny_standAt (wpAny_bind (wpAny_holding (bN (hs pins s2 σ H2 x y v ov iv u _ I2 r1 r2 r q2) fun _ s3 ⟨H3,I3,q3⟩=>?_))))
  exact wpAny_release ⟨σ,H3,I3,q3⟩
def oa (te:TE) (g:TG):TS:=fun D σ H=>te σ H fun x H1=>g x σ H1 D.nx
theorem w_ {tg e:Expr} {te:TE} {g:TG} (he:PE X e te) (hg:PG X tg g) (hs:swapsWithSole [tg] e pos.line X.env=pure false:=by rfl) (hw:swappedStores [tg] e X.env=pure none:=by rfl)
    (h1:(assignEach [tg] X.env).map (·.2)=[assign tg X.env]:=by rfl):PS X (.Assign [tg] e pos) (oa te g):=by
  intro pins s σ H D I h
  refine wpAny_Assign_stores (bN (he pins s σ H _ I h) fun v s1 ⟨x,H1,I1,r1,q1⟩=>?_) hs hw
  rw [h1]
  exact bN (hg pins s1 σ H1 x v _ I1 r1 q1) fun _ s2 q=>q
theorem lA {i:Nat} {x:Str} {e:Expr} {te:TE} {pos':Pos} (hN:X.N.Nodup) (hi:X.N[i]? =some x) (hx:yq X.env.scope x) (he:PE X e te) (hs:swapsWith e (some (.Name x pos')) pos.line X.env=pure false:=by rfl) (hf:X.fn x=true∨X.env.scope.names.lookup x=some .local:=by first | exact .inl rfl | exact .inr rfl | assumption):
    PS X (.Assign [.Name x pos'] e pos) (oa te (eU i)):=by
  intro pins s σ H D I h
  refine wpAny_Assign_Name (bN (he pins s σ H _ I h) fun v s1 ⟨y,H1,I1,r1,q1⟩=>?_) hs
  exact mM I1 hN hi hx r1 (fun s2 I2=>⟨_,H1,I2,q1⟩) hf
end
section
variable {X:Cx} {pos:Pos}
def xa (c:TT) (tb:TS):TS:=fun D σ H=>∃W:Nat→St→Hp→Prop,(∃m,W m σ H)∧∀m σ H,W m σ H→
  c σ H fun b H1=>if b=true then ∃N:St→Hp→Prop,(∀σ' H',N σ' H'→∃m',m' < m∧W m' σ' H')∧tb {D with nx:=N,ct:=N,bk:=D.nx} σ H1 else D.nx σ H1
theorem sf {c:Expr} {body:List Stmt} {tc:TT} {tb:TS} (hp:PassesOwn (model X.prog X.w) X.A X.env X.xe) (hc:PT X c tc) (hb:PSs X body tb):PS X (.While c body [] pos) (xa tc tb):=by
  intro pins s σ H D I h
  obtain ⟨W,⟨m0,w0⟩,turn⟩:=h
  refine wpAny_While (codeAny_whileLoop (fun n s'=>∃σ' H',Inv X pins σ' H' s'∧W n σ' H') ?_ m0 ⟨σ,H,I,w0⟩)
  rintro n s1 ⟨σ1,H1,I1,w1⟩
  refine wpAny_passesOwn hp (bN (hc pins s1 σ1 H1 _ I1 (turn n σ1 H1 w1)) fun b s2 ⟨H2,I2,q2⟩=>?_)
  cases b with
  | true=>
    obtain ⟨N,hN,q2⟩:=q2
    rw [if_pos rfl]
    refine wpAny_passesOwn hp (bN (hb pins s2 σ1 H2 _ I2 q2) fun f s3 q3=>?_)
    cases f with
    | next=>
      obtain ⟨σ3,H3,I3,n3⟩:=q3
      obtain ⟨m',hm,w3⟩:=hN σ3 H3 n3
      exact ⟨m',hm,σ3,H3,I3,w3⟩
    | cont=>
      obtain ⟨σ3,H3,I3,n3⟩:=q3
      obtain ⟨m',hm,w3⟩:=hN σ3 H3 n3
      exact ⟨m',hm,σ3,H3,I3,w3⟩
    | brk=>exact q3
    | ret v=>exact q3
  | false=>
    rw [if_neg Bool.false_ne_true]
    exact wpAny_execs_nil ⟨σ1,H2,I2,q2⟩
end
structure It where
  go:Nat→Hp→Prop
  yld:Nat→Hp→V→Hp→Prop
  stop:Nat→Hp→Prop
def jG (X:Cx) (pins:List (Addr×Obj)) (H:Hp) (b:Addr):Prop:=
  H b=none∧b≠X.env.locals∧b∉X.fs∧(b∈X.ex∨X.s₀.heap.objs.size≤b)∧(∀x c,X.env.cells.lookup x=some c→c≠b)∧∀p∈X.pn++pins,p.1≠b
theorem Inv.fpOk {X:Cx} {pins:List (Addr×Obj)} {σ:St} {H H':Hp} {s:Shared} {b:Addr} (I:Inv X pins σ H s) (hb:s.heap.objs.size≤b) (hn:H' b=none):jG X pins H' b:=by
  refine ⟨hn,Nat.ne_of_gt (Nat.lt_of_lt_of_le I.lt hb),I.nofs hb, .inr (Nat.le_trans I.sz hb),fun x c e z=>?_,fun p hp z=>?_⟩
  · obtain ⟨v,q⟩:=I.cell x c e
    exact absurd (Nat.lt_of_lt_of_le q.lt (by rw [z];exact hb)) (Nat.lt_irrefl _)
  · exact absurd (Nat.lt_of_lt_of_le (Heap.lt_size (I.pin p hp).1) (by rw [z];exact hb)) (Nat.lt_irrefl _)
structure Turn (P:Program) (w:World) (K:PySem.W.Frag) (tg:Expr) (J:It) (fp:List Addr) (it:Addr) (tn:Nat→Heap→Prop):Prop where
  mem:it∈fp
  obj:∀i h,tn i h→∀b∈fp,∃o,h.get? b=some o∧∀v,o.data≠ .cell v
  keep:∀i h h',tn i h→(∀b∈fp,∀o,h.get? b=some o→h'.get? b=some o)→tn i h'
  item:∀(X:Cx),X.prog=P→X.w=w→X.K=K→X.calm=true→∀(i:Nat) (pins:List (Addr×Obj)) (s:Shared) (σ:St) (H:Hp) (E:Value→Shared→Prop),Inv X pins σ H s→(∀b∈fp,jG X pins H b)→tn i s.heap→J.go i H→
    wpAny (model P w) X.A (pyNext (.ref it)) (fun r s1=>∃u,r=some u∧
      wpAny (model P w) X.A (letOwnedTupleGo tg (.ref it) u) (fun _ s2=>∃x H',Inv X pins σ H' s2∧RelV x u∧J.yld i H x H'∧tn (i+1) s2.heap∧∀b∈fp,H' b=none) E s1) E s
  done:∀(X:Cx),X.prog=P→X.w=w→X.K=K→X.calm=true→∀(i:Nat) (pins:List (Addr×Obj)) (s:Shared) (σ:St) (H:Hp) (E:Value→Shared→Prop),Inv X pins σ H s→(∀b∈fp,jG X pins H b)→tn i s.heap→J.stop i H→
    wpAny (model P w) X.A (pyNext (.ref it)) (fun r s1=>r=none∧Inv X pins σ H s1) E s
  self:∀(A:Around) (i:Nat) (s:Shared) (Q:Value→Shared→Prop) (E:Value→Shared→Prop),tn i s.heap→Q (.ref it) s→wpAny (model P w) A (pyIter (.ref it)) Q E s
abbrev TI:=St→Hp→(It→Hp→Prop)→Prop
def At (X:Cx) (pins:List (Addr×Obj)) (σ:St) (tg:Expr) (R:It→Hp→Prop) (itv:Value) (s2:Shared):Prop:=
  ∃(it:Addr) (fp:List Addr) (tn:Nat→Heap→Prop) (J:It) (H':Hp),itv= .ref it∧Inv X pins σ H' s2∧Turn X.prog X.w X.K tg J fp it tn∧tn 0 s2.heap∧(∀b∈fp,jG X pins H' b)∧R J H'
def PI (X:Cx) (tg iter:Expr) (wi:TI):Prop:=
  ∀(pins:List (Addr×Obj)) (s:Shared) (σ:St) (H:Hp) (R:It→Hp→Prop),Inv X pins σ H s→wi σ H R→
    wpAny (model X.prog X.w) X.A (eval iter X.env) (fun v s1=>wpAny (model X.prog X.w) X.A (pyIter v) (At X pins σ tg R) X.xe s1) X.xe s
theorem mO {M:Model} {A:Around} {E:Value→Shared→Prop} {s:Shared} {tg:Expr} {it:Addr} {u:Value} {o:Obj} {n:String} {vs:Array Value} {Q:Unit→Shared→Prop} (ho:s.heap.get? it=some o) (hc:o.cls= .type n) (hd:o.data= .fields vs)
    (hn:["enumerate","zip","dict_itemiterator","dict_reverseitemiterator","odict_iterator","itertools.zip_longest","itertools.pairwise"].contains n=false) (hQ:Q () s):wpAny M A (letOwnedTupleGo tg (.ref it) u) Q E s:=by
  unfold letOwnedTupleGo
  cases tg <;> first
    | exact wpAny_pure hQ
    | (cases u <;> first
        | exact wpAny_pure hQ
        | (refine wpAny_bind (wpAny_load ho ?_)
           rw [hc,hd]
           show wpAny M A (if (["enumerate","zip","dict_itemiterator","dict_reverseitemiterator","odict_iterator","itertools.zip_longest","itertools.pairwise"].contains n&&vs[0]? == some (rawInt _))=true then _ else _) Q E s
           rw [if_neg (by intro h;rw [hn,Bool.false_and] at h;cases h)]
           exact wpAny_pure hQ))
def zW (K:PySem.W.Frag) (a:Addr):It:=
  ⟨fun i H=>∃xs x,SqL K H a xs∧xs[i]? =some x,fun i H x H'=>H'=H∧∀xs,SqL K H a xs→xs[i]? =some x,fun i H=>∃xs,SqL K H a xs∧xs.length≤i⟩
def zX (K:PySem.W.Frag) (a:Addr):It:=
  ⟨fun i H=>∃xs x,SqT K H a xs∧xs[i]? =some x,fun i H x H'=>H'=H∧∀xs,SqT K H a xs→xs[i]? =some x,fun i H=>∃xs,SqT K H a xs∧xs.length≤i⟩
def wj (lo:Int) (n:Nat):It:=⟨fun i _=>i < n,fun i H x H'=>H'=H∧x= .int (lo+i),fun i _=>n≤i⟩
theorem qF {P:Program} {w:World} {K:PySem.W.Frag} {tg:Expr} (a it:Addr):Turn P w K tg (zW K a) [it] it (fun i h=>h.IsListIter it a i) where
  mem:=by simp
  obj:=fun i h st b hb=>by
    have e:b=it:=by simpa using hb
    subst e
    obtain ⟨o,e,c,d⟩:=st
    exact ⟨o,e,fun v z=>by rw [d] at z;cases z⟩
  keep:=fun i h h' st k=>st.at fun o e=>k it (by simp) o e
  item:=by
    intro X hP hw hK hc i pins s σ H E I hf st hg
    subst hP hw hK
    obtain ⟨xs,x,hq,hx⟩:=hg
    obtain ⟨its,rv,p,hz⟩:=I.list hq
    obtain ⟨u,hu,ru⟩:=rv.get hx
    obtain ⟨f0,f1,f2,f3,f4,f5⟩:=hf it (by simp)
    refine wpAny_pyNext_list_item st p.isList (x:=u) (by simpa using hu) fun h' st' sb=>?_
    have I1:Inv X pins σ H {s with heap:=h'}:=I.turned (t':=s.toks) (fun b o hb e=>(sb.2 b hb).trans e) f0 f1 f3 f4 f5
    obtain ⟨o,e,c,d⟩:=id st'
    exact ⟨u,rfl,mO (s:={s with heap:=h'}) e c d (by decide) ⟨x,H,I1,ru,⟨rfl,fun ys hy=>by rw [I.list_inj hy hq];exact hx⟩,st',fun b hb=>(hf b hb).1⟩⟩
  done:=by
    intro X hP hw hK hc i pins s σ H E I hf st hg
    subst hP hw hK
    obtain ⟨xs,hq,hx⟩:=hg
    obtain ⟨its,rv,p,hz⟩:=I.list hq
    obtain ⟨f0,f1,f2,f3,f4,f5⟩:=hf it (by simp)
    have hl:=rv.length
    exact wpAny_pyNext_list_end (I.ok.hd hc) st p.isList (by simp;omega) fun h' eb=>⟨rfl,I.turned (t':=s.toks) (fun b o hb e=>eb b o hb e) f0 f1 f3 f4 f5⟩
  self:=fun _ _ _ _ _ st h=>wpAny_pyIter_listiter st h
theorem oe {P:Program} {w:World} {K:PySem.W.Frag} {tg:Expr} (a it:Addr):Turn P w K tg (zX K a) [it] it (fun i h=>h.IsTupleIter it a i) where
  mem:=by simp
  obj:=fun i h st b hb=>by
    have e:b=it:=by simpa using hb
    subst e
    obtain ⟨o,e,c,d⟩:=st
    exact ⟨o,e,fun v z=>by rw [d] at z;cases z⟩
  keep:=fun i h h' st k=>st.at fun o e=>k it (by simp) o e
  item:=by
    intro X hP hw hK hc i pins s σ H E I hf st hg
    subst hP hw hK
    obtain ⟨xs,x,hq,hx⟩:=hg
    obtain ⟨its,rv,p,hz⟩:=I.tuple hq
    obtain ⟨u,hu,ru⟩:=rv.get hx
    obtain ⟨f0,f1,f2,f3,f4,f5⟩:=hf it (by simp)
    refine wpAny_pyNext_tuple_item st (show s.heap.IsTuple a its.toArray from p) (x:=u) (by simpa using hu) fun h' st' sb=>?_
    have I1:Inv X pins σ H {s with heap:=h'}:=I.turned (t':=s.toks) (fun b o hb e=>(sb.2 b hb).trans e) f0 f1 f3 f4 f5
    obtain ⟨o,e,c,d⟩:=id st'
    exact ⟨u,rfl,mO (s:={s with heap:=h'}) e c d (by decide) ⟨x,H,I1,ru,⟨rfl,fun ys hy=>by rw [I.tuple_inj hy hq];exact hx⟩,st',fun b hb=>(hf b hb).1⟩⟩
  done:=by
    intro X hP hw hK hc i pins s σ H E I hf st hg
    subst hP hw hK
    obtain ⟨xs,hq,hx⟩:=hg
    obtain ⟨its,rv,p,hz⟩:=I.tuple hq
    obtain ⟨f0,f1,f2,f3,f4,f5⟩:=hf it (by simp)
    have hl:=rv.length
    exact wpAny_pyNext_tuple_end (I.ok.hd hc) st (show s.heap.IsTuple a its.toArray from p) (by simp;omega) fun h' eb=>⟨rfl,I.turned (t':=s.toks) (fun b o hb e=>eb b o hb e) f0 f1 f3 f4 f5⟩
  self:=fun _ _ _ _ _ st h=>wpAny_pyIter_tupleiter st h
theorem og {P:Program} {w:World} {K:PySem.W.Frag} {tg:Expr} (it:Addr) (lo:Int) (n:Nat):Turn P w K tg (wj lo n) [it] it (fun i h=>IsRangeIter h it (lo+(i:Nat)*1) ((n:Int) - (i:Nat)) 1) where
  mem:=by simp
  obj:=fun i h st b hb=>by
    have e:b=it:=by simpa using hb
    subst e
    exact ⟨_,st,fun v z=>by
      have z':Data.fields _=Data.cell v:=z
      cases z'⟩
  keep:=fun i h h' st k=>k it (by simp) _ st
  item:=by
    intro X hP hw hK hc i pins s σ H E I hf st hg
    subst hP hw hK
    obtain ⟨f0,f1,f2,f3,f4,f5⟩:=hf it (by simp)
    have W:=Walks.range (prog:=X.prog) (w:=X.w) (I.ok.hd hc) it lo 1 n
    refine W.item i s _ _ hg st fun v h' tk hv st' kk=>?_
    obtain ⟨t,rfl⟩:=hv
    have I1:Inv X pins σ H {s with heap:=h',toks:=tk}:=I.turned (fun b o hb e=>kk b o (by simpa using hb) e) f0 f1 f3 f4 f5
    refine ⟨_,rfl,mO (s:={s with heap:=h',toks:=tk}) (n:="range_iterator") st' rfl rfl (by decide) ⟨.int (lo+i),H,I1,⟨t,?_⟩,⟨rfl,rfl⟩,st',fun b hb=>(hf b hb).1⟩⟩
    rw [Int.mul_one]
  done:=by
    intro X hP hw hK hc i pins s σ H E I hf st hg
    subst hP hw hK
    obtain ⟨f0,f1,f2,f3,f4,f5⟩:=hf it (by simp)
    exact wpAny_pyNext_range_end (I.ok.hd hc) st (by have:n≤i:=hg;omega) fun h' eb=>⟨rfl,I.turned (t':=s.toks) (fun b o hb e=>eb b o hb e) f0 f1 f3 f4 f5⟩
  self:=fun _ _ _ _ _ st h=>wpAny_pyIter_rangeiter st h
end L2
namespace L2
open PySem PySem.Spec PyProof.Rows
section
variable {X:Cx} {tg:Expr}
def yF (K:PySem.W.Frag) (tl:TE):TI:=fun σ H R=>tl σ H fun x H1=>∃a,x= .ref a∧(∃xs,SqL K H1 a xs)∧R (zW K a) H1
def zY (K:PySem.W.Frag) (tl:TE):TI:=fun σ H R=>tl σ H fun x H1=>∃a,x= .ref a∧(∃xs,SqT K H1 a xs)∧R (zX K a) H1
theorem vb {l:Expr} {tl:TE} (hl:PE X l tl):PI X tg l (yF X.K tl):=by
  intro pins s σ H R I h
  refine bN (hl pins s σ H _ I h) fun v s1 ⟨x,H1,I1,r1,q1⟩=>?_
  obtain ⟨a,e,⟨xs,hq⟩,q⟩:=q1
  subst e
  cases r1
  obtain ⟨its,rv,p,hz⟩:=I1.list hq
  refine wpAny_pyIter_list p.isList ?_
  refine ⟨s1.heap.objs.size,[s1.heap.objs.size],_,_,H1,rfl,I1.kept (t':=s1.toks) fun b o e=>Heap.get?_push_of_some _ e,qF a _,⟨_,Heap.get?_push_size _ rfl,rfl,rfl⟩,fun b hb=>?_,q⟩
  have e:b=s1.heap.objs.size:=by simpa using hb
  subst e
  exact I1.fpOk (Nat.le_refl _) (I1.hok.fresh (Nat.le_refl _))
theorem xb {l:Expr} {tl:TE} (hl:PE X l tl):PI X tg l (zY X.K tl):=by
  intro pins s σ H R I h
  refine bN (hl pins s σ H _ I h) fun v s1 ⟨x,H1,I1,r1,q1⟩=>?_
  obtain ⟨a,e,⟨xs,hq⟩,q⟩:=q1
  subst e
  cases r1
  obtain ⟨its,rv,p,hz⟩:=I1.tuple hq
  refine wpAny_pyIter_tuple (show s1.heap.IsTuple a its.toArray from p) ?_
  refine ⟨s1.heap.objs.size,[s1.heap.objs.size],_,_,H1,rfl,I1.kept (t':=s1.toks) fun b o e=>Heap.get?_push_of_some _ e,oe a _,⟨_,Heap.get?_push_size _ rfl,rfl,rfl⟩,fun b hb=>?_,q⟩
  have e:b=s1.heap.objs.size:=by simpa using hb
  subst e
  exact I1.fpOk (Nat.le_refl _) (I1.hok.fresh (Nat.le_refl _))
theorem mP {pins:List (Addr×Obj)} {σ:St} {H:Hp} {s:Shared} {R:It→Hp→Prop} {E:Value→Shared→Prop} {lo hi:Int} {t u v:Tok} {tk:Nat} (I:Inv X pins σ H s) (h1: -(2 ^ 62)≤lo) (h2:lo < 2 ^ 62) (h3: -(2 ^ 62)≤hi) (h4:hi < 2 ^ 62)
    (q:R (wj lo (hi - lo).toNat) H):wpAny (model X.prog X.w) X.A (pyIter (.ref s.heap.objs.size)) (At X pins σ tg R) E {s with heap:=s.heap.push {cls:= .type "range",data:= .fields #[.int lo t, .int hi u, .int 1 v]},toks:=tk}:=by
  refine wpAny_pyIter_range (IsRange.new ..) (small_one h1 h2 h3 h4) ?_
  have I1:Inv X pins σ H {s with heap:=s.heap.push {cls:= .type "range",data:= .fields #[.int lo t, .int hi u, .int 1 v]},toks:=tk}:=I.kept fun b o e=>Heap.get?_push_of_some _ e
  refine ⟨(s.heap.push {cls:= .type "range",data:= .fields #[.int lo t, .int hi u, .int 1 v]}).objs.size,[(s.heap.push {cls:= .type "range",data:= .fields #[.int lo t, .int hi u, .int 1 v]}).objs.size],_,_,H,rfl,
    I1.kept (t':=tk) fun b o e=>Heap.get?_push_of_some _ e,og _ lo (hi - lo).toNat,?_,fun b hb=>?_,q⟩
  · have e1:lo+((0:Nat):Int)*1=lo:=by simp
    have e2:(((hi - lo).toNat:Nat):Int) - ((0:Nat):Int)=Builtin.Range.rangeSize lo hi 1:=by rw [rangeSize_one];split <;> omega
    show IsRangeIter _ _ (lo+((0:Nat):Int)*1) ((((hi - lo).toNat:Nat):Int) - ((0:Nat):Int)) 1
    rw [e1,e2]
    exact Heap.get?_push_size _ rfl
  · have e:b=(s.heap.push {cls:= .type "range",data:= .fields #[.int lo t, .int hi u, .int 1 v]}).objs.size:=by simpa using hb
    subst e
    exact I1.fpOk (Nat.le_refl _) (I1.hok.fresh (Nat.le_refl _))
def wk (ta:TA):TI:=fun σ H R=>ta σ H fun vs H1=>∃j:Int,vs=[.int j]∧ -(2 ^ 62)≤j∧j < 2 ^ 62∧R (wj 0 j.toNat) H1
def yG (ta:TA):TI:=fun σ H R=>ta σ H fun vs H1=>∃i j:Int,vs=[.int i, .int j]∧(-(2 ^ 62)≤i∧i < 2 ^ 62∧ -(2 ^ 62)≤j∧j < 2 ^ 62)∧R (wj i (j - i).toNat) H1
theorem kK {a:Expr} {ta:TA} {p pos:Pos} (hg:Gl X "range") (hm:X.mg "range"=none) (ha:PA X [a] ta) (hs:starEach [a] X.env=[(false,eval a X.env)]:=by rfl):PI X tg (.Call (.Name "range" p) [a] [] pos) (wk ta):=by
  intro pins s σ H R I h
  refine Call_ (g5 I hg hm boot_range (PyProof.Rows.callWith_type1 (bN (ha pos pins s σ H _ I h) fun us s1 ⟨vs,H1,I1,r1,q1⟩=>?_) hs rfl))
  obtain ⟨j,e,q1,q2,q⟩:=q1
  subst e
  cases r1 with
  | cons r rr=>
    cases rr
    obtain ⟨t,rfl⟩:=r
    exact call_range_1 (mP I1 (by omega) (by omega) q1 q2 (by simpa using q))
theorem qG {a b:Expr} {ta:TA} {p pos:Pos} (hg:Gl X "range") (hm:X.mg "range"=none) (ha:PA X [a,b] ta) (hs:starEach [a,b] X.env=[(false,eval a X.env),(false,eval b X.env)]:=by rfl) (hs2:starEach [b] X.env=[(false,eval b X.env)]:=by rfl):
    PI X tg (.Call (.Name "range" p) [a,b] [] pos) (yG ta):=by
  intro pins s σ H R I h
  refine Call_ (g5 I hg hm boot_range (PyProof.Rows.callWith_type1 (bN (ha pos pins s σ H _ I h) fun us s1 ⟨vs,H1,I1,r1,q1⟩=>?_) (by rw [hs,hs2]) (by rw [hs2];rfl)))
  obtain ⟨i,j,e,⟨q1,q2,q3,q4⟩,q⟩:=q1
  subst e
  cases r1 with
  | cons r rr=>
    cases rr with
    | cons r' rr=>
      cases rr
      obtain ⟨t,rfl⟩:=r
      obtain ⟨t',rfl⟩:=r'
      exact call_range_2 (mP I1 q1 q2 q3 q4 q)
def vc (wi:TI) (g:TG) (tb:TS):TS:=fun D σ H=>wi σ H fun J H1=>∃W:Nat→Nat→St→Hp→Prop,(∃m,W 0 m σ H1)∧∀i m σ H,W i m σ H→
  (J.stop i H∧D.nx σ H)∨(J.go i H∧∃N:St→Hp→Prop,(∀σ' H',N σ' H'→∃m',m' < m∧W (i+1) m' σ' H')∧∀x H',J.yld i H x H'→g x σ H' fun σ2 H2=>tb {D with nx:=N,ct:=N,bk:=D.nx} σ2 H2)
def jH (fp:List Addr) (h:Heap):List (Addr×Obj):=fp.filterMap fun b=>(h.get? b).map fun o=>(b,o)
theorem fR {fp:List Addr} {h:Heap} {b:Addr} {o:Obj} (hb:b∈fp) (e:h.get? b=some o):(b,o)∈jH fp h:=List.mem_filterMap.mpr ⟨b,hb,by rw [e];rfl⟩
theorem qH {fp:List Addr} {h:Heap} {p:Addr×Obj} (hp:p∈jH fp h):p.1∈fp∧h.get? p.1=some p.2:=by
  obtain ⟨b,hb,e⟩:=List.mem_filterMap.mp hp
  cases q:h.get? b with
  | none=>rw [q] at e;cases e
  | some o=>
    rw [q] at e
    have e':(b,o)=p:=Option.some.inj e
    subst e'
    exact ⟨hb,q⟩
theorem Inv.pinned {pins:List (Addr×Obj)} {σ:St} {H:Hp} {s:Shared} {fp:List Addr} (I:Inv X pins σ H s) (hf:∀b∈fp,jG X pins H b) (ho:∀b∈fp,∃o,s.heap.get? b=some o∧∀v,o.data≠ .cell v):Inv X (pins++jH fp s.heap) σ H s:=
  I.pins_of fun p hp=>(List.mem_append.mp hp).elim (fun z=>I.pin p (List.mem_append_right _ z)) fun z=>by
    obtain ⟨hb,e⟩:=qH z
    obtain ⟨f0,f1,f2,_⟩:=hf p.1 hb
    obtain ⟨o,e',d⟩:=ho p.1 hb
    rw [e] at e';cases e'
    exact ⟨e,f0,f1,f2,d⟩
theorem Inv.unpinned {pins pl:List (Addr×Obj)} {σ:St} {H:Hp} {s:Shared} (I:Inv X (pins++pl) σ H s):Inv X pins σ H s:=I.pins_of fun p hp=>I.pin p (List.mem_append_right _ (List.mem_append_left _ hp))
theorem lB {iter:Expr} {body:List Stmt} {wi:TI} {g:TG} {tb:TS} {pos:Pos} (hp:PassesOwn (model X.prog X.w) X.A X.env X.xe) (hc:X.calm=true) (hi:PI X tg iter wi) (hg:PG X tg g) (hb:PSs X body tb)
    (hs:∀x,foldedSetIterable iter X.env x=pure x:=by intro _;rfl):PS X (.For tg iter body [] pos) (vc wi g tb):=by
  intro pins s σ H D I h
  refine wpAny_For (bN (hi pins s σ H _ I h) fun v s1 h1=>bN h1 fun itv s2 h2=>?_) hs
  obtain ⟨it,fp,tn,J,H2,e,I2,T,st2,f2,W,⟨m0,w0⟩,turn⟩:=h2
  subst e
  -- what stays true of the iterator's objects through the qC
  have stat:∀{H':Hp},(∀b∈fp,H' b=none)→∀b∈fp,jG X pins H' b:=fun hn b hb=>⟨hn b hb,(f2 b hb).2⟩
  refine codeAny_forLoop_any (fun n s'=>∃i σ' H',Inv X pins σ' H' s'∧tn i s'.heap∧(∀b∈fp,H' b=none)∧W i n σ' H') ?_ m0 ⟨0,σ,H2,I2,st2,fun b hb=>(f2 b hb).1,w0⟩
  rintro n s3 ⟨i,σ3,H3,I3,st3,fr3,w3⟩
  rcases turn i n σ3 H3 w3 with ⟨stop,qn⟩ | ⟨go,N,hN,step⟩
  · refine wpAny_passesOwn hp (bN (T.done X rfl rfl rfl hc i pins s3 σ3 H3 X.xe I3 (stat fr3) st3 stop) fun r s4 ⟨hr,I4⟩=>?_)
    subst hr
    exact wpAny_execs_nil ⟨σ3,H3,I4,qn⟩
  · refine wpAny_passesOwn hp (bN (T.item X rfl rfl rfl hc i pins s3 σ3 H3 X.xe I3 (stat fr3) st3 go) fun r s4 ⟨u,hr,h4⟩=>?_)
    subst hr
    refine wpAny_passesOwn hp (bN h4 fun _ s5 ⟨x,H5,I5,r5,y5,st5,fr5⟩=>?_)
    have I5':=I5.pinned (stat fr5) (T.obj _ _ st5)
    refine wpAny_passesOwn hp (bN (hg _ s5 σ3 H5 x u _ I5' r5 (step x H5 y5)) fun _ s6 ⟨σ6,H6,I6,q6⟩=>?_)
    refine wpAny_passesOwn hp (bN (hb _ s6 σ6 H6 _ I6 q6) fun f s7 q7=>?_)
    have again:∀{σ7:St} {H7:Hp},Inv X (pins++jH fp s5.heap) σ7 H7 s7→N σ7 H7→∃m,m < n∧∃i σ' H',Inv X pins σ' H' s7∧tn i s7.heap∧(∀b∈fp,H' b=none)∧W i m σ' H':=fun {σ7 H7} I7 n7=>by
      obtain ⟨m',hm,w7⟩:=hN σ7 H7 n7
      refine ⟨m',hm,i+1,σ7,H7,I7.unpinned,T.keep _ _ _ st5 fun b hb o e=>(I7.pin (b,o) (List.mem_append_right _ (List.mem_append_right _ (fR hb e)))).1,fun b hb=>?_,w7⟩
      obtain ⟨o,e,d⟩:=T.obj _ _ st5 b hb
      exact (I7.pin (b,o) (List.mem_append_right _ (List.mem_append_right _ (fR hb e)))).2.1
    cases f with
    | next=>obtain ⟨σ7,H7,I7,n7⟩:=q7;exact again I7 n7
    | cont=>obtain ⟨σ7,H7,I7,n7⟩:=q7;exact again I7 n7
    | brk=>obtain ⟨σ7,H7,I7,q7⟩:=q7;exact ⟨σ7,H7,I7.unpinned,q7⟩
    | ret v=>obtain ⟨x7,σ7,H7,I7,r7,q7⟩:=q7;exact ⟨x7,σ7,H7,I7.unpinned,r7,q7⟩
end
end L2
namespace L2
open PySem PySem.Spec PyProof.Rows
abbrev R2:=V→V→Hp→VK→Prop
def OpR (X:Cx) (f:Value→Value→Sem Value) (r:R2):Prop:=
  ∀(pins:List (Addr×Obj)) (s:Shared) (σ:St) (H:Hp) (x y:V) (v u:Value) (Q:VK),Inv X pins σ H s→RelV x v→RelV y u→r x y H Q→
    wpAny (model X.prog X.w) X.A (f v u) (EP X pins σ Q) X.xe s
def zZ (X:Cx) (f:Value→Sem Value) (r:V→Hp→VK→Prop):Prop:=
  ∀(pins:List (Addr×Obj)) (s:Shared) (σ:St) (H:Hp) (x:V) (v:Value) (Q:VK),Inv X pins σ H s→RelV x v→r x H Q→
    wpAny (model X.prog X.w) X.A (f v) (EP X pins σ Q) X.xe s
def CallR (X:Cx) (f:Value) (r:List V→Hp→VK→Prop):Prop:=
  ∀(pins:List (Addr×Obj)) (s:Shared) (σ:St) (H:Hp) (xs:List V) (us:List Value) (Q:VK),Inv X pins σ H s→Vals xs us→r xs H Q→
    wpAny (model X.prog X.w) X.A (call f us) (EP X pins σ Q) X.xe s
def z_ (X:Cx) (r:V→Hp→(Bool→Hp→Prop)→Prop):Prop:=
  ∀(pins:List (Addr×Obj)) (s:Shared) (σ:St) (H:Hp) (x:V) (v:Value) (Q:Bool→Hp→Prop),Inv X pins σ H s→RelV x v→r x H Q→
    wpAny (model X.prog X.w) X.A (truthy v) (TP X pins σ Q) X.xe s
def n4 (r:R2) (ta tb:TE):TE:=fun σ H Q=>ta σ H fun x H1=>tb σ H1 fun y H2=>r x y H2 Q
def AC (r:V→Hp→VK→Prop) (ta:TE):TE:=fun σ H Q=>ta σ H fun x H1=>r x H1 Q
def rI (C:Int→Int→Prop) (g:Int→Int→V):R2:=fun x y H Q=>∃i j,x= .int i∧y= .int j∧C i j∧Q (g i j) H
def uZ (g:Int→Int→V):R2:=fun x y H Q=>∃i j,x= .int i∧y= .int j∧Q (g i j) H
def rU (g:Int→V):V→Hp→VK→Prop:=fun x H Q=>∃i,x= .int i∧Q (g i) H
section
variable {X:Cx} {a b c:Expr} {ta tb tc:TE} {pos:Pos}
theorem xc (ha:PE X a ta) (hb:PE X b tb) {pins:List (Addr×Obj)} {s:Shared} {σ:St} {H:Hp} {R:V→V→Hp→Prop} (I:Inv X pins σ H s)
    (h:ta σ H fun x H1=>tb σ H1 fun y H2=>R x y H2) {Q:Value→Shared→Prop} {f:Value→Value→Sem Value}
    (hf:∀v u s2 x y H2,Inv X pins σ H2 s2→RelV x v→RelV y u→R x y H2→wpAny (model X.prog X.w) X.A (f v u) Q X.xe s2):
    wpAny (model X.prog X.w) X.A (eval a X.env) (fun v s₁=>wpAny (model X.prog X.w) X.A (eval b X.env) (fun u s₂=>wpAny (model X.prog X.w) X.A (f v u) Q X.xe s₂) X.xe s₁) X.xe s:=by
  refine bN (ha pins s σ H _ I h) fun v s1 ⟨x,H1,I1,r1,q1⟩=>?_
  refine bN (hb pins s1 σ H1 _ I1 q1) fun u s2 ⟨y,H2,I2,r2,q2⟩=>?_
  exact hf v u s2 x y H2 I2 r1 r2 q2
theorem kL {op:Operator} {r:R2} (ho:OpR X (binaryOp op) r) (ha:PE X a ta) (hb:PE X b tb):PE X (.BinOp a op b pos) (n4 r ta tb):=by
  intro pins s σ H Q I h
  exact wpAny_BinOp (xc ha hb I h fun v u s2 x y H2 I2 rx ry q=>ho pins s2 σ H2 x y v u Q I2 rx ry q)
theorem yH {op:UnaryOp} {r:V→Hp→VK→Prop} (ho:zZ X (unaryOp op) r) (ha:PE X a ta):PE X (.UnaryOp op a pos) (AC r ta):=by
  intro pins s σ H Q I h
  exact UnaryOp_ (bN (ha pins s σ H _ I h) fun v s1 ⟨x,H1,I1,r1,q1⟩=>ho pins s1 σ H1 x v Q I1 r1 q1)
theorem yI {f:Value→Value→Sem Value} {C:Int→Int→Prop} {g:Int→Int→Int}
    (rule:∀(i j:Int) (t u:Tok) (s:Shared) (Q:Value→Shared→Prop) (E:Value→Shared→Prop),C i j→Q (.int (g i j) s.toks) {s with toks:=s.toks+1}→wpAny (model X.prog X.w) X.A (f (.int i t) (.int j u)) Q E s):
    OpR X f (rI C fun i j=> .int (g i j)):=by
  intro pins s σ H x y v u Q I rx ry h
  obtain ⟨i,j,rfl,rfl,hc,q⟩:=h
  obtain ⟨t,rfl⟩:=rx
  obtain ⟨t',rfl⟩:=ry
  exact rule i j t t' s _ _ hc ⟨.int (g i j),H,I.tok _,⟨_,rfl⟩,q⟩
theorem yJ {f:Value→Value→Sem Value} {g:Int→Int→Int}
    (rule:∀(i j:Int) (t u:Tok) (s:Shared) (Q:Value→Shared→Prop) (E:Value→Shared→Prop),Q (.int (g i j) s.toks) {s with toks:=s.toks+1}→wpAny (model X.prog X.w) X.A (f (.int i t) (.int j u)) Q E s):
    OpR X f (uZ fun i j=> .int (g i j)):=by
  intro pins s σ H x y v u Q I rx ry h
  obtain ⟨i,j,rfl,rfl,q⟩:=h
  obtain ⟨t,rfl⟩:=rx
  obtain ⟨t',rfl⟩:=ry
  exact rule i j t t' s _ _ ⟨.int (g i j),H,I.tok _,⟨_,rfl⟩,q⟩
theorem vd {f:Value→Value→Sem Value} {g:Int→Int→Bool}
    (rule:∀(i j:Int) (t u:Tok) (s:Shared) (Q:Value→Shared→Prop) (E:Value→Shared→Prop),Q (.bool (g i j)) s→wpAny (model X.prog X.w) X.A (f (.int i t) (.int j u)) Q E s):
    OpR X f (uZ fun i j=> .bl (g i j)):=by
  intro pins s σ H x y v u Q I rx ry h
  obtain ⟨i,j,rfl,rfl,q⟩:=h
  obtain ⟨t,rfl⟩:=rx
  obtain ⟨t',rfl⟩:=ry
  exact rule i j t t' s _ _ ⟨.bl (g i j),H,I,rfl,q⟩
def yK (i j:Int):Prop:=0≤j∧j≤1000000∧i.natAbs < 2 ^ 64
def CMul (i j:Int):Prop:=(-(2 ^ 64) < i∧i < 2 ^ 64)∨(-(2 ^ 64) < j∧j < 2 ^ 64)
theorem CMul.ok {i j:Int} (h:CMul i j):IntMulOk i j:=by
  rcases h with ⟨h1,h2⟩ | ⟨h1,h2⟩
  · exact .of_left (intBits_le_64 h1 h2)
  · exact .of_right (intBits_le_64 h1 h2)
theorem oh (k:Nat):(0:Int)≤2 ^ k:=by
  rw [two_pow_cast]
  exact Int.natCast_nonneg _
theorem oj:OpR X (binaryOp .Add) (uZ fun i j=> .int (i+j)):=yJ fun _ _ _ _ _ _ _ q=>add_int q
theorem xg:OpR X (binaryOp .Sub) (uZ fun i j=> .int (i - j)):=yJ fun _ _ _ _ _ _ _ q=>sub_int q
theorem xh:OpR X (binaryOp .Mod) (rI (fun _ j=>0 < j) fun i j=> .int (i % j)):=yI fun i j _ _ _ _ _ hc q=>by
  have h1:(0:Int) < j:=hc
  exact mod_int' (by omega) (by rw [Int.fmod_eq_emod_of_nonneg i (by omega)];exact q)
theorem xi:OpR X (binaryOp .Pow) (rI yK fun i j=> .int (i ^ j.toNat)):=yI fun _ _ _ _ _ _ _ hc q=>pow_int_small hc.1 hc.2.1 hc.2.2 q
theorem xj:OpR X (binaryOp .RShift) (rI (fun _ j=>0≤j) fun i j=> .int (i / 2 ^ j.toNat)):=yI fun i j _ _ _ _ _ hc q=>
  rshift_int hc (by rw [Int.fdiv_eq_ediv_of_nonneg i (oh _)];exact q)
theorem AD {f:Value→Sem Value} {g:Int→Int}
    (rule:∀(i:Int) (t:Tok) (s:Shared) (Q:Value→Shared→Prop) (E:Value→Shared→Prop),Q (.int (g i) s.toks) {s with toks:=s.toks+1}→wpAny (model X.prog X.w) X.A (f (.int i t)) Q E s):
    zZ X f (rU fun i=> .int (g i)):=by
  intro pins s σ H x v Q I rx h
  obtain ⟨i,rfl,q⟩:=h
  obtain ⟨t,rfl⟩:=rx
  exact rule i t s _ _ ⟨.int (g i),H,I.tok _,⟨_,rfl⟩,q⟩
theorem xk:zZ X (unaryOp .USub) (rU fun i=> .int (-i)):=AD fun _ _ _ _ _ q=>neg_int q
end
def xl:V→V→Bool
  | .non, .non=>true | .non, .int _=>true | .int _, .non=>true | .non, .bl _=>true | .bl _, .non=>true | .non, .str _=>true | .str _, .non=>true
  | .int _, .int _=>true | .bl _, .bl _=>true | .str _, .str _=>true | .byt _, .byt _=>true
  | .int _, .str _=>true | .str _, .int _=>true | .bl _, .str _=>true | .str _, .bl _=>true
  | _,_=>false
def Aa:R2:=fun x y H Q=>xl x y=true∧Q (.bl (decide (x=y))) H
def Au:R2:=fun x y H Q=>xl x y=true∧Q (.bl (!decide (x=y))) H
theorem pj {i j:Int}:decide (V.int i=V.int j)=(i == j):=by
  rw [Bool.eq_iff_iff]
  simp
theorem sg {i j:Bool}:decide (V.bl i=V.bl j)=(i == j):=by
  rw [Bool.eq_iff_iff]
  simp
theorem pp {i j:Str}:decide (V.str i=V.str j)=(i == j):=by
  rw [Bool.eq_iff_iff]
  simp
theorem pq {i j:Array UInt8}:decide (V.byt i=V.byt j)=(i.toList == j.toList):=by
  rw [Bool.eq_iff_iff]
  cases i
  cases j
  simp
section
variable {X:Cx} {a b c:Expr} {ta tb tc:TE} {pos:Pos}
theorem aJ {pins:List (Addr×Obj)} {σ:St} {H:Hp} {s:Shared} {Q:VK} {k k':Bool} (I:Inv X pins σ H s) (q:Q (.bl k) H) (e:k=k'):EP X pins σ Q (.bool k') s:=by
  subst e
  exact ⟨.bl k,H,I,rfl,q⟩
theorem si:OpR X (compareOp .Eq) Aa:=by
  intro pins s σ H x y v u Q I rx ry h
  obtain ⟨hs,q⟩:=h
  cases x with
  | non=>
    cases rx
    cases y with
    | non=>cases ry;exact PySem.EqNone.eq_none_none (aJ I q (by simp))
    | bl j=>cases ry;exact PySem.EqNone.eq_none_bool (aJ I q (by simp))
    | int j=>obtain ⟨t',rfl⟩:=ry;exact PySem.EqNone.eq_none_int (aJ I q (by simp))
    | str j=>obtain ⟨t',rfl⟩:=ry;exact PySem.EqNone.eq_none_str (aJ I q (by simp))
    | _=>exact absurd (show false=true from hs) Bool.false_ne_true
  | bl i=>
    cases rx
    cases y with
    | non=>cases ry;exact PySem.EqNone.eq_bool_none (aJ I q (by simp))
    | bl j=>cases ry;exact eq_bool (aJ I q sg)
    | str j=>obtain ⟨t',rfl⟩:=ry;exact PySem.EqMixed.eq_bool_str (aJ I q (by simp))
    | _=>exact absurd (show false=true from hs) Bool.false_ne_true
  | int i=>
    obtain ⟨t,rfl⟩:=rx
    cases y with
    | non=>cases ry;exact PySem.EqNone.eq_int_none (aJ I q (by simp))
    | int j=>obtain ⟨t',rfl⟩:=ry;exact eq_int (aJ I q pj)
    | str j=>obtain ⟨t',rfl⟩:=ry;exact PySem.EqMixed.eq_int_str (aJ I q (by simp))
    | _=>exact absurd (show false=true from hs) Bool.false_ne_true
  | str i=>
    obtain ⟨t,rfl⟩:=rx
    cases y with
    | non=>cases ry;exact PySem.EqNone.eq_str_none (aJ I q (by simp))
    | bl j=>cases ry;exact PySem.EqMixed.eq_str_bool (aJ I q (by simp))
    | int j=>obtain ⟨t',rfl⟩:=ry;exact PySem.EqMixed.eq_str_int (aJ I q (by simp))
    | str j=>obtain ⟨t',rfl⟩:=ry;exact eq_str (aJ I q pp)
    | _=>exact absurd (show false=true from hs) Bool.false_ne_true
  | byt i=>
    obtain ⟨t,rfl⟩:=rx
    cases y with
    | byt j=>obtain ⟨t',rfl⟩:=ry;exact PySem.W.eq_bytes (aJ I q pq)
    | _=>exact absurd (show false=true from hs) Bool.false_ne_true
  | _=>cases y <;> exact absurd (show false=true from hs) Bool.false_ne_true
theorem yL:OpR X (compareOp .NotEq) Au:=by
  intro pins s σ H x y v u Q I rx ry h
  obtain ⟨hs,q⟩:=h
  cases x with
  | non=>
    cases rx
    cases y with
    | non=>cases ry;exact PySem.EqNone.ne_none_none (aJ I q (by simp))
    | bl j=>cases ry;exact PySem.EqNone.ne_none_bool (aJ I q (by simp))
    | int j=>obtain ⟨t',rfl⟩:=ry;exact PySem.EqNone.ne_none_int (aJ I q (by simp))
    | str j=>obtain ⟨t',rfl⟩:=ry;exact PySem.EqNone.ne_none_str (aJ I q (by simp))
    | _=>exact absurd (show false=true from hs) Bool.false_ne_true
  | bl i=>
    cases rx
    cases y with
    | non=>cases ry;exact PySem.EqNone.ne_bool_none (aJ I q (by simp))
    | bl j=>cases ry;exact ne_bool (aJ I q (congrArg not sg))
    | str j=>obtain ⟨t',rfl⟩:=ry;exact PySem.EqMixed.ne_bool_str (aJ I q (by simp))
    | _=>exact absurd (show false=true from hs) Bool.false_ne_true
  | int i=>
    obtain ⟨t,rfl⟩:=rx
    cases y with
    | non=>cases ry;exact PySem.EqNone.ne_int_none (aJ I q (by simp))
    | int j=>obtain ⟨t',rfl⟩:=ry;exact ne_int (aJ I q (congrArg not pj))
    | str j=>obtain ⟨t',rfl⟩:=ry;exact PySem.EqMixed.ne_int_str (aJ I q (by simp))
    | _=>exact absurd (show false=true from hs) Bool.false_ne_true
  | str i=>
    obtain ⟨t,rfl⟩:=rx
    cases y with
    | non=>cases ry;exact PySem.EqNone.ne_str_none (aJ I q (by simp))
    | bl j=>cases ry;exact PySem.EqMixed.ne_str_bool (aJ I q (by simp))
    | int j=>obtain ⟨t',rfl⟩:=ry;exact PySem.EqMixed.ne_str_int (aJ I q (by simp))
    | str j=>obtain ⟨t',rfl⟩:=ry;exact ne_str (aJ I q (congrArg not pp))
    | _=>exact absurd (show false=true from hs) Bool.false_ne_true
  | byt i=>
    obtain ⟨t,rfl⟩:=rx
    cases y with
    | byt j=>obtain ⟨t',rfl⟩:=ry;exact PySem.W.ne_bytes (aJ I q (congrArg not pq))
    | _=>exact absurd (show false=true from hs) Bool.false_ne_true
  | _=>cases y <;> exact absurd (show false=true from hs) Bool.false_ne_true
theorem yM:OpR X (compareOp .Lt) (uZ fun i j=> .bl (decide (i < j))):=vd fun _ _ _ _ _ _ _ q=>lt_int q
theorem yN:OpR X (compareOp .LtE) (uZ fun i j=> .bl (decide (i≤j))):=vd fun _ _ _ _ _ _ _ q=>le_int q
theorem yO:OpR X (compareOp .Gt) (uZ fun i j=> .bl (decide (j < i))):=vd fun _ _ _ _ _ _ _ q=>gt_int q
theorem yP:OpR X (compareOp .GtE) (uZ fun i j=> .bl (decide (j≤i))):=vd fun _ _ _ _ _ _ _ q=>ge_int q
theorem qI:OpR X (compareOp .Lt) (fun x y H Q=>∃i j,x= .str i∧y= .str j∧Q (.bl (decide (i.cps.toList < j.cps.toList))) H):=by
  intro pins s σ H x y v u Q I rx ry h
  obtain ⟨i,j,rfl,rfl,q⟩:=h
  obtain ⟨t,rfl⟩:=rx
  obtain ⟨t',rfl⟩:=ry
  exact lt_str (aJ I q rfl)
theorem OpR.or {f:Value→Value→Sem Value} {r r':R2} (h:OpR X f r) (h':OpR X f r'):OpR X f (fun x y H Q=>r x y H Q∨r' x y H Q):=by
  intro pins s σ H x y v u Q I rx ry q
  rcases q with q | q
  · exact h pins s σ H x y v u Q I rx ry q
  · exact h' pins s σ H x y v u Q I rx ry q
theorem jI (b:Expr) {op:CmpOp} (h:op≠ .In:=by decide) (h2:op≠ .NotIn:=by decide):behindInMarks op b=false:=by
  have e1:(op == CmpOp.In)=false:=by cases op <;> first | rfl | exact absurd rfl h
  have e2:(op == CmpOp.NotIn)=false:=by cases op <;> first | rfl | exact absurd rfl h2
  cases b <;> simp [behindInMarks,e1,e2]
theorem ve {op:CmpOp} {r:R2} (ho:OpR X (compareOp op) r) (ha:PE X a ta) (hb:PE X b tb) (hm:behindInMarks op b=false):PE X (.Compare a [op] [b] pos) (n4 r ta tb):=by
  intro pins s σ H Q I h
  exact wpAny_Compare1 (xc ha hb I h fun v u s2 x y H2 I2 rx ry q=>ho pins s2 σ H2 x y v u Q I2 rx ry q) hm
def sj (t:TE):TT:=fun σ H Q=>t σ H fun x H'=>∃k,x= .bl k∧Q k H'
theorem pA {op:CmpOp} {r:R2} (ho:OpR X (compareOp op) r) (ha:PE X a ta) (hb:PE X b tb) (hm:behindInMarks op b=false):PT X (.Compare a [op] [b] pos) (sj (n4 r ta tb)):=by
  intro pins s σ H Q I h
  refine wpAny_isTrue_Compare1 (bN (ha pins s σ H _ I h) fun v s1 ⟨x,H1,I1,r1,q1⟩=>bN (hb pins s1 σ H1 _ I1 q1) fun u s2 ⟨y,H2,I2,r2,q2⟩=>
    bN (ho pins s2 σ H2 x y v u _ I2 r1 r2 q2) fun c s3 ⟨z,H3,I3,r3,k,e,q3⟩=>?_) hm
  subst e
  cases r3
  exact wpAny_truthy_bool ⟨H3,I3,q3⟩
def sk (r r':R2) (ta tb tc:TE):TE:=fun σ H Q=>ta σ H fun x H1=>tb σ H1 fun y H2=>r x y H2 fun z H3=>∃k,z= .bl k∧
  (if k=true then tc σ H3 fun w' H4=>r' y w' H4 Q else Q (.bl false) H3)
theorem sq {op op':CmpOp} {r r':R2} (ho:OpR X (compareOp op) r) (ho':OpR X (compareOp op') r') (ha:PE X a ta) (hb:PE X b tb) (hc:PE X c tc)
    (hm:lastMarks [op,op'] [b,c]=false:=by with_unfolding_all rfl):PT X (.Compare a [op,op'] [b,c] pos) (sj (sk r r' ta tb tc)):=by
  intro pins s σ H Q I h
  refine isTrue_chain (bN (ha pins s σ H _ I h) fun v s1 ⟨x,H1,I1,r1,q1⟩=>test_link (bN (hb pins s1 σ H1 _ I1 q1) fun u s2 ⟨y,H2,I2,r2,q2⟩=>
    bN (ho pins s2 σ H2 x y v u _ I2 r1 r2 q2) fun d s3 ⟨z,H3,I3,r3,k,e,q3⟩=>?_)) hm
  subst e
  cases r3
  refine wpAny_truthy_bool ?_
  cases k with
  | false=>
    obtain ⟨k',e',q'⟩:=q3
    cases e'
    exact ite_ff ⟨H3,I3,q'⟩
  | true=>
    refine ite_tt (test_last (bN (hc pins s3 σ H3 _ I3 q3) fun w' s4 ⟨z',H4,I4,r4,q4⟩=>bN (ho' pins s4 σ H4 y z' u w' _ I4 r2 r4 q4) fun d' s5 ⟨z2,H5,I5,r5,k2,e2,q5⟩=>?_))
    subst e2
    cases r5
    exact wpAny_truthy_bool ⟨H5,I5,q5⟩
def sr (K:PySem.W.Frag) (x:V) (H:Hp) (k:Bool):Prop:=
  match x with
  | .non=>k=false
  | .bl b=>k=b
  | .int i=>k=(i != 0)
  | .str y=>y.length≤sizeLine∧k=((y.length:Int) != 0)
  | .byt y=>y.size≤sizeLine∧k=((y.size:Int) != 0)
  | .ref p=>(∃xs,SqL K H p xs∧k= !xs.isEmpty)∨(∃xs,SqT K H p xs∧k= !xs.isEmpty)∨∃kvs,H p=some (.dK kvs)∧k= !kvs.isEmpty
  | _=>False
theorem on {κ:Type} {kvs:List (κ×V)} {vs:List (κ×Value)} (r:KV kvs vs):(!vs.isEmpty)= !kvs.isEmpty:=by
  cases r <;> rfl
theorem jJ {xs:List V} {its:List Value} (r:Vals xs its):(!its.toArray.isEmpty)= !xs.isEmpty:=by
  cases r <;> simp
theorem g6:(sizeLine:Nat) < 2 ^ 63:=by rw [sizeLine_eq];decide
theorem xm:z_ X (fun x H Q=>∃k,sr X.K x H k∧Q k H):=by
  intro pins s σ H x v Q I rx h
  obtain ⟨k,e,q⟩:=h
  have hl:=g6
  have hs:sizeLine=16777216:=sizeLine_eq
  cases x with
  | non=>
    cases rx
    have e':k=false:=e
    subst e'
    exact truthy_none ⟨H,I,q⟩
  | bl b=>
    cases rx
    have e':k=b:=e
    subst e'
    exact wpAny_truthy_bool ⟨H,I,q⟩
  | int i=>
    obtain ⟨t,rfl⟩:=rx
    have e':k=(i != 0):=e
    subst e'
    exact PySem.P.truthy_int ⟨H,I,q⟩
  | str y=>
    obtain ⟨t,rfl⟩:=rx
    obtain ⟨hy,e'⟩:y.length≤sizeLine∧k=((y.length:Int) != 0):=e
    subst e'
    exact PySem.P.truthy_str (by omega) ⟨H,I.tok _,q⟩
  | byt y=>
    obtain ⟨t,rfl⟩:=rx
    obtain ⟨hy,e'⟩:y.size≤sizeLine∧k=((y.size:Int) != 0):=e
    subst e'
    exact PySem.W.truthy_bytes (by omega) ⟨H,I.tok _,q⟩
  | ref p=>
    cases rx
    have e':(∃xs,SqL X.K H p xs∧k= !xs.isEmpty)∨(∃xs,SqT X.K H p xs∧k= !xs.isEmpty)∨∃kvs,H p=some (.dK kvs)∧k= !kvs.isEmpty:=e
    rcases e' with ⟨xs,hx,e'⟩ | ⟨xs,hx,e'⟩ | ⟨kvs,hx,e'⟩
    · subst e'
      obtain ⟨its,r,pl,hz⟩:=I.list hx
      have hlen:=r.length
      exact wpAny_truthy_list pl.isList (by simp only [List.size_toArray];omega) ⟨H,I.tok _,by rw [jJ r];exact q⟩
    · subst e'
      obtain ⟨its,r,pl,hz⟩:=I.tuple hx
      have hlen:=r.length
      exact truthy_tuple pl (by simp only [List.size_toArray];omega) ⟨H,I.tok _,by rw [jJ r];exact q⟩
    · subst e'
      obtain ⟨hz,hS,vs,r,m⟩:kvs.length≤sizeLine∧(p == sysModules)=false∧∃vs,KV kvs vs∧s.heap.DictOf (aS X.prog X.w) p vs:=I.hok p _ hx
      have hlen:kvs.length=vs.length:=Paired.length r
      exact wpAny_truthy_dict hS m (by omega) ⟨H,I.tok _,by rw [on r];exact q⟩
  | _=>exact (show False from e).elim
theorem su (ha:PE X a ta) (he:∀whole,isTrue a X.env whole=(do let v ←whole;standAt a.pos;holding [v] (truthy v))):
    PT X a (fun σ H Q=>ta σ H fun x H'=>∃k,sr X.K x H' k∧Q k H'):=by
  intro pins s σ H Q I h
  exact isTrue_plain (bN (ha pins s σ H _ I h) fun v s1 ⟨x,H1,I1,r1,q1⟩=>xm pins s1 σ H1 x v Q I1 r1 q1) (he _)
theorem oo:OpR X (binaryOp .Add) (fun x y H Q=>∃i j,x= .str i∧y= .str j∧i.length+j.length≤sizeLine∧Q (.str (i++j)) H):=by
  intro pins s σ H x y v u Q I rx ry h
  obtain ⟨i,j,rfl,rfl,hz,q⟩:=h
  obtain ⟨t,rfl⟩:=rx
  obtain ⟨t',rfl⟩:=ry
  exact add_str (fun t' tk=>⟨.str (i++j),H,I.tok _,⟨_,rfl⟩,q⟩) hz
theorem kM {x:V} {us:List Value} (r:Vals [x] us):∃u,us=[u]∧RelV x u:=by
  cases r with
  | cons r1 r2=>cases r2;exact ⟨_,rfl,r1⟩
theorem sv:CallR X (.builtin "abs") (fun xs H Q=>∃i,xs=[.int i]∧Q (.int (if i < 0 then -i else i)) H):=by
  intro pins s σ H xs us Q I r h
  obtain ⟨i,rfl,q⟩:=h
  obtain ⟨u,rfl,t,rfl⟩:=kM r
  exact call_abs_int fun u tk=>⟨.int (if i < 0 then -i else i),H,I.tok _,⟨_,rfl⟩,q⟩
theorem qJ:CallR X (.type "int") (fun xs H Q=>(∃i,xs=[.int i]∧Q (.int i) H)∨∃k,xs=[.bl k]∧Q (.int (if k then 1 else 0)) H):=by
  intro pins s σ H xs us Q I r h
  rcases h with ⟨i,rfl,q⟩ | ⟨k,rfl,q⟩
  · obtain ⟨u,rfl,t,rfl⟩:=kM r
    exact call_int_int ⟨.int i,H,I,⟨_,rfl⟩,q⟩
  · obtain ⟨u,rfl,r1⟩:=kM r
    cases r1
    exact call_int_bool ⟨.int (if k then 1 else 0),H,I.tok _,⟨_,rfl⟩,q⟩
end
end L2
namespace L2
open PySem PySem.Spec PyProof.Rows
structure ObjM (h:Heap) (x dx C:Addr) (mA:Str→Option Value):Prop where
  obj:h.get? x=some (PySem.W.instObj C dx)
  ns:h.Ns1 dx mA
  ne:dx≠x
theorem qK {h:Heap} {dx:Addr} {mA:Str→Option Value} (n:h.Ns1 dx mA):∃od,h.get? dx=some od∧∀name,PySem.W.lookIn name od=some (mA name):=by
  obtain ⟨o,es,ep,ho,hd,hk,_,hm⟩:=n
  refine ⟨o,ho,fun name=>?_⟩
  have e:=hm name
  unfold nsFind findBy at e
  rw [←Array.find?_toList] at e
  unfold PySem.W.lookIn
  rw [hd]
  dsimp only
  split
  · rename_i y q
    rw [q] at e
    exact congrArg some e
  · rename_i q
    rw [q] at e
    have a:es.toList.any (·.refKey)=false:=by
      rw [List.any_eq_false]
      intro y hy
      obtain ⟨z,t,hkey⟩:=hk y (Array.mem_toList_iff.mp hy)
      simp [DictEntry.refKey,hkey]
    have a':¬es.toList.any (·.refKey)=true:=by rw [a];exact Bool.false_ne_true
    rw [if_neg a']
    exact congrArg some e
theorem ObjM.look {h:Heap} {x dx C:Addr} {mA:Str→Option Value} (I:ObjM h x dx C mA):∃od,PySem.W.InstAt h x (PySem.W.instObj C dx) C (some od)∧∀name,PySem.W.lookIn name od=some (mA name):=
  let ⟨od,ho,hl⟩:=qK I.ns
  ⟨od,⟨I.obj,rfl,rfl,ho⟩,hl⟩
section
variable {P:Program} {w:World} {H H':Hp} {h h':Heap} {a C dx:Addr} {fs fs':List (Str×V)}
theorem vf (hok:HOk P w H h) (e:H a=some (.ins C dx fs)):∃mA,ObjM h a dx C mA∧(∀f,RelO (fs.lookup f) (mA f))∧PySem.Within mA (fs.map (·.1))∧fs.length≤1000∧H dx=some (.own a):=by
  obtain ⟨d,z,ne,ob,mA,n,r,q⟩:=(show ObjOk P w H h a (.ins C dx fs) from hok a _ e)
  exact ⟨mA,⟨ob,n,ne⟩,r,q,z,d⟩
end
structure Cls (K:PySem.W.Frag) (C:Addr):Prop where
  pg:PySem.W.plainGet K C Str.empty=true
  hd:PySem.W.hasDictIn K C=true
  po:PySem.W.plainOver K C=true
  sa:PySem.W.findIn K (.ref C) "__setattr__"=some (some (.builtin "object.__setattr__"))
theorem Cls.get {K:PySem.W.Frag} {C:Addr} (c:Cls K C) (f:Str):PySem.W.plainGet K C f=true:=c.pg
section
variable {X:Cx} {pins:List (Addr×Obj)} {σ:St} {H:Hp} {s:Shared} {A:Around} {E:Value→Shared→Prop} {Q:Value→Shared→Prop} {c:Value} {b:Bool}
inductive TyOf (K:PySem.W.Frag) (H:Hp):V→Value→Prop where
  | non:TyOf K H .non (.type "NoneType")
  | bl (x:Bool):TyOf K H (.bl x) (.type "bool")
  | int (i:Int):TyOf K H (.int i) (.type "int")
  | str (x:Str):TyOf K H (.str x) (.type "str")
  | flt (x:UInt64):TyOf K H (.flt x) (.type "float")
  | lst {a:Addr} {xs:List V} (e:H a=some (.lst xs)):TyOf K H (.ref a) (.type "list")
  | frz {a:Addr} {o:Obj} {xs:List V} (e:H a=some (.frz o (.lst xs))):TyOf K H (.ref a) (.type "list")
  | tup {a:Addr} {xs:List V} (e:H a=some (.tup xs)):TyOf K H (.ref a) (.type "tuple")
  | dK {a:Addr} {kvs:List (aP×V)} (e:H a=some (.dK kvs)):TyOf K H (.ref a) (.type "dict")
  | dT {a:Addr} {kvs:List (List aP×V)} (e:H a=some (.dT kvs)):TyOf K H (.ref a) (.type "dict")
  | ins {a C dx:Addr} {fs:List (Str×V)} (e:H a=some (.ins C dx fs)) (cl:Cls K C) (ha:PySem.W.findIn K (.ref C) "__class__"=some (some (.builtin "object.__class__")))
      (hn:PySem.W.specialIn K (.builtin "object.__class__") "__get__"=some (some (.builtin "getset_descriptor.__get__"))) (htk:PySem.W.takesIn K (.builtin "object.__class__")=some true)
      (hm:PySem.W.mroIn K C (.type "object")=some true):TyOf K H (.ref a) (.ref C)
theorem gD {x:V} {u t:Value} (I:Inv X pins σ H s) (rx:RelV x u) (ty:TyOf X.K H x t) (e:PySem.W.kitOne X.K t c=some b) (h:∀tk,Q (.bool b) {s with toks:=tk}):
    wpAny (model X.prog X.w) A (call (.builtin "isinstance") [u,c]) Q E s:=by
  cases ty with
  | non=>cases (show u=Value.none from rx);exact PySem.W.kia_one PySem.W.kitx_none I.kIn True.intro e (fun z=>nomatch z) h
  | bl y=>cases (show u=Value.bool y from rx);exact PySem.W.kia_one PySem.W.kitx_bool I.kIn True.intro e (fun z=>nomatch z) h
  | int i=>obtain ⟨t,q⟩:=(show ∃t,u=Value.int i t from rx);cases q;exact PySem.W.kia_one PySem.W.kitx_int I.kIn True.intro e (fun z=>nomatch z) h
  | str y=>obtain ⟨t,q⟩:=(show ∃t,u=Value.str y t from rx);cases q;exact PySem.W.kia_one PySem.W.kitx_str I.kIn True.intro e (fun z=>nomatch z) h
  | flt y=>obtain ⟨t,q⟩:=(show ∃t,u=Value.float y t from rx);cases q;exact PySem.W.kia_one PySem.W.kitx_float I.kIn True.intro e (fun z=>nomatch z) h
  | @lst a xs ea=>
    cases (show u=Value.ref a from rx)
    obtain ⟨_,_,n,_,h1⟩:=(show ObjOk X.prog X.w H s.heap a (.lst xs) from I.hok a _ ea)
    exact PySem.W.kia_one PySem.W.kitx_list I.kIn ⟨_,h1,rfl⟩ e (fun z=>nomatch z) h
  | @frz a ob xs ea=>
    cases (show u=Value.ref a from rx)
    obtain ⟨_,_,_,n,_,h1⟩:=(show ObjOk X.prog X.w H s.heap a (.frz ob (.lst xs)) from I.hok a _ ea)
    exact PySem.W.kia_one PySem.W.kitx_list I.kIn ⟨_,h1,rfl⟩ e (fun z=>nomatch z) h
  | @tup a xs ea=>
    cases (show u=Value.ref a from rx)
    obtain ⟨_,_,_,p⟩:=(show ObjOk X.prog X.w H s.heap a (.tup xs) from I.hok a _ ea)
    obtain ⟨o,h1,h2,_⟩:=p
    exact PySem.W.kia_one PySem.W.kitx_tuple I.kIn ⟨o,h1,h2⟩ e (fun z=>nomatch z) h
  | @dK a kvs ea=>
    cases (show u=Value.ref a from rx)
    obtain ⟨_,_,vs,_,p⟩:=(show ObjOk X.prog X.w H s.heap a (.dK kvs) from I.hok a _ ea)
    obtain ⟨o,es,ep,h1,h2,_⟩:=p
    exact PySem.W.kia_one PySem.W.kitx_dict I.kIn ⟨o,h1,h2.1⟩ e (fun z=>nomatch z) h
  | @dT a kvs ea=>
    cases (show u=Value.ref a from rx)
    obtain ⟨_,_,xs,_,o,es,ep,h1,h2,_⟩:=(show ObjOk X.prog X.w H s.heap a (.dT kvs) from I.hok a _ ea)
    exact PySem.W.kia_one PySem.W.kitx_dict I.kIn ⟨o,h1,h2.1⟩ e (fun z=>nomatch z) h
  | @ins a C dx fs ea cl ha hn htk hm=>
    cases (show u=Value.ref a from rx)
    obtain ⟨mA,O,_⟩:=vf I.hok ea
    obtain ⟨od,J,_⟩:=O.look
    exact PySem.W.kia_one (PySem.W.kitx_own (cl.get _) cl.hd ha hn htk hm) I.kIn J e (fun z=>nomatch z) h
end
end L2
namespace L2
open PySem PySem.Spec PyProof.Rows
structure Room (k:Nat) (A:Around):Prop where
  hd:A.handled=none
  dp:A.depth+3*k+5 < recursionLimit
  un:A.units+16*k+200 < cLine
theorem Room.mono {j k:Nat} {A:Around} (r:Room k A) (h:j≤k):Room j A:=⟨r.hd,by have:=r.dp;omega,by have:=r.un;omega⟩
theorem Room.deeper {k:Nat} {A:Around} (r:Room (k+1) A) (env:Env):Room k (A.deeper env):=
  ⟨r.hd,by have:=r.dp;show A.depth+1+3*k+5 < _;omega,by have:=r.un;show A.units+3+16*k+200 < _;omega⟩
theorem Room.in1 {k:Nat} {A:Around} (r:Room (k+1) A):Room k A.in1:=
  ⟨r.hd,by have:=r.dp;show A.depth+3*k+5 < _;omega,by have:=r.un;show A.units+1+16*k+200 < _;omega⟩
theorem Room.depth {k:Nat} {A:Around} (r:Room k A):A.depth < recursionLimit:=by have:=r.dp;omega
theorem Room.units {k:Nat} {A:Around} (r:Room k A):A.units+64 < cLine:=by have:=r.un;omega
def jK:TA:=fun _ H Q=>Q [] H
def d_ (ta:TE) (tr:TA):TA:=fun σ H Q=>ta σ H fun x H1=>tr σ H1 fun xs H2=>Q (x::xs) H2
section
variable {X:Cx} {e:Expr} {es:List Expr} {te:TE} {t:TA} {pos:Pos}
theorem bE:PA X [] jK:=fun _ _ _ _ H Q I h=>Calls.spliced_nil ⟨[],H,I, .nil,h⟩
theorem aF (ha:PE X e te) (hr:PA X es t) (hs:starEach (e::es) X.env=(false,eval e X.env)::starEach es X.env:=by rfl):PA X (e::es) (d_ te t):=by
  intro pos pins s σ H Q I h
  rw [hs]
  show wpAny _ _ (spliced ((false,eval e X.env)::backTo pos (starEach es X.env))) _ _ s
  refine Calls.spliced_cons (bN (ha pins s σ H _ I h) fun u s1 ⟨x,H1,I1,r1,q1⟩=>?_)
  exact bN (hr pos pins s1 σ H1 _ I1 q1) fun us s2 ⟨xs,H2,I2,r2,q2⟩=>⟨x::xs,H2,I2, .cons r1 r2,q2⟩
def Ab (t:TA):TE:=fun σ H Q=>t σ H fun xs H1=>xs.length≤sizeLine∧∀p,H1 p=none→Q (.ref p) (upd H1 p (.tup xs))
def yQ (t:TA):TE:=fun σ H Q=>t σ H fun xs H1=>xs.length≤sizeLine∧∀p,H1 p=none→Q (.ref p) (upd H1 p (.lst xs))
theorem xn {x1} (h:PA X es t):PE X (.Tuple es x1 pos) (Ab t):=by
  intro pins s σ H Q I hq
  refine wpAny_Tuple_spliced (bN (h pos pins s σ H _ I hq) fun us s1 ⟨xs,H1,I1,r,z,q⟩=>⟨by rw [←r.length];exact z,?_⟩)
  have hf:H1 s1.heap.objs.size=none:=I1.hok.fresh (Nat.le_refl _)
  refine ⟨.ref s1.heap.objs.size,upd H1 s1.heap.objs.size (.tup xs),I1.laid (t':=s1.toks) (fun b u e=>Heap.get?_push_of_some _ e) (Nat.le_refl _) ?_,rfl,q _ hf⟩
  exact ⟨z,us,r,⟨_,Heap.get?_push_size _ rfl,rfl,_,rfl⟩⟩
theorem sw (h:PA X es t):PE X (.List es pos) (yQ t):=by
  intro pins s σ H Q I hq
  refine wpAny_List_spliced (bN (h pos pins s σ H _ I hq) fun us s1 ⟨xs,H1,I1,r,z,q⟩=>⟨by rw [←r.length];exact z,?_⟩)
  have hf:H1 s1.heap.objs.size=none:=I1.hok.fresh (Nat.le_refl _)
  refine ⟨.ref s1.heap.objs.size,upd H1 s1.heap.objs.size (.lst xs),I1.laid (t':=s1.toks) (fun b u e=>Heap.get?_push_of_some _ e) (Nat.le_refl _) ?_,rfl,q _ hf⟩
  exact ⟨z,us,0,r,Heap.get?_push_size _ rfl⟩
end
abbrev Sp:=List V→Hp→VK→XK→Prop
abbrev rY:=List Env→Hp→Shared→XK→Value→Shared→Prop
structure Env0 (P:Program) (w:World) (K:PySem.W.Frag) (mg:Str→Option Value) (base:Heap) (A:Around) (outer:List Env) (s:Shared) (H:Hp):Prop where
  frames:A.frames=some outer
  mod:Mod K mg base
  bs:∀b o,base.get? b=some o→s.heap.get? b=some o∧H b=none
  bsz:base.objs.size≤s.heap.objs.size
  funs:s.heap.FunFrames base outer
  frf:∀b∈rX outer,H b=none
  hok:HOk P w H s.heap
  bare:AllBare s.gens
  tab:∀b q,jF K b=some q→H b=some (.tbl q)
def CE (outer:List Env) (P:Program) (w:World) (H:Hp) (s:Shared) (Q:VK) (u:Value) (s':Shared):Prop:=
  ∃v H',s'.os=s.os∧AllBare s'.gens∧Un (rX outer) [] H H' s.heap s'.heap∧HOk P w H' s'.heap∧RelV v u∧Q v H'
def CR (CX:rY) (outer:List Env) (P:Program) (w:World) (H:Hp) (s:Shared) (Q:VK) (E:XK) (r:Result) (s':Shared):Prop:=
  match r with
  | .ok (.ret u)=>CE outer P w H s Q u s'
  | .ok _=>False
  | .error e=>CX outer H s E e s'
structure FnOk (P:Program) (w:World) (K:PySem.W.Frag) (mg:Str→Option Value) (base:Heap) (CX:rY) (k:Nat) (f:Addr) (fd:FuncData) (ps:List Str) (sp:Sp):Prop where
  len:∀vs H Q E,sp vs H Q E→vs.length=ps.length
  run:∀(A:Around) (outer:List Env) (s:Shared) (H:Hp) (args:Args) (us:List Value) (vs:List V) (Q:VK) (E:XK),Room k A→Env0 P w K mg base A outer s H→BindsTo s fd args (ps.zip us)→Vals vs us→sp vs H Q E→
    codeAny (model P w) A (.call (.ref f) args) (CR CX outer P w H s Q E) s
theorem FnOk.mono {P:Program} {w:World} {K:PySem.W.Frag} {mg:Str→Option Value} {base:Heap} {CX:rY} {j k:Nat} {f:Addr} {fd:FuncData} {ps:List Str} {sp:Sp} (F:FnOk P w K mg base CX j f fd ps sp) (h:j≤k):
    FnOk P w K mg base CX k f fd ps sp:=⟨F.len,fun A outer s H args us vs Q E hr=>F.run A outer s H args us vs Q E (hr.mono h)⟩
theorem FnOk.imp {P:Program} {w:World} {K:PySem.W.Frag} {mg:Str→Option Value} {base:Heap} {CX:rY} {k:Nat} {f:Addr} {fd:FuncData} {ps:List Str} {sp sp':Sp} (F:FnOk P w K mg base CX k f fd ps sp)
    (h:∀vs H Q E,sp' vs H Q E→sp vs H Q E):FnOk P w K mg base CX k f fd ps sp':=
  ⟨fun vs H Q E q=>F.len vs H Q E (h _ _ _ _ q),fun A outer s H args us vs Q E hr he hb hv hs=>F.run A outer s H args us vs Q E hr he hb hv (h _ _ _ _ hs)⟩
theorem Env0.in1 {P:Program} {w:World} {K:PySem.W.Frag} {mg:Str→Option Value} {base:Heap} {A:Around} {outer:List Env} {s:Shared} {H:Hp} (e:Env0 P w K mg base A outer s H):
    Env0 P w K mg base A.in1 outer s H:=⟨e.frames,e.mod,e.bs,e.bsz,e.funs,e.frf,e.hok,e.bare,e.tab⟩
section
variable {X:Cx} {pins:List (Addr×Obj)} {σ:St} {H:Hp} {s s':Shared}
theorem Inv.env0 (I:Inv X pins σ H s):Env0 X.prog X.w X.K X.mg X.base X.A X.stack s H:=
  ⟨I.ok.frames,I.ok.mod,I.bs,Nat.le_trans I.ok.bsz I.sz,I.stack,I.stkFree,I.hok,I.bare,I.tab⟩
theorem Inv.after {Q:VK} {u:Value} (I:Inv X pins σ H s) (h:CE X.stack X.prog X.w H s Q u s'):EP X pins σ Q u s':=by
  obtain ⟨v,H',os,bare,un,hok,r,q⟩:=h
  obtain ⟨hh,g,d,t,os'⟩:=s'
  obtain rfl:os'=s.os:=os
  exact ⟨v,H',I.call (h':=hh) (g':=g) (d':=d) (t':=t) (ch:=[]) un hok bare (fun b z=>absurd z (by simp)),r,q⟩
end
def pB (sp:Sp) (dvs:List V) (E:XK) (t:TA):TE:=fun σ H Q=>t σ H fun vs H1=>sp (vs++dvs) H1 Q E
def Binds (K:PySem.W.Frag) (fd:FuncData) (ps:List Str) (ds:List Value):Prop:=
  ∀(s:Shared) (us:List Value),K.In s.heap→(us++ds).length=ps.length→BindsTo s fd ⟨us,[]⟩ (ps.zip (us++ds))
theorem Binds.all {K:PySem.W.Frag} {fd:FuncData} {ps:List Str} (h:∀us:List Value,us.length=ps.length→bindArgs fd ⟨us,[]⟩=pure (ps.zip us)):Binds K fd ps []:=fun s us _ hl=>by
  rw [List.append_nil] at hl ⊢
  exact .of_eq (h us hl)
def oq (CX:rY) (X:Cx) (E:XK):Prop:=∀(pins:List (Addr×Obj)) (σ:St) (H:Hp) (s:Shared) (e:Value) (s':Shared),Inv X pins σ H s→CX X.stack H s E e s'→X.xe e s'
section
variable {X:Cx} {CX:rY} {k:Nat} {f C:Addr} {fd:FuncData} {ps:List Str} {sp:Sp} {dvs:List V} {ds:List Value} {E:XK} {x m:Str} {p pos apos:Pos} {e o:Expr} {es:List Expr} {ta:TE} {t:TA}
theorem xo {pins:List (Addr×Obj)} {σ:St} {H:Hp} {s:Shared} {Q:VK} {us:List Value} {vs:List V} (F:FnOk X.prog X.w X.K X.mg X.base CX k f fd ps sp) (hr:Room k X.A) (hb:Binds X.K fd ps ds) (hd:Vals dvs ds) (hx:oq CX X E)
    (I:Inv X pins σ H s) (r:Vals vs us) (h:sp (vs++dvs) H Q E):wpAny (model X.prog X.w) X.A (call (.ref f) us) (EP X pins σ Q) X.xe s:=by
  have r2:Vals (vs++dvs) (us++ds):=r.append hd
  have hl:(us++ds).length=ps.length:=by rw [←r2.length];exact F.len _ _ _ _ h
  refine wpAny_call (codeAny_mono (F.run X.A X.stack s H ⟨us,[]⟩ (us++ds) (vs++dvs) Q E hr I.env0 (hb s us I.kIn hl) r2 h) fun r s' hq=>?_)
  cases r with
  | error e=>exact hx pins σ H s e s' I hq
  | ok fl=>
    cases fl with
    | ret u=>exact I.after hq
    | next=>exact False.elim hq
    | brk=>exact False.elim hq
    | cont=>exact False.elim hq
theorem vg (F:FnOk X.prog X.w X.K X.mg X.base CX k f fd ps sp) (hr:Room k X.A) (hg:Gl X x) (hm:X.mg x=some (.ref f)) (hk:PySem.W.keepIn X.K (.ref f)=true) (hb:Binds X.K fd ps ds) (hd:Vals dvs ds) (hx:oq CX X E)
    (ha:PA X (e::es) t) (hdb:(x == ("__debug__":Str))=false:=by decide) (he:starEach (e::es) X.env=(false,eval e X.env)::starEach es X.env:=by rfl) (hpl:(backTo pos (starEach es X.env)).any (·.1)=false:=by rfl):
    PE X (.Call (.Name x p) (e::es) [] pos) (pB sp dvs E t):=by
  intro pins s σ H Q I h
  refine wpAny_Call_Name_kw (u8 I hg hm ?_ hdb)
  refine PySem.W.callWith_K (h₀:=X.base) I.ok.mod.kin hk (bN (ha pos pins s σ H _ I h) fun us s1 ⟨vs,H1,I1,r,q⟩=>⟨I1.kIn,?_⟩) he hpl
  exact xo F hr hb hd hx I1 r q
end
structure FnScope (N P:List Str) (sc:Scope):Prop where
  kind:sc.kind= .function
  co:sc.isCoroutine=false
  gen:sc.isGenerator=false
  nd:N.Nodup
  pre:N.take P.length=P
  par:∀x∈P,sc.names.lookup x=some .local∨sc.names.lookup x=some .cell
  nofree:∀y∈sc.names,y.2≠ .free
theorem kN {kindOf:Str→Option NameKind} {x:Str}:∀{binds:List (Str×Value)} {m:Str→Option Value},(∀v,(x,v)∉binds)→bindL kindOf binds m x=m x
  | [],_,_=>rfl
  | (n,v)::r,m,h=>by
    unfold bindL
    rw [kN fun w hw=>h w (List.mem_cons_of_mem _ hw)]
    split
    · have:x≠n:=by rintro rfl;exact h v List.mem_cons_self
      simp [this]
    · rfl
theorem kO {kindOf:Str→Option NameKind} {x:Str}:∀{binds:List (Str×Value)} {m:Str→Option Value},(∀v,(x,v)∉binds)→bindC kindOf binds m x=m x
  | [],_,_=>rfl
  | (n,v)::r,m,h=>by
    unfold bindC
    rw [kO fun w hw=>h w (List.mem_cons_of_mem _ hw)]
    split
    · rfl
    · have:x≠n:=by rintro rfl;exact h v List.mem_cons_self
      simp [this]
theorem kP {kindOf:Str→Option NameKind} {x:Str} {v:Value}:∀{P:List Str} {vs:List Value} {i:Nat} {m:Str→Option Value},P.Nodup→P[i]? =some x→vs[i]? =some v→kindOf x=some .local→
    bindL kindOf (P.zip vs) m x=some v
  | [],_,_,_,_,h,_,_=>by simp at h
  | _::_,[],_,_,_,_,h,_=>by simp at h
  | p::P,w::vs,0,m,nd,h1,h2,hk=>by
    simp at h1 h2;subst h1;subst h2
    show bindL kindOf ((p,w)::P.zip vs) m p=_
    unfold bindL
    rw [kN fun v hv=>(List.nodup_cons.mp nd).1 (List.of_mem_zip hv).1,if_pos hk]
    simp
  | p::P,w::vs,i+1,m,nd,h1,h2,hk=>by
    show bindL kindOf ((p,w)::P.zip vs) m x=_
    unfold bindL
    exact kP (i:=i) (List.nodup_cons.mp nd).2 (by simpa using h1) (by simpa using h2) hk
theorem kQ {kindOf:Str→Option NameKind} {x:Str} {v:Value}:∀{P:List Str} {vs:List Value} {i:Nat} {m:Str→Option Value},P.Nodup→P[i]? =some x→vs[i]? =some v→kindOf x≠some .local→
    bindC kindOf (P.zip vs) m x=some v
  | [],_,_,_,_,h,_,_=>by simp at h
  | _::_,[],_,_,_,_,h,_=>by simp at h
  | p::P,w::vs,0,m,nd,h1,h2,hk=>by
    simp at h1 h2;subst h1;subst h2
    show bindC kindOf ((p,w)::P.zip vs) m p=_
    unfold bindC
    rw [kO fun v hv=>(List.nodup_cons.mp nd).1 (List.of_mem_zip hv).1,if_neg hk]
    simp
  | p::P,w::vs,i+1,m,nd,h1,h2,hk=>by
    show bindC kindOf ((p,w)::P.zip vs) m x=_
    unfold bindC
    exact kQ (i:=i) (List.nodup_cons.mp nd).2 (by simpa using h1) (by simpa using h2) hk
def cQ (N:List Str) (vs:List V):St:=vs.map some++List.replicate (N.length - vs.length) none
def lC (CX:rY) (P:Program) (w:World) (K:PySem.W.Frag) (mg:Str→Option Value) (base:Heap) (N:List Str) (qual:Str) (scope:Scope) (f:Addr) (cd:Value) (A:Around) (outer:List Env) (s:Shared) (H:Hp) (E:XK):Cx where
  prog:=P
  w:=w
  K:=K
  mg:=mg
  base:=base
  A:=A.deeper (envOfC qual scope s.heap.objs.size f cd)
  N:=N
  s₀:=s
  H₀:=H
  env:=envOfC qual scope s.heap.objs.size f cd
  outer:=outer
  stack:=envOfC qual scope s.heap.objs.size f cd::outer
  ex:=[]
  calm:=true
  fn:=fun _=>true
  pn:=[]
  xe:=fun e s'=>wpAny (model P w) (A.deeper (envOfC qual scope s.heap.objs.size f cd)) (leaving (envOfC qual scope s.heap.objs.size f cd) e) (fun _ s''=>CX outer H s E e s'') (fun e' s''=>CX outer H s E e' s'') s'
theorem mQ {sc:Scope} {n:Nat} {x:Str} (h:sc.names.lookup x=some .cell):∃c,(cellsFrom n sc.names []).lookup x=some c:=by
  have q:=PySem.W.cellsFrom_some sc.names n [] (.inl h)
  exact Option.isSome_iff_exists.mp q
theorem qL {CX:rY} {P:Program} {w:World} {K:PySem.W.Frag} {mg:Str→Option Value} {base:Heap} {N ps:List Str} {qual:Str} {scope:Scope} {f:Addr} {cd:Value} {A:Around} {outer:List Env} {s s1:Shared} {H:Hp} {E:XK} {us:List Value} {vs:List V}
    (S:FnScope N ps scope) (hd:A.handled=none) (e0:Env0 P w K mg base A outer s H) (hl:vs.length=ps.length) (r:Vals vs us)
    (x:InCallC s s.heap.objs.size (bindL (envOfC qual scope s.heap.objs.size f cd).kindOf (ps.zip us) fun _=>none) (cellsFrom (s.heap.objs.size+1) scope.names []) (bindC (envOfC qual scope s.heap.objs.size f cd).kindOf (ps.zip us) fun _=>none) s1):
    Inv (lC CX P w K mg base N qual scope f cd A outer s H E) [] (cQ N vs) H s1:=by
  have hpl:ps.length≤N.length:=by have:=congrArg List.length S.pre;rw [List.length_take] at this;omega
  obtain ⟨h1,tk,rfl,hk⟩:=x.done
  have noA:∀b:Addr,b∉(lC CX P w K mg base N qual scope f cd A outer s H E).ex:=fun b z=>absurd (show b∈([]:List Addr) from z) (by simp)
  refine ⟨⟨e0.mod,S.kind,rfl,rfl,Nat.le_refl _,fun y z c h1 h2=>?_,fun y hy=>?_,fun y c _ h=>?_,fun _=>hd,Around.frames_deeper e0.frames, .inr ⟨rfl,rfl⟩,fun b z=>absurd z (noA b),e0.bs,e0.bsz,fun b _ _=>noA b,fun b z=>absurd z (noA b),e0.funs,e0.frf,e0.tab⟩,
    rfl,e0.bare,Un.kept hk,⟨_,x.toInCall.ns,fun i y v h1 h2 h3=>?_⟩,fun y c h=>⟨_,x.cell y c h⟩,e0.hok.fresh (Nat.le_refl _),fun y c h=>?_,fun p hp=>absurd (show p∈([]:List (Addr×Obj)) from hp) (by simp),e0.hok.kept hk,?_⟩
  · exact name_of_addr x.apart (PySem.mem_of_lookup h1) (PySem.mem_of_lookup h2)
  · have hy:scope.names.lookup y=some .cell∨scope.names.lookup y=some .free:=hy
    rcases hy with hy | hy
    · exact mQ hy
    · exact absurd rfl (S.nofree _ (PySem.mem_of_lookup hy))
  · exact Nat.le_of_lt (x.above y c (PySem.mem_of_lookup h))
  · have hi:i < vs.length:=by
      unfold cQ at h2
      by_cases hi:i < vs.length
      · exact hi
      · rw [List.getElem?_append_right (by simpa using hi)] at h2
        rw [List.getElem?_replicate] at h2
        split at h2 <;> cases h2
    have ha:vs[i]? =some v:=by
      unfold cQ at h2
      rw [List.getElem?_append_left (by simpa using hi),List.getElem?_map] at h2
      cases e:vs[i]? with
      | none=>rw [e] at h2;cases h2
      | some a=>rw [e] at h2;cases h2;rfl
    obtain ⟨u,hu,rv⟩:=r.get ha
    have hp:ps[i]? =some y:=by
      rw [←S.pre,List.getElem?_take_of_lt (by omega)];exact h1
    have ndP:ps.Nodup:=by rw [←S.pre];exact S.nd.sublist (List.take_sublist _ _)
    refine ⟨u,rv,?_⟩
    rcases S.par y (List.mem_of_getElem? hp) with k | k
    · exact .inl ⟨k,kP ndP hp hu k⟩
    · obtain ⟨c,e⟩:=mQ (n:=s.heap.objs.size+1) k
      refine .inr ⟨.inl k,c,e,?_⟩
      have q:=x.cell y c e
      rw [kQ ndP hp hu (by show scope.names.lookup y≠_;rw [k];decide)] at q
      exact q
  · exact e0.hok.fresh (Nat.le_of_lt (x.above y c (PySem.mem_of_lookup h)))
  · unfold cQ
    show _=N.length
    rw [List.length_append,List.length_map,List.length_replicate]
    omega
theorem yR {CX:rY} {P:Program} {w:World} {K:PySem.W.Frag} {mg:Str→Option Value} {base:Heap} {k:Nat} {f:Addr} {name qual:Str} {params:Arguments} {body:List Stmt} {scope:Scope} {dV kV doc pm cdv ct oc:Value} {an od:Option Addr}
    {osl:Array (Option Value)} {N ps:List Str} {sp:Sp} (lk:K.lookup f=some ⟨oc,od, .func (PySem.W.fnOf name qual params body scope dV kV doc pm an cdv ct),osl⟩) (hcd:PySem.W.codeIn K cdv qual=true) (S:FnScope N ps scope)
    (len:∀vs H Q E,sp vs H Q E→vs.length=ps.length)
    (hbody:∀(A:Around) (outer:List Env) (s:Shared) (H:Hp) (vs:List V) (Q:VK) (E:XK),Room k (A.deeper (envOfC qual scope s.heap.objs.size f cdv))→sp vs H Q E→
      ∃t,PSs (lC CX P w K mg base N qual scope f cdv A outer s H E) body t∧t {nx:=fun _ H'=>Q .non H',rt:=Q} (cQ N vs) H):
    FnOk P w K mg base CX (k+1) f (PySem.W.fnOf name qual params body scope dV kV doc pm an cdv ct) ps sp:=by
  refine ⟨len,fun A outer s H args us vs Q E hr e0 hb r hsp=>?_⟩
  have hl:=len _ _ _ _ hsp
  have KX:K.In s.heap:=e0.mod.kin.keeps fun b o e=>(e0.bs b o e).1
  have lim:s.heap.NoLimit:=e0.mod.nolimit.keeps fun b o e=>(e0.bs b o e).1
  have hkind:∀y∈ps.zip us,scope.names.lookup y.1=some .local∨(scope.names.lookup y.1=some .cell∧((cellsFrom (s.heap.objs.size+1) scope.names []).lookup y.1).isSome=true):=fun ⟨n,v⟩ hy=>by
    rcases S.par n (List.of_mem_zip hy).1 with q | q
    · exact .inl q
    · exact .inr ⟨q,PySem.W.cellsFrom_some _ _ _ (.inl q)⟩
  refine codeAny_call_function hr.depth (KX _ _ lk) rfl S.co S.gen rfl (PySem.W.codeRec_of KX hcd) (hb _ _ _ _ ?_)
  refine wpAny_newFunctionEnv_cells S.kind hkind fun env he s1 x=>?_
  subst he
  refine ⟨lim.keeps x.toInCall.keep,codeAny_func ?_⟩
  obtain ⟨t,ht,hq⟩:=hbody A outer s H vs Q E (hr.deeper _) hsp
  have I:Inv (lC CX P w K mg base N qual scope f cdv A outer s H E) [] (cQ N vs) H s1:=qL S hr.hd e0 hl r x
  refine wpAny_mono (ht [] s1 (cQ N vs) H _ I hq) (fun fl s' hs=>?_) fun e s' hs=>hs
  have fin:∀{σ':St} {H':Hp} {v:V} {u:Value},Inv (lC CX P w K mg base N qual scope f cdv A outer s H E) [] σ' H' s'→RelV v u→Q v H'→CE outer P w H s Q u s':=
    fun {σ' H' v u} J rv q=>⟨v,H',J.os,J.bare,J.base,J.hok,rv,q⟩
  cases fl with
  | ret u=>
    obtain ⟨v,σ',H',J,rv,q⟩:=hs
    exact fin J rv q
  | next=>
    obtain ⟨σ',H',J,q⟩:=hs
    exact fin (v:=V.non) (u:=Value.none) J rfl q
  | brk=>
    obtain ⟨_,_,_,q⟩:=hs
    exact False.elim q
  | cont=>
    obtain ⟨_,_,_,q⟩:=hs
    exact False.elim q
end L2
namespace L2
open PySem PySem.Spec PyProof.Rows
section
variable {X:Cx} {x:Str} {p pos:Pos} {e:Expr} {es:List Expr} {t:TA} {id T:String} {r:List V→Hp→VK→Prop}
def yr (r:List V→Hp→VK→Prop) (t:TA):TE:=fun σ H Q=>t σ H fun vs H1=>r vs H1 Q
theorem fB (hc:CallR X (.builtin id) r) (hg:Gl X x) (hm:X.mg x=none) (hv:bootBuiltins x=some (.builtin id)) (ha:PA X (e::es) t) (hn:x≠"__name__":=by decide) (hdb:(x == ("__debug__":Str))=false:=by decide)
    (he:starEach (e::es) X.env=(false,eval e X.env)::starEach es X.env:=by rfl) (hpl:(backTo pos (starEach es X.env)).any (·.1)=false:=by rfl):PE X (.Call (.Name x p) (e::es) [] pos) (yr r t):=by
  intro pins s σ H Q I h
  refine wpAny_Call_Name_kw (g5 I hg hm hv ?_ hn hdb)
  exact PyProof.Rows.callWith_builtin1 (bN (ha pos pins s σ H _ I h) fun us s1 ⟨vs,H1,I1,r1,q1⟩=>hc pins s1 σ H1 vs us Q I1 r1 q1) he hpl
theorem kR (hc:CallR X (.type T) r) (hg:Gl X x) (hm:X.mg x=none) (hv:bootBuiltins x=some (.type T)) (ha:PA X (e::es) t) (hn:x≠"__name__":=by decide) (hdb:(x == ("__debug__":Str))=false:=by decide)
    (he:starEach (e::es) X.env=(false,eval e X.env)::starEach es X.env:=by rfl) (hpl:(backTo pos (starEach es X.env)).any (·.1)=false:=by rfl):PE X (.Call (.Name x p) (e::es) [] pos) (yr r t):=by
  intro pins s σ H Q I h
  refine wpAny_Call_Name_kw (g5 I hg hm hv ?_ hn hdb)
  exact PyProof.Rows.callWith_type1 (bN (ha pos pins s σ H _ I h) fun us s1 ⟨vs,H1,I1,r1,q1⟩=>hc pins s1 σ H1 vs us Q I1 r1 q1) he hpl
end
end L2
namespace HT
open PySem PyProof.Rows
section
open PySem.SeqAt
open PySem.AutoSeq1 (wpAny_loadPart')
open PySem.MeetsSeq PySem.MeetsSeq2 PySem.MeetsSeq3
end
section
variable {prog:Program} {w:World} {A:Around} {E:Value→Shared→Prop} {s:Shared}
def jL (n d:Nat):Option Int→Nat
  | none=>d
  | some v=>if v < 0 then (v+(n:Int)).toNat else min v.toNat n
theorem vh (n d k:Nat):jL n d (some (k:Int))=min k n:=by
  show (if (k:Int) < 0 then ((k:Int)+(n:Int)).toNat else min (k:Int).toNat n)=min k n
  rw [if_neg (by omega),Int.toNat_natCast]
end
end HT
namespace L2
open PySem PySem.Spec PyProof.Rows
abbrev TO:=St→Hp→(Option Int→Hp→Prop)→Prop
def PO (X:Cx) (e:Option Expr) (t:TO):Prop:=
  ∀(pins:List (Addr×Obj)) (s:Shared) (σ:St) (H:Hp) (Q:Option Int→Hp→Prop),Inv X pins σ H s→t σ H Q→
    wpAny (model X.prog X.w) X.A (evalPart e X.env) (fun u s'=>∃o H',Inv X pins σ H' s'∧IsPart u o∧Q o H') X.xe s
def lD:TO:=fun _ H Q=>Q none H
def sx (t:TE):TO:=fun σ H Q=>t σ H fun x H1=>∃i,x= .int i∧Q (some i) H1
section
variable {X:Cx} {e:Expr} {te:TE} {lo hi:Option Expr} {tl th:TO} {pos p2:Pos}
theorem pD:PO X none lD:=by
  intro pins s σ H Q I h
  rw [evalPart_none]
  exact wpAny_pure ⟨none,H,I, .none,h⟩
theorem pE (h:PE X e te):PO X (some e) (sx te):=by
  intro pins s σ H Q I hw
  rw [evalPart_some]
  refine bN (h pins s σ H _ I hw) fun u s1 ⟨x,H1,I1,r1,q1⟩=>?_
  obtain ⟨i,rfl,q⟩:=q1
  obtain ⟨t,rfl⟩:=r1
  exact ⟨some i,H1,I1, .int i t,q⟩
def SlR (X:Cx) (r:V→Option Int→Option Int→Hp→VK→Prop):Prop:=
  ∀(pins:List (Addr×Obj)) (s:Shared) (σ:St) (H:Hp) (x:V) (v vl vu:Value) (lo hi:Option Int) (sl:Addr) (Q:VK),Inv X pins σ H s→RelV x v→s.heap.IsSliceOf sl vl vu .none→IsPart vl lo→IsPart vu hi→r x lo hi H Q→
    ∃T id,typeLookup (.type T) "__getitem__"=pure (some (.builtin id))∧s.TypeIs v T∧wpAny (model X.prog X.w) X.A (getItem v (.ref sl)) (EP X pins σ Q) X.xe s
theorem SlR.or {r r':V→Option Int→Option Int→Hp→VK→Prop} (h:SlR X r) (h':SlR X r'):SlR X (fun x lo hi H Q=>r x lo hi H Q∨r' x lo hi H Q):=by
  intro pins s σ H x v vl vu lo hi sl Q I rx hs pl pu q
  rcases q with q | q
  · exact h pins s σ H x v vl vu lo hi sl Q I rx hs pl pu q
  · exact h' pins s σ H x v vl vu lo hi sl Q I rx hs pl pu q
def Ac (r:V→Option Int→Option Int→Hp→VK→Prop) (te:TE) (tl th:TO):TE:=fun σ H Q=>te σ H fun x H1=>tl σ H1 fun l H2=>th σ H2 fun u H3=>r x l u H3 Q
theorem mR {r:V→Option Int→Option Int→Hp→VK→Prop} (hr:SlR X r) (he:PE X e te) (hl:PO X lo tl) (hu:PO X hi th):PE X (.Subscript e (.Slice lo hi none p2) pos) (Ac r te tl th):=by
  intro pins s σ H Q I h
  refine Subscript_ (bN (he pins s σ H _ I h) fun v s1 ⟨x,H1,I1,r1,q1⟩=>?_)
  refine wpAny_Slice (bN (hl pins s1 σ H1 _ I1 q1) fun vl s2 ⟨l,H2,I2,pl,q2⟩=>bN (hu pins s2 σ H2 _ I2 q2) fun vu s3 ⟨u,H3,I3,pu,q3⟩=>?_)
  rw [evalPart_none]
  refine wpAny_pure ?_
  have I4:Inv X pins σ H3 {s3 with heap:=s3.heap.push {cls:= .type "slice",data:= .fields #[vl,vu, .none]}}:=I3.kept (t':=s3.toks) fun b ob q=>Heap.get?_push_of_some _ q
  obtain ⟨T,id,hT,ht,hg⟩:=hr pins {s3 with heap:=s3.heap.push {cls:= .type "slice",data:= .fields #[vl,vu, .none]}} σ H3 x v vl vu l u s3.heap.objs.size Q I4 r1 (Heap.IsSliceOf.new ..) pl pu q3
  show wpAny (model X.prog X.w) X.A (subscriptTail e (.Slice lo hi none p2) v (.ref s3.heap.objs.size)) (EP X pins σ Q) X.xe {s3 with heap:=s3.heap.push {cls:= .type "slice",data:= .fields #[vl,vu, .none]}}
  exact tail_any (ops:=[.ref s3.heap.objs.size,v]) ht hT hg (by with_unfolding_all rfl)
def qM (xs:List V) (lo hi:Option Int):List V:=(xs.drop (HT.jL xs.length 0 lo)).take (HT.jL xs.length xs.length hi - HT.jL xs.length 0 lo)
theorem mS (xs:List V) (lo hi:Option Int):(qM xs lo hi).length≤xs.length:=by
  unfold qM
  rw [List.length_take,List.length_drop]
  omega
end
end L2
namespace L2
open PySem PySem.Spec PyProof.Rows
def u0 (n:Nat) (i:Int):Option Nat:=if 0≤i then (if i < n then some i.toNat else none) else if -(n:Int)≤i then some (i+n).toNat else none
def atI {α:Type} (xs:List α) (i:Int):Option α:=(u0 xs.length i).bind fun j=>xs[j]?
theorem pF {n:Nat} {i:Int} {j:Nat} (h:u0 n i=some j):seqIndex? i n=some j∧j < n∧ -(n:Int)≤i∧i < n:=by
  unfold u0 at h
  by_cases h0:0≤i
  · rw [if_pos h0] at h
    by_cases h1:i < n
    · rw [if_pos h1] at h
      have e:i.toNat=j:=Option.some.inj h
      exact ⟨by rw [seqIndex_of h0 h1,e],by omega,by omega,h1⟩
    · rw [if_neg h1] at h;cases h
  · rw [if_neg h0] at h
    by_cases h1: -(n:Int)≤i
    · rw [if_pos h1] at h
      have e:(i+n).toNat=j:=Option.some.inj h
      exact ⟨by rw [seqIndex_neg (by omega) h1,e],by omega,h1,by omega⟩
    · rw [if_neg h1] at h;cases h
theorem lE {α:Type} {xs:List α} {i:Int} {v:α} (h:atI xs i=some v):∃j,seqIndex? i xs.length=some j∧xs[j]? =some v∧j < xs.length∧ -(xs.length:Int)≤i∧i < xs.length:=by
  unfold atI at h
  cases e:u0 xs.length i with
  | none=>rw [e] at h;cases h
  | some j=>
    rw [e] at h
    obtain ⟨h1,h2,h3,h4⟩:=pF e
    exact ⟨j,h1,h,h2,h3,h4⟩
def pG (b:Expr):Prop:=∀o i,subscripted b false o i=operate [o,i] (getItem o i)
def IxR (X:Cx) (r:R2):Prop:=
  ∀(value slice:Expr) (pins:List (Addr×Obj)) (s:Shared) (σ:St) (H:Hp) (x y:V) (v u:Value) (Q:VK),Inv X pins σ H s→RelV x v→RelV y u→r x y H Q→
    subscripted slice false v u=operate [v,u] (getItem v u)→wpAny (model X.prog X.w) X.A (subscriptTail value slice v u) (EP X pins σ Q) X.xe s
def MtR (X:Cx) (id:String) (r:V→List V→Hp→VK→Prop):Prop:=
  ∀(pins:List (Addr×Obj)) (s:Shared) (σ:St) (H:Hp) (x:V) (xs:List V) (v:Value) (us:List Value) (Q:VK),Inv X pins σ H s→RelV x v→Vals xs us→r x xs H Q→
    wpAny (model X.prog X.w) X.A (call (.builtin id) (v::us)) (EP X pins σ Q) X.xe s
section
variable {X:Cx} {a b:Expr} {ta tb:TE} {pos:Pos}
theorem IxR.or {r r':R2} (h:IxR X r) (h':IxR X r'):IxR X (fun x y H Q=>r x y H Q∨r' x y H Q):=by
  intro value slice pins s σ H x y v u Q I rx ry q hs
  rcases q with q | q
  · exact h value slice pins s σ H x y v u Q I rx ry q hs
  · exact h' value slice pins s σ H x y v u Q I rx ry q hs
theorem MtR.or {id:String} {r r':V→List V→Hp→VK→Prop} (h:MtR X id r) (h':MtR X id r'):MtR X id (fun x xs H Q=>r x xs H Q∨r' x xs H Q):=by
  intro pins s σ H x xs v us Q I rx rs q
  rcases q with q | q
  · exact h pins s σ H x xs v us Q I rx rs q
  · exact h' pins s σ H x xs v us Q I rx rs q
theorem jM {r:R2} (hr:IxR X r) (ha:PE X a ta) (hb:PE X b tb) (hs:pG b):PE X (.Subscript a b pos) (n4 r ta tb):=by
  intro pins s σ H Q I h
  exact Subscript_ (xc ha hb I h fun v u s2 x y H2 I2 rx ry q=>hr a b pins s2 σ H2 x y v u Q I2 rx ry q (hs _ _))
def mT (K:PySem.W.Frag):R2:=fun x y H Q=>∃p xs i v,x= .ref p∧y= .int i∧SqL K H p xs∧atI xs i=some v∧Q v H
def yS (K:PySem.W.Frag):R2:=fun x y H Q=>∃p xs i v,x= .ref p∧y= .int i∧SqT K H p xs∧atI xs i=some v∧Q v H
def yT:R2:=fun x y H Q=>∃z i c,x= .str z∧y= .int i∧z.length≤sizeLine∧atI z.cps.toList i=some c∧Q (.str ⟨#[c]⟩) H
theorem ix_list:IxR X (mT X.K):=by
  intro value slice pins s σ H x y v u Q I rx ry h hs
  obtain ⟨p,xs,i,z,rfl,rfl,hq,he,q⟩:=h
  cases rx
  obtain ⟨t,rfl⟩:=ry
  obtain ⟨its,r,pl,hz⟩:=I.list hq
  obtain ⟨j,h1,h2,h3,h4,h5⟩:=lE he
  obtain ⟨w,ew,rw'⟩:=r.get h2
  have hl:=r.length
  have hn:=g6
  have fin:EP X pins σ Q w s:=⟨z,H,I,rw',q⟩
  by_cases h0:0≤i
  · have hj:i.toNat=j:=by
      rw [seqIndex_of h0 h5] at h1
      exact Option.some.inj h1
    exact item_listR pl.isList h0 (by omega) (by rw [hj];simpa using ew) fin hs
  · have hj:(i+(its.toArray.size:Int)).toNat=j:=by
      rw [seqIndex_neg (by omega) h4] at h1
      rw [List.size_toArray,←hl]
      exact Option.some.inj h1
    exact subscriptTail_builtinR (x:=w) pl.isList.typeIs slot_list_getitem.lookup
      (wpAny_getItem_list_neg (Q:=fun r s'=>r=w∧EP X pins σ Q r s') pl.isList (by omega) (by rw [List.size_toArray] <;> omega) (by omega) (by rw [hj];simpa using ew) ⟨rfl,fin⟩) hs
theorem ix_tup:IxR X (yS X.K):=by
  intro value slice pins s σ H x y v u Q I rx ry h hs
  obtain ⟨p,xs,i,z,rfl,rfl,hq,he,q⟩:=h
  cases rx
  obtain ⟨t,rfl⟩:=ry
  obtain ⟨its,r,pl,hz⟩:=I.tuple hq
  obtain ⟨j,h1,h2,h3,h4,h5⟩:=lE he
  obtain ⟨w,ew,rw'⟩:=r.get h2
  have hl:=r.length
  have hn:=g6
  have fin:EP X pins σ Q w s:=⟨z,H,I,rw',q⟩
  exact subscriptTail_builtinR (x:=w) pl.typeIs slot_tuple_getitem.lookup
    (getItem_tuple (j:=j) (Q:=fun r s'=>r=w∧EP X pins σ Q r s') pl (by omega) (by omega) (by rw [List.size_toArray,←hl];exact h1) (by simpa using ew) ⟨rfl,fin⟩) hs
theorem xp:IxR X yT:=by
  intro value slice pins s σ H x y v u Q I rx ry h hs
  obtain ⟨z,i,c,rfl,rfl,hz,he,q⟩:=h
  obtain ⟨t,rfl⟩:=rx
  obtain ⟨t',rfl⟩:=ry
  obtain ⟨j,h1,h2,h3,h4,h5⟩:=lE he
  have hl:z.cps.toList.length=z.length:=by simp [Str.length]
  rw [hl] at h1 h4 h5
  have hn:=g6
  exact tail_any (typeIs_str s z t) slot_str_getitem.lookup (getItem_str (c:=c) (by
    have e1:decide (i < -(2 ^ 63:Int))=false:=decide_eq_false (by omega)
    have e2:decide (i≥2 ^ 63)=false:=decide_eq_false (by omega)
    rw [e1,e2,Bool.or_false]) (by rw [h1];simpa using h2) ⟨.str ⟨#[c]⟩,H,I.tok _,⟨_,rfl⟩,q⟩) hs
def Av (K:PySem.W.Frag):R2:=fun x y H Q=>mT K x y H Q∨yS K x y H Q∨yT x y H Q
theorem xq:IxR X (Av X.K):=ix_list.or (ix_tup.or xp)
theorem ot (its:List Value) (n j:Nat) (u:Value):Obj.mapSeq (·.setIfInBounds j u) {cls:= .type "list",data:= .seq its.toArray n}={cls:= .type "list",data:= .seq (its.set j u).toArray n}:=by
  simp [Obj.mapSeq]
theorem Inv.lst {pins:List (Addr×Obj)} {σ:St} {H:Hp} {s:Shared} {p:Addr} {xs:List V} (I:Inv X pins σ H s) (h:H p=some (.lst xs)):
    ∃(its:List Value) (n:Nat),Vals xs its∧s.heap.get? p=some {cls:= .type "list",data:= .seq its.toArray n}∧xs.length≤sizeLine:=by
  obtain ⟨z,its,n,r,e⟩:=I.hok p _ h
  exact ⟨its,n,r,e,z⟩
theorem Inv.lstUpd {pins:List (Addr×Obj)} {σ:St} {H:Hp} {s:Shared} {p:Addr} {xs ys:List V} {its its':List Value} {n n':Nat} {f:Obj→Obj} (I:Inv X pins σ H s) (h:H p=some (.lst xs))
    (ho:s.heap.get? p=some {cls:= .type "list",data:= .seq its.toArray n}) (hf:f {cls:= .type "list",data:= .seq its.toArray n}={cls:= .type "list",data:= .seq its'.toArray n'}) (r:Vals ys its') (hz:ys.length≤sizeLine) (t:Nat):
    Inv X pins σ (upd H p (.lst ys)) {s with heap:=s.heap.update p f,toks:=t}:=by
  have e:(s.heap.update p f).get? p=some {cls:= .type "list",data:= .seq its'.toArray n'}:=by
    rw [Heap.get?_update_self f ho (by rw [hf] <;> rfl),hf]
  refine I.write (x:=p) (e:=p) (by rw [h];trivial) (.inl rfl) (fun b u hb q=>(Heap.get?_update_other _ _ (Ne.symm hb)).trans q) ⟨_,e⟩ ?_
  exact ⟨hz,its',n',r,e⟩
def yU:V→V→V→Hp→(Hp→Prop)→Prop:=fun o i v H Q=>∃p xs k j,o= .ref p∧i= .int k∧H p=some (.lst xs)∧u0 xs.length k=some j∧Q (upd H p (.lst (xs.set j v)))
theorem sy:yE X yU:=by
  intro pins s σ H o i v ov iv u Q I ro ri rv h
  obtain ⟨p,xs,k,j,rfl,rfl,hp,hj,q⟩:=h
  cases ro
  obtain ⟨t,rfl⟩:=ri
  obtain ⟨its,n,r,ho,hz⟩:=I.lst hp
  obtain ⟨h1,h2,h3,h4⟩:=pF hj
  have hl:=r.length
  have hn:=g6
  have I':Inv X pins σ (upd H p (.lst (xs.set j v))) {s with heap:=s.heap.update p (Obj.mapSeq (·.setIfInBounds j u))}:=
    I.lstUpd hp ho (ot its n j u) (r.set rv j) (by rw [List.length_set];exact hz) s.toks
  by_cases h0:0≤k
  · have hk:k.toNat=j:=by
      rw [seqIndex_of h0 h4] at h1
      exact Option.some.inj h1
    exact PySem.W.ki_setAt ho h0 (by omega) (by rw [List.size_toArray,←hl];exact h4) (by rw [hk];exact ⟨_,I',q⟩)
  · have hk:(k+(its.toArray.size:Int)).toNat=j:=by
      rw [seqIndex_neg (by omega) h3] at h1
      rw [List.size_toArray,←hl]
      exact Option.some.inj h1
    exact PySem.W.ki_setBack ho (by omega) (by rw [List.size_toArray,←hl];exact h3) (by omega) (by rw [hk];exact ⟨_,I',q⟩)
theorem lG (lo hi:Option Int) (n:Nat):(sliceBounds lo hi none n).1=((HT.jL n 0 lo:Nat):Int)∧(sliceBounds lo hi none n).2.1=((HT.jL n n hi:Nat):Int)∧(sliceBounds lo hi none n).2.2=1:=by
  refine ⟨?_,?_,rfl⟩
  · cases lo with
    | none=>simp [sliceBounds,HT.jL]
    | some i=>
      simp only [sliceBounds,HT.jL,Option.getD_none,show (1:Int) > 0 by decide,if_true]
      by_cases h:i < 0
      · simp only [h,if_true] <;> omega
      · simp only [h,if_false] <;> omega
  · cases hi with
    | none=>simp [sliceBounds,HT.jL]
    | some i=>
      simp only [sliceBounds,HT.jL,Option.getD_none,show (1:Int) > 0 by decide,if_true]
      by_cases h:i < 0
      · simp only [h,if_true] <;> omega
      · simp only [h,if_false] <;> omega
theorem kD (its:List Value) (lo hi:Option Int):slicePick its.toArray lo hi none=((its.drop (HT.jL its.length 0 lo)).take (HT.jL its.length its.length hi - HT.jL its.length 0 lo)).toArray:=by
  obtain ⟨h1,h2,h3⟩:=lG lo hi its.toArray.size
  unfold slicePick
  rw [h1,h2,h3]
  simp only [sliceRange_one,pick_run,List.size_toArray] <;> rfl
def Ad (K:PySem.W.Frag):V→Option Int→Option Int→Hp→VK→Prop:=fun x lo hi H Q=>∃a xs,x= .ref a∧SqL K H a xs∧∀p,H p=none→Q (.ref p) (upd H p (.lst (qM xs lo hi)))
theorem vi:SlR X (Ad X.K):=by
  intro pins s σ H x v vl vu lo hi sl Q I rx hs pl pu h
  obtain ⟨a,xs,rfl,hx,q⟩:=h
  cases rx
  obtain ⟨its,r,ht,hz⟩:=I.list hx
  have hlen:=r.length
  refine ⟨"list",_,slot_list_getitem.lookup,ht.isList.typeIs,?_⟩
  refine wpAny_getItem_list_slice ht.isList hs pl pu .none (by simp) ?_ (by rw [List.size_toArray] <;> omega)
  rw [kD,←hlen]
  refine ⟨.ref s.heap.objs.size,_,I.laid (t':=s.toks) (o:= .lst (qM xs lo hi)) (fun b ob q=>Heap.get?_push_of_some _ q) (Nat.le_refl _) ?_,rfl,q _ (I.hok.fresh (Nat.le_refl _))⟩
  exact ⟨Nat.le_trans (mS xs lo hi) hz,_,0,(r.drop (HT.jL xs.length 0 lo)).take (HT.jL xs.length xs.length hi - HT.jL xs.length 0 lo),Heap.get?_push_size _ rfl⟩
theorem lH:CallR X (.builtin "len") (fun xs H Q=>∃p ys,xs=[.ref p]∧(SqL X.K H p ys∨SqT X.K H p ys)∧Q (.int ys.length) H):=by
  intro pins s σ H xs us Q I r h
  obtain ⟨p,ys,rfl,hq,q⟩:=h
  obtain ⟨u,rfl,rx⟩:=kM r
  cases rx
  have hn:=g6
  rcases hq with hq | hq
  · obtain ⟨its,r',pl,hz⟩:=I.list hq
    have hlen:=r'.length
    exact Calls.call_len_list pl.isList (by simp only [List.size_toArray] <;> omega) ⟨.int ys.length,H,I.tok _,⟨s.toks+1,by rw [List.size_toArray,hlen]⟩,q⟩
  · obtain ⟨its,r',pl,hz⟩:=I.tuple hq
    have hlen:=r'.length
    exact len_tuple pl (by simp only [List.size_toArray] <;> omega) ⟨.int ys.length,H,I.tok _,⟨s.toks+1,by rw [List.size_toArray,hlen]⟩,q⟩
theorem fS:CallR X (.builtin "len") (fun xs H Q=>∃z,xs=[.str z]∧z.length≤sizeLine∧Q (.int z.length) H):=by
  intro pins s σ H xs us Q I r h
  obtain ⟨z,rfl,hz,q⟩:=h
  obtain ⟨u,rfl,t,rfl⟩:=kM r
  have hn:=g6
  exact len_str (by omega) ⟨.int z.length,H,I.tok _,⟨_,rfl⟩,q⟩
theorem CallR.or {f:Value} {r r':List V→Hp→VK→Prop} (h:CallR X f r) (h':CallR X f r'):CallR X f (fun xs H Q=>r xs H Q∨r' xs H Q):=by
  intro pins s σ H xs us Q I rs q
  rcases q with q | q
  · exact h pins s σ H xs us Q I rs q
  · exact h' pins s σ H xs us Q I rs q
theorem lI:CallR X (.type "list") (fun xs H Q=>∃p ys,xs=[.ref p]∧(SqL X.K H p ys∨SqT X.K H p ys)∧∀l,H l=none→Q (.ref l) (upd H l (.lst ys))):=by
  intro pins s σ H xs us Q I r h
  obtain ⟨p,ys,rfl,hq,q⟩:=h
  obtain ⟨u,rfl,rx⟩:=kM r
  cases rx
  have fin:∀(its:List Value),Vals ys its→ys.length≤sizeLine→∀(h':Heap) (c':Nat),(∀b o',s.heap.get? b=some o'→h'.get? b=some o')→
      h'.get? s.heap.objs.size=some {cls:= .type "list",dict:=none,data:= .seq its.toArray c',slots:=#[]}→EP X pins σ Q (.ref s.heap.objs.size) {s with heap:=h'}:=fun its r' hz h' c' kp e=>
    ⟨.ref s.heap.objs.size,_,I.laid (t':=s.toks) kp (Nat.le_refl _) (show ObjOk X.prog X.w _ h' _ (.lst ys) from ⟨hz,its,c',r',e⟩),rfl,q _ (I.hok.fresh (Nat.le_refl _))⟩
  rcases hq with hq | hq
  · obtain ⟨its,r',pl,hz⟩:=I.list hq
    have hlen:=r'.length
    obtain ⟨o,ho,hc,n,hd⟩:=pl.isList
    exact call_list_seq p (.inl rfl) ho hc hd (fun h' c' kp e=>fin its r' hz h' c' kp e) (by simp only [List.size_toArray] <;> omega)
  · obtain ⟨its,r',pl,hz⟩:=I.tuple hq
    have hlen:=r'.length
    obtain ⟨o,ho,hc,n,hd⟩:=pl
    exact call_list_seq p (.inr rfl) ho hc hd (fun h' c' kp e=>fin its r' hz h' c' kp e) (by simp only [List.size_toArray] <;> omega)
def Aw (K:PySem.W.Frag) (T:String) (x:V) (H:Hp):Prop:=match x with
  | .str _=>T="str"
  | .int _=>T="int"
  | .ref p=>(T="list"∧∃xs,SqL K H p xs)∨(T="tuple"∧∃o,K.lookup p=some o∧o.cls= .type "tuple"∧o.dict=none)∨
      (T="dict"∧((∃kvs,H p=some (.dK kvs))∨∃kvs,H p=some (.dT kvs)))∨(T="set"∧∃S n,H p=some (.set S n))
  | _=>False
theorem xr {pins:List (Addr×Obj)} {σ:St} {H:Hp} {s:Shared} {T:String} {x:V} {v:Value} (I:Inv X pins σ H s) (r:RelV x v) (ty:Aw X.K T x H):
    s.TypeIs v T∧∀a,v= .ref a→∃ob,s.heap.get? a=some ob∧ob.dict=none:=by
  cases x with
  | str z=>
    obtain ⟨t,rfl⟩:=r
    cases (show T="str" from ty)
    exact ⟨typeIs_str s z t,fun _ e=>nomatch e⟩
  | int i=>
    obtain ⟨t,rfl⟩:=r
    cases (show T="int" from ty)
    exact ⟨typeIs_int s i t,fun _ e=>nomatch e⟩
  | ref p=>
    cases r
    rcases ty with ⟨rfl,xs,hq⟩ | ⟨rfl,o,hk,hc,hd⟩ | ⟨rfl,hk⟩ | ⟨rfl,S,n,hk⟩
    · obtain ⟨its,_,pl,_⟩:=I.list hq
      refine ⟨pl.isList.typeIs,fun a e=>?_⟩
      cases e
      obtain ⟨o,n,e,c,hd,_⟩:=pl
      exact ⟨o,e,hd⟩
    · refine ⟨⟨o,I.kIn p o hk,hc⟩,fun a e=>?_⟩
      cases e
      exact ⟨o,I.kIn _ o hk,hd⟩
    · have z:∃o,s.heap.get? p=some o∧o.ExactDict:=by
        rcases hk with ⟨kvs,hk⟩ | ⟨kvs,hk⟩
        · obtain ⟨_,_,_,_,o,_,_,e,ex,_⟩:=I.hok p _ hk
          exact ⟨o,e,ex⟩
        · obtain ⟨_,_,_,_,o,_,_,e,ex,_⟩:=I.hok p _ hk
          exact ⟨o,e,ex⟩
      obtain ⟨o,e,ex⟩:=z
      refine ⟨⟨o,e,ex.1⟩,fun a e2=>?_⟩
      cases e2
      exact ⟨o,e,ex.2.1⟩
    · obtain ⟨o,_,_,_,e,ex,_⟩:=I.hok p _ hk
      refine ⟨⟨o,e,ex.1⟩,fun a e2=>?_⟩
      cases e2
      exact ⟨o,e,ex.2.1⟩
  | _=>exact False.elim ty
def Ae (K:PySem.W.Frag) (T:String) (r:V→List V→Hp→VK→Prop) (to:TE) (t:TA):TE:=fun σ H Q=>to σ H fun x H1=>Aw K T x H1∧t σ H1 fun xs H2=>r x xs H2 Q
variable {o e:Expr} {es:List Expr} {to:TE} {t:TA} {name:Str} {apos cpos:Pos} {T id:String} {r:V→List V→Hp→VK→Prop}
theorem sC (pa:PlainAttrs T) (slot:Slot T name id) (hty:typeOf (.builtin id)=pure (.type "method_descriptor")) (hm:MtR X id r) (ho:PE X o to) (ha:PA X (e::es) t)
    (hbase:attributeBase o name X.env (eval o X.env)=eval o X.env:=by rfl)
    (hfew:((backTo cpos (starEach (e::es) X.env)).all (fun x=> !x.1)&&(backToKw cpos (keywordEach [] X.env)).all (fun x=>x.1.isSome)
      &&decide ((e::es).length+([]:List Keyword).length+(if ([]:List Keyword).isEmpty then 0 else 1) < 30))=true:=by rfl)
    (hline:(apos.endLine == cpos.line)=true:=by rfl) (hs:starEach (e::es) X.env=(false,eval e X.env)::starEach es X.env:=by rfl) (hplain:(backTo cpos (starEach es X.env)).any (·.1)=false:=by rfl):
    PE X (.Call (.Attribute o name apos) (e::es) [] cpos) (Ae X.K T r to t):=by
  intro pins s σ H Q I h
  refine wpAny_Call_method_late hbase hfew hline rfl (bN (ho pins s σ H _ I h) fun v s1 ⟨x,H1,I1,r1,ty,q1⟩=>?_)
  obtain ⟨h1,h2⟩:=xr I1 r1 ty
  refine ⟨T,id,pa,slot,hty,h1,h2,?_⟩
  have hA:=ha cpos pins s1 σ H1 _ I1 q1
  rw [hs] at hA ⊢
  refine Calls.callWith_builtin (by show (false||(backTo cpos (starEach es X.env)).any (·.1))=false;rw [hplain] <;> rfl) (Calls.evalArgs_plain ?_)
  exact bN hA fun us s2 ⟨vs,H2,I2,r2,q2⟩=>hm pins s2 σ H2 x vs v us Q I2 r1 r2 q2
end
end L2
namespace L2
open PySem PySem.Spec PyProof.Rows
def Ax (X:Cx) (id:String) (r:V→List V→Hp→VK→Prop):Prop:=
  ∀(pins:List (Addr×Obj)) (s:Shared) (σ:St) (H:Hp) (x:V) (xs:List V) (v:Value) (us:List Value) (Q:VK),Inv X pins σ H s→RelV x v→Vals xs us→r x xs H Q→
    wpAny (model X.prog X.w) X.A (call (.builtin id) (v::us)) (EP X pins σ Q) X.xe s
theorem Vals.one {x:V} {us:List Value} (h:Vals [x] us):∃u,us=[u]∧RelV x u:=by
  cases h with
  | cons r t=>cases t;exact ⟨_,rfl,r⟩
theorem Vals.two {x y:V} {us:List Value} (h:Vals [x,y] us):∃u v,us=[u,v]∧RelV x u∧RelV y v:=by
  cases h with
  | cons r t=>
    obtain ⟨v,rfl,q⟩:=Vals.one t
    exact ⟨_,_,rfl,r,q⟩
theorem Vals.zero:∀{us:List Value},Vals [] us→us=[]
  | _, .nil=>rfl
theorem Vals.reverse {xs:List V} {us:List Value} (h:Vals xs us):Vals xs.reverse us.reverse:=by
  induction h with
  | nil=>exact .nil
  | cons r t ih=>rw [List.reverse_cons,List.reverse_cons];exact Vals.append ih (.cons r .nil)
theorem Vals.rep {xs:List V} {us:List Value} (h:Vals xs us):∀k:Nat,Vals (List.replicate k xs).flatten (List.replicate k us).flatten
  | 0=> .nil
  | k+1=>by
    rw [List.replicate_succ,List.replicate_succ,List.flatten_cons,List.flatten_cons]
    exact Vals.append h (Vals.rep h k)
section
variable {X:Cx} {pins:List (Addr×Obj)} {σ:St} {H:Hp} {s:Shared} {l b:Addr} {xs ys zs:List V}
theorem Inv.lset {its its':List Value} {n:Nat} {f:Array Value→Array Value} {t':Nat} (I:Inv X pins σ H s) (hH:H l=some (.lst xs))
    (e:s.heap.get? l=some {cls:= .type "list",data:= .seq its.toArray n}) (hf:f its.toArray=its'.toArray) (hv:Vals ys its') (hz:ys.length≤sizeLine):
    Inv X pins σ (upd H l (.lst ys)) {s with heap:=s.heap.update l (Obj.mapSeq f),toks:=t'}:=by
  have q:=PySem.IsL.update e f
  rw [hf] at q
  refine I.write (x:=l) (e:=l) (by rw [hH];exact trivial) (.inl rfl) (fun b' u hb hu=>(Heap.get?_update_other s.heap (Obj.mapSeq f) (Ne.symm hb)).trans hu) ⟨_,q⟩ ?_
  exact ⟨hz,its',_,hv,q⟩
theorem Inv.lnew {its:List Value} {t':Nat} (I:Inv X pins σ H s) (hv:Vals ys its) (hz:ys.length≤sizeLine):
    Inv X pins σ (upd H s.heap.objs.size (.lst ys)) {s with heap:=s.heap.push {cls:= .type "list",data:= .seq its.toArray},toks:=t'}:=
  I.laid (fun _ _ q=>Heap.get?_push_of_some _ q) (Nat.le_refl _) ⟨hz,its,0,hv,Heap.get?_push_size _ rfl⟩
theorem Inv.fresh (I:Inv X pins σ H s):H s.heap.objs.size=none:=I.hok.fresh (Nat.le_refl _)
theorem Inv.lstM (I:Inv X pins σ H s) (hH:H l=some (.lst xs)):xs.length≤sizeLine∧∃(its:List Value) (n:Nat),Vals xs its∧xs.length=its.length∧s.heap.get? l=some {cls:= .type "list",data:= .seq its.toArray n}:=by
  obtain ⟨z,its,n,r,e⟩:=I.hok l _ hH
  exact ⟨z,its,n,r,r.length,e⟩
theorem sD {n:Nat} (h:n≤sizeLine):Builtin.List.listTooLong n=false:=by
  unfold Builtin.List.listTooLong
  exact decide_eq_false (by omega)
end
section
variable {X:Cx}
def ju:V→List V→Hp→VK→Prop:=fun x vs H Q=>∃l xs y,x= .ref l∧vs=[y]∧H l=some (.lst xs)∧xs.length < sizeLine∧Q .non (upd H l (.lst (xs++[y])))
theorem iK:Ax X "list.append" ju:=by
  intro pins s σ H x vs v us Q I rx rv h
  obtain ⟨l,xs,y,rfl,rfl,hH,hz,q⟩:=h
  cases rx
  obtain ⟨u,rfl,ru⟩:=rv.one
  obtain ⟨z,its,n,r,hl,e⟩:=I.lstM hH
  refine call_meets F.slot_list_append ⟨_,e,rfl⟩ F.entry_list_append (F.args_list_append_2 _ _) (PySem.list_append l its.toArray n u (by rw [List.size_toArray];omega)) ⟨e,?_⟩
  refine ⟨.non,_,I.lset (its':=its++[u]) hH e (by simp) (r.append (.cons ru .nil)) ?_,rfl,q⟩
  rw [List.length_append,List.length_singleton]
  omega
def vj:V→List V→Hp→VK→Prop:=fun x vs H Q=>∃l b xs zs,x= .ref l∧vs=[.ref b]∧H l=some (.lst xs)∧H b=some (.lst zs)∧xs.length+zs.length≤sizeLine∧Q .non (upd H l (.lst (xs++zs)))
theorem qN:Ax X "list.extend" vj:=by
  intro pins s σ H x vs v us Q I rx rv h
  obtain ⟨l,b,xs,zs,rfl,rfl,hH,hB,hz,q⟩:=h
  cases rx
  obtain ⟨u,rfl,ru⟩:=rv.one
  cases ru
  obtain ⟨z,its,n,r,hl,e⟩:=I.lstM hH
  obtain ⟨z2,its2,n2,r2,hl2,e2⟩:=I.lstM hB
  have hsz:its.toArray.size+its2.toArray.size≤sizeLine:=by rw [List.size_toArray,List.size_toArray];omega
  have hlong:¬(!its.toArray.isEmpty&&Builtin.List.listTooLong (its.toArray.size+its2.toArray.size))=true:=by
    rw [sD hsz,Bool.and_false]
    exact Bool.false_ne_true
  refine call_meets F.slot_list_extend ⟨_,e,rfl⟩ F.entry_list_extend (F.args_list_extend_2 _ _)
    (AutoSeq1.list_extend_list_list_0 l its.toArray n b its2.toArray n2 hlong (by rw [List.size_toArray];omega) (by omega)) ⟨e,e2,?_⟩
  refine ⟨.non,_,I.lset (its':=its++its2) hH e (by simp) (r.append r2) ?_,rfl,q⟩
  rw [List.length_append]
  omega
theorem vk {α:Type} (xs:List α) (k:Nat):(List.replicate k xs).flatten.length=k*xs.length:=by
  induction k with
  | zero=>simp
  | succ k ih=>rw [List.replicate_succ,List.flatten_cons,List.length_append,ih,Nat.succ_mul,Nat.add_comm]
end
end L2
namespace Att
open PySem PySem.W PySem.Calls PyProof.Rows
theorem jj {P:Params} {h:Heap}:∀(ns:List Int) (vs:List Value),WellAll P h vs (ns.map WData.int)→IntsAre vs ns:=by
  intro ns
  induction ns with
  | nil=>
    intro vs w
    rw [List.map_nil] at w
    cases w
    exact .nil
  | cons n ns ih=>
    intro vs w
    rw [List.map_cons] at w
    cases w with
    | cons a b=>
      cases a
      exact .cons _ _ (ih _ b)
theorem qO {l:OpenLaw} {n:Nat} (hn:l.most=some n) {P:Params} {h:Heap} {args:List WData} {vals:List Value}
    (hpre:l.row.toRowW.claim.pre args=true) (hwl:WellAll P h vals args):
    ∃a vs ns,vals=[Value.ref a]∧args=[WData.list (ns.map WData.int)]∧h.get? a=some {cls:= .type "list",data:= .seq vs.toArray}∧IntsAre vs ns∧ns.length≤n:=by
  have hsh:WShape.hasAll [] args [.list .int]=true:=(pre_splitW hpre).1
  have hc:l.pre.holds [] {args:=args}=true:=(pre_splitW hpre).2
  obtain ⟨d,r,rfl,h1,h2⟩:=hasAllW_cons hsh
  obtain rfl:=hasAllW_nil h2
  obtain ⟨xs,rfl,h3⟩:=hasW_list h1
  obtain ⟨ns,rfl⟩:=items_int h3
  have hlen:ns.length≤n:=by
    unfold OpenLaw.pre at hc
    have h4:(WTm.not (.lt (.lit (.int (n:Int))) (.len (.arg 0)))).holds [] {args:=[.list (ns.map .int)]}=true:=by
      have h4:=(holds_andW hc).1
      rw [hn] at h4
      exact h4
    have h5:=condW_of h4 (w_not (w_lt w_lit (w_len_list (w_arg rfl))))
    rw [List.length_map] at h5
    refine Nat.le_of_not_lt fun q=>?_
    have q':(n:Int) < ((ns.length:Nat):Int):=by omega
    first
      | (rw [decide_eq_true q'] at h5;exact absurd h5 (by decide))
      | (simp at h5;omega)
  cases hwl with
  | cons w1 w2=>
    cases w2
    cases w1 with
    | list ho hall=>exact ⟨_,_,ns,rfl,rfl,ho,jj ns _ hall,hlen⟩
theorem qP (l:OpenLaw) (args:List WData):l.row.toRowW.claim.post args (.bool true) args=true:=
  postW_of (r:=l.row.toRowW) (X:=(true == true))
    (show WShape.has [] (.bool true) .bool=true by first | rfl | decide | simp [WShape.has,WShape.arms,WShape.armsAll])
    (show (WTm.eq .res (.lit (.bool true))).value [] {args:=args,res:=some (.bool true),after:=args}=some (.bool (true == true)) from w_eq_bool (w_res rfl) w_lit) rfl
theorem mU {l:OpenLaw} {n:Nat} {q:Program} {loose:List Str} {XP:(Str→Option Value)→Heap→Prop} {YP:World→Heap→Prop} {d:DefRec}
    (hn:l.most=some n) (hdf:d.params.defaults=[])
    (call:∀(w:World) (s₀ s₁:Shared) (mg mb:Str→Option Value) (fa:Addr) (o:Obj) (pm cd doc:Value) (a:Addr) (vs:List Value) (ns:List Int),
      Ground q loose [] XP w s₀ mg mb s₁.heap→YP w s₁.heap→
      s₁.heap.get? fa=some o→o.data= .func (docDef d.name d.params d.body d.scope pm cd doc)→s₁.heap.CodeRec cd d.name→mg d.name=some (.ref fa)→
      s₁.heap.get? a=some {cls:= .type "list",data:= .seq vs.toArray}→IntsAre vs ns→ns.length≤n→s₁.gens=#[]→
      codeAny (model l.prog w) callerA (.call (.ref fa) ⟨[.ref a],[]⟩) (fun r s'=>r= .ok (.ret (.bool true))∧OldK s₁.heap s'.heap∧s'.os=s₁.os∧AllBare s'.gens) s₁):
    WalkO q loose XP YP l.row.toRowW d [] (fun f vs=>PySem.call f vs):=by
  intro w s₀ s₁ mg mb G Y fa o pm cd doc dV kV ho hd hcd hD hmg hg args vals as hpre hlay hrd hwl hlo
  obtain rfl:dV= .none:=Dflts.none hD hdf
  obtain rfl:kV= .none:=Dflts.noKw hD
  obtain ⟨a,vs,ns,rfl,rfl,hobj,hints,hlen⟩:=qO hn hpre hwl
  refine enter_call (codeAny_mono (call w s₀ s₁ mg mb fa o pm cd doc a vs ns G Y ho (fd_plain hd) hcd hmg hobj hints hlen hg) fun r s' hq=>?_)
  obtain ⟨rfl,h2,h3,h4⟩:=hq
  exact ⟨.inl ⟨.bool true, .bool true,[],rfl,fun _=>rfl, .bool true,qP l _,fun _=>⟨List.Pairwise.nil,fun _ hm=>(nomatch hm)⟩⟩,h2,h3,h4⟩
end Att
namespace L2
open PySem PySem.Spec PyProof.Rows
theorem gE:∀{vs:List Value} {ns:List Int},IntsAre vs ns→Vals (ns.map V.int) vs
  | _,_, .nil=> .nil
  | _,_, .cons n t h=> .cons ⟨t,rfl⟩ (gE h)
theorem ObjOk.tbl0 {P:Program} {w:World} {H:Hp} {h:Heap} {b:Addr} {q:Str} (e:h.get? b=some (PySem.W.tabObj #[])):ObjOk P w H h b (.tbl q):=⟨#[],e,trivial,fun pos cv z=>by cases z⟩
end L2
namespace L2
open PySem PySem.Spec PyProof.Rows
def dv (s:Stmt):Arguments:=match s with
  | .FunctionDef _ a _ _ _ _ _ _ _ _=>a
  | _=>{posonlyargs:=[],args:=[],vararg:=none,kwonlyargs:=[],kw_defaults:=[],kwarg:=none,defaults:=[]}
def ca (s:Stmt):List Stmt:=match s with
  | .FunctionDef _ _ b _ _ _ _ _ _ _=>b
  | _=>[]
def ao (s:Stmt):Scope:=match s with
  | .FunctionDef _ _ _ _ _ _ sc _ _ _=>sc
  | _=>{kind:= .function,names:=[],isGenerator:=false,isCoroutine:=false}
abbrev rZ:rY:=fun _ _ _ _ _ _=>False
abbrev E0:XK:=fun _ _ _=>False
theorem yV {X:Cx}:oq rZ X E0:=fun _ _ _ _ _ _ _ h=>h.elim
structure Fun (K:PySem.W.Frag) (x qual:Str) (st:Stmt) (f:Addr) (fd:FuncData):Prop where
  ex:∃(oc:Value) (od:Option Addr) (kV doc pm:Value) (an:Option Addr) (cdv ct:Value) (osl:Array (Option Value)),
    fd=PySem.W.fnOf x qual (dv st) (ca st) (ao st) .none kV doc pm an cdv ct∧K.lookup f=some ⟨oc,od, .func fd,osl⟩∧PySem.W.codeIn K cdv qual=true
  kp:PySem.W.keepIn K (.ref f)=true
section
variable {P:Program} {w:World} {K:PySem.W.Frag} {mg:Str→Option Value} {base:Heap}
theorem Fun.ok {x qual:Str} {st:Stmt} {f:Addr} {fd:FuncData} {N ps:List Str} {k:Nat} {sp:Sp} (F:Fun K x qual st f fd) (S:FnScope N ps (ao st)) (len:∀vs H Q E,sp vs H Q E→vs.length=ps.length)
    (hbody:∀(cdv:Value) (A:Around) (outer:List Env) (s:Shared) (H:Hp) (vs:List V) (Q:VK) (E:XK),Room k (A.deeper (envOfC qual (ao st) s.heap.objs.size f cdv))→sp vs H Q E→
      ∃t,PSs (lC rZ P w K mg base N qual (ao st) f cdv A outer s H E).nox (ca st) t∧t {nx:=fun _ H'=>Q .non H',rt:=Q} (cQ N vs) H):FnOk P w K mg base rZ (k+1) f fd ps sp:=by
  obtain ⟨oc,od,kV,doc,pm,an,cdv,ct,osl,rfl,lk,hcd⟩:=F.ex
  refine yR lk hcd S len fun A outer s H vs Q E hr hsp=>?_
  obtain ⟨t,h,q⟩:=hbody cdv A outer s H vs Q E hr hsp
  exact ⟨t,h.nox,q⟩
theorem Fun.binds {x qual:Str} {st:Stmt} {f:Addr} {fd:FuncData} {ps:List Str} (F:Fun K x qual st f fd)
    (h:∀(kV doc pm:Value) (an:Option Addr) (cdv ct:Value) (us:List Value),us.length=ps.length→bindArgs (PySem.W.fnOf x qual (dv st) (ca st) (ao st) .none kV doc pm an cdv ct) ⟨us,[]⟩=pure (ps.zip us)):Binds K fd ps []:=by
  obtain ⟨oc,od,kV,doc,pm,an,cdv,ct,osl,rfl,lk,hcd⟩:=F.ex
  exact .all (h kV doc pm an cdv ct)
theorem ou {x qual:Str} {st:Stmt} {f:Addr} {oc:Value} {od an:Option Addr} {osl:Array (Option Value)} {kV doc pm cdv ct:Value} (l:K.lookup f=some ⟨oc,od, .func (PySem.W.fnOf x qual (dv st) (ca st) (ao st) .none kV doc pm an cdv ct),osl⟩)
    (c:PySem.W.codeIn K cdv qual=true) (k:PySem.W.keepIn K (.ref f)=true):Fun K x qual st f (PySem.W.fnOf x qual (dv st) (ca st) (ao st) .none kV doc pm an cdv ct):=⟨⟨oc,od,kV,doc,pm,an,cdv,ct,osl,rfl,l,c⟩,k⟩
end
section
variable {X:Cx}
theorem pv (i:Nat) {x:Str} {pos:Pos} (hN:X.N[i]? =some x:=by rfl) (hv:uY X.env.scope x:=by first | exact Or.inl rfl | exact Or.inr (Or.inl rfl) | exact Or.inr (Or.inr rfl)) (hd:(x == ("__debug__":Str))=false:=by decide)
    (hcd:(x == ("__classdict__":Str))=false:=by decide):PE X (.Name x pos) (bC i):=gg hN hv hd hcd
end
def Same (H H':Hp):Prop:=∀b o,H b=some o→H' b=some o
theorem Same.refl (H:Hp):Same H H:=fun _ _ h=>h
theorem Same.trans {H H1 H2:Hp} (a:Same H H1) (b:Same H1 H2):Same H H2:=fun c o h=>b c o (a c o h)
theorem Same.free {H H':Hp} (e:Same H H') {l:Addr} (h:H' l=Option.none):H l=Option.none:=by
  cases q:H l with
  | none=>rfl
  | some o=>
    rw [e l o q] at h
    cases h
theorem Same.seq {K:PySem.W.Frag} {H H':Hp} {a:Addr} {xs:List V} (e:Same H H') (h:SqL K H a xs):SqL K H' a xs:=by
  rcases h with (h | ⟨o,h⟩) | h
  · exact .inl (.inl (e _ _ h))
  · exact .inl (.inr ⟨o,e _ _ h⟩)
  · exact .inr h
end L2
namespace NH
section
variable {α:Type} [DecidableEq α]
def stp (r:List (α×Int)) (p:α×Int):List (α×Int):=
  match r with
  | []=>if p.2=0 then [] else [p]
  | q::r'=>if q.1=p.1 then (if q.2+p.2=0 then r' else (p.1,q.2+p.2)::r') else (if p.2=0 then q::r' else p::q::r')
def stk (c:List (α×Int)):List (α×Int):=c.foldl stp []
def Red:List (α×Int)→Prop
  | []=>True
  | [p]=>p.2≠0
  | p::q::r=>p.2≠0∧p.1≠q.1∧Red (q::r)
theorem Red.cons {p:α×Int} {r:List (α×Int)} (h0:p.2≠0) (h1:∀q∈r.head?,p.1≠q.1) (h:Red r):Red (p::r):=by
  cases r with
  | nil=>exact h0
  | cons q r=>exact ⟨h0,h1 q rfl,h⟩
theorem Red.next {p:α×Int} {r:List (α×Int)} (h:Red (p::r)):∀q∈r.head?,p.1≠q.1:=by
  cases r with
  | nil=>intro q hq;cases hq
  | cons q r=>intro q' hq;cases hq;exact h.2.1
def contr (c:List (α×Int)):List (α×Int):=c.reverse.map fun p=>(p.1,-p.2)
theorem cU (c:List (α×Int)):(contr c).length=c.length:=by simp [contr]
def sn (w:List (α×Int)) (p:α×Int):List (α×Int):=(stp w.reverse p).reverse
def n5 (p x:α×Int):List (α×Int):=if x.1=p.1 then (if x.2+p.2=0 then [] else [(p.1,x.2+p.2)]) else (if p.2=0 then [x] else [p,x])
theorem sE (p x:α×Int) (r:List (α×Int)):stp (x::r) p=n5 p x++r:=by
  show (if x.1=p.1 then (if x.2+p.2=0 then r else (p.1,x.2+p.2)::r) else (if p.2=0 then x::r else p::x::r))=n5 p x++r
  unfold n5
  by_cases e:x.1=p.1
  · rw [if_pos e,if_pos e];split <;> rfl
  · rw [if_neg e,if_neg e];split <;> rfl
end
end NH
namespace L2
open PySem PySem.Spec PyProof.Rows
theorem bt {H:Hp} {p:Addr} (h:H p=none) (o:HO):Same H (upd H p o):=fun b u q=>by rw [ak (cP q h)];exact q
theorem Same.tup {K:PySem.W.Frag} {H H':Hp} {a:Addr} {xs:List V} (e:Same H H') (h:SqT K H a xs):SqT K H' a xs:=by
  rcases h with (h | ⟨o,h⟩) | h
  · exact .inl (.inl (e _ _ h))
  · exact .inl (.inr ⟨o,e _ _ h⟩)
  · exact .inr h
def SameBut (l:Addr) (H H':Hp):Prop:=∀b o,b≠l→H b=some o→H' b=some o
theorem SameBut.upd {H:Hp} {l:Addr} (o:HO):SameBut l H (upd H l o):=fun b u hb q=>by rw [ak hb];exact q
theorem SameBut.trans {H H1 H2:Hp} {l:Addr} (a:SameBut l H H1) (b:SameBut l H1 H2):SameBut l H H2:=fun c o hc q=>b c o hc (a c o hc q)
theorem SameBut.same {H H':Hp} {l:Addr} (a:SameBut l H H') (h:H l=none):Same H H':=fun b o q=>a b o (cP q h) q
theorem SameBut.tup {K:PySem.W.Frag} {H H':Hp} {l a:Addr} {xs ys:List V} (e:SameBut l H H') (hl:H l=some (.lst ys)) (h:SqT K H a xs):SqT K H' a xs:=by
  rcases h with (h | ⟨o,h⟩) | h
  · exact .inl (.inl (e _ _ (se h hl (by intro z;cases z)) h))
  · exact .inl (.inr ⟨o,e _ _ (se h hl (by intro z;cases z)) h⟩)
  · exact .inr h
mutual
inductive DOf (K:PySem.W.Frag) (H:Hp):V→PyData→Prop
  | non:DOf K H .non .none
  | bl (b:Bool):DOf K H (.bl b) (.bool b)
  | int (i:Int):DOf K H (.int i) (.int i)
  | str (x:Str):DOf K H (.str x) (.str x)
  | lst {a:Addr} {xs:List V} {ds:List PyData}:SqL K H a xs→DAll K H xs ds→DOf K H (.ref a) (.list ds)
  | tup {a:Addr} {xs:List V} {ds:List PyData}:SqT K H a xs→DAll K H xs ds→DOf K H (.ref a) (.tuple ds)
inductive DAll (K:PySem.W.Frag) (H:Hp):List V→List PyData→Prop
  | nil:DAll K H [] []
  | cons {x:V} {xs:List V} {d:PyData} {ds:List PyData}:DOf K H x d→DAll K H xs ds→DAll K H (x::xs) (d::ds)
end
section
variable {X:Cx} {pins:List (Addr×Obj)} {σ:St} {H:Hp} {s:Shared}
theorem DOf.reads (I:Inv X pins σ H s) {x:V} {d:PyData} {u:Value} (h:DOf X.K H x d) (r:RelV x u):∃as,Reads s.heap u d as:=DOf.rec (motive_1:=fun x d _=>∀{u:Value},RelV x u→∃as,Reads s.heap u d as) (motive_2:=fun xs ds _=>∀{us:List Value},Vals xs us→∃as,ReadsAll s.heap us ds as)
    (fun r=>by cases r;exact ⟨_,Reads.none⟩) (fun b _ r=>by cases r;exact ⟨_,Reads.bool b⟩) (fun i _ r=>by obtain ⟨t,rfl⟩:=r;exact ⟨_,Reads.int i t⟩) (fun x _ r=>by obtain ⟨t,rfl⟩:=r;exact ⟨_,Reads.str x t⟩)
    (fun hq _ ih _ r=>by
      cases r
      obtain ⟨its,rv,⟨o,n,e,c,_,d⟩,_⟩:=I.list hq
      obtain ⟨as,q⟩:=ih rv
      exact ⟨_,reads_list_at e c d (by simpa using q)⟩)
    (fun hq _ ih _ r=>by
      cases r
      obtain ⟨its,rv,⟨o,e,c,n,d⟩,_⟩:=I.tuple hq
      obtain ⟨as,q⟩:=ih rv
      exact ⟨_,reads_tuple_at e c d (by simpa using q)⟩)
    (fun r=>by cases r;exact ⟨_,ReadsAll.nil⟩)
    (fun _ _ a b _ r=>by
      cases r with
      | cons r rt=>
        obtain ⟨as,q⟩:=a r
        obtain ⟨bs,p⟩:=b rt
        exact ⟨_,ReadsAll.cons q p⟩) h r
end
def yW (K:PySem.W.Frag):R2:=fun x y H Q=>∃d e,DOf K H x d∧DOf K H y e∧SeqAt.shaped d=true∧SeqAt.shaped e=true∧Q (.bl (PyData.eqv d e)) H
def yX (K:PySem.W.Frag):R2:=fun x y H Q=>∃d e,DOf K H x d∧DOf K H y e∧SeqAt.shaped d=true∧SeqAt.shaped e=true∧Q (.bl (!PyData.eqv d e)) H
theorem sG {X:Cx} (hu:X.A.units+64 < cLine):OpR X (compareOp .Eq) (yW X.K):=by
  intro pins s σ H x y v u Q I rx ry h
  obtain ⟨d,e,hd,he,s1,s2,q⟩:=h
  obtain ⟨as,ra⟩:=hd.reads I rx
  obtain ⟨bs,rb⟩:=he.reads I ry
  exact eq_dataH ra rb s1 s2 hu ⟨.bl _,H,I,rfl,q⟩
theorem xt {X:Cx} (hu:X.A.units+64 < cLine):OpR X (compareOp .NotEq) (yX X.K):=by
  intro pins s σ H x y v u Q I rx ry h
  obtain ⟨d,e,hd,he,s1,s2,q⟩:=h
  obtain ⟨as,ra⟩:=hd.reads I rx
  obtain ⟨bs,rb⟩:=he.reads I ry
  exact ne_dataH ra rb s1 s2 hu ⟨.bl _,H,I,rfl,q⟩
def Af (K:PySem.W.Frag) (a:Addr) (xs:List V):It:=
  ⟨fun i H=>SqL K H a xs∧i < xs.length,fun i H x H'=>H'=H∧xs.reverse[i]? =some x,fun i H=>SqL K H a xs∧i=xs.length⟩
theorem sH {P:Program} {w:World} {K:PySem.W.Frag} {tg:Expr} (a it:Addr) (xs:List V):Turn P w K tg (Af K a xs) [it] it (fun i h=>h.IsRevIter it a ((xs.length:Int) - 1 - (i:Int))) where
  mem:=by simp
  obj:=fun i h st b hb=>by
    have e:b=it:=by simpa using hb
    subst e
    obtain ⟨o,e,c,d⟩:=st
    exact ⟨o,e,fun v z=>by rw [d] at z;cases z⟩
  keep:=fun i h h' st k=>st.at fun o e=>k it (by simp) o e
  item:=by
    intro X hP hw hK hc i pins s σ H E I hf st hg
    subst hP hw hK
    obtain ⟨hq,hx⟩:=hg
    obtain ⟨its,rv,p,hz⟩:=I.list hq
    have hlen:=rv.length
    have e0:(xs.length:Int) - 1 - (i:Int)=((xs.length - 1 - i:Nat):Int):=by omega
    have hget:xs.reverse[i]? =xs[xs.length - 1 - i]? :=List.getElem?_reverse hx
    obtain ⟨x,hx'⟩:∃x,xs[xs.length - 1 - i]? =some x:=⟨xs[xs.length - 1 - i]'(by omega),List.getElem?_eq_getElem (by omega)⟩
    obtain ⟨u,hu,ru⟩:=rv.get hx'
    obtain ⟨f0,f1,f2,f3,f4,f5⟩:=hf it (by simp)
    have st1:s.heap.IsRevIter it a ((xs.length - 1 - i:Nat):Int):=by rw [←e0];exact st
    refine wpAny_pyNext_rev_item st1 p.isList (x:=u) (by simpa using hu) fun h' st' sb=>?_
    have I1:Inv X pins σ H {s with heap:=h'}:=I.turned (t':=s.toks) (fun b o hb e=>(sb.2 b hb).trans e) f0 f1 f3 f4 f5
    have e1:((xs.length - 1 - i:Nat):Int) - 1=(xs.length:Int) - 1 - ((i+1:Nat):Int):=by omega
    have st2:h'.IsRevIter it a ((xs.length:Int) - 1 - ((i+1:Nat):Int)):=by rw [←e1];exact st'
    obtain ⟨o,e,c,d⟩:=id st'
    exact ⟨u,rfl,mO (s:={s with heap:=h'}) e c d (by decide) ⟨x,H,I1,ru,⟨rfl,hget.trans hx'⟩,st2,fun b hb=>(hf b hb).1⟩⟩
  done:=by
    intro X hP hw hK hc i pins s σ H E I hf st hg
    subst hP hw hK
    obtain ⟨hq,hx⟩:=hg
    obtain ⟨f0,f1,f2,f3,f4,f5⟩:=hf it (by simp)
    have e0:(xs.length:Int) - 1 - (i:Int)= -1:=by omega
    have st1:s.heap.IsRevIter it a (-1):=by rw [←e0];exact st
    exact wpAny_pyNext_rev_end (I.ok.hd hc) st1 fun h' eb=>⟨rfl,I.turned (t':=s.toks) (fun b o hb e=>eb b o hb e) f0 f1 f3 f4 f5⟩
  self:=fun _ _ _ _ _ st h=>wpAny_pyIter_revIter st h
section
variable {X:Cx} {tg:Expr}
def Ag (K:PySem.W.Frag) (tl:TA):TI:=fun σ H R=>tl σ H fun vs H1=>∃a xs,vs=[.ref a]∧SqL K H1 a xs∧R (Af K a xs) H1
theorem xu {l:Expr} {tl:TA} {p pos:Pos} (hg:Gl X "reversed") (hm:X.mg "reversed"=none) (ha:PA X [l] tl) (hs:starEach [l] X.env=[(false,eval l X.env)]:=by rfl):PI X tg (.Call (.Name "reversed" p) [l] [] pos) (Ag X.K tl):=by
  intro pins s σ H R I h
  refine Call_ (g5 I hg hm boot_reversed (PyProof.Rows.callWith_type1 (bN (ha pos pins s σ H _ I h) fun us s1 ⟨vs,H1,I1,r1,q1⟩=>?_) hs rfl))
  obtain ⟨a,xs,e,hq,q⟩:=q1
  subst e
  cases r1 with
  | cons r rr=>
    cases rr
    cases r
    obtain ⟨its,rv,p,hz⟩:=I1.list hq
    have hlen:=rv.length
    refine call_reversed_list p.isList ?_
    have hit:(s1.heap.push (revObj a (((its.toArray).size:Int) - 1))).IsRevIter s1.heap.objs.size a ((xs.length:Int) - 1 - ((0:Nat):Int)):=by
      refine ⟨_,Heap.get?_push_size _ rfl,rfl,?_⟩
      have e1:((its.toArray.size:Nat):Int) - 1=(xs.length:Int) - 1 - ((0:Nat):Int):=by rw [List.size_toArray];omega
      show Data.fields #[.ref a,rawInt ((its.toArray.size:Int) - 1)]=_
      rw [e1]
    have I2:Inv X pins σ H1 {s1 with heap:=s1.heap.push (revObj a (((its.toArray).size:Int) - 1))}:=I1.kept (t':=s1.toks) fun b o e=>Heap.get?_push_of_some _ e
    refine wpAny_pyIter_revIter hit ?_
    refine ⟨s1.heap.objs.size,[s1.heap.objs.size],_,_,H1,rfl,I2,sH a _ xs,hit,fun b hb=>?_,q⟩
    have e:b=s1.heap.objs.size:=by simpa using hb
    subst e
    have f:=I1.fpOk (H':=H1) (Nat.le_refl _) (I1.hok.fresh (Nat.le_refl _))
    exact f
end
end L2
namespace L2
open PySem PySem.Spec PyProof.Rows
section
variable {prog:Program} {w:World} {A:Around} {R:Result→Shared→Prop} {s:Shared}
theorem lJ {elt target iter:Expr} {ifs:List Expr} {scope:Scope} {pos:Pos} {it acc:Value} {env:Env} (I:Nat→Shared→Prop)
    (turn:∀n s,I n s→wpAny (model prog w) A (pyNext it) (fun r s₁=>match r with
      | none=>R (.ok .next) s₁
      | some v=>wpAny (model prog w) A (letOwnedTupleGo target it v) (fun _ s₁'=>wpAny (model prog w) A (assign target env v) (fun _ s₂=>
          wpAny (model prog w) A (forIn ifs true fun c r=>if r=true then do let ok ←isTrue c env (eval c env);pure (ForInStep.yield ok) else pure (ForInStep.yield r)) (fun ok s₃=>
            if ok=true then wpAny (model prog w) A (eval elt env) (fun x s₄=>
              wpAny (model prog w) A (call (.builtin "list.append") [acc,x]) (fun _ s₅=>∃m,m < n∧I m s₅) (fun _ _=>False) s₄) (fun _ _=>False) s₃
            else ∃m,m < n∧I m s₃) (fun _ _=>False) s₂) (fun _ _=>False) s₁') (fun _ _=>False) s₁) (fun _ _=>False) s)
    (n:Nat) (h:I n s):
    codeAny (model prog w) A (.compLoop (.ListComp elt [⟨target,iter,ifs,0⟩] scope pos) 0 it acc env) R s:=by
  refine codeAny_loop rfl I (fun n s hI=>?_) n h
  show wpAny _ A ((compTurn (.ListComp elt [⟨target,iter,ifs,0⟩] scope pos) 0 it acc env).onRaise (fun x=>do noteFrame x env;theTreesLotGoes x)) _ _ s
  refine wpAny_noted ?_
  rw [compTurn_list]
  refine wpAny_bind (wpAny_standAt (wpAny_bind (wpAny_mono (turn n s hI) (fun r s₁ h₁=>?_) fun _ _ h'=>h'.elim)))
  cases r with
  | none=>exact wpAny_pure h₁
  | some v=>
    refine wpAny_bind (wpAny_mono h₁ (fun _ s₁' h₁'=>?_) fun _ _ h'=>h'.elim)
    refine wpAny_bind (wpAny_mono h₁' (fun _ s₂ h₂=>wpAny_bind (wpAny_mono h₂ (fun ok s₃ h₃=>?_) fun _ _ h'=>h'.elim)) fun _ _ h'=>h'.elim)
    cases ok with
    | false=>exact wpAny_pure ⟨rfl,h₃⟩
    | true=>
      exact wpAny_bind (wpAny_bind (wpAny_mono h₃ (fun x s₄ h₄=>wpAny_bind (wpAny_mono h₄ (fun _ s₅ h₅=>wpAny_pure (wpAny_pure ⟨rfl,h₅⟩)) fun _ _ h'=>h'.elim)) fun _ _ h'=>h'.elim))
end
def Cx.comp (X:Cx) (sc:Scope) (cl:List (Str×Addr)) (N:List Str) (C:Addr) (s₀:Shared) (H₀:Hp) (fp:List Addr):Cx:=
  ⟨X.prog,X.w,X.K,X.mg,X.base,X.A,N,s₀,H₀,⟨sc,C,X.env.globals,cl,X.env.qual,none,X.env.code,X.env.frame,X.env.builtins⟩,X.stack,X.stack,fp,fun _=>false,X.calm,[],fun _ _=>False⟩
def zJ (X:Cx) (ifs:List Expr) (t:TT):Prop:=
  ∀(pins:List (Addr×Obj)) (s:Shared) (σ:St) (H:Hp) (Q:Bool→Hp→Prop),Inv X pins σ H s→t σ H Q→
    wpAny (model X.prog X.w) X.A (forIn ifs true fun c r=>if r=true then do let ok ←isTrue c X.env (eval c X.env);pure (ForInStep.yield ok) else pure (ForInStep.yield r)) (TP X pins σ Q) X.xe s
def sI:TT:=fun _ H Q=>Q true H
theorem pH {X:Cx}:zJ X [] sI:=fun _ _ _ H _ I h=>wpAny_tests_nil ⟨H,I,h⟩
def slots (js:List (Option Nat)) (σ:St):St:=js.map fun j=>j.bind fun j=>(σ[j]?).join
def mV (js:List (Option Nat)) (wi:TI) (g:TG) (tt:TT) (te:TE):TE:=fun σ H Q=>wi σ H fun J H1=>∀l,H1 l=none→∃W:Nat→Nat→St→Hp→Prop,(∃m,W 0 m (slots js σ) (upd H1 l (.lst [])))∧
  ∀i m σ' H',W i m σ' H'→(J.stop i H'∧Q (.ref l) H')∨(J.go i H'∧∃N:St→Hp→Prop,(∀σ' H',N σ' H'→∃m',m' < m∧W (i+1) m' σ' H')∧∀x H2,J.yld i H' x H2→g x σ' H2 fun σ3 H3=>tt σ3 H3 fun b H4=>
    if b=true then te σ3 H4 fun y H5=>∃ys,H5 l=some (.lst ys)∧ys.length < sizeLine∧N σ3 (upd H5 l (.lst (ys++[y]))) else N σ3 H4)
section
variable {X:Cx} {elt target iter:Expr} {ifs:List Expr} {scope sc:Scope} {cl:List (Str×Addr)} {N:List Str} {pos:Pos} {wi:TI} {g:TG} {tt:TT} {te:TE} {js:List (Option Nat)}
structure CompOk (X:Cx) (scope sc:Scope) (cl:List (Str×Addr)) (N:List Str) (js:List (Option Nat)):Prop where
  clos:closureFor scope X.env=pure cl
  rel:relabel scope X.env=sc
  nocell:∀y∈scope.names,y.2≠ .cell
  kind:scope.kind= .function
  names:∀y∈scope.names,y.2= .local→scope.names.lookup y.1=some .local
  same:∀x c,cl.lookup x=some c→X.env.cells.lookup x=some c
  has:∀x,(sc.names.lookup x=some .cell∨sc.names.lookup x=some .free)→∃c,cl.lookup x=some c
  len:js.length=N.length
  from_:∀(i j:Nat),js[i]? =some (some j)→∃x,N[i]? =some x∧X.N[j]? =some x∧(sc.names.lookup x=some .cell∨sc.names.lookup x=some .free)∧(X.env.kindOf x=some .cell∨X.env.kindOf x=some .free)
theorem mW {use:Option (Value→Sem Unit)} {Qv:Value→Shared→Prop} (K:CompOk X scope sc cl N js) (hc:X.calm=true) (hi:PI X target iter wi)
    (hgg:∀C s₀ H₀ fp,PG (X.comp sc cl N C s₀ H₀ fp) target g) (htt:∀C s₀ H₀ fp,zJ (X.comp sc cl N C s₀ H₀ fp) ifs tt) (hee:∀C s₀ H₀ fp,PE (X.comp sc cl N C s₀ H₀ fp) elt te)
    (hs:∀x,foldedSetIterable iter X.env x=pure x) (pins:List (Addr×Obj)) (s:Shared) (σ:St) (H:Hp) (Q:VK) (I:Inv X pins σ H s) (h:mV js wi g tt te σ H Q)
    (hend:∀(D C:Addr) (H4:Hp) (s5:Shared) (m:Str→Option Value),Inv X pins σ H4 s5→s5.heap.Ns C m→H4 C=none→C≠X.env.locals→C∉X.fs→X.s₀.heap.objs.size≤C→(∀x c,X.env.cells.lookup x=some c→c≠C)→(∀p∈X.pn++pins,p.1≠C)→Q (.ref D) H4→
      compPost (model X.prog X.w) X.A X.xe use Qv (.ref D) C (.ok .next) s5):
    wpAny (model X.prog X.w) X.A (comprehension (.ListComp elt [⟨target,iter,ifs,0⟩] scope pos) scope X.env (firstIterPos [⟨target,iter,ifs,0⟩] pos) (newList []) false (firstIter [⟨target,iter,ifs,0⟩] X.env) use) Qv X.xe s:=by
  refine wpAny_comprehension_free (use:=use) rfl hs K.clos K.kind K.names (bN (hi pins s σ H _ I h) fun v s1 h1=>bN h1 fun itv s2 h2=>?_)
  obtain ⟨it,fp,tn,J,H2,e,I2,T,st2,f2,R⟩:=h2
  subst e
  refine wpAny_newObj_type (wpAny_newFunctionEnv K.nocell (by intro y hy;simp at hy) (fun h₁ hns₁ hsb₁=>?_) K.kind)
  dsimp only at hns₁ hsb₁ ⊢
  have I3:Inv X pins σ (upd H2 s2.heap.objs.size (.lst [])) {s2 with heap:=s2.heap.push {cls:= .type "list",dict:=none,data:= .seq ([]:List Value).toArray}}:=
    I2.lnew (t':=s2.toks) (its:=[]) .nil (Nat.zero_le _)
  obtain ⟨W,⟨m0,w0⟩,turn⟩:=R s2.heap.objs.size (I2.hok.fresh (Nat.le_refl _))
  generalize hP:s2.heap.push {cls:= .type "list",dict:=none,data:= .seq ([]:List Value).toArray}=h3 at hns₁ hsb₁ I3 ⊢
  generalize hD:s2.heap.objs.size=D at w0 turn I3 ⊢
  have hsz3:h3.objs.size=D+1:=by rw [←hP,Heap.size_push,hD]
  have old3:∀b o,s2.heap.get? b=some o→h3.get? b=some o:=fun b o e=>by rw [←hP];exact Heap.get?_push_of_some _ e
  have old:∀b o,h3.get? b=some o→h₁.get? b=some o:=fun b o e=>hsb₁.extBut b o (Nat.ne_of_lt (Heap.lt_size e)) (Heap.get?_push_of_some _ e)
  have fpD:∀b∈fp,b < D:=fun b hb=>by
    obtain ⟨o,e,_⟩:=T.obj _ _ st2 b hb
    rw [←hD];exact Heap.lt_size e
  have frD:∀b∈fp,(upd H2 D (.lst [])) b=none:=fun b hb=>by rw [ak (Nat.ne_of_lt (fpD b hb))];exact (f2 b hb).1
  have f3:∀b∈fp,jG X pins (upd H2 D (.lst [])) b:=fun b hb=>⟨frD b hb,(f2 b hb).2⟩
  have Hfresh:∀a,h3.objs.size≤a→(upd H2 D (.lst [])) a=none:=fun a ha=>I3.hok.fresh ha
  have cellC:∀x c,X.env.cells.lookup x=some c→c < h3.objs.size:=fun x c e=>by
    obtain ⟨v,q⟩:=I3.cell x c e
    exact q.lt
  have YOk:(X.comp sc cl N h3.objs.size {s2 with heap:=h3} (upd H2 D (.lst [])) fp).Ok:=by
    refine ⟨I3.ok.mod,?_,I3.ok.glob,I3.ok.blt,Nat.le_refl _,fun x y c e1 e2=>I3.ok.inj x y c (K.same x c e1) (K.same y c e2),fun x hx=>K.has x hx,fun x c hf _=>absurd hf (by intro z;cases z),I3.ok.hd,I3.ok.frames, .inl rfl,fun b hb=>⟨?_,fun x c e=>(f2 b hb).2.2.2.2.1 x c (K.same x c e)⟩,
      I3.bs,Nat.le_trans I3.ok.bsz I3.sz,fun b o e hb=>?_,fun b hb hm=>?_,I3.stack,I3.stkFree,I3.tab⟩
    · rw [←K.rel];exact K.kind
    · exact Nat.ne_of_lt (by rw [hsz3];exact Nat.lt_succ_of_lt (fpD b hb))
    · rcases (f2 b hb).2.2.2.1 with z | z
      · exact I3.ok.noex b o e z
      · exact absurd (Nat.lt_of_lt_of_le (Heap.lt_size (I3.ok.bs b o e).1) z) (Nat.lt_irrefl _)
    · rcases List.mem_cons.mp (I3.stkSub b hm) with z | z
      · exact (f2 b hb).2.1 z
      · exact (f2 b hb).2.2.1 z
  have IY:Inv (X.comp sc cl N h3.objs.size {s2 with heap:=h3} (upd H2 D (.lst [])) fp) [] (slots js σ) (upd H2 D (.lst [])) {s2 with heap:=h₁,toks:=s2.toks+([]:List (Str×Value)).length}:=by
    refine ⟨YOk,rfl,I3.bare,Un.kept old,⟨_,hns₁,fun i x v e1 e2 e3=>?_⟩,fun x c e=>?_,Hfresh _ (Nat.le_refl _),fun x c e=>I3.freeC x c (K.same x c e),fun p hp=>absurd (show p∈([]:List (Addr×Obj)) from hp) (by simp),I3.hok.kept old,?_⟩
    · unfold slots at e2
      rw [List.getElem?_map] at e2
      cases ej:js[i]? with
      | none=>rw [ej] at e2;cases e2
      | some jo=>
        rw [ej] at e2
        cases jo with
        | none=>cases e2
        | some j=>
          obtain ⟨y,n1,n2,k1,k2⟩:=K.from_ i j ej
          have exy:y=x:=Option.some.inj (n1.symm.trans e1)
          subst exy
          have e2':(σ[j]?).join=some v:=Option.some.inj e2
          have e4:σ[j]? =some (some v):=by
            cases es:σ[j]? with
            | none=>rw [es] at e2';cases e2'
            | some w=>rw [es] at e2';exact congrArg some e2'
          obtain ⟨m,_,hl⟩:=I3.loc
          obtain ⟨u,ru,lk⟩:=hl j y v n2 e4 (by
            rcases k2 with z | z
            · exact .inr (.inl z)
            · exact .inr (.inr z))
          refine ⟨u,ru, .inr ⟨k1,?_⟩⟩
          obtain ⟨c,hcl⟩:=K.has y k1
          refine ⟨c,hcl,?_⟩
          rcases lk with ⟨z,_⟩ | ⟨_,c',e5,ic⟩
          · rcases k2 with q | q
            · rw [q] at z;cases z
            · rw [q] at z;cases z
          · have:c'=c:=Option.some.inj (e5.symm.trans (K.same y c hcl))
            subst this
            obtain ⟨o,ho,hd⟩:=ic
            exact ⟨o,old _ _ ho,hd⟩
    · obtain ⟨v,o,ho,hd⟩:=I3.cell x c (K.same x c e)
      exact ⟨v,o,old _ _ ho,hd⟩
    · unfold slots;rw [List.length_map];exact K.len
  have qC:∀s₃:Shared,s₃={s2 with heap:=h₁,toks:=s2.toks+([]:List (Str×Value)).length}→
      codeAny (model X.prog X.w) X.A (.compLoop (.ListComp elt [⟨target,iter,ifs,0⟩] scope pos) 0 (.ref it) (.ref D) (X.comp sc cl N h3.objs.size {s2 with heap:=h3} (upd H2 D (.lst [])) fp).env)
        (compPost (model X.prog X.w) X.A X.xe use Qv (.ref D) h3.objs.size) s₃:=by
    rintro s₃ rfl
    refine lJ (fun n s'=>∃i σ' H',Inv (X.comp sc cl N h3.objs.size {s2 with heap:=h3} (upd H2 D (.lst [])) fp) [] σ' H' s'∧tn i s'.heap∧(∀b∈fp,H' b=none)∧W i n σ' H') ?_ m0
      ⟨0,_,_,IY,T.keep _ _ _ st2 (fun b hb o e=>old b o (old3 b o e)),frD,w0⟩
    rintro n s4 ⟨i,σ4,H4,I4,st4,fr4,w4⟩
    have ff:∀{H':Hp},(∀b∈fp,H' b=none)→∀b∈fp,jG (X.comp sc cl N h3.objs.size {s2 with heap:=h3} (upd H2 D (.lst [])) fp) [] H' b:=fun hn b hb=>
      ⟨hn b hb,(YOk.exf b hb).1,YOk.exfs b hb, .inl hb,(YOk.exf b hb).2,fun p hp=>absurd (show p∈([]:List (Addr×Obj)) from hp) (by simp)⟩
    have hg:=hgg h3.objs.size {s2 with heap:=h3} (upd H2 D (.lst [])) fp
    have ht:=htt h3.objs.size {s2 with heap:=h3} (upd H2 D (.lst [])) fp
    have he:=hee h3.objs.size {s2 with heap:=h3} (upd H2 D (.lst [])) fp
    rcases turn i n σ4 H4 w4 with ⟨stop,qn⟩ | ⟨go,Nx,hN,step⟩
    · refine bN (T.done (X.comp sc cl N h3.objs.size {s2 with heap:=h3} (upd H2 D (.lst [])) fp) rfl rfl rfl hc i [] s4 σ4 H4 _ I4 (ff fr4) st4 stop) fun r s5 ⟨hr,I5⟩=>?_
      subst hr
      obtain ⟨m,hn,_⟩:=I5.loc
      have IX:Inv X pins σ H4 s5:=I3.call' (ch:=fp) I5.os I5.base I5.hok I5.bare fun b hb=>⟨(f3 b hb).2.2.2.1,(f3 b hb).2.1,(f3 b hb).2.2.2.2.1,(f3 b hb).2.2.2.2.2⟩
      exact hend D h3.objs.size H4 s5 m IX hn I5.free (Ne.symm (Nat.ne_of_lt I3.lt)) (I3.nofs (Nat.le_refl _)) I3.sz (fun x c e=>Nat.ne_of_lt (cellC x c e)) (fun p hp=>Nat.ne_of_lt (Heap.lt_size (I3.pin p hp).1)) qn
    · refine bN (T.item (X.comp sc cl N h3.objs.size {s2 with heap:=h3} (upd H2 D (.lst [])) fp) rfl rfl rfl hc i [] s4 σ4 H4 _ I4 (ff fr4) st4 go) fun r s5 ⟨u,hr,h5⟩=>?_
      subst hr
      refine bN h5 fun _ s6 ⟨x,H6,I6,r6,y6,st6,fr6⟩=>?_
      have I6':=I6.pinned (ff fr6) (T.obj _ _ st6)
      have back:∀{σ7:St} {H7:Hp} {s7:Shared},Inv (X.comp sc cl N h3.objs.size {s2 with heap:=h3} (upd H2 D (.lst [])) fp) ([]++jH fp s6.heap) σ7 H7 s7→
          Inv (X.comp sc cl N h3.objs.size {s2 with heap:=h3} (upd H2 D (.lst [])) fp) [] σ7 H7 s7∧tn (i+1) s7.heap∧∀b∈fp,H7 b=none:=fun {σ7 H7 s7} I7=>
        ⟨I7.unpinned,T.keep _ _ _ st6 fun b hb o e=>(I7.pin (b,o) (List.mem_append_right _ (List.mem_append_right _ (fR hb e)))).1,fun b hb=>by
          obtain ⟨o,e,d⟩:=T.obj _ _ st6 b hb
          exact (I7.pin (b,o) (List.mem_append_right _ (List.mem_append_right _ (fR hb e)))).2.1⟩
      refine bN (hg _ s6 σ4 H6 x u _ I6' r6 (step x H6 y6)) fun _ s7 ⟨σ7,H7,I7,q7⟩=>?_
      refine bN (ht _ s7 σ7 H7 _ I7 q7) fun b s8 ⟨H8,I8,q8⟩=>?_
      cases b with
      | false=>
        obtain ⟨m',hm,w8⟩:=hN σ7 H8 q8
        obtain ⟨J1,J2,J3⟩:=back I8
        exact ⟨m',hm,i+1,σ7,H8,J1,J2,J3,w8⟩
      | true=>
        refine bN (he _ s8 σ7 H8 _ I8 q8) fun yv s9 ⟨y,H9,I9,r9,ys,hl,hz,n9⟩=>?_
        obtain ⟨m',hm,w9⟩:=hN _ _ n9
        refine bN (iK _ s9 σ7 H9 (.ref D) [y] (.ref D) [yv] (fun v H'=>v= .non∧H'=upd H9 D (.lst (ys++[y]))) I9 rfl (.cons r9 .nil) ⟨D,ys,y,rfl,rfl,hl,hz,rfl,rfl⟩) fun _ sA ⟨_,HA,IA,_,_,eA⟩=>?_
        subst eA
        obtain ⟨J1,J2,J3⟩:=back IA
        exact ⟨m',hm,i+1,σ7,_,J1,J2,J3,w9⟩
  rw [K.rel]
  exact codeAny_compStart_list (qC _ rfl) (T.self _ 0 _ _ _ (T.keep _ _ _ st2 (fun b hb o e=>old b o (old3 b o e))) (qC _ rfl))
theorem vm (K:CompOk X scope sc cl N js) (hc:X.calm=true) (hi:PI X target iter wi)
    (hgg:∀C s₀ H₀ fp,PG (X.comp sc cl N C s₀ H₀ fp) target g) (htt:∀C s₀ H₀ fp,zJ (X.comp sc cl N C s₀ H₀ fp) ifs tt) (hee:∀C s₀ H₀ fp,PE (X.comp sc cl N C s₀ H₀ fp) elt te)
    (hs:∀x,foldedSetIterable iter X.env x=pure x:=by intro _;rfl):PE X (.ListComp elt [⟨target,iter,ifs,0⟩] scope pos) (mV js wi g tt te):=by
  intro pins s σ H Q I h
  rw [eval_ListComp]
  refine mW (use:=none) K hc hi hgg htt hee hs pins s σ H Q I h fun D C H4 s5 m IX hn fC nL _ sz nc np qn=>?_
  exact ⟨m,hn,fun h' hs'=>⟨.ref D,H4,IX.turned (t':=s5.toks) (it:=C) (fun b o hb e=>(hs'.2 b hb).trans e) fC nL (.inr sz) nc np,rfl,qn⟩⟩
theorem vn {x:Str} {px spos:Pos} {gx:TG} (K:CompOk X scope sc cl N js) (hc:X.calm=true) (hx:PG X (.Name x px) gx) (hi:PI X target iter wi)
    (hgg:∀C s₀ H₀ fp,PG (X.comp sc cl N C s₀ H₀ fp) target g) (htt:∀C s₀ H₀ fp,zJ (X.comp sc cl N C s₀ H₀ fp) ifs tt) (hee:∀C s₀ H₀ fp,PE (X.comp sc cl N C s₀ H₀ fp) elt te)
    (hs:∀x,foldedSetIterable iter X.env x=pure x:=by intro _;rfl) (hsw:swapsWith (.ListComp elt [⟨target,iter,ifs,0⟩] scope pos) (some (.Name x px)) spos.line X.env=pure true:=by rfl):
    PS X (.Assign [.Name x px] (.ListComp elt [⟨target,iter,ifs,0⟩] scope pos) spos) (oa (mV js wi g tt te) gx):=by
  intro pins s σ H D I h
  rw [exec_Assign_Name_used _ _ _ _ hsw]
  refine wpAny_bind (wpAny_standAt (wpAny_bind ?_))
  show wpAny _ _ (comprehension (.ListComp elt [⟨target,iter,ifs,0⟩] scope pos) scope X.env (firstIterPos [⟨target,iter,ifs,0⟩] pos) (newList []) false (firstIter [⟨target,iter,ifs,0⟩] X.env) (some (assign (.Name x px) X.env)) >>= fun _=>pure ()) _ _ _
  refine wpAny_bind (wpAny_mono (mW (use:=some (assign (.Name x px) X.env)) (Qv:=fun _ s'=>∃σ' H',Inv X pins σ' H' s'∧D.nx σ' H') K hc hi hgg htt hee hs pins s σ H _ I h fun Dd C H4 s5 m IX hn fC nL nF sz nc np qn=>?_) (fun _ s' ⟨σ',H',I',q'⟩=>wpAny_pure (wpAny_pure ⟨σ',H',I',q'⟩)) fun _ _ e=>e)
  obtain ⟨o,es,ep,ho,hd,r⟩:=hn
  have IP:Inv X ((C,o)::pins) σ H4 s5:=IX.pins_of fun p hp=>(List.mem_cons.mp hp).elim (fun z=>by subst z;exact ⟨ho,fC,nL,nF,fun v z=>by rw [hd] at z;cases z⟩) fun z=>IX.pin p (List.mem_append_right _ z)
  refine wpAny_mono (hx ((C,o)::pins) s5 σ H4 (.ref Dd) (.ref Dd) D.nx IP rfl qn) (fun _ s6 ⟨σ6,H6,I6,q6⟩=>?_) fun _ _ e=>e
  obtain ⟨p1,p2,_⟩:=I6.pin (C,o) (List.mem_append_right _ (List.mem_cons_self ..))
  have I7:Inv X pins σ6 H6 s6:=I6.pins_of fun p hp=>I6.pin p (List.mem_append_right _ (List.mem_cons_of_mem _ hp))
  exact ⟨m,⟨o,es,ep,p1,hd,r⟩,fun h' hs'=>⟨σ6,H6,I7.turned (t':=s6.toks) (it:=C) (fun b o hb e=>(hs'.2 b hb).trans e) p2 nL (.inr sz) nc np,q6⟩⟩
end
end L2
namespace L2
open PySem PySem.Spec PyProof.Rows
theorem oz {X:Cx} {scope:Scope} {N:List Str} {js:List (Option Nat)} (hf:∀x∈scope.names,x.2≠ .free:=by decide+kernel) (hcell:∀x∈scope.names,x.2≠ .cell:=by decide+kernel)
    (hk:scope.kind= .function:=by rfl) (hn:∀y∈scope.names,y.2= .local→scope.names.lookup y.1=some .local:=by decide+kernel) (hl:js.length=N.length:=by rfl) (hj:∀j∈js,j=none:=by decide):CompOk X scope scope [] N js where
  clos:=closureFor_none hf
  rel:=by
    unfold relabel
    have e:(scope.names.map fun (x:Str×NameKind)=>match x with | (n,k)=>if (k == .free&&X.env.scope.kind == .function&&X.env.kindOf n == some .cell) then (n,NameKind.cell) else (n,k))=scope.names:=by
      refine map_eq_self fun x hx=>?_
      obtain ⟨n,k⟩:=x
      have:(k == NameKind.free)=false:=by simpa using hf _ hx
      simp [this]
    rw [e]
  nocell:=hcell
  kind:=hk
  names:=hn
  same:=fun x c e=>by simp at e
  has:=fun x h=>by
    rcases h with h | h
    · exact absurd rfl (hcell _ (PySem.mem_of_lookup h))
    · exact absurd rfl (hf _ (PySem.mem_of_lookup h))
  len:=hl
  from_:=fun i j h=>by
    have:=hj _ (List.mem_of_getElem? h)
    cases this
theorem vo {σ:St} {H:Hp} {A B:Bool→Hp→Prop} (h:A true H):sI σ H (fun b H4=>if b=true then A b H4 else B b H4):=by
  show (if true=true then A true H else B true H)
  rw [if_pos rfl]
  exact h
theorem qQ {i:Nat} {x:V} {σ:St} {H:Hp} {A B:St→Bool→Hp→Prop} (h:A (σ.set i (some x)) true H):eU i x σ H (fun σ3 H3=>sI σ3 H3 fun b H4=>if b=true then A σ3 b H4 else B σ3 b H4):=
  vo (σ:=σ.set i (some x)) (A:=A (σ.set i (some x))) (B:=B (σ.set i (some x))) h
structure Own (P:Program) (w:World) (K:PySem.W.Frag) (mg:Str→Option Value) (base:Heap) (k:Nat) (x:Str) (ps:List Str) (sp:Sp):Prop where
  ex:∃(f:Addr) (fd:FuncData),FnOk P w K mg base rZ k f fd ps sp∧Binds K fd ps []∧mg x=some (.ref f)∧PySem.W.keepIn K (.ref f)=true
theorem iL {X:Cx} {k:Nat} {x:Str} {ps:List Str} {sp:Sp} {p pos:Pos} {e:Expr} {es:List Expr} {t:TA} (D:Own X.prog X.w X.K X.mg X.base k x ps sp) (hr:Room k X.A) (hg:Gl X x) (ha:PA X (e::es) t)
    (hdb:(x == ("__debug__":Str))=false:=by decide) (he:starEach (e::es) X.env=(false,eval e X.env)::starEach es X.env:=by rfl) (hpl:(backTo pos (starEach es X.env)).any (·.1)=false:=by rfl):
    PE X (.Call (.Name x p) (e::es) [] pos) (pB sp [] E0 t):=by
  obtain ⟨f,fd,F,b,m,kp⟩:=D.ex
  exact vg F hr hg m kp b .nil yV ha hdb he hpl
structure Def (K:PySem.W.Frag) (mg:Str→Option Value) (x:Str) (st:Stmt) (ps:List Str):Prop where
  ex:∃(f:Addr) (fd:FuncData),Fun K x x st f fd∧mg x=some (.ref f)∧Binds K fd ps []
theorem Def.own {P:Program} {w:World} {K:PySem.W.Frag} {mg:Str→Option Value} {base:Heap} {x:Str} {st:Stmt} {N ps:List Str} {k:Nat} {sp:Sp} (D:Def K mg x st ps) (S:FnScope N ps (ao st))
    (len:∀vs H Q E,sp vs H Q E→vs.length=ps.length)
    (hbody:∀(f:Addr) (cdv:Value) (A:Around) (outer:List Env) (s:Shared) (H:Hp) (vs:List V) (Q:VK) (E:XK),Room k (A.deeper (envOfC x (ao st) s.heap.objs.size f cdv))→sp vs H Q E→
      ∃t,PSs (lC rZ P w K mg base N x (ao st) f cdv A outer s H E).nox (ca st) t∧t {nx:=fun _ H'=>Q .non H',rt:=Q} (cQ N vs) H):Own P w K mg base (k+1) x ps sp:=by
  obtain ⟨f,fd,F,m,b⟩:=D.ex
  exact ⟨f,fd,F.ok S len (hbody f),b,m,F.kp⟩
theorem xv {K:PySem.W.Frag} {h:Heap} {mg:Str→Option Value} {x:Str} {st:Stmt} {ps:List Str} {f:Addr} {oc:Value} {od an:Option Addr} {osl:Array (Option Value)} {kV doc pm cdv ct:Value} (X:K.In h) (G:h.Ns mainGlobals mg)
    (a:PySem.W.nsIn K mainGlobals x=some (some (.ref f))) (l:K.lookup f=some ⟨oc,od, .func (PySem.W.fnOf x x (dv st) (ca st) (ao st) .none kV doc pm an cdv ct),osl⟩)
    (c:PySem.W.codeIn K cdv x=true) (k:PySem.W.keepIn K (.ref f)=true)
    (b:∀(kV doc pm:Value) (an:Option Addr) (cdv ct:Value) (us:List Value),us.length=ps.length→bindArgs (PySem.W.fnOf x x (dv st) (ca st) (ao st) .none kV doc pm an cdv ct) ⟨us,[]⟩=pure (ps.zip us)):Def K mg x st ps:=
  ⟨f,_,ou l c k,PySem.W.mg_of X G a,(ou (st:=st) l c k).binds b⟩
end L2
namespace Nh
open PySem L2
section
variable {α β:Type} {F:α→β→Prop}
theorem gG:∀{a:List α} {b:List β} {c:List α} {d:List β},Paired F a b→Paired F c d→Paired F (a++c) (b++d)
  | _,_,_,_, .nil,s=>s
  | _,_,_,_, .cons r t,s=> .cons r (gG t s)
theorem pI:∀{a:List α} {b:List β} (n:Nat),Paired F a b→Paired F (a.take n) (b.take n)
  | _,_,0,_=> .nil
  | _,_,_+1, .nil=> .nil
  | _,_,n+1, .cons r t=> .cons r (pI n t)
theorem pJ:∀{a:List α} {b:List β} (n:Nat),Paired F a b→Paired F (a.drop n) (b.drop n)
  | _,_,0,r=>r
  | _,_,_+1, .nil=> .nil
  | _,_,n+1, .cons _ t=>pJ n t
theorem g7:∀{a:List α} {b:List β},Paired F a b→Paired F a.reverse b.reverse
  | _,_, .nil=> .nil
  | _,_, .cons r t=>by
    rw [List.reverse_cons,List.reverse_cons]
    exact gG (g7 t) (.cons r .nil)
theorem pK:∀{a:List α} {b:List β} {i:Nat} {y:β},Paired F a b→b[i]? =some y→∃x,a[i]? =some x∧F x y
  | _,_,_,_, .nil,e=>by simp at e
  | _,_,0,_, .cons r _,e=>by simp at e;subst e;exact ⟨_,rfl,r⟩
  | _,_,i+1,x, .cons _ t,e=>by
    obtain ⟨u,h1,h2⟩:=pK (i:=i) (y:=x) t (by simpa using e)
    exact ⟨u,by simpa using h1,h2⟩
theorem sJ {a:List α} {b:List β} (h:Paired F a b):∀k:Nat,Paired F (List.replicate k a).flatten (List.replicate k b).flatten
  | 0=> .nil
  | k+1=>by
    rw [List.replicate_succ,List.replicate_succ,List.flatten_cons,List.flatten_cons]
    exact gG h (sJ h k)
end
abbrev Pc:=Nat×Int
def tv (p:Pc):List V:=[.str ⟨#[p.1]⟩, .int p.2]
def Ah (H:Hp) (v:V) (p:Pc):Prop:=∃t,v= .ref t∧H t=some (.tup (tv p))
abbrev PAll (H:Hp):List V→List Pc→Prop:=Paired (Ah H)
section
variable {H H':Hp} {l:Addr} {xs ys:List V} {c:List Pc}
theorem PAll.same (s:Same H H') (h:PAll H xs c):PAll H' xs c:=Paired.mapP h fun _ _ ⟨t,e,q⟩=>⟨t,e,s _ _ q⟩
theorem PAll.len (h:PAll H xs c):xs.length=c.length:=Paired.length h
end
def Cord (H:Hp) (a:Addr) (c:List Pc):Prop:=∃xs,H a=some (.lst xs)∧PAll H xs c
section
variable {H H':Hp} {a:Addr} {c d:List Pc}
theorem Cord.same (s:Same H H') (h:Cord H a c):Cord H' a c:=let ⟨xs,e,p⟩:=h;⟨xs,s _ _ e,p.same s⟩
end
def cI (p:Pc):PyData:= .tuple [.str ⟨#[p.1]⟩, .int p.2]
def yY (c:List Pc):PyData:= .list (c.map cI)
def NailsOk (c:List Pc):Prop:=∀p∈c,p.1 < 128
theorem kS {K:PySem.W.Frag} {H:Hp}:∀{xs:List V} {c:List Pc},PAll H xs c→DAll K H xs (c.map cI)
  | _,_, .nil=> .nil
  | _,_, .cons ⟨t,e,q⟩ r=>by
    subst e
    exact .cons (.tup (SqT.of q) (.cons (.str _) (.cons (.int _) .nil))) (kS r)
theorem Cord.data {K:PySem.W.Frag} {H:Hp} {a:Addr} {c:List Pc} (h:Cord H a c):DOf K H (.ref a) (yY c):=
  let ⟨_,e,p⟩:=h; .lst (SqL.of e) (kS p)
end Nh
namespace PL
open PySem PySem.Spec PyProof.Rows L2 Nh
def xw:aP→PyData
  | .inl i=> .int i
  | .inr x=> .str x
mutual
inductive Rp (K:PySem.W.Frag) (H:Hp):V→PyData→Prop
  | non:Rp K H .non .none
  | bl (b:Bool):Rp K H (.bl b) (.bool b)
  | int (i:Int):Rp K H (.int i) (.int i)
  | str (x:Str):Rp K H (.str x) (.str x)
  | lst {a:Addr} {xs:List V} {ds:List PyData}:SqL K H a xs→RpA K H xs ds→Rp K H (.ref a) (.list ds)
  | tup {a:Addr} {xs:List V} {ds:List PyData}:SqT K H a xs→RpA K H xs ds→Rp K H (.ref a) (.tuple ds)
  | dct {a:Addr} {us:List (aP×V)} {kvs:List (PyData×PyData)}:Rd H a (.dK us)→RpK K H us kvs→Rp K H (.ref a) (.dict kvs)
inductive RpA (K:PySem.W.Frag) (H:Hp):List V→List PyData→Prop
  | nil:RpA K H [] []
  | cons {x:V} {xs:List V} {d:PyData} {ds:List PyData}:Rp K H x d→RpA K H xs ds→RpA K H (x::xs) (d::ds)
inductive RpK (K:PySem.W.Frag) (H:Hp):List (aP×V)→List (PyData×PyData)→Prop
  | nil:RpK K H [] []
  | cons {k:aP} {x:V} {us:List (aP×V)} {d:PyData} {kvs:List (PyData×PyData)}:Rp K H x d→RpK K H us kvs→RpK K H ((k,x)::us) ((xw k,d)::kvs)
end
mutual
def bV:PyData→Bool
  | .none=>true
  | .bool _=>true
  | .int _=>true
  | .str _=>true
  | .list _=>false
  | .tuple xs=>aW xs
  | .dict _=>false
def aW:List PyData→Bool
  | []=>true
  | d::ds=>bV d&&aW ds
end
def wl:HO→Bool
  | .tup _=>true
  | .frz _ _=>true
  | _=>false
def tups (H:Hp):Hp:=fun b=>(H b).filter wl
theorem iM (H:Hp):Same (tups H) H:=fun b o h=>(Option.filter_eq_some_iff.mp h).1
theorem eX {H:Hp} {b:Addr} {o:HO} (h:H b=some o) (c:wl o=true):tups H b=some o:=Option.filter_eq_some_iff.mpr ⟨h,c⟩
theorem mX {H:Hp} {l:Addr} {xs ys:List V} (h:H l=some (.lst xs)):tups (upd H l (.lst ys))=tups H:=by
  funext b
  unfold tups
  by_cases e:b=l
  · subst e
    rw [upd_same,h]
    rfl
  · rw [ak e]
section
variable {K:PySem.W.Frag} {H H':Hp}
theorem mY {a:Addr} {xs:List V} (h:SqT K H a xs):SqT K (tups H) a xs:=by
  rcases h with (h | ⟨o,h⟩) | h
  · exact .inl (.inl (eX h rfl))
  · exact .inl (.inr ⟨o,eX h rfl⟩)
  · exact .inr h
theorem lK {a:Addr} {u:HO} (s:Same H H') (h:Rd H a u):Rd H' a u:=by
  rcases h with h | ⟨o,h⟩
  · exact .inl (s _ _ h)
  · exact .inr ⟨o,s _ _ h⟩
theorem Rp.same (s:Same H H') {v:V} {d:PyData} (h:Rp K H v d):Rp K H' v d:=Rp.rec (motive_1:=fun v d _=>Rp K H' v d) (motive_2:=fun v d _=>RpA K H' v d) (motive_3:=fun v d _=>RpK K H' v d) .non .bl .int .str (fun h _ r=> .lst (s.seq h) r) (fun h _ r=> .tup (s.tup h) r) (fun h _ r=> .dct (lK s h) r) .nil (fun _ _ a b=> .cons a b) .nil (fun _ _ a b=> .cons a b) h
theorem RpA.same (s:Same H H') {v:List V} {d:List PyData} (h:RpA K H v d):RpA K H' v d:=RpA.rec (motive_1:=fun v d _=>Rp K H' v d) (motive_2:=fun v d _=>RpA K H' v d) (motive_3:=fun v d _=>RpK K H' v d) .non .bl .int .str (fun h _ r=> .lst (s.seq h) r) (fun h _ r=> .tup (s.tup h) r) (fun h _ r=> .dct (lK s h) r) .nil (fun _ _ a b=> .cons a b) .nil (fun _ _ a b=> .cons a b) h
theorem RpK.same (s:Same H H') {v:List (aP×V)} {d:List (PyData×PyData)} (h:RpK K H v d):RpK K H' v d:=RpK.rec (motive_1:=fun v d _=>Rp K H' v d) (motive_2:=fun v d _=>RpA K H' v d) (motive_3:=fun v d _=>RpK K H' v d) .non .bl .int .str (fun h _ r=> .lst (s.seq h) r) (fun h _ r=> .tup (s.tup h) r) (fun h _ r=> .dct (lK s h) r) .nil (fun _ _ a b=> .cons a b) .nil (fun _ _ a b=> .cons a b) h
theorem Rp.cold {v:V} {d:PyData} (h:Rp K H v d) (e:bV d=true):Rp K (tups H) v d:=Rp.rec (motive_1:=fun v d _=>bV d=true→Rp K (tups H) v d) (motive_2:=fun v d _=>aW d=true→RpA K (tups H) v d) (motive_3:=fun _ _ _=>True) (fun _=> .non) (fun b _=> .bl b) (fun i _=> .int i) (fun x _=> .str x) (fun _ _ _ e=>nomatch e) (fun h _ r e=> .tup (mY h) (r e)) (fun _ _ _ e=>nomatch e) (fun _=> .nil) (fun _ _ a b e=> .cons (a (Bool.and_eq_true_iff.mp e).1) (b (Bool.and_eq_true_iff.mp e).2)) trivial (fun _ _ _ _=>trivial) h e
theorem RpA.cold {v:List V} {d:List PyData} (h:RpA K H v d) (e:aW d=true):RpA K (tups H) v d:=RpA.rec (motive_1:=fun v d _=>bV d=true→Rp K (tups H) v d) (motive_2:=fun v d _=>aW d=true→RpA K (tups H) v d) (motive_3:=fun _ _ _=>True) (fun _=> .non) (fun b _=> .bl b) (fun i _=> .int i) (fun x _=> .str x) (fun _ _ _ e=>nomatch e) (fun h _ r e=> .tup (mY h) (r e)) (fun _ _ _ e=>nomatch e) (fun _=> .nil) (fun _ _ a b e=> .cons (a (Bool.and_eq_true_iff.mp e).1) (b (Bool.and_eq_true_iff.mp e).2)) trivial (fun _ _ _ _=>trivial) h e
theorem Rp.dof' {v:V} {d:PyData} (h:Rp K H v d) (e:d.canLay0=true):DOf K H v d:=Rp.rec (motive_1:=fun v d _=>d.canLay0=true→DOf K H v d) (motive_2:=fun v d _=>PyData.canLayAll0 d=true→DAll K H v d) (motive_3:=fun _ _ _=>True) (fun _=> .non) (fun b _=> .bl b) (fun i _=> .int i) (fun x _=> .str x) (fun h _ r e=> .lst h (r e)) (fun h _ r e=> .tup h (r e)) (fun _ _ _ e=>nomatch e) (fun _=> .nil) (fun _ _ a b e=> .cons (a (Bool.and_eq_true_iff.mp e).1) (b (Bool.and_eq_true_iff.mp e).2)) trivial (fun _ _ _ _=>trivial) h e
theorem Rp.dof {v:V} {d:PyData} (h:Rp K H v d) (e:SeqAt.shaped d=true):DOf K H v d:=h.dof' (SeqAt.canLay_of_shaped e)
theorem RpA.pr {vs:List V} {ds:List PyData} (h:RpA K H vs ds):Paired (Rp K H) vs ds:=RpA.rec (motive_1:=fun _ _ _=>True) (motive_2:=fun v d _=>Paired (Rp K H) v d) (motive_3:=fun _ _ _=>True) trivial (fun _=>trivial) (fun _=>trivial) (fun _=>trivial) (fun _ _ _=>trivial) (fun _ _ _=>trivial) (fun _ _ _=>trivial) .nil (fun h _ _ b=> .cons h b) trivial (fun _ _ _ _=>trivial) h
theorem RpA.of {vs:List V} {ds:List PyData} (h:Paired (Rp K H) vs ds):RpA K H vs ds:=by
  induction h with
  | nil=>exact .nil
  | cons a _ b=>exact .cons a b
theorem RpA.len {vs:List V} {ds:List PyData} (h:RpA K H vs ds):vs.length=ds.length:=Paired.length h.pr
theorem RpA.append {vs us:List V} {ds es:List PyData} (h:RpA K H vs ds) (k:RpA K H us es):RpA K H (vs++us) (ds++es):= .of (gG h.pr k.pr)
theorem RpA.take {vs:List V} {ds:List PyData} (n:Nat) (h:RpA K H vs ds):RpA K H (vs.take n) (ds.take n):= .of (pI n h.pr)
theorem RpA.drop {vs:List V} {ds:List PyData} (n:Nat) (h:RpA K H vs ds):RpA K H (vs.drop n) (ds.drop n):= .of (pJ n h.pr)
theorem RpA.rev {vs:List V} {ds:List PyData} (h:RpA K H vs ds):RpA K H vs.reverse ds.reverse:= .of (g7 h.pr)
theorem RpA.rep {vs:List V} {ds:List PyData} (n:Nat) (h:RpA K H vs ds):RpA K H (List.replicate n vs).flatten (List.replicate n ds).flatten:= .of (sJ h.pr n)
theorem RpA.get {vs:List V} {ds:List PyData} {i:Nat} {d:PyData} (h:RpA K H vs ds) (e:ds[i]? =some d):∃v,vs[i]? =some v∧Rp K H v d:=pK h.pr e
theorem RpA.set:∀{vs:List V} {ds:List PyData} {v:V} {d:PyData} (i:Nat),RpA K H vs ds→Rp K H v d→RpA K H (vs.set i v) (ds.set i d)
  | _,_,_,_,_, .nil,_=> .nil
  | _,_,_,_,0, .cons _ r,h=> .cons h r
  | _,_,_,_,i+1, .cons q r,h=> .cons q (RpA.set i r h)
theorem RpA.snoc {vs:List V} {ds:List PyData} {v:V} {d:PyData} (h:RpA K H vs ds) (k:Rp K H v d):RpA K H (vs++[v]) (ds++[d]):=h.append (.cons k .nil)
end
inductive Pt where
  | fl (d:PyData) | ol (ds:List PyData)
def Pt.val:Pt→PyData
  | .fl d=>d
  | .ol ds=> .list ds
inductive Sl where
  /-- nothing is known -/
  | no
  /-- never written again -/
  | sh (d:PyData)
  /-- a list of one's own -/
  | ow (ds:List PyData)
  /-- a dict of one's own,its values lists of one's own -/
  | od (kvs:List (aP×List PyData))
  /-- a dict of one's own,its values bV -/
  | oi (kvs:List (aP×PyData))
  /-- a tuple with lists of one's own -/
  | tx (ps:List Pt)
  /-- (a part of an expression) the value of a name -/
  | al (i:Nat)
  /-- (a part of an expression) as it stands just now -/
  | br (d:PyData)
def PtsOk (K:PySem.W.Frag) (F H:Hp):List V→List Pt→List Addr→Prop
  | [],[],A=>A=[]
  | v::vs, .fl d::ps,A=>Rp K F v d∧PtsOk K F H vs ps A
  | v::vs, .ol ds::ps,A=>∃l us A',v= .ref l∧A=l::A'∧H l=some (.lst us)∧RpA K F us ds∧PtsOk K F H vs ps A'
  | _,_,_=>False
def KvOk (K:PySem.W.Frag) (F:Hp):List (aP×V)→List (aP×PyData)→Prop:=Paired fun p q=>p.1=q.1∧Rp K F p.2 q.2
def DlOk (K:PySem.W.Frag) (F H:Hp):List (aP×V)→List (aP×List PyData)→List Addr→Prop
  | [],[],A=>A=[]
  | p::us,q::kvs,A=>∃l vs A',p=(q.1, .ref l)∧A=l::A'∧H l=some (.lst vs)∧RpA K F vs q.2∧DlOk K F H us kvs A'
  | _,_,_=>False
def SlOk (K:PySem.W.Frag) (F H:Hp) (σ:L2.St) (o:Option V):Sl→List Addr→Prop
  | .no,A=>A=[]
  | .sh d,A=>A=[]∧∃v,o=some v∧Rp K F v d
  | .ow ds,A=>∃l vs,o=some (.ref l)∧A=[l]∧H l=some (.lst vs)∧RpA K F vs ds
  | .od kvs,A=>∃l us A',o=some (.ref l)∧A=l::A'∧H l=some (.dK us)∧DlOk K F H us kvs A'
  | .oi kvs,A=>∃l us,o=some (.ref l)∧A=[l]∧H l=some (.dK us)∧KvOk K F us kvs
  | .tx ps,A=>∃t vs,o=some (.ref t)∧F t=some (.tup vs)∧PtsOk K F H vs ps A
  | .al i,A=>A=[]∧∃v,o=some v∧σ[i]? =some (some v)
  | .br d,A=>A=[]∧∃v,o=some v∧Rp K H v d
def Sl.isBr:Sl→Bool
  | .br _=>true
  | _=>false
def Sl.isAl:Sl→Bool
  | .al _=>true
  | .br _=>true
  | _=>false
section
variable {K:PySem.W.Frag} {F F' H H':Hp} {σ σ':L2.St}
theorem PtsOk.stay (s:Same F F'):∀{vs:List V} {ps:List Pt} {A:List Addr},(∀b∈A,H' b=H b)→PtsOk K F H vs ps A→PtsOk K F' H' vs ps A
  | [],[],A,_,h=>h
  | v::vs, .fl d::ps,A,e,h=>⟨h.1.same s,PtsOk.stay s e h.2⟩
  | v::vs, .ol ds::ps,A,e,h=>by
    obtain ⟨l,us,A',rfl,rfl,hl,hr,q⟩:=h
    exact ⟨l,us,A',rfl,rfl,(e l (List.mem_cons_self ..)).trans hl,hr.same s,q.stay s fun b hb=>e b (List.mem_cons_of_mem _ hb)⟩
  | [],_::_,_,_,h=>False.elim h
  | _::_,[],_,_,h=>False.elim h
theorem DlOk.stay (s:Same F F'):∀{us:List (aP×V)} {kvs:List (aP×List PyData)} {A:List Addr},(∀b∈A,H' b=H b)→DlOk K F H us kvs A→DlOk K F' H' us kvs A
  | [],[],A,_,h=>h
  | p::us,q::kvs,A,e,h=>by
    obtain ⟨l,vs,A',rfl,rfl,hl,hr,k⟩:=h
    exact ⟨l,vs,A',rfl,rfl,(e l (List.mem_cons_self ..)).trans hl,hr.same s,k.stay s fun b hb=>e b (List.mem_cons_of_mem _ hb)⟩
  | [],_::_,_,_,h=>False.elim h
  | _::_,[],_,_,h=>False.elim h
theorem DlOk.some:∀{us:List (aP×V)} {kvs:List (aP×List PyData)} {A:List Addr},DlOk K F H us kvs A→∀a∈A,∃vs,H a=some (.lst vs)
  | [],[],A,h,a,ha=>by rw [show A=[] from h] at ha;cases ha
  | p::us,q::kvs,A,h,a,ha=>by
    obtain ⟨l,vs,A',rfl,rfl,hl,hr,k⟩:=h
    rcases List.mem_cons.mp ha with e | e
    · subst e;exact ⟨vs,hl⟩
    · exact k.some a e
  | [],_::_,_,h,_,_=>False.elim h
  | _::_,[],_,h,_,_=>False.elim h
theorem PtsOk.some:∀{vs:List V} {ps:List Pt} {A:List Addr},PtsOk K F H vs ps A→∀a∈A,∃us,H a=some (.lst us)
  | [],[],A,h,a,ha=>by rw [show A=[] from h] at ha;cases ha
  | v::vs, .fl d::ps,A,h,a,ha=>PtsOk.some h.2 a ha
  | v::vs, .ol ds::ps,A,h,a,ha=>by
    obtain ⟨l,us,A',rfl,rfl,hl,hr,q⟩:=h
    rcases List.mem_cons.mp ha with e | e
    · subst e;exact ⟨us,hl⟩
    · exact q.some a e
  | [],_::_,_,h,_,_=>False.elim h
  | _::_,[],_,h,_,_=>False.elim h
theorem PtsOk.rp (s:Same F H):∀{vs:List V} {ps:List Pt} {A:List Addr},PtsOk K F H vs ps A→RpA K H vs (ps.map Pt.val)
  | [],[],A,_=> .nil
  | v::vs, .fl d::ps,A,h=> .cons (h.1.same s) (PtsOk.rp s h.2)
  | v::vs, .ol ds::ps,A,h=>by
    obtain ⟨l,us,A',rfl,rfl,hl,hr,q⟩:=h
    exact .cons (.lst (SqL.of hl) (hr.same s)) (q.rp s)
  | [],_::_,_,h=>False.elim h
  | _::_,[],_,h=>False.elim h
theorem KvOk.same (s:Same F F') {us:List (aP×V)} {kvs:List (aP×PyData)} (h:KvOk K F us kvs):KvOk K F' us kvs:=by
  induction h with
  | nil=>exact .nil
  | cons a _ b=>exact .cons ⟨a.1,a.2.same s⟩ b
theorem SlOk.stay {o:Option V} {s:Sl} {A:List Addr} (hF:Same F F') (e:∀b∈A,H' b=H b) (hb:s.isBr=true→Same H H') (h:SlOk K F H σ o s A):SlOk K F' H' σ o s A:=by
  cases s with
  | no=>exact h
  | sh d=>obtain ⟨rfl,v,rfl,r⟩:=h;exact ⟨rfl,v,rfl,r.same hF⟩
  | ow ds=>obtain ⟨l,vs,rfl,rfl,hl,r⟩:=h;exact ⟨l,vs,rfl,rfl,(e l (by simp)).trans hl,r.same hF⟩
  | od kvs=>obtain ⟨l,us,A',rfl,rfl,hl,r⟩:=h;exact ⟨l,us,A',rfl,rfl,(e l (by simp)).trans hl,r.stay hF fun b hb=>e b (List.mem_cons_of_mem _ hb)⟩
  | oi kvs=>obtain ⟨l,us,rfl,rfl,hl,r⟩:=h;exact ⟨l,us,rfl,rfl,(e l (by simp)).trans hl,r.same hF⟩
  | tx ps=>obtain ⟨t,vs,rfl,ht,r⟩:=h;exact ⟨t,vs,rfl,hF _ _ ht,r.stay hF e⟩
  | al i=>exact h
  | br d=>obtain ⟨rfl,v,rfl,r⟩:=h;exact ⟨rfl,v,rfl,r.same (hb rfl)⟩
theorem SlOk.mut {o:Option V} {s:Sl} {A:List Addr} (h:SlOk K F H σ o s A):∀a∈A,(∃us,H a=some (.lst us))∨∃us,H a=some (.dK us):=by
  cases s with
  | no=>intro a ha;rw [show A=[] from h] at ha;cases ha
  | sh d=>obtain ⟨rfl,_⟩:=h;intro a ha;cases ha
  | ow ds=>obtain ⟨l,vs,rfl,rfl,hl,r⟩:=h;intro a ha;rw [List.mem_singleton.mp ha];exact .inl ⟨_,hl⟩
  | od kvs=>
    obtain ⟨l,vs,A',rfl,rfl,hl,r⟩:=h
    intro a ha
    rcases List.mem_cons.mp ha with z | z
    · rw [z];exact .inr ⟨_,hl⟩
    · exact .inl (r.some a z)
  | oi kvs=>obtain ⟨l,us,rfl,rfl,hl,r⟩:=h;intro a ha;rw [List.mem_singleton.mp ha];exact .inr ⟨_,hl⟩
  | tx ps=>obtain ⟨t,vs,rfl,ht,r⟩:=h;exact fun a ha=> .inl (r.some a ha)
  | al i=>obtain ⟨rfl,_⟩:=h;intro a ha;cases ha
  | br d=>obtain ⟨rfl,_⟩:=h;intro a ha;cases ha
end
inductive SAll (P:Option V→Sl→List Addr→Prop):List (Option V)→List Sl→List Addr→Prop
  | nil:SAll P [] [] []
  | cons {o:Option V} {s:Sl} {A:List Addr} {os:List (Option V)} {ss:List Sl} {B:List Addr}:P o s A→SAll P os ss B→SAll P (o::os) (s::ss) (A++B)
section
variable {P P':Option V→Sl→List Addr→Prop}
theorem SAll.len {os:List (Option V)} {ss:List Sl} {A:List Addr} (h:SAll P os ss A):os.length=ss.length:=by
  induction h with
  | nil=>rfl
  | cons _ _ b=>exact congrArg (· +1) b
theorem SAll.mono {os:List (Option V)} {ss:List Sl} {A:List Addr} (h:SAll P os ss A):(∀o s B,s∈ss→(∀b∈B,b∈A)→P o s B→P' o s B)→SAll P' os ss A:=by
  induction h with
  | nil=>exact fun _=> .nil
  | cons h _ r=>exact fun f=> .cons (f _ _ _ (List.mem_cons_self ..) (fun b hb=>List.mem_append_left _ hb) h) (r fun o s B hs hB q=>f o s B (List.mem_cons_of_mem _ hs) (fun b hb=>List.mem_append_right _ (hB b hb)) q)
theorem SAll.all {R:Addr→Prop} (hR:∀o s B,P o s B→∀b∈B,R b) {os:List (Option V)} {ss:List Sl} {A:List Addr} (h:SAll P os ss A):∀a∈A,R a:=by
  induction h with
  | nil=>exact fun _ ha=>nomatch ha
  | cons h _ r=>exact fun a ha=>(List.mem_append.mp ha).elim (hR _ _ _ h a) (r a)
theorem SAll.at:∀{os:List (Option V)} {ss:List Sl} {A:List Addr} {k:Nat} {s:Sl},SAll P os ss A→ss[k]? =some s→
    ∃o A0 A1 A2,A=A0++(A1++A2)∧os[k]? =some o∧P o s A1∧∀(P':Option V→Sl→List Addr→Prop) (o':Option V) (s':Sl) (A1':List Addr),P' o' s' A1'→
      (∀o s B,s∈ss→(∀b∈B,b∈A0∨b∈A2)→P o s B→P' o s B)→SAll P' (os.set k o') (ss.set k s') (A0++(A1'++A2))
  | _,_,_,_,_, .nil,e=>by simp at e
  | _,_,_,0,s, .cons (o:=o) (A:=A) (B:=B) h r,e=>by
    simp at e;subst e
    refine ⟨o,[],A,B,by simp,rfl,h,fun P' o' s' A1' h' f=>?_⟩
    have z:SAll P' _ _ (A1'++B):= .cons h' (r.mono (P':=P') fun o s B hs hB q=>f o s B (List.mem_cons_of_mem _ hs) (fun b hb=> .inr (hB b hb)) q)
    exact z
  | _,_,_,k+1,s, .cons (o:=o) (A:=A) (B:=B) h r,e=>by
    obtain ⟨o2,A0,A1,A2,eA,eo,hp,f⟩:=r.at (k:=k) (s:=s) (by simpa using e)
    subst eA
    refine ⟨o2,A++A0,A1,A2,by simp,by simpa using eo,hp,fun P' o' s' A1' h' g=>?_⟩
    have z:=f P' o' s' A1' h' fun o s B hs hB q=>g o s B (List.mem_cons_of_mem _ hs) (fun b hb=>(hB b hb).imp (fun x=>List.mem_append_right _ x) id) q
    rw [List.append_assoc]
    exact .cons (g _ _ _ (List.mem_cons_self ..) (fun b hb=> .inl (List.mem_append_left _ hb)) h) z
end
end PL
namespace PL
open PySem L2 Nh
abbrev Sg:=L2.St
structure FrF (K:PySem.W.Frag) (B F:Hp) (A:List Addr) (σ:Sg) (H:Hp) (E:List Sl) (xs:List V) (Xs:List Sl):Prop where
  bf:Same B F
  fh:Same F H
  tf:Same (tups H) F
  sl:SAll (SlOk K F H σ) (xs.map some++σ) (Xs++E) A
  nd:A.Nodup
  fr:∀a∈A,F a=none
  len:xs.length=Xs.length
  pl:∀s∈E,s.isAl=false
def Frm (K:PySem.W.Frag) (B:Hp) (σ:Sg) (H:Hp) (E:List Sl) (xs:List V) (Xs:List Sl):Prop:=∃F A,FrF K B F A σ H E xs Xs
def Sl.val:Sl→Option PyData
  | .sh d=>some d
  | .ow ds=>some (.list ds)
  | .tx ps=>some (.tuple (ps.map Pt.val))
  | .br d=>some d
  | _=>none
def look (E:List Sl):Sl→Option PyData
  | .al i=>(E[i]?).bind Sl.val
  | s=>s.val
def bM:Sl→Bool
  | .br _=>true
  | .tx _=>true
  | _=>false
def cV (E:List Sl):Sl→Bool
  | .al i=>(E[i]?).any bM
  | s=>bM s
def RpF (K:PySem.W.Frag) (F H:Hp) (v:V):PyData→Prop
  | .list ds=>∃a vs,v= .ref a∧SqL K H a vs∧RpA K F vs ds
  | d=>Rp K F v d
def mZ (F H:Hp) (A:List Addr):Hp:=fun b=>if b∈A then H b else F b
theorem lL {F H:Hp} {A:List Addr} {b:Addr} (h:b∈A):mZ F H A b=H b:=if_pos h
theorem jN {F H:Hp} {A:List Addr} {b:Addr} (h:b∉A):mZ F H A b=F b:=if_neg h
section
variable {K:PySem.W.Frag} {B F:Hp} {A:List Addr} {σ:Sg} {H:Hp} {E:List Sl} {xs:List V} {Xs:List Sl} {v:V} {s:Sl} {d:PyData}
theorem RpF.of (h:Rp K F v d) (s:Same F H):RpF K F H v d:=by
  cases h with
  | lst h r=>exact ⟨_,_,rfl,s.seq h,r⟩
  | non=>exact .non
  | bl b=>exact .bl b
  | int i=>exact .int i
  | str x=>exact .str x
  | tup h r=>exact .tup h r
  | dct h r=>exact .dct h r
theorem SlOk.val {o:Option V} {A1:List Addr} (h:SlOk K F H σ o s A1) (hF:Same F H) (e:s.val=some d):∃v,o=some v∧Rp K H v d∧(bM s=false→RpF K F H v d):=by
  cases s with
  | no=>cases e
  | sh d'=>
    obtain ⟨rfl,v,rfl,r⟩:=h
    cases e
    exact ⟨v,rfl,r.same hF,fun _=>RpF.of r hF⟩
  | ow ds=>
    obtain ⟨l,vs,rfl,rfl,hl,r⟩:=h
    cases e
    exact ⟨_,rfl, .lst (SqL.of hl) (r.same hF),fun _=>⟨_,_,rfl,SqL.of hl,r⟩⟩
  | od kvs=>cases e
  | oi kvs=>cases e
  | tx ps=>
    obtain ⟨t,vs,rfl,ht,r⟩:=h
    cases e
    exact ⟨_,rfl, .tup (SqT.of (hF _ _ ht)) (r.rp hF),fun z=>by cases z⟩
  | al i=>cases e
  | br d'=>
    obtain ⟨rfl,v,rfl,r⟩:=h
    cases e
    exact ⟨v,rfl,r,fun z=>by cases z⟩
theorem FrF.slen (h:FrF K B F A σ H E xs Xs):σ.length=E.length:=by
  have e:=h.sl.len
  have:=h.len
  simp only [List.length_append,List.length_map] at e
  omega
theorem FrF.var {i:Nat} (h:FrF K B F A σ H E xs Xs) (e:E[i]? =some s):∃o A1,σ[i]? =some o∧SlOk K F H σ o s A1:=by
  obtain ⟨o,A0,A1,A2,eA,eo,hp,_⟩:=h.sl.at (k:=Xs.length+i) (s:=s) (by rw [List.getElem?_append_right (by omega)];simpa using e)
  rw [List.getElem?_append_right (by rw [List.length_map,h.len];omega),List.length_map,h.len,Nat.add_sub_cancel_left] at eo
  exact ⟨o,A1,eo,hp⟩
theorem FrF.ext {k:Nat} (h:FrF K B F A σ H E xs Xs) (e:Xs[k]? =some s):∃v A1,xs[k]? =some v∧SlOk K F H σ (some v) s A1:=by
  have hk:k < Xs.length:=(List.getElem?_eq_some_iff.mp e).1
  obtain ⟨o,A0,A1,A2,eA,eo,hp,_⟩:=h.sl.at (k:=k) (s:=s) (by rw [List.getElem?_append_left hk];exact e)
  rw [List.getElem?_append_left (by rw [List.length_map,h.len];omega),List.getElem?_map] at eo
  cases q:xs[k]? with
  | none=>rw [q] at eo;cases eo
  | some v=>rw [q] at eo;cases eo;exact ⟨v,A1,rfl,hp⟩
theorem FrF.look {k:Nat} (h:FrF K B F A σ H E xs Xs) (e:Xs[k]? =some s) (q:look E s=some d):∃v,xs[k]? =some v∧Rp K H v d∧(cV E s=false→RpF K F H v d):=by
  obtain ⟨v,A1,ev,hs⟩:=h.ext e
  cases s with
  | al i=>
    obtain ⟨rfl,w,ew,hw⟩:=hs
    cases ew
    cases ei:E[i]? with
    | none=>simp [PL.look,ei] at q
    | some t=>
      obtain ⟨o,A2,eo,ht⟩:=h.var ei
      rw [hw] at eo
      cases eo
      obtain ⟨v',e',r,c⟩:=ht.val h.fh (d:=d) (by simpa [PL.look,ei] using q)
      cases e'
      exact ⟨v,ev,r,fun z=>c (by simpa [cV,ei] using z)⟩
  | no=>cases q
  | od kvs=>cases q
  | oi kvs=>cases q
  | sh d'=>obtain ⟨v',e',r,c⟩:=hs.val h.fh q;cases e';exact ⟨v,ev,r,c⟩
  | ow ds=>obtain ⟨v',e',r,c⟩:=hs.val h.fh q;cases e';exact ⟨v,ev,r,c⟩
  | tx ps=>obtain ⟨v',e',r,c⟩:=hs.val h.fh q;cases e';exact ⟨v,ev,r,c⟩
  | br d'=>obtain ⟨v',e',r,c⟩:=hs.val h.fh q;cases e';exact ⟨v,ev,r,c⟩
theorem FrF.look0 (h:FrF K B F A σ H E (v::xs) (s::Xs)) (q:PL.look E s=some d):Rp K H v d∧(cV E s=false→RpF K F H v d):=by
  obtain ⟨v',e,r⟩:=h.look (k:=0) rfl q
  cases e
  exact r
theorem FrF.look1 {w:V} {t:Sl} (h:FrF K B F A σ H E (w::v::xs) (t::s::Xs)) (q:PL.look E s=some d):Rp K H v d∧(cV E s=false→RpF K F H v d):=by
  obtain ⟨v',e,r⟩:=h.look (k:=1) rfl q
  cases e
  exact r
theorem FrF.mutA (h:FrF K B F A σ H E xs Xs):∀a∈A,(∃us,H a=some (.lst us))∨∃us,H a=some (.dK us):=
  SAll.all (R:=fun a=>(∃us,H a=some (.lst us))∨∃us,H a=some (.dK us)) (fun _ _ _ q=>q.mut) h.sl
theorem FrF.newA {p:Addr} (h:FrF K B F A σ H E xs Xs) (hp:H p=none):p∉A:=fun hm=>by
  rcases h.mutA p hm with ⟨_,z⟩ | ⟨_,z⟩ <;> rw [hp] at z <;> cases z
theorem FrF.cold {u:V} {e:PyData} (h:FrF K B F A σ H E xs Xs) (r:Rp K H u e) (f:bV e=true):Rp K F u e:=(r.cold f).same h.tf
theorem FrF.coldA {us:List V} {es:List PyData} (h:FrF K B F A σ H E xs Xs) (r:RpA K H us es) (f:aW es=true):RpA K F us es:=(r.cold f).same h.tf
theorem FrF.push (h:FrF K B F A σ H E xs Xs) (q:SlOk K F H σ (some v) s []):FrF K B F A σ H E (v::xs) (s::Xs):=
  ⟨h.bf,h.fh,h.tf, .cons (A:=[]) q h.sl,h.nd,h.fr,by simp [h.len],h.pl⟩
theorem FrF.pop (h:FrF K B F A σ H E (v::xs) (s::Xs)):∃A',FrF K B F A' σ H E xs Xs:=by
  obtain ⟨bf,fh,tf,sl,nd,fr,len,pl⟩:=h
  generalize hT:List.map some (v::xs)++σ=T at sl
  generalize hS:(s::Xs)++E=S at sl
  cases sl with
  | nil=>cases hS
  | cons q r=>
    injection hT with _ hT
    injection hS with _ hS
    subst hT hS
    exact ⟨_,bf,fh,tf,r,(List.nodup_append.mp nd).2.1,fun a ha=>fr a (List.mem_append_right _ ha),by simpa using len,pl⟩
theorem FrF.grow {H':Hp} (h:FrF K B F A σ H E xs Xs) (g:Same H H'):FrF K B (fun b=>if b∈A then none else H' b) A σ H' E xs Xs:=by
  have nF:∀b o,F b=some o→b∉A:=fun b o e hb=>by rw [h.fr b hb] at e;cases e
  have FF:Same F (fun b=>if b∈A then none else H' b):=fun b o e=>by
    show (if b∈A then none else H' b)=some o
    rw [if_neg (nF b o e)]
    exact g _ _ (h.fh _ _ e)
  have hA:∀b∈A,H' b=H b:=fun b hb=>by
    rcases h.mutA b hb with ⟨_,z⟩ | ⟨_,z⟩ <;> rw [z,g _ _ z]
  refine ⟨h.bf.trans FF,fun b o e=>?_,fun b o e=>?_,h.sl.mono fun o s C _ hC q=>q.stay FF (fun b hb=>hA b (hC b hb)) fun _=>g,h.nd,fun a ha=>if_pos ha,h.len,h.pl⟩
  · by_cases hb:b∈A
    · rw [if_pos hb] at e;cases e
    · rw [if_neg hb] at e;exact e
  · obtain ⟨e1,e2⟩:=Option.filter_eq_some_iff.mp e
    show (if b∈A then none else H' b)=some o
    by_cases hb:b∈A
    · rw [hA b hb] at e1
      rcases h.mutA b hb with ⟨_,z⟩ | ⟨_,z⟩ <;> rw [z] at e1 <;> cases e1 <;> cases e2
    · rw [if_neg hb];exact e1
theorem FrF.newl {p:Addr} {vs:List V} {ds:List PyData} (h:FrF K B F A σ H E xs Xs) (r:RpA K F vs ds) (hp:H p=none):FrF K B F (p::A) σ (upd H p (.lst vs)) E (.ref p::xs) (.ow ds::Xs):=by
  have g:Same H (upd H p (.lst vs)):=bt hp _
  have nA:=h.newA hp
  refine ⟨h.bf,h.fh.trans g,fun b o e=>?_, .cons (A:=[p]) ⟨p,vs,rfl,rfl,upd_same,r⟩ (h.sl.mono fun o s C _ hC q=>q.stay (Same.refl _) (fun b hb=>ak fun z=>nA (z▸hC b hb)) fun _=>g),List.nodup_cons.mpr ⟨nA,h.nd⟩,fun a ha=>?_,by simp [h.len],h.pl⟩
  · obtain ⟨e1,e2⟩:=Option.filter_eq_some_iff.mp e
    by_cases hb:b=p
    · subst hb;rw [upd_same] at e1;cases e1;cases e2
    · rw [ak hb] at e1;exact h.tf b o (eX e1 e2)
  · rcases List.mem_cons.mp ha with z | z
    · subst z;exact h.fh.free hp
    · exact h.fr a z
theorem FrF.newt {p:Addr} {vs:List V} {ds:List PyData} (h:FrF K B F A σ H E xs Xs) (r:RpA K F vs ds) (hp:H p=none):FrF K B (upd F p (.tup vs)) A σ (upd H p (.tup vs)) E (.ref p::xs) (.sh (.tuple ds)::Xs):=by
  have g:Same H (upd H p (.tup vs)):=bt hp _
  have nA:=h.newA hp
  have gF:Same F (upd F p (.tup vs)):=bt (h.fh.free hp) _
  refine ⟨h.bf.trans gF,fun b o e=>?_,fun b o e=>?_, .cons (A:=[]) ⟨rfl,_,rfl, .tup (.inl (.inl upd_same)) (r.same gF)⟩ (h.sl.mono fun o s C _ hC q=>q.stay gF (fun b hb=>ak fun z=>nA (z▸hC b hb)) fun _=>g),h.nd,fun a ha=>?_,by simp [h.len],h.pl⟩
  · by_cases hb:b=p
    · subst hb;rw [upd_same] at e ⊢;exact e
    · rw [ak hb] at e ⊢;exact h.fh _ _ e
  · obtain ⟨e1,e2⟩:=Option.filter_eq_some_iff.mp e
    by_cases hb:b=p
    · subst hb;rw [upd_same] at e1 ⊢;exact e1
    · rw [ak hb] at e1 ⊢;exact h.tf b o (eX e1 e2)
  · have ne:a≠p:=fun z=>nA (z▸ha)
    rw [ak ne];exact h.fr a ha
theorem FrF.mut {i:Nat} {ds:List PyData} (h:FrF K B F A σ H E xs Xs) (e:E[i]? =some (.ow ds)) (c:∀s∈Xs,s.isBr=false):
    ∃l vs,σ[i]? =some (some (.ref l))∧H l=some (.lst vs)∧RpA K F vs ds∧∀vs' ds',RpA K F vs' ds'→FrF K B F A σ (upd H l (.lst vs')) (E.set i (.ow ds')) xs Xs:=by
  obtain ⟨o,A0,A1,A2,eA,eo,hp,put⟩:=h.sl.at (k:=Xs.length+i) (s:= .ow ds) (by rw [List.getElem?_append_right (by omega)];simpa using e)
  rw [List.getElem?_append_right (by rw [List.length_map,h.len];omega),List.length_map,h.len,Nat.add_sub_cancel_left] at eo
  obtain ⟨l,vs,rfl,rfl,hl,r⟩:=hp
  refine ⟨l,vs,eo,hl,r,fun vs' ds' r'=>?_⟩
  have hlA:l∈A:=by rw [eA];simp
  have nl:∀b,b∈A0∨b∈A2→b≠l:=fun b hb z=>by
    subst z
    have nd:=h.nd
    rw [eA] at nd
    rcases hb with hb | hb
    · exact (List.nodup_append.mp nd).2.2 b hb b (by simp) rfl
    · exact (List.nodup_append.mp (List.nodup_append.mp nd).2.1).2.2 b (by simp) b hb rfl
  have lF:F l=none:=h.fr l hlA
  have z:=put (SlOk K F (upd H l (.lst vs')) σ) (some (.ref l)) (.ow ds') [l] ⟨l,vs',rfl,rfl,upd_same,r'⟩ fun o s C hs hC q=>q.stay (Same.refl _) (fun b hb=>ak (nl b (hC b hb))) fun z=>by
    rcases List.mem_append.mp hs with hs | hs
    · rw [c s hs] at z;cases z
    · have:=h.pl s hs
      cases s <;> simp [Sl.isAl,Sl.isBr] at this z
  have e3:(Xs++E).set (Xs.length+i) (.ow ds')=Xs++E.set i (.ow ds'):=by
    rw [List.set_append_right _ _ (by omega),Nat.add_sub_cancel_left]
  have e2:(List.map some xs++σ).set (Xs.length+i) (some (V.ref l))=List.map some xs++σ:=by
    rw [←h.len,List.set_append_right _ _ (by rw [List.length_map];omega),List.length_map,Nat.add_sub_cancel_left]
    congr 1
    exact List.ext_getElem? fun j=>by
      by_cases hj:i=j
      · subst hj
        rw [List.getElem?_set_self',eo];rfl
      · rw [List.getElem?_set_ne hj]
  rw [e2,e3,←eA] at z
  refine ⟨h.bf,fun b o q=>?_,?_,z,h.nd,h.fr,h.len,fun s hs=>?_⟩
  · rw [ak (fun z=>by rw [z,lF] at q;cases q)]
    exact h.fh _ _ q
  · rw [mX hl];exact h.tf
  · rcases List.mem_or_eq_of_mem_set hs with hs | hs
    · exact h.pl s hs
    · subst hs;rfl
theorem FrF.frzAt {k:Nat} (h:FrF K B F A σ H E xs Xs) (e:(Xs++E)[k]? =some s) (q:s.val=some d) (c:s.isAl=false):
    ∃F' A' v,(xs.map some++σ)[k]? =some (some v)∧Rp K F' v d∧Same B F'∧Same F' H∧Same (tups H) F'∧SAll (SlOk K F' H σ) (xs.map some++σ) ((Xs++E).set k (.sh d)) A'∧A'.Nodup∧∀a∈A',F' a=none:=by
  obtain ⟨o,A0,A1,A2,eA,eo,hp,put⟩:=h.sl.at e
  have nd:=h.nd
  rw [eA] at nd
  have nA1:∀b o,F b=some o→b∉A1:=fun b o e hb=>by
    have:=h.fr b (by rw [eA];simp [hb])
    rw [this] at e;cases e
  have FF:Same F (mZ F H A1):=fun b o e=>by rw [jN (nA1 b o e)];exact e
  obtain ⟨v,rfl,r⟩:∃v,o=some v∧Rp K (mZ F H A1) v d:=by
    cases s with
    | no=>cases q
    | od kvs=>cases q
    | oi kvs=>cases q
    | al i=>cases c
    | br d'=>cases c
    | sh d'=>
      obtain ⟨rfl,v,rfl,r⟩:=hp
      cases q
      exact ⟨v,rfl,r.same FF⟩
    | ow ds=>
      obtain ⟨l,vs,rfl,rfl,hl,r⟩:=hp
      cases q
      exact ⟨_,rfl, .lst (SqL.of ((lL (by simp)).trans hl)) (r.same FF)⟩
    | tx ps=>
      obtain ⟨t,vs,rfl,ht,r⟩:=hp
      cases q
      refine ⟨_,rfl, .tup (SqT.of (FF _ _ ht)) ?_⟩
      have r':PtsOk K (mZ F H A1) (mZ F H A1) vs ps A1:=r.stay FF fun b hb=>lL hb
      exact r'.rp (Same.refl _)
  have e2:(List.map some xs++σ).set k (some v)=List.map some xs++σ:=List.ext_getElem? fun j=>by
    by_cases hj:k=j
    · subst hj
      rw [List.getElem?_set_self',eo];rfl
    · rw [List.getElem?_set_ne hj]
  have z:=put (SlOk K (mZ F H A1) H σ) (some v) (.sh d) [] ⟨rfl,v,rfl,r⟩ fun o s C _ hC q=>q.stay FF (fun b _=>rfl) fun _=>Same.refl _
  rw [e2] at z
  refine ⟨mZ F H A1,A0++A2,v,eo,r,h.bf.trans FF,fun b o e=>?_,fun b o e=>FF _ _ (h.tf _ _ e),by simpa using z,?_,fun a ha=>?_⟩
  · by_cases hb:b∈A1
    · rw [lL hb] at e;exact e
    · rw [jN hb] at e;exact h.fh _ _ e
  · exact List.Nodup.sublist (List.Sublist.append (List.Sublist.refl _) (List.sublist_append_right _ _)) nd
  · have hn:a∉A1:=fun hm=>by
      rcases List.mem_append.mp ha with z | z
      · exact (List.nodup_append.mp nd).2.2 a z a (by simp [hm]) rfl
      · exact (List.nodup_append.mp (List.nodup_append.mp nd).2.1).2.2 a hm a z rfl
    rw [jN hn]
    exact h.fr a (by rw [eA];rcases List.mem_append.mp ha with z | z <;> simp [z])
end
def frz (E:List Sl):Sl→Option (PyData×List Sl)
  | .sh d=>some (d,E)
  | .ow ds=>some (.list ds,E)
  | .tx ps=>some (.tuple (ps.map Pt.val),E)
  | .br d=>if bV d then some (d,E) else none
  | .al i=>match E[i]? with
    | some (.sh d)=>some (d,E)
    | some (.ow ds)=>some (.list ds,E.set i (.sh (.list ds)))
    | some (.tx ps)=>some (.tuple (ps.map Pt.val),E.set i (.sh (.tuple (ps.map Pt.val))))
    | _=>none
  | _=>none
section
variable {K:PySem.W.Frag} {B F:Hp} {A:List Addr} {σ:Sg} {H:Hp} {E E':List Sl} {xs:List V} {Xs:List Sl} {v:V} {s:Sl} {d:PyData}
theorem FrF.frzVar {i:Nat} (h:FrF K B F A σ H E xs Xs) (e:E[i]? =some s) (q:s.val=some d):∃F' A' v,σ[i]? =some (some v)∧Rp K F' v d∧FrF K B F' A' σ H (E.set i (.sh d)) xs Xs:=by
  obtain ⟨F',A',v,ev,r,b1,b2,b3,sl,nd,fr⟩:=h.frzAt (k:=Xs.length+i) (by rw [List.getElem?_append_right (by omega)];simpa using e) q (h.pl s (List.mem_of_getElem? e))
  rw [List.getElem?_append_right (by rw [List.length_map,h.len];omega),List.length_map,h.len,Nat.add_sub_cancel_left] at ev
  have e3:(Xs++E).set (Xs.length+i) (.sh d)=Xs++E.set i (.sh d):=by
    rw [List.set_append_right _ _ (by omega),Nat.add_sub_cancel_left]
  rw [e3] at sl
  refine ⟨F',A',v,ev,r,b1,b2,b3,sl,nd,fr,h.len,fun s hs=>?_⟩
  rcases List.mem_or_eq_of_mem_set hs with hs | hs
  · exact h.pl s hs
  · subst hs;rfl
theorem FrF.frz0 (h:FrF K B F A σ H E (v::xs) (s::Xs)) (q:PL.frz E s=some (d,E')):∃F' A',FrF K B F' A' σ H E' (v::xs) (.sh d::Xs):=by
  have key:s.val=some d→s.isAl=false→E=E'→∃F' A',FrF K B F' A' σ H E' (v::xs) (.sh d::Xs):=fun q' c e=>by
    subst e
    obtain ⟨F',A',v',ev,r,b1,b2,b3,sl,nd,fr⟩:=h.frzAt (k:=0) rfl q' c
    exact ⟨F',A',b1,b2,b3,sl,nd,fr,by simpa using h.len,h.pl⟩
  have al:∀i t,s= .al i→E[i]? =some t→t.val=some d→E'=E.set i (.sh d)→∃F' A',FrF K B F' A' σ H E' (v::xs) (.sh d::Xs):=fun i t es ei qt eE=>by
    subst es eE
    obtain ⟨v',A1,ev,hs⟩:=h.ext (k:=0) rfl
    cases ev
    obtain ⟨rfl,w,ew,hw⟩:=hs
    cases ew
    obtain ⟨F',A',w,ew,r,h'⟩:=h.frzVar ei qt
    rw [hw] at ew
    cases ew
    obtain ⟨A2,h2⟩:=h'.pop
    exact ⟨F',A2,h2.push ⟨rfl,_,rfl,r⟩⟩
  cases s with
  | no=>cases q
  | od kvs=>cases q
  | oi kvs=>cases q
  | sh d'=>cases q;exact key rfl rfl rfl
  | ow ds=>cases q;exact key rfl rfl rfl
  | tx ps=>cases q;exact key rfl rfl rfl
  | br d'=>
    simp only [PL.frz] at q
    split at q
    · rename_i hf
      cases q
      obtain ⟨r,_⟩:=h.look0 (d:=d) rfl
      obtain ⟨A2,h2⟩:=h.pop
      exact ⟨F,A2,h2.push ⟨rfl,_,rfl,h.cold r hf⟩⟩
    · cases q
  | al i=>
    simp only [PL.frz] at q
    split at q
    · rename_i d' ei
      cases q
      refine al i _ rfl ei rfl ?_
      exact List.ext_getElem? fun j=>by
        by_cases hj:i=j
        · subst hj;rw [List.getElem?_set_self',ei];rfl
        · rw [List.getElem?_set_ne hj]
    · rename_i ds ei
      cases q
      exact al i _ rfl ei rfl rfl
    · rename_i ps ei
      cases q
      exact al i _ rfl ei rfl rfl
    · cases q
theorem FrF.store {i:Nat} (h:FrF K B F A σ H E (v::xs) (s::Xs)) (c:s.isAl=false) (cx:∀s∈Xs,s.isAl=false) (hi:i < E.length):∃A',FrF K B F A' (σ.set i (some v)) H (E.set i s) xs Xs:=by
  have hlen:=h.len
  have hsl:=h.slen
  obtain ⟨bf,fh,tf,sl,nd,fr,len,pl⟩:=h
  generalize hT:List.map some (v::xs)++σ=T at sl
  generalize hS:(s::Xs)++E=S at sl
  cases sl with
  | nil=>cases hS
  | cons q r=>
    rename_i A1 _ _ A2
    injection hT with h1 hT
    injection hS with h2 hS
    subst h1 h2 hT hS
    have len':xs.length=Xs.length:=by simpa using len
    have r:SAll (SlOk K F H σ) (List.map some xs++σ) (Xs++E) A2:=r
    obtain ⟨t,et⟩:∃t,E[i]? =some t:=⟨E[i],List.getElem?_eq_getElem hi⟩
    obtain ⟨o,C0,C1,C2,eA,eo,hp,put⟩:=r.at (k:=Xs.length+i) (s:=t) (by rw [List.getElem?_append_right (by omega)];simpa using et)
    have all:∀s'∈Xs++E,s'.isAl=false:=fun s' hs=>(List.mem_append.mp hs).elim (cx s') (pl s')
    have chg:∀(o:Option V) (s':Sl) (C:List Addr),s'.isAl=false→SlOk K F H σ o s' C→SlOk K F H (σ.set i (some v)) o s' C:=fun o s' C hc z=>by
      cases s' <;> first | exact z | cases hc
    have z:=put (SlOk K F H (σ.set i (some v))) (some v) s A1 (chg _ _ _ c q) fun o s' C hs _ z=>chg o s' C (all s' hs) z
    have e3:(Xs++E).set (Xs.length+i) s=Xs++E.set i s:=by
      rw [List.set_append_right _ _ (by omega),Nat.add_sub_cancel_left]
    have e2:(List.map some xs++σ).set (Xs.length+i) (some v)=List.map some xs++σ.set i (some v):=by
      rw [←len',List.set_append_right _ _ (by rw [List.length_map];omega),List.length_map,Nat.add_sub_cancel_left]
    rw [e2,e3] at z
    refine ⟨_,bf,fh,tf,z,?_,fun a ha=>fr a ?_,len',fun s' hs=>?_⟩
    · rw [eA] at nd
      have p:(C0++(A1++C2)).Perm (A1++(C0++C2)):=by
        rw [←List.append_assoc,←List.append_assoc]
        exact List.Perm.append_right _ List.perm_append_comm
      refine p.nodup_iff.mpr (List.Nodup.sublist ?_ nd)
      exact List.Sublist.append (List.Sublist.refl _) (List.Sublist.append (List.Sublist.refl _) (List.sublist_append_right _ _))
    · rw [eA]
      simp only [List.mem_append] at ha ⊢
      rcases ha with z | z | z
      · exact .inr (.inl z)
      · exact .inl z
      · exact .inr (.inr (.inr z))
    · rcases List.mem_or_eq_of_mem_set hs with hs | hs
      · exact pl s' hs
      · subst hs;exact c
end
end PL
namespace PL
open PySem L2 Nh
abbrev bD:=List Sl→Option (Sl×List Sl)
abbrev g8:=List Sl→Option (Bool×List Sl)
abbrev kT:=List Sl→Option (List Sl×List Sl)
abbrev kE:=List Sl→Option (List PyData×List Sl)
inductive Fl where
  | nx | bk | ct | rt (r:Sl)
abbrev cR:=List Sl→Option (List Sl×Fl)
abbrev Calm (Xs:List Sl):Prop:=∀s∈Xs,s.isBr=false
abbrev Still (Xs:List Sl):Prop:=∀s∈Xs,s.isAl=false
theorem Still.calm {Xs:List Sl} (h:Still Xs):Calm Xs:=fun s hs=>by
  have:=h s hs
  cases s <;> simp [Sl.isAl,Sl.isBr] at this ⊢
theorem Still.nil {Xs:List Sl} (h:Xs=[]):Still Xs:=fun s hs=>by subst h;cases hs
theorem Calm.nil {Xs:List Sl} (h:Xs=[]):Calm Xs:=(Still.nil h).calm
theorem Calm.cons {Xs:List Sl} {s:Sl} (h:Calm Xs) (hs:s.isBr=false):Calm (s::Xs):=fun t ht=>(List.mem_cons.mp ht).elim (fun e=>e▸hs) (h t)
def rd (K:PySem.W.Frag) (m:Bool) (f:bD):TE:=fun σ H Q=>∃B E xs Xs r E',Frm K B σ H E xs Xs∧(m=true→Calm Xs)∧f E=some (r,E')∧∀v H',Frm K B σ H' E' (v::xs) (r::Xs)→Q v H'
def rt (K:PySem.W.Frag) (m:Bool) (f:g8):TT:=fun σ H Q=>∃B E xs Xs b E',Frm K B σ H E xs Xs∧(m=true→Calm Xs)∧f E=some (b,E')∧∀H',Frm K B σ H' E' xs Xs→Q b H'
def ra (K:PySem.W.Frag) (m:Bool) (f:kT):TA:=fun σ H Q=>∃B E xs Xs rs E',Frm K B σ H E xs Xs∧(m=true→Calm Xs)∧f E=some (rs,E')∧∀vs H',vs.length=rs.length→Frm K B σ H' E' (vs.reverse++xs) (rs.reverse++Xs)→Q vs H'
def AE (K:PySem.W.Frag) (m:Bool) (f:kE):TA:=fun σ H Q=>∃B E xs Xs ds E',Frm K B σ H E xs Xs∧(m=true→Calm Xs)∧f E=some (ds,E')∧∀vs H',vs.length=ds.length→Frm K B σ H' E' (vs.reverse++xs) (ds.reverse.map .sh++Xs)→Q vs H'
def rs (K:PySem.W.Frag) (g:cR):TS:=fun D σ H=>∃B E xs Xs E' fl,Frm K B σ H E xs Xs∧Xs=[]∧g E=some (E',fl)∧match fl with
  | .nx=>∀σ' H',Frm K B σ' H' E' xs Xs→D.nx σ' H'
  | .bk=>∀σ' H',Frm K B σ' H' E' xs Xs→D.bk σ' H'
  | .ct=>∀σ' H',Frm K B σ' H' E' xs Xs→D.ct σ' H'
  | .rt r=>∀σ' v H',Frm K B σ' H' E' (v::xs) (r::Xs)→D.rt v H'
def EX (X:Cx) (e:Expr) (m:Bool) (f:bD):Prop:=PE X e (rd X.K m f)
def TX (X:Cx) (e:Expr) (m:Bool) (f:g8):Prop:=PT X e (rt X.K m f)
def WX (X:Cx) (e:Expr) (m:Bool) (f:g8):Prop:=PW X e (rt X.K m f)
def AX (X:Cx) (es:List Expr) (m:Bool) (f:kT):Prop:=PA X es (ra X.K m f)
def DX (X:Cx) (es:List Expr) (m:Bool) (f:kE):Prop:=PA X es (AE X.K m f)
def SX (X:Cx) (s:Stmt) (g:cR):Prop:=PS X s (rs X.K g)
def u4 (X:Cx) (s:List Stmt) (g:cR):Prop:=PSs X s (rs X.K g)
section
variable {X:Cx}
theorem bF {e:Expr} {t t':TE} (h:PE X e t) (k:∀σ H Q,t' σ H Q→t σ H Q):PE X e t':=fun pins s σ H Q I q=>h pins s σ H Q I (k σ H Q q)
theorem lM {e:Expr} {t t':TT} (h:PT X e t) (k:∀σ H Q,t' σ H Q→t σ H Q):PT X e t':=fun pins s σ H Q I q=>h pins s σ H Q I (k σ H Q q)
theorem sK {e:Expr} {t t':TT} (h:PW X e t) (k:∀σ H Q,t' σ H Q→t σ H Q):PW X e t':=fun whole pins s σ H Q I q=>h whole pins s σ H Q I (k σ H Q q)
theorem lN {es:List Expr} {t t':TA} (h:PA X es t) (k:∀σ H Q,t' σ H Q→t σ H Q):PA X es t':=fun pos pins s σ H Q I q=>h pos pins s σ H Q I (k σ H Q q)
theorem gi {st:Stmt} {t t':TS} (h:PS X st t) (k:∀D σ H,t' D σ H→t D σ H):PS X st t':=fun pins s σ H D I q=>h pins s σ H D I (k D σ H q)
theorem pL {st:List Stmt} {t t':TS} (h:PSs X st t) (k:∀D σ H,t' D σ H→t D σ H):PSs X st t':=fun pins s σ H D I q=>h pins s σ H D I (k D σ H q)
end
def wm:PyData→Option V
  | .none=>some .non
  | .bool b=>some (.bl b)
  | .int i=>some (.int i)
  | .str x=>some (.str x)
  | _=>none
theorem jO {K:PySem.W.Frag} {H:Hp} {d:PyData} {v:V} (h:wm d=some v):Rp K H v d:=by
  cases d <;> simp [wm] at h <;> subst h <;> constructor
def ab (i:Nat):bD:=fun E=>match E[i]? with
  | some (.sh d)=>some (.sh d,E)
  | some (.ow _)=>some (.al i,E)
  | some (.od _)=>some (.al i,E)
  | some (.tx _)=>some (.al i,E)
  | _=>none
def pC (d:PyData):bD:=fun E=>some (.sh d,E)
section
variable {X:Cx} {K:PySem.W.Frag}
theorem aa (i:Nat) {x:Str} {pos:Pos} (hN:X.N[i]? =some x:=by rfl) (hv:uY X.env.scope x:=by first | exact Or.inl rfl | exact Or.inr (Or.inl rfl) | exact Or.inr (Or.inr rfl)) (hd:(x == ("__debug__":Str))=false:=by decide)
    (hcd:(x == ("__classdict__":Str))=false:=by decide):EX X (.Name x pos) false (ab i):=by
  refine bF (gg hN hv hd hcd) fun σ H Q h=>?_
  obtain ⟨B,E,xs,Xs,r,E',⟨F,A,fr⟩,_,e,q⟩:=h
  unfold ab at e
  split at e
  · rename_i d ei
    cases e
    obtain ⟨o,A1,eo,rfl,v,rfl,rp⟩:=fr.var ei
    exact ⟨v,eo,q v H ⟨F,A,fr.push ⟨rfl,v,rfl,rp⟩⟩⟩
  · rename_i ds ei
    cases e
    obtain ⟨o,A1,eo,l,vs,rfl,_⟩:=fr.var ei
    exact ⟨_,eo,q _ H ⟨F,A,fr.push ⟨rfl,_,rfl,eo⟩⟩⟩
  · rename_i ds ei
    cases e
    obtain ⟨o,A1,eo,l,vs,A2,rfl,_⟩:=fr.var ei
    exact ⟨_,eo,q _ H ⟨F,A,fr.push ⟨rfl,_,rfl,eo⟩⟩⟩
  · rename_i ds ei
    cases e
    obtain ⟨o,A1,eo,l,vs,rfl,_⟩:=fr.var ei
    exact ⟨_,eo,q _ H ⟨F,A,fr.push ⟨rfl,_,rfl,eo⟩⟩⟩
  · cases e
theorem xx {e:Expr} {v:V} (d:PyData) (h:PE X e (tC v)) (hd:wm d=some v:=by rfl):EX X e false (pC d):=by
  refine bF h fun σ H Q h=>?_
  obtain ⟨B,E,xs,Xs,r,E',⟨F,A,fr⟩,_,e,q⟩:=h
  cases e
  exact q v H ⟨F,A,fr.push ⟨rfl,v,rfl,jO hd⟩⟩
theorem ah {i j pos}:EX X (.Constant (.int i) j pos) false (pC (.int i)):=xx _ g4
theorem jP {b j pos}:EX X (.Constant (.bool b) j pos) false (pC (.bool b)):=xx _ yB
theorem ee {x j pos}:EX X (.Constant (.str x) j pos) false (pC (.str x)):=xx _ wR
end
abbrev P2:=List Sl→Sl→Sl→Option (Sl×List Sl)
def gj (K:PySem.W.Frag) (r:R2) (p:P2):Prop:=∀{B F:Hp} {A:List Addr} {σ:Sg} {H:Hp} {E:List Sl} {xs:List V} {Xs:List Sl} {v1 v2:V} {s1 s2 res:Sl} {E':List Sl} {Q:VK},
  FrF K B F A σ H E (v2::v1::xs) (s2::s1::Xs)→p E s1 s2=some (res,E')→(∀v H',Frm K B σ H' E' (v::xs) (res::Xs)→Q v H')→r v1 v2 H Q
def ae (p:P2) (m2:Bool) (f g:bD):bD:=fun E=>(f E).bind fun a=>if m2&&a.1.isBr then none else (g a.2).bind fun b=>p b.2 a.1 b.1
theorem lO {K:PySem.W.Frag} {r:R2} {p:P2} (hp:gj K r p) {m1 m2:Bool} {f g:bD} {σ:Sg} {H:Hp} {Q:VK} (h:rd K (m1||m2) (ae p m2 f g) σ H Q):n4 r (rd K m1 f) (rd K m2 g) σ H Q:=by
  obtain ⟨B,E,xs,Xs,res,E',fr,c,e,q⟩:=h
  obtain ⟨⟨s1,E1⟩,e1,e⟩:=Option.bind_eq_some_iff.mp e
  by_cases hb:(m2&&s1.isBr)=true
  · rw [if_pos hb] at e;cases e
  rw [if_neg hb] at e
  obtain ⟨⟨s2,E2⟩,e2,e⟩:=Option.bind_eq_some_iff.mp e
  refine ⟨B,E,xs,Xs,s1,E1,fr,fun z=>c (by simp [z]),e1,fun v1 H1 fr1=>?_⟩
  refine ⟨B,E1,v1::xs,s1::Xs,s2,E2,fr1,fun z=>?_,e2,fun v2 H2 fr2=>?_⟩
  · refine Calm.cons (c (by simp [z])) ?_
    cases hs:s1.isBr with
    | false=>rfl
    | true=>exact absurd (by simp [z,hs]) hb
  · obtain ⟨F,A,fr2⟩:=fr2
    exact hp fr2 e q
def dE (op:PyData→PyData→Option PyData):P2:=fun E s1 s2=>(look E s1).bind fun d1=>(look E s2).bind fun d2=>(op d1 d2).map fun d=>(.sh d,E)
theorem FrF.res2 {K:PySem.W.Frag} {B F:Hp} {A:List Addr} {σ:Sg} {H:Hp} {E:List Sl} {xs:List V} {Xs:List Sl} {v1 v2 v:V} {s1 s2 s:Sl} (h:FrF K B F A σ H E (v2::v1::xs) (s2::s1::Xs)) (q:SlOk K F H σ (some v) s []):Frm K B σ H E (v::xs) (s::Xs):=by
  obtain ⟨A1,h⟩:=h.pop
  obtain ⟨A2,h⟩:=h.pop
  exact ⟨F,A2,h.push q⟩
theorem lP {K:PySem.W.Frag} {r:R2} {op:PyData→PyData→Option PyData} (h:∀(d1 d2 d:PyData) (v1 v2:V) (H:Hp) (Q:VK),op d1 d2=some d→Rp K H v1 d1→Rp K H v2 d2→∃v,wm d=some v∧(Q v H→r v1 v2 H Q)):gj K r (dE op):=by
  intro B F A σ H E xs Xs v1 v2 s1 s2 res E' Q fr e q
  obtain ⟨d1,e1,e⟩:=Option.bind_eq_some_iff.mp e
  obtain ⟨d2,e2,e⟩:=Option.bind_eq_some_iff.mp e
  obtain ⟨d,e3,e⟩:=Option.map_eq_some_iff.mp e
  cases e
  obtain ⟨v,hv,k⟩:=h d1 d2 d v1 v2 H Q e3 (fr.look1 e1).1 (fr.look0 e2).1
  exact k (q v H (fr.res2 ⟨rfl,v,rfl,jO hv⟩))
section
variable {X:Cx} {a b:Expr} {m1 m2:Bool} {f g:bD} {pos:Pos}
theorem jQ {op:Operator} {r:R2} {p:P2} (ho:OpR X (binaryOp op) r) (hp:gj X.K r p) (ha:EX X a m1 f) (hb:EX X b m2 g):EX X (.BinOp a op b pos) (m1||m2) (ae p m2 f g):=bF (kL ho ha hb) fun _ _ _ h=>lO hp h
theorem xy {op:CmpOp} {r:R2} {p:P2} (ho:OpR X (compareOp op) r) (hp:gj X.K r p) (ha:EX X a m1 f) (hb:EX X b m2 g) (hm:behindInMarks op b=false):EX X (.Compare a [op] [b] pos) (m1||m2) (ae p m2 f g):=bF (ve ho ha hb hm) fun _ _ _ h=>lO hp h
def cF (f:bD):g8:=fun E=>(f E).bind fun a=>match a.1 with
  | .sh (.bool b)=>some (b,a.2)
  | _=>none
theorem sL {K:PySem.W.Frag} {m:Bool} {f:bD} {σ:Sg} {H:Hp} {Q:Bool→Hp→Prop} (h:rt K m (cF f) σ H Q):rd K m f σ H (fun x H'=>∃k,x= .bl k∧Q k H'):=by
  obtain ⟨B,E,xs,Xs,b,E',fr,c,e,q⟩:=h
  obtain ⟨⟨s,E1⟩,e1,e⟩:=Option.bind_eq_some_iff.mp e
  refine ⟨B,E,xs,Xs,s,E1,fr,c,e1,fun v H' ⟨F,A,fr'⟩=>?_⟩
  simp only at e
  split at e
  · cases e
    obtain ⟨r,_⟩:=fr'.look0 (d:= .bool b) rfl
    cases r
    obtain ⟨A',fr2⟩:=fr'.pop
    exact ⟨b,rfl,q H' ⟨F,A',fr2⟩⟩
  · cases e
theorem oA {op:CmpOp} {r:R2} {p:P2} (ho:OpR X (compareOp op) r) (hp:gj X.K r p) (ha:EX X a m1 f) (hb:EX X b m2 g) (hm:behindInMarks op b=false):TX X (.Compare a [op] [b] pos) (m1||m2) (cF (ae p m2 f g)):=by
  refine lM (pA ho ha hb hm) fun σ H Q h=>?_
  exact lO hp (sL h)
end
def n6:Int:=2 ^ 20000
def bG (i j:Int):Bool:=decide (-(2 ^ 64) < i∧i < 2 ^ 64)||decide (-(2 ^ 64) < j∧j < 2 ^ 64)||decide (-n6 < i∧i < n6∧ -n6 < j∧j < n6)
def dF (j:Int):Bool:=decide (0 < j∧j < 2 ^ 200)
def gH (C:Int→Int→Bool) (g:Int→Int→PyData):PyData→PyData→Option PyData
  | .int i, .int j=>if C i j then some (g i j) else none
  | _,_=>none
abbrev xz (C:Int→Int→Bool) (g:Int→Int→V):R2:=rI (fun i j=>C i j=true) g
theorem jR {K:PySem.W.Frag} {C:Int→Int→Bool} {g:Int→Int→PyData} {g':Int→Int→V} (hg:∀i j,wm (g i j)=some (g' i j)):gj K (xz C g') (dE (gH C g)):=by
  refine lP fun d1 d2 d v1 v2 H Q e r1 r2=>?_
  unfold gH at e
  split at e
  · split at e
    · cases e
      cases r1
      cases r2
      rename_i hC
      exact ⟨_,hg _ _,fun q=>⟨_,_,rfl,rfl,hC,q⟩⟩
    · cases e
  · cases e
section
variable {X:Cx}
theorem i_ {i:Int} (h1: -n6 < i) (h2:i < n6):Builtin.Int.intBits i≤2 ^ 20:=by
  unfold n6 at h1 h2
  have h:i.natAbs < 2 ^ 20000:=by
    have e:((2 ^ 20000:Nat):Int)=2 ^ 20000:=Int.natCast_pow 2 20000
    generalize (2 ^ 20000:Int)=z at h1 h2 e
    generalize (2 ^ 20000:Nat)=y at e ⊢
    omega
  unfold Builtin.Int.intBits
  split
  · exact Nat.zero_le _
  · rename_i hz
    have hz':i≠0:=by simpa using hz
    have:i.natAbs.log2 < 20000:=(Nat.log2_lt (by omega)).mpr h
    omega
theorem sM {i j:Int} (h:bG i j=true):PySem.IntMulOk i j:=by
  unfold bG at h
  simp only [Bool.or_eq_true,decide_eq_true_eq] at h
  rcases h with (h | h) | h
  · exact CMul.ok (.inl h)
  · exact CMul.ok (.inr h)
  · exact PySem.IntMulOk.of_bits (i_ h.1 h.2.1) (i_ h.2.2.1 h.2.2.2)
end
end PL
namespace PL
open PySem L2 Nh PyProof.Rows
abbrev iN:=L2.St
section
variable {X:Cx}
theorem OpR.or {f:Value→Value→Sem Value} {r r':R2} (h:OpR X f r) (h':OpR X f r'):OpR X f (fun x y H Q=>r x y H Q∨r' x y H Q):=by
  intro pins s σ H x y v u Q I rx ry q
  rcases q with q | q
  · exact h pins s σ H x y v u Q I rx ry q
  · exact h' pins s σ H x y v u Q I rx ry q
theorem OpR.imp {f:Value→Value→Sem Value} {r r':R2} (h:OpR X f r) (k:∀x y H Q,r' x y H Q→r x y H Q):OpR X f r':=fun pins s σ H x y v u Q I rx ry q=>h pins s σ H x y v u Q I rx ry (k _ _ _ _ q)
def wp (K:PySem.W.Frag):R2:=fun x y H Q=>∃l b xs zs,x= .ref l∧y= .ref b∧SqL K H l xs∧SqL K H b zs∧xs.length+zs.length≤sizeLine∧∀p,H p=none→Q (.ref p) (upd H p (.lst (xs++zs)))
theorem vp:OpR X (binaryOp .Add) (wp X.K):=by
  intro pins s σ H x y v u Q I rx ry h
  obtain ⟨l,b,xs,zs,rfl,rfl,hH,hB,hz,q⟩:=h
  cases rx
  cases ry
  obtain ⟨its,r,p1,z1⟩:=I.list hH
  obtain ⟨its2,r2,p2,z2⟩:=I.list hB
  obtain ⟨⟨cls,dd,data,sl⟩,ho,hc,n,hd⟩:=p1.isList
  obtain ⟨⟨cls2,dd2,data2,sl2⟩,ho2,hc2,n2,n5⟩:=p2.isList
  simp only at hc hd hc2 n5
  subst hc hd hc2 n5
  have l1:=r.length
  have l2:=r2.length
  refine concat_meets ⟨_,ho,rfl⟩ ⟨_,ho2,rfl⟩ noFill_list_add seq_list_add PySem.F.slot_list_add PySem.F.entry_list_add (PySem.F.args_list_add_2 _ _) (list_addW l b its.toArray its2.toArray n n2 dd dd2 sl sl2 (by simp only [List.size_toArray];omega)) ⟨ho,ho2,?_⟩
  have ea:its.toArray++its2.toArray=(its++its2).toArray:=by simp
  rw [ea]
  exact ⟨.ref _,_,I.lnew (t':=s.toks) (r.append r2) (by rw [List.length_append];omega),rfl,q _ I.fresh⟩
def wq (K:PySem.W.Frag):R2:=fun x y H Q=>∃l k xs,x= .ref l∧y= .int k∧SqL K H l xs∧ -(2 ^ 63)≤k∧k < 2 ^ 63∧xs.length*k.toNat≤sizeLine∧
  ∀p,H p=none→Q (.ref p) (upd H p (.lst (List.replicate k.toNat xs).flatten))
theorem vq:OpR X (binaryOp .Mult) (wq X.K):=by
  intro pins s σ H x y v u Q I rx ry h
  obtain ⟨l,k,xs,rfl,rfl,hH,h1,h2,hz,q⟩:=h
  cases rx
  obtain ⟨t,rfl⟩:=ry
  obtain ⟨its,r,p1,z1⟩:=I.list hH
  obtain ⟨⟨cls,d,data,sl⟩,ho,hcl,n,hd⟩:=p1.isList
  simp only at hcl hd
  subst hcl hd
  have l1:=r.length
  have hsz:its.toArray.size*k.toNat≤2 ^ 24:=by rw [List.size_toArray,←l1];exact hz
  refine wpAny_binaryOp_repeat_ref (T:="list") (U:="int") (by decide) ⟨_,ho,rfl⟩ (fun s'=>typeIs_int s' k t) noFill_list_mul F.fills_int_mul F.slot_int_rmul repeat_list F.slot_int_index.lookup
    (call_meets F.slot_int_rmul (typeIs_int s k t) F.entry_int_rmul (F.args_int_rmul_2 _ _) (lm_int_rmul_list_any k t l its.toArray n d sl)
      ⟨ho,rfl,⟨_,ho,rfl⟩,call_meets F.slot_list_mul ⟨_,ho,rfl⟩ F.entry_list_mul (F.args_list_mul_2 _ _)
        (lm_list_mul_any l its.toArray n d sl k t (by simp [Builtin.List.listFitsIndex];omega) (by omega) (by simp [Builtin.List.listTooLong,sizeLine];omega))
        ⟨ho,?_⟩⟩)
  rw [listMul_foldl_if]
  exact ⟨.ref _,_,I.lnew (t':=s.toks) (r.rep k.toNat) (by rw [vk,Nat.mul_comm];exact hz),rfl,q _ I.fresh⟩
end
def aX:P2:=fun E s1 s2=>(look E s1).bind fun d1=>(look E s2).bind fun d2=>match d1,d2 with
  | .int i, .int j=>some (.sh (.int (i+j)),E)
  | .str a, .str b=>if a.length+b.length≤1000000 then some (.sh (.str (a++b)),E) else none
  | .list a, .list b=>if decide (a.length+b.length≤1000000)&&(!cV E s1||aW a)&&(!cV E s2||aW b) then some (.ow (a++b),E) else none
  | _,_=>none
theorem small {n:Nat} (h:n≤1000000):n < sizeLine:=Nat.lt_of_le_of_lt h (by rw [sizeLine_eq];decide)
theorem cW {n:Nat} (h:n≤1000000):n≤sizeLine:=Nat.le_of_lt (small h)
section
variable {K:PySem.W.Frag} {B F:Hp} {A:List Addr} {σ:iN} {H:Hp} {E:List Sl} {xs:List V} {Xs:List Sl} {v:V} {s:Sl} {ds:List PyData}
theorem FrF.items {k:Nat} (h:FrF K B F A σ H E xs Xs) (e:Xs[k]? =some s) (q:PL.look E s=some (.list ds)) (c:(!cV E s||aW ds)=true):∃a vs,xs[k]? =some (.ref a)∧SqL K H a vs∧RpA K F vs ds:=by
  obtain ⟨v,ev,r,f⟩:=h.look e q
  cases hh:cV E s with
  | false=>
    obtain ⟨a,vs,rfl,h1,h2⟩:=f hh
    exact ⟨a,vs,ev,h1,h2⟩
  | true=>
    rw [hh] at c
    cases r with
    | lst h1 h2=>exact ⟨_,_,ev,h1,h.coldA h2 (by simpa using c)⟩
theorem FrF.res2l {v1 v2:V} {s1 s2:Sl} {vs:List V} (h:FrF K B F A σ H E (v2::v1::xs) (s2::s1::Xs)) (r:RpA K F vs ds) {p:Addr} (hp:H p=none):Frm K B σ (upd H p (.lst vs)) E (.ref p::xs) (.ow ds::Xs):=by
  obtain ⟨A1,h⟩:=h.pop
  obtain ⟨A2,h⟩:=h.pop
  exact ⟨F,_,h.newl r hp⟩
end
abbrev pM (K:PySem.W.Frag):R2:=fun x y H Q=>(∃i j,x= .int i∧y= .int j∧Q (.int (i+j)) H)∨(∃i j,x= .str i∧y= .str j∧i.length+j.length≤sizeLine∧Q (.str (i++j)) H)∨wp K x y H Q
theorem jv {X:Cx}:OpR X (binaryOp .Add) (pM X.K):=OpR.or oj (OpR.or oo vp)
theorem vt {K:PySem.W.Frag}:gj K (pM K) aX:=by
  intro B F A σ H E xs Xs v1 v2 s1 s2 res E' Q fr e q
  obtain ⟨d1,e1,e⟩:=Option.bind_eq_some_iff.mp e
  obtain ⟨d2,e2,e⟩:=Option.bind_eq_some_iff.mp e
  have r1:=(fr.look1 e1).1
  have r2:=(fr.look0 e2).1
  split at e
  · cases e;cases r1;cases r2
    exact .inl ⟨_,_,rfl,rfl,q _ _ (fr.res2 ⟨rfl,_,rfl, .int _⟩)⟩
  · split at e
    · rename_i hl
      cases e;cases r1;cases r2
      exact .inr (.inl ⟨_,_,rfl,rfl,cW hl,q _ _ (fr.res2 ⟨rfl,_,rfl, .str _⟩)⟩)
    · cases e
  · split at e
    · rename_i hc
      cases e
      simp only [Bool.and_eq_true,decide_eq_true_eq] at hc
      obtain ⟨a1,u1,x1,q1,i1⟩:=fr.items (k:=1) rfl e1 hc.1.2
      obtain ⟨a2,u2,x2,q2,i2⟩:=fr.items (k:=0) rfl e2 hc.2
      cases x1;cases x2
      have l1:=i1.len
      have l2:=i2.len
      exact .inr (.inr ⟨_,_,_,_,rfl,rfl,q1,q2,cW (by omega),fun p hp=>q _ _ (fr.res2l (i1.append i2) hp)⟩)
    · cases e
  · cases e
def cS:P2:=dE (gH (fun _ _=>true) fun i j=> .int (i - j))
def bO:P2:=dE (gH (fun _ j=>dF j) fun i j=> .int (i / j))
def cf:P2:=dE (gH (fun _ j=>decide (0 < j)) fun i j=> .int (i % j))
def g9:P2:=dE (gH (fun i j=>decide (0≤j∧j≤1000000∧ -(2 ^ 64) < i∧i < 2 ^ 64)) fun i j=> .int (i ^ j.toNat))
section
variable {X:Cx}
theorem vv:OpR X (binaryOp .Sub) (xz (fun _ _=>true) fun i j=> .int (i - j)):=OpR.imp xg fun x y H Q ⟨i,j,a,b,_,q⟩=>⟨i,j,a,b,q⟩
theorem sN:OpR X (binaryOp .FloorDiv) (xz (fun _ j=>dF j) fun i j=> .int (i / j)):=yI fun i j _ _ _ _ _ hc q=>by
  obtain ⟨h1,h2⟩:=of_decide_eq_true hc
  have h3:j.natAbs.log2 < 9000:=by
    have:j.natAbs < 2 ^ 200:=by omega
    have:=(Nat.log2_lt (n:=j.natAbs) (k:=200) (by omega)).mpr this
    omega
  exact floordiv_int (by omega) (by rw [Int.fdiv_eq_ediv_of_nonneg i (by omega)];exact q) (.inl (PyProof.noPylong_of_log2 h3))
theorem vw:OpR X (binaryOp .Mod) (xz (fun _ j=>decide (0 < j)) fun i j=> .int (i % j)):=OpR.imp xh fun x y H Q ⟨i,j,a,b,c,q⟩=>⟨i,j,a,b,of_decide_eq_true c,q⟩
theorem vx {i j:Int} (c:0≤j∧j≤1000000∧ -(2 ^ 64) < i∧i < 2 ^ 64):yK i j:=⟨c.1,c.2.1,by omega⟩
theorem vy:OpR X (binaryOp .Pow) (xz (fun i j=>decide (0≤j∧j≤1000000∧ -(2 ^ 64) < i∧i < 2 ^ 64)) fun i j=> .int (i ^ j.toNat)):=OpR.imp xi fun x y H Q ⟨i,j,a,b,c,q⟩=>⟨i,j,a,b,vx (of_decide_eq_true c),q⟩
end
def b6:P2:=fun E s1 s2=>(look E s1).bind fun d1=>(look E s2).bind fun d2=>match d1,d2 with
  | .int i, .int j=>if bG i j then some (.sh (.int (i*j)),E) else none
  | .list a, .int k=>if decide (a.length*k.toNat≤1000000∧ -1000000≤k∧k≤1000000)&&(!cV E s1||aW a) then some (.ow (List.replicate k.toNat a).flatten,E) else none
  | _,_=>none
abbrev wt (K:PySem.W.Frag):R2:=fun x y H Q=>xz bG (fun i j=> .int (i*j)) x y H Q∨wq K x y H Q
theorem vz {X:Cx}:OpR X (binaryOp .Mult) (wt X.K):=OpR.or (yI fun _ _ _ _ _ _ _ hc q=>mul_int q (sM hc)) vq
theorem vA {K:PySem.W.Frag}:gj K (wt K) b6:=by
  intro B F A σ H E xs Xs v1 v2 s1 s2 res E' Q fr e q
  obtain ⟨d1,e1,e⟩:=Option.bind_eq_some_iff.mp e
  obtain ⟨d2,e2,e⟩:=Option.bind_eq_some_iff.mp e
  have r1:=(fr.look1 e1).1
  have r2:=(fr.look0 e2).1
  split at e
  · split at e
    · rename_i hm
      cases e;cases r1;cases r2
      exact .inl ⟨_,_,rfl,rfl,hm,q _ _ (fr.res2 ⟨rfl,_,rfl, .int _⟩)⟩
    · cases e
  · split at e
    · rename_i hc
      cases e
      simp only [Bool.and_eq_true,decide_eq_true_eq] at hc
      obtain ⟨a1,u1,x1,q1,i1⟩:=fr.items (k:=1) rfl e1 hc.2
      cases x1;cases r2
      have l1:=i1.len
      exact .inr ⟨_,_,_,rfl,rfl,q1,by omega,by omega,cW (by rw [l1];exact hc.1.1),fun p hp=>q _ _ (fr.res2l (i1.rep _) hp)⟩
    · cases e
  · cases e
section
variable {X:Cx} {a b:Expr} {m1 m2:Bool} {f g:bD} {pos:Pos}
theorem aT (ha:EX X a m1 f) (hb:EX X b m2 g):EX X (.BinOp a .Add b pos) (m1||m2) (ae aX m2 f g):=jQ jv vt ha hb
theorem ef (ha:EX X a m1 f) (hb:EX X b m2 g):EX X (.BinOp a .Sub b pos) (m1||m2) (ae cS m2 f g):=jQ vv (jR fun _ _=>rfl) ha hb
theorem cG (ha:EX X a m1 f) (hb:EX X b m2 g):EX X (.BinOp a .Mult b pos) (m1||m2) (ae b6 m2 f g):=jQ vz vA ha hb
theorem cX (ha:EX X a m1 f) (hb:EX X b m2 g):EX X (.BinOp a .FloorDiv b pos) (m1||m2) (ae bO m2 f g):=jQ sN (jR fun _ _=>rfl) ha hb
theorem cg (ha:EX X a m1 f) (hb:EX X b m2 g):EX X (.BinOp a .Mod b pos) (m1||m2) (ae cf m2 f g):=jQ vw (jR fun _ _=>rfl) ha hb
theorem jS (ha:EX X a m1 f) (hb:EX X b m2 g):EX X (.BinOp a .Pow b pos) (m1||m2) (ae g9 m2 f g):=jQ vy (jR fun _ _=>rfl) ha hb
end
def Ai (K:PySem.W.Frag) (r:V→Hp→VK→Prop) (op:PyData→Option PyData):Prop:=∀(d1 d:PyData) (v1:V) (H:Hp) (Q:VK),op d1=some d→Rp K H v1 d1→∃v,wm d=some v∧(Q v H→r v1 H Q)
def oB (op:PyData→Option PyData) (f:bD):bD:=fun E=>(f E).bind fun a=>(look a.2 a.1).bind fun d1=>(op d1).map fun d=>(.sh d,a.2)
theorem yZ {K:PySem.W.Frag} {r:V→Hp→VK→Prop} {op:PyData→Option PyData} (hp:Ai K r op) {m:Bool} {f:bD} {σ:iN} {H:Hp} {Q:VK} (h:rd K m (oB op f) σ H Q):rd K m f σ H (fun x H1=>r x H1 Q):=by
  obtain ⟨B,E,xs,Xs,res,E',fr,c,e,q⟩:=h
  obtain ⟨⟨s1,E1⟩,e1,e⟩:=Option.bind_eq_some_iff.mp e
  obtain ⟨d1,e2,e⟩:=Option.bind_eq_some_iff.mp e
  obtain ⟨d,e3,e⟩:=Option.map_eq_some_iff.mp e
  cases e
  refine ⟨B,E,xs,Xs,s1,E1,fr,c,e1,fun v1 H1 ⟨F,A,fr1⟩=>?_⟩
  obtain ⟨v,hv,k⟩:=hp d1 d v1 H1 Q e3 (fr1.look0 e2).1
  obtain ⟨A',fr2⟩:=fr1.pop
  exact k (q v H1 ⟨F,A',fr2.push ⟨rfl,v,rfl,jO hv⟩⟩)
def oC:PyData→Option PyData
  | .int i=>some (.int (-i))
  | _=>none
section
variable {X:Cx} {a b c:Expr} {m1 m2 m3:Bool} {f g h:bD} {pos:Pos}
theorem xA (ha:EX X a m1 f):EX X (.UnaryOp .USub a pos) m1 (oB oC f):=bF (yH xk ha) fun σ H Q h=>yZ (r:=rU fun i=> .int (-i)) (fun d1 d v1 H Q e r=>by
  cases d1 <;> simp [oC] at e
  cases e;cases r
  exact ⟨_,rfl,fun q=>⟨_,rfl,q⟩⟩) h
end
def r8 (d1 d2:PyData):Option Bool:=match d1,d2 with
  | .int i, .int j=>some (decide (i=j))
  | .str a, .str b=>some (decide (a=b))
  | .bool a, .bool b=>some (decide (a=b))
  | .none, .none=>some true
  | .none, .str _=>some false
  | .str _, .none=>some false
  | d1,d2=>if SeqAt.shaped d1&&SeqAt.shaped d2 then some (PyData.eqv d1 d2) else none
def gP:P2:=dE fun d1 d2=>(r8 d1 d2).map fun b=> .bool b
def kU:P2:=dE fun d1 d2=>(r8 d1 d2).map fun b=> .bool (!b)
abbrev Aj (K:PySem.W.Frag):R2:=fun x y H Q=>Aa x y H Q∨yW K x y H Q
abbrev Ak (K:PySem.W.Frag):R2:=fun x y H Q=>Au x y H Q∨yX K x y H Q
theorem sO {K:PySem.W.Frag} {H:Hp} {v1 v2:V} {d1 d2:PyData} {b:Bool} (e:r8 d1 d2=some b) (r1:Rp K H v1 d1) (r2:Rp K H v2 d2):
    (xl v1 v2=true∧decide (v1=v2)=b)∨(DOf K H v1 d1∧DOf K H v2 d2∧SeqAt.shaped d1=true∧SeqAt.shaped d2=true∧PyData.eqv d1 d2=b):=by
  unfold r8 at e
  split at e
  · cases e;cases r1;cases r2;exact .inl ⟨rfl,by simp⟩
  · cases e;cases r1;cases r2;exact .inl ⟨rfl,by simp⟩
  · cases e;cases r1;cases r2;exact .inl ⟨rfl,by simp⟩
  · cases e;cases r1;cases r2;exact .inl ⟨rfl,rfl⟩
  · cases e;cases r1;cases r2;exact .inl ⟨rfl,rfl⟩
  · cases e;cases r1;cases r2;exact .inl ⟨rfl,rfl⟩
  · split at e
    · rename_i hs
      cases e
      simp only [Bool.and_eq_true] at hs
      exact .inr ⟨r1.dof hs.1,r2.dof hs.2,hs.1,hs.2,rfl⟩
    · cases e
theorem sP {K:PySem.W.Frag}:gj K (Aj K) gP:=lP fun d1 d2 d v1 v2 H Q e r1 r2=>by
  obtain ⟨b,e',rfl⟩:=Option.map_eq_some_iff.mp e
  refine ⟨_,rfl,fun q=>?_⟩
  rcases sO e' r1 r2 with ⟨a,rfl⟩ | ⟨a1,a2,a3,a4,rfl⟩
  · exact .inl ⟨a,q⟩
  · exact .inr ⟨_,_,a1,a2,a3,a4,q⟩
theorem xB {K:PySem.W.Frag}:gj K (Ak K) kU:=lP fun d1 d2 d v1 v2 H Q e r1 r2=>by
  obtain ⟨b,e',rfl⟩:=Option.map_eq_some_iff.mp e
  refine ⟨_,rfl,fun q=>?_⟩
  rcases sO e' r1 r2 with ⟨a,rfl⟩ | ⟨a1,a2,a3,a4,rfl⟩
  · exact .inl ⟨a,q⟩
  · exact .inr ⟨_,_,a1,a2,a3,a4,q⟩
def sQ (K:PySem.W.Frag) (r:R2) (op:PyData→PyData→Option PyData):Prop:=∀(d1 d2 d:PyData) (v1 v2:V) (H:Hp) (Q:VK),op d1 d2=some d→Rp K H v1 d1→Rp K H v2 d2→∃v,wm d=some v∧(Q v H→r v1 v2 H Q)
def gk (op op':PyData→PyData→Option PyData) (m2 m3:Bool) (f g h:bD):bD:=fun E=>(f E).bind fun a=>if (m2||m3)&&a.1.isBr then none else (g a.2).bind fun b=>if m3&&b.1.isBr then none else
  (look b.2 a.1).bind fun d1=>(look b.2 b.1).bind fun d2=>match op d1 d2 with
    | some (.bool true)=>(h b.2).bind fun c=>(look c.2 b.1).bind fun d2=>(look c.2 c.1).bind fun d3=>(op' d2 d3).map fun d=>(.sh d,c.2)
    | some (.bool false)=>some (.sh (.bool false),b.2)
    | _=>none
section
variable {X:Cx} {a b c:Expr} {m1 m2 m3:Bool} {f g h:bD} {pos:Pos}
theorem y0 (hu:X.A.units+64 < cLine) (ha:EX X a m1 f) (hb:EX X b m2 g):EX X (.Compare a [.Eq] [b] pos) (m1||m2) (ae gP m2 f g):=xy (OpR.or si (sG hu)) sP ha hb (jI _)
theorem jT (hu:X.A.units+64 < cLine) (ha:EX X a m1 f) (hb:EX X b m2 g):TX X (.Compare a [.Eq] [b] pos) (m1||m2) (cF (ae gP m2 f g)):=oA (OpR.or si (sG hu)) sP ha hb (jI _)
theorem iw (hu:X.A.units+64 < cLine) (ha:EX X a m1 f) (hb:EX X b m2 g):TX X (.Compare a [.NotEq] [b] pos) (m1||m2) (cF (ae kU m2 f g)):=oA (OpR.or yL (xt hu)) xB ha hb (jI _)
theorem sR {K:PySem.W.Frag} {r r':R2} {op op':PyData→PyData→Option PyData} (k:sQ K r op) (k':sQ K r' op') {σ:iN} {H:Hp} {Q:VK} (z:rd K (m1||(m2||m3)) (gk op op' m2 m3 f g h) σ H Q):sk r r' (rd K m1 f) (rd K m2 g) (rd K m3 h) σ H Q:=by
  obtain ⟨B,E,xs,Xs,res,E',fr,cl,e,q⟩:=z
  obtain ⟨⟨s1,E1⟩,e1,e⟩:=Option.bind_eq_some_iff.mp e
  by_cases hb:((m2||m3)&&s1.isBr)=true
  · rw [if_pos hb] at e;cases e
  rw [if_neg hb] at e
  obtain ⟨⟨s2,E2⟩,e2,e⟩:=Option.bind_eq_some_iff.mp e
  by_cases hb2:(m3&&s2.isBr)=true
  · rw [if_pos hb2] at e;cases e
  rw [if_neg hb2] at e
  obtain ⟨d1,l1,e⟩:=Option.bind_eq_some_iff.mp e
  obtain ⟨d2,l2,e⟩:=Option.bind_eq_some_iff.mp e
  have n1:(m2||m3)=true→s1.isBr=false:=fun z=>by
    cases hs:s1.isBr with
    | false=>rfl
    | true=>exact absurd (by rw [z,hs];rfl) hb
  have n2:m3=true→s2.isBr=false:=fun z=>by
    cases hs:s2.isBr with
    | false=>rfl
    | true=>exact absurd (by rw [z,hs];rfl) hb2
  refine ⟨B,E,xs,Xs,s1,E1,fr,fun z=>cl (by simp [z]),e1,fun v1 H1 fr1=>?_⟩
  refine ⟨B,E1,v1::xs,s1::Xs,s2,E2,fr1,fun z=>Calm.cons (cl (by simp [z])) (n1 (by simp [z])),e2,fun v2 H2 ⟨F,A,fr2⟩=>?_⟩
  cases ho:op d1 d2 with
  | none=>rw [ho] at e;cases e
  | some d=>
    rw [ho] at e
    obtain ⟨v,hv,kk⟩:=k d1 d2 d v1 v2 H2 (fun z H3=>∃k,z= .bl k∧(if k=true then rd K m3 h σ H3 fun w' H4=>r' v2 w' H4 Q else Q (.bl false) H3)) ho (fr2.look1 l1).1 (fr2.look0 l2).1
    cases d with
    | bool t=>
      cases hv
      refine kk ⟨t,rfl,?_⟩
      cases t with
      | true=>
        rw [if_pos rfl]
        obtain ⟨⟨s3,E3⟩,e3,e⟩:=Option.bind_eq_some_iff.mp e
        obtain ⟨d2',l2',e⟩:=Option.bind_eq_some_iff.mp e
        obtain ⟨d3,l3,e⟩:=Option.bind_eq_some_iff.mp e
        obtain ⟨d,ho',e⟩:=Option.map_eq_some_iff.mp e
        cases e
        refine ⟨B,E2,v2::v1::xs,s2::s1::Xs,s3,E3,⟨F,A,fr2⟩,fun z=>Calm.cons (Calm.cons (cl (by simp [z])) (n1 (by simp [z]))) (n2 z),e3,fun v3 H3 ⟨F3,A3,fr3⟩=>?_⟩
        obtain ⟨v,hv,kk⟩:=k' d2' d3 d v2 v3 H3 Q ho' (fr3.look1 l2').1 (fr3.look0 l3).1
        obtain ⟨A4,fr4⟩:=fr3.pop
        exact kk (q v H3 (fr4.res2 ⟨rfl,v,rfl,jO hv⟩))
      | false=>
        rw [if_neg (by decide)]
        cases e
        exact q _ _ (fr2.res2 ⟨rfl,_,rfl, .bl _⟩)
    | none=>cases e
    | int i=>cases e
    | str x=>cases e
    | list xs=>cases e
    | tuple xs=>cases e
    | dict kvs=>cases e
end
end PL
namespace PL
open PySem L2 Nh
def eB (f g:g8):g8:=fun E=>(f E).bind fun a=>if a.1 then g a.2 else some (false,a.2)
def gl (f g:g8):g8:=fun E=>(f E).bind fun a=>if a.1 then some (true,a.2) else g a.2
def gS (f:g8):g8:=fun E=>(f E).map fun a=>(!a.1,a.2)
def m4:PyData→Option Bool
  | .none=>some false
  | .bool b=>some b
  | .int i=>some (i != 0)
  | .str x=>if x.length≤1000000 then some ((x.length:Int) != 0) else none
  | .list xs=>some (!xs.isEmpty)
  | .tuple xs=>some (!xs.isEmpty)
  | .dict _=>none
def jU (f:bD):g8:=fun E=>(f E).bind fun a=>match a.1 with
  | .al i=>match a.2[i]? with
    | some (.od kvs)=>some (!kvs.isEmpty,a.2)
    | some s=>(s.val.bind m4).map fun b=>(b,a.2)
    | none=>none
  | s=>(s.val.bind m4).map fun b=>(b,a.2)
section
variable {X:Cx} {a b c:Expr} {bd:List Expr} {m1 m2 m3:Bool} {f g h:bD} {t u:g8} {pos:Pos} {K:PySem.W.Frag}
theorem lQ (ha:TX X a m1 t):WX X (.BoolOp .And [a] pos) m1 t:=u_ ha
theorem jV (ha:TX X a m1 t):WX X (.BoolOp .Or [a] pos) m1 t:=wS ha
theorem lR (ha:TX X a m1 t) (hb:WX X (.BoolOp .And (b::bd) pos) m2 u):WX X (.BoolOp .And (a::b::bd) pos) (m1||m2) (eB t u):=by
  refine sK (wU ha hb) fun σ H Q z=>?_
  obtain ⟨B,E,xs,Xs,res,E',fr,cl,e,q⟩:=z
  obtain ⟨⟨b1,E1⟩,e1,e⟩:=Option.bind_eq_some_iff.mp e
  refine ⟨B,E,xs,Xs,b1,E1,fr,fun z=>cl (by simp [z]),e1,fun H1 fr1=>?_⟩
  cases b1 with
  | true=>exact (if_pos rfl).mpr ⟨B,E1,xs,Xs,res,E',fr1,fun z=>cl (by simp [z]),e,q⟩
  | false=>cases e;exact (if_neg (by decide)).mpr (q _ fr1)
theorem jW (ha:TX X a m1 t) (hb:WX X (.BoolOp .Or (b::bd) pos) m2 u):WX X (.BoolOp .Or (a::b::bd) pos) (m1||m2) (gl t u):=by
  refine sK (yC ha hb) fun σ H Q z=>?_
  obtain ⟨B,E,xs,Xs,res,E',fr,cl,e,q⟩:=z
  obtain ⟨⟨b1,E1⟩,e1,e⟩:=Option.bind_eq_some_iff.mp e
  refine ⟨B,E,xs,Xs,b1,E1,fr,fun z=>cl (by simp [z]),e1,fun H1 fr1=>?_⟩
  cases b1 with
  | true=>cases e;exact (if_pos rfl).mpr (q _ fr1)
  | false=>exact (if_neg (by decide)).mpr ⟨B,E1,xs,Xs,res,E',fr1,fun z=>cl (by simp [z]),e,q⟩
theorem m5 (h:WX X a m1 t):TX X a m1 t:=PW.pt h
theorem jX (ha:TX X a m1 t):TX X (.UnaryOp .Not a pos) m1 (gS t):=by
  refine lM (wV ha) fun σ H Q z=>?_
  obtain ⟨B,E,xs,Xs,res,E',fr,cl,e,q⟩:=z
  obtain ⟨⟨b1,E1⟩,e1,e⟩:=Option.map_eq_some_iff.mp e
  cases e
  exact ⟨B,E,xs,Xs,b1,E1,fr,cl,e1,fun H1 fr1=>q _ fr1⟩
theorem xC {H:Hp} {v:V} {d:PyData} {b:Bool} (r:Rp K H v d) (e:m4 d=some b):sr K v H b:=by
  cases r with
  | non=>cases e;rfl
  | bl b=>cases e;rfl
  | int i=>cases e;rfl
  | str x=>
    simp only [m4] at e
    split at e
    · rename_i hl
      cases e
      exact ⟨cW hl,rfl⟩
    · cases e
  | lst h r=>cases e;exact .inl ⟨_,h,by cases r <;> rfl⟩
  | tup h r=>cases e;exact .inr (.inl ⟨_,h,by cases r <;> rfl⟩)
  | dct h r=>cases e
theorem iO (ha:EX X a m1 f) (he:∀whole,isTrue a X.env whole=(do let v ←whole;standAt a.pos;holding [v] (truthy v)):=by exact fun _=>rfl):TX X a m1 (jU f):=by
  refine lM (su ha he) fun σ H Q z=>?_
  obtain ⟨B,E,xs,Xs,res,E',fr,cl,e,q⟩:=z
  obtain ⟨⟨s,E1⟩,e1,e⟩:=Option.bind_eq_some_iff.mp e
  refine ⟨B,E,xs,Xs,s,E1,fr,cl,e1,fun v1 H1 ⟨F,A,fr1⟩=>?_⟩
  have key:∀d,look E1 s=some d→(m4 d).map (fun b=>(b,E1))=some (res,E')→∃k,sr X.K v1 H1 k∧Q k H1:=fun d l e=>by
    obtain ⟨b,e',z⟩:=Option.map_eq_some_iff.mp e
    cases z
    obtain ⟨A',fr2⟩:=fr1.pop
    exact ⟨_,xC (fr1.look0 l).1 e',q _ ⟨F,A',fr2⟩⟩
  have kv:(s.val.bind m4).map (fun b=>(b,E1))=some (res,E')→(∀i,s≠ .al i)→∃k,sr X.K v1 H1 k∧Q k H1:=fun e na=>by
    obtain ⟨b,e',z⟩:=Option.map_eq_some_iff.mp e
    obtain ⟨d,e1,e2⟩:=Option.bind_eq_some_iff.mp e'
    refine key d ?_ (by rw [e2];exact congrArg some z)
    cases s <;> first | exact e1 | exact absurd rfl (na _)
  simp only at e
  split at e
  · rename_i i
    split at e
    · rename_i kvs ei
      cases e
      obtain ⟨v',A1,ev,rfl,w,ew,hw⟩:=fr1.ext (k:=0) rfl
      cases ev;cases ew
      obtain ⟨o,A1,eo,l,us,A2,rfl,_,hl,r⟩:=fr1.var ei
      rw [hw] at eo
      cases eo
      obtain ⟨A',fr2⟩:=fr1.pop
      exact ⟨_, .inr (.inr ⟨_,hl,by cases us <;> cases kvs <;> first | rfl | exact False.elim r⟩),q _ ⟨F,A',fr2⟩⟩
    · rename_i s' _ ei
      obtain ⟨b,e',z⟩:=Option.map_eq_some_iff.mp e
      obtain ⟨d,e1,e2⟩:=Option.bind_eq_some_iff.mp e'
      exact key d (by simp [look,ei,e1]) (by rw [e2];exact congrArg some z)
    · cases e
  · rename_i na
    exact kv e na
end
theorem sS {X:Cx} {a b c:Expr} {m1 m2 m3:Bool} {f g h:bD} {pos:Pos} {o1 o2:CmpOp} {r r':R2} {op op':PyData→PyData→Option PyData} (ho:OpR X (compareOp o1) r) (ho':OpR X (compareOp o2) r') (k:sQ X.K r op) (k':sQ X.K r' op') (ha:EX X a m1 f) (hb:EX X b m2 g) (hc:EX X c m3 h)
    (hm:lastMarks [o1,o2] [b,c]=false:=by with_unfolding_all rfl):TX X (.Compare a [o1,o2] [b,c] pos) (m1||(m2||m3)) (cF (gk op op' m2 m3 f g h)):=lM (sq ho ho' ha hb hc hm) fun _ _ _ z=>sR k k' (sL z)
def au:kT:=fun E=>some ([],E)
def ag (m2:Bool) (f:bD) (g:kT):kT:=fun E=>(f E).bind fun a=>if m2&&a.1.isBr then none else (g a.2).map fun b=>(a.1::b.1,b.2)
def ck:kE:=fun E=>some ([],E)
def bb (f:bD) (g:kE):kE:=fun E=>(f E).bind fun a=>(frz a.2 a.1).bind fun b=>(g b.2).map fun c=>(b.1::c.1,c.2)
def g_ (f:kE):bD:=fun E=>(f E).bind fun a=>if a.1.length≤1000000 then some (.sh (.tuple a.1),a.2) else none
def eC (f:kE):bD:=fun E=>(f E).bind fun a=>if a.1.length≤1000000 then some (.ow a.1,a.2) else none
section
variable {X:Cx} {e:Expr} {es:List Expr} {m1 m2:Bool} {f:bD} {g:kT} {d:kE} {pos:Pos} {K:PySem.W.Frag}
theorem az:AX X [] false au:=by
  refine lN bE fun σ H Q z=>?_
  obtain ⟨B,E,xs,Xs,res,E',fr,cl,e,q⟩:=z
  cases e
  exact q [] H rfl fr
theorem ai (ha:EX X e m1 f) (hr:AX X es m2 g) (hs:starEach (e::es) X.env=(false,eval e X.env)::starEach es X.env:=by rfl):AX X (e::es) (m1||m2) (ag m2 f g):=by
  refine lN (aF ha hr hs) fun σ H Q z=>?_
  obtain ⟨B,E,xs,Xs,res,E',fr,cl,e,q⟩:=z
  obtain ⟨⟨s,E1⟩,e1,e⟩:=Option.bind_eq_some_iff.mp e
  by_cases hb:(m2&&s.isBr)=true
  · rw [if_pos hb] at e;cases e
  rw [if_neg hb] at e
  obtain ⟨⟨rs,E2⟩,e2,e⟩:=Option.map_eq_some_iff.mp e
  cases e
  refine ⟨B,E,xs,Xs,s,E1,fr,fun z=>cl (by simp [z]),e1,fun v1 H1 fr1=>?_⟩
  refine ⟨B,E1,v1::xs,s::Xs,rs,E2,fr1,fun z=>Calm.cons (cl (by simp [z])) ?_,e2,fun vs H2 hl fr2=>?_⟩
  · cases hs:s.isBr with
    | false=>rfl
    | true=>exact absurd (by simp [z,hs]) hb
  · exact q (v1::vs) H2 (by simp [hl]) (by simpa using fr2)
theorem cY:DX X [] false ck:=by
  refine lN bE fun σ H Q z=>?_
  obtain ⟨B,E,xs,Xs,res,E',fr,cl,e,q⟩:=z
  cases e
  exact q [] H rfl fr
theorem bQ (ha:EX X e m1 f) (hr:DX X es m2 d) (hs:starEach (e::es) X.env=(false,eval e X.env)::starEach es X.env:=by rfl):DX X (e::es) (m1||m2) (bb f d):=by
  refine lN (aF ha hr hs) fun σ H Q z=>?_
  obtain ⟨B,E,xs,Xs,res,E',fr,cl,e,q⟩:=z
  obtain ⟨⟨s,E1⟩,e1,e⟩:=Option.bind_eq_some_iff.mp e
  obtain ⟨⟨d1,E2⟩,e2,e⟩:=Option.bind_eq_some_iff.mp e
  obtain ⟨⟨rs,E3⟩,e3,e⟩:=Option.map_eq_some_iff.mp e
  cases e
  refine ⟨B,E,xs,Xs,s,E1,fr,fun z=>cl (by simp [z]),e1,fun v1 H1 ⟨F,A,fr1⟩=>?_⟩
  obtain ⟨F2,A2,fr2⟩:=fr1.frz0 e2
  refine ⟨B,E2,v1::xs, .sh d1::Xs,rs,E3,⟨F2,A2,fr2⟩,fun z=>Calm.cons (cl (by simp [z])) rfl,e3,fun vs H2 hl fr2=>?_⟩
  exact q (v1::vs) H2 (by simp [hl]) (by simpa using fr2)
theorem FrF.shsR {B F:Hp} {σ:iN} {H:Hp} {E:List Sl} {xs:List V} {Xs:List Sl}:∀{us:List V} {es:List PyData} {A:List Addr},us.length=es.length→FrF K B F A σ H E (us++xs) (es.map .sh++Xs)→RpA K F us es∧∃A',FrF K B F A' σ H E xs Xs
  | [],[],A,_,h=>⟨.nil,A,h⟩
  | u::us,e::es,A,hl,h=>by
    obtain ⟨v,A1,ev,rfl,w,ew,r⟩:=h.ext (k:=0) rfl
    cases ev;cases ew
    obtain ⟨A',h'⟩:=FrF.pop (xs:=us++xs) (Xs:=es.map .sh++Xs) h
    obtain ⟨r',q⟩:=FrF.shsR (by simpa using hl) h'
    exact ⟨.cons r r',q⟩
  | [],_::_,_,e,_=>by cases e
  | _::_,[],_,e,_=>by cases e
theorem FrF.shs {B F:Hp} {σ:iN} {H:Hp} {E:List Sl} {xs:List V} {Xs:List Sl} {us:List V} {es:List PyData} {A:List Addr} (hl:us.length=es.length) (h:FrF K B F A σ H E (us.reverse++xs) (es.reverse.map .sh++Xs)):RpA K F us es∧∃A',FrF K B F A' σ H E xs Xs:=by
  obtain ⟨r,q⟩:=FrF.shsR (by simpa using hl) h
  have:=r.rev
  rw [List.reverse_reverse,List.reverse_reverse] at this
  exact ⟨this,q⟩
theorem jY {x1} (h:DX X es m1 d):EX X (.Tuple es x1 pos) m1 (g_ d):=by
  refine bF (xn h) fun σ H Q z=>?_
  obtain ⟨B,E,xs,Xs,res,E',fr,cl,e,q⟩:=z
  obtain ⟨⟨ds,E1⟩,e1,e⟩:=Option.bind_eq_some_iff.mp e
  simp only at e
  split at e
  · rename_i hl
    cases e
    refine ⟨B,E,xs,Xs,ds,_,fr,cl,e1,fun vs H1 hv ⟨F,A,fr1⟩=>?_⟩
    obtain ⟨r,A',fr2⟩:=fr1.shs hv
    exact ⟨cW (by omega),fun p hp=>q _ _ ⟨_,_,fr2.newt r hp⟩⟩
  · cases e
theorem fT (h:DX X es m1 d):EX X (.List es pos) m1 (eC d):=by
  refine bF (sw h) fun σ H Q z=>?_
  obtain ⟨B,E,xs,Xs,res,E',fr,cl,e,q⟩:=z
  obtain ⟨⟨ds,E1⟩,e1,e⟩:=Option.bind_eq_some_iff.mp e
  simp only at e
  split at e
  · rename_i hl
    cases e
    refine ⟨B,E,xs,Xs,ds,_,fr,cl,e1,fun vs H1 hv ⟨F,A,fr1⟩=>?_⟩
    obtain ⟨r,A',fr2⟩:=fr1.shs hv
    exact ⟨cW (by omega),fun p hp=>q _ _ ⟨_,_,fr2.newl r hp⟩⟩
  · cases e
end
def qR (ds:List PyData) (lo hi:Option Int):List PyData:=(ds.drop (HT.jL ds.length 0 lo)).take (HT.jL ds.length ds.length hi - HT.jL ds.length 0 lo)
def dY:P2:=fun E s1 s2=>(look E s1).bind fun d1=>(look E s2).bind fun d2=>match d2 with
  | .int i=>match d1 with
    | .list ds=>(atI ds i).map fun d=>(if cV E s1&& !bV d then .br d else .sh d,E)
    | .tuple ds=>(atI ds i).map fun d=>(if cV E s1&& !bV d then .br d else .sh d,E)
    | .str z=>if z.length≤1000000 then (atI z.cps.toList i).map fun c=>(.sh (.str ⟨#[c]⟩),E) else none
    | _=>none
  | _=>none
section
variable {K:PySem.W.Frag} {H:Hp}
theorem RpA.atI {vs:List V} {ds:List PyData} {i:Int} {d:PyData} (h:RpA K H vs ds) (e:L2.atI ds i=some d):∃v,L2.atI vs i=some v∧Rp K H v d:=by
  unfold L2.atI at e ⊢
  obtain ⟨j,e1,e2⟩:=Option.bind_eq_some_iff.mp e
  obtain ⟨v,ev,r⟩:=h.get e2
  exact ⟨v,by rw [h.len,e1];exact ev,r⟩
theorem FrF.item {B F:Hp} {A:List Addr} {σ:iN} {E:List Sl} {xs:List V} {Xs:List Sl} {v1 v2 v:V} {s1 s2:Sl} {d:PyData} (fr:FrF K B F A σ H E (v2::v1::xs) (s2::s1::Xs)) (r:Rp K H v d) (f:cV E s1=false→Rp K F v d):
    Frm K B σ H E (v::xs) ((if cV E s1&& !bV d then .br d else .sh d)::Xs):=by
  by_cases hc:(cV E s1&& !bV d)=true
  · rw [if_pos hc]
    exact fr.res2 ⟨rfl,v,rfl,r⟩
  · rw [if_neg hc]
    refine fr.res2 ⟨rfl,v,rfl,?_⟩
    cases hh:cV E s1 with
    | false=>exact f hh
    | true=>
      rw [hh] at hc
      exact fr.cold r (by simpa using hc)
theorem xD:gj K (Av K) dY:=by
  intro B F A σ H E xs Xs v1 v2 s1 s2 res E' Q fr e q
  obtain ⟨d1,e1,e⟩:=Option.bind_eq_some_iff.mp e
  obtain ⟨d2,e2,e⟩:=Option.bind_eq_some_iff.mp e
  obtain ⟨r1,f1⟩:=fr.look1 e1
  have r2:=(fr.look0 e2).1
  split at e
  · cases r2
    split at e
    · obtain ⟨d,ed,e⟩:=Option.map_eq_some_iff.mp e
      cases e
      cases hh:cV E s1 with
      | false=>
        obtain ⟨a,vs,rfl,h1,h2⟩:=f1 hh
        obtain ⟨v,ev,rv⟩:=h2.atI ed
        have z:=fr.item (rv.same fr.fh) fun _=>rv
        rw [hh] at z q
        exact .inl ⟨_,_,_,v,rfl,rfl,h1,ev,q _ _ z⟩
      | true=>
        cases r1 with
        | lst h1 h2=>
          obtain ⟨v,ev,rv⟩:=h2.atI ed
          have z:=fr.item rv fun h=>absurd (hh.symm.trans h) (by decide)
          rw [hh] at z q
          exact .inl ⟨_,_,_,v,rfl,rfl,h1,ev,q _ _ z⟩
    · obtain ⟨d,ed,e⟩:=Option.map_eq_some_iff.mp e
      cases e
      cases hh:cV E s1 with
      | false=>
        have h0:Rp K F v1 _:=f1 hh
        cases h0 with
        | tup h1 h2=>
          obtain ⟨v,ev,rv⟩:=h2.atI ed
          have z:=fr.item (rv.same fr.fh) fun _=>rv
          rw [hh] at z q
          exact .inr (.inl ⟨_,_,_,v,rfl,rfl,fr.fh.tup h1,ev,q _ _ z⟩)
      | true=>
        cases r1 with
        | tup h1 h2=>
          obtain ⟨v,ev,rv⟩:=h2.atI ed
          have z:=fr.item rv fun h=>absurd (hh.symm.trans h) (by decide)
          rw [hh] at z q
          exact .inr (.inl ⟨_,_,_,v,rfl,rfl,h1,ev,q _ _ z⟩)
    · split at e
      · rename_i hl
        obtain ⟨c,ec,e⟩:=Option.map_eq_some_iff.mp e
        cases e;cases r1
        exact .inr (.inr ⟨_,_,c,rfl,rfl,cW hl,ec,q _ _ (fr.res2 ⟨rfl,_,rfl, .str _⟩)⟩)
      · cases e
    · cases e
  · cases e
end
end PL
namespace L2
open PySem PySem.Spec PyProof.Rows
section
variable {κ:Type} [DecidableEq κ]
def gQ (kvs:List (κ×V)) (k:κ):Option V:=(kvs.find? fun kv=>decide (kv.1=k)).map (·.2)
def fD (kvs:List (κ×V)) (k:κ) (v:V):List (κ×V):=
  if (kvs.any fun kv=>decide (kv.1=k))=true then kvs.map (fun kv=>if kv.1=k then (kv.1,v) else kv) else kvs++[(k,v)]
def wu (kvs:List (κ×V)) (k:κ):List (κ×V):=kvs.filter fun kv=>decide (kv.1≠k)
theorem gm {p:κ×V} {r:List (κ×V)} {k:κ} (e:p.1=k):gQ (p::r) k=some p.2:=by simp [gQ,List.find?_cons,e]
theorem fE {p:κ×V} {r:List (κ×V)} {k:κ} (e:¬p.1=k):gQ (p::r) k=gQ r k:=by simp [gQ,List.find?_cons,e]
theorem m6 (k:κ):∀kvs:List (κ×V),(kvs.any fun kv=>decide (kv.1=k))=(gQ kvs k).isSome
  | []=>rfl
  | p::r=>by
    rw [List.any_cons]
    by_cases e:p.1=k
    · simp only [gm e,decide_eq_true e,Bool.true_or,Option.isSome_some]
    · rw [fE e,decide_eq_false e,Bool.false_or];exact m6 k r
theorem gn (kvs:List (κ×V)) (k:κ) (v:V):(fD kvs k v).length≤kvs.length+1:=by
  unfold fD
  split
  · rw [List.length_map];omega
  · rw [List.length_append,List.length_cons,List.length_nil];omega
theorem RelO.isSome_eq {o:Option V} {u:Option Value} (r:RelO o u):o.isSome=u.isSome:=by
  cases o with
  | none=>cases u with
    | none=>rfl
    | some _=>exact (show False from r).elim
  | some _=>cases u with
    | none=>exact (show False from r).elim
    | some _=>rfl
theorem RelO.getD {o:Option V} {u:Option Value} {d:V} {d':Value} (r:RelO o u) (rd:RelV d d'):RelV (o.getD d) (u.getD d'):=by
  cases o with
  | none=>cases u with
    | none=>exact rd
    | some _=>exact (show False from r).elim
  | some _=>cases u with
    | none=>exact (show False from r).elim
    | some _=>exact r
theorem KV.val {kvs:List (κ×V)} {vs:List (κ×Value)} (r:KV kvs vs) (k:κ):RelO (gQ kvs k) (valueAt vs k):=by
  unfold KV at r
  induction r with
  | nil=>exact True.intro
  | @cons p q ps qs h t ih=>
    obtain ⟨h1,h2⟩:=h
    by_cases e:p.1=k
    · have e':q.1=k:=h1.symm.trans e
      have b:valueAt (q::qs) k=some q.2:=by simp [valueAt,List.find?_cons,e']
      rw [gm e,b];exact h2
    · have e':¬q.1=k:=fun z=>e (h1.trans z)
      have b:valueAt (q::qs) k=valueAt qs k:=by simp [valueAt,List.find?_cons,e']
      rw [fE e,b];exact ih
theorem KV.any {kvs:List (κ×V)} {vs:List (κ×Value)} (r:KV kvs vs) (k:κ):(kvs.any fun kv=>decide (kv.1=k))=vs.any fun kv=>decide (kv.1=k):=by
  unfold KV at r
  induction r with
  | nil=>rfl
  | cons h t ih=>rw [List.any_cons,List.any_cons,ih,h.1]
theorem KV.repl {kvs:List (κ×V)} {vs:List (κ×Value)} (r:KV kvs vs) (k:κ) {y:V} {u:Value} (ry:RelV y u):
    KV (kvs.map fun kv=>if kv.1=k then (kv.1,y) else kv) (vs.map fun kv=>if kv.1=k then (kv.1,u) else kv):=by
  unfold KV at r ⊢
  induction r with
  | nil=>exact .nil
  | @cons p q ps qs h t ih=>
    rw [List.map_cons,List.map_cons]
    refine .cons ?_ ih
    obtain ⟨h1,h2⟩:=h
    by_cases e:p.1=k
    · rw [if_pos e,if_pos (h1.symm.trans e)];exact ⟨h1,ry⟩
    · rw [if_neg e,if_neg (fun z=>e (h1.trans z))];exact ⟨h1,h2⟩
theorem KV.put {kvs:List (κ×V)} {vs:List (κ×Value)} (r:KV kvs vs) (k:κ) {y:V} {u:Value} (ry:RelV y u):KV (fD kvs k y) (stored vs k u):=by
  unfold fD stored
  rw [r.any k]
  by_cases e:(vs.any fun kv=>decide (kv.1=k))=true
  · rw [if_pos e,if_pos e];exact r.repl k ry
  · rw [if_neg e,if_neg e];exact Paired.snoc r ⟨rfl,ry⟩
theorem KV.drop {kvs:List (κ×V)} {vs:List (κ×Value)} (r:KV kvs vs) (k:κ):KV (wu kvs k) (without vs k):=by
  unfold KV at r ⊢
  unfold wu without
  induction r with
  | nil=>exact .nil
  | @cons p q ps qs h t ih=>
    obtain ⟨h1,h2⟩:=h
    rw [List.filter_cons,List.filter_cons]
    by_cases e:p.1=k
    · have a:¬decide (p.1≠k)=true:=by simp [e]
      have b:¬decide (q.1≠k)=true:=by simp [h1.symm.trans e]
      rw [if_neg a,if_neg b];exact ih
    · have e':¬q.1=k:=fun z=>e (h1.trans z)
      have a:decide (p.1≠k)=true:=by simp [e]
      have b:decide (q.1≠k)=true:=by simp [e']
      rw [if_pos a,if_pos b];exact .cons ⟨h1,h2⟩ ih
theorem KV.keys {kvs:List (κ×V)} {vs:List (κ×Value)} (r:KV kvs vs):kvs.map (·.1)=vs.map (·.1):=by
  unfold KV at r
  induction r with
  | nil=>rfl
  | cons h t ih=>rw [List.map_cons,List.map_cons,ih,h.1]
theorem KV.length {kvs:List (κ×V)} {vs:List (κ×Value)} (r:KV kvs vs):kvs.length=vs.length:=Paired.length r
end
theorem pN {P:Program} {w:World} {k:aP} {u:Value} (r:RelV (kV k) u):(aS P w).is k u=true:=by
  cases k with
  | inl i=>obtain ⟨t,e⟩:=(show ∃t,u=Value.int i t from r);subst e;exact mI P w i t
  | inr x=>obtain ⟨t,e⟩:=(show ∃t,u=Value.str x t from r);subst e;exact mJ P w x t
theorem kW {P:Program} {w:World}:∀{ks:List aP} {us:List Value},Vals (ks.map kV) us→ItemsAre (aS P w) ks us
  | [],_,r=>by rw [List.map_nil] at r;cases r;exact .nil
  | k::ks,_,r=>by
    rw [List.map_cons] at r
    cases r with
    | cons h t=>exact .cons (pN h) (kW t)
abbrev KT (H:Hp):List (List aP×V)→List (List aP×Addr×Value)→Prop:=Paired fun p q=>p.1=q.1∧H q.2.1=some (.tup (p.1.map kV))∧RelV p.2 q.2.2
theorem KT.val {H:Hp} {kvs:List (List aP×V)} {xs:List (List aP×Addr×Value)} (r:KT H kvs xs) (k:List aP):RelO (gQ kvs k) ((atKey xs k).map (·.2)):=by
  induction r with
  | nil=>exact True.intro
  | @cons p q ps qs h t ih=>
    obtain ⟨h1,_,h2⟩:=h
    by_cases e:p.1=k
    · have e':q.1=k:=h1.symm.trans e
      have b:atKey (q::qs) k=some q.2:=by simp [atKey,List.find?_cons,e']
      rw [gm e,b];exact h2
    · have e':¬q.1=k:=fun z=>e (h1.trans z)
      have b:atKey (q::qs) k=atKey qs k:=by simp [atKey,List.find?_cons,e']
      rw [fE e,b];exact ih
theorem KT.repl {H:Hp} {kvs:List (List aP×V)} {xs:List (List aP×Addr×Value)} (r:KT H kvs xs) (k:List aP) {y:V} {u:Value} (ry:RelV y u):
    KT H (kvs.map fun kv=>if kv.1=k then (kv.1,y) else kv) (xs.map (putAt k u)):=by
  induction r with
  | nil=>exact .nil
  | @cons p q ps qs h t ih=>
    rw [List.map_cons,List.map_cons]
    refine .cons ?_ ih
    obtain ⟨h1,h2,h3⟩:=h
    unfold putAt
    by_cases e:p.1=k
    · rw [if_pos e,if_pos (h1.symm.trans e)];exact ⟨h1,h2,ry⟩
    · rw [if_neg e,if_neg (fun z=>e (h1.trans z))];exact ⟨h1,h2,h3⟩
theorem KT.put {H:Hp} {kvs:List (List aP×V)} {xs:List (List aP×Addr×Value)} (r:KT H kvs xs) (k:List aP) {b:Addr} {y:V} {u:Value} (hb:H b=some (.tup (k.map kV))) (ry:RelV y u):
    KT H (fD kvs k y) (storedH xs k b u):=by
  have e:(kvs.any fun kv=>decide (kv.1=k))=(atKey xs k).isSome:=by
    rw [m6,(r.val k).isSome_eq,Option.isSome_map]
  unfold fD storedH
  rw [e]
  by_cases q:(atKey xs k).isSome=true
  · rw [if_pos q,if_pos q];exact r.repl k ry
  · rw [if_neg q,if_neg q];exact Paired.snoc r ⟨rfl,hb,ry⟩
theorem KT.keeps {H H':Hp} {kvs:List (List aP×V)} {xs:List (List aP×Addr×Value)} (r:KT H kvs xs) (ht:∀b ys,H b=some (.tup ys)→H' b=some (.tup ys)):KT H' kvs xs:=
  Paired.mapP r fun _ _ z=>⟨z.1,ht _ _ z.2.1,z.2.2⟩
section
variable {P:Program} {w:World} {H:Hp} {h:Heap} {a:Addr}
theorem wv {u:HO} (ok:HOk P w H h) (e:Rd H a u):ObjOk P w H h a u:=e.ok ok
theorem pO {kvs:List (aP×V)} (ok:HOk P w H h) (e:Rd H a (.dK kvs)):kvs.length≤sizeLine∧(a == sysModules)=false∧∃vs,KV kvs vs∧h.DictOf (aS P w) a vs:=
  show ObjOk P w H h a (.dK kvs) from wv ok e
theorem ww {kvs:List (aP×V)} (ok:HOk P w H h) (e:H a=some (.dK kvs)):kvs.length≤sizeLine∧(a == sysModules)=false∧∃vs,KV kvs vs∧h.DictOf (aS P w) a vs:=pO ok (.inl e)
theorem oD {ks:List aP} (ok:HOk P w H h) (e:H a=some (.tup (ks.map kV))):(tupleKind (aS P w)).is h ks a:=by
  obtain ⟨_,its,r,o,h1,h2,n,h3⟩:=(show ObjOk P w H h a (.tup (ks.map kV)) from ok a _ e)
  exact ⟨o,its.toArray,n,h1,h2,h3,by simpa using kW r⟩
theorem sT {kvs:List (List aP×V)} (ok:HOk P w H h) (e:Rd H a (.dT kvs)):kvs.length≤sizeLine∧(a == sysModules)=false∧
    ∃xs,KT H kvs xs∧h.DictOfH (tupleKind (aS P w)) a xs:=by
  obtain ⟨z,y,xs,r,o,es,ep,h1,h2,h3,h4,h5⟩:=(show ObjOk P w H h a (.dT kvs) from wv ok e)
  refine ⟨z,y,xs,r,o,es,ep,h1,h2,h3,h4,fun x hx=>?_,h5⟩
  have all:∀{l:List (List aP×V)} {m:List (List aP×Addr×Value)},KT H l m→∀x∈m,(tupleKind (aS P w)).is h x.1 x.2.1:=by
    intro l m q
    induction q with
    | nil=>intro x hx;exact nomatch hx
    | @cons p q ps qs hq t ih=>
      intro x hx
      rcases List.mem_cons.mp hx with e | hx
      · subst e
        exact oD ok (by rw [←hq.1];exact hq.2.1)
      · exact ih x hx
  exact all r x hx
theorem y3 {kvs:List (List aP×V)} (ok:HOk P w H h) (e:H a=some (.dT kvs)):kvs.length≤sizeLine∧(a == sysModules)=false∧
    ∃xs,KT H kvs xs∧h.DictOfH (tupleKind (aS P w)) a xs:=sT ok (.inl e)
end
def DGet (H:Hp) (a:Addr) (y:V) (r:Option V):Prop:=
  (∃kvs k,Rd H a (.dK kvs)∧y=kV k∧r=gQ kvs k)∨∃kvs k b,Rd H a (.dT kvs)∧y= .ref b∧H b=some (.tup (k.map kV))∧r=gQ kvs k
def DPut (H:Hp) (a:Addr) (y v:V) (H':Hp):Prop:=
  (∃kvs k,H a=some (.dK kvs)∧y=kV k∧kvs.length < sizeLine∧H'=upd H a (.dK (fD kvs k v)))∨
  ∃kvs k b,H a=some (.dT kvs)∧y= .ref b∧H b=some (.tup (k.map kV))∧kvs.length < sizeLine∧H'=upd H a (.dT (fD kvs k v))
theorem DGet.k {H:Hp} {a:Addr} {kvs:List (aP×V)} {k:aP} (e:H a=some (.dK kvs)):DGet H a (kV k) (gQ kvs k):= .inl ⟨kvs,k, .inl e,rfl,rfl⟩
theorem DGet.t {H:Hp} {a b:Addr} {kvs:List (List aP×V)} {k:List aP} (e:H a=some (.dT kvs)) (eb:H b=some (.tup (k.map kV))):DGet H a (.ref b) (gQ kvs k):= .inr ⟨kvs,k,b, .inl e,rfl,eb,rfl⟩
theorem DPut.k {H:Hp} {a:Addr} {kvs:List (aP×V)} {k:aP} {v:V} (e:H a=some (.dK kvs)) (hl:kvs.length < sizeLine):DPut H a (kV k) v (upd H a (.dK (fD kvs k v))):= .inl ⟨kvs,k,e,rfl,hl,rfl⟩
theorem DPut.t {H:Hp} {a b:Addr} {kvs:List (List aP×V)} {k:List aP} {v:V} (e:H a=some (.dT kvs)) (eb:H b=some (.tup (k.map kV))) (hl:kvs.length < sizeLine):
    DPut H a (.ref b) v (upd H a (.dT (fD kvs k v))):= .inr ⟨kvs,k,b,e,rfl,eb,hl,rfl⟩
section
variable {X:Cx} {pins:List (Addr×Obj)} {σ:St} {H:Hp} {s:Shared} {a:Addr} {y v:V} {u r:Value} {o:Option V} {A:Around} {E:Value→Shared→Prop}
theorem Inv.big (I:Inv X pins σ H s):sysModules < s.heap.objs.size:=by
  have h:mainGlobals < s.heap.objs.size:=(I.mod.glob.keeps I.bk).lt
  exact Nat.lt_trans (by decide) h
theorem lS {h':Heap} {t':Nat} {ob:HO} (I:Inv X pins σ H s) (mu:yz (H a)) (hs:Heap.SameBut a s.heap h') (he:∃q,h'.get? a=some q) (new:ObjOk X.prog X.w (upd H a ob) h' a ob):
    Inv X pins σ (upd H a ob) {s with heap:=h',toks:=t'}:=
  I.write (x:=a) (e:=a) mu (.inl rfl) (fun b q hb z=>(hs.2 b hb).trans z) he new
theorem sU {P:Program} {w:World} {H':Hp} {h':Heap} {kvs:List (aP×V)} {vs:List (aP×Value)} (z:kvs.length≤sizeLine) (hd:(a == sysModules)=false) (rel:KV kvs vs) (dd:h'.DictOf (aS P w) a vs):
    ObjOk P w H' h' a (.dK kvs):=⟨z,hd,vs,rel,dd⟩
theorem qS {H':Hp} {Q:Unit→Shared→Prop} (hu:A.units+1 < cLine) (I:Inv X pins σ H s) (g:DPut H a y v H') (ry:RelV y u) (rv:RelV v r) (h:∀s',Inv X pins σ H' s'→Q () s'):
    wpAny (model X.prog X.w) A (setItem (.ref a) u r) Q E s:=by
  rcases g with ⟨kvs,k,e,ey,l,eH⟩ | ⟨kvs,k,b,e,ey,eb,l,eH⟩
  · subst ey eH
    obtain ⟨z,hd,vs,rel,dd⟩:=ww I.hok e
    have hz:vs.length≤sizeLine:=by rw [←rel.length];exact z
    have hl:(fD kvs k v).length≤sizeLine:=by have:=gn kvs k v;omega
    refine wpAny_setItem_pairs (hsz:=hz) (pN ry) dd fun h' dd' hs=>h _ ?_
    have he:∃q,h'.get? a=some q:=let ⟨q,_,_,hq,_⟩:=dd';⟨q,hq⟩
    exact lS I (by rw [e];exact True.intro) hs he (sU hl hd (rel.put k rv) dd')
  · subst ey eH
    cases (show u=Value.ref b from ry)
    obtain ⟨z,hd,xs,rel,dd⟩:=y3 I.hok e
    have hz:xs.length≤sizeLine:=by rw [←Paired.length rel];exact z
    have hl:(fD kvs k v).length≤sizeLine:=by have:=gn kvs k v;omega
    refine wpAny_setItem_heap (hsz:=hz) (tupleKind_room_in1 hu) (oD I.hok eb) dd fun h' dd' hs=>h _ ?_
    obtain ⟨q,es,ep,hq,h2,h3,h4,_,h5⟩:=dd'
    refine lS I (by rw [e];exact True.intro) hs ⟨q,hq⟩ ⟨hl,hd,_,(rel.put k eb rv).keeps fun c ys ec=>?_,q,es,ep,hq,h2,h3,h4,h5⟩
    rw [ak (se ec e (fun z=>nomatch z))]
    exact ec
end
def wx (td ty tv:TE):TS:=fun D σ H=>tv σ H fun v H1=>td σ H1 fun x H2=>ty σ H2 fun y H3=>∃a H4,x= .ref a∧DPut H3 a y v H4∧D.nx σ H4
section
variable {X:Cx} {o i e value:Expr} {pos pos' tpos:Pos} {td ty tv:TE}
theorem pP (hu:X.A.units+1 < cLine) (ho:PE X o td) (hi:PE X i ty) (hv:PE X value tv) (hs:swapsWith value (some (.Subscript o i pos')) pos.line X.env=pure false):
    PS X (.Assign [.Subscript o i pos'] value pos) (wx td ty tv):=by
  intro pins s σ H D I h
  refine wpAny_Assign_Subscript (bN (hv pins s σ H _ I h) fun r s1 ⟨v,H1,I1,rv,q1⟩=>bN (ho pins s1 σ H1 _ I1 q1) fun u s2 ⟨x,H2,I2,rx,q2⟩=>bN (hi pins s2 σ H2 _ I2 q2) fun iv s3 ⟨y,H3,I3,ry,a,H4,ex,g,q3⟩=>?_) hs
  subst ex
  obtain rfl:u=Value.ref a:=rx
  exact qS hu I3 g ry rv fun s4 I4=>⟨σ,H4,I4,q3⟩
end
theorem m7 {P:Program} {w:World} {H:Hp} (h:Heap) (hb:sysModules < h.objs.size):ObjOk P w H (h.push {cls:= .type "dict",data:= .dict #[]}) h.objs.size (.dK []):=
  ⟨Nat.zero_le _,beq_eq_false_iff_ne.mpr (Ne.symm (Nat.ne_of_lt hb)),[], .nil,Heap.DictOf.new h⟩
def oE:TE:=fun _ H Q=>∀p,H p=none→Q (.ref p) (upd H p (.dK []))
section
variable {X:Cx} {pos:Pos}
theorem jZ:PE X (.Dict [] [] pos) oE:=fun pins s σ H Q I h=>
  wpAny_Dict_empty ⟨.ref s.heap.objs.size,_,I.laid (a:=s.heap.objs.size) (o:= .dK []) (t':=s.toks) (fun _ _ q=>Heap.get?_push_of_some _ q) (Nat.le_refl _) (m7 s.heap I.big),rfl,h _ (I.hok.fresh (Nat.le_refl _))⟩
end
def oF:List (TE×TE)→St→Hp→(List (V×V)→Hp→Prop)→Prop
  | [],_,H,Q=>Q [] H
  | (tk,tv)::r,σ,H,Q=>tk σ H fun x H1=>tv σ H1 fun y H2=>oF r σ H2 fun ps H3=>Q ((x,y)::ps) H3
abbrev VV:List (V×V)→List (Value×Value)→Prop:=Paired fun p q=>RelV p.1 q.1∧RelV p.2 q.2
def zK (X:Cx) (pos:Pos) (keys:List (Option Expr)) (values:List Expr) (trs:List (TE×TE)):Prop:=
  ∀(pins:List (Addr×Obj)) (s:Shared) (σ:St) (H:Hp) (Q:List (V×V)→Hp→Prop),Inv X pins σ H s→oF trs σ H Q→
    wpAny (model X.prog X.w) X.A (evalPairs (pairTrees keys values X.env pos)) (fun vs s'=>∃ps H',Inv X pins σ H' s'∧VV ps vs∧Q ps H') X.xe s
theorem vB {X:Cx} {pos:Pos}:zK X pos [] [] []:=fun pins s σ H Q I h=>pairTrees_nil_walk ⟨[],H,I, .nil,h⟩
theorem sV {X:Cx} {pos:Pos} {k v:Expr} {ks:List (Option Expr)} {vs:List Expr} {tk tv:TE} {trs:List (TE×TE)} (hk:PE X k tk) (hv:PE X v tv) (hr:zK X pos ks vs trs):
    zK X pos (some k::ks) (v::vs) ((tk,tv)::trs):=fun pins s σ H Q I h=>
  pairTrees_cons_walk (bN (hk pins s σ H _ I h) fun u s1 ⟨x,H1,I1,rx,q1⟩=>bN (hv pins s1 σ H1 _ I1 q1) fun w2 s2 ⟨y,H2,I2,ry,q2⟩=>
    bN (hr pins s2 σ H2 _ I2 q2) fun ws s3 ⟨ps,H3,I3,rel,q3⟩=>⟨(x,y)::ps,H3,I3, .cons ⟨rx,ry⟩ rel,q3⟩)
def j0 (kvs more:List (aP×V)):List (aP×V):=more.foldl (fun acc kv=>fD acc kv.1 kv.2) kvs
theorem KV.merge:∀{more:List (aP×V)} {rs:List (aP×Value)} {kvs:List (aP×V)} {vs:List (aP×Value)},KV more rs→KV kvs vs→KV (j0 kvs more) (merged vs rs):=by
  intro more rs kvs vs r
  unfold KV at r
  induction r generalizing kvs vs with
  | nil=>intro q;exact q
  | @cons p q ps qs h t ih=>
    intro r0
    have e:KV (fD kvs p.1 p.2) (stored vs q.1 q.2):=by
      have:=r0.put p.1 h.2
      rw [←h.1];exact this
    exact ih e
theorem gU:∀(more kvs:List (aP×V)),(j0 kvs more).length≤kvs.length+more.length
  | [],kvs=>by show kvs.length≤kvs.length+0;omega
  | p::r,kvs=>by
    have h1:=gU r (fD kvs p.1 p.2)
    have h2:=gn kvs p.1 p.2
    show (j0 (fD kvs p.1 p.2) r).length≤_
    rw [List.length_cons];omega
theorem j4 {P:Program} {w:World}:∀{kvs:List (aP×V)} {ws:List (Value×Value)},VV (kvs.map fun kv=>(kV kv.1,kv.2)) ws→∃rs,Carries (aS P w) ws rs∧KV kvs rs
  | [],_,r=>by rw [List.map_nil] at r;cases r;exact ⟨[],True.intro, .nil⟩
  | p::kvs,_,r=>by
    rw [List.map_cons] at r
    cases r with
    | @cons a b as bs h t=>
      obtain ⟨rs,c,q⟩:=j4 (P:=P) (w:=w) t
      obtain ⟨b1,b2⟩:=b
      exact ⟨(p.1,b2)::rs,⟨pN h.1,rfl,c⟩, .cons ⟨rfl,h.2⟩ q⟩
def sW (trs:List (TE×TE)):TE:=fun σ H Q=>∀p,H p=none→oF trs σ (upd H p (.dK [])) fun ps H2=>H2 p=some (.dK [])∧∃kvs:List (aP×V),ps=kvs.map (fun kv=>(kV kv.1,kv.2))∧kvs.length≤15∧Q (.ref p) (upd H2 p (.dK (j0 [] kvs)))
theorem vC {X:Cx} {pos:Pos} {keys:List (Option Expr)} {values:List Expr} {trs:List (TE×TE)} (h:zK X pos keys values trs) (hall:keys.all (·.isSome)=true) (hl:keys.length=values.length) (h0:keys≠[])
    (h15:keys.length≤15):PE X (.Dict keys values pos) (sW trs):=by
  intro pins s σ H Q I q
  have hn:=I.hok.fresh (Nat.le_refl s.heap.objs.size)
  have I1:=I.laid (a:=s.heap.objs.size) (o:= .dK []) (h':=s.heap.push {cls:= .type "dict",data:= .dict #[]}) (t':=s.toks) (fun _ _ q=>Heap.get?_push_of_some _ q) (Nat.le_refl _) (m7 s.heap I.big)
  refine wpAny_Dict_walk (knd:=aS X.prog X.w) hall hl h0 h15 (bN (h pins _ σ _ _ I1 (q _ hn)) fun ws s2 ⟨ps,H2,I2,rel,e,kvs,ep,lk,q2⟩=>?_)
  subst ep
  obtain ⟨rs,c,rk⟩:=j4 (P:=X.prog) (w:=X.w) rel
  obtain ⟨z,hd,vs0,r0,dd⟩:=ww I2.hok e
  cases r0
  refine ⟨rs,c,dd,fun h' dd' hs=>⟨.ref s.heap.objs.size,_,?_,rfl,q2⟩⟩
  have hz:(j0 [] kvs).length≤sizeLine:=by
    have h1:=gU kvs []
    rw [List.length_nil] at h1
    rw [sizeLine_eq];omega
  have he:∃q,h'.get? s.heap.objs.size=some q:=let ⟨q,_,_,hq,_⟩:=dd';⟨q,hq⟩
  exact lS I2 (by rw [e];exact True.intro) hs he (sU hz hd (rk.merge .nil) dd')
structure M2 (X:Cx) (o:Expr) (m:Str) (apos:Pos) (e f:Expr) (cpos:Pos):Prop where
  base:attributeBase o m X.env (eval o X.env)=eval o X.env
  few:((backTo cpos (starEach [e,f] X.env)).all (fun x=> !x.1)&&(backToKw cpos (keywordEach [] X.env)).all (fun x=>x.1.isSome)
    &&decide (([e,f]:List Expr).length+([]:List Keyword).length+(if ([]:List Keyword).isEmpty then 0 else 1) < 30))=true
  line:(apos.endLine == cpos.line)=true
  trees:backTo cpos (starEach [e,f] X.env)=[(false,eval e X.env),(false,eval f X.env)]
def Ay (H:Hp) (a:Addr):Prop:=(∃kvs,Rd H a (.dK kvs))∨∃kvs,Rd H a (.dT kvs)
theorem xE {X:Cx} {pins:List (Addr×Obj)} {σ:St} {H:Hp} {s:Shared} {a:Addr} (I:Inv X pins σ H s) (d:Ay H a):
    s.TypeIs (.ref a) "dict"∧(∀b,Value.ref a= .ref b→∃ob,s.heap.get? b=some ob∧ob.dict=none)∧(a == sysModules)=false:=by
  rcases d with ⟨kvs,e⟩ | ⟨kvs,e⟩
  · obtain ⟨_,hd,vs,_,dd⟩:=pO I.hok e
    refine ⟨dd.typeIs,fun b q=>?_,hd⟩
    cases q
    obtain ⟨ob,_,_,h1,h2,_⟩:=dd
    exact ⟨ob,h1,h2.2.1⟩
  · obtain ⟨_,hd,xs,_,dd⟩:=sT I.hok e
    refine ⟨dd.typeIs,fun b q=>?_,hd⟩
    cases q
    obtain ⟨ob,_,_,h1,h2,_⟩:=dd
    exact ⟨ob,h1,h2.2.1⟩
section
variable {X:Cx} {pins:List (Addr×Obj)} {σ:St} {H:Hp} {s:Shared} {a:Addr} {y d:V} {u r:Value} {o:Option V} {A:Around} {E:Value→Shared→Prop}
theorem xF {Q:Value→Shared→Prop} (hu:A.units+1 < cLine) (I:Inv X pins σ H s) (g:DGet H a y o) (ry:RelV y u) (rd:RelV d r) (h:∀w' s',Inv X pins σ H s'→RelV (o.getD d) w'→Q w' s'):
    wpAny (model X.prog X.w) A (call (.builtin "dict.get") [.ref a,u,r]) Q E s:=by
  rcases g with ⟨kvs,k,e,ey,l⟩ | ⟨kvs,k,b,e,ey,eb,l⟩
  · subst ey
    obtain ⟨z,hd,vs,rel,dd⟩:=pO I.hok e
    refine call_meetsIn PySem.F.slot_dict_get dd.typeIs PySem.F.entry_dict_get (PySem.F.args_dict_get_3 _ _ _) (meets_dict_get_default (aS X.prog X.w) a (pN ry) hd r) ⟨_,dd.mapOf,h _ _ (I.tok _) ?_⟩
    rw [l]
    exact (rel.val k).getD rd
  · subst ey
    cases (show u=Value.ref b from ry)
    obtain ⟨z,hd,xs,rel,dd⟩:=sT I.hok e
    refine call_meetsIn PySem.F.slot_dict_get dd.typeIs PySem.F.entry_dict_get (PySem.F.args_dict_get_3 _ _ _) (meetsH_dict_get_default (tupleKind (aS X.prog X.w)) a b hd r) ⟨tupleKind_room_in1 hu,k,xs,oD I.hok eb,dd,h _ _ (I.tok _) ?_⟩
    rw [l]
    exact (rel.val k).getD rd
end
def sX (td ty tx:TE):TE:=fun σ H Q=>td σ H fun x H1=>∃a,x= .ref a∧Ay H1 a∧ty σ H1 fun y H2=>tx σ H2 fun z H3=>∃o,DGet H3 a y o∧Q (o.getD z) H3
section
variable {X:Cx} {o e f:Expr} {apos cpos:Pos} {td ty tx:TE}
theorem m8 (hu:X.A.units+1 < cLine) (ho:PE X o td) (he:PE X e ty) (hf:PE X f tx) (m:M2 X o "get" apos e f cpos):PE X (.Call (.Attribute o "get" apos) [e,f] [] cpos) (sX td ty tx):=by
  intro pins s σ H Q I h
  refine wpAny_Call_method m.base m.few m.line PySem.F.plainAttrs_dict PySem.F.slot_dict_get PySem.F.type_dict_get (bN (ho pins s σ H _ I h) fun u s1 ⟨x,H1,I1,rx,a,ex,d,q1⟩=>?_)
  subst ex
  obtain rfl:u=Value.ref a:=rx
  obtain ⟨t1,t2,_⟩:=xE I1 d
  refine ⟨t1,t2,?_⟩
  rw [m.trees]
  refine Calls.callWith_builtin rfl (Calls.evalArgs_plain (Calls.spliced_cons (bN (he pins s1 σ H1 _ I1 q1) fun iv s2 ⟨y,H2,I2,ry,q2⟩=>
    Calls.spliced_cons (bN (hf pins s2 σ H2 _ I2 q2) fun fv s3 ⟨z,H3,I3,rz,ov,g,q3⟩=>Calls.spliced_nil ?_))))
  exact xF hu I3 g ry rz fun w' s4 I4 rw'=>⟨_,H3,I4,rw',q3⟩
end
end L2
namespace PL
open PySem L2 Nh
theorem cm {X:Cx} {a b:Expr} {m1 m2:Bool} {f g:bD} {pos:Pos} (ha:EX X a m1 f) (hb:EX X b m2 g) (hs:pG b:=by exact fun _ _=>rfl):EX X (.Subscript a b pos) (m1||m2) (ae dY m2 f g):=bF (jM xq ha hb hs) fun _ _ _ h=>lO xD h
abbrev xG:=List Sl→Option (Option Int×List Sl)
def ro (K:PySem.W.Frag) (m:Bool) (f:xG):TO:=fun σ H Q=>∃B E xs Xs o E',Frm K B σ H E xs Xs∧(m=true→Calm Xs)∧f E=some (o,E')∧∀H',Frm K B σ H' E' xs Xs→Q o H'
def OX (X:Cx) (e:Option Expr) (m:Bool) (f:xG):Prop:=PO X e (ro X.K m f)
def eY:xG:=fun E=>some (none,E)
def dG (f:bD):xG:=fun E=>(f E).bind fun a=>match look a.2 a.1 with
  | some (.int i)=>some (some i,a.2)
  | _=>none
section
variable {X:Cx} {e:Expr} {lo hi:Option Expr} {m1 m2 m3:Bool} {f:bD} {g h:xG} {pos p2:Pos} {K:PySem.W.Frag}
theorem sY {e:Option Expr} {t t':TO} (h:PO X e t) (k:∀σ H Q,t' σ H Q→t σ H Q):PO X e t':=fun pins s σ H Q I q=>h pins s σ H Q I (k σ H Q q)
theorem eZ:OX X none false eY:=sY pD fun σ H Q z=>by
  obtain ⟨B,E,xs,Xs,res,E',fr,cl,e,q⟩:=z
  cases e
  exact q _ fr
theorem dw (he:EX X e m1 f):OX X (some e) m1 (dG f):=sY (pE he) fun σ H Q z=>by
  obtain ⟨B,E,xs,Xs,res,E',fr,cl,e,q⟩:=z
  obtain ⟨⟨s,E1⟩,e1,e⟩:=Option.bind_eq_some_iff.mp e
  refine ⟨B,E,xs,Xs,s,E1,fr,cl,e1,fun v1 H1 ⟨F,A,fr1⟩=>?_⟩
  simp only at e
  split at e
  · rename_i i l
    cases e
    have r:=(fr1.look0 l).1
    cases r
    obtain ⟨A',fr2⟩:=fr1.pop
    exact ⟨i,rfl,q _ ⟨F,A',fr2⟩⟩
  · cases e
theorem RpA.cut {F:Hp} {vs:List V} {ds:List PyData} (h:RpA K F vs ds) (lo hi:Option Int):RpA K F (qM vs lo hi) (qR ds lo hi):=by
  unfold qM qR
  rw [h.len]
  exact (h.drop _).take _
end
def aO (E:List Sl):List Sl→Option (List PyData)
  | []=>some []
  | s::ss=>(look E s).bind fun d=>(aO E ss).map fun ds=>d::ds
theorem lookA_iff {E:List Sl}:∀{ss:List Sl} {ds:List PyData},aO E ss=some ds↔Paired (fun s d=>look E s=some d) ss ds
  | [],ds=>⟨fun h=>by cases h;exact .nil,fun h=>by cases h;rfl⟩
  | s::ss,ds=>by
    constructor
    · intro h
      obtain ⟨d,h1,h⟩:=Option.bind_eq_some_iff.mp h
      obtain ⟨es,h2,h⟩:=Option.map_eq_some_iff.mp h
      cases h
      exact .cons h1 (lookA_iff.mp h2)
    · intro h
      cases h with
      | cons h1 h2=>simp [aO,h1,lookA_iff.mpr h2]
theorem qT {E:List Sl} {ss:List Sl} {ds:List PyData} (h:aO E ss=some ds):aO E ss.reverse=some ds.reverse:=lookA_iff.mpr (g7 (lookA_iff.mp h))
section
variable {X:Cx} {K:PySem.W.Frag} {B F:Hp} {σ:iN} {H:Hp} {E:List Sl} {xs:List V} {Xs:List Sl}
theorem FrF.looksR:∀{us:List V} {ts:List Sl} {es:List PyData} {A:List Addr},us.length=ts.length→FrF K B F A σ H E (us++xs) (ts++Xs)→aO E ts=some es→RpA K H us es∧∃A',FrF K B F A' σ H E xs Xs
  | [],[],es,A,_,h,e=>by cases e;exact ⟨.nil,A,h⟩
  | u::us,t::ts,es,A,hl,h,e=>by
    obtain ⟨d,h1,e⟩:=Option.bind_eq_some_iff.mp e
    obtain ⟨es',h2,e⟩:=Option.map_eq_some_iff.mp e
    cases e
    have r:=(FrF.look0 (xs:=us++xs) (Xs:=ts++Xs) h h1).1
    obtain ⟨A',h'⟩:=FrF.pop (xs:=us++xs) (Xs:=ts++Xs) h
    obtain ⟨r',q⟩:=FrF.looksR (by simpa using hl) h' h2
    exact ⟨.cons r r',q⟩
  | [],_::_,_,_,e,_,_=>by cases e
  | _::_,[],_,_,e,_,_=>by cases e
theorem FrF.looks {us:List V} {ts:List Sl} {es:List PyData} {A:List Addr} (hl:us.length=ts.length) (h:FrF K B F A σ H E (us.reverse++xs) (ts.reverse++Xs)) (e:aO E ts=some es):RpA K H us es∧∃A',FrF K B F A' σ H E xs Xs:=by
  obtain ⟨r,q⟩:=FrF.looksR (by simpa using hl) h (qT e)
  have:=r.rev
  rw [List.reverse_reverse,List.reverse_reverse] at this
  exact ⟨this,q⟩
end
def xH (K:PySem.W.Frag) (r:List V→Hp→VK→Prop) (op:List PyData→Option PyData):Prop:=∀(ds:List PyData) (d:PyData) (vs:List V) (H:Hp) (Q:VK),op ds=some d→RpA K H vs ds→∃v,wm d=some v∧(Q v H→r vs H Q)
def bH (op:List PyData→Option PyData) (g:kT):bD:=fun E=>(g E).bind fun a=>(aO a.2 a.1).bind fun ds=>(op ds).map fun d=>(.sh d,a.2)
theorem sZ {K:PySem.W.Frag} {r:List V→Hp→VK→Prop} {op:List PyData→Option PyData} (hp:xH K r op) {m:Bool} {g:kT} {σ:iN} {H:Hp} {Q:VK} (h:rd K m (bH op g) σ H Q):yr r (ra K m g) σ H Q:=by
  obtain ⟨B,E,xs,Xs,res,E',fr,cl,e,q⟩:=h
  obtain ⟨⟨rs,E1⟩,e1,e⟩:=Option.bind_eq_some_iff.mp e
  obtain ⟨ds,e2,e⟩:=Option.bind_eq_some_iff.mp e
  obtain ⟨d,e3,e⟩:=Option.map_eq_some_iff.mp e
  cases e
  refine ⟨B,E,xs,Xs,rs,E1,fr,cl,e1,fun vs H1 hl ⟨F,A,fr1⟩=>?_⟩
  obtain ⟨r1,A',fr2⟩:=fr1.looks hl e2
  obtain ⟨v,hv,k⟩:=hp ds d vs H1 Q e3 r1
  exact k (q v H1 ⟨F,A',fr2.push ⟨rfl,v,rfl,jO hv⟩⟩)
def dr:List PyData→Option PyData
  | [.list xs]=>some (.int xs.length)
  | [.tuple xs]=>some (.int xs.length)
  | [.str z]=>if z.length≤1000000 then some (.int z.length) else none
  | _=>none
def kF:List PyData→Option PyData
  | [.int i]=>some (.int (if i < 0 then -i else i))
  | _=>none
theorem RpA.one {K:PySem.W.Frag} {H:Hp} {vs:List V} {d:PyData} (h:RpA K H vs [d]):∃v,vs=[v]∧Rp K H v d:=by
  cases h with
  | cons h t=>cases t;exact ⟨_,rfl,h⟩
theorem RpA.two {K:PySem.W.Frag} {H:Hp} {vs:List V} {d e:PyData} (h:RpA K H vs [d,e]):∃v u,vs=[v,u]∧Rp K H v d∧Rp K H u e:=by
  cases h with
  | cons h t=>
    obtain ⟨u,rfl,r⟩:=t.one
    exact ⟨_,_,rfl,h,r⟩
section
variable {X:Cx} {e:Expr} {es:List Expr} {m1:Bool} {g:kT} {p pos:Pos} {K:PySem.W.Frag}
abbrev y4 (K:PySem.W.Frag):List V→Hp→VK→Prop:=fun xs H Q=>(∃p ys,xs=[.ref p]∧(SqL K H p ys∨SqT K H p ys)∧Q (.int ys.length) H)∨(∃z,xs=[.str z]∧z.length≤sizeLine∧Q (.int z.length) H)
theorem vD:xH K (y4 K) dr:=fun ds d vs H Q e r=>by
  unfold dr at e
  split at e
  · cases e
    obtain ⟨v,rfl,r'⟩:=r.one
    cases r' with
    | lst h1 h2=>exact ⟨_,rfl,fun q=> .inl ⟨_,_,rfl, .inl h1,by rw [h2.len];exact q⟩⟩
  · cases e
    obtain ⟨v,rfl,r'⟩:=r.one
    cases r' with
    | tup h1 h2=>exact ⟨_,rfl,fun q=> .inl ⟨_,_,rfl, .inr h1,by rw [h2.len];exact q⟩⟩
  · split at e
    · rename_i hl
      cases e
      obtain ⟨v,rfl,r'⟩:=r.one
      cases r'
      exact ⟨_,rfl,fun q=> .inr ⟨_,rfl,cW hl,q⟩⟩
    · cases e
  · cases e
theorem m9 {x:Str} {id:String} {r:List V→Hp→VK→Prop} {op:List PyData→Option PyData} (hp:xH X.K r op) (hc:CallR X (.builtin id) r) (hg:Gl X x) (hm:X.mg x=none) (hv:bootBuiltins x=some (.builtin id)) (ha:AX X (e::es) m1 g) (hn:x≠"__name__":=by decide) (hdb:(x == ("__debug__":Str))=false:=by decide)
    (he:starEach (e::es) X.env=(false,eval e X.env)::starEach es X.env:=by rfl) (hpl:(backTo pos (starEach es X.env)).any (·.1)=false:=by rfl):EX X (.Call (.Name x p) (e::es) [] pos) m1 (bH op g):=
  bF (fB hc hg hm hv ha hn hdb he hpl) fun _ _ _ h=>sZ hp h
theorem fj (hg:Gl X "len") (hm:X.mg "len"=none) (ha:AX X [e] m1 g) (he:starEach [e] X.env=[(false,eval e X.env)]:=by rfl):EX X (.Call (.Name "len" p) [e] [] pos) m1 (bH dr g):=m9 vD (CallR.or lH fS) hg hm PySem.boot_len ha (by decide) (by decide) he rfl
theorem s_ (hg:Gl X "abs") (hm:X.mg "abs"=none) (ha:AX X [e] m1 g) (he:starEach [e] X.env=[(false,eval e X.env)]:=by rfl):EX X (.Call (.Name "abs" p) [e] [] pos) m1 (bH kF g):=m9 (fun ds d vs H Q e r=>by
  unfold kF at e
  split at e
  · cases e
    obtain ⟨v,rfl,r'⟩:=r.one
    cases r'
    exact ⟨_,rfl,fun q=>⟨_,rfl,q⟩⟩
  · cases e) sv hg hm PyProof.Rows.boot_abs ha (by decide) (by decide) he rfl
end
def j5 (g:bD):bD:=fun E=>(g E).bind fun a=>match look a.2 a.1 with
  | some (.list ds)=>if !cV a.2 a.1||aW ds then some (.ow ds,a.2) else none
  | some (.tuple ds)=>if !cV a.2 a.1||aW ds then some (.ow ds,a.2) else none
  | _=>none
section
variable {X:Cx} {e:Expr} {m1:Bool} {f:bD} {p pos:Pos} {K:PySem.W.Frag}
theorem vE (hg:Gl X "list") (hm:X.mg "list"=none) (ha:EX X e m1 f) (he:starEach [e] X.env=[(false,eval e X.env)]:=by rfl):EX X (.Call (.Name "list" p) [e] [] pos) m1 (j5 f):=by
  refine bF (kR lI hg hm PyProof.Rows.boot_list (aF ha bE he) (by decide) (by decide) he rfl) fun σ H Q z=>?_
  obtain ⟨B,E,xs,Xs,res,E',fr,cl,e,q⟩:=z
  obtain ⟨⟨s,E1⟩,e1,e⟩:=Option.bind_eq_some_iff.mp e
  refine ⟨B,E,xs,Xs,s,E1,fr,cl,e1,fun v1 H1 ⟨F,A,fr1⟩=>?_⟩
  obtain ⟨A',fr2⟩:=fr1.pop
  simp only at e
  split at e
  · rename_i ds ld
    split at e
    · rename_i hc
      cases e
      obtain ⟨a,vs,ev,h1,h2⟩:=fr1.items (k:=0) rfl ld hc
      cases ev
      exact ⟨a,vs,rfl, .inl h1,fun l hl=>q _ _ ⟨F,_,fr2.newl h2 hl⟩⟩
    · cases e
  · rename_i ds ld
    split at e
    · rename_i hc
      cases e
      obtain ⟨r,f0⟩:=fr1.look0 ld
      cases hh:cV E' s with
      | false=>
        have h0:Rp X.K F v1 _:=f0 hh
        cases h0 with
        | tup h1 h2=>exact ⟨_,_,rfl, .inr (fr1.fh.tup h1),fun l hl=>q _ _ ⟨F,_,fr2.newl h2 hl⟩⟩
      | true=>
        rw [hh] at hc
        cases r with
        | tup h1 h2=>exact ⟨_,_,rfl, .inr h1,fun l hl=>q _ _ ⟨F,_,fr2.newl (fr1.coldA h2 (by simpa using hc)) hl⟩⟩
    · cases e
  · cases e
end
inductive Ty where
  | non | bool | int | str | list | tuple | dict
def Ty.name:Ty→String
  | .non=>"NoneType"
  | .bool=>"bool"
  | .int=>"int"
  | .str=>"str"
  | .list=>"list"
  | .tuple=>"tuple"
  | .dict=>"dict"
def Ty.is:Ty→Ty→Bool
  | .non, .non=>true
  | .bool, .bool=>true
  | .bool, .int=>true
  | .int, .int=>true
  | .str, .str=>true
  | .list, .list=>true
  | .tuple, .tuple=>true
  | .dict, .dict=>true
  | _,_=>false
def yt:PyData→Ty
  | .none=> .non
  | .bool _=> .bool
  | .int _=> .int
  | .str _=> .str
  | .list _=> .list
  | .tuple _=> .tuple
  | .dict _=> .dict
theorem y_ (K:PySem.W.Frag) (t n:Ty):PySem.W.kitOne K (.type t.name) (.type n.name)=some (t.is n):=by cases t <;> cases n <;> rfl
def m_ (n:Ty) (d:PyData):Option PyData:=some (.bool ((yt d).is n))
section
variable {X:Cx} {e:Expr} {m1:Bool} {f:bD} {p p2 pos:Pos}
theorem qU {pins:List (Addr×Obj)} {s:Shared} {σ:iN} {H:Hp} {x:V} {u:Value} {d:PyData} {n:Ty} {A:Around} {E:Value→Shared→Prop} {Q:Value→Shared→Prop} (I:Inv X pins σ H s) (rx:RelV x u) (rp:Rp X.K H x d) (h:∀tk,Q (.bool ((yt d).is n)) {s with toks:=tk}):
    wpAny (model X.prog X.w) A (call (.builtin "isinstance") [u, .type n.name]) Q E s:=by
  have e:=y_ X.K (yt d) n
  cases rp with
  | non=>exact gD I rx .non e h
  | bl b=>exact gD I rx (.bl b) e h
  | int i=>exact gD I rx (.int i) e h
  | str y=>exact gD I rx (.str y) e h
  | lst h1 _=>
    cases rx
    obtain ⟨its,rv,⟨o,n',e1,c,_,d⟩,_⟩:=I.list h1
    exact PySem.W.kia_one PySem.W.kitx_list I.kIn ⟨_,e1,c⟩ e (fun z=>nomatch z) h
  | tup h1 _=>
    cases rx
    obtain ⟨its,rv,⟨o,e1,c,n',d⟩,_⟩:=I.tuple h1
    exact PySem.W.kia_one PySem.W.kitx_tuple I.kIn ⟨_,e1,c⟩ e (fun z=>nomatch z) h
  | dct h1 _=>
    cases rx
    obtain ⟨_,_,vs,_,ob,es,ep,e1,c,_⟩:=pO I.hok h1
    exact PySem.W.kia_one PySem.W.kitx_dict I.kIn ⟨_,e1,c.1⟩ e (fun z=>nomatch z) h
theorem qV (n:Ty):CallR X (.builtin "isinstance") (fun xs H Q=>∃x d,xs=[x, .ty n.name]∧Rp X.K H x d∧Q (.bl ((yt d).is n)) H):=by
  intro pins s σ H xs us Q I r h
  obtain ⟨x,d,rfl,rp,q⟩:=h
  obtain ⟨u,w',rfl,ru,rw'⟩:=r.two
  cases (show w'=Value.type n.name from rw')
  exact qU I ru rp fun tk=>⟨.bl _,H,I.tok _,rfl,q⟩
theorem j6 (n:Ty) (hg:Gl X "isinstance") (hm:X.mg "isinstance"=none) (ha:EX X e m1 f) {x:Str} (hgx:Gl X x) (hmx:X.mg x=none) (hbx:bootBuiltins x=some (.type n.name)) (hnx:x≠"__name__":=by decide) (hdx:(x == ("__debug__":Str))=false:=by decide)
    (he:starEach [e, .Name x p2] X.env=(false,eval e X.env)::starEach [.Name x p2] X.env:=by rfl) (he2:starEach [.Name x p2] X.env=[(false,eval (.Name x p2) X.env)]:=by rfl) (hpl:(backTo pos (starEach [.Name x p2] X.env)).any (·.1)=false:=by rfl):
    EX X (.Call (.Name "isinstance" p) [e, .Name x p2] [] pos) m1 (oB (m_ n) f):=by
  have h2:PE X (.Name x p2) (tC (.ty n.name)):=u9 (v:= .ty n.name) hgx hmx hbx rfl hnx hdx
  refine bF (fB (qV n) hg hm PyProof.Rows.boot_isinstance (aF ha (aF h2 bE he2) he) (by decide) (by decide) he hpl) fun σ H Q z=>?_
  obtain ⟨B,E,xs,Xs,res,E',fr,cl,e,q⟩:=z
  obtain ⟨⟨s,E1⟩,e1,e⟩:=Option.bind_eq_some_iff.mp e
  obtain ⟨d1,e2,e⟩:=Option.bind_eq_some_iff.mp e
  cases e
  refine ⟨B,E,xs,Xs,s,E1,fr,cl,e1,fun v1 H1 ⟨F,A,fr1⟩=>?_⟩
  obtain ⟨A',fr2⟩:=fr1.pop
  exact ⟨v1,d1,rfl,(fr1.look0 e2).1,q _ _ ⟨F,A',fr2.push ⟨rfl,_,rfl, .bl _⟩⟩⟩
end
end PL
namespace PL
open PySem L2 Nh
def pQ (K:PySem.W.Frag) (H H':Hp) (v:V):Sl→Prop
  | .sh d=>Rp K (tups H') v d
  | .ow ds=>∃l vs,v= .ref l∧H l=none∧H' l=some (.lst vs)∧RpA K (tups H') vs ds
  | .tx ps=>∃t vs A,v= .ref t∧tups H' t=some (.tup vs)∧A.Nodup∧(∀a∈A,H a=none)∧PtsOk K (tups H') H' vs ps A
  | .od kvs=>∃l us A,v= .ref l∧(l::A).Nodup∧(∀a∈l::A,H a=none)∧H' l=some (.dK us)∧DlOk K (tups H') H' us kvs A
  | .br d=>Rp K H' v d
  | _=>False
def fQ (K:PySem.W.Frag) (c:List PyData→Option Sl):Sp:=fun vs H Q _=>∃ds r,c ds=some r∧RpA K H vs ds∧∀v H',Same H H'→pQ K H H' v r→Q v H'
section
variable {K:PySem.W.Frag} {B F:Hp} {A N:List Addr} {σ:iN} {H H':Hp} {E:List Sl} {xs:List V} {Xs:List Sl} {v:V} {s:Sl}
theorem FrF.growN (h:FrF K B F A σ H E xs Xs) (g:Same H H') (hN:∀a∈N,H a=none∧((∃us,H' a=some (.lst us))∨∃us,H' a=some (.dK us))):FrF K B (fun b=>if b∈N then none else if b∈A then none else H' b) A σ H' E xs Xs:=by
  have h1:=h.grow g
  have nF:∀b o,F b=some o→b∉N:=fun b o e hb=>by
    have:=h.fh.free (hN b hb).1
    rw [this] at e;cases e
  have FF:Same F (fun b=>if b∈N then none else if b∈A then none else H' b):=fun b o e=>by
    have nA:b∉A:=fun hb=>by rw [h.fr b hb] at e;cases e
    show (if b∈N then none else if b∈A then none else H' b)=some o
    rw [if_neg (nF b o e),if_neg nA]
    exact g _ _ (h.fh _ _ e)
  have hA:∀b∈A,H' b=H b:=fun b hb=>by
    rcases h.mutA b hb with ⟨_,z⟩ | ⟨_,z⟩ <;> rw [z,g _ _ z]
  refine ⟨h.bf.trans FF,fun b o e=>?_,fun b o e=>?_,h.sl.mono fun o s C _ hC q=>q.stay FF (fun b hb=>hA b (hC b hb)) fun _=>g,h.nd,fun a ha=>?_,h.len,h.pl⟩
  · by_cases hb:b∈N
    · rw [if_pos hb] at e;cases e
    · rw [if_neg hb] at e;exact h1.fh _ _ e
  · show (if b∈N then none else if b∈A then none else H' b)=some o
    by_cases hb:b∈N
    · obtain ⟨e1,e2⟩:=Option.filter_eq_some_iff.mp e
      rcases (hN b hb).2 with ⟨us,z⟩ | ⟨us,z⟩ <;> rw [z] at e1 <;> cases e1 <;> cases e2
    · rw [if_neg hb];exact h1.tf _ _ e
  · show (if a∈N then none else if a∈A then none else H' a)=none
    by_cases hb:a∈N
    · rw [if_pos hb]
    · rw [if_neg hb,if_pos ha]
theorem FrF.pushR (h:FrF K B F A σ H E xs Xs) (q:SlOk K F H σ (some v) s N) (nd:N.Nodup) (dj:∀a∈N,a∉A) (fr:∀a∈N,F a=none):FrF K B F (N++A) σ H E (v::xs) (s::Xs):=
  ⟨h.bf,h.fh,h.tf, .cons q h.sl,List.nodup_append.mpr ⟨nd,h.nd,fun a ha b hb e=>dj a ha (e▸hb)⟩,fun a ha=>(List.mem_append.mp ha).elim (fr a) (h.fr a),by simp [h.len],h.pl⟩
theorem FrF.told (h:FrF K B F A σ H E xs Xs) (g:Same H H') (q:pQ K H H' v s):Frm K B σ H' E (v::xs) (s::Xs):=by
  cases s with
  | sh d=>
    have h1:=h.grow g
    exact ⟨_,_,h1.push ⟨rfl,v,rfl,Rp.same h1.tf q⟩⟩
  | ow ds=>
    obtain ⟨l,vs,rfl,hl,hl',r⟩:=q
    have h1:=h.growN (N:=[l]) g fun a ha=>by rw [List.mem_singleton.mp ha];exact ⟨hl, .inl ⟨vs,hl'⟩⟩
    exact ⟨_,_,h1.pushR (N:=[l]) ⟨l,vs,rfl,rfl,hl',r.same h1.tf⟩ (by simp) (fun a ha=>by rw [List.mem_singleton.mp ha];exact h.newA hl) fun a ha=>if_pos ha⟩
  | tx ps=>
    obtain ⟨t,vs,N,rfl,ht,nd,hN,r⟩:=q
    have h1:=h.growN (N:=N) g fun a ha=>⟨hN a ha, .inl (r.some a ha)⟩
    exact ⟨_,_,h1.pushR (N:=N) ⟨t,vs,rfl,h1.tf _ _ ht,r.stay h1.tf fun _ _=>rfl⟩ nd (fun a ha=>h.newA (hN a ha)) fun a ha=>if_pos ha⟩
  | no=>exact False.elim q
  | oi kvs=>exact False.elim q
  | od kvs=>
    obtain ⟨l,us,N,rfl,nd,hN,hl,r⟩:=q
    have h1:=h.growN (N:=l::N) g fun a ha=>⟨hN a ha,(List.mem_cons.mp ha).elim (fun z=> .inr ⟨us,z▸hl⟩) fun z=> .inl (r.some a z)⟩
    exact ⟨_,_,h1.pushR (N:=l::N) ⟨l,us,N,rfl,rfl,hl,r.stay h1.tf fun _ _=>rfl⟩ nd (fun a ha=>h.newA (hN a ha)) fun a ha=>if_pos ha⟩
  | al i=>exact False.elim q
  | br d=>
    have h1:=h.grow g
    exact ⟨_,_,h1.push ⟨rfl,v,rfl,q⟩⟩
end
def aw (c:List PyData→Option Sl) (g:kT):bD:=fun E=>(g E).bind fun a=>(aO a.2 a.1).bind fun ds=>(c ds).map fun r=>(r,a.2)
theorem a_ {X:Cx} {k:Nat} {x:Str} {ps:List Str} {c:List PyData→Option Sl} {p pos:Pos} {e:Expr} {es:List Expr} {m:Bool} {g:kT} (D:Own X.prog X.w X.K X.mg X.base k x ps (fQ X.K c)) (hr:Room k X.A) (hg:Gl X x) (ha:AX X (e::es) m g)
    (hdb:(x == ("__debug__":Str))=false:=by decide) (he:starEach (e::es) X.env=(false,eval e X.env)::starEach es X.env:=by rfl) (hpl:(backTo pos (starEach es X.env)).any (·.1)=false:=by rfl):
    EX X (.Call (.Name x p) (e::es) [] pos) m (aw c g):=by
  refine bF (iL D hr hg ha hdb he hpl) fun σ H Q z=>?_
  obtain ⟨B,E,xs,Xs,res,E',fr,cl,e,q⟩:=z
  obtain ⟨⟨rs,E1⟩,e1,e⟩:=Option.bind_eq_some_iff.mp e
  obtain ⟨ds,e2,e⟩:=Option.bind_eq_some_iff.mp e
  obtain ⟨r,e3,e⟩:=Option.map_eq_some_iff.mp e
  cases e
  refine ⟨B,E,xs,Xs,rs,E1,fr,cl,e1,fun vs H1 hl ⟨F,A,fr1⟩=>?_⟩
  obtain ⟨r1,A',fr2⟩:=fr1.looks hl e2
  exact ⟨ds,res,e3,by rw [List.append_nil];exact r1,fun v H' g q'=>q v H' (fr2.told g q')⟩
def cZ (i:Nat) (f:bD):bD:=fun E=>match E[i]? with
  | some (.ow _)=>(f E).bind fun a=>(frz a.2 a.1).bind fun b=>match b.2[i]? with
    | some (.ow ds)=>if ds.length < 1000000 then some (.sh .none,b.2.set i (.ow (ds++[b.1]))) else none
    | _=>none
  | _=>none
section
variable {X:Cx} {e:Expr} {m1:Bool} {f:bD} {x:Str} {p apos cpos:Pos}
theorem iP (i:Nat) (he:EX X e m1 f) (hN:X.N[i]? =some x:=by rfl) (hv:uY X.env.scope x:=by first | exact Or.inl rfl | exact Or.inr (Or.inl rfl) | exact Or.inr (Or.inr rfl)) (hd:(x == ("__debug__":Str))=false:=by decide) (hcd:(x == ("__classdict__":Str))=false:=by decide)
    (hs:starEach [e] X.env=[(false,eval e X.env)]:=by rfl) (hbase:attributeBase (.Name x p) "append" X.env (eval (.Name x p) X.env)=eval (.Name x p) X.env:=by rfl)
    (hfew:((backTo cpos (starEach [e] X.env)).all (fun x=> !x.1)&&(backToKw cpos (keywordEach [] X.env)).all (fun x=>x.1.isSome)
      &&decide (([e]:List Expr).length+([]:List Keyword).length+(if ([]:List Keyword).isEmpty then 0 else 1) < 30))=true:=by rfl) (hline:(apos.endLine == cpos.line)=true:=by rfl):
    EX X (.Call (.Attribute (.Name x p) "append" apos) [e] [] cpos) true (cZ i f):=by
  refine bF (sC PySem.F.plainAttrs_list PySem.F.slot_list_append PySem.F.type_list_append iK (gg hN hv hd hcd) (aF he bE hs) hbase hfew hline hs rfl) fun σ H Q z=>?_
  obtain ⟨B,E,xs,Xs,res,E',⟨F,A,fr⟩,cl,e,q⟩:=z
  unfold cZ at e
  split at e
  · rename_i ds0 ei
    obtain ⟨⟨s,E1⟩,e1,e⟩:=Option.bind_eq_some_iff.mp e
    obtain ⟨⟨d,E2⟩,e2,e⟩:=Option.bind_eq_some_iff.mp e
    simp only at e
    split at e
    · rename_i ds ei2
      split at e
      · rename_i hl
        cases e
        obtain ⟨o,A1,eo,l,vs,rfl,rfl,hl0,_⟩:=fr.var ei
        refine ⟨_,eo, .inl ⟨rfl,_,SqL.of hl0⟩,B,E,xs,Xs,s,E1,⟨F,A,fr⟩,fun _=>cl rfl,e1,fun v H1 ⟨F1,A1,fr1⟩=>?_⟩
        obtain ⟨F2,A2,fr2⟩:=fr1.frz0 e2
        obtain ⟨v',A3,ev,rfl,w,ew,rv⟩:=fr2.ext (k:=0) rfl
        cases ev;cases ew
        obtain ⟨A4,fr3⟩:=fr2.pop
        obtain ⟨l',vs',eo',hl',r',put⟩:=fr3.mut ei2 (cl rfl)
        rw [eo] at eo'
        cases eo'
        have ll:=r'.len
        have fr4:=put (vs'++[v]) (ds++[d]) (r'.snoc rv)
        exact ⟨l,vs',v,rfl,rfl,hl',small (by omega),q _ _ ⟨_,_,fr4.push ⟨rfl,_,rfl, .non⟩⟩⟩
      · cases e
    · cases e
  · cases e
end
def cJ (s:Sl):Sl:=match s.val with
  | some d=> .sh d
  | none=> .no
def frzAll (E:List Sl):List Sl:=E.map cJ
def settle (E:List Sl):Sl→Option (Sl×List Sl)
  | .al i=>(frz E (.al i)).map fun a=>(.sh a.1,a.2)
  | .br d=>if bV d then some (.sh d,E) else some (.sh d,frzAll E)
  | s=>some (s,E)
def aB (g h:cR):cR:=fun E=>(g E).bind fun a=>match a.2 with
  | .nx=>h a.1
  | fl=>some (a.1,fl)
def bh:cR:=fun E=>some (E, .nx)
def dX (f:bD):cR:=fun E=>(f E).map fun a=>(a.2, .nx)
def bw (f:bD):cR:=fun E=>(f E).bind fun a=>match a.1 with
  | .al i=>(a.2[i]?).map fun s=>(a.2.set i .no, .rt s)
  | s=>some (a.2, .rt s)
def bx (c:g8) (g h:cR):cR:=fun E=>(c E).bind fun a=>if a.1 then g a.2 else h a.2
def aA (i:Nat) (f:bD):cR:=fun E=>(f E).bind fun a=>(settle a.2 a.1).bind fun b=>if i < b.2.length then some (b.2.set i b.1, .nx) else none
section
variable {K:PySem.W.Frag} {B F:Hp} {A:List Addr} {σ:iN} {H:Hp} {E E':List Sl} {xs:List V} {Xs:List Sl} {v:V} {s s':Sl} {d:PyData}
theorem FrF.frzAll (h:FrF K B F A σ H E xs Xs) (hX:Xs=[]):FrF K B H [] σ H (PL.frzAll E) [] []:=by
  subst hX
  have hx:xs=[]:=by simpa using h.len
  subst hx
  refine ⟨h.bf.trans h.fh,Same.refl _,iM H,?_,List.nodup_nil,fun a ha=>(by cases ha),rfl,fun s hs=>?_⟩
  · have key:∀{os:List (Option V)} {ss:List Sl} {C:List Addr},SAll (SlOk K F H σ) os ss C→SAll (SlOk K H H σ) os (PL.frzAll ss) []:=fun {os ss C} r=>by
      induction r with
      | nil=>exact .nil
      | cons q _ ih=>
        refine .cons (A:=[]) ?_ ih
        unfold cJ
        split
        · rename_i d e
          obtain ⟨v,rfl,r,_⟩:=q.val h.fh e
          exact ⟨rfl,v,rfl,r⟩
        · exact rfl
    exact key h.sl
  · obtain ⟨t,_,rfl⟩:=List.mem_map.mp hs
    unfold cJ
    split <;> rfl
theorem FrF.settle (h:FrF K B F A σ H E (v::xs) (s::Xs)) (hX:Xs=[]) (q:PL.settle E s=some (s',E')):s'.isAl=false∧Frm K B σ H E' (v::xs) (s'::Xs):=by
  cases s with
  | al i=>
    obtain ⟨⟨d,E2⟩,e,z⟩:=Option.map_eq_some_iff.mp (show (frz E (.al i)).map (fun a=>(Sl.sh a.1,a.2))=some (s',E') from q)
    cases z
    obtain ⟨F',A',h'⟩:=h.frz0 e
    exact ⟨rfl,F',A',h'⟩
  | br d=>
    have r:=(h.look0 (d:=d) rfl).1
    obtain ⟨A',h'⟩:=h.pop
    simp only [PL.settle] at q
    split at q
    · rename_i hf
      cases q
      exact ⟨rfl,F,A',h'.push ⟨rfl,v,rfl,h.cold r hf⟩⟩
    · cases q
      have h2:=h'.frzAll hX
      have hl:=h'.len
      subst hX
      have hx:xs=[]:=by simpa using hl
      subst hx
      exact ⟨rfl,H,[],h2.push ⟨rfl,v,rfl,r⟩⟩
  | no=>cases q;exact ⟨rfl,F,A,h⟩
  | sh d=>cases q;exact ⟨rfl,F,A,h⟩
  | ow ds=>cases q;exact ⟨rfl,F,A,h⟩
  | od kvs=>cases q;exact ⟨rfl,F,A,h⟩
  | oi kvs=>cases q;exact ⟨rfl,F,A,h⟩
  | tx ps=>cases q;exact ⟨rfl,F,A,h⟩
theorem FrF.move {i:Nat} (h:FrF K B F A σ H E (v::xs) (.al i::Xs)) (e:E[i]? =some s):Frm K B σ H (E.set i .no) (v::xs) (s::Xs):=by
  obtain ⟨v',A1,ev,rfl,w,ew,hw⟩:=h.ext (k:=0) rfl
  cases ev;cases ew
  obtain ⟨A',h'⟩:=h.pop
  obtain ⟨o,A0,A1,A2,eA,eo,hp,put⟩:=h'.sl.at (k:=Xs.length+i) (s:=s) (by rw [List.getElem?_append_right (by omega)];simpa using e)
  have z:=put (SlOk K F H σ) o .no [] rfl fun _ _ _ _ _ q=>q
  have e3:(Xs++E).set (Xs.length+i) .no=Xs++E.set i .no:=by
    rw [List.set_append_right _ _ (by omega),Nat.add_sub_cancel_left]
  have e2:(List.map some xs++σ).set (Xs.length+i) o=List.map some xs++σ:=List.ext_getElem? fun j=>by
    by_cases hj:Xs.length+i=j
    · subst hj
      rw [List.getElem?_set_self',eo];rfl
    · rw [List.getElem?_set_ne hj]
  rw [e2,e3] at z
  rw [List.getElem?_append_right (by rw [List.length_map,h'.len];omega),List.length_map,h'.len,Nat.add_sub_cancel_left,hw] at eo
  cases eo
  have nd:=h'.nd
  rw [eA] at nd
  refine ⟨F,A1++(A0++([]++A2)),h.bf,h.fh,h.tf, .cons hp z,?_,fun a ha=>h'.fr a ?_,h.len,fun s' hs=>?_⟩
  · have p:(A1++(A0++([]++A2))).Perm (A0++(A1++A2)):=by
      rw [List.nil_append,←List.append_assoc,←List.append_assoc]
      exact List.Perm.append_right _ List.perm_append_comm
    exact p.nodup_iff.mpr nd
  · rw [eA]
    simp only [List.mem_append,List.nil_append] at ha ⊢
    rcases ha with z | z | z
    · exact .inr (.inl z)
    · exact .inl z
    · exact .inr (.inr z)
  · rcases List.mem_or_eq_of_mem_set hs with hs | hs
    · exact h.pl s' hs
    · subst hs;rfl
end
section
variable {X:Cx} {st:Stmt} {bd a b:List Stmt} {g h:cR} {e c:Expr} {m:Bool} {f:bD} {t:g8} {pos:Pos}
theorem cb:u4 X [] bh:=pL ph fun D σ H z=>by
  obtain ⟨B,E,xs,Xs,E',fl,fr,cl,e,q⟩:=z
  cases e
  exact q _ _ fr
theorem aq (h1:SX X st g):u4 X [st] g:=eS h1
theorem xI {K:PySem.W.Frag} {D:Ends} {σ:iN} {H:Hp} (z:rs K (aB g h) D σ H):rs K g {D with nx:=rs K h D} σ H:=by
  obtain ⟨B,E,xs,Xs,E',fl,fr,cl,e,q⟩:=z
  obtain ⟨⟨E1,f1⟩,e1,e⟩:=Option.bind_eq_some_iff.mp e
  refine ⟨B,E,xs,Xs,E1,f1,fr,cl,e1,?_⟩
  cases f1 with
  | nx=>exact fun σ' H' fr'=>⟨B,E1,xs,Xs,E',fl,fr',cl,e,q⟩
  | bk=>cases e;exact q
  | ct=>cases e;exact q
  | rt r=>cases e;exact q
theorem aj (h1:SX X st g) (h2:u4 X bd h):u4 X (st::bd) (aB g h):=pL (cH h1 h2) fun D σ H z=>xI z
theorem gI (he:EX X e m f) (hs:swapsWith e none pos.line X.env=pure false:=by rfl):SX X (.Expr e pos) (dX f):=gi (gC he hs) fun D σ H z=>by
  obtain ⟨B,E,xs,Xs,E',fl,fr,cl,e,q⟩:=z
  obtain ⟨⟨s,E1⟩,e1,e⟩:=Option.map_eq_some_iff.mp e
  cases e
  refine ⟨B,E,xs,Xs,s,E1,fr,fun _=>Calm.nil cl,e1,fun v H1 ⟨F,A,fr1⟩=>?_⟩
  obtain ⟨A',fr2⟩:=fr1.pop
  exact q _ _ ⟨F,A',fr2⟩
theorem bq (he:EX X e m f):SX X (.Return (some e) pos) (bw f):=gi (n8 he) fun D σ H z=>by
  obtain ⟨B,E,xs,Xs,E',fl,fr,cl,e,q⟩:=z
  obtain ⟨⟨s,E1⟩,e1,e⟩:=Option.bind_eq_some_iff.mp e
  refine ⟨B,E,xs,Xs,s,E1,fr,fun _=>Calm.nil cl,e1,fun v H1 ⟨F,A,fr1⟩=>?_⟩
  simp only at e
  split at e
  · obtain ⟨s',es,e⟩:=Option.map_eq_some_iff.mp e
    cases e
    exact q σ _ _ (fr1.move es)
  · cases e
    exact q σ _ _ ⟨F,A,fr1⟩
theorem dH (hc:TX X c m t) (ha:u4 X a g) (hb:u4 X b h):SX X (.If c a b pos) (bx t g h):=gi (wg hc ha hb) fun D σ H z=>by
  obtain ⟨B,E,xs,Xs,E',fl,fr,cl,e,q⟩:=z
  obtain ⟨⟨b1,E1⟩,e1,e⟩:=Option.bind_eq_some_iff.mp e
  refine ⟨B,E,xs,Xs,b1,E1,fr,fun _=>Calm.nil cl,e1,fun H1 fr1=>?_⟩
  cases b1 with
  | true=>exact (if_pos rfl).mpr ⟨B,E1,xs,Xs,E',fl,fr1,cl,e,q⟩
  | false=>exact (if_neg (by decide)).mpr ⟨B,E1,xs,Xs,E',fl,fr1,cl,e,q⟩
theorem aC (i:Nat) {x:Str} {pos':Pos} (hN:X.N.Nodup) (he:EX X e m f) (hi:X.N[i]? =some x:=by rfl) (hx:yq X.env.scope x:=by first | exact Or.inl rfl | exact Or.inr rfl) (hs:swapsWith e (some (.Name x pos')) pos.line X.env=pure false:=by rfl) (hf:X.fn x=true∨X.env.scope.names.lookup x=some .local:=by first | exact .inl rfl | exact .inr rfl | assumption):
    SX X (.Assign [.Name x pos'] e pos) (aA i f):=gi (lA hN hi hx he hs hf) fun D σ H z=>by
  obtain ⟨B,E,xs,Xs,E',fl,fr,cl,e,q⟩:=z
  obtain ⟨⟨s,E1⟩,e1,e⟩:=Option.bind_eq_some_iff.mp e
  obtain ⟨⟨s',E2⟩,e2,e⟩:=Option.bind_eq_some_iff.mp e
  refine ⟨B,E,xs,Xs,s,E1,fr,fun _=>Calm.nil cl,e1,fun v H1 ⟨F,A,fr1⟩=>?_⟩
  obtain ⟨c1,F2,A2,fr2⟩:=fr1.settle cl e2
  simp only at e
  split at e
  · rename_i hi
    cases e
    obtain ⟨A3,fr3⟩:=fr2.store c1 (Still.nil cl) hi
    exact q _ _ ⟨F2,A3,fr3⟩
  · cases e
end
end PL
namespace PL
open PySem L2 Nh
abbrev hE:=PyData→List Sl→Option (List Sl)
abbrev nh:=List PyData→List Sl→Option (List Sl)
def rg (K:PySem.W.Frag) (h:hE):TG:=fun v σ H Q=>∃B E xs Xs d E',Frm K B σ H E (v::xs) (.sh d::Xs)∧Still Xs∧h d E=some E'∧∀σ' H',Frm K B σ' H' E' xs Xs→Q σ' H'
def AF (K:PySem.W.Frag) (h:nh):va:=fun vs σ H Q=>∃B E xs Xs ds E',vs.length=ds.length∧Frm K B σ H E (vs++xs) (ds.map .sh++Xs)∧Still Xs∧h ds E=some E'∧∀σ' H',Frm K B σ' H' E' xs Xs→Q σ' H'
def GX (X:Cx) (e:Expr) (h:hE):Prop:=PG X e (rg X.K h)
def zL (X:Cx) (es:List Expr) (h:nh):Prop:=wX X es (AF X.K h)
def aH (i:Nat):hE:=fun d E=>if i < E.length then some (E.set i (.sh d)) else none
def iy:nh:=fun ds E=>if ds.isEmpty then some E else none
def dQ (h:hE) (hs:nh):nh:=fun ds E=>match ds with
  | d::ds=>(h d E).bind (hs ds)
  | []=>none
def iz (n:Nat) (hs:nh):hE:=fun d E=>match d with
  | .tuple ds=>if ds.length=n then hs ds E else none
  | _=>none
section
variable {X:Cx}
theorem tj {e:Expr} {t t':TG} (h:PG X e t) (k:∀v σ H Q,t' v σ H Q→t v σ H Q):PG X e t':=fun pins s σ H v u Q I r q=>h pins s σ H v u Q I r (k v σ H Q q)
theorem pR {es:List Expr} {t t':va} (h:wX X es t) (k:∀v σ H Q,t' v σ H Q→t v σ H Q):wX X es t':=fun pins s σ H v u Q I r q=>h pins s σ H v u Q I r (k v σ H Q q)
theorem be (i:Nat) {x:Str} {pos:Pos} (hN:X.N.Nodup) (hi:X.N[i]? =some x:=by rfl) (hx:yq X.env.scope x:=by first | exact Or.inl rfl | exact Or.inr rfl) (hf:X.fn x=true∨X.env.scope.names.lookup x=some .local:=by first | exact .inl rfl | exact .inr rfl | assumption):GX X (.Name x pos) (aH i):=tj (eV hN hi hx hf) fun v σ H Q z=>by
  obtain ⟨B,E,xs,Xs,d,E',⟨F,A,fr⟩,cl,e,q⟩:=z
  unfold aH at e
  split at e
  · rename_i hi
    cases e
    obtain ⟨A',fr'⟩:=fr.store rfl cl hi
    exact q _ _ ⟨F,A',fr'⟩
  · cases e
theorem jw:zL X [] iy:=pR lz fun v σ H Q z=>by
  obtain ⟨B,E,xs,Xs,ds,E',hl,fr,cl,e,q⟩:=z
  unfold iy at e
  split at e
  · rename_i hd
    cases e
    have:ds=[]:=by simpa using hd
    subst this
    have hv:v=[]:=by simpa using hl
    subst hv
    exact ⟨rfl,q _ _ fr⟩
  · cases e
theorem dI {e:Expr} {es:List Expr} {h:hE} {hs:nh} (h1:GX X e h) (h2:zL X es hs) (hst:(assignEach (e::es) X.env).map (·.2)=assign e X.env::(assignEach es X.env).map (·.2):=by rfl):zL X (e::es) (dQ h hs):=pR (gh h1 h2 hst) fun v σ H Q z=>by
  obtain ⟨B,E,xs,Xs,ds,E',hl,fr,cl,e,q⟩:=z
  cases ds with
  | nil=>cases e
  | cons d ds=>
    cases v with
    | nil=>cases hl
    | cons v vs=>
      obtain ⟨E1,e1,e2⟩:=Option.bind_eq_some_iff.mp e
      refine ⟨v,vs,rfl,B,E,vs++xs,ds.map Sl.sh++Xs,d,E1,fr,fun s hs=>?_,e1,fun σ1 H1 fr1=>⟨B,E1,xs,Xs,ds,E',by simpa using hl,fr1,cl,e2,q⟩⟩
      rcases List.mem_append.mp hs with hs | hs
      · obtain ⟨d',_,rfl⟩:=List.mem_map.mp hs
        rfl
      · exact cl s hs
theorem lT {es:List Expr} {k:Nat} {pos:Pos} {hs:nh} {n:Nat} (hc:X.calm=true) (h:zL X es hs) (hn:(assignEach es X.env).length=n:=by rfl) (hst:(assignEach es X.env).findIdx? (·.1)=none:=by rfl):GX X (.Tuple es k pos) (iz n hs):=tj (n_ hc h hn hst) fun v σ H Q z=>by
  obtain ⟨B,E,xs,Xs,d,E',⟨F,A,fr⟩,cl,e,q⟩:=z
  unfold iz at e
  split at e
  · rename_i ds
    split at e
    · rename_i hl
      obtain ⟨v',A1,ev,rfl,w,ew,r⟩:=fr.ext (k:=0) rfl
      cases ev;cases ew
      cases r with
      | tup h1 h2=>
        obtain ⟨A',fr'⟩:=fr.pop
        have key:∀{us:List V} {es:List PyData},RpA X.K F us es→FrF X.K B F A' σ H E (us++xs) (es.map .sh++Xs):=fun {us es} r=>by
          induction us generalizing es with
          | nil=>cases r;exact fr'
          | cons u us ih=>
            cases r with
            | cons r1 r2=>exact (ih r2).push ⟨rfl,_,rfl,r1⟩
        exact ⟨_,_,rfl,fr.fh.tup h1,by rw [h2.len];exact hl,B,E,xs,Xs,ds,E',h2.len,⟨F,A',key h2⟩,cl,e,q⟩
    · cases e
  · cases e
end
def lU (i:Nat) (fi fe:bD):cR:=fun E=>(fe E).bind fun a=>(frz a.2 a.1).bind fun b=>match b.2[i]? with
  | some (.ow _)=>(fi b.2).bind fun c=>match look c.2 c.1,c.2[i]? with
    | some (.int k),some (.ow ds)=>(u0 ds.length k).map fun j=>(c.2.set i (.ow (ds.set j b.1)), .nx)
    | _,_=>none
  | _=>none
theorem tm {X:Cx} (i:Nat) {e ei:Expr} {x:Str} {m m2:Bool} {fe fi:bD} {p p2 pos:Pos} (he:EX X e m fe) (hi:EX X ei m2 fi) (hN:X.N[i]? =some x:=by rfl) (hv:uY X.env.scope x:=by first | exact Or.inl rfl | exact Or.inr (Or.inl rfl) | exact Or.inr (Or.inr rfl)) (hd:(x == ("__debug__":Str))=false:=by decide) (hcd:(x == ("__classdict__":Str))=false:=by decide)
    (hs:swapsWithSole [.Subscript (.Name x p) ei p2] e pos.line X.env=pure false:=by rfl) (hw:swappedStores [.Subscript (.Name x p) ei p2] e X.env=pure none:=by rfl) (h1:(assignEach [.Subscript (.Name x p) ei p2] X.env).map (·.2)=[assign (.Subscript (.Name x p) ei p2) X.env]:=by rfl)
    (ha:∀v,assign (.Subscript (.Name x p) ei p2) X.env v=(do
      let ov ←holding [v] (eval (.Name x p) X.env)
      let iv ←holding [v,ov] (eval ei X.env)
      standAt p2
      holding [v,ov,iv] (setItem ov iv v)
      release [v,ov,iv] []):=by intro _;rfl):SX X (.Assign [.Subscript (.Name x p) ei p2] e pos) (lU i fi fe):=gi (w_ he (w6 (gg hN hv hd hcd) hi sy ha) hs hw h1) fun D σ H z=>by
  obtain ⟨B,E,xs,Xs,E',fl,fr,cl,e,q⟩:=z
  obtain ⟨⟨s,E1⟩,e1,e⟩:=Option.bind_eq_some_iff.mp e
  obtain ⟨⟨d,E2⟩,e2,e⟩:=Option.bind_eq_some_iff.mp e
  refine ⟨B,E,xs,Xs,s,E1,fr,fun _=>Calm.nil cl,e1,fun v H1 ⟨F,A,fr1⟩=>?_⟩
  obtain ⟨F2,A2,fr2⟩:=fr1.frz0 e2
  simp only at e
  split at e
  · rename_i ds0 ei
    obtain ⟨⟨s3,E3⟩,e3,e⟩:=Option.bind_eq_some_iff.mp e
    obtain ⟨o,A1,eo,l,vs0,rfl,_⟩:=fr2.var ei
    refine ⟨_,eo,B,E2,v::xs, .sh d::Xs,s3,E3,⟨F2,A2,fr2⟩,fun _=>Calm.cons (Calm.nil cl) rfl,e3,fun v3 H3 ⟨F3,A3,fr3⟩=>?_⟩
    simp only at e
    split at e
    · rename_i k ds lk ei3
      obtain ⟨j,ej,e⟩:=Option.map_eq_some_iff.mp e
      cases e
      have r3:=(fr3.look0 lk).1
      cases r3
      obtain ⟨A4,fr4⟩:=fr3.pop
      obtain ⟨v',A5,ev,rfl,w,ew,rv⟩:=fr4.ext (k:=0) rfl
      cases ev;cases ew
      obtain ⟨A6,fr5⟩:=fr4.pop
      obtain ⟨l',vs',eo',hl',r',put⟩:=fr5.mut ei3 (Calm.nil cl)
      rw [eo] at eo'
      cases eo'
      exact ⟨l,vs',k,j,rfl,rfl,hl',by rw [r'.len];exact ej,q _ _ ⟨_,_,put _ _ (r'.set j rv)⟩⟩
    · cases e
  · cases e
def oG (K:PySem.W.Frag) (B0:Hp) (J:It) (ds:List PyData):Prop:=∀{B F:Hp} {A:List Addr} {σ:iN} {H:Hp} {E:List Sl} {xs:List V} {Xs:List Sl} (i:Nat),Same B0 B→FrF K B F A σ H E xs Xs→
  (∀d,ds[i]? =some d→J.go i H∧∀x H2,J.yld i H x H2→Frm K B σ H2 E (x::xs) (.sh d::Xs))∧(i=ds.length→J.stop i H)
def ri (K:PySem.W.Frag) (m:Bool) (f:kE):TI:=fun σ H R=>∃B E xs Xs ds E',Frm K B σ H E xs Xs∧(m=true→Calm Xs)∧f E=some (ds,E')∧∀B' J H',Same B B'→Frm K B' σ H' E' xs Xs→oG K B' J ds→R J H'
def IX (X:Cx) (tg e:Expr) (m:Bool) (f:kE):Prop:=PI X tg e (ri X.K m f)
theorem FrF.base {K:PySem.W.Frag} {B B' F:Hp} {A:List Addr} {σ:iN} {H:Hp} {E:List Sl} {xs:List V} {Xs:List Sl} (h:FrF K B' F A σ H E xs Xs) (s:Same B B'):FrF K B F A σ H E xs Xs:=⟨s.trans h.bf,h.fh,h.tf,h.sl,h.nd,h.fr,h.len,h.pl⟩
theorem Frm.base {K:PySem.W.Frag} {B B':Hp} {σ:iN} {H:Hp} {E:List Sl} {xs:List V} {Xs:List Sl} (h:Frm K B' σ H E xs Xs) (s:Same B B'):Frm K B σ H E xs Xs:=let ⟨F,A,h⟩:=h;⟨F,A,h.base s⟩
theorem FrF.raise {K:PySem.W.Frag} {B F:Hp} {A:List Addr} {σ:iN} {H:Hp} {E:List Sl} {xs:List V} {Xs:List Sl} (h:FrF K B F A σ H E xs Xs):FrF K F F A σ H E xs Xs:=⟨Same.refl _,h.fh,h.tf,h.sl,h.nd,h.fr,h.len,h.pl⟩
def gd (lo:Int) (n:Nat):List PyData:=(List.range n).map fun (k:Nat)=> .int (lo+(k:Int))
def dR (g:kT):kE:=fun E=>(g E).bind fun a=>match aO a.2 a.1 with
  | some [.int j]=>if -1000000≤j∧j≤1000000 then some (gd 0 j.toNat,a.2) else none
  | _=>none
def lV (g:kT):kE:=fun E=>(g E).bind fun a=>match aO a.2 a.1 with
  | some [.int i, .int j]=>if -1000000≤i∧i≤1000000∧ -1000000≤j∧j≤1000000 then some (gd i (j - i).toNat,a.2) else none
  | _=>none
def tp (f:bD):kE:=fun E=>(f E).bind fun a=>(frz a.2 a.1).bind fun b=>match b.1 with
  | .list ds=>some (ds.reverse,b.2)
  | _=>none
section
variable {X:Cx} {tg e e2:Expr} {m:Bool} {f:bD} {g:kT} {p pos:Pos} {K:PySem.W.Frag} {B:Hp}
theorem lW {t t':TI} (h:PI X tg e t) (k:∀σ H Q,t' σ H Q→t σ H Q):PI X tg e t':=fun pins s σ H R I q=>h pins s σ H R I (k σ H R q)
theorem qW {a:Addr} {vs:List V} {ds:List PyData} (h:SqL K B a vs) (r:RpA K B vs ds):oG K B (zW K a) ds:=fun {B' F A σ H E xs Xs} i sB fr=>by
  have hH:=fr.fh.seq (fr.bf.seq (sB.seq h))
  refine ⟨fun d ed=>?_,fun e=>⟨vs,hH,by rw [e,r.len];exact Nat.le_refl _⟩⟩
  obtain ⟨v,ev,rv⟩:=r.get ed
  refine ⟨⟨vs,v,hH,ev⟩,fun x H2 ⟨e2,y⟩=>?_⟩
  subst e2
  have:=y vs hH
  rw [ev] at this
  cases this
  exact ⟨F,A,fr.push ⟨rfl,_,rfl,rv.same (sB.trans fr.bf)⟩⟩
theorem tu {a:Addr} {vs:List V} {ds:List PyData} (h:SqL K B a vs) (r:RpA K B vs ds):oG K B (Af K a vs) ds.reverse:=fun {B' F A σ H E xs Xs} i sB fr=>by
  have hH:=fr.fh.seq (fr.bf.seq (sB.seq h))
  refine ⟨fun d ed=>?_,fun e=>⟨hH,by rw [e,List.length_reverse,r.len]⟩⟩
  obtain ⟨v,ev,rv⟩:=r.rev.get ed
  have hi:i < vs.length:=by
    have:=(List.getElem?_eq_some_iff.mp ev).1
    simpa using this
  refine ⟨⟨hH,hi⟩,fun x H2 ⟨e2,y⟩=>?_⟩
  subst e2
  rw [ev] at y
  cases y
  exact ⟨F,A,fr.push ⟨rfl,_,rfl,rv.same (sB.trans fr.bf)⟩⟩
theorem j7 {lo:Int} {n:Nat}:oG K B (wj lo n) (gd lo n):=fun {B' F A σ H E xs Xs} i sB fr=>by
  have hl:(gd lo n).length=n:=by simp [gd]
  refine ⟨fun d ed=>?_,fun e=>?_⟩
  · have hi:i < n:=by have:=(List.getElem?_eq_some_iff.mp ed).1;omega
    refine ⟨hi,fun x H2 ⟨e2,y⟩=>?_⟩
    subst e2 y
    have:d= .int (lo+i):=by
      unfold gd at ed
      rw [List.getElem?_map,List.getElem?_range hi] at ed
      exact (Option.some.inj ed).symm
    subst this
    exact ⟨F,A,fr.push ⟨rfl,_,rfl, .int _⟩⟩
  · show n≤i
    omega
theorem xJ (hg:Gl X "reversed") (hm:X.mg "reversed"=none) (he:EX X e m f) (hs:starEach [e] X.env=[(false,eval e X.env)]:=by rfl):IX X tg (.Call (.Name "reversed" p) [e] [] pos) m (tp f):=lW (xu hg hm (aF he bE hs) hs) fun σ H R z=>by
  obtain ⟨B,E,xs,Xs,ds,E',fr,cl,e,q⟩:=z
  obtain ⟨⟨s,E1⟩,e1,e⟩:=Option.bind_eq_some_iff.mp e
  obtain ⟨⟨d,E2⟩,e2,e⟩:=Option.bind_eq_some_iff.mp e
  refine ⟨B,E,xs,Xs,s,E1,fr,cl,e1,fun v H1 ⟨F,A,fr1⟩=>?_⟩
  obtain ⟨F2,A2,fr2⟩:=fr1.frz0 e2
  simp only at e
  split at e
  · cases e
    obtain ⟨v',A1,ev,rfl,w,ew,r⟩:=fr2.ext (k:=0) rfl
    cases ev;cases ew
    cases r with
    | lst h1 h2=>
      obtain ⟨A3,fr3⟩:=fr2.pop
      exact ⟨_,_,rfl,fr2.fh.seq h1,q F2 _ _ fr2.bf ⟨F2,A3,fr3.raise⟩ (tu h1 h2)⟩
  · cases e
theorem fF (hg:Gl X "range") (hm:X.mg "range"=none) (ha:AX X [e] m g) (hs:starEach [e] X.env=[(false,eval e X.env)]:=by rfl):IX X tg (.Call (.Name "range" p) [e] [] pos) m (dR g):=lW (kK hg hm ha hs) fun σ H R z=>by
  obtain ⟨B,E,xs,Xs,ds,E',fr,cl,e,q⟩:=z
  obtain ⟨⟨rs,E1⟩,e1,e⟩:=Option.bind_eq_some_iff.mp e
  refine ⟨B,E,xs,Xs,rs,E1,fr,cl,e1,fun vs H1 hl ⟨F,A,fr1⟩=>?_⟩
  simp only at e
  split at e
  · rename_i j ld
    split at e
    · rename_i hj
      cases e
      obtain ⟨r,A',fr2⟩:=fr1.looks hl ld
      obtain ⟨v,rfl,r'⟩:=r.one
      cases r'
      exact ⟨j,rfl,by omega,by omega,q B _ _ (Same.refl _) ⟨F,A',fr2⟩ j7⟩
    · cases e
  · cases e
theorem qX (hg:Gl X "range") (hm:X.mg "range"=none) (ha:AX X [e,e2] m g) (hs:starEach [e,e2] X.env=[(false,eval e X.env),(false,eval e2 X.env)]:=by rfl) (hs2:starEach [e2] X.env=[(false,eval e2 X.env)]:=by rfl):IX X tg (.Call (.Name "range" p) [e,e2] [] pos) m (lV g):=lW (qG hg hm ha hs hs2) fun σ H R z=>by
  obtain ⟨B,E,xs,Xs,ds,E',fr,cl,e,q⟩:=z
  obtain ⟨⟨rs,E1⟩,e1,e⟩:=Option.bind_eq_some_iff.mp e
  refine ⟨B,E,xs,Xs,rs,E1,fr,cl,e1,fun vs H1 hl ⟨F,A,fr1⟩=>?_⟩
  simp only at e
  split at e
  · rename_i i j ld
    split at e
    · rename_i hj
      cases e
      obtain ⟨r,A',fr2⟩:=fr1.looks hl ld
      obtain ⟨v,u,rfl,r1,r2⟩:=r.two
      cases r1;cases r2
      exact ⟨i,j,rfl,by omega,q B _ _ (Same.refl _) ⟨F,A',fr2⟩ j7⟩
    · cases e
  · cases e
end
def bp (tg:hE) (body:cR):List PyData→cR
  | [],E=>some (E, .nx)
  | d::ds,E=>((tg d E).bind body).bind fun a=>match a.2 with
    | .nx=>bp tg body ds a.1
    | .ct=>bp tg body ds a.1
    | .bk=>some (a.1, .nx)
    | .rt r=>some (a.1, .rt r)
def eQ (it:kE) (tg:hE) (body:cR):cR:=fun E=>(it E).bind fun a=>bp tg body a.1 a.2
theorem eF {X:Cx} {tg iter:Expr} {body:List Stmt} {m:Bool} {it:kE} {g:hE} {b:cR} {pos:Pos} (hp:PassesOwn (model X.prog X.w) X.A X.env X.xe) (hc:X.calm=true) (hi:IX X tg iter m it) (hg:GX X tg g) (hb:u4 X body b)
    (hs:∀x,foldedSetIterable iter X.env x=pure x:=by intro _;rfl):SX X (.For tg iter body [] pos) (eQ it g b):=gi (lB hp hc hi hg hb hs) fun D σ H z=>by
  obtain ⟨B,E,xs,Xs,E',fl,fr,cl,e,q⟩:=z
  obtain ⟨⟨ds,E1⟩,e1,e⟩:=Option.bind_eq_some_iff.mp e
  refine ⟨B,E,xs,Xs,ds,E1,fr,fun _=>Calm.nil cl,e1,fun B' J H1 hB fr1 ok=>?_⟩
  refine ⟨fun i mm σ' H'=>mm=ds.length - i∧i≤ds.length∧∃Ei,bp g b (ds.drop i) Ei=some (E',fl)∧Frm X.K B' σ' H' Ei xs Xs,⟨ds.length,by simp,Nat.zero_le _,E1,by simpa using e,fr1⟩,?_⟩
  rintro i mm σ' H' ⟨rfl,hi,Ei,ei,F,A,fri⟩
  obtain ⟨go,stop⟩:=ok i (Same.refl _) fri
  by_cases hlt:i < ds.length
  · obtain ⟨d,ed⟩:∃d,ds[i]? =some d:=⟨ds[i],List.getElem?_eq_getElem hlt⟩
    obtain ⟨g1,yl⟩:=go d ed
    have edr:ds.drop i=d::ds.drop (i+1):=by
      rw [List.drop_eq_getElem_cons hlt]
      congr 1
      exact Option.some.inj ((List.getElem?_eq_getElem hlt).symm.trans ed)
    rw [edr] at ei
    obtain ⟨⟨E2,f2⟩,e2,ei⟩:=Option.bind_eq_some_iff.mp ei
    obtain ⟨E3,e3,e2⟩:=Option.bind_eq_some_iff.mp e2
    refine .inr ⟨g1,fun σ2 H2=>∃Ej,bp g b (ds.drop (i+1)) Ej=some (E',fl)∧Frm X.K B' σ2 H2 Ej xs Xs,fun σ2 H2 ⟨Ej,ej,frj⟩=>⟨ds.length - (i+1),by omega,rfl,hlt,Ej,ej,frj⟩,fun x H2 y=>?_⟩
    refine ⟨B',Ei,xs,Xs,d,E3,yl x H2 y,Still.nil cl,e3,fun σ3 H3 fr3=>?_⟩
    refine ⟨B',E3,xs,Xs,E2,f2,fr3,cl,e2,?_⟩
    cases f2 with
    | nx=>exact fun σ4 H4 fr4=>⟨E2,ei,fr4⟩
    | ct=>exact fun σ4 H4 fr4=>⟨E2,ei,fr4⟩
    | bk=>cases ei;exact fun σ4 H4 fr4=>q _ _ (fr4.base hB)
    | rt r=>cases ei;exact fun σ4 v H4 fr4=>q _ _ _ (fr4.base hB)
  · have e0:i=ds.length:=by omega
    refine .inl ⟨stop e0,?_⟩
    rw [e0,List.drop_length] at ei
    cases ei
    exact q _ _ (Frm.base ⟨F,A,fri⟩ hB)
def cK:Sl→Bool
  | .sh d=>bV d
  | .ow ds=>aW ds
  | .tx ps=>ps.all fun p=>match p with | .fl d=>bV d | .ol ds=>aW ds
  | .od kvs=>kvs.all fun p=>aW p.2
  | _=>false
def cn (n:Nat) (ds:List PyData):List Sl:=ds.map .sh++List.replicate (n - ds.length) .no
def dJ (r:Sl):Option Sl:=if cK r then some r else match r with
  | .sh d=>some (.br d)
  | .ow ds=>some (.br (.list ds))
  | .tx ps=>some (.br (.tuple (ps.map Pt.val)))
  | .br d=>some (if bV d then .sh d else .br d)
  | _=>none
def jk (n:Nat) (g:cR):List PyData→Option Sl:=fun ds=>(g (cn n ds)).bind fun a=>match a.2 with
  | .rt r=>dJ r
  | .nx=>some (.sh .none)
  | _=>none
section
variable {K:PySem.W.Frag} {B F:Hp} {A:List Addr} {σ:iN} {H:Hp} {E:List Sl} {v:V} {r:Sl}
theorem DlOk.cold {F H:Hp} (sF:Same F H):∀{us:List (aP×V)} {kvs:List (aP×List PyData)} {A:List Addr},(∀p∈kvs,aW p.2=true)→DlOk K F H us kvs A→DlOk K (tups H) H us kvs A
  | [],[],A,_,h=>h
  | p::us,q::kvs,A,c,h=>by
    obtain ⟨l,vs,A',rfl,rfl,hl,hr,k⟩:=h
    exact ⟨l,vs,A',rfl,rfl,hl,(hr.same sF).cold (c q (List.mem_cons_self ..)),DlOk.cold sF (fun p hp=>c p (List.mem_cons_of_mem _ hp)) k⟩
  | [],_::_,_,_,h=>False.elim h
  | _::_,[],_,_,h=>False.elim h
theorem PtsOk.cold {F H G:Hp} (sF:Same F H) (tG:∀{v:V} {d:PyData},Rp K F v d→bV d=true→Rp K G v d):∀{vs:List V} {ps:List Pt} {A:List Addr},(∀p∈ps,(match p with | .fl d=>bV d | .ol ds=>aW ds)=true)→PtsOk K F H vs ps A→PtsOk K G H vs ps A
  | [],[],A,_,h=>h
  | v::vs, .fl d::ps,A,c,h=>⟨tG h.1 (c (.fl d) (List.mem_cons_self ..)),PtsOk.cold sF tG (fun p hp=>c p (List.mem_cons_of_mem _ hp)) h.2⟩
  | v::vs, .ol ds::ps,A,c,h=>by
    obtain ⟨l,us,A',rfl,rfl,hl,hr,q⟩:=h
    refine ⟨l,us,A',rfl,rfl,hl,?_,q.cold sF tG fun p hp=>c p (List.mem_cons_of_mem _ hp)⟩
    have cd:aW ds=true:=c (.ol ds) (List.mem_cons_self ..)
    have key:∀{us:List V} {ds:List PyData},RpA K F us ds→aW ds=true→RpA K G us ds:=fun {us ds} r c=>by
      induction us generalizing ds with
      | nil=>cases r;exact .nil
      | cons u us ih=>
        cases r with
        | cons r1 r2=>
          simp only [aW,Bool.and_eq_true] at c
          exact .cons (tG r1 c.1) (ih r2 c.2)
    exact key hr cd
  | [],_::_,_,_,h=>False.elim h
  | _::_,[],_,_,h=>False.elim h
theorem FrF.result (h:FrF K B F A σ H E [v] [r]) (c:cK r=true):Same B H∧pQ K B H v r:=by
  refine ⟨h.bf.trans h.fh,?_⟩
  have nB:∀a,F a=none→B a=none:=fun a e=>h.bf.free e
  have cold:∀{v:V} {d:PyData},Rp K F v d→bV d=true→Rp K (tups H) v d:=fun r f=>(r.same h.fh).cold f
  obtain ⟨v',A1,ev,hs⟩:=h.ext (k:=0) rfl
  cases ev
  obtain ⟨o,C0,C1,C2,eA,eo,hp,_⟩:=h.sl.at (k:=0) (s:=r) rfl
  cases eo
  have sub:∀a∈C1,F a=none:=fun a ha=>h.fr a (by rw [eA];simp [ha])
  have nd:C1.Nodup:=by
    have:=h.nd
    rw [eA] at this
    exact (List.nodup_append.mp (List.nodup_append.mp this).2.1).1
  cases r with
  | sh d=>obtain ⟨_,w,ew,r⟩:=hp;cases ew;exact cold r c
  | ow ds=>
    obtain ⟨l,vs,el,rfl,hl,r⟩:=hp
    cases el
    exact ⟨l,vs,rfl,nB l (sub l (by simp)),hl,(r.same h.fh).cold c⟩
  | tx ps=>
    obtain ⟨t,vs,et,ht,r⟩:=hp
    cases et
    exact ⟨t,vs,C1,rfl,eX (h.fh _ _ ht) rfl,nd,fun a ha=>nB a (sub a ha),r.cold h.fh cold (by simpa [cK,List.all_eq_true] using c)⟩
  | no=>cases c
  | od kvs=>
    obtain ⟨l,us,A',el,rfl,hl,r⟩:=hp
    cases el
    exact ⟨l,us,A',rfl,nd,fun a ha=>nB a (sub a ha),hl,r.cold h.fh (by simpa [cK,List.all_eq_true] using c)⟩
  | oi kvs=>cases c
  | al i=>cases c
  | br d=>cases c
theorem FrF.resultO {r':Sl} (h:FrF K B F A σ H E [v] [r]) (c:dJ r=some r'):Same B H∧pQ K B H v r':=by
  unfold dJ at c
  split at c
  · rename_i hc
    cases c
    exact h.result hc
  · refine ⟨h.bf.trans h.fh,?_⟩
    cases r with
    | sh d=>cases c;exact (h.look0 (d:=d) rfl).1
    | ow ds=>cases c;exact (h.look0 (d:= .list ds) rfl).1
    | tx ps=>cases c;exact (h.look0 (d:= .tuple (ps.map Pt.val)) rfl).1
    | br d=>
      have r:=(h.look0 (d:=d) rfl).1
      simp only at c
      split at c
      · rename_i hf
        cases c
        exact r.cold hf
      · cases c
        exact r
    | no=>cases c
    | od kvs=>cases c
    | oi kvs=>cases c
    | al i=>cases c
theorem pS {N:List Str} {vs:List V} {ds:List PyData} (r:RpA K H vs ds) (hn:ds.length≤N.length):FrF K H H [] (L2.cQ N vs) H (cn N.length ds) [] []:=by
  refine ⟨Same.refl _,Same.refl _,iM H,?_,List.nodup_nil,fun a ha=>(by cases ha),rfl,?_⟩
  · have l:=r.len
    unfold L2.cQ cn
    rw [l]
    generalize N.length - ds.length=k
    have base:∀τ:iN,SAll (SlOk K H H τ) (List.replicate k none) (List.replicate k .no) []:=fun τ=>by
      induction k with
      | zero=>exact .nil
      | succ k ih=>exact .cons (A:=[]) rfl ih
    have key:∀(τ:iN) {us:List V} {es:List PyData},RpA K H us es→SAll (SlOk K H H τ) (us.map some++List.replicate k none) (es.map .sh++List.replicate k .no) []:=fun τ us es r=>by
      induction us generalizing es with
      | nil=>cases r;exact base τ
      | cons u us ih=>
        cases r with
        | cons r1 r2=>exact .cons (A:=[]) ⟨rfl,_,rfl,r1⟩ (ih _ r2)
    exact key _ r
  · intro s hs
    unfold cn at hs
    rcases List.mem_append.mp hs with hs | hs
    · obtain ⟨d,_,rfl⟩:=List.mem_map.mp hs
      rfl
    · rw [(List.mem_replicate.mp hs).2]
      rfl
end
def hJ (k n:Nat) (g:cR):List PyData→Option Sl:=fun ds=>if ds.length=k then jk n g ds else none
theorem jl {P:Program} {w:World} {K:PySem.W.Frag} {mg:Str→Option Value} {base:Heap} {x:Str} {st:Stmt} {N ps:List Str} {k a n:Nat} {g:cR} (D:Def K mg x st ps) (S:FnScope N ps (ao st)) (hpa:ps.length=a) (hNn:N.length=n) (hps:a≤n)
    (hbody:∀(f:Addr) (cdv:Value) (A:Around) (outer:List Env) (s:Shared) (H:Hp) (E:XK),Room k (A.deeper (PyProof.Rows.envOfC x (ao st) s.heap.objs.size f cdv))→
      u4 (lC rZ P w K mg base N x (ao st) f cdv A outer s H E).nox (ca st) g):Own P w K mg base (k+1) x ps (fQ K (hJ a n g)):=by
  subst hpa hNn
  refine D.own S (fun vs H Q E h=>?_) (fun f cdv A outer s H vs Q E hr h=>?_)
  · obtain ⟨ds,r,e,rp,_⟩:=h
    unfold hJ at e
    split at e
    · rename_i hl
      rw [rp.len];exact hl
    · cases e
  obtain ⟨ds,r,e,rp,q⟩:=h
  unfold hJ at e
  split at e
  · rename_i hl
    refine ⟨_,hbody f cdv A outer s H E hr,?_⟩
    obtain ⟨⟨E',fl⟩,e1,e⟩:=Option.bind_eq_some_iff.mp e
    refine ⟨H,cn N.length ds,[],[],E',fl,⟨H,[],pS rp (by omega)⟩,rfl,e1,?_⟩
    cases fl with
    | nx=>
      cases e
      rintro σ' H' ⟨F',A',fr'⟩
      exact q _ _ (fr'.bf.trans fr'.fh) .non
    | bk=>cases e
    | ct=>cases e
    | rt r'=>
      rintro σ' v H' ⟨F',A',fr'⟩
      obtain ⟨s1,s2⟩:=fr'.resultO e
      exact q v H' s1 s2
  · cases e
theorem AG {P:Program} {w:World} {K:PySem.W.Frag} {mg:Str→Option Value} {base:Heap} {x:Str} {st:Stmt} {N ps:List Str} {k a n:Nat} {g:cR} {f0:Addr} {fd:FuncData} (D:Fun K x x st f0 fd) (S:FnScope N ps (ao st)) (hpa:ps.length=a) (hNn:N.length=n) (hps:a≤n)
    (hbody:∀(cdv:Value) (A:Around) (outer:List Env) (s:Shared) (H:Hp) (E:XK),Room k (A.deeper (PyProof.Rows.envOfC x (ao st) s.heap.objs.size f0 cdv))→
      u4 (lC rZ P w K mg base N x (ao st) f0 cdv A outer s H E).nox (ca st) g):FnOk P w K mg base rZ (k+1) f0 fd ps (fQ K (hJ a n g)):=by
  subst hpa hNn
  refine D.ok S (fun vs H Q E h=>?_) (fun cdv A outer s H vs Q E hr h=>?_)
  · obtain ⟨ds,r,e,rp,_⟩:=h
    unfold hJ at e
    split at e
    · rename_i hl
      rw [rp.len];exact hl
    · cases e
  obtain ⟨ds,r,e,rp,q⟩:=h
  unfold hJ at e
  split at e
  · rename_i hl
    refine ⟨_,hbody cdv A outer s H E hr,?_⟩
    obtain ⟨⟨E',fl⟩,e1,e⟩:=Option.bind_eq_some_iff.mp e
    refine ⟨H,cn N.length ds,[],[],E',fl,⟨H,[],pS rp (by omega)⟩,rfl,e1,?_⟩
    cases fl with
    | nx=>
      cases e
      rintro σ' H' ⟨F',A',fr'⟩
      exact q _ _ (fr'.bf.trans fr'.fh) .non
    | bk=>cases e
    | ct=>cases e
    | rt r'=>
      rintro σ' v H' ⟨F',A',fr'⟩
      obtain ⟨s1,s2⟩:=fr'.resultO e
      exact q v H' s1 s2
  · cases e
theorem kX {K:PySem.W.Frag} {H:Hp}:∀ns:List Int,RpA K H (ns.map V.int) (ns.map PyData.int)
  | []=> .nil
  | n::ns=> .cons (.int n) (kX ns)
theorem xK {K:PySem.W.Frag} {H:Hp} {a:Addr} {ns:List Int} {c:List PyData→Option Sl} (e:c [.list (ns.map .int)]=some (.sh (.bool true))) (h:SqL K H a (ns.map V.int)):fQ K c [.ref a] H (fun v _=>v= .bl true) fun _ _ _=>False:=
  ⟨_,_,e, .cons (.lst h (kX ns)) .nil,fun v H' _ r=>by
    have r':Rp K (tups H') v (.bool true):=r
    cases r'
    rfl⟩
end PL
namespace PL
open PySem L2 Nh
def tw (E:List Sl):Option Nat→Sl
  | none=> .no
  | some j=>match (E[j]?).bind Sl.val with
    | some d=> .sh d
    | none=> .no
def gq (js:List (Option Nat)) (E:List Sl):List Sl:=js.map (tw E)
def e8:g8:=fun E=>some (true,E)
def e9 (tg:hE) (cond:g8) (elt:bD):List PyData→List Sl→Option (List PyData)
  | [],_=>some []
  | d::ds,E=>(tg d E).bind fun E1=>(cond E1).bind fun b=>if b.1 then (elt b.2).bind fun c=>(frz c.2 c.1).bind fun e=>(e9 tg cond elt ds e.2).map fun r=>e.1::r else e9 tg cond elt ds b.2
def gV (js:List (Option Nat)) (it:kE) (tg:hE) (cond:g8) (elt:bD):bD:=fun E=>(it E).bind fun a=>(e9 tg cond elt a.1 (gq js a.2)).bind fun ds=>if aW ds&&decide (ds.length≤1000000) then some (.ow ds,a.2) else none
section
variable {X:Cx} {elt target iter:Expr} {ifs:List Expr} {scope sc:Scope} {cl:List (Str×Addr)} {N:List Str} {pos:Pos} {js:List (Option Nat)} {K:PySem.W.Frag}
theorem tz {B F:Hp} {A:List Addr} {σ:iN} {H:Hp} {E:List Sl} {xs:List V} {Xs:List Sl} (fr:FrF K B F A σ H E xs Xs) (js:List (Option Nat)):FrF K H H [] (slots js σ) H (gq js E) [] []:=by
  refine ⟨Same.refl _,Same.refl _,iM H,?_,List.nodup_nil,fun a ha=>(by cases ha),rfl,fun s hs=>?_⟩
  · have key:∀(τ:iN) (ks:List (Option Nat)),SAll (SlOk K H H τ) (slots ks σ) (gq ks E) []:=fun τ ks=>by
      induction ks with
      | nil=>exact .nil
      | cons j ks ih=>
        refine .cons (A:=[]) ?_ ih
        cases j with
        | none=>exact rfl
        | some j=>
          show SlOk K H H τ _ (match (E[j]?).bind Sl.val with | some d=> .sh d | none=> .no) []
          cases ej:E[j]? with
          | none=>exact rfl
          | some s=>
            cases ev:s.val with
            | none=>simp only [Option.bind_some,ev];exact rfl
            | some d=>
              simp only [Option.bind_some,ev]
              obtain ⟨o,A1,eo,hs⟩:=fr.var ej
              obtain ⟨v,rfl,r,_⟩:=hs.val fr.fh ev
              refine ⟨rfl,v,?_,r⟩
              show (σ[j]?).join=some v
              rw [eo]
              rfl
    exact key _ js
  · obtain ⟨j,_,rfl⟩:=List.mem_map.mp hs
    cases j with
    | none=>rfl
    | some j=>
      simp only [tw]
      split <;> rfl
theorem qY {m2 m3:Bool} {tg:hE} {cond:g8} {el:bD} {tt:TT} (htt:∀σ H Q,rt K m2 cond σ H Q→tt σ H Q) {B B' F:Hp} {A:List Addr} {σ:iN} {H1:Hp} {E1:List Sl} {xs:List V} {Xs:List Sl} {ds rs:List PyData} {J:It} {Q:VK}
    (fr1:FrF K B F A σ H1 E1 xs Xs) (B2:Same B' H1) (ok:oG K B' J ds) (e2:e9 tg cond el ds (gq js E1)=some rs) (hc:aW rs=true∧rs.length≤1000000) (q:∀v H',Frm K B σ H' E1 (v::xs) (.ow rs::Xs)→Q v H') (l:Addr) (hl:H1 l=none):
    ∃W:Nat→Nat→iN→Hp→Prop,(∃m,W 0 m (slots js σ) (upd H1 l (.lst [])))∧
  ∀i m σ' H',W i m σ' H'→(J.stop i H'∧Q (.ref l) H')∨(J.go i H'∧∃N:iN→Hp→Prop,(∀σ' H',N σ' H'→∃m',m' < m∧W (i+1) m' σ' H')∧∀x H2,J.yld i H' x H2→rg K tg x σ' H2 fun σ3 H3=>tt σ3 H3 fun b H4=>
    if b=true then rd K m3 el σ3 H4 fun y H5=>∃ys,H5 l=some (.lst ys)∧ys.length < sizeLine∧N σ3 (upd H5 l (.lst (ys++[y]))) else N σ3 H4):=by
  have fr0:=(tz fr1 js).newl (ds:=[]) .nil hl
  refine ⟨fun i mm σ' H'=>mm=ds.length - i∧i≤ds.length∧∃Ei acc bd,e9 tg cond el (ds.drop i) Ei=some bd∧rs=acc++bd∧Frm K H1 σ' H' Ei [.ref l] [.ow acc],⟨ds.length,by simp,Nat.zero_le _,_,[],rs,by simpa using e2,rfl,⟨_,_,fr0⟩⟩,?_⟩
  rintro i mm σ' H' ⟨rfl,hi,Ei,acc,bd,ei,er,F',A',fri⟩
  obtain ⟨go,stop⟩:=ok i B2 fri
  by_cases hlt:i < ds.length
  · obtain ⟨d,ed⟩:∃d,ds[i]? =some d:=⟨ds[i],List.getElem?_eq_getElem hlt⟩
    obtain ⟨g1,yl⟩:=go d ed
    have edr:ds.drop i=d::ds.drop (i+1):=by
      rw [List.drop_eq_getElem_cons hlt]
      congr 1
      exact Option.some.inj ((List.getElem?_eq_getElem hlt).symm.trans ed)
    rw [edr] at ei
    obtain ⟨E3,e3,ei⟩:=Option.bind_eq_some_iff.mp ei
    obtain ⟨⟨b,E4⟩,e4,ei⟩:=Option.bind_eq_some_iff.mp ei
    refine .inr ⟨g1,fun σ2 H2=>∃Ej acc bd,e9 tg cond el (ds.drop (i+1)) Ej=some bd∧rs=acc++bd∧Frm K H1 σ2 H2 Ej [.ref l] [.ow acc],fun σ2 H2 ⟨Ej,ac,rt,ej,er,frj⟩=>⟨ds.length - (i+1),by omega,rfl,hlt,Ej,ac,rt,ej,er,frj⟩,fun x H2 y=>?_⟩
    have clm:Calm [Sl.ow acc]:=Calm.cons (fun s hs=>absurd hs (by simp)) rfl
    refine ⟨H1,Ei,[.ref l],[.ow acc],d,E3,yl x H2 y,(fun s hs=>by rw [List.mem_singleton.mp hs];rfl),e3,fun σ3 H3 fr3=>htt _ _ _ ?_⟩
    refine ⟨H1,E3,[.ref l],[.ow acc],b,E4,fr3,fun _=>clm,e4,fun H4 fr4=>?_⟩
    cases b with
    | false=>
      rw [if_neg (by decide)]
      exact ⟨E4,acc,bd,ei,er,fr4⟩
    | true=>
      rw [if_pos rfl]
      obtain ⟨⟨s5,E5⟩,e5,ei⟩:=Option.bind_eq_some_iff.mp ei
      obtain ⟨⟨d6,E6⟩,e6,ei⟩:=Option.bind_eq_some_iff.mp ei
      obtain ⟨rest',e7,ei⟩:=Option.map_eq_some_iff.mp ei
      subst ei
      refine ⟨H1,E4,[.ref l],[.ow acc],s5,E5,fr4,fun _=>clm,e5,fun y5 H5 ⟨F5,A5,fr5⟩=>?_⟩
      obtain ⟨F6,A6,fr6⟩:=fr5.frz0 e6
      obtain ⟨v',C1,ev,rfl,w,ew,ry⟩:=fr6.ext (k:=0) rfl
      cases ev;cases ew
      obtain ⟨A7,fr7⟩:=fr6.pop
      -- the list under way is the one part that owns
      obtain ⟨bf,fh,tf,sl,nd,frn,len,pl⟩:=fr7
      generalize hT:List.map some [V.ref l]++σ3=T at sl
      generalize hS:[Sl.ow acc]++E6=S at sl
      cases sl with
      | nil=>cases hS
      | cons q0 r0=>
        injection hT with h1 hT
        injection hS with h2 hS
        subst h1 h2 hT hS
        obtain ⟨l',us,el,rfl,hl5,ru⟩:=q0
        cases el
        have lu:=ru.len
        refine ⟨us,hl5,small (by rw [er] at hc;simp at hc;omega),E6,acc++[d6],rest',e7,by rw [er];simp,F6,_,bf,fun b o qb=>?_,?_, .cons (A:=[l]) ⟨l,us++[y5],rfl,rfl,upd_same,ru.snoc ry⟩ (r0.mono fun o s C hs hC qq=>qq.stay (Same.refl _) (fun b hb=>ak fun z=>?_) fun z=>?_),nd,frn,rfl,pl⟩
        · have lF:F6 l=none:=frn l (by simp)
          rw [ak (fun z=>by rw [z,lF] at qb;cases qb)]
          exact fh _ _ qb
        · rw [mX hl5];exact tf
        · have:=hC b hb
          rw [z] at this
          exact (List.nodup_cons.mp nd).1 this
        · have:=pl s hs
          cases s <;> simp [Sl.isAl,Sl.isBr] at this z
  · have e0:i=ds.length:=by omega
    refine .inl ⟨stop e0,?_⟩
    rw [e0,List.drop_length] at ei
    cases ei
    rw [List.append_nil] at er
    subst er
    obtain ⟨g1,g2⟩:=fri.result hc.1
    exact q _ _ (fr1.told g1 g2)
theorem vF {m m2 m3:Bool} {it:kE} {tg:hE} {cond:g8} {el:bD} {tt:TT} (htt:∀σ H Q,rt K m2 cond σ H Q→tt σ H Q) {σ:iN} {H:Hp} {Q:VK} (z:rd K m (gV js it tg cond el) σ H Q):mV js (ri K m it) (rg K tg) tt (rd K m3 el) σ H Q:=by
  obtain ⟨B,E,xs,Xs,res,E',fr,cl,e,q⟩:=z
  obtain ⟨⟨ds,E1⟩,e1,e⟩:=Option.bind_eq_some_iff.mp e
  obtain ⟨rs,e2,e⟩:=Option.bind_eq_some_iff.mp e
  simp only at e
  split at e
  · rename_i hc
    cases e
    simp only [Bool.and_eq_true,decide_eq_true_eq] at hc
    exact ⟨B,E,xs,Xs,ds,_,fr,cl,e1,fun B' J H1 hB ⟨F,A,fr1⟩ ok l hl=>qY htt (fr1.base hB) (fr1.bf.trans fr1.fh) ok e2 hc q l hl⟩
  · cases e
theorem iA {m m3:Bool} {it:kE} {tg:hE} {el:bD} (C:CompOk X scope sc cl N js) (hc:X.calm=true) (hi:IX X target iter m it) (hg:∀C s₀ H₀ fp,GX (X.comp sc cl N C s₀ H₀ fp) target tg) (he:∀C s₀ H₀ fp,EX (X.comp sc cl N C s₀ H₀ fp) elt m3 el)
    (hs:∀x,foldedSetIterable iter X.env x=pure x:=by intro _;rfl):EX X (.ListComp elt [⟨target,iter,[],0⟩] scope pos) m (gV js it tg e8 el):=
  bF (vm (g:=rg X.K tg) (te:=rd X.K m3 el) C hc hi hg (fun _ _ _ _=>pH) he hs) fun σ H Q z=>vF (m2:=false) (fun σ H Q z=>by
    obtain ⟨B,E,xs,Xs,b,E',fr,cl,e,q⟩:=z
    cases e
    exact q _ fr) z
end
end PL
namespace PL
open PySem L2 Nh
def pT:PyData→Option aP
  | .int i=>some (.inl i)
  | .str x=>some (.inr x)
  | _=>none
theorem pU {d:PyData} {k:aP} (h:pT d=some k):d=xw k:=by
  cases d <;> simp [pT] at h <;> subst h <;> rfl
section
variable {X:Cx} {K:PySem.W.Frag} {B F:Hp} {σ:iN} {H:Hp} {E:List Sl} {xs:List V} {Xs:List Sl}
theorem tB {v:V} {k:aP} (h:Rp K H v (xw k)):v=kV k:=by
  cases k with
  | inl i=>cases h;rfl
  | inr x=>cases h;rfl
end
end PL
namespace PL
open PySem L2 Nh
section
variable {X:Cx} {elt target iter:Expr} {ifs:List Expr} {scope sc:Scope} {cl:List (Str×Addr)} {N:List Str} {pos:Pos} {js:List (Option Nat)} {K:PySem.W.Frag}
theorem SAll.app {P:Option V→Sl→List Addr→Prop}:∀{os os':List (Option V)} {ss ss':List Sl} {A A':List Addr},SAll P os ss A→SAll P os' ss' A'→SAll P (os++os') (ss++ss') (A++A')
  | _,_,_,_,_,_, .nil,h=>h
  | _,_,_,_,_,_, .cons h r,h'=>by rw [List.append_assoc];exact .cons h (r.app h')
theorem SAll.split {P:Option V→Sl→List Addr→Prop}:∀{os os':List (Option V)} {ss ss':List Sl} {A:List Addr},os.length=ss.length→SAll P (os++os') (ss++ss') A→∃A1 A2,A=A1++A2∧SAll P os ss A1∧SAll P os' ss' A2
  | [],_,[],_,A,_,h=>⟨[],A,rfl, .nil,h⟩
  | o::os,_,s::ss,_,_,l, .cons h r=>by
    obtain ⟨A1,A2,rfl,h1,h2⟩:=SAll.split (os:=os) (ss:=ss) (by simpa using l) r
    exact ⟨_,A2,by rw [List.append_assoc], .cons h h1,h2⟩
  | [],_,_::_,_,_,l,_=>by simp at l
  | _::_,_,[],_,_,l,_=>by simp at l
end
end PL
namespace PL
open PySem L2 Nh
theorem cL {α:Type} (xs:List α) (k:Nat):atI xs (k:Int)=xs[k]? :=by
  unfold atI u0
  rw [if_pos (by omega)]
  split
  · simp
  · rw [List.getElem?_eq_none (by omega)];rfl
theorem za {α:Type} (a:α) (l:List α):atI (a::l) 0=some a:=cL (a::l) 0
theorem zb {α:Type} (a b:α) (l:List α):atI (a::b::l) 1=some b:=cL (a::b::l) 1
theorem tD {α:Type} {xs:List α} {i:Int} (h:0≤i):atI xs i=xs[i.toNat]? :=by
  have e:i=((i.toNat:Nat):Int):=by omega
  rw [e,cL,Int.toNat_natCast]
theorem kY:∀{a:List PyData},(∀d∈a,bV d=true)→aW a=true
  | [],_=>rfl
  | x::a,h=>by simp [aW,h x (List.mem_cons_self ..),kY fun d hd=>h d (List.mem_cons_of_mem _ hd)]
theorem kZ {α:Type} {f:α→PyData} (h:∀a,bV (f a)=true) (l:List α):aW (l.map f)=true:=kY fun d hd=>by
  obtain ⟨a,_,rfl⟩:=List.mem_map.mp hd
  exact h a
theorem vG (p:Pc):bV (cI p)=true:=rfl
theorem eG (c:List Pc):aW (c.map cI)=true:=kZ vG c
theorem qZ (l:List Int):aW (l.map PyData.int)=true:=kZ (fun _=>rfl) l
def cutL {α:Type} (l:List α) (lo hi:Option Int):List α:=(l.drop (HT.jL l.length 0 lo)).take (HT.jL l.length l.length hi - HT.jL l.length 0 lo)
theorem iB {α:Type} (f:α→PyData) (l:List α) (lo hi:Option Int):qR (l.map f) lo hi=(cutL l lo hi).map f:=by
  unfold qR cutL
  rw [List.length_map,List.map_take,List.map_drop]
theorem j8 {α:Type} (l:List α) (lo hi:Option Int):(cutL l lo hi).length≤l.length:=by
  unfold cutL
  rw [List.length_take,List.length_drop]
  omega
theorem iQ {α:Type} (l:List α) {m:Int} (h:0≤m):((cutL l none (some m)).length:Int)≤m:=by
  unfold cutL
  have e:m=((m.toNat:Nat):Int):=by omega
  have z:HT.jL l.length l.length (some m)≤m.toNat:=by
    rw [e,HT.vh,Int.toNat_natCast]
    exact Nat.min_le_left _ _
  rw [List.length_take,List.length_drop]
  omega
theorem ni {α:Type} {l:List α} {lo hi:Option Int} {x:α} (h:x∈cutL l lo hi):x∈l:=List.mem_of_mem_drop (List.mem_of_mem_take h)
theorem fG (lo:Int) (n:Nat):gd lo (n+1)= .int lo::gd (lo+1) n:=by
  unfold gd
  rw [List.range_succ_eq_map,List.map_cons,List.map_map]
  simp only [Int.natCast_zero,Int.add_zero]
  congr 1
  refine List.map_congr_left fun k _=>?_
  show PyData.int (lo+((k+1:Nat):Int))=PyData.int (lo+1+(k:Int))
  congr 1
  omega
end PL
namespace L2
open PySem PySem.Spec PyProof.Rows
section
variable {X:Cx} {pins:List (Addr×Obj)} {σ:L2.St} {H:Hp} {s:Shared} {h':Heap}
theorem Inv.turnedL {t':Nat} {fp:List Addr} (I:Inv X pins σ H s) (k:∀b o,b∉fp→s.heap.get? b=some o→h'.get? b=some o) (hf:∀b∈fp,jG X pins H b):Inv X pins σ H {s with heap:=h',toks:=t'}:=by
  have nit:∀b u,H b=some u→b∉fp:=fun b u e z=>by rw [(hf b z).1] at e;cases e
  refine I.step (g':=s.gens) (d':=s.drawn) (ch:=fp) (fun b hb=>?_) (fun b o _ _ hc e _=>k b o hc e) (fun b o _ _ hc e _=>⟨o.slots,k b o hc e⟩) (fun _ _ _ _ n=>n)
    (fun b o hc e=>⟨o,k b o hc e⟩) (fun _ _ e=>e) (fun _ _ _ e=>e) (fun _ _ e=>e) (fun m hm=>?_) (fun b u e=>?_) I.bare
  · obtain ⟨f0,f1,f2,f3,f4,f5⟩:=hf b hb
    exact ⟨f3,f1,f4,f5⟩
  · obtain ⟨o,es,ep,ho,r⟩:=hm
    exact ⟨o,es,ep,k _ o (fun z=>(hf _ z).2.1 rfl) ho,r⟩
  · refine (I.hok b u e).stay (fun c v hc q=>k c v ?_ q) (fun _ q=>q) fun _ _ q=>q
    rcases hc with z | z
    · rw [z];exact nit b u e
    · exact nit c _ z
theorem j9 {h:Heap} {o o':Obj} {c:Addr} (hc:c≠h.objs.size) (e:(h.push o').get? c=some o):h.get? c=some o:=(Heap.get?_push_cases e).elim (fun z=>absurd z.1 hc) id
theorem nj {t':Nat} {us:List Value} {vs:List V} (I:Inv X pins σ H s) (r:Vals vs us) (hz:vs.length≤sizeLine):
    Inv X pins σ (upd H s.heap.objs.size (.tup vs)) {s with heap:=s.heap.push {cls:= .type "tuple",data:= .seq us.toArray},toks:=t'}:=
  I.laid (fun b u e=>Heap.get?_push_of_some _ e) (Nat.le_refl _) ⟨hz,us,r,⟨_,Heap.get?_push_size _ rfl,rfl,_,rfl⟩⟩
end
def xL (x:Str):It:=⟨fun i _=>i < x.cps.toList.length,fun i H v H'=>H'=H∧∃c,x.cps.toList[i]? =some c∧v= .str ⟨#[c]⟩,fun i _=>i=x.cps.toList.length⟩
theorem tE {P:Program} {w:World} {K:PySem.W.Frag} {tg:Expr} {it:Addr} {T:String} {x:Str} {t:Tok} (hT:T="str_ascii_iterator"∨T="str_iterator"):Turn P w K tg (xL x) [it] it (fun i h=>h.IsStrIter it T x t i) where
  mem:=by simp
  obj:=fun i h st b hb=>by
    have e:b=it:=by simpa using hb
    subst e
    obtain ⟨o,e,c,d⟩:=st
    exact ⟨o,e,fun v z=>by rw [d] at z;cases z⟩
  keep:=fun i h h' st k=>let ⟨o,ho,r⟩:=st;⟨o,k it (by simp) o ho,r⟩
  item:=by
    intro X hP hw hK hc i pins s σ H E I hf st hg
    subst hP hw hK
    obtain ⟨f0,f1,f2,f3,f4,f5⟩:=hf it (by simp)
    have hi:i < x.cps.toList.length:=hg
    have hx:x.cps[i]? =some (x.cps.toList[i]'hi):=by simp at hi;simp [hi]
    have fin:∀(h':Heap),h'.IsStrIter it T x t (i+1)→Heap.SameBut it s.heap h'→∃u,some (Value.str ⟨#[x.cps.toList[i]'hi]⟩ s.toks)=some u∧
        wpAny (model X.prog X.w) X.A (letOwnedTupleGo tg (.ref it) u) (fun _ s2=>∃v H',Inv X pins σ H' s2∧RelV v u∧(xL x).yld i H v H'∧s2.heap.IsStrIter it T x t (i+1)∧∀b∈[it],H' b=none) E {s with heap:=h',toks:=s.toks+1}:=fun h' st' sb=>by
      have I1:Inv X pins σ H {s with heap:=h',toks:=s.toks+1}:=I.turned (t':=s.toks+1) (fun b o hb e=>(sb.2 b hb).trans e) f0 f1 f3 f4 f5
      obtain ⟨o,e,c,d⟩:=id st'
      exact ⟨_,rfl,mO (s:={s with heap:=h',toks:=s.toks+1}) e c d (by rcases hT with rfl | rfl <;> decide) ⟨.str ⟨#[x.cps.toList[i]'hi]⟩,H,I1,⟨_,rfl⟩,⟨rfl,_,List.getElem?_eq_getElem hi,rfl⟩,st',fun b hb=>(hf b hb).1⟩⟩
    rcases hT with rfl | rfl
    · exact wpAny_pyNext_ascii_item st hx fun h' st' sb=>fin h' st' sb
    · exact wpAny_pyNext_wide_item st hx fun h' st' sb=>fin h' st' sb
  done:=by
    intro X hP hw hK hc i pins s σ H E I hf st hg
    subst hP hw hK
    obtain ⟨f0,f1,f2,f3,f4,f5⟩:=hf it (by simp)
    have hi:i=x.cps.toList.length:=hg
    have hx:x.cps[i]? =none:=by simp at hi;simp [hi]
    rcases hT with rfl | rfl
    · exact wpAny_pyNext_ascii_end (I.ok.hd hc) st hx fun h' eb=>⟨rfl,I.turned (t':=s.toks) (fun b o hb e=>eb b o hb e) f0 f1 f3 f4 f5⟩
    · exact wpAny_pyNext_wide_end (I.ok.hd hc) st hx fun h' eb=>⟨rfl,I.turned (t':=s.toks) (fun b o hb e=>eb b o hb e) f0 f1 f3 f4 f5⟩
  self:=fun _ _ _ _ _ st h=>by
    rcases hT with rfl | rfl
    · exact wpAny_pyIter_striter_ascii st h
    · exact wpAny_pyIter_striter_wide st h
def zc (tl:TE):TI:=fun σ H R=>tl σ H fun v H1=>∃x,v= .str x∧R (xL x) H1
theorem tF {X:Cx} {tg l:Expr} {tl:TE} (hl:PE X l tl):PI X tg l (zc tl):=by
  intro pins s σ H R I h
  refine bN (hl pins s σ H _ I h) fun v s1 ⟨y,H1,I1,r1,q1⟩=>?_
  obtain ⟨x,e,q⟩:=q1
  subst e
  obtain ⟨t,rfl⟩:=r1
  refine wpAny_pyIter_strU ?_
  refine ⟨s1.heap.objs.size,[s1.heap.objs.size],fun i h=>h.IsStrIter s1.heap.objs.size (strIterType x) x t i,_,H1,rfl,I1.kept (t':=s1.toks) fun b o e=>Heap.get?_push_of_some _ e,tE (t:=t) ?_,⟨_,Heap.get?_push_size _ rfl,rfl,rfl⟩,fun b hb=>?_,q⟩
  · unfold strIterType
    split
    · exact .inl rfl
    · exact .inr rfl
  · have e:b=s1.heap.objs.size:=by simpa using hb
    subst e
    exact I1.fpOk (Nat.le_refl _) (I1.hok.fresh (Nat.le_refl _))
theorem PI.or {X:Cx} {tg l:Expr} {a b:TI} (h1:PI X tg l a) (h2:PI X tg l b):PI X tg l (fun σ H R=>a σ H R∨b σ H R):=by
  intro pins s σ H R I h
  rcases h with h | h
  · exact h1 pins s σ H R I h
  · exact h2 pins s σ H R I h
end L2
namespace PL
open PySem L2 Nh
def lX (x:Str):List PyData:=x.cps.toList.map fun c=> .str ⟨#[c]⟩
def fU (f:bD):kE:=fun E=>(f E).bind fun a=>(frz a.2 a.1).bind fun b=>match b.1 with
  | .list ds=>some (ds,b.2)
  | .tuple ds=>some (ds,b.2)
  | .str x=>some (lX x,b.2)
  | _=>none
section
variable {X:Cx} {K:PySem.W.Frag} {B:Hp}
theorem tH {x:Str}:oG K B (xL x) (lX x):=fun {B' F A σ H E xs Xs} i sB fr=>by
  refine ⟨fun d ed=>?_,fun e=>by show i=x.cps.toList.length;rw [e];simp [lX]⟩
  unfold lX at ed
  rw [List.getElem?_map] at ed
  obtain ⟨c,ec,rfl⟩:=Option.map_eq_some_iff.mp ed
  refine ⟨(List.getElem?_eq_some_iff.mp ec).1,fun z H2 ⟨e1,c',e2,e3⟩=>?_⟩
  rw [ec] at e2;cases e2
  subst e1 e3
  exact ⟨F,A,fr.push ⟨rfl,_,rfl, .str _⟩⟩
theorem tI {a:Addr} {vs:List V} {ds:List PyData} (h:SqT K B a vs) (r:RpA K B vs ds):oG K B (zX K a) ds:=fun {B' F A σ H E xs Xs} i sB fr=>by
  have hH:=fr.fh.tup (fr.bf.tup (sB.tup h))
  refine ⟨fun d ed=>?_,fun e=>⟨vs,hH,by rw [e,r.len];exact Nat.le_refl _⟩⟩
  obtain ⟨v,ev,rv⟩:=r.get ed
  refine ⟨⟨vs,v,hH,ev⟩,fun x H2 ⟨e2,y⟩=>?_⟩
  subst e2
  have:=y vs hH
  rw [ev] at this
  cases this
  exact ⟨F,A,fr.push ⟨rfl,_,rfl,rv.same (sB.trans fr.bf)⟩⟩
theorem gr {tg e:Expr} {m:Bool} {f:bD} (he:EX X e m f):IX X tg e m (fU f):=lW (PI.or (vb he) (PI.or (xb he) (tF he))) fun σ H R z=>by
  obtain ⟨B,E,xs,Xs,ds,E',fr,cl,e,q⟩:=z
  obtain ⟨⟨s,E1⟩,e1,e⟩:=Option.bind_eq_some_iff.mp e
  obtain ⟨⟨d,E2⟩,e2,e⟩:=Option.bind_eq_some_iff.mp e
  have key:∀(v:V) (H1:Hp),Frm X.K B σ H1 E1 (v::xs) (s::Xs)→∃F2 A2 A3,Rp X.K F2 v d∧Same B F2∧FrF X.K F2 F2 A3 σ H1 E2 xs Xs∧FrF X.K B F2 A2 σ H1 E2 (v::xs) (.sh d::Xs):=fun v H1 ⟨F,A,fr1⟩=>by
    obtain ⟨F2,A2,fr2⟩:=fr1.frz0 e2
    obtain ⟨v',A1,ev,rfl,w,ew,r⟩:=fr2.ext (k:=0) rfl
    cases ev;cases ew
    obtain ⟨A3,fr3⟩:=fr2.pop
    exact ⟨F2,A2,A3,r,fr2.bf,fr3.raise,fr2⟩
  simp only at e
  split at e
  · cases e
    refine .inl ⟨B,E,xs,Xs,s,E1,fr,cl,e1,fun v H1 fr1=>?_⟩
    obtain ⟨F2,A2,A3,r,sb,fr3,fr2⟩:=key v H1 fr1
    cases r with
    | lst h1 h2=>exact ⟨_,rfl,⟨_,fr2.fh.seq h1⟩,q F2 _ _ sb ⟨F2,A3,fr3⟩ (qW h1 h2)⟩
  · cases e
    refine .inr (.inl ⟨B,E,xs,Xs,s,E1,fr,cl,e1,fun v H1 fr1=>?_⟩)
    obtain ⟨F2,A2,A3,r,sb,fr3,fr2⟩:=key v H1 fr1
    cases r with
    | tup h1 h2=>exact ⟨_,rfl,⟨_,fr2.fh.tup h1⟩,q F2 _ _ sb ⟨F2,A3,fr3⟩ (tI h1 h2)⟩
  · cases e
    refine .inr (.inr ⟨B,E,xs,Xs,s,E1,fr,cl,e1,fun v H1 fr1=>?_⟩)
    obtain ⟨F2,A2,A3,r,sb,fr3,fr2⟩:=key v H1 fr1
    cases r
    exact ⟨_,rfl,q F2 _ _ sb ⟨F2,A3,fr3⟩ tH⟩
  · cases e
end
def bR (c:g8) (g:cR):Nat→cR
  | 0,_=>none
  | n+1,E=>(c E).bind fun a=>if a.1 then (g a.2).bind fun b=>(match b.2 with
      | .nx=>bR c g n b.1
      | .ct=>bR c g n b.1
      | .bk=>some (b.1, .nx)
      | .rt r=>some (b.1, .rt r)) else some (a.2, .nx)
open Classical in
def iR (c:g8) (g:cR):cR:=fun E=>if h:∃n r,bR c g n E=some r then some h.choose_spec.choose else none
theorem fV (c:g8) (g:cR):∀{n:Nat} {E:List Sl} {r:List Sl×Fl},bR c g n E=some r→bR c g (n+1) E=some r
  | n+1,E,r,h=>by
    obtain ⟨a,e1,h⟩:=Option.bind_eq_some_iff.mp h
    rw [bR,e1,Option.bind_some]
    cases ha:a.1 with
    | false=>rw [ha] at h;exact h
    | true=>
      rw [ha] at h
      obtain ⟨b,e2,h⟩:=Option.bind_eq_some_iff.mp h
      rw [if_pos rfl,e2,Option.bind_some]
      cases hb:b.2 with
      | nx=>rw [hb] at h;exact fV c g h
      | ct=>rw [hb] at h;exact fV c g h
      | bk=>rw [hb] at h;exact h
      | rt r=>rw [hb] at h;exact h
theorem j_ (c:g8) (g:cR) {n m:Nat} {E:List Sl} {r:List Sl×Fl} (h:bR c g n E=some r) (hl:n≤m):bR c g m E=some r:=by
  induction hl with
  | refl=>exact h
  | step _ ih=>exact fV c g ih
theorem q9 {c:g8} {g:cR} {n:Nat} {E:List Sl} {r:List Sl×Fl} (h:bR c g n E=some r):iR c g E=some r:=by
  have ex:∃n r,bR c g n E=some r:=⟨n,r,h⟩
  unfold iR
  rw [dif_pos ex]
  have e:=ex.choose_spec.choose_spec
  have a:=j_ c g e (Nat.le_max_left ex.choose n)
  have b:=j_ c g h (Nat.le_max_right ex.choose n)
  rw [a] at b
  exact b
theorem tJ {X:Cx} {c:Expr} {body:List Stmt} {m:Bool} {t:g8} {b:cR} {pos:Pos} (hp:PassesOwn (model X.prog X.w) X.A X.env X.xe) (hc:TX X c m t) (hb:u4 X body b):SX X (.While c body [] pos) (iR t b):=gi (sf hp hc hb) fun D σ H z=>by
  obtain ⟨B,E,xs,Xs,E',fl,fr,cl,e,q⟩:=z
  unfold iR at e
  split at e
  · rename_i ex
    have e0:=ex.choose_spec.choose_spec
    rw [Option.some.inj e] at e0
    refine ⟨fun n σ' H'=>∃E1,bR t b n E1=some (E',fl)∧Frm X.K B σ' H' E1 xs Xs,⟨_,E,e0,fr⟩,?_⟩
    rintro n σ' H' ⟨E1,e1,fr1⟩
    cases n with
    | zero=>cases e1
    | succ n=>
      obtain ⟨⟨b1,E2⟩,e2,e1⟩:=Option.bind_eq_some_iff.mp e1
      refine ⟨B,E1,xs,Xs,b1,E2,fr1,fun _=>Calm.nil cl,e2,fun H2 fr2=>?_⟩
      cases b1 with
      | false=>
        cases e1
        exact (if_neg (by decide)).mpr (q _ _ fr2)
      | true=>
        refine (if_pos rfl).mpr ?_
        obtain ⟨⟨E3,f3⟩,e3,e1⟩:=Option.bind_eq_some_iff.mp e1
        refine ⟨fun σ4 H4=>∃E1,bR t b n E1=some (E',fl)∧Frm X.K B σ4 H4 E1 xs Xs,fun σ4 H4 z=>⟨n,Nat.lt_succ_self _,z⟩,B,E2,xs,Xs,E3,f3,fr2,cl,e3,?_⟩
        cases f3 with
        | nx=>exact fun σ4 H4 fr4=>⟨E3,e1,fr4⟩
        | ct=>exact fun σ4 H4 fr4=>⟨E3,e1,fr4⟩
        | bk=>cases e1;exact fun σ4 H4 fr4=>q _ _ fr4
        | rt r=>cases e1;exact fun σ4 v H4 fr4=>q _ _ _ fr4
  · cases e
end PL
namespace PL
open PySem L2 Nh
inductive Cm where
  | lt | le | gt | ge
def Cm.op:Cm→CmpOp
  | .lt=> .Lt
  | .le=> .LtE
  | .gt=> .Gt
  | .ge=> .GtE
def Cm.i:Cm→Int→Int→Bool
  | .lt,i,j=>decide (i < j)
  | .le,i,j=>decide (i≤j)
  | .gt,i,j=>decide (j < i)
  | .ge,i,j=>decide (j≤i)
def Cm.s:Cm→List Nat→List Nat→Bool
  | .lt,i,j=>decide (i < j)
  | .le,i,j=> !decide (j < i)
  | .gt,i,j=>decide (j < i)
  | .ge,i,j=> !decide (i < j)
def dL (c:Cm):PyData→PyData→Option PyData
  | .int i, .int j=>some (.bool (c.i i j))
  | .str x, .str y=>some (.bool (c.s x.cps.toList y.cps.toList))
  | _,_=>none
def Az (c:Cm):R2:=fun x y H Q=>(∃i j,x= .int i∧y= .int j∧Q (.bl (c.i i j)) H)∨(∃i j,x= .str i∧y= .str j∧Q (.bl (c.s i.cps.toList j.cps.toList)) H)
section
variable {X:Cx} {a b c:Expr} {m1 m2 m3:Bool} {f g h:bD} {pos:Pos} {K:PySem.W.Frag}
theorem tK (c:Cm):OpR X (compareOp c.op) (Az c):=by
  cases c with
  | lt=>exact OpR.or yM qI
  | le=>exact OpR.or yN (fun pins s σ H x y v u Q I rx ry h=>by
      obtain ⟨i,j,rfl,rfl,q⟩:=h
      obtain ⟨t,rfl⟩:=rx
      obtain ⟨t',rfl⟩:=ry
      exact PySem.P.le_str (aJ I q rfl))
  | gt=>exact OpR.or yO (fun pins s σ H x y v u Q I rx ry h=>by
      obtain ⟨i,j,rfl,rfl,q⟩:=h
      obtain ⟨t,rfl⟩:=rx
      obtain ⟨t',rfl⟩:=ry
      exact PySem.P.gt_str (aJ I q rfl))
  | ge=>exact OpR.or yP (fun pins s σ H x y v u Q I rx ry h=>by
      obtain ⟨i,j,rfl,rfl,q⟩:=h
      obtain ⟨t,rfl⟩:=rx
      obtain ⟨t',rfl⟩:=ry
      exact PySem.P.ge_str (aJ I q rfl))
theorem tL (c:Cm):sQ K (Az c) (dL c):=fun d1 d2 d v1 v2 H Q e r1 r2=>by
  unfold dL at e
  split at e
  · cases e;cases r1;cases r2
    exact ⟨_,rfl,fun q=> .inl ⟨_,_,rfl,rfl,q⟩⟩
  · cases e;cases r1;cases r2
    exact ⟨_,rfl,fun q=> .inr ⟨_,_,rfl,rfl,q⟩⟩
  · cases e
theorem q_ (c:Cm) (b:Expr):behindInMarks c.op b=false:=by cases c <;> exact jI _
theorem k4 (c:Cm) (ha:EX X a m1 f) (hb:EX X b m2 g):TX X (.Compare a [c.op] [b] pos) (m1||m2) (cF (ae (dE (dL c)) m2 f g)):=oA (tK c) (lP (tL c)) ha hb (q_ c b)
theorem ze (c1 c2:Cm) (ha:EX X a m1 f) (hb:EX X b m2 g) (hc:EX X c m3 h) (hm:lastMarks [c1.op,c2.op] [b,c]=false:=by with_unfolding_all rfl):TX X (.Compare a [c1.op,c2.op] [b,c] pos) (m1||(m2||m3)) (cF (gk (dL c1) (dL c2) m2 m3 f g h)):=sS (tK c1) (tK c2) (tL c1) (tL c2) ha hb hc hm
def vH:P2:=dE (gH (fun _ j=>decide (0≤j)) fun i j=> .int (i / 2 ^ j.toNat))
theorem xM (ha:EX X a m1 f) (hb:EX X b m2 g):EX X (.BinOp a .RShift b pos) (m1||m2) (ae vH m2 f g):=jQ (r:=xz (fun _ j=>decide (0≤j)) fun i j=> .int (i / 2 ^ j.toNat)) (OpR.imp xj fun x y H Q ⟨i,j,a,b,c,q⟩=>⟨i,j,a,b,of_decide_eq_true c,q⟩) (jR fun _ _=>rfl) ha hb
def isInt:PyData→Option Int
  | .int x=>some x
  | _=>none
end
def re:List PyData→Option PyData
  | [.int i]=>some (.int i)
  | [.bool b]=>some (.int (if b then 1 else 0))
  | _=>none
section
variable {X:Cx} {e o:Expr} {m1 m2:Bool} {g:kT} {f h:bD} {p pos apos cpos:Pos} {K:PySem.W.Frag}
theorem vI (hg:Gl X "int") (hm:X.mg "int"=none) (ha:AX X [e] m1 g) (he:starEach [e] X.env=[(false,eval e X.env)]:=by rfl):EX X (.Call (.Name "int" p) [e] [] pos) m1 (bH re g):=
  bF (kR qJ hg hm PyProof.Rows.boot_int ha (by decide) (by decide) he rfl) fun _ _ _ z=>sZ (fun ds d vs H Q e r=>by
    unfold re at e
    split at e
    · cases e
      obtain ⟨v,rfl,r'⟩:=r.one
      cases r'
      exact ⟨_,rfl,fun q=> .inl ⟨_,rfl,q⟩⟩
    · cases e
      obtain ⟨v,rfl,r'⟩:=r.one
      cases r'
      exact ⟨_,rfl,fun q=> .inr ⟨_,rfl,q⟩⟩
    · cases e) z
end
end PL
namespace PL
open PySem L2 Nh
theorem tM {X:Cx}:SlR X (fun x lo hi H Q=>∃z,x= .str z∧z.length≤sizeLine∧Q (.str (Txt.slice z lo hi)) H):=by
  intro pins s σ H x v vl vu lo hi sl Q I rx hs pl pu h
  obtain ⟨z,rfl,hz,q⟩:=h
  obtain ⟨t,rfl⟩:=rx
  cases pl with
  | none=>
    cases pu with
    | none=>exact ⟨"str",_,PySem.F.slot_str_getitem.lookup,typeIs_str _ _ _,wpAny_getItem_str_slice (l:=none) (u:=none) (st:=none) hs rfl (post_val_or_str ⟨Nat.le_trans (Txt.slice_le z _ _) hz,fun t' k=>⟨.str _,H,I.tok _,⟨_,rfl⟩,q⟩⟩)⟩
    | int j uj=>exact ⟨"str",_,PySem.F.slot_str_getitem.lookup,typeIs_str _ _ _,wpAny_getItem_str_slice (l:=none) (u:=some (j,uj)) (st:=none) hs rfl (post_val_or_str ⟨Nat.le_trans (Txt.slice_le z _ _) hz,fun t' k=>⟨.str _,H,I.tok _,⟨_,rfl⟩,q⟩⟩)⟩
  | int i ui=>
    cases pu with
    | none=>exact ⟨"str",_,PySem.F.slot_str_getitem.lookup,typeIs_str _ _ _,wpAny_getItem_str_slice (l:=some (i,ui)) (u:=none) (st:=none) hs rfl (post_val_or_str ⟨Nat.le_trans (Txt.slice_le z _ _) hz,fun t' k=>⟨.str _,H,I.tok _,⟨_,rfl⟩,q⟩⟩)⟩
    | int j uj=>exact ⟨"str",_,PySem.F.slot_str_getitem.lookup,typeIs_str _ _ _,wpAny_getItem_str_slice (l:=some (i,ui)) (u:=some (j,uj)) (st:=none) hs rfl (post_val_or_str ⟨Nat.le_trans (Txt.slice_le z _ _) hz,fun t' k=>⟨.str _,H,I.tok _,⟨_,rfl⟩,q⟩⟩)⟩
def gR (m2:Bool) (f:bD) (lo hi:xG):bD:=fun E=>(f E).bind fun a=>if m2&&a.1.isBr then none else (lo a.2).bind fun b=>(hi b.2).bind fun c=>match look c.2 a.1 with
  | some (.list ds)=>if !cV c.2 a.1||aW (qR ds b.1 c.1) then some (.ow (qR ds b.1 c.1),c.2) else none
  | some (.str z)=>if z.length≤1000000 then some (.sh (.str (Txt.slice z b.1 c.1)),c.2) else none
  | _=>none
theorem fW {X:Cx} {e:Expr} {lo hi:Option Expr} {m1 m2 m3:Bool} {f:bD} {g h:xG} {pos p2:Pos} (he:EX X e m1 f) (hl:OX X lo m2 g) (hh:OX X hi m3 h):EX X (.Subscript e (.Slice lo hi none p2) pos) (m1||(m2||m3)) (gR (m2||m3) f g h):=by
  refine bF (mR (SlR.or vi tM) he hl hh) fun σ H Q z=>?_
  obtain ⟨B,E,xs,Xs,res,E',fr,cl,e,q⟩:=z
  obtain ⟨⟨s,E1⟩,e1,e⟩:=Option.bind_eq_some_iff.mp e
  by_cases hb:((m2||m3)&&s.isBr)=true
  · rw [if_pos hb] at e;cases e
  rw [if_neg hb] at e
  have n1:(m2||m3)=true→s.isBr=false:=fun z=>by
    cases hs:s.isBr with
    | false=>rfl
    | true=>exact absurd (by rw [z,hs];rfl) hb
  obtain ⟨⟨l,E2⟩,e2,e⟩:=Option.bind_eq_some_iff.mp e
  obtain ⟨⟨u,E3⟩,e3,e⟩:=Option.bind_eq_some_iff.mp e
  refine ⟨B,E,xs,Xs,s,E1,fr,fun z=>cl (by simp [z]),e1,fun v1 H1 fr1=>?_⟩
  refine ⟨B,E1,v1::xs,s::Xs,l,E2,fr1,fun z=>Calm.cons (cl (by simp [z])) (n1 (by simp [z])),e2,fun H2 fr2=>?_⟩
  refine ⟨B,E2,v1::xs,s::Xs,u,E3,fr2,fun z=>Calm.cons (cl (by simp [z])) (n1 (by simp [z])),e3,fun H3 ⟨F,A,fr3⟩=>?_⟩
  simp only at e
  split at e
  · rename_i ds ld
    split at e
    · rename_i hc
      cases e
      obtain ⟨v,ev,r,f0⟩:=fr3.look (k:=0) rfl ld
      cases ev
      obtain ⟨A',fr4⟩:=fr3.pop
      cases hh:cV E' s with
      | false=>
        obtain ⟨a,vs,rfl,h1,h2⟩:=f0 hh
        exact .inl ⟨a,vs,rfl,h1,fun p hp=>q _ _ ⟨F,_,fr4.newl (h2.cut l u) hp⟩⟩
      | true=>
        rw [hh] at hc
        cases r with
        | lst h1 h2=>exact .inl ⟨_,_,rfl,h1,fun p hp=>q _ _ ⟨F,_,fr4.newl (fr3.coldA (h2.cut l u) (by simpa using hc)) hp⟩⟩
    · cases e
  · rename_i z ld
    split at e
    · rename_i hc
      cases e
      have r:=(fr3.look0 ld).1
      cases r
      obtain ⟨A',fr4⟩:=fr3.pop
      exact .inr ⟨_,rfl,cW hc,q _ _ ⟨F,A',fr4.push ⟨rfl,_,rfl, .str _⟩⟩⟩
    · cases e
  · cases e
def e_ (i:Nat) (f:bD):bD:=fun E=>match E[i]? with
  | some (.ow _)=>(f E).bind fun a=>match a.1,a.2[i]? with
    | .ow es,some (.ow ds)=>if ds.length+es.length≤1000000 then some (.sh .none,a.2.set i (.ow (ds++es))) else none
    | _,_=>none
  | _=>none
section
variable {X:Cx} {e:Expr} {m1:Bool} {f:bD} {x:Str} {p apos cpos:Pos}
theorem iS (i:Nat) (he:EX X e m1 f) (hN:X.N[i]? =some x:=by rfl) (hv:uY X.env.scope x:=by first | exact Or.inl rfl | exact Or.inr (Or.inl rfl) | exact Or.inr (Or.inr rfl)) (hd:(x == ("__debug__":Str))=false:=by decide) (hcd:(x == ("__classdict__":Str))=false:=by decide)
    (hs:starEach [e] X.env=[(false,eval e X.env)]:=by rfl) (hbase:attributeBase (.Name x p) "extend" X.env (eval (.Name x p) X.env)=eval (.Name x p) X.env:=by rfl)
    (hfew:((backTo cpos (starEach [e] X.env)).all (fun x=> !x.1)&&(backToKw cpos (keywordEach [] X.env)).all (fun x=>x.1.isSome)
      &&decide (([e]:List Expr).length+([]:List Keyword).length+(if ([]:List Keyword).isEmpty then 0 else 1) < 30))=true:=by rfl) (hline:(apos.endLine == cpos.line)=true:=by rfl):
    EX X (.Call (.Attribute (.Name x p) "extend" apos) [e] [] cpos) true (e_ i f):=by
  refine bF (sC PySem.F.plainAttrs_list PySem.F.slot_list_extend PySem.F.type_list_extend qN (gg hN hv hd hcd) (aF he bE hs) hbase hfew hline hs rfl) fun σ H Q z=>?_
  obtain ⟨B,E,xs,Xs,res,E',⟨F,A,fr⟩,cl,e,q⟩:=z
  unfold e_ at e
  split at e
  · rename_i ds0 ei
    obtain ⟨⟨s,E1⟩,e1,e⟩:=Option.bind_eq_some_iff.mp e
    simp only at e
    split at e
    · rename_i s1 es ds ei2
      split at e
      · rename_i hc
        cases e
        obtain ⟨o,A1,eo,l,vs,rfl,rfl,hl0,_⟩:=fr.var ei
        refine ⟨_,eo, .inl ⟨rfl,_,SqL.of hl0⟩,B,E,xs,Xs,_,E1,⟨F,A,fr⟩,fun _=>cl rfl,e1,fun v H1 ⟨F1,A1,fr1⟩=>?_⟩
        obtain ⟨v',A3,ev,l2,us,el,rfl,hl2,ru⟩:=fr1.ext (k:=0) rfl
        cases ev;cases el
        obtain ⟨A4,fr3⟩:=fr1.pop
        obtain ⟨l',vs',eo',hl',r',put⟩:=fr3.mut ei2 (cl rfl)
        rw [eo] at eo'
        cases eo'
        have n1:=r'.len
        have n2:=ru.len
        have fr4:=put (vs'++us) (ds++es) (r'.append ru)
        exact ⟨l,l2,vs',us,rfl,rfl,hl',hl2,cW (by omega),q _ _ ⟨_,_,fr4.push ⟨rfl,_,rfl, .non⟩⟩⟩
      · cases e
    · cases e
  · cases e
end
def nk (scope:Scope) (env:Env):List (Str×Addr):=((scope.names.filter fun p=>p.2 == .free).map fun p=>(p.1,(env.cells.lookup p.1).getD 0)).reverse
theorem iC {X:Cx} {scope:Scope} {N:List Str} {js:List (Option Nat)} (clos:closureFor scope X.env=pure (nk scope X.env):=by rfl) (nocell:∀y∈scope.names,y.2≠ .cell:=by decide+kernel) (kind:scope.kind= .function:=by rfl)
    (names:∀y∈scope.names,y.2= .local→scope.names.lookup y.1=some .local:=by decide+kernel) (same:(scope.names.filter fun p=>p.2 == .free).all (fun p=>(X.env.cells.lookup p.1).isSome)=true:=by rfl)
    (has:(relabel scope X.env).names.all (fun y=> !(y.2 == .cell||y.2 == .free)||((nk scope X.env).lookup y.1).isSome)=true:=by rfl) (len:js.length=N.length:=by rfl)
    (fr:(js.zip N).all (fun p=>match p.1 with | none=>true | some j=>X.N[j]? == some p.2&&((relabel scope X.env).names.lookup p.2 == some .cell||(relabel scope X.env).names.lookup p.2 == some .free)&&(X.env.kindOf p.2 == some .cell||X.env.kindOf p.2 == some .free))=true:=by rfl):
    CompOk X scope (relabel scope X.env) (nk scope X.env) N js where
  clos:=clos
  rel:=rfl
  nocell:=nocell
  kind:=kind
  names:=names
  same:=fun x c e=>by
    have hm:=PySem.mem_of_lookup e
    unfold nk at hm
    obtain ⟨p,hp,ep⟩:=List.mem_map.mp (List.mem_reverse.mp hm)
    have:=List.all_eq_true.mp same _ hp
    obtain ⟨c',ec⟩:=Option.isSome_iff_exists.mp this
    injection ep with e1 e2
    subst e1
    rw [ec] at e2 ⊢
    exact congrArg some e2
  has:=fun x h=>by
    have key:∀k,(relabel scope X.env).names.lookup x=some k→(k == NameKind.cell||k == NameKind.free)=true→∃c,(nk scope X.env).lookup x=some c:=fun k h hk=>by
      have:=List.all_eq_true.mp has _ (PySem.mem_of_lookup h)
      simp only [hk,Bool.not_true,Bool.false_or] at this
      exact Option.isSome_iff_exists.mp this
    rcases h with h | h
    · exact key _ h rfl
    · exact key _ h rfl
  len:=len
  from_:=fun i j h=>by
    have hi:i < js.length:=(List.getElem?_eq_some_iff.mp h).1
    obtain ⟨x,ex⟩:∃x,N[i]? =some x:=⟨N[i]'(by omega),List.getElem?_eq_getElem (by omega)⟩
    have hz:(js.zip N)[i]? =some (some j,x):=by rw [List.getElem?_zip_eq_some];exact ⟨h,ex⟩
    have:=List.all_eq_true.mp fr _ (List.mem_of_getElem? hz)
    simp only [Bool.and_eq_true,Bool.or_eq_true,beq_iff_eq] at this
    exact ⟨x,ex,this.1.1,this.1.2,this.2⟩
structure Bn (mg:Str→Option Value):Prop where
  len:mg "len"=none
  range:mg "range"=none
  abs:mg "abs"=none
  min:mg "min"=none
  max:mg "max"=none
  reversed:mg "reversed"=none
  enumerate:mg "enumerate"=none
  isinstance:mg "isinstance"=none
  list:mg "list"=none
  tuple:mg "tuple"=none
  str:mg "str"=none
  int:mg "int"=none
  bool:mg "bool"=none
  sorted:mg "sorted"=none
  zip:mg "zip"=none
  sum:mg "sum"=none
  any:mg "any"=none
  all:mg "all"=none
  set:mg "set"=none
  dict:mg "dict"=none
theorem zf {K:PySem.W.Frag} {h:Heap} {mg:Str→Option Value} (X:K.In h) (G:h.Ns mainGlobals mg)
    (z1:PySem.W.nsIn K mainGlobals "len"=some none) (z2:PySem.W.nsIn K mainGlobals "range"=some none) (z3:PySem.W.nsIn K mainGlobals "abs"=some none) (z4:PySem.W.nsIn K mainGlobals "min"=some none) (z5:PySem.W.nsIn K mainGlobals "max"=some none) (z6:PySem.W.nsIn K mainGlobals "reversed"=some none) (z7:PySem.W.nsIn K mainGlobals "enumerate"=some none) (z8:PySem.W.nsIn K mainGlobals "isinstance"=some none) (z9:PySem.W.nsIn K mainGlobals "list"=some none) (z10:PySem.W.nsIn K mainGlobals "tuple"=some none) (z11:PySem.W.nsIn K mainGlobals "str"=some none) (z12:PySem.W.nsIn K mainGlobals "int"=some none) (z13:PySem.W.nsIn K mainGlobals "bool"=some none) (z14:PySem.W.nsIn K mainGlobals "sorted"=some none) (z15:PySem.W.nsIn K mainGlobals "zip"=some none) (z16:PySem.W.nsIn K mainGlobals "sum"=some none) (z17:PySem.W.nsIn K mainGlobals "any"=some none) (z18:PySem.W.nsIn K mainGlobals "all"=some none) (z19:PySem.W.nsIn K mainGlobals "set"=some none) (z20:PySem.W.nsIn K mainGlobals "dict"=some none):Bn mg:=
  ⟨PySem.W.mg_none_of X G z1,PySem.W.mg_none_of X G z2,PySem.W.mg_none_of X G z3,PySem.W.mg_none_of X G z4,PySem.W.mg_none_of X G z5,PySem.W.mg_none_of X G z6,PySem.W.mg_none_of X G z7,PySem.W.mg_none_of X G z8,PySem.W.mg_none_of X G z9,PySem.W.mg_none_of X G z10,PySem.W.mg_none_of X G z11,PySem.W.mg_none_of X G z12,PySem.W.mg_none_of X G z13,PySem.W.mg_none_of X G z14,PySem.W.mg_none_of X G z15,PySem.W.mg_none_of X G z16,PySem.W.mg_none_of X G z17,PySem.W.mg_none_of X G z18,PySem.W.mg_none_of X G z19,PySem.W.mg_none_of X G z20⟩
end PL
namespace PL
open PySem L2 Nh
abbrev AI:=List Sl→Option (List Sl×Bool)
end PL
namespace PL
open PySem L2 Nh
section
variable {K:PySem.W.Frag} {F H:Hp}
theorem PtsOk.append:∀{us:List V} {ts:List Pt} {A:List Addr} {us':List V} {ts':List Pt} {A':List Addr},PtsOk K F H us ts A→PtsOk K F H us' ts' A'→PtsOk K F H (us++us') (ts++ts') (A++A')
  | [],[],A,_,_,_,h,h'=>by rw [show A=[] from h];exact h'
  | v::vs, .fl d::ps,A,_,_,_,h,h'=>⟨h.1,PtsOk.append h.2 h'⟩
  | v::vs, .ol ds::ps,A,_,_,_,h,h'=>by
    obtain ⟨l,us,A1,rfl,rfl,hl,hr,q⟩:=h
    exact ⟨l,us,_,rfl,rfl,hl,hr,q.append h'⟩
  | [],_::_,_,_,_,_,h,_=>False.elim h
  | _::_,[],_,_,_,_,h,_=>False.elim h
theorem PtsOk.rev:∀{us:List V} {ts:List Pt} {A:List Addr},PtsOk K F H us ts A→PtsOk K F H us.reverse ts.reverse A.reverse
  | [],[],A,h=>by rw [show A=[] from h];exact rfl
  | v::vs, .fl d::ps,A,h=>by
    rw [List.reverse_cons,List.reverse_cons,←List.append_nil A.reverse]
    exact (PtsOk.rev h.2).append (us':=[v]) (ts':=[.fl d]) (A':=[]) ⟨h.1,rfl⟩
  | v::vs, .ol ds::ps,A,h=>by
    obtain ⟨l,us,A1,rfl,rfl,hl,hr,q⟩:=h
    rw [List.reverse_cons,List.reverse_cons,List.reverse_cons]
    exact q.rev.append (us':=[.ref l]) (ts':=[.ol ds]) (A':=[l]) ⟨l,us,[],rfl,rfl,hl,hr,rfl⟩
  | [],_::_,_,h=>False.elim h
  | _::_,[],_,h=>False.elim h
theorem PtsOk.len:∀{us:List V} {ts:List Pt} {A:List Addr},PtsOk K F H us ts A→us.length=ts.length
  | [],[],A,_=>rfl
  | v::vs, .fl d::ps,A,h=>congrArg (· +1) h.2.len
  | v::vs, .ol ds::ps,A,h=>by
    obtain ⟨l,us,A1,rfl,rfl,hl,hr,q⟩:=h
    exact congrArg (· +1) q.len
  | [],_::_,_,h=>False.elim h
  | _::_,[],_,h=>False.elim h
end
abbrev AJ:=List Sl→Option (List Pt×List Sl)
end PL
namespace PL
open PySem PySem.Spec L2 Nh PyProof.Rows
def AH (i:Int):Prop:= -1000000≤i∧i≤1000000
instance (i:Int):Decidable (AH i):=inferInstanceAs (Decidable (_∧_))
theorem fits {i:Int} (h: -10000000≤i∧i≤10000000):Builtin.Range.rangeFitsLong i=true:=by
  unfold Builtin.Range.rangeFitsLong
  simp only [Bool.and_eq_true,decide_eq_true_eq]
  omega
end PL
namespace PL
open PySem L2 Nh
theorem tN {P:Program} {w:World} {K:PySem.W.Frag} {mg:Str→Option Value} {base:Heap} {x:Str} {st:Stmt} {N ps:List Str} {k:Nat} (D:Def K mg x st ps) (S:FnScope N ps (ao st)):Own P w K mg base (k+1) x ps (fQ K fun _=>none):=by
  refine D.own S (fun vs H Q E h=>?_) (fun f cdv A outer s H vs Q E hr h=>?_)
  · obtain ⟨ds,r,e,_⟩:=h
    cases e
  · obtain ⟨ds,r,e,_⟩:=h
    cases e
end PL
namespace PL
open PySem L2 Nh
section
variable {K:PySem.W.Frag} {B F:Hp} {A:List Addr} {σ:iN} {H H':Hp} {E:List Sl}
theorem DlOk.len:∀{us:List (aP×V)} {kvs:List (aP×List PyData)} {A:List Addr},DlOk K F H us kvs A→us.length=kvs.length
  | [],[],A,h=>rfl
  | p::us,q::kvs,A,h=>by
    obtain ⟨l,vs,A',rfl,rfl,hl,hr,k⟩:=h
    simp [k.len]
  | [],_::_,_,h=>False.elim h
  | _::_,[],_,h=>False.elim h
end
end PL
namespace PL
open PySem PySem.SeqAt
open AutoSeq1 (wpAny_loadPart')
open MeetsSeq MeetsSeq2 MeetsSeq3 SeqRoads2
def RcLtAt (A:Around) (s:Shared) (y x:Value) (b:Bool):Prop:=
  ∀(prog:Program) (w:World) (E:Value→Shared→Prop) (Q:Value→Shared→Prop),Q (.bool b) s→wpAny (model prog w) A (richCompare .Lt y x) Q E s
def iT (e r:Nat→Bool) (fin:Bool):List Nat→Bool
  | []=>fin
  | j::js=>if e j then iT e r fin js else r j
theorem rf (l b:Addr) (items items2:Array Value) (n n2:Nat) (dd dd2:Option Addr) (sl sl2:Array (Option Value)) (e r:Nat→Bool) (k:Nat):
    ∀i:Nat,min items.size items2.size - i=k→Meets (Builtin.«list.__eq__.loop» ⟨[.ref l, .ref b,rawInt i,rawInt 0],[]⟩)
      (fun A R s=>s.heap.get? l=some {cls:= .type "list",dict:=dd,data:= .seq items n,slots:=sl}∧s.heap.get? b=some {cls:= .type "list",dict:=dd2,data:= .seq items2 n2,slots:=sl2}∧
        (∀j (h1:j < items.size) (h2:j < items2.size),EqAt A.in1 s items[j] items2[j] (e j))∧(∀j (h1:j < items.size) (h2:j < items2.size),e j=false→RcLtAt A.in1 s items[j] items2[j] (r j))∧
        R (.ok (.ret (.bool (iT e r (decide (items.size < items2.size)) ((List.range (min items.size items2.size)).drop i))))) s):=by
  induction k with
  | zero=>
    intro i hk prog w A R s h
    obtain ⟨hp,g,d,tk,os⟩:=s;obtain ⟨hl,hb,he,hr,h⟩:=h
    wp_walk using wpAny_loadPart' hl,wpAny_loadPart' hb
    have hd:(List.range (min items.size items2.size)).drop i=[]:=by simp;omega
    rw [hd] at h
    have hi:items[((i:Nat):Int).toNat]? =none∨items2[((i:Nat):Int).toNat]? =none:=by
      simp
      omega
    have fin:R (.ok (.ret (.bool (decide (items.size < items2.size))))) ⟨hp,g,d,tk,os⟩:=h
    rcases h1:items[((i:Nat):Int).toNat]? with _ | x1
    · wp_walk using wpAny_loadPart' hl,wpAny_loadPart' hb
      exact fin
    · rcases h2:items2[((i:Nat):Int).toNat]? with _ | x2
      · wp_walk using wpAny_loadPart' hl,wpAny_loadPart' hb
        exact fin
      · rw [h1,h2] at hi
        rcases hi with hi | hi <;> cases hi
  | succ k ih=>
    intro i hk prog w A R s h
    obtain ⟨hp,g,d,tk,os⟩:=s;obtain ⟨hl,hb,he,hr,h⟩:=h
    wp_walk using wpAny_loadPart' hl,wpAny_loadPart' hb
    have hm:i < min items.size items2.size:=by omega
    have hlt:i < items.size:=by omega
    have hlt2:i < items2.size:=by omega
    have hi1:items[((i:Nat):Int).toNat]? =some items[i]:=by simp [hlt]
    have hi2:items2[((i:Nat):Int).toNat]? =some items2[i]:=by simp [hlt2]
    have hd:(List.range (min items.size items2.size)).drop i=i::(List.range (min items.size items2.size)).drop (i+1):=by simp [List.drop_eq_getElem_cons,hm]
    have hc:((i:Int)+1)=((i+1:Nat):Int):=by push_cast;rfl
    rw [hd,iT] at h
    rw [hi1,hi2]
    refine wpAny_bind (he i hlt hlt2 prog w _ _ ?_)
    cases hb':e i with
    | true=>
      rw [hb',if_pos rfl] at h
      wp_walk
      rw [hc]
      exact ⟨plainId_quiet plain_eq_loop _,codeAny_builtin entry_eq_loop (by
        rw [Around.under_plainId plain_eq_loop _]
        exact ih (i+1) (by omega) prog w A R _ ⟨hl,hb,he,hr,h⟩)⟩
    | false=>
      rw [hb',if_neg (by decide)] at h
      wp_walk using wpAny_loadPart' hl,wpAny_loadPart' hb
      rw [hi1,hi2]
      refine wpAny_bind (hr i hlt hlt2 hb' prog w _ _ ?_)
      wp_walk
      exact h
theorem rh (l b:Addr) (items items2:Array Value) (n n2:Nat) (dd dd2:Option Addr) (sl sl2:Array (Option Value)) (e r:Nat→Bool):
    Meets (Builtin.«list.__lt__» ⟨[.ref l, .ref b],[]⟩)
      (fun A R s=>s.heap.get? l=some {cls:= .type "list",dict:=dd,data:= .seq items n,slots:=sl}∧s.heap.get? b=some {cls:= .type "list",dict:=dd2,data:= .seq items2 n2,slots:=sl2}∧
        (∀j (h1:j < items.size) (h2:j < items2.size),EqAt A.in1 s items[j] items2[j] (e j))∧(∀j (h1:j < items.size) (h2:j < items2.size),e j=false→RcLtAt A.in1 s items[j] items2[j] (r j))∧
        R (.ok (.ret (.bool (iT e r (decide (items.size < items2.size)) (List.range (min items.size items2.size)))))) s):=by
  intro prog w A R s h
  obtain ⟨hp,g,d,tk,os⟩:=s;obtain ⟨hl,hb,he,hr,h⟩:=h
  have f3:=AutoSeq1.sub_list_list
  wp_walk using wpAny_loadPart' hl,wpAny_loadPart' hb
  exact ⟨plainId_quiet plain_eq_loop _,codeAny_builtin entry_eq_loop (by
    rw [Around.under_plainId plain_eq_loop _]
    exact rf l b items items2 n n2 dd dd2 sl sl2 e r _ 0 rfl prog w A R _ ⟨hl,hb,he,hr,by simpa using h⟩)⟩
theorem oH (l b:Addr) (items items2:Array Value) (n n2:Nat) (dd dd2:Option Addr) (sl sl2:Array (Option Value)) (e r:Nat→Bool):
    Meets (Builtin.«tuple.__lt__» ⟨[.ref l, .ref b],[]⟩)
      (fun A R s=>s.heap.get? l=some {cls:= .type "tuple",dict:=dd,data:= .seq items n,slots:=sl}∧s.heap.get? b=some {cls:= .type "tuple",dict:=dd2,data:= .seq items2 n2,slots:=sl2}∧
        (∀j (h1:j < items.size) (h2:j < items2.size),EqAt A.in1 s items[j] items2[j] (e j))∧(∀j (h1:j < items.size) (h2:j < items2.size),e j=false→RcLtAt A.in1 s items[j] items2[j] (r j))∧
        R (.ok (.ret (.bool (iT e r (decide (items.size < items2.size)) (List.range (min items.size items2.size)))))) s):=
  .of_wp fun prog w A R s h=>by
    obtain ⟨hp,g,d,tk,os⟩:=s;obtain ⟨hl,hb,he,hr,h⟩:=h
    have f2:=AutoSeq1.sub_tuple_tuple
    have hZ:(items.toList.zip items2.toList).length=min items.size items2.size:=by simp
    wp_walk using wpAny_loadPart' hl,wpAny_loadPart' hb,wpAny_forIn_list _ (fun bd b s'=>b.1=none∧s'=⟨hp,g,d,tk,os⟩∧∃i,bd=(items.toList.zip items2.toList).drop i∧
      R (.ok (.ret (.bool (iT e r (decide (items.size < items2.size)) ((List.range (min items.size items2.size)).drop i))))) ⟨hp,g,d,tk,os⟩) _
    case turn=>
      rintro ⟨y,x⟩ bd b s' ⟨hb',rfl,i,hz,hR⟩
      have hlt:i < (items.toList.zip items2.toList).length:=by
        rcases Nat.lt_or_ge i (items.toList.zip items2.toList).length with h' | h'
        · exact h'
        · rw [List.drop_of_length_le h'] at hz;cases hz
      have hm:i < min items.size items2.size:=hZ▸hlt
      have h1:i < items.size:=Nat.lt_of_lt_of_le hm (Nat.min_le_left _ _)
      have h2:i < items2.size:=Nat.lt_of_lt_of_le hm (Nat.min_le_right _ _)
      rw [List.drop_eq_getElem_cons hlt] at hz
      injection hz with hyx hrest
      have hy:y=items[i]:=by have:=congrArg Prod.fst hyx;simpa using this
      have hx:x=items2[i]:=by have:=congrArg Prod.snd hyx;simpa using this
      subst hy hx
      have hd:(List.range (min items.size items2.size)).drop i=i::(List.range (min items.size items2.size)).drop (i+1):=by simp [List.drop_eq_getElem_cons,hm]
      rw [hd,iT] at hR
      refine wpAny_bind (he i h1 h2 prog w _ _ ?_)
      cases hy:e i with
      | true=>
        rw [hy,if_pos rfl] at hR
        wp_walk
        exact ⟨rfl,rfl,i+1,hrest,hR⟩
      | false=>
        rw [hy,if_neg (by decide)] at hR
        rw [show (!false)=true from rfl,if_pos rfl]
        refine wpAny_bind (wpAny_rule (wpAny_bind (hr i h1 h2 hy prog w _ _ ?_)))
        wp_walk
        exact ⟨_,rfl,hR⟩
    case fin=>
      rintro ⟨b1,b2⟩ s' ⟨hb',rfl,i,hz,hR⟩
      simp only at hb'
      subst hb'
      have hge:min items.size items2.size≤i:=by
        rcases Nat.lt_or_ge i (items.toList.zip items2.toList).length with h' | h'
        · rw [List.drop_eq_getElem_cons h'] at hz;cases hz
        · exact hZ▸h'
      rw [List.drop_of_length_le (by simpa using hge)] at hR
      wp_walk
      exact ⟨_,rfl,hR⟩
    case h=>
      exact ⟨rfl,rfl,0,rfl,by simpa using h⟩
section
variable {A:Around} {s:Shared}
theorem RcLtAt.lists {l b:Addr} {items items2:Array Value} {e r:Nat→Bool} (hl:s.heap.IsList l items) (hb:s.heap.IsList b items2) (hu:A.units < cLine)
    (he:∀j (h1:j < items.size) (h2:j < items2.size),EqAt A.in1 s items[j] items2[j] (e j)) (hr:∀j (h1:j < items.size) (h2:j < items2.size),e j=false→RcLtAt A.in1 s items[j] items2[j] (r j)):RcLtAt A s (.ref l) (.ref b) (iT e r (decide (items.size < items2.size)) (List.range (min items.size items2.size))):=fun prog w E Q h=>by
  obtain ⟨⟨cls,dd,data,sl⟩,ho,hc,n,hd⟩:=id hl
  obtain ⟨⟨cls2,dd2,data2,sl2⟩,ho2,hc2,n2,n5⟩:=id hb
  simp only at hc hd hc2 n5
  subst hc hd hc2 n5
  exact richCompare_meets_room (op:= .Lt) ⟨_,ho,rfl⟩ ⟨_,ho2,rfl⟩ F.slot_list_lt F.entry_list_lt (F.args_list_lt_2 _ _) (rh l b items items2 n n2 dd dd2 sl sl2 e r)
    ⟨ho,ho2,he,hr,show Value.bool _≠Value.notImplemented∧Q (.bool _) s from ⟨(fun x=>nomatch x),h⟩⟩ hu
theorem RcLtAt.tuples {l b:Addr} {items items2:Array Value} {e r:Nat→Bool} (hl:s.heap.IsTuple l items) (hb:s.heap.IsTuple b items2) (hu:A.units < cLine)
    (he:∀j (h1:j < items.size) (h2:j < items2.size),EqAt A.in1 s items[j] items2[j] (e j)) (hr:∀j (h1:j < items.size) (h2:j < items2.size),e j=false→RcLtAt A.in1 s items[j] items2[j] (r j)):RcLtAt A s (.ref l) (.ref b) (iT e r (decide (items.size < items2.size)) (List.range (min items.size items2.size))):=fun prog w E Q h=>by
  obtain ⟨⟨cls,dd,data,sl⟩,ho,hc,n,hd⟩:=id hl
  obtain ⟨⟨cls2,dd2,data2,sl2⟩,ho2,hc2,n2,n5⟩:=id hb
  simp only at hc hd hc2 n5
  subst hc hd hc2 n5
  exact richCompare_meets_room (op:= .Lt) ⟨_,ho,rfl⟩ ⟨_,ho2,rfl⟩ F.slot_tuple_lt F.entry_tuple_lt (F.args_tuple_lt_2 _ _) (oH l b items items2 n n2 dd dd2 sl sl2 e r)
    ⟨ho,ho2,he,hr,show Value.bool _≠Value.notImplemented∧Q (.bool _) s from ⟨(fun x=>nomatch x),h⟩⟩ hu
theorem RcLtAt.ints (i j:Int) (t u:Tok):RcLtAt A s (.int i t) (.int j u) (decide (i < j)):=fun prog w E Q h=>PyProof.Rows.lt_int h
end
end PL
namespace PL
open PySem L2 Nh
section
variable {X:Cx} {e:Expr} {es:List Expr} {m1:Bool} {g:kT} {p pos:Pos}
theorem gE:∀{ns:List Int} {us:List Value},Vals (ns.map V.int) us→us.length=ns.length∧∀(i:Nat) (v:Value),us[i]? =some v→∃t,v=Value.int (ns.getD i 0) t
  | [],_, .nil=>⟨rfl,fun i v h=>by simp at h⟩
  | n::ns,_, .cons h t=>by
    obtain ⟨tk,rfl⟩:=h
    obtain ⟨h1,h2⟩:=gE t
    refine ⟨by simp [h1],fun i v h=>?_⟩
    cases i with
    | zero=>simp at h;subst h;exact ⟨tk,rfl⟩
    | succ i=>simpa using h2 i v (by simpa using h)
end
end PL
namespace PL
open PySem L2 Nh
theorem ka:∀ns:List Int,aW (ns.map PyData.int)=true
  | []=>rfl
  | n::ns=>by simp [aW,bV,ka ns]
theorem SAll.memA {P:Option V→Sl→List Addr→Prop} {os:List (Option V)} {ss:List Sl} {A:List Addr} {k:Nat} {s:Sl} (h:SAll P os ss A) (e:ss[k]? =some s):∃o A1,os[k]? =some o∧P o s A1∧∀a∈A1,a∈A:=by
  obtain ⟨o,A0,A1,A2,eA,eo,hp,_⟩:=h.at e
  exact ⟨o,A1,eo,hp,fun a ha=>by rw [eA];exact List.mem_append_right _ (List.mem_append_left _ ha)⟩
theorem SAll.two {P:Option V→Sl→List Addr→Prop}:∀{os:List (Option V)} {ss:List Sl} {A:List Addr} {i j:Nat} {s t:Sl},SAll P os ss A→ss[i]? =some s→ss[j]? =some t→i≠j→A.Nodup→
    ∃o1 A1 o2 A2,os[i]? =some o1∧P o1 s A1∧os[j]? =some o2∧P o2 t A2∧(∀a∈A1,a∈A)∧(∀a∈A2,a∈A)∧∀a∈A1,a∉A2
  | _,_,_,_,_,_,_, .nil,e,_,_,_=>by simp at e
  | _,_,_,0,0,_,_, .cons h r,_,_,n,_=>absurd rfl n
  | _,_,_,0,j+1,s,t, .cons (o:=o) (A:=A) (B:=B) h r,e1,e2,_,nd=>by
    simp at e1
    subst e1
    obtain ⟨o2,A2,eo,hp,sub⟩:=r.memA (k:=j) (by simpa using e2)
    exact ⟨o,A,o2,A2,rfl,h,by simpa using eo,hp,fun a ha=>List.mem_append_left _ ha,fun a ha=>List.mem_append_right _ (sub a ha),fun a ha hb=>(List.nodup_append.mp nd).2.2 a ha a (sub a hb) rfl⟩
  | _,_,_,i+1,0,s,t, .cons (o:=o) (A:=A) (B:=B) h r,e1,e2,_,nd=>by
    simp at e2
    subst e2
    obtain ⟨o2,A2,eo,hp,sub⟩:=r.memA (k:=i) (by simpa using e1)
    exact ⟨o2,A2,o,A,by simpa using eo,hp,rfl,h,fun a ha=>List.mem_append_right _ (sub a ha),fun a ha=>List.mem_append_left _ ha,fun a ha hb=>(List.nodup_append.mp nd).2.2 a hb a (sub a ha) rfl⟩
  | _,_,_,i+1,j+1,s,t, .cons (o:=o) (A:=A) (B:=B) h r,e1,e2,n,nd=>by
    obtain ⟨o1,A1,o2,A2,q1,q2,q3,q4,q5,q6,q7⟩:=r.two (i:=i) (j:=j) (by simpa using e1) (by simpa using e2) (fun z=>n (by rw [z])) (List.nodup_append.mp nd).2.1
    exact ⟨o1,A1,o2,A2,by simpa using q1,q2,by simpa using q3,q4,fun a ha=>List.mem_append_right _ (q5 a ha),fun a ha=>List.mem_append_right _ (q6 a ha),q7⟩
end PL
namespace NhMaxD
open PySem PyProof.Rows
theorem tO (a d:Value):argsOk "max" ⟨[a],[("default",d)]⟩:=by unfold argsOk;kernel_rfl
section
variable {prog:Program} {w:World} {A:Around} {E:Value→Shared→Prop} {R:Result→Shared→Prop} {I:Addr} {fp wr:List Addr} {St:Nat→Heap→Prop}
abbrev zh (h:Heap) (S:Addr) (vs:Array Value):Prop:=∃c,h.get? S=some {cls:= .type "list",dict:=none,data:= .seq vs c,slots:=#[]}
theorem qC {ns:List Int} (W:Walks prog w A.in1 I fp wr ns.length (fun i v=>∃t,v= .int (ns.getD i 0) t) St) (S:Addr) (hSf:S∉fp) (d:Value):
    ∀(k j:Nat) (s:Shared) (m:Int) (t:Tok),ns.length - j=k→j≤ns.length→St j s.heap→zh s.heap S #[.int m t, .int m t]→
      (∀t' h' tk,(∀b o,b∉S::wr→s.heap.get? b=some o→h'.get? b=some o)→R (.ok (.ret (.int ((ns.drop j).foldl max m) t'))) {s with heap:=h',toks:=tk})→
      codeAny (model prog w) A (.builtin "max.loop" ⟨[.ref I, .none, .ref S],[("default",d)]⟩) R s:=by
  have hSw:S∉wr:=fun h=>hSf (W.sub _ h)
  have hnm:(toString "max"++toString ".loop":String)="max.loop":=by decide
  intro k
  induction k with
  | zero=>
    rintro j s m t hk hj st ⟨c,hS⟩ hR
    have hjn:j=ns.length:=by omega
    refine codeAny_builtin PySem.F.entry_max_loop ?_
    rw [Around.under_plainId PySem.F.plain_max_loop _]
    refine wpAny_bind (m:=seqItems? (.ref S)) (wpAny_seqItems hS rfl ?_)
    refine wpAny_bind (m:=tryCatch (pyNext (.ref I)) _) (wpAny_tryCatch (W.done s _ _ (by rw [←hjn];exact st) fun h' tk kp=>?_))
    refine wpAny_bind (m:=updateSeq S (fun _=>#[])) (wpAny_updateSeq (kp S _ hSw hS) rfl (wpAny_bind (wpAny_letGo (wpAny_pure ?_))))
    have e:(ns.drop j).foldl max m=m:=by rw [hjn,List.drop_length];rfl
    rw [e] at hR
    exact hR t _ tk fun b o hb q=>(Heap.get?_update_other _ _ (fun z:S=b=>hb (by rw [←z];exact List.mem_cons_self ..))).trans (kp b o (fun z=>hb (List.mem_cons_of_mem _ z)) q)
  | succ k ih=>
    rintro j s m t hk hj st ⟨c,hS⟩ hR
    have hlt:j < ns.length:=by omega
    refine codeAny_builtin PySem.F.entry_max_loop ?_
    rw [Around.under_plainId PySem.F.plain_max_loop _]
    refine wpAny_bind (m:=seqItems? (.ref S)) (wpAny_seqItems hS rfl ?_)
    refine wpAny_bind (m:=tryCatch (pyNext (.ref I)) _) (wpAny_tryCatch (W.item j s _ _ hlt st fun v h' tk hv st' kp=>?_))
    obtain ⟨u,rfl⟩:=hv
    have hS':=kp S _ hSw hS
    have eg:ns.getD j 0=ns[j]:=by simp [hlt]
    rw [eg]
    have ed:(ns.drop j).foldl max m=(ns.drop (j+1)).foldl max (max m ns[j]):=by rw [List.drop_eq_getElem_cons hlt,List.foldl_cons]
    rw [ed] at hR
    have cmp:=CmpOf.ints_gt (prog:=prog) (w:=w) (A:=A.in1) (P:=fun i v=>∃t,v= .int (if i=0 then ns[j] else m) t) (fun i=>if i=0 then ns[j] else m) (fun _ _ z=>z)
    refine wpAny_bind (m:=tryCatch (holding [.int ns[j] u, .int ns[j] u] (richCompare .Gt (.int ns[j] u) (.int m t) >>= _)) _) (wpAny_tryCatch (wpAny_holding (wpAny_bind (cmp 0 1 _ _ _ _ _ ⟨u,rfl⟩ ⟨t,rfl⟩ ?_))))
    refine wpAny_bind (wpAny_holding (wpAny_truthy_bool ?_))
    refine wpAny_bind (wpAny_letGo (wpAny_pure ?_))
    simp only [if_true,Nat.one_ne_zero,if_false]
    by_cases hb:ns[j] > m
    · simp only [hb,decide_true,if_true]
      refine wpAny_bind (wpAny_updateSeq hS' rfl (wpAny_bind (wpAny_letGo ?_)))
      rw [hnm]
      rw [show max m ns[j]=ns[j] by omega] at hR
      refine wpAny_pure ⟨plainId_quiet PySem.F.plain_max_loop _,ih (j+1) _ ns[j] u (by omega) hlt (W.frame _ _ _ st' fun b hbf o e=>?_) ⟨_,Heap.get?_update_self _ hS' rfl⟩ fun t' h2 tk2 k2=>?_⟩
      · exact (Heap.get?_update_other _ _ (fun z:S=b=>hSf (by rw [z];exact hbf))).trans e
      · exact hR t' h2 tk2 fun b o hbb e=>k2 b o hbb ((Heap.get?_update_other _ _ (fun z:S=b=>hbb (by rw [←z];exact List.mem_cons_self ..))).trans (kp b o (fun z=>hbb (List.mem_cons_of_mem _ z)) e))
    · simp only [hb,decide_false,Bool.false_eq_true,if_false]
      refine wpAny_bind (wpAny_letGo ?_)
      rw [hnm]
      rw [show max m ns[j]=m by omega] at hR
      refine wpAny_pure ⟨plainId_quiet PySem.F.plain_max_loop _,ih (j+1) _ m t (by omega) hlt st' ⟨_,hS'⟩ fun t' h2 tk2 k2=>?_⟩
      exact hR t' h2 tk2 fun b o hbb e=>k2 b o hbb (kp b o (fun z=>hbb (List.mem_cons_of_mem _ z)) e)
def Al:List Int→Int→Int
  | [],d=>d
  | n::r,_=>r.foldl max n
theorem call {s:Shared} {l:Addr} {items:Array Value} {ns:List Int} {d:Int} {td:Tok} {Q:Value→Shared→Prop} (hh:A.handled=none) (hl:s.heap.IsList l items) (hi:IntsAre items.toList ns)
    (h:∀t h' tk,(∀b o,s.heap.get? b=some o→h'.get? b=some o)→Q (.int (Al ns d) t) {s with heap:=h',toks:=tk}):
    wpAny (model prog w) A (PySem.call (.builtin "max") [.ref l] [("default", .int d td)]) Q E s:=by
  have hnm:(toString "max"++toString ".loop":String)="max.loop":=by decide
  refine wpAny_call (codeAny_call_builtin PySem.F.plain_max PySem.F.entry_max ?_)
  simp only [checkBuiltinCall,PySem.F.kind_max]
  have key:wpAny (model prog w) A.in1 (Builtin.«max» ⟨[.ref l],[("default", .int d td)]⟩) (fun fin s'=>match fin with
      | .done f=>(match (Except.ok f:Result) with | .ok (.ret v)=>Q v s' | .ok _=>False | .error e=>E e s')
      | .again c'=>c'.quiet=true∧codeAny (model prog w) A c' (fun r s'=>match r with | .ok (.ret v)=>Q v s' | .ok _=>False | .error e=>E e s') s') E s:=by
    refine wpAny_bind (m:=Builtin.Builtins.bindParams "max" ["key","default"] 0 ⟨[],[("default", .int d td)]⟩) (wpAny_of_eq (a:=[none,some (.int d td)]) rfl ?_)
    refine wpAny_bind (wpAny_pure ?_)
    refine wpAny_bind (wpAny_pyIter_list hl ?_)
    refine wpAny_bind (wpAny_newObj_type ?_)
    rw [hnm]
    have hlen:items.size=ns.length:=by have:=hi.length;simpa using this
    have hlt:l < s.heap.objs.size:=let ⟨_,ho,_⟩:=hl;Heap.lt_size ho
    have hI:(s.heap.push {cls:= .type "list_iterator",data:= .fields #[.ref l, .int 0 0]}).objs.size=s.heap.objs.size+1:=by rw [Heap.size_push]
    have W0:=Walks.list (prog:=prog) (w:=w) (A:=A.in1) (by simpa using hh) s.heap.objs.size l (Nat.ne_of_lt hlt) items
    have W:Walks prog w A.in1 s.heap.objs.size [s.heap.objs.size,l] [s.heap.objs.size] ns.length (fun i v=>∃t,v= .int (ns.getD i 0) t) (fun i h=>h.IsListIter s.heap.objs.size l i∧h.IsList l items):=by
      rw [←hlen]
      exact ⟨W0.sub,W0.frame,fun i s Q E hi' st hQ=>W0.item i s Q E hi' st fun v h' tk hv st' kp=>hQ v h' tk (IntsAre.int_at hi i v (by rw [Array.getElem?_toList];exact hv)) st' kp,W0.done,W0.self⟩
    have hSf:(s.heap.push {cls:= .type "list_iterator",data:= .fields #[.ref l, .int 0 0]}).objs.size∉[s.heap.objs.size,l]:=by
      rw [hI]
      intro z
      rcases List.mem_cons.mp z with z | z
      · exact absurd z (Nat.ne_of_gt (Nat.lt_succ_self _))
      · exact absurd (List.mem_singleton.mp z) (Nat.ne_of_gt (Nat.lt_succ_of_lt hlt))
    have st0:∀o,(fun i (h:Heap)=>h.IsListIter s.heap.objs.size l i∧h.IsList l items) 0 ((s.heap.push {cls:= .type "list_iterator",data:= .fields #[.ref l, .int 0 0]}).push o):=fun o=>
      ⟨⟨_,Heap.get?_push_of_some _ (Heap.get?_push_size _ rfl),rfl,rfl⟩,(hl.push _).push _⟩
    have old:∀b o q,s.heap.get? b=some o→((s.heap.push {cls:= .type "list_iterator",data:= .fields #[.ref l, .int 0 0]}).push q).get? b=some o∧b∉[(s.heap.push {cls:= .type "list_iterator",data:= .fields #[.ref l, .int 0 0]}).objs.size,s.heap.objs.size]:=fun b o q e=>by
      have hb:=Heap.lt_size e
      refine ⟨Heap.get?_push_of_some _ (Heap.get?_push_of_some _ e),fun z=>?_⟩
      rw [hI] at z
      rcases List.mem_cons.mp z with z | z
      · exact absurd z (Nat.ne_of_lt (Nat.lt_succ_of_lt hb))
      · exact absurd (List.mem_singleton.mp z) (Nat.ne_of_lt hb)
    refine wpAny_pure ⟨plainId_quiet PySem.F.plain_max_loop _,codeAny_builtin PySem.F.entry_max_loop ?_⟩
    rw [Around.under_plainId PySem.F.plain_max_loop _]
    refine wpAny_bind (m:=seqItems? (.ref _)) (wpAny_seqItems (Heap.get?_push_size _ rfl) rfl ?_)
    cases ns with
    | nil=>
      refine wpAny_bind (m:=tryCatch (pyNext (.ref s.heap.objs.size)) _) (wpAny_tryCatch (W.done _ _ _ (st0 _) fun h' tk kp=>?_))
      refine wpAny_bind (wpAny_rule (wpAny_pure ?_))
      exact h td h' tk fun b o e=>kp b o (fun z=>(old b o {cls:= .none} e).2 (List.mem_cons_of_mem _ z)) (old b o _ e).1
    | cons n r=>
      refine wpAny_bind (m:=tryCatch (pyNext (.ref s.heap.objs.size)) _) (wpAny_tryCatch (W.item 0 _ _ _ (by simp) (st0 _) fun v h' tk hv st' kp=>?_))
      obtain ⟨u,rfl⟩:=hv
      have hS':=kp _ _ (fun z=>hSf (W.sub _ z)) (Heap.get?_push_size _ rfl)
      refine wpAny_bind (m:=updateSeq _ (fun _=>#[.int n u, .int n u])) (wpAny_updateSeq hS' rfl ?_)
      rw [hnm]
      refine wpAny_pure ⟨plainId_quiet PySem.F.plain_max_loop _,qC W _ hSf _ _ 1 _ n u rfl (by simp) (W.frame _ _ _ st' fun b hbf o e=>?_) ⟨_,Heap.get?_update_self _ hS' rfl⟩ fun t' h2 tk2 k2=>?_⟩
      · exact (Heap.get?_update_other _ _ (fun z=>hSf (by rw [z];exact hbf))).trans e
      · refine h t' h2 tk2 fun b o e=>k2 b o (old b o {cls:= .none} e).2 ((Heap.get?_update_other _ _ (fun z=>(old b o {cls:= .none} e).2 (by rw [←z];exact List.mem_cons_self ..))).trans (kp b o (fun z=>(old b o {cls:= .none} e).2 (List.mem_cons_of_mem _ z)) (old b o _ e).1))
  cases hsig:Manifest.signature? "max" with
  | none=>exact wpAny_pure key
  | some sig=>
    have ha:=tO (.ref l) (.int d td)
    simp only [argsOk,hsig] at ha
    show wpAny _ A.in1 (Bind.checkArgs "max" sig ⟨[.ref l],[("default", .int d td)]⟩) _ _ s
    rw [show Bind.checkArgs "max" sig ⟨[.ref l],[("default", .int d td)]⟩=pure () from ha]
    exact wpAny_pure key
end
end NhMaxD
namespace NhSet
open PySem PyProof.Rows
structure SS (w:World) (b:Bool) (ks:List Str) (es:Array (Int×Value)) (t:SetTable):Prop where
  perm:(es.toList.map (fun e=>strOf e.2)).Perm ks
  elems:∀e∈es.toList,∃x tk,e=(hashStr w x,Value.str x tk)
  bound:es.size < scanBound
  fits:t.fits es.size=true
  led:t.led=b
  plain:es.size≠0→t.plain=false
abbrev xN (es:Array (Int×Value)) (ep:Nat) (t:SetTable):Obj:={cls:= .type "set",dict:=none,data:= .set es ep t}
def StrSet (w:World) (h:Heap) (a:Addr) (b:Bool) (ks:List Str):Prop:=∃es ep t,h.get? a=some (xN es ep t)∧SS w b ks es t
theorem StrSet.at' {w:World} {h h':Heap} {a:Addr} {b:Bool} {ks:List Str} (S:StrSet w h a b ks) (e:∀o,h.get? a=some o→h'.get? a=some o):StrSet w h' a b ks:=
  let ⟨es,ep,t,ho,r⟩:=S;⟨es,ep,t,e _ ho,r⟩
theorem StrSet.obj {w:World} {h:Heap} {a:Addr} {b:Bool} {ks:List Str} (S:StrSet w h a b ks):∃o,h.get? a=some o:=let ⟨_,_,_,ho,_⟩:=S;⟨_,ho⟩
theorem StrSet.typeIs {w:World} {s:Shared} {a:Addr} {b:Bool} {ks:List Str} (S:StrSet w s.heap a b ks):s.TypeIs (.ref a) "set":=let ⟨_,_,_,ho,_⟩:=S;⟨_,ho,rfl⟩
theorem SS.len {w:World} {b:Bool} {ks:List Str} {es:Array (Int×Value)} {t:SetTable} (S:SS w b ks es t):es.size=ks.length:=by
  have:=S.perm.length_eq;simpa using this
theorem SS.mem {w:World} {b:Bool} {ks:List Str} {es:Array (Int×Value)} {t:SetTable} (S:SS w b ks es t) (x:Str):x∈ks↔∃e∈es.toList,Value.isStrOf x e.2=true:=by
  rw [←S.perm.mem_iff,List.mem_map]
  constructor
  · rintro ⟨e,he,rfl⟩
    obtain ⟨y,tk,rfl⟩:=S.elems e he
    exact ⟨_,he,by simp [Value.isStrOf,strOf]⟩
  · rintro ⟨e,he,hx⟩
    obtain ⟨y,tk,rfl⟩:=S.elems e he
    have:y=x:=by simpa [Value.isStrOf] using hx
    exact ⟨_,he,by simp [strOf,this]⟩
end NhSet
namespace PL
open PySem PySem.SeqAt
open AutoSeq1 (wpAny_loadPart')
open MeetsSeq MeetsSeq2 MeetsSeq3 SeqRoads2
def RcGtAt (A:Around) (s:Shared) (y x:Value) (b:Bool):Prop:=
  ∀(prog:Program) (w:World) (E:Value→Shared→Prop) (Q:Value→Shared→Prop),Q (.bool b) s→wpAny (model prog w) A (richCompare .Gt y x) Q E s
theorem oI (l b:Addr) (items items2:Array Value) (n n2:Nat) (dd dd2:Option Addr) (sl sl2:Array (Option Value)) (e r:Nat→Bool):
    Meets (Builtin.«tuple.__gt__» ⟨[.ref l, .ref b],[]⟩)
      (fun A R s=>s.heap.get? l=some {cls:= .type "tuple",dict:=dd,data:= .seq items n,slots:=sl}∧s.heap.get? b=some {cls:= .type "tuple",dict:=dd2,data:= .seq items2 n2,slots:=sl2}∧
        (∀j (h1:j < items.size) (h2:j < items2.size),EqAt A.in1 s items[j] items2[j] (e j))∧(∀j (h1:j < items.size) (h2:j < items2.size),e j=false→RcGtAt A.in1 s items[j] items2[j] (r j))∧
        R (.ok (.ret (.bool (iT e r (decide (items2.size < items.size)) (List.range (min items.size items2.size)))))) s):=
  .of_wp fun prog w A R s h=>by
    obtain ⟨hp,g,d,tk,os⟩:=s;obtain ⟨hl,hb,he,hr,h⟩:=h
    have f2:=AutoSeq1.sub_tuple_tuple
    have hZ:(items.toList.zip items2.toList).length=min items.size items2.size:=by simp
    wp_walk using wpAny_loadPart' hl,wpAny_loadPart' hb,wpAny_forIn_list _ (fun bd b s'=>b.1=none∧s'=⟨hp,g,d,tk,os⟩∧∃i,bd=(items.toList.zip items2.toList).drop i∧
      R (.ok (.ret (.bool (iT e r (decide (items2.size < items.size)) ((List.range (min items.size items2.size)).drop i))))) ⟨hp,g,d,tk,os⟩) _
    case turn=>
      rintro ⟨y,x⟩ bd b s' ⟨hb',rfl,i,hz,hR⟩
      have hlt:i < (items.toList.zip items2.toList).length:=by
        rcases Nat.lt_or_ge i (items.toList.zip items2.toList).length with h' | h'
        · exact h'
        · rw [List.drop_of_length_le h'] at hz;cases hz
      have hm:i < min items.size items2.size:=hZ▸hlt
      have h1:i < items.size:=Nat.lt_of_lt_of_le hm (Nat.min_le_left _ _)
      have h2:i < items2.size:=Nat.lt_of_lt_of_le hm (Nat.min_le_right _ _)
      rw [List.drop_eq_getElem_cons hlt] at hz
      injection hz with hyx hrest
      have hy:y=items[i]:=by have:=congrArg Prod.fst hyx;simpa using this
      have hx:x=items2[i]:=by have:=congrArg Prod.snd hyx;simpa using this
      subst hy hx
      have hd:(List.range (min items.size items2.size)).drop i=i::(List.range (min items.size items2.size)).drop (i+1):=by simp [List.drop_eq_getElem_cons,hm]
      rw [hd,iT] at hR
      refine wpAny_bind (he i h1 h2 prog w _ _ ?_)
      cases hy:e i with
      | true=>
        rw [hy,if_pos rfl] at hR
        wp_walk
        exact ⟨rfl,rfl,i+1,hrest,hR⟩
      | false=>
        rw [hy,if_neg (by decide)] at hR
        rw [show (!false)=true from rfl,if_pos rfl]
        refine wpAny_bind (wpAny_rule (wpAny_bind (hr i h1 h2 hy prog w _ _ ?_)))
        wp_walk
        exact ⟨_,rfl,hR⟩
    case fin=>
      rintro ⟨b1,b2⟩ s' ⟨hb',rfl,i,hz,hR⟩
      simp only at hb'
      subst hb'
      have hge:min items.size items2.size≤i:=by
        rcases Nat.lt_or_ge i (items.toList.zip items2.toList).length with h' | h'
        · rw [List.drop_eq_getElem_cons h'] at hz;cases hz
        · exact hZ▸h'
      rw [List.drop_of_length_le (by simpa using hge)] at hR
      wp_walk
      exact ⟨_,rfl,hR⟩
    case h=>
      exact ⟨rfl,rfl,0,rfl,by simpa using h⟩
section
variable {A:Around} {s:Shared}
theorem RcGtAt.tuples {l b:Addr} {items items2:Array Value} {e r:Nat→Bool} (hl:s.heap.IsTuple l items) (hb:s.heap.IsTuple b items2) (hu:A.units < cLine)
    (he:∀j (h1:j < items.size) (h2:j < items2.size),EqAt A.in1 s items[j] items2[j] (e j)) (hr:∀j (h1:j < items.size) (h2:j < items2.size),e j=false→RcGtAt A.in1 s items[j] items2[j] (r j)):RcGtAt A s (.ref l) (.ref b) (iT e r (decide (items2.size < items.size)) (List.range (min items.size items2.size))):=fun prog w E Q h=>by
  obtain ⟨⟨cls,dd,data,sl⟩,ho,hc,n,hd⟩:=id hl
  obtain ⟨⟨cls2,dd2,data2,sl2⟩,ho2,hc2,n2,n5⟩:=id hb
  simp only at hc hd hc2 n5
  subst hc hd hc2 n5
  exact richCompare_meets_room (op:= .Gt) ⟨_,ho,rfl⟩ ⟨_,ho2,rfl⟩ F.slot_tuple_gt F.entry_tuple_gt (F.args_tuple_gt_2 _ _) (oI l b items items2 n n2 dd dd2 sl sl2 e r)
    ⟨ho,ho2,he,hr,show Value.bool _≠Value.notImplemented∧Q (.bool _) s from ⟨(fun x=>nomatch x),h⟩⟩ hu
theorem RcGtAt.ints (i j:Int) (t u:Tok):RcGtAt A s (.int i t) (.int j u) (decide (j < i)):=fun prog w E Q h=>PyProof.Rows.gt_int h
end
end PL
namespace Nh
open PySem L2
theorem NailsOk.stp {r:List Pc} {p:Pc} (h:NailsOk r) (hp:p.1 < 128):NailsOk (NH.stp r p):=by
  cases r with
  | nil=>
    show NailsOk (if p.2=0 then [] else [p])
    split
    · exact h
    · intro q hq;rw [List.mem_singleton.mp hq];exact hp
  | cons x r=>
    rw [NH.sE]
    intro q hq
    rcases List.mem_append.mp hq with h1 | h1
    · unfold NH.n5 at h1
      split at h1
      · split at h1
        · cases h1
        · rw [List.mem_singleton.mp h1];exact hp
      · split at h1
        · rw [List.mem_singleton.mp h1];exact h x (List.mem_cons_self ..)
        · rcases List.mem_cons.mp h1 with h2 | h2
          · rw [h2];exact hp
          · rw [List.mem_singleton.mp h2];exact h x (List.mem_cons_self ..)
    · exact h q (List.mem_cons_of_mem _ h1)
theorem NailsOk.foldl:∀(c:List Pc) {r:List Pc},NailsOk r→NailsOk c→NailsOk (c.foldl NH.stp r)
  | [],_,h,_=>h
  | p::c,_,h,hc=>NailsOk.foldl c (h.stp (hc p (List.mem_cons_self ..))) fun q hq=>hc q (List.mem_cons_of_mem _ hq)
theorem NailsOk.take {c:List Pc} (h:NailsOk c) (i:Nat):NailsOk (c.take i):=fun p hp=>h p (List.mem_of_mem_take hp)
theorem NailsOk.drop {c:List Pc} (h:NailsOk c) (i:Nat):NailsOk (c.drop i):=fun p hp=>h p (List.mem_of_mem_drop hp)
theorem NailsOk.reverse {c:List Pc} (h:NailsOk c):NailsOk c.reverse:=fun p hp=>h p (List.mem_reverse.mp hp)
theorem NailsOk.append {c d:List Pc} (h:NailsOk c) (h':NailsOk d):NailsOk (c++d):=fun p hp=>(List.mem_append.mp hp).elim (h p) (h' p)
theorem NailsOk.contr {c:List Pc} (h:NailsOk c):NailsOk (NH.contr c):=fun p hp=>by
  obtain ⟨q,hq,e⟩:=List.mem_map.mp hp
  subst e
  exact h q (List.mem_reverse.mp hq)
end Nh
namespace Nh
open PySem L2 PL
theorem NailsOk.rep {c:List Pc} (h:NailsOk c) (k:Nat):NailsOk (List.replicate k c).flatten:=fun p hp=>by
  obtain ⟨l,hl,hpl⟩:=List.mem_flatten.mp hp
  rw [(List.mem_replicate.mp hl).2] at hpl
  exact h p hpl
theorem NailsOk.cutL {c:List Pc} (h:NailsOk c) (lo hi:Option Int):NailsOk (cutL c lo hi):=fun p hp=>h p (ni hp)
def l4 (i:Int):Nat:=[97,98,99,122].getD i.toNat 97
theorem wz (i:Int):l4 i < 128:=by
  unfold l4
  rw [List.getD_eq_getElem?_getD]
  have h:∀j:Nat,([97,98,99,122][j]?.getD 97) < 128:=fun j=>
    match j with
    | 0=>by decide
    | 1=>by decide
    | 2=>by decide
    | 3=>by decide
    | j+4=>by simp
  exact h _
theorem zi:∀j,j < 26→(Str.ofString "abcdefghijklmnopqrstuvwxyz").cps.toList[j]? =some (97+j):=by decide+kernel
theorem vJ:∀j,j < 4→(Str.ofString "abcz").cps.toList[j]? =some ([97,98,99,122].getD j 97):=by decide+kernel
theorem iU (v:Int):atI (Str.ofString "abcz").cps.toList (v % 4)=some (l4 (v % 4)):=by
  have h0:=Int.emod_nonneg v (show (4:Int)≠0 by decide)
  have h1:=Int.emod_lt_of_pos v (show (0:Int) < 4 by decide)
  rw [tD h0]
  exact vJ _ (by omega)
theorem Am (v:Int):atI (Str.ofString "abcdefghijklmnopqrstuvwxyz").cps.toList (v % 26)=some (97+(v % 26).toNat):=by
  have h0:=Int.emod_nonneg v (show (26:Int)≠0 by decide)
  have h1:=Int.emod_lt_of_pos v (show (0:Int) < 26 by decide)
  rw [tD h0]
  exact zi _ (by omega)
theorem fH:(Str.ofString "abcz").length≤1000000:=by decide+kernel
theorem xO:(Str.ofString "abcdefghijklmnopqrstuvwxyz").length≤1000000:=by decide+kernel
theorem jx {i j:Int} (h1: -(2 ^ 64) < j) (h2:j < 2 ^ 64):bG i j=true:=by
  simp only [bG,Bool.or_eq_true,decide_eq_true_eq]
  exact .inl (.inr ⟨h1,h2⟩)
theorem gJ {i j:Int} (h1: -(2 ^ 64) < i) (h2:i < 2 ^ 64):bG i j=true:=by
  simp only [bG,Bool.or_eq_true,decide_eq_true_eq]
  exact .inl (.inl ⟨h1,h2⟩)
theorem kb {j:Int} (h1:0 < j) (h2:j < 2 ^ 200):dF j=true:=decide_eq_true ⟨h1,h2⟩
theorem dC (i j:Int):r8 (.int i) (.int j)=some (decide (i=j)):=rfl
theorem lY (i j:Str):r8 (.str i) (.str j)=some (decide (i=j)):=rfl
theorem vK (a b:Nat):((⟨#[a]⟩:Str)=⟨#[b]⟩)=(a=b):=propext ⟨fun h=>by
  injection h with h
  simpa using congrArg Array.toList h,fun h=>by rw [h]⟩
end Nh
namespace L2
open PySem PySem.Spec PyProof.Rows
def pV (K:PySem.W.Frag) (h:Heap):Prop:=∀b q,jF K b=some q→h.get? b=some (PySem.W.tabObj #[])∧(∃c,PySem.W.CodeHd h c b)∧K.lookup b=none
def b_ (K:PySem.W.Frag) (a:Addr) (so:Option HO):Hp:=fun b=>match jF K b with
  | some q=>some (.tbl q)
  | none=>if b=a then so else none
theorem oJ {K:PySem.W.Frag} {a b:Addr} {so:Option HO} {q:Str} (e:jF K b=some q):b_ K a so b=some (.tbl q):=by unfold b_;rw [e]
theorem rj {K:PySem.W.Frag} {a:Addr} {so:Option HO} (e:jF K a=none):b_ K a so a=so:=by unfold b_;rw [e];exact if_pos rfl
theorem dM {K:PySem.W.Frag} {a b:Addr} {so:Option HO} {u:HO} (e:b_ K a so b=some u):(∃q,jF K b=some q∧u= .tbl q)∨(b=a∧so=some u):=by
  unfold b_ at e
  split at e
  · rename_i q h;cases e;exact .inl ⟨q,h,rfl⟩
  · by_cases hb:b=a
    · rw [if_pos hb] at e;exact .inr ⟨hb,e⟩
    · rw [if_neg hb] at e;cases e
section
variable {P:Program} {w:World} {K:PySem.W.Frag} {mg mb:Str→Option Value} {CX:rY} {k:Nat} {fa a:Addr} {fd:FuncData} {x:Str} {sp:Sp} {s₁:Shared} {vs:List Value} {ns:List Int}
theorem vL (KX:K.In s₁.heap) (hns:s₁.heap.Ns mainGlobals mg) (hb:s₁.heap.Ns builtinsNs mb) (hbb:∀x:Str,x≠"__name__"→mb x=bootBuiltins x) (hlim:s₁.heap.NoLimit) (hg:s₁.gens=#[]) (hbm:∃bm ob,mg "__builtins__"=some (.ref bm)∧bm≠builtinsNs∧s₁.heap.get? bm=some ob∧ob.cls= .type "module"∧ob.dict=some builtinsNs∧ob.data= .plain) (hT:pV K s₁.heap)
    (ha:s₁.heap.get? a=some {cls:= .type "list",data:= .seq vs.toArray}) (hi:IntsAre vs ns) (hl:ns.length≤sizeLine) (hr:Room k callerA)
    (F:∀base:Heap,K.In base→base.Ns mainGlobals mg→FnOk P w K mg base CX k fa fd [x] sp) (hbind:∀(s:Shared) (u:Value),BindsTo s fd ⟨[u],[]⟩ [(x,u)])
    (hsp:∀H:Hp,SqL K H a (ns.map V.int)→sp [.ref a] H (fun v _=>v= .bl true) fun _ _ _=>False)
    (hCX:∀H e s',CX [] H s₁ (fun _ _ _=>False) e s'→False):
    codeAny (model P w) callerA (.call (.ref fa) ⟨[.ref a],[]⟩) (fun r s'=>r= .ok (.ret (.bool true))∧OldK s₁.heap s'.heap∧s'.os=s₁.os∧AllBare s'.gens) s₁:=by
  have rv:=gE hi
  have lenV:=hi.length
  have tabA:jF K a=none:=by
    cases q:jF K a with
    | none=>rfl
    | some z=>
      have e:=(hT a z q).1
      rw [ha] at e
      cases e
  have main:∀so:Option HO,(so=none∨(so=some (.frz {cls:= .type "list",data:= .seq vs.toArray} (.lst (ns.map V.int)))∧K.lookup a=none))→SqL K (b_ K a so) a (ns.map V.int)→
      codeAny (model P w) callerA (.call (.ref fa) ⟨[.ref a],[]⟩) (fun r s'=>r= .ok (.ret (.bool true))∧OldK s₁.heap s'.heap∧s'.os=s₁.os∧AllBare s'.gens) s₁:=by
    intro so hso hS
    have hok:HOk P w (b_ K a so) s₁.heap:=fun b u e=>by
      rcases dM e with ⟨q,e1,rfl⟩ | ⟨rfl,e1⟩
      · exact ObjOk.tbl0 (hT b q e1).1
      · rcases hso with z | ⟨z,_⟩
        · rw [z] at e1;cases e1
        · rw [z] at e1;cases e1
          exact ⟨ha,by rw [List.length_map];exact hl,vs,_,rv,ha⟩
    have free:∀{b:Addr} {o:Obj} {es:Array DictEntry} {ep:Nat},s₁.heap.get? b=some o→o.data= .dict es ep→b_ K a so b=none:=fun {b o es ep} e d=>by
      cases q:b_ K a so b with
      | none=>rfl
      | some u=>
        rcases dM q with ⟨z,e1,_⟩ | ⟨rfl,_⟩
        · rw [(hT b z e1).1] at e;cases e;cases d
        · rw [ha] at e;cases e;cases d
    have nsK:∀{b:Addr} {m:Str→Option Value},s₁.heap.Ns b m→(mK s₁.heap (b_ K a so)).Ns b m:=fun {b m} ⟨o,es,ep,e,d,r⟩=>⟨o,es,ep,jE e (free e d),d,r⟩
    have kin:K.In (mK s₁.heap (b_ K a so)):=fun b o e=>jE (KX b o e) (by
      cases q:b_ K a so b with
      | none=>rfl
      | some u=>
        rcases dM q with ⟨z,e1,_⟩ | ⟨rfl,e1⟩
        · rw [(hT b z e1).2.2] at e;cases e
        · rcases hso with z | ⟨_,z⟩
          · rw [z] at e1;cases e1
          · rw [z] at e;cases e)
    have bmK:∃bm ob,mg "__builtins__"=some (.ref bm)∧bm≠builtinsNs∧(mK s₁.heap (b_ K a so)).get? bm=some ob∧ob.cls= .type "module"∧ob.dict=some builtinsNs∧ob.data= .plain:=by
      obtain ⟨bm,ob,c1,c2,c3,c4,c5⟩:=hbm
      refine ⟨bm,ob,c1,c2,jE c3 ?_,c4,c5⟩
      cases q:b_ K a so bm with
      | none=>rfl
      | some u=>
        rcases dM q with ⟨z,e1,_⟩ | ⟨rfl,_⟩
        · rw [(hT bm z e1).1] at c3;cases c3;cases c4
        · rw [ha] at c3
          cases c3
          injection c4 with c6
          exact absurd c6 (by decide)
    have e0:Env0 P w K mg (mK s₁.heap (b_ K a so)) callerA [] s₁ (b_ K a so):=
      ⟨rfl,⟨kin,nsK hns,⟨mb,nsK hb,hbb⟩,let ⟨mc,h1,h2⟩:=hlim;⟨mc,nsK h1,h2⟩,bmK⟩,fun b o e=>u6 e,Nat.le_of_eq (qD _ _),trivial,fun b hb=>absurd (show b∈([]:List Addr) from hb) (by simp),hok, .of_eq hg,fun b q e=>oJ e⟩
    refine codeAny_mono ((F _ kin (nsK hns)).run callerA [] s₁ _ ⟨[.ref a],[]⟩ [.ref a] [.ref a] _ _ hr e0 (hbind s₁ (.ref a)) (.cons rfl .nil) (hsp _ hS)) fun r s' h=>?_
    cases r with
    | error e=>exact (hCX _ e s' h).elim
    | ok fl=>
      cases fl with
      | next=>exact False.elim h
      | brk=>exact False.elim h
      | cont=>exact False.elim h
      | ret u=>
        obtain ⟨v,H',os,bare,un,hok',r',q⟩:=h
        have q':v= .bl true:=q
        subst q'
        obtain rfl:u=Value.bool true:=r'
        have nofs:∀b,b∉rX ([]:List Env):=fun b z=>absurd (show b∈([]:List Addr) from z) (by simp)
        have step:∀b o,s₁.heap.get? b=some o→asItWas s₁.heap s'.heap b o∧∃o',s'.heap.get? b=some o':=fun b o e=>by
          cases q:b_ K a so b with
          | none=>exact ⟨.inl (un.keep b o e q (nofs b) (by simp)),_,un.keep b o e q (nofs b) (by simp)⟩
          | some u=>
            rcases dM q with ⟨z,e1,rfl⟩ | ⟨rfl,e1⟩
            · obtain ⟨t1,⟨c,t2⟩,_⟩:=hT b z e1
              obtain ⟨ps,p1,_⟩:=hok' b _ (un.tbls b z q)
              rw [t1] at e
              cases e
              exact ⟨.inr (.inl ⟨(t2.tab t1).isCodeTable,rfl,#[],ps,rfl,by simpa using p1⟩),_,p1⟩
            · rcases hso with z | ⟨z,_⟩
              · rw [z] at e1;cases e1
              · rw [z] at e1;cases e1
                have z2:=un.frzs b _ _ q
                obtain ⟨e2,_⟩:=hok' b _ z2
                rw [ha] at e;cases e
                exact ⟨.inl e2,_,e2⟩
        exact ⟨rfl,⟨fun b o e=>(step b o e).1,fun b o e=>(step b o e).2⟩,os,bare⟩
  cases hk:K.lookup a with
  | some o=>
    have e:=KX a o hk
    rw [ha] at e
    cases e
    exact main none (.inl rfl) (.inr ⟨_,vs.toArray,_,hk,rfl,rfl,rfl,by rw [List.size_toArray,lenV];exact hl,by simpa using rv⟩)
  | none=>exact main _ (.inr ⟨rfl,hk⟩) (.inl (.inr ⟨_,rj tabA⟩))
end
theorem tP {l:PySem.W.OpenLaw} {n k:Nat} {q:Program} {loose:List Str} {XP:(Str→Option Value)→Heap→Prop} {YP:World→Heap→Prop} {d:DefRec} {K:Params→PySem.W.Frag} {CX:World→rY} {sp:World→Sp} {x:Str}
    (hn:l.most=some n) (hn2:n≤sizeLine) (hdf:d.params.defaults=[]) (hr:Room k callerA)
    (hY:∀(w:World) (h:Heap),YP w h→(K w.params).In h∧pV (K w.params) h)
    (F:∀(w:World) (mg:Str→Option Value) (fa:Addr) (h:Heap),(K w.params).In h→h.Ns mainGlobals mg→mg d.name=some (.ref fa)→
      ∃fd:FuncData,(∀(s:Shared) (u:Value),BindsTo s fd ⟨[u],[]⟩ [(x,u)])∧
        ∀base:Heap,(K w.params).In base→base.Ns mainGlobals mg→FnOk l.prog w (K w.params) mg base (CX w) k fa fd [x] (sp w))
    (hsp:∀(w:World) (H:Hp) (a:Addr) (ns:List Int),ns.length≤n→SqL (K w.params) H a (ns.map V.int)→sp w [.ref a] H (fun v _=>v= .bl true) fun _ _ _=>False)
    (hCX:∀(w:World) (H:Hp) (s:Shared) (e:Value) (s':Shared),CX w [] H s (fun _ _ _=>False) e s'→False):
    PySem.W.WalkO q loose XP YP l.row.toRowW d [] (fun f vs=>PySem.call f vs):=by
  refine Att.mU hn hdf fun w s₀ s₁ mg mb fa o pm cd doc a vs ns G Y ho hd hcd hmg hobj hints hlen hg=>?_
  obtain ⟨KX,KT⟩:=hY w _ Y
  obtain ⟨fd,hb,hF⟩:=F w mg fa _ KX G.T.g hmg
  exact vL KX G.T.g G.T.b G.T.builtins G.T.nolimit hg G.T.bmain KT hobj hints (Nat.le_trans hlen hn2) hr hF hb (fun H hS=>hsp w H a ns hlen hS) fun H e s'=>hCX w H s₁ e s'
end L2
namespace NH
def yu:Nat→Nat→Nat
  | _,0=>1
  | 0,_+1=>0
  | n+1,k+1=>yu n (k+1)+yu n k
def yw:Nat→Nat→Int
  | _,0=>1
  | 0,_+1=>0
  | m+1,k+1=>yw m (k+1) - yw (m+1) k
def ch (n:Int) (k:Nat):Int:=match n with
  | .ofNat n=>(yu n k:Int)
  | .negSucc m=>yw (m+1) k
theorem aD (n:Int):ch n 0=1:=by
  cases n with
  | ofNat n=>simp [ch,yu]
  | negSucc m=>simp [ch,yw]
theorem fb (k:Nat):ch 0 k=if k=0 then 1 else 0:=by
  cases k with
  | zero=>rfl
  | succ k=>simp [ch,yu]
theorem cC (n:Int) (k:Nat):ch (n+1) (k+1)=ch n (k+1)+ch n k:=by
  cases n with
  | ofNat n=>
    show ch (Int.ofNat (n+1)) (k+1)=_
    simp only [ch,yu]
    omega
  | negSucc m=>
    cases m with
    | zero=>
      have e:Int.negSucc 0+1=0:=rfl
      rw [e,fb]
      simp only [ch,yw]
      simp
      omega
    | succ m=>
      have e:Int.negSucc (m+1)+1=Int.negSucc m:=by omega
      rw [e]
      simp only [ch,yw]
      omega
theorem oK {f g:Int→Nat→Int} (h0:∀k,f 0 k=g 0 k) (hk:∀n,f n 0=g n 0) (pf:∀n k,f (n+1) (k+1)=f n (k+1)+f n k) (pg:∀n k,g (n+1) (k+1)=g n (k+1)+g n k):∀(n:Int) (k:Nat),f n k=g n k:=by
  have up:∀(n k:Nat),f (n:Int) k=g (n:Int) k:=fun n=>by
    induction n with
    | zero=>intro k;exact h0 k
    | succ n ih=>
      intro k
      cases k with
      | zero=>exact hk _
      | succ k=>
        have e:((n+1:Nat):Int)=(n:Int)+1:=by omega
        rw [e,pf,pg,ih,ih]
  have down:∀(m k:Nat),f (-(m:Int)) k=g (-(m:Int)) k:=fun m=>by
    induction m with
    | zero=>intro k;exact h0 k
    | succ m ih=>
      intro k
      induction k with
      | zero=>exact hk _
      | succ k ik=>
        have e: -((m+1:Nat):Int)+1= -(m:Int):=by omega
        have a:=pf (-((m+1:Nat):Int)) k
        have b:=pg (-((m+1:Nat):Int)) k
        rw [e] at a b
        rw [ih] at a
        omega
  intro n k
  rcases Int.le_total 0 n with h | h
  · have e:n=((n.toNat:Nat):Int):=by omega
    rw [e];exact up _ _
  · have e:n= -(((-n).toNat:Nat):Int):=by omega
    rw [e];exact down _ _
theorem lZ:∀(n:Int) (k:Nat),((k:Int)+1)*ch n (k+1)=(n - k)*ch n k:=by
  have zero:∀k:Nat,((k:Int)+1)*ch 0 (k+1)=(0 - k)*ch 0 k:=fun k=>by
    rw [fb,fb]
    cases k with
    | zero=>simp
    | succ k=>simp
  have up:∀n:Int,(∀k:Nat,((k:Int)+1)*ch n (k+1)=(n - k)*ch n k)→∀k:Nat,((k:Int)+1)*ch (n+1) (k+1)=(n+1 - k)*ch (n+1) k:=fun n ih k=>by
    have h:=ih k
    rw [cC]
    cases k with
    | zero=>
      rw [aD] at h
      rw [aD n,aD (n+1)]
      simp at h ⊢
      omega
    | succ k=>
      have h2:=ih k
      clear ih zero
      rw [cC]
      have e:((k+1:Nat):Int)=(k:Int)+1:=by omega
      rw [e] at h ⊢
      generalize (k:Int)=z at *
      grind
  have down:∀n:Int,(∀k:Nat,((k:Int)+1)*ch (n+1) (k+1)=(n+1 - k)*ch (n+1) k)→∀k:Nat,((k:Int)+1)*ch n (k+1)=(n - k)*ch n k:=fun n ih k=>by
    induction k with
    | zero=>
      have h:=ih 0
      rw [cC,aD,aD] at h
      rw [aD]
      simp at h ⊢
      omega
    | succ k ik=>
      have h:=ih (k+1)
      clear ih zero up
      rw [cC,cC] at h
      have e:((k+1:Nat):Int)=(k:Int)+1:=by omega
      rw [e] at h ⊢
      generalize (k:Int)=z at *
      grind
  have ups:∀(n k:Nat),((k:Int)+1)*ch n (k+1)=((n:Int) - k)*ch n k:=fun n=>by
    induction n with
    | zero=>exact zero
    | succ n ih=>exact up n ih
  have downs:∀(m k:Nat),((k:Int)+1)*ch (-(m:Int)) (k+1)=(-(m:Int) - k)*ch (-(m:Int)) k:=fun m=>by
    induction m with
    | zero=>exact zero
    | succ m ih=>
      refine down (-((m+1:Nat):Int)) ?_
      have e: -((m+1:Nat):Int)+1= -(m:Int):=by omega
      rw [e]
      exact ih
  intro n k
  rcases Int.le_total 0 n with h | h
  · have e:n=((n.toNat:Nat):Int):=by omega
    rw [e];exact ups _ _
  · have e:n= -(((-n).toNat:Nat):Int):=by omega
    rw [e];exact downs _ _
def ff (n:Int):Nat→Int
  | 0=>1
  | k+1=>ff n k*(n - k)
def oM:Nat→Int
  | 0=>1
  | k+1=>oM k*((k:Int)+1)
theorem l5:∀k,0 < oM k
  | 0=>by decide
  | k+1=>Int.mul_pos (l5 k) (by omega)
theorem wA (n:Int):∀k,ff n k=oM k*ch n k
  | 0=>by rw [aD];rfl
  | k+1=>by
    have h:=lZ n k
    show ff n k*(n - k)=oM k*((k:Int)+1)*ch n (k+1)
    rw [wA n k]
    generalize ch n (k+1)=x at *
    generalize ch n k=y at *
    generalize oM k=z at *
    generalize (k:Int)=t at *
    grind
theorem xP (n:Int) (k:Nat):ff n k / oM k=ch n k:=by
  rw [wA]
  exact Int.mul_ediv_cancel_left _ (Int.ne_of_gt (l5 k))
section
variable {α:Type}
def conv (f g:List α→Int):List α→Int
  | []=>f []*g []
  | a::w=>f []*g (a::w)+conv (fun u=>f (a::u)) g w
def ja:List α→Int
  | []=>1
  | _::_=>0
theorem eI {f f' g g':List α→Int} (hf:∀w,f w=f' w) (hg:∀w,g w=g' w) (w:List α):conv f g w=conv f' g' w:=by
  have e1:f=f':=funext hf
  have e2:g=g':=funext hg
  rw [e1,e2]
theorem nq (c:Int) (p q h:List α→Int):∀w,conv (fun u=>c*p u+q u) h w=c*conv p h w+conv q h w
  | []=>by simp only [conv];grind
  | a::w=>by
    have ih:=nq c (fun u=>p (a::u)) (fun u=>q (a::u)) h w
    simp only [conv]
    rw [ih]
    grind
theorem hO:∀(w:List α) (f g h:List α→Int),conv (conv f g) h w=conv f (conv g h) w
  | [],f,g,h=>by simp only [conv];grind
  | a::w,f,g,h=>by
    have e:(fun u=>conv f g (a::u))=fun u=>f []*g (a::u)+conv (fun v=>f (a::v)) g u:=rfl
    have ih:=hO w (fun v=>f (a::v)) g h
    show conv f g []*h (a::w)+conv (fun u=>conv f g (a::u)) h w=f []*conv g h (a::w)+conv (fun v=>f (a::v)) (conv g h) w
    rw [e,nq,ih]
    simp only [conv]
    grind
theorem c8 (g:List α→Int):∀w,conv (fun _=>0) g w=0
  | []=>by simp [conv]
  | a::w=>by simp [conv,c8 g w]
theorem kc (f:List α→Int):∀w,conv ja f w=f w
  | []=>by simp [conv,ja]
  | a::w=>by
    have e:(fun u=>ja (a::u))=fun (_:List α)=>(0:Int):=rfl
    simp only [conv,e,c8,ja]
    omega
theorem nr:∀(w:List α) (f:List α→Int),conv f ja w=f w
  | [],f=>by simp [conv,ja]
  | a::w,f=>by
    have ih:=nr w fun u=>f (a::u)
    simp only [conv,ih,ja]
    omega
end
section
variable {α:Type} [DecidableEq α]
def aY (p:α×Int) (w:List α):Int:=if w.all (fun b=>decide (b=p.1)) then ch p.2 w.length else 0
def aG (w:List α) (c:List (α×Int)):Int:=c.foldr (fun p f=>conv (aY p) f) ja w
theorem iV (w:List α):aG w []=ja w:=rfl
theorem hU (w:List α) (p:α×Int) (c:List (α×Int)):aG w (p::c)=conv (aY p) (fun v=>aG v c) w:=rfl
theorem l7 (w:List α) (c d:List (α×Int)):aG w (c++d)=conv (fun u=>aG u c) (fun v=>aG v d) w:=by
  induction c generalizing w with
  | nil=>exact (kc _ w).symm
  | cons p c ih=>
    rw [List.cons_append,hU,eI (fun _=>rfl) ih,←hO]
    rfl
def vs (j:Nat) (m n:Int):Nat→Int
  | 0=>ch m j
  | k+1=>ch m j*ch n (k+1)+vs (j+1) m n k
theorem pW (m:Int):∀(k j:Nat),vs j m 0 k=ch m (j+k)
  | 0,j=>rfl
  | k+1,j=>by
    simp only [vs,fb,pW m k (j+1)]
    rw [show j+1+k=j+(k+1) by omega]
    simp
theorem k5 (m n:Int):∀(k j:Nat),vs j m (n+1) (k+1)=vs j m n (k+1)+vs j m n k
  | 0,j=>by
    simp only [vs,cC,aD]
    grind
  | k+1,j=>by
    have ih:=k5 m n k (j+1)
    rw [vs,ih,cC]
    simp only [vs]
    grind
theorem nt (m n:Int) (k:Nat):vs 0 m n k=ch (m+n) k:=by
  refine oK (f:=fun n k=>vs 0 m n k) (g:=fun n k=>ch (m+n) k) (fun k=>?_) (fun n=>?_) (fun n k=>k5 m n k 0) (fun n k=>?_) n k
  · rw [pW,Nat.zero_add,Int.add_zero]
  · simp only [vs,aD]
  · show ch (m+(n+1)) (k+1)=_
    rw [show m+(n+1)=m+n+1 by omega,cC]
theorem gW (a:α) (m n:Int):∀(k j:Nat) (w:List α),w.length=k→conv (fun u=>if u.all (fun b=>decide (b=a)) then ch m (j+u.length) else 0) (aY (a,n)) w=if w.all (fun b=>decide (b=a)) then vs j m n k else 0
  | 0,j,[],_=>by simp [conv,aY,vs,aD]
  | k+1,j,b::w,h=>by
    have hl:w.length=k:=by simpa using h
    by_cases e:b=a
    · subst e
      have f:(fun u:List α=>if ((b::u).all fun c=>decide (c=b))=true then ch m (j+(b::u).length) else 0)=fun u=>if (u.all fun c=>decide (c=b))=true then ch m (j+1+u.length) else 0:=by
        funext u
        simp only [List.all_cons,decide_true,Bool.true_and,List.length_cons]
        rw [show j+(u.length+1)=j+1+u.length by omega]
      have ih:=gW b m n k (j+1) w hl
      simp only [conv]
      rw [f,ih]
      simp only [List.all_nil,if_true,List.length_nil,Nat.add_zero,aY,List.all_cons,decide_true,Bool.true_and,List.length_cons,hl]
      by_cases c:(w.all fun c=>decide (c=b))=true
      · simp only [c,if_true,vs]
      · simp [c]
    · have f:(fun u:List α=>if ((b::u).all fun c=>decide (c=a))=true then ch m (j+(b::u).length) else 0)=fun _=>0:=by
        funext u
        simp [e]
      simp only [conv]
      rw [f,c8]
      simp [aY,e]
theorem nu (a:α) (m n:Int) (w:List α):conv (aY (a,m)) (aY (a,n)) w=aY (a,m+n) w:=by
  have h:=gW a m n w.length 0 w rfl
  have e:(fun u:List α=>if (u.all fun b=>decide (b=a))=true then ch m (0+u.length) else 0)=aY (a,m):=by
    funext u
    simp [aY]
  rw [e] at h
  rw [h,nt]
  rfl
theorem oN (a:α) (w:List α):aY (a,0) w=ja w:=by
  cases w with
  | nil=>simp [aY,ja,fb]
  | cons b w=>simp [aY,ja,fb]
theorem xQ (n:Int):ch n 1=n:=by
  have h:=lZ n 0
  rw [aD] at h
  simp at h
  exact h
theorem k6:∀(w:List α) (f g:List α→Int) (a:α),conv f g (w++[a])=f (w++[a])*g []+conv f (fun v=>g (v++[a])) w
  | [],f,g,a=>by simp only [List.nil_append,conv];omega
  | b::w,f,g,a=>by
    have ih:=k6 w (fun u=>f (b::u)) g a
    simp only [List.cons_append,conv]
    rw [ih]
    omega
theorem oO (w:List α) (c:List (α×Int)) (p:α×Int):aG w (c++[p])=conv (fun u=>aG u c) (aY p) w:=by
  rw [l7]
  refine eI (fun _=>rfl) (fun v=>?_) w
  rw [hU]
  exact nr v (aY p)
def gu (f:List α→Int) (p:α×Int):List α→Nat→Int
  | [],k=>f []*ch p.2 k
  | a::w,k=>f (a::w).reverse*ch p.2 k+(if a=p.1 then gu f p w (k+1) else 0)
theorem ga (f:List α→Int):∀w,conv f (fun _=>0) w=0
  | []=>by simp [conv]
  | a::w=>by simp [conv,ga (fun u=>f (a::u)) w]
theorem jb (f:List α→Int) (p:α×Int):∀(w:List α) (k:Nat),conv f (fun v=>if v.all (fun b=>decide (b=p.1)) then ch p.2 (v.length+k) else 0) w.reverse=gu f p w k
  | [],k=>by simp [conv,gu]
  | a::w,k=>by
    rw [List.reverse_cons,k6]
    have ih:=jb f p w (k+1)
    simp only [List.all_nil,if_true,List.length_nil,Nat.zero_add,gu,List.reverse_cons]
    congr 1
    by_cases e:a=p.1
    · rw [if_pos e,←ih]
      refine eI (fun _=>rfl) (fun v=>?_) _
      simp only [List.all_append,List.all_cons,List.all_nil,e,decide_true,Bool.and_true,List.length_append,List.length_cons,List.length_nil]
      rw [show v.length+(0+1)+k=v.length+(k+1) by omega]
    · rw [if_neg e]
      have z:(fun v:List α=>if ((v++[a]).all fun b=>decide (b=p.1))=true then ch p.2 ((v++[a]).length+k) else 0)=fun _=>0:=by
        funext v
        simp [e]
      rw [z,ga]
theorem l9 (w:List α) (c:List (α×Int)) (p:α×Int):aG w (c++[p])=gu (fun u=>aG u c) p w.reverse 0:=by
  rw [oO,←jb,List.reverse_reverse]
  rfl
end
end NH
namespace NH
theorem tQ (n:Int):∀k:Nat,(ch n k).natAbs≤(n.natAbs+k) ^ k
  | 0=>by rw [aD];simp
  | k+1=>by
    have h:=lZ n k
    have ih:=tQ n k
    have e:((k:Int)+1).natAbs*(ch n (k+1)).natAbs=(n - k).natAbs*(ch n k).natAbs:=by rw [←Int.natAbs_mul,h,Int.natAbs_mul]
    have k1:((k:Int)+1).natAbs=k+1:=by omega
    rw [k1] at e
    have h1:(ch n (k+1)).natAbs≤(k+1)*(ch n (k+1)).natAbs:=Nat.le_mul_of_pos_left _ (by omega)
    have h2:(n - k).natAbs≤n.natAbs+(k+1):=by omega
    have h3:(n.natAbs+k) ^ k≤(n.natAbs+(k+1)) ^ k:=Nat.pow_le_pow_left (by omega) k
    calc (ch n (k+1)).natAbs≤(n - k).natAbs*(ch n k).natAbs:=by rw [←e];exact h1
      _≤(n.natAbs+(k+1))*(n.natAbs+(k+1)) ^ k:=Nat.mul_le_mul h2 (Nat.le_trans ih h3)
      _=(n.natAbs+(k+1)) ^ (k+1):=by rw [Nat.pow_succ,Nat.mul_comm]
section
variable {α:Type}
theorem pX {b:Nat} {L:Nat} {g:List α→Int} (hg:∀v,v.length≤L→(g v).natAbs≤b ^ v.length):∀(w:List α) (f:List α→Int) (s a:Nat),w.length≤L→(∀u,u.length≤w.length→(f u).natAbs≤s*a ^ u.length)→(conv f g w).natAbs≤s*(a+b) ^ w.length
  | [],f,s,a,hl,hf=>by
    have h1:=hf [] (by simp)
    have h2:=hg [] (by simp)
    simp only [conv,Int.natAbs_mul,List.length_nil,Nat.pow_zero,Nat.mul_one] at h1 h2 ⊢
    calc (f []).natAbs*(g []).natAbs≤s*1:=Nat.mul_le_mul h1 h2
      _=s:=Nat.mul_one s
  | x::w,f,s,a,hl,hf=>by
    have ih:=pX hg w (fun u=>f (x::u)) (s*a) a (by simp at hl;omega) (fun u hu=>by
      have:=hf (x::u) (by simpa using hu)
      rw [List.length_cons,Nat.pow_succ,Nat.mul_comm (a ^ u.length),←Nat.mul_assoc] at this
      exact this)
    have h0:=hf [] (by simp)
    have hgw:=hg (x::w) hl
    simp only [List.length_nil,Nat.pow_zero,Nat.mul_one] at h0
    have t:=Int.natAbs_add_le (f []*g (x::w)) (conv (fun u=>f (x::u)) g w)
    have e1:(f []*g (x::w)).natAbs≤s*(b*(a+b) ^ w.length):=by
      rw [Int.natAbs_mul]
      refine Nat.mul_le_mul h0 (Nat.le_trans hgw ?_)
      rw [List.length_cons,Nat.pow_succ,Nat.mul_comm]
      exact Nat.mul_le_mul_left _ (Nat.pow_le_pow_left (by omega) _)
    have e2:s*(a+b) ^ (x::w).length=s*(b*(a+b) ^ w.length)+s*a*(a+b) ^ w.length:=by
      rw [List.length_cons,Nat.pow_succ,Nat.mul_comm ((a+b) ^ w.length),Nat.add_mul,Nat.mul_add,Nat.mul_assoc,Nat.add_comm]
    show (f []*g (x::w)+conv (fun u=>f (x::u)) g w).natAbs≤_
    omega
variable [DecidableEq α]
def dS:List (α×Int)→Nat
  | []=>0
  | p::c=>p.2.natAbs+dS c
theorem tR (p:α×Int) {L:Nat} (w:List α) (h:w.length≤L):(aY p w).natAbs≤(p.2.natAbs+L) ^ w.length:=by
  unfold aY
  split
  · exact Nat.le_trans (tQ p.2 w.length) (Nat.pow_le_pow_left (by omega) _)
  · simp
theorem nv {L:Nat}:∀(c:List (α×Int)) (w:List α),w.length≤L→(aG w c).natAbs≤(dS c+L*c.length) ^ w.length
  | [],w,h=>by
    rw [iV]
    cases w with
    | nil=>simp [ja]
    | cons a w=>simp [ja]
  | p::c,w,h=>by
    rw [hU]
    have:=pX (b:=dS c+L*c.length) (L:=L) (g:=fun v=>aG v c) (fun v hv=>nv c v hv) w (aY p) 1 (p.2.natAbs+L) h (fun u hu=>by rw [Nat.one_mul];exact tR p u (by omega))
    rw [Nat.one_mul] at this
    refine Nat.le_trans this (Nat.pow_le_pow_left ?_ _)
    simp only [dS,List.length_cons,Nat.mul_add]
    omega
theorem jc:∀c d:List (α×Int),dS (c++d)=dS c+dS d
  | [],d=>by simp [dS]
  | p::c,d=>by simp only [List.cons_append,dS,jc c d];omega
theorem nw:∀{c:List (α×Int)} {p:α×Int},p∈c→p.2.natAbs≤dS c
  | q::c,p,h=>by
    simp only [dS]
    rcases List.mem_cons.mp h with rfl | h
    · omega
    · have:=nw h;omega
end
end NH
namespace NH
section
variable {α:Type} [DecidableEq α]
theorem pY {B:Nat}:∀c:List (α×Int),(∀p∈c,p.2.natAbs < B)→dS c≤c.length*B
  | [],_=>by simp [dS]
  | p::c,h=>by
    have h1:=h p (List.mem_cons_self ..)
    have h2:=pY c fun q hq=>h q (List.mem_cons_of_mem _ hq)
    simp only [dS,List.length_cons,Nat.succ_mul]
    omega
def fI (a:α):List α→Nat
  | []=>0
  | b::r=>if b=a then fI a r+1 else 0
theorem pZ (a:α):∀r:List α,fI a r≤r.length
  | []=>Nat.le_refl _
  | b::r=>by have:=pZ a r;simp only [fI];split <;> simp <;> omega
def fm (h:Nat→Int):Nat→Int
  | 0=>0
  | n+1=>fm h n+h n
theorem hV {h h':Nat→Int}:∀(n:Nat),(∀j,j < n→h j=h' j)→fm h n=fm h' n
  | 0,_=>rfl
  | n+1,e=>by rw [fm,fm,hV n fun j hj=>e j (by omega),e n (by omega)]
theorem k7 (h:Nat→Int):∀n,fm h (n+1)=h 0+fm (fun j=>h (j+1)) n
  | 0=>by simp [fm]
  | n+1=>by rw [fm,k7 h n,fm];omega
theorem jd (f:List α→Int) (p:α×Int):∀(r:List α) (k:Nat),gu f p r k=f r.reverse*ch p.2 k+fm (fun j=>f (r.drop (j+1)).reverse*ch p.2 (k+(j+1))) (fI p.1 r)
  | [],k=>by simp [gu,fI,fm]
  | a::r,k=>by
    rw [gu]
    by_cases e:a=p.1
    · rw [if_pos e,jd f p r (k+1)]
      simp only [fI,if_pos e]
      rw [k7]
      simp only [List.drop_succ_cons,List.drop_zero,Nat.zero_add]
      rw [hV (fI p.1 r) (h':=fun j=>f (r.drop (j+1)).reverse*ch p.2 (k+(j+1+1))) fun j _=>by rw [show k+1+(j+1)=k+(j+1+1) by omega]]
    · rw [if_neg e]
      simp only [fI,if_neg e,fm]
def je (w:List α) (c:List (α×Int)) (k:Nat):Int:=aG (w.take k) c
theorem kG (w:List α) (k j:Nat) (h:k≤w.length):((w.take k).reverse.drop j).reverse=w.take (k - j):=by
  rw [List.drop_reverse,List.reverse_reverse,List.length_take,Nat.min_eq_left h,List.take_take,Nat.min_eq_left (by omega)]
theorem nz (w:List α) (c:List (α×Int)) (p:α×Int) (k:Nat) (h:k≤w.length):je w (c++[p]) k=je w c k+fm (fun j=>je w c (k - (j+1))*ch p.2 (j+1)) (fI p.1 (w.take k).reverse):=by
  unfold je
  rw [l9,jd,List.reverse_reverse,aD,Int.mul_one]
  congr 1
  refine hV _ fun j _=>?_
  rw [kG w k (j+1) h,Nat.zero_add]
end
end NH
namespace NH
section
variable {α:Type} [DecidableEq α]
def Rot (a b:List (α×Int)):Prop:=∃u v,a=u++v∧b=v++u
theorem Rot.refl (a:List (α×Int)):Rot a a:=⟨[],a,rfl,by simp⟩
theorem Rot.symm {a b:List (α×Int)} (h:Rot a b):Rot b a:=let ⟨u,v,e,f⟩:=h;⟨v,u,f,e⟩
theorem Rot.trans {a b c:List (α×Int)} (h:Rot a b) (k:Rot b c):Rot a c:=by
  obtain ⟨u,v,rfl,e⟩:=h
  obtain ⟨x,y,e2,rfl⟩:=k
  rw [e] at e2
  rcases List.append_eq_append_iff.mp e2 with ⟨w,e3,e4⟩ | ⟨w,e3,e4⟩
  · subst e3 e4
    exact ⟨w,y++v,by simp,by simp⟩
  · subst e3 e4
    exact ⟨u++x,w,by simp,by simp⟩
theorem Rot.eq {a b:List (α×Int)} (h:a=b):Rot a b:=h▸Rot.refl a
theorem Rot.len {a b:List (α×Int)} (h:Rot a b):a.length=b.length:=by
  obtain ⟨u,v,rfl,rfl⟩:=h
  simp [Nat.add_comm]
end
end NH
namespace Nh
open PySem L2 PL
def lp (p q:Pc):Bool:=if p.1=q.1 then decide (p.2 < q.2) else decide (p.1 < q.1)
def ll:List Pc→List Pc→Bool
  | [],[]=>false
  | [],_::_=>true
  | _::_,[]=>false
  | x::xs,y::ys=>if x=y then ll xs ys else lp x y
theorem tS {p q:Pc} (h:p≠q):lp p q=true∨lp q p=true:=by
  unfold lp
  by_cases e:p.1=q.1
  · rw [if_pos e,if_pos e.symm]
    simp only [decide_eq_true_eq]
    have:p.2≠q.2:=fun z=>h (by cases p;cases q;simp_all)
    omega
  · rw [if_neg e,if_neg (fun z=>e z.symm)]
    simp only [decide_eq_true_eq]
    omega
theorem nC:∀{a b:List Pc},a≠b→ll a b=true∨ll b a=true
  | [],[],h=>absurd rfl h
  | [],_::_,_=> .inl rfl
  | _::_,[],_=> .inr rfl
  | x::a,y::b,h=>by
    unfold ll
    by_cases e:x=y
    · subst e
      rw [if_pos rfl,if_pos rfl]
      exact nC fun z=>h (by rw [z])
    · rw [if_neg e,if_neg (fun z=>e z.symm)]
      exact tS e
def yx (a:List Pc) (p:Nat):List Pc:=a.drop p++a.take p
def AA (a:List Pc) (p:Nat):Prop:=∃q,q < a.length∧ll (yx a q) (yx a p)=true
def Least (a w:List Pc):Prop:=(∃p,p≤a.length∧w=yx a p)∧∀p,p≤a.length→ll (yx a p) w=false
structure Keep (a:List Pc) (i j k:Nat):Prop where
  ne:i≠j
  lo:i < a.length∨j < a.length
  kn:k≤a.length
  like:∀t,t < k→a[(i+t) % a.length]? =a[(j+t) % a.length]?
  out:∀p,p < a.length→p < i∨p < j→p≠i→p≠j→AA a p
  out1:∀p,p < a.length→p < i∨p < j→p≠min i j→AA a p
theorem Least.one {a w w':List Pc} (h:Least a w) (h':Least a w'):w=w':=by
  obtain ⟨⟨p,hp,rfl⟩,k⟩:=h
  obtain ⟨⟨p',hp',rfl⟩,k'⟩:=h'
  by_cases e:yx a p=yx a p'
  · exact e
  · rcases nC e with z | z
    · rw [k' p hp] at z;cases z
    · rw [k p' hp'] at z;cases z
end Nh
namespace NH
variable {α:Type} [DecidableEq α]
end NH
namespace NH
variable {α:Type} [DecidableEq α]
end NH
namespace Nh
open PySem L2 PL
def CordOk (c:List Pc):Prop:=∀p∈c,p.1 < 128∧p.2.natAbs < 2 ^ 100
theorem CordOk.n {c:List Pc} (h:CordOk c):NailsOk c:=fun p hp=>(h p hp).1
theorem CordOk.append {c d:List Pc} (h:CordOk c) (h':CordOk d):CordOk (c++d):=fun p hp=>(List.mem_append.mp hp).elim (h p) (h' p)
theorem CordOk.contr {c:List Pc} (h:CordOk c):CordOk (NH.contr c):=fun p hp=>by
  obtain ⟨q,hq,e⟩:=List.mem_map.mp hp
  subst e
  have:=h q (List.mem_reverse.mp hq)
  exact ⟨this.1,by simpa using this.2⟩
theorem CordOk.cutL {c:List Pc} (h:CordOk c) (lo hi:Option Int):CordOk (cutL c lo hi):=fun p hp=>h p (ni hp)
theorem ke:CordOk []:=fun _ z=>by cases z
theorem jy {i j:Int} (h1:i.natAbs < 2 ^ 20000) (h2:j.natAbs < 2 ^ 20000):bG i j=true:=by
  have hb:n6=((2 ^ 20000:Nat):Int):=by unfold n6;exact (Int.natCast_pow 2 20000).symm
  have e: -n6 < i∧i < n6∧ -n6 < j∧j < n6:=by
    rw [hb]
    generalize 2 ^ 20000=B at h1 h2
    omega
  unfold bG
  rw [decide_eq_true e,Bool.or_true]
end Nh
namespace NH
section
variable {α:Type} [DecidableEq α]
def aL:List α→List α→List (List α)
  | [],[]=>[[]]
  | a::u,[]=>(aL u []).map (a:: ·)
  | [],b::v=>(aL [] v).map (b:: ·)
  | a::u,b::v=>(aL u (b::v)).map (a:: ·)++(aL (a::u) v).map (b:: ·)++(if a=b then (aL u v).map (a:: ·) else [])
termination_by u v=>u.length+v.length
def nD (f:List α→Int) (L:List (List α)):Int:=(L.map f).sum
def Sw (u v:List α) (f:List α→Int):Int:=nD f (aL u v)
theorem kf (f:List α→Int) (g:List α→List α) (L:List (List α)):nD f (L.map g)=nD (fun w=>f (g w)) L:=by simp [nD,List.map_map,Function.comp_def]
theorem k8 (f:List α→Int) (L M:List (List α)):nD f (L++M)=nD f L+nD f M:=by simp [nD]
theorem k9 (f:List α→Int):Sw [] [] f=f []:=by simp [Sw,aL,nD]
theorem fq:∀(v:List α) (f:List α→Int),Sw [] v f=f v
  | [],f=>k9 f
  | b::v,f=>by
    have ih:=fq v fun w=>f (b::w)
    rw [Sw,aL,kf]
    exact ih
theorem dZ:∀(u:List α) (f:List α→Int),Sw u [] f=f u
  | [],f=>k9 f
  | b::v,f=>by
    have ih:=dZ v fun w=>f (b::w)
    rw [Sw,aL,kf]
    exact ih
theorem dU (a b:α) (u v:List α) (f:List α→Int):Sw (a::u) (b::v) f=Sw u (b::v) (fun w=>f (a::w))+Sw (a::u) v (fun w=>f (b::w))+if a=b then Sw u v (fun w=>f (a::w)) else 0:=by
  rw [Sw,aL,k8,k8,kf,kf]
  by_cases h:a=b
  · rw [if_pos h,if_pos h,kf];rfl
  · rw [if_neg h,if_neg h];rfl
theorem zj (u v:List α) (f g:List α→Int) (c:Int):Sw u v (fun w=>f w+c*g w)=Sw u v f+c*Sw u v g:=by
  unfold Sw nD
  induction aL u v with
  | nil=>simp
  | cons w L ih=>simp only [List.map_cons,List.sum_cons,ih];grind
theorem zk (u v:List α) (f g:List α→Int):Sw u v (fun w=>f w+g w)=Sw u v f+Sw u v g:=by
  have:=zj u v f g 1
  simpa using this
theorem tT (u v:List α):Sw u v (fun _=>0)=0:=by
  unfold Sw nD
  induction aL u v with
  | nil=>rfl
  | cons w L ih=>simp only [List.map_cons,List.sum_cons,ih];rfl
theorem iW (a b:α):∀(n:Nat) (u v:List α) (f:List α→Int),u.length+v.length≤n→
    Sw (u++[a]) (v++[b]) f=Sw u (v++[b]) (fun w=>f (w++[a]))+Sw (u++[a]) v (fun w=>f (w++[b]))+if a=b then Sw u v (fun w=>f (w++[a])) else 0
  | n,[],[],f,_=>by
    simp only [List.nil_append,dU,fq,dZ]
    simp only [List.cons_append,List.nil_append]
    by_cases h:a=b
    · simp [h]
    · simp [h];omega
  | n+1,[],d::v,f,h=>by
    have ih:=iW a b n [] v (fun w=>f (d::w)) (by simp at h ⊢;omega)
    simp only [List.nil_append,List.cons_append,dU,fq] at ih ⊢
    rw [ih]
    by_cases h1:a=b <;> by_cases h2:a=d <;> simp [h1,h2] <;> omega
  | n+1,c::u,[],f,h=>by
    have ih:=iW a b n u [] (fun w=>f (c::w)) (by simp at h ⊢;omega)
    simp only [List.nil_append,List.cons_append,dU,dZ] at ih ⊢
    rw [ih]
    by_cases h1:a=b <;> by_cases h2:c=b <;> simp [h1,h2] <;> omega
  | n+1,c::u,d::v,f,h=>by
    have i1:=iW a b n u (d::v) (fun w=>f (c::w)) (by simp at h ⊢;omega)
    have i2:=iW a b n (c::u) v (fun w=>f (d::w)) (by simp at h ⊢;omega)
    have i3:=iW a b n u v (fun w=>f (c::w)) (by simp at h ⊢;omega)
    simp only [List.cons_append] at i1 i2 i3 ⊢
    rw [dU c d (u++[a]) (v++[b]),i1,i2,i3,dU c d u (v++[b]),dU c d (u++[a]) v,dU c d u v]
    by_cases h1:a=b <;> by_cases h2:c=d <;> simp only [h1,h2,if_true,if_false,List.cons_append] <;> omega
  | 0,[],_::_,_,h=>by simp at h
  | 0,_::_,_,_,h=>by simp at h
theorem l_:∀(n:Nat) (u v:List α) (f:List α→Int),u.length+v.length≤n→Sw u v f=Sw v u f
  | n,[],v,f,_=>by rw [fq,dZ]
  | n,u,[],f,_=>by rw [fq,dZ]
  | n+1,a::u,b::v,f,h=>by
    rw [dU,dU,l_ n u (b::v) _ (by simp at h ⊢;omega),l_ n (a::u) v _ (by simp at h ⊢;omega),l_ n u v _ (by simp at h ⊢;omega)]
    by_cases e:a=b
    · subst e;simp;omega
    · have e':¬b=a:=fun z=>e z.symm
      simp [e,e'];omega
  | 0,_::_,_::_,_,h=>by simp at h
structure Mul (p:List α→Int):Prop where
  one:p []=1
  mul:∀u v,Sw u v p=p u*p v
def r_ (a:α) (p:List α→Int):List α→Int
  | []=>p []
  | x::w=>p (x::w)+if x=a then p w else 0
theorem wB (a b c:α) (u v:List α) (p:List α→Int):Sw (b::u) (c::v) (r_ a p)=Sw (b::u) (c::v) p+(if b=a then Sw u (c::v) p else 0)+(if c=a then Sw (b::u) v p else 0)+(if b=c∧b=a then Sw u v p else 0):=by
  have e:∀(x:α) (u v:List α),Sw u v (fun w=>r_ a p (x::w))=Sw u v (fun w=>p (x::w))+if x=a then Sw u v p else 0:=fun x u v=>by
    show Sw u v (fun w=>p (x::w)+if x=a then p w else 0)=_
    by_cases h:x=a
    · simp only [h,if_true];exact zk _ _ _ _
    · simp [h]
  rw [dU,dU,e,e,e]
  by_cases h1:b=c <;> by_cases h2:b=a <;> by_cases h3:c=a <;> simp [h1,h2,h3] <;> first | omega | (subst_vars;simp_all;try omega)
theorem vM (a:α) (p:List α→Int) (h:Mul p):Mul (r_ a p):=by
  refine ⟨h.one,fun u v=>?_⟩
  cases u with
  | nil=>rw [fq,show r_ a p []=1 from h.one];omega
  | cons b u=>
    cases v with
    | nil=>rw [dZ,show r_ a p []=1 from h.one];omega
    | cons c v=>
      rw [wB]
      simp only [h.mul,r_]
      by_cases h2:b=a <;> by_cases h3:c=a <;> simp [h2,h3] <;> try grind
      all_goals (first | grind | (subst_vars;simp_all;try grind))
theorem xR (a:α) (p:List α→Int) (h:Mul (r_ a p)):Mul p:=by
  refine ⟨h.one,?_⟩
  have go:∀(n:Nat) (u v:List α),u.length+v.length≤n→Sw u v p=p u*p v:=fun n=>by
    induction n with
    | zero=>
      intro u v hl
      cases u with
      | nil=>rw [fq,show p []=1 from h.one];omega
      | cons=>simp at hl
    | succ n ih=>
      intro u v hl
      cases u with
      | nil=>rw [fq,show p []=1 from h.one];omega
      | cons b u=>
        cases v with
        | nil=>rw [dZ,show p []=1 from h.one];omega
        | cons c v=>
          have z:=h.mul (b::u) (c::v)
          rw [wB] at z
          have i1:=ih u (c::v) (by simp at hl ⊢;omega)
          have i2:=ih (b::u) v (by simp at hl ⊢;omega)
          have i3:=ih u v (by simp at hl ⊢;omega)
          rw [i1,i2,i3] at z
          simp only [r_] at z
          clear ih
          by_cases h2:b=a <;> by_cases h3:c=a <;> simp [h2,h3] at z ⊢ <;> try grind
          all_goals (first | grind | (subst_vars;simp_all;try grind))
  exact fun u v=>go _ u v (Nat.le_refl _)
theorem tU (a:α) (p:List α→Int) (w:List α):conv (aY (a,1)) p w=r_ a p w:=by
  have p0:aY (a,1) ([]:List α)=1:=by simp [aY,aD]
  cases w with
  | nil=>simp [conv,p0,r_]
  | cons x w=>
    simp only [conv,p0,r_]
    have f:conv (fun u=>aY (a,1) (x::u)) p w=if x=a then p w else 0:=by
      by_cases e:x=a
      · subst e
        have f2:(fun u:List α=>aY (x,1) (x::u))=ja:=by
          funext u
          cases u with
          | nil=>simp [aY,ja,xQ]
          | cons y u=>
            have z:∀k:Nat,ch 1 (k+2)=0:=fun k=>by
              have:=cC 0 (k+1)
              rw [fb,fb] at this
              simpa using this
            simp only [aY,ja,List.length_cons,z]
            simp
        rw [f2,kc,if_pos rfl]
      · have f2:(fun u:List α=>aY (a,1) (x::u))=fun _=>0:=by funext u;simp [aY,e]
        rw [f2,c8,if_neg e]
    rw [f]
    omega
theorem rn (a:α) (p:List α→Int) (h:Mul p):∀t:Int,Mul (conv (aY (a,t)) p):=by
  have st:∀t:Int,r_ a (conv (aY (a,t)) p)=conv (aY (a,t+1)) p:=fun t=>by
    funext w
    rw [←tU,←hO]
    refine eI (fun v=>?_) (fun _=>rfl) w
    rw [nu,Int.add_comm]
  have z0:conv (aY (a,0)) p=p:=by
    funext w
    rw [eI (oN a) (fun _=>rfl),kc]
  have ups:∀n:Nat,Mul (conv (aY (a,(n:Int))) p):=fun n=>by
    induction n with
    | zero=>show Mul (conv (aY (a,0)) p);rw [z0];exact h
    | succ n ih=>
      have:=vM a _ ih
      rw [st] at this
      exact this
  have downs:∀n:Nat,Mul (conv (aY (a,-(n:Int))) p):=fun n=>by
    induction n with
    | zero=>show Mul (conv (aY (a,0)) p);rw [z0];exact h
    | succ n ih=>
      refine xR a _ ?_
      rw [st,show -((n+1:Nat):Int)+1= -(n:Int) by omega]
      exact ih
  intro t
  rcases Int.le_total 0 t with e | e
  · rw [show t=((t.toNat:Nat):Int) by omega];exact ups _
  · rw [show t= -(((-t).toNat:Nat):Int) by omega];exact downs _
theorem rq (c:List (α×Int)):Mul (fun w=>aG w c):=by
  induction c with
  | nil=>
    refine ⟨rfl,fun u v=>?_⟩
    show Sw u v ja=ja u*ja v
    cases u with
    | nil=>rw [fq];simp [ja]
    | cons a u=>
      cases v with
      | nil=>rw [dZ];simp [ja]
      | cons b v=>
        rw [dU]
        have z:∀(x:α) (u v:List α),Sw u v (fun w=>ja (x::w))=0:=fun x u v=>tT u v
        simp [z,ja,tT]
  | cons p c ih=>
    have:=rn p.1 _ ih p.2
    exact this
end
section
variable {α:Type} [DecidableEq α]
abbrev Tb (α:Type):=List (List α×Int)
def bS (D:Tb α) (k:List α):Int:=match D with
  | []=>0
  | p::D=>if p.1=k then p.2 else bS D k
def hW (D:Tb α) (k:List α):Bool:=D.any fun p=>decide (p.1=k)
def fJ (D:Tb α) (k:List α) (n:Int):Tb α:=if hW D k then D.map (fun p=>if p.1=k then (p.1,n) else p) else D++[(k,n)]
def fv (D:Tb α) (f:List α→Int):Int:=(D.map fun p=>p.2*f p.1).sum
def Nd (D:Tb α):Prop:=(D.map (·.1)).Nodup
theorem hasK_iff {D:Tb α} {k:List α}:hW D k=true↔k∈D.map (·.1):=by
  simp only [hW,List.any_eq_true,decide_eq_true_eq,List.mem_map]
theorem jz {D:Tb α} {k:List α} (h:k∉D.map (·.1)):bS D k=0:=by
  induction D with
  | nil=>rfl
  | cons p D ih=>
    simp only [List.map_cons,List.mem_cons,not_or] at h
    rw [bS,if_neg (fun z=>h.1 z.symm),ih h.2]
theorem ma {D:Tb α} (nd:Nd D) {p:List α×Int} (h:p∈D):bS D p.1=p.2:=by
  induction D with
  | nil=>cases h
  | cons q D ih=>
    simp only [Nd,List.map_cons,List.nodup_cons] at nd
    rcases List.mem_cons.mp h with e | h
    · subst e;rw [bS,if_pos rfl]
    · rw [bS,if_neg (fun z=>nd.1 (by rw [z];exact List.mem_map.mpr ⟨p,h,rfl⟩)),ih nd.2 h]
theorem k_ (D:Tb α) (k:List α) (n:Int):(fJ D k n).map (·.1)=if hW D k then D.map (·.1) else D.map (·.1)++[k]:=by
  unfold fJ
  split
  · rw [List.map_map]
    refine List.map_congr_left fun p _=>?_
    simp only [Function.comp]
    split <;> rfl
  · simp
theorem jA {D:Tb α} (h:Nd D) (k:List α) (n:Int):Nd (fJ D k n):=by
  unfold Nd
  rw [k_]
  split
  · exact h
  · rename_i e
    have e':k∉D.map (·.1):=fun z=>e (hasK_iff.mpr z)
    exact List.nodup_append.mpr ⟨h,by simp,fun a ha b hb=>by rw [List.mem_singleton.mp hb];exact fun z=>e' (z▸ha)⟩
theorem dD (p:List α×Int) (D:Tb α) (f:List α→Int):fv (p::D) f=p.2*f p.1+fv D f:=by simp [fv]
theorem tV {D:Tb α} (nd:Nd D) (k:List α) (n:Int) (f:List α→Int):fv (fJ D k n) f=fv D f+(n - bS D k)*f k:=by
  unfold fJ
  split
  · rename_i h
    induction D with
    | nil=>simp [hW] at h
    | cons p D ih=>
      simp only [Nd,List.map_cons,List.nodup_cons] at nd
      rw [List.map_cons,dD,dD]
      by_cases e:p.1=k
      · have hn:D.map (fun p=>if p.1=k then (p.1,n) else p)=D:=by
          refine (List.map_congr_left fun q hq=>?_).trans (List.map_id D)
          rw [if_neg (fun z=>nd.1 (List.mem_map.mpr ⟨q,hq,z.trans e.symm⟩))];rfl
        rw [hn,if_pos e,bS,if_pos e,e]
        grind
      · have hh:hW D k=true:=by
          simp only [hW,List.any_cons,Bool.or_eq_true,decide_eq_true_eq] at h
          exact h.resolve_left e
        rw [if_neg e,ih nd.2 hh,bS,if_neg e]
        omega
  · rename_i h
    have h':k∉D.map (·.1):=fun z=>h (hasK_iff.mpr z)
    rw [jz h']
    simp [fv]
theorem tW {D:Tb α} (nd:Nd D) (k:List α):fv D (fun w=>if w=k then 1 else 0)=bS D k:=by
  induction D with
  | nil=>rfl
  | cons p D ih=>
    simp only [Nd,List.map_cons,List.nodup_cons] at nd
    rw [dD,ih nd.2,bS]
    by_cases e:p.1=k
    · rw [if_pos e,if_pos e,jz (fun z=>nd.1 (e▸z))];omega
    · rw [if_neg e,if_neg e];omega
theorem rA {D G:Tb α} (nd:Nd D) (ng:Nd G) (zd:∀p∈D,p.2≠0) (zg:∀p∈G,p.2≠0) (h:∀k,bS D k=bS G k):D.Perm G:=by
  have mem:∀{D G:Tb α},Nd D→Nd G→(∀p∈D,p.2≠0)→(∀k,bS D k=bS G k)→∀p∈D,p∈G:=fun {D G} nd ng zd h p hp=>by
    have e:=h p.1
    rw [ma nd hp] at e
    by_cases hk:p.1∈G.map (·.1)
    · obtain ⟨q,hq,eq⟩:=List.mem_map.mp hk
      rw [←eq,ma ng hq] at e
      rw [show p=q from Prod.ext eq.symm e]
      exact hq
    · rw [jz hk] at e
      exact absurd e (zd p hp)
  have nd':D.Nodup:=(List.pairwise_map.mp nd).imp fun h z=>h (by rw [z])
  have ng':G.Nodup:=(List.pairwise_map.mp ng).imp fun h z=>h (by rw [z])
  exact (List.perm_ext_iff_of_nodup nd' ng').mpr fun p=>⟨mem nd ng zd h p,mem ng nd zg (fun k=>(h k).symm) p⟩
end
end NH
namespace NhLS
set_option autoImplicit false
open PySem PyProof.Rows
def vN:Bool→Keyed→Array Keyed→Nat→Nat→Nat→StateT SortSt Sem (Option Nat):=sortPriv% PySem.Builtin.gallop
def tX:Array Keyed→Array Keyed→StateT SortSt Sem (Array Keyed):=sortPriv% PySem.Builtin.mergeLo
def tY:Array Keyed→Array Keyed→StateT SortSt Sem (Array Keyed):=sortPriv% PySem.Builtin.mergeHi
def vO:Keyed:=(Value.none,Value.none)
def at' (a:Array Keyed) (i:Nat):Keyed:=a.getD i vO
theorem zn {a:Array Keyed} {i:Nat} (h:i < a.size):a[i]? =some (at' a i):=by simp [at',Array.getD,h]
structure Cmp (prog:Program) (w:World) (A:Around) (s:Shared) (κ:SortKind) (O:KeyOrd) (key:Keyed→O.α) (dom:Keyed→Prop):Prop where
  ask:∀(E:Value→Shared→Prop) (x y:Keyed) (Q:Bool→Shared→Prop),dom x→dom y→Q (O.blt (key x) (key y)) s→wpAny (model prog w) A (keyLt' κ x.1 y.1) Q E s
section
variable {prog:Program} {w:World} {A:Around} {E:Value→Shared→Prop} {s:Shared} {κ:SortKind} {O:KeyOrd} {key:Keyed→O.α} {dom:Keyed→Prop} {st:SortSt}
theorem tZ (C:Cmp prog w A s κ O key dom) {x y:Keyed} {Q:Option Bool→SortSt→Prop} (hk:kindOf st=κ) (dx:dom x) (dy:dom y) (h:Q (some (O.blt (key x) (key y))) st):wpS (model prog w) A E s (lt' x y) Q st:=by
  rw [lt'_eq]
  refine wpS_bind (wpS_get ?_)
  rw [hk]
  refine wpS_bind (wpS_lift (wpAny_attempt (C.ask _ _ _ _ dx dy ⟨rfl,?_⟩)))
  exact wpS_pure h
theorem eJ {arr:Array Keyed} {i:Nat} {Q:Keyed→SortSt→Prop} (hi:i < arr.size) (h:Q (at' arr i) st):wpS (model prog w) A E s (elem' arr i) Q st:=by
  rw [elem'_eq,zn hi]
  exact wpS_pure h
def eR (O:KeyOrd) (key:Keyed→O.α) (left:Bool) (k:Keyed) (arr:Array Keyed) (base i:Nat):Bool:=if left then O.blt (key (at' arr (base+i))) (key k) else !O.blt (key k) (key (at' arr (base+i)))
theorem fK (C:Cmp prog w A s κ O key dom) {left:Bool} {k:Keyed} {arr:Array Keyed} {base n hint:Nat} {Q:Option Nat→SortSt→Prop} (hk:kindOf st=κ) (hh:hint < n) (hb:base+n≤arr.size) (dk:dom k) (da:∀i,i < arr.size→dom (at' arr i))
    (mono:∀i j,i < j→j < n→eR O key left k arr base j=true→eR O key left k arr base i=true)
    (h:∀m,m≤n→(∀i,i < m→eR O key left k arr base i=true)→(∀i,m≤i→i < n→eR O key left k arr base i=false)→Q (some m) st):wpS (model prog w) A E s (vN left k arr base n hint) Q st:=by
  have bey:∀{i:Nat} {Q':Option Bool→SortSt→Prop},i < n→Q' (some (eR O key left k arr base i)) st→wpS (model prog w) A E s (elem' arr (base+i) >>= fun x=>if left=true then lt' x k else (lt' k x >>= fun r=>pure (r.map (!·)))) Q' st:=by
    intro i Q' hi hq
    refine wpS_bind (eJ (by lia) ?_)
    have dx:=da (base+i) (by lia)
    cases left with
    | true=>exact tZ C hk dx dk hq
    | false=>exact wpS_bind (tZ C hk dk dx (wpS_pure hq))
  refine wpS_bind (bey hh ?_)
  have up:∀i j,i≤j→j < n→eR O key left k arr base j=true→eR O key left k arr base i=true:=fun i j hij hj e=>by
    by_cases z:i=j
    · rw [z];exact e
    · exact mono i j (by exact Nat.lt_of_le_of_ne ‹_› ‹_›) hj e
  have dn:∀i j,i≤j→j < n→eR O key left k arr base i=false→eR O key left k arr base j=false:=fun i j hij hj e=>by
    cases z:eR O key left k arr base j with
    | false=>rfl
    | true=>rw [up i j hij hj z] at e;cases e
  have fin:∀{body:Nat→Option (Option Nat)×Nat×Nat→StateT SortSt Sem (ForInStep (Option (Option Nat)×Nat×Nat))} {cont:Option (Option Nat)×Nat×Nat→StateT SortSt Sem (Option Nat)},
      (∀lo,Q (some lo) st→wpS (model prog w) A E s (cont (none,lo,lo)) Q st)→
      (∀x lo hi (R:ForInStep (Option (Option Nat)×Nat×Nat)→SortSt→Prop),lo≥hi→R (.done (none,lo,hi)) st→wpS (model prog w) A E s (body x (none,lo,hi)) R st)→
      (∀x lo hi (R:ForInStep (Option (Option Nat)×Nat×Nat)→SortSt→Prop),lo < hi→hi≤n→R (.yield (if eR O key left k arr base (lo+(hi - lo) / 2)=true then (none,lo+(hi - lo) / 2+1,hi) else (none,lo,lo+(hi - lo) / 2))) st→wpS (model prog w) A E s (body x (none,lo,hi)) R st)→
      ∀lo hi,lo≤hi→hi≤n→(∀i,i < lo→eR O key left k arr base i=true)→(∀i,hi≤i→i < n→eR O key left k arr base i=false)→
      wpS (model prog w) A E s (forIn [0:n] (none,lo,hi) body >>= cont) Q st:=by
    intro body cont b3 b1 b2 lo hi f1 f2 f3 f4
    refine wpS_bind (wpS_mono (wpS_forRange (I:=fun x c st'=>st'=st∧∃lo hi,c=(none,lo,hi)∧lo≤hi∧hi≤n∧hi+x≤n+lo∧(∀i,i < lo→eR O key left k arr base i=true)∧(∀i,hi≤i→i < n→eR O key left k arr base i=false))
      (Q:=fun c st'=>st'=st∧∃lo,c=(none,lo,lo)∧lo≤n∧(∀i,i < lo→eR O key left k arr base i=true)∧(∀i,lo≤i→i < n→eR O key left k arr base i=false)) ?s1 ?s2 ⟨rfl,lo,hi,rfl,f1,f2,by exact Nat.le_add_right_of_le ‹_›,f3,f4⟩) ?s3)
    case s2=>
      rintro c st' ⟨rfl,l,o,rfl,h1,h2,h3,h4,h5⟩
      have:l=o:=by lia
      subst this
      exact ⟨rfl,l,rfl,h2,h4,h5⟩
    case s3=>
      rintro c st' ⟨rfl,l,rfl,h2,h4,h5⟩
      exact b3 l (h l h2 h4 h5)
    case s1=>
      rintro x c st' - hx ⟨rfl,l,o,rfl,h1,h2,h3,h4,h5⟩
      by_cases z:l≥o
      · have:l=o:=by exact Nat.le_antisymm ‹_› ‹_›
        subst this
        exact b1 x l l _ z ⟨rfl,l,rfl,h2,h4,h5⟩
      · refine b2 x l o _ (by exact Nat.lt_of_not_le ‹_›) h2 ?_
        cases e:eR O key left k arr base (l+(o - l) / 2) with
        | true=>exact ⟨rfl,_,_,rfl,by lia,by assumption,by lia,fun i hi=>up i _ (by exact Nat.le_of_lt_succ ‹_›) (by lia) e,h5⟩
        | false=>exact ⟨rfl,_,_,rfl,by exact Nat.le_add_right _ _,by lia,by lia,h4,fun i hi hn=>dn _ i hi hn e⟩
  cases eh:eR O key left k arr base hint with
  | true=>
    dsimp only
    rw [if_pos rfl]
    refine wpS_bind (wpS_mono (wpS_forRange (I:=fun x c st'=>st'=st∧∃l o,c=(none,l,o)∧l < o∧x < o∧hint+l < n∧eR O key left k arr base (hint+l)=true)
      (Q:=fun c st'=>st'=st∧∃l o,c=(none,l,o)∧l < o∧hint+l < n∧eR O key left k arr base (hint+l)=true∧(n - hint≤o∨eR O key left k arr base (hint+o)=false)) ?s1 ?s2 ⟨rfl,0,1,rfl,by exact Nat.lt_succ_self _,by exact Nat.lt_succ_self _,by assumption,eh⟩) ?s3)
    case s2=>
      rintro c st' ⟨rfl,l,o,rfl,h1,h2,h3,h4⟩
      exact ⟨rfl,l,o,rfl,h1,h3,h4, .inl (by lia)⟩
    case s1=>
      rintro x c st' - hx ⟨rfl,l,o,rfl,h1,h2,h3,h4⟩
      dsimp only
      by_cases z:o≥n - hint
      · rw [if_pos z]
        exact wpS_pure ⟨rfl,l,o,rfl,h1,h3,h4, .inl z⟩
      · rw [if_neg z]
        refine wpS_bind (bey (by lia) ?_)
        cases e:eR O key left k arr base (hint+o) with
        | true=>exact wpS_pure ⟨rfl,o,2*o+1,rfl,by lia,by lia,by lia,e⟩
        | false=>exact wpS_pure ⟨rfl,l,o,rfl,h1,h3,h4, .inr e⟩
    case s3=>
      rintro c st' ⟨rfl,l,o,rfl,h1,h3,h4,h5⟩
      dsimp only
      have f1:hint+l+1≤hint+min o (n - hint):=by lia
      have f2:hint+min o (n - hint)≤n:=by lia
      have f3:∀i,i < hint+l+1→eR O key left k arr base i=true:=fun i hi=>up i _ (by exact Nat.le_of_lt_succ ‹_›) h3 h4
      have f4:∀i,hint+min o (n - hint)≤i→i < n→eR O key left k arr base i=false:=fun i hi hn=>by
        rcases h5 with h5 | h5
        · lia
        · exact dn (hint+o) i (by lia) hn h5
      revert f1 f2 f3 f4
      generalize hint+l+1=lo
      generalize hint+min o (n - hint)=hi
      refine fin (fun lo hq=>wpS_pure hq) (fun x lo hi R hz hR=>?_) (fun x lo hi R hz hn hR=>?_) lo hi
      · dsimp only
        rw [if_pos hz]
        exact wpS_pure hR
      · dsimp only
        rw [if_neg (by exact Nat.not_le.mpr ‹_›)]
        refine wpS_bind (bey (by lia) ?_)
        cases e:eR O key left k arr base (lo+(hi - lo) / 2) with
        | true=>rw [e] at hR;exact wpS_pure hR
        | false=>rw [e] at hR;exact wpS_pure hR
  | false=>
    dsimp only
    rw [if_neg (by simp)]
    refine wpS_bind (wpS_mono (wpS_forRange (I:=fun x c st'=>st'=st∧∃l o,c=(none,l,o)∧l < o∧x < o∧l≤hint∧eR O key left k arr base (hint - l)=false)
      (Q:=fun c st'=>st'=st∧∃l o,c=(none,l,o)∧l < o∧l≤hint∧eR O key left k arr base (hint - l)=false∧(hint+1≤o∨eR O key left k arr base (hint - o)=true)) ?s1 ?s2 ⟨rfl,0,1,rfl,by exact Nat.lt_succ_self _,by exact Nat.lt_succ_self _,by exact Nat.zero_le _,eh⟩) ?s3)
    case s2=>
      rintro c st' ⟨rfl,l,o,rfl,h1,h2,h3,h4⟩
      exact ⟨rfl,l,o,rfl,h1,h3,h4, .inl (by lia)⟩
    case s1=>
      rintro x c st' - hx ⟨rfl,l,o,rfl,h1,h2,h3,h4⟩
      dsimp only
      by_cases z:o≥hint+1
      · rw [if_pos z]
        exact wpS_pure ⟨rfl,l,o,rfl,h1,h3,h4, .inl z⟩
      · rw [if_neg z]
        refine wpS_bind (bey (by exact Nat.lt_of_le_of_lt (Nat.sub_le _ _) ‹_›) ?_)
        cases e:eR O key left k arr base (hint - o) with
        | false=>exact wpS_pure ⟨rfl,o,2*o+1,rfl,by lia,by lia,by exact Nat.le_of_not_lt ‹_›,e⟩
        | true=>exact wpS_pure ⟨rfl,l,o,rfl,h1,h3,h4, .inr e⟩
    case s3=>
      rintro c st' ⟨rfl,l,o,rfl,h1,h3,h4,h5⟩
      dsimp only
      have f1:hint+1 - min o (hint+1)≤hint - l:=by omega
      have f2:hint - l≤n:=by lia
      have f3:∀i,i < hint+1 - min o (hint+1)→eR O key left k arr base i=true:=fun i hi=>by
        rcases h5 with h5 | h5
        · lia
        · exact up i (hint - o) (by lia) (by exact Nat.lt_of_le_of_lt (Nat.sub_le _ _) ‹_›) h5
      have f4:∀i,hint - l≤i→i < n→eR O key left k arr base i=false:=fun i hi hn=>dn _ i hi hn h4
      revert f1 f2 f3 f4
      generalize hint+1 - min o (hint+1)=lo
      generalize hint - l=hi
      refine fin (fun lo hq=>wpS_pure hq) (fun x lo hi R hz hR=>?_) (fun x lo hi R hz hn hR=>?_) lo hi
      · dsimp only
        rw [if_pos hz]
        exact wpS_pure hR
      · dsimp only
        rw [if_neg (by exact Nat.not_le.mpr ‹_›)]
        refine wpS_bind (bey (by lia) ?_)
        cases e:eR O key left k arr base (lo+(hi - lo) / 2) with
        | true=>rw [e] at hR;exact wpS_pure hR
        | false=>rw [e] at hR;exact wpS_pure hR
end
end NhLS
namespace NhLS
set_option autoImplicit false
open PySem PyProof.Rows
def Le (O:KeyOrd) (key:Keyed→O.α) (x y:Keyed):Prop:=O.blt (key y) (key x)=false
structure G (le:Keyed→Keyed→Prop) (T out ra rb:List Keyed):Prop where
  perm:(out++(ra++rb)).Perm T
  pa:(out++ra).Pairwise le
  pb:(out++rb).Pairwise le
def ft (le:Keyed→Keyed→Prop) (T l:List Keyed):Prop:=l.Perm T∧l.Pairwise le
section
variable {le:Keyed→Keyed→Prop} {T out ra rb p:List Keyed}
theorem G.takeA (g:G le T out (p++ra) rb) (h:∀x∈p,∀y∈rb,le x y):G le T (out++p) ra rb where
  perm:=by have:=g.perm;simpa [List.append_assoc] using this
  pa:=by have:=g.pa;simpa [List.append_assoc] using this
  pb:=by
    have h1:=g.pa
    have h2:=g.pb
    simp only [List.pairwise_append,List.mem_append] at h1 h2 ⊢
    refine ⟨⟨h1.1,h1.2.1.1,fun x hx y hy=>h1.2.2 x hx y (.inl hy)⟩,h2.2.1,fun x hx y hy=>?_⟩
    rcases hx with hx | hx
    · exact h2.2.2 x hx y hy
    · exact h x hx y hy
theorem G.takeB (g:G le T out ra (p++rb)) (h:∀x∈p,∀y∈ra,le x y):G le T (out++p) ra rb where
  perm:=by
    refine List.Perm.trans ?_ g.perm
    rw [List.append_assoc]
    refine List.Perm.append_left _ ?_
    rw [←List.append_assoc,←List.append_assoc]
    exact List.Perm.append_right _ List.perm_append_comm
  pb:=by have:=g.pb;simpa [List.append_assoc] using this
  pa:=by
    have h1:=g.pa
    have h2:=g.pb
    simp only [List.pairwise_append,List.mem_append] at h1 h2 ⊢
    refine ⟨⟨h2.1,h2.2.1.1,fun x hx y hy=>h2.2.2 x hx y (.inl hy)⟩,h1.2.1,fun x hx y hy=>?_⟩
    rcases hx with hx | hx
    · exact h1.2.2 x hx y hy
    · exact h x hx y hy
theorem G.endA (g:G le T out ra []):ft le T (out++ra):=⟨by have:=g.perm;simpa using this,g.pa⟩
theorem G.endB (g:G le T out [] rb):ft le T (out++rb):=⟨by have:=g.perm;simpa using this,g.pb⟩
end
section
variable {O:KeyOrd} {key:Keyed→O.α} {a b:Array Keyed} {T:List Keyed} {out:Array Keyed} {i j ia ib k:Nat} {x y z:Keyed}
theorem Le.refl (x:Keyed):Le O key x x:=O.irrefl _
theorem Le.trans (h1:Le O key x y) (h2:Le O key y z):Le O key x z:=KeyOrd.kle_trans (O:=O) (a:=key x) (b:=key y) (c:=key z) h1 h2
theorem Le.of (h:O.blt (key x) (key y)=true):Le O key x y:=KeyOrd.klt_asymm (O:=O) h
theorem gf (h:i < a.toList.length):a.toList[i]=at' a i:=by
  have h':i < a.size:=by simpa using h
  simp [at',Array.getD,h']
theorem md (h:y∈a.toList.drop i):∃j,i≤j∧j < a.size∧y=at' a j:=by
  obtain ⟨j,hj,e⟩:=List.mem_iff_getElem.mp h
  rw [List.length_drop,Array.length_toList] at hj
  refine ⟨i+j,by exact Nat.le_add_right _ _,by exact Nat.add_lt_of_lt_sub' ‹_›,?_⟩
  rw [List.getElem_drop] at e
  rw [←e,gf]
theorem ie (h:i < a.size):at' a i∈a.toList:=by
  rw [←gf (by simpa using h)]
  exact List.getElem_mem _
theorem la (pa:a.toList.Pairwise (Le O key)) (h:i≤j) (hj:j < a.size):Le O key (at' a i) (at' a j):=by
  by_cases e:i=j
  · rw [e];exact Le.refl _
  · have:=List.pairwise_iff_getElem.mp pa i j (by simp;exact Nat.lt_of_le_of_lt ‹_› ‹_›) (by simpa using hj) (by exact Nat.lt_of_le_of_ne ‹_› ‹_›)
    rw [gf,gf] at this
    exact this
theorem nE (pa:a.toList.Pairwise (Le O key)) (h:y∈a.toList.drop i):Le O key (at' a i) y:=by
  obtain ⟨j,h1,h2,rfl⟩:=md h
  exact la pa h1 h2
theorem p6 (h:i < a.size):a.toList.drop i=[at' a i]++a.toList.drop (i+1):=by
  rw [List.drop_eq_getElem_cons (by simpa using h),gf]
  rfl
theorem p7 (k:Nat):a.toList.drop i=(a.extract i (i+k)).toList++a.toList.drop (i+k):=by
  rw [Array.toList_extract,List.extract_eq_take_drop,Nat.add_sub_cancel_left,←List.drop_drop,List.take_append_drop]
theorem iX:(a.extract i).toList=a.toList.drop i:=by
  rw [Array.toList_extract,List.extract_eq_take_drop]
  exact List.take_of_length_le (by simp)
theorem me (h:a.size≤i):a.toList.drop i=[]:=List.drop_eq_nil_of_le (by simpa using h)
theorem t0 (h:x∈(a.extract i (i+k)).toList):∃j,j < k∧i+j < a.size∧x=at' a (i+j):=by
  rw [Array.toList_extract,List.extract_eq_take_drop,Nat.add_sub_cancel_left] at h
  obtain ⟨j,hj,e⟩:=List.mem_iff_getElem.mp h
  rw [List.length_take,List.length_drop,Array.length_toList] at hj
  refine ⟨j,by lia,by lia,?_⟩
  rw [List.getElem_take,List.getElem_drop] at e
  rw [←e,gf]
theorem G.pushA (g:G (Le O key) T out.toList (a.toList.drop ia) (b.toList.drop ib)) (h:ia < a.size) (hl:∀y∈b.toList.drop ib,Le O key (at' a ia) y):G (Le O key) T (out.push (at' a ia)).toList (a.toList.drop (ia+1)) (b.toList.drop ib):=by
  rw [p6 h] at g
  rw [Array.toList_push]
  exact g.takeA fun x hx y hy=>by rw [List.mem_singleton.mp hx];exact hl y hy
theorem G.pushB (g:G (Le O key) T out.toList (a.toList.drop ia) (b.toList.drop ib)) (h:ib < b.size) (hl:∀y∈a.toList.drop ia,Le O key (at' b ib) y):G (Le O key) T (out.push (at' b ib)).toList (a.toList.drop ia) (b.toList.drop (ib+1)):=by
  rw [p6 h] at g
  rw [Array.toList_push]
  exact g.takeB fun x hx y hy=>by rw [List.mem_singleton.mp hx];exact hl y hy
theorem G.blkA (g:G (Le O key) T out.toList (a.toList.drop ia) (b.toList.drop ib)) (k:Nat) (hl:∀j,j < k→ia+j < a.size→∀y∈b.toList.drop ib,Le O key (at' a (ia+j)) y):G (Le O key) T (out++a.extract ia (ia+k)).toList (a.toList.drop (ia+k)) (b.toList.drop ib):=by
  rw [p7 k] at g
  rw [Array.toList_append]
  exact g.takeA fun x hx y hy=>by obtain ⟨j,h1,h2,rfl⟩:=t0 hx;exact hl j h1 h2 y hy
theorem G.blkB (g:G (Le O key) T out.toList (a.toList.drop ia) (b.toList.drop ib)) (k:Nat) (hl:∀j,j < k→ib+j < b.size→∀y∈a.toList.drop ia,Le O key (at' b (ib+j)) y):G (Le O key) T (out++b.extract ib (ib+k)).toList (a.toList.drop ia) (b.toList.drop (ib+k)):=by
  rw [p7 (a:=b) k] at g
  rw [Array.toList_append]
  exact g.takeB fun x hx y hy=>by obtain ⟨j,h1,h2,rfl⟩:=t0 hx;exact hl j h1 h2 y hy
theorem G.doneB (g:G (Le O key) T out.toList (a.toList.drop ia) (b.toList.drop ib)) (h:b.size≤ib):ft (Le O key) T (out++a.extract ia++b.extract ib).toList:=by
  rw [Array.toList_append,Array.toList_append,iX,iX,me h,List.append_nil]
  rw [me h] at g
  exact g.endA
theorem G.doneA (g:G (Le O key) T out.toList (a.toList.drop ia) (b.toList.drop ib)) (h:a.size≤ia):ft (Le O key) T (out++a.extract ia++b.extract ib).toList:=by
  rw [Array.toList_append,Array.toList_append,iX,iX,me h,List.append_nil]
  rw [me h] at g
  exact g.endB
theorem G.lastA (g:G (Le O key) T out.toList (a.toList.drop ia) (b.toList.drop ib)) (h:ia+1=a.size) (h1:∀y∈b.toList,Le O key y (at' a (a.size - 1))):ft (Le O key) T (out++b.extract ib++a.extract ia).toList:=by
  rw [Array.toList_append,Array.toList_append,iX,iX]
  have g':G (Le O key) T out.toList (a.toList.drop ia) (b.toList.drop ib++[]):=by rw [List.append_nil];exact g
  refine (g'.takeB fun x hx y hy=>?_).endA
  obtain ⟨j,q1,q2,rfl⟩:=md hy
  rw [show j=a.size - 1 by lia]
  exact h1 x (List.mem_of_mem_drop hx)
end
def SS (st st':SortSt):Prop:=∃g,st'=SortSt.mk' (kindOf st) (arrOf st) (pendingOf st) g (failedOf st)
theorem SS.refl (st:SortSt):SS st st:=⟨gallopOf st,rfl⟩
theorem SS.kind {st st':SortSt} (h:SS st st'):kindOf st'=kindOf st:=by obtain ⟨g,rfl⟩:=h;rfl
section
variable {prog:Program} {w:World} {A:Around} {E:Value→Shared→Prop} {s:Shared} {κ:SortKind} {O:KeyOrd} {key:Keyed→O.α} {dom:Keyed→Prop} {st:SortSt}
def zo:Nat→StateT SortSt Sem Unit:=sortPriv% PySem.Builtin.setMinGallop
theorem mf {st':SortSt} {g:Nat} {Q:Unit→SortSt→Prop} (hs:SS st st') (h:∀st2,SS st st2→Q () st2):wpS (model prog w) A E s (zo g) Q st':=
  wpS_modify (h _ (by obtain ⟨g',rfl⟩:=hs;exact ⟨g,rfl⟩))
theorem aN {α:Type} {c:Prop} [Decidable c] {x y:StateT SortSt Sem α} {Q:α→SortSt→Prop} (hc:c) (h:wpS (model prog w) A E s x Q st):wpS (model prog w) A E s (if c then x else y) Q st:=by rw [if_pos hc];exact h
theorem aK {α:Type} {c:Prop} [Decidable c] {x y:StateT SortSt Sem α} {Q:α→SortSt→Prop} (hc:¬c) (h:wpS (model prog w) A E s y Q st):wpS (model prog w) A E s (if c then x else y) Q st:=by rw [if_neg hc];exact h
theorem xS {α:Type} {m:StateT SortSt Sem α} {Q:α→SortSt→Prop} (h:∀R,R=Q→wpS (model prog w) A E s m R st):wpS (model prog w) A E s m Q st:=h Q rfl
theorem zp {α:Type} {c:Prop} [Decidable c] (f:Nat→StateT SortSt Sem α) {x y:Nat} {Q:α→SortSt→Prop} (h:∀m,wpS (model prog w) A E s (f m) Q st):wpS (model prog w) A E s (if c then f x else f y) Q st:=by
  split <;> exact h _
theorem rB (C:Cmp prog w A s κ O key dom) {a b:Array Keyed} {Q:Array Keyed→SortSt→Prop} (hk:kindOf st=κ) (da:∀x∈a.toList,dom x) (db:∀x∈b.toList,dom x) (ha:0 < a.size) (hb:0 < b.size)
    (pa:a.toList.Pairwise (Le O key)) (pb:b.toList.Pairwise (Le O key)) (h0:O.blt (key (at' b 0)) (key (at' a 0))=true) (h1:∀y∈b.toList,Le O key y (at' a (a.size - 1)))
    (h:∀r st',SS st st'→ft (Le O key) (a.toList++b.toList) r.toList→Q r st'):wpS (model prog w) A E s (tX a b) Q st:=by
  refine wpS_bind (wpS_lift (wpAny_rule ⟨rfl,?_⟩))
  refine wpS_bind (eJ hb ?_)
  obtain ⟨T,hT⟩:∃T,T=a.toList++b.toList:=⟨_,rfl⟩
  rw [←hT] at h
  have g0:G (Le O key) T (#[at' b 0]:Array Keyed).toList (a.toList.drop 0) (b.toList.drop 1):=by
    have q:G (Le O key) T (#[]:Array Keyed).toList (a.toList.drop 0) (b.toList.drop 0):=⟨by simp [hT],by simpa using pa,by simpa using pb⟩
    exact q.pushB hb fun y hy=>(Le.of h0).trans (nE pa hy)
  have dA:∀i,i < a.size→dom (at' a i):=fun i hi=>da _ (ie hi)
  have dB:∀i,i < b.size→dom (at' b i):=fun i hi=>db _ (ie hi)
  extract_lets o0 i0 i1
  by_cases e1:(1 == b.size)=true
  · refine aN e1 ?_
    exact wpS_pure (h _ st (SS.refl _) (g0.doneB (by simp at e1;exact Nat.le_of_eq (Eq.symm ‹_›))))
  refine aK e1 ?_
  by_cases e2:(0+1 == a.size)=true
  · refine aN e2 ?_
    exact wpS_pure (h _ st (SS.refl _) (g0.lastA (by simpa using e2) h1))
  refine aK e2 ?_
  refine wpS_bind (wpS_get ?_)
  refine wpS_bind (wpS_mono (wpS_forRange (I:=fun x c st'=>SS st st'∧∃out ia ib mg,c=(none,out,ia,ib,mg)∧ia+1 < a.size∧ib < b.size∧x < ia+ib∧G (Le O key) T out.toList (a.toList.drop ia) (b.toList.drop ib))
    (Q:=fun c st'=>SS st st'∧∃r o,c=(some r,o)∧ft (Le O key) T r.toList) ?s1 ?s2 ⟨SS.refl _,_,0,1,_,rfl,by simp at e2;exact Nat.lt_of_le_of_ne ‹_› ‹_›,by simp at e1;exact Nat.lt_of_le_of_ne ‹_› ‹_›,by exact Nat.lt_succ_self _,g0⟩) ?s3)
  case s3=>
    rintro c st' ⟨hs,r,o,rfl,hg⟩
    exact wpS_pure (h r st' hs hg)
  case s2=>
    rintro c st' ⟨hs,out,ia,ib,mg,rfl,q1,q2,q3,g⟩
    lia
  case s1=>
    rintro x c st1 - hx ⟨hs,out,ia,ib,mg,rfl,q1,q2,q3,g⟩
    refine wpS_bind (wpS_mono (wpS_forRange (I:=fun y c st'=>SS st st'∧∃out ia ib ac bc,c=(none,out,ia,ib,ac,bc)∧ia+1 < a.size∧ib < b.size∧x < ia+ib∧(y=0∨x+1 < ia+ib)∧G (Le O key) T out.toList (a.toList.drop ia) (b.toList.drop ib))
      (Q:=fun c st'=>SS st st'∧((∃r o,c=(some r,o)∧ft (Le O key) T r.toList)∨∃out ia ib ac bc,c=(none,out,ia,ib,ac,bc)∧ia+1 < a.size∧ib < b.size∧x+1 < ia+ib∧G (Le O key) T out.toList (a.toList.drop ia) (b.toList.drop ib))) ?t1 ?t2 ⟨hs,out,ia,ib,0,0,rfl,q1,q2,q3, .inl rfl,g⟩) ?t3)
    case t2=>
      rintro c st' ⟨hs,out,ia,ib,ac,bc,rfl,q1,q2,q3,q4,g⟩
      exact ⟨hs, .inr ⟨out,ia,ib,ac,bc,rfl,q1,q2,by lia,g⟩⟩
    case t1=>
      rintro y c st2 - hy ⟨hs,out,ia,ib,ac,bc,rfl,q1,q2,q3,q4,g⟩
      have q0:ia < a.size:=by exact Nat.lt_of_succ_lt ‹_›
      refine wpS_bind (eJ q2 ?_)
      refine wpS_bind (eJ q0 ?_)
      refine wpS_bind (tZ C (hs.kind.trans hk) (dB _ q2) (dA _ q0) ?_)
      cases e:O.blt (key (at' b ib)) (key (at' a ia)) with
      | true=>
        refine wpS_bind (eJ q2 ?_)
        have g':=g.pushB q2 (fun y hy=>(Le.of e).trans (nE pa hy))
        by_cases z:(ib+1 == b.size)=true
        · exact aN z (wpS_pure ⟨hs, .inl ⟨_,_,rfl,g'.doneB (by simp at z;exact Nat.le_of_eq (Eq.symm ‹_›))⟩⟩)
        · refine aK z ?_
          have z':ib+1 < b.size:=by simp at z;exact Nat.lt_of_le_of_ne ‹_› ‹_›
          dsimp only
          split
          · exact wpS_pure ⟨hs, .inr ⟨_,_,_,_,_,rfl,q1,z',by exact Nat.succ_lt_succ ‹_›,g'⟩⟩
          · exact wpS_pure ⟨hs,_,_,_,_,_,rfl,q1,z',by exact Nat.lt_succ_of_lt ‹_›, .inr (by exact Nat.succ_lt_succ ‹_›),g'⟩
      | false=>
        refine wpS_bind (eJ q0 ?_)
        have g':=g.pushA (by assumption) (fun y hy=>Le.trans e (nE pb hy))
        by_cases z:(ia+1+1 == a.size)=true
        · exact aN z (wpS_pure ⟨hs, .inl ⟨_,_,rfl,g'.lastA (by simpa using z) h1⟩⟩)
        · refine aK z ?_
          have z':ia+1+1 < a.size:=by simp at z;exact Nat.lt_of_le_of_ne ‹_› ‹_›
          dsimp only
          split
          · exact wpS_pure ⟨hs, .inr ⟨_,_,_,_,_,rfl,z',q2,by lia,g'⟩⟩
          · exact wpS_pure ⟨hs,_,_,_,_,_,rfl,z',q2,by lia, .inr (by lia),g'⟩
    case t3=>
      rintro c st2 ⟨hs,⟨r,o,rfl,hg⟩ | ⟨out,ia,ib,ac,bc,rfl,q1,q2,q3,g⟩⟩
      · exact wpS_pure ⟨hs,r,_,rfl,hg⟩
      · refine wpS_bind (wpS_lift (wpAny_rule ⟨rfl,?_⟩))
        refine wpS_bind (wpS_mono (wpS_forRange (I:=fun y c st'=>SS st st'∧∃out ia ib mg ac bc,c=(none,out,ia,ib,mg,ac,bc)∧ia+1 < a.size∧ib < b.size∧x+1 < ia+ib∧G (Le O key) T out.toList (a.toList.drop ia) (b.toList.drop ib))
          (Q:=fun c st'=>SS st st'∧((∃r o,c=(some r,o)∧ft (Le O key) T r.toList)∨∃out ia ib mg ac bc,c=(none,out,ia,ib,mg,ac,bc)∧ia+1 < a.size∧ib < b.size∧x+1 < ia+ib∧G (Le O key) T out.toList (a.toList.drop ia) (b.toList.drop ib))) ?u1 ?u2 ⟨hs,out,ia,ib,_,ac,bc,rfl,q1,q2,q3,g⟩) ?u3)
        case u2=>
          rintro c st' ⟨hs,out,ia,ib,mg,ac,bc,rfl,q1,q2,q3,g⟩
          exact ⟨hs, .inr ⟨out,ia,ib,mg,ac,bc,rfl,q1,q2,by assumption,g⟩⟩
        case u3=>
          rintro c st3 ⟨hs,⟨r,o,rfl,hg⟩ | ⟨out,ia,ib,mg,ac,bc,rfl,q1,q2,q3,g⟩⟩
          · exact wpS_pure ⟨hs,r,_,rfl,hg⟩
          · exact wpS_bind (mf hs fun st4 h4=>wpS_pure ⟨h4,out,ia,ib,_,rfl,q1,q2,q3,g⟩)
        case u1=>
          rintro y c st3 - hy ⟨hs,out,ia,ib,mg,ac,bc,rfl,q1,q2,q3,g⟩
          refine xS fun R hR=>?_
          have Rd:∀r o st',SS st st'→ft (Le O key) T r.toList→R (.done (some r,o)) st':=fun r o st' a1 a2=>by rw [hR];exact ⟨a1, .inl ⟨r,o,rfl,a2⟩⟩
          have Rn:∀out ia ib mg ac bc st',SS st st'→ia+1 < a.size→ib < b.size→x+1 < ia+ib→G (Le O key) T out.toList (a.toList.drop ia) (b.toList.drop ib)→R (.done (none,out,ia,ib,mg,ac,bc)) st':=
            fun out ia ib mg ac bc st' a1 a2 a3 a4 a5=>by rw [hR];exact ⟨a1, .inr ⟨_,_,_,_,_,_,rfl,a2,a3,a4,a5⟩⟩
          have Ry:∀out ia ib mg ac bc st',SS st st'→ia+1 < a.size→ib < b.size→x+1 < ia+ib→G (Le O key) T out.toList (a.toList.drop ia) (b.toList.drop ib)→R (.yield (none,out,ia,ib,mg,ac,bc)) st':=
            fun out ia ib mg ac bc st' a1 a2 a3 a4 a5=>by rw [hR];exact ⟨a1,_,_,_,_,_,_,rfl,a2,a3,a4,a5⟩
          clear hR
          extract_lets
          rename Unit→Nat→_=>jp
          refine zp (jp ()) fun mg'=>?_
          refine wpS_bind (mf hs fun st4 h4=>?_)
          refine wpS_bind (eJ q2 ?_)
          refine wpS_bind (fK C (base:=ia) (n:=a.size - ia) (hint:=0) (h4.kind.trans hk) (by exact Nat.sub_pos_of_lt (Nat.lt_of_succ_lt ‹_›)) (by exact Nat.le_of_eq (Nat.add_sub_of_le (Nat.le_of_lt (Nat.lt_of_succ_lt ‹_›)))) (dB _ q2) dA ?m1 fun k hk1 hk2 hk3=>?_)
          case m1=>
            intro i j hij hj e
            simp only [eR,Bool.false_eq_true,if_false,Bool.not_eq_true'] at e ⊢
            exact (la pa (by lia) (by exact Nat.add_lt_of_lt_sub' ‹_›):Le O key (at' a (ia+i)) (at' a (ia+j))).trans e
          simp only [eR,Bool.false_eq_true,if_false,Bool.not_eq_true',Bool.not_eq_false'] at hk2 hk3
          dsimp -zeta only
          extract_lets
          rename Unit→Array Keyed→Nat→_=>jp1
          have J1:∀(out:Array Keyed) (ia:Nat),ia+1 < a.size→x+1 < ia+ib→G (Le O key) T out.toList (a.toList.drop ia) (b.toList.drop ib)→(∀y∈a.toList.drop ia,Le O key (at' b ib) y)→wpS (model prog w) A E s (jp1 () out ia) R st4:=by
            intro out ia q1 q3 g hl
            have q0:ia < a.size:=by exact Nat.lt_of_succ_lt ‹_›
            refine wpS_bind (eJ q2 ?_)
            have g':=g.pushB q2 hl
            by_cases z:(ib+1 == b.size)=true
            · exact aN z (wpS_pure (Rd _ _ _ h4 (g'.doneB (by simp at z;exact Nat.le_of_eq (Eq.symm ‹_›)))))
            refine aK z ?_
            have z':ib+1 < b.size:=by simp at z;exact Nat.lt_of_le_of_ne ‹_› ‹_›
            refine wpS_bind (eJ q0 ?_)
            refine wpS_bind (fK C (base:=ib+1) (n:=b.size - (ib+1)) (hint:=0) (h4.kind.trans hk) (by exact Nat.sub_pos_of_lt ‹_›) (by exact Nat.le_of_eq (Nat.add_sub_of_le ‹_›)) (dA _ q0) dB ?m2 fun k' hk1' hk2' hk3'=>?_)
            case m2=>
              intro i j hij hj e
              simp only [eR,if_true] at e ⊢
              exact KeyOrd.klt_of_kle_of_klt (O:=O) (la pb (by lia) (by exact Nat.add_lt_of_lt_sub' ‹_›):Le O key (at' b (ib+1+i)) (at' b (ib+1+j))) e
            simp only [eR,if_true] at hk2' hk3'
            dsimp -zeta only
            extract_lets
            rename Unit→Array Keyed→Nat→_=>jp2
            have J2:∀(out:Array Keyed) (ib':Nat),ib' < b.size→x+1 < ia+ib'→G (Le O key) T out.toList (a.toList.drop ia) (b.toList.drop ib')→(∀y∈b.toList.drop ib',Le O key (at' a ia) y)→wpS (model prog w) A E s (jp2 () out ib') R st4:=by
              intro out ib' p2 p3 g hl
              refine wpS_bind (eJ q0 ?_)
              have g':=g.pushA q0 hl
              by_cases z:(ia+1+1 == a.size)=true
              · exact aN z (wpS_pure (Rd _ _ _ h4 (g'.lastA (by simpa using z) h1)))
              refine aK z ?_
              have z':ia+1+1 < a.size:=by simp at z;exact Nat.lt_of_le_of_ne ‹_› ‹_›
              by_cases z2:(decide (k < 7)&&decide (k' < 7))=true
              · exact aN z2 (wpS_pure (Rn _ _ _ _ _ _ _ h4 z' p2 (by lia) g'))
              · exact aK z2 (wpS_pure (Ry _ _ _ _ _ _ _ h4 z' p2 (by lia) g'))
            clear_value jp2
            have tl:∀y∈b.toList.drop (ib+1+k'),Le O key (at' a ia) y:=fun y hy=>by
              obtain ⟨j,r1,r2,rfl⟩:=md hy
              have:=hk3' (j - (ib+1)) (by exact Nat.le_sub_of_add_le' ‹_›) (by exact Nat.sub_lt_sub_right (Nat.le_trans (Nat.le_add_right _ _) ‹_›) ‹_›)
              rwa [show ib+1+(j - (ib+1))=j by exact Nat.add_sub_of_le (Nat.le_trans (Nat.le_add_right _ _) ‹_›)] at this
            by_cases z2:k' > 0
            · refine aN z2 ?_
              have g2:=g'.blkB k' fun j j1 j2 y hy=>(Le.of (hk2' j j1)).trans (nE pa hy)
              by_cases z3:(ib+1+k' == b.size)=true
              · exact aN z3 (wpS_pure (Rd _ _ _ h4 (g2.doneB (by simp at z3;exact Nat.le_of_eq (Eq.symm ‹_›)))))
              · exact aK z3 (J2 _ (ib+1+k') (by simp at z3;lia) (by lia) g2 tl)
            · have k0:k'=0:=by exact Nat.eq_zero_of_not_pos ‹_›
              subst k0
              exact aK z2 (J2 _ (ib+1) z' (by exact Nat.lt_succ_of_lt ‹_›) g' tl)
          clear_value jp1
          have tl:∀y∈a.toList.drop (ia+k),Le O key (at' b ib) y:=fun y hy=>by
            obtain ⟨j,r1,r2,rfl⟩:=md hy
            have:=hk3 (j - ia) (by exact Nat.le_sub_of_add_le' ‹_›) (by exact Nat.sub_lt_sub_right (Nat.le_trans (Nat.le_add_right _ _) ‹_›) ‹_›)
            rw [show ia+(j - ia)=j by exact Nat.add_sub_of_le (Nat.le_trans (Nat.le_add_right _ _) ‹_›)] at this
            exact Le.of this
          by_cases z2:k > 0
          · refine aN z2 ?_
            have g2:=g.blkA k fun j j1 j2 y hy=>Le.trans (hk2 j j1) (nE pb hy)
            by_cases z3:(ia+k+1 == a.size)=true
            · exact aN z3 (wpS_pure (Rd _ _ _ h4 (g2.lastA (by simpa using z3) h1)))
            refine aK z3 ?_
            by_cases z4:(ia+k == a.size)=true
            · exact aN z4 (wpS_pure (Rd _ _ _ h4 (g2.doneA (by simp at z4;exact Nat.le_of_eq (Eq.symm ‹_›)))))
            · exact aK z4 (J1 _ (ia+k) (by simp at z3 z4;lia) (by lia) g2 tl)
          · have k0:k=0:=by exact Nat.eq_zero_of_not_pos ‹_›
            subst k0
            exact aK z2 (J1 _ ia q1 q3 g tl)
end
end NhLS
namespace NhLS
set_option autoImplicit false
open PySem PyProof.Rows
structure H (le:Keyed→Keyed→Prop) (T ra rb out:List Keyed):Prop where
  perm:(ra++rb++out).Perm T
  pa:(ra++out).Pairwise le
  pb:(rb++out).Pairwise le
section
variable {le:Keyed→Keyed→Prop} {T out ra rb p:List Keyed}
theorem H.takeA (g:H le T (ra++p) rb out) (h:∀x∈p,∀y∈rb,le y x):H le T ra rb (p++out) where
  perm:=by
    refine List.Perm.trans ?_ g.perm
    rw [←List.append_assoc]
    refine List.Perm.append_right _ ?_
    rw [List.append_assoc,List.append_assoc]
    exact List.Perm.append_left _ List.perm_append_comm
  pa:=by have:=g.pa;simpa [List.append_assoc] using this
  pb:=by
    have h1:=g.pa
    have h2:=g.pb
    simp only [List.pairwise_append,List.mem_append] at h1 h2 ⊢
    refine ⟨h2.1,⟨h1.1.2.1,h1.2.1,fun x hx y hy=>h1.2.2 x (.inr hx) y hy⟩,fun x hx y hy=>?_⟩
    rcases hy with hy | hy
    · exact h y hy x hx
    · exact h2.2.2 x hx y hy
theorem H.takeB (g:H le T ra (rb++p) out) (h:∀x∈p,∀y∈ra,le y x):H le T ra rb (p++out) where
  perm:=by have:=g.perm;simpa [List.append_assoc] using this
  pb:=by have:=g.pb;simpa [List.append_assoc] using this
  pa:=by
    have h1:=g.pa
    have h2:=g.pb
    simp only [List.pairwise_append,List.mem_append] at h1 h2 ⊢
    refine ⟨h1.1,⟨h2.1.2.1,h2.2.1,fun x hx y hy=>h2.2.2 x (.inr hx) y hy⟩,fun x hx y hy=>?_⟩
    rcases hy with hy | hy
    · exact h y hy x hx
    · exact h1.2.2 x hx y hy
theorem H.endA (g:H le T ra [] out):ft le T (ra++out):=⟨by have:=g.perm;simpa using this,g.pa⟩
theorem H.endB (g:H le T [] rb out):ft le T (rb++out):=⟨by have:=g.perm;simpa using this,g.pb⟩
end
section
variable {O:KeyOrd} {key:Keyed→O.α} {a b:Array Keyed} {T:List Keyed} {out:Array Keyed} {i j na nb k:Nat} {x y z:Keyed}
theorem mh (h:y∈a.toList.take i):∃j,j < i∧j < a.size∧y=at' a j:=by
  obtain ⟨j,hj,e⟩:=List.mem_iff_getElem.mp h
  rw [List.length_take,Array.length_toList] at hj
  refine ⟨j,by lia,by lia,?_⟩
  rw [List.getElem_take] at e
  rw [←e,gf]
theorem p8 (pa:a.toList.Pairwise (Le O key)) (hi:i < a.size) (h:y∈a.toList.take (i+1)):Le O key y (at' a i):=by
  obtain ⟨j,h1,h2,rfl⟩:=mh h
  exact la pa (by exact Nat.le_of_lt_succ ‹_›) hi
theorem p9 (h:i < a.size):a.toList.take (i+1)=a.toList.take i++[at' a i]:=by
  rw [List.take_succ_eq_append_getElem (by simpa using h),gf]
theorem mi (h:i≤j):a.toList.take j=a.toList.take i++(a.extract i j).toList:=by
  rw [Array.toList_extract,List.extract_eq_take_drop,←List.take_add]
  congr 1
  lia
theorem iY:(a.extract 0 i).toList=a.toList.take i:=by
  rw [Array.toList_extract,List.extract_eq_take_drop]
  rfl
theorem mj (h:x∈(a.extract i j).toList):∃k,i≤k∧k < j∧k < a.size∧x=at' a k:=by
  rw [Array.toList_extract,List.extract_eq_take_drop] at h
  obtain ⟨k,hk,e⟩:=List.mem_iff_getElem.mp h
  rw [List.length_take,List.length_drop,Array.length_toList] at hk
  refine ⟨i+k,by exact Nat.le_add_right _ _,by lia,by lia,?_⟩
  rw [List.getElem_take,List.getElem_drop] at e
  rw [←e,gf]
theorem H.pushA (g:H (Le O key) T (a.toList.take (na+1)) (b.toList.take nb) out.toList.reverse) (h:na < a.size) (hl:∀y∈b.toList.take nb,Le O key y (at' a na)):H (Le O key) T (a.toList.take na) (b.toList.take nb) (out.push (at' a na)).toList.reverse:=by
  rw [p9 h] at g
  rw [Array.toList_push,List.reverse_append]
  exact g.takeA fun x hx y hy=>by rw [List.mem_singleton.mp hx];exact hl y hy
theorem H.pushB (g:H (Le O key) T (a.toList.take na) (b.toList.take (nb+1)) out.toList.reverse) (h:nb < b.size) (hl:∀y∈a.toList.take na,Le O key y (at' b nb)):H (Le O key) T (a.toList.take na) (b.toList.take nb) (out.push (at' b nb)).toList.reverse:=by
  rw [p9 h] at g
  rw [Array.toList_push,List.reverse_append]
  exact g.takeB fun x hx y hy=>by rw [List.mem_singleton.mp hx];exact hl y hy
theorem H.blkA (g:H (Le O key) T (a.toList.take na) (b.toList.take nb) out.toList.reverse) (h:i≤na) (hl:∀j,i≤j→j < na→j < a.size→∀y∈b.toList.take nb,Le O key y (at' a j)):H (Le O key) T (a.toList.take i) (b.toList.take nb) (out++(a.extract i na).reverse).toList.reverse:=by
  rw [mi h] at g
  rw [Array.toList_append,List.reverse_append,Array.toList_reverse,List.reverse_reverse]
  exact g.takeA fun x hx y hy=>by obtain ⟨j,h1,h2,h3,rfl⟩:=mj hx;exact hl j h1 h2 h3 y hy
theorem H.blkB (g:H (Le O key) T (a.toList.take na) (b.toList.take nb) out.toList.reverse) (h:i≤nb) (hl:∀j,i≤j→j < nb→j < b.size→∀y∈a.toList.take na,Le O key y (at' b j)):H (Le O key) T (a.toList.take na) (b.toList.take i) (out++(b.extract i nb).reverse).toList.reverse:=by
  rw [mi (a:=b) h] at g
  rw [Array.toList_append,List.reverse_append,Array.toList_reverse,List.reverse_reverse]
  exact g.takeB fun x hx y hy=>by obtain ⟨j,h1,h2,h3,rfl⟩:=mj hx;exact hl j h1 h2 h3 y hy
theorem H.doneA (g:H (Le O key) T (a.toList.take na) (b.toList.take nb) out.toList.reverse) (h:na=0):ft (Le O key) T (a.extract 0 na++b.extract 0 nb++out.reverse).toList:=by
  subst h
  rw [Array.toList_append,Array.toList_append,iY,iY,Array.toList_reverse]
  exact g.endB
theorem H.doneB (g:H (Le O key) T (a.toList.take na) (b.toList.take nb) out.toList.reverse) (h:nb=0):ft (Le O key) T (a.extract 0 na++b.extract 0 nb++out.reverse).toList:=by
  subst h
  rw [Array.toList_append,Array.toList_append,iY,iY,Array.toList_reverse,List.take_zero,List.append_nil]
  exact g.endA
theorem H.firstB (g:H (Le O key) T (a.toList.take na) (b.toList.take nb) out.toList.reverse) (h:nb=1) (h1:∀y∈a.toList,Le O key (at' b 0) y):ft (Le O key) T (b.extract 0 nb++a.extract 0 na++out.reverse).toList:=by
  rw [Array.toList_append,Array.toList_append,iY,iY,Array.toList_reverse,List.append_assoc]
  have g':H (Le O key) T ([]++a.toList.take na) (b.toList.take nb) out.toList.reverse:=g
  refine (g'.takeA fun x hx y hy=>?_).endB
  obtain ⟨j,q1,q2,rfl⟩:=mh hy
  rw [show j=0 by lia]
  exact h1 x (List.mem_of_mem_take hx)
end
section
variable {prog:Program} {w:World} {A:Around} {E:Value→Shared→Prop} {s:Shared} {κ:SortKind} {O:KeyOrd} {key:Keyed→O.α} {dom:Keyed→Prop} {st:SortSt}
theorem fw {α:Type} {c:Prop} [Decidable c] {x y:StateT SortSt Sem α} {Q:α→SortSt→Prop} (h1:c→wpS (model prog w) A E s x Q st) (h2:¬c→wpS (model prog w) A E s y Q st):wpS (model prog w) A E s (if c then x else y) Q st:=by
  split
  · rename_i z;exact h1 z
  · rename_i z;exact h2 z
theorem rC (C:Cmp prog w A s κ O key dom) {a b:Array Keyed} {Q:Array Keyed→SortSt→Prop} (hk:kindOf st=κ) (da:∀x∈a.toList,dom x) (db:∀x∈b.toList,dom x) (ha:0 < a.size) (hb:0 < b.size)
    (pa:a.toList.Pairwise (Le O key)) (pb:b.toList.Pairwise (Le O key)) (h0:∀y∈b.toList,Le O key y (at' a (a.size - 1))) (h1:∀y∈a.toList,Le O key (at' b 0) y)
    (h:∀r st',SS st st'→ft (Le O key) (a.toList++b.toList) r.toList→Q r st'):wpS (model prog w) A E s (tY a b) Q st:=by
  refine wpS_bind (wpS_lift (wpAny_rule ⟨rfl,?_⟩))
  have ha':a.size - 1 < a.size:=by exact Nat.sub_lt ‹_› Nat.one_pos
  refine wpS_bind (eJ ha' ?_)
  obtain ⟨T,hT⟩:∃T,T=a.toList++b.toList:=⟨_,rfl⟩
  rw [←hT] at h
  have g0:H (Le O key) T (a.toList.take (a.size - 1)) (b.toList.take b.size) (#[at' a (a.size - 1)]:Array Keyed).toList.reverse:=by
    have q:H (Le O key) T (a.toList.take (a.size - 1+1)) (b.toList.take b.size) (#[]:Array Keyed).toList.reverse:=by
      have e1:a.toList.take (a.size - 1+1)=a.toList:=List.take_of_length_le (by simp;lia)
      have e2:b.toList.take b.size=b.toList:=List.take_of_length_le (by simp)
      rw [e1,e2]
      exact ⟨by simp [hT],by simpa using pa,by simpa using pb⟩
    exact q.pushA ha' fun y hy=>h0 y (List.mem_of_mem_take hy)
  have dA:∀i,i < a.size→dom (at' a i):=fun i hi=>da _ (ie hi)
  have dB:∀i,i < b.size→dom (at' b i):=fun i hi=>db _ (ie hi)
  by_cases e1:(a.size - 1 == 0)=true
  · refine aN e1 ?_
    exact wpS_pure (h _ st (SS.refl _) (g0.doneA (by simpa using e1)))
  refine aK e1 ?_
  by_cases e2:(b.size == 1)=true
  · refine aN e2 ?_
    exact wpS_pure (h _ st (SS.refl _) (g0.firstB (by simpa using e2) h1))
  refine aK e2 ?_
  refine wpS_bind (wpS_get ?_)
  refine wpS_bind (wpS_mono (wpS_forRange (I:=fun x c st'=>SS st st'∧∃na nb out mg,c=(none,na,nb,out,mg)∧na≤a.size∧1≤na∧nb≤b.size∧2≤nb∧na+nb+x < a.size+b.size∧H (Le O key) T (a.toList.take na) (b.toList.take nb) out.toList.reverse)
    (Q:=fun c st'=>SS st st'∧∃r o,c=(some r,o)∧ft (Le O key) T r.toList) ?s1 ?s2 ⟨SS.refl _,a.size - 1,b.size,_,_,rfl,by exact Nat.sub_le _ _,by simp at e1;exact Nat.pos_of_ne_zero ‹_›,by exact Nat.le_refl _,by simp at e2;lia,by lia,g0⟩) ?s3)
  case s3=>
    rintro c st' ⟨hs,r,o,rfl,hg⟩
    exact wpS_pure (h r st' hs hg)
  case s2=>
    rintro c st' ⟨hs,na,nb,out,mg,rfl,p1,q1,p2,q2,q3,g⟩
    lia
  case s1=>
    rintro x c st1 - hx ⟨hs,na,nb,out,mg,rfl,p1,q1,p2,q2,q3,g⟩
    refine wpS_bind (wpS_mono (wpS_forRange (I:=fun y c st'=>SS st st'∧∃na nb out ac bc,c=(none,na,nb,out,ac,bc)∧na≤a.size∧1≤na∧nb≤b.size∧2≤nb∧na+nb+x < a.size+b.size∧(y=0∨na+nb+(x+1) < a.size+b.size)∧H (Le O key) T (a.toList.take na) (b.toList.take nb) out.toList.reverse)
      (Q:=fun c st'=>SS st st'∧((∃r o,c=(some r,o)∧ft (Le O key) T r.toList)∨∃na nb out ac bc,c=(none,na,nb,out,ac,bc)∧na≤a.size∧1≤na∧nb≤b.size∧2≤nb∧na+nb+(x+1) < a.size+b.size∧H (Le O key) T (a.toList.take na) (b.toList.take nb) out.toList.reverse)) ?t1 ?t2 ⟨hs,na,nb,out,0,0,rfl,p1,q1,p2,q2,q3, .inl rfl,g⟩) ?t3)
    case t2=>
      rintro c st' ⟨hs,na,nb,out,ac,bc,rfl,p1,q1,p2,q2,q3,q4,g⟩
      exact ⟨hs, .inr ⟨na,nb,out,ac,bc,rfl,p1,q1,p2,q2,by lia,g⟩⟩
    case t1=>
      rintro y c st2 - hy ⟨hs,na,nb,out,ac,bc,rfl,p1,q1,p2,q2,q3,q4,g⟩
      obtain ⟨na,rfl⟩:∃n,na=n+1:=⟨na - 1,by exact (Nat.sub_add_cancel ‹_›).symm⟩
      obtain ⟨nb,rfl⟩:∃n,nb=n+1:=⟨nb - 1,by lia⟩
      have p1':na < a.size:=by assumption
      have p2':nb < b.size:=by assumption
      refine wpS_bind (eJ p2' ?_)
      refine wpS_bind (eJ p1' ?_)
      refine wpS_bind (tZ C (hs.kind.trans hk) (dB _ p2') (dA _ p1') ?_)
      simp only [Nat.add_sub_cancel]
      cases e:O.blt (key (at' b nb)) (key (at' a na)) with
      | true=>
        refine wpS_bind (eJ p1' ?_)
        have g':=g.pushA p1' (fun y hy=>(p8 pb p2' hy).trans (Le.of e))
        by_cases z:(na == 0)=true
        · exact aN z (wpS_pure ⟨hs, .inl ⟨_,_,rfl,g'.doneA (by simpa using z)⟩⟩)
        · refine aK z ?_
          have z':1≤na:=by simp at z;exact Nat.pos_of_ne_zero ‹_›
          split
          · exact wpS_pure ⟨hs, .inr ⟨na,nb+1,_,_,_,rfl,by exact Nat.le_of_lt ‹_›,z',p2,q2,by lia,g'⟩⟩
          · exact wpS_pure ⟨hs,na,nb+1,_,_,_,rfl,by exact Nat.le_of_lt ‹_›,z',p2,q2,by lia, .inr (by lia),g'⟩
      | false=>
        refine wpS_bind (eJ p2' ?_)
        have g':=g.pushB p2' (fun y hy=>(p8 pa p1' hy).trans e)
        by_cases z:(nb == 1)=true
        · exact aN z (wpS_pure ⟨hs, .inl ⟨_,_,rfl,g'.firstB (by simpa using z) h1⟩⟩)
        · refine aK z ?_
          have z':2≤nb:=by simp at z;lia
          split
          · exact wpS_pure ⟨hs, .inr ⟨na+1,nb,_,_,_,rfl,p1,q1,by exact Nat.le_of_lt ‹_›,z',by lia,g'⟩⟩
          · exact wpS_pure ⟨hs,na+1,nb,_,_,_,rfl,p1,q1,by exact Nat.le_of_lt ‹_›,z',by lia, .inr (by lia),g'⟩
    case t3=>
      rintro c st2 ⟨hs,⟨r,o,rfl,hg⟩ | ⟨na,nb,out,ac,bc,rfl,p1,q1,p2,q2,q3,g⟩⟩
      · exact wpS_pure ⟨hs,r,_,rfl,hg⟩
      · refine wpS_bind (wpS_lift (wpAny_rule ⟨rfl,?_⟩))
        refine wpS_bind (wpS_mono (wpS_forRange (I:=fun y c st'=>SS st st'∧∃na nb out mg ac bc,c=(none,na,nb,out,mg,ac,bc)∧na≤a.size∧1≤na∧nb≤b.size∧2≤nb∧na+nb+(x+1) < a.size+b.size∧H (Le O key) T (a.toList.take na) (b.toList.take nb) out.toList.reverse)
          (Q:=fun c st'=>SS st st'∧((∃r o,c=(some r,o)∧ft (Le O key) T r.toList)∨∃na nb out mg ac bc,c=(none,na,nb,out,mg,ac,bc)∧na≤a.size∧1≤na∧nb≤b.size∧2≤nb∧na+nb+(x+1) < a.size+b.size∧H (Le O key) T (a.toList.take na) (b.toList.take nb) out.toList.reverse)) ?u1 ?u2 ⟨hs,na,nb,out,_,ac,bc,rfl,p1,q1,p2,q2,q3,g⟩) ?u3)
        case u2=>
          rintro c st' ⟨hs,na,nb,out,mg,ac,bc,rfl,p1,q1,p2,q2,q3,g⟩
          exact ⟨hs, .inr ⟨na,nb,out,mg,ac,bc,rfl,p1,q1,p2,q2,by assumption,g⟩⟩
        case u3=>
          rintro c st3 ⟨hs,⟨r,o,rfl,hg⟩ | ⟨na,nb,out,mg,ac,bc,rfl,p1,q1,p2,q2,q3,g⟩⟩
          · exact wpS_pure ⟨hs,r,_,rfl,hg⟩
          · exact wpS_bind (mf hs fun st4 h4=>wpS_pure ⟨h4,na,nb,out,_,rfl,p1,q1,p2,q2,q3,g⟩)
        case u1=>
          rintro y c st3 - hy ⟨hs,na,nb,out,mg,ac,bc,rfl,p1,q1,p2,q2,q3,g⟩
          refine xS fun R hR=>?_
          have Rd:∀r o st',SS st st'→ft (Le O key) T r.toList→R (.done (some r,o)) st':=fun r o st' a1 a2=>by rw [hR];exact ⟨a1, .inl ⟨r,o,rfl,a2⟩⟩
          have Rn:∀na nb out mg ac bc st',SS st st'→na≤a.size→1≤na→nb≤b.size→2≤nb→na+nb+(x+1) < a.size+b.size→H (Le O key) T (a.toList.take na) (b.toList.take nb) out.toList.reverse→R (.done (none,na,nb,out,mg,ac,bc)) st':=
            fun na nb out mg ac bc st' a1 a2 a3 a4 a5 a6 a7=>by rw [hR];exact ⟨a1, .inr ⟨_,_,_,_,_,_,rfl,a2,a3,a4,a5,a6,a7⟩⟩
          have Ry:∀na nb out mg ac bc st',SS st st'→na≤a.size→1≤na→nb≤b.size→2≤nb→na+nb+(x+1) < a.size+b.size→H (Le O key) T (a.toList.take na) (b.toList.take nb) out.toList.reverse→R (.yield (none,na,nb,out,mg,ac,bc)) st':=
            fun na nb out mg ac bc st' a1 a2 a3 a4 a5 a6 a7=>by rw [hR];exact ⟨a1,_,_,_,_,_,_,rfl,a2,a3,a4,a5,a6,a7⟩
          clear hR
          obtain ⟨nb,rfl⟩:∃n,nb=n+1:=⟨nb - 1,by lia⟩
          have p2':nb < b.size:=by assumption
          have q2':1≤nb:=by exact Nat.le_of_lt_succ ‹_›
          extract_lets
          rename Unit→Nat→_=>jp
          refine zp (jp ()) fun mg'=>?_
          refine wpS_bind (mf hs fun st4 h4=>?_)
          refine wpS_bind (eJ p2' ?_)
          refine wpS_bind (fK C (k:=at' b nb) (base:=0) (n:=na) (hint:=na - 1) (h4.kind.trans hk) (by exact Nat.sub_lt ‹_› Nat.one_pos) (by lia) (dB _ p2') dA ?m1 fun k hk1 hk2 hk3=>?_)
          case m1=>
            intro i j hij hj e
            simp only [eR,Bool.false_eq_true,if_false,Bool.not_eq_true',Nat.zero_add] at e ⊢
            exact (la pa (by exact Nat.le_of_lt ‹_›) (by exact Nat.lt_of_lt_of_le ‹_› ‹_›):Le O key (at' a i) (at' a j)).trans e
          simp only [eR,Bool.false_eq_true,if_false,Bool.not_eq_true',Bool.not_eq_false',Nat.zero_add] at hk2 hk3
          dsimp -zeta only
          extract_lets
          rename Unit→Nat→Array Keyed→_=>jp1
          have J1:∀(na:Nat) (out:Array Keyed),na≤a.size→1≤na→na+(nb+1)+(x+1) < a.size+b.size→H (Le O key) T (a.toList.take na) (b.toList.take (nb+1)) out.toList.reverse→(∀y∈a.toList.take na,Le O key y (at' b nb))→wpS (model prog w) A E s (jp1 () na out) R st4:=by
            intro na out p1 q1 q3 g hl
            obtain ⟨na,rfl⟩:∃n,na=n+1:=⟨na - 1,by exact (Nat.sub_add_cancel ‹_›).symm⟩
            have p1':na < a.size:=by assumption
            refine wpS_bind (eJ p2' ?_)
            have g':=g.pushB p2' hl
            by_cases z:(nb == 1)=true
            · exact aN z (wpS_pure (Rd _ _ _ h4 (g'.firstB (by simpa using z) h1)))
            refine aK z ?_
            have z':2≤nb:=by simp at z;lia
            refine wpS_bind (eJ p1' ?_)
            refine wpS_bind (fK C (k:=at' a na) (base:=0) (n:=nb) (hint:=nb - 1) (h4.kind.trans hk) (by exact Nat.sub_lt ‹_› Nat.one_pos) (by lia) (dA _ p1') dB ?m2 fun k' hk1' hk2' hk3'=>?_)
            case m2=>
              intro i j hij hj e
              simp only [eR,if_true,Nat.zero_add] at e ⊢
              exact KeyOrd.klt_of_kle_of_klt (O:=O) (la pb (by exact Nat.le_of_lt ‹_›) (by lia):Le O key (at' b i) (at' b j)) e
            simp only [eR,if_true,Nat.zero_add] at hk2' hk3'
            dsimp -zeta only
            extract_lets
            rename Unit→Nat→Array Keyed→_=>jp2
            have J2:∀(nb':Nat) (out:Array Keyed),nb'≤b.size→2≤nb'→na+1+nb'+(x+1) < a.size+b.size→H (Le O key) T (a.toList.take (na+1)) (b.toList.take nb') out.toList.reverse→(∀y∈b.toList.take nb',Le O key y (at' a na))→wpS (model prog w) A E s (jp2 () nb' out) R st4:=by
              intro nb' out r1 r2 r3 g hl
              refine wpS_bind (eJ p1' ?_)
              have g':=g.pushA p1' hl
              by_cases z:(na == 0)=true
              · exact aN z (wpS_pure (Rd _ _ _ h4 (g'.doneA (by simpa using z))))
              refine aK z ?_
              have z':1≤na:=by simp at z;exact Nat.pos_of_ne_zero ‹_›
              refine fw (fun _=>?_) (fun _=>?_)
              · exact wpS_pure (Rn _ _ _ _ _ _ _ h4 (by exact Nat.le_of_lt ‹_›) z' r1 r2 (by lia) g')
              · exact wpS_pure (Ry _ _ _ _ _ _ _ h4 (by exact Nat.le_of_lt ‹_›) z' r1 r2 (by lia) g')
            clear_value jp2
            have tl:∀y∈b.toList.take k',Le O key y (at' a na):=fun y hy=>by
              obtain ⟨j,r1,r2,rfl⟩:=mh hy
              exact Le.of (hk2' j r1)
            by_cases z2:nb - k' > 0
            · refine aN z2 ?_
              have g2:=g'.blkB hk1' fun j j1 j2 j3 y hy=>(p8 pa p1' hy).trans (hk3' j j1 j2)
              by_cases z3:(k' == 1)=true
              · exact aN z3 (wpS_pure (Rd _ _ _ h4 (g2.firstB (by simpa using z3) h1)))
              refine aK z3 ?_
              by_cases z4:(k' == 0)=true
              · exact aN z4 (wpS_pure (Rd _ _ _ h4 (g2.doneB (by simpa using z4))))
              · exact aK z4 (J2 k' _ (by lia) (by simp at z3 z4;lia) (by lia) g2 tl)
            · have k0:k'=nb:=by exact Nat.le_antisymm ‹_› (Nat.sub_eq_zero_iff_le.mp (Nat.eq_zero_of_not_pos ‹_›))
              subst k0
              exact aK z2 (J2 k' _ (by exact Nat.le_of_lt ‹_›) z' (by lia) g' tl)
          clear_value jp1
          have tl:∀y∈a.toList.take k,Le O key y (at' b nb):=fun y hy=>by
            obtain ⟨j,r1,r2,rfl⟩:=mh hy
            exact hk2 j r1
          by_cases z2:na - k > 0
          · refine aN z2 ?_
            have g2:=g.blkA hk1 fun j j1 j2 j3 y hy=>(p8 pb p2' hy).trans (Le.of (hk3 j j1 j2))
            by_cases z3:(k == 0)=true
            · exact aN z3 (wpS_pure (Rd _ _ _ h4 (g2.doneA (by simpa using z3))))
            · exact aK z3 (J1 k _ (by exact Nat.le_trans ‹_› ‹_›) (by simp at z3;exact Nat.pos_of_ne_zero ‹_›) (by lia) g2 tl)
          · have k0:k=na:=by exact Nat.le_antisymm ‹_› (Nat.sub_eq_zero_iff_le.mp (Nat.eq_zero_of_not_pos ‹_›))
            subst k0
            exact aK z2 (J1 k _ p1 q1 q3 g tl)
end
end NhLS
namespace NhLS
set_option autoImplicit false
open PySem PyProof.Rows
def So (O:KeyOrd) (key:Keyed→O.α) (a:Array Keyed) (lo hi:Nat):Prop:=∀i j,lo≤i→i < j→j < hi→Le O key (at' a i) (at' a j)
section
variable {O:KeyOrd} {key:Keyed→O.α} {a b:Array Keyed} {i j lo hi p:Nat} {x y z:Keyed}
theorem So.le (h:So O key a lo hi) (h1:lo≤i) (h2:i≤j) (h3:j < hi):Le O key (at' a i) (at' a j):=by
  by_cases e:i=j
  · rw [e];exact Le.refl _
  · exact h i j h1 (by exact Nat.lt_of_le_of_ne ‹_› ‹_›) h3
theorem So.ext (h:So O key a lo hi) (q:∀j,lo≤j→j < hi→at' b j=at' a j):So O key b lo hi:=fun i j h1 h2 h3=>by
  rw [q i (by assumption) (by lia),q j (by lia) h3]
  exact h i j h1 h2 h3
theorem nG (h1:i+j < hi) (h2:hi≤a.size):at' (a.extract i hi) j=at' a (i+j):=by
  simp [at',Array.getD,show j < min hi a.size - i by lia,show i+j < a.size by exact Nat.lt_of_lt_of_le ‹_› ‹_›]
theorem wC (h1:lo≤hi) (h2:hi≤a.size):(a.extract lo hi).size=hi - lo:=by
  rw [Array.size_extract]
  lia
theorem wD (h:So O key a lo hi) (h2:hi≤a.size):(a.extract lo hi).toList.Pairwise (Le O key):=by
  rw [List.pairwise_iff_getElem]
  intro i j hi' hj hij
  rw [Array.length_toList,Array.size_extract] at hi' hj
  rw [gf,gf,nG (by lia) h2,nG (by lia) h2]
  exact h _ _ (by exact Nat.le_add_right _ _) (by exact Nat.add_lt_add_left ‹_› _) (by lia)
theorem xT (h:i < a.size) (j:Nat):at' (a.setIfInBounds i x) j=if i=j then x else at' a j:=by
  unfold at'
  rw [Array.getD_eq_getD_getElem?,Array.getD_eq_getD_getElem?,Array.getElem?_setIfInBounds]
  by_cases e:i=j
  · subst e;simp [h]
  · simp [e]
def wr (a:Array Keyed) (p:Nat) (M:List (Keyed×Nat)):Array Keyed:=M.foldl (fun a q=>a.setIfInBounds (p+q.2) q.1) a
theorem p_ (p:Nat):∀(M:List (Keyed×Nat)) (a:Array Keyed),(wr a p M).size=a.size
  | [],a=>rfl
  | q::M,a=>(p_ p M _).trans (Array.size_setIfInBounds ..)
theorem t6 (p:Nat):∀(M:List Keyed) (n:Nat) (a:Array Keyed),p+n+M.length≤a.size→∀j,at' (wr a p (M.zipIdx n)) j=if p+n≤j∧j < p+n+M.length then M.getD (j - (p+n)) vO else at' a j
  | [],n,a,h,j=>by
    rw [if_neg (by simp)]
    rfl
  | x::M,n,a,h,j=>by
    rw [List.length_cons] at h
    show at' (wr (a.setIfInBounds (p+n) x) p (M.zipIdx (n+1))) j=_
    rw [t6 p M (n+1) _ (by rw [Array.size_setIfInBounds];lia),xT (by lia),List.length_cons]
    by_cases e:p+n=j
    · subst e
      rw [if_neg (by lia),if_pos rfl,if_pos (by lia),Nat.sub_self]
      rfl
    · by_cases q:p+(n+1)≤j∧j < p+(n+1)+M.length
      · rw [if_pos q,if_pos (by lia),show j - (p+n)=(j - (p+(n+1)))+1 by lia]
        rfl
      · rw [if_neg q,if_neg e,if_neg (by lia)]
theorem vP (M:List Keyed) (a:Array Keyed) (h:p+M.length≤a.size):(wr a p M.zipIdx).toList=a.toList.take p++M++a.toList.drop (p+M.length):=by
  have hs:=p_ p M.zipIdx a
  refine List.ext_getElem (by simp [hs];lia) fun i h1 h2=>?_
  rw [gf,show M.zipIdx=M.zipIdx 0 from rfl,t6 p M 0 a (by assumption)]
  have h1':i < a.size:=by simpa [hs] using h1
  by_cases c1:i < p
  · rw [if_neg (by lia),List.getElem_append_left (by simp;lia),List.getElem_append_left (by simp;lia),List.getElem_take,gf]
  · by_cases c2:i < p+M.length
    · rw [if_pos (by lia),List.getElem_append_left (by simp;lia),List.getElem_append_right (by simp;lia)]
      have e:i - (a.toList.take p).length=i - (p+0):=by simp;lia
      simp only [e]
      simp [show i - p < M.length by lia]
    · rw [if_neg (by exact fun h=>‹¬_› h.2),List.getElem_append_right (by simp;lia),List.getElem_drop,gf]
      congr 1
      simp
      lia
end
section
variable {prog:Program} {w:World} {A:Around} {E:Value→Shared→Prop} {s:Shared} {κ:SortKind} {O:KeyOrd} {key:Keyed→O.α} {dom:Keyed→Prop}
theorem vQ {st st':SortSt} {Q:PUnit→SortSt→Prop} (h:Q ⟨⟩ st'):wpS (model prog w) A E s (set st':StateT SortSt Sem PUnit) Q st:=by
  unfold wpS;rw [StateT.run_set];exact wpAny_pure ⟨rfl,h⟩
theorem rD (C:Cmp prog w A s κ O key dom) {a:Array Keyed} {pd:Array (Nat×Nat×Nat)} {g i sa na pw nb pw':Nat} {Q:Bool→SortSt→Prop} (da:∀i,i < a.size→dom (at' a i)) (hp1:pd[i]? =some (sa,na,pw)) (hp2:pd[i+1]? =some (sa+na,nb,pw'))
    (h1:1≤na) (h2:1≤nb) (hz:sa+na+nb≤a.size) (s1:So O key a sa (sa+na)) (s2:So O key a (sa+na) (sa+na+nb))
    (h:∀b g',b.toList.Perm a.toList→(∀j,j < sa∨sa+na+nb≤j→at' b j=at' a j)→So O key b sa (sa+na+nb)→Q true (SortSt.mk' κ b ((pd.setIfInBounds i (sa,na+nb,pw)).eraseIdxIfInBounds (i+1)) g' none)):
    wpS (model prog w) A E s (mergeAt' i) Q (SortSt.mk' κ a pd g none):=by
  refine wpS_bind (wpS_get ?_)
  simp only [hp1,hp2]
  refine wpS_bind (vQ ?_)
  have b1:sa+na < a.size:=by lia
  refine wpS_bind (eJ b1 ?_)
  refine wpS_bind (fK C (k:=at' a (sa+na)) (arr:=a) (base:=sa) (n:=na) (hint:=0) rfl (by assumption) (by exact Nat.le_of_lt ‹_›) (da _ b1) da ?m1 fun k hk1 hk2 hk3=>?_)
  case m1=>
    intro i j hij hj e
    simp only [eR,Bool.false_eq_true,if_false,Bool.not_eq_true'] at e ⊢
    exact (s1.le (by exact Nat.le_add_right _ _) (by lia) (by exact Nat.add_lt_add_left ‹_› _):Le O key (at' a (sa+i)) (at' a (sa+j))).trans e
  simp only [eR,Bool.false_eq_true,if_false,Bool.not_eq_true',Bool.not_eq_false'] at hk2 hk3
  have lo:∀i,sa≤i→i < sa+k→∀j,sa+na≤j→j < sa+na+nb→Le O key (at' a i) (at' a j):=fun i r1 r2 j r3 r4=>by
    have:=hk2 (i - sa) (by exact Nat.sub_lt_left_of_lt_add ‹_› ‹_›)
    rw [show sa+(i - sa)=i by exact Nat.add_sub_of_le ‹_›] at this
    exact Le.trans this (s2.le (by (solve_by_elim (maxDepth:=3) only [*,Nat.le_trans,Nat.lt_of_lt_of_le,Nat.lt_of_le_of_lt,Nat.le_of_lt,Nat.add_le_add_left,Nat.add_lt_add_left,Nat.le_add_right,Nat.lt_of_succ_lt])) r3 r4)
  by_cases z:(na - k == 0)=true
  · refine aN z (wpS_pure (h a g (List.Perm.refl _) (fun _ _=>rfl) fun i j r1 r2 r3=>?_))
    have z':k=na:=by simp at z;lia
    by_cases c:j < sa+na
    · exact s1 i j r1 r2 c
    · by_cases c':i < sa+na
      · exact lo i r1 (by lia) j (by exact Nat.le_of_not_lt ‹_›) r3
      · exact s2 i j (by exact Nat.le_of_not_lt ‹_›) r2 r3
  refine aK z ?_
  have z':k < na:=by simp at z;lia
  have b2:sa+na - 1 < a.size:=by exact Nat.lt_of_le_of_lt (Nat.sub_le _ _) ‹_›
  rw [show sa+k+(na - k) - 1=sa+na - 1 by lia]
  refine wpS_bind (eJ b2 ?_)
  refine wpS_bind (fK C (k:=at' a (sa+na - 1)) (arr:=a) (base:=sa+na) (n:=nb) (hint:=nb - 1) rfl (by exact Nat.sub_lt ‹_› Nat.one_pos) (by assumption) (da _ b2) da ?m2 fun m hm1 hm2 hm3=>?_)
  case m2=>
    intro i j hij hj e
    simp only [eR,if_true] at e ⊢
    exact KeyOrd.klt_of_kle_of_klt (O:=O) (s2.le (by exact Nat.le_add_right _ _) (by lia) (by exact Nat.add_lt_add_left ‹_› _):Le O key (at' a (sa+na+i)) (at' a (sa+na+j))) e
  simp only [eR,if_true] at hm2 hm3
  have up:∀j,sa+na+m≤j→j < sa+na+nb→∀i,sa≤i→i < sa+na→Le O key (at' a i) (at' a j):=fun j r3 r4 i r1 r2=>by
    have:=hm3 (j - (sa+na)) (by exact Nat.le_sub_of_add_le' ‹_›) (by lia)
    rw [show sa+na+(j - (sa+na))=j by exact Nat.add_sub_of_le (Nat.le_trans (Nat.le_add_right _ _) ‹_›)] at this
    exact (s1.le r1 (by lia) (by lia):Le O key (at' a i) (at' a (sa+na - 1))).trans this
  by_cases y:(m == 0)=true
  · refine aN y (wpS_pure (h a g (List.Perm.refl _) (fun _ _=>rfl) fun i j r1 r2 r3=>?_))
    have y':m=0:=by simpa using y
    by_cases c:j < sa+na
    · exact s1 i j r1 r2 c
    · by_cases c':i < sa+na
      · exact up j (by lia) r3 i r1 c'
      · exact s2 i j (by exact Nat.le_of_not_lt ‹_›) r2 r3
  refine aK y ?_
  have y':0 < m:=by simp at y;exact Nat.pos_of_ne_zero ‹_›
  have zx:(a.extract (sa+k) (sa+na)).size=na - k:=by rw [wC (by exact Nat.add_le_add_left ‹_› _) (by exact Nat.le_of_lt ‹_›)];lia
  have zy:(a.extract (sa+na) (sa+na+m)).size=m:=by rw [wC (by exact Nat.le_add_right _ _) (by lia)];lia
  have mx:∀x∈(a.extract (sa+k) (sa+na)).toList,∃t,sa+k≤t∧t < sa+na∧x=at' a t:=fun x hx=>by
    obtain ⟨t,t1,t2,t3,t4⟩:=mj hx
    exact ⟨t,t1,t2,t4⟩
  have my:∀x∈(a.extract (sa+na) (sa+na+m)).toList,∃t,sa+na≤t∧t < sa+na+m∧x=at' a t:=fun x hx=>by
    obtain ⟨t,t1,t2,t3,t4⟩:=mj hx
    exact ⟨t,t1,t2,t4⟩
  have dx:∀x∈(a.extract (sa+k) (sa+na)).toList,dom x:=fun x hx=>by obtain ⟨t,t1,t2,rfl⟩:=mx x hx;exact da _ (by lia)
  have dy:∀x∈(a.extract (sa+na) (sa+na+m)).toList,dom x:=fun x hx=>by obtain ⟨t,t1,t2,rfl⟩:=my x hx;exact da _ (by lia)
  have px:=wD (hi:=sa+na) (lo:=sa+k) (a:=a) (fun i j r1 r2 r3=>s1 i j (by exact Nat.le_trans (Nat.le_add_right _ _) ‹_›) r2 r3) (by exact Nat.le_of_lt ‹_›)
  have py:=wD (hi:=sa+na+m) (lo:=sa+na) (a:=a) (fun i j r1 r2 r3=>s2 i j (by assumption) r2 (by lia)) (by lia)
  have fx:at' (a.extract (sa+k) (sa+na)) 0=at' a (sa+k):=nG (by exact Nat.add_lt_add_left ‹_› _) (by exact Nat.le_of_lt ‹_›)
  have lx:at' (a.extract (sa+k) (sa+na)) ((a.extract (sa+k) (sa+na)).size - 1)=at' a (sa+na - 1):=by
    rw [zx,nG (by lia) (by exact Nat.le_of_lt ‹_›)]
    congr 1
    lia
  have fy:at' (a.extract (sa+na) (sa+na+m)) 0=at' a (sa+na):=nG (by exact Nat.add_lt_add_left ‹_› _) (by lia)
  have h0:O.blt (key (at' a (sa+na))) (key (at' a (sa+k)))=true:=hk3 k (by exact Nat.le_refl _) z'
  have yl:∀y∈(a.extract (sa+na) (sa+na+m)).toList,Le O key y (at' a (sa+na - 1)):=fun y hy=>by
    obtain ⟨t,t1,t2,rfl⟩:=my y hy
    have:=hm2 (t - (sa+na)) (by exact Nat.sub_lt_left_of_lt_add ‹_› ‹_›)
    rw [show sa+na+(t - (sa+na))=t by exact Nat.add_sub_of_le ‹_›] at this
    exact Le.of this
  have xf:∀y∈(a.extract (sa+k) (sa+na)).toList,Le O key (at' a (sa+na)) y:=fun y hy=>by
    obtain ⟨t,t1,t2,rfl⟩:=mx y hy
    exact (Le.of h0).trans (s1.le (by exact Nat.le_add_right _ _) t1 t2)
  have fin:∀(r:Array Keyed) (g':Nat),ft (Le O key) ((a.extract (sa+k) (sa+na)).toList++(a.extract (sa+na) (sa+na+m)).toList) r.toList→
      Q true (SortSt.mk' κ (wr a (sa+k) r.toList.zipIdx) ((pd.setIfInBounds i (sa,na+nb,pw)).eraseIdxIfInBounds (i+1)) g' none):=by
    intro r g' ⟨gp,gs⟩
    have rl:r.toList.length=na - k+m:=by rw [gp.length_eq,List.length_append,Array.length_toList,Array.length_toList,zx,zy]
    have at1:=t6 (sa+k) r.toList 0 a (by lia)
    have rm:∀x∈r.toList,∃t,sa+k≤t∧t < sa+na+m∧x=at' a t:=fun x hx=>by
      rcases List.mem_append.mp (gp.mem_iff.mp hx) with hx | hx
      · obtain ⟨t,t1,t2,e⟩:=mx x hx
        exact ⟨t,t1,by exact Nat.lt_add_right _ ‹_›,e⟩
      · obtain ⟨t,t1,t2,e⟩:=my x hx
        exact ⟨t,by lia,t2,e⟩
    have rg:∀n,n < r.toList.length→r.toList.getD n vO=at' r n:=fun n hn=>by
      have hn':n < r.size:=by simpa using hn
      rw [←gf hn]
      simp [hn']
    have rt:∀n,n < r.toList.length→∃t,sa+k≤t∧t < sa+na+m∧at' r n=at' a t:=fun n hn=>rm _ (by rw [←gf hn];exact List.getElem_mem _)
    refine h _ g' ?_ (fun j hj=>?_) fun i j r1 r2 r3=>?_
    · rw [vP _ _ (by lia)]
      have ea:a.toList=a.toList.take (sa+k)++((a.extract (sa+k) (sa+na)).toList++(a.extract (sa+na) (sa+na+m)).toList)++a.toList.drop (sa+k+r.toList.length):=by
        rw [←List.append_assoc,←mi (by exact Nat.add_le_add_left ‹_› _),←mi (by exact Nat.le_add_right _ _),rl,show sa+k+(na - k+m)=sa+na+m by lia,List.take_append_drop]
      refine List.Perm.trans ?_ (List.Perm.of_eq ea.symm)
      exact List.Perm.append_right _ (List.Perm.append_left _ gp)
    · show at' (wr a (sa+k) (r.toList.zipIdx 0)) j=_
      rw [at1,if_neg (by lia)]
    · show Le O key (at' (wr a (sa+k) (r.toList.zipIdx 0)) i) (at' (wr a (sa+k) (r.toList.zipIdx 0)) j)
      rw [at1,at1]
      by_cases ci:i < sa+k
      · rw [if_neg (by lia)]
        by_cases cj:j < sa+na+m
        · by_cases cj':j < sa+k
          · rw [if_neg (by lia)]
            exact s1 i j r1 r2 (by lia)
          · rw [if_pos (by lia),rg _ (by lia)]
            obtain ⟨t,t1,t2,e⟩:=rt (j - (sa+k+0)) (by lia)
            rw [e]
            by_cases ct:t < sa+na
            · exact s1 i t r1 (by exact Nat.lt_of_lt_of_le ‹_› ‹_›) ct
            · exact lo i r1 ci t (by exact Nat.le_of_not_lt ‹_›) (by lia)
        · rw [if_neg (by lia)]
          exact lo i r1 ci j (by lia) r3
      · by_cases ci':i < sa+na+m
        · rw [if_pos (by lia),rg _ (by lia)]
          by_cases cj:j < sa+na+m
          · rw [if_pos (by lia),rg _ (by lia)]
            have:=List.pairwise_iff_getElem.mp gs (i - (sa+k+0)) (j - (sa+k+0)) (by lia) (by lia) (by lia)
            rw [gf,gf] at this
            exact this
          · rw [if_neg (by lia)]
            obtain ⟨t,t1,t2,e⟩:=rt (i - (sa+k+0)) (by lia)
            rw [e]
            by_cases ct:t < sa+na
            · exact up j (by exact Nat.le_of_not_lt ‹_›) r3 t (by exact Nat.le_trans (Nat.le_add_right _ _) ‹_›) ct
            · exact s2 t j (by exact Nat.le_of_not_lt ‹_›) (by lia) r3
        · rw [if_neg (by lia),if_neg (by lia)]
          exact s2 i j (by lia) r2 r3
  refine fw (fun _=>?_) (fun _=>?_)
  · refine wpS_bind (rB C rfl dx dy (by lia) (by lia) px py (by rw [fx,fy];exact h0) (by rw [lx];exact yl) fun r st' hs hg=>?_)
    obtain ⟨g',rfl⟩:=hs
    exact wpS_bind (wpS_modify (wpS_bind (wpS_get (wpS_pure (fin r g' hg)))))
  · refine wpS_bind (rC C rfl dx dy (by lia) (by lia) px py (by rw [lx];exact yl) (by rw [fy];exact xf) fun r st' hs hg=>?_)
    obtain ⟨g',rfl⟩:=hs
    exact wpS_bind (wpS_modify (wpS_bind (wpS_get (wpS_pure (fin r g' hg)))))
end
end NhLS
namespace NhLS
set_option autoImplicit false
open PySem PyProof.Rows
structure Sx (a b:Array Keyed) (lo hi:Nat):Prop where
  perm:b.toList.Perm a.toList
  out:∀j,j < lo∨hi≤j→at' b j=at' a j
def Dn (O:KeyOrd) (key:Keyed→O.α) (a:Array Keyed) (lo hi:Nat):Prop:=∀i j,lo≤i→i < j→j < hi→Le O key (at' a j) (at' a i)
def Eqs (O:KeyOrd) (key:Keyed→O.α) (a:Array Keyed) (e q:Nat):Prop:=∀i,e - (q+1)≤i→i < e→Le O key (at' a i) (at' a (e - 1))∧Le O key (at' a (e - 1)) (at' a i)
section
variable {O:KeyOrd} {key:Keyed→O.α} {a b c:Array Keyed} {i j k lo hi n q:Nat}
theorem Sx.refl:Sx a a lo hi:=⟨List.Perm.refl _,fun _ _=>rfl⟩
theorem Sx.trans (h1:Sx a b lo hi) (h2:Sx b c lo hi):Sx a c lo hi:=⟨h2.perm.trans h1.perm,fun j hj=>(h2.out j hj).trans (h1.out j hj)⟩
theorem Sx.size (h:Sx a b lo hi):b.size=a.size:=by have:=h.perm.length_eq;simpa using this
theorem Sx.dom {dom:Keyed→Prop} (h:Sx a b lo hi) (da:∀x∈a.toList,dom x):∀x∈b.toList,dom x:=fun x hx=>da x (h.perm.mem_iff.mp hx)
theorem vR (a:Array Keyed) (i:Nat):at' a i=(a[i]?).getD vO:=Array.getD_eq_getD_getElem? ..
theorem fX (hj:j≤a.size) (k:Nat):at' (mirror a i j ((j - i) / 2)) k=if i≤k∧k < j then at' a (i+j - 1 - k) else at' a k:=by
  rw [vR,getElem?_mirror_all hj]
  split <;> rw [vR]
theorem oP (hk:k < a.size) (hd:n≤k) (i:Nat):at' (bubble a k n) i=if i=k - n then at' a k else if k - n < i∧i≤k then at' a (i - 1) else at' a i:=by
  rw [vR,getElem?_bubble hk n hd]
  repeat' split
  all_goals rw [vR]
theorem Sx.rev (h1:lo≤i) (h2:j≤hi) (h3:j≤a.size):Sx a (mirror a i j ((j - i) / 2)) lo hi:=
  ⟨Array.perm_iff_toList_perm.mp (mirror_perm _ _ _ _),fun k hk=>by rw [fX h3,if_neg (by lia)]⟩
theorem Sx.bub (h1:k < a.size) (h0:n≤k) (h2:lo≤k - n) (h3:k < hi):Sx a (bubble a k n) lo hi:=
  ⟨Array.perm_iff_toList_perm.mp (bubble_perm _ _ _),fun j hj=>by rw [oP h1 h0,if_neg (by lia),if_neg (by lia)]⟩
theorem So.step (h:So O key a lo hi) (hl:lo < hi) (e:Le O key (at' a (hi - 1)) (at' a hi)):So O key a lo (hi+1):=fun i j h1 h2 h3=>by
  by_cases c:j < hi
  · exact h i j h1 h2 c
  · rw [show j=hi by lia]
    exact (h.le h1 (by lia) (by lia):Le O key (at' a i) (at' a (hi - 1))).trans e
theorem Dn.le (h:Dn O key a lo hi) (h1:lo≤i) (h2:i≤j) (h3:j < hi):Le O key (at' a j) (at' a i):=by
  by_cases e:i=j
  · rw [e];exact Le.refl _
  · exact h i j h1 (by exact Nat.lt_of_le_of_ne ‹_› ‹_›) h3
theorem Dn.step (h:Dn O key a lo hi) (hl:lo < hi) (e:Le O key (at' a hi) (at' a (hi - 1))):Dn O key a lo (hi+1):=fun i j h1 h2 h3=>by
  by_cases c:j < hi
  · exact h i j h1 h2 c
  · rw [show j=hi by lia]
    exact Le.trans e (h.le h1 (by lia) (by lia))
theorem Dn.rev (h:Dn O key a lo hi) (e:Eqs O key a hi q) (hz:hi≤a.size) (hq:lo+(q+1)≤hi):Dn O key (mirror a (hi - (q+1)) hi ((hi - (hi - (q+1))) / 2)) lo hi:=fun i j h1 h2 h3=>by
  rw [fX hz,fX hz]
  by_cases c:hi - (q+1)≤i
  · rw [if_pos (by lia),if_pos (by lia)]
    exact (e _ (by lia) (by lia)).1.trans (e _ (by lia) (by lia)).2
  · rw [if_neg (show ¬(hi - (q+1)≤i∧i < hi) by exact fun h=>‹¬_› h.1)]
    by_cases c':hi - (q+1)≤j
    · rw [if_pos (by exact ⟨‹_›,‹_›⟩)]
      exact h _ _ h1 (by lia) (by lia)
    · rw [if_neg (by exact fun h=>‹¬_› h.1)]
      exact h _ _ h1 h2 h3
theorem Dn.flip (h:Dn O key a lo hi) (hz:hi≤a.size):So O key (mirror a lo hi ((hi - lo) / 2)) lo hi:=fun i j h1 h2 h3=>by
  rw [fX hz,fX hz,if_pos (by lia),if_pos (by lia)]
  exact h _ _ (by lia) (by lia) (by lia)
theorem Eqs.one:Eqs O key a (hi+1) 0:=fun i h1 h2=>by
  rw [show i=hi by lia]
  exact ⟨Le.refl _,Le.refl _⟩
end
section
variable {prog:Program} {w:World} {A:Around} {E:Value→Shared→Prop} {s:Shared} {κ:SortKind} {O:KeyOrd} {key:Keyed→O.α} {dom:Keyed→Prop} {a:Array Keyed} {pd:Array (Nat×Nat×Nat)} {g:Nat}
theorem iZ (C:Cmp prog w A s κ O key dom) {i j:Nat} {Q:Option Bool→SortSt→Prop} (da:∀x∈a.toList,dom x) (hi:i < a.size) (hj:j < a.size) (h:Q (some (O.blt (key (at' a i)) (key (at' a j)))) (SortSt.mk' κ a pd g none)):wpS (model prog w) A E s (ltAt' i j) Q (SortSt.mk' κ a pd g none):=
  wpS_bind (wpS_get (wpS_bind (eJ hi (wpS_bind (eJ hj (tZ C rfl (da _ (ie hi)) (da _ (ie hj)) h))))))
theorem qa {i j:Nat} {Q:Unit→SortSt→Prop} (h:Q () (SortSt.mk' κ (mirror a i j ((j - i) / 2)) pd g none)):wpS (model prog w) A E s (reverseSlice' i j) Q (SortSt.mk' κ a pd g none):=wpS_modify h
theorem xU {k l:Nat} {Q:Unit→SortSt→Prop} (h:Q () (SortSt.mk' κ (bubble a k (k - l)) pd g none)):wpS (model prog w) A E s (moveDown' k l) Q (SortSt.mk' κ a pd g none):=wpS_modify h
theorem wE {lo n0 nrem:Nat} {β:Type} {body:Nat→Option β×Nat→StateT SortSt Sem (ForInStep (Option β×Nat))} {Q:Option β×Nat→SortSt→Prop} (h1:1≤n0) (h2:n0≤nrem) (hs:So O key a lo (lo+n0))
    (hb:∀x n (R:ForInStep (Option β×Nat)→SortSt→Prop),1≤n→n < nrem→R (if O.blt (key (at' a (lo+n))) (key (at' a (lo+n - 1)))=true then .done (none,n) else .yield (none,n+1)) (SortSt.mk' κ a pd g none)→wpS (model prog w) A E s (body x (none,n)) R (SortSt.mk' κ a pd g none))
    (h:∀n,n0≤n→n≤nrem→So O key a lo (lo+n)→(n < nrem→O.blt (key (at' a (lo+n))) (key (at' a (lo+n - 1)))=true)→Q (none,n) (SortSt.mk' κ a pd g none)):
    wpS (model prog w) A E s (forIn [n0:nrem] (none,n0) body) Q (SortSt.mk' κ a pd g none):=by
  refine wpS_forRange (I:=fun x c st'=>st'=SortSt.mk' κ a pd g none∧c=(none,x)∧n0≤x∧So O key a lo (lo+x)) ?_ ?_ ⟨rfl,rfl,Nat.le_refl _,hs⟩
  · rintro x c st' q1 q2 ⟨rfl,rfl,q3,q4⟩
    refine hb x x _ (by exact Nat.lt_of_lt_of_le ‹_› ‹_›) q2 ?_
    cases e:O.blt (key (at' a (lo+x))) (key (at' a (lo+x - 1))) with
    | true=>exact h x q3 (by exact Nat.le_of_lt ‹_›) q4 fun _=>e
    | false=>exact ⟨rfl,rfl,by (solve_by_elim (maxDepth:=3) only [*,Nat.le_trans,Nat.lt_of_lt_of_le,Nat.lt_of_le_of_lt,Nat.le_of_lt]),q4.step (by lia) e⟩
  · rintro c st' ⟨rfl,rfl,q3,q4⟩
    rw [show max n0 nrem=nrem by exact Nat.max_eq_right ‹_›] at q4 ⊢
    exact h nrem h2 (Nat.le_refl _) q4 fun z=>absurd z (Nat.lt_irrefl _)
theorem mn (C:Cmp prog w A s κ O key dom) {lo n ok:Nat} {Q:Bool→SortSt→Prop} (da:∀x∈a.toList,dom x) (h1:1≤ok) (h2:ok≤n) (hz:lo+n≤a.size) (hs:So O key a lo (lo+ok))
    (h:∀b,Sx a b lo (lo+n)→So O key b lo (lo+n)→Q true (SortSt.mk' κ b pd g none)):wpS (model prog w) A E s (binarySort' lo n ok) Q (SortSt.mk' κ a pd g none):=by
  refine wpS_bind (wpS_mono (wpS_forRange (I:=fun k c st'=>c=(none,())∧∃b,st'=SortSt.mk' κ b pd g none∧Sx a b lo (lo+n)∧So O key b lo (lo+k)) (Q:=fun c st'=>c=(none,())∧∃b,st'=SortSt.mk' κ b pd g none∧Sx a b lo (lo+n)∧So O key b lo (lo+n)) ?s1 ?s2 ⟨rfl,a,rfl, .refl,by rw [show max ok 1=ok by exact Nat.max_eq_left ‹_›];exact hs⟩) ?s3)
  case s3=>
    rintro c st' ⟨rfl,b,rfl,sb,ss⟩
    exact wpS_pure (h b sb ss)
  case s2=>
    rintro c st' ⟨rfl,b,rfl,sb,ss⟩
    rw [show max (max ok 1) n=n by lia] at ss
    exact ⟨rfl,b,rfl,sb,ss⟩
  case s1=>
    rintro k c st' k1 k2 ⟨rfl,b,rfl,sb,ss⟩
    have bz:=sb.size
    have ik:lo+k < b.size:=by lia
    refine wpS_bind (wpS_mono (wpS_forRange (I:=fun x c st'=>st'=SortSt.mk' κ b pd g none∧∃l r,c=(none,l,r)∧l≤r∧r≤k∧r+x≤k+l∧(∀i,i < l→Le O key (at' b (lo+i)) (at' b (lo+k)))∧(∀i,r≤i→i < k→Le O key (at' b (lo+k)) (at' b (lo+i))))
      (Q:=fun c st'=>st'=SortSt.mk' κ b pd g none∧∃l,c=(none,l,l)∧l≤k∧(∀i,i < l→Le O key (at' b (lo+i)) (at' b (lo+k)))∧(∀i,l≤i→i < k→Le O key (at' b (lo+k)) (at' b (lo+i)))) ?t1 ?t2 ⟨rfl,0,k,rfl,by exact Nat.zero_le _,by exact Nat.le_refl _,by (solve_by_elim (maxDepth:=3) only [*,Nat.le_trans,Nat.lt_of_lt_of_le,Nat.lt_of_le_of_lt,Nat.le_of_lt,Nat.add_le_add_left,Nat.add_lt_add_left,Nat.le_add_right,Nat.lt_of_succ_lt]),fun i hi=>by lia,fun i h1 h2=>by lia⟩) ?t3)
    case t2=>
      rintro c st' ⟨rfl,l,r,rfl,p1,p2,p3,p4,p5⟩
      have:l=r:=by lia
      subst this
      exact ⟨rfl,l,rfl,p2,p4,p5⟩
    case t1=>
      rintro x c st' - x2 ⟨rfl,l,r,rfl,p1,p2,p3,p4,p5⟩
      dsimp only
      refine fw (fun z=>?_) (fun z=>?_)
      · have:l=r:=by exact Nat.le_antisymm ‹_› ‹_›
        subst this
        exact wpS_pure ⟨rfl,l,rfl,p2,p4,p5⟩
      · have im:lo+(l+r) / 2 < b.size:=by lia
        refine wpS_bind (iZ C (sb.dom da) ik im ?_)
        cases e:O.blt (key (at' b (lo+k))) (key (at' b (lo+(l+r) / 2))) with
        | true=>exact wpS_pure ⟨rfl,l,(l+r) / 2,rfl,by lia,by lia,by lia,p4,fun i r1 r2=>(Le.of e).trans (ss.le (by exact Nat.le_add_right _ _) (by exact Nat.add_le_add_left ‹_› _) (by exact Nat.add_lt_add_left ‹_› _))⟩
        | false=>exact wpS_pure ⟨rfl,(l+r) / 2+1,r,rfl,by lia,by assumption,by lia,fun i r1=>(ss.le (by exact Nat.le_add_right _ _) (by lia) (by lia):Le O key (at' b (lo+i)) (at' b (lo+(l+r) / 2))).trans e,p5⟩
    case t3=>
      rintro c st' ⟨rfl,l,rfl,p2,p4,p5⟩
      refine wpS_bind (xU (wpS_pure ⟨rfl,_,rfl,sb.trans (Sx.bub (k:=lo+k) (n:=lo+k - (lo+l)) ik (by exact Nat.sub_le _ _) (by lia) (by exact Nat.add_lt_add_left ‹_› _)),fun i j r1 r2 r3=>?_⟩))
      have q4:∀i,lo≤i→i < lo+l→Le O key (at' b i) (at' b (lo+k)):=fun i u1 u2=>by have:=p4 (i - lo) (by exact Nat.sub_lt_left_of_lt_add ‹_› ‹_›);rwa [show lo+(i - lo)=i by exact Nat.add_sub_of_le ‹_›] at this
      have q5:∀i,lo+l≤i→i < lo+k→Le O key (at' b (lo+k)) (at' b i):=fun i u1 u2=>by have:=p5 (i - lo) (by exact Nat.le_sub_of_add_le' ‹_›) (by lia);rwa [show lo+(i - lo)=i by exact Nat.add_sub_of_le (Nat.le_trans (Nat.le_add_right _ _) ‹_›)] at this
      show Le O key (at' (bubble b (lo+k) (lo+k - (lo+l))) i) (at' (bubble b (lo+k) (lo+k - (lo+l))) j)
      rw [oP ik (by exact Nat.sub_le _ _),oP ik (by exact Nat.sub_le _ _),show lo+k - (lo+k - (lo+l))=lo+l by lia]
      repeat' split
      all_goals first
        | (exfalso;lia)
        | exact q4 _ (by assumption) (by (first | exact Nat.lt_of_lt_of_eq ‹_› ‹_› | lia))
        | exact q5 _ (by (first | exact Nat.add_le_add_left ‹_› _ | lia)) (by lia)
        | exact ss _ _ (by (first | assumption | lia)) (by (first | assumption | lia)) (by lia)
theorem oQ (C:Cmp prog w A s κ O key dom) {lo nrem:Nat} {Q:Option Nat→SortSt→Prop} (da:∀x∈a.toList,dom x) (h1:1≤nrem) (hz:lo+nrem≤a.size)
    (h:∀m b,1≤m→m≤nrem→Sx a b lo (lo+nrem)→So O key b lo (lo+m)→Q (some m) (SortSt.mk' κ b pd g none)):wpS (model prog w) A E s (countRun' lo nrem) Q (SortSt.mk' κ a pd g none):=by
  refine wpS_bind (wE (O:=O) (key:=key) (a:=a) (lo:=lo) (n0:=1) (nrem:=nrem) (Nat.le_refl _) h1 (fun i j r1 r2 r3=>by lia) (fun x n R n1 n2 hR=>?_) fun n q1 q2 q3 q4=>?_)
  · refine wpS_bind (iZ C da (show lo+n < a.size by lia) (show lo+n - 1 < a.size by lia) ?_)
    cases e:O.blt (key (at' a (lo+n))) (key (at' a (lo+n - 1))) with
    | true=>rw [e] at hR;exact wpS_pure hR
    | false=>rw [e] at hR;exact wpS_pure hR
  dsimp -zeta only
  by_cases z:(n == nrem)=true
  · exact aN z (wpS_pure (h n a q1 q2 .refl q3))
  refine aK z ?_
  have z':n < nrem:=by simp at z;exact Nat.lt_of_le_of_ne ‹_› ‹_›
  have sn:=q4 z'
  extract_lets
  rename Unit→_=>jp
  have J:∀b,Sx a b lo (lo+nrem)→Dn O key b lo (lo+n+1)→wpS (model prog w) A E s (jp ()) Q (SortSt.mk' κ b pd g none):=by
    intro b sb db
    refine wpS_bind (wpS_lift (wpAny_rule ⟨rfl,?_⟩))
    refine wpS_bind (wpS_mono (wpS_forRange (I:=fun x c st'=>∃b q,st'=SortSt.mk' κ b pd g none∧Sx a b lo (lo+nrem)∧c=(none,x,q)∧q+1≤x∧n+1≤x∧Dn O key b lo (lo+x)∧Eqs O key b (lo+x) q)
      (Q:=fun c st'=>∃b m q,st'=SortSt.mk' κ b pd g none∧Sx a b lo (lo+nrem)∧c=(none,m,q)∧q+1≤m∧m≤nrem∧Dn O key b lo (lo+m)∧Eqs O key b (lo+m) q) ?s1 ?s2 ⟨b,0,rfl,sb,rfl,by exact Nat.lt_succ_of_lt ‹_›,by exact Nat.lt_succ_self _,db,Eqs.one⟩) ?s3)
    case s2=>
      rintro c st' ⟨b,q,rfl,sb,rfl,p1,p2,p3,p4⟩
      rw [show max (n+1) nrem=nrem by exact Nat.max_eq_right ‹_›] at *
      exact ⟨b,nrem,q,rfl,sb,rfl,p1,Nat.le_refl _,p3,p4⟩
    case s1=>
      rintro x c st' x1 x2 ⟨b,q,rfl,sb,rfl,p1,p2,p3,p4⟩
      have bz:=sb.size
      have i1:lo+x < b.size:=by lia
      have i2:lo+x - 1 < b.size:=by exact Nat.lt_of_le_of_lt (Nat.sub_le _ _) ‹_›
      refine wpS_bind (iZ C (sb.dom da) i1 i2 ?_)
      cases e:O.blt (key (at' b (lo+x))) (key (at' b (lo+x - 1))) with
      | true=>
        dsimp only
        rw [if_pos rfl]
        refine fw (fun z=>?_) (fun z=>?_)
        · refine wpS_bind (qa (wpS_pure ⟨_,0,rfl,sb.trans (Sx.rev (by lia) (by lia) (by exact Nat.le_of_lt ‹_›)),rfl,by exact Nat.le_add_left _ _,by exact Nat.lt_succ_of_lt ‹_›,?_,Eqs.one⟩))
          refine (p3.rev p4 (by exact Nat.le_of_lt ‹_›) (by exact Nat.add_lt_add_left ‹_› _)).step (by lia) ?_
          rw [fX (by exact Nat.le_of_lt ‹_›),fX (by exact Nat.le_of_lt ‹_›),if_neg (by lia),if_pos (by lia)]
          exact (Le.of e).trans (p4 _ (by lia) (by lia)).2
        · exact wpS_pure ⟨b,0,rfl,sb,rfl,by exact Nat.le_add_left _ _,by exact Nat.lt_succ_of_lt ‹_›,p3.step (by lia) (Le.of e),Eqs.one⟩
      | false=>
        dsimp only
        rw [if_neg (by simp)]
        refine wpS_bind (iZ C (sb.dom da) i2 i1 ?_)
        cases e':O.blt (key (at' b (lo+x - 1))) (key (at' b (lo+x))) with
        | true=>exact wpS_pure ⟨b,x,q,rfl,sb,rfl,p1,by exact Nat.le_of_lt ‹_›,p3,p4⟩
        | false=>
          refine wpS_pure ⟨b,q+1,rfl,sb,rfl,by exact Nat.succ_lt_succ ‹_›,by exact Nat.lt_succ_of_lt ‹_›,p3.step (by lia) e',fun i r1 r2=>?_⟩
          show Le O key (at' b i) (at' b (lo+x))∧Le O key (at' b (lo+x)) (at' b i)
          by_cases c:i=lo+x
          · rw [c];exact ⟨Le.refl _,Le.refl _⟩
          · obtain ⟨u1,u2⟩:=p4 i (by lia) (by lia)
            exact ⟨u1.trans e,Le.trans e' u2⟩
    case s3=>
      rintro c st' ⟨b,m,q,rfl,sb,rfl,p1,p2,p3,p4⟩
      have bz:=sb.size
      dsimp -zeta only
      extract_lets
      rename Unit→_=>jp2
      have J2:∀b,Sx a b lo (lo+nrem)→Dn O key b lo (lo+m)→wpS (model prog w) A E s (jp2 ()) Q (SortSt.mk' κ b pd g none):=by
        intro b sb db
        have bz:=sb.size
        refine wpS_bind (qa ?_)
        have sc:=sb.trans (Sx.rev (a:=b) (i:=lo) (j:=lo+m) (Nat.le_refl lo) (show lo+m≤lo+nrem by exact Nat.add_le_add_left ‹_› _) (by lia))
        have cz:=sc.size
        have ss:=db.flip (by lia)
        revert sc cz ss
        generalize mirror b lo (lo+m) ((lo+m - lo) / 2)=c
        intro sc cz ss
        refine wpS_bind (wE (O:=O) (key:=key) (a:=c) (lo:=lo) (n0:=m) (nrem:=nrem) (by exact Nat.le_trans (Nat.le_add_left _ _) ‹_›) p2 ss (fun x n R n1 n2 hR=>?_) fun n q1 q2 q3 q4=>?_)
        · refine wpS_bind (iZ C (sc.dom da) (show lo+n < c.size by lia) (show lo+n - 1 < c.size by lia) ?_)
          cases e:O.blt (key (at' c (lo+n))) (key (at' c (lo+n - 1))) with
          | true=>rw [e] at hR;exact wpS_pure hR
          | false=>rw [e] at hR;exact wpS_pure hR
        · exact wpS_pure (h n c (by lia) q2 sc q3)
      clear_value jp2
      refine fw (fun z=>?_) (fun z=>?_)
      · exact wpS_bind (qa (J2 _ (sb.trans (Sx.rev (a:=b) (i:=lo+m - (q+1)) (j:=lo+m) (by lia) (by exact Nat.add_le_add_left ‹_› _) (by lia))) (Dn.rev (hi:=lo+m) (q:=q) p3 p4 (by lia) (by exact Nat.add_lt_add_left ‹_› _))))
      · exact J2 b sb p3
  clear_value jp
  refine fw (fun c=>?_) (fun c=>?_)
  · refine wpS_bind (iZ C da (show lo < a.size by lia) (show lo+n - 1 < a.size by lia) ?_)
    cases e:O.blt (key (at' a lo)) (key (at' a (lo+n - 1))) with
    | true=>exact wpS_pure (h n a q1 q2 .refl q3)
    | false=>
      refine wpS_bind (qa (J _ (Sx.rev (Nat.le_refl _) (by exact Nat.add_le_add_left ‹_› _) (by lia)) fun i j r1 r2 r3=>?_))
      have all:∀x y,lo≤x→x < lo+n→lo≤y→y < lo+n→Le O key (at' a x) (at' a y):=fun x y x1 x2 y1 y2=>
        ((q3.le x1 (by lia) (by lia):Le O key (at' a x) (at' a (lo+n - 1))).trans e).trans (q3.le (Nat.le_refl _) y1 y2)
      rw [fX (by lia),fX (by lia),if_pos (show lo≤i∧i < lo+n by lia)]
      by_cases c':j < lo+n
      · rw [if_pos (by lia)]
        exact all _ _ (by lia) (by lia) (by lia) (by lia)
      · rw [if_neg (by exact fun h=>‹¬_› h.2),show j=lo+n by lia]
        exact (Le.of sn).trans (all _ _ (by lia) (by lia) (by lia) (by lia))
  · refine J a .refl fun i j r1 r2 r3=>?_
    rw [show i=lo+n - 1 by lia,show j=lo+n by lia]
    exact Le.of sn
end
end NhLS
namespace NhLS
set_option autoImplicit false
open PySem PyProof.Rows
def Ch (O:KeyOrd) (key:Keyed→O.α) (a:Array Keyed):List (Nat×Nat×Nat)→Nat→Nat→Prop
  | [],p,e=>p=e
  | t::l,p,e=>t.1=p∧1≤t.2.1∧So O key a p (p+t.2.1)∧Ch O key a l (p+t.2.1) e
section
variable {O:KeyOrd} {key:Keyed→O.α} {a b:Array Keyed}
theorem Ch.app:∀{l l':List (Nat×Nat×Nat)} {p e:Nat},Ch O key a (l++l') p e→∃m,Ch O key a l p m∧Ch O key a l' m e
  | [],_,p,e,h=>⟨p,rfl,h⟩
  | t::l,_,p,e,h=>by
    obtain ⟨m,h1,h2⟩:=Ch.app h.2.2.2
    exact ⟨m,⟨h.1,h.2.1,h.2.2.1,h1⟩,h2⟩
theorem Ch.join:∀{l l':List (Nat×Nat×Nat)} {p m e:Nat},Ch O key a l p m→Ch O key a l' m e→Ch O key a (l++l') p e
  | [],_,p,m,e,h1,h2=>by rw [show p=m from h1];exact h2
  | t::l,_,p,m,e,h1,h2=>⟨h1.1,h1.2.1,h1.2.2.1,Ch.join h1.2.2.2 h2⟩
theorem Ch.le:∀{l:List (Nat×Nat×Nat)} {p e:Nat},Ch O key a l p e→p+l.length≤e
  | [],p,e,h=>by rw [show p=e from h];exact Nat.le_refl _
  | t::l,p,e,h=>by
    have:=Ch.le h.2.2.2
    have:=h.2.1
    rw [List.length_cons]
    lia
theorem Ch.ext:∀{l:List (Nat×Nat×Nat)} {p e:Nat},Ch O key a l p e→(∀j,p≤j→j < e→at' b j=at' a j)→Ch O key b l p e
  | [],p,e,h,_=>h
  | t::l,p,e,h,q=>by
    have:=Ch.le h.2.2.2
    exact ⟨h.1,h.2.1,h.2.2.1.ext fun j h1 h2=>q j h1 (by lia),Ch.ext h.2.2.2 fun j h1 h2=>q j (by exact Nat.le_trans (Nat.le_add_right _ _) ‹_›) h2⟩
theorem Ch.map:∀{l l':List (Nat×Nat×Nat)} {p e:Nat},Ch O key a l p e→l'.map (fun t=>(t.1,t.2.1))=l.map (fun t=>(t.1,t.2.1))→Ch O key a l' p e
  | [],l',p,e,h,q=>by
    cases l' with
    | nil=>exact h
    | cons _ _=>simp at q
  | t::l,l',p,e,h,q=>by
    cases l' with
    | nil=>simp at q
    | cons t' l'=>
      simp only [List.map_cons,List.cons.injEq,Prod.mk.injEq] at q
      refine ⟨q.1.1.trans h.1,by rw [q.1.2];exact h.2.1,by rw [q.1.2];exact h.2.2.1,?_⟩
      rw [q.1.2]
      exact Ch.map h.2.2.2 q.2
theorem vS (f:Nat×Nat×Nat→Nat×Nat×Nat) (hf:∀t,(f t).1=t.1∧(f t).2.1=t.2.1) (l:List (Nat×Nat×Nat)) (k:Nat):(l.modify k f).map (fun t=>(t.1,t.2.1))=l.map (fun t=>(t.1,t.2.1)):=by
  refine List.ext_getElem? fun j=>?_
  rw [List.getElem?_map,List.getElem?_map,List.getElem?_modify]
  cases l[j]? with
  | none=>rfl
  | some t=>
    by_cases e:k=j
    · simp [e,hf t]
    · simp [e]
theorem Ch.one {p n w:Nat} (h:So O key a p (p+n)) (h1:1≤n):Ch O key a [(p,n,w)] p (p+n):=⟨rfl,h1,h,rfl⟩
end
section
variable {prog:Program} {w:World} {A:Around} {E:Value→Shared→Prop} {s:Shared} {κ:SortKind} {O:KeyOrd} {key:Keyed→O.α} {dom:Keyed→Prop} {a:Array Keyed} {pd:Array (Nat×Nat×Nat)} {g:Nat}
theorem lg (C:Cmp prog w A s κ O key dom) {i lo:Nat} {Q:Bool→SortSt→Prop} (da:∀x∈a.toList,dom x) (hi:i+1 < pd.size) (hz:lo≤a.size) (hc:Ch O key a pd.toList 0 lo)
    (h:∀b pd' g',b.toList.Perm a.toList→(∀j,lo≤j→at' b j=at' a j)→Ch O key b pd'.toList 0 lo→pd'.size+1=pd.size→Q true (SortSt.mk' κ b pd' g' none)):wpS (model prog w) A E s (mergeAt' i) Q (SortSt.mk' κ a pd g none):=by
  have el:pd.toList=pd.toList.take i++(pd[i]::pd[i+1]::pd.toList.drop (i+2)):=by
    conv=>lhs;rw [←List.take_append_drop i pd.toList]
    congr 1
    rw [List.drop_eq_getElem_cons (by simp;exact Nat.lt_of_succ_lt ‹_›),List.drop_eq_getElem_cons (by simp;assumption)]
    simp
  have e1:pd[i]? =some pd[i]:=getElem?_pos ..
  have e2:pd[i+1]? =some pd[i+1]:=getElem?_pos ..
  revert el e1 e2
  generalize pd[i]=t1
  generalize pd[i+1]=t2
  intro el e1 e2
  obtain ⟨sa,na,w1⟩:=t1
  obtain ⟨sb,nb,w2⟩:=t2
  have li:(pd.toList.take i).length=i:=by simp;lia
  revert el li
  generalize pd.toList.take i=pre
  generalize pd.toList.drop (i+2)=post
  intro el li
  rw [el] at hc
  obtain ⟨m,c1,c2⟩:=hc.app
  obtain ⟨u1,u2,u3,v1,v2,v3,c3⟩:=c2
  simp only at u1 u2 u3 v1 v2 v3 c3
  subst u1
  subst v1
  have le3:=c3.le
  refine rD C (fun i hi=>da _ (ie hi)) e1 e2 u2 v2 (by lia) u3 v3 fun b g' pb ob sb=>h b _ g' pb (fun j hj=>ob j (.inr (by lia))) ?_ ?_
  · have:((pd.setIfInBounds i (sa,na+nb,w1)).eraseIdxIfInBounds (i+1)).toList=pre++((sa,na+nb,w1)::post):=by
      have hs:i+1 < (pd.setIfInBounds i (sa,na+nb,w1)).size:=by simpa using hi
      rw [Array.eraseIdxIfInBounds,dif_pos hs,Array.toList_eraseIdx,Array.toList_setIfInBounds,el]
      subst li
      simp [List.eraseIdx_append_of_length_le]
    rw [this]
    refine (c1.ext fun j _ hj=>ob j (.inl hj)).join ⟨rfl,by show 1≤na+nb;exact Nat.lt_add_right _ ‹_›,by rw [←Nat.add_assoc];exact sb,?_⟩
    show Ch O key b post (sa+(na+nb)) lo
    rw [←Nat.add_assoc]
    exact c3.ext fun j hj _=>ob j (.inr hj)
  · have hs:i+1 < (pd.setIfInBounds i (sa,na+nb,w1)).size:=by simpa using hi
    rw [Array.eraseIdxIfInBounds,dif_pos hs,Array.size_eraseIdx]
    simp
    lia
theorem t7 {c:Prop} [Decidable c] {x y:Nat} {Q:Bool→SortSt→Prop} {st:SortSt} (h:∀i,i=x∨i=y→wpS (model prog w) A E s (mergeAt' i) Q st):wpS (model prog w) A E s (mergeAt' (if c then x else y)) Q st:=by
  split
  · exact h _ (.inl rfl)
  · exact h _ (.inr rfl)
theorem oR (C:Cmp prog w A s κ O key dom) {Q:Unit→SortSt→Prop} (da:∀x∈a.toList,dom x) (h:∀b pd' g',b.toList.Perm a.toList→So O key b 0 a.size→Q () (SortSt.mk' κ b pd' g' none)):wpS (model prog w) A E s sortRuns' Q (SortSt.mk' κ a #[] g none):=by
  refine wpS_bind (wpS_get ?_)
  refine wpS_bind (wpS_mono (wpS_forRange (I:=fun x c st'=>∃b lo pd g,st'=SortSt.mk' κ b pd g none∧b.toList.Perm a.toList∧c=(none,lo)∧lo≤a.size∧(x≤lo∨lo=a.size)∧Ch O key b pd.toList 0 lo)
    (Q:=fun c st'=>∃b pd g,st'=SortSt.mk' κ b pd g none∧b.toList.Perm a.toList∧c=(none,a.size)∧Ch O key b pd.toList 0 a.size) ?s1 ?s2 ⟨a,0,#[],g,rfl,List.Perm.refl _,rfl,by exact Nat.zero_le _,by (solve_by_elim (maxDepth:=3) only [*,Nat.le_trans,Nat.lt_of_lt_of_le,Nat.lt_of_le_of_lt,Nat.le_of_lt]),rfl⟩) ?s3)
  case s2=>
    rintro c st' ⟨b,lo,pd,g,rfl,p1,rfl,p2,p3,p4⟩
    have:lo=a.size:=by
      rcases p3 with p3 | p3
      · have p3':max 0 a.size≤lo:=p3
        exact Nat.le_antisymm ‹_› ‹_›
      · exact p3
    subst this
    exact ⟨b,pd,g,rfl,p1,rfl,p4⟩
  case s1=>
    rintro x c st' - x2 ⟨b,lo,pd,g,rfl,p1,rfl,p2,p3,p4⟩
    have bz:b.size=a.size:=by have:=p1.length_eq;simpa using this
    refine xS fun R hR=>?_
    have Rd:∀b pd g,b.toList.Perm a.toList→Ch O key b pd.toList 0 a.size→R (.done (none,a.size)) (SortSt.mk' κ b pd g none):=fun b pd g q1 q2=>by rw [hR];exact ⟨b,pd,g,rfl,q1,rfl,q2⟩
    have Ry:∀b lo pd g,b.toList.Perm a.toList→lo≤a.size→(x+1≤lo∨lo=a.size)→Ch O key b pd.toList 0 lo→R (.yield (none,lo)) (SortSt.mk' κ b pd g none):=fun b lo pd g q1 q2 q3 q4=>by rw [hR];exact ⟨b,lo,pd,g,rfl,q1,rfl,q2,q3,q4⟩
    clear hR
    dsimp -zeta only
    extract_lets
    refine fw (fun z=>?_) (fun z=>?_)
    · have:lo=a.size:=by exact Nat.le_antisymm ‹_› ‹_›
      subst this
      exact wpS_pure (Rd b pd g p1 p4)
    have z':lo < a.size:=by exact Nat.lt_of_not_le ‹_›
    refine wpS_bind (oQ C (fun x hx=>da x (p1.mem_iff.mp hx)) (lo:=lo) (nrem:=a.size - lo) (by exact Nat.sub_pos_of_lt ‹_›) (by lia) fun n c n1 n2 sc ss=>?_)
    dsimp -zeta only
    extract_lets
    rename Unit→Nat→_=>jp
    have J:∀(n:Nat) (c:Array Keyed),1≤n→n≤a.size - lo→Sx b c lo (lo+(a.size - lo))→So O key c lo (lo+n)→wpS (model prog w) A E s (jp () n) R (SortSt.mk' κ c pd g none):=by
      intro n c n1 n2 sc ss
      have cp:c.toList.Perm a.toList:=sc.perm.trans p1
      have ch:Ch O key c pd.toList 0 lo:=p4.ext fun j _ hj=>sc.out j (.inl hj)
      refine wpS_bind (wpS_get ?_)
      dsimp -zeta only
      extract_lets
      rename Unit→_=>jq
      have K:∀c pd g,c.toList.Perm a.toList→Ch O key c pd.toList 0 lo→So O key c lo (lo+n)→wpS (model prog w) A E s (jq ()) R (SortSt.mk' κ c pd g none):=by
        intro c pd g cp ch ss
        refine wpS_bind (wpS_modify (wpS_pure (Ry c (lo+n) (pd.push (lo,n,0)) g cp (by lia) (by lia) ?_)))
        rw [Array.toList_push]
        exact ch.join (Ch.one ss n1)
      clear_value jq
      cases eb:pd.back? with
      | none=>exact K c pd g cp ch ss
      | some t=>
        dsimp -zeta only
        refine wpS_bind (wpS_mono (wpS_forRange (I:=fun x r st'=>r=(none,())∧∃c pd g,st'=SortSt.mk' κ c pd g none∧c.toList.Perm a.toList∧Ch O key c pd.toList 0 lo∧So O key c lo (lo+n))
          (Q:=fun r st'=>r=(none,())∧∃c pd g,st'=SortSt.mk' κ c pd g none∧c.toList.Perm a.toList∧Ch O key c pd.toList 0 lo∧So O key c lo (lo+n)) ?t1 (fun _ _ q=>q) ⟨rfl,c,pd,g,rfl,cp,ch,ss⟩) ?t3)
        case t3=>
          rintro r st' ⟨rfl,c,pd,g,rfl,cp,ch,ss⟩
          refine wpS_bind (wpS_modify (K c _ g cp (ch.map ?_) ss))
          rw [Array.toList_modify]
          refine vS _ ?_ _ _
          exact fun _=>⟨rfl,rfl⟩
        case t1=>
          rintro y r st' - - ⟨rfl,c,pd,g,rfl,cp,ch,ss⟩
          refine wpS_bind (wpS_get ?_)
          dsimp only
          by_cases pz:pd.size > 1
          · rw [if_pos pz,getElem?_pos pd (pd.size - 2) (by lia)]
            refine fw (fun _=>?_) (fun _=>?_)
            · exact wpS_pure ⟨rfl,c,pd,g,rfl,cp,ch,ss⟩
            · have cz:c.size=a.size:=by have:=cp.length_eq;simpa using this
              refine wpS_bind (lg C (fun x hx=>da x (cp.mem_iff.mp hx)) (i:=pd.size - 2) (lo:=lo) (by lia) (by lia) ch fun d pd' g' dp od dc _=>?_)
              exact wpS_pure ⟨rfl,d,pd',g',rfl,dp.trans cp,dc,ss.ext fun j j1 _=>od j j1⟩
          · rw [if_neg pz]
            exact wpS_pure ⟨rfl,c,pd,g,rfl,cp,ch,ss⟩
    clear_value jp
    refine fw (fun y=>?_) (fun y=>?_)
    · refine wpS_bind (wpS_lift (wpAny_rule ⟨rfl,?_⟩))
      have cz:=sc.size
      refine wpS_bind (mn C (a:=c) (lo:=lo) (n:=min (a.size - lo) (minRun' a.size a.size 0)) (ok:=n) (fun x hx=>da x (p1.mem_iff.mp (sc.perm.mem_iff.mp hx))) n1 (by have y':n < minRun' a.size a.size 0:=y;lia) (by lia) ss fun d sd ds=>?_)
      refine aK (by simp) ?_
      exact J _ d (by have y':n < minRun' a.size a.size 0:=y;lia) (by lia) (sc.trans ⟨sd.perm,fun j hj=>sd.out j (by lia)⟩) ds
    · exact J n c n1 n2 sc ss
  case s3=>
    rintro c st' ⟨b,pd,g,rfl,p1,rfl,p2⟩
    refine wpS_bind (wpS_mono (wpS_forRange (I:=fun x r st'=>r=(none,())∧∃c pd g,st'=SortSt.mk' κ c pd g none∧c.toList.Perm a.toList∧Ch O key c pd.toList 0 a.size∧(pd.size+x≤a.size∨pd.size≤1))
      (Q:=fun r st'=>r=(none,())∧∃c pd g,st'=SortSt.mk' κ c pd g none∧c.toList.Perm a.toList∧Ch O key c pd.toList 0 a.size∧pd.size≤1) ?t1 ?t2 ⟨rfl,b,pd,g,rfl,p1,p2, .inl (by have:=p2.le;simp at this;assumption)⟩) ?t3)
    case t2=>
      rintro r st' ⟨rfl,c,pd,g,rfl,cp,ch,hz⟩
      refine ⟨rfl,c,pd,g,rfl,cp,ch,?_⟩
      rcases hz with hz | hz
      · have hz':pd.size+max 0 a.size≤a.size:=hz
        lia
      · exact hz
    case t1=>
      rintro y r st' - - ⟨rfl,c,pd,g,rfl,cp,ch,hz⟩
      refine wpS_bind (wpS_get ?_)
      refine fw (fun z=>?_) (fun z=>?_)
      · exact wpS_pure ⟨rfl,c,pd,g,rfl,cp,ch,z⟩
      · have z':1 < pd.size:=Nat.lt_of_not_le z
        have cz:c.size=a.size:=by have:=cp.length_eq;simpa using this
        extract_lets
        refine wpS_bind (t7 fun i hi=>?_)
        refine lg C (fun x hx=>da x (cp.mem_iff.mp hx)) (i:=i) (lo:=a.size) ?_ (by exact Nat.le_of_eq (Eq.symm ‹_›)) ch fun d pd' g' dp od dc dz=>?_
        · rcases hi with rfl | rfl
          · show pd.size - 2 - 1+1 < pd.size
            lia
          · show pd.size - 2+1 < pd.size
            lia
        · exact wpS_pure ⟨rfl,d,pd',g',rfl,dp.trans cp,dc,by lia⟩
    case t3=>
      rintro r st' ⟨rfl,c,pd,g,rfl,cp,ch,hz⟩
      refine wpS_pure (h c pd g cp ?_)
      obtain ⟨l⟩:=pd
      match l,hz,ch with
      | [],_,ch=>
        have:0=a.size:=ch
        rw [←this]
        exact fun i j _ _ q=>by lia
      | [t],_,ch=>
        obtain ⟨_,_,s1,e⟩:=ch
        have e':0+t.2.1=a.size:=e
        rw [e'] at s1
        exact s1
      | _::_::_,hz,_=>simp at hz
end
end NhLS
namespace NhSG
set_option autoImplicit false
open PySem PyProof PyProof.Rows PySem.W
abbrev Ky:=Int×List Nat
def oS (hp:Heap):Value→Option Ky
  | .ref a=>(hp.get? a).bind fun o=>match o.data with
    | .seq xs _=>match xs.toList with
      | [.int n _, .str z _]=>some (n,z.cps.toList)
      | _=>none
    | _=>none
  | _=>none
theorem vT {hp:Heap} {a:Addr} {o:Obj} {xs:Array Value} {k:Nat} {n:Int} {t u:Tok} {z:Str} (ho:hp.get? a=some o) (hd:o.data= .seq xs k) (hx:xs.toList=[.int n t, .str z u]):oS hp (.ref a)=some (n,z.cps.toList):=by
  simp [oS,ho,hd,hx]
end NhSG
namespace NhSG
set_option autoImplicit false
open PySem PyProof PyProof.Rows PySem.W
def Keep (h h':Heap):Prop:=∀b o,h.get? b=some o→h'.get? b=some o
theorem Keep.refl (h:Heap):Keep h h:=fun _ _ e=>e
theorem Keep.trans {h h1 h2:Heap} (a:Keep h h1) (b:Keep h1 h2):Keep h h2:=fun c o e=>b c o (a c o e)
def IsKy (hp:Heap) (v:Value) (y:Ky):Prop:=∃c o xs k t z u,v= .ref c∧hp.get? c=some o∧o.cls= .type "tuple"∧o.data= .seq xs k∧xs.toList=[.int y.1 t, .str z u]∧y.2=z.cps.toList
theorem IsKy.keep {h h':Heap} {v:Value} {y:Ky} (a:IsKy h v y) (k:Keep h h'):IsKy h' v y:=by
  obtain ⟨c,o,xs,n,t,z,u,e,ho,r⟩:=a
  exact ⟨c,o,xs,n,t,z,u,e,k c o ho,r⟩
theorem IsKy.key {h:Heap} {v:Value} {y:Ky} (a:IsKy h v y):oS h v=some y:=by
  obtain ⟨c,o,xs,n,t,z,u,rfl,ho,hc,hd,hx,e⟩:=a
  rw [vT ho hd hx,←e]
def KA (hp:Heap):List Value→List Ky→Prop
  | [],[]=>True
  | v::vs,y::ys=>IsKy hp v y∧KA hp vs ys
  | _,_=>False
theorem KA.keep {h h':Heap} (k:Keep h h'):∀{vs:List Value} {ys:List Ky},KA h vs ys→KA h' vs ys
  | [],[],_=>trivial
  | v::vs,y::ys,a=>⟨a.1.keep k,KA.keep k a.2⟩
  | [],_::_,a=>a.elim
  | _::_,[],a=>a.elim
theorem KA.len {h:Heap}:∀{vs:List Value} {ys:List Ky},KA h vs ys→vs.length=ys.length
  | [],[],_=>rfl
  | v::vs,y::ys,a=>by simp [KA.len a.2]
  | [],_::_,a=>a.elim
  | _::_,[],a=>a.elim
theorem KA.snoc {h:Heap} {v:Value} {y:Ky} (b:IsKy h v y):∀{vs:List Value} {ys:List Ky},KA h vs ys→KA h (vs++[v]) (ys++[y])
  | [],[],_=>⟨b,trivial⟩
  | _::_,_::_,a=>⟨a.1,KA.snoc b a.2⟩
  | [],_::_,a=>a.elim
  | _::_,[],a=>a.elim
theorem KA.tups {h:Heap}:∀{vs:List Value} {ys:List Ky},KA h vs ys→∃fs,KatTups h vs fs∧(∀f∈fs,∃n t,f= .int n t)∧fs.length=vs.length
  | [],[],_=>⟨[],trivial,(fun _ z=>by cases z),rfl⟩
  | v::vs,y::ys,a=>by
    obtain ⟨fs,t,hf,hl⟩:=KA.tups a.2
    obtain ⟨c,o,xs,n,tk,z,u,rfl,ho,hc,hd,hx,e⟩:=a.1
    refine ⟨.int y.1 tk::fs,KatTups.cons ho hc hd ?_ t,fun f hm=>?_,by simp [hl]⟩
    · rw [←Array.getElem?_toList,hx]
      rfl
    · rcases List.mem_cons.mp hm with rfl | hm
      · exact ⟨_,_,rfl⟩
      · exact hf f hm
  | [],_::_,a=>a.elim
  | _::_,[],a=>a.elim
theorem KA.at {h:Heap}:∀{ks:List Value} {ys:List Ky} {i:Nat},KA h ks ys→i < ks.length→oS h (ks.getD i Value.none)=some (ys.getD i (0,[]))
  | k::ks,y::ys,0,a,_=>a.1.key
  | k::ks,y::ys,i+1,a,hi=>by
    have:=KA.at (i:=i) a.2 (by simpa using hi)
    simpa using this
  | [],_,_,_,hi=>by simp at hi
  | _::_,[],_,a,_=>a.elim
@[reducible] def An (h:Heap) (p:Keyed):Ky:=(oS h p.1).getD (0,[])
theorem KA.zip {h:Heap}:∀{ks:List Value} {ys:List Ky} {vs:List Value},KA h ks ys→(ks.zip vs).map (fun p=>(An h p,p.2))=ys.zip vs
  | [],[],_,_=>by simp
  | k::ks,y::ys,[],_=>by simp
  | k::ks,y::ys,v::vs,a=>by
    simp only [List.zip_cons_cons,List.map_cons]
    rw [KA.zip a.2]
    congr 1
    show ((oS h k).getD (0,[]),v)=(y,v)
    rw [a.1.key]
    rfl
  | [],_::_,_,a=>a.elim
  | _::_,[],_,a=>a.elim
theorem KA.dom {h:Heap} {vs:List Value}:∀{ks:List Value} {ys:List Ky},KA h ks ys→∀p∈ks.zip vs,∃y,oS h p.1=some y:=fun {ks ys} a p hp=>by
  have hk:p.1∈ks:=(List.of_mem_zip hp).1
  clear hp
  induction ks generalizing ys with
  | nil=>cases hk
  | cons k ks ih=>cases ys with
    | nil=>exact a.elim
    | cons y ys=>
      rcases List.mem_cons.mp hk with e | hk
      · rw [e];exact ⟨y,a.1.key⟩
      · exact ih a.2 hk
end NhSG
namespace NhSP
set_option autoImplicit false
open PySem PyProof PyProof.Rows PySem.W
abbrev Kp:=List Nat×Int
def fY (a b:Kp):Bool:=decide (a.1 < b.1)||(decide (a.1=b.1)&&decide (a.2 < b.2))
theorem iD {a b:Kp}:fY a b=true↔a.1 < b.1∨(a.1=b.1∧a.2 < b.2):=by simp [fY]
theorem mo {a b:Kp}:fY a b=false↔¬(a.1 < b.1∨(a.1=b.1∧a.2 < b.2)):=by rw [←iD];simp
def cM (hp:Heap):Value→Kp
  | .ref a=>match hp.get? a with
    | some o=>(match o.data with
      | .seq xs _=>(match xs.toList with
        | [.str z _, .int n _]=>(z.cps.toList,n)
        | _=>([],0))
      | _=>([],0))
    | none=>([],0)
  | _=>([],0)
def IsKp (hp:Heap) (v:Value):Prop:=∃c o xs k t z u n,v= .ref c∧hp.get? c=some o∧o.cls= .type "tuple"∧o.data= .seq xs k∧xs.toList=[.str z t, .int n u]
theorem IsKp.keep {hp h':Heap} {v:Value} (h:IsKp hp v) (k:∀b o,v= .ref b→hp.get? b=some o→h'.get? b=some o):IsKp h' v∧cM h' v=cM hp v:=by
  obtain ⟨c,o,xs,n,t,z,u,i,rfl,ho,r⟩:=h
  have e:=k c o rfl ho
  exact ⟨⟨c,o,xs,n,t,z,u,i,rfl,e,r⟩,by simp only [cM,e,ho]⟩
@[reducible] def ordP:KeyOrd where
  α:=Kp
  blt:=fY
  irrefl a:=by
    rw [mo]
    rintro (h | h)
    · exact List.lt_irrefl _ h
    · omega
  trans a b c h1 h2:=by
    rw [iD] at *
    rcases h1 with h1 | h1
    · rcases h2 with h2 | h2
      · exact .inl (List.lt_trans h1 h2)
      · exact .inl (h2.1▸h1)
    · rcases h2 with h2 | h2
      · exact .inl (h1.1▸h2)
      · exact .inr ⟨h1.1.trans h2.1,by omega⟩
  negTrans a b c h:=by
    rw [iD] at *
    rw [iD]
    by_cases hab:a.1 < b.1
    · exact .inl (.inl hab)
    · by_cases hbc:b.1 < c.1
      · exact .inr (.inl hbc)
      · have l1:=List.not_lt.mp hab
        have l2:=List.not_lt.mp hbc
        rcases h with h | h
        · exact absurd h (List.not_lt.mpr (List.le_trans l2 l1))
        · have e1:b.1=a.1:=List.le_antisymm l1 (h.1▸l2)
          by_cases hab2:a.2 < b.2
          · exact .inl (.inr ⟨e1.symm,hab2⟩)
          · exact .inr (.inr ⟨e1.trans h.1,by omega⟩)
  total a b h1 h2:=by
    rw [mo] at *
    have e:a.1=b.1:=List.le_antisymm (List.not_lt.mp fun z=>h2 (.inl z)) (List.not_lt.mp fun z=>h1 (.inl z))
    have n1:¬a.2 < b.2:=fun z=>h1 (.inr ⟨e,z⟩)
    have n2:¬b.2 < a.2:=fun z=>h2 (.inr ⟨e.symm,z⟩)
    exact Prod.ext e (by omega)
section
variable {prog:Program} {w:World} {A:Around} {E:Value→Shared→Prop} {s:Shared}
theorem Ao:NhLS.Cmp prog w A s (tuples' true) ordP (fun p=>cM s.heap p.1) (fun p=>IsKp s.heap p.1):=by
  constructor
  rintro E ⟨_,x2⟩ ⟨_,y2⟩ Q ⟨ax,ox,xs,kx,tx,zx,ux,nx,rfl,hox,hcx,hdx,hxx⟩ ⟨ay,oy,ys,ky,ty,zy,uy,ny,rfl,hoy,hcy,hdy,hyy⟩ hq
  have kx':cM s.heap (.ref ax)=(zx.cps.toList,nx):=by simp only [cM,hox,hdx,hxx]
  have ky':cM s.heap (.ref ay)=(zy.cps.toList,ny):=by simp only [cM,hoy,hdy,hyy]
  have hq':Q (fY (zx.cps.toList,nx) (zy.cps.toList,ny)) s:=by rw [←kx',←ky'];exact hq
  refine kat_lt hox hdx hoy hdy ?_
  have fin:decide (xs.size < ys.size)=false:=by
    have l1:xs.size=2:=by rw [←Array.length_toList,hxx];rfl
    have l2:ys.size=2:=by rw [←Array.length_toList,hyy];rfl
    rw [l1,l2]
    rfl
  rw [hxx,hyy,fin]
  show KatLex prog w A true false Q [(.str zx tx, .str zy ty),(.int nx ux, .int ny uy)] 0 s
  refine kat_cons (wpAny_eqBool_str (kat_go (fun e1=>kat_yes (kat_cons (wpAny_eqBool_int (kat_go (fun e2=>kat_yes (kat_nil ?_)) (fun e2=>kat_no ?_))))) (fun e1=>kat_no ?_)))
  · have e1:zx=zy:=by simpa using e1
    have e2:nx=ny:=by simpa using e2
    have z:fY (zx.cps.toList,nx) (zy.cps.toList,ny)=false:=by
      rw [mo,e1,e2]
      rintro (z | z)
      · exact List.lt_irrefl _ z
      · exact Int.lt_irrefl _ z.2
    rw [←z]
    exact hq'
  · have e1:zx=zy:=by simpa using e1
    show wpAny (model prog w) A (oneLt' false (.int nx ux) (.int ny uy)) Q _ s
    refine kat_one _ _ (PyProof.Rows.lt_int ?_)
    have z:fY (zx.cps.toList,nx) (zy.cps.toList,ny)=decide (nx < ny):=by
      have ir:decide (zy.cps.toList < zy.cps.toList)=false:=decide_eq_false (List.lt_irrefl _)
      unfold fY
      rw [e1]
      simp only [ir,Bool.false_or,decide_true,Bool.true_and]
    rw [z] at hq'
    exact hq'
  · have e1:¬zx=zy:=by simpa using e1
    show wpAny (model prog w) A (oneLt' true (.str zx tx) (.str zy ty)) Q _ s
    refine strKind_oneLt prog w A _ s (.str zx tx) (.str zy ty) zx.cps.toList zy.cps.toList rfl rfl ?_
    have ne:¬zx.cps.toList=zy.cps.toList:=fun z=>e1 (by
      cases zx;cases zy
      simp at z
      rw [z])
    have z:fY (zx.cps.toList,nx) (zy.cps.toList,ny)=decide (zx.cps.toList < zy.cps.toList):=by
      unfold fY
      simp [ne]
    rw [z] at hq'
    exact hq'
def Told (hp:Heap) (vs:List Value) (out:Array Value):Prop:=out.toList.Perm vs∧out.toList.Pairwise fun x y=>fY (cM hp y) (cM hp x)=false
variable {a:Addr} {vs:List Value} {n:Nat}
theorem vU {hp:Heap} {b:Array Keyed} (hp':b.toList.Perm (vs.zip vs)) (hs:NhLS.So ordP (fun p=>cM hp p.1) b 0 b.size):Told hp vs (b.map (·.2)):=by
  have same:∀p∈b.toList,p.1=p.2:=fun p hp=>by
    have:=hp'.mem_iff.mp hp
    rw [List.zip_eq_zipWith] at this
    obtain ⟨i,hi,e⟩:=List.mem_iff_getElem.mp this
    simp at e
    rw [←e]
  refine ⟨?_,?_⟩
  · have:=hp'.map (·.2)
    rw [List.map_snd_zip (Nat.le_refl _)] at this
    simpa using this
  · rw [Array.toList_map,List.pairwise_map]
    refine List.pairwise_iff_getElem.mpr fun i j hi hj hij=>?_
    have q:=hs.le (Nat.zero_le _) (Nat.le_of_lt hij) (by simpa using hj)
    have e1:NhLS.at' b i=b.toList[i]:=by simp [NhLS.at',Array.getD,show i < b.size by simpa using hi]
    have e2:NhLS.at' b j=b.toList[j]:=by simp [NhLS.at',Array.getD,show j < b.size by simpa using hj]
    rw [e1,e2] at q
    rw [←same _ (List.getElem_mem hi),←same _ (List.getElem_mem hj)]
    simpa [NhLS.Le,KeyOrd.kle] using q
theorem tups:∀{hp:Heap} {vs:List Value},(∀v∈vs,IsKp hp v)→∃fs,KatTups hp vs fs∧(∀f∈fs,∃z t,f= .str z t)∧fs.length=vs.length
  | hp,[],_=>⟨[],trivial,(fun _ z=>by cases z),rfl⟩
  | hp,v::vs,h=>by
    obtain ⟨fs,t,hf,hl⟩:=tups (hp:=hp) (vs:=vs) fun v hv=>h v (List.mem_cons_of_mem _ hv)
    obtain ⟨c,o,xs,k,tk,z,u,i,rfl,ho,hc,hd,hx⟩:=h v (List.mem_cons_self ..)
    refine ⟨.str z tk::fs,KatTups.cons ho hc hd ?_ t,fun f hm=>?_,by simp [hl]⟩
    · rw [←Array.getElem?_toList,hx]
      rfl
    · rcases List.mem_cons.mp hm with rfl | hm
      · exact ⟨_,_,rfl⟩
      · exact hf f hm
theorem t8 {P:PySem.Fin→Shared→Prop} (ho:s.heap.get? a=some (seqObj "list" vs.toArray n)) (hI:∀v∈vs,IsKp s.heap v) (hn:vs.length < 65536)
    (h:∀h' out c,h'.get? a=some (seqObj "list" out c)→Told s.heap vs out→(∀b o,b≠a→s.heap.get? b=some o→h'.get? b=some o)→P (.done (.ret .none)) {s with heap:=h'}):
    wpAny (model prog w) A (Builtin.«list.sort» ⟨[.ref a],[]⟩) P E s:=by
  have big:∀k,k=vs.length→k≤sizeLine:=fun k e=>by rw [sizeLine_eq];omega
  have k0:=Heap.SameBut.update s.heap a (Obj.mapSeq fun _=>(#[]:Array Value))
  obtain ⟨c0,o0⟩:∃c,(s.heap.update a (Obj.mapSeq fun _=>(#[]:Array Value))).get? a=some (seqObj "list" #[] c):=⟨_,get?_update_seq ho fun _=>#[]⟩
  have o2:=Heap.get?_push_of_some (seqObj "list" (#[]:Array Value) 0) (Heap.get?_push_of_some (seqObj "tuple" vs.toArray 0) o0)
  generalize e3:((s.heap.update a (Obj.mapSeq fun _=>(#[]:Array Value))).push (seqObj "tuple" vs.toArray 0)).push (seqObj "list" #[] 0)=h3 at o2
  have old:∀b o,b≠a→s.heap.get? b=some o→h3.get? b=some o:=fun b o hb q=>by
    rw [←e3]
    exact Heap.get?_push_of_some _ (Heap.get?_push_of_some _ ((k0.2 b hb).trans q))
  have ne:∀v∈vs,v≠ .ref a:=fun v hv z=>by
    obtain ⟨c,o,xs,k,tk,zz,u,i,e,ho',hc,_⟩:=hI v hv
    rw [z] at e
    cases e
    rw [ho] at ho'
    cases ho'
    have e4:Value.type "list"=Value.type "tuple":=hc
    injection e4 with e5
    exact absurd e5 (by decide)
  have I3:∀v∈vs,IsKp h3 v∧cM h3 v=cM s.heap v:=fun v hv=>(hI v hv).keep fun b o e q=>old b o (fun z=>ne v hv (by rw [e,z])) q
  have back:∀arr:Array Keyed,arr.toList.Perm (vs.zip vs)→NhLS.So ordP (fun p=>cM h3 p.1) arr 0 arr.size→P (.done (.ret .none)) {s with heap:=h3.update a (Obj.mapSeq fun _=>arr.map (·.2))}:=fun arr hp hs=>by
    have k1:=Heap.SameBut.update h3 a (Obj.mapSeq fun _=>arr.map (·.2))
    obtain ⟨t1,t2⟩:=vU hp hs
    refine h _ _ _ (get?_update_seq o2 fun _=>arr.map (·.2)) ⟨t1,t2.imp_of_mem fun {x y} hx hy z=>?_⟩ fun b o hb q=>(k1.2 b hb).trans (old b o hb q)
    rw [←(I3 x (t1.mem_iff.mp hx)).2,←(I3 y (t1.mem_iff.mp hy)).2]
    exact z
  rw [list_sort_plain]
  refine wpAny_bind (listItems_at ho rfl (wpAny_bind (listUpdate_at ho rfl ?_ (big _ (by simp)) (Nat.zero_le _))))
  refine wpAny_bind (seqEpoch_at o0 rfl (wpAny_bind (wpAny_newTuple ?_ (big _ (by simp)))))
  refine wpAny_bind (wpAny_newList (wpAny_holding ?_) (Nat.zero_le _))
  dsimp only
  have e3':((s.heap.update a (Obj.mapSeq fun _=>(#[]:Array Value))).push {cls:= .type "tuple",data:= .seq vs.toArray}).push {cls:= .type "list",data:= .seq (List.toArray [])}=h3:=e3
  rw [e3']
  by_cases many:2≤vs.length
  · rw [if_neg (by simpa using many),if_neg (by simpa using many)]
    obtain ⟨fs,tt,hf,lf⟩:=tups fun v hv=>(I3 v hv).1
    refine wpAny_bind (kat_kind (T:= .type "str") tt (by omega) (fun v hv=>?_) (by decide) ?_)
    · obtain ⟨n,t,rfl⟩:=hf v hv
      exact .now
    refine (wpAny_bind (wpAny_mono (NhLS.oR (E:=E) (a:=vs.toArray.zip vs.toArray) (g:=7) (Ao (prog:=prog) (w:=w) (A:=A) (s:={s with heap:=h3}))
      (Q:=fun _ st=>∃b pd g,st=SortSt.mk' (tuples' true) b pd g none∧b.toList.Perm (vs.zip vs)∧NhLS.So ordP (fun p=>cM h3 p.1) b 0 b.size) (fun p hp=>(I3 p.1 (by have:=List.of_mem_zip (a:=p.1) (b:=p.2) (by simpa using hp);exact this.1)).1)
      fun b pd g hp hs=>⟨b,pd,g,rfl,by simpa using hp,by have:=hp.length_eq;simp only [Array.length_toList] at this;rw [this];exact hs⟩) ?_ fun _ _ e=>e))
    rintro ⟨⟨⟩,st⟩ s' ⟨rfl,b,pd,g,e,hp,hs⟩
    dsimp only at e
    subst e
    have hz:b.size=vs.length:=by have:=hp.length_eq;simpa using this
    dsimp only
    refine wpAny_bind (seqEpoch_at o2 rfl (wpAny_bind (listUpdate_at o2 rfl ?_ (Nat.zero_le _) (by have:=big _ hz;show (b.map _).size≤_;rw [Array.size_map];omega))))
    rw [if_neg (by simp)]
    exact wpAny_pure (back b hp hs)
  · rw [if_pos (by simp;omega),if_pos (by simp;omega)]
    refine wpAny_bind (wpAny_pure ?_)
    rw [StateT.run_pure]
    refine wpAny_bind (wpAny_pure ?_)
    dsimp only
    refine wpAny_bind (seqEpoch_at o2 rfl (wpAny_bind (listUpdate_at o2 rfl ?_ (Nat.zero_le _) (by show ((vs.toArray.zip vs.toArray).map _).size≤_;rw [sizeLine_eq];simp;omega))))
    rw [if_neg (by simp)]
    refine wpAny_pure (back (vs.toArray.zip vs.toArray) (by simp) fun i j _ hij hj=>?_)
    simp at hj
    omega
theorem nH {v:Value} {Q:Value→Shared→Prop}
    (hc:∀(E:Value→Shared→Prop) (R:List Value→Shared→Prop),(∀h1 tk vs,NhSG.Keep s.heap h1→vs.length < 65536→(∀v∈vs,IsKp h1 v)→(∀h' out c l,h1.get? l=none→h'.get? l=some (seqObj "list" out c)→Told h1 vs out→NhSG.Keep h1 h'→Q (.ref l) {s with heap:=h',toks:=tk})→R vs {s with heap:=h1,toks:=tk})→wpAny (model prog w) A.in1 (collect v) R E s):
    wpAny (model prog w) A (call (.builtin "sorted") [v]) Q E s:=by
  refine Calls.call_function_entry kind_sorted plain_sorted entry_sorted (args_sorted1 _) ?_
  unfold Builtin.«sorted»
  refine wpAny_bind (m:=checkCount "sorted" 1 1 _) (wpAny_pure (wpAny_bind (hc _ _ fun h1 tk vs k1 hn hI q=>wpAny_bind (wpAny_newList ?_ (by rw [sizeLine_eq];omega)))))
  have mq:=Heap.get?_push_size h1 (o:=seqObj "list" vs.toArray 0) rfl
  have old:NhSG.Keep h1 (h1.push (seqObj "list" vs.toArray 0)):=fun b o e=>Heap.get?_push_of_some _ e
  refine wpAny_bind (wpAny_holding (wpAny_call_entry slot_list_sort ⟨_,mq,rfl⟩ entry_list_sort (t8 (s:={s with heap:=h1.push (seqObj "list" vs.toArray 0),toks:=tk}) mq (fun v hv=>((hI v hv).keep fun b o _ e=>old b o e).1) hn fun h' out c q1 q2 q3=>⟨_,rfl,wpAny_pure ⟨_,rfl,?_⟩⟩) (args_list_sort _)))
  refine q h' out c h1.objs.size (Heap.get?_none_of_le (Nat.le_refl _)) q1 ⟨q2.1,q2.2.imp_of_mem fun {x y} hx hy z=>?_⟩ fun b o e=>q3 b o (Nat.ne_of_lt (Heap.lt_size e)) (old b o e)
  rw [←((hI x (q2.1.mem_iff.mp hx)).keep fun b o _ e=>old b o e).2,←((hI y (q2.1.mem_iff.mp hy)).keep fun b o _ e=>old b o e).2]
  exact z
end
end NhSP
namespace L2
open PySem PySem.Spec PyProof.Rows
theorem wF {P:Program} {w:World} {k:aP} {u:Value} (h:(aS P w).is k u=true):RelV (kV k) u:=by
  rcases bg (show jD k u=true from h) with ⟨i,t,rfl,rfl⟩ | ⟨x,t,rfl,rfl⟩
  · exact ⟨t,rfl⟩
  · exact ⟨t,rfl⟩
theorem wG {us:List (aP×V)} {vs:List (aP×Value)} (r:KV us vs) {i:Nat} {k:aP} {x:V} (h:us[i]? =some (k,x)):∃u,vs[i]? =some (k,u)∧RelV x u:=by
  induction r generalizing i with
  | nil=>cases h
  | @cons p q us vs a _ ih=>
    cases i with
    | zero=>cases h;exact ⟨q.2,congrArg some (Prod.ext a.1.symm rfl),a.2⟩
    | succ i=>exact ih h
def zq (d:Addr) (o:Obj) (us:List (aP×V)):It:=
  ⟨fun i H=>H d=some (.frz o (.dK us))∧i < us.length,fun i H x H'=>∃T k u,H T=none∧us[i]? =some (k,u)∧x= .ref T∧H'=upd H T (.tup [kV k,u]),fun i H=>H d=some (.frz o (.dK us))∧i=us.length⟩
theorem kg {P:Program} {w:World} {H:Hp} {h:Heap} {d:Addr} {o:Obj} {us:List (aP×V)} {es:Array DictEntry} {ep:Nat} (ok:HOk P w H h) (e:H d=some (.frz o (.dK us))) (ho:o.data= .dict es ep):∃vs,KV us vs∧Heap.DictAt (aS P w) h d vs ep:=by
  obtain ⟨h1,z,y,vs,r,o',es',ep',e1,c,e2,c2⟩:=(show ObjOk P w H h d (.frz o (.dK us)) from ok d _ e)
  rw [h1] at e1
  cases e1
  rw [ho] at e2
  cases e2
  exact ⟨vs,r,o,es,h1,c,ho,c2⟩
theorem jm:entryFor table "dict_itemiterator.__iter__"=some Builtin.«dict_keyiterator.__iter__»:=
  entryFor_alias (id':="dict_keyiterator.__iter__") (by kernel_rfl) (by first | rfl | decide+kernel | (unfold String.splitOn;simp+decide [String.splitOnAux])) (by decide+kernel) (by kernel_rfl)
theorem rE {prog:Program} {w:World} {A:Around} {E:Value→Shared→Prop} {s:Shared} {it:Addr} {Q:Value→Shared→Prop} (ty:s.TypeIs (.ref it) "dict_itemiterator") (h:Q (.ref it) s):wpAny (model prog w) A (pyIter (.ref it)) Q E s:=by
  refine wpAny_pyIter_slot ty F.slot_dict_itemiterator_iter (wpAny_call_entry F.slot_dict_itemiterator_iter ty jm ?_ (F.args_dict_itemiterator_iter_1 _))
  show wpAny _ _ (ret (.ref it)) _ _ s
  exact wpAny_pure ⟨_,rfl,"dict_itemiterator",_,ty,F.slot_dict_itemiterator_next.lookup,h⟩
theorem oT {P:Program} {w:World} {K:PySem.W.Frag} {elts:List Expr} {k:Nat} {pos:Pos} {it d:Addr} {o:Obj} {us:List (aP×V)} {es:Array DictEntry} {ep:Nat} (ho:o.data= .dict es ep):Turn P w K (.Tuple elts k pos) (zq d o us) [it] it
    (fun i h=>∃ok ov,IsItemIter h it d i us.length ep ok ov) where
  mem:=by simp
  obj:=fun i h st c hc=>by
    obtain ⟨ok,ov,h1⟩:=st
    rw [List.mem_singleton.mp hc]
    exact ⟨_,h1,fun v z=>by cases z⟩
  keep:=fun i h h' st kk=>by
    obtain ⟨ok,ov,h1⟩:=st
    exact ⟨ok,ov,kk it (by simp) _ h1⟩
  item:=by
    intro X hP hw hK hc i pins s σ H E I hf st hg
    subst hP hw hK
    obtain ⟨ok,ov,h1⟩:=st
    obtain ⟨q1,l1⟩:=hg
    obtain ⟨vs,rv,dd⟩:=kg I.hok q1 ho
    obtain ⟨⟨ky,x⟩,hx⟩:∃p,us[i]? =some p:=⟨us[i],List.getElem?_eq_getElem l1⟩
    obtain ⟨u,hu,ru⟩:=wG rv hx
    rw [rv.length] at h1
    refine wpAny_pyNext_items_item h1 dd hu fun key h' hk a1 a5 a6 hkp=>?_
    have I0:=nj (t':=s.toks) I (us:=[key,u]) (vs:=[kV ky,x]) (.cons (wF hk) (.cons ru .nil)) (by show 2≤sizeLine;decide)
    have hT:it≠s.heap.objs.size:=fun ZE=>by
      have:=Heap.lt_size h1
      rw [ZE] at this;exact Nat.lt_irrefl _ this
    have hf2:∀c∈[it],jG X pins (upd H s.heap.objs.size (.tup [kV ky,x])) c:=fun c hc=>by
      obtain ⟨f0,f⟩:=hf c hc
      rw [List.mem_singleton.mp hc] at f0 f ⊢
      exact ⟨by rw [ak hT];exact f0,f⟩
    have I1:=I0.turnedL (h':=h') (t':=s.toks) (fp:=[it]) (fun c o hc q=>by
      by_cases ec:c=s.heap.objs.size
      · subst ec
        rw [Heap.get?_push_size _ rfl] at q
        cases q
        exact a5
      · exact hkp c o (fun z=>hc (by simp [z])) (j9 ec q)) hf2
    refine ⟨_,rfl,wpAny_letOwnedTupleGo_items (s:={s with heap:=h'}) a1 fun h'' z'' s''=>?_⟩
    have I2:=I1.turnedL (h':=h'') (t':=s.toks) (fp:=[it]) (fun c o hc q=>(s''.2 c fun e'=>hc (by simp [e'])).trans q) hf2
    exact ⟨.ref s.heap.objs.size,_,I2,rfl,⟨_,ky,x,I.hok.fresh (Nat.le_refl _),hx,rfl,rfl⟩,⟨_,_,by rw [rv.length];exact z''⟩,fun c hc=>(hf2 c hc).1⟩
  done:=by
    intro X hP hw hK hc i pins s σ H E I hf st hg
    subst hP hw hK
    obtain ⟨ok,ov,h1⟩:=st
    obtain ⟨q1,hi⟩:=hg
    obtain ⟨vs,rv,dd⟩:=kg I.hok q1 ho
    rw [rv.length] at h1
    refine wpAny_pyNext_items_end (I.ok.hd hc) h1 dd (List.getElem?_eq_none (by rw [←rv.length];omega)) fun h' hk=>⟨rfl,I.turnedL (t':=s.toks) (fp:=[it]) (fun c o hc q=>hk c o (fun z=>hc (by simp [z])) q) hf⟩
  self:=fun _ _ _ _ _ st h=>by
    obtain ⟨ok,ov,h1⟩:=st
    exact rE ⟨_,h1,rfl⟩ h
def zr (to:TE):TI:=fun σ H R=>to σ H fun x H1=>∃d ob us es ep,x= .ref d∧H1 d=some (.frz ob (.dK us))∧ob.data= .dict es ep∧R (zq d ob us) H1
theorem t9 {X:Cx} {elts:List Expr} {kt:Nat} {pt apos cpos:Pos} {o:Expr} {to:TE} (ho:PE X o to) (hbase:attributeBase o "items" X.env (eval o X.env)=eval o X.env:=by rfl) (hline:(apos.endLine == cpos.line)=true:=by rfl):PI X (.Tuple elts kt pt) (.Call (.Attribute o "items" apos) [] [] cpos) (zr to):=by
  intro pins s σ H R I h
  refine wpAny_Call_method0_late hbase hline (bN (ho pins s σ H _ I h) fun v s1 ⟨x,H1,I1,r1,q1⟩=>?_)
  obtain ⟨d,ob,us,es,ep,rfl,hd,he,q⟩:=q1
  cases (show v=Value.ref d from r1)
  obtain ⟨g1,z,y,vs,rv,o',es',ep',e1,c,e2,c2⟩:=(show ObjOk X.prog X.w H1 s1.heap d (.frz ob (.dK us)) from I1.hok d _ hd)
  have ty:s1.TypeIs (.ref d) "dict":=⟨o',e1,c.1⟩
  refine ⟨"dict","dict.items",PySem.F.plainAttrs_dict,PySem.F.slot_dict_items,PySem.F.type_dict_items,ty,fun a ea=>?_,Calls.callWith_builtin rfl (PySem.evalArgs_none ?_)⟩
  · cases ea
    exact ⟨o',e1,c.2.1⟩
  refine call_meetsIn PySem.F.slot_dict_items ty PySem.F.entry_dict_items (PySem.F.args_dict_items_1 _) (meets_dict_items (aS X.prog X.w) d y) ⟨⟨vs,o',es',ep',e1,c,e2,c2⟩,?_⟩
  have I2:Inv X pins σ H1 {s1 with heap:=s1.heap.push {cls:= .type "dict_items",data:= .fields #[.ref d]}}:=I1.kept (t':=s1.toks) fun b o e=>Heap.get?_push_of_some _ e
  obtain ⟨vs2,rv2,dd⟩:=kg I2.hok hd he
  have L:=rv2.length
  refine wpAny_pyIter_items (s:={s1 with heap:=s1.heap.push {cls:= .type "dict_items",data:= .fields #[.ref d]}}) ⟨_,Heap.get?_push_size _ rfl,rfl,rfl⟩ dd ?_
  refine ⟨_,[_],_,_,H1,rfl,I2.kept (t':=s1.toks) (fun b o e=>Heap.get?_push_of_some _ e),oT he,⟨_,_,by rw [L];exact Heap.get?_push_size _ rfl⟩,fun c hc=>?_,q⟩
  rw [List.mem_singleton.mp hc]
  exact I2.fpOk (Nat.le_refl _) (I2.hok.fresh (Nat.le_refl _))
section
variable {X:Cx} {pins:List (Addr×Obj)} {σ:St} {H:Hp} {s:Shared} {d:Addr} {o:Obj} {us:List (aP×V)}
theorem nI {u u':HO} (I:Inv X pins σ H s) (e:H d=some u) (hu:(∀xs,u≠ .tup xs)∧∀b,u≠ .own b) (hf:∀o v,X.H₀ d=some (.frz o v)→u'= .frz o v) (ht:∀ps,u≠ .tbl ps) (ok:ObjOk X.prog X.w (upd H d u') s.heap d u'):Inv X pins σ (upd H d u') s:=by
  have ne:∀b,H b=none→b≠d:=fun b n z=>by rw [z,e] at n;cases n
  refine ⟨I.ok,I.os,I.bare,⟨I.base.keep,I.base.slot,fun b w' q n hx=>?_,I.base.there,fun b xs q=>?_,fun b w' v q=>?_,fun b ps q=>?_⟩,I.loc,I.cell,?_,fun x c q=>?_,fun p q=>?_,fun b w' q=>?_,I.len⟩
  · have z:=I.base.free b w' q n hx
    rw [ak (ne b z)];exact z
  · have z:=I.base.tups b xs q
    rw [ak (fun y=>by rw [y,e] at z;cases z;exact hu.1 _ rfl)];exact z
  · by_cases hb:b=d
    · subst hb;rw [upd_same,hf _ _ q]
    · rw [ak hb];exact I.base.frzs b w' v q
  · have z:=I.base.tbls b ps q
    rw [ak (fun y=>by rw [y,e] at z;cases z;exact ht _ rfl)];exact z
  · rw [ak (ne _ I.free)];exact I.free
  · rw [ak (ne _ (I.freeC x c q))];exact I.freeC x c q
  · obtain ⟨e1,e2,e3⟩:=I.pin p q
    exact ⟨e1,by rw [ak (ne _ e2)];exact e2,e3⟩
  · by_cases hb:b=d
    · subst hb;rw [upd_same] at q;cases q;exact ok
    · rw [ak hb] at q
      refine (I.hok b w' q).stay (fun c w' _ q=>q) (fun c q=>?_) fun c xs q=>?_
      · rw [ak (fun y=>by rw [y,e] at q;cases q;exact hu.2 _ rfl)];exact q
      · rw [ak (fun y=>by rw [y,e] at q;cases q;exact hu.1 _ rfl)];exact q
theorem oU (I:Inv X pins σ H s) (e:H d=some (.dK us)):∃o es ep,o.data= .dict es ep∧Inv X pins σ (upd H d (.frz o (.dK us))) s:=by
  obtain ⟨z,y,vs,r,o,es,ep,e1,c,e2,c2⟩:=(show ObjOk X.prog X.w H s.heap d (.dK us) from I.hok d _ e)
  refine ⟨o,es,ep,e2,nI I e ⟨fun _ z=>(nomatch z),fun _ z=>(nomatch z)⟩ (fun o' v q=>?_) (fun _ z=>(nomatch z)) ⟨e1,z,y,vs,r,o,es,ep,e1,c,e2,c2⟩⟩
  have q':=I.base.frzs d _ _ q
  rw [e] at q'
  cases q'
theorem t_ (I:Inv X pins σ H s) (e:H d=some (.frz o (.dK us))) (h0:∀o v,X.H₀ d≠some (.frz o v)):Inv X pins σ (upd H d (.dK us)) s:=
  nI I e ⟨fun _ z=>(nomatch z),fun _ z=>(nomatch z)⟩ (fun o' v q=>absurd q (h0 _ _)) (fun _ z=>(nomatch z)) (show ObjOk X.prog X.w (upd H d (.dK us)) s.heap d (.dK us) from (show ObjOk X.prog X.w H s.heap d (.frz o (.dK us)) from I.hok d _ e).2)
end
end L2
namespace L2
open PySem PySem.Spec PyProof.Rows
def xV (H N:Hp):Hp:=fun b=>match N b with
  | some o=>some o
  | none=>H b
theorem mr {H N:Hp} {b:Addr} {o:HO} (h:N b=some o):xV H N b=some o:=by unfold xV;rw [h]
theorem iE {H N:Hp} {b:Addr} (h:N b=none):xV H N b=H b:=by unfold xV;rw [h]
theorem jf {P:Program} {w:World} {H:Hp} {h:Heap} {a:Addr} {o:HO} (x:ObjOk P w H h a o):∃ob,h.get? a=some ob:=by
  cases o with
  | lst xs=>obtain ⟨_,_,_,_,e⟩:=x;exact ⟨_,e⟩
  | tup xs=>obtain ⟨_,_,_,o,e,_⟩:=x;exact ⟨_,e⟩
  | dK kvs=>obtain ⟨_,_,_,_,o,_,_,e,_⟩:=x;exact ⟨_,e⟩
  | dT kvs=>obtain ⟨_,_,_,_,o,_,_,e,_⟩:=x;exact ⟨_,e⟩
  | set S n=>obtain ⟨o,_,_,_,e,_⟩:=x;exact ⟨_,e⟩
  | ins C dx fs=>obtain ⟨_,_,_,e,_⟩:=x;exact ⟨_,e⟩
  | own y=>exact x
  | xd fs=>obtain ⟨_,⟨_,_,_,e,_⟩,_⟩:=x;exact ⟨_,e⟩
  | rng lo hi=>obtain ⟨_,_,_,e⟩:=x;exact ⟨_,e⟩
  | frz ob u=>obtain ⟨e,_⟩:=x;exact ⟨_,e⟩
  | tbl q=>obtain ⟨_,e,_⟩:=x;exact ⟨_,e⟩
  | met f y=>exact ⟨_,(show h.get? a=some _ from x)⟩
  | ext φ=>obtain ⟨_,e,_⟩:=x;exact e
section
variable {X:Cx} {pins:List (Addr×Obj)} {σ:St} {H N:Hp} {s:Shared} {h':Heap}
theorem Inv.laidAll {t':Nat} (I:Inv X pins σ H s) (k:∀b u,s.heap.get? b=some u→h'.get? b=some u) (hp:∀b o,N b=some o→s.heap.get? b=none) (new:∀b o,N b=some o→ObjOk X.prog X.w (xV H N) h' b o):Inv X pins σ (xV H N) {s with heap:=h',toks:=t'}:=by
  have old:∀b o,H b=some o→N b=none:=fun b o e=>by
    cases q:N b with
    | none=>rfl
    | some u=>
      obtain ⟨ob,z⟩:=jf (I.hok b o e)
      rw [hp b u q] at z
      cases z
  have same:∀b o,H b=some o→xV H N b=some o:=fun b o e=>(iE (old b o e)).trans e
  refine I.un ⟨fun b u q _ _ _=>k b u q,fun b u q _ _ _=>⟨u.slots,k b u q⟩,fun b u q n _=>?_,fun b u q _=>⟨u,k b u q⟩,fun b xs q=>same b _ q,fun b u xs q=>same b _ q,fun b ps q=>same b _ q⟩ fun b u e=>?_
  · cases z:N b with
    | none=>rw [iE z];exact n
    | some o=>rw [hp b o z] at q;cases q
  · cases z:N b with
    | none=>
      rw [iE z] at e
      exact (I.hok b u e).stay (fun c v _ q=>k c v q) (fun c q=>same c _ q) fun c xs q=>same c _ q
    | some o=>
      rw [mr z] at e
      cases e
      exact new b _ z
end
end L2
namespace PL
open PySem L2 Nh PyProof.Rows
abbrev Kp:=List Nat×Int
def u5 (x:Kp):List V:=[.str ⟨x.1.toArray⟩, .int x.2]
def dN (kvs:List Kp):List (aP×V):=kvs.map fun p=>(Sum.inr ⟨p.1.toArray⟩,V.int p.2)
def nJ (a b:Kp):Bool:= !NhSP.fY b a
def bW (L:List Kp):List Kp:=L.mergeSort nJ
theorem lh (a b c:Kp) (h:nJ a b=true) (k:nJ b c=true):nJ a c=true:=by
  simp only [nJ,Bool.not_eq_true'] at *
  cases e:NhSP.fY c a with
  | false=>rfl
  | true=>
    rcases NhSP.ordP.negTrans c b a e with z | z
    · rw [show NhSP.fY c b=true from z] at k
      cases k
    · rw [show NhSP.fY b a=true from z] at h
      cases h
theorem lj (a b:Kp):(nJ a b||nJ b a)=true:=by
  simp only [nJ,Bool.or_eq_true,Bool.not_eq_true']
  cases e:NhSP.fY b a with
  | false=>exact .inl rfl
  | true=>
    refine .inr ?_
    cases e2:NhSP.fY a b with
    | false=>rfl
    | true=>
      have:=NhSP.ordP.trans a b a e2 e
      have z:=NhSP.ordP.irrefl a
      rw [this] at z
      cases z
theorem kh {a b:List Kp} (p:a.Perm b) (h:a.Pairwise fun x y=>NhSP.fY y x=false):a=bW b:=
  List.Perm.eq_of_pairwise (le:=fun x y=>nJ x y=true) (fun a b _ _ h k=>by
    simp only [nJ,Bool.not_eq_true'] at h k
    exact NhSP.ordP.total a b k h) (h.imp fun h=>by simpa [nJ] using h) (List.pairwise_mergeSort lh lj b) (p.trans (List.mergeSort_perm b nJ).symm)
theorem oV {a b:List Kp} (p:a.Perm b):bW a=bW b:=by
  refine kh ((List.mergeSort_perm a nJ).trans p) ?_
  exact (List.pairwise_mergeSort lh lj a).imp fun h=>by simpa [nJ] using h
theorem ua {α β:Type} {f:α→β} {l m:List β} (h:l.Perm m):∀cs:List α,m=cs.map f→∃cs':List α,cs'.Perm cs∧l=cs'.map f:=by
  induction h with
  | nil=>
    intro cs e
    exact ⟨[],by rw [List.map_eq_nil_iff.mp e.symm],rfl⟩
  | cons x h ih=>
    intro cs e
    cases cs with
    | nil=>cases e
    | cons c cs=>
      simp only [List.map_cons,List.cons.injEq] at e
      obtain ⟨cs',p,e2⟩:=ih cs e.2
      exact ⟨c::cs',p.cons c,by rw [List.map_cons,e2,e.1]⟩
  | swap x y l=>
    intro cs e
    cases cs with
    | nil=>cases e
    | cons c cs=>
      cases cs with
      | nil=>cases e
      | cons d cs=>
        simp only [List.map_cons,List.cons.injEq] at e
        exact ⟨d::c::cs,List.Perm.swap ..,by rw [List.map_cons,List.map_cons,←e.1,←e.2.1,←e.2.2]⟩
  | trans h1 h2 i1 i2=>
    intro cs e
    obtain ⟨c2,p2,e2⟩:=i2 cs e
    obtain ⟨c1,p1,e1⟩:=i1 c2 e2
    exact ⟨c1,p1.trans p2,e1⟩
abbrev Ca:=List (Addr×Kp)
def nK (cs:Ca):List V:=cs.map fun x=>V.ref x.1
theorem ub:∀(cs:Ca),Vals (nK cs) (cs.map fun x=>Value.ref x.1)
  | []=> .nil
  | c::cs=> .cons rfl (ub cs)
theorem zt {hp:Heap} {c:Addr} {x:Kp} {its:List Value} (r:Vals (u5 x) its) (h:IsTup hp c its.toArray):NhSP.IsKp hp (.ref c)∧NhSP.cM hp (.ref c)=x:=by
  obtain ⟨o,ho,hc,n,hd⟩:=h
  cases r with
  | cons a r=>
    cases r with
    | cons b r=>
      cases r
      obtain ⟨t,rfl⟩:=a
      obtain ⟨u,rfl⟩:=b
      exact ⟨⟨c,o,_,n,t,⟨x.1.toArray⟩,u,x.2,rfl,ho,hc,hd,rfl⟩,by simp only [NhSP.cM,ho,hd]⟩
theorem xW {cs cs':Ca} {hp:Heap} {out:Array Value} (p':cs'.Perm cs) (e':out.toList=cs'.map fun x=>Value.ref x.1) (at_:∀x∈cs,NhSP.cM hp (.ref x.1)=x.2) (t2:out.toList.Pairwise fun x y=>NhSP.fY (NhSP.cM hp y) (NhSP.cM hp x)=false):cs'.map (·.2)=bW (cs.map (·.2)):=by
  refine kh (p'.map _) ?_
  rw [e',List.pairwise_map] at t2
  rw [List.pairwise_map]
  exact t2.imp_of_mem fun {x y} hx hy z=>by rw [at_ x (p'.mem_iff.mp hx),at_ y (p'.mem_iff.mp hy)] at z;exact z
end PL
namespace PL
open PySem L2 Nh PyProof.Rows
def ki (v d:Addr):HO:= .ext fun h=>h.get? v=some {cls:= .type "dict_items",data:= .fields #[.ref d]}
def uc (to:TE):TE:=fun σ H Q=>to σ H fun x H1=>∃d us,x= .ref d∧H1 d=some (.dK us)∧∀v,H1 v=none→Q (.ref v) (upd H1 v (ki v d))
section
variable {X:Cx}
theorem nM {o:Expr} {to:TE} {apos cpos:Pos} (ho:PE X o to) (hbase:attributeBase o "items" X.env (eval o X.env)=eval o X.env:=by rfl) (hline:(apos.endLine == cpos.line)=true:=by rfl):PE X (.Call (.Attribute o "items" apos) [] [] cpos) (uc to):=by
  intro pins s σ H Q I h
  refine wpAny_Call_method0_late hbase hline (bN (ho pins s σ H _ I h) fun v s1 ⟨x,H1,I1,r1,q1⟩=>?_)
  obtain ⟨d,us,rfl,hd,q⟩:=q1
  cases (show v=Value.ref d from r1)
  obtain ⟨z,y,vs,rv,o',es',ep',e1,c,e2,c2⟩:=(show ObjOk X.prog X.w H1 s1.heap d (.dK us) from I1.hok d _ hd)
  have ty:s1.TypeIs (.ref d) "dict":=⟨o',e1,c.1⟩
  refine ⟨"dict","dict.items",PySem.F.plainAttrs_dict,PySem.F.slot_dict_items,PySem.F.type_dict_items,ty,fun a ea=>?_,Calls.callWith_builtin rfl (PySem.evalArgs_none ?_)⟩
  · cases ea
    exact ⟨o',e1,c.2.1⟩
  refine call_meetsIn PySem.F.slot_dict_items ty PySem.F.entry_dict_items (PySem.F.args_dict_items_1 _) (meets_dict_items (aS X.prog X.w) d y) ⟨⟨vs,o',es',ep',e1,c,e2,c2⟩,?_⟩
  have at_:(s1.heap.push {cls:= .type "dict_items",data:= .fields #[.ref d]}).get? s1.heap.objs.size=some {cls:= .type "dict_items",data:= .fields #[.ref d]}:=Heap.get?_push_size _ rfl
  exact ⟨.ref s1.heap.objs.size,_,I1.laid (t':=s1.toks) (o:=ki s1.heap.objs.size d) (fun b u e=>Heap.get?_push_of_some _ e) (Nat.le_refl _) ⟨at_,⟨_,at_⟩,fun h1 h2 a b=>b _ a⟩,rfl,q _ (I1.hok.fresh (Nat.le_refl _))⟩
def wH (H1 H2:Hp) (l:Addr):Prop:=Same H1 H2∧H1 l=none∧∀b o,H2 b=some o→H1 b=some o∨b=l∨∃xs,o= .tup xs
theorem iF (hca:X.calm=true):CallR X (.builtin "sorted") (fun xs H Q=>∃(v d:Addr) (kvs:List Kp),xs=[.ref v]∧H v=some (ki v d)∧H d=some (.dK (dN kvs))∧kvs.length < 65536∧
    ∀l cs H2,wH H H2 l→H2 l=some (.lst (nK cs))→(∀x∈cs,H2 x.1=some (.tup (u5 x.2)))→cs.map (·.2)=bW kvs→Q (.ref l) H2):=by
  intro pins s σ H xs us Q I r h
  obtain ⟨v,d,kvs,rfl,hv,hd,hn,q⟩:=h
  cases r with
  | cons r rr=>
    cases rr
    cases r
    obtain ⟨vat,_,_⟩:=(show ObjOk X.prog X.w H s.heap v (ki v d) from I.hok v _ hv)
    obtain ⟨z,y,vs,rv,o',es',ep',e1,c,e2,c2⟩:=(show ObjOk X.prog X.w H s.heap d (.dK (dN kvs)) from I.hok d _ hd)
    have lv:vs.length=kvs.length:=by rw [←Paired.length rv];simp [dN]
    have dd:s.heap.DictAt (aS X.prog X.w) d vs ep':=⟨o',es',e1,c,e2,c2⟩
    refine NhSP.nH fun E R k=>PySem.W.kdx_collect (A:=X.A.in1) (kvs:=vs) (ep:=ep') (I.ok.hd hca) ⟨_,vat,rfl,rfl⟩ dd (by rw [lv,sizeLine_eq];omega) fun h1 tk as hk hl hG=>?_
    have pr:∀(j:Nat) (a:Addr),as[j]? =some a→∃x,kvs[j]? =some x∧∃its,Vals (u5 x) its∧IsTup h1 a its.toArray:=fun j a ha=>by
      obtain ⟨key,kk,u,g1,g2,g3⟩:=hG.pairs j a ha
      have hj:j < kvs.length:=by
        have:=(List.getElem?_eq_some_iff.mp ha).1
        omega
      have hu:(dN kvs)[j]? =some (Sum.inr ⟨kvs[j].1.toArray⟩,V.int kvs[j].2):=by simp [dN,List.getElem?_eq_getElem hj]
      obtain ⟨u',hu',ru⟩:=wG rv hu
      rw [g1] at hu'
      cases hu'
      exact ⟨kvs[j],List.getElem?_eq_getElem hj,[key,u], .cons (wF g2) (.cons ru .nil),_,g3,rfl,_,rfl⟩
    have old:∀b o,s.heap.get? b=some o→b∉as:=fun b o e hb=>absurd (Nat.lt_trans (hG.above b hb) (Heap.lt_size e)) (Nat.lt_irrefl _)
    have zl:(as.zip kvs).length=kvs.length:=by rw [List.length_zip];omega
    have zm:∀x∈as.zip kvs,∃its,Vals (u5 x.2) its∧IsTup h1 x.1 its.toArray:=fun x hx=>by
      obtain ⟨j,hj⟩:=List.getElem?_of_mem hx
      obtain ⟨e1,e2⟩:=List.getElem?_zip_eq_some.mp hj
      obtain ⟨y,ey,r⟩:=pr j x.1 e1
      rw [e2] at ey
      cases ey
      exact r
    have at_:∀x∈as.zip kvs,NhSP.IsKp h1 (.ref x.1)∧NhSP.cM h1 (.ref x.1)=x.2:=fun x hx=>by
      obtain ⟨its,r,h⟩:=zm x hx
      exact zt r h
    have ez:as.map Value.ref=(as.zip kvs).map fun x=>Value.ref x.1:=by
      have:(as.zip kvs).map Prod.fst=as:=List.map_fst_zip (by omega)
      calc as.map Value.ref=((as.zip kvs).map Prod.fst).map Value.ref:=by rw [this]
        _=_:=by rw [List.map_map];rfl
    refine k h1 tk (as.map Value.ref) hk (by rw [List.length_map];omega) (fun v hv=>?_) fun h' out c l hl' he ⟨t1,t2⟩ hk'=>?_
    · rw [ez] at hv
      obtain ⟨x,hx,rfl⟩:=List.mem_map.mp hv
      exact (at_ x hx).1
    obtain ⟨cs,p',e'⟩:=ua t1 (as.zip kvs) ez
    have srt:=xW p' e' (fun x hx=>(at_ x hx).2) t2
    rw [List.map_snd_zip (by omega)] at srt
    have hs0:s.heap.get? l=none:=by
      cases z:s.heap.get? l with
      | none=>rfl
      | some o=>rw [hk l o z] at hl';cases hl'
    have lc:∀x∈cs,x.1≠l:=fun x hx z=>by
      obtain ⟨its,r,o,ho,_⟩:=zm x (p'.mem_iff.mp hx)
      rw [z,hl'] at ho
      cases ho
    have uq:∀x∈cs,∀y∈cs,x.1=y.1→x=y:=fun x hx y hy e=>by
      have a:=(at_ x (p'.mem_iff.mp hx)).2
      have b:=(at_ y (p'.mem_iff.mp hy)).2
      rw [e] at a
      exact Prod.ext e (a.symm.trans b)
    let N:Hp:=fun b=>if b=l then some (.lst (nK cs)) else (cs.find? fun x=>decide (x.1=b)).map fun x=> .tup (u5 x.2)
    have nl:N l=some (.lst (nK cs)):=if_pos rfl
    have nc:∀x∈cs,N x.1=some (.tup (u5 x.2)):=fun x hx=>by
      show (if x.1=l then _ else _)=_
      rw [if_neg (lc x hx)]
      cases q:cs.find? fun y=>decide (y.1=x.1) with
      | none=>exact absurd (List.find?_eq_none.mp q x hx) (by simp)
      | some y=>
        have e1:=List.find?_some q
        have e2:=uq y (List.mem_of_find?_eq_some q) x hx (by simpa using e1)
        rw [e2];rfl
    have no:∀b o,N b=some o→(b=l∧o= .lst (nK cs))∨∃x∈cs,b=x.1∧o= .tup (u5 x.2):=fun b o q=>by
      by_cases hb:b=l
      · subst hb;rw [nl] at q;cases q;exact .inl ⟨rfl,rfl⟩
      · have q:(if b=l then some (HO.lst (nK cs)) else (cs.find? fun x=>decide (x.1=b)).map fun x=>HO.tup (u5 x.2))=some o:=q
        rw [if_neg hb] at q
        obtain ⟨x,e1,rfl⟩:=Option.map_eq_some_iff.mp q
        exact .inr ⟨x,List.mem_of_find?_eq_some e1,(by simpa using List.find?_some e1:x.1=b).symm,rfl⟩
    have fresh:∀b o,N b=some o→s.heap.get? b=none:=fun b o q=>by
      rcases no b o q with ⟨rfl,_⟩ | ⟨x,hx,rfl,_⟩
      · exact hs0
      · cases z:s.heap.get? x.1 with
        | none=>rfl
        | some ob=>exact absurd (List.of_mem_zip (a:=x.1) (b:=x.2) (p'.mem_iff.mp hx)).1 (old _ _ z)
    have I2:=I.laidAll (N:=N) (h':=h') (t':=tk) (fun b u e=>hk' b u (hk b u e)) fresh fun b o q=>by
      rcases no b o q with ⟨rfl,rfl⟩ | ⟨x,hx,rfl,rfl⟩
      · refine ⟨?_,out.toList,c,by rw [e'];exact ub cs,he⟩
        show (List.map _ cs).length≤_
        rw [List.length_map,p'.length_eq,zl]
        exact cW (by omega)
      · obtain ⟨its,r,ob,ho,hc⟩:=zm x (p'.mem_iff.mp hx)
        exact ⟨by show 2≤sizeLine;rw [sizeLine_eq];decide,its,r,ob,hk' _ _ ho,hc⟩
    have hnone:∀b o,N b=some o→H b=none:=fun b o q=>by
      cases z:H b with
      | none=>rfl
      | some u=>
        obtain ⟨ob,y⟩:=jf (I.hok b u z)
        rw [fresh b o q] at y
        cases y
    refine ⟨.ref l,_,I2,rfl,q l cs _ ⟨fun b o e=>?_,hnone _ _ nl,fun b o e=>?_⟩ (mr nl) (fun x hx=>mr (nc x hx)) srt⟩
    · cases z:N b with
      | none=>exact (iE z).trans e
      | some u=>rw [hnone _ _ z] at e;cases e
    · cases z:N b with
      | none=>rw [iE z] at e;exact .inl e
      | some u=>
        rw [mr z] at e
        cases e
        rcases no b _ z with ⟨rfl,_⟩ | ⟨x,hx,_,rfl⟩
        · exact .inr (.inl rfl)
        · exact .inr (.inr ⟨_,rfl⟩)
end
end PL
namespace PL
open PySem L2 Nh PyProof.Rows
abbrev Tb:=NH.Tb Nat
abbrev cT (w:List Nat):Str:=⟨w.toArray⟩
theorem tk_inj {a b:List Nat}:((Sum.inr (cT a):aP)=Sum.inr (cT b))↔a=b:=by
  constructor
  · intro h
    injection h with h
    have:=congrArg (fun z:Str=>z.cps.toList) h
    simpa using this
  · intro h;rw [h]
theorem ud (a b:List Nat):cT a++cT b=cT (a++b):=by
  show (⟨a.toArray++b.toArray⟩:Str)=_
  simp
theorem gv (a:List Nat):(cT a).length=a.length:=by show a.toArray.size=_;simp
theorem xX (D:Tb) (k:List Nat):(gQ (dN D) (Sum.inr (cT k))).getD (.int 0)= .int (NH.bS D k):=by
  induction D with
  | nil=>rfl
  | cons p D ih=>
    show (gQ ((Sum.inr (cT p.1),V.int p.2)::dN D) (Sum.inr (cT k))).getD (.int 0)=_
    by_cases e:p.1=k
    · rw [gm (tk_inj.mpr e),NH.bS,if_pos e];rfl
    · rw [fE (fun z=>e (tk_inj.mp z)),ih,NH.bS,if_neg e]
theorem xY (D:Tb) (k:List Nat):((dN D).any fun kv=>decide (kv.1=(Sum.inr (cT k):aP)))=NH.hW D k:=by
  induction D with
  | nil=>rfl
  | cons p D ih=>
    show ((Sum.inr (cT p.1),V.int p.2)::dN D).any _=_
    rw [List.any_cons,ih]
    show _=(decide (p.1=k)||NH.hW D k)
    congr 1
    exact decide_eq_decide.mpr tk_inj
theorem xZ (D:Tb) (k:List Nat) (n:Int):fD (dN D) (Sum.inr (cT k)) (.int n)=dN (NH.fJ D k n):=by
  unfold fD NH.fJ
  rw [xY]
  split
  · show List.map _ (List.map _ D)=List.map _ (List.map _ D)
    rw [List.map_map,List.map_map]
    refine List.map_congr_left fun p _=>?_
    simp only [Function.comp]
    by_cases e:p.1=k
    · rw [if_pos (tk_inj.mpr e),if_pos e]
    · rw [if_neg (fun z=>e (tk_inj.mp z)),if_neg e]
  · simp [dN]
theorem oW (D:Tb):(dN D).length=D.length:=by simp [dN]
theorem jB (D:Tb) (k:List Nat) (n:Int):(NH.fJ D k n).length≤D.length+1:=by
  unfold NH.fJ
  split <;> simp
def zu (to:TE):TE:=fun σ H Q=>to σ H fun x H1=>∃d us,x= .ref d∧H1 d=some (.dK us)∧∀ob es ep,ob.data= .dict es ep→Q (.ref d) (upd H1 d (.frz ob (.dK us)))
theorem x_ {X:Cx} {o:Expr} {to:TE} (ho:PE X o to):PE X o (zu to):=fun pins s σ H Q I h=>bN (ho pins s σ H _ I h) fun v s1 ⟨x,H1,I1,r1,d,us,ex,hd,q⟩=>by
  subst ex
  obtain ⟨ob,es,ep,e,I2⟩:=oU I1 hd
  exact ⟨.ref d,_,I2,r1,q ob es ep e⟩
def wI (H0:Hp) (t:TS):TS:=fun D σ H=>t {D with nx:=fun σ' H'=>∃d ob us,H' d=some (.frz ob (.dK us))∧(∀o v,H0 d≠some (.frz o v))∧D.nx σ' (upd H' d (.dK us))} σ H
theorem vV {X:Cx} {st:Stmt} {t:TS} (h:PS X st t):PS X st (wI X.H₀ t):=fun pins s σ H D I q=>bN (h pins s σ H _ I q) fun f s' z=>by
  cases f with
  | next=>
    obtain ⟨σ',H',I',d,ob,us,e1,e2,q'⟩:=z
    exact ⟨σ',_,t_ I' e1 e2,q'⟩
  | brk=>exact z
  | cont=>exact z
  | ret u=>exact z
theorem rF {d:Addr} {o:Obj} {us:List (aP×V)} {g:TG} {tb:TS} {D:Ends} {σ:L2.St} {H:Hp} (Pv:Nat→L2.St→Hp→Prop) (h0:Pv 0 σ H) (hl:∀i σ H,i≤us.length→Pv i σ H→H d=some (.frz o (.dK us)))
    (hs:∀i k u σ H T,us[i]? =some (k,u)→Pv i σ H→H T=none→g (.ref T) σ (upd H T (.tup [kV k,u])) fun σ2 H2=>tb {D with nx:=Pv (i+1),ct:=Pv (i+1),bk:=D.nx} σ2 H2) (hd:∀σ H,Pv us.length σ H→D.nx σ H):
    ∃W:Nat→Nat→L2.St→Hp→Prop,(∃m,W 0 m σ H)∧∀i m σ H,W i m σ H→
      ((zq d o us).stop i H∧D.nx σ H)∨((zq d o us).go i H∧∃N:L2.St→Hp→Prop,(∀σ' H',N σ' H'→∃m',m' < m∧W (i+1) m' σ' H')∧∀x H',(zq d o us).yld i H x H'→g x σ H' fun σ2 H2=>tb {D with nx:=N,ct:=N,bk:=D.nx} σ2 H2):=by
  refine ⟨fun i m σ H=>m=us.length - i∧i≤us.length∧Pv i σ H,⟨us.length,by simp,Nat.zero_le _,h0⟩,?_⟩
  rintro i m σ H ⟨rfl,hi,p⟩
  have q:=hl i σ H hi p
  by_cases hlt:i < us.length
  · refine .inr ⟨⟨q,hlt⟩,Pv (i+1),fun σ' H' p'=>⟨us.length - (i+1),by omega,rfl,hlt,p'⟩,fun x H' y=>?_⟩
    obtain ⟨T,k,u,hT,hu,rfl,rfl⟩:=y
    exact hs i k u σ _ T hu p hT
  · have e:i=us.length:=by omega
    subst e
    exact .inl ⟨⟨q,rfl⟩,hd σ H p⟩
def dW (t:List Nat):Tb→Tb→Tb
  | [],D=>D
  | p::R,D=>dW t R (NH.fJ D (p.1++t) (NH.bS D (p.1++t)+p.2))
theorem eK (t:List Nat):∀R D:Tb,(dW t R D).length≤D.length+R.length
  | [],D=>by simp [dW]
  | p::R,D=>by
    have h:=eK t R (NH.fJ D (p.1++t) (NH.bS D (p.1++t)+p.2))
    have h2:=jB D (p.1++t) (NH.bS D (p.1++t)+p.2)
    simp only [dW,List.length_cons]
    omega
def zM:Sp:=fun vs H Q _=>∃d e D R t,vs=[.ref d, .ref e, .str (cT t)]∧d≠e∧H d=some (.dK (dN D))∧H e=some (.dK (dN R))∧D.length+R.length≤1000000∧(∀p∈R,p.1.length+t.length≤1000)∧
  ∀H',SameBut d H H'→H' d=some (.dK (dN (dW t R D)))→Q .non H'
def zv (K:PySem.W.Frag):TE:=n4 (pM K) (bC 3) (bC 2)
theorem vW {K:PySem.W.Frag} {H0:Hp} {vs:List V} {Q:VK} {E:XK} {D:Ends} {N:List Str} (h:zM vs H0 Q E) (hD:∀σ H',Q .non H'→D.nx σ H') (hN:N.length=5:=by rfl):
    wI H0 (vc (zr (zu (bC 1))) (w5 K 2 (mN (eU 3) (mN (eU 4) wZ))) (wx (bC 0) (zv K) (n4 (pM K) (sX (bC 0) (zv K) (tC (.int 0))) (bC 4)))) D (L2.cQ N vs) H0:=by
  obtain ⟨d,e,T,R,t,rfl,hne,hd,he,hz,hl,q⟩:=h
  have hst:∀vs:List V,vs.length=3→L2.cQ N vs=vs.map some++[none,none]:=fun vs hv=>by unfold L2.cQ;rw [hN,hv];rfl
  rw [hst _ rfl]
  refine ⟨_,rfl,e,_,rfl,he,fun ob es ep hob=>⟨e,ob,_,es,ep,rfl,upd_same,hob,?_⟩⟩
  refine rF (fun i σ H'=>(∃x3 x4,σ=[some (.ref d),some (.ref e),some (.str (cT t)),x3,x4])∧H' e=some (.frz ob (.dK (dN R)))∧(∀b o,b≠d→b≠e→H0 b=some o→H' b=some o)∧∃T',H' d=some (.dK (dN T'))∧dW t (R.drop i) T'=dW t R T∧T'.length≤T.length+i)
    ⟨⟨_,_,rfl⟩,upd_same,fun b o hb he' q=>by rw [ak he'];exact q,T,by rw [ak hne];exact hd,rfl,Nat.le_refl _⟩ (fun i σ H' _ h=>h.2.1) (fun i k u σ H' Tt hu ⟨⟨x3,x4,es'⟩,h1,h2,T',h3,h4,h5⟩ hT=>?_) fun σ H' ⟨⟨x3,x4,es'⟩,h1,h2,T',h3,h4,h5⟩=>?_
  · subst es'
    have hi:i < R.length:=by have:=(List.getElem?_eq_some_iff.mp hu).1;rw [oW] at this;exact this
    have hu':(dN R)[i]? =some (Sum.inr (cT R[i].1),V.int R[i].2):=by simp [dN,List.getElem?_eq_getElem hi]
    rw [hu] at hu'
    cases hu'
    have dT:d≠Tt:=fun z=>by rw [←z,h3] at hT;cases hT
    have eT:e≠Tt:=fun z=>by rw [←z,h1] at hT;cases hT
    have h3':upd H' Tt (.tup [kV (Sum.inr (cT R[i].1)),V.int R[i].2]) d=some (.dK (dN T')):=by rw [ak dT];exact h3
    have lw:(cT R[i].1).length+(cT t).length≤sizeLine:=by
      rw [gv,gv]
      have:=hl R[i] (List.getElem_mem hi)
      exact cW (by omega)
    refine ⟨Tt,_,rfl,SqT.of upd_same,rfl,_,_,rfl,_,_,rfl,rfl,?_⟩
    refine ⟨_,rfl,d,rfl, .inl ⟨_, .inl h3'⟩,_,rfl,_,rfl, .inr (.inl ⟨_,_,rfl,rfl,lw,?_⟩)⟩
    refine ⟨_, .inl ⟨_,Sum.inr (cT (R[i].1++t)), .inl h3',by rw [ud];rfl,rfl⟩,?_⟩
    refine ⟨_,rfl, .inl ⟨_,_,xX _ _,rfl,?_⟩⟩
    refine ⟨_,rfl,_,rfl,_,rfl, .inr (.inl ⟨_,_,rfl,rfl,lw,?_⟩)⟩
    rw [ud]
    refine ⟨d,_,rfl,DPut.k (k:=Sum.inr (cT (R[i].1++t))) h3' (by rw [oW];exact small (by omega)),⟨_,_,rfl⟩,?_,?_,?_⟩
    · rw [ak hne.symm,ak eT];exact h1
    · intro b o hb hbe q'
      have bT:b≠Tt:=fun z=>by rw [z] at q';have:=h2 _ _ (by rw [←z];exact hb) (by rw [←z];exact hbe) q';rw [hT] at this;cases this
      rw [ak hb,ak bT]
      exact h2 b o hb hbe q'
    · refine ⟨_,upd_same.trans (by rw [xZ]),?_,?_⟩
      · rw [←h4,List.drop_eq_getElem_cons hi]
        rfl
      · have:=jB T' (R[i].1++t) (NH.bS T' (R[i].1++t)+R[i].2)
        omega
  · subst es'
    rw [oW,List.drop_length] at h4
    refine ⟨e,ob,_,h1,fun o v z=>(by rw [he] at z;cases z),hD _ _ (q _ (fun b o hb q'=>?_) ?_)⟩
    · by_cases hbe:b=e
      · subst hbe;rw [he] at q';cases q';exact upd_same
      · rw [ak hbe];exact h2 b o hb hbe q'
    · rw [ak hne,h3]
      exact congrArg (fun z=>some (HO.dK (dN z))) h4
end PL
namespace L2
open PySem PySem.Spec PyProof.Rows
def zw (x:Str):It:=⟨fun i _=>i < x.cps.size,fun i H v H'=>∃T c,H T=none∧x.cps[i]? =some c∧v= .ref T∧H'=upd H T (.tup [.int i, .str ⟨#[c]⟩]),fun i _=>i=x.cps.size⟩
theorem oX {P:Program} {w:World} {K:PySem.W.Frag} {elts:List Expr} {k:Nat} {pos:Pos} {e it:Addr} {x:Str} {t:Tok} {T:String} (hei:e≠it) (DD:∀A:Around,A.handled=none→Draws P w A it [it] x.cps.size (fun i v=>∃c u,x.cps[i]? =some c∧v=Value.str ⟨#[c]⟩ u) fun i h=>h.IsStrIter it T x t i):Turn P w K (.Tuple elts k pos) (zw x) [e,it] e
    (fun i h=>(∃old,IsEnum h e it i old)∧h.IsStrIter it T x t i) where
  mem:=by simp
  obj:=fun i h st c hc=>by
    obtain ⟨⟨old,h1⟩,⟨o4,h4,_,d4⟩⟩:=st
    simp only [List.mem_cons,List.not_mem_nil,or_false] at hc
    rcases hc with rfl | rfl
    · exact ⟨_,h1,fun v z=>by cases z⟩
    · exact ⟨_,h4,fun v z=>by rw [d4] at z;cases z⟩
  keep:=fun i h h' st kk=>by
    obtain ⟨⟨old,h1⟩,o,ho,r⟩:=st
    exact ⟨⟨old,kk e (by simp) _ h1⟩,o,kk it (by simp) o ho,r⟩
  item:=by
    intro X hP hw hK hc i pins s σ H E I hf st hg
    subst hP hw hK
    obtain ⟨⟨old,h1⟩,h4⟩:=st
    refine wpAny_pyNext_enum_itemD (DD X.A.in1 (I.ok.hd hc)) h1 h4 hg hei (by simpa using hei) fun y h' tk hy a1 a3 a5 a6 hk=>?_
    obtain ⟨c,u,hc',rfl⟩:=hy
    have I0:=nj (t':=tk+1) I (us:=[.int i tk, .str ⟨#[c]⟩ u]) (vs:=[.int i, .str ⟨#[c]⟩]) (.cons ⟨_,rfl⟩ (.cons ⟨_,rfl⟩ .nil)) (by show 2≤sizeLine;decide)
    have hT:∀c∈[e,it],c≠s.heap.objs.size:=fun c hc ZE=>by
      have:c < s.heap.objs.size:=by
        simp only [List.mem_cons,List.not_mem_nil,or_false] at hc
        rcases hc with rfl | rfl
        · exact Heap.lt_size h1
        · obtain ⟨o,q,_⟩:=h4;exact Heap.lt_size q
      rw [ZE] at this;exact Nat.lt_irrefl _ this
    have hf2:∀b∈[e,it],jG X pins (upd H s.heap.objs.size (.tup [.int i, .str ⟨#[c]⟩])) b:=fun b hb=>by
      obtain ⟨f0,f⟩:=hf b hb
      exact ⟨by rw [ak (hT b hb)];exact f0,f⟩
    have I1:=I0.turnedL (h':=h') (t':=tk+1) (fp:=[e,it]) (fun b o hb q=>by
      simp only [List.mem_cons,List.not_mem_nil,or_false,not_or] at hb
      by_cases ec:b=s.heap.objs.size
      · subst ec
        rw [Heap.get?_push_size _ rfl] at q
        cases q
        exact a5
      · exact hk b o hb.1 hb.2 (j9 ec q)) hf2
    refine ⟨_,rfl,wpAny_letOwnedTupleGo_enum (s:={s with heap:=h',toks:=tk+1}) a1 fun h'' z'' s''=>?_⟩
    have I2:=I1.turnedL (h':=h'') (t':=tk+1) (fp:=[e,it]) (fun c o hc q=>(s''.2 c fun e'=>hc (by simp [e'])).trans q) hf2
    obtain ⟨o3,q3,r3⟩:=a3
    exact ⟨.ref s.heap.objs.size,_,I2,rfl,⟨_,c,I.hok.fresh (Nat.le_refl _),hc',rfl,rfl⟩,⟨⟨_,by simpa using z''⟩,o3,(s''.2 it (Ne.symm hei)).trans q3,r3⟩,fun c hc=>(hf2 c hc).1⟩
  done:=by
    intro X hP hw hK hc i pins s σ H E I hf st hg
    subst hP hw hK
    obtain ⟨⟨old,h1⟩,h4⟩:=st
    cases (show i=x.cps.size from hg)
    refine wpAny_pyNext_enum_endD (DD X.A.in1 (I.ok.hd hc)) h1 h4 fun h' hk=>⟨rfl,I.turnedL (t':=s.toks) (fp:=[e,it]) (fun c o hc q=>?_) hf⟩
    simp only [List.mem_cons,List.not_mem_nil,or_false,not_or] at hc
    exact hk c o hc.2 q
  self:=fun _ _ _ _ _ st h=>wpAny_pyIter_enum st.1.choose_spec h
def ue (tl:TA):TI:=fun σ H R=>tl σ H fun vs H1=>∃x,vs=[.str x]∧R (zw x) H1
section
variable {X:Cx} {elts:List Expr} {kt:Nat} {pt:Pos}
theorem uf {l:Expr} {tl:TA} {p pos:Pos} (hg:Gl X "enumerate") (hm:X.mg "enumerate"=none) (ha:PA X [l] tl) (hs:starEach [l] X.env=[(false,eval l X.env)]:=by rfl):PI X (.Tuple elts kt pt) (.Call (.Name "enumerate" p) [l] [] pos) (ue tl):=by
  intro pins s σ H R I h
  refine Call_ (g5 I hg hm boot_enumerate (PyProof.Rows.callWith_type1 (bN (ha pos pins s σ H _ I h) fun us s1 ⟨vs,H1,I1,r1,q1⟩=>?_) hs rfl))
  obtain ⟨x,e,q⟩:=q1
  subst e
  obtain ⟨u,rfl,ru⟩:=r1.one
  obtain ⟨t,rfl⟩:=ru
  refine call_enumerate_str fun h' z1 z2 z3 hk=>?_
  have I2:Inv X pins σ H1 {s1 with heap:=h'}:=I1.kept (t':=s1.toks) hk
  refine wpAny_pyIter_enum (s:={s1 with heap:=h'}) z1 ⟨_,[_,_],_,_,H1,rfl,I2,oX (T:=strIterType x) (t:=t) (Nat.ne_of_gt (Nat.lt_succ_self _)) fun A hA=>?_,⟨⟨_,z1⟩,z2⟩,fun c hc=>?_,q⟩
  · unfold strIterType
    split
    · exact Draws.strAscii hA _ _ _
    · exact Draws.strWide hA _ _ _
  have le:s1.heap.objs.size≤c:=by
    simp only [List.mem_cons,List.not_mem_nil,or_false] at hc
    rcases hc with rfl | rfl
    · exact Nat.le_succ _
    · exact Nat.le_refl _
  exact I1.fpOk le (I1.hok.fresh le)
end
end L2
namespace PL
open PySem L2 Nh PyProof.Rows
theorem rG {x:Str} {g:TG} {tb:TS} {D:Ends} {σ:L2.St} {H:Hp} (Pv:Nat→L2.St→Hp→Prop) (h0:Pv 0 σ H)
    (hs:∀i c σ H T,x.cps[i]? =some c→Pv i σ H→H T=none→g (.ref T) σ (upd H T (.tup [.int i, .str ⟨#[c]⟩])) fun σ2 H2=>tb {D with nx:=Pv (i+1),ct:=Pv (i+1),bk:=D.nx} σ2 H2) (hd:∀σ H,Pv x.cps.size σ H→D.nx σ H):
    ∃W:Nat→Nat→L2.St→Hp→Prop,(∃m,W 0 m σ H)∧∀i m σ H,W i m σ H→
      ((zw x).stop i H∧D.nx σ H)∨((zw x).go i H∧∃N:L2.St→Hp→Prop,(∀σ' H',N σ' H'→∃m',m' < m∧W (i+1) m' σ' H')∧∀y H',(zw x).yld i H y H'→g y σ H' fun σ2 H2=>tb {D with nx:=N,ct:=N,bk:=D.nx} σ2 H2):=by
  refine ⟨fun i m σ H=>m=x.cps.size - i∧i≤x.cps.size∧Pv i σ H,⟨x.cps.size,by simp,Nat.zero_le _,h0⟩,?_⟩
  rintro i m σ H ⟨rfl,hi,p⟩
  by_cases hlt:i < x.cps.size
  · refine .inr ⟨hlt,Pv (i+1),fun σ' H' p'=>⟨x.cps.size - (i+1),by omega,rfl,hlt,p'⟩,fun y H' z=>?_⟩
    obtain ⟨T,c,hT,hc,rfl,rfl⟩:=z
    exact hs i c σ _ T hc p hT
  · have e:i=x.cps.size:=by omega
    subst e
    exact .inl ⟨rfl,hd σ H p⟩
theorem ug {x:Str} {g:TG} {tb:TS} {D:Ends} {σ:L2.St} {H:Hp} (Pv:Nat→L2.St→Hp→Prop) (h0:Pv 0 σ H)
    (hs:∀i c σ H,x.cps.toList[i]? =some c→Pv i σ H→g (.str ⟨#[c]⟩) σ H fun σ2 H2=>tb {D with nx:=Pv (i+1),ct:=Pv (i+1),bk:=D.nx} σ2 H2) (hd:∀σ H,Pv x.cps.toList.length σ H→D.nx σ H):
    ∃W:Nat→Nat→L2.St→Hp→Prop,(∃m,W 0 m σ H)∧∀i m σ H,W i m σ H→
      ((xL x).stop i H∧D.nx σ H)∨((xL x).go i H∧∃N:L2.St→Hp→Prop,(∀σ' H',N σ' H'→∃m',m' < m∧W (i+1) m' σ' H')∧∀y H',(xL x).yld i H y H'→g y σ H' fun σ2 H2=>tb {D with nx:=N,ct:=N,bk:=D.nx} σ2 H2):=by
  refine ⟨fun i m σ H=>m=x.cps.toList.length - i∧i≤x.cps.toList.length∧Pv i σ H,⟨x.cps.toList.length,by simp,Nat.zero_le _,h0⟩,?_⟩
  rintro i m σ H ⟨rfl,hi,p⟩
  by_cases hlt:i < x.cps.toList.length
  · refine .inr ⟨hlt,Pv (i+1),fun σ' H' p'=>⟨x.cps.toList.length - (i+1),by omega,rfl,hlt,p'⟩,fun y H' z=>?_⟩
    obtain ⟨rfl,c,hc,rfl⟩:=z
    exact hs i c σ _ hc p
  · have e:i=x.cps.toList.length:=by omega
    subst e
    exact .inl ⟨rfl,hd σ H p⟩
theorem uh {lo:Int} {n:Nat} {l:Addr} {g:TG} {tt:TT} {te:TE} {Q:VK} {σi:L2.St} {H1:Hp} (Pv:Nat→L2.St→Hp→Prop) (h0:Pv 0 σi (upd H1 l (.lst [])))
    (hs:∀i σ H,i < n→Pv i σ H→g (.int (lo+i)) σ H fun σ3 H3=>tt σ3 H3 fun b H4=>if b=true then te σ3 H4 fun y H5=>∃ys,H5 l=some (.lst ys)∧ys.length < sizeLine∧Pv (i+1) σ3 (upd H5 l (.lst (ys++[y]))) else Pv (i+1) σ3 H4)
    (hd:∀σ H,Pv n σ H→Q (.ref l) H):∃W:Nat→Nat→L2.St→Hp→Prop,(∃m,W 0 m σi (upd H1 l (.lst [])))∧
  ∀i m σ' H',W i m σ' H'→((wj lo n).stop i H'∧Q (.ref l) H')∨((wj lo n).go i H'∧∃N:L2.St→Hp→Prop,(∀σ' H',N σ' H'→∃m',m' < m∧W (i+1) m' σ' H')∧∀x H2,(wj lo n).yld i H' x H2→g x σ' H2 fun σ3 H3=>tt σ3 H3 fun b H4=>
    if b=true then te σ3 H4 fun y H5=>∃ys,H5 l=some (.lst ys)∧ys.length < sizeLine∧N σ3 (upd H5 l (.lst (ys++[y]))) else N σ3 H4):=by
  refine ⟨fun i m σ H=>m=n - i∧i≤n∧Pv i σ H,⟨n,by simp,Nat.zero_le _,h0⟩,?_⟩
  rintro i m σ H ⟨rfl,hi,p⟩
  by_cases hlt:i < n
  · refine .inr ⟨hlt,Pv (i+1),fun σ' H' p'=>⟨n - (i+1),by omega,rfl,hlt,p'⟩,fun x H' y=>?_⟩
    obtain ⟨e,y⟩:=y
    subst e y
    exact hs i σ _ hlt p
  · have e:i=n:=by omega
    subst e
    exact .inl ⟨Nat.le_refl _,hd σ H p⟩
def jC (nl:Nat) (sec:List Nat) (f:Nat→Tb):Nat→Tb
  | 0=>dW [nl] (f 0) []
  | j+1=>if nl=sec.getD j 0 then dW [nl] (f j) (dW [sec.getD j 0] (jC nl sec f j) (dW [nl] (f (j+1)) [])) else dW [sec.getD j 0] (jC nl sec f j) (dW [nl] (f (j+1)) [])
def Sm (i j:Nat) (D:Tb):Prop:=D.length≤3 ^ (i+j)∧∀p∈D,p.1.length≤i+j
theorem fL (t:List Nat) {L:Nat}:∀R D:Tb,(∀p∈R,p.1.length+t.length≤L)→(∀p∈D,p.1.length≤L)→∀p∈dW t R D,p.1.length≤L
  | [],D,_,h=>h
  | q::R,D,hR,h=>by
    refine fL t R _ (fun p hp=>hR p (List.mem_cons_of_mem _ hp)) fun p hp=>?_
    have hm:p.1∈(NH.fJ D (q.1++t) (NH.bS D (q.1++t)+q.2)).map (·.1):=List.mem_map.mpr ⟨p,hp,rfl⟩
    rw [NH.k_] at hm
    have hk:p.1∈D.map (·.1)∨p.1=q.1++t:=by
      split at hm
      · exact .inl hm
      · rcases List.mem_append.mp hm with z | z
        · exact .inl z
        · exact .inr (List.mem_singleton.mp z)
    rcases hk with z | z
    · obtain ⟨r,hr,e⟩:=List.mem_map.mp z
      rw [←e];exact h r hr
    · rw [z,List.length_append];exact hR q (List.mem_cons_self ..)
theorem qc {nl:Nat} {sec:List Nat} {f:Nat→Tb} {i:Nat} (hf:∀j,j≤sec.length→Sm i j (f j)):∀j,j≤sec.length→Sm (i+1) j (jC nl sec f j)
  | 0,h=>by
    obtain ⟨a,b⟩:=hf 0 h
    have l:=eK [nl] (f 0) []
    refine ⟨?_,fL [nl] (f 0) [] (fun p hp=>by have:=b p hp;simp;omega) (fun _ z=>nomatch z)⟩
    show (dW [nl] (f 0) []).length≤_
    have:3 ^ (i+0)≤3 ^ (i+1+0):=Nat.pow_le_pow_right (by omega) (by omega)
    simp at l
    omega
  | j+1,h=>by
    obtain ⟨a0,b0⟩:=hf j (by omega)
    obtain ⟨a1,b1⟩:=hf (j+1) h
    obtain ⟨a2,b2⟩:=qc hf (nl:=nl) j (by omega)
    have e1:3 ^ (i+1+(j+1))=3*3 ^ (i+1+j):=by rw [show i+1+(j+1)=(i+1+j)+1 by omega,Nat.pow_succ,Nat.mul_comm]
    have e2:3 ^ (i+(j+1))=3 ^ (i+1+j):=by congr 1;omega
    have e3:3 ^ (i+j)≤3 ^ (i+1+j):=Nat.pow_le_pow_right (by omega) (by omega)
    have l1:=eK [nl] (f (j+1)) []
    have l2:=eK [sec.getD j 0] (jC nl sec f j) (dW [nl] (f (j+1)) [])
    have l3:=eK [nl] (f j) (dW [sec.getD j 0] (jC nl sec f j) (dW [nl] (f (j+1)) []))
    have k1:=fL [nl] (L:=i+1+(j+1)) (f (j+1)) [] (fun p hp=>by have:=b1 p hp;simp;omega) (fun _ z=>nomatch z)
    have k2:=fL [sec.getD j 0] (L:=i+1+(j+1)) (jC nl sec f j) _ (fun p hp=>by have:=b2 p hp;simp;omega) k1
    have k3:=fL [nl] (L:=i+1+(j+1)) (f j) _ (fun p hp=>by have:=b0 p hp;simp;omega) k2
    simp only [List.length_nil] at l1
    unfold jC
    split
    · exact ⟨by omega,k3⟩
    · exact ⟨by omega,k2⟩
theorem Sm.small {i j:Nat} {D:Tb} (h:Sm i j D) (hij:i+j≤11):D.length≤177147∧∀p∈D,p.1.length≤11:=by
  have:3 ^ (i+j)≤3 ^ 11:=Nat.pow_le_pow_right (by omega) hij
  exact ⟨Nat.le_trans h.1 (Nat.le_trans this (by decide)),fun p hp=>Nat.le_trans (h.2 p hp) hij⟩
def yy (H:Hp) (M:Addr) (as:List Addr) (f:Nat→Tb):Prop:=H M=some (.lst (as.map V.ref))∧∀j a,as[j]? =some a→H a=some (.dK (dN (f j)))
def zN:Sp:=fun vs H Q _=>∃M nl sec as f i,vs=[.ref M, .str (cT [nl]), .str (cT sec)]∧yy H M as f∧as.length=sec.length+1∧(∀j,j≤sec.length→Sm i j (f j))∧i+1+sec.length≤11∧
  ∀l as' H',Same H H'→yy H' l as' (jC nl sec f)→as'.length=sec.length+1→Q (.ref l) H'
def qd (a b c:TE):TS:=pi (pB zM [] E0 (d_ a (d_ b (d_ c jK))))
def ya (K:PySem.W.Frag):TS:=
  kC (oa (yQ (d_ oE jK)) (eU 3)) (kC (qd (n4 (mT K) (bC 3) (tC (.int 0))) (n4 (mT K) (bC 0) (tC (.int 0))) (bC 1))
  (kC (vc (ue (d_ (bC 2) jK)) (w5 K 2 (mN (eU 4) (mN (eU 5) wZ)))
    (kC (oa oE (eU 6)) (kC (qd (bC 6) (n4 (mT K) (bC 0) (n4 (uZ fun i j=> .int (i+j)) (bC 4) (tC (.int 1)))) (bC 1))
    (kC (qd (bC 6) (n4 (mT K) (bC 3) (bC 4)) (bC 5))
    (kC (yD (sj (n4 Aa (bC 1) (bC 5))) (qd (bC 6) (n4 (mT K) (bC 0) (bC 4)) (bC 1)) wf)
    (pi (Ae K "list" ju (bC 3) (d_ (bC 6) jK))))))))
  (wW (bC 3))))
theorem gw {as:List Addr} {j:Nat} {a:Addr} (h:as[j]? =some a):atI (as.map V.ref) (j:Int)=some (.ref a):=by
  rw [cL,List.getElem?_map,h];rfl
theorem uk {K:PySem.W.Frag} {H0:Hp} {vs:List V} {Q:VK} {E:XK} {D:Ends} {N:List Str} (h:zN vs H0 Q E) (hD:∀v H',Q v H'→D.rt v H') (hN:N.length=7:=by rfl):ya K D (L2.cQ N vs) H0:=by
  obtain ⟨M,nl,sec,as,f,i0,rfl,⟨hM,hA⟩,hl,hf,hi0,q⟩:=h
  have hst:∀vs:List V,vs.length=3→L2.cQ N vs=vs.map some++[none,none,none,none]:=fun vs hv=>by unfold L2.cQ;rw [hN,hv];rfl
  rw [hst _ rfl]
  have at_:∀j,j≤sec.length→∃a,as[j]? =some a:=fun j hj=>⟨as[j],List.getElem?_eq_getElem (by omega)⟩
  have sz:∀j,j≤sec.length→(f j).length≤177147∧∀p∈f j,p.1.length≤11:=fun j hj=>(hf j hj).small (by omega)
  have szn:∀j,j≤sec.length→(jC nl sec f j).length≤177147∧∀p∈jC nl sec f j,p.1.length≤11:=fun j hj=>(qc hf j hj).small (by omega)
  intro p hp
  refine ⟨by show 1≤sizeLine;exact cW (by decide),fun l hl'=>?_⟩
  have lp:p≠l:=fun z=>by subst z;rw [upd_same] at hl';cases hl'
  have hl0:H0 l=none:=by rw [ak lp.symm] at hl';exact hl'
  have g1:Same H0 (upd (upd H0 p (.dK [])) l (.lst [.ref p])):=fun b o e=>by
    rw [ak (fun z=>by rw [z,hl0] at e;cases e),ak (fun z=>by rw [z,hp] at e;cases e)];exact e
  obtain ⟨a0,ha0⟩:=at_ 0 (by omega)
  have pa:p≠a0:=fun z=>by have:=hA 0 a0 ha0;rw [←z,hp] at this;cases this
  refine ⟨_,rfl,l,_,0, .ref p,rfl,rfl,SqL.of upd_same,rfl,?_⟩
  refine ⟨_,rfl,M,_,0, .ref a0,rfl,rfl,SqL.of (g1 _ _ hM),gw (j:=0) ha0,?_⟩
  refine ⟨_,rfl,p,a0,[],f 0,[nl],rfl,pa,by rw [ak lp];exact upd_same,g1 _ _ (hA 0 a0 ha0),by have:=(sz 0 (by omega)).1;simp;omega,fun r hr=>by have:=(sz 0 (by omega)).2 r hr;simp;omega,fun H1 sb1 hp1=>?_⟩
  have s1:Same H0 H1:=fun b o e=>sb1 b o (fun z=>by rw [z,hp] at e;cases e) (g1 b o e)
  have l1:H1 l=some (.lst [.ref p]):=sb1 l _ lp.symm upd_same
  refine ⟨_,rfl,_,rfl,?_⟩
  refine rG (x:=cT sec) (fun i σ H'=>(∃x4 x5 x6,σ=[some (.ref M),some (.str (cT [nl])),some (.str (cT sec)),some (.ref l),x4,x5,x6])∧Same H0 H'∧∃ts:List Addr,ts.length=i+1∧yy H' l ts (jC nl sec f)∧∀t∈ts,H0 t=none∧t≠l)
    ⟨⟨_,_,_,rfl⟩,s1,[p],rfl,⟨l1,fun j a hj=>?_⟩,fun t ht=>by rw [List.mem_singleton.mp ht];exact ⟨hp,lp⟩⟩ (fun i c σ H2 T hc ⟨⟨x4,x5,x6,es⟩,s2,ts,tl,⟨tl1,tl2⟩,tf⟩ hT=>?_) fun σ H2 ⟨⟨x4,x5,x6,es⟩,s2,ts,tl,⟨tl1,tl2⟩,tf⟩=>?_
  · cases j with
    | zero=>cases hj;exact hp1
    | succ j=>simp at hj
  · subst es
    have hi:i < sec.length:=by have:=(Array.getElem?_eq_some_iff.mp hc).1;simpa using this
    have ec:c=sec.getD i 0:=by
      have:sec[i]? =some c:=by simpa using hc
      rw [List.getD_eq_getElem?_getD,this];rfl
    have gT:=bt hT (.tup [.int i, .str ⟨#[c]⟩])
    refine ⟨T,_,rfl,SqT.of upd_same,rfl,_,_,rfl,_,_,rfl,rfl,?_⟩
    intro wy hw
    have wT:Same (upd H2 T (.tup [.int i, .str ⟨#[c]⟩])) (upd (upd H2 T (.tup [.int i, .str ⟨#[c]⟩])) wy (.dK [])):=bt hw _
    have s3:Same H2 (upd (upd H2 T (.tup [.int i, .str ⟨#[c]⟩])) wy (.dK [])):=fun b o e=>wT b o (gT b o e)
    have wn:H2 wy=none:=by
      cases z:H2 wy with
      | none=>rfl
      | some o=>have:=gT _ _ z;rw [hw] at this;cases this
    have wo:∀{b:Addr} {o:HO},H2 b=some o→wy≠b:=fun e z=>by rw [←z,wn] at e;cases e
    have w0:∀{b:Addr} {o:HO},H0 b=some o→wy≠b:=fun e=>wo (s2 _ _ e)
    generalize hH3:upd (upd H2 T (.tup [.int i, .str ⟨#[c]⟩])) wy (.dK [])=H3 at s3 ⊢
    have w3:H3 wy=some (.dK (dN [])):=by rw [←hH3];exact upd_same
    obtain ⟨a1,ha1⟩:=at_ (i+1) (by omega)
    obtain ⟨a2,ha2⟩:=at_ i (by omega)
    obtain ⟨t1,ht1⟩:∃t,ts[i]? =some t:=⟨ts[i],List.getElem?_eq_getElem (by omega)⟩
    refine ⟨_,rfl,_,rfl,_,rfl,_,_,rfl,rfl,M,_,_, .ref a1,rfl,rfl,SqL.of (s3 _ _ (s2 _ _ hM)),gw (j:=i+1) ha1,?_⟩
    refine ⟨_,rfl,wy,a1,[],f (i+1),[nl],rfl,w0 (hA _ _ ha1),w3,s3 _ _ (s2 _ _ (hA _ _ ha1)),by have:=(sz (i+1) (by omega)).1;simp;omega,fun r hr=>by have:=(sz (i+1) (by omega)).2 r hr;simp;omega,fun H4 sb4 hw4=>?_⟩
    have s4:Same H2 H4:=fun b o e=>sb4 b o (wo e).symm (s3 b o e)
    have z1:=eK [nl] (f (i+1)) []
    refine ⟨_,rfl,_,rfl,_,rfl,l,_,_, .ref t1,rfl,rfl,SqL.of (s4 _ _ tl1),gw ht1,?_⟩
    refine ⟨_,rfl,wy,t1,_,jC nl sec f i,[c],rfl,wo (tl2 _ _ ht1),hw4,s4 _ _ (tl2 _ _ ht1),?_,fun r hr=>by have:=(szn i (by omega)).2 r hr;simp;omega,fun H5 sb5 hw5=>?_⟩
    · have:=(szn i (by omega)).1
      have:=(sz (i+1) (by omega)).1
      simp only [List.length_nil] at z1
      omega
    have s5:Same H2 H5:=fun b o e=>sb5 b o (wo e).symm (s4 b o e)
    have z2:=eK [c] (jC nl sec f i) (dW [nl] (f (i+1)) [])
    have fin:∀(W:Tb) (H6:Hp),Same H2 H6→H6 wy=some (.dK (dN W))→W=jC nl sec f (i+1)→pi (Ae K "list" ju (bC 3) (d_ (bC 6) jK))
        {nx:=fun σ H'=>(∃x4 x5 x6,σ=[some (.ref M),some (.str (cT [nl])),some (.str (cT sec)),some (.ref l),x4,x5,x6])∧Same H0 H'∧∃ts:List Addr,ts.length=i+1+1∧yy H' l ts (jC nl sec f)∧∀t∈ts,H0 t=none∧t≠l,rt:=D.rt,bk:=fun _ _=>False,ct:=fun _ _=>False}
        [some (.ref M),some (.str (cT [nl])),some (.str (cT sec)),some (.ref l),some (.int i),some (.str ⟨#[c]⟩),some (.ref wy)] H6:=fun W H6 s6 hw6 eW=>by
      have l6:=s6 _ _ tl1
      refine ⟨_,rfl, .inl ⟨rfl,_,SqL.of l6⟩,_,rfl,l,_,_,rfl,rfl,l6,by rw [List.length_map,tl];exact small (by omega),⟨_,_,_,rfl⟩,fun b o e=>?_,ts++[wy],by simp [tl],⟨by rw [upd_same,List.map_append];rfl,fun j a hj=>?_⟩,fun t ht=>?_⟩
      · rw [ak (fun z=>by rw [z,hl0] at e;cases e)];exact s6 _ _ (s2 _ _ e)
      · by_cases hj2:j < ts.length
        · rw [List.getElem?_append_left hj2] at hj
          rw [ak (tf a (List.mem_of_getElem? hj)).2]
          exact s6 _ _ (tl2 j a hj)
        · rw [List.getElem?_append_right (by omega)] at hj
          have ej:j=i+1:=by
            have:=(List.getElem?_eq_some_iff.mp hj).1
            simp at this
            omega
          subst ej
          rw [tl,Nat.sub_self] at hj
          cases hj
          rw [ak (wo tl1),hw6,eW]
      · rcases List.mem_append.mp ht with ht | ht
        · exact tf t ht
        · rw [List.mem_singleton.mp ht]
          refine ⟨?_,wo tl1⟩
          cases z:H0 wy with
          | none=>rfl
          | some o=>exact absurd rfl (w0 z)
    refine ⟨_,rfl,_,rfl,rfl,_,rfl,?_⟩
    by_cases hn:nl=c
    · refine (if_pos (by simp [hn])).mpr ?_
      refine ⟨_,rfl,_,rfl,_,rfl,M,_,_, .ref a2,rfl,rfl,SqL.of (s5 _ _ (s2 _ _ hM)),gw ha2,?_⟩
      refine ⟨_,rfl,wy,a2,_,f i,[nl],rfl,w0 (hA _ _ ha2),hw5,s5 _ _ (s2 _ _ (hA _ _ ha2)),?_,fun r hr=>by have:=(sz i (by omega)).2 r hr;simp;omega,fun H6 sb6 hw6=>?_⟩
      · have:=(szn i (by omega)).1
        have:=(sz (i+1) (by omega)).1
        have:=(sz i (by omega)).1
        simp only [List.length_nil] at z1
        omega
      exact fin _ H6 (fun b o e=>sb6 b o (wo e).symm (s5 b o e)) hw6 (by rw [jC,←ec,if_pos hn])
    · refine (if_neg (by simp [hn])).mpr ?_
      exact fin _ H5 s5 hw5 (by rw [jC,←ec,if_neg hn])
  · subst es
    have e:(cT sec).cps.size=sec.length:=by simp
    rw [e] at tl
    exact ⟨_,rfl,hD _ _ (q l ts H2 s2 ⟨tl1,tl2⟩ tl)⟩
end PL
namespace PL
open PySem L2 Nh PyProof.Rows
def kj (sec:List Nat):Nat→Tb:=fun j=>[(sec.take j,1)]
def ms (sec:List Nat):List Nat→(Nat→Tb)→Nat→Tb
  | [],f=>f
  | nl::r,f=>ms sec r (jC nl sec f)
def cN (x:Kp):PyData:= .tuple [.str (cT x.1), .int x.2]
def aI:List PyData→Option Sl:=fun ds=>match ds with
  | [.str a, .str b]=>if a.length+b.length≤10 then some (.ow ((bW (ms b.cps.toList a.cps.toList (kj b.cps.toList) b.cps.toList.length)).map cN)) else none
  | _=>none
theorem ul {sec:List Nat}:∀{r:List Nat} {f:Nat→Tb} {i:Nat},(∀j,j≤sec.length→Sm i j (f j))→∀j,j≤sec.length→Sm (i+r.length) j (ms sec r f j)
  | [],f,i,h,j,hj=>h j hj
  | nl::r,f,i,h,j,hj=>by
    have:=ul (r:=r) (f:=jC nl sec f) (i:=i+1) (qc h) j hj
    rw [show i+(nl::r).length=i+1+r.length by simp;omega]
    exact this
abbrev wJ:List V→Hp→VK→Prop:=fun xs H Q=>∃z,xs=[.str z]∧z.length≤sizeLine∧Q (.int z.length) H
abbrev zA:V→Option Int→Option Int→Hp→VK→Prop:=fun x lo hi H Q=>∃z,x= .str z∧z.length≤sizeLine∧Q (.str (Txt.slice z lo hi)) H
abbrev zB:List V→Hp→VK→Prop:=fun xs H Q=>∃(v d:Addr) (kvs:List Kp),xs=[.ref v]∧H v=some (ki v d)∧H d=some (.dK (dN kvs))∧kvs.length < 65536∧
    ∀l cs H2,wH H H2 l→H2 l=some (.lst (nK cs))→(∀x∈cs,H2 x.1=some (.tup (u5 x.2)))→cs.map (·.2)=bW kvs→Q (.ref l) H2
abbrev wK (K:PySem.W.Frag):TS:=kC (vc (zc (bC 0)) (eU 3) (oa (pB zN [] E0 (d_ (bC 2) (d_ (bC 3) (d_ (bC 1) jK)))) (eU 2)))
  (wW (yr zB (d_ (uc (n4 (mT K) (bC 2) (yr wJ (d_ (bC 1) jK)))) jK)))
def Ap (K:PySem.W.Frag):TS:=
  kC (oa (mV [none,some 1] (wk (d_ (n4 (uZ fun i j=> .int (i+j)) (yr wJ (d_ (bC 1) jK)) (tC (.int 1))) jK)) (eU 0) sI (sW [(Ac zA (bC 1) lD (sx (bC 0)),tC (.int 1))])) (eU 2))
  (wK K)
theorem um (w:List Nat) (i:Nat) (h:i≤w.length):Txt.slice (cT w) none (some (i:Int))=cT (w.take i):=by
  show PySem.StrLaws.sliceText _ _ _=_
  rw [PySem.StrLaws.sliceText_to ⟨by omega,by simp;omega⟩]
  simp
theorem oY {K:PySem.W.Frag} {H:Hp}:∀{cs:Ca},(∀x∈cs,H x.1=some (.tup (u5 x.2)))→RpA K (tups H) (nK cs) ((cs.map (·.2)).map cN)
  | [],_=> .nil
  | x::cs,h=> .cons (.tup (SqT.of (eX (h x (List.mem_cons_self ..)) rfl)) (.cons (.str _) (.cons (.int _) .nil))) (oY fun y hy=>h y (List.mem_cons_of_mem _ hy))
theorem qe {K:PySem.W.Frag} {H0:Hp} {vs:List V} {Q:VK} {E:XK} {D:Ends} {N:List Str} (h:fQ K aI vs H0 Q E) (hD:∀v H',Q v H'→D.rt v H') (hN:N.length=4:=by rfl):vs.length=2∧Ap K D (L2.cQ N vs) H0:=by
  obtain ⟨ds,r,e,ra,q⟩:=h
  unfold aI at e
  split at e
  · rename_i a b
    split at e
    · rename_i hab
      cases e
      obtain ⟨v1,v2,rfl,r1,r2⟩:=ra.two
      cases r1
      cases r2
      obtain ⟨row,rfl⟩:∃row,a=cT row:=⟨a.cps.toList,by cases a;simp [cT]⟩
      obtain ⟨sec,rfl⟩:∃sec,b=cT sec:=⟨b.cps.toList,by cases b;simp [cT]⟩
      rw [gv,gv] at hab
      simp only [List.toList_toArray] at q
      refine ⟨rfl,?_⟩
      have hst:∀vs:List V,vs.length=2→L2.cQ N vs=vs.map some++[none,none]:=fun vs hv=>by unfold L2.cQ;rw [hN,hv];rfl
      rw [hst _ rfl]
      have ls:(cT sec).length≤sizeLine:=by rw [gv];exact cW (by omega)
      refine ⟨_,rfl,_,rfl,ls,_,_,rfl,rfl,(((cT sec).length:Int)+1),rfl,by omega,by rw [gv];omega,fun l hl=>?_⟩
      have en:(((cT sec).length:Int)+1).toNat=sec.length+1:=by rw [gv];omega
      rw [en]
      refine uh (lo:=0) (n:=sec.length+1) (g:=eU 0) (tt:=sI) (te:=sW [(Ac zA (bC 1) lD (sx (bC 0)),tC (.int 1))]) (σi:=[none,some (.str (cT sec))]) (Q:=fun x H1=>wK K D [some (.str (cT row)),some (.str (cT sec)),some x,none] H1) (fun i σ H'=>(∃x,σ=[x,some (.str (cT sec))])∧Same H0 H'∧∃as:List Addr,as.length=i∧yy H' l as (kj sec)∧∀a∈as,H0 a=none∧a≠l)
        ⟨⟨_,rfl⟩,bt hl _,[],rfl,⟨upd_same,fun j a z=>nomatch z⟩,fun _ z=>nomatch z⟩ (fun i σ H1 hi ⟨⟨x,es⟩,s1,as,al,⟨l1,l2⟩,af⟩=>?_) fun σ H1 ⟨⟨x,es⟩,s1,as,al,lod,af⟩=>?_
      · subst es
        refine qQ ?_
        intro p hp
        have po:∀{b:Addr} {o:HO},H1 b=some o→p≠b:=fun e z=>by rw [←z,hp] at e;cases e
        have s2:Same H1 (upd H1 p (.dK [])):=bt hp _
        refine ⟨_,rfl,_,rfl,_,rfl,_,rfl,ls,⟨upd_same,[(Sum.inr (cT (sec.take i)), .int 1)],?_,(show 1≤15 by decide),?_⟩⟩
        · rw [Int.zero_add,um sec i (by omega)];rfl
        have s3:Same H1 (upd (upd H1 p (.dK [])) p (.dK (dN (kj sec i)))):=fun b o e=>by rw [ak (po e).symm];exact s2 b o e
        refine ⟨_,s3 _ _ l1,by rw [List.length_map,al];exact small (by omega),⟨_,rfl⟩,fun b o e=>?_,as++[p],by simp [al],⟨by rw [upd_same,List.map_append];rfl,fun j a hj=>?_⟩,fun a ha=>?_⟩
        · rw [ak (fun z=>by rw [z,hl] at e;cases e)];exact s3 _ _ (s1 _ _ e)
        · by_cases hj2:j < as.length
          · rw [List.getElem?_append_left hj2] at hj
            rw [ak (af a (List.mem_of_getElem? hj)).2]
            exact s3 _ _ (l2 j a hj)
          · rw [List.getElem?_append_right (by omega)] at hj
            have ej:j=i:=by
              have:=(List.getElem?_eq_some_iff.mp hj).1
              simp at this
              omega
            subst ej
            rw [al,Nat.sub_self] at hj
            cases hj
            rw [ak (po l1)]
            exact upd_same
        · rcases List.mem_append.mp ha with ha | ha
          · exact af a ha
          · rw [List.mem_singleton.mp ha]
            refine ⟨?_,po l1⟩
            cases z:H0 p with
            | none=>rfl
            | some o=>exact absurd rfl (po (s1 _ _ z))
      · subst es
        have sm0:∀j,j≤sec.length→Sm 0 j (kj sec j):=fun j hj=>⟨by show 1≤3 ^ (0+j);exact Nat.one_le_pow _ _ (by omega),fun p hp=>by rw [List.mem_singleton.mp hp];simp;omega⟩
        refine ⟨_,rfl,_,rfl,?_⟩
        refine ug (x:=cT row) (fun i σ H'=>(∃x3 M,σ=[some (.str (cT row)),some (.str (cT sec)),some (.ref M),x3]∧Same H0 H'∧∃(as:List Addr) (f:Nat→Tb),as.length=sec.length+1∧yy H' M as f∧(∀j,j≤sec.length→Sm i j (f j))∧ms sec (row.drop i) f=ms sec row (kj sec)))
          ⟨_,l,rfl,s1,as,kj sec,al,lod,sm0,rfl⟩ (fun i c σ H2 hc ⟨x3,M,es,s2,as2,f,al2,lod2,sm,em⟩=>?_) fun σ H2 ⟨x3,M,es,s2,as2,f,al2,lod2,sm,em⟩=>?_
        · subst es
          have hi:i < row.length:=by have:=(List.getElem?_eq_some_iff.mp hc).1;simpa using this
          have ec:row[i]=c:=by
            have:row[i]? =some c:=by simpa using hc
            exact Option.some.inj ((List.getElem?_eq_getElem hi).symm.trans this)
          refine ⟨_,rfl,_,rfl,_,rfl,M,c,sec,as2,f,i,rfl,lod2,al2,sm,by omega,fun l' as' H3 s3 lod3 al3=>?_⟩
          refine ⟨_,l',rfl,fun b o e=>s3 _ _ (s2 _ _ e),as',_,al3,lod3,qc sm,?_⟩
          rw [←em,List.drop_eq_getElem_cons hi,ec]
          rfl
        · subst es
          have er:(cT row).cps.toList.length=row.length:=by simp
          rw [er,List.drop_length] at em
          rw [er] at sm
          obtain ⟨a,ha⟩:∃a,as2[sec.length]? =some a:=⟨as2[sec.length],List.getElem?_eq_getElem (by omega)⟩
          have hda:=lod2.2 _ _ ha
          have sml:=(sm sec.length (Nat.le_refl _))
          have b3:3 ^ (row.length+sec.length)≤3 ^ 10:=Nat.pow_le_pow_right (by omega) hab
          refine ⟨_,rfl,_,rfl,_,rfl,ls,M,_,_, .ref a,rfl,rfl,SqL.of lod2.1,by rw [gv];exact gw ha,?_⟩
          refine ⟨a,_,rfl,hda,fun v hv=>⟨v,a,f sec.length,rfl,upd_same,bt hv _ _ _ hda,Nat.lt_of_le_of_lt sml.1 (Nat.lt_of_le_of_lt b3 (by decide)),fun l' cs H3 ⟨g1,g2,g3⟩ hl3 hcs srt=>?_⟩⟩
          have g0:Same H0 H3:=fun b o e=>g1 _ _ (bt hv _ _ _ (s2 _ _ e))
          refine hD _ _ (q _ _ g0 ⟨l',_,rfl,?_,hl3,?_⟩)
          · cases z:H0 l' with
            | none=>rfl
            | some o=>have:=bt hv (ki v a) _ _ (s2 _ _ z);rw [g2] at this;cases this
          · have:=oY (K:=K) hcs
            rw [srt] at this
            have em':f=ms sec row (kj sec):=em
            rw [←em']
            exact this
    · cases e
  · cases e
end PL
namespace PL
open PySem L2 Nh
def km:List (aP×PyData)→aP→Option PyData
  | [],_=>none
  | p::r,k=>if p.1=k then some p.2 else km r k
def rH (kvs:List (aP×PyData)) (k:aP) (d:PyData):List (aP×PyData):=if (kvs.any fun kv=>decide (kv.1=k))=true then kvs.map (fun kv=>if kv.1=k then (kv.1,d) else kv) else kvs++[(k,d)]
def uo:bD:=fun E=>some (.oi [],E)
def qf (i:Nat) (f g:bD):bD:=fun E=>match E[i]? with
  | some (.oi _)=>(f E).bind fun a=>(g a.2).bind fun b=>(look b.2 a.1).bind fun kd=>(look b.2 b.1).bind fun c=>(pT kd).bind fun k=>match b.2[i]? with
    | some (.oi kvs)=>(match km kvs k with
      | some d=>some (.sh d,b.2)
      | none=>if bV c then some (.sh c,b.2) else none)
    | _=>none
  | _=>none
def ur (i:Nat) (fk fe:bD):cR:=fun E=>(fe E).bind fun a=>(frz a.2 a.1).bind fun b=>match b.2[i]? with
  | some (.oi _)=>(fk b.2).bind fun c=>(look c.2 c.1).bind fun kd=>(pT kd).bind fun k=>match c.2[i]? with
    | some (.oi kvs)=>if kvs.length < 1000000 then some (c.2.set i (.oi (rH kvs k b.1)), .nx) else none
    | _=>none
  | _=>none
section
variable {K:PySem.W.Frag} {F H B:Hp} {A:List Addr} {σ:Sg} {E:List Sl} {xs:List V} {Xs:List Sl}
theorem ut {k:aP}:∀{us:List (aP×V)} {kvs:List (aP×PyData)},KvOk K F us kvs→(gQ us k=none∧km kvs k=none)∨∃v d,gQ us k=some v∧km kvs k=some d∧Rp K F v d
  | [],[],_=> .inl ⟨rfl,rfl⟩
  | p::us,q::kvs,h=>by
    cases h with
    | cons a b=>
      by_cases c:q.1=k
      · exact .inr ⟨p.2,q.2,gm (a.1.trans c),by simp [km,c],a.2⟩
      · have c':¬p.1=k:=fun z=>c (a.1.symm.trans z)
        rcases ut (k:=k) b with ⟨e1,e2⟩ | ⟨v,d,e1,e2,r⟩
        · exact .inl ⟨(fE c').trans e1,by simp [km,c,e2]⟩
        · exact .inr ⟨v,d,(fE c').trans e1,by simp [km,c,e2],r⟩
theorem KvOk.len {us:List (aP×V)} {kvs:List (aP×PyData)} (h:KvOk K F us kvs):us.length=kvs.length:=Paired.length h
theorem uu {k:aP}:∀{us:List (aP×V)} {kvs:List (aP×PyData)},KvOk K F us kvs→(us.any fun kv=>decide (kv.1=k))=kvs.any fun kv=>decide (kv.1=k)
  | [],[],_=>rfl
  | p::us,q::kvs,h=>by
    cases h with
    | cons a b=>rw [List.any_cons,List.any_cons,a.1,uu b]
theorem uv {k:aP} {v:V} {d:PyData} (r:Rp K F v d):∀{us:List (aP×V)} {kvs:List (aP×PyData)},KvOk K F us kvs→KvOk K F (us.map fun kv=>if kv.1=k then (kv.1,v) else kv) (kvs.map fun kv=>if kv.1=k then (kv.1,d) else kv)
  | [],[],_=> .nil
  | p::us,q::kvs,h=>by
    cases h with
    | cons a b=>
      refine .cons ?_ (uv r b)
      by_cases c:q.1=k
      · dsimp only;rw [if_pos c,if_pos (a.1.trans c)];exact ⟨a.1,r⟩
      · dsimp only;rw [if_neg c,if_neg fun z=>c (a.1.symm.trans z)];exact a
theorem qg {k:aP} {v:V} {d:PyData} (r:Rp K F v d):∀{us:List (aP×V)} {kvs:List (aP×PyData)},KvOk K F us kvs→KvOk K F (us++[(k,v)]) (kvs++[(k,d)])
  | [],[],_=> .cons ⟨rfl,r⟩ .nil
  | p::us,q::kvs,h=>by
    cases h with
    | cons a b=>exact .cons a (qg r b)
theorem yb {k:aP} {v:V} {d:PyData} (r:Rp K F v d) {us:List (aP×V)} {kvs:List (aP×PyData)} (h:KvOk K F us kvs):KvOk K F (fD us k v) (rH kvs k d):=by
  unfold fD rH
  rw [uu h]
  split
  · exact uv r h
  · exact qg r h
theorem FrF.newI {p:Addr} (h:FrF K B F A σ H E xs Xs) (hp:H p=none):FrF K B F (p::A) σ (upd H p (.dK [])) E (.ref p::xs) (.oi []::Xs):=by
  have g:Same H (upd H p (.dK [])):=bt hp _
  have nA:=h.newA hp
  refine ⟨h.bf,h.fh.trans g,fun b o e=>?_, .cons (A:=[p]) ⟨p,[],rfl,rfl,upd_same, .nil⟩ (h.sl.mono fun o s C _ hC q=>q.stay (Same.refl _) (fun b hb=>ak fun z=>nA (z▸hC b hb)) fun _=>g),List.nodup_cons.mpr ⟨nA,h.nd⟩,fun a ha=>?_,by simp [h.len],h.pl⟩
  · obtain ⟨e1,e2⟩:=Option.filter_eq_some_iff.mp e
    by_cases hb:b=p
    · subst hb;rw [upd_same] at e1;cases e1;cases e2
    · rw [ak hb] at e1;exact h.tf b o (eX e1 e2)
  · rcases List.mem_cons.mp ha with z | z
    · subst z;exact h.fh.free hp
    · exact h.fr a z
theorem FrF.mutI {i:Nat} {kvs:List (aP×PyData)} (h:FrF K B F A σ H E xs Xs) (e:E[i]? =some (.oi kvs)) (c:∀s∈Xs,s.isBr=false):
    ∃l us,σ[i]? =some (some (.ref l))∧H l=some (.dK us)∧KvOk K F us kvs∧∀us' kvs',KvOk K F us' kvs'→FrF K B F A σ (upd H l (.dK us')) (E.set i (.oi kvs')) xs Xs:=by
  obtain ⟨o,A0,A1,A2,eA,eo,hp,put⟩:=h.sl.at (k:=Xs.length+i) (s:= .oi kvs) (by rw [List.getElem?_append_right (by omega)];simpa using e)
  rw [List.getElem?_append_right (by rw [List.length_map,h.len];omega),List.length_map,h.len,Nat.add_sub_cancel_left] at eo
  obtain ⟨l,us,rfl,rfl,hl,r⟩:=hp
  refine ⟨l,us,eo,hl,r,fun us' kvs' r'=>?_⟩
  have hlA:l∈A:=by rw [eA];simp
  have nl:∀b,b∈A0∨b∈A2→b≠l:=fun b hb z=>by
    subst z
    have nd:=h.nd
    rw [eA] at nd
    rcases hb with hb | hb
    · exact (List.nodup_append.mp nd).2.2 b hb b (by simp) rfl
    · exact (List.nodup_append.mp (List.nodup_append.mp nd).2.1).2.2 b (by simp) b hb rfl
  have lF:F l=none:=h.fr l hlA
  have z:=put (SlOk K F (upd H l (.dK us')) σ) (some (.ref l)) (.oi kvs') [l] ⟨l,us',rfl,rfl,upd_same,r'⟩ fun o s C hs hC q=>q.stay (Same.refl _) (fun b hb=>ak (nl b (hC b hb))) fun z=>by
    rcases List.mem_append.mp hs with hs | hs
    · rw [c s hs] at z;cases z
    · have:=h.pl s hs
      cases s <;> simp [Sl.isAl,Sl.isBr] at this z
  have e3:(Xs++E).set (Xs.length+i) (.oi kvs')=Xs++E.set i (.oi kvs'):=by
    rw [List.set_append_right _ _ (by omega),Nat.add_sub_cancel_left]
  have e2:(List.map some xs++σ).set (Xs.length+i) (some (V.ref l))=List.map some xs++σ:=by
    rw [←h.len,List.set_append_right _ _ (by rw [List.length_map];omega),List.length_map,Nat.add_sub_cancel_left]
    congr 1
    exact List.ext_getElem? fun j=>by
      by_cases hj:i=j
      · subst hj
        rw [List.getElem?_set_self',eo];rfl
      · rw [List.getElem?_set_ne hj]
  rw [e2,e3,←eA] at z
  refine ⟨h.bf,fun b o q=>?_,fun b o q=>?_,z,h.nd,h.fr,h.len,fun s hs=>?_⟩
  · rw [ak (fun z=>by rw [z,lF] at q;cases q)]
    exact h.fh _ _ q
  · obtain ⟨q1,q2⟩:=Option.filter_eq_some_iff.mp q
    by_cases hb:b=l
    · subst hb;rw [upd_same] at q1;cases q1;cases q2
    · rw [ak hb] at q1;exact h.tf b o (eX q1 q2)
  · rcases List.mem_or_eq_of_mem_set hs with hs | hs
    · exact h.pl s hs
    · subst hs;rfl
end
section
variable {X:Cx} {e ek:Expr} {m m2:Bool} {f fk fe:bD} {x:Str} {p p2 pos:Pos}
theorem vX:EX X (.Dict [] [] pos) true uo:=by
  refine bF jZ fun σ H Q z=>?_
  obtain ⟨B,E,xs,Xs,res,E',⟨F,A,fr⟩,c,e,q⟩:=z
  cases e
  intro p hp
  exact q _ _ ⟨_,_,fr.newI hp⟩
theorem vY (i:Nat) {ed:Expr} {fd:bD} {apos cpos:Pos} (hu:X.A.units+64 < cLine) (hk:EX X ek false fk) (hc:EX X ed false fd) (hN:X.N[i]? =some x:=by rfl) (hv:uY X.env.scope x:=by first | exact Or.inl rfl | exact Or.inr (Or.inl rfl) | exact Or.inr (Or.inr rfl)) (hd:(x == ("__debug__":Str))=false:=by decide) (hcd:(x == ("__classdict__":Str))=false:=by decide)
    (hm:M2 X (.Name x p) "get" apos ek ed cpos:=by exact ⟨rfl,rfl,rfl,rfl⟩):EX X (.Call (.Attribute (.Name x p) "get" apos) [ek,ed] [] cpos) false (qf i fk fd):=by
  refine bF (m8 (by omega) (gg hN hv hd hcd) hk hc hm) fun σ H Q z=>?_
  obtain ⟨B,E,xs,Xs,res,E',fr,cl,e,q⟩:=z
  unfold qf at e
  split at e
  · rename_i kv0 ei0
    obtain ⟨⟨s1,E1⟩,e1,e⟩:=Option.bind_eq_some_iff.mp e
    obtain ⟨⟨s2,E2⟩,e4,e⟩:=Option.bind_eq_some_iff.mp e
    obtain ⟨kd,e2,e⟩:=Option.bind_eq_some_iff.mp e
    obtain ⟨c,e5,e⟩:=Option.bind_eq_some_iff.mp e
    obtain ⟨k,e3,e⟩:=Option.bind_eq_some_iff.mp e
    simp only at e
    split at e
    · rename_i kvs ei
      obtain ⟨F0,A0,fr0⟩:=fr
      obtain ⟨o0,C0,eo0,l0,us0,rfl,rfl,hl0,hkv0⟩:=fr0.var ei0
      refine ⟨_,eo0,l0,rfl, .inl ⟨us0, .inl hl0⟩,B,E,xs,Xs,s1,E1,⟨F0,A0,fr0⟩,(fun z=>by cases z),e1,fun y H2 fr2=>?_⟩
      refine ⟨B,E1,_,_,s2,E2,fr2,(fun z=>by cases z),e4,fun w H3 ⟨F3,A3,fr3⟩=>?_⟩
      obtain ⟨v1,ev1,rb,_⟩:=fr3.look (k:=1) rfl e2
      obtain ⟨v2,ev2,rc,_⟩:=fr3.look (k:=0) rfl e5
      cases ev1;cases ev2
      rw [pU e3] at rb
      obtain rfl:=tB rb
      obtain ⟨o,C1,eo,l,us,rfl,rfl,hl,hkv⟩:=fr3.var ei
      rw [eo0] at eo
      cases eo
      refine ⟨_, .inl ⟨us,k, .inl hl,rfl,rfl⟩,?_⟩
      obtain ⟨A4,fr4⟩:=fr3.pop
      obtain ⟨A5,fr5⟩:=fr4.pop
      rcases ut (k:=k) hkv with ⟨a,b⟩ | ⟨v,d,a,b,r⟩
      · rw [b] at e
        simp only at e
        split at e
        · rename_i hf
          cases e
          rw [a]
          exact q _ _ ⟨F3,A5,fr5.push ⟨rfl,_,rfl,fr3.cold rc hf⟩⟩
        · cases e
      · rw [b] at e
        cases e
        rw [a]
        exact q _ _ ⟨F3,A5,fr5.push ⟨rfl,_,rfl,r⟩⟩
    · cases e
  · cases e
theorem vZ (i:Nat) (hu:X.A.units+64 < cLine) (he:EX X e m fe) (hk:EX X ek m2 fk) (hN:X.N[i]? =some x:=by rfl) (hv:uY X.env.scope x:=by first | exact Or.inl rfl | exact Or.inr (Or.inl rfl) | exact Or.inr (Or.inr rfl)) (hd:(x == ("__debug__":Str))=false:=by decide) (hcd:(x == ("__classdict__":Str))=false:=by decide)
    (hs:swapsWith e (some (.Subscript (.Name x p) ek p2)) pos.line X.env=pure false:=by rfl):SX X (.Assign [.Subscript (.Name x p) ek p2] e pos) (ur i fk fe):=gi (pP (by omega) (gg hN hv hd hcd) hk he hs) fun D σ H z=>by
  obtain ⟨B,E,xs,Xs,E',fl,fr,cl,e,q⟩:=z
  obtain ⟨⟨s,E1⟩,e1,e⟩:=Option.bind_eq_some_iff.mp e
  obtain ⟨⟨d,E2⟩,e2,e⟩:=Option.bind_eq_some_iff.mp e
  refine ⟨B,E,xs,Xs,s,E1,fr,fun _=>Calm.nil cl,e1,fun v H1 ⟨F,A,fr1⟩=>?_⟩
  obtain ⟨F2,A2,fr2⟩:=fr1.frz0 e2
  simp only at e
  split at e
  · rename_i kv0 ei
    obtain ⟨⟨s3,E3⟩,e3,e⟩:=Option.bind_eq_some_iff.mp e
    obtain ⟨kd,e4,e⟩:=Option.bind_eq_some_iff.mp e
    obtain ⟨k,e5,e⟩:=Option.bind_eq_some_iff.mp e
    obtain ⟨o,A1,eo,l,us0,rfl,_⟩:=fr2.var ei
    refine ⟨_,eo,B,E2,v::xs, .sh d::Xs,s3,E3,⟨F2,A2,fr2⟩,fun _=>Calm.cons (Calm.nil cl) rfl,e3,fun v3 H3 ⟨F3,A3,fr3⟩=>?_⟩
    simp only at e
    split at e
    · rename_i kvs ei3
      split at e
      · rename_i hlen
        cases e
        have r3:=(fr3.look0 e4).1
        rw [pU e5] at r3
        obtain rfl:=tB r3
        obtain ⟨A4,fr4⟩:=fr3.pop
        obtain ⟨v',A5,ev,rfl,w,ew,rv⟩:=fr4.ext (k:=0) rfl
        cases ev;cases ew
        obtain ⟨A6,fr5⟩:=fr4.pop
        obtain ⟨l',us',eo',hl',r',put⟩:=fr5.mutI ei3 (Calm.nil cl)
        rw [eo] at eo'
        cases eo'
        refine ⟨l,_,rfl,DPut.k hl' (by rw [r'.len];exact small (by omega)),q _ _ ⟨_,_,put _ _ (yb rv r')⟩⟩
      · cases e
    · cases e
  · cases e
end
end PL
namespace PL
open PySem L2 Nh
def lm:List (aP×PyData)→Option (List Kp)
  | []=>some []
  | (.inr x, .int n)::r=>(lm r).map fun l=>(x.cps.toList,n)::l
  | _=>none
theorem uw {K:PySem.W.Frag} {F:Hp}:∀{kvs:List (aP×PyData)} {D:List Kp} {us:List (aP×V)},lm kvs=some D→KvOk K F us kvs→us=dN D
  | [],D,us,e,h=>by cases e;cases h;rfl
  | (k,d)::kvs,D,us,e,h=>by
    unfold lm at e
    split at e
    · cases ‹(k,d)::kvs=[]›
    · rename_i x n r' ec
      cases ec
      obtain ⟨l,e1,rfl⟩:=Option.map_eq_some_iff.mp e
      cases h with
      | cons a b=>
        rename_i p us
        obtain ⟨a1,a2⟩:=a
        have ih:=uw e1 b
        subst ih
        cases p with
        | mk pk pv=>
          cases a1
          cases a2
          show _=(Sum.inr (cT x.cps.toList),V.int n)::dN l
          have:cT x.cps.toList=x:=by cases x;simp [cT]
          rw [this]
    · cases e
def gK (i:Nat):bD:=fun E=>match E[i]? with
  | some (.oi kvs)=>(lm kvs).bind fun D=>if D.length < 65536 then some (.ow ((bW D).map cN),E) else none
  | _=>none
theorem qh:∀D:List Kp,aW (D.map cN)=true
  | []=>rfl
  | x::D=>by simp [aW,bV,cN,qh D]
section
variable {X:Cx} {e:Expr} {m1:Bool} {f:bD} {p pos px apos cpos:Pos} {x:Str}
theorem rJ (i:Nat) (hca:X.calm=true) (hg:Gl X "sorted") (hm:X.mg "sorted"=none) (hN:X.N[i]? =some x:=by rfl) (hv:uY X.env.scope x:=by first | exact Or.inl rfl | exact Or.inr (Or.inl rfl) | exact Or.inr (Or.inr rfl)) (hd:(x == ("__debug__":Str))=false:=by decide) (hcd:(x == ("__classdict__":Str))=false:=by decide)
    (hbase:attributeBase (.Name x px) "items" X.env (eval (.Name x px) X.env)=eval (.Name x px) X.env:=by rfl) (hline:(apos.endLine == cpos.line)=true:=by rfl)
    (he:starEach [.Call (.Attribute (.Name x px) "items" apos) [] [] cpos] X.env=[(false,eval (.Call (.Attribute (.Name x px) "items" apos) [] [] cpos) X.env)]:=by rfl):
    EX X (.Call (.Name "sorted" p) [.Call (.Attribute (.Name x px) "items" apos) [] [] cpos] [] pos) false (gK i):=by
  refine bF (fB (iF hca) hg hm PyProof.Rows.boot_sorted (aF (nM (gg hN hv hd hcd) hbase hline) bE he) (by decide) (by decide) he rfl) fun σ H Q z=>?_
  obtain ⟨B,E,xs,Xs,res,E',⟨F,A,fr⟩,cl,e,q⟩:=z
  unfold gK at e
  split at e
  · rename_i kvs ei
    obtain ⟨D,eD,e⟩:=Option.bind_eq_some_iff.mp e
    split at e
    · rename_i hD
      cases e
      obtain ⟨o,A1,eo,l,us,rfl,rfl,hl,hkv⟩:=fr.var ei
      have:=uw eD hkv
      subst this
      refine ⟨_,eo,l,_,rfl,hl,fun v hv=>⟨v,l,D,rfl,upd_same,bt hv _ _ _ hl,hD,fun l' cs H2 ⟨g1,g2,g3⟩ hl2 hcs srt=>?_⟩⟩
      have g0:Same H H2:=fun b o e=>g1 _ _ (bt hv _ _ _ e)
      refine q _ _ (fr.told g0 ⟨l',_,rfl,?_,hl2,?_⟩)
      · cases z:H l' with
        | none=>rfl
        | some o=>have:=bt hv (ki v l) _ _ z;rw [g2] at this;cases this
      · have:=oY (K:=X.K) hcs
        rw [srt] at this
        exact this
    · cases e
  · cases e
end
end PL
namespace PL
open NH
def Ps (D:Tb):Prop:=∀p∈D,0 < p.2
theorem Ps.get {D:Tb} (h:Ps D) (k:List Nat):0≤bS D k:=by
  induction D with
  | nil=>exact Int.le_refl _
  | cons p D ih=>
    rw [bS]
    split
    · exact Int.le_of_lt (h p (List.mem_cons_self ..))
    · exact ih fun q hq=>h q (List.mem_cons_of_mem _ hq)
theorem Ps.put {D:Tb} (h:Ps D) (k:List Nat) {n:Int} (hn:0 < n):Ps (fJ D k n):=fun p hp=>by
  unfold fJ at hp
  split at hp
  · obtain ⟨q,hq,e⟩:=List.mem_map.mp hp
    subst e
    split
    · exact hn
    · exact h q hq
  · rcases List.mem_append.mp hp with z | z
    · exact h p z
    · rw [List.mem_singleton.mp z];exact hn
theorem iG (t:List Nat):∀R D:Tb,Nd D→Nd (dW t R D)
  | [],D,h=>h
  | p::R,D,h=>iG t R _ (jA h _ _)
theorem iH (t:List Nat):∀R D:Tb,Ps R→Ps D→Ps (dW t R D)
  | [],D,_,h=>h
  | p::R,D,hR,h=>iH t R _ (fun q hq=>hR q (List.mem_cons_of_mem _ hq)) (h.put _ (by have:=hR p (List.mem_cons_self ..);have:=h.get (p.1++t);omega))
theorem fZ (t:List Nat) (f:List Nat→Int):∀R D:Tb,Nd D→fv (dW t R D) f=fv D f+fv R fun w=>f (w++t)
  | [],D,_=>by simp [dW,fv]
  | p::R,D,h=>by
    rw [dW,fZ t f R _ (jA h _ _),tV h,dD]
    have:bS D (p.1++t)+p.2 - bS D (p.1++t)=p.2:=by omega
    rw [this]
    omega
structure Mrg (u v:List Nat) (D:Tb):Prop where
  nd:Nd D
  ps:Ps D
  fv:∀f,fv D f=Sw u v f
theorem ig:Nd ([]:Tb):=by simp [Nd]
theorem oZ:Ps []:=fun _ z=>nomatch z
theorem mv (f:List Nat→Int):fv ([]:Tb) f=0:=rfl
theorem rK (sec:List Nat) (j:Nat) (h:j < sec.length):sec.take (j+1)=sec.take j++[sec.getD j 0]:=by
  rw [List.take_add_one,List.getElem?_eq_getElem h,List.getD_eq_getElem?_getD,List.getElem?_eq_getElem h]
  rfl
theorem uz {nl:Nat} {sec u:List Nat} {f:Nat→Tb} (hf:∀j,j≤sec.length→Mrg u (sec.take j) (f j)):∀j,j≤sec.length→Mrg (u++[nl]) (sec.take j) (jC nl sec f j)
  | 0,h=>by
    have h0:=hf 0 h
    refine ⟨iG _ _ _ ig,iH _ _ _ h0.ps oZ,fun φ=>?_⟩
    show fv (dW [nl] (f 0) []) φ=_
    rw [fZ _ _ _ _ ig,h0.fv,mv]
    simp only [List.take_zero,dZ]
    omega
  | j+1,h=>by
    have h0:=hf j (by omega)
    have h1:=hf (j+1) h
    have h2:=uz hf (nl:=nl) j (by omega)
    have n1:=iG [nl] (f (j+1)) [] ig
    have n2:=iG [sec.getD j 0] (jC nl sec f j) _ n1
    have n3:=iG [nl] (f j) _ n2
    have p1:=iH [nl] (f (j+1)) [] h1.ps oZ
    have p2:=iH [sec.getD j 0] (jC nl sec f j) _ h2.ps p1
    have p3:=iH [nl] (f j) _ h0.ps p2
    have key:∀φ,Sw (u++[nl]) (sec.take (j+1)) φ=Sw u (sec.take (j+1)) (fun w=>φ (w++[nl]))+Sw (u++[nl]) (sec.take j) (fun w=>φ (w++[sec.getD j 0]))+if nl=sec.getD j 0 then Sw u (sec.take j) (fun w=>φ (w++[nl])) else 0:=fun φ=>by
      rw [rK sec j (by omega)]
      exact iW nl (sec.getD j 0) _ u (sec.take j) φ (Nat.le_refl _)
    unfold jC
    split
    · rename_i e
      refine ⟨n3,p3,fun φ=>?_⟩
      rw [fZ _ _ _ _ n2,fZ _ _ _ _ n1,fZ _ _ _ _ ig,key,if_pos e,mv,h0.fv,h1.fv,h2.fv]
      omega
    · rename_i e
      refine ⟨n2,p2,fun φ=>?_⟩
      rw [fZ _ _ _ _ n1,fZ _ _ _ _ ig,key,if_neg e,mv,h1.fv,h2.fv]
      omega
theorem qi {sec:List Nat}:∀{r u:List Nat} {f:Nat→Tb},(∀j,j≤sec.length→Mrg u (sec.take j) (f j))→∀j,j≤sec.length→Mrg (u++r) (sec.take j) (ms sec r f j)
  | [],u,f,h,j,hj=>by rw [List.append_nil];exact h j hj
  | nl::r,u,f,h,j,hj=>by
    have:=qi (r:=r) (u:=u++[nl]) (f:=jC nl sec f) (uz h) j hj
    rw [List.append_assoc] at this
    exact this
theorem mw (row sec:List Nat):Mrg row sec (ms sec row (kj sec) sec.length):=by
  have:=qi (sec:=sec) (r:=row) (u:=[]) (f:=kj sec) (fun j hj=>⟨by simp [Nd,kj],fun p hp=>by rw [List.mem_singleton.mp hp];exact Int.one_pos,fun φ=>by rw [fq];simp [NH.fv,kj]⟩) sec.length (Nat.le_refl _)
  rw [List.nil_append,List.take_length] at this
  exact this
def lq:List (List Nat)→Tb→Tb
  | [],D=>D
  | w::L,D=>lq L (fJ D w (bS D w+1))
theorem uA (f:List Nat→Int):∀(L:List (List Nat)) (D:Tb),Nd D→fv (lq L D) f=fv D f+nD f L
  | [],D,_=>by simp [lq,nD]
  | w::L,D,h=>by
    rw [lq,uA f L _ (jA h _ _),tV h]
    have:bS D w+1 - bS D w=1:=by omega
    rw [this]
    simp only [nD,List.map_cons,List.sum_cons]
    omega
theorem uB:∀(L:List (List Nat)) (D:Tb),Nd D→Nd (lq L D)
  | [],D,h=>h
  | w::L,D,h=>uB L _ (jA h _ _)
theorem uC:∀(L:List (List Nat)) (D:Tb),Ps D→Ps (lq L D)
  | [],D,h=>h
  | w::L,D,h=>uC L _ (h.put _ (by have:=h.get w;omega))
theorem qj:∀(L:List (List Nat)) (D:Tb),(lq L D).length≤D.length+L.length
  | [],D=>by simp [lq]
  | w::L,D=>by
    have h:=qj L (fJ D w (bS D w+1))
    have h2:=jB D w (bS D w+1)
    simp only [lq,List.length_cons]
    omega
theorem v0 (row sec:List Nat):Mrg row sec (lq (aL row sec) []):=⟨uB _ _ ig,uC _ _ oZ,fun f=>by rw [uA f _ _ ig,mv];simp only [Sw];omega⟩
theorem nN {u v:List Nat} {D G:Tb} (a:Mrg u v D) (b:Mrg u v G):bW D=bW G:=
  oV (rA a.nd b.nd (fun p hp=>Int.ne_of_gt (a.ps p hp)) (fun p hp=>Int.ne_of_gt (b.ps p hp)) fun k=>by rw [←tW a.nd,←tW b.nd,a.fv,b.fv])
theorem uD {u v:List Nat} {D:Tb} (a:Mrg u v D):Mrg v u D:=⟨a.nd,a.ps,fun f=>(a.fv f).trans (l_ _ u v f (Nat.le_refl _))⟩
theorem v4 {D G:Tb} (p:D.Perm G) (f:List Nat→Int):fv D f=fv G f:=by
  induction p with
  | nil=>rfl
  | cons x _ ih=>rw [dD,dD,ih]
  | swap x y l=>simp only [dD];omega
  | trans _ _ i1 i2=>exact i1.trans i2
theorem v5 (D:Tb) (f:List Nat→Int):fv (bW D) f=fv D f:=v4 (List.mergeSort_perm D nJ) f
theorem rL {u v:List Nat} {D:Tb} (a:Mrg u v D) (c:List (Nat×Int)):fv (bW D) (fun w=>aG w c)=aG u c*aG v c:=by rw [v5,a.fv];exact (rq c).mul u v
theorem fc:∀(n:Nat) (u v:List Nat),u.length+v.length≤n→(aL u v).length≤3 ^ (u.length+v.length)
  | n,[],[],_=>by simp [aL]
  | n+1,a::u,[],h=>by
    have ih:=fc n u [] (by simp at h ⊢;omega)
    rw [aL,List.length_map]
    refine Nat.le_trans ih (Nat.pow_le_pow_right (by omega) (by simp))
  | n+1,[],b::v,h=>by
    have ih:=fc n [] v (by simp at h ⊢;omega)
    rw [aL,List.length_map]
    refine Nat.le_trans ih (Nat.pow_le_pow_right (by omega) (by simp))
  | n+1,a::u,b::v,h=>by
    have i1:=fc n u (b::v) (by simp at h ⊢;omega)
    have i2:=fc n (a::u) v (by simp at h ⊢;omega)
    have i3:=fc n u v (by simp at h ⊢;omega)
    have e1:3 ^ ((a::u).length+(b::v).length)=3*3 ^ (u.length+v.length+1):=by
      rw [show (a::u).length+(b::v).length=(u.length+v.length+1)+1 by simp;omega,Nat.pow_succ,Nat.mul_comm]
    have e2:3 ^ (u.length+(b::v).length)=3 ^ (u.length+v.length+1):=by congr 1
    have e3:3 ^ ((a::u).length+v.length)=3 ^ (u.length+v.length+1):=by congr 1;simp;omega
    have e4:3 ^ (u.length+v.length)≤3 ^ (u.length+v.length+1):=Nat.pow_le_pow_right (by omega) (by omega)
    rw [aL,List.length_append,List.length_append,List.length_map,List.length_map]
    have e5:(if a=b then (aL u v).map (a:: ·) else []).length≤(aL u v).length:=by split <;> simp
    omega
  | 0,_::_,_,h=>by simp at h
  | 0,[],_::_,h=>by simp at h
theorem uE:∀(D:Tb),Ps D→∀p∈D,p.2≤fv D fun _=>1
  | q::D,h,p,hp=>by
    rw [dD]
    have hq:=h q (List.mem_cons_self ..)
    have nn:∀D:Tb,Ps D→0≤fv D fun _=>1:=fun D=>by
      induction D with
      | nil=>intro _;exact Int.le_refl _
      | cons r D ih=>
        intro h
        rw [dD]
        have:=h r (List.mem_cons_self ..)
        have:=ih fun p hp=>h p (List.mem_cons_of_mem _ hp)
        omega
    have hD:Ps D:=fun p hp=>h p (List.mem_cons_of_mem _ hp)
    rcases List.mem_cons.mp hp with e | hp
    · subst e
      have:=nn D hD
      omega
    · have:=uE D hD p hp
      omega
theorem rM {u v:List Nat} {D:Tb} (a:Mrg u v D) (h:u.length+v.length≤10):∀p∈D,0 < p.2∧p.2≤59049:=fun p hp=>⟨a.ps p hp,by
  have h1:=uE D a.ps p hp
  have h2:Sw u v (fun _=>1)=(aL u v).length:=by
    unfold Sw nD
    induction aL u v with
    | nil=>rfl
    | cons w L ih=>simp only [List.map_cons,List.sum_cons,ih,List.length_cons];omega
  rw [a.fv,h2] at h1
  have h3:=fc _ u v (Nat.le_refl _)
  have h4:3 ^ (u.length+v.length)≤3 ^ 10:=Nat.pow_le_pow_right (by omega) h
  have h5:(3:Nat) ^ 10=59049:=by decide
  omega⟩
end PL
namespace Nhk17
open PySem L2 Nh PL
def iI:cR:=(aB (bx (cF (ae (dE (dL .lt)) false (ab 1) (bH dr (ag false (ab 0) au))))
  (bw (ae dY false (ab 0) (ab 1)))
  bh)
  (bw (pC (.int 0))))
def bn:List PyData→Option Sl:=hJ 2 2 iI
def gL:cR:=(aB (aA 2 (ae cf false (ae aX false (ae aX false (ae b6 false (ae cf false (ab 0) (ae g9 false (pC (.int 10)) (pC (.int 40)))) (ae aX false (pC (.int 62089911)) (ae b6 false (pC (.int 2)) (ab 1)))) (ae b6 false (pC (.int 982451653)) (ab 1))) (pC (.int 17))) (pC (.int 4294967291))))
  (bw (ae cf false (ae b6 false (ab 2) (ae aX false (ae aX false (ae bO false (ab 2) (pC (.int 1024))) (ae b6 false (pC (.int 2)) (ab 1))) (pC (.int 1)))) (pC (.int 4294967279)))))
def cq:List PyData→Option Sl:=hJ 2 3 gL
def cc:hE:=(iz 2 (dQ (aH 0) (dQ (aH 1) iy)))
def bA:bD:=(g_ (bb (ab 0) (bb (ae cS false (pC (.int 0)) (ab 1)) ck)))
def c9:cR:=(bw (gV [none,none] (tp (ab 0)) cc e8 bA))
def ba:List PyData→Option Sl:=hJ 1 1 c9
def aU:hE:=(aH 5)
def aV:cR:=(aB (aA 6 (ab 1))
  (aB (bx (gl (cF (ae (dE (dL .lt)) false (bH kF (ag false (ab 0) au)) (ae g9 false (pC (.int 10)) (pC (.int 18))))) (cF (gk (dL .lt) (dL .lt) false false (oB oC (pC (.int 28))) (ab 1) (pC (.int 28)))))
  (aA 6 (aw cq (ag false (ab 0) (ag false (ab 5) au))))
  bh)
  (aB (dX (cZ 4 (g_ (bb (ae dY false (pC (.str "abcz")) (ae cf false (ab 6) (pC (.int 4)))) (bb (ae cS false (ae cf false (ae bO false (ab 6) (pC (.int 4))) (pC (.int 7))) (pC (.int 3))) ck)))))
  (aA 1 (ae bO false (ab 1) (pC (.int 28)))))))
def c_:cR:=(aB (aA 1 (ae bO false (ab 0) (pC (.int 5))))
  (aB (bx (cF (ae gP false (ae cf false (ab 0) (pC (.int 5))) (pC (.int 2))))
  (aB (aA 2 (ae dY false (pC (.str "abcdefghijklmnopqrstuvwxyz")) (ae cf false (ab 1) (pC (.int 26)))))
  (bw (eC (bb (g_ (bb (ab 2) (bb (ae cS false (ae cf false (ae bO false (ab 1) (pC (.int 26))) (ae cS false (ae b6 false (pC (.int 2)) (ae g9 false (pC (.int 10)) (pC (.int 30)))) (pC (.int 1)))) (ae cS false (ae g9 false (pC (.int 10)) (pC (.int 30))) (pC (.int 1)))) ck))) ck))))
  bh)
  (aB (aA 3 (ae cf false (ab 1) (pC (.int 13))))
  (aB (aA 1 (ae bO false (ab 1) (pC (.int 13))))
  (aB (aA 4 (eC ck))
  (aB (eQ (dR (ag false (ab 3) au)) aU
  aV)
  (bw (ab 4))))))))
def bi:List PyData→Option Sl:=hJ 1 7 c_
def aQ:hE:=(aH 5)
def aR:cR:=(aB (aA 6 (ae cf false (ae bO false (ab 5) (pC (.int 5))) (ae aX false (bH dr (ag false (ab 4) au)) (pC (.int 1)))))
  (aB (bx (cF (ae gP false (ae cf false (ab 5) (pC (.int 5))) (pC (.int 3))))
  (aA 4 (ae aX false (ab 4) (aw ba (ag false (gR false (ab 4) (dG (ab 6)) eY) au))))
  (bx (cF (ae gP false (ae cf false (ab 5) (pC (.int 5))) (pC (.int 4))))
  (aB (aA 7 (aw bi (ag false (ae bO false (ab 5) (pC (.int 5))) au)))
  (aB (aA 7 (ae aX false (ab 7) (aw ba (ag false (ab 7) au))))
  (aA 4 (ae aX false (ae aX false (gR false (ab 4) eY (dG (ab 6))) (ab 7)) (gR false (ab 4) (dG (ab 6)) eY)))))
  (aA 4 (ae aX false (ab 4) (aw bi (ag false (ab 5) au))))))
  (aA 4 (gR false (ab 4) eY (dG (ab 3))))))
def f6:cR:=(aB (aA 4 (eC ck))
  (aB (eQ (fU (ae aX false (eC (bb (aw bn (ag false (ab 0) (ag false (ab 1) au))) ck)) (gR false (ab 0) (dG (ae aX false (ab 1) (pC (.int 1)))) (dG (ab 2))))) aQ
  aR)
  (bw (ab 4))))
def cr:List PyData→Option Sl:=hJ 4 8 f6
def bZ:hE:=(iz 2 (dQ (aH 2) (dQ (aH 3) iy)))
def b5:cR:=(bx (cF (ae (dE (dL .lt)) false (ab 3) (pC (.int 0))))
  (dX (cZ 1 (g_ (bb (ab 2) (bb (ae cS false (pC (.int 0)) (ae cf false (ae cS false (pC (.int 0)) (ab 3)) (pC (.int 1000)))) ck)))))
  (dX (cZ 1 (g_ (bb (ab 2) (bb (ae cf false (ab 3) (pC (.int 1000))) ck))))))
def eL:cR:=(aB (bx (cF (ae (dE (dL .lt)) false (bH dr (ag false (ab 0) au)) (pC (.int 8))))
  (bw (ab 0))
  bh)
  (aB (aA 1 (eC ck))
  (aB (eQ (fU (ab 0)) bZ
  b5)
  (bw (ab 1)))))
def bP:List PyData→Option Sl:=hJ 1 4 eL
def bX:hE:=(aH 4)
def bY:cR:=(aB (aA 2 (ae b6 false (ab 2) (ae cS false (ab 0) (ab 4))))
  (aA 3 (ae b6 false (ab 3) (ae aX false (ab 4) (pC (.int 1))))))
def d0:cR:=(aB (aA 2 (pC (.int 1)))
  (aB (aA 3 (pC (.int 1)))
  (aB (eQ (dR (ag false (ab 1) au)) bX
  bY)
  (bw (ae bO false (ab 2) (ab 3))))))
def bj:List PyData→Option Sl:=hJ 2 5 d0
def bo:g8:=(eB (cF (ae (dE (dL .le)) false (ab 7) (ab 6))) (cF (ae gP false (ae dY false (ab 0) (ae cS false (ab 6) (ab 7))) (ab 3))))
def bI:cR:=(aB (aA 8 (aw bj (ag false (ab 4) (ag false (ab 7) au))))
  (aB (lU 5 (ab 6) (ae aX false (ae dY false (ab 5) (ab 6)) (ae b6 false (ae dY false (ab 2) (ae cS false (ab 6) (ab 7))) (ab 8))))
  (aA 7 (ae aX false (ab 7) (pC (.int 1))))))
def cu:hE:=(aH 6)
def bJ:cR:=(aB (aA 7 (pC (.int 1)))
  (iR bo bI))
def bK:hE:=(iz 2 (dQ (aH 3) (dQ (aH 4) iy)))
def cw:cR:=(aB (aA 5 (j5 (ab 2)))
  (aB (eQ (lV (ag false (pC (.int 1)) (ag false (ae aX false (bH dr (ag false (ab 0) au)) (pC (.int 1))) au))) cu
  bJ)
  (aA 2 (ab 5))))
def dO:cR:=(aB (aA 2 (ae aX false (eC (bb (pC (.int 1)) ck)) (ae b6 false (eC (bb (pC (.int 0)) ck)) (bH dr (ag false (ab 0) au)))))
  (aB (eQ (fU (ab 1)) bK
  cw)
  (bw (ae dY false (ab 2) (bH dr (ag false (ab 0) au))))))
def aZ:List PyData→Option Sl:=hJ 2 9 dO
def cD:hE:=(aH 4)
def cE:cR:=(aB (aA 5 (ae vH false (ae bO false (ab 2) (ae aX false (ab 1) (pC (.int 1)))) (ae b6 false (pC (.int 2)) (ab 4))))
  (aB (bx (cF (ae (dE (dL .lt)) false (bH kF (ag false (ab 0) au)) (ae g9 false (pC (.int 10)) (pC (.int 18)))))
  (aA 5 (aw cq (ag false (ab 0) (ag false (ae aX false (pC (.int 70)) (ab 4)) au))))
  bh)
  (aA 3 (ae aX false (ab 3) (ae dY false (pC (.str "abcz")) (ae cf false (ab 5) (pC (.int 4))))))))
def gM:cR:=(aB (aA 2 (ae bO false (ab 0) (pC (.int 2))))
  (aB (aA 3 (pC (.str "")))
  (aB (eQ (dR (ag false (ae cf false (ab 2) (ae aX false (ab 1) (pC (.int 1)))) au)) cD
  cE)
  (bw (ab 3)))))
def bU:List PyData→Option Sl:=hJ 2 6 gM
def aE:hE:=(aH 0)
def av (self:List PyData→Option Sl):bD:=(ae aX false (ae dY false (ab 1) (pC (.int 0))) (ab 0))
def de:hE:=(aH 0)
def df (self:List PyData→Option Sl):bD:=(ae aX false (ae dY false (ab 1) (pC (.int 0))) (ab 0))
def dg:hE:=(aH 0)
def dh (self:List PyData→Option Sl):bD:=(ae aX false (ae dY false (ab 1) (pC (.int 0))) (ab 0))
def bL (self:List PyData→Option Sl):cR:=(aB (bx (eB (cF (ae gP false (ab 0) (pC (.str "")))) (cF (ae gP false (ab 1) (pC (.str "")))))
  (bw (eC (bb (pC (.str "")) ck)))
  bh)
  (aB (aA 2 (eC ck))
  (aB (bx (cF (ae kU false (ab 0) (pC (.str ""))))
  (dX (e_ 2 (gV [none,some 0] (fU (aw self (ag false (gR false (ab 0) (dG (pC (.int 1))) eY) (ag false (ab 1) au)))) aE e8 (av self))))
  bh)
  (aB (bx (cF (ae kU false (ab 1) (pC (.str ""))))
  (dX (e_ 2 (gV [none,some 1] (fU (aw self (ag false (ab 0) (ag false (gR false (ab 1) (dG (pC (.int 1))) eY) au)))) de e8 (df self))))
  bh)
  (aB (bx (eB (cF (ae kU false (ab 0) (pC (.str "")))) (eB (cF (ae kU false (ab 1) (pC (.str "")))) (cF (ae gP false (ae dY false (ab 0) (pC (.int 0))) (ae dY false (ab 1) (pC (.int 0)))))))
  (dX (e_ 2 (gV [none,some 0] (fU (aw self (ag false (gR false (ab 0) (dG (pC (.int 1))) eY) (ag false (gR false (ab 1) (dG (pC (.int 1))) eY) au)))) dg e8 (dh self))))
  bh)
  (bw (ab 2)))))))
def am:Nat→List PyData→Option Sl
  | 0=>fun _=>none
  | k+1=>hJ 2 3 (bL (am k))
def cO:List PyData→Option Sl:=am 12
def di:hE:=(aH 3)
def dl:cR:=(ur 2 (ab 3) (ae aX false (qf 2 (ab 3) (pC (.int 0))) (pC (.int 1))))
def fM:cR:=(aB (aA 2 uo)
  (aB (eQ (fU (aw cO (ag false (ab 0) (ag false (ab 1) au)))) di
  dl)
  (bw (gK 2))))
def cy:List PyData→Option Sl:=hJ 2 4 fM
def cA:hE:=(aH 2)
def cB:cR:=(aB (bx (gl (gS (jU (oB (m_ .tuple) (ae dY false (ab 0) (ab 2))))) (gl (cF (ae kU false (bH dr (ag false (ae dY false (ab 0) (ab 2)) au)) (pC (.int 2)))) (gS (jU (oB (m_ .str) (ae dY false (ae dY false (ab 0) (ab 2)) (pC (.int 0))))))))
  (bw (pC (.bool false)))
  bh)
  (bx (gl (gS (jU (oB (m_ .int) (ae dY false (ae dY false (ab 0) (ab 2)) (pC (.int 1)))))) (gl (jU (oB (m_ .bool) (ae dY false (ae dY false (ab 0) (ab 2)) (pC (.int 1))))) (cF (ae kU false (ae dY false (ab 0) (ab 2)) (ae dY false (ab 1) (ab 2))))))
  (bw (pC (.bool false)))
  bh))
def fg:cR:=(aB (bx (gl (gS (jU (oB (m_ .list) (ab 0)))) (cF (ae kU false (bH dr (ag false (ab 0) au)) (bH dr (ag false (ab 1) au)))))
  (bw (pC (.bool false)))
  bh)
  (aB (eQ (dR (ag false (bH dr (ag false (ab 1) au)) au)) cA
  cB)
  (bw (pC (.bool true)))))
def bB:List PyData→Option Sl:=hJ 2 3 fg
def gy:hE:=(iz 2 (dQ (aH 8) (dQ (aH 9) iy)))
def gz:cR:=(aA 7 (ae aX false (ab 7) (ae b6 false (ab 9) (aw aZ (ag false (ab 8) (ag false (ab 6) au))))))
def fN:hE:=(aH 5)
def fO:cR:=(aB (aA 6 (aw bP (ag false (aw cr (ag false (ab 0) (ag false (ae b6 false (pC (.int 30)) (ab 5)) (ag false (ae aX false (ae b6 false (pC (.int 30)) (ab 5)) (pC (.int 30))) (ag false (ae cS false (pC (.int 34)) (ae b6 false (pC (.int 6)) (ab 1))) au))))) au)))
  (aB (aA 7 (pC (.int 0)))
  (aB (eQ (fU (ab 4)) gy
  gz)
  (bx (cF (ae kU false (ab 7) (ae b6 false (aw aZ (ag false (ab 2) (ag false (ab 6) au))) (aw aZ (ag false (ab 3) (ag false (ab 6) au))))))
  (bw (pC (.bool false)))
  bh))))
def nO:cR:=(aB (aA 1 (ae aX false (pC (.int 4)) (bH re (ag false (ae gP false (ae cf false (aw bn (ag false (ab 0) (ag false (pC (.int 2)) au))) (pC (.int 4))) (pC (.int 1))) au))))
  (aB (aA 2 (aw bU (ag false (aw bn (ag false (ab 0) (ag false (pC (.int 0)) au))) (ag false (ab 1) au))))
  (aB (aA 3 (aw bU (ag false (aw bn (ag false (ab 0) (ag false (pC (.int 1)) au))) (ag false (ab 1) au))))
  (aB (aA 4 (aw aI (ag false (ab 2) (ag false (ab 3) au))))
  (aB (bx (gl (gS (jU (aw bB (ag false (ab 4) (ag false (aw cy (ag false (ab 2) (ag false (ab 3) au))) au))))) (cF (ae kU false (aw aI (ag false (ab 3) (ag false (ab 2) au))) (ab 4))))
  (bw (pC (.bool false)))
  bh)
  (aB (eQ (dR (ag false (pC (.int 2)) au)) fN
  fO)
  (bw (pC (.bool true)))))))))
def ii:List PyData→Option Sl:=hJ 1 10 nO
end Nhk17
namespace Nhk17
open PySem L2 Nh PL
def mq (i:Nat):Stmt:=PySem.Challenge.pw_nailhang_k17_merged_rows.main.body.getD i (.Pass ⟨0,0,0,0⟩)
section
variable {P:Program} {w:World} {K:PySem.W.Frag} {mg:Str→Option Value} {base:Heap}
abbrev ij:Stmt:=mq 1
theorem sc_add_ways:FnScope ["ways","rows","nail","row","number"] ["ways","rows","nail"] (ao ij):=⟨rfl,rfl,rfl,by decide+kernel,rfl,by decide+kernel,by decide+kernel⟩
theorem nP (D:Def K mg "add_ways" ij ["ways","rows","nail"]) (B:Bn mg):Own P w K mg base 1 "add_ways" ["ways","rows","nail"] zM:=by
  have nd:=sc_add_ways.nd
  refine D.own sc_add_ways (fun vs H Q E h=>by obtain ⟨d,e,T,R,t,rfl,_⟩:=h;rfl) (fun f cdv A outer s H vs Q E hr h=>?_)
  have hu:=Nat.lt_of_le_of_lt (Nat.add_le_add_left (show 1≤64 by decide) _) hr.units
  refine ⟨_,eS (vV (lB PassesOwn.never rfl (t9 (x_ (pv 1))) (n_ rfl (gh (eV (i:=3) nd rfl (Or.inl rfl)) (gh (eV (i:=4) nd rfl (Or.inl rfl)) lz)))
    (eS (pP hu (pv 0) (kL jv (pv 3) (pv 2)) (kL jv (m8 hu (pv 0) (kL jv (pv 3) (pv 2)) g4 (by exact ⟨rfl,rfl,rfl,rfl⟩)) (pv 4)) rfl)))),?_⟩
  exact vW h fun _ _ z=>z
abbrev fz:Stmt:=mq 2
theorem sc_next_merged:FnScope ["merged","nail","second","told","place","other","ways"] ["merged","nail","second"] (ao fz):=⟨rfl,rfl,rfl,by decide+kernel,rfl,by decide+kernel,by decide+kernel⟩
theorem ko (D:Def K mg "next_merged" fz ["merged","nail","second"]) (B:Bn mg) (D_add_ways:Own P w K mg base 1 "add_ways" ["ways","rows","nail"] zM):Own P w K mg base 2 "next_merged" ["merged","nail","second"] zN:=by
  have nd:=sc_next_merged.nd
  refine D.own sc_next_merged (fun vs H Q E h=>by obtain ⟨M,nl,sec,as,f,i,rfl,_⟩:=h;rfl) (fun f cdv A outer s H vs Q E hr h=>?_)
  have ap {X:Cx}:MtR X "list.append" ju:=iK
  refine ⟨_,cH (lA (i:=3) nd rfl (Or.inl rfl) (sw (aF jZ bE))) (cH (gC (iL D_add_ways (hr.mono (by decide)) (by rfl) (aF (jM ix_list (pv 3) g4 (fun _ _=>rfl)) (aF (jM ix_list (pv 0) g4 (fun _ _=>rfl)) (aF (pv 1) bE)))))
    (cH (lB PassesOwn.never rfl (uf (by rfl) B.enumerate (aF (pv 2) bE)) (n_ rfl (gh (eV (i:=4) nd rfl (Or.inl rfl)) (gh (eV (i:=5) nd rfl (Or.inl rfl)) lz)))
      (cH (lA (i:=6) nd rfl (Or.inl rfl) jZ) (cH (gC (iL D_add_ways (hr.mono (by decide)) (by rfl) (aF (pv 6) (aF (jM ix_list (pv 0) (kL oj (pv 4) g4) (fun _ _=>rfl)) (aF (pv 1) bE))))) (cH (gC (iL D_add_ways (hr.mono (by decide)) (by rfl) (aF (pv 6) (aF (jM ix_list (pv 3) (pv 4) (fun _ _=>rfl)) (aF (pv 5) bE))))) (cH (wg (pA si (pv 1) (pv 5) (jI _)) (eS (gC (iL D_add_ways (hr.mono (by decide)) (by rfl) (aF (pv 6) (aF (jM ix_list (pv 0) (pv 4) (fun _ _=>rfl)) (aF (pv 1) bE)))))) ph)
      (eS (gC (sC PySem.F.plainAttrs_list PySem.F.slot_list_append PySem.F.type_list_append ap (pv 3) (aF (pv 6) bE)))))))))
    (eS (n8 (pv 3))))),?_⟩
  exact uk h fun _ _ z=>z
abbrev fA:Stmt:=mq 3
theorem sc_merged_rows:FnScope ["row","second","merged","nail"] ["row","second"] (ao fA):=⟨rfl,rfl,rfl,by decide+kernel,rfl,by decide+kernel,by decide+kernel⟩
theorem kq (D:Def K mg "merged_rows" fA ["row","second"]) (B:Bn mg) (D_next_merged:Own P w K mg base 2 "next_merged" ["merged","nail","second"] zN):Own P w K mg base 3 "merged_rows" ["row","second"] (fQ K aI):=by
  have nd:=sc_merged_rows.nd
  refine D.own sc_merged_rows (fun vs H Q E h=>(qe (D:={nx:=fun _ _=>False,rt:=Q}) (N:=["","","",""]) h fun _ _ z=>z).1) (fun f cdv A outer s H vs Q E hr h=>?_)
  have len (X:Cx) (hg:Gl X "len") (hm:X.mg "len"=none):True:=trivial
  refine ⟨_,cH (vn (N:=["length","second"]) (js:=[none,some 1]) iC rfl (eV (i:=2) nd rfl (Or.inl rfl)) (kK (by rfl) B.range (aF (kL oj (fB fS (by rfl) B.len PySem.boot_len (aF (pv 1) bE)) g4) bE))
      (fun _ _ _ _=>eV (i:=0) (show (["length","second"]:List Str).Nodup by decide+kernel) rfl (Or.inl rfl)) (fun _ _ _ _=>pH) (fun _ _ _ _=>vC (sV (mR tM (pv 1) pD (pE (pv 0))) g4 vB) rfl rfl (by simp) (by decide)))
    (cH (lB PassesOwn.never rfl (tF (pv 0)) (eV (i:=3) nd rfl (Or.inl rfl)) (eS (lA (i:=2) nd rfl (Or.inl rfl) (iL D_next_merged (hr.mono (by decide)) (by rfl) (aF (pv 2) (aF (pv 3) (aF (pv 1) bE)))))))
    (eS (n8 (fB (iF rfl) (by rfl) B.sorted PyProof.Rows.boot_sorted (aF (nM (jM ix_list (pv 2) (fB fS (by rfl) B.len PySem.boot_len (aF (pv 1) bE)) (fun _ _=>rfl))) bE))))),?_⟩
  exact (qe h fun _ _ z=>z).2
abbrev kr:Stmt:=mq 5
theorem rN:FnScope ["_law_script","_law_k"] ["_law_script","_law_k"] (ao kr):=⟨rfl,rfl,rfl,by decide+kernel,rfl,by decide+kernel,by decide+kernel⟩
theorem rO (D:Def K mg "_law_at" kr ["_law_script","_law_k"]) (B:Bn mg):Own P w K mg base 1 "_law_at" ["_law_script","_law_k"] (fQ K bn):=by
  delta bn
  refine jl (g:=iI) D rN rfl rfl (by decide) fun f cdv A outer s H E hr=>?_
  delta iI
  exact (aj (dH (k4 .lt (aa 1) (fj (by rfl) (by exact B.len) (ai (aa 0) az)))
  (aq (bq (cm (aa 0) (aa 1))))
  cb)
  (aq (bq ah)))
abbrev i4:Stmt:=mq 6
theorem sc_law_mix:FnScope ["_law_cell","_law_k","_law_one"] ["_law_cell","_law_k"] (ao i4):=⟨rfl,rfl,rfl,by decide+kernel,rfl,by decide+kernel,by decide+kernel⟩
theorem o5 (D:Def K mg "_law_mix" i4 ["_law_cell","_law_k"]) (B:Bn mg):Own P w K mg base 1 "_law_mix" ["_law_cell","_law_k"] (fQ K cq):=by
  delta cq
  refine jl (g:=gL) D sc_law_mix rfl rfl (by decide) fun f cdv A outer s H E hr=>?_
  delta gL
  exact (aj (aC 2 sc_law_mix.nd (cg (aT (aT (cG (cg (aa 0) (jS ah ah)) (aT ah (cG ah (aa 1)))) (cG ah (aa 1))) ah) ah))
  (aq (bq (cg (cG (aa 2) (aT (aT (cX (aa 2) ah) (cG ah (aa 1))) ah)) ah))))
abbrev eM:Stmt:=mq 7
theorem jn:FnScope ["_law_cord_here"] ["_law_cord_here"] (ao eM):=⟨rfl,rfl,rfl,by decide+kernel,rfl,by decide+kernel,by decide+kernel⟩
theorem jr (D:Def K mg "_law_contrary" eM ["_law_cord_here"]) (B:Bn mg):Own P w K mg base 1 "_law_contrary" ["_law_cord_here"] (fQ K ba):=by
  delta ba
  refine jl (g:=c9) D jn rfl rfl (by decide) fun f cdv A outer s H E hr=>?_
  delta c9
  exact (aq (bq (iA (N:=["_law_nail","_law_turns"]) (js:=[none,none]) oz (by rfl) (xJ (by rfl) (by exact B.reversed) (aa 0)) (fun _ _ _ _=>(by delta cc;exact (lT (by rfl) (dI (be 0 (show (["_law_nail","_law_turns"]:List Str).Nodup by decide+kernel)) (dI (be 1 (show (["_law_nail","_law_turns"]:List Str).Nodup by decide+kernel)) jw))))) (fun _ _ _ _=>(by delta bA;exact (jY (bQ (aa 0) (bQ (ef ah (aa 1)) cY))))))))
abbrev f7:Stmt:=mq 8
theorem sc_law_pieces:FnScope ["_law_cell","_law_rest","_law_nail","_law_many","_law_found","_law_k","_law_value"] ["_law_cell"] (ao f7):=⟨rfl,rfl,rfl,by decide+kernel,rfl,by decide+kernel,by decide+kernel⟩
theorem kH (D:Def K mg "_law_pieces" f7 ["_law_cell"]) (B:Bn mg) (D_law_mix:Own P w K mg base 1 "_law_mix" ["_law_cell","_law_k"] (fQ K cq)):Own P w K mg base 2 "_law_pieces" ["_law_cell"] (fQ K bi):=by
  delta bi
  refine jl (g:=c_) D sc_law_pieces rfl rfl (by decide) fun f cdv A outer s H E hr=>?_
  delta c_
  exact (aj (aC 1 sc_law_pieces.nd (cX (aa 0) ah))
  (aj (dH (jT hr.units (cg (aa 0) ah) ah)
  (aj (aC 2 sc_law_pieces.nd (cm ee (cg (aa 1) ah)))
  (aq (bq (fT (bQ (jY (bQ (aa 2) (bQ (ef (cg (cX (aa 1) ah) (ef (cG ah (jS ah ah)) ah)) (ef (jS ah ah) ah)) cY))) cY)))))
  cb)
  (aj (aC 3 sc_law_pieces.nd (cg (aa 1) ah))
  (aj (aC 1 sc_law_pieces.nd (cX (aa 1) ah))
  (aj (aC 4 sc_law_pieces.nd (fT cY))
  (aj (eF PassesOwn.never (by rfl) (fF (by rfl) (by exact B.range) (ai (aa 3) az)) (by delta aU;exact (be 5 sc_law_pieces.nd))
  (by delta aV;exact (aj (aC 6 sc_law_pieces.nd (aa 1))
  (aj (dH (m5 (jW (k4 .lt (s_ (by rfl) (by exact B.abs) (ai (aa 0) az)) (jS ah ah)) (jV (ze .lt .lt (xA ah) (aa 1) ah))))
  (aq (aC 6 sc_law_pieces.nd (a_ D_law_mix (hr.mono (by decide)) (by rfl) (ai (aa 0) (ai (aa 5) az)))))
  cb)
  (aj (gI (iP 4 (jY (bQ (cm ee (cg (aa 6) ah)) (bQ (ef (cg (cX (aa 6) ah) ah) ah) cY)))))
  (aq (aC 1 sc_law_pieces.nd (cX (aa 1) ah))))))))
  (aq (bq (aa 4)))))))))
abbrev io:Stmt:=mq 9
theorem sc_law_cord:FnScope ["_law_script","_law_first","_law_last","_law_most","_law_cord_here","_law_cell","_law_at_here","_law_pieces_here"] ["_law_script","_law_first","_law_last","_law_most"] (ao io):=⟨rfl,rfl,rfl,by decide+kernel,rfl,by decide+kernel,by decide+kernel⟩
theorem nQ (D:Def K mg "_law_cord" io ["_law_script","_law_first","_law_last","_law_most"]) (B:Bn mg) (D_law_at:Own P w K mg base 1 "_law_at" ["_law_script","_law_k"] (fQ K bn)) (D_law_contrary:Own P w K mg base 1 "_law_contrary" ["_law_cord_here"] (fQ K ba)) (D_law_pieces:Own P w K mg base 2 "_law_pieces" ["_law_cell"] (fQ K bi)):Own P w K mg base 3 "_law_cord" ["_law_script","_law_first","_law_last","_law_most"] (fQ K cr):=by
  delta cr
  refine jl (g:=f6) D sc_law_cord rfl rfl (by decide) fun f cdv A outer s H E hr=>?_
  delta f6
  exact (aj (aC 4 sc_law_cord.nd (fT cY))
  (aj (eF PassesOwn.never (by rfl) (gr (aT (fT (bQ (a_ D_law_at (hr.mono (by decide)) (by rfl) (ai (aa 0) (ai (aa 1) az))) cY)) (fW (aa 0) (dw (aT (aa 1) ah)) (dw (aa 2))))) (by delta aQ;exact (be 5 sc_law_cord.nd))
  (by delta aR;exact (aj (aC 6 sc_law_cord.nd (cg (cX (aa 5) ah) (aT (fj (by rfl) (by exact B.len) (ai (aa 4) az)) ah)))
  (aj (dH (jT hr.units (cg (aa 5) ah) ah)
  (aq (aC 4 sc_law_cord.nd (aT (aa 4) (a_ D_law_contrary (hr.mono (by decide)) (by rfl) (ai (fW (aa 4) (dw (aa 6)) eZ) az)))))
  (aq (dH (jT hr.units (cg (aa 5) ah) ah)
  (aj (aC 7 sc_law_cord.nd (a_ D_law_pieces (hr.mono (by decide)) (by rfl) (ai (cX (aa 5) ah) az)))
  (aj (aC 7 sc_law_cord.nd (aT (aa 7) (a_ D_law_contrary (hr.mono (by decide)) (by rfl) (ai (aa 7) az))))
  (aq (aC 4 sc_law_cord.nd (aT (aT (fW (aa 4) eZ (dw (aa 6))) (aa 7)) (fW (aa 4) (dw (aa 6)) eZ))))))
  (aq (aC 4 sc_law_cord.nd (aT (aa 4) (a_ D_law_pieces (hr.mono (by decide)) (by rfl) (ai (aa 5) az))))))))
  (aq (aC 4 sc_law_cord.nd (fW (aa 4) eZ (dw (aa 3)))))))))
  (aq (bq (aa 4)))))
abbrev ip:Stmt:=mq 10
theorem sc_law_tame:FnScope ["_law_cord_here","_law_found","_law_nail","_law_turns"] ["_law_cord_here"] (ao ip):=⟨rfl,rfl,rfl,by decide+kernel,rfl,by decide+kernel,by decide+kernel⟩
theorem nR (D:Def K mg "_law_tame" ip ["_law_cord_here"]) (B:Bn mg):Own P w K mg base 1 "_law_tame" ["_law_cord_here"] (fQ K bP):=by
  delta bP
  refine jl (g:=eL) D sc_law_tame rfl rfl (by decide) fun f cdv A outer s H E hr=>?_
  delta eL
  exact (aj (dH (k4 .lt (fj (by rfl) (by exact B.len) (ai (aa 0) az)) ah)
  (aq (bq (aa 0)))
  cb)
  (aj (aC 1 sc_law_tame.nd (fT cY))
  (aj (eF PassesOwn.never (by rfl) (gr (aa 0)) (by delta bZ;exact (lT (by rfl) (dI (be 2 sc_law_tame.nd) (dI (be 3 sc_law_tame.nd) jw))))
  (by delta b5;exact (aq (dH (k4 .lt (aa 3) ah)
  (aq (gI (iP 1 (jY (bQ (aa 2) (bQ (ef ah (cg (ef ah (aa 3)) ah)) cY))))))
  (aq (gI (iP 1 (jY (bQ (aa 2) (bQ (cg (aa 3) ah) cY))))))))))
  (aq (bq (aa 1))))))
abbrev f8:Stmt:=mq 11
theorem sc_law_chosen:FnScope ["_law_turns","_law_many","_law_above","_law_below","_law_k"] ["_law_turns","_law_many"] (ao f8):=⟨rfl,rfl,rfl,by decide+kernel,rfl,by decide+kernel,by decide+kernel⟩
theorem kI (D:Def K mg "_law_chosen" f8 ["_law_turns","_law_many"]) (B:Bn mg):Own P w K mg base 1 "_law_chosen" ["_law_turns","_law_many"] (fQ K bj):=by
  delta bj
  refine jl (g:=d0) D sc_law_chosen rfl rfl (by decide) fun f cdv A outer s H E hr=>?_
  delta d0
  exact (aj (aC 2 sc_law_chosen.nd ah)
  (aj (aC 3 sc_law_chosen.nd ah)
  (aj (eF PassesOwn.never (by rfl) (fF (by rfl) (by exact B.range) (ai (aa 1) az)) (by delta bX;exact (be 4 sc_law_chosen.nd))
  (by delta bY;exact (aj (aC 2 sc_law_chosen.nd (cG (aa 2) (ef (aa 0) (aa 4))))
  (aq (aC 3 sc_law_chosen.nd (cG (aa 3) (aT (aa 4) ah)))))))
  (aq (bq (cX (aa 2) (aa 3)))))))
abbrev gA:Stmt:=mq 12
theorem sc_law_times:FnScope ["_law_row_here","_law_cord_here","_law_sums","_law_nail","_law_turns","_law_later","_law_end","_law_many","_law_more"] ["_law_row_here","_law_cord_here"] (ao gA):=⟨rfl,rfl,rfl,by decide+kernel,rfl,by decide+kernel,by decide+kernel⟩
theorem mz (D:Def K mg "_law_times" gA ["_law_row_here","_law_cord_here"]) (B:Bn mg) (D_law_chosen:Own P w K mg base 1 "_law_chosen" ["_law_turns","_law_many"] (fQ K bj)):Own P w K mg base 2 "_law_times" ["_law_row_here","_law_cord_here"] (fQ K aZ):=by
  delta aZ
  refine jl (g:=dO) D sc_law_times rfl rfl (by decide) fun f cdv A outer s H E hr=>?_
  delta dO
  exact (aj (aC 2 sc_law_times.nd (aT (fT (bQ ah cY)) (cG (fT (bQ ah cY)) (fj (by rfl) (by exact B.len) (ai (aa 0) az)))))
  (aj (eF PassesOwn.never (by rfl) (gr (aa 1)) (by delta bK;exact (lT (by rfl) (dI (be 3 sc_law_times.nd) (dI (be 4 sc_law_times.nd) jw))))
  (by delta cw;exact (aj (aC 5 sc_law_times.nd (vE (by rfl) (by exact B.list) (aa 2)))
  (aj (eF PassesOwn.never (by rfl) (qX (by rfl) (by exact B.range) (ai ah (ai (aT (fj (by rfl) (by exact B.len) (ai (aa 0) az)) ah) az))) (by delta cu;exact (be 6 sc_law_times.nd))
  (by delta bJ;exact (aj (aC 7 sc_law_times.nd ah)
  (aq (tJ PassesOwn.never (by delta bo;exact (m5 (lR (k4 .le (aa 7) (aa 6)) (lQ (jT hr.units (cm (aa 0) (ef (aa 6) (aa 7))) (aa 3))))))
  (by delta bI;exact (aj (aC 8 sc_law_times.nd (a_ D_law_chosen (hr.mono (by decide)) (by rfl) (ai (aa 4) (ai (aa 7) az))))
  (aj (tm 5 (aT (cm (aa 5) (aa 6)) (cG (cm (aa 2) (ef (aa 6) (aa 7))) (aa 8))) (aa 6))
  (aq (aC 7 sc_law_times.nd (aT (aa 7) ah)))))))))))
  (aq (aC 2 sc_law_times.nd (aa 5)))))))
  (aq (bq (cm (aa 2) (fj (by rfl) (by exact B.len) (ai (aa 0) az)))))))
abbrev i5:Stmt:=mq 13
theorem sc_law_row:FnScope ["_law_cell","_law_most","_law_rest","_law_row_here","_law_k","_law_value"] ["_law_cell","_law_most"] (ao i5):=⟨rfl,rfl,rfl,by decide+kernel,rfl,by decide+kernel,by decide+kernel⟩
theorem o6 (D:Def K mg "_law_row" i5 ["_law_cell","_law_most"]) (B:Bn mg) (D_law_mix:Own P w K mg base 1 "_law_mix" ["_law_cell","_law_k"] (fQ K cq)):Own P w K mg base 2 "_law_row" ["_law_cell","_law_most"] (fQ K bU):=by
  delta bU
  refine jl (g:=gM) D sc_law_row rfl rfl (by decide) fun f cdv A outer s H E hr=>?_
  delta gM
  exact (aj (aC 2 sc_law_row.nd (cX (aa 0) ah))
  (aj (aC 3 sc_law_row.nd ee)
  (aj (eF PassesOwn.never (by rfl) (fF (by rfl) (by exact B.range) (ai (cg (aa 2) (aT (aa 1) ah)) az)) (by delta cD;exact (be 4 sc_law_row.nd))
  (by delta cE;exact (aj (aC 5 sc_law_row.nd (xM (cX (aa 2) (aT (aa 1) ah)) (cG ah (aa 4))))
  (aj (dH (k4 .lt (s_ (by rfl) (by exact B.abs) (ai (aa 0) az)) (jS ah ah))
  (aq (aC 5 sc_law_row.nd (a_ D_law_mix (hr.mono (by decide)) (by rfl) (ai (aa 0) (ai (aT ah (aa 4)) az)))))
  cb)
  (aq (aC 3 sc_law_row.nd (aT (aa 3) (cm ee (cg (aa 5) ah)))))))))
  (aq (bq (aa 3))))))
abbrev dm:Stmt:=mq 14
theorem sc_law_all_ways:FnScope ["_law_row_here","_law_second","_law_found"] ["_law_row_here","_law_second"] (ao dm):=⟨rfl,rfl,rfl,by decide+kernel,rfl,by decide+kernel,by decide+kernel⟩
theorem fP (D:Def K mg "_law_all_ways" dm ["_law_row_here","_law_second"]) (B:Bn mg):∀k:Nat,Own P w K mg base (0+k+1) "_law_all_ways" ["_law_row_here","_law_second"] (fQ K (am k))
  | 0=>tN D sc_law_all_ways
  | k+1=>by
    have D_law_all_ways:=fP D B  k
    show Own P w K mg base (0+k+1+1) "_law_all_ways" ["_law_row_here","_law_second"] (fQ K (hJ 2 3 (bL (am k))))
    generalize am k=self at D_law_all_ways ⊢
    refine jl (k:=0+k+1) (g:=bL self) D sc_law_all_ways rfl rfl (by decide) fun f cdv A outer s H E hr=>?_
    delta bL
    exact (aj (dH (m5 (lR (jT hr.units (aa 0) ee) (lQ (jT hr.units (aa 1) ee))))
  (aq (bq (fT (bQ ee cY))))
  cb)
  (aj (aC 2 sc_law_all_ways.nd (fT cY))
  (aj (dH (iw hr.units (aa 0) ee)
  (aq (gI (iS 2 (iA (N:=["_law_more","_law_row_here"]) (js:=[none,some 0]) iC (by rfl) (gr (a_ D_law_all_ways hr (by rfl) (ai (fW (aa 0) (dw ah) eZ) (ai (aa 1) az)))) (fun _ _ _ _=>(by delta aE;exact (be 0 (show (["_law_more","_law_row_here"]:List Str).Nodup by decide+kernel)))) (fun _ _ _ _=>(by delta av;exact (aT (cm (aa 1) ah) (aa 0))))))))
  cb)
  (aj (dH (iw hr.units (aa 1) ee)
  (aq (gI (iS 2 (iA (N:=["_law_more","_law_second"]) (js:=[none,some 1]) iC (by rfl) (gr (a_ D_law_all_ways hr (by rfl) (ai (aa 0) (ai (fW (aa 1) (dw ah) eZ) az)))) (fun _ _ _ _=>(by delta de;exact (be 0 (show (["_law_more","_law_second"]:List Str).Nodup by decide+kernel)))) (fun _ _ _ _=>(by delta df;exact (aT (cm (aa 1) ah) (aa 0))))))))
  cb)
  (aj (dH (m5 (lR (iw hr.units (aa 0) ee) (lR (iw hr.units (aa 1) ee) (lQ (jT hr.units (cm (aa 0) ah) (cm (aa 1) ah))))))
  (aq (gI (iS 2 (iA (N:=["_law_more","_law_row_here"]) (js:=[none,some 0]) iC (by rfl) (gr (a_ D_law_all_ways hr (by rfl) (ai (fW (aa 0) (dw ah) eZ) (ai (fW (aa 1) (dw ah) eZ) az)))) (fun _ _ _ _=>(by delta dg;exact (be 0 (show (["_law_more","_law_row_here"]:List Str).Nodup by decide+kernel)))) (fun _ _ _ _=>(by delta dh;exact (aT (cm (aa 1) ah) (aa 0))))))))
  cb)
  (aq (bq (aa 2))))))))
theorem jt (D:Def K mg "_law_all_ways" dm ["_law_row_here","_law_second"]) (B:Bn mg):Own P w K mg base 13 "_law_all_ways" ["_law_row_here","_law_second"] (fQ K cO):=fP D B  12
abbrev i6:Stmt:=mq 15
theorem sc_law_due:FnScope ["_law_row_here","_law_second","_law_ways","_law_one"] ["_law_row_here","_law_second"] (ao i6):=⟨rfl,rfl,rfl,by decide+kernel,rfl,by decide+kernel,by decide+kernel⟩
theorem o7 (D:Def K mg "_law_due" i6 ["_law_row_here","_law_second"]) (B:Bn mg) (D_law_all_ways:Own P w K mg base 13 "_law_all_ways" ["_law_row_here","_law_second"] (fQ K cO)):Own P w K mg base 14 "_law_due" ["_law_row_here","_law_second"] (fQ K cy):=by
  delta cy
  refine jl (g:=fM) D sc_law_due rfl rfl (by decide) fun f cdv A outer s H E hr=>?_
  delta fM
  exact (aj (aC 2 sc_law_due.nd vX)
  (aj (eF PassesOwn.never (by rfl) (gr (a_ D_law_all_ways (hr.mono (by decide)) (by rfl) (ai (aa 0) (ai (aa 1) az)))) (by delta di;exact (be 3 sc_law_due.nd))
  (by delta dl;exact (aq (vZ 2 hr.units (aT (vY 2 hr.units (aa 3) ah) ah) (aa 3)))))
  (aq (bq (rJ 2 rfl (by rfl) (by exact B.sorted))))))
abbrev gB:Stmt:=mq 16
theorem sc_law_right:FnScope ["_law_found","_law_due_here","_law_k"] ["_law_found","_law_due_here"] (ao gB):=⟨rfl,rfl,rfl,by decide+kernel,rfl,by decide+kernel,by decide+kernel⟩
theorem mB (D:Def K mg "_law_right" gB ["_law_found","_law_due_here"]) (B:Bn mg):Own P w K mg base 1 "_law_right" ["_law_found","_law_due_here"] (fQ K bB):=by
  delta bB
  refine jl (g:=fg) D sc_law_right rfl rfl (by decide) fun f cdv A outer s H E hr=>?_
  delta fg
  exact (aj (dH (m5 (jW (jX (iO (j6 .list (by rfl) (by exact B.isinstance) (aa 0) (by rfl) (by exact B.list) PyProof.Rows.boot_list))) (jV (iw hr.units (fj (by rfl) (by exact B.len) (ai (aa 0) az)) (fj (by rfl) (by exact B.len) (ai (aa 1) az))))))
  (aq (bq jP))
  cb)
  (aj (eF PassesOwn.never (by rfl) (fF (by rfl) (by exact B.range) (ai (fj (by rfl) (by exact B.len) (ai (aa 1) az)) az)) (by delta cA;exact (be 2 sc_law_right.nd))
  (by delta cB;exact (aj (dH (m5 (jW (jX (iO (j6 .tuple (by rfl) (by exact B.isinstance) (cm (aa 0) (aa 2)) (by rfl) (by exact B.tuple) PyProof.Rows.boot_tuple))) (jW (iw hr.units (fj (by rfl) (by exact B.len) (ai (cm (aa 0) (aa 2)) az)) ah) (jV (jX (iO (j6 .str (by rfl) (by exact B.isinstance) (cm (cm (aa 0) (aa 2)) ah) (by rfl) (by exact B.str) PyProof.Rows.boot_str)))))))
  (aq (bq jP))
  cb)
  (aq (dH (m5 (jW (jX (iO (j6 .int (by rfl) (by exact B.isinstance) (cm (cm (aa 0) (aa 2)) ah) (by rfl) (by exact B.int) PyProof.Rows.boot_int))) (jW (iO (j6 .bool (by rfl) (by exact B.isinstance) (cm (cm (aa 0) (aa 2)) ah) (by rfl) (by exact B.bool) PyProof.Rows.boot_bool)) (jV (iw hr.units (cm (aa 0) (aa 2)) (cm (aa 1) (aa 2)))))))
  (aq (bq jP))
  cb)))))
  (aq (bq jP))))
abbrev ku:Stmt:=mq 17
theorem sc_law:FnScope ["_law_script","_law_most","_law_row_here","_law_second","_law_found","_law_k","_law_cord_here","_law_total","_law_one","_law_ways"] ["_law_script"] (ao ku):=⟨rfl,rfl,rfl,by decide+kernel,rfl,by decide+kernel,by decide+kernel⟩
theorem yc {f0:Addr} {fd:FuncData} (D:Fun K "law" "law" ku f0 fd) (B:Bn mg) (D_law_at:Own P w K mg base 1 "_law_at" ["_law_script","_law_k"] (fQ K bn)) (D_law_row:Own P w K mg base 2 "_law_row" ["_law_cell","_law_most"] (fQ K bU)) (D_merged_rows:Own P w K mg base 3 "merged_rows" ["row","second"] (fQ K aI)) (D_law_due:Own P w K mg base 14 "_law_due" ["_law_row_here","_law_second"] (fQ K cy)) (D_law_right:Own P w K mg base 1 "_law_right" ["_law_found","_law_due_here"] (fQ K bB)) (D_law_cord:Own P w K mg base 3 "_law_cord" ["_law_script","_law_first","_law_last","_law_most"] (fQ K cr)) (D_law_tame:Own P w K mg base 1 "_law_tame" ["_law_cord_here"] (fQ K bP)) (D_law_times:Own P w K mg base 2 "_law_times" ["_law_row_here","_law_cord_here"] (fQ K aZ)):FnOk P w K mg base rZ 15 f0 fd ["_law_script"] (fQ K ii):=by
  delta ii
  refine AG (g:=nO) D sc_law rfl rfl (by decide) fun cdv A outer s H E hr=>?_
  delta nO
  exact (aj (aC 1 sc_law.nd (aT ah (vI (by rfl) (by exact B.int) (ai (y0 hr.units (cg (a_ D_law_at (hr.mono (by decide)) (by rfl) (ai (aa 0) (ai ah az))) ah) ah) az))))
  (aj (aC 2 sc_law.nd (a_ D_law_row (hr.mono (by decide)) (by rfl) (ai (a_ D_law_at (hr.mono (by decide)) (by rfl) (ai (aa 0) (ai ah az))) (ai (aa 1) az))))
  (aj (aC 3 sc_law.nd (a_ D_law_row (hr.mono (by decide)) (by rfl) (ai (a_ D_law_at (hr.mono (by decide)) (by rfl) (ai (aa 0) (ai ah az))) (ai (aa 1) az))))
  (aj (aC 4 sc_law.nd (a_ D_merged_rows (hr.mono (by decide)) (by rfl) (ai (aa 2) (ai (aa 3) az))))
  (aj (dH (m5 (jW (jX (iO (a_ D_law_right (hr.mono (by decide)) (by rfl) (ai (aa 4) (ai (a_ D_law_due (hr.mono (by decide)) (by rfl) (ai (aa 2) (ai (aa 3) az))) az))))) (jV (iw hr.units (a_ D_merged_rows (hr.mono (by decide)) (by rfl) (ai (aa 3) (ai (aa 2) az))) (aa 4)))))
  (aq (bq jP))
  cb)
  (aj (eF PassesOwn.never (by rfl) (fF (by rfl) (by exact B.range) (ai ah az)) (by delta fN;exact (be 5 sc_law.nd))
  (by delta fO;exact (aj (aC 6 sc_law.nd (a_ D_law_tame (hr.mono (by decide)) (by rfl) (ai (a_ D_law_cord (hr.mono (by decide)) (by rfl) (ai (aa 0) (ai (cG ah (aa 5)) (ai (aT (cG ah (aa 5)) ah) (ai (ef ah (cG ah (aa 1))) az))))) az)))
  (aj (aC 7 sc_law.nd ah)
  (aj (eF PassesOwn.never (by rfl) (gr (aa 4)) (by delta gy;exact (lT (by rfl) (dI (be 8 sc_law.nd) (dI (be 9 sc_law.nd) jw))))
  (by delta gz;exact (aq (aC 7 sc_law.nd (aT (aa 7) (cG (aa 9) (a_ D_law_times (hr.mono (by decide)) (by rfl) (ai (aa 8) (ai (aa 6) az)))))))))
  (aq (dH (iw hr.units (aa 7) (cG (a_ D_law_times (hr.mono (by decide)) (by rfl) (ai (aa 2) (ai (aa 6) az))) (a_ D_law_times (hr.mono (by decide)) (by rfl) (ai (aa 3) (ai (aa 6) az)))))
  (aq (bq jP))
  cb)))))))
  (aq (bq jP))))))))
end
end Nhk17
namespace Nhk17
open PySem L2 Nh PL
theorem gN (ns:List Int) (k:Nat):bn [.list (ns.map .int), .int k]=some (.sh (.int (ns.getD k 0))):=by
  simp only [bn,hJ,List.length_cons,List.length_nil,Nat.zero_add,Nat.reduceAdd,jk,iI,aB,bx,cF,ae,ab,cn,List.map_cons,List.map_nil,Nat.sub_self,List.replicate,List.cons_append,List.nil_append,List.getElem?_cons_succ,List.getElem?_cons_zero,Sl.isBr,Bool.false_and,Bool.false_eq_true,bH,ag,au,Option.map_some,if_false,dr,dE,look,Sl.val,dL,Cm.i,Cm.s,Option.bind_some,aO,bw,dY,cV,bM,bh,pC,dJ,cK,if_true]
  by_cases h:k < ns.length
  · simp [h,cL,bV,dJ,cK]
  · simp [h,List.getElem?_eq_none (Nat.le_of_not_lt h),bV,dJ,cK]
theorem kw (cell:Int) (k:Nat) (h:k≤1000000):∃z:Int,cq [.int cell, .int k]=some (.sh (.int z)):=by
  have a1:∀i:Int,bG i (62089911+2*(k:Int))=true:=fun i=>jx (by omega) (by omega)
  have a2:bG 982451653 (k:Int)=true:=jx (by omega) (by omega)
  have a3:bG 2 (k:Int)=true:=jx (by omega) (by omega)
  have a4:∀i j:Int,bG (i % 4294967291) j=true:=fun i j=>gJ (by have:=Int.emod_nonneg i (show (4294967291:Int)≠0 by decide);omega) (by have:=Int.emod_lt_of_pos i (show (0:Int) < 4294967291 by decide);omega)
  have d1:dF 1024=true:=by decide
  simp only [cq,hJ,List.length_cons,List.length_nil,Nat.zero_add,Nat.reduceAdd,jk,gL,aB,aA,ae,ab,cn,List.map_cons,List.map_nil,Nat.reduceSub,List.replicate,List.cons_append,List.nil_append,List.getElem?_cons_zero,Sl.isBr,Bool.false_and,Bool.false_eq_true,pC,g9,dE,look,Sl.val,gH,Int.reducePow,Int.reduceNeg,Option.bind_some,if_false,Int.reduceLE,Int.reduceLT,and_self,decide_true,Int.reduceToNat,if_true,Option.map_some,cf,b6,cV,bM,Bool.not_false,Bool.true_or,Bool.and_true,aX,List.getElem?_cons_succ,a3,a1,a2,PL.settle,frz,frzAll,Nat.reduceLT,List.set_cons_succ,List.set_cons_zero,bw,bO,d1,a4,dJ,cK,bV]
  exact ⟨_,rfl⟩
theorem gb:∀(d:List Pc) (x0 x1:Sl),e9 cc e8 bA (d.map cI) [x0,x1]=some ((d.map fun p=>((p.1,-p.2):Pc)).map cI)
  | [],x0,x1=>rfl
  | p::d,x0,x1=>by
    have e:(cc (cI p) [x0,x1])=some [.sh (.str ⟨#[p.1]⟩), .sh (.int p.2)]:=rfl
    have e2:bA [.sh (.str ⟨#[p.1]⟩), .sh (.int p.2)]=some (.sh (cI (p.1,-p.2)),[.sh (.str ⟨#[p.1]⟩), .sh (.int p.2)]):=by
      simp only [bA,g_,bb,ab,List.getElem?_cons_zero,frz,ae,pC,Sl.isBr,Bool.false_and,Bool.false_eq_true,cS,dE,look,Sl.val,gH,if_true,if_false,Option.bind_some,ck,Option.map_some,List.getElem?_cons_succ,Int.zero_sub,List.length_cons,List.length_nil,Nat.zero_add,Nat.reduceAdd,Nat.reduceLeDiff,cI]
    rw [List.map_cons,e9,e,Option.bind_some]
    simp only [e8,frz,Option.bind_some,e2,gb d,Option.map_some,if_true,List.map_cons]
theorem gc (c:List Pc) (h:c.length≤1000000):ba [.list (c.map cI)]=some (.ow ((NH.contr c).map cI)):=by
  have hl:(NH.contr c).length=c.length:=NH.cU c
  have e:(c.reverse.map fun p=>((p.1,-p.2):Pc))=NH.contr c:=rfl
  have k:=gb c.reverse .no .no
  rw [e,List.map_reverse] at k
  simp only [ba,hJ,List.length_cons,List.length_nil,Nat.zero_add,jk,c9,bw,gV,tp,ab,cn,List.map_cons,List.map_nil,Nat.sub_self,List.replicate,List.cons_append,List.nil_append,List.getElem?_cons_zero,frz,Option.bind_some,gq,tw,k,eG,List.length_map,hl,h,decide_true,Bool.and_true,if_true,dJ,cK]
theorem gX (cell:Int) (x2 x3:Sl):∀(n lo:Nat) (bd:Int) (c:List Pc) (a b:Sl),lo+n≤1000→c.length+n≤1000→CordOk c→
    ∃(rest':Int) (c':List Pc) (a' b':Sl),bp aU aV (gd lo n) [.sh (.int cell), .sh (.int bd),x2,x3, .ow (c.map cI),a,b]=some ([.sh (.int cell), .sh (.int rest'),x2,x3, .ow (c'.map cI),a',b'], .nx)∧c'.length=c.length+n∧CordOk c'
  | 0,lo,bd,c,a,b,_,_,hN=>⟨bd,c,a,b,rfl,rfl,hN⟩
  | n+1,lo,bd,c,a,b,h1,h2,hN=>by
    obtain ⟨z,ez⟩:=kw cell lo (by omega)
    have dd:dF 4=true∧dF 28=true:=by decide
    have step:∃v:Int,(aU (.int lo) [.sh (.int cell), .sh (.int bd),x2,x3, .ow (c.map cI),a,b]).bind aV=some ([.sh (.int cell), .sh (.int (bd / 28)),x2,x3, .ow ((c++[((l4 (v % 4),v / 4 % 7 - 3):Pc)]).map cI), .sh (.int lo), .sh (.int v)], .nx):=by
      have lb:c.length < 1000000:=by omega
      by_cases c1:(if cell < 0 then -cell else cell) < 1000000000000000000
      · refine ⟨z,?_⟩
        simp only [aU,aH,List.length_cons,List.length_nil,Nat.zero_add,Nat.reduceAdd,Nat.reduceLT,List.set_cons_succ,List.set_cons_zero,if_true,aV,g9,Int.reducePow,Int.reduceNeg,cf,cS,bO,Option.bind_some,aB,aA,ab,List.getElem?_cons_succ,List.getElem?_cons_zero,PL.settle,frz,frzAll,bx,gl,cF,ae,bH,ag,Sl.isBr,Bool.false_and,Bool.false_eq_true,au,Option.map_some,if_false,kF,pC,dE,look,Sl.val,gH,Int.reduceLE,Int.reduceLT,and_self,decide_true,Int.reduceToNat,dL,Cm.i,Cm.s,gk,oB,oC,Bool.or_false,aw,bh,dX,cZ,g_,bb,dY,cV,bM,fH,ck,aO,c1,ez,iU,dd.1,Nat.reduceLeDiff,List.length_map,lb,dd.2,List.map_append,List.map_cons,cI,List.map_nil]
      · by_cases c2: -28 < bd
        · by_cases c3:bd < 28
          · refine ⟨z,?_⟩
            simp only [aU,aH,List.length_cons,List.length_nil,Nat.zero_add,Nat.reduceAdd,Nat.reduceLT,List.set_cons_succ,List.set_cons_zero,if_true,aV,g9,Int.reducePow,Int.reduceNeg,cf,cS,bO,Option.bind_some,aB,aA,ab,List.getElem?_cons_succ,List.getElem?_cons_zero,PL.settle,frz,frzAll,bx,gl,cF,ae,bH,ag,Sl.isBr,Bool.false_and,Bool.false_eq_true,au,Option.map_some,if_false,kF,pC,dE,look,Sl.val,gH,Int.reduceLE,Int.reduceLT,and_self,decide_true,Int.reduceToNat,dL,Cm.i,Cm.s,gk,oB,oC,Bool.or_false,aw,bh,dX,cZ,g_,bb,dY,cV,bM,fH,ck,aO,c1,decide_false,c3,c2,ez,iU,dd.1,Nat.reduceLeDiff,List.length_map,lb,dd.2,List.map_append,List.map_cons,cI,List.map_nil]
          · refine ⟨bd,?_⟩
            simp only [aU,aH,List.length_cons,List.length_nil,Nat.zero_add,Nat.reduceAdd,Nat.reduceLT,List.set_cons_succ,List.set_cons_zero,if_true,aV,g9,Int.reducePow,Int.reduceNeg,cf,cS,bO,Option.bind_some,aB,aA,ab,List.getElem?_cons_succ,List.getElem?_cons_zero,PL.settle,frz,frzAll,bx,gl,cF,ae,bH,ag,Sl.isBr,Bool.false_and,Bool.false_eq_true,au,Option.map_some,if_false,kF,pC,dE,look,Sl.val,gH,Int.reduceLE,Int.reduceLT,and_self,decide_true,Int.reduceToNat,dL,Cm.i,Cm.s,gk,oB,oC,Bool.or_false,aw,bh,dX,cZ,g_,bb,dY,cV,bM,fH,ck,aO,c1,decide_false,c3,c2,ez,iU,dd.1,Nat.reduceLeDiff,List.length_map,lb,dd.2,List.map_append,List.map_cons,cI,List.map_nil]
        · refine ⟨bd,?_⟩
          simp only [aU,aH,List.length_cons,List.length_nil,Nat.zero_add,Nat.reduceAdd,Nat.reduceLT,List.set_cons_succ,List.set_cons_zero,if_true,aV,g9,Int.reducePow,Int.reduceNeg,cf,cS,bO,Option.bind_some,aB,aA,ab,List.getElem?_cons_succ,List.getElem?_cons_zero,PL.settle,frz,frzAll,bx,gl,cF,ae,bH,ag,Sl.isBr,Bool.false_and,Bool.false_eq_true,au,Option.map_some,if_false,kF,pC,dE,look,Sl.val,gH,Int.reduceLE,Int.reduceLT,and_self,decide_true,Int.reduceToNat,dL,Cm.i,Cm.s,gk,oB,oC,Bool.or_false,aw,bh,dX,cZ,g_,bb,dY,cV,bM,fH,ck,aO,c1,decide_false,c2,ez,iU,dd.1,Nat.reduceLeDiff,List.length_map,lb,dd.2,List.map_append,List.map_cons,cI,List.map_nil]
    obtain ⟨v,e⟩:=step
    obtain ⟨r',c',a',b',e2,l2,n2⟩:=gX cell x2 x3 n (lo+1) (bd / 28) (c++[((l4 (v % 4),v / 4 % 7 - 3):Pc)]) (.sh (.int lo)) (.sh (.int v)) (by omega) (by simp;omega) (hN.append fun p hp=>by rw [List.mem_singleton.mp hp];exact ⟨wz _,by show (v / 4 % 7 - 3).natAbs < 2 ^ 100;have:=Int.emod_nonneg (v / 4) (show (7:Int)≠0 by decide);have:=Int.emod_lt_of_pos (v / 4) (show (0:Int) < 7 by decide);omega⟩)
    refine ⟨r',c',a',b',?_,by rw [l2];simp;omega,n2⟩
    rw [fG,bp,e]
    exact e2
theorem gY (cell:Int):∃c:List Pc,bi [.int cell]=some (.ow (c.map cI))∧c.length≤12∧CordOk c:=by
  have dd:dF 5=true∧dF 26=true∧dF 13=true:=by decide
  have mm:bG 2 1000000000000000000000000000000=true:=gJ (by decide) (by decide)
  by_cases c5:cell % 5=2
  · refine ⟨[((97+(cell / 5 % 26).toNat,cell / 5 / 26 % (2*10 ^ 30 - 1) - (10 ^ 30 - 1)):Pc)],?_,by simp,fun p hp=>?_⟩
    · simp only [bi,hJ,List.length_cons,List.length_nil,Nat.zero_add,jk,c_,aB,aA,ae,ab,cn,List.map_cons,List.map_nil,Nat.reduceSub,List.replicate,List.cons_append,List.nil_append,List.getElem?_cons_zero,Sl.isBr,Bool.false_and,Bool.false_eq_true,pC,bO,dE,look,Sl.val,gH,Option.bind_some,if_false,dd.1,if_true,Option.map_some,PL.settle,frz,frzAll,Nat.reduceAdd,Nat.reduceLT,List.set_cons_succ,List.set_cons_zero,bx,cF,cf,gP,dY,cV,bM,xO,bw,eC,bb,g_,g9,Int.reducePow,Int.reduceNeg,Int.reduceLE,Int.reduceLT,and_self,decide_true,Int.reduceToNat,b6,Bool.not_false,Bool.true_or,Bool.and_true,mm,Int.reduceMul,cS,Int.reduceSub,ck,bh,Nat.reduceLeDiff,eQ,dR,ag,au,c5,dC,List.getElem?_cons_succ,Am,dd.2.1,dJ,cK,aW,bV,cI]
    · rw [List.mem_singleton.mp hp]
      have:=Int.emod_lt_of_pos (cell / 5) (show (0:Int) < 26 by decide)
      have h2:=Int.emod_nonneg (cell / 5 / 26) (show (2*10 ^ 30 - 1:Int)≠0 by decide)
      have h3:=Int.emod_lt_of_pos (cell / 5 / 26) (show (0:Int) < 2*10 ^ 30 - 1 by decide)
      refine ⟨?_,?_⟩
      · show 97+(cell / 5 % 26).toNat < 128
        omega
      · show (cell / 5 / 26 % (2*10 ^ 30 - 1) - (10 ^ 30 - 1)).natAbs < 2 ^ 100
        generalize cell / 5 / 26 % (2*10 ^ 30 - 1)=z at h2 h3
        omega
  · have m0:=Int.emod_nonneg (cell / 5) (show (13:Int)≠0 by decide)
    have m1:=Int.emod_lt_of_pos (cell / 5) (show (0:Int) < 13 by decide)
    obtain ⟨r',c',a',b',e,l,n⟩:=gX cell .no (.sh (.int (cell / 5 % 13))) (cell / 5 % 13).toNat 0 (cell / 5 / 13) [] .no .no (by omega) (by simp;omega) ke
    refine ⟨c',?_,by rw [l];simp;omega,n⟩
    have hb: -1000000≤cell / 5 % 13∧cell / 5 % 13≤1000000:=by omega
    simp only [List.map_nil,Int.natCast_zero] at e
    simp only [bi,hJ,List.length_cons,List.length_nil,Nat.zero_add,jk,c_,aB,aA,ae,ab,cn,List.map_cons,List.map_nil,Nat.reduceSub,List.replicate,List.cons_append,List.nil_append,List.getElem?_cons_zero,Sl.isBr,Bool.false_and,Bool.false_eq_true,pC,bO,dE,look,Sl.val,gH,Option.bind_some,if_false,dd.1,if_true,Option.map_some,PL.settle,frz,frzAll,Nat.reduceAdd,Nat.reduceLT,List.set_cons_succ,List.set_cons_zero,bx,cF,cf,gP,dY,cV,bM,bw,eC,bb,g_,g9,b6,Bool.not_false,Bool.true_or,Bool.and_true,cS,ck,bh,Nat.reduceLeDiff,eQ,dR,ag,au,Int.reduceLT,decide_true,dC,c5,decide_false,List.getElem?_cons_succ,dd.2.2,aO,hb,and_self,e,dJ,cK,eG]
theorem jg (s0 s1 s2:Sl) (most:Int) (hm0:0≤most) (hm:most≤1000):∀(zs:List Int) (c:List Pc) (a b d:Sl),(c.length:Int)≤most→CordOk c→
    ∃(c':List Pc) (a' b' d':Sl),bp aQ aR (zs.map .int) [s0,s1,s2, .sh (.int most), .ow (c.map cI),a,b,d]=some ([s0,s1,s2, .sh (.int most), .ow (c'.map cI),a',b',d'], .nx)∧(c'.length:Int)≤most∧CordOk c'
  | [],c,a,b,d,h,hN=>⟨c,a,b,d,rfl,h,hN⟩
  | z::zs,c,a,b,d,h,hN=>by
    have step:∃(c':List Pc) (a' b' d':Sl),(aQ (.int z) [s0,s1,s2, .sh (.int most), .ow (c.map cI),a,b,d]).bind aR=some ([s0,s1,s2, .sh (.int most), .ow (c'.map cI),a',b',d'], .nx)∧(c'.length:Int)≤most∧CordOk c':=by
      have hp:0 < (c.length:Int)+1:=by omega
      have k0:0≤z / 5 % ((c.length:Int)+1):=Int.emod_nonneg _ (by omega)
      have d5:dF 5=true:=by decide
      generalize hk:z / 5 % ((c.length:Int)+1)=k at k0
      have l1:=j8 c (some k) none
      have l2:=j8 c none (some k)
      by_cases c3:z % 5=3
      · have e1:=gc (cutL c (some k) none) (by omega)
        have lb:c.length+(NH.contr (cutL c (some k) none)).length≤1000000:=by rw [NH.cU];omega
        obtain ⟨a1,b1,d1,e⟩:∃a1 b1 d1,(aQ (.int z) [s0,s1,s2, .sh (.int most), .ow (c.map cI),a,b,d]).bind aR=some ([s0,s1,s2, .sh (.int most), .ow ((cutL (c++NH.contr (cutL c (some k) none)) none (some most)).map cI),a1,b1,d1], .nx):=by
          simp only [aQ,aH,List.length_cons,List.length_nil,Nat.zero_add,Nat.reduceAdd,Nat.reduceLT,List.set_cons_succ,List.set_cons_zero,if_true,aR,cf,bO,gP,Option.bind_some,aB,aA,ae,ab,List.getElem?_cons_succ,List.getElem?_cons_zero,Sl.isBr,Bool.false_and,Bool.false_eq_true,pC,dE,look,Sl.val,gH,if_false,d5,Option.map_some,bH,ag,au,dr,aX,cV,bM,Bool.not_false,Bool.true_or,Bool.and_true,aO,List.length_map,hp,decide_true,hk,PL.settle,frz,frzAll,bx,cF,aw,gR,dG,eY,Int.reduceLT,c3,dC,Option.any_some,iB,eG,Bool.or_true,e1,lb,←List.map_append]
          exact ⟨_,_,_,rfl⟩
        exact ⟨_,a1,b1,d1,e,iQ _ hm0,(hN.append (hN.cutL _ _).contr).cutL _ _⟩
      · by_cases c4:z % 5=4
        · obtain ⟨p,ep,lp,np⟩:=gY (z / 5)
          have e1:=gc p (by omega)
          have lb:p.length+(NH.contr p).length≤1000000:=by rw [NH.cU];omega
          have lb2:(cutL c none (some k)).length+(p++NH.contr p).length≤1000000:=by rw [List.length_append,NH.cU];omega
          have lb3:(cutL c none (some k)++(p++NH.contr p)).length+(cutL c (some k) none).length≤1000000:=by rw [List.length_append,List.length_append,NH.cU];omega
          obtain ⟨a1,b1,d1,e⟩:∃a1 b1 d1,(aQ (.int z) [s0,s1,s2, .sh (.int most), .ow (c.map cI),a,b,d]).bind aR=some ([s0,s1,s2, .sh (.int most), .ow ((cutL (cutL c none (some k)++(p++NH.contr p)++cutL c (some k) none) none (some most)).map cI),a1,b1,d1], .nx):=by
            simp only [aQ,aH,List.length_cons,List.length_nil,Nat.zero_add,Nat.reduceAdd,Nat.reduceLT,List.set_cons_succ,List.set_cons_zero,if_true,aR,cf,bO,gP,Option.bind_some,aB,aA,ae,ab,List.getElem?_cons_succ,List.getElem?_cons_zero,Sl.isBr,Bool.false_and,Bool.false_eq_true,pC,dE,look,Sl.val,gH,if_false,d5,Option.map_some,bH,ag,au,dr,aX,cV,bM,Bool.not_false,Bool.true_or,Bool.and_true,aO,List.length_map,hp,decide_true,hk,PL.settle,frz,frzAll,bx,cF,aw,gR,dG,eY,Int.reduceLT,c4,dC,Int.reduceEq,decide_false,Option.any_some,iB,eG,Bool.or_true,ep,e1,lb,←List.map_append,lb2,lb3]
            exact ⟨_,_,_,rfl⟩
          exact ⟨_,a1,b1,d1,e,iQ _ hm0,(((hN.cutL _ _).append (np.append np.contr)).append (hN.cutL _ _)).cutL _ _⟩
        · obtain ⟨p,ep,lp,np⟩:=gY z
          have lb:c.length+p.length≤1000000:=by omega
          obtain ⟨a1,b1,d1,e⟩:∃a1 b1 d1,(aQ (.int z) [s0,s1,s2, .sh (.int most), .ow (c.map cI),a,b,d]).bind aR=some ([s0,s1,s2, .sh (.int most), .ow ((cutL (c++p) none (some most)).map cI),a1,b1,d1], .nx):=by
            simp only [aQ,aH,List.length_cons,List.length_nil,Nat.zero_add,Nat.reduceAdd,Nat.reduceLT,List.set_cons_succ,List.set_cons_zero,if_true,aR,cf,bO,gP,Option.bind_some,aB,aA,ae,ab,List.getElem?_cons_succ,List.getElem?_cons_zero,Sl.isBr,Bool.false_and,Bool.false_eq_true,pC,dE,look,Sl.val,gH,if_false,d5,Option.map_some,bH,ag,au,dr,aX,cV,bM,Bool.not_false,Bool.true_or,Bool.and_true,aO,List.length_map,hp,decide_true,hk,PL.settle,frz,frzAll,bx,cF,aw,gR,dG,eY,Int.reduceLT,dC,c3,decide_false,Option.any_some,iB,eG,Bool.or_true,c4,ep,lb,←List.map_append]
            exact ⟨_,_,_,rfl⟩
          exact ⟨_,a1,b1,d1,e,iQ _ hm0,(hN.append np).cutL _ _⟩
    obtain ⟨c1,a1,b1,d1,e,l1,n1⟩:=step
    obtain ⟨c',a',b',d',e2,l2,n2⟩:=jg s0 s1 s2 most hm0 hm zs c1 a1 b1 d1 l1 n1
    refine ⟨c',a',b',d',?_,l2,n2⟩
    rw [List.map_cons,bp,e]
    exact e2
theorem nS (ns:List Int) (first last most:Int) (h0:0≤first) (hm0:0≤most) (hm:most≤1000) (hl:ns.length≤63):∃c:List Pc,cr [.list (ns.map .int), .int first, .int last, .int most]=some (.ow (c.map cI))∧(c.length:Int)≤most∧CordOk c:=by
  obtain ⟨k,rfl⟩:∃k:Nat,first=k:=⟨first.toNat,by omega⟩
  have e0:=gN ns k
  obtain ⟨c,a,b,d,e,l,n⟩:=jg (.sh (.list (ns.map .int))) (.sh (.int k)) (.sh (.int last)) most hm0 hm (ns.getD k 0::cutL ns (some ((k:Int)+1)) (some last)) [] .no .no .no (by simpa using hm0) ke
  have lb:=j8 ns (some ((k:Int)+1)) (some last)
  have lb2:1+(cutL ns (some ((k:Int)+1)) (some last)).length≤1000000:=by omega
  simp only [List.map_nil,List.map_cons] at e
  refine ⟨c,?_,l,n⟩
  simp only [cr,hJ,List.length_cons,List.length_nil,Nat.zero_add,Nat.reduceAdd,jk,f6,aB,aA,eC,ck,cn,List.map_cons,List.map_nil,Nat.reduceSub,List.replicate,List.cons_append,List.nil_append,Option.bind_some,Nat.reduceLeDiff,if_true,PL.settle,frz,frzAll,Nat.reduceLT,List.set_cons_succ,List.set_cons_zero,eQ,fU,ae,bb,aw,ag,ab,Sl.isBr,Bool.false_and,Bool.false_eq_true,au,Option.map_some,if_false,gR,dG,pC,aX,look,Sl.val,cV,bM,Bool.not_false,Bool.true_or,Bool.and_true,bw,List.getElem?_cons_zero,List.getElem?_cons_succ,aO,e0,iB,qZ,Bool.or_true,List.length_map,lb2,decide_true,e,dJ,cK,eG]
theorem jh (x0:Sl):∀(c acc:List Pc) (a b:Sl),acc.length+c.length≤1000→CordOk acc→CordOk c→∃(acc':List Pc) (a' b':Sl),bp bZ b5 (c.map cI) [x0, .ow (acc.map cI),a,b]=some ([x0, .ow (acc'.map cI),a',b'], .nx)∧acc'.length=acc.length+c.length∧CordOk acc'
  | [],acc,a,b,_,h,_=>⟨acc,a,b,rfl,rfl,h⟩
  | p::c,acc,a,b,hl,h,hc=>by
    have lb:acc.length < 1000000:=by simp at hl;omega
    have d3:dF 1000=true:=by decide
    have hp:=hc p (List.mem_cons_self ..)
    have step:∃(t:Int),t.natAbs < 2 ^ 100∧(bZ (cI p) [x0, .ow (acc.map cI),a,b]).bind b5=some ([x0, .ow ((acc++[((p.1,t):Pc)]).map cI), .sh (.str ⟨#[p.1]⟩), .sh (.int p.2)], .nx):=by
      by_cases n:p.2 < 0
      · refine ⟨0 - (0 - p.2) % 1000,?_,?_⟩
        · have h1:=Int.emod_nonneg (0 - p.2) (show (1000:Int)≠0 by decide)
          have h2:=Int.emod_lt_of_pos (0 - p.2) (show (0:Int) < 1000 by decide)
          generalize (0 - p.2) % 1000=z at h1 h2
          omega
        · simp only [bZ,iz,cI,List.length_cons,List.length_nil,Nat.zero_add,Nat.reduceAdd,dQ,aH,Nat.reduceLT,List.set_cons_succ,List.set_cons_zero,if_true,Option.bind_some,iy,List.isEmpty_nil,b5,cS,cf,bx,cF,ae,ab,List.getElem?_cons_succ,List.getElem?_cons_zero,Sl.isBr,Bool.false_and,Bool.false_eq_true,pC,dE,look,Sl.val,dL,Cm.i,Cm.s,if_false,n,decide_true,Option.map_some,dX,cZ,g_,bb,frz,gH,ck,Int.reduceLT,Nat.reduceLeDiff,List.length_map,lb,List.map_append,List.map_cons,List.map_nil]
      · refine ⟨p.2 % 1000,?_,?_⟩
        · have h1:=Int.emod_nonneg p.2 (show (1000:Int)≠0 by decide)
          have h2:=Int.emod_lt_of_pos p.2 (show (0:Int) < 1000 by decide)
          generalize p.2 % 1000=z at h1 h2
          omega
        · simp only [bZ,iz,cI,List.length_cons,List.length_nil,Nat.zero_add,Nat.reduceAdd,dQ,aH,Nat.reduceLT,List.set_cons_succ,List.set_cons_zero,if_true,Option.bind_some,iy,List.isEmpty_nil,b5,cS,cf,bx,cF,ae,ab,List.getElem?_cons_succ,List.getElem?_cons_zero,Sl.isBr,Bool.false_and,Bool.false_eq_true,pC,dE,look,Sl.val,dL,Cm.i,Cm.s,if_false,n,decide_false,Option.map_some,dX,cZ,g_,bb,frz,gH,ck,Int.reduceLT,decide_true,Nat.reduceLeDiff,List.length_map,lb,List.map_append,List.map_cons,List.map_nil]
    obtain ⟨t,ht,e⟩:=step
    obtain ⟨acc',a',b',e2,l2,k2⟩:=jh x0 c (acc++[((p.1,t):Pc)]) (.sh (.str ⟨#[p.1]⟩)) (.sh (.int p.2)) (by simp at hl ⊢;omega) (h.append fun q hq=>by rw [List.mem_singleton.mp hq];exact ⟨hp.1,ht⟩) fun q hq=>hc q (List.mem_cons_of_mem _ hq)
    refine ⟨acc',a',b',?_,by rw [l2];simp;omega,k2⟩
    rw [List.map_cons,bp,e]
    exact e2
theorem nT (c:List Pc) (hl:c.length≤1000) (h:CordOk c):∃(c':List Pc) (r:Sl),bP [.list (c.map cI)]=some r∧(r= .br (.list (c'.map cI))∨r= .ow (c'.map cI))∧c'.length=c.length∧CordOk c':=by
  by_cases l8:(c.length:Int) < 8
  · refine ⟨c, .br (.list (c.map cI)),?_,Or.inl rfl,rfl,h⟩
    simp only [bP,hJ,List.length_cons,List.length_nil,Nat.zero_add,jk,eL,aB,bx,cF,ae,bH,ag,ab,cn,List.map_cons,List.map_nil,Nat.reduceSub,List.replicate,List.cons_append,List.nil_append,List.getElem?_cons_zero,Sl.isBr,Bool.false_and,Bool.false_eq_true,au,Option.map_some,if_false,Option.bind_some,dr,aO,look,Sl.val,List.length_map,pC,dE,dL,Cm.i,Cm.s,l8,decide_true,bw,bh,if_true,aA,eC,ck,Nat.reduceLeDiff,PL.settle,frz,frzAll,eQ,fU,dJ,cK,bV]
  · obtain ⟨acc',a',b',e,l,k⟩:=jh (.sh (.list (c.map cI))) c [] .no .no (by simpa using hl) ke h
    refine ⟨acc', .ow (acc'.map cI),?_,Or.inr rfl,by simpa using l,k⟩
    simp only [List.map_nil] at e
    simp only [bP,hJ,List.length_cons,List.length_nil,Nat.zero_add,jk,eL,aB,bx,cF,ae,bH,ag,ab,cn,List.map_cons,List.map_nil,Nat.reduceSub,List.replicate,List.cons_append,List.nil_append,List.getElem?_cons_zero,Sl.isBr,Bool.false_and,Bool.false_eq_true,au,Option.map_some,if_false,Option.bind_some,dr,aO,look,Sl.val,List.length_map,pC,dE,dL,Cm.i,Cm.s,l8,decide_false,bw,bh,aA,eC,ck,Nat.reduceLeDiff,if_true,PL.settle,frz,frzAll,eQ,fU,Nat.reduceAdd,Nat.reduceLT,List.set_cons_succ,List.set_cons_zero,e,List.getElem?_cons_succ,dJ,cK,eG]
theorem aM {f g:cR} {E E1:List Sl} (h:f E=some (E1, .nx)):aB f g E=g E1:=by
  unfold aB
  rw [h]
  rfl
theorem gZ {c:g8} {a b:cR} {E E1:List Sl} {r:Option (List Sl×Fl)} (h:c E=some (false,E1)) (k:b E1=r):bx c a b E=r:=by
  unfold bx
  rw [h,←k]
  rfl
theorem i7 {c:g8} {a b:cR} {E E1:List Sl} {r:Option (List Sl×Fl)} (h:c E=some (true,E1)) (k:a E1=r):bx c a b E=r:=by
  unfold bx
  rw [h,←k]
  rfl
theorem v6 {g:kT} {E E':List Sl} {i j:Int} {ss:List Sl} (h:g E=some (ss,E')) (hl:aO E' ss=some [.int i, .int j]) (c: -1000000≤i∧i≤1000000∧ -1000000≤j∧j≤1000000):lV g E=some (gd i (j - i).toNat,E'):=by
  unfold lV
  rw [h,Option.bind_some]
  simp only [hl]
  rw [if_pos c]
theorem kz {it:kE} {tg:hE} {body:cR} {E E1 E2:List Sl} {ds:List PyData} (h:it E=some (ds,E1)) (l:bp tg body ds E1=some (E2, .nx)):eQ it tg body E=some (E2, .nx):=by
  unfold eQ
  rw [h,Option.bind_some,l]
theorem v7 (w:List Nat):(⟨w.toArray⟩:Str).cps.toList=w:=by simp
theorem mC {w:List Nat} {i:Nat} (h:i < w.length):atI (⟨w.toArray⟩:Str).cps.toList (i:Int)=some (w.getD i 0):=by
  rw [v7,cL,List.getElem?_eq_getElem h]
  simp [h]
theorem zC {n k:Nat} (h:k < n):u0 n (k:Int)=some k:=by
  unfold u0
  rw [if_pos (by omega),if_pos (by omega),Int.toNat_natCast]
theorem zD {n k:Nat} (g:Nat→Int) (v:Int):((List.range n).map g).set k v=(List.range n).map fun i=>if i=k then v else g i:=by
  refine List.ext_getElem? fun i=>?_
  by_cases e:k=i
  · subst e
    by_cases h:k < n
    · rw [List.getElem?_set_self (by simpa using h),List.getElem?_map,List.getElem?_range h]
      simp
    · rw [List.getElem?_eq_none (by simp;omega),List.getElem?_eq_none (by simp;omega)]
  · rw [List.getElem?_set_ne e,List.getElem?_map,List.getElem?_map]
    by_cases h:i < n
    · have ne:¬i=k:=fun z=>e z.symm
      rw [List.getElem?_range h]
      simp [ne]
    · rw [List.getElem?_eq_none (by simp;omega)]
      rfl
theorem v8 (w:List Nat):(PyData.int 1::List.replicate w.length (PyData.int 0))=((List.range (w.length+1)).map (NH.je w [])).map PyData.int:=by
  rw [List.range_succ_eq_map,List.map_cons,List.map_cons,List.map_map,List.map_map]
  have h0:NH.je w [] 0=1:=by simp [NH.je,NH.iV,NH.ja]
  rw [h0]
  congr 1
  refine List.ext_getElem? fun i=>?_
  by_cases h:i < w.length
  · rw [List.getElem?_map,List.getElem?_range h,List.getElem?_eq_getElem (by simpa using h)]
    simp only [List.getElem_replicate,Option.map_some,Function.comp]
    cases w with
    | nil=>simp at h
    | cons a w=>simp [NH.je,NH.iV,NH.ja]
  · rw [List.getElem?_eq_none (by simp;omega),List.getElem?_eq_none (by simp;omega)]
def o8 (w:List Nat) (c:List Pc):Prop:=(NH.dS c+w.length*c.length+w.length+1) ^ w.length < 2 ^ 20000∧NH.dS c+w.length*c.length+w.length+1 < 2 ^ 20000
theorem mD {w:List Nat} {c:List Pc} (h:o8 w c) {b n:Nat} (hb:b≤NH.dS c+w.length*c.length+w.length+1) (hn:n≤w.length):b ^ n < 2 ^ 20000:=
  Nat.lt_of_le_of_lt (Nat.le_trans (Nat.pow_le_pow_left hb n) (Nat.pow_le_pow_right (by omega) hn)) h.1
theorem qk {w:List Nat} {c c1:List Pc} (h:o8 w c) (hs:NH.dS c1≤NH.dS c) (hl:c1.length≤c.length) (k:Nat):(NH.je w c1 k).natAbs < 2 ^ 20000:=by
  have l:(w.take k).length≤w.length:=by simp;omega
  have h1:=NH.nv (L:=w.length) c1 (w.take k) l
  have m:w.length*c1.length≤w.length*c.length:=Nat.mul_le_mul_left _ hl
  exact Nat.lt_of_le_of_lt h1 (mD h (by omega) l)
theorem yd {w:List Nat} {c:List Pc} (h:o8 w c) {t:Int} (ht:t.natAbs≤NH.dS c) {j:Nat} (hj:j≤w.length):(NH.ch t j).natAbs < 2 ^ 20000:=
  Nat.lt_of_le_of_lt (NH.tQ t j) (mD h (by omega) hj)
theorem ce {c:List PyData→Option Sl} {g:kT} {E E1:List Sl} {ss:List Sl} {ds:List PyData} {r:Sl} (h:g E=some (ss,E1)) (hl:aO E1 ss=some ds) (hc:c ds=some r):aw c g E=some (r,E1):=by
  unfold aw
  rw [h,Option.bind_some]
  show (aO E1 ss).bind _=_
  rw [hl,Option.bind_some,hc]
  rfl
theorem rP (n:Nat):(List.replicate n [PyData.int 0]).flatten=List.replicate n (PyData.int 0):=by
  induction n with
  | zero=>rfl
  | succ n ih=>rw [List.replicate_succ,List.flatten_cons,ih,List.replicate_succ];rfl
theorem mE {w:List Nat} {c:List Pc} (hw:w.length≤90) (hl:c.length≤90) (h:CordOk c):o8 w c:=by
  have h1:=NH.pY (B:=2 ^ 100) c fun p hp=>(h p hp).2
  have h2:c.length*2 ^ 100≤90*2 ^ 100:=Nat.mul_le_mul_right _ hl
  have h3:w.length*c.length≤90*90:=Nat.mul_le_mul hw hl
  have h4:NH.dS c+w.length*c.length+w.length+1≤2 ^ 110:=by omega
  have h5:(NH.dS c+w.length*c.length+w.length+1) ^ w.length≤(2 ^ 110) ^ 90:=Nat.le_trans (Nat.pow_le_pow_left h4 _) (Nat.pow_le_pow_right (Nat.two_pow_pos _) hw)
  refine ⟨Nat.lt_of_le_of_lt h5 ?_,Nat.lt_of_le_of_lt h4 ?_⟩
  · rw [←Nat.pow_mul]
    exact Nat.pow_lt_pow_right (by decide) (by decide)
  · exact Nat.pow_lt_pow_right (by decide) (by decide)
theorem o9 (x:Str) (l u:Option Int):Txt.slice x l u=PySem.StrLaws.sliceText x l u:=rfl
theorem o_ (w:List Nat) (i:Nat) (h:i≤w.length):Txt.slice (⟨w.toArray⟩:Str) (some (i:Int)) none=⟨(w.drop i).toArray⟩:=by
  have e:(⟨w.toArray⟩:Str).cps.toList=w:=by simp
  rw [o9,PySem.StrLaws.sliceText_from ⟨by omega,by rw [e];omega⟩,e]
  rw [show ((w.length:Int) - (i:Int)).toNat=w.length - i by omega,Int.toNat_natCast,List.take_of_length_le (by simp)]
theorem wL (u v:List Nat):(⟨u.toArray⟩:Str)++(⟨v.toArray⟩:Str)=⟨(u++v).toArray⟩:=by
  show (⟨u.toArray++v.toArray⟩:Str)=_
  simp
theorem text_inj {u v:List Nat}:((⟨u.toArray⟩:Str)=⟨v.toArray⟩)↔u=v:=by
  constructor
  · intro h
    have:=congrArg (fun x:Str=>x.cps.toList) h
    simpa using this
  · intro h;rw [h]
theorem kA (w:List Nat):(⟨w.toArray⟩:Str).length=w.length:=by show w.toArray.size=_;simp
def Aq (s:Sl) (c:List Pc):Prop:=s= .sh (.list (c.map cI))∨s= .ow (c.map cI)
theorem nU {x:Int} {f:bD} {E:List Sl} {y:Int} {g:bD} (hf:g E=some (.sh (.int x),E)) (h:f E=some (.sh (.int y),E)) (ok:bG x y=true):ae b6 false g f E=some (.sh (.int (x*y)),E):=by
  simp only [ae,b6,hf,h,Option.bind_some,look,Sl.val,ok,Bool.false_and,Bool.false_eq_true,if_false,if_true]
theorem nV {x:Int} {f:bD} {E:List Sl} {y:Int} {g:bD} (hf:g E=some (.sh (.int x),E)) (h:f E=some (.sh (.int y),E)):ae aX false g f E=some (.sh (.int (x+y)),E):=by
  simp only [ae,aX,hf,h,Option.bind_some,look,Sl.val,Bool.false_and,Bool.false_eq_true,if_false]
theorem mF {f:bD} {E E1:List Sl} {d:PyData} {i:Nat} (h:f E=some (.sh d,E1)) (hi:i < E1.length):aA i f E=some (E1.set i (.sh d), .nx):=by
  unfold aA
  rw [h]
  simp only [Option.bind_some,PL.settle,hi,if_true]
theorem ye {x y:Int} {f g:bD} {E:List Sl} (hg:g E=some (.sh (.int x),E)) (hf:f E=some (.sh (.int y),E)):ae kU false g f E=some (.sh (.bool (!decide (x=y))),E):=by
  simp only [ae,kU,dE,hg,hf,Option.bind_some,look,Sl.val,Bool.false_and,Bool.false_eq_true,if_false,dC,Option.map_some]
theorem zE {a b:g8} {E E1:List Sl} {r:Option (Bool×List Sl)} (h:a E=some (false,E1)) (k:b E1=r):gl a b E=r:=by
  unfold gl
  rw [h,Option.bind_some]
  exact k
theorem wM (t:Int) (m:Nat):∀k,k≤m→(NH.ff t k).natAbs≤(t.natAbs+m+1) ^ k
  | 0,_=>by show (1:Int).natAbs≤_;simp
  | k+1,h=>by
    have ih:=wM t m k (by omega)
    show (NH.ff t k*(t - k)).natAbs≤_
    rw [Int.natAbs_mul,Nat.pow_succ]
    exact Nat.mul_le_mul ih (by omega)
def nW (t:Int) (m:Nat):Prop:=(t.natAbs+m+1) ^ m < 2 ^ 20000∧t.natAbs+m+1 < 2 ^ 20000
theorem yf {t:Int} {m k:Nat} (h:nW t m) (hk:k≤m):(NH.ff t k).natAbs < 2 ^ 20000:=Nat.lt_of_le_of_lt (Nat.le_trans (wM t m k hk) (Nat.pow_le_pow_right (by omega) hk)) h.1
theorem rQ:∀m,m < 41→NH.oM m < 2 ^ 200:=by decide+kernel
theorem v9 (t:Int) (x1 a:Sl) (m k:Nat) (hk:k < m) (hm:m≤1000) (h:nW t m):(bX (.int k) [.sh (.int t),x1, .sh (.int (NH.ff t k)), .sh (.int (NH.oM k)),a]).bind bY=some ([.sh (.int t),x1, .sh (.int (NH.ff t (k+1))), .sh (.int (NH.oM (k+1))), .sh (.int k)], .nx):=by
  have o1:bG (NH.ff t k) (t - k)=true:=jy (yf h (by omega)) (Nat.lt_of_le_of_lt (show (t - (k:Int)).natAbs≤t.natAbs+m+1 by omega) h.2)
  have o2:bG (NH.oM k) ((k:Int)+1)=true:=jx (by omega) (by omega)
  simp only [bX,aH,List.length_cons,List.length_nil,Nat.zero_add,Nat.reduceAdd,Nat.reduceLT,List.set_cons_succ,List.set_cons_zero,if_true,bY,cS,Option.bind_some,aB,aA,ae,ab,List.getElem?_cons_succ,List.getElem?_cons_zero,Sl.isBr,Bool.false_and,Bool.false_eq_true,dE,look,Sl.val,gH,if_false,b6,cV,bM,Option.map_some,Bool.not_false,Bool.true_or,Bool.and_true,o1,PL.settle,frz,frzAll,pC,aX,o2,NH.ff,NH.oM]
theorem ql (t:Int) (x1:Sl) (m:Nat) (hm:m≤1000) (h:nW t m):∀(n k:Nat) (a:Sl),k+n=m→∃a',bp bX bY (gd k n) [.sh (.int t),x1, .sh (.int (NH.ff t k)), .sh (.int (NH.oM k)),a]=some ([.sh (.int t),x1, .sh (.int (NH.ff t m)), .sh (.int (NH.oM m)),a'], .nx)
  | 0,k,a,e=>⟨a,by rw [show k=m by omega];rfl⟩
  | n+1,k,a,e=>by
    have s:=v9 t x1 a m k (by omega) hm h
    obtain ⟨a',e2⟩:=ql t x1 m hm h n (k+1) (.sh (.int k)) (by omega)
    refine ⟨a',?_⟩
    rw [fG,bp,s]
    exact e2
theorem kJ (t:Int) (m:Nat) (hm:m≤40) (h:nW t m):bj [.int t, .int m]=some (.sh (.int (NH.ch t m))):=by
  obtain ⟨a,e⟩:=ql t (.sh (.int m)) m (by omega) h m 0 .no (by omega)
  have f0:NH.ff t 0=1:=rfl
  have f1:NH.oM 0=1:=rfl
  rw [f0,f1] at e
  simp only [Int.natCast_zero] at e
  have hb: -1000000≤(m:Int)∧(m:Int)≤1000000:=by omega
  have d:dF (NH.oM m)=true:=kb (NH.l5 m) (rQ m (by omega))
  have q:=NH.xP t m
  simp only [bj,hJ,List.length_cons,List.length_nil,Nat.zero_add,Nat.reduceAdd,jk,d0,aB,aA,pC,cn,List.map_cons,List.map_nil,Nat.reduceSub,List.replicate,List.cons_append,List.nil_append,PL.settle,frz,frzAll,Option.bind_some,Nat.reduceLT,List.set_cons_succ,List.set_cons_zero,if_true,eQ,dR,ag,ab,Sl.isBr,Bool.false_and,Bool.false_eq_true,au,Option.map_some,if_false,Int.reduceNeg,bw,ae,bO,dE,look,Sl.val,gH,List.getElem?_cons_succ,List.getElem?_cons_zero,aO,hb,and_self,Int.toNat_natCast,e,d,q,dJ,cK,bV]
theorem qm (a:Nat):∀(r:List Nat) (j:Nat),j < NH.fI a r→r[j]? =some a
  | [],j,h=>by simp [NH.fI] at h
  | b::r,j,h=>by
    simp only [NH.fI] at h
    split at h
    · rename_i e
      cases j with
      | zero=>simp [e]
      | succ j=>simpa using qm a r j (by omega)
    · omega
theorem nX (a:Nat):∀r:List Nat,r[NH.fI a r]? ≠some a
  | []=>by simp
  | b::r=>by
    simp only [NH.fI]
    split
    · simpa using nX a r
    · rename_i e;simpa using e
theorem uF (w:List Nat) (k j:Nat) (hk:k≤w.length) (hj:j < k):(w.take k).reverse[j]? =some (w.getD (k - (j+1)) 0):=by
  rw [List.getElem?_reverse (by simp;omega),List.length_take,Nat.min_eq_left hk,List.getElem?_take,if_pos (by omega),show k - 1 - j=k - (j+1) by omega,List.getElem?_eq_getElem (by omega)]
  simp [show k - (j+1) < w.length by omega]
theorem rR (a:Nat) (w:List Nat) (k:Nat) (hk:k≤w.length):NH.fI a (w.take k).reverse≤k:=by
  have:=NH.pZ a (w.take k).reverse
  simpa [Nat.min_eq_left hk] using this
def ji (w:List Nat) (c:List Pc) (p:Pc) (k j:Nat):List Int:=(List.range (w.length+1)).map fun i=>if i < k then NH.je w (c++[p]) i else if i=k then NH.je w c k+NH.fm (fun j=>NH.je w c (k - (j+1))*NH.ch p.2 (j+1)) j else NH.je w c i
def dP (w:List Nat) (c:List Pc):List PyData:=((List.range (w.length+1)).map (NH.je w c)).map .int
def IsL (s:Sl) (ds:List PyData):Prop:=s= .sh (.list ds)∨s= .ow ds
theorem qo (w:List Nat) (hw:w.length≤900) (p:Pc) (x1 s2 l m:Sl) (k j:Nat) (hk:k≤w.length):bo [.sh (.str ⟨w.toArray⟩),x1,s2, .sh (.str ⟨#[p.1]⟩), .sh (.int p.2),l, .sh (.int k), .sh (.int ((j:Int)+1)),m]=some (decide (j+1≤k∧w.getD (k - (j+1)) 0=p.1),[.sh (.str ⟨w.toArray⟩),x1,s2, .sh (.str ⟨#[p.1]⟩), .sh (.int p.2),l, .sh (.int k), .sh (.int ((j:Int)+1)),m]):=by
  have lw:w.length≤1000000:=by omega
  by_cases h:j+1≤k
  · have h':(j:Int)+1≤(k:Int):=by omega
    have e1:=mC (w:=w) (i:=k - (j+1)) (by omega)
    rw [show ((k - (j+1):Nat):Int)=(k:Int) - ((j:Int)+1) by omega] at e1
    simp only [bo,eB,cF,ae,ab,List.getElem?_cons_succ,List.getElem?_cons_zero,Sl.isBr,Bool.false_and,Bool.false_eq_true,dE,look,Sl.val,dL,Cm.i,Cm.s,if_false,Option.bind_some,h',decide_true,Option.map_some,cS,gH,if_true,dY,cV,bM,gP,kA,lw,e1,lY,vK,h,true_and]
  · have h':¬((j:Int)+1≤(k:Int)):=by omega
    simp only [bo,eB,cF,ae,ab,List.getElem?_cons_succ,List.getElem?_cons_zero,Sl.isBr,Bool.false_and,Bool.false_eq_true,dE,look,Sl.val,dL,Cm.i,Cm.s,if_false,Option.bind_some,h',decide_false,Option.map_some,cS,gH,if_true,dY,cV,bM,gP,h,false_and]
theorem v_ (w:List Nat) (hw:w.length≤40) (c:List Pc) (p:Pc) (x1 s2 m:Sl) (hs:IsL s2 (dP w c)) (k j:Nat) (hk:k≤w.length) (hj:j+1≤k) (ht:∀i,i≤w.length→nW p.2 i) (ok:∀i i',i≤w.length→i'≤w.length→bG (NH.je w c i) (NH.ch p.2 i')=true):
    bI [.sh (.str ⟨w.toArray⟩),x1,s2, .sh (.str ⟨#[p.1]⟩), .sh (.int p.2), .ow ((ji w c p k j).map .int), .sh (.int k), .sh (.int ((j:Int)+1)),m]=some ([.sh (.str ⟨w.toArray⟩),x1,s2, .sh (.str ⟨#[p.1]⟩), .sh (.int p.2), .ow ((ji w c p k (j+1)).map .int), .sh (.int k), .sh (.int (((j+1:Nat):Int)+1)), .sh (.int (NH.ch p.2 (j+1)))], .nx):=by
  have ec:=kJ p.2 (j+1) (by omega) (ht _ (by omega))
  rw [show ((j+1:Nat):Int)=(j:Int)+1 by omega] at ec
  have a5:atI ((ji w c p k j).map PyData.int) (k:Int)=some (.int (NH.je w c k+NH.fm (fun j=>NH.je w c (k - (j+1))*NH.ch p.2 (j+1)) j)):=by
    rw [cL,List.getElem?_map,ji,List.getElem?_map,List.getElem?_range (by omega)]
    simp only [Option.map_some,Nat.lt_irrefl,if_false,if_true]
  have a2:atI (dP w c) ((k:Int) - ((j:Int)+1))=some (.int (NH.je w c (k - (j+1)))):=by
    rw [show (k:Int) - ((j:Int)+1)=((k - (j+1):Nat):Int) by omega,cL,dP,List.getElem?_map,List.getElem?_map,List.getElem?_range (by omega)]
    rfl
  have ix:u0 ((ji w c p k j).map PyData.int).length (k:Int)=some k:=by
    rw [List.length_map,ji,List.length_map,List.length_range]
    exact zC (by omega)
  have om:=ok (k - (j+1)) (j+1) (by omega) (by omega)
  have st:((ji w c p k j).map PyData.int).set k (.int (NH.je w c k+NH.fm (fun j=>NH.je w c (k - (j+1))*NH.ch p.2 (j+1)) j+NH.je w c (k - (j+1))*NH.ch p.2 (j+1)))=(ji w c p k (j+1)).map .int:=by
    rw [←List.map_set]
    refine congrArg (List.map PyData.int) ?_
    unfold ji
    rw [zD]
    refine List.map_congr_left fun i _=>?_
    by_cases e:i=k
    · subst e
      rw [if_pos rfl,if_neg (Nat.lt_irrefl _),if_pos rfl,NH.fm,Int.add_assoc]
    · simp only [e,if_false]
  have s1:∀l,aA 8 (aw bj (ag false (ab 4) (ag false (ab 7) au))) [.sh (.str ⟨w.toArray⟩),x1,s2, .sh (.str ⟨#[p.1]⟩), .sh (.int p.2),l, .sh (.int k), .sh (.int ((j:Int)+1)),m]=some ([.sh (.str ⟨w.toArray⟩),x1,s2, .sh (.str ⟨#[p.1]⟩), .sh (.int p.2),l, .sh (.int k), .sh (.int ((j:Int)+1)), .sh (.int (NH.ch p.2 (j+1)))], .nx):=fun l=>by
    have q:aw bj (ag false (ab 4) (ag false (ab 7) au)) [.sh (.str ⟨w.toArray⟩),x1,s2, .sh (.str ⟨#[p.1]⟩), .sh (.int p.2),l, .sh (.int k), .sh (.int ((j:Int)+1)),m]=some (.sh (.int (NH.ch p.2 (j+1))),[.sh (.str ⟨w.toArray⟩),x1,s2, .sh (.str ⟨#[p.1]⟩), .sh (.int p.2),l, .sh (.int k), .sh (.int ((j:Int)+1)),m]):=ce rfl rfl ec
    exact mF (i:=8) q (show 8 < 9 by decide)
  have n1:((j+1:Nat):Int)+1=(j:Int)+1+1:=by omega
  rw [bI,aM (s1 _),n1]
  rcases hs with rfl | rfl
  · simp only [aB,lU,ae,ab,List.getElem?_cons_succ,List.getElem?_cons_zero,Sl.isBr,Bool.false_and,Bool.false_eq_true,dY,look,Sl.val,cV,bM,if_false,Option.bind_some,Option.any_some,a5,Option.map_some,cS,dE,gH,if_true,b6,aX,a2,Bool.not_false,Bool.true_or,Bool.and_true,om,frz,List.set_cons_succ,List.set_cons_zero,ix,st,aA,pC,PL.settle,frzAll,List.length_cons,List.length_nil,Nat.zero_add,Nat.reduceAdd,Nat.reduceLT]
  · simp only [aB,lU,ae,ab,List.getElem?_cons_succ,List.getElem?_cons_zero,Sl.isBr,Bool.false_and,Bool.false_eq_true,dY,look,Sl.val,cV,bM,if_false,Option.bind_some,Option.any_some,a5,Option.map_some,cS,dE,gH,if_true,b6,aX,a2,Bool.not_false,Bool.true_or,Bool.and_true,om,frz,List.set_cons_succ,List.set_cons_zero,ix,st,aA,pC,PL.settle,frzAll,List.length_cons,List.length_nil,Nat.zero_add,Nat.reduceAdd,Nat.reduceLT]
theorem nY (w:List Nat) (hw:w.length≤40) (c:List Pc) (p:Pc) (x1 s2:Sl) (hs:IsL s2 (dP w c)) (k:Nat) (hk:k≤w.length) (ht:∀i,i≤w.length→nW p.2 i) (ok:∀i i',i≤w.length→i'≤w.length→bG (NH.je w c i) (NH.ch p.2 i')=true):∀(r j:Nat) (m:Sl),j+r=NH.fI p.1 (w.take k).reverse→∃y m',
    bR bo bI (r+1) [.sh (.str ⟨w.toArray⟩),x1,s2, .sh (.str ⟨#[p.1]⟩), .sh (.int p.2), .ow ((ji w c p k j).map .int), .sh (.int k), .sh (.int ((j:Int)+1)),m]=some ([.sh (.str ⟨w.toArray⟩),x1,s2, .sh (.str ⟨#[p.1]⟩), .sh (.int p.2), .ow ((ji w c p k (NH.fI p.1 (w.take k).reverse)).map .int), .sh (.int k),y,m'], .nx)
  | 0,j,m,e=>by
    have t:=qo w (by omega) p x1 s2 (.ow ((ji w c p k j).map .int)) m k j hk
    have f:¬(j+1≤k∧w.getD (k - (j+1)) 0=p.1):=fun ⟨h1,h2⟩=>by
      have:=nX p.1 (w.take k).reverse
      rw [←e,Nat.add_zero,uF w k j hk (by omega),h2] at this
      exact this rfl
    rw [decide_eq_false f] at t
    refine ⟨.sh (.int ((j:Int)+1)),m,?_⟩
    rw [bR,t,←e]
    rfl
  | r+1,j,m,e=>by
    have t:=qo w (by omega) p x1 s2 (.ow ((ji w c p k j).map .int)) m k j hk
    have ll:=rR p.1 w k hk
    have f:j+1≤k∧w.getD (k - (j+1)) 0=p.1:=by
      have:=qm p.1 (w.take k).reverse j (by omega)
      rw [uF w k j hk (by omega)] at this
      exact ⟨by omega,Option.some.inj this⟩
    rw [decide_eq_true f] at t
    obtain ⟨y,m',ih⟩:=nY w hw c p x1 s2 hs k hk ht ok r (j+1) (.sh (.int (NH.ch p.2 (j+1)))) (by omega)
    refine ⟨y,m',?_⟩
    rw [bR,t,Option.bind_some,if_pos rfl,v_ w hw c p x1 s2 m hs k j hk f.1 ht ok,Option.bind_some]
    exact ih
theorem uG (w:List Nat) (c:List Pc) (p:Pc) (k:Nat) (hk:k≤w.length):ji w c p k (NH.fI p.1 (w.take k).reverse)=ji w c p (k+1) 0:=by
  unfold ji
  refine List.map_congr_left fun i _=>?_
  by_cases h1:i < k
  · rw [if_pos h1,if_pos (by omega)]
  · by_cases h2:i=k
    · subst h2
      rw [if_neg h1,if_pos rfl,if_pos (by omega),NH.nz w c p i hk]
    · rw [if_neg h1,if_neg h2,if_neg (by omega)]
      by_cases h3:i=k+1
      · subst h3
        rw [if_pos rfl]
        simp [NH.fm]
      · rw [if_neg h3]
theorem qp (w:List Nat) (hw:w.length≤40) (c:List Pc) (p:Pc) (x1 s2:Sl) (hs:IsL s2 (dP w c)) (ht:∀i,i≤w.length→nW p.2 i) (ok:∀i i',i≤w.length→i'≤w.length→bG (NH.je w c i) (NH.ch p.2 i')=true):∀(n k:Nat) (a b d:Sl),k+n=w.length+1→∃a' b' d',
    bp cu bJ (gd k n) [.sh (.str ⟨w.toArray⟩),x1,s2, .sh (.str ⟨#[p.1]⟩), .sh (.int p.2), .ow ((ji w c p k 0).map .int),a,b,d]=some ([.sh (.str ⟨w.toArray⟩),x1,s2, .sh (.str ⟨#[p.1]⟩), .sh (.int p.2), .ow ((ji w c p (w.length+1) 0).map .int),a',b',d'], .nx)
  | 0,k,a,b,d,e=>⟨a,b,d,by rw [show k=w.length+1 by omega];rfl⟩
  | n+1,k,a,b,d,e=>by
    obtain ⟨y,m',h⟩:=nY w hw c p x1 s2 hs k (by omega) ht ok (NH.fI p.1 (w.take k).reverse) 0 d (by omega)
    have wh:=q9 h
    rw [uG w c p k (by omega),Int.natCast_zero,Int.zero_add] at wh
    obtain ⟨a',b',d',ih⟩:=qp w hw c p x1 s2 hs ht ok n (k+1) (.sh (.int k)) y m' (by omega)
    refine ⟨a',b',d',?_⟩
    have step:(cu (.int k) [.sh (.str ⟨w.toArray⟩),x1,s2, .sh (.str ⟨#[p.1]⟩), .sh (.int p.2), .ow ((ji w c p k 0).map .int),a,b,d]).bind bJ=some ([.sh (.str ⟨w.toArray⟩),x1,s2, .sh (.str ⟨#[p.1]⟩), .sh (.int p.2), .ow ((ji w c p (k+1) 0).map .int), .sh (.int k),y,m'], .nx):=by
      rw [bJ]
      show aB (aA 7 (pC (.int 1))) (iR bo bI) [.sh (.str ⟨w.toArray⟩),x1,s2, .sh (.str ⟨#[p.1]⟩), .sh (.int p.2), .ow ((ji w c p k 0).map .int), .sh (.int k),b,d]=_
      exact (aM (f:=aA 7 (pC (.int 1))) (E1:=[.sh (.str ⟨w.toArray⟩),x1,s2, .sh (.str ⟨#[p.1]⟩), .sh (.int p.2), .ow ((ji w c p k 0).map .int), .sh (.int k), .sh (.int 1),d]) rfl).trans wh
    rw [fG,bp,step]
    exact ih
theorem rS (w:List Nat) (c:List Pc) (p:Pc):(ji w c p 1 0).map PyData.int=dP w c:=by
  unfold ji dP
  congr 1
  refine List.map_congr_left fun i _=>?_
  by_cases h1:i < 1
  · have:i=0:=by omega
    subst this
    rw [if_pos h1,NH.nz w c p 0 (by omega)]
    simp [NH.fI,NH.fm]
  · rw [if_neg h1]
    split
    · rename_i e;subst e;simp [NH.fm]
    · rfl
theorem uH (w:List Nat) (c:List Pc) (p:Pc):(ji w c p (w.length+1) 0).map PyData.int=dP w (c++[p]):=by
  unfold ji dP
  congr 1
  refine List.map_congr_left fun i hi=>?_
  rw [if_pos (by simpa using hi)]
theorem uI (w:List Nat) (hw:w.length≤40) (c:List Pc) (p:Pc) (x1 s2 a b e f g h:Sl) (hs:IsL s2 (dP w c)) (ht:∀i,i≤w.length→nW p.2 i) (ok:∀i i',i≤w.length→i'≤w.length→bG (NH.je w c i) (NH.ch p.2 i')=true):∃s2' a' b' e' f' g' h',IsL s2' (dP w (c++[p]))∧
    (bK (cI p) [.sh (.str ⟨w.toArray⟩),x1,s2,a,b,e,f,g,h]).bind cw=some ([.sh (.str ⟨w.toArray⟩),x1,s2',a',b',e',f',g',h'], .nx):=by
  obtain ⟨f',g',h',l⟩:=qp w hw c p x1 s2 hs ht ok w.length 1 f g h (by omega)
  rw [rS,uH] at l
  have tt:bK (cI p) [.sh (.str ⟨w.toArray⟩),x1,s2,a,b,e,f,g,h]=some [.sh (.str ⟨w.toArray⟩),x1,s2, .sh (.str ⟨#[p.1]⟩), .sh (.int p.2),e,f,g,h]:=by
    simp only [bK,iz,cI,List.length_cons,List.length_nil,Nat.zero_add,Nat.reduceAdd,dQ,aH,Nat.reduceLT,List.set_cons_succ,List.set_cons_zero,if_true,Option.bind_some,iy,List.isEmpty_nil]
  have fl:aW (dP w c)=true:=ka _
  have s5:aA 5 (j5 (ab 2)) [.sh (.str ⟨w.toArray⟩),x1,s2, .sh (.str ⟨#[p.1]⟩), .sh (.int p.2),e,f,g,h]=some ([.sh (.str ⟨w.toArray⟩),x1,s2, .sh (.str ⟨#[p.1]⟩), .sh (.int p.2), .ow (dP w c),f,g,h], .nx):=by
    rcases hs with rfl | rfl
    · simp only [aA,j5,ab,List.getElem?_cons_succ,List.getElem?_cons_zero,look,Sl.val,cV,bM,Option.bind_some,Bool.not_false,fl,Bool.or_true,if_true,PL.settle,frz,frzAll,List.length_cons,List.length_nil,Nat.zero_add,Nat.reduceAdd,Nat.reduceLT,List.set_cons_succ,List.set_cons_zero]
    · simp only [aA,j5,ab,List.getElem?_cons_succ,List.getElem?_cons_zero,look,Sl.val,cV,bM,Option.bind_some,Option.any_some,Bool.not_false,fl,Bool.or_true,if_true,PL.settle,frz,frzAll,List.length_cons,List.length_nil,Nat.zero_add,Nat.reduceAdd,Nat.reduceLT,List.set_cons_succ,List.set_cons_zero]
  have lw:w.length≤1000000:=by omega
  have h1:(ag false (pC (.int 1)) (ag false (ae aX false (bH dr (ag false (ab 0) au)) (pC (.int 1))) au)) [.sh (.str ⟨w.toArray⟩),x1,s2, .sh (.str ⟨#[p.1]⟩), .sh (.int p.2), .ow (dP w c),f,g,h]=some ([.sh (.int 1), .sh (.int ((w.length:Int)+1))],[.sh (.str ⟨w.toArray⟩),x1,s2, .sh (.str ⟨#[p.1]⟩), .sh (.int p.2), .ow (dP w c),f,g,h]):=by
    simp only [ag,pC,Sl.isBr,Bool.false_and,Bool.false_eq_true,ae,bH,ab,au,Option.map_some,if_false,dr,aX,look,Sl.val,cV,bM,Option.bind_some,Bool.not_false,Bool.true_or,Bool.and_true,List.getElem?_cons_zero,aO,kA,lw,if_true]
  have hi:=v6 h1 rfl (by omega)
  rw [show ((w.length:Int)+1 - 1).toNat=w.length by omega] at hi
  have fo:=kz (tg:=cu) (body:=bJ) hi l
  refine ⟨.sh (.list (dP w (c++[p]))), .sh (.str ⟨#[p.1]⟩), .sh (.int p.2), .sh (.list (dP w (c++[p]))),f',g',h',Or.inl rfl,?_⟩
  rw [tt,Option.bind_some,cw,aM s5,aM fo]
  rfl
theorem uJ (w:List Nat) (hw:w.length≤40) (x1:Sl) (c:List Pc) (hf:o8 w c):∀(c2 c1:List Pc) (s2 a b e f g h:Sl),c1++c2=c→IsL s2 (dP w c1)→∃s2' a' b' e' f' g' h',IsL s2' (dP w c)∧bp bK cw (c2.map cI) [.sh (.str ⟨w.toArray⟩),x1,s2,a,b,e,f,g,h]=some ([.sh (.str ⟨w.toArray⟩),x1,s2',a',b',e',f',g',h'], .nx)
  | [],c1,s2,a,b,e,f,g,h,q,hs=>⟨s2,a,b,e,f,g,h,by rw [List.append_nil] at q;rw [←q];exact hs,rfl⟩
  | p::c2,c1,s2,a,b,e,f,g,h,q,hs=>by
    have hS:NH.dS c1≤NH.dS c:=by rw [←q,NH.jc];omega
    have hl:c1.length≤c.length:=by rw [←q,List.length_append];omega
    have hp:p.2.natAbs≤NH.dS c:=NH.nw (by rw [←q];simp)
    obtain ⟨s2',a',b',e',f',g',h',i1,e1⟩:=uI w hw c1 p x1 s2 a b e f g h hs (fun i hi=>⟨mD hf (by omega) hi,Nat.lt_of_le_of_lt (by omega) hf.2⟩) (fun i i' _ hi'=>jy (qk hf hS hl i) (yd hf hp hi'))
    obtain ⟨s3,a3,b3,e3,f3,g3,h3,i2,e2⟩:=uJ w hw x1 c hf c2 (c1++[p]) s2' a' b' e' f' g' h' (by rw [List.append_assoc];exact q) i1
    refine ⟨s3,a3,b3,e3,f3,g3,h3,i2,?_⟩
    rw [List.map_cons,bp,e1]
    exact e2
theorem f9 (w:List Nat) (c:List Pc) (hw:w.length≤40) (hf:o8 w c):aZ [.str ⟨w.toArray⟩, .list (c.map cI)]=some (.sh (.int (NH.aG w c))):=by
  have ln:(⟨w.toArray⟩:Str).length=w.length:=kA w
  have lw:w.length≤1000000:=by omega
  have b1: -1000000≤(w.length:Int):=by omega
  have b2:(w.length:Int)≤1000000:=by omega
  have r1:1*w.length≤1000000:=by omega
  have lr:1+(List.replicate w.length (PyData.int 0)).length≤1000000:=by simp;omega
  have s2:aA 2 (ae aX false (eC (bb (pC (.int 1)) ck)) (ae b6 false (eC (bb (pC (.int 0)) ck)) (bH dr (ag false (ab 0) au)))) [.sh (.str ⟨w.toArray⟩), .sh (.list (c.map cI)), .no, .no, .no, .no, .no, .no, .no]=some ([.sh (.str ⟨w.toArray⟩), .sh (.list (c.map cI)), .ow (dP w []), .no, .no, .no, .no, .no, .no], .nx):=by
    rw [dP,←v8 w]
    simp only [aA,ae,eC,bb,pC,frz,ck,Option.map_some,Option.bind_some,List.length_cons,List.length_nil,Nat.zero_add,Nat.reduceLeDiff,if_true,Sl.isBr,Bool.false_and,Bool.false_eq_true,bH,ag,ab,au,if_false,dr,b6,look,Sl.val,cV,bM,Bool.not_false,Bool.true_or,Bool.and_true,aX,List.getElem?_cons_zero,aO,ln,lw,Int.toNat_natCast,r1,b1,b2,and_self,decide_true,rP,lr,List.cons_append,List.nil_append,PL.settle,frzAll,Nat.reduceAdd,Nat.reduceLT,List.set_cons_succ,List.set_cons_zero]
  obtain ⟨s2',a',b',e',f',g',h',i1,e1⟩:=uJ w hw (.sh (.list (c.map cI))) c hf c [] (.ow (dP w [])) .no .no .no .no .no .no rfl (Or.inr rfl)
  have it:fU (ab 1) [.sh (.str ⟨w.toArray⟩), .sh (.list (c.map cI)), .ow (dP w []), .no, .no, .no, .no, .no, .no]=some (c.map cI,[.sh (.str ⟨w.toArray⟩), .sh (.list (c.map cI)), .ow (dP w []), .no, .no, .no, .no, .no, .no]):=by
    simp only [fU,ab,List.getElem?_cons_succ,List.getElem?_cons_zero,frz,Option.bind_some]
  have at1:atI (dP w c) (w.length:Int)=some (.int (NH.aG w c)):=by
    rw [dP,cL,List.getElem?_map,List.getElem?_map,List.getElem?_range (by omega)]
    simp [NH.je]
  have g:aZ [.str ⟨w.toArray⟩, .list (c.map cI)]=(dO [.sh (.str ⟨w.toArray⟩), .sh (.list (c.map cI)), .no, .no, .no, .no, .no, .no, .no]).bind fun a=>match a.2 with | .rt r=>dJ r | .nx=>some (.sh .none) | _=>none:=rfl
  rw [g,dO,aM s2,aM (kz it e1)]
  rcases i1 with rfl | rfl
  · simp only [bw,ae,ab,List.getElem?_cons_succ,List.getElem?_cons_zero,Sl.isBr,Bool.false_and,Bool.false_eq_true,bH,ag,au,Option.map_some,if_false,dr,dY,look,Sl.val,cV,bM,Option.bind_some,aO,ln,lw,if_true,at1,dJ,cK,bV]
  · simp only [bw,ae,ab,List.getElem?_cons_succ,List.getElem?_cons_zero,Sl.isBr,Bool.false_and,Bool.false_eq_true,bH,ag,au,Option.map_some,if_false,dr,dY,look,Sl.val,cV,bM,Option.bind_some,aO,ln,lw,if_true,Option.any_some,at1,dJ,cK,bV]
theorem pc {p:P2} {f g:bD} {E E1 E2:List Sl} {s1 s2:Sl} (hf:f E=some (s1,E1)) (hg:g E1=some (s2,E2)):ae p false f g E=p E2 s1 s2:=by
  unfold ae
  rw [hf,Option.bind_some]
  show (g E1).bind _=_
  rw [hg]
  rfl
abbrev tx (w:List Nat):PyData:= .str ⟨w.toArray⟩
theorem iq (w:List Nat):(⟨w.toArray⟩:Str).length=w.length:=by show w.toArray.size=_;simp
theorem kB:∀L:List (List Nat),aW (L.map tx)=true
  | []=>rfl
  | w::L=>by simp [aW,bV,kB L]
theorem uK (self:List PyData→Option Sl) (a:Nat) (u:List Nat) (hu:(a::u).length≤1000000):∀(L:List (List Nat)) (x:Sl),(∀w∈L,w.length≤1000)→e9 aE e8 (av self) (L.map tx) [x, .sh (tx (a::u))]=some ((L.map (a:: ·)).map tx)
  | [],x,_=>rfl
  | w::L,x,h=>by
    have ih:=uK self a u hu L (.sh (tx w)) fun v hv=>h v (List.mem_cons_of_mem _ hv)
    have e0:atI (⟨(a::u).toArray⟩:Str).cps.toList 0=some a:=mC (w:=a::u) (i:=0) (by simp)
    have l1:(⟨#[a]⟩:Str).length+(⟨w.toArray⟩:Str).length≤1000000:=by
      rw [iq]
      have:=h w (List.mem_cons_self ..)
      show 1+w.length≤_
      omega
    have e1:(⟨#[a]⟩:Str)++(⟨w.toArray⟩:Str)=⟨(a::w).toArray⟩:=wL [a] w
    have el:av self [.sh (tx w), .sh (tx (a::u))]=some (.sh (tx (a::w)),[.sh (tx w), .sh (tx (a::u))]):=by
      have i0:ae dY false (ab 1) (pC (.int 0)) [.sh (tx w), .sh (tx (a::u))]=some (.sh (.str ⟨#[a]⟩),[.sh (tx w), .sh (tx (a::u))]):=by
        have l2:(⟨(a::u).toArray⟩:Str).length≤1000000:=by rw [iq];exact hu
        simp only [ae,ab,List.getElem?_cons_succ,List.getElem?_cons_zero,Sl.isBr,Bool.false_and,Bool.false_eq_true,pC,dY,look,Sl.val,cV,bM,Option.bind_some,if_false,l2,e0,Option.map_some,if_true]
      unfold av
      rw [pc i0 (g:=ab 0) rfl]
      simp only [aX,look,Sl.val,cV,bM,Bool.not_false,Bool.true_or,Bool.and_true,Option.bind_some,l1,e1,if_true]
    have tg:aE (tx w) [x, .sh (tx (a::u))]=some [.sh (tx w), .sh (tx (a::u))]:=rfl
    rw [List.map_cons,e9,tg,Option.bind_some]
    show ((av self [.sh (tx w), .sh (tx (a::u))]).bind fun c=>(frz c.2 c.1).bind fun e=>(e9 aE e8 (av self) (L.map tx) e.2).map fun r=>e.1::r)=_
    rw [el]
    show ((e9 aE e8 (av self) (L.map tx) [.sh (tx w), .sh (tx (a::u))]).map fun r=>tx (a::w)::r)=_
    rw [ih]
    rfl
theorem dt:∀(n:Nat) (u v:List Nat),u.length+v.length≤n→∀w∈NH.aL u v,w.length≤n
  | n,[],[],_,w,hw=>by simp [NH.aL] at hw;simp [hw]
  | n+1,a::u,[],h,w,hw=>by
    rw [NH.aL] at hw
    obtain ⟨x,hx,rfl⟩:=List.mem_map.mp hw
    have:=dt n u [] (by simp at h ⊢;omega) x hx
    simp;omega
  | n+1,[],b::v,h,w,hw=>by
    rw [NH.aL] at hw
    obtain ⟨x,hx,rfl⟩:=List.mem_map.mp hw
    have:=dt n [] v (by simp at h ⊢;omega) x hx
    simp;omega
  | n+1,a::u,b::v,h,w,hw=>by
    rw [NH.aL] at hw
    rcases List.mem_append.mp hw with hw | hw
    · rcases List.mem_append.mp hw with hw | hw
      · obtain ⟨x,hx,rfl⟩:=List.mem_map.mp hw
        have:=dt n u (b::v) (by simp at h ⊢;omega) x hx
        simp;omega
      · obtain ⟨x,hx,rfl⟩:=List.mem_map.mp hw
        have:=dt n (a::u) v (by simp at h ⊢;omega) x hx
        simp;omega
    · split at hw
      · obtain ⟨x,hx,rfl⟩:=List.mem_map.mp hw
        have:=dt n u v (by simp at h ⊢;omega) x hx
        simp;omega
      · cases hw
  | 0,_::_,_,h,_,_=>by simp at h
  | 0,[],_::_,h,_,_=>by simp at h
theorem wa {js:List (Option Nat)} {it:kE} {tg:hE} {el:bD} {E E1:List Sl} {ds rs:List PyData} (hi:it E=some (ds,E1)) (hc:e9 tg e8 el ds (gq js E1)=some rs) (hf:aW rs=true) (hl:rs.length≤1000000):gV js it tg e8 el E=some (.ow rs,E1):=by
  unfold gV
  rw [hi,Option.bind_some]
  show (e9 tg e8 el ds (gq js E1)).bind _=_
  rw [hc,Option.bind_some,hf,decide_eq_true hl]
  rfl
theorem yg {i:Nat} {f:bD} {E E1:List Sl} {ds es:List PyData} (h0:E[i]? =some (.ow ds)) (hf:f E=some (.ow es,E1)) (h1:E1[i]? =some (.ow ds)) (hl:ds.length+es.length≤1000000):dX (e_ i f) E=some (E1.set i (.ow (ds++es)), .nx):=by
  unfold dX e_
  rw [h0]
  simp only [hf,Option.bind_some,h1,if_pos hl,Option.map_some]
theorem uL {c:List PyData→Option Sl} {g:kT} {E E1:List Sl} {ds:List PyData} (h:aw c g E=some (.ow ds,E1)):fU (aw c g) E=some (ds,E1):=by
  unfold fU
  rw [h]
  rfl
theorem uM:(PyData.str "")=tx []:=rfl
theorem uN (w:List Nat):r8 (tx w) (tx [])=some (decide (w=[])):=by
  rw [lY]
  congr 1
  exact decide_eq_decide.mpr text_inj
theorem eN (w:List Nat) (i:Nat) (E:List Sl) (h:E[i]? =some (.sh (tx w))):cF (ae kU false (ab i) (pC (.str ""))) E=some (!decide (w=[]),E):=by
  have e:=uN w
  simp only [cF,ae,ab,h,Sl.isBr,Bool.false_and,Bool.false_eq_true,pC,uM,kU,dE,look,Sl.val,Option.bind_some,if_false,e,Option.map_some]
theorem i8 (w:List Nat) (i:Nat) (E:List Sl) (h:E[i]? =some (.sh (tx w))):cF (ae gP false (ab i) (pC (.str ""))) E=some (decide (w=[]),E):=by
  have e:=uN w
  simp only [cF,ae,ab,h,Sl.isBr,Bool.false_and,Bool.false_eq_true,pC,uM,gP,dE,look,Sl.val,Option.bind_some,if_false,e,Option.map_some]
theorem mG {a b:g8} {E E1:List Sl} (h:a E=some (false,E1)):eB a b E=some (false,E1):=by
  unfold eB
  rw [h]
  rfl
theorem f_ {a b:g8} {E E1:List Sl} {r:Option (Bool×List Sl)} (h:a E=some (true,E1)) (k:b E1=r):eB a b E=r:=by
  unfold eB
  rw [h]
  exact k
theorem rT (a:Nat) (u:List Nat) (hu:(a::u).length≤1000000) (i:Nat) (E:List Sl) (h:E[i]? =some (.sh (tx (a::u)))):gR false (ab i) (dG (pC (.int 1))) eY E=some (.sh (tx u),E):=by
  have e:=o_ (a::u) 1 (by simp)
  rw [show ((1:Nat):Int)=1 from rfl] at e
  have l:(⟨(a::u).toArray⟩:Str).length≤1000000:=by rw [iq];exact hu
  simp only [gR,ab,h,Sl.isBr,Bool.false_and,Bool.false_eq_true,dG,pC,look,Sl.val,Option.bind_some,eY,cV,bM,if_false,l,e,List.drop_succ_cons,List.drop_zero,if_true]
theorem uO (a b:Nat) (u v:List Nat) (x:Sl) (hu:(a::u).length≤1000000) (hv:(b::v).length≤1000000):cF (ae gP false (ae dY false (ab 0) (pC (.int 0))) (ae dY false (ab 1) (pC (.int 0)))) [.sh (tx (a::u)), .sh (tx (b::v)),x]=some (decide (a=b),[.sh (tx (a::u)), .sh (tx (b::v)),x]):=by
  have e0:atI (⟨(a::u).toArray⟩:Str).cps.toList 0=some a:=mC (w:=a::u) (i:=0) (by simp)
  have e1:atI (⟨(b::v).toArray⟩:Str).cps.toList 0=some b:=mC (w:=b::v) (i:=0) (by simp)
  have l0:(⟨(a::u).toArray⟩:Str).length≤1000000:=by rw [iq];exact hu
  have l1:(⟨(b::v).toArray⟩:Str).length≤1000000:=by rw [iq];exact hv
  have i0:ae dY false (ab 0) (pC (.int 0)) [.sh (tx (a::u)), .sh (tx (b::v)),x]=some (.sh (.str ⟨#[a]⟩),[.sh (tx (a::u)), .sh (tx (b::v)),x]):=by simp only [ae,ab,List.getElem?_cons_zero,Sl.isBr,Bool.false_and,Bool.false_eq_true,pC,dY,look,Sl.val,cV,bM,Option.bind_some,if_false,l0,e0,Option.map_some,if_true]
  have i1:ae dY false (ab 1) (pC (.int 0)) [.sh (tx (a::u)), .sh (tx (b::v)),x]=some (.sh (.str ⟨#[b]⟩),[.sh (tx (a::u)), .sh (tx (b::v)),x]):=by simp only [ae,ab,List.getElem?_cons_succ,List.getElem?_cons_zero,Sl.isBr,Bool.false_and,Bool.false_eq_true,pC,dY,look,Sl.val,cV,bM,Option.bind_some,if_false,l1,e1,Option.map_some,if_true]
  unfold cF
  rw [pc i0 i1]
  have e2:r8 (.str ⟨#[a]⟩) (.str ⟨#[b]⟩)=some (decide (a=b)):=by
    rw [lY]
    congr 1
    exact decide_eq_decide.mpr ⟨fun z=>by simpa using text_inj.mp (show (⟨[a].toArray⟩:Str)=⟨[b].toArray⟩ from z),fun z=>by rw [z]⟩
  simp only [gP,dE,look,Sl.val,Option.bind_some,e2,Option.map_some]
theorem yh {f g:cR} {E E1:List Sl} {r:Sl} (h:f E=some (E1, .rt r)):aB f g E=some (E1, .rt r):=by
  unfold aB
  rw [h]
  rfl
theorem eO {f g:bD} {E:List Sl} {s1 s2:Sl} (hf:f E=some (s1,E)) (hb:s1.isBr=false) (hg:g E=some (s2,E)):ag false f (ag false g au) E=some ([s1,s2],E):=by
  simp only [ag,hf,Sl.isBr,Bool.false_and,Bool.false_eq_true,au,Option.map_some,if_false,Option.bind_some,hg]
theorem iJ (self:List PyData→Option Sl) (a:Nat) (x0 x1:Sl) (j:Nat) (w:List Nat) (hw:(a::w).length≤1000000) (hj:gq [none,some j] [x0,x1, .ow ds]=[.no, .sh (tx (a::w))]) (g:kT) (u v:List Nat) (acc L:List (List Nat)) (hd:ds=acc.map tx)
    (ha:g [x0,x1, .ow ds]=some ([.sh (tx u), .sh (tx v)],[x0,x1, .ow ds])) (hs:self [tx u,tx v]=some (.ow (L.map tx))) (hL:∀w∈L,w.length≤1000) (hl:acc.length+L.length≤1000000):
    dX (e_ 2 (gV [none,some j] (fU (aw self g)) aE e8 (av self))) [x0,x1, .ow ds]=some ([x0,x1, .ow ((acc++L.map (a:: ·)).map tx)], .nx):=by
  subst hd
  have c:=wa (js:=[none,some j]) (tg:=aE) (el:=av self) (uL (ce ha rfl hs)) (by rw [hj];exact uK self a w hw L .no hL) (kB _) (by simp;omega)
  have e:=yg (i:=2) (ds:=acc.map tx) rfl c rfl (by simp;omega)
  rw [e,List.map_append]
  rfl
theorem i9:∀(n:Nat) (u v:List Nat),u.length+v.length < n→u.length+v.length≤10→am n [tx u,tx v]=some (.ow ((NH.aL u v).map tx))
  | 0,_,_,h,_=>by omega
  | n+1,u,v,h,h10=>by
    have g:am (n+1) [tx u,tx v]=(bL (am n) [.sh (tx u), .sh (tx v), .no]).bind fun a=>match a.2 with | .rt r=>dJ r | .nx=>some (.sh .none) | _=>none:=rfl
    have lim:∀(u v:List Nat),u.length+v.length≤10→(NH.aL u v).length≤59049∧∀w∈NH.aL u v,w.length≤1000:=fun u v hh=>⟨by
      have h1:=fc _ u v (Nat.le_refl _)
      have h2:3 ^ (u.length+v.length)≤3 ^ 10:=Nat.pow_le_pow_right (by omega) hh
      have h3:(3:Nat) ^ 10=59049:=by decide
      omega,fun w hw=>by have:=dt _ u v (Nat.le_refl _) w hw;omega⟩
    have s2:∀x0 x1 x2:Sl,aA 2 (eC ck) [x0,x1,x2]=some ([x0,x1, .ow (([]:List (List Nat)).map tx)], .nx):=fun _ _ _=>rfl
    have ret:∀(x0 x1:Sl) (L:List (List Nat)),bw (ab 2) [x0,x1, .ow (L.map tx)]=some ([x0,x1, .no], .rt (.ow (L.map tx))):=fun _ _ _=>rfl
    have fin:∀L:List (List Nat),dJ (.ow (L.map tx))=some (.ow (L.map tx)):=fun L=>by simp only [dJ,cK,kB,if_true]
    rw [g,bL,show de=aE from rfl,show dg=aE from rfl,show df (am n)=av (am n) from rfl,show dh (am n)=av (am n) from rfl]
    cases u with
    | nil=>
      cases v with
      | nil=>
        have b1:bx (eB (cF (ae gP false (ab 0) (pC (.str "")))) (cF (ae gP false (ab 1) (pC (.str ""))))) (bw (eC (bb (pC (.str "")) ck))) bh [.sh (tx []), .sh (tx []), .no]=some ([.sh (tx []), .sh (tx []), .no], .rt (.ow [tx []])):=
          i7 (f_ (i8 [] 0 _ rfl) (i8 [] 1 _ rfl)) rfl
        rw [yh b1,NH.aL]
        exact fin [[]]
      | cons b v=>
        have ih:=i9 n [] v (by simp at h ⊢;omega) (by simp at h10 ⊢;omega)
        obtain ⟨l1,l2⟩:=lim [] v (by simp at h10 ⊢;omega)
        have hb:(b::v).length≤1000000:=by simp at h10 ⊢;omega
        have b1:bx (eB (cF (ae gP false (ab 0) (pC (.str "")))) (cF (ae gP false (ab 1) (pC (.str ""))))) (bw (eC (bb (pC (.str "")) ck))) bh [.sh (tx []), .sh (tx (b::v)), .no]=some ([.sh (tx []), .sh (tx (b::v)), .no], .nx):=
          gZ (f_ (i8 [] 0 _ rfl) (i8 (b::v) 1 _ rfl)) rfl
        have m:=iJ (am n) b (.sh (tx [])) (.sh (tx (b::v))) 1 v hb rfl _ [] v [] (NH.aL [] v) rfl (eO (f:=ab 0) (s1:= .sh (tx [])) rfl rfl (rT b v hb 1 [.sh (tx []), .sh (tx (b::v)), .ow (([]:List (List Nat)).map tx)] rfl)) ih l2 (by simp;omega)
        rw [aM b1,aM (s2 _ _ _),aM (gZ (eN [] 0 [.sh (tx []), .sh (tx (b::v)), .ow (([]:List (List Nat)).map tx)] rfl) rfl),aM (i7 (eN (b::v) 1 [.sh (tx []), .sh (tx (b::v)), .ow (([]:List (List Nat)).map tx)] rfl) m)]
        rw [aM (gZ (mG (eN [] 0 [.sh (tx []), .sh (tx (b::v)), .ow ((([]:List (List Nat))++(NH.aL [] v).map (b:: ·)).map tx)] rfl)) rfl),ret,NH.aL]
        exact fin _
    | cons a u=>
      have ha:(a::u).length≤1000000:=by simp at h10 ⊢;omega
      cases v with
      | nil=>
        have ih:=i9 n u [] (by simp at h ⊢;omega) (by simp at h10 ⊢;omega)
        obtain ⟨l1,l2⟩:=lim u [] (by simp at h10 ⊢;omega)
        have b1:bx (eB (cF (ae gP false (ab 0) (pC (.str "")))) (cF (ae gP false (ab 1) (pC (.str ""))))) (bw (eC (bb (pC (.str "")) ck))) bh [.sh (tx (a::u)), .sh (tx []), .no]=some ([.sh (tx (a::u)), .sh (tx []), .no], .nx):=
          gZ (mG (i8 (a::u) 0 _ rfl)) rfl
        have m:=iJ (am n) a (.sh (tx (a::u))) (.sh (tx [])) 0 u ha rfl _ u [] [] (NH.aL u []) rfl (eO (g:=ab 1) (s2:= .sh (tx [])) (rT a u ha 0 [.sh (tx (a::u)), .sh (tx []), .ow (([]:List (List Nat)).map tx)] rfl) rfl rfl) ih l2 (by simp;omega)
        rw [aM b1,aM (s2 _ _ _),aM (i7 (eN (a::u) 0 [.sh (tx (a::u)), .sh (tx []), .ow (([]:List (List Nat)).map tx)] rfl) m),aM (gZ (eN [] 1 [.sh (tx (a::u)), .sh (tx []), .ow ((([]:List (List Nat))++(NH.aL u []).map (a:: ·)).map tx)] rfl) rfl)]
        rw [aM (gZ (f_ (eN (a::u) 0 [.sh (tx (a::u)), .sh (tx []), .ow ((([]:List (List Nat))++(NH.aL u []).map (a:: ·)).map tx)] rfl) (mG (eN [] 1 [.sh (tx (a::u)), .sh (tx []), .ow ((([]:List (List Nat))++(NH.aL u []).map (a:: ·)).map tx)] rfl))) rfl),ret,NH.aL]
        exact fin _
      | cons b v=>
        have hb:(b::v).length≤1000000:=by simp at h10 ⊢;omega
        have i1:=i9 n u (b::v) (by simp at h ⊢;omega) (by simp at h10 ⊢;omega)
        have i2:=i9 n (a::u) v (by simp at h ⊢;omega) (by simp at h10 ⊢;omega)
        have i3:=i9 n u v (by simp at h ⊢;omega) (by simp at h10 ⊢;omega)
        obtain ⟨l1,k1⟩:=lim u (b::v) (by simp at h10 ⊢;omega)
        obtain ⟨l2,k2⟩:=lim (a::u) v (by simp at h10 ⊢;omega)
        obtain ⟨l3,k3⟩:=lim u v (by simp at h10 ⊢;omega)
        have b1:bx (eB (cF (ae gP false (ab 0) (pC (.str "")))) (cF (ae gP false (ab 1) (pC (.str ""))))) (bw (eC (bb (pC (.str "")) ck))) bh [.sh (tx (a::u)), .sh (tx (b::v)), .no]=some ([.sh (tx (a::u)), .sh (tx (b::v)), .no], .nx):=
          gZ (mG (i8 (a::u) 0 _ rfl)) rfl
        have m1:=iJ (am n) a (.sh (tx (a::u))) (.sh (tx (b::v))) 0 u ha rfl _ u (b::v) [] (NH.aL u (b::v)) rfl (eO (g:=ab 1) (s2:= .sh (tx (b::v))) (rT a u ha 0 [.sh (tx (a::u)), .sh (tx (b::v)), .ow (([]:List (List Nat)).map tx)] rfl) rfl rfl) i1 k1 (by simp;omega)
        generalize hA1:[]++(NH.aL u (b::v)).map (a:: ·)=A1 at m1
        have z1:A1.length=(NH.aL u (b::v)).length:=by rw [←hA1];simp
        have m2:=iJ (am n) b (.sh (tx (a::u))) (.sh (tx (b::v))) 1 v hb rfl _ (a::u) v A1 (NH.aL (a::u) v) rfl (eO (f:=ab 0) (s1:= .sh (tx (a::u))) rfl rfl (rT b v hb 1 [.sh (tx (a::u)), .sh (tx (b::v)), .ow (A1.map tx)] rfl)) i2 k2 (by omega)
        generalize hA2:A1++(NH.aL (a::u) v).map (b:: ·)=A2 at m2
        have z2:A2.length=A1.length+(NH.aL (a::u) v).length:=by rw [←hA2];simp
        have m3:=iJ (am n) a (.sh (tx (a::u))) (.sh (tx (b::v))) 0 u ha rfl _ u v A2 (NH.aL u v) rfl (eO (rT a u ha 0 [.sh (tx (a::u)), .sh (tx (b::v)), .ow (A2.map tx)] rfl) rfl (rT b v hb 1 [.sh (tx (a::u)), .sh (tx (b::v)), .ow (A2.map tx)] rfl)) i3 k3 (by omega)
        rw [aM b1,aM (s2 _ _ _),aM (i7 (eN (a::u) 0 [.sh (tx (a::u)), .sh (tx (b::v)), .ow (([]:List (List Nat)).map tx)] rfl) m1),aM (i7 (eN (b::v) 1 [.sh (tx (a::u)), .sh (tx (b::v)), .ow (A1.map tx)] rfl) m2)]
        have t1:=eN (a::u) 0 [.sh (tx (a::u)), .sh (tx (b::v)), .ow (A2.map tx)] rfl
        have t2:=eN (b::v) 1 [.sh (tx (a::u)), .sh (tx (b::v)), .ow (A2.map tx)] rfl
        have t3:=uO a b u v (.ow (A2.map tx)) ha hb
        by_cases e:a=b
        · rw [decide_eq_true e] at t3
          rw [aM (i7 (f_ t1 (f_ t2 t3)) m3),ret,NH.aL,if_pos e,←hA2,←hA1]
          exact fin _
        · rw [decide_eq_false e] at t3
          rw [aM (gZ (f_ t1 (f_ t2 t3)) rfl),ret,NH.aL,if_neg e,List.append_nil,←hA2,←hA1]
          exact fin _
def iu (D:Tb):List (aP×PyData):=D.map fun p=>(Sum.inr (cT p.1), .int p.2)
theorem qr (k:List Nat):∀D:Tb,km (iu D) (Sum.inr (cT k))=if NH.hW D k then some (.int (NH.bS D k)) else none
  | []=>rfl
  | p::D=>by
    have ih:=qr k D
    show km ((Sum.inr (cT p.1), .int p.2)::iu D) _=_
    rw [km,NH.bS]
    have hk:NH.hW (p::D) k=(decide (p.1=k)||NH.hW D k):=rfl
    by_cases e:p.1=k
    · rw [if_pos (tk_inj.mpr e),hk,decide_eq_true e,if_pos e];rfl
    · rw [if_neg (fun z=>e (tk_inj.mp z)),ih,hk,decide_eq_false e,if_neg e];rfl
theorem qu (k:List Nat):∀D:Tb,((iu D).any fun kv=>decide (kv.1=(Sum.inr (cT k):aP)))=NH.hW D k
  | []=>rfl
  | p::D=>by
    have ih:=qu k D
    show (decide ((Sum.inr (cT p.1):aP)=Sum.inr (cT k))||(iu D).any _)=(decide (p.1=k)||NH.hW D k)
    rw [ih]
    congr 1
    exact decide_eq_decide.mpr tk_inj
theorem wb (D:Tb) (k:List Nat) (n:Int):rH (iu D) (Sum.inr (cT k)) (.int n)=iu (NH.fJ D k n):=by
  unfold rH NH.fJ
  rw [qu]
  split
  · show List.map _ (List.map _ D)=List.map _ (List.map _ D)
    rw [List.map_map,List.map_map]
    refine List.map_congr_left fun p _=>?_
    simp only [Function.comp]
    by_cases e:p.1=k
    · rw [if_pos (tk_inj.mpr e),if_pos e]
    · rw [if_neg (fun z=>e (tk_inj.mp z)),if_neg e]
  · simp [iu]
theorem qv:∀D:Tb,lm (iu D)=some D
  | []=>rfl
  | p::D=>by
    show (lm (iu D)).map _=_
    rw [qv D]
    simp
theorem yi (x0 x1 a:Sl) (D:Tb) (hD:D.length < 1000000) (w:List Nat):(di (tx w) [x0,x1, .oi (iu D),a]).bind dl=some ([x0,x1, .oi (iu (NH.fJ D w (NH.bS D w+1))), .sh (tx w)], .nx):=by
  have tg:di (tx w) [x0,x1, .oi (iu D),a]=some [x0,x1, .oi (iu D), .sh (tx w)]:=rfl
  have gt:qf 2 (ab 3) (pC (.int 0)) [x0,x1, .oi (iu D), .sh (tx w)]=some (.sh (.int (NH.bS D w)),[x0,x1, .oi (iu D), .sh (tx w)]):=by
    have h:=qr w D
    show (match km (iu D) (Sum.inr (cT w)) with
      | some d=>some (Sl.sh d,[x0,x1, .oi (iu D), .sh (tx w)])
      | none=>if bV (.int 0) then some (Sl.sh (.int 0),[x0,x1, .oi (iu D), .sh (tx w)]) else none)=_
    rw [h]
    by_cases e:NH.hW D w=true
    · rw [if_pos e]
    · rw [if_neg e,NH.jz fun z=>e (NH.hasK_iff.mpr z)]
      rfl
  have ad:=nV gt (f:=pC (.int 1)) (y:=1) rfl
  rw [tg,Option.bind_some,dl,ur,ad,Option.bind_some]
  show (if (iu D).length < 1000000 then some ([x0,x1,Sl.oi (rH (iu D) (Sum.inr (cT w)) (.int (NH.bS D w+1))), .sh (tx w)],Fl.nx) else none)=_
  rw [if_pos (by simpa [iu] using hD),wb]
theorem uP (x0 x1:Sl):∀(L:List (List Nat)) (D:Tb) (a:Sl),D.length+L.length < 1000000→∃a',bp di dl (L.map tx) [x0,x1, .oi (iu D),a]=some ([x0,x1, .oi (iu (lq L D)),a'], .nx)
  | [],D,a,_=>⟨a,rfl⟩
  | w::L,D,a,h=>by
    have l:=jB D w (NH.bS D w+1)
    obtain ⟨a',e⟩:=uP x0 x1 L (NH.fJ D w (NH.bS D w+1)) (.sh (tx w)) (by simp at h;omega)
    refine ⟨a',?_⟩
    rw [List.map_cons,bp,yi x0 x1 a D (by simp at h;omega) w]
    exact e
theorem yj (u v:List Nat) (h10:u.length+v.length≤10):cy [tx u,tx v]=some (.ow ((bW (lq (NH.aL u v) [])).map cN)):=by
  have e1:=i9 12 u v (by omega) h10
  have il:(NH.aL u v).length≤59049:=by
    have h1:=fc _ u v (Nat.le_refl _)
    have h2:3 ^ (u.length+v.length)≤3 ^ 10:=Nat.pow_le_pow_right (by omega) h10
    have h3:(3:Nat) ^ 10=59049:=by decide
    omega
  have tl:=qj (NH.aL u v) []
  obtain ⟨a',lp⟩:=uP (.sh (tx u)) (.sh (tx v)) (NH.aL u v) [] .no (by simp;omega)
  have g:cy [tx u,tx v]=(fM [.sh (tx u), .sh (tx v), .no, .no]).bind fun a=>match a.2 with | .rt r=>dJ r | .nx=>some (.sh .none) | _=>none:=rfl
  have it:fU (aw cO (ag false (ab 0) (ag false (ab 1) au))) [.sh (tx u), .sh (tx v), .oi (iu []), .no]=some ((NH.aL u v).map tx,[.sh (tx u), .sh (tx v), .oi (iu []), .no]):=
    uL (ce (eO (f:=ab 0) (g:=ab 1) (s1:= .sh (tx u)) (s2:= .sh (tx v)) rfl rfl rfl) rfl e1)
  have srt:bw (gK 2) [.sh (tx u), .sh (tx v), .oi (iu (lq (NH.aL u v) [])),a']=some ([.sh (tx u), .sh (tx v), .oi (iu (lq (NH.aL u v) [])),a'], .rt (.ow ((bW (lq (NH.aL u v) [])).map cN))):=by
    have q:gK 2 [.sh (tx u), .sh (tx v), .oi (iu (lq (NH.aL u v) [])),a']=some (.ow ((bW (lq (NH.aL u v) [])).map cN),[.sh (tx u), .sh (tx v), .oi (iu (lq (NH.aL u v) [])),a']):=by
      unfold gK
      simp only [List.getElem?_cons_succ,List.getElem?_cons_zero,qv,Option.bind_some]
      rw [if_pos (by simp only [List.length_nil] at tl;omega)]
    unfold bw
    rw [q]
    rfl
  rw [g,fM,aM (show aA 2 uo [.sh (tx u), .sh (tx v), .no, .no]=some ([.sh (tx u), .sh (tx v), .oi (iu []), .no], .nx) from rfl),aM (kz it lp),srt]
  show dJ (.ow ((bW (lq (NH.aL u v) [])).map cN))=_
  simp only [dJ,cK,qh,if_true]
theorem qw (cell most bd:Int) (hM:0≤most) (hM2:most≤900):∀(n lo:Nat) (acc:List Nat) (a b:Sl),lo+n≤1000→acc.length+n≤1000→(∀x∈acc,x < 128)→
    ∃(w:List Nat) (a' b':Sl),bp cD cE (gd lo n) [.sh (.int cell), .sh (.int most), .sh (.int bd), .sh (.str ⟨acc.toArray⟩),a,b]=some ([.sh (.int cell), .sh (.int most), .sh (.int bd), .sh (.str ⟨w.toArray⟩),a',b'], .nx)∧w.length=acc.length+n∧∀x∈w,x < 128
  | 0,lo,acc,a,b,_,_,hx=>⟨acc,a,b,rfl,rfl,hx⟩
  | n+1,lo,acc,a,b,h1,h2,hx=>by
    obtain ⟨z,ez⟩:=kw cell (70+lo) (by omega)
    rw [show ((70+lo:Nat):Int)=70+(lo:Int) by omega] at ez
    have dd:dF 4=true:=by decide
    have d2:dF (most+1)=true:=kb (by omega) (by omega)
    have m2:bG 2 (lo:Int)=true:=gJ (by decide) (by decide)
    have s0:(0:Int)≤2*(lo:Int):=by omega
    have lb:acc.length+1≤1000000:=by omega
    have ap:∀y:Nat,(⟨acc.toArray⟩:Str)++(⟨#[y]⟩:Str)=⟨(acc++[y]).toArray⟩:=fun y=>wL acc [y]
    have l1:∀y:Nat,(⟨#[y]⟩:Str).length=1:=fun y=>rfl
    have step:∃v:Int,(cD (.int lo) [.sh (.int cell), .sh (.int most), .sh (.int bd), .sh (.str ⟨acc.toArray⟩),a,b]).bind cE=some ([.sh (.int cell), .sh (.int most), .sh (.int bd), .sh (.str ⟨(acc++[l4 (v % 4)]).toArray⟩), .sh (.int lo), .sh (.int v)], .nx):=by
      by_cases c1:(if cell < 0 then -cell else cell) < 1000000000000000000
      · refine ⟨z,?_⟩
        simp only [cD,aH,List.length_cons,List.length_nil,Nat.zero_add,Nat.reduceAdd,Nat.reduceLT,List.set_cons_succ,List.set_cons_zero,if_true,cE,vH,bO,g9,Int.reducePow,Int.reduceNeg,cf,Option.bind_some,aB,aA,ae,ab,List.getElem?_cons_succ,List.getElem?_cons_zero,Sl.isBr,Bool.false_and,Bool.false_eq_true,pC,aX,look,Sl.val,cV,bM,Bool.not_false,Bool.true_or,Bool.and_true,if_false,dE,gH,d2,Option.map_some,b6,m2,s0,decide_true,PL.settle,frz,frzAll,bx,cF,bH,ag,au,kF,Int.reduceLE,Int.reduceLT,and_self,Int.reduceToNat,dL,Cm.i,Cm.s,aw,bh,dY,fH,aO,c1,ez,iU,kA,l1,lb,ap]
      · refine ⟨bd / (most+1) / 2 ^ (2*(lo:Int)).toNat,?_⟩
        simp only [cD,aH,List.length_cons,List.length_nil,Nat.zero_add,Nat.reduceAdd,Nat.reduceLT,List.set_cons_succ,List.set_cons_zero,if_true,cE,vH,bO,g9,Int.reducePow,Int.reduceNeg,cf,Option.bind_some,aB,aA,ae,ab,List.getElem?_cons_succ,List.getElem?_cons_zero,Sl.isBr,Bool.false_and,Bool.false_eq_true,pC,aX,look,Sl.val,cV,bM,Bool.not_false,Bool.true_or,Bool.and_true,if_false,dE,gH,d2,Option.map_some,b6,m2,s0,decide_true,PL.settle,frz,frzAll,bx,cF,bH,ag,au,kF,Int.reduceLE,Int.reduceLT,and_self,Int.reduceToNat,dL,Cm.i,Cm.s,aw,bh,dY,fH,aO,c1,decide_false,ez,iU,kA,l1,lb,ap]
    obtain ⟨v,e⟩:=step
    obtain ⟨w,a',b',e2,l2,l3⟩:=qw cell most bd hM hM2 n (lo+1) (acc++[l4 (v % 4)]) (.sh (.int lo)) (.sh (.int v)) (by omega) (by simp;omega) (fun x hx'=>(List.mem_append.mp hx').elim (hx x) fun z=>by rw [List.mem_singleton.mp z];exact wz _)
    refine ⟨w,a',b',?_,by rw [l2];simp;omega,l3⟩
    rw [fG,bp,e]
    exact e2
theorem qx (cell most:Int) (hM:0≤most) (hM2:most≤900):∃w:List Nat,bU [.int cell, .int most]=some (.sh (.str ⟨w.toArray⟩))∧(w.length:Int)≤most∧∀x∈w,x < 128:=by
  have m0:=Int.emod_nonneg (cell / 2) (show most+1≠0 by omega)
  have m1:=Int.emod_lt_of_pos (cell / 2) (show (0:Int) < most+1 by omega)
  obtain ⟨w,a',b',e,l,l3⟩:=qw cell most (cell / 2) hM hM2 (cell / 2 % (most+1)).toNat 0 [] .no .no (by omega) (by simp;omega) (fun _ z=>nomatch z)
  refine ⟨w,?_,by rw [l];simp;omega,l3⟩
  have dd:dF 2=true:=by decide
  have d2:dF (most+1)=true:=kb (by omega) (by omega)
  have hb: -1000000≤cell / 2 % (most+1)∧cell / 2 % (most+1)≤1000000:=by omega
  have e0:("":Str)=⟨([]:List Nat).toArray⟩:=rfl
  simp only [Int.natCast_zero] at e
  have k0:(0:Int) < most+1:=by omega
  simp only [bU,hJ,List.length_cons,List.length_nil,Nat.zero_add,Nat.reduceAdd,jk,gM,aB,aA,ae,ab,cn,List.map_cons,List.map_nil,Nat.reduceSub,List.replicate,List.cons_append,List.nil_append,List.getElem?_cons_zero,Sl.isBr,Bool.false_and,Bool.false_eq_true,pC,bO,dE,look,Sl.val,gH,Option.bind_some,if_false,dd,if_true,Option.map_some,PL.settle,frz,frzAll,Nat.reduceLT,List.set_cons_succ,List.set_cons_zero,e0,eQ,dR,ag,aX,cV,bM,Bool.not_false,Bool.true_or,Bool.and_true,cf,au,Int.reduceNeg,bw,List.getElem?_cons_succ,k0,decide_true,aO,hb,and_self,e,dJ,cK,bV]
def KL (L:List Kp):Prop:=∀x∈L,∀a∈x.1,a < 128
theorem zF:∀{w:List Nat},(∀a∈w,a < 128)→PyData.canLay0 (.str ⟨w.toArray⟩)=true:=fun {w} h=>by
  simp only [PyData.canLay0,PyData.strOk]
  simp
  intro a ha
  have:=h a ha
  omega
theorem uQ:∀{L:List Kp},KL L→PyData.canLayAll0 (L.map cN)=true∧PyData.depthAll (L.map cN)≤1
  | [],_=>by simp [PyData.canLayAll0,PyData.depthAll]
  | x::L,h=>by
    obtain ⟨a,b⟩:=uQ (L:=L) fun y hy=>h y (List.mem_cons_of_mem _ hy)
    have l:=zF (h x (List.mem_cons_self ..))
    rw [PyData.canLay0] at l
    simp only [List.map_cons,PyData.canLayAll0,PyData.depthAll,a,cN,PyData.canLay0,PyData.depth,l]
    constructor
    · decide
    · omega
theorem rV {L:List Kp} (h:KL L):SeqAt.shaped (.list (L.map cN))=true:=by
  obtain ⟨a,b⟩:=uQ h
  unfold SeqAt.shaped
  simp only [PyData.canLay0,PyData.depth,a,Bool.true_and]
  exact decide_eq_true (by omega)
theorem uR:∀L:List Kp,PyData.eqvAll (L.map cN) (L.map cN)=true
  | []=>by simp [PyData.eqvAll]
  | w::L=>by
    simp only [List.map_cons,PyData.eqvAll,uR L,Bool.and_true]
    simp [cN,PyData.eqv,PyData.eqvAll]
theorem wc {L:List Kp} (h:KL L):r8 (.list (L.map cN)) (.list (L.map cN))=some true:=by
  have e:r8 (.list (L.map cN)) (.list (L.map cN))=(if SeqAt.shaped (.list (L.map cN))&&SeqAt.shaped (.list (L.map cN)) then some (PyData.eqv (.list (L.map cN)) (.list (L.map cN))) else none):=rfl
  rw [e,rV h]
  simp only [PyData.eqv,uR,Bool.and_self,if_true]
theorem yk {x:Kp} (h:∀a∈x.1,a < 128):r8 (.tuple [.str ⟨x.1.toArray⟩, .int x.2]) (.tuple [.str ⟨x.1.toArray⟩, .int x.2])=some true:=by
  have e:r8 (.tuple [.str ⟨x.1.toArray⟩, .int x.2]) (.tuple [.str ⟨x.1.toArray⟩, .int x.2])=(if SeqAt.shaped (.tuple [.str ⟨x.1.toArray⟩, .int x.2])&&SeqAt.shaped (.tuple [.str ⟨x.1.toArray⟩, .int x.2]) then some (PyData.eqv (.tuple [.str ⟨x.1.toArray⟩, .int x.2]) (.tuple [.str ⟨x.1.toArray⟩, .int x.2])) else none):=rfl
  have l:=zF h
  rw [PyData.canLay0] at l
  have sh:SeqAt.shaped (.tuple [.str ⟨x.1.toArray⟩, .int x.2])=true:=by
    unfold SeqAt.shaped
    simp [PyData.canLay0,PyData.canLayAll0,PyData.depth,PyData.depthAll,l]
  rw [e,sh]
  simp [PyData.eqv,PyData.eqvAll]
theorem uS (L:List Kp) (h:KL L) (k:Nat) (hk:k < L.length) (a:Sl):(cA (.int k) [.sh (.list (L.map cN)), .sh (.list (L.map cN)),a]).bind cB=some ([.sh (.list (L.map cN)), .sh (.list (L.map cN)), .sh (.int k)], .nx):=by
  have ix:atI (L.map cN) (k:Int)=some (.tuple [.str ⟨L[k].1.toArray⟩, .int L[k].2]):=by
    rw [cL,List.getElem?_map,List.getElem?_eq_getElem hk];rfl
  have dq:=yk (h L[k] (List.getElem_mem hk))
  simp only [cA,aH,List.length_cons,List.length_nil,Nat.zero_add,Nat.reduceAdd,Nat.reduceLT,List.set_cons_succ,List.set_cons_zero,if_true,cB,kU,Option.bind_some,aB,bx,gl,gS,jU,oB,ae,ab,List.getElem?_cons_zero,Sl.isBr,Bool.false_and,Bool.false_eq_true,dY,look,Sl.val,cV,bM,if_false,List.getElem?_cons_succ,ix,Option.map_some,m_,Ty.is,yt,m4,Bool.not_true,cF,bH,ag,au,dr,pC,dE,aO,Int.cast_ofNat_Int,dC,decide_true,za,bw,bh,zb,dq]
theorem nZ (L:List Kp) (h:KL L):∀(n k:Nat) (a:Sl),k+n=L.length→∃a',bp cA cB (gd k n) [.sh (.list (L.map cN)), .sh (.list (L.map cN)),a]=some ([.sh (.list (L.map cN)), .sh (.list (L.map cN)),a'], .nx)
  | 0,k,a,_=>⟨a,rfl⟩
  | n+1,k,a,hn=>by
    obtain ⟨a',e⟩:=nZ L h n (k+1) (.sh (.int k)) (by omega)
    refine ⟨a',?_⟩
    rw [fG,bp,uS L h k (by omega) a]
    exact e
theorem uT (L:List Kp) (h:KL L) (hl:L.length≤1000000):bB [.list (L.map cN), .list (L.map cN)]=some (.sh (.bool true)):=by
  obtain ⟨a',lp⟩:=nZ L h L.length 0 .no (by omega)
  have b1: -1000000≤(L.length:Int)∧(L.length:Int)≤1000000:=by omega
  simp only [Int.natCast_zero] at lp
  simp only [bB,hJ,List.length_cons,List.length_nil,Nat.zero_add,Nat.reduceAdd,jk,fg,aB,bx,gl,gS,jU,oB,ab,cn,List.map_cons,List.map_nil,Nat.reduceSub,List.replicate,List.cons_append,List.nil_append,List.getElem?_cons_zero,look,Sl.val,m_,Ty.is,yt,Option.map_some,Option.bind_some,m4,Bool.not_true,cF,ae,bH,ag,Sl.isBr,Bool.false_and,Bool.false_eq_true,au,if_false,dr,kU,dE,aO,List.length_map,List.getElem?_cons_succ,dC,decide_true,bw,pC,bh,eQ,dR,Int.reduceNeg,b1,and_self,Int.toNat_natCast,if_true,lp,dJ,cK,bV]
theorem qy {f:List Nat→Int}:∀{L:List (List Nat)},(∀w∈L,f w=0)→NH.nD f L=0
  | [],_=>rfl
  | w::L,h=>by
    have ih:=qy (L:=L) fun v hv=>h v (List.mem_cons_of_mem _ hv)
    show f w+NH.nD f L=0
    rw [h w (List.mem_cons_self ..),ih]
    rfl
theorem qz {u v:List Nat} {D:Tb} (a:Mrg u v D) {p:Kp} (hp:p∈D):p.1∈NH.aL u v:=by
  refine Classical.byContradiction fun h=>?_
  have e:=NH.ma a.nd hp
  rw [←NH.tW a.nd,a.fv] at e
  have z:NH.Sw u v (fun w=>if w=p.1 then 1 else 0)=0:=qy fun w hw=>if_neg fun (y:w=p.1)=>h (y▸hw)
  rw [z] at e
  have:=a.ps p hp
  omega
theorem gO:∀(n:Nat) (u v:List Nat),u.length+v.length≤n→∀w∈NH.aL u v,∀x∈w,x∈u∨x∈v
  | n,[],[],_,w,hw,x,hx=>by simp [NH.aL] at hw;rw [hw] at hx;cases hx
  | n+1,a::u,[],h,w,hw,x,hx=>by
    rw [NH.aL] at hw
    obtain ⟨y,hy,rfl⟩:=List.mem_map.mp hw
    rcases List.mem_cons.mp hx with e | hx
    · exact .inl (by simp [e])
    · exact (gO n u [] (by simp at h ⊢;omega) y hy x hx).imp (List.mem_cons_of_mem _) id
  | n+1,[],b::v,h,w,hw,x,hx=>by
    rw [NH.aL] at hw
    obtain ⟨y,hy,rfl⟩:=List.mem_map.mp hw
    rcases List.mem_cons.mp hx with e | hx
    · exact .inr (by simp [e])
    · exact (gO n [] v (by simp at h ⊢;omega) y hy x hx).imp id (List.mem_cons_of_mem _)
  | n+1,a::u,b::v,h,w,hw,x,hx=>by
    rw [NH.aL] at hw
    rcases List.mem_append.mp hw with hw | hw
    · rcases List.mem_append.mp hw with hw | hw
      · obtain ⟨y,hy,rfl⟩:=List.mem_map.mp hw
        rcases List.mem_cons.mp hx with e | hx
        · exact .inl (by simp [e])
        · exact (gO n u (b::v) (by simp at h ⊢;omega) y hy x hx).imp (List.mem_cons_of_mem _) id
      · obtain ⟨y,hy,rfl⟩:=List.mem_map.mp hw
        rcases List.mem_cons.mp hx with e | hx
        · exact .inr (by simp [e])
        · exact (gO n (a::u) v (by simp at h ⊢;omega) y hy x hx).imp id (List.mem_cons_of_mem _)
    · split at hw
      · obtain ⟨y,hy,rfl⟩:=List.mem_map.mp hw
        rcases List.mem_cons.mp hx with e | hx
        · exact .inl (by simp [e])
        · exact (gO n u v (by simp at h ⊢;omega) y hy x hx).imp (List.mem_cons_of_mem _) (List.mem_cons_of_mem _)
      · cases hw
  | 0,_::_,_,h,_,_,_,_=>by simp at h
  | 0,[],_::_,h,_,_,_,_=>by simp at h
structure Told (u v:List Nat) (L:List Kp):Prop where
  kl:KL L
  small:∀x∈L,0 < x.2∧x.2≤59049∧x.1.length≤10
  len:L.length≤1000000
  sum:∀c:List Pc,NH.fv L (fun w=>NH.aG w c)=NH.aG u c*NH.aG v c
theorem wd {u v:List Nat} (h10:u.length+v.length≤10) (hu:∀x∈u,x < 128) (hv:∀x∈v,x < 128):Told u v (bW (ms v u (kj v) v.length)):=by
  have m:=mw u v
  have pm:∀x,x∈bW (ms v u (kj v) v.length)↔x∈ms v u (kj v) v.length:=fun x=>(List.mergeSort_perm _ nJ).mem_iff
  have sm:Sm (0+u.length) v.length (ms v u (kj v) v.length):=ul (r:=u) (f:=kj v) (i:=0) (fun j hj=>⟨by show 1≤3 ^ (0+j);exact Nat.one_le_pow _ _ (by omega),fun p hp=>by rw [List.mem_singleton.mp hp];simp;omega⟩) v.length (Nat.le_refl _)
  refine ⟨fun x hx a ha=>?_,fun x hx=>?_,?_,fun c=>rL m c⟩
  · exact (gO _ u v (Nat.le_refl _) x.1 (qz m ((pm x).mp hx)) a ha).elim (hu a) (hv a)
  · obtain ⟨a,b⟩:=rM m h10 x ((pm x).mp hx)
    exact ⟨a,b,by have:=dt _ u v (Nat.le_refl _) x.1 (qz m ((pm x).mp hx));omega⟩
  · have e:(bW (ms v u (kj v) v.length)).length=(ms v u (kj v) v.length).length:=(List.mergeSort_perm _ nJ).length_eq
    have h2:3 ^ (0+u.length+v.length)≤3 ^ 10:=Nat.pow_le_pow_right (by omega) (by omega)
    have h3:(3:Nat) ^ 10=59049:=by decide
    have:=sm.1
    omega
def zO (s:Sl):Sl:=match s with
  | .ow _=> .al 6
  | s=>s
def zP (s:Sl) (L:List Kp):Prop:=s= .sh (.list (L.map cN))∨s= .ow (L.map cN)
theorem ym (x0 x1 x2 x3 x4 x5 a b s6:Sl) (c:List Pc) (h6:Aq s6 c) (hl:c.length≤90) (hc:CordOk c) (t:Int) (x:Kp) (hx:0 < x.2∧x.2≤59049∧x.1.length≤10):(gy (cN x) [x0,x1,x2,x3,x4,x5,s6, .sh (.int t),a,b]).bind gz=some ([x0,x1,x2,x3,x4,x5,s6, .sh (.int (t+x.2*NH.aG x.1 c)), .sh (tx x.1), .sh (.int x.2)], .nx):=by
  have e:=f9 x.1 c (by omega) (mE (by omega) hl hc)
  have tg:gy (cN x) [x0,x1,x2,x3,x4,x5,s6, .sh (.int t),a,b]=some [x0,x1,x2,x3,x4,x5,s6, .sh (.int t), .sh (tx x.1), .sh (.int x.2)]:=rfl
  have ar:(ag false (ab 8) (ag false (ab 6) au)) [x0,x1,x2,x3,x4,x5,s6, .sh (.int t), .sh (tx x.1), .sh (.int x.2)]=some ([.sh (tx x.1),zO s6],[x0,x1,x2,x3,x4,x5,s6, .sh (.int t), .sh (tx x.1), .sh (.int x.2)]):=by
    rcases h6 with rfl | rfl <;> rfl
  have lk:aO [x0,x1,x2,x3,x4,x5,s6, .sh (.int t), .sh (tx x.1), .sh (.int x.2)] [.sh (tx x.1),zO s6]=some [tx x.1, .list (c.map cI)]:=by
    rcases h6 with rfl | rfl <;> rfl
  have q:=ce ar lk e
  have ml:=nU (g:=ab 9) (x:=x.2) rfl q (gJ (by omega) (by omega))
  have ad:=nV (g:=ab 7) (x:=t) rfl ml
  rw [tg,Option.bind_some,gz]
  exact mF ad (i:=7) (by show 7 < 10;decide)
theorem uU (x0 x1 x2 x3 x4 x5 s6:Sl) (c:List Pc) (h6:Aq s6 c) (hl:c.length≤90) (hc:CordOk c):∀(L:List Kp) (t:Int) (a b:Sl),cJ a=a→cJ b=b→(∀x∈L,0 < x.2∧x.2≤59049∧x.1.length≤10)→∃a' b',cJ a'=a'∧cJ b'=b'∧bp gy gz (L.map cN) [x0,x1,x2,x3,x4,x5,s6, .sh (.int t),a,b]=some ([x0,x1,x2,x3,x4,x5,s6, .sh (.int (t+NH.fv L (fun w=>NH.aG w c))),a',b'], .nx)
  | [],t,a,b,ha,hb,_=>⟨a,b,ha,hb,by rw [show NH.fv ([]:Tb) (fun w=>NH.aG w c)=0 from rfl,Int.add_zero];rfl⟩
  | x::L,t,a,b,ha,hb,h=>by
    have hx:=h x (List.mem_cons_self ..)
    obtain ⟨a',b',ha',hb',r⟩:=uU x0 x1 x2 x3 x4 x5 s6 c h6 hl hc L (t+x.2*NH.aG x.1 c) (.sh (tx x.1)) (.sh (.int x.2)) rfl rfl fun y hy=>h y (List.mem_cons_of_mem _ hy)
    have e:t+NH.fv (x::L) (fun w=>NH.aG w c)=t+x.2*NH.aG x.1 c+NH.fv L (fun w=>NH.aG w c):=by rw [NH.dD];omega
    refine ⟨a',b',ha',hb',?_⟩
    rw [List.map_cons,bp,ym x0 x1 x2 x3 x4 x5 a b s6 c h6 hl hc t x hx,e]
    exact r
theorem rW (ns:List Int) (hl:ns.length≤63) (most:Int) (hm:most=4∨most=5) (x2 x3 s4 x6 x7 x8 x9:Sl) (h2:cJ x2=x2) (h3:cJ x3=x3) (h7:cJ x7=x7) (h8:cJ x8=x8) (h9:cJ x9=x9) (L:List Kp) (h4:zP s4 L) (k:Nat) (hk:k≤1):∃c s4' s6,zP s4' L∧Aq s6 c∧c.length≤10∧CordOk c∧
    aA 6 (aw bP (ag false (aw cr (ag false (ab 0) (ag false (ae b6 false (pC (.int 30)) (ab 5)) (ag false (ae aX false (ae b6 false (pC (.int 30)) (ab 5)) (pC (.int 30))) (ag false (ae cS false (pC (.int 34)) (ae b6 false (pC (.int 6)) (ab 1))) au))))) au)) [.sh (.list (ns.map .int)), .sh (.int most),x2,x3,s4, .sh (.int k),x6,x7,x8,x9]=some ([.sh (.list (ns.map .int)), .sh (.int most),x2,x3,s4', .sh (.int k),s6,x7,x8,x9], .nx):=by
  obtain ⟨c0,e0,l0,n0⟩:=nS ns (30*(k:Int)) (30*(k:Int)+30) (34 - 6*most) (by omega) (by omega) (by omega) hl
  obtain ⟨c1,r,e1,hr,l1,n1⟩:=nT c0 (by omega) n0
  have m1:bG 30 (k:Int)=true:=gJ (by decide) (by decide)
  have m2:bG 6 most=true:=gJ (by decide) (by decide)
  simp only [cJ,Sl.val] at h2 h3 h7 h8 h9
  rcases hr with rfl | rfl
  · refine ⟨c1, .sh (.list (L.map cN)), .sh (.list (c1.map cI)), .inl rfl, .inl rfl,by omega,n1,?_⟩
    rcases h4 with rfl | rfl
    · simp only [aA,aw,ag,ab,List.getElem?_cons_zero,Sl.isBr,Bool.false_and,Bool.false_eq_true,ae,pC,b6,look,Sl.val,Int.reduceNeg,cV,bM,if_false,Option.bind_some,Bool.not_false,Bool.true_or,Bool.and_true,aX,cS,dE,gH,if_true,au,Option.map_some,List.getElem?_cons_succ,m1,m2,aO,e0,e1,PL.settle,frz,frzAll,bV,List.map_cons,cJ,h2,h3,h7,h8,h9,List.map_nil,List.length_cons,List.length_nil,Nat.zero_add,Nat.reduceAdd,Nat.reduceLT,List.set_cons_succ,List.set_cons_zero]
    · simp only [aA,aw,ag,ab,List.getElem?_cons_zero,Sl.isBr,Bool.false_and,Bool.false_eq_true,ae,pC,b6,look,Sl.val,Int.reduceNeg,cV,bM,if_false,Option.bind_some,Bool.not_false,Bool.true_or,Bool.and_true,aX,cS,dE,gH,if_true,au,Option.map_some,List.getElem?_cons_succ,m1,m2,aO,e0,e1,PL.settle,frz,frzAll,bV,List.map_cons,cJ,h2,h3,h7,h8,h9,List.map_nil,List.length_cons,List.length_nil,Nat.zero_add,Nat.reduceAdd,Nat.reduceLT,List.set_cons_succ,List.set_cons_zero]
  · refine ⟨c1,s4, .ow (c1.map cI),h4, .inr rfl,by omega,n1,?_⟩
    simp only [aA,aw,ag,ab,List.getElem?_cons_zero,Sl.isBr,Bool.false_and,Bool.false_eq_true,ae,pC,b6,look,Sl.val,Int.reduceNeg,cV,bM,if_false,Option.bind_some,Bool.not_false,Bool.true_or,Bool.and_true,aX,cS,dE,gH,if_true,au,Option.map_some,List.getElem?_cons_succ,m1,m2,aO,e0,e1,PL.settle,frz,frzAll,List.length_cons,List.length_nil,Nat.zero_add,Nat.reduceAdd,Nat.reduceLT,List.set_cons_succ,List.set_cons_zero]
theorem ly {w:List Nat} {c:List Pc} (h:o8 w c):(NH.aG w c).natAbs < 2 ^ 20000:=by
  have:=qk h (c1:=c) (Nat.le_refl _) (Nat.le_refl _) w.length
  rw [NH.je,List.take_length] at this
  exact this
theorem jy {i j:Int} (hi:i.natAbs < 2 ^ 20000) (hj:j.natAbs < 2 ^ 20000):bG i j=true:=by
  have e:((2 ^ 20000:Nat):Int)=n6:=by unfold n6;exact Int.natCast_pow 2 20000
  unfold bG
  generalize n6=z at *
  generalize (2 ^ 20000:Nat)=y at *
  simp only [Bool.or_eq_true,decide_eq_true_eq]
  exact .inr (by omega)
theorem uV (ns:List Int) (hl:ns.length≤63) (most:Int) (hm:most=4∨most=5) (u v:List Nat) (h10:u.length+v.length≤10) (L:List Kp) (T:Told u v L) (s4 x5 x6 x7 x8 x9:Sl) (h4:zP s4 L) (h7:cJ x7=x7) (h8:cJ x8=x8) (h9:cJ x9=x9) (k:Nat) (hk:k≤1):∃s4' y6 y7 y8 y9,zP s4' L∧cJ y7=y7∧cJ y8=y8∧cJ y9=y9∧
    (fN (.int k) [.sh (.list (ns.map .int)), .sh (.int most), .sh (tx u), .sh (tx v),s4,x5,x6,x7,x8,x9]).bind fO=some ([.sh (.list (ns.map .int)), .sh (.int most), .sh (tx u), .sh (tx v),s4', .sh (.int k),y6,y7,y8,y9], .nx):=by
  have tg:fN (.int k) [.sh (.list (ns.map .int)), .sh (.int most), .sh (tx u), .sh (tx v),s4,x5,x6,x7,x8,x9]=some [.sh (.list (ns.map .int)), .sh (.int most), .sh (tx u), .sh (tx v),s4, .sh (.int k),x6,x7,x8,x9]:=rfl
  obtain ⟨c,s4',s6,h4',h6,lc,hc,e1⟩:=rW ns hl most hm (.sh (tx u)) (.sh (tx v)) s4 x6 x7 x8 x9 rfl rfl h7 h8 h9 L h4 k hk
  obtain ⟨a',b',ha,hb,lp⟩:=uU (.sh (.list (ns.map .int))) (.sh (.int most)) (.sh (tx u)) (.sh (tx v)) (.sh (.list (L.map cN))) (.sh (.int k)) s6 c h6 (by omega) hc L 0 x8 x9 h8 h9 T.small
  rw [Int.zero_add,T.sum] at lp
  have it:fU (ab 4) [.sh (.list (ns.map .int)), .sh (.int most), .sh (tx u), .sh (tx v),s4', .sh (.int k),s6, .sh (.int 0),x8,x9]=some (L.map cN,[.sh (.list (ns.map .int)), .sh (.int most), .sh (tx u), .sh (tx v), .sh (.list (L.map cN)), .sh (.int k),s6, .sh (.int 0),x8,x9]):=by
    rcases h4' with rfl | rfl <;> rfl
  have fu:=mE (w:=u) (by omega) (by omega) hc
  have fv:=mE (w:=v) (by omega) (by omega) hc
  have eu:=f9 u c (by omega) fu
  have ev:=f9 v c (by omega) fv
  have ar:∀(i:Nat) (w:List Nat),([.sh (.list (ns.map .int)), .sh (.int most), .sh (tx u), .sh (tx v), .sh (.list (L.map cN)), .sh (.int k),s6, .sh (.int (NH.aG u c*NH.aG v c)),a',b']:List Sl)[i]? =some (.sh (tx w))→(ag false (ab i) (ag false (ab 6) au)) [.sh (.list (ns.map .int)), .sh (.int most), .sh (tx u), .sh (tx v), .sh (.list (L.map cN)), .sh (.int k),s6, .sh (.int (NH.aG u c*NH.aG v c)),a',b']=some ([.sh (tx w),zO s6],[.sh (.list (ns.map .int)), .sh (.int most), .sh (tx u), .sh (tx v), .sh (.list (L.map cN)), .sh (.int k),s6, .sh (.int (NH.aG u c*NH.aG v c)),a',b']):=fun i w hi=>by
    have q:ab i [.sh (.list (ns.map .int)), .sh (.int most), .sh (tx u), .sh (tx v), .sh (.list (L.map cN)), .sh (.int k),s6, .sh (.int (NH.aG u c*NH.aG v c)),a',b']=some (.sh (tx w),[.sh (.list (ns.map .int)), .sh (.int most), .sh (tx u), .sh (tx v), .sh (.list (L.map cN)), .sh (.int k),s6, .sh (.int (NH.aG u c*NH.aG v c)),a',b']):=by
      unfold ab;rw [hi]
    exact eO q rfl (by rcases h6 with rfl | rfl <;> rfl)
  have lk:∀w:List Nat,aO [.sh (.list (ns.map .int)), .sh (.int most), .sh (tx u), .sh (tx v), .sh (.list (L.map cN)), .sh (.int k),s6, .sh (.int (NH.aG u c*NH.aG v c)),a',b'] [.sh (tx w),zO s6]=some [tx w, .list (c.map cI)]:=fun w=>by
    rcases h6 with rfl | rfl <;> rfl
  have ml:=nU (ce (ar 2 u rfl) (lk u) eu) (ce (ar 3 v rfl) (lk v) ev) (jy (ly fu) (ly fv))
  have ne:=ye (g:=ab 7) (x:=NH.aG u c*NH.aG v c) rfl ml
  have cd:cF (ae kU false (ab 7) (ae b6 false (aw aZ (ag false (ab 2) (ag false (ab 6) au))) (aw aZ (ag false (ab 3) (ag false (ab 6) au))))) [.sh (.list (ns.map .int)), .sh (.int most), .sh (tx u), .sh (tx v), .sh (.list (L.map cN)), .sh (.int k),s6, .sh (.int (NH.aG u c*NH.aG v c)),a',b']=some (false,[.sh (.list (ns.map .int)), .sh (.int most), .sh (tx u), .sh (tx v), .sh (.list (L.map cN)), .sh (.int k),s6, .sh (.int (NH.aG u c*NH.aG v c)),a',b']):=by
    unfold cF
    rw [ne]
    simp
  refine ⟨_,s6, .sh (.int (NH.aG u c*NH.aG v c)),a',b', .inl rfl,rfl,ha,hb,?_⟩
  rw [tg,Option.bind_some,fO,aM e1,aM (show aA 7 (pC (.int 0)) [.sh (.list (ns.map .int)), .sh (.int most), .sh (tx u), .sh (tx v),s4', .sh (.int k),s6,x7,x8,x9]=some ([.sh (.list (ns.map .int)), .sh (.int most), .sh (tx u), .sh (tx v),s4', .sh (.int k),s6, .sh (.int 0),x8,x9], .nx) from rfl),aM (kz it lp)]
  exact gZ cd rfl
theorem uW (ns:List Int) (hl:ns.length≤63) (most:Int) (hm:most=4∨most=5) (u v:List Nat) (h10:u.length+v.length≤10) (L:List Kp) (T:Told u v L):∃E,bp fN fO (gd 0 2) [.sh (.list (ns.map .int)), .sh (.int most), .sh (tx u), .sh (tx v), .ow (L.map cN), .no, .no, .no, .no, .no]=some (E, .nx):=by
  obtain ⟨s4,y6,y7,y8,y9,a4,a7,a8,a9,e1⟩:=uV ns hl most hm u v h10 L T (.ow (L.map cN)) .no .no .no .no .no (.inr rfl) rfl rfl rfl 0 (by omega)
  obtain ⟨s4',z6,z7,z8,z9,b4,b7,b8,b9,e2⟩:=uV ns hl most hm u v h10 L T s4 (.sh (.int ((0:Nat):Int))) y6 y7 y8 y9 a4 a7 a8 a9 1 (by omega)
  refine ⟨[.sh (.list (ns.map .int)), .sh (.int most), .sh (tx u), .sh (tx v),s4', .sh (.int ((1:Nat):Int)),z6,z7,z8,z9],?_⟩
  have r:gd 0 2=[.int ((0:Nat):Int), .int ((1:Nat):Int)]:=rfl
  rw [r,bp,e1]
  show bp fN fO [.int ((1:Nat):Int)] _=_
  rw [bp,e2]
  rfl
theorem uX (u v:List Nat) (h10:u.length+v.length≤10):aI [tx u,tx v]=some (.ow ((bW (ms v u (kj v) v.length)).map cN)):=by
  show (if (⟨u.toArray⟩:Str).length+(⟨v.toArray⟩:Str).length≤10 then _ else none)=_
  rw [iq,iq,if_pos h10]
theorem we (ns:List Int):∃most:Int,(most=4∨most=5)∧aA 1 (ae aX false (pC (.int 4)) (bH re (ag false (ae gP false (ae cf false (aw bn (ag false (ab 0) (ag false (pC (.int 2)) au))) (pC (.int 4))) (pC (.int 1))) au))) [.sh (.list (ns.map .int)), .no, .no, .no, .no, .no, .no, .no, .no, .no]=some ([.sh (.list (ns.map .int)), .sh (.int most), .no, .no, .no, .no, .no, .no, .no, .no], .nx):=by
  have ea:=gN ns 2
  rw [show ((2:Nat):Int)=2 from rfl] at ea
  have dd:dF 4=true:=by decide
  by_cases h:ns.getD 2 0 % 4=1
  · exact ⟨5, .inr rfl,by simp only [aA,ae,pC,Sl.isBr,Bool.false_and,Bool.false_eq_true,bH,ag,aw,ab,au,Option.map_some,if_false,Option.bind_some,cf,dE,look,Sl.val,gH,gP,re,aX,cV,bM,List.getElem?_cons_zero,aO,ea,Int.reduceLT,decide_true,h,if_true,dC,Bool.not_false,Bool.true_or,Bool.and_true,Int.reduceAdd,PL.settle,frz,frzAll,List.length_cons,List.length_nil,Nat.zero_add,Nat.reduceAdd,Nat.reduceLT,List.set_cons_succ,List.set_cons_zero]⟩
  · exact ⟨4, .inl rfl,by simp only [aA,ae,pC,Sl.isBr,Bool.false_and,Bool.false_eq_true,bH,ag,aw,ab,au,Option.map_some,if_false,Option.bind_some,cf,dE,look,Sl.val,gH,gP,re,aX,cV,bM,List.getElem?_cons_zero,aO,ea,Int.reduceLT,decide_true,if_true,dC,h,decide_false,Bool.not_false,Bool.true_or,Bool.and_true,Int.reduceAdd,PL.settle,frz,frzAll,List.length_cons,List.length_nil,Nat.zero_add,Nat.reduceAdd,Nat.reduceLT,List.set_cons_succ,List.set_cons_zero]⟩
theorem yn (ns:List Int) (hl:ns.length≤63):ii [.list (ns.map .int)]=some (.sh (.bool true)):=by
  obtain ⟨most,hm,e1⟩:=we ns
  obtain ⟨u,e2,lu,bu⟩:=qx (ns.getD 0 0) most (by omega) (by omega)
  obtain ⟨v,e3,lv,bv⟩:=qx (ns.getD 1 0) most (by omega) (by omega)
  have h10:u.length+v.length≤10:=by omega
  have T:=wd h10 bu bv
  have m1:=uX u v h10
  have m2:=uX v u (by omega)
  rw [show bW (ms u v (kj u) u.length)=bW (ms v u (kj v) v.length) from nN (uD (mw v u)) (mw u v)] at m2
  have du:=yj u v h10
  rw [show bW (lq (NH.aL u v) [])=bW (ms v u (kj v) v.length) from nN (v0 u v) (mw u v)] at du
  generalize bW (ms v u (kj v) v.length)=L at T m1 m2 du
  obtain ⟨E,lp⟩:=uW ns hl most hm u v h10 L T
  have rt:=uT L T.kl T.len
  have a0:=gN ns 0
  have a1:=gN ns 1
  rw [show ((0:Nat):Int)=0 from rfl] at a0
  rw [show ((1:Nat):Int)=1 from rfl] at a1
  have g:ii [.list (ns.map .int)]=(nO [.sh (.list (ns.map .int)), .no, .no, .no, .no, .no, .no, .no, .no, .no]).bind fun a=>match a.2 with | .rt r=>dJ r | .nx=>some (.sh .none) | _=>none:=rfl
  have s2:aA 2 (aw bU (ag false (aw bn (ag false (ab 0) (ag false (pC (.int 0)) au))) (ag false (ab 1) au))) [.sh (.list (ns.map .int)), .sh (.int most), .no, .no, .no, .no, .no, .no, .no, .no]=some ([.sh (.list (ns.map .int)), .sh (.int most), .sh (tx u), .no, .no, .no, .no, .no, .no, .no], .nx):=
    mF (ce (eO (ce (eO (f:=ab 0) (g:=pC (.int 0)) (s1:= .sh (.list (ns.map .int))) (s2:= .sh (.int 0)) rfl rfl rfl) rfl a0) rfl (g:=ab 1) (s2:= .sh (.int most)) rfl) rfl e2) (i:=2) (by show 2 < 10;decide)
  have s3:aA 3 (aw bU (ag false (aw bn (ag false (ab 0) (ag false (pC (.int 1)) au))) (ag false (ab 1) au))) [.sh (.list (ns.map .int)), .sh (.int most), .sh (tx u), .no, .no, .no, .no, .no, .no, .no]=some ([.sh (.list (ns.map .int)), .sh (.int most), .sh (tx u), .sh (tx v), .no, .no, .no, .no, .no, .no], .nx):=
    mF (ce (eO (ce (eO (f:=ab 0) (g:=pC (.int 1)) (s1:= .sh (.list (ns.map .int))) (s2:= .sh (.int 1)) rfl rfl rfl) rfl a1) rfl (g:=ab 1) (s2:= .sh (.int most)) rfl) rfl e3) (i:=3) (by show 3 < 10;decide)
  have c4:=ce (c:=aI) (eO (E:=[.sh (.list (ns.map .int)), .sh (.int most), .sh (tx u), .sh (tx v), .no, .no, .no, .no, .no, .no]) (f:=ab 2) (g:=ab 3) (s1:= .sh (tx u)) (s2:= .sh (tx v)) rfl rfl rfl) rfl m1
  have s4:aA 4 (aw aI (ag false (ab 2) (ag false (ab 3) au))) [.sh (.list (ns.map .int)), .sh (.int most), .sh (tx u), .sh (tx v), .no, .no, .no, .no, .no, .no]=some ([.sh (.list (ns.map .int)), .sh (.int most), .sh (tx u), .sh (tx v), .ow (L.map cN), .no, .no, .no, .no, .no], .nx):=by
    unfold aA
    rw [c4]
    rfl
  have c5:=ce (c:=cy) (eO (E:=[.sh (.list (ns.map .int)), .sh (.int most), .sh (tx u), .sh (tx v), .ow (L.map cN), .no, .no, .no, .no, .no]) (f:=ab 2) (g:=ab 3) (s1:= .sh (tx u)) (s2:= .sh (tx v)) rfl rfl rfl) rfl du
  have c6:=ce (c:=bB) (eO (E:=[.sh (.list (ns.map .int)), .sh (.int most), .sh (tx u), .sh (tx v), .ow (L.map cN), .no, .no, .no, .no, .no]) (f:=ab 4) (s1:= .al 4) rfl rfl c5) rfl rt
  have c7:=ce (c:=aI) (eO (E:=[.sh (.list (ns.map .int)), .sh (.int most), .sh (tx u), .sh (tx v), .ow (L.map cN), .no, .no, .no, .no, .no]) (f:=ab 3) (g:=ab 2) (s1:= .sh (tx v)) (s2:= .sh (tx u)) rfl rfl rfl) rfl m2
  have dq:=wc T.kl
  have t5:gl (gS (jU (aw bB (ag false (ab 4) (ag false (aw cy (ag false (ab 2) (ag false (ab 3) au))) au))))) (cF (ae kU false (aw aI (ag false (ab 3) (ag false (ab 2) au))) (ab 4))) [.sh (.list (ns.map .int)), .sh (.int most), .sh (tx u), .sh (tx v), .ow (L.map cN), .no, .no, .no, .no, .no]=some (false,[.sh (.list (ns.map .int)), .sh (.int most), .sh (tx u), .sh (tx v), .ow (L.map cN), .no, .no, .no, .no, .no]):=by
    refine zE (E1:=[.sh (.list (ns.map .int)), .sh (.int most), .sh (tx u), .sh (tx v), .ow (L.map cN), .no, .no, .no, .no, .no]) ?_ ?_
    · unfold gS jU
      rw [c6]
      rfl
    · unfold cF
      rw [pc c7 (g:=ab 4) (s2:= .al 4) rfl]
      generalize L.map cN=ds at dq
      simp only [kU,dE,look,Sl.val,List.getElem?_cons_succ,List.getElem?_cons_zero,Option.bind_some,dq,Option.map_some,Bool.not_true]
  have it:dR (ag false (pC (.int 2)) au) [.sh (.list (ns.map .int)), .sh (.int most), .sh (tx u), .sh (tx v), .ow (L.map cN), .no, .no, .no, .no, .no]=some (gd 0 2,[.sh (.list (ns.map .int)), .sh (.int most), .sh (tx u), .sh (tx v), .ow (L.map cN), .no, .no, .no, .no, .no]):=rfl
  rw [g,nO,aM e1,aM s2,aM s3,aM s4,aM (gZ t5 rfl),aM (kz it lp)]
  rfl
end Nhk17
namespace Nhk17
open PySem L2 Nh PL
open PySem.W (nsIn codeIn keepIn fnOf)
theorem yo {fd:FuncData} {xs:List Str} (h:∀a0,bindArgs fd ⟨[a0],[]⟩=pure (xs.zip [a0])):∀us:List Value,us.length=1→bindArgs fd ⟨us,[]⟩=pure (xs.zip us)
  | [a0],_=>h a0
theorem mH {fd:FuncData} {xs:List Str} (h:∀a0 a1,bindArgs fd ⟨[a0,a1],[]⟩=pure (xs.zip [a0,a1])):∀us:List Value,us.length=2→bindArgs fd ⟨us,[]⟩=pure (xs.zip us)
  | [a0,a1],_=>h a0 a1
theorem zG {fd:FuncData} {xs:List Str} (h:∀a0 a1 a2,bindArgs fd ⟨[a0,a1,a2],[]⟩=pure (xs.zip [a0,a1,a2])):∀us:List Value,us.length=3→bindArgs fd ⟨us,[]⟩=pure (xs.zip us)
  | [a0,a1,a2],_=>h a0 a1 a2
theorem Ar {fd:FuncData} {xs:List Str} (h:∀a0 a1 a2 a3,bindArgs fd ⟨[a0,a1,a2,a3],[]⟩=pure (xs.zip [a0,a1,a2,a3])):∀us:List Value,us.length=4→bindArgs fd ⟨us,[]⟩=pure (xs.zip us)
  | [a0,a1,a2,a3],_=>h a0 a1 a2 a3
abbrev HD (K:PySem.W.Frag) (n:Str) (st:Stmt):Prop:=∃(f:Addr) (oc:Value) (od an:Option Addr) (sl:Array (Option Value)) (kV dc pm cd ct:Value),nsIn K mainGlobals n=some (some (.ref f))∧K.lookup f=some ⟨oc,od, .func (fnOf n n (dv st) (ca st) (ao st) .none kV dc pm an cd ct),sl⟩∧codeIn K cd n=true∧keepIn K (.ref f)=true
theorem zH {K:PySem.W.Frag} {n:Str} {st:Stmt} {f:Addr} {oc:Value} {od an:Option Addr} {sl:Array (Option Value)} {kV dc pm cd ct:Value} (a:nsIn K mainGlobals n=some (some (.ref f))) (l:K.lookup f=some ⟨oc,od, .func (fnOf n n (dv st) (ca st) (ao st) .none kV dc pm an cd ct),sl⟩) (c:codeIn K cd n=true) (k:keepIn K (.ref f)=true):HD K n st:=⟨f,oc,od,an,sl,kV,dc,pm,cd,ct,a,l,c,k⟩
theorem eP {K:PySem.W.Frag} {h:Heap} {mg:Str→Option Value} {x:Str} {st:Stmt} {ps:List Str} (d:HD K x st) (X:K.In h) (G:h.Ns mainGlobals mg) (b:∀(kV doc pm:Value) (an:Option Addr) (cdv ct:Value) (us:List Value),us.length=ps.length→bindArgs (fnOf x x (dv st) (ca st) (ao st) .none kV doc pm an cdv ct) ⟨us,[]⟩=pure (ps.zip us)):Def K mg x st ps:=by
  obtain ⟨f,oc,od,an,sl,kV,dc,pm,cd,ct,a,l,c,k⟩:=d
  exact xv X G a l c k b
theorem yp {l:PySem.W.OpenLaw} {w:World} {K:PySem.W.Frag} {h:Heap} {mg:Str→Option Value} {fa:Addr} (X:K.In h) (G:h.Ns mainGlobals mg) (hfa:mg "law"=some (.ref fa)) (B:Bn mg)
    (d1:HD K "add_ways" ij)
    (d2:HD K "next_merged" fz)
    (d3:HD K "merged_rows" fA)
    (d4:HD K "_law_at" kr)
    (d5:HD K "_law_mix" i4)
    (d6:HD K "_law_contrary" eM)
    (d7:HD K "_law_pieces" f7)
    (d8:HD K "_law_cord" io)
    (d9:HD K "_law_tame" ip)
    (d10:HD K "_law_chosen" f8)
    (d11:HD K "_law_times" gA)
    (d12:HD K "_law_row" i5)
    (d13:HD K "_law_all_ways" dm)
    (d14:HD K "_law_due" i6)
    (d15:HD K "_law_right" gB)
    (d16:HD K "law" ku):
    ∃fd:FuncData,(∀(s:Shared) (v:Value),BindsTo s fd ⟨[v],[]⟩ [("_law_script",v)])∧∀base:Heap,K.In base→base.Ns mainGlobals mg→FnOk l.prog w K mg base rZ 15 fa fd ["_law_script"] (fQ K ii):=by
  obtain ⟨f0,oc0,od0,an0,sl0,kV0,dc0,pm0,cd0,ct0,a0,l0,c0,k0⟩:=d16
  have e:=hfa.symm.trans (PySem.W.mg_of X G a0)
  cases e
  have F0:=ou (st:=ku) l0 c0 k0
  refine ⟨fnOf "law" "law" (dv ku) (ca ku) (ao ku) .none kV0 dc0 pm0 an0 cd0 ct0,fun s v=> .of_eq rfl,fun base _ _=>?_⟩
  have D_add_ways:=nP (P:=l.prog) (w:=w) (base:=base) (eP d1 X G fun _ _ _ _ _ _=>zG fun _ _ _=>rfl) B
  have D_next_merged:=ko (P:=l.prog) (w:=w) (base:=base) (eP d2 X G fun _ _ _ _ _ _=>zG fun _ _ _=>rfl) B D_add_ways
  have D_merged_rows:=kq (P:=l.prog) (w:=w) (base:=base) (eP d3 X G fun _ _ _ _ _ _=>mH fun _ _=>rfl) B D_next_merged
  have D_law_at:=rO (P:=l.prog) (w:=w) (base:=base) (eP d4 X G fun _ _ _ _ _ _=>mH fun _ _=>rfl) B
  have D_law_mix:=o5 (P:=l.prog) (w:=w) (base:=base) (eP d5 X G fun _ _ _ _ _ _=>mH fun _ _=>rfl) B
  have D_law_contrary:=jr (P:=l.prog) (w:=w) (base:=base) (eP d6 X G fun _ _ _ _ _ _=>yo fun _=>rfl) B
  have D_law_pieces:=kH (P:=l.prog) (w:=w) (base:=base) (eP d7 X G fun _ _ _ _ _ _=>yo fun _=>rfl) B D_law_mix
  have D_law_cord:=nQ (P:=l.prog) (w:=w) (base:=base) (eP d8 X G fun _ _ _ _ _ _=>Ar fun _ _ _ _=>rfl) B D_law_at D_law_contrary D_law_pieces
  have D_law_tame:=nR (P:=l.prog) (w:=w) (base:=base) (eP d9 X G fun _ _ _ _ _ _=>yo fun _=>rfl) B
  have D_law_chosen:=kI (P:=l.prog) (w:=w) (base:=base) (eP d10 X G fun _ _ _ _ _ _=>mH fun _ _=>rfl) B
  have D_law_times:=mz (P:=l.prog) (w:=w) (base:=base) (eP d11 X G fun _ _ _ _ _ _=>mH fun _ _=>rfl) B D_law_chosen
  have D_law_row:=o6 (P:=l.prog) (w:=w) (base:=base) (eP d12 X G fun _ _ _ _ _ _=>mH fun _ _=>rfl) B D_law_mix
  have D_law_all_ways:=jt (P:=l.prog) (w:=w) (base:=base) (eP d13 X G fun _ _ _ _ _ _=>mH fun _ _=>rfl) B
  have D_law_due:=o7 (P:=l.prog) (w:=w) (base:=base) (eP d14 X G fun _ _ _ _ _ _=>mH fun _ _=>rfl) B D_law_all_ways
  have D_law_right:=mB (P:=l.prog) (w:=w) (base:=base) (eP d15 X G fun _ _ _ _ _ _=>mH fun _ _=>rfl) B
  exact yc F0 B D_law_at D_law_row D_merged_rows D_law_due D_law_right D_law_cord D_law_tame D_law_times
theorem pe {K:PySem.W.Frag} {h:Heap} (e:nsIn K mainGlobals "in_told_order"=some none):L2.pV K h:=fun b q z=>by
  unfold jF yA at z
  rw [e] at z
  cases z
theorem As {l:PySem.W.OpenLaw} {q:Program} {loose:List Str} {XP:(Str→Option Value)→Heap→Prop} {YP:World→Heap→Prop} {d:DefRec} {K:Params→PySem.W.Frag} (hn:l.most=some 63) (hdf:d.params.defaults=[])
    (hY:∀(w:World) (h:Heap),YP w h→(K w.params).In h∧pV (K w.params) h)
    (F:∀(w:World) (mg:Str→Option Value) (fa:Addr) (h:Heap),(K w.params).In h→h.Ns mainGlobals mg→mg d.name=some (.ref fa)→
      ∃fd:FuncData,(∀(s:Shared) (u:Value),BindsTo s fd ⟨[u],[]⟩ [("_law_script",u)])∧∀base:Heap,(K w.params).In base→base.Ns mainGlobals mg→FnOk l.prog w (K w.params) mg base rZ 15 fa fd ["_law_script"] (fQ (K w.params) ii)):
    PySem.W.WalkO q loose XP YP l.row.toRowW d [] (fun f vs=>PySem.call f vs):=
  L2.tP (n:=63) (k:=15) (x:="_law_script") (CX:=fun _=>rZ) (sp:=fun w=>fQ (K w.params) ii) hn (by decide) hdf ⟨rfl,by decide,by decide⟩ hY F (fun _ _ a ns hl hS=>xK (yn ns hl) hS) fun _ _ _ _ _ z=>z
end Nhk17
open PySem PySem.W PyProof.Rows
inductive PySem.W.Fast|tw3731961524429634272|tw11453571207218011008|tw973209227132665889|tw13741248303549034017|tw16844622647963320961|tw3665678583427206049|tw12739070466535439778|tw7058187737003707202|tw12536724340672786339|tw15050659666354761668|tw10674269550418783172|tw8468628650775197189|tw15741877784386534373|tw5764648771057994758|tw8812209376209534854|tw3427973500758775143|tw3350675414860309895|tw7149962187277901383|tw12575717257539198695|tw4299188099838898983|tw10596829594077492167|tw255651489375839272|tw6698322033793869992|tw11188283626994540649|tw15402939512046987497|tw13127755466655034921|tw15944786294104447593|tw2009650660263444618|tw16308660831455745514|tw10249561261275047754|tw6660721531182240427|tw15416322771849946412|tw13098158455587836268|tw4964363027866134924|tw10396950023063200204|tw4334660653724403180|tw7384514406415649708|tw10488852349665977357|tw2326432296074853421|tw922676061394879629|tw12646203621452159277|tw13921164503789322829|tw6223137266954109006|tw13038112833671000750|tw369666157136264431|tw11158005157380281615|tw601178552556054511|tw12442846591527380688|tw190106062526441809|tw7819853753929491985|tw6615375141714353873|tw3344636960328373169|tw6938918670687439890|tw11199479283770101395|tw5124403022317551347|tw3732808403912467732|tw3569882376946060660|tw8666124868990212660|tw4067000522061379252|tw14851934330703569652|tw12729586772922613684|tw17768067385226810517|tw7452823186297828565|tw17651499139609026037|tw5510466335623502357|tw1592500163742058101|tw1515425957001752309|tw6915211457354603766|tw10199424246540258838|tw7465692460939694614|tw10338705192236307030|tw508576087047562198|tw16688449322456132471|tw9644576680255493304|tw14712156336837138232|tw8542951232894576793|tw4771814617521435193|tw15472969361215072953|tw3703597070400301913|tw9680186062810943449|tw2625232239026560985|tw15705468845473081402|tw12022332772878585978|tw9898492469189076154|tw8189328655669613882|tw2905615832079904314|tw17539391266561072826|tw14384279090767742714|tw6543943993782482810|tw10229757207066934395|tw17061988391486116379|tw13712032657644724859|tw8699967392497523483|tw8214237603336543452|tw3940776477383434524|tw15713566671501657084|tw3241790538261276893|tw395996247550094717|tw13991226317647944317|tw11964367946703664797|tw13858273877457211261|tw15826825704012519551|tw13863906042452732351|tw7208629342219131391|tw12844298854043644831|tw2485810464378629989
set_option maxRecDepth 100000 in
set_option maxHeartbeats 0 in
theorem PySem.Challenge.cw_nailhang_k17_merged_rows_holds : PySem.Challenge.rw_nailhang_k17_merged_rows.Holds := by
  w_on;o_law;k_head;(case hw=>w_witness2)
  k_fill
  refine Nhk17.As (l:=PySem.Challenge.rw_nailhang_k17_merged_rows) rfl rfl (fun w h Y=>⟨PySem.W.kIn_of Y,Nhk17.pe (by k_is)⟩) ?F
  case F=>
    intro w mg fa h KX G hmg
    refine' Nhk17.yp KX G hmg (PL.zf KX G ?_ ?_ ?_ ?_ ?_ ?_ ?_ ?_ ?_ ?_ ?_ ?_ ?_ ?_ ?_ ?_ ?_ ?_ ?_ ?_) ?_ ?_ ?_ ?_ ?_ ?_ ?_ ?_ ?_ ?_ ?_ ?_ ?_ ?_ ?_ ?_
    all_goals first | (refine' Nhk17.zH ?_ ?_ ?_ ?_ <;> first | k_is | skip) | k_is | exact rfl | kernel_rfl | skip
