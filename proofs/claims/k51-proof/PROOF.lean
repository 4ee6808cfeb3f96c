import PyProof.Rows.All
import KE.KLam
import KE.KNestM
import PyProof.OldK
import Wide.All
import OpenK.AllK
import Wide.FinOn
import Lean
import PyProof.EqAt
import PyProof.EqKinds
import PyProof.TupleCall
import KE.KRevIter
import PyProof.Rows.SeqMore
import PyProof.Rows.ListMulArg
import PyProof.ZipIter
import PyProof.Rows.ZipGen
import PyProof.EnumMake
import PyProof.StrWalks
import PyProof.SliceStr2
import PyProof.StrBlockH
import PyProof.FString5
import PyProof.Rows.StrJoin2
import PyProof.Rows.Range3
import KE.KDictLaws
import PyProof.ConsumeWalk
import PyProof.SumWalkG
import PyProof.Rows.SeqCalls
import PyProof.Rows.SeqGen
import PyProof.Rows.MinMaxN
import PyProof.Rows.CallKwBuiltin
import PyProof.Rows.SortStr
import PyProof.StrOps2
import PyProof.Rows.StrMul
import PyProof.IsRules
import PyProof.Rows.SetFrom
import PyProof.CollectStr
import KE.KTryMore
import PyProof.StrLawsNeg
import PyProof.StrLawsIn
import KE.RegKIsAll
import KE.RegKTryMore
import PySem.Challenge.RW_nailhang_k51_round_and_back
set_option Elab.async false
set_option linter.all false
set_option maxRecDepth 100000
set_option maxHeartbeats 4000000
local macro_rules | `(tactic| omega) => `(tactic| lia)
noncomputable section
namespace L2
open PySem PySem.Spec PyProof.Rows
abbrev cL:=Sum Int Str
def tR:cL→Value→Bool
  | .inl k,v=>Value.isInt k v
  | .inr x,v=>Value.isStrOf x v
def xk (w:World):cL→Int
  | .inl k=>hashInt k
  | .inr x=>hashStr w x
theorem bC:∀{k:cL} {v:Value},tR k v=true→(∃i t,k=Sum.inl i∧v=Value.int i t)∨(∃x t,k=Sum.inr x∧v=Value.str x t)
  | .inl i,v,h=>by
    obtain ⟨t,e⟩:=Value.isInt_shape (k:=i) (v:=v) h
    exact .inl ⟨i,t,rfl,e⟩
  | .inr x,v,h=>by
    obtain ⟨t,e⟩:=Value.isStrOf_shape (x:=x) (v:=v) h
    exact .inr ⟨x,t,rfl,e⟩
theorem ue (a b:Int):decide ((Sum.inl a:cL)=Sum.inl b)=(a == b):=by
  by_cases e:a=b
  · subst e;simp
  · have h:¬(Sum.inl a:cL)=Sum.inl b:=fun q=>e (Sum.inl.inj q)
    rw [decide_eq_false h]
    exact (beq_eq_false_iff_ne.mpr e).symm
theorem uf (a b:Str):decide ((Sum.inr a:cL)=Sum.inr b)=decide (a=b):=by
  by_cases e:a=b
  · subst e;simp
  · have h:¬(Sum.inr a:cL)=Sum.inr b:=fun q=>e (Sum.inr.inj q)
    rw [decide_eq_false h,decide_eq_false e]
theorem ug (a:Int) (b:Str):decide ((Sum.inl a:cL)=Sum.inr b)=false:=decide_eq_false (fun q=>nomatch q)
theorem uh (a:Str) (b:Int):decide ((Sum.inr a:cL)=Sum.inl b)=false:=decide_eq_false (fun q=>nomatch q)
def iA (prog:Program) (w:World):PySem.KeyKind prog w cL where
  is:=tR
  hash:=xk w
  inj:=fun v a b ha hb=>by
    rcases bC ha with ⟨i,t,rfl,rfl⟩ | ⟨x,t,rfl,rfl⟩
    · rcases bC hb with ⟨j,u,rfl,e⟩ | ⟨y,u,rfl,e⟩
      · injection e with e1 _;rw [e1]
      · exact nomatch e
    · rcases bC hb with ⟨j,u,rfl,e⟩ | ⟨y,u,rfl,e⟩
      · exact nomatch e
      · injection e with e1 _;rw [e1]
  byValue:=fun k v h=>by
    rcases bC h with ⟨i,t,rfl,rfl⟩ | ⟨x,t,rfl,rfl⟩ <;> rfl
  pyHash:=fun hv h=>by
    rcases bC hv with ⟨i,t,rfl,rfl⟩ | ⟨x,t,rfl,rfl⟩
    · exact wpAny_pyHash_int h
    · exact wpAny_pyHash_str h
  eqBool:=fun hu hv h=>by
    rcases bC hu with ⟨i,t,rfl,rfl⟩ | ⟨x,t,rfl,rfl⟩
    · rcases bC hv with ⟨j,u,rfl,rfl⟩ | ⟨y,u,rfl,rfl⟩
      · rw [ue] at h;exact wpAny_eqBool_int h
      · rw [ug] at h;exact SeqAt.EqAt.int_str i t y u _ _ _ _ h
    · rcases bC hv with ⟨j,u,rfl,rfl⟩ | ⟨y,u,rfl,rfl⟩
      · rw [uh] at h;exact SeqAt.EqAt.str_int x t j u _ _ _ _ h
      · rw [uf] at h;exact wpAny_eqBool_str h
  «strs»:=fun k x t v h=>by
    rcases bC h with ⟨i,u,rfl,e⟩ | ⟨y,u,rfl,e⟩
    · exact nomatch e
    · injection e with e1 _
      subst e1
      cases v <;> rfl
end L2
namespace L2
open PySem PySem.Spec PyProof.Rows
inductive V where
  | non | bl (b:Bool) | int (i:Int) | str (x:Str) | byt (b:Array UInt8) | flt (b:UInt64) | ref (a:Addr) | ty (n:String)
  deriving DecidableEq
def RelV:V→Value→Prop
  | .non,u=>u=Value.none
  | .bl b,u=>u=Value.bool b
  | .int i,u=>∃t,u=Value.int i t
  | .str x,u=>∃t,u=Value.str x t
  | .byt b,u=>∃t,u=Value.bytes b t
  | .flt b,u=>∃t,u=Value.float b t
  | .ref a,u=>u=Value.ref a
  | .ty n,u=>u=Value.type n
abbrev Vals:List V→List Value→Prop:=Paired RelV
theorem Vals.length {xs:List V} {us:List Value} (r:Vals xs us):xs.length=us.length:=Paired.length r
theorem Vals.get:∀{xs:List V} {us:List Value} {i:Nat} {x:V},Vals xs us→xs[i]? =some x→∃u,us[i]? =some u∧RelV x u
  | _,_,_,_, .nil,e=>by simp at e
  | _,_,0,_, .cons r _,e=>by simp at e;subst e;exact ⟨_,rfl,r⟩
  | _,_,i+1,x, .cons _ t,e=>by
    obtain ⟨u,h1,h2⟩:=Vals.get (i:=i) (x:=x) t (by simpa using e)
    exact ⟨u,by simpa using h1,h2⟩
theorem Vals.set {x:V} {u:Value} (r:RelV x u):∀{xs:List V} {us:List Value} (i:Nat),Vals xs us→Vals (xs.set i x) (us.set i u)
  | _,_,_, .nil=> .nil
  | _,_,0, .cons _ t=> .cons r t
  | _,_,i+1, .cons q t=> .cons q (Vals.set r i t)
theorem Vals.append:∀{xs ys:List V} {us ws:List Value},Vals xs us→Vals ys ws→Vals (xs++ys) (us++ws)
  | _,_,_,_, .nil,s=>s
  | _,_,_,_, .cons r t,s=> .cons r (Vals.append t s)
theorem Vals.take:∀{xs:List V} {us:List Value} (n:Nat),Vals xs us→Vals (xs.take n) (us.take n)
  | _,_,0,_=> .nil
  | _,_,_+1, .nil=> .nil
  | _,_,n+1, .cons r t=> .cons r (Vals.take n t)
theorem Vals.drop:∀{xs:List V} {us:List Value} (n:Nat),Vals xs us→Vals (xs.drop n) (us.drop n)
  | _,_,0,r=>r
  | _,_,_+1, .nil=> .nil
  | _,_,n+1, .cons _ t=>Vals.drop n t
def RelO:Option V→Option Value→Prop
  | some v,some u=>RelV v u
  | none,none=>True
  | _,_=>False
def KV {κ:Type}:List (κ×V)→List (κ×Value)→Prop:=Paired fun (p:κ×V) (q:κ×Value)=>p.1=q.1∧RelV p.2 q.2
def kV:cL→V
  | .inl i=> .int i
  | .inr x=> .str x
inductive HO where
  /-- a list -/
  | lst (xs:List V)
  /-- a tuple (never changes) -/
  | tup (xs:List V)
  /-- a dict whose keys are ints and texts;one whose keys are tuples of ints and texts (the empty one is both) -/
  | dK (kvs:List (cL×V)) | dT (kvs:List (List cL×V))
  /-- a set of ints:its members,its size -/
  | set (S:Int→Bool) (n:Nat)
  /-- an instance of the class at C,its dict at dx,its attributes -/
  | ins (C dx:Addr) (fs:List (Str×V))
  /-- the dict of the instance at x -/
  | own (x:Addr)
  /-- the dict of an exception -/
  | xd (fs:List (Str×V))
  /-- a bound method,f of x -/
  | met (f x:Addr)
  /-- a range object lo,lo+1, .. below hi -/
  | rng (lo hi:Int)
  /-- a thing that is known to the object (the script;a dict while a loop walks it):read,never written while it is so -/
  | frz (o:Obj) (u:HO)
  /-- a code object's table -/
  | tbl (q:Str)
  /-- any other thing,by what is true of its one object (a def of one's own:SetO a S n:=HO.ext fun h=> ..) -/
  | ext (φ:Heap→Prop)
abbrev Hp:=Addr→Option HO
def upd (H:Hp) (a:Addr) (o:HO):Hp:=fun b=>if b=a then some o else H b
theorem bg {H:Hp} {a:Addr} {o:HO}:upd H a o a=some o:=by unfold upd;rw [if_pos rfl]
theorem aC {H:Hp} {a b:Addr} {o:HO} (h:b≠a):upd H a o b=H b:=by unfold upd;rw [if_neg h]
theorem tS {H:Hp} {a b:Addr} {o u:HO} (h:H a=some o) (h':H b=some u) (d:o≠u):a≠b:=by
  intro e;subst e;rw [h] at h';exact d (Option.some.inj h')
theorem bQ {H:Hp} {a b:Addr} {o:HO} (h:H a=some o) (h':H b=none):a≠b:=by
  intro e;subst e;rw [h] at h';cases h'
section
variable (P:Program) (w:World)
def ObjOk (H:Hp) (h:Heap) (a:Addr):HO→Prop
  | .lst xs=>xs.length≤sizeLine∧∃(its:List Value) (n:Nat),Vals xs its∧h.get? a=some {cls:= .type "list",data:= .seq its.toArray n}
  | .tup xs=>xs.length≤sizeLine∧∃its:List Value,Vals xs its∧IsTup h a its.toArray
  | .dK kvs=>kvs.length≤sizeLine∧(a == sysModules)=false∧∃vs,KV kvs vs∧h.DictOf (iA P w) a vs
  | .dT kvs=>kvs.length≤sizeLine∧(a == sysModules)=false∧∃xs:List (List cL×Addr×Value),
      Paired (fun (p:List cL×V) (q:List cL×Addr×Value)=>p.1=q.1∧H q.2.1=some (.tup (p.1.map kV))∧RelV p.2 q.2.2) kvs xs∧
      ∃o es ep,h.get? a=some o∧o.ExactDict∧o.data= .dict es ep∧es.toList=xs.map (entryOfKey (tupleKind (iA P w)))∧(xs.map (·.1)).Nodup
  | .set S n=>h.SetOf (intKind P w) a S n
  | .ins C dx fs=>H dx=some (.own a)∧fs.length≤1000∧dx≠a∧h.get? a=some (PySem.W.instObj C dx)∧
      ∃mA,h.Ns1 dx mA∧(∀f,RelO (fs.lookup f) (mA f))∧PySem.Within mA (fs.map (·.1))
  | .own _=>∃o,h.get? a=some o
  | .xd fs=>∃mA,h.Ns1 a mA∧∀f,RelO (fs.lookup f) (mA f)
  | .rng lo hi=>∃t u v,h.get? a=some {cls:= .type "range",data:= .fields #[.int lo t, .int hi u, .int 1 v]}
  | .frz o u=>h.get? a=some o∧ObjOk H h a u
  | .tbl q=>∃ps:Array Value,h.get? a=some (PySem.W.tabObj ps)∧TriplesOk ps.toList∧∀pos cv,codeAmong pos ps.toList=some cv→∃c,cv=Value.ref c∧H c=some (.own a)∧h.CodeRec cv q
  | .met f x=>h.get? a=some (PySem.W.methodObj (.ref f) (.ref x))
  | .ext φ=>φ h∧(∃o,h.get? a=some o)∧∀h1 h2:Heap,φ h1→(∀o,h1.get? a=some o→h2.get? a=some o)→φ h2
def HOk (H:Hp) (h:Heap):Prop:=∀a o,H a=some o→ObjOk P w H h a o
end
section
variable {P:Program} {w:World} {H H':Hp} {h h':Heap} {a:Addr} {o:HO}
theorem ObjOk.lt (x:ObjOk P w H h a o):a < h.objs.size:=by
  cases o with
  | lst xs=>obtain ⟨_,_,_,_,e⟩:=x;exact Heap.lt_size e
  | tup xs=>obtain ⟨_,_,_,p⟩:=x;exact p.lt
  | dK kvs=>obtain ⟨_,_,_,_,o,_,_,e,_⟩:=x;exact Heap.lt_size e
  | dT kvs=>obtain ⟨_,_,_,_,o,_,_,e,_⟩:=x;exact Heap.lt_size e
  | set S n=>obtain ⟨o,_,_,_,e,_⟩:=x;exact Heap.lt_size e
  | ins C dx fs=>obtain ⟨_,_,_,e,_⟩:=x;exact Heap.lt_size e
  | own y=>obtain ⟨_,e⟩:=x;exact Heap.lt_size e
  | xd fs=>obtain ⟨_,⟨_,_,_,e,_⟩,_⟩:=x;exact Heap.lt_size e
  | rng lo hi=>obtain ⟨_,_,_,e⟩:=x;exact Heap.lt_size e
  | frz ob u=>obtain ⟨e,_⟩:=x;exact Heap.lt_size e
  | tbl q=>obtain ⟨_,e,_⟩:=x;exact Heap.lt_size e
  | met f y=>exact Heap.lt_size (show h.get? a=some _ from x)
  | ext φ=>obtain ⟨_,⟨_,e⟩,_⟩:=x;exact Heap.lt_size e
theorem Paired.mapP {α β:Type} {F G:α→β→Prop} {l₁:List α} {l₂:List β} (h:Paired F l₁ l₂) (f:∀a b,F a b→G a b):Paired G l₁ l₂:=by
  induction h with
  | nil=>exact .nil
  | cons r _ t=>exact .cons (f _ _ r) t
theorem ObjOk.stay (x:ObjOk P w H h a o) (k:∀b u,(b=a∨H b=some (.own a))→h.get? b=some u→h'.get? b=some u)
    (ho:∀b,H b=some (.own a)→H' b=some (.own a)) (ht:∀b xs,H b=some (.tup xs)→H' b=some (.tup xs)):ObjOk P w H' h' a o:=by
  induction o with
  | lst xs=>obtain ⟨z,its,n,r,e⟩:=x;exact ⟨z,its,n,r,k _ _ (.inl rfl) e⟩
  | tup xs=>obtain ⟨z,its,r,ob,e,c⟩:=x;exact ⟨z,its,r,ob,k _ _ (.inl rfl) e,c⟩
  | dK kvs=>obtain ⟨z,y,vs,r,ob,es,ep,e,c⟩:=x;exact ⟨z,y,vs,r,ob,es,ep,k _ _ (.inl rfl) e,c⟩
  | dT kvs=>
    obtain ⟨z,y,xs,r,ob,es,ep,e,c⟩:=x
    exact ⟨z,y,xs,Paired.mapP r fun p q z=>⟨z.1,ht _ _ z.2.1,z.2.2⟩,ob,es,ep,k _ _ (.inl rfl) e,c⟩
  | set S n=>obtain ⟨ob,es,ep,t,e,c⟩:=x;exact ⟨ob,es,ep,t,k _ _ (.inl rfl) e,c⟩
  | ins C dx fs=>
    obtain ⟨d,z,ne,e,mA,⟨od,es,ep,e2,c⟩,r⟩:=x
    exact ⟨ho _ d,z,ne,k _ _ (.inl rfl) e,mA,⟨od,es,ep,k _ _ (.inr d) e2,c⟩,r⟩
  | own y=>obtain ⟨ob,e⟩:=x;exact ⟨ob,k _ _ (.inl rfl) e⟩
  | xd fs=>obtain ⟨mA,⟨od,es,ep,e,c⟩,r⟩:=x;exact ⟨mA,⟨od,es,ep,k _ _ (.inl rfl) e,c⟩,r⟩
  | rng lo hi=>obtain ⟨t,u,v,e⟩:=x;exact ⟨t,u,v,k _ _ (.inl rfl) e⟩
  | frz ob u ih=>obtain ⟨e,q⟩:=x;exact ⟨k _ _ (.inl rfl) e,ih q⟩
  | tbl q=>
    obtain ⟨ps,e,t,r⟩:=x
    refine ⟨ps,k _ _ (.inl rfl) e,t,fun pos cv z=>?_⟩
    obtain ⟨c,ec,ho',c2,oc,vs,tq,hc,hoc,hd⟩:=r pos cv z
    subst ec
    cases hc
    exact ⟨c,rfl,ho _ ho',c,oc,vs,tq,rfl,k _ _ (.inr ho') hoc,hd⟩
  | met f y=>
    have e:h.get? a=some (PySem.W.methodObj (.ref f) (.ref y)):=x
    show h'.get? a=some (PySem.W.methodObj (.ref f) (.ref y))
    exact k a _ (.inl rfl) e
  | ext φ=>obtain ⟨p,⟨o,e⟩,st⟩:=x;exact ⟨st _ _ p fun o q=>k _ _ (.inl rfl) q,⟨o,k _ _ (.inl rfl) e⟩,st⟩
theorem HOk.lt (x:HOk P w H h) (e:H a=some o):a < h.objs.size:=(x a o e).lt
theorem HOk.fresh (x:HOk P w H h) (e:h.objs.size≤a):H a=none:=by
  cases q:H a with
  | none=>rfl
  | some u=>exact absurd (Nat.lt_of_lt_of_le (x.lt q) e) (Nat.lt_irrefl _)
theorem HOk.kept (x:HOk P w H h) (k:∀b u,h.get? b=some u→h'.get? b=some u):HOk P w H h':=fun a o e=>
  (x a o e).stay (fun b u _ q=>k b u q) (fun _ q=>q) fun _ _ q=>q
theorem HOk.laid (x:HOk P w H h) (k:∀b u,h.get? b=some u→h'.get? b=some u) (hp:h.objs.size≤a) (new:ObjOk P w (upd H a o) h' a o):HOk P w (upd H a o) h':=fun b u e=>by
  have hn:=x.fresh hp
  by_cases hb:b=a
  · subst hb;rw [bg] at e;cases e;exact new
  · rw [aC hb] at e
    exact (x b u e).stay (fun c v _ q=>k c v q) (fun c q=>by rw [aC (bQ q hn)];exact q) fun c xs q=>by rw [aC (bQ q hn)];exact q
end
def Rd (H:Hp) (a:Addr) (u:HO):Prop:=H a=some u∨∃o,H a=some (.frz o u)
theorem Rd.of {H:Hp} {a:Addr} {u:HO} (h:H a=some u):Rd H a u:= .inl h
theorem Rd.ok {P:Program} {w:World} {H:Hp} {h:Heap} {a:Addr} {u:HO} (r:Rd H a u) (x:HOk P w H h):ObjOk P w H h a u:=by
  rcases r with r | ⟨o,r⟩
  · exact x a u r
  · obtain ⟨_,q⟩:=x a _ r
    exact q
def w6:Option HO→Prop
  | some (.lst _)=>True
  | some (.dK _)=>True
  | some (.dT _)=>True
  | some (.set _ _)=>True
  | some (.ins _ _ _)=>True
  | some (.ext _)=>True
  | _=>False
section
variable {P:Program} {w:World} {H:Hp} {h h':Heap} {x e:Addr} {o':HO}
theorem HOk.write (ok:HOk P w H h) (mu:w6 (H x)) (he:e=x∨H e=some (.own x)) (k:∀b u,b≠e→h.get? b=some u→h'.get? b=some u) (heo:∃u,h'.get? e=some u)
    (new:ObjOk P w (upd H x o') h' x o'):HOk P w (upd H x o') h':=fun b u q=>by
  have nown:∀c y,H c=some (.own y)→c≠x:=fun c y r z=>by subst z;rw [r] at mu;exact mu
  have ntup:∀c xs,H c=some (.tup xs)→c≠x:=fun c xs r z=>by subst z;rw [r] at mu;exact mu
  by_cases hb:b=x
  · subst hb;rw [bg] at q;cases q;exact new
  · rw [aC hb] at q
    by_cases hbe:b=e
    · have q':H b=some (.own x):=by
        rcases he with z | z
        · exact absurd (hbe.trans z) hb
        · rw [hbe];exact z
      rw [q] at q';cases q'
      obtain ⟨v,hv⟩:=heo
      exact ⟨v,by rw [hbe];exact hv⟩
    · refine (ok b u q).stay (fun c v hc r=>k c v ?_ r) (fun c r=>by rw [aC (nown c b r)];exact r) fun c xs r=>by rw [aC (ntup c xs r)];exact r
      rcases hc with rfl | hc
      · exact hbe
      · rintro rfl
        rcases he with z | z
        · exact nown c b hc z
        · rw [hc] at z;cases z;exact hb rfl
end
structure Un (fs ex:List Addr) (H H':Hp) (h h':Heap):Prop where
  keep:∀b o,h.get? b=some o→H b=none→b∉fs→b∉ex→h'.get? b=some o
  slot:∀b o,h.get? b=some o→H b=none→b∈fs→b∉ex→∃sl,h'.get? b=some {o with slots:=sl}
  free:∀b o,h.get? b=some o→H b=none→b∉ex→H' b=none
  there:∀b o,h.get? b=some o→b∉ex→∃o',h'.get? b=some o'
  tups:∀b xs,H b=some (.tup xs)→H' b=some (.tup xs)
  frzs:∀b o u,H b=some (.frz o u)→H' b=some (.frz o u)
  tbls:∀b ps,H b=some (.tbl ps)→H' b=some (.tbl ps)
section
variable {fs fs' ex ex':List Addr} {H H1 H2:Hp} {h h1 h2 h':Heap} {a x e:Addr} {o:HO}
theorem Un.any (u:Un fs ex H H1 h h1) {b:Addr} {ob:Obj} (q:h.get? b=some ob) (n:H b=none) (hx:b∉ex):∃sl,h1.get? b=some {ob with slots:=sl}:=by
  by_cases hb:b∈fs
  · exact u.slot b ob q n hb hx
  · exact ⟨ob.slots,u.keep b ob q n hb hx⟩
theorem Un.trans (a:Un fs ex H H1 h h1) (b:Un fs ex H1 H2 h1 h2):Un fs ex H H2 h h2 where
  keep:=fun c ob q n hc hx=>b.keep c ob (a.keep c ob q n hc hx) (a.free c ob q n hx) hc hx
  slot:=fun c ob q n hc hx=>by
    obtain ⟨sl,e1⟩:=a.slot c ob q n hc hx
    obtain ⟨sl',e2⟩:=b.slot c _ e1 (a.free c ob q n hx) hc hx
    exact ⟨sl',e2⟩
  free:=fun c ob q n hx=>by
    obtain ⟨o',e1⟩:=a.there c ob q hx
    exact b.free c o' e1 (a.free c ob q n hx) hx
  there:=fun c ob q hx=>by
    obtain ⟨o',e1⟩:=a.there c ob q hx
    exact b.there c o' e1 hx
  tups:=fun c xs q=>b.tups c xs (a.tups c xs q)
  frzs:=fun c ob xs q=>b.frzs c ob xs (a.frzs c ob xs q)
  tbls:=fun c ps q=>b.tbls c ps (a.tbls c ps q)
theorem Un.kept (k:∀b u,h.get? b=some u→h'.get? b=some u):Un fs ex H H h h':=
  ⟨fun b ob q _ _ _=>k b ob q,fun b ob q _ _ _=>⟨ob.slots,k b ob q⟩,fun _ _ _ n _=>n,fun b ob q _=>⟨ob,k b ob q⟩,fun _ _ q=>q,fun _ _ _ q=>q,fun _ _ q=>q⟩
theorem Un.refl:Un fs ex H H h h:=Un.kept fun _ _ q=>q
theorem Un.laid (k:∀b u,h.get? b=some u→h'.get? b=some u) (hp:h.objs.size≤a) (hn:H a=none):Un fs ex H (upd H a o) h h' where
  keep:=fun b u q _ _ _=>k b u q
  slot:=fun b u q _ _ _=>⟨u.slots,k b u q⟩
  free:=fun b u q n _=>by rw [aC (Nat.ne_of_lt (Nat.lt_of_lt_of_le (Heap.lt_size q) hp))];exact n
  there:=fun b u q _=>⟨u,k b u q⟩
  tups:=fun b xs q=>by rw [aC (bQ q hn)];exact q
  frzs:=fun b u xs q=>by rw [aC (bQ q hn)];exact q
  tbls:=fun b ps q=>by rw [aC (bQ q hn)];exact q
theorem Un.write (mu:w6 (H x)) (he:e=x∨H e=some (.own x)) (k:∀b u,b≠e→h.get? b=some u→h'.get? b=some u) (heo:∃u,h'.get? e=some u):Un fs ex H (upd H x o) h h':=by
  have hx:∀b,H b=none→b≠x:=fun b n z=>by subst z;rw [n] at mu;exact mu
  have hb:∀b,H b=none→b≠e:=fun b n z=>by
    subst z
    rcases he with r | r
    · exact hx b n r
    · rw [n] at r;cases r
  have hm:∀b u,H b=some u→¬w6 (some u)→b≠x:=fun b u q nm z=>by subst z;rw [q] at mu;exact nm mu
  refine ⟨fun b u q n _ _=>k b u (hb b n) q,fun b u q n _ _=>⟨u.slots,k b u (hb b n) q⟩,fun b u q n _=>by rw [aC (hx b n)];exact n,fun b u q _=>?_,
    fun b xs q=>by rw [aC (hm b _ q fun z=>z)];exact q,fun b u xs q=>by rw [aC (hm b _ q fun z=>z)];exact q,fun b ps q=>by rw [aC (hm b _ q fun z=>z)];exact q⟩
  by_cases hbe:b=e
  · subst hbe;exact heo
  · exact ⟨u,k b u hbe q⟩
theorem Un.mono (u:Un fs ex H H1 h h1) (hs:∀b∈fs,b∈fs') (hx:∀b∈ex,b∈ex'):Un fs' ex' H H1 h h1:=
  ⟨fun b ob q n hb he=>u.keep b ob q n (fun z=>hb (hs b z)) fun z=>he (hx b z),fun _ _ q n _ he=>u.any q n fun z=>he (hx _ z),fun b ob q n he=>u.free b ob q n fun z=>he (hx b z),fun b ob q he=>u.there b ob q fun z=>he (hx b z),u.tups,u.frzs,u.tbls⟩
end
def w_ (h:Heap) (H:Hp):List Addr:=(List.range h.objs.size).filter fun a=>(H a).isSome
def lf (h:Heap) (H:Hp):Heap:=PySem.W.hideAll h (w_ h H)
theorem ot (h:Heap) (H:Hp):(lf h H).objs.size=h.objs.size:=PySem.W.hideAll_size _ _
theorem iG {h:Heap} {H:Hp} {b:Addr} {o:Obj} (e:h.get? b=some o) (n:H b=none):(lf h H).get? b=some o:=
  PySem.W.hideAll_get _ e fun hm=>by
    have q:(H b).isSome=true:=(List.mem_filter.mp hm).2
    rw [n] at q;simp at q
theorem rC {h:Heap} {H:Hp} {b:Addr} {o:Obj} (e:(lf h H).get? b=some o):h.get? b=some o∧H b=none:=by
  have e':h.get? b=some o:=PySem.W.of_hideAll (w_ h H) e
  refine ⟨e',?_⟩
  cases q:H b with
  | none=>rfl
  | some x=>
    have hm:b∈w_ h H:=List.mem_filter.mpr ⟨List.mem_range.mpr (Heap.lt_size e'),by simp [q]⟩
    have z:(lf h H).get? b=none:=PySem.W.hideAll_none (w_ h H) hm
    rw [z] at e;cases e
def rD (g h:Heap) (L:Addr):List (Addr×Obj):=(List.range h.objs.size).filterMap fun a=>if a=L∨(g.get? a).isSome=true then none else (h.get? a).map fun o=>(a,o)
def cm (g h:Heap) (L d:Addr):List (Addr×Obj):=(rD g h L).filter fun p=>decide (p.1≠d)
end L2
namespace L2
open PySem PySem.Spec PyProof.Rows
def vS (K:PySem.W.Frag):Option Addr:=match PySem.W.nsIn K mainGlobals "in_told_order" with
  | some (some (.ref f))=>match K.lookup f with
    | some ⟨_,_, .func fd,_⟩=>match fd.code with
      | .ref c=>match K.lookup c with
        | some ⟨_,_, .fields vs,_⟩=>match (vs[11]? :Option Value) with
          | some (.ref P)=>some P
          | _=>none
        | _=>none
      | _=>none
    | _=>none
  | _=>none
def iH (K:PySem.W.Frag) (b:Addr):Option Str:=if vS K=some b then some (Str.ofString "in_told_order.<locals>.<lambda>") else none
structure Mod (K:PySem.W.Frag) (mg:Str→Option Value) (base:Heap):Prop where
  kin:K.In base
  glob:base.Ns mainGlobals mg
  blt:∃mb,base.Ns builtinsNs mb∧∀x:Str,x≠"__name__"→mb x=bootBuiltins x
  nolimit:base.NoLimit
  bmain:∃bm ob,mg "__builtins__"=some (.ref bm)∧bm≠builtinsNs∧base.get? bm=some ob∧ob.cls= .type "module"∧ob.dict=some builtinsNs∧ob.data= .plain
structure Cx where
  prog:Program
  w:World
  K:PySem.W.Frag
  mg:Str→Option Value
  base:Heap
  A:Around
  N:List Str
  s₀:Shared
  H₀:Hp
  env:Env
  outer:List Env
  stack:List Env
  ex:List Addr
  fn:Str→Bool
  calm:Bool
  pn:List (Addr×Obj)
  xe:Value→Shared→Prop
def gp (l:List Env):List Addr:=l.filterMap (·.frame)
abbrev Cx.fs (X:Cx):List Addr:=gp X.outer
def tT (sc:Scope) (x:Str):Prop:=sc.names.lookup x=some .local∨sc.names.lookup x=some .cell∨sc.names.lookup x=some .free
def vO (sc:Scope) (x:Str):Prop:=sc.names.lookup x=some .local∨sc.names.lookup x=some .cell
def xl (env:Env) (h:Heap) (m:Str→Option Value) (x:Str) (u:Value):Prop:=
  (env.kindOf x=some .local∧m x=some u)∨((env.kindOf x=some .cell∨env.kindOf x=some .free)∧∃c,env.cells.lookup x=some c∧h.IsCell c (some u))
structure Cx.Ok (X:Cx):Prop where
  mod:Mod X.K X.mg X.base
  kind:X.env.scope.kind= .function
  glob:X.env.globals=mainGlobals
  blt:X.env.builtins=builtinsNs
  above:X.s₀.heap.objs.size≤X.env.locals
  inj:∀x y c,X.env.cells.lookup x=some c→X.env.cells.lookup y=some c→x=y
  has:∀x,(X.env.kindOf x=some .cell∨X.env.kindOf x=some .free)→∃c,X.env.cells.lookup x=some c
  cab:∀x c,X.fn x=true→X.env.cells.lookup x=some c→X.s₀.heap.objs.size≤c
  hd:X.calm=true→X.A.handled=none
  frames:X.A.frames=some X.stack
  stk:X.stack=X.outer∨(X.stack=X.env::X.outer∧X.env.frame=some X.env.locals)
  exf:∀b∈X.ex,b≠X.env.locals∧∀x c,X.env.cells.lookup x=some c→c≠b
  bs:∀b o,X.base.get? b=some o→X.s₀.heap.get? b=some o∧X.H₀ b=none
  bsz:X.base.objs.size≤X.s₀.heap.objs.size
  noex:∀b o,X.base.get? b=some o→b∉X.ex
  exfs:∀b∈X.ex,b∉X.fs
  funs:X.s₀.heap.FunFrames X.base X.outer
  frf:∀b∈X.fs,X.H₀ b=none
  tab:∀b q,iH X.K b=some q→X.H₀ b=some (.tbl q)
structure Inv (X:Cx) (pins:List (Addr×Obj)) (σ:List (Option V)) (H:Hp) (s:Shared):Prop where
  ok:X.Ok
  os:s.os=X.s₀.os
  bare:AllBare s.gens
  base:Un X.fs X.ex X.H₀ H X.s₀.heap s.heap
  loc:∃m,s.heap.Ns X.env.locals m∧∀(i:Nat) (x:Str) (v:V),X.N[i]? =some x→σ[i]? =some (some v)→tT X.env.scope x→∃u,RelV v u∧xl X.env s.heap m x u
  cell:∀x c,X.env.cells.lookup x=some c→∃v,s.heap.IsCell c v
  free:H X.env.locals=none
  freeC:∀x c,X.env.cells.lookup x=some c→H c=none
  pin:∀p∈X.pn++pins,s.heap.get? p.1=some p.2∧H p.1=none∧p.1≠X.env.locals∧p.1∉X.fs∧∀v,p.2.data≠ .cell v
  hok:HOk X.prog X.w H s.heap
  len:σ.length=X.N.length
section
variable {X:Cx} {pins:List (Addr×Obj)} {σ:List (Option V)} {H H':Hp} {s:Shared} {h':Heap}
theorem Cx.Ok.nofr (ok:X.Ok) {b:Addr} {o:Obj} (e:X.base.get? b=some o):b∉X.fs:=fun hb=>by
  have:=(ok.funs.mem hb).1
  rw [e] at this;cases this
theorem Inv.bs (I:Inv X pins σ H s):∀b o,X.base.get? b=some o→s.heap.get? b=some o∧H b=none:=fun b o e=>
  ⟨I.base.keep b o (I.ok.bs b o e).1 (I.ok.bs b o e).2 (I.ok.nofr e) (I.ok.noex b o e),I.base.free b o (I.ok.bs b o e).1 (I.ok.bs b o e).2 (I.ok.noex b o e)⟩
theorem Inv.bk (I:Inv X pins σ H s):∀b o,X.base.get? b=some o→s.heap.get? b=some o:=fun b o e=>(I.bs b o e).1
theorem Inv.mod (I:Inv X pins σ H s):Mod X.K X.mg X.base:=I.ok.mod
theorem Inv.tab (I:Inv X pins σ H s):∀b q,iH X.K b=some q→H b=some (.tbl q):=fun b q e=>I.base.tbls b q (I.ok.tab b q e)
theorem Inv.kIn (I:Inv X pins σ H s):X.K.In s.heap:=I.ok.mod.kin.keeps I.bk
theorem Inv.nolimit (I:Inv X pins σ H s):s.heap.NoLimit:=I.ok.mod.nolimit.keeps I.bk
theorem Inv.fr (I:Inv X pins σ H s):∃m,Fr X.base X.env.locals s.heap m:=
  let ⟨m,hn,_⟩:=I.loc
  ⟨m,hn,I.bk,Nat.le_trans I.ok.bsz I.ok.above⟩
theorem Inv.lt (I:Inv X pins σ H s):X.env.locals < s.heap.objs.size:=let ⟨_,hn,_⟩:=I.loc;hn.lt
theorem Inv.sz (I:Inv X pins σ H s):X.s₀.heap.objs.size≤s.heap.objs.size:=Nat.le_trans I.ok.above (Nat.le_of_lt I.lt)
theorem Inv.nofs (I:Inv X pins σ H s) {a:Addr} (h:s.heap.objs.size≤a):a∉X.fs:=fun hb=>by
  obtain ⟨_,o,ho,_⟩:=I.ok.funs.mem hb
  exact absurd (Nat.lt_of_lt_of_le (Heap.lt_size ho) (Nat.le_trans I.sz h)) (Nat.lt_irrefl _)
theorem Inv.cne (I:Inv X pins σ H s):∀x c,X.env.cells.lookup x=some c→c≠X.env.locals:=fun x c e z=>by
  obtain ⟨v,o,ho,hd⟩:=I.cell x c e
  obtain ⟨m,⟨o',es,ep,ho',hd',_⟩,_⟩:=I.loc
  rw [z,ho'] at ho;cases ho;rw [hd'] at hd;cases hd
theorem Inv.funs (I:Inv X pins σ H s):s.heap.FunFrames X.base X.outer:=by
  have all:∀(l:List Env),(∀b∈gp l,b∈X.fs)→X.s₀.heap.FunFrames X.base l→s.heap.FunFrames X.base l:=by
    intro l
    induction l with
    | nil=>intro _ _;trivial
    | cons env r ih=>
      intro hs hl
      obtain ⟨hk,⟨L,o,hf,hn,ho,hd⟩,hr⟩:=hl
      have hL:L∈X.fs:=hs L (by unfold gp;rw [List.filterMap_cons,hf];exact List.mem_cons_self)
      obtain ⟨sl,e⟩:=I.base.slot L o ho (I.ok.frf L hL) hL fun z=>I.ok.exfs L z hL
      exact ⟨hk,⟨L,_,hf,hn,e,hd⟩,ih (fun b hb=>hs b (by unfold gp;rw [List.filterMap_cons,hf];exact List.mem_cons_of_mem _ hb)) hr⟩
  exact all X.outer (fun _ hb=>hb) I.ok.funs
theorem Inv.stack (I:Inv X pins σ H s):s.heap.FunFrames X.base X.stack:=by
  rcases I.ok.stk with e | ⟨e,hf⟩
  · rw [e];exact I.funs
  · rw [e]
    obtain ⟨m,hn,_⟩:=I.loc
    refine .cons (by rw [I.ok.kind];decide) hf hn ?_ I.funs
    exact Heap.get?_none_of_le (Nat.le_trans I.ok.bsz I.ok.above)
theorem Inv.stkSub (I:Inv X pins σ H s):∀b∈gp X.stack,b∈X.env.locals::X.fs:=fun b hb=>by
  rcases I.ok.stk with e | ⟨e,hf⟩
  · rw [e] at hb;exact List.mem_cons_of_mem _ hb
  · rw [e] at hb
    unfold gp at hb
    rw [List.filterMap_cons,hf] at hb
    exact hb
theorem Inv.stkFree (I:Inv X pins σ H s):∀b∈gp X.stack,H b=none:=fun b hb=>by
  rcases List.mem_cons.mp (I.stkSub b hb) with e | hb
  · rw [e];exact I.free
  · obtain ⟨_,o,ho,_⟩:=I.ok.funs.mem hb
    exact I.base.free b o ho (I.ok.frf b hb) fun z=>I.ok.exfs b z hb
theorem Inv.step {g':Array GenState} {t':Nat} {d':Drawn} {ch:List Addr} (I:Inv X pins σ H s)
    (hch:∀b∈ch,(b∈X.ex∨X.s₀.heap.objs.size≤b)∧b≠X.env.locals∧(∀x c,X.env.cells.lookup x=some c→c≠b)∧∀p∈X.pn++pins,p.1≠b)
    (keep:∀b o,b≠X.env.locals→b∉X.fs→b∉ch→s.heap.get? b=some o→H b=none→h'.get? b=some o)
    (slot:∀b o,b≠X.env.locals→b∈X.fs→b∉ch→s.heap.get? b=some o→H b=none→∃sl,h'.get? b=some {o with slots:=sl}) (free:∀b o,b∉ch→s.heap.get? b=some o→H b=none→H' b=none)
    (there:∀b o,b∉ch→s.heap.get? b=some o→∃o',h'.get? b=some o')
    (tups:∀b xs,H b=some (.tup xs)→H' b=some (.tup xs)) (frzs:∀b o u,H b=some (.frz o u)→H' b=some (.frz o u)) (tbls:∀b ps,H b=some (.tbl ps)→H' b=some (.tbl ps))
    (ns:∀m,s.heap.Ns X.env.locals m→h'.Ns X.env.locals m) (hok:HOk X.prog X.w H' h') (hg:AllBare g'):
    Inv X pins σ H' {s with heap:=h',gens:=g',drawn:=d',toks:=t'}:=by
  have neL:∀b o,X.s₀.heap.get? b=some o→b≠X.env.locals:=fun b o e=>Nat.ne_of_lt (Nat.lt_of_lt_of_le (Heap.lt_size e) I.ok.above)
  have neC:∀b o,X.s₀.heap.get? b=some o→b∉X.ex→b∉ch:=fun b o e hx hb=>by
    rcases (hch b hb).1 with z | z
    · exact hx z
    · exact absurd (Nat.lt_of_lt_of_le (Heap.lt_size e) z) (Nat.lt_irrefl _)
  have cellK:∀x c,X.env.cells.lookup x=some c→∀v,s.heap.IsCell c v→h'.IsCell c v:=fun x c e v ⟨o,ho,hd⟩=>by
    have nch:c∉ch:=fun z=>(hch c z).2.2.1 x c e rfl
    by_cases hc:c∈X.fs
    · obtain ⟨sl,q⟩:=slot c o (I.cne x c e) hc nch ho (I.freeC x c e)
      exact ⟨_,q,hd⟩
    · exact ⟨o,keep c o (I.cne x c e) hc nch ho (I.freeC x c e),hd⟩
  refine ⟨I.ok,I.os,hg,⟨fun b o e n hb hx=>?_,fun b o e n hb hx=>?_,fun b o e n hx=>?_,fun b o e hx=>?_,fun b xs e=>tups b xs (I.base.tups b xs e),fun b o xs e=>frzs b o xs (I.base.frzs b o xs e),fun b ps e=>?_⟩,?_,fun x c e=>?_,?_,fun x c e=>?_,fun p hp=>?_,hok,I.len⟩
  · exact keep b o (neL b o e) hb (neC b o e hx) (I.base.keep b o e n hb hx) (I.base.free b o e n hx)
  · obtain ⟨sl,e1⟩:=I.base.slot b o e n hb hx
    obtain ⟨sl',e2⟩:=slot b _ (neL b o e) hb (neC b o e hx) e1 (I.base.free b o e n hx)
    exact ⟨sl',e2⟩
  · obtain ⟨o',e1⟩:=I.base.there b o e hx
    exact free b o' (neC b o e hx) e1 (I.base.free b o e n hx)
  · obtain ⟨o',e1⟩:=I.base.there b o e hx
    exact there b o' (neC b o e hx) e1
  · exact tbls b _ (I.base.tbls b ps e)
  · obtain ⟨m,hn,hl⟩:=I.loc
    refine ⟨m,ns m hn,fun i x v e1 e2 e3=>?_⟩
    obtain ⟨u,r,l⟩:=hl i x v e1 e2 e3
    refine ⟨u,r,?_⟩
    rcases l with l | ⟨k,c,e,z⟩
    · exact .inl l
    · exact .inr ⟨k,c,e,cellK x c e _ z⟩
  · obtain ⟨v,z⟩:=I.cell x c e
    exact ⟨v,cellK x c e v z⟩
  · obtain ⟨m,⟨o,_,_,ho,_⟩,_⟩:=I.loc
    exact free _ o (fun z=>(hch _ z).2.1 rfl) ho I.free
  · obtain ⟨v,o,ho,hd⟩:=I.cell x c e
    exact free c o (fun z=>(hch c z).2.2.1 x c e rfl) ho (I.freeC x c e)
  · obtain ⟨e,n,ne,nf,d⟩:=I.pin p hp
    have nch:p.1∉ch:=fun z=>(hch p.1 z).2.2.2 p hp rfl
    exact ⟨keep p.1 p.2 ne nf nch e n,free p.1 p.2 nch e n,ne,nf,d⟩
theorem Inv.un {t':Nat} (I:Inv X pins σ H s) (u:Un X.fs [] H H' s.heap h') (hok:HOk X.prog X.w H' h'):Inv X pins σ H' {s with heap:=h',toks:=t'}:=by
  obtain ⟨m,⟨o,es,ep,ho,r⟩,_⟩:=id I.loc
  obtain ⟨sl,hL⟩:=u.any ho I.free (by simp)
  exact I.step (g':=s.gens) (d':=s.drawn) (ch:=[]) (fun _ z=>nomatch z) (fun b o _ hb _ e n=>u.keep b o e n hb (by simp)) (fun b o _ hb _ e n=>u.slot b o e n hb (by simp)) (fun b o _ e n=>u.free b o e n (by simp)) (fun b o _ e=>u.there b o e (by simp)) u.tups u.frzs u.tbls (fun m' hm=>by
    obtain ⟨o',es',ep',ho',r'⟩:=hm
    rw [ho] at ho';cases ho'
    exact ⟨_,es',ep',hL,r'⟩) hok I.bare
theorem Inv.call {g':Array GenState} {t':Nat} {d':Drawn} {ch:List Addr} (I:Inv X pins σ H s) (u:Un (gp X.stack) ch H H' s.heap h') (hok:HOk X.prog X.w H' h') (hg:AllBare g')
    (hch:∀b∈ch,(b∈X.ex∨X.s₀.heap.objs.size≤b)∧b≠X.env.locals∧(∀x c,X.env.cells.lookup x=some c→c≠b)∧∀p∈X.pn++pins,p.1≠b):
    Inv X pins σ H' {s with heap:=h',gens:=g',drawn:=d',toks:=t'}:=by
  obtain ⟨m,⟨o,es,ep,ho,r⟩,_⟩:=id I.loc
  obtain ⟨sl,hL⟩:=u.any ho I.free fun z=>(hch _ z).2.1 rfl
  exact I.step (ch:=ch) hch (fun b o hL hb hc e n=>u.keep b o e n (fun z=>(List.mem_cons.mp (I.stkSub b z)).elim hL hb) hc) (fun b o _ _ hc e n=>u.any e n hc) (fun b o hc e n=>u.free b o e n hc) (fun b o hc e=>u.there b o e hc) u.tups u.frzs u.tbls (fun m' hm=>by
    obtain ⟨o',es',ep',ho',r'⟩:=hm
    rw [ho] at ho';cases ho'
    exact ⟨_,es',ep',hL,r'⟩) hok hg
theorem Inv.turned {t':Nat} {it:Addr} (I:Inv X pins σ H s) (k:∀b o,b≠it→s.heap.get? b=some o→h'.get? b=some o) (hn:H it=none) (hL:it≠X.env.locals)
    (h1:it∈X.ex∨X.s₀.heap.objs.size≤it) (h2:∀x c,X.env.cells.lookup x=some c→c≠it) (h3:∀p∈X.pn++pins,p.1≠it):Inv X pins σ H {s with heap:=h',toks:=t'}:=by
  have nit:∀b u,H b=some u→b≠it:=fun b u e z=>by rw [z,hn] at e;cases e
  refine I.step (g':=s.gens) (d':=s.drawn) (ch:=[it]) (fun b hb=>?_) (fun b o _ _ hc e _=>k b o (fun z=>hc (by simp [z])) e) (fun b o _ _ hc e _=>⟨o.slots,k b o (fun z=>hc (by simp [z])) e⟩) (fun _ _ _ _ n=>n)
    (fun b o hc e=>⟨o,k b o (fun z=>hc (by simp [z])) e⟩) (fun _ _ e=>e) (fun _ _ _ e=>e) (fun _ _ e=>e) (fun m hm=>?_) (fun b u e=>?_) I.bare
  · have e:b=it:=by simpa using hb
    subst e
    exact ⟨h1,hL,h2,h3⟩
  · obtain ⟨o,es,ep,ho,r⟩:=hm
    exact ⟨o,es,ep,k _ o (Ne.symm hL) ho,r⟩
  · refine (I.hok b u e).stay (fun c v hc q=>k c v ?_ q) (fun _ q=>q) fun _ _ q=>q
    rcases hc with z | z
    · rw [z];exact nit b u e
    · exact nit c _ z
theorem Inv.tok (I:Inv X pins σ H s) (t:Nat):Inv X pins σ H {s with toks:=t}:=I.un (h':=s.heap) (t':=t) Un.refl I.hok
theorem Inv.kept {t':Nat} (I:Inv X pins σ H s) (k:∀b u,s.heap.get? b=some u→h'.get? b=some u):Inv X pins σ H {s with heap:=h',toks:=t'}:=I.un (Un.kept k) (I.hok.kept k)
theorem Inv.laid {a:Addr} {o:HO} {t':Nat} (I:Inv X pins σ H s) (k:∀b u,s.heap.get? b=some u→h'.get? b=some u) (hp:s.heap.objs.size≤a) (new:ObjOk X.prog X.w (upd H a o) h' a o):
    Inv X pins σ (upd H a o) {s with heap:=h',toks:=t'}:=I.un (Un.laid k hp (I.hok.fresh hp)) (I.hok.laid k hp new)
theorem Inv.write {x e:Addr} {o:HO} {t':Nat} (I:Inv X pins σ H s) (mu:w6 (H x)) (he:e=x∨H e=some (.own x)) (k:∀b u,b≠e→s.heap.get? b=some u→h'.get? b=some u) (heo:∃u,h'.get? e=some u)
    (new:ObjOk X.prog X.w (upd H x o) h' x o):Inv X pins σ (upd H x o) {s with heap:=h',toks:=t'}:=I.un (Un.write mu he k heo) (I.hok.write mu he k heo new)
theorem Inv.pins_of {pins':List (Addr×Obj)} (I:Inv X pins σ H s) (h:∀p∈pins',s.heap.get? p.1=some p.2∧H p.1=none∧p.1≠X.env.locals∧p.1∉X.fs∧∀v,p.2.data≠ .cell v):Inv X pins' σ H s:=
  ⟨I.ok,I.os,I.bare,I.base,I.loc,I.cell,I.free,I.freeC,fun p hp=>(List.mem_append.mp hp).elim (fun z=>I.pin p (List.mem_append_left _ z)) (h p),I.hok,I.len⟩
theorem iI {N:List Str} (hN:N.Nodup) {i j:Nat} {x:Str} (a:N[i]? =some x) (b:N[j]? =some x):i=j:=by
  obtain ⟨h1,e1⟩:=List.getElem?_eq_some_iff.mp a
  obtain ⟨h2,e2⟩:=List.getElem?_eq_some_iff.mp b
  exact (List.getElem_inj hN).mp (e1.trans e2.symm)
theorem ou {M:Model} {A:Around} {E:Value→Shared→Prop} {i:Nat} {x:Str} {v:V} {u:Value} {Q:Unit→Shared→Prop} (I:Inv X pins σ H s) (hN:X.N.Nodup) (hi:X.N[i]? =some x) (hx:vO X.env.scope x) (r:RelV v u)
    (h:∀s',Inv X pins (σ.set i (some v)) H s'→(∃a,Heap.SameBut a s.heap s'.heap∧(a=X.env.locals∨X.env.cells.lookup x=some a))→Q () s') (hf:X.fn x=true∨X.env.scope.names.lookup x=some .local:=by first | exact .inl rfl | exact .inr rfl | assumption):wpAny M A (storeName X.env x u) Q E s:=by
  obtain ⟨m,hn,hl⟩:=id I.loc
  have hcls:(X.env.scope.kind == .class||(X.env.scope.kind == .module&&X.env.locals != X.env.globals))=false:=by rw [I.ok.kind];rfl
  have hiσ:i < σ.length:=by rw [I.len];exact (List.getElem?_eq_some_iff.mp hi).1
  have cne:=I.cne
  have tracked:∀{a:Addr} {h':Heap},(∃o,s.heap.get? a=some o∧H a=none)→Heap.SameBut a s.heap h'→HOk X.prog X.w H h':=fun {a h'} ha hs b ob e=>by
    obtain ⟨_,_,hfree⟩:=ha
    refine (I.hok b ob e).stay (fun c w' hc q=>(hs.2 c ?_).trans q) (fun _ q=>q) fun _ _ q=>q
    rintro rfl
    rcases hc with rfl | hc
    · rw [hfree] at e;cases e
    · rw [hfree] at hc;cases hc
  rcases hx with hk | hk
  · refine wpAny_storeName_local hk hn (fun h' hn' hs=>?_) hcls
    obtain ⟨oL,_,_,hoL,_⟩:=id hn
    refine h _ ⟨I.ok,I.os,I.bare,⟨fun b o e n hb hx=>?_,fun b o e n hb hx=>?_,I.base.free,fun b o e hx=>?_,I.base.tups,I.base.frzs,I.base.tbls⟩,⟨_,hn',fun j y v' e1 e2 e3=>?_⟩,fun y c e=>?_,I.free,I.freeC,fun p hp=>?_,tracked ⟨oL,hoL,I.free⟩ hs,by simpa using I.len⟩ ⟨_,hs, .inl rfl⟩
    · exact (hs.2 b (Nat.ne_of_lt (Nat.lt_of_lt_of_le (Heap.lt_size e) I.ok.above))).trans (I.base.keep b o e n hb hx)
    · obtain ⟨sl,e1⟩:=I.base.slot b o e n hb hx
      exact ⟨sl,(hs.2 b (Nat.ne_of_lt (Nat.lt_of_lt_of_le (Heap.lt_size e) I.ok.above))).trans e1⟩
    · obtain ⟨o',e1⟩:=I.base.there b o e hx
      exact ⟨o',(hs.2 b (Nat.ne_of_lt (Nat.lt_of_lt_of_le (Heap.lt_size e) I.ok.above))).trans e1⟩
    · by_cases hj:j=i
      · subst hj
        rw [hi] at e1;cases e1
        rw [List.getElem?_set_self hiσ] at e2
        cases e2
        exact ⟨u,r, .inl ⟨hk,by simp⟩⟩
      · rw [List.getElem?_set_ne (Ne.symm hj)] at e2
        obtain ⟨u',r',q⟩:=hl j y v' e1 e2 e3
        refine ⟨u',r',?_⟩
        rcases q with ⟨k,e⟩ | ⟨k,c,e,z⟩
        · refine .inl ⟨k,?_⟩
          have:y≠x:=fun e=>hj (iI hN e1 (e▸hi))
          simp [this,e]
        · exact .inr ⟨k,c,e,z.sameBut hs (cne y c e)⟩
    · obtain ⟨w',z⟩:=I.cell y c e
      exact ⟨w',z.sameBut hs (cne y c e)⟩
    · obtain ⟨e,n,ne,nf,d⟩:=I.pin p hp
      exact ⟨(hs.2 p.1 ne).trans e,n,ne,nf,d⟩
  · have hfn:X.fn x=true:=by
      rcases hf with z | z
      · exact z
      · rw [z] at hk;cases hk
    obtain ⟨c,hc⟩:=I.ok.has x (.inl hk)
    obtain ⟨w',z⟩:=I.cell x c hc
    refine wpAny_storeName_cell I.ok.kind hk hc z (fun h' hc' hs=>?_)
    obtain ⟨oc,hoc,hocd⟩:=id z
    refine h {s with heap:=h'} ⟨I.ok,I.os,I.bare,⟨fun b o e n hb hx=>?_,fun b o e n hb hx=>?_,I.base.free,fun b o e hx=>?_,I.base.tups,I.base.frzs,I.base.tbls⟩,⟨m,hn.sameBut hs (Ne.symm (cne x c hc)),fun j y v' e1 e2 e3=>?_⟩,fun y c' e=>?_,I.free,I.freeC,fun p hp=>?_,tracked ⟨oc,hoc,I.freeC x c hc⟩ hs,by simpa using I.len⟩ ⟨c,hs, .inr hc⟩
    · exact (hs.2 b (Nat.ne_of_lt (Nat.lt_of_lt_of_le (Heap.lt_size e) (I.ok.cab x c hfn hc)))).trans (I.base.keep b o e n hb hx)
    · obtain ⟨sl,e1⟩:=I.base.slot b o e n hb hx
      exact ⟨sl,(hs.2 b (Nat.ne_of_lt (Nat.lt_of_lt_of_le (Heap.lt_size e) (I.ok.cab x c hfn hc)))).trans e1⟩
    · obtain ⟨o',e1⟩:=I.base.there b o e hx
      exact ⟨o',(hs.2 b (Nat.ne_of_lt (Nat.lt_of_lt_of_le (Heap.lt_size e) (I.ok.cab x c hfn hc)))).trans e1⟩
    · by_cases hj:j=i
      · subst hj
        rw [hi] at e1;cases e1
        rw [List.getElem?_set_self hiσ] at e2
        cases e2
        exact ⟨u,r, .inr ⟨.inl hk,c,hc,hc'⟩⟩
      · rw [List.getElem?_set_ne (Ne.symm hj)] at e2
        obtain ⟨u',r',q⟩:=hl j y v' e1 e2 e3
        refine ⟨u',r',?_⟩
        rcases q with q | ⟨k,c',e,z'⟩
        · exact .inl q
        · refine .inr ⟨k,c',e,z'.sameBut hs ?_⟩
          rintro rfl
          exact hj (iI hN e1 (I.ok.inj _ _ _ e hc▸hi))
    · by_cases hcc:c'=c
      · subst hcc;exact ⟨_,hc'⟩
      · obtain ⟨w2,z2⟩:=I.cell y c' e
        exact ⟨w2,z2.sameBut hs hcc⟩
    · obtain ⟨e,n,ne,nf,d⟩:=I.pin p hp
      refine ⟨(hs.2 p.1 ?_).trans e,n,ne,nf,d⟩
      intro q
      rw [q,hoc] at e
      have q':oc=p.2:=Option.some.inj e
      exact d w' (by rw [←q'];exact hocd)
theorem iJ {M:Model} {A:Around} {E:Value→Shared→Prop} {i:Nat} {x:Str} {v:V} {u:Value} {Q:Unit→Shared→Prop} (I:Inv X pins σ H s) (hN:X.N.Nodup) (hi:X.N[i]? =some x) (hx:vO X.env.scope x) (r:RelV v u)
    (h:∀s',Inv X pins (σ.set i (some v)) H s'→Q () s') (hf:X.fn x=true∨X.env.scope.names.lookup x=some .local:=by first | exact .inl rfl | exact .inr rfl | assumption):wpAny M A (storeName X.env x u) Q E s:=
  ou I hN hi hx r (fun s' I' _=>h s' I') hf
theorem Inv.call' {s':Shared} {ch:List Addr} (I:Inv X pins σ H s) (ho:s'.os=s.os) (u:Un (gp X.stack) ch H H' s.heap s'.heap) (hok:HOk X.prog X.w H' s'.heap) (hg:AllBare s'.gens)
    (hch:∀b∈ch,(b∈X.ex∨X.s₀.heap.objs.size≤b)∧b≠X.env.locals∧(∀x c,X.env.cells.lookup x=some c→c≠b)∧∀p∈X.pn++pins,p.1≠b):Inv X pins σ H' s':=by
  obtain ⟨h',g',d',t',o'⟩:=s'
  have e:o'=s.os:=ho
  subst e
  exact I.call (g':=g') (t':=t') (d':=d') u hok hg hch
end
abbrev XK:=Value→Option Addr→Hp→Prop
abbrev St:=List (Option V)
abbrev VK:=V→Hp→Prop
abbrev TE:=St→Hp→VK→Prop
abbrev TT:=St→Hp→(Bool→Hp→Prop)→Prop
abbrev TA:=St→Hp→(List V→Hp→Prop)→Prop
structure Ends where
  nx:St→Hp→Prop
  rt:VK
  bk:St→Hp→Prop:=fun _ _=>False
  ct:St→Hp→Prop:=fun _ _=>False
abbrev TS:=Ends→St→Hp→Prop
def EP (X:Cx) (pins:List (Addr×Obj)) (σ:St) (Q:VK) (u:Value) (s':Shared):Prop:=∃v H',Inv X pins σ H' s'∧RelV v u∧Q v H'
def TP (X:Cx) (pins:List (Addr×Obj)) (σ:St) (Q:Bool→Hp→Prop) (b:Bool) (s':Shared):Prop:=∃H',Inv X pins σ H' s'∧Q b H'
def AP (X:Cx) (pins:List (Addr×Obj)) (σ:St) (Q:List V→Hp→Prop) (us:List Value) (s':Shared):Prop:=∃vs H',Inv X pins σ H' s'∧Vals vs us∧Q vs H'
def SP (X:Cx) (pins:List (Addr×Obj)) (D:Ends) (f:Flow) (s':Shared):Prop:=
  match f with
  | .next=>∃σ' H',Inv X pins σ' H' s'∧D.nx σ' H'
  | .brk=>∃σ' H',Inv X pins σ' H' s'∧D.bk σ' H'
  | .cont=>∃σ' H',Inv X pins σ' H' s'∧D.ct σ' H'
  | .ret u=>∃v σ' H',Inv X pins σ' H' s'∧RelV v u∧D.rt v H'
def PE (X:Cx) (e:Expr) (t:TE):Prop:=
  ∀(pins:List (Addr×Obj)) (s:Shared) (σ:St) (H:Hp) (Q:VK),Inv X pins σ H s→t σ H Q→wpAny (model X.prog X.w) X.A (eval e X.env) (EP X pins σ Q) X.xe s
def PT (X:Cx) (e:Expr) (t:TT):Prop:=
  ∀(pins:List (Addr×Obj)) (s:Shared) (σ:St) (H:Hp) (Q:Bool→Hp→Prop),Inv X pins σ H s→t σ H Q→wpAny (model X.prog X.w) X.A (isTrue e X.env (eval e X.env)) (TP X pins σ Q) X.xe s
def PW (X:Cx) (e:Expr) (t:TT):Prop:=
  ∀(whole:Sem Value) (pins:List (Addr×Obj)) (s:Shared) (σ:St) (H:Hp) (Q:Bool→Hp→Prop),Inv X pins σ H s→t σ H Q→wpAny (model X.prog X.w) X.A (isTrue e X.env whole) (TP X pins σ Q) X.xe s
theorem PW.pt {X:Cx} {e:Expr} {t:TT} (h:PW X e t):PT X e t:=h _
def PA (X:Cx) (es:List Expr) (t:TA):Prop:=
  ∀(pos:Pos) (pins:List (Addr×Obj)) (s:Shared) (σ:St) (H:Hp) (Q:List V→Hp→Prop),Inv X pins σ H s→t σ H Q→wpAny (model X.prog X.w) X.A (spliced (backTo pos (starEach es X.env))) (AP X pins σ Q) X.xe s
def PS (X:Cx) (st:Stmt) (t:TS):Prop:=
  ∀(pins:List (Addr×Obj)) (s:Shared) (σ:St) (H:Hp) (D:Ends),Inv X pins σ H s→t D σ H→wpAny (model X.prog X.w) X.A (exec st X.env) (SP X pins D) X.xe s
def PSs (X:Cx) (st:List Stmt) (t:TS):Prop:=
  ∀(pins:List (Addr×Obj)) (s:Shared) (σ:St) (H:Hp) (D:Ends),Inv X pins σ H s→t D σ H→wpAny (model X.prog X.w) X.A (execs st X.env) (SP X pins D) X.xe s
theorem cB {α:Type} {t:Sem α} {Q Q':α→Shared→Prop} {M:Model} {A:Around} {E:Value→Shared→Prop} {s:Shared} (h:wpAny M A t Q E s) (hQ:∀a s,Q a s→Q' a s):wpAny M A t Q' E s:=wpAny_mono h hQ fun _ _ x=>x
end L2
namespace L2
open PySem PySem.Spec PyProof.Rows
section
variable {X:Cx}
def xm (i:Nat):TE:=fun σ H Q=>∃v,σ[i]? =some (some v)∧Q v H
def tC (v:V):TE:=fun _ H Q=>Q v H
theorem gN {i:Nat} {x:Str} {pos:Pos} (hN:X.N[i]? =some x) (hv:tT X.env.scope x) (hd:(x == ("__debug__":Str))=false:=by decide) (hcd:(x == ("__classdict__":Str))=false:=by decide):PE X (.Name x pos) (xm i):=by
  intro pins s σ H Q I h
  obtain ⟨v,e,h⟩:=h
  obtain ⟨m,hn,hl⟩:=I.loc
  obtain ⟨u,r,l⟩:=hl i x v hN e hv
  have fin:EP X pins σ Q u s:=⟨v,H,I,r,h⟩
  rcases l with ⟨hk,hm⟩ | ⟨hk,c,hc,hcell⟩
  · exact wpAny_Name (wpAny_loadName_local I.ok.kind hk hn hm fin) hd
  · rcases hk with hk | hk
    · exact wpAny_Name (wpAny_loadName_cell I.ok.kind hk hc hcell fin) hd
    · exact wpAny_Name (wpAny_loadName_free I.ok.kind hk hc hcell fin hcd) hd
theorem uk {i j pos}:PE X (.Constant (.int i) j pos) (tC (.int i)):=fun _ _ _ H _ I h=>wpAny_Constant_int ⟨.int i,H,I.tok _,⟨_,rfl⟩,h⟩
theorem pE {b j pos}:PE X (.Constant (.bool b) j pos) (tC (.bl b)):=fun _ _ _ H _ I h=>Constant_bool ⟨.bl b,H,I,rfl,h⟩
theorem ul {j pos}:PE X (.Constant .none j pos) (tC .non):=fun _ _ _ H _ I h=>Constant_none ⟨.non,H,I,rfl,h⟩
theorem mB {x j pos}:PE X (.Constant (.str x) j pos) (tC (.str x)):=fun _ _ _ H _ I h=>Calls.Constant_str ⟨.str x,H,I.tok _,⟨_,rfl⟩,h⟩
def Gl (X:Cx) (x:Str):Prop:=X.env.kindOf x=some .globalImplicit
theorem fD {E:Value→Shared→Prop} {pins:List (Addr×Obj)} {s:Shared} {σ:St} {H:Hp} {x:Str} {u:Value} {pos:Pos} {Q:Value→Shared→Prop} (I:Inv X pins σ H s) (hg:Gl X x) (hm:X.mg x=some u) (h:Q u s)
    (hd:(x == ("__debug__":Str))=false:=by decide):wpAny (model X.prog X.w) X.A (eval (.Name x pos) X.env) Q E s:=
  Calls.Name_function_global I.ok.kind hg (Calls.loadGlobal_global (by rw [I.ok.glob];exact I.mod.glob.keeps I.bk) hm h) hd
theorem iK {E:Value→Shared→Prop} {pins:List (Addr×Obj)} {s:Shared} {σ:St} {H:Hp} {x:Str} {u:Value} {pos:Pos} {Q:Value→Shared→Prop} (I:Inv X pins σ H s) (hg:Gl X x) (hm:X.mg x=none) (hv:bootBuiltins x=some u) (h:Q u s)
    (hn:x≠"__name__":=by decide) (hd:(x == ("__debug__":Str))=false:=by decide):wpAny (model X.prog X.w) X.A (eval (.Name x pos) X.env) Q E s:=by
  obtain ⟨mb,h1,h2⟩:=I.mod.blt
  exact Calls.Name_function_global I.ok.kind hg (Calls.loadGlobal_builtin (by rw [I.ok.glob];exact I.mod.glob.keeps I.bk) hm (by rw [I.ok.blt];exact h1.keeps I.bk) ((h2 x hn).trans hv) h) hd
theorem rE {x:Str} {v:V} {u:Value} {pos:Pos} (hg:Gl X x) (hm:X.mg x=some u) (r:RelV v u) (hd:(x == ("__debug__":Str))=false:=by decide):PE X (.Name x pos) (tC v):=
  fun _ _ _ H _ I h=>fD I hg hm ⟨v,H,I,r,h⟩ hd
theorem nC {x:Str} {v:V} {u:Value} {pos:Pos} (hg:Gl X x) (hm:X.mg x=none) (hv:bootBuiltins x=some u) (r:RelV v u) (hn:x≠"__name__":=by decide) (hd:(x == ("__debug__":Str))=false:=by decide):PE X (.Name x pos) (tC v):=
  fun _ _ _ H _ I h=>iK I hg hm hv ⟨v,H,I,r,h⟩ hn hd
variable {a b:Expr} {ta tb:TE} {pos:Pos}
variable {tA tB':TT} {cm:List Expr}
def xn (t u:TT):TT:=fun σ H Q=>t σ H fun c H1=>if c=true then u σ H1 Q else Q false H1
def yr (t u:TT):TT:=fun σ H Q=>t σ H fun c H1=>if c=true then Q true H1 else u σ H1 Q
def xo (t:TT):TT:=fun σ H Q=>t σ H fun c H1=>Q (!c) H1
theorem rF (ha:PT X a tA):PW X (.BoolOp .And [a] pos) tA:=by
  intro wh pins s σ H Q I h
  refine isTrue_and (cB (ha pins s σ H Q I h) fun c s1 e=>?_)
  cases c with
  | true=>exact isTrue_and_nil e
  | false=>exact e
theorem um (ha:PT X a tA):PW X (.BoolOp .Or [a] pos) tA:=by
  intro wh pins s σ H Q I h
  refine isTrue_or (cB (ha pins s σ H Q I h) fun c s1 e=>?_)
  cases c with
  | false=>exact isTrue_or_nil e
  | true=>exact e
theorem uo (ha:PT X a tA) (hb:PW X (.BoolOp .And (b::cm) pos) tB'):PW X (.BoolOp .And (a::b::cm) pos) (xn tA tB'):=by
  intro wh pins s σ H Q I h
  refine isTrue_and (cB (ha pins s σ H _ I h) fun c s1 ⟨H1,I1,q1⟩=>?_)
  cases c with
  | true=>exact hb wh pins s1 σ H1 Q I1 q1
  | false=>exact ⟨H1,I1,q1⟩
theorem vT (ha:PT X a tA) (hb:PW X (.BoolOp .Or (b::cm) pos) tB'):PW X (.BoolOp .Or (a::b::cm) pos) (yr tA tB'):=by
  intro wh pins s σ H Q I h
  refine isTrue_or (cB (ha pins s σ H _ I h) fun c s1 ⟨H1,I1,q1⟩=>?_)
  cases c with
  | true=>exact ⟨H1,I1,q1⟩
  | false=>exact hb wh pins s1 σ H1 Q I1 q1
theorem up (ha:PT X a tA):PT X (.UnaryOp .Not a pos) (xo tA):=by
  intro pins s σ H Q I h
  exact isTrue_not (ha pins s σ H (fun c H1=>Q (!c) H1) I h)
def vU (ta tb:TE):TE:=fun σ H Q=>ta σ H fun x H1=>∃c,x= .bl c∧if c=true then tb σ H1 Q else Q (.bl false) H1
theorem uq {op} {t:TE} (h:PE X a t):PE X (.BoolOp op [a] pos) t:=fun pins s σ H Q I hw=>BoolOp_one (h pins s σ H Q I hw)
theorem ur (ha:PE X a ta) (hb:PE X (.BoolOp .And (b::cm) pos) tb):PE X (.BoolOp .And (a::b::cm) pos) (vU ta tb):=by
  intro pins s σ H Q I h
  refine BoolOp_and (cB (ha pins s σ H _ I h) fun v s1 ⟨x,H1,I1,r1,q1⟩=>?_)
  obtain ⟨c,rfl,q1⟩:=q1
  cases r1
  refine wpAny_truthy_bool ?_
  cases c with
  | true=>exact hb pins s1 σ H1 Q I1 q1
  | false=>exact ⟨.bl false,H1,I1,rfl,q1⟩
end
end L2
namespace L2
open PySem PySem.Spec PyProof.Rows
def SqL (K:PySem.W.Frag) (H:Hp) (a:Addr) (xs:List V):Prop:=
  Rd H a (.lst xs)∨
    ∃(o:Obj) (its:Array Value) (n:Nat),K.lookup a=some o∧o.cls= .type "list"∧o.dict=none∧o.data= .seq its n∧its.size≤sizeLine∧Vals xs its.toList
def SqT (K:PySem.W.Frag) (H:Hp) (a:Addr) (xs:List V):Prop:=
  Rd H a (.tup xs)∨
    ∃(o:Obj) (its:Array Value) (n:Nat),K.lookup a=some o∧o.cls= .type "tuple"∧o.data= .seq its n∧its.size≤sizeLine∧Vals xs its.toList
def xp:Value→Option V
  | .none=>some .non
  | .bool b=>some (.bl b)
  | .int i _=>some (.int i)
  | .str x _=>some (.str x)
  | .bytes b _=>some (.byt b)
  | .float b _=>some (.flt b)
  | .ref a=>some (.ref a)
  | .type n=>some (.ty n)
  | _=>none
theorem RelV.abs {x:V} {u:Value} (r:RelV x u):xp u=some x:=by
  cases x with
  | non=>cases r;rfl
  | bl _=>cases r;rfl
  | int _=>obtain ⟨t,rfl⟩:=r;rfl
  | str _=>obtain ⟨t,rfl⟩:=r;rfl
  | byt _=>obtain ⟨t,rfl⟩:=r;rfl
  | flt _=>obtain ⟨t,rfl⟩:=r;rfl
  | ref _=>cases r;rfl
  | ty _=>cases r;rfl
theorem RelV.inj {x y:V} {u:Value} (r:RelV x u) (q:RelV y u):x=y:=Option.some.inj (r.abs.symm.trans q.abs)
theorem Vals.inj {xs ys:List V} {us:List Value} (h:Vals xs us) (k:Vals ys us):xs=ys:=by
  induction h generalizing ys with
  | nil=>cases k;rfl
  | cons r _ ih=>cases k with | cons r' t'=>rw [r.inj r',ih t']
section
variable {X:Cx} {pins:List (Addr×Obj)} {σ:St} {H:Hp} {s:Shared} {a:Addr} {xs ys:List V}
theorem SqL.of {K:PySem.W.Frag} (h:H a=some (.lst xs)):SqL K H a xs:= .inl (.inl h)
theorem SqT.of {K:PySem.W.Frag} (h:H a=some (.tup xs)):SqT K H a xs:= .inl (.inl h)
theorem Inv.list (I:Inv X pins σ H s) (h:SqL X.K H a xs):∃its:List Value,Vals xs its∧PlainL s.heap a its.toArray∧xs.length≤sizeLine:=by
  rcases h with h | ⟨o,its,n,hk,hc,hd,hs,hz,r⟩
  · obtain ⟨z,its,n,r,e⟩:=h.ok I.hok
    exact ⟨its,r,⟨_,n,e,rfl,rfl,rfl⟩,z⟩
  · refine ⟨its.toList,r,⟨o,n,I.kIn a o hk,hc,hd,by simpa using hs⟩,?_⟩
    have e:=r.length
    simp only [Array.length_toList] at e
    omega
theorem Inv.tuple (I:Inv X pins σ H s) (h:SqT X.K H a xs):∃its:List Value,Vals xs its∧IsTup s.heap a its.toArray∧xs.length≤sizeLine:=by
  rcases h with h | ⟨o,its,n,hk,hc,hs,hz,r⟩
  · obtain ⟨z,its,r,p⟩:=h.ok I.hok
    exact ⟨its,r,p,z⟩
  · refine ⟨its.toList,r,⟨o,I.kIn a o hk,hc,n,by simpa using hs⟩,?_⟩
    have e:=r.length
    simp only [Array.length_toList] at e
    omega
theorem Inv.list_inj (I:Inv X pins σ H s) (h:SqL X.K H a xs) (h':SqL X.K H a ys):xs=ys:=by
  obtain ⟨its,r,⟨o,n,e,_,_,d⟩,_⟩:=I.list h
  obtain ⟨its',r',⟨o',n',e',_,_,d'⟩,_⟩:=I.list h'
  rw [e] at e';cases e'
  rw [d] at d'
  injection d' with d1 _
  have:its=its':=by simpa using congrArg Array.toList d1
  subst this
  exact r.inj r'
theorem Inv.tuple_inj (I:Inv X pins σ H s) (h:SqT X.K H a xs) (h':SqT X.K H a ys):xs=ys:=by
  obtain ⟨its,r,⟨o,e,_,n,d⟩,_⟩:=I.tuple h
  obtain ⟨its',r',⟨o',e',_,n',d'⟩,_⟩:=I.tuple h'
  rw [e] at e';cases e'
  rw [d] at d'
  injection d' with d1 _
  have:its=its':=by simpa using congrArg Array.toList d1
  subst this
  exact r.inj r'
end
abbrev Cx.wish (X:Cx) (E:Value→Shared→Prop):Cx:={X with xe:=E}
abbrev Cx.nox (X:Cx):Cx:=X.wish fun _ _=>False
theorem Cx.Ok.wish {X:Cx} (ok:X.Ok) (E:Value→Shared→Prop):(X.wish E).Ok:=
  ⟨ok.mod,ok.kind,ok.glob,ok.blt,ok.above,ok.inj,ok.has,ok.cab,ok.hd,ok.frames,ok.stk,ok.exf,ok.bs,ok.bsz,ok.noex,ok.exfs,ok.funs,ok.frf,ok.tab⟩
theorem Cx.Ok.unwish {X:Cx} {E:Value→Shared→Prop} (ok:(X.wish E).Ok):X.Ok:=
  ⟨ok.mod,ok.kind,ok.glob,ok.blt,ok.above,ok.inj,ok.has,ok.cab,ok.hd,ok.frames,ok.stk,ok.exf,ok.bs,ok.bsz,ok.noex,ok.exfs,ok.funs,ok.frf,ok.tab⟩
section
variable {X:Cx} {pins:List (Addr×Obj)} {σ:St} {H:Hp} {s:Shared} {E:Value→Shared→Prop}
theorem Inv.wish (I:Inv X pins σ H s) (E:Value→Shared→Prop):Inv (X.wish E) pins σ H s:=⟨I.ok.wish E,I.os,I.bare,I.base,I.loc,I.cell,I.free,I.freeC,I.pin,I.hok,I.len⟩
theorem Inv.unwish (I:Inv (X.wish E) pins σ H s):Inv X pins σ H s:=⟨I.ok.unwish,I.os,I.bare,I.base,I.loc,I.cell,I.free,I.freeC,I.pin,I.hok,I.len⟩
theorem SP.unwish {D:Ends} {f:Flow} {s':Shared} (h:SP (X.wish E) pins D f s'):SP X pins D f s':=by
  cases f with
  | next=>obtain ⟨σ',H',I,q⟩:=h;exact ⟨σ',H',I.unwish,q⟩
  | brk=>obtain ⟨σ',H',I,q⟩:=h;exact ⟨σ',H',I.unwish,q⟩
  | cont=>obtain ⟨σ',H',I,q⟩:=h;exact ⟨σ',H',I.unwish,q⟩
  | ret u=>obtain ⟨v,σ',H',I,r,q⟩:=h;exact ⟨v,σ',H',I.unwish,r,q⟩
theorem PE.nox {e:Expr} {t:TE} (h:PE X.nox e t):PE X e t:=fun pins s σ H Q I hw=>
  wpAny_mono (h pins s σ H Q (I.wish _) hw) (fun _ _ ⟨v,H',I',r,q⟩=>⟨v,H',I'.unwish,r,q⟩) fun _ _ z=>False.elim z
theorem PT.nox {e:Expr} {t:TT} (h:PT X.nox e t):PT X e t:=fun pins s σ H Q I hw=>
  wpAny_mono (h pins s σ H Q (I.wish _) hw) (fun _ _ ⟨H',I',q⟩=>⟨H',I'.unwish,q⟩) fun _ _ z=>False.elim z
theorem PSs.nox {st:List Stmt} {t:TS} (h:PSs X.nox st t):PSs X st t:=fun pins s σ H D I hw=>
  wpAny_mono (h pins s σ H D (I.wish _) hw) (fun _ _ q=>q.unwish) fun _ _ z=>False.elim z
end
section
variable {X:Cx} {st:Stmt} {cm:List Stmt} {t u:TS} {e:Expr} {te:TE} {pos:Pos}
def vV:TS:=fun D σ H=>D.nx σ H
def xq (t u:TS):TS:=fun D σ H=>t {D with nx:=u D} σ H
theorem rG:PSs X [] vV:=fun _ _ σ H _ I h=>wpAny_execs_nil ⟨σ,H,I,h⟩
theorem pF (h1:PS X st t) (h2:PSs X cm u):PSs X (st::cm) (xq t u):=by
  intro pins s σ H D I h
  refine wpAny_execs_cons (cB (h1 pins s σ H {D with nx:=u D} I h) fun f s1 q=>?_)
  cases f with
  | next=>
    obtain ⟨σ',H',I',q⟩:=q
    exact h2 pins s1 σ' H' D I' q
  | ret v=>exact q
  | brk=>exact q
  | cont=>exact q
theorem rH (h1:PS X st t):PSs X [st] t:=by
  intro pins s σ H D I h
  refine wpAny_execs_cons (cB (h1 pins s σ H D I h) fun f s1 q=>?_)
  cases f with
  | next=>exact wpAny_execs_nil q
  | ret v=>exact q
  | brk=>exact q
  | cont=>exact q
theorem Inv.quiet {pins:List (Addr×Obj)} {σ:St} {H:Hp} {s:Shared} (I:Inv X pins σ H s):interactive X.env=false:=by simp [interactive,I.ok.kind]
def vW (te:TE):TS:=fun D σ H=>te σ H fun _ H1=>D.nx σ H1
theorem rJ (he:PE X e te) (hs:swapsWith e none pos.line X.env=pure false:=by rfl):PS X (.Expr e pos) (vW te):=by
  intro pins s σ H D I h
  exact wpAny_Expr_any (cB (he pins s σ H _ I h) fun v s1 ⟨x,H1,I1,r1,q1⟩=>⟨σ,H1,I1,q1⟩) I.quiet hs
def xr (te:TE):TS:=fun D σ H=>te σ H D.rt
theorem ut (he:PE X e te):PS X (.Return (some e) pos) (xr te):=by
  intro pins s σ H D I h
  exact wpAny_Return_some (cB (he pins s σ H _ I h) fun v s1 ⟨x,H1,I1,r1,q1⟩=>⟨x,σ,H1,I1,r1,q1⟩)
def xt (c:TT) (t u:TS):TS:=fun D σ H=>c σ H fun b H1=>if b=true then t D σ H1 else u D σ H1
theorem vX {c:Expr} {a b:List Stmt} {tc:TT} (hc:PT X c tc) (ha:PSs X a t) (hb:PSs X b u):PS X (.If c a b pos) (xt tc t u):=by
  intro pins s σ H D I h
  refine wpAny_If (cB (hc pins s σ H _ I h) fun d s1 ⟨H1,I1,q1⟩=>?_)
  cases d with
  | true=>exact ha pins s1 σ H1 D I1 q1
  | false=>exact hb pins s1 σ H1 D I1 q1
def uv:TS:=fun _ _ _=>False
theorem pG:PS X st uv:=fun _ _ _ _ _ _ h=>h.elim
end
abbrev TG:=V→St→Hp→(St→Hp→Prop)→Prop
abbrev rK:=List V→St→Hp→(St→Hp→Prop)→Prop
def PG (X:Cx) (target:Expr) (t:TG):Prop:=
  ∀(pins:List (Addr×Obj)) (s:Shared) (σ:St) (H:Hp) (v:V) (u:Value) (Q:St→Hp→Prop),Inv X pins σ H s→RelV v u→t v σ H Q→
    wpAny (model X.prog X.w) X.A (assign target X.env u) (fun _ s'=>∃σ' H',Inv X pins σ' H' s'∧Q σ' H') X.xe s
def uw (X:Cx) (ts:List Expr) (t:rK):Prop:=
  ∀(pins:List (Addr×Obj)) (s:Shared) (σ:St) (H:Hp) (vs:List V) (us:List Value) (Q:St→Hp→Prop),Inv X pins σ H s→Vals vs us→t vs σ H Q→
    wpAny (model X.prog X.w) X.A (assignInOrder ((assignEach ts X.env).map (·.2)) us) (fun _ s'=>∃σ' H',Inv X pins σ' H' s'∧Q σ' H') X.xe s
section
variable {X:Cx} {pos:Pos}
def tU (i:Nat):TG:=fun v σ H Q=>Q (σ.set i (some v)) H
theorem rL {i:Nat} {x:Str} (hN:X.N.Nodup) (hi:X.N[i]? =some x) (hx:vO X.env.scope x) (hf:X.fn x=true∨X.env.scope.names.lookup x=some .local:=by first | exact .inl rfl | exact .inr rfl | assumption):PG X (.Name x pos) (tU i):=by
  intro pins s σ H v u Q I r h
  exact wpAny_assign_Name (iJ I hN hi hx r (fun s' I'=>⟨_,H,I',h⟩) hf)
def xu:rK:=fun vs σ H Q=>vs=[]∧Q σ H
def vY (t:TG) (u:rK):rK:=fun vs σ H Q=>∃v r,vs=v::r∧t v σ H fun σ' H'=>u r σ' H' Q
theorem rM:uw X [] xu:=by
  intro pins s σ H vs us Q I r h
  obtain ⟨e,h⟩:=h
  subst e
  cases r
  exact assignInOrder_nil ⟨σ,H,I,h⟩
theorem pH {e:Expr} {es:List Expr} {t:TG} {u:rK} (h1:PG X e t) (h2:uw X es u)
    (hs:(assignEach (e::es) X.env).map (·.2)=assign e X.env::(assignEach es X.env).map (·.2):=by rfl):uw X (e::es) (vY t u):=by
  intro pins s σ H vs us Q I r h
  obtain ⟨v,vr,e1,h⟩:=h
  subst e1
  cases r with
  | cons r rr=>
    rw [hs]
    refine assignInOrder_cons (cB (h1 pins s σ H _ _ _ I r h) fun _ s1 ⟨σ1,H1,I1,q1⟩=>?_)
    exact h2 pins s1 σ1 H1 _ _ Q I1 rr q1
def xv (K:PySem.W.Frag) (n:Nat) (t:rK):TG:=fun v σ H Q=>∃a xs,v= .ref a∧SqT K H a xs∧xs.length=n∧t xs σ H Q
theorem ux {es:List Expr} {k:Nat} {t:rK} {n:Nat} (hc:X.calm=true) (h:uw X es t)
    (hn:(assignEach es X.env).length=n:=by rfl) (hst:(assignEach es X.env).findIdx? (·.1)=none:=by rfl):PG X (.Tuple es k pos) (xv X.K n t):=by
  intro pins s σ H v u Q I r hw
  obtain ⟨a,xs,e1,hq,hl,hw⟩:=hw
  subst e1
  cases r
  obtain ⟨its,rv,ht,hz⟩:=I.tuple hq
  refine assign_Tuple_tuple (I.ok.hd hc) ht (by simp [hn,←hl,rv.length]) hst fun h' hx=>?_
  have I1:Inv X pins σ H {s with heap:=h'}:=I.kept (t':=s.toks) fun b o e=>hx b o (Nat.ne_of_lt (Heap.lt_size e)) e
  exact h pins _ σ H xs _ Q I1 (by simpa using rv) hw
def xw (te:TE) (g:TG):TS:=fun D σ H=>te σ H fun x H1=>g x σ H1 D.nx
theorem uy {i:Nat} {x:Str} {e:Expr} {te:TE} {pos':Pos} (hN:X.N.Nodup) (hi:X.N[i]? =some x) (hx:vO X.env.scope x) (he:PE X e te) (hs:swapsWith e (some (.Name x pos')) pos.line X.env=pure false:=by rfl) (hf:X.fn x=true∨X.env.scope.names.lookup x=some .local:=by first | exact .inl rfl | exact .inr rfl | assumption):
    PS X (.Assign [.Name x pos'] e pos) (xw te (tU i)):=by
  intro pins s σ H D I h
  refine wpAny_Assign_Name (cB (he pins s σ H _ I h) fun v s1 ⟨y,H1,I1,r1,q1⟩=>?_) hs
  exact iJ I1 hN hi hx r1 (fun s2 I2=>⟨_,H1,I2,q1⟩) hf
end
structure It where
  go:Nat→Hp→Prop
  yld:Nat→Hp→V→Hp→Prop
  stop:Nat→Hp→Prop
def lg (X:Cx) (pins:List (Addr×Obj)) (H:Hp) (b:Addr):Prop:=
  H b=none∧b≠X.env.locals∧b∉X.fs∧(b∈X.ex∨X.s₀.heap.objs.size≤b)∧(∀x c,X.env.cells.lookup x=some c→c≠b)∧∀p∈X.pn++pins,p.1≠b
theorem Inv.fpOk {X:Cx} {pins:List (Addr×Obj)} {σ:St} {H H':Hp} {s:Shared} {b:Addr} (I:Inv X pins σ H s) (hb:s.heap.objs.size≤b) (hn:H' b=none):lg X pins H' b:=by
  refine ⟨hn,Nat.ne_of_gt (Nat.lt_of_lt_of_le I.lt hb),I.nofs hb, .inr (Nat.le_trans I.sz hb),fun x c e z=>?_,fun p hp z=>?_⟩
  · obtain ⟨v,q⟩:=I.cell x c e
    exact absurd (Nat.lt_of_lt_of_le q.lt (by rw [z];exact hb)) (Nat.lt_irrefl _)
  · exact absurd (Nat.lt_of_lt_of_le (Heap.lt_size (I.pin p hp).1) (by rw [z];exact hb)) (Nat.lt_irrefl _)
structure Turn (P:Program) (w:World) (K:PySem.W.Frag) (tg:Expr) (J:It) (fp:List Addr) (it:Addr) (tn:Nat→Heap→Prop):Prop where
  mem:it∈fp
  obj:∀i h,tn i h→∀b∈fp,∃o,h.get? b=some o∧∀v,o.data≠ .cell v
  keep:∀i h h',tn i h→(∀b∈fp,∀o,h.get? b=some o→h'.get? b=some o)→tn i h'
  item:∀(X:Cx),X.prog=P→X.w=w→X.K=K→X.calm=true→∀(i:Nat) (pins:List (Addr×Obj)) (s:Shared) (σ:St) (H:Hp) (E:Value→Shared→Prop),Inv X pins σ H s→(∀b∈fp,lg X pins H b)→tn i s.heap→J.go i H→
    wpAny (model P w) X.A (pyNext (.ref it)) (fun r s1=>∃u,r=some u∧
      wpAny (model P w) X.A (letOwnedTupleGo tg (.ref it) u) (fun _ s2=>∃x H',Inv X pins σ H' s2∧RelV x u∧J.yld i H x H'∧tn (i+1) s2.heap∧∀b∈fp,H' b=none) E s1) E s
  done:∀(X:Cx),X.prog=P→X.w=w→X.K=K→X.calm=true→∀(i:Nat) (pins:List (Addr×Obj)) (s:Shared) (σ:St) (H:Hp) (E:Value→Shared→Prop),Inv X pins σ H s→(∀b∈fp,lg X pins H b)→tn i s.heap→J.stop i H→
    wpAny (model P w) X.A (pyNext (.ref it)) (fun r s1=>r=none∧Inv X pins σ H s1) E s
  self:∀(A:Around) (i:Nat) (s:Shared) (Q:Value→Shared→Prop) (E:Value→Shared→Prop),tn i s.heap→Q (.ref it) s→wpAny (model P w) A (pyIter (.ref it)) Q E s
abbrev TI:=St→Hp→(It→Hp→Prop)→Prop
def yg (X:Cx) (pins:List (Addr×Obj)) (σ:St) (tg:Expr) (R:It→Hp→Prop) (itv:Value) (s2:Shared):Prop:=
  ∃(it:Addr) (fp:List Addr) (tn:Nat→Heap→Prop) (J:It) (H':Hp),itv= .ref it∧Inv X pins σ H' s2∧Turn X.prog X.w X.K tg J fp it tn∧tn 0 s2.heap∧(∀b∈fp,lg X pins H' b)∧R J H'
def PI (X:Cx) (tg iter:Expr) (wi:TI):Prop:=
  ∀(pins:List (Addr×Obj)) (s:Shared) (σ:St) (H:Hp) (R:It→Hp→Prop),Inv X pins σ H s→wi σ H R→
    wpAny (model X.prog X.w) X.A (eval iter X.env) (fun v s1=>wpAny (model X.prog X.w) X.A (pyIter v) (yg X pins σ tg R) X.xe s1) X.xe s
theorem lh {M:Model} {A:Around} {E:Value→Shared→Prop} {s:Shared} {tg:Expr} {it:Addr} {u:Value} {o:Obj} {n:String} {vs:Array Value} {Q:Unit→Shared→Prop} (ho:s.heap.get? it=some o) (hc:o.cls= .type n) (hd:o.data= .fields vs)
    (hn:["enumerate","zip","dict_itemiterator","dict_reverseitemiterator","odict_iterator","itertools.zip_longest","itertools.pairwise"].contains n=false) (hQ:Q () s):wpAny M A (letOwnedTupleGo tg (.ref it) u) Q E s:=by
  unfold letOwnedTupleGo
  cases tg <;> first
    | exact wpAny_pure hQ
    | (cases u <;> first
        | exact wpAny_pure hQ
        | (refine wpAny_bind (wpAny_load ho ?_)
           rw [hc,hd]
           show wpAny M A (if (["enumerate","zip","dict_itemiterator","dict_reverseitemiterator","odict_iterator","itertools.zip_longest","itertools.pairwise"].contains n&&vs[0]? == some (rawInt _))=true then _ else _) Q E s
           rw [if_neg (by intro h;rw [hn,Bool.false_and] at h;cases h)]
           exact wpAny_pure hQ))
def xx (K:PySem.W.Frag) (a:Addr):It:=
  ⟨fun i H=>∃xs x,SqL K H a xs∧xs[i]? =some x,fun i H x H'=>H'=H∧∀xs,SqL K H a xs→xs[i]? =some x,fun i H=>∃xs,SqL K H a xs∧xs.length≤i⟩
def xy (K:PySem.W.Frag) (a:Addr):It:=
  ⟨fun i H=>∃xs x,SqT K H a xs∧xs[i]? =some x,fun i H x H'=>H'=H∧∀xs,SqT K H a xs→xs[i]? =some x,fun i H=>∃xs,SqT K H a xs∧xs.length≤i⟩
def xa (lo:Int) (n:Nat):It:=⟨fun i _=>i < n,fun i H x H'=>H'=H∧x= .int (lo+i),fun i _=>n≤i⟩
theorem ov {P:Program} {w:World} {K:PySem.W.Frag} {tg:Expr} (a it:Addr):Turn P w K tg (xx K a) [it] it (fun i h=>h.IsListIter it a i) where
  mem:=by simp
  obj:=fun i h st b hb=>by
    have e:b=it:=by simpa using hb
    subst e
    obtain ⟨o,e,c,d⟩:=st
    exact ⟨o,e,fun v z=>by rw [d] at z;cases z⟩
  keep:=fun i h h' st k=>st.at fun o e=>k it (by simp) o e
  item:=by
    intro X hP hw hK hc i pins s σ H E I hf st hg
    subst hP hw hK
    obtain ⟨xs,x,hq,hx⟩:=hg
    obtain ⟨its,rv,p,hz⟩:=I.list hq
    obtain ⟨u,hu,ru⟩:=rv.get hx
    obtain ⟨f0,f1,f2,f3,f4,f5⟩:=hf it (by simp)
    refine wpAny_pyNext_list_item st p.isList (x:=u) (by simpa using hu) fun h' st' sb=>?_
    have I1:Inv X pins σ H {s with heap:=h'}:=I.turned (t':=s.toks) (fun b o hb e=>(sb.2 b hb).trans e) f0 f1 f3 f4 f5
    obtain ⟨o,e,c,d⟩:=id st'
    exact ⟨u,rfl,lh (s:={s with heap:=h'}) e c d (by decide) ⟨x,H,I1,ru,⟨rfl,fun ys hy=>by rw [I.list_inj hy hq];exact hx⟩,st',fun b hb=>(hf b hb).1⟩⟩
  done:=by
    intro X hP hw hK hc i pins s σ H E I hf st hg
    subst hP hw hK
    obtain ⟨xs,hq,hx⟩:=hg
    obtain ⟨its,rv,p,hz⟩:=I.list hq
    obtain ⟨f0,f1,f2,f3,f4,f5⟩:=hf it (by simp)
    have hl:=rv.length
    exact wpAny_pyNext_list_end (I.ok.hd hc) st p.isList (by simp;omega) fun h' eb=>⟨rfl,I.turned (t':=s.toks) (fun b o hb e=>eb b o hb e) f0 f1 f3 f4 f5⟩
  self:=fun _ _ _ _ _ st h=>wpAny_pyIter_listiter st h
theorem mC {P:Program} {w:World} {K:PySem.W.Frag} {tg:Expr} (a it:Addr):Turn P w K tg (xy K a) [it] it (fun i h=>h.IsTupleIter it a i) where
  mem:=by simp
  obj:=fun i h st b hb=>by
    have e:b=it:=by simpa using hb
    subst e
    obtain ⟨o,e,c,d⟩:=st
    exact ⟨o,e,fun v z=>by rw [d] at z;cases z⟩
  keep:=fun i h h' st k=>st.at fun o e=>k it (by simp) o e
  item:=by
    intro X hP hw hK hc i pins s σ H E I hf st hg
    subst hP hw hK
    obtain ⟨xs,x,hq,hx⟩:=hg
    obtain ⟨its,rv,p,hz⟩:=I.tuple hq
    obtain ⟨u,hu,ru⟩:=rv.get hx
    obtain ⟨f0,f1,f2,f3,f4,f5⟩:=hf it (by simp)
    refine wpAny_pyNext_tuple_item st (show s.heap.IsTuple a its.toArray from p) (x:=u) (by simpa using hu) fun h' st' sb=>?_
    have I1:Inv X pins σ H {s with heap:=h'}:=I.turned (t':=s.toks) (fun b o hb e=>(sb.2 b hb).trans e) f0 f1 f3 f4 f5
    obtain ⟨o,e,c,d⟩:=id st'
    exact ⟨u,rfl,lh (s:={s with heap:=h'}) e c d (by decide) ⟨x,H,I1,ru,⟨rfl,fun ys hy=>by rw [I.tuple_inj hy hq];exact hx⟩,st',fun b hb=>(hf b hb).1⟩⟩
  done:=by
    intro X hP hw hK hc i pins s σ H E I hf st hg
    subst hP hw hK
    obtain ⟨xs,hq,hx⟩:=hg
    obtain ⟨its,rv,p,hz⟩:=I.tuple hq
    obtain ⟨f0,f1,f2,f3,f4,f5⟩:=hf it (by simp)
    have hl:=rv.length
    exact wpAny_pyNext_tuple_end (I.ok.hd hc) st (show s.heap.IsTuple a its.toArray from p) (by simp;omega) fun h' eb=>⟨rfl,I.turned (t':=s.toks) (fun b o hb e=>eb b o hb e) f0 f1 f3 f4 f5⟩
  self:=fun _ _ _ _ _ st h=>wpAny_pyIter_tupleiter st h
theorem mD {P:Program} {w:World} {K:PySem.W.Frag} {tg:Expr} (it:Addr) (lo:Int) (n:Nat):Turn P w K tg (xa lo n) [it] it (fun i h=>IsRangeIter h it (lo+(i:Nat)*1) ((n:Int) - (i:Nat)) 1) where
  mem:=by simp
  obj:=fun i h st b hb=>by
    have e:b=it:=by simpa using hb
    subst e
    exact ⟨_,st,fun v z=>by
      have z':Data.fields _=Data.cell v:=z
      cases z'⟩
  keep:=fun i h h' st k=>k it (by simp) _ st
  item:=by
    intro X hP hw hK hc i pins s σ H E I hf st hg
    subst hP hw hK
    obtain ⟨f0,f1,f2,f3,f4,f5⟩:=hf it (by simp)
    have W:=Walks.range (prog:=X.prog) (w:=X.w) (I.ok.hd hc) it lo 1 n
    refine W.item i s _ _ hg st fun v h' tk hv st' kk=>?_
    obtain ⟨t,rfl⟩:=hv
    have I1:Inv X pins σ H {s with heap:=h',toks:=tk}:=I.turned (fun b o hb e=>kk b o (by simpa using hb) e) f0 f1 f3 f4 f5
    refine ⟨_,rfl,lh (s:={s with heap:=h',toks:=tk}) (n:="range_iterator") st' rfl rfl (by decide) ⟨.int (lo+i),H,I1,⟨t,?_⟩,⟨rfl,rfl⟩,st',fun b hb=>(hf b hb).1⟩⟩
    rw [Int.mul_one]
  done:=by
    intro X hP hw hK hc i pins s σ H E I hf st hg
    subst hP hw hK
    obtain ⟨f0,f1,f2,f3,f4,f5⟩:=hf it (by simp)
    exact wpAny_pyNext_range_end (I.ok.hd hc) st (by have:n≤i:=hg;omega) fun h' eb=>⟨rfl,I.turned (t':=s.toks) (fun b o hb e=>eb b o hb e) f0 f1 f3 f4 f5⟩
  self:=fun _ _ _ _ _ st h=>wpAny_pyIter_rangeiter st h
end L2
namespace L2
open PySem PySem.Spec PyProof.Rows
section
variable {X:Cx} {tg:Expr}
def vZ (K:PySem.W.Frag) (tl:TE):TI:=fun σ H R=>tl σ H fun x H1=>∃a,x= .ref a∧(∃xs,SqL K H1 a xs)∧R (xx K a) H1
def xz (K:PySem.W.Frag) (tl:TE):TI:=fun σ H R=>tl σ H fun x H1=>∃a,x= .ref a∧(∃xs,SqT K H1 a xs)∧R (xy K a) H1
theorem nD {l:Expr} {tl:TE} (hl:PE X l tl):PI X tg l (vZ X.K tl):=by
  intro pins s σ H R I h
  refine cB (hl pins s σ H _ I h) fun v s1 ⟨x,H1,I1,r1,q1⟩=>?_
  obtain ⟨a,e,⟨xs,hq⟩,q⟩:=q1
  subst e
  cases r1
  obtain ⟨its,rv,p,hz⟩:=I1.list hq
  refine wpAny_pyIter_list p.isList ?_
  refine ⟨s1.heap.objs.size,[s1.heap.objs.size],_,_,H1,rfl,I1.kept (t':=s1.toks) fun b o e=>Heap.get?_push_of_some _ e,ov a _,⟨_,Heap.get?_push_size _ rfl,rfl,rfl⟩,fun b hb=>?_,q⟩
  have e:b=s1.heap.objs.size:=by simpa using hb
  subst e
  exact I1.fpOk (Nat.le_refl _) (I1.hok.fresh (Nat.le_refl _))
theorem uz {l:Expr} {tl:TE} (hl:PE X l tl):PI X tg l (xz X.K tl):=by
  intro pins s σ H R I h
  refine cB (hl pins s σ H _ I h) fun v s1 ⟨x,H1,I1,r1,q1⟩=>?_
  obtain ⟨a,e,⟨xs,hq⟩,q⟩:=q1
  subst e
  cases r1
  obtain ⟨its,rv,p,hz⟩:=I1.tuple hq
  refine wpAny_pyIter_tuple (show s1.heap.IsTuple a its.toArray from p) ?_
  refine ⟨s1.heap.objs.size,[s1.heap.objs.size],_,_,H1,rfl,I1.kept (t':=s1.toks) fun b o e=>Heap.get?_push_of_some _ e,mC a _,⟨_,Heap.get?_push_size _ rfl,rfl,rfl⟩,fun b hb=>?_,q⟩
  have e:b=s1.heap.objs.size:=by simpa using hb
  subst e
  exact I1.fpOk (Nat.le_refl _) (I1.hok.fresh (Nat.le_refl _))
theorem pI {pins:List (Addr×Obj)} {σ:St} {H:Hp} {s:Shared} {R:It→Hp→Prop} {E:Value→Shared→Prop} {lo hi:Int} {t u v:Tok} {tk:Nat} (I:Inv X pins σ H s) (h1: -(2 ^ 62)≤lo) (h2:lo < 2 ^ 62) (h3: -(2 ^ 62)≤hi) (h4:hi < 2 ^ 62)
    (q:R (xa lo (hi - lo).toNat) H):wpAny (model X.prog X.w) X.A (pyIter (.ref s.heap.objs.size)) (yg X pins σ tg R) E {s with heap:=s.heap.push {cls:= .type "range",data:= .fields #[.int lo t, .int hi u, .int 1 v]},toks:=tk}:=by
  refine wpAny_pyIter_range (IsRange.new ..) (small_one h1 h2 h3 h4) ?_
  have I1:Inv X pins σ H {s with heap:=s.heap.push {cls:= .type "range",data:= .fields #[.int lo t, .int hi u, .int 1 v]},toks:=tk}:=I.kept fun b o e=>Heap.get?_push_of_some _ e
  refine ⟨(s.heap.push {cls:= .type "range",data:= .fields #[.int lo t, .int hi u, .int 1 v]}).objs.size,[(s.heap.push {cls:= .type "range",data:= .fields #[.int lo t, .int hi u, .int 1 v]}).objs.size],_,_,H,rfl,
    I1.kept (t':=tk) fun b o e=>Heap.get?_push_of_some _ e,mD _ lo (hi - lo).toNat,?_,fun b hb=>?_,q⟩
  · have e1:lo+((0:Nat):Int)*1=lo:=by simp
    have e2:(((hi - lo).toNat:Nat):Int) - ((0:Nat):Int)=Builtin.Range.rangeSize lo hi 1:=by rw [rangeSize_one];split <;> omega
    show IsRangeIter _ _ (lo+((0:Nat):Int)*1) ((((hi - lo).toNat:Nat):Int) - ((0:Nat):Int)) 1
    rw [e1,e2]
    exact Heap.get?_push_size _ rfl
  · have e:b=(s.heap.push {cls:= .type "range",data:= .fields #[.int lo t, .int hi u, .int 1 v]}).objs.size:=by simpa using hb
    subst e
    exact I1.fpOk (Nat.le_refl _) (I1.hok.fresh (Nat.le_refl _))
def v0 (ta:TA):TI:=fun σ H R=>ta σ H fun vs H1=>∃j:Int,vs=[.int j]∧ -(2 ^ 62)≤j∧j < 2 ^ 62∧R (xa 0 j.toNat) H1
theorem ox {a:Expr} {ta:TA} {p pos:Pos} (hg:Gl X "range") (hm:X.mg "range"=none) (ha:PA X [a] ta) (hs:starEach [a] X.env=[(false,eval a X.env)]:=by rfl):PI X tg (.Call (.Name "range" p) [a] [] pos) (v0 ta):=by
  intro pins s σ H R I h
  refine Call_ (iK I hg hm boot_range (PyProof.Rows.callWith_type1 (cB (ha pos pins s σ H _ I h) fun us s1 ⟨vs,H1,I1,r1,q1⟩=>?_) hs rfl))
  obtain ⟨j,e,q1,q2,q⟩:=q1
  subst e
  cases r1 with
  | cons r rr=>
    cases rr
    obtain ⟨t,rfl⟩:=r
    exact call_range_1 (pI I1 (by omega) (by omega) q1 q2 (by simpa using q))
def xA (wi:TI) (g:TG) (tb:TS):TS:=fun D σ H=>wi σ H fun J H1=>∃W:Nat→Nat→St→Hp→Prop,(∃m,W 0 m σ H1)∧∀i m σ H,W i m σ H→
  (J.stop i H∧D.nx σ H)∨(J.go i H∧∃N:St→Hp→Prop,(∀σ' H',N σ' H'→∃m',m' < m∧W (i+1) m' σ' H')∧∀x H',J.yld i H x H'→g x σ H' fun σ2 H2=>tb {D with nx:=N,ct:=N,bk:=D.nx} σ2 H2)
def iL (fp:List Addr) (h:Heap):List (Addr×Obj):=fp.filterMap fun b=>(h.get? b).map fun o=>(b,o)
theorem eL {fp:List Addr} {h:Heap} {b:Addr} {o:Obj} (hb:b∈fp) (e:h.get? b=some o):(b,o)∈iL fp h:=List.mem_filterMap.mpr ⟨b,hb,by rw [e];rfl⟩
theorem oy {fp:List Addr} {h:Heap} {p:Addr×Obj} (hp:p∈iL fp h):p.1∈fp∧h.get? p.1=some p.2:=by
  obtain ⟨b,hb,e⟩:=List.mem_filterMap.mp hp
  cases q:h.get? b with
  | none=>rw [q] at e;cases e
  | some o=>
    rw [q] at e
    have e':(b,o)=p:=Option.some.inj e
    subst e'
    exact ⟨hb,q⟩
theorem Inv.pinned {pins:List (Addr×Obj)} {σ:St} {H:Hp} {s:Shared} {fp:List Addr} (I:Inv X pins σ H s) (hf:∀b∈fp,lg X pins H b) (ho:∀b∈fp,∃o,s.heap.get? b=some o∧∀v,o.data≠ .cell v):Inv X (pins++iL fp s.heap) σ H s:=
  I.pins_of fun p hp=>(List.mem_append.mp hp).elim (fun z=>I.pin p (List.mem_append_right _ z)) fun z=>by
    obtain ⟨hb,e⟩:=oy z
    obtain ⟨f0,f1,f2,_⟩:=hf p.1 hb
    obtain ⟨o,e',d⟩:=ho p.1 hb
    rw [e] at e';cases e'
    exact ⟨e,f0,f1,f2,d⟩
theorem Inv.unpinned {pins pl:List (Addr×Obj)} {σ:St} {H:Hp} {s:Shared} (I:Inv X (pins++pl) σ H s):Inv X pins σ H s:=I.pins_of fun p hp=>I.pin p (List.mem_append_right _ (List.mem_append_left _ hp))
theorem pJ {iter:Expr} {body:List Stmt} {wi:TI} {g:TG} {tb:TS} {pos:Pos} (hp:PassesOwn (model X.prog X.w) X.A X.env X.xe) (hc:X.calm=true) (hi:PI X tg iter wi) (hg:PG X tg g) (hb:PSs X body tb)
    (hs:∀x,foldedSetIterable iter X.env x=pure x:=by intro _;rfl):PS X (.For tg iter body [] pos) (xA wi g tb):=by
  intro pins s σ H D I h
  refine wpAny_For (cB (hi pins s σ H _ I h) fun v s1 h1=>cB h1 fun itv s2 h2=>?_) hs
  obtain ⟨it,fp,tn,J,H2,e,I2,T,st2,f2,W,⟨m0,w0⟩,turn⟩:=h2
  subst e
  -- what stays true of the iterator's objects through the loop
  have stat:∀{H':Hp},(∀b∈fp,H' b=none)→∀b∈fp,lg X pins H' b:=fun hn b hb=>⟨hn b hb,(f2 b hb).2⟩
  refine codeAny_forLoop_any (fun n s'=>∃i σ' H',Inv X pins σ' H' s'∧tn i s'.heap∧(∀b∈fp,H' b=none)∧W i n σ' H') ?_ m0 ⟨0,σ,H2,I2,st2,fun b hb=>(f2 b hb).1,w0⟩
  rintro n s3 ⟨i,σ3,H3,I3,st3,fr3,w3⟩
  rcases turn i n σ3 H3 w3 with ⟨stop,qn⟩ | ⟨go,N,hN,step⟩
  · refine wpAny_passesOwn hp (cB (T.done X rfl rfl rfl hc i pins s3 σ3 H3 X.xe I3 (stat fr3) st3 stop) fun r s4 ⟨hr,I4⟩=>?_)
    subst hr
    exact wpAny_execs_nil ⟨σ3,H3,I4,qn⟩
  · refine wpAny_passesOwn hp (cB (T.item X rfl rfl rfl hc i pins s3 σ3 H3 X.xe I3 (stat fr3) st3 go) fun r s4 ⟨u,hr,h4⟩=>?_)
    subst hr
    refine wpAny_passesOwn hp (cB h4 fun _ s5 ⟨x,H5,I5,r5,y5,st5,fr5⟩=>?_)
    have I5':=I5.pinned (stat fr5) (T.obj _ _ st5)
    refine wpAny_passesOwn hp (cB (hg _ s5 σ3 H5 x u _ I5' r5 (step x H5 y5)) fun _ s6 ⟨σ6,H6,I6,q6⟩=>?_)
    refine wpAny_passesOwn hp (cB (hb _ s6 σ6 H6 _ I6 q6) fun f s7 q7=>?_)
    have again:∀{σ7:St} {H7:Hp},Inv X (pins++iL fp s5.heap) σ7 H7 s7→N σ7 H7→∃m,m < n∧∃i σ' H',Inv X pins σ' H' s7∧tn i s7.heap∧(∀b∈fp,H' b=none)∧W i m σ' H':=fun {σ7 H7} I7 n7=>by
      obtain ⟨m',hm,w7⟩:=hN σ7 H7 n7
      refine ⟨m',hm,i+1,σ7,H7,I7.unpinned,T.keep _ _ _ st5 fun b hb o e=>(I7.pin (b,o) (List.mem_append_right _ (List.mem_append_right _ (eL hb e)))).1,fun b hb=>?_,w7⟩
      obtain ⟨o,e,d⟩:=T.obj _ _ st5 b hb
      exact (I7.pin (b,o) (List.mem_append_right _ (List.mem_append_right _ (eL hb e)))).2.1
    cases f with
    | next=>obtain ⟨σ7,H7,I7,n7⟩:=q7;exact again I7 n7
    | cont=>obtain ⟨σ7,H7,I7,n7⟩:=q7;exact again I7 n7
    | brk=>obtain ⟨σ7,H7,I7,q7⟩:=q7;exact ⟨σ7,H7,I7.unpinned,q7⟩
    | ret v=>obtain ⟨x7,σ7,H7,I7,r7,q7⟩:=q7;exact ⟨x7,σ7,H7,I7.unpinned,r7,q7⟩
end
end L2
namespace L2
open PySem PySem.Spec PyProof.Rows
abbrev R2:=V→V→Hp→VK→Prop
def OpR (X:Cx) (f:Value→Value→Sem Value) (r:R2):Prop:=
  ∀(pins:List (Addr×Obj)) (s:Shared) (σ:St) (H:Hp) (x y:V) (v u:Value) (Q:VK),Inv X pins σ H s→RelV x v→RelV y u→r x y H Q→
    wpAny (model X.prog X.w) X.A (f v u) (EP X pins σ Q) X.xe s
def xB (X:Cx) (f:Value→Sem Value) (r:V→Hp→VK→Prop):Prop:=
  ∀(pins:List (Addr×Obj)) (s:Shared) (σ:St) (H:Hp) (x:V) (v:Value) (Q:VK),Inv X pins σ H s→RelV x v→r x H Q→
    wpAny (model X.prog X.w) X.A (f v) (EP X pins σ Q) X.xe s
def CallR (X:Cx) (f:Value) (r:List V→Hp→VK→Prop):Prop:=
  ∀(pins:List (Addr×Obj)) (s:Shared) (σ:St) (H:Hp) (xs:List V) (us:List Value) (Q:VK),Inv X pins σ H s→Vals xs us→r xs H Q→
    wpAny (model X.prog X.w) X.A (call f us) (EP X pins σ Q) X.xe s
def xC (X:Cx) (r:V→Hp→(Bool→Hp→Prop)→Prop):Prop:=
  ∀(pins:List (Addr×Obj)) (s:Shared) (σ:St) (H:Hp) (x:V) (v:Value) (Q:Bool→Hp→Prop),Inv X pins σ H s→RelV x v→r x H Q→
    wpAny (model X.prog X.w) X.A (truthy v) (TP X pins σ Q) X.xe s
def v4 (r:R2) (ta tb:TE):TE:=fun σ H Q=>ta σ H fun x H1=>tb σ H1 fun y H2=>r x y H2 Q
def yt (r:V→Hp→VK→Prop) (ta:TE):TE:=fun σ H Q=>ta σ H fun x H1=>r x H1 Q
def rI (C:Int→Int→Prop) (g:Int→Int→V):R2:=fun x y H Q=>∃i j,x= .int i∧y= .int j∧C i j∧Q (g i j) H
def rN (g:Int→Int→V):R2:=fun x y H Q=>∃i j,x= .int i∧y= .int j∧Q (g i j) H
def rU (g:Int→V):V→Hp→VK→Prop:=fun x H Q=>∃i,x= .int i∧Q (g i) H
section
variable {X:Cx} {a b c:Expr} {ta tb tc:TE} {pos:Pos}
theorem uA (ha:PE X a ta) (hb:PE X b tb) {pins:List (Addr×Obj)} {s:Shared} {σ:St} {H:Hp} {R:V→V→Hp→Prop} (I:Inv X pins σ H s)
    (h:ta σ H fun x H1=>tb σ H1 fun y H2=>R x y H2) {Q:Value→Shared→Prop} {f:Value→Value→Sem Value}
    (hf:∀v u s2 x y H2,Inv X pins σ H2 s2→RelV x v→RelV y u→R x y H2→wpAny (model X.prog X.w) X.A (f v u) Q X.xe s2):
    wpAny (model X.prog X.w) X.A (eval a X.env) (fun v s₁=>wpAny (model X.prog X.w) X.A (eval b X.env) (fun u s₂=>wpAny (model X.prog X.w) X.A (f v u) Q X.xe s₂) X.xe s₁) X.xe s:=by
  refine cB (ha pins s σ H _ I h) fun v s1 ⟨x,H1,I1,r1,q1⟩=>?_
  refine cB (hb pins s1 σ H1 _ I1 q1) fun u s2 ⟨y,H2,I2,r2,q2⟩=>?_
  exact hf v u s2 x y H2 I2 r1 r2 q2
theorem v5 {op:Operator} {r:R2} (ho:OpR X (binaryOp op) r) (ha:PE X a ta) (hb:PE X b tb):PE X (.BinOp a op b pos) (v4 r ta tb):=by
  intro pins s σ H Q I h
  exact wpAny_BinOp (uA ha hb I h fun v u s2 x y H2 I2 rx ry q=>ho pins s2 σ H2 x y v u Q I2 rx ry q)
theorem v6 {op:UnaryOp} {r:V→Hp→VK→Prop} (ho:xB X (unaryOp op) r) (ha:PE X a ta):PE X (.UnaryOp op a pos) (yt r ta):=by
  intro pins s σ H Q I h
  exact UnaryOp_ (cB (ha pins s σ H _ I h) fun v s1 ⟨x,H1,I1,r1,q1⟩=>ho pins s1 σ H1 x v Q I1 r1 q1)
theorem v7 {f:Value→Value→Sem Value} {C:Int→Int→Prop} {g:Int→Int→Int}
    (rule:∀(i j:Int) (t u:Tok) (s:Shared) (Q:Value→Shared→Prop) (E:Value→Shared→Prop),C i j→Q (.int (g i j) s.toks) {s with toks:=s.toks+1}→wpAny (model X.prog X.w) X.A (f (.int i t) (.int j u)) Q E s):
    OpR X f (rI C fun i j=> .int (g i j)):=by
  intro pins s σ H x y v u Q I rx ry h
  obtain ⟨i,j,rfl,rfl,hc,q⟩:=h
  obtain ⟨t,rfl⟩:=rx
  obtain ⟨t',rfl⟩:=ry
  exact rule i j t t' s _ _ hc ⟨.int (g i j),H,I.tok _,⟨_,rfl⟩,q⟩
theorem uB {f:Value→Value→Sem Value} {g:Int→Int→Int}
    (rule:∀(i j:Int) (t u:Tok) (s:Shared) (Q:Value→Shared→Prop) (E:Value→Shared→Prop),Q (.int (g i j) s.toks) {s with toks:=s.toks+1}→wpAny (model X.prog X.w) X.A (f (.int i t) (.int j u)) Q E s):
    OpR X f (rN fun i j=> .int (g i j)):=by
  intro pins s σ H x y v u Q I rx ry h
  obtain ⟨i,j,rfl,rfl,q⟩:=h
  obtain ⟨t,rfl⟩:=rx
  obtain ⟨t',rfl⟩:=ry
  exact rule i j t t' s _ _ ⟨.int (g i j),H,I.tok _,⟨_,rfl⟩,q⟩
theorem rO {f:Value→Value→Sem Value} {g:Int→Int→Bool}
    (rule:∀(i j:Int) (t u:Tok) (s:Shared) (Q:Value→Shared→Prop) (E:Value→Shared→Prop),Q (.bool (g i j)) s→wpAny (model X.prog X.w) X.A (f (.int i t) (.int j u)) Q E s):
    OpR X f (rN fun i j=> .bl (g i j)):=by
  intro pins s σ H x y v u Q I rx ry h
  obtain ⟨i,j,rfl,rfl,q⟩:=h
  obtain ⟨t,rfl⟩:=rx
  obtain ⟨t',rfl⟩:=ry
  exact rule i j t t' s _ _ ⟨.bl (g i j),H,I,rfl,q⟩
def v8 (i j:Int):Prop:=0≤j∧j≤1000000∧i.natAbs < 2 ^ 64
def CMul (i j:Int):Prop:=(-(2 ^ 64) < i∧i < 2 ^ 64)∨(-(2 ^ 64) < j∧j < 2 ^ 64)
theorem CMul.ok {i j:Int} (h:CMul i j):IntMulOk i j:=by
  rcases h with ⟨h1,h2⟩ | ⟨h1,h2⟩
  · exact .of_left (intBits_le_64 h1 h2)
  · exact .of_right (intBits_le_64 h1 h2)
theorem mE (k:Nat):(0:Int)≤2 ^ k:=by
  rw [two_pow_cast]
  exact Int.natCast_nonneg _
theorem uC:OpR X (binaryOp .Add) (rN fun i j=> .int (i+j)):=uB fun _ _ _ _ _ _ _ q=>add_int q
theorem uD:OpR X (binaryOp .Sub) (rN fun i j=> .int (i - j)):=uB fun _ _ _ _ _ _ _ q=>sub_int q
theorem uE:OpR X (binaryOp .Mod) (rI (fun _ j=>0 < j) fun i j=> .int (i % j)):=v7 fun i j _ _ _ _ _ hc q=>by
  have h1:(0:Int) < j:=hc
  exact mod_int' (by omega) (by rw [Int.fmod_eq_emod_of_nonneg i (by omega)];exact q)
theorem uF:OpR X (binaryOp .Pow) (rI v8 fun i j=> .int (i ^ j.toNat)):=v7 fun _ _ _ _ _ _ _ hc q=>pow_int_small hc.1 hc.2.1 hc.2.2 q
theorem uG:OpR X (binaryOp .RShift) (rI (fun _ j=>0≤j) fun i j=> .int (i / 2 ^ j.toNat)):=v7 fun i j _ _ _ _ _ hc q=>
  rshift_int hc (by rw [Int.fdiv_eq_ediv_of_nonneg i (mE _)];exact q)
theorem uH:OpR X (binaryOp .BitAnd) (rN fun i j=> .int (Builtin.bitAnd i j)):=uB fun _ _ _ _ _ _ _ q=>and_int q
theorem yu {f:Value→Sem Value} {g:Int→Int}
    (rule:∀(i:Int) (t:Tok) (s:Shared) (Q:Value→Shared→Prop) (E:Value→Shared→Prop),Q (.int (g i) s.toks) {s with toks:=s.toks+1}→wpAny (model X.prog X.w) X.A (f (.int i t)) Q E s):
    xB X f (rU fun i=> .int (g i)):=by
  intro pins s σ H x v Q I rx h
  obtain ⟨i,rfl,q⟩:=h
  obtain ⟨t,rfl⟩:=rx
  exact rule i t s _ _ ⟨.int (g i),H,I.tok _,⟨_,rfl⟩,q⟩
theorem uI:xB X (unaryOp .USub) (rU fun i=> .int (-i)):=yu fun _ _ _ _ _ q=>neg_int q
end
def uJ:V→V→Bool
  | .non, .non=>true | .non, .int _=>true | .int _, .non=>true | .non, .bl _=>true | .bl _, .non=>true | .non, .str _=>true | .str _, .non=>true
  | .int _, .int _=>true | .bl _, .bl _=>true | .str _, .str _=>true | .byt _, .byt _=>true
  | .int _, .str _=>true | .str _, .int _=>true | .bl _, .str _=>true | .str _, .bl _=>true
  | _,_=>false
def yh:R2:=fun x y H Q=>uJ x y=true∧Q (.bl (decide (x=y))) H
def yi:R2:=fun x y H Q=>uJ x y=true∧Q (.bl (!decide (x=y))) H
theorem nE {i j:Int}:decide (V.int i=V.int j)=(i == j):=by
  rw [Bool.eq_iff_iff]
  simp
theorem pK {i j:Bool}:decide (V.bl i=V.bl j)=(i == j):=by
  rw [Bool.eq_iff_iff]
  simp
theorem nG {i j:Str}:decide (V.str i=V.str j)=(i == j):=by
  rw [Bool.eq_iff_iff]
  simp
theorem nH {i j:Array UInt8}:decide (V.byt i=V.byt j)=(i.toList == j.toList):=by
  rw [Bool.eq_iff_iff]
  cases i
  cases j
  simp
section
variable {X:Cx} {a b c:Expr} {ta tb tc:TE} {pos:Pos}
theorem aG {pins:List (Addr×Obj)} {σ:St} {H:Hp} {s:Shared} {Q:VK} {k k':Bool} (I:Inv X pins σ H s) (q:Q (.bl k) H) (e:k=k'):EP X pins σ Q (.bool k') s:=by
  subst e
  exact ⟨.bl k,H,I,rfl,q⟩
theorem tV:OpR X (compareOp .Eq) yh:=by
  intro pins s σ H x y v u Q I rx ry h
  obtain ⟨hs,q⟩:=h
  cases x with
  | non=>
    cases rx
    cases y with
    | non=>cases ry;exact PySem.EqNone.eq_none_none (aG I q (by simp))
    | bl j=>cases ry;exact PySem.EqNone.eq_none_bool (aG I q (by simp))
    | int j=>obtain ⟨t',rfl⟩:=ry;exact PySem.EqNone.eq_none_int (aG I q (by simp))
    | str j=>obtain ⟨t',rfl⟩:=ry;exact PySem.EqNone.eq_none_str (aG I q (by simp))
    | _=>exact absurd (show false=true from hs) Bool.false_ne_true
  | bl i=>
    cases rx
    cases y with
    | non=>cases ry;exact PySem.EqNone.eq_bool_none (aG I q (by simp))
    | bl j=>cases ry;exact eq_bool (aG I q pK)
    | str j=>obtain ⟨t',rfl⟩:=ry;exact PySem.EqMixed.eq_bool_str (aG I q (by simp))
    | _=>exact absurd (show false=true from hs) Bool.false_ne_true
  | int i=>
    obtain ⟨t,rfl⟩:=rx
    cases y with
    | non=>cases ry;exact PySem.EqNone.eq_int_none (aG I q (by simp))
    | int j=>obtain ⟨t',rfl⟩:=ry;exact eq_int (aG I q nE)
    | str j=>obtain ⟨t',rfl⟩:=ry;exact PySem.EqMixed.eq_int_str (aG I q (by simp))
    | _=>exact absurd (show false=true from hs) Bool.false_ne_true
  | str i=>
    obtain ⟨t,rfl⟩:=rx
    cases y with
    | non=>cases ry;exact PySem.EqNone.eq_str_none (aG I q (by simp))
    | bl j=>cases ry;exact PySem.EqMixed.eq_str_bool (aG I q (by simp))
    | int j=>obtain ⟨t',rfl⟩:=ry;exact PySem.EqMixed.eq_str_int (aG I q (by simp))
    | str j=>obtain ⟨t',rfl⟩:=ry;exact eq_str (aG I q nG)
    | _=>exact absurd (show false=true from hs) Bool.false_ne_true
  | byt i=>
    obtain ⟨t,rfl⟩:=rx
    cases y with
    | byt j=>obtain ⟨t',rfl⟩:=ry;exact PySem.W.eq_bytes (aG I q nH)
    | _=>exact absurd (show false=true from hs) Bool.false_ne_true
  | _=>cases y <;> exact absurd (show false=true from hs) Bool.false_ne_true
theorem v9:OpR X (compareOp .NotEq) yi:=by
  intro pins s σ H x y v u Q I rx ry h
  obtain ⟨hs,q⟩:=h
  cases x with
  | non=>
    cases rx
    cases y with
    | non=>cases ry;exact PySem.EqNone.ne_none_none (aG I q (by simp))
    | bl j=>cases ry;exact PySem.EqNone.ne_none_bool (aG I q (by simp))
    | int j=>obtain ⟨t',rfl⟩:=ry;exact PySem.EqNone.ne_none_int (aG I q (by simp))
    | str j=>obtain ⟨t',rfl⟩:=ry;exact PySem.EqNone.ne_none_str (aG I q (by simp))
    | _=>exact absurd (show false=true from hs) Bool.false_ne_true
  | bl i=>
    cases rx
    cases y with
    | non=>cases ry;exact PySem.EqNone.ne_bool_none (aG I q (by simp))
    | bl j=>cases ry;exact ne_bool (aG I q (congrArg not pK))
    | str j=>obtain ⟨t',rfl⟩:=ry;exact PySem.EqMixed.ne_bool_str (aG I q (by simp))
    | _=>exact absurd (show false=true from hs) Bool.false_ne_true
  | int i=>
    obtain ⟨t,rfl⟩:=rx
    cases y with
    | non=>cases ry;exact PySem.EqNone.ne_int_none (aG I q (by simp))
    | int j=>obtain ⟨t',rfl⟩:=ry;exact ne_int (aG I q (congrArg not nE))
    | str j=>obtain ⟨t',rfl⟩:=ry;exact PySem.EqMixed.ne_int_str (aG I q (by simp))
    | _=>exact absurd (show false=true from hs) Bool.false_ne_true
  | str i=>
    obtain ⟨t,rfl⟩:=rx
    cases y with
    | non=>cases ry;exact PySem.EqNone.ne_str_none (aG I q (by simp))
    | bl j=>cases ry;exact PySem.EqMixed.ne_str_bool (aG I q (by simp))
    | int j=>obtain ⟨t',rfl⟩:=ry;exact PySem.EqMixed.ne_str_int (aG I q (by simp))
    | str j=>obtain ⟨t',rfl⟩:=ry;exact ne_str (aG I q (congrArg not nG))
    | _=>exact absurd (show false=true from hs) Bool.false_ne_true
  | byt i=>
    obtain ⟨t,rfl⟩:=rx
    cases y with
    | byt j=>obtain ⟨t',rfl⟩:=ry;exact PySem.W.ne_bytes (aG I q (congrArg not nH))
    | _=>exact absurd (show false=true from hs) Bool.false_ne_true
  | _=>cases y <;> exact absurd (show false=true from hs) Bool.false_ne_true
theorem v_:OpR X (compareOp .Lt) (rN fun i j=> .bl (decide (i < j))):=rO fun _ _ _ _ _ _ _ q=>lt_int q
theorem wa:OpR X (compareOp .LtE) (rN fun i j=> .bl (decide (i≤j))):=rO fun _ _ _ _ _ _ _ q=>le_int q
theorem wb:OpR X (compareOp .Gt) (rN fun i j=> .bl (decide (j < i))):=rO fun _ _ _ _ _ _ _ q=>gt_int q
theorem wc:OpR X (compareOp .GtE) (rN fun i j=> .bl (decide (j≤i))):=rO fun _ _ _ _ _ _ _ q=>ge_int q
theorem oz:OpR X (compareOp .Lt) (fun x y H Q=>∃i j,x= .str i∧y= .str j∧Q (.bl (decide (i.cps.toList < j.cps.toList))) H):=by
  intro pins s σ H x y v u Q I rx ry h
  obtain ⟨i,j,rfl,rfl,q⟩:=h
  obtain ⟨t,rfl⟩:=rx
  obtain ⟨t',rfl⟩:=ry
  exact lt_str (aG I q rfl)
theorem oA:OpR X (compareOp .In) (fun x y H Q=>∃i j,x= .str i∧y= .str j∧Q (.bl (!(Builtin.Str.occurrences j i 0 j.length 1).isEmpty)) H):=by
  intro pins s σ H x y v u Q I rx ry h
  obtain ⟨i,j,rfl,rfl,q⟩:=h
  obtain ⟨t,rfl⟩:=rx
  obtain ⟨t',rfl⟩:=ry
  exact in_str (aG I q rfl)
theorem OpR.or {f:Value→Value→Sem Value} {r r':R2} (h:OpR X f r) (h':OpR X f r'):OpR X f (fun x y H Q=>r x y H Q∨r' x y H Q):=by
  intro pins s σ H x y v u Q I rx ry q
  rcases q with q | q
  · exact h pins s σ H x y v u Q I rx ry q
  · exact h' pins s σ H x y v u Q I rx ry q
theorem ki (b:Expr) {op:CmpOp} (h:op≠ .In:=by decide) (h2:op≠ .NotIn:=by decide):behindInMarks op b=false:=by
  have e1:(op == CmpOp.In)=false:=by cases op <;> first | rfl | exact absurd rfl h
  have e2:(op == CmpOp.NotIn)=false:=by cases op <;> first | rfl | exact absurd rfl h2
  cases b <;> simp [behindInMarks,e1,e2]
theorem rP {op:CmpOp} {r:R2} (ho:OpR X (compareOp op) r) (ha:PE X a ta) (hb:PE X b tb) (hm:behindInMarks op b=false):PE X (.Compare a [op] [b] pos) (v4 r ta tb):=by
  intro pins s σ H Q I h
  exact wpAny_Compare1 (uA ha hb I h fun v u s2 x y H2 I2 rx ry q=>ho pins s2 σ H2 x y v u Q I2 rx ry q) hm
def wd (t:TE):TT:=fun σ H Q=>t σ H fun x H'=>∃k,x= .bl k∧Q k H'
theorem rQ {op:CmpOp} {r:R2} (ho:OpR X (compareOp op) r) (ha:PE X a ta) (hb:PE X b tb) (hm:behindInMarks op b=false):PT X (.Compare a [op] [b] pos) (wd (v4 r ta tb)):=by
  intro pins s σ H Q I h
  refine wpAny_isTrue_Compare1 (cB (ha pins s σ H _ I h) fun v s1 ⟨x,H1,I1,r1,q1⟩=>cB (hb pins s1 σ H1 _ I1 q1) fun u s2 ⟨y,H2,I2,r2,q2⟩=>
    cB (ho pins s2 σ H2 x y v u _ I2 r1 r2 q2) fun c s3 ⟨z,H3,I3,r3,k,e,q3⟩=>?_) hm
  subst e
  cases r3
  exact wpAny_truthy_bool ⟨H3,I3,q3⟩
def pL (r r':R2) (ta tb tc:TE):TE:=fun σ H Q=>ta σ H fun x H1=>tb σ H1 fun y H2=>r x y H2 fun z H3=>∃k,z= .bl k∧
  (if k=true then tc σ H3 fun w' H4=>r' y w' H4 Q else Q (.bl false) H3)
theorem pM {op op':CmpOp} {r r':R2} (ho:OpR X (compareOp op) r) (ho':OpR X (compareOp op') r') (ha:PE X a ta) (hb:PE X b tb) (hc:PE X c tc)
    (hm:lastMarks [op,op'] [b,c]=false:=by with_unfolding_all rfl):PE X (.Compare a [op,op'] [b,c] pos) (pL r r' ta tb tc):=by
  intro pins s σ H Q I h
  refine Compare_chain (cB (ha pins s σ H _ I h) fun v s1 ⟨x,H1,I1,r1,q1⟩=>chain_link (cB (hb pins s1 σ H1 _ I1 q1) fun u s2 ⟨y,H2,I2,r2,q2⟩=>
    cB (ho pins s2 σ H2 x y v u _ I2 r1 r2 q2) fun d s3 ⟨z,H3,I3,r3,k,e,q3⟩=>?_)) hm
  subst e
  cases r3
  refine wpAny_truthy_bool ?_
  cases k with
  | false=>exact ite_ff ⟨.bl false,H3,I3,rfl,q3⟩
  | true=>exact ite_tt (chain_last (cB (hc pins s3 σ H3 _ I3 q3) fun w' s4 ⟨z',H4,I4,r4,q4⟩=>ho' pins s4 σ H4 y z' u w' Q I4 r2 r4 q4))
def pN (K:PySem.W.Frag) (x:V) (H:Hp) (k:Bool):Prop:=
  match x with
  | .non=>k=false
  | .bl b=>k=b
  | .int i=>k=(i != 0)
  | .str y=>y.length≤sizeLine∧k=((y.length:Int) != 0)
  | .byt y=>y.size≤sizeLine∧k=((y.size:Int) != 0)
  | .ref p=>(∃xs,SqL K H p xs∧k= !xs.isEmpty)∨(∃xs,SqT K H p xs∧k= !xs.isEmpty)∨∃kvs,H p=some (.dK kvs)∧k= !kvs.isEmpty
  | _=>False
theorem mF {κ:Type} {kvs:List (κ×V)} {vs:List (κ×Value)} (r:KV kvs vs):(!vs.isEmpty)= !kvs.isEmpty:=by
  cases r <;> rfl
theorem iM {xs:List V} {its:List Value} (r:Vals xs its):(!its.toArray.isEmpty)= !xs.isEmpty:=by
  cases r <;> simp
theorem gO:(sizeLine:Nat) < 2 ^ 63:=by rw [sizeLine_eq];decide
theorem uK:xC X (fun x H Q=>∃k,pN X.K x H k∧Q k H):=by
  intro pins s σ H x v Q I rx h
  obtain ⟨k,e,q⟩:=h
  have hl:=gO
  have hs:sizeLine=16777216:=sizeLine_eq
  cases x with
  | non=>
    cases rx
    have e':k=false:=e
    subst e'
    exact truthy_none ⟨H,I,q⟩
  | bl b=>
    cases rx
    have e':k=b:=e
    subst e'
    exact wpAny_truthy_bool ⟨H,I,q⟩
  | int i=>
    obtain ⟨t,rfl⟩:=rx
    have e':k=(i != 0):=e
    subst e'
    exact PySem.P.truthy_int ⟨H,I,q⟩
  | str y=>
    obtain ⟨t,rfl⟩:=rx
    obtain ⟨hy,e'⟩:y.length≤sizeLine∧k=((y.length:Int) != 0):=e
    subst e'
    exact PySem.P.truthy_str (by omega) ⟨H,I.tok _,q⟩
  | byt y=>
    obtain ⟨t,rfl⟩:=rx
    obtain ⟨hy,e'⟩:y.size≤sizeLine∧k=((y.size:Int) != 0):=e
    subst e'
    exact PySem.W.truthy_bytes (by omega) ⟨H,I.tok _,q⟩
  | ref p=>
    cases rx
    have e':(∃xs,SqL X.K H p xs∧k= !xs.isEmpty)∨(∃xs,SqT X.K H p xs∧k= !xs.isEmpty)∨∃kvs,H p=some (.dK kvs)∧k= !kvs.isEmpty:=e
    rcases e' with ⟨xs,hx,e'⟩ | ⟨xs,hx,e'⟩ | ⟨kvs,hx,e'⟩
    · subst e'
      obtain ⟨its,r,pl,hz⟩:=I.list hx
      have hlen:=r.length
      exact wpAny_truthy_list pl.isList (by simp only [List.size_toArray];omega) ⟨H,I.tok _,by rw [iM r];exact q⟩
    · subst e'
      obtain ⟨its,r,pl,hz⟩:=I.tuple hx
      have hlen:=r.length
      exact truthy_tuple pl (by simp only [List.size_toArray];omega) ⟨H,I.tok _,by rw [iM r];exact q⟩
    · subst e'
      obtain ⟨hz,hS,vs,r,m⟩:kvs.length≤sizeLine∧(p == sysModules)=false∧∃vs,KV kvs vs∧s.heap.DictOf (iA X.prog X.w) p vs:=I.hok p _ hx
      have hlen:kvs.length=vs.length:=Paired.length r
      exact wpAny_truthy_dict hS m (by omega) ⟨H,I.tok _,by rw [mF r];exact q⟩
  | _=>exact (show False from e).elim
theorem pO (ha:PE X a ta) (he:∀whole,isTrue a X.env whole=(do let v ←whole;standAt a.pos;holding [v] (truthy v))):
    PT X a (fun σ H Q=>ta σ H fun x H'=>∃k,pN X.K x H' k∧Q k H'):=by
  intro pins s σ H Q I h
  exact isTrue_plain (cB (ha pins s σ H _ I h) fun v s1 ⟨x,H1,I1,r1,q1⟩=>uK pins s1 σ H1 x v Q I1 r1 q1) (he _)
theorem mG:OpR X (binaryOp .Add) (fun x y H Q=>∃i j,x= .str i∧y= .str j∧i.length+j.length≤sizeLine∧Q (.str (i++j)) H):=by
  intro pins s σ H x y v u Q I rx ry h
  obtain ⟨i,j,rfl,rfl,hz,q⟩:=h
  obtain ⟨t,rfl⟩:=rx
  obtain ⟨t',rfl⟩:=ry
  exact add_str (fun t' tk=>⟨.str (i++j),H,I.tok _,⟨_,rfl⟩,q⟩) hz
theorem pP {x:V} {us:List Value} (r:Vals [x] us):∃u,us=[u]∧RelV x u:=by
  cases r with
  | cons r1 r2=>cases r2;exact ⟨_,rfl,r1⟩
end
end L2
namespace L2
open PySem PySem.Spec PyProof.Rows
structure ObjM (h:Heap) (x dx C:Addr) (mA:Str→Option Value):Prop where
  obj:h.get? x=some (PySem.W.instObj C dx)
  ns:h.Ns1 dx mA
  ne:dx≠x
theorem oB {h:Heap} {dx:Addr} {mA:Str→Option Value} (n:h.Ns1 dx mA):∃od,h.get? dx=some od∧∀name,PySem.W.lookIn name od=some (mA name):=by
  obtain ⟨o,es,ep,ho,hd,hk,_,hm⟩:=n
  refine ⟨o,ho,fun name=>?_⟩
  have e:=hm name
  unfold nsFind findBy at e
  rw [←Array.find?_toList] at e
  unfold PySem.W.lookIn
  rw [hd]
  dsimp only
  split
  · rename_i y q
    rw [q] at e
    exact congrArg some e
  · rename_i q
    rw [q] at e
    have a:es.toList.any (·.refKey)=false:=by
      rw [List.any_eq_false]
      intro y hy
      obtain ⟨z,t,hkey⟩:=hk y (Array.mem_toList_iff.mp hy)
      simp [DictEntry.refKey,hkey]
    have a':¬es.toList.any (·.refKey)=true:=by rw [a];exact Bool.false_ne_true
    rw [if_neg a']
    exact congrArg some e
theorem ObjM.look {h:Heap} {x dx C:Addr} {mA:Str→Option Value} (I:ObjM h x dx C mA):∃od,PySem.W.InstAt h x (PySem.W.instObj C dx) C (some od)∧∀name,PySem.W.lookIn name od=some (mA name):=
  let ⟨od,ho,hl⟩:=oB I.ns
  ⟨od,⟨I.obj,rfl,rfl,ho⟩,hl⟩
section
variable {P:Program} {w:World} {H H':Hp} {h h':Heap} {a C dx:Addr} {fs fs':List (Str×V)}
theorem rR (hok:HOk P w H h) (e:H a=some (.ins C dx fs)):∃mA,ObjM h a dx C mA∧(∀f,RelO (fs.lookup f) (mA f))∧PySem.Within mA (fs.map (·.1))∧fs.length≤1000∧H dx=some (.own a):=by
  obtain ⟨d,z,ne,ob,mA,n,r,q⟩:=(show ObjOk P w H h a (.ins C dx fs) from hok a _ e)
  exact ⟨mA,⟨ob,n,ne⟩,r,q,z,d⟩
end
structure Cls (K:PySem.W.Frag) (C:Addr):Prop where
  pg:PySem.W.plainGet K C Str.empty=true
  hd:PySem.W.hasDictIn K C=true
  po:PySem.W.plainOver K C=true
  sa:PySem.W.findIn K (.ref C) "__setattr__"=some (some (.builtin "object.__setattr__"))
theorem Cls.get {K:PySem.W.Frag} {C:Addr} (c:Cls K C) (f:Str):PySem.W.plainGet K C f=true:=c.pg
section
variable {X:Cx} {pins:List (Addr×Obj)} {σ:St} {H:Hp} {s:Shared} {a C dx:Addr} {fs:List (Str×V)} {f:Str} {v:V} {A:Around} {E:Value→Shared→Prop}
theorem Inv.made (I:Inv X pins σ H s):Inv X pins σ (upd (upd H s.heap.objs.size (.own (s.heap.objs.size+1))) (s.heap.objs.size+1) (.ins C s.heap.objs.size []))
    {s with heap:=(s.heap.push PySem.W.emptyDict).push (PySem.W.instObj C s.heap.objs.size)}:=by
  have e1:(s.heap.push PySem.W.emptyDict).get? s.heap.objs.size=some PySem.W.emptyDict:=Heap.get?_push_size s.heap rfl
  have e2:((s.heap.push PySem.W.emptyDict).push (PySem.W.instObj C s.heap.objs.size)).get? (s.heap.objs.size+1)=some (PySem.W.instObj C s.heap.objs.size):=by
    have:=Heap.get?_push_size (s.heap.push PySem.W.emptyDict) (o:=PySem.W.instObj C s.heap.objs.size) rfl
    rwa [Heap.size_push] at this
  have e3:(s.heap.push PySem.W.emptyDict).Ns s.heap.objs.size (fun _=>none):=⟨PySem.W.emptyDict,#[],_,e1,rfl,(fun e he=>absurd he (by simp)),fun _=>rfl⟩
  have I1:=I.laid (a:=s.heap.objs.size) (o:= .own (s.heap.objs.size+1)) (h':=s.heap.push PySem.W.emptyDict) (t':=s.toks) (fun b u q=>Heap.get?_push_of_some _ q) (Nat.le_refl _) ⟨_,e1⟩
  refine I1.laid (a:=s.heap.objs.size+1) (o:= .ins C s.heap.objs.size []) (t':=s.toks) (fun b u q=>Heap.get?_push_of_some _ q) (Nat.le_of_eq (Heap.size_push _ _)) ?_
  have ne:s.heap.objs.size≠s.heap.objs.size+1:=Nat.ne_of_lt (Nat.lt_succ_self _)
  refine ⟨by rw [aC ne,bg],Nat.zero_le _,ne,e2,fun _=>none,(Heap.Ns1.of_empty e3).at fun o q=>Heap.get?_push_of_some _ q,fun _=>True.intro,fun y hy=>absurd rfl hy⟩
end
section
variable {X:Cx} {pins:List (Addr×Obj)} {σ:St} {H:Hp} {s:Shared} {A:Around} {E:Value→Shared→Prop} {Q:Value→Shared→Prop} {c:Value} {b:Bool}
inductive TyOf (K:PySem.W.Frag) (H:Hp):V→Value→Prop where
  | non:TyOf K H .non (.type "NoneType")
  | bl (x:Bool):TyOf K H (.bl x) (.type "bool")
  | int (i:Int):TyOf K H (.int i) (.type "int")
  | str (x:Str):TyOf K H (.str x) (.type "str")
  | flt (x:UInt64):TyOf K H (.flt x) (.type "float")
  | lst {a:Addr} {xs:List V} (e:H a=some (.lst xs)):TyOf K H (.ref a) (.type "list")
  | frz {a:Addr} {o:Obj} {xs:List V} (e:H a=some (.frz o (.lst xs))):TyOf K H (.ref a) (.type "list")
  | tup {a:Addr} {xs:List V} (e:H a=some (.tup xs)):TyOf K H (.ref a) (.type "tuple")
  | dK {a:Addr} {kvs:List (cL×V)} (e:H a=some (.dK kvs)):TyOf K H (.ref a) (.type "dict")
  | dT {a:Addr} {kvs:List (List cL×V)} (e:H a=some (.dT kvs)):TyOf K H (.ref a) (.type "dict")
  | ins {a C dx:Addr} {fs:List (Str×V)} (e:H a=some (.ins C dx fs)) (cl:Cls K C) (ha:PySem.W.findIn K (.ref C) "__class__"=some (some (.builtin "object.__class__")))
      (hn:PySem.W.specialIn K (.builtin "object.__class__") "__get__"=some (some (.builtin "getset_descriptor.__get__"))) (htk:PySem.W.takesIn K (.builtin "object.__class__")=some true)
      (hm:PySem.W.mroIn K C (.type "object")=some true):TyOf K H (.ref a) (.ref C)
theorem fE {x:V} {u t:Value} (I:Inv X pins σ H s) (rx:RelV x u) (ty:TyOf X.K H x t) (e:PySem.W.kitOne X.K t c=some b) (h:∀tk,Q (.bool b) {s with toks:=tk}):
    wpAny (model X.prog X.w) A (call (.builtin "isinstance") [u,c]) Q E s:=by
  cases ty with
  | non=>cases (show u=Value.none from rx);exact PySem.W.kia_one PySem.W.kitx_none I.kIn True.intro e (fun z=>nomatch z) h
  | bl y=>cases (show u=Value.bool y from rx);exact PySem.W.kia_one PySem.W.kitx_bool I.kIn True.intro e (fun z=>nomatch z) h
  | int i=>obtain ⟨t,q⟩:=(show ∃t,u=Value.int i t from rx);cases q;exact PySem.W.kia_one PySem.W.kitx_int I.kIn True.intro e (fun z=>nomatch z) h
  | str y=>obtain ⟨t,q⟩:=(show ∃t,u=Value.str y t from rx);cases q;exact PySem.W.kia_one PySem.W.kitx_str I.kIn True.intro e (fun z=>nomatch z) h
  | flt y=>obtain ⟨t,q⟩:=(show ∃t,u=Value.float y t from rx);cases q;exact PySem.W.kia_one PySem.W.kitx_float I.kIn True.intro e (fun z=>nomatch z) h
  | @lst a xs ea=>
    cases (show u=Value.ref a from rx)
    obtain ⟨_,_,n,_,h1⟩:=(show ObjOk X.prog X.w H s.heap a (.lst xs) from I.hok a _ ea)
    exact PySem.W.kia_one PySem.W.kitx_list I.kIn ⟨_,h1,rfl⟩ e (fun z=>nomatch z) h
  | @frz a ob xs ea=>
    cases (show u=Value.ref a from rx)
    obtain ⟨_,_,_,n,_,h1⟩:=(show ObjOk X.prog X.w H s.heap a (.frz ob (.lst xs)) from I.hok a _ ea)
    exact PySem.W.kia_one PySem.W.kitx_list I.kIn ⟨_,h1,rfl⟩ e (fun z=>nomatch z) h
  | @tup a xs ea=>
    cases (show u=Value.ref a from rx)
    obtain ⟨_,_,_,p⟩:=(show ObjOk X.prog X.w H s.heap a (.tup xs) from I.hok a _ ea)
    obtain ⟨o,h1,h2,_⟩:=p
    exact PySem.W.kia_one PySem.W.kitx_tuple I.kIn ⟨o,h1,h2⟩ e (fun z=>nomatch z) h
  | @dK a kvs ea=>
    cases (show u=Value.ref a from rx)
    obtain ⟨_,_,vs,_,p⟩:=(show ObjOk X.prog X.w H s.heap a (.dK kvs) from I.hok a _ ea)
    obtain ⟨o,es,ep,h1,h2,_⟩:=p
    exact PySem.W.kia_one PySem.W.kitx_dict I.kIn ⟨o,h1,h2.1⟩ e (fun z=>nomatch z) h
  | @dT a kvs ea=>
    cases (show u=Value.ref a from rx)
    obtain ⟨_,_,xs,_,o,es,ep,h1,h2,_⟩:=(show ObjOk X.prog X.w H s.heap a (.dT kvs) from I.hok a _ ea)
    exact PySem.W.kia_one PySem.W.kitx_dict I.kIn ⟨o,h1,h2.1⟩ e (fun z=>nomatch z) h
  | @ins a C dx fs ea cl ha hn htk hm=>
    cases (show u=Value.ref a from rx)
    obtain ⟨mA,O,_⟩:=rR I.hok ea
    obtain ⟨od,J,_⟩:=O.look
    exact PySem.W.kia_one (PySem.W.kitx_own (cl.get _) cl.hd ha hn htk hm) I.kIn J e (fun z=>nomatch z) h
end
end L2
namespace L2
open PySem PySem.Spec PyProof.Rows
structure Room (k:Nat) (A:Around):Prop where
  hd:A.handled=none
  dp:A.depth+3*k+5 < recursionLimit
  un:A.units+16*k+200 < cLine
theorem Room.mono {j k:Nat} {A:Around} (r:Room k A) (h:j≤k):Room j A:=⟨r.hd,by have:=r.dp;omega,by have:=r.un;omega⟩
theorem Room.deeper {k:Nat} {A:Around} (r:Room (k+1) A) (env:Env):Room k (A.deeper env):=
  ⟨r.hd,by have:=r.dp;show A.depth+1+3*k+5 < _;omega,by have:=r.un;show A.units+3+16*k+200 < _;omega⟩
theorem Room.in1 {k:Nat} {A:Around} (r:Room (k+1) A):Room k A.in1:=
  ⟨r.hd,by have:=r.dp;show A.depth+3*k+5 < _;omega,by have:=r.un;show A.units+1+16*k+200 < _;omega⟩
theorem Room.depth {k:Nat} {A:Around} (r:Room k A):A.depth < recursionLimit:=by have:=r.dp;omega
theorem Room.units {k:Nat} {A:Around} (r:Room k A):A.units+64 < cLine:=by have:=r.un;omega
def xD:TA:=fun _ H Q=>Q [] H
def we (ta:TE) (tr:TA):TA:=fun σ H Q=>ta σ H fun x H1=>tr σ H1 fun xs H2=>Q (x::xs) H2
section
variable {X:Cx} {e:Expr} {es:List Expr} {te:TE} {t:TA} {pos:Pos}
theorem cN:PA X [] xD:=fun _ _ _ _ H Q I h=>Calls.spliced_nil ⟨[],H,I, .nil,h⟩
theorem bR (ha:PE X e te) (hr:PA X es t) (hs:starEach (e::es) X.env=(false,eval e X.env)::starEach es X.env:=by rfl):PA X (e::es) (we te t):=by
  intro pos pins s σ H Q I h
  rw [hs]
  show wpAny _ _ (spliced ((false,eval e X.env)::backTo pos (starEach es X.env))) _ _ s
  refine Calls.spliced_cons (cB (ha pins s σ H _ I h) fun u s1 ⟨x,H1,I1,r1,q1⟩=>?_)
  exact cB (hr pos pins s1 σ H1 _ I1 q1) fun us s2 ⟨xs,H2,I2,r2,q2⟩=>⟨x::xs,H2,I2, .cons r1 r2,q2⟩
def xE (t:TA):TE:=fun σ H Q=>t σ H fun xs H1=>xs.length≤sizeLine∧∀p,H1 p=none→Q (.ref p) (upd H1 p (.tup xs))
def xF (t:TA):TE:=fun σ H Q=>t σ H fun xs H1=>xs.length≤sizeLine∧∀p,H1 p=none→Q (.ref p) (upd H1 p (.lst xs))
theorem uL {x1} (h:PA X es t):PE X (.Tuple es x1 pos) (xE t):=by
  intro pins s σ H Q I hq
  refine wpAny_Tuple_spliced (cB (h pos pins s σ H _ I hq) fun us s1 ⟨xs,H1,I1,r,z,q⟩=>⟨by rw [←r.length];exact z,?_⟩)
  have hf:H1 s1.heap.objs.size=none:=I1.hok.fresh (Nat.le_refl _)
  refine ⟨.ref s1.heap.objs.size,upd H1 s1.heap.objs.size (.tup xs),I1.laid (t':=s1.toks) (fun b u e=>Heap.get?_push_of_some _ e) (Nat.le_refl _) ?_,rfl,q _ hf⟩
  exact ⟨z,us,r,⟨_,Heap.get?_push_size _ rfl,rfl,_,rfl⟩⟩
theorem uM (h:PA X es t):PE X (.List es pos) (xF t):=by
  intro pins s σ H Q I hq
  refine wpAny_List_spliced (cB (h pos pins s σ H _ I hq) fun us s1 ⟨xs,H1,I1,r,z,q⟩=>⟨by rw [←r.length];exact z,?_⟩)
  have hf:H1 s1.heap.objs.size=none:=I1.hok.fresh (Nat.le_refl _)
  refine ⟨.ref s1.heap.objs.size,upd H1 s1.heap.objs.size (.lst xs),I1.laid (t':=s1.toks) (fun b u e=>Heap.get?_push_of_some _ e) (Nat.le_refl _) ?_,rfl,q _ hf⟩
  exact ⟨z,us,0,r,Heap.get?_push_size _ rfl⟩
end
abbrev Sp:=List V→Hp→VK→XK→Prop
abbrev oC:=List Env→Hp→Shared→XK→Value→Shared→Prop
structure Env0 (P:Program) (w:World) (K:PySem.W.Frag) (mg:Str→Option Value) (base:Heap) (A:Around) (outer:List Env) (s:Shared) (H:Hp):Prop where
  frames:A.frames=some outer
  mod:Mod K mg base
  bs:∀b o,base.get? b=some o→s.heap.get? b=some o∧H b=none
  bsz:base.objs.size≤s.heap.objs.size
  funs:s.heap.FunFrames base outer
  frf:∀b∈gp outer,H b=none
  hok:HOk P w H s.heap
  bare:AllBare s.gens
  tab:∀b q,iH K b=some q→H b=some (.tbl q)
def CE (outer:List Env) (P:Program) (w:World) (H:Hp) (s:Shared) (Q:VK) (u:Value) (s':Shared):Prop:=
  ∃v H',s'.os=s.os∧AllBare s'.gens∧Un (gp outer) [] H H' s.heap s'.heap∧HOk P w H' s'.heap∧RelV v u∧Q v H'
def CR (CX:oC) (outer:List Env) (P:Program) (w:World) (H:Hp) (s:Shared) (Q:VK) (E:XK) (r:Result) (s':Shared):Prop:=
  match r with
  | .ok (.ret u)=>CE outer P w H s Q u s'
  | .ok _=>False
  | .error e=>CX outer H s E e s'
structure FnOk (P:Program) (w:World) (K:PySem.W.Frag) (mg:Str→Option Value) (base:Heap) (CX:oC) (k:Nat) (f:Addr) (fd:FuncData) (ps:List Str) (sp:Sp):Prop where
  len:∀vs H Q E,sp vs H Q E→vs.length=ps.length
  run:∀(A:Around) (outer:List Env) (s:Shared) (H:Hp) (args:Args) (us:List Value) (vs:List V) (Q:VK) (E:XK),Room k A→Env0 P w K mg base A outer s H→BindsTo s fd args (ps.zip us)→Vals vs us→sp vs H Q E→
    codeAny (model P w) A (.call (.ref f) args) (CR CX outer P w H s Q E) s
theorem FnOk.mono {P:Program} {w:World} {K:PySem.W.Frag} {mg:Str→Option Value} {base:Heap} {CX:oC} {j k:Nat} {f:Addr} {fd:FuncData} {ps:List Str} {sp:Sp} (F:FnOk P w K mg base CX j f fd ps sp) (h:j≤k):
    FnOk P w K mg base CX k f fd ps sp:=⟨F.len,fun A outer s H args us vs Q E hr=>F.run A outer s H args us vs Q E (hr.mono h)⟩
theorem FnOk.imp {P:Program} {w:World} {K:PySem.W.Frag} {mg:Str→Option Value} {base:Heap} {CX:oC} {k:Nat} {f:Addr} {fd:FuncData} {ps:List Str} {sp sp':Sp} (F:FnOk P w K mg base CX k f fd ps sp)
    (h:∀vs H Q E,sp' vs H Q E→sp vs H Q E):FnOk P w K mg base CX k f fd ps sp':=
  ⟨fun vs H Q E q=>F.len vs H Q E (h _ _ _ _ q),fun A outer s H args us vs Q E hr he hb hv hs=>F.run A outer s H args us vs Q E hr he hb hv (h _ _ _ _ hs)⟩
theorem Env0.in1 {P:Program} {w:World} {K:PySem.W.Frag} {mg:Str→Option Value} {base:Heap} {A:Around} {outer:List Env} {s:Shared} {H:Hp} (e:Env0 P w K mg base A outer s H):
    Env0 P w K mg base A.in1 outer s H:=⟨e.frames,e.mod,e.bs,e.bsz,e.funs,e.frf,e.hok,e.bare,e.tab⟩
section
variable {X:Cx} {pins:List (Addr×Obj)} {σ:St} {H:Hp} {s s':Shared}
theorem Inv.env0 (I:Inv X pins σ H s):Env0 X.prog X.w X.K X.mg X.base X.A X.stack s H:=
  ⟨I.ok.frames,I.ok.mod,I.bs,Nat.le_trans I.ok.bsz I.sz,I.stack,I.stkFree,I.hok,I.bare,I.tab⟩
theorem Inv.after {Q:VK} {u:Value} (I:Inv X pins σ H s) (h:CE X.stack X.prog X.w H s Q u s'):EP X pins σ Q u s':=by
  obtain ⟨v,H',os,bare,un,hok,r,q⟩:=h
  obtain ⟨hh,g,d,t,os'⟩:=s'
  obtain rfl:os'=s.os:=os
  exact ⟨v,H',I.call (h':=hh) (g':=g) (d':=d) (t':=t) (ch:=[]) un hok bare (fun b z=>absurd z (by simp)),r,q⟩
end
def pQ (sp:Sp) (dvs:List V) (E:XK) (t:TA):TE:=fun σ H Q=>t σ H fun vs H1=>sp (vs++dvs) H1 Q E
def Binds (K:PySem.W.Frag) (fd:FuncData) (ps:List Str) (ds:List Value):Prop:=
  ∀(s:Shared) (us:List Value),K.In s.heap→(us++ds).length=ps.length→BindsTo s fd ⟨us,[]⟩ (ps.zip (us++ds))
theorem Binds.all {K:PySem.W.Frag} {fd:FuncData} {ps:List Str} (h:∀us:List Value,us.length=ps.length→bindArgs fd ⟨us,[]⟩=pure (ps.zip us)):Binds K fd ps []:=fun s us _ hl=>by
  rw [List.append_nil] at hl ⊢
  exact .of_eq (h us hl)
def mH (CX:oC) (X:Cx) (E:XK):Prop:=∀(pins:List (Addr×Obj)) (σ:St) (H:Hp) (s:Shared) (e:Value) (s':Shared),Inv X pins σ H s→CX X.stack H s E e s'→X.xe e s'
section
variable {X:Cx} {CX:oC} {k:Nat} {f C:Addr} {fd:FuncData} {ps:List Str} {sp:Sp} {dvs:List V} {ds:List Value} {E:XK} {x m:Str} {p pos apos:Pos} {e o:Expr} {es:List Expr} {ta:TE} {t:TA}
theorem uN {pins:List (Addr×Obj)} {σ:St} {H:Hp} {s:Shared} {Q:VK} {us:List Value} {vs:List V} (F:FnOk X.prog X.w X.K X.mg X.base CX k f fd ps sp) (hr:Room k X.A) (hb:Binds X.K fd ps ds) (hd:Vals dvs ds) (hx:mH CX X E)
    (I:Inv X pins σ H s) (r:Vals vs us) (h:sp (vs++dvs) H Q E):wpAny (model X.prog X.w) X.A (call (.ref f) us) (EP X pins σ Q) X.xe s:=by
  have r2:Vals (vs++dvs) (us++ds):=r.append hd
  have hl:(us++ds).length=ps.length:=by rw [←r2.length];exact F.len _ _ _ _ h
  refine wpAny_call (codeAny_mono (F.run X.A X.stack s H ⟨us,[]⟩ (us++ds) (vs++dvs) Q E hr I.env0 (hb s us I.kIn hl) r2 h) fun r s' hq=>?_)
  cases r with
  | error e=>exact hx pins σ H s e s' I hq
  | ok fl=>
    cases fl with
    | ret u=>exact I.after hq
    | next=>exact False.elim hq
    | brk=>exact False.elim hq
    | cont=>exact False.elim hq
theorem rS (F:FnOk X.prog X.w X.K X.mg X.base CX k f fd ps sp) (hr:Room k X.A) (hg:Gl X x) (hm:X.mg x=some (.ref f)) (hk:PySem.W.keepIn X.K (.ref f)=true) (hb:Binds X.K fd ps ds) (hd:Vals dvs ds) (hx:mH CX X E)
    (ha:PA X (e::es) t) (hdb:(x == ("__debug__":Str))=false:=by decide) (he:starEach (e::es) X.env=(false,eval e X.env)::starEach es X.env:=by rfl) (hpl:(backTo pos (starEach es X.env)).any (·.1)=false:=by rfl):
    PE X (.Call (.Name x p) (e::es) [] pos) (pQ sp dvs E t):=by
  intro pins s σ H Q I h
  refine wpAny_Call_Name_kw (fD I hg hm ?_ hdb)
  refine PySem.W.callWith_K (h₀:=X.base) I.ok.mod.kin hk (cB (ha pos pins s σ H _ I h) fun us s1 ⟨vs,H1,I1,r,q⟩=>⟨I1.kIn,?_⟩) he hpl
  exact uN F hr hb hd hx I1 r q
end
structure FnScope (N P:List Str) (sc:Scope):Prop where
  kind:sc.kind= .function
  co:sc.isCoroutine=false
  gen:sc.isGenerator=false
  nd:N.Nodup
  pre:N.take P.length=P
  par:∀x∈P,sc.names.lookup x=some .local∨sc.names.lookup x=some .cell
  nofree:∀y∈sc.names,y.2≠ .free
theorem jJ {kindOf:Str→Option NameKind} {x:Str}:∀{binds:List (Str×Value)} {m:Str→Option Value},(∀v,(x,v)∉binds)→bindL kindOf binds m x=m x
  | [],_,_=>rfl
  | (n,v)::r,m,h=>by
    unfold bindL
    rw [jJ fun w hw=>h w (List.mem_cons_of_mem _ hw)]
    split
    · have:x≠n:=by rintro rfl;exact h v List.mem_cons_self
      simp [this]
    · rfl
theorem jK {kindOf:Str→Option NameKind} {x:Str}:∀{binds:List (Str×Value)} {m:Str→Option Value},(∀v,(x,v)∉binds)→bindC kindOf binds m x=m x
  | [],_,_=>rfl
  | (n,v)::r,m,h=>by
    unfold bindC
    rw [jK fun w hw=>h w (List.mem_cons_of_mem _ hw)]
    split
    · rfl
    · have:x≠n:=by rintro rfl;exact h v List.mem_cons_self
      simp [this]
theorem jL {kindOf:Str→Option NameKind} {x:Str} {v:Value}:∀{P:List Str} {vs:List Value} {i:Nat} {m:Str→Option Value},P.Nodup→P[i]? =some x→vs[i]? =some v→kindOf x=some .local→
    bindL kindOf (P.zip vs) m x=some v
  | [],_,_,_,_,h,_,_=>by simp at h
  | _::_,[],_,_,_,_,h,_=>by simp at h
  | p::P,w::vs,0,m,nd,h1,h2,hk=>by
    simp at h1 h2;subst h1;subst h2
    show bindL kindOf ((p,w)::P.zip vs) m p=_
    unfold bindL
    rw [jJ fun v hv=>(List.nodup_cons.mp nd).1 (List.of_mem_zip hv).1,if_pos hk]
    simp
  | p::P,w::vs,i+1,m,nd,h1,h2,hk=>by
    show bindL kindOf ((p,w)::P.zip vs) m x=_
    unfold bindL
    exact jL (i:=i) (List.nodup_cons.mp nd).2 (by simpa using h1) (by simpa using h2) hk
theorem jM {kindOf:Str→Option NameKind} {x:Str} {v:Value}:∀{P:List Str} {vs:List Value} {i:Nat} {m:Str→Option Value},P.Nodup→P[i]? =some x→vs[i]? =some v→kindOf x≠some .local→
    bindC kindOf (P.zip vs) m x=some v
  | [],_,_,_,_,h,_,_=>by simp at h
  | _::_,[],_,_,_,_,h,_=>by simp at h
  | p::P,w::vs,0,m,nd,h1,h2,hk=>by
    simp at h1 h2;subst h1;subst h2
    show bindC kindOf ((p,w)::P.zip vs) m p=_
    unfold bindC
    rw [jK fun v hv=>(List.nodup_cons.mp nd).1 (List.of_mem_zip hv).1,if_neg hk]
    simp
  | p::P,w::vs,i+1,m,nd,h1,h2,hk=>by
    show bindC kindOf ((p,w)::P.zip vs) m x=_
    unfold bindC
    exact jM (i:=i) (List.nodup_cons.mp nd).2 (by simpa using h1) (by simpa using h2) hk
def dn (N:List Str) (vs:List V):St:=vs.map some++List.replicate (N.length - vs.length) none
def e8 (CX:oC) (P:Program) (w:World) (K:PySem.W.Frag) (mg:Str→Option Value) (base:Heap) (N:List Str) (qual:Str) (scope:Scope) (f:Addr) (cd:Value) (A:Around) (outer:List Env) (s:Shared) (H:Hp) (E:XK):Cx where
  prog:=P
  w:=w
  K:=K
  mg:=mg
  base:=base
  A:=A.deeper (envOfC qual scope s.heap.objs.size f cd)
  N:=N
  s₀:=s
  H₀:=H
  env:=envOfC qual scope s.heap.objs.size f cd
  outer:=outer
  stack:=envOfC qual scope s.heap.objs.size f cd::outer
  ex:=[]
  calm:=true
  fn:=fun _=>true
  pn:=[]
  xe:=fun e s'=>wpAny (model P w) (A.deeper (envOfC qual scope s.heap.objs.size f cd)) (leaving (envOfC qual scope s.heap.objs.size f cd) e) (fun _ s''=>CX outer H s E e s'') (fun e' s''=>CX outer H s E e' s'') s'
theorem li {sc:Scope} {n:Nat} {x:Str} (h:sc.names.lookup x=some .cell):∃c,(cellsFrom n sc.names []).lookup x=some c:=by
  have q:=PySem.W.cellsFrom_some sc.names n [] (.inl h)
  exact Option.isSome_iff_exists.mp q
theorem jN {CX:oC} {P:Program} {w:World} {K:PySem.W.Frag} {mg:Str→Option Value} {base:Heap} {N ps:List Str} {qual:Str} {scope:Scope} {f:Addr} {cd:Value} {A:Around} {outer:List Env} {s s1:Shared} {H:Hp} {E:XK} {us:List Value} {vs:List V}
    (S:FnScope N ps scope) (hd:A.handled=none) (e0:Env0 P w K mg base A outer s H) (hl:vs.length=ps.length) (r:Vals vs us)
    (x:InCallC s s.heap.objs.size (bindL (envOfC qual scope s.heap.objs.size f cd).kindOf (ps.zip us) fun _=>none) (cellsFrom (s.heap.objs.size+1) scope.names []) (bindC (envOfC qual scope s.heap.objs.size f cd).kindOf (ps.zip us) fun _=>none) s1):
    Inv (e8 CX P w K mg base N qual scope f cd A outer s H E) [] (dn N vs) H s1:=by
  have hpl:ps.length≤N.length:=by have:=congrArg List.length S.pre;rw [List.length_take] at this;omega
  obtain ⟨h1,tk,rfl,hk⟩:=x.done
  have noA:∀b:Addr,b∉(e8 CX P w K mg base N qual scope f cd A outer s H E).ex:=fun b z=>absurd (show b∈([]:List Addr) from z) (by simp)
  refine ⟨⟨e0.mod,S.kind,rfl,rfl,Nat.le_refl _,fun y z c h1 h2=>?_,fun y hy=>?_,fun y c _ h=>?_,fun _=>hd,Around.frames_deeper e0.frames, .inr ⟨rfl,rfl⟩,fun b z=>absurd z (noA b),e0.bs,e0.bsz,fun b _ _=>noA b,fun b z=>absurd z (noA b),e0.funs,e0.frf,e0.tab⟩,
    rfl,e0.bare,Un.kept hk,⟨_,x.toInCall.ns,fun i y v h1 h2 h3=>?_⟩,fun y c h=>⟨_,x.cell y c h⟩,e0.hok.fresh (Nat.le_refl _),fun y c h=>?_,fun p hp=>absurd (show p∈([]:List (Addr×Obj)) from hp) (by simp),e0.hok.kept hk,?_⟩
  · exact name_of_addr x.apart (PySem.mem_of_lookup h1) (PySem.mem_of_lookup h2)
  · have hy:scope.names.lookup y=some .cell∨scope.names.lookup y=some .free:=hy
    rcases hy with hy | hy
    · exact li hy
    · exact absurd rfl (S.nofree _ (PySem.mem_of_lookup hy))
  · exact Nat.le_of_lt (x.above y c (PySem.mem_of_lookup h))
  · have hi:i < vs.length:=by
      unfold dn at h2
      by_cases hi:i < vs.length
      · exact hi
      · rw [List.getElem?_append_right (by simpa using hi)] at h2
        rw [List.getElem?_replicate] at h2
        split at h2 <;> cases h2
    have ha:vs[i]? =some v:=by
      unfold dn at h2
      rw [List.getElem?_append_left (by simpa using hi),List.getElem?_map] at h2
      cases e:vs[i]? with
      | none=>rw [e] at h2;cases h2
      | some a=>rw [e] at h2;cases h2;rfl
    obtain ⟨u,hu,rv⟩:=r.get ha
    have hp:ps[i]? =some y:=by
      rw [←S.pre,List.getElem?_take_of_lt (by omega)];exact h1
    have ndP:ps.Nodup:=by rw [←S.pre];exact S.nd.sublist (List.take_sublist _ _)
    refine ⟨u,rv,?_⟩
    rcases S.par y (List.mem_of_getElem? hp) with k | k
    · exact .inl ⟨k,jL ndP hp hu k⟩
    · obtain ⟨c,e⟩:=li (n:=s.heap.objs.size+1) k
      refine .inr ⟨.inl k,c,e,?_⟩
      have q:=x.cell y c e
      rw [jM ndP hp hu (by show scope.names.lookup y≠_;rw [k];decide)] at q
      exact q
  · exact e0.hok.fresh (Nat.le_of_lt (x.above y c (PySem.mem_of_lookup h)))
  · unfold dn
    show _=N.length
    rw [List.length_append,List.length_map,List.length_replicate]
    omega
theorem tW {CX:oC} {P:Program} {w:World} {K:PySem.W.Frag} {mg:Str→Option Value} {base:Heap} {k:Nat} {f:Addr} {name qual:Str} {params:Arguments} {body:List Stmt} {scope:Scope} {dV kV doc pm cdv ct oc:Value} {an od:Option Addr}
    {osl:Array (Option Value)} {N ps:List Str} {sp:Sp} (lk:K.lookup f=some ⟨oc,od, .func (PySem.W.fnOf name qual params body scope dV kV doc pm an cdv ct),osl⟩) (hcd:PySem.W.codeIn K cdv qual=true) (S:FnScope N ps scope)
    (len:∀vs H Q E,sp vs H Q E→vs.length=ps.length)
    (hbody:∀(A:Around) (outer:List Env) (s:Shared) (H:Hp) (vs:List V) (Q:VK) (E:XK),Room k (A.deeper (envOfC qual scope s.heap.objs.size f cdv))→sp vs H Q E→
      ∃t,PSs (e8 CX P w K mg base N qual scope f cdv A outer s H E) body t∧t {nx:=fun _ H'=>Q .non H',rt:=Q} (dn N vs) H):
    FnOk P w K mg base CX (k+1) f (PySem.W.fnOf name qual params body scope dV kV doc pm an cdv ct) ps sp:=by
  refine ⟨len,fun A outer s H args us vs Q E hr e0 hb r hsp=>?_⟩
  have hl:=len _ _ _ _ hsp
  have KX:K.In s.heap:=e0.mod.kin.keeps fun b o e=>(e0.bs b o e).1
  have lim:s.heap.NoLimit:=e0.mod.nolimit.keeps fun b o e=>(e0.bs b o e).1
  have hkind:∀y∈ps.zip us,scope.names.lookup y.1=some .local∨(scope.names.lookup y.1=some .cell∧((cellsFrom (s.heap.objs.size+1) scope.names []).lookup y.1).isSome=true):=fun ⟨n,v⟩ hy=>by
    rcases S.par n (List.of_mem_zip hy).1 with q | q
    · exact .inl q
    · exact .inr ⟨q,PySem.W.cellsFrom_some _ _ _ (.inl q)⟩
  refine codeAny_call_function hr.depth (KX _ _ lk) rfl S.co S.gen rfl (PySem.W.codeRec_of KX hcd) (hb _ _ _ _ ?_)
  refine wpAny_newFunctionEnv_cells S.kind hkind fun env he s1 x=>?_
  subst he
  refine ⟨lim.keeps x.toInCall.keep,codeAny_func ?_⟩
  obtain ⟨t,ht,hq⟩:=hbody A outer s H vs Q E (hr.deeper _) hsp
  have I:Inv (e8 CX P w K mg base N qual scope f cdv A outer s H E) [] (dn N vs) H s1:=jN S hr.hd e0 hl r x
  refine wpAny_mono (ht [] s1 (dn N vs) H _ I hq) (fun fl s' hs=>?_) fun e s' hs=>hs
  have fin:∀{σ':St} {H':Hp} {v:V} {u:Value},Inv (e8 CX P w K mg base N qual scope f cdv A outer s H E) [] σ' H' s'→RelV v u→Q v H'→CE outer P w H s Q u s':=
    fun {σ' H' v u} J rv q=>⟨v,H',J.os,J.bare,J.base,J.hok,rv,q⟩
  cases fl with
  | ret u=>
    obtain ⟨v,σ',H',J,rv,q⟩:=hs
    exact fin J rv q
  | next=>
    obtain ⟨σ',H',J,q⟩:=hs
    exact fin (v:=V.non) (u:=Value.none) J rfl q
  | brk=>
    obtain ⟨_,_,_,q⟩:=hs
    exact False.elim q
  | cont=>
    obtain ⟨_,_,_,q⟩:=hs
    exact False.elim q
end L2
namespace L2
open PySem PySem.Spec PyProof.Rows
section
variable {X:Cx} {x:Str} {p pos:Pos} {e:Expr} {es:List Expr} {t:TA} {id T:String} {r:List V→Hp→VK→Prop}
def xG (r:List V→Hp→VK→Prop) (t:TA):TE:=fun σ H Q=>t σ H fun vs H1=>r vs H1 Q
theorem gq (hc:CallR X (.builtin id) r) (hg:Gl X x) (hm:X.mg x=none) (hv:bootBuiltins x=some (.builtin id)) (ha:PA X (e::es) t) (hn:x≠"__name__":=by decide) (hdb:(x == ("__debug__":Str))=false:=by decide)
    (he:starEach (e::es) X.env=(false,eval e X.env)::starEach es X.env:=by rfl) (hpl:(backTo pos (starEach es X.env)).any (·.1)=false:=by rfl):PE X (.Call (.Name x p) (e::es) [] pos) (xG r t):=by
  intro pins s σ H Q I h
  refine wpAny_Call_Name_kw (iK I hg hm hv ?_ hn hdb)
  exact PyProof.Rows.callWith_builtin1 (cB (ha pos pins s σ H _ I h) fun us s1 ⟨vs,H1,I1,r1,q1⟩=>hc pins s1 σ H1 vs us Q I1 r1 q1) he hpl
theorem jO (hc:CallR X (.type T) r) (hg:Gl X x) (hm:X.mg x=none) (hv:bootBuiltins x=some (.type T)) (ha:PA X (e::es) t) (hn:x≠"__name__":=by decide) (hdb:(x == ("__debug__":Str))=false:=by decide)
    (he:starEach (e::es) X.env=(false,eval e X.env)::starEach es X.env:=by rfl) (hpl:(backTo pos (starEach es X.env)).any (·.1)=false:=by rfl):PE X (.Call (.Name x p) (e::es) [] pos) (xG r t):=by
  intro pins s σ H Q I h
  refine wpAny_Call_Name_kw (iK I hg hm hv ?_ hn hdb)
  exact PyProof.Rows.callWith_type1 (cB (ha pos pins s σ H _ I h) fun us s1 ⟨vs,H1,I1,r1,q1⟩=>hc pins s1 σ H1 vs us Q I1 r1 q1) he hpl
end
end L2
namespace HT
open PySem PyProof.Rows
section
open PySem.SeqAt
open PySem.AutoSeq1 (wpAny_loadPart')
open PySem.MeetsSeq PySem.MeetsSeq2 PySem.MeetsSeq3
end
section
variable {prog:Program} {w:World} {A:Around} {E:Value→Shared→Prop} {s:Shared}
def kX (n d:Nat):Option Int→Nat
  | none=>d
  | some v=>if v < 0 then (v+(n:Int)).toNat else min v.toNat n
end
end HT
namespace L2
open PySem PySem.Spec PyProof.Rows
abbrev TO:=St→Hp→(Option Int→Hp→Prop)→Prop
def PO (X:Cx) (e:Option Expr) (t:TO):Prop:=
  ∀(pins:List (Addr×Obj)) (s:Shared) (σ:St) (H:Hp) (Q:Option Int→Hp→Prop),Inv X pins σ H s→t σ H Q→
    wpAny (model X.prog X.w) X.A (evalPart e X.env) (fun u s'=>∃o H',Inv X pins σ H' s'∧IsPart u o∧Q o H') X.xe s
def rT:TO:=fun _ H Q=>Q none H
def wf (t:TE):TO:=fun σ H Q=>t σ H fun x H1=>∃i,x= .int i∧Q (some i) H1
section
variable {X:Cx} {e:Expr} {te:TE} {lo hi:Option Expr} {tl th:TO} {pos p2:Pos}
theorem rV:PO X none rT:=by
  intro pins s σ H Q I h
  rw [evalPart_none]
  exact wpAny_pure ⟨none,H,I, .none,h⟩
theorem rW (h:PE X e te):PO X (some e) (wf te):=by
  intro pins s σ H Q I hw
  rw [evalPart_some]
  refine cB (h pins s σ H _ I hw) fun u s1 ⟨x,H1,I1,r1,q1⟩=>?_
  obtain ⟨i,rfl,q⟩:=q1
  obtain ⟨t,rfl⟩:=r1
  exact ⟨some i,H1,I1, .int i t,q⟩
def SlR (X:Cx) (r:V→Option Int→Option Int→Hp→VK→Prop):Prop:=
  ∀(pins:List (Addr×Obj)) (s:Shared) (σ:St) (H:Hp) (x:V) (v vl vu:Value) (lo hi:Option Int) (sl:Addr) (Q:VK),Inv X pins σ H s→RelV x v→s.heap.IsSliceOf sl vl vu .none→IsPart vl lo→IsPart vu hi→r x lo hi H Q→
    ∃T id,typeLookup (.type T) "__getitem__"=pure (some (.builtin id))∧s.TypeIs v T∧wpAny (model X.prog X.w) X.A (getItem v (.ref sl)) (EP X pins σ Q) X.xe s
theorem SlR.or {r r':V→Option Int→Option Int→Hp→VK→Prop} (h:SlR X r) (h':SlR X r'):SlR X (fun x lo hi H Q=>r x lo hi H Q∨r' x lo hi H Q):=by
  intro pins s σ H x v vl vu lo hi sl Q I rx hs pl pu q
  rcases q with q | q
  · exact h pins s σ H x v vl vu lo hi sl Q I rx hs pl pu q
  · exact h' pins s σ H x v vl vu lo hi sl Q I rx hs pl pu q
def yw (r:V→Option Int→Option Int→Hp→VK→Prop) (te:TE) (tl th:TO):TE:=fun σ H Q=>te σ H fun x H1=>tl σ H1 fun l H2=>th σ H2 fun u H3=>r x l u H3 Q
theorem pR {r:V→Option Int→Option Int→Hp→VK→Prop} (hr:SlR X r) (he:PE X e te) (hl:PO X lo tl) (hu:PO X hi th):PE X (.Subscript e (.Slice lo hi none p2) pos) (yw r te tl th):=by
  intro pins s σ H Q I h
  refine Subscript_ (cB (he pins s σ H _ I h) fun v s1 ⟨x,H1,I1,r1,q1⟩=>?_)
  refine wpAny_Slice (cB (hl pins s1 σ H1 _ I1 q1) fun vl s2 ⟨l,H2,I2,pl,q2⟩=>cB (hu pins s2 σ H2 _ I2 q2) fun vu s3 ⟨u,H3,I3,pu,q3⟩=>?_)
  rw [evalPart_none]
  refine wpAny_pure ?_
  have I4:Inv X pins σ H3 {s3 with heap:=s3.heap.push {cls:= .type "slice",data:= .fields #[vl,vu, .none]}}:=I3.kept (t':=s3.toks) fun b ob q=>Heap.get?_push_of_some _ q
  obtain ⟨T,id,hT,ht,hg⟩:=hr pins {s3 with heap:=s3.heap.push {cls:= .type "slice",data:= .fields #[vl,vu, .none]}} σ H3 x v vl vu l u s3.heap.objs.size Q I4 r1 (Heap.IsSliceOf.new ..) pl pu q3
  show wpAny (model X.prog X.w) X.A (subscriptTail e (.Slice lo hi none p2) v (.ref s3.heap.objs.size)) (EP X pins σ Q) X.xe {s3 with heap:=s3.heap.push {cls:= .type "slice",data:= .fields #[vl,vu, .none]}}
  exact tail_any (ops:=[.ref s3.heap.objs.size,v]) ht hT hg (by with_unfolding_all rfl)
def oD (xs:List V) (lo hi:Option Int):List V:=(xs.drop (HT.kX xs.length 0 lo)).take (HT.kX xs.length xs.length hi - HT.kX xs.length 0 lo)
theorem lj (xs:List V) (lo hi:Option Int):(oD xs lo hi).length≤xs.length:=by
  unfold oD
  rw [List.length_take,List.length_drop]
  omega
end
end L2
namespace L2
open PySem PySem.Spec PyProof.Rows
def vP (n:Nat) (i:Int):Option Nat:=if 0≤i then (if i < n then some i.toNat else none) else if -(n:Int)≤i then some (i+n).toNat else none
def atI {α:Type} (xs:List α) (i:Int):Option α:=(vP xs.length i).bind fun j=>xs[j]?
theorem rX {n:Nat} {i:Int} {j:Nat} (h:vP n i=some j):seqIndex? i n=some j∧j < n∧ -(n:Int)≤i∧i < n:=by
  unfold vP at h
  by_cases h0:0≤i
  · rw [if_pos h0] at h
    by_cases h1:i < n
    · rw [if_pos h1] at h
      have e:i.toNat=j:=Option.some.inj h
      exact ⟨by rw [seqIndex_of h0 h1,e],by omega,by omega,h1⟩
    · rw [if_neg h1] at h;cases h
  · rw [if_neg h0] at h
    by_cases h1: -(n:Int)≤i
    · rw [if_pos h1] at h
      have e:(i+n).toNat=j:=Option.some.inj h
      exact ⟨by rw [seqIndex_neg (by omega) h1,e],by omega,h1,by omega⟩
    · rw [if_neg h1] at h;cases h
theorem kj {α:Type} {xs:List α} {i:Int} {v:α} (h:atI xs i=some v):∃j,seqIndex? i xs.length=some j∧xs[j]? =some v∧j < xs.length∧ -(xs.length:Int)≤i∧i < xs.length:=by
  unfold atI at h
  cases e:vP xs.length i with
  | none=>rw [e] at h;cases h
  | some j=>
    rw [e] at h
    obtain ⟨h1,h2,h3,h4⟩:=rX e
    exact ⟨j,h1,h,h2,h3,h4⟩
def nI (b:Expr):Prop:=∀o i,subscripted b false o i=operate [o,i] (getItem o i)
def IxR (X:Cx) (r:R2):Prop:=
  ∀(value slice:Expr) (pins:List (Addr×Obj)) (s:Shared) (σ:St) (H:Hp) (x y:V) (v u:Value) (Q:VK),Inv X pins σ H s→RelV x v→RelV y u→r x y H Q→
    subscripted slice false v u=operate [v,u] (getItem v u)→wpAny (model X.prog X.w) X.A (subscriptTail value slice v u) (EP X pins σ Q) X.xe s
def MtR (X:Cx) (id:String) (r:V→List V→Hp→VK→Prop):Prop:=
  ∀(pins:List (Addr×Obj)) (s:Shared) (σ:St) (H:Hp) (x:V) (xs:List V) (v:Value) (us:List Value) (Q:VK),Inv X pins σ H s→RelV x v→Vals xs us→r x xs H Q→
    wpAny (model X.prog X.w) X.A (call (.builtin id) (v::us)) (EP X pins σ Q) X.xe s
section
variable {X:Cx} {a b:Expr} {ta tb:TE} {pos:Pos}
theorem IxR.or {r r':R2} (h:IxR X r) (h':IxR X r'):IxR X (fun x y H Q=>r x y H Q∨r' x y H Q):=by
  intro value slice pins s σ H x y v u Q I rx ry q hs
  rcases q with q | q
  · exact h value slice pins s σ H x y v u Q I rx ry q hs
  · exact h' value slice pins s σ H x y v u Q I rx ry q hs
theorem MtR.or {id:String} {r r':V→List V→Hp→VK→Prop} (h:MtR X id r) (h':MtR X id r'):MtR X id (fun x xs H Q=>r x xs H Q∨r' x xs H Q):=by
  intro pins s σ H x xs v us Q I rx rs q
  rcases q with q | q
  · exact h pins s σ H x xs v us Q I rx rs q
  · exact h' pins s σ H x xs v us Q I rx rs q
theorem wg {r:R2} (hr:IxR X r) (ha:PE X a ta) (hb:PE X b tb) (hs:nI b):PE X (.Subscript a b pos) (v4 r ta tb):=by
  intro pins s σ H Q I h
  exact Subscript_ (uA ha hb I h fun v u s2 x y H2 I2 rx ry q=>hr a b pins s2 σ H2 x y v u Q I2 rx ry q (hs _ _))
def wj (K:PySem.W.Frag):R2:=fun x y H Q=>∃p xs i v,x= .ref p∧y= .int i∧SqL K H p xs∧atI xs i=some v∧Q v H
def wk (K:PySem.W.Frag):R2:=fun x y H Q=>∃p xs i v,x= .ref p∧y= .int i∧SqT K H p xs∧atI xs i=some v∧Q v H
def wl:R2:=fun x y H Q=>∃z i c,x= .str z∧y= .int i∧z.length≤sizeLine∧atI z.cps.toList i=some c∧Q (.str ⟨#[c]⟩) H
theorem ix_list:IxR X (wj X.K):=by
  intro value slice pins s σ H x y v u Q I rx ry h hs
  obtain ⟨p,xs,i,z,rfl,rfl,hq,he,q⟩:=h
  cases rx
  obtain ⟨t,rfl⟩:=ry
  obtain ⟨its,r,pl,hz⟩:=I.list hq
  obtain ⟨j,h1,h2,h3,h4,h5⟩:=kj he
  obtain ⟨w,ew,rw'⟩:=r.get h2
  have hl:=r.length
  have hn:=gO
  have fin:EP X pins σ Q w s:=⟨z,H,I,rw',q⟩
  by_cases h0:0≤i
  · have hj:i.toNat=j:=by
      rw [seqIndex_of h0 h5] at h1
      exact Option.some.inj h1
    exact item_listR pl.isList h0 (by omega) (by rw [hj];simpa using ew) fin hs
  · have hj:(i+(its.toArray.size:Int)).toNat=j:=by
      rw [seqIndex_neg (by omega) h4] at h1
      rw [List.size_toArray,←hl]
      exact Option.some.inj h1
    exact subscriptTail_builtinR (x:=w) pl.isList.typeIs slot_list_getitem.lookup
      (wpAny_getItem_list_neg (Q:=fun r s'=>r=w∧EP X pins σ Q r s') pl.isList (by omega) (by rw [List.size_toArray] <;> omega) (by omega) (by rw [hj];simpa using ew) ⟨rfl,fin⟩) hs
theorem ix_tup:IxR X (wk X.K):=by
  intro value slice pins s σ H x y v u Q I rx ry h hs
  obtain ⟨p,xs,i,z,rfl,rfl,hq,he,q⟩:=h
  cases rx
  obtain ⟨t,rfl⟩:=ry
  obtain ⟨its,r,pl,hz⟩:=I.tuple hq
  obtain ⟨j,h1,h2,h3,h4,h5⟩:=kj he
  obtain ⟨w,ew,rw'⟩:=r.get h2
  have hl:=r.length
  have hn:=gO
  have fin:EP X pins σ Q w s:=⟨z,H,I,rw',q⟩
  exact subscriptTail_builtinR (x:=w) pl.typeIs slot_tuple_getitem.lookup
    (getItem_tuple (j:=j) (Q:=fun r s'=>r=w∧EP X pins σ Q r s') pl (by omega) (by omega) (by rw [List.size_toArray,←hl];exact h1) (by simpa using ew) ⟨rfl,fin⟩) hs
theorem uO:IxR X wl:=by
  intro value slice pins s σ H x y v u Q I rx ry h hs
  obtain ⟨z,i,c,rfl,rfl,hz,he,q⟩:=h
  obtain ⟨t,rfl⟩:=rx
  obtain ⟨t',rfl⟩:=ry
  obtain ⟨j,h1,h2,h3,h4,h5⟩:=kj he
  have hl:z.cps.toList.length=z.length:=by simp [Str.length]
  rw [hl] at h1 h4 h5
  have hn:=gO
  exact tail_any (typeIs_str s z t) slot_str_getitem.lookup (getItem_str (c:=c) (by
    have e1:decide (i < -(2 ^ 63:Int))=false:=decide_eq_false (by omega)
    have e2:decide (i≥2 ^ 63)=false:=decide_eq_false (by omega)
    rw [e1,e2,Bool.or_false]) (by rw [h1];simpa using h2) ⟨.str ⟨#[c]⟩,H,I.tok _,⟨_,rfl⟩,q⟩) hs
def yj (K:PySem.W.Frag):R2:=fun x y H Q=>wj K x y H Q∨wk K x y H Q∨wl x y H Q
theorem uP:IxR X (yj X.K):=ix_list.or (ix_tup.or uO)
theorem Inv.lst {pins:List (Addr×Obj)} {σ:St} {H:Hp} {s:Shared} {p:Addr} {xs:List V} (I:Inv X pins σ H s) (h:H p=some (.lst xs)):
    ∃(its:List Value) (n:Nat),Vals xs its∧s.heap.get? p=some {cls:= .type "list",data:= .seq its.toArray n}∧xs.length≤sizeLine:=by
  obtain ⟨z,its,n,r,e⟩:=I.hok p _ h
  exact ⟨its,n,r,e,z⟩
theorem kl (lo hi:Option Int) (n:Nat):(sliceBounds lo hi none n).1=((HT.kX n 0 lo:Nat):Int)∧(sliceBounds lo hi none n).2.1=((HT.kX n n hi:Nat):Int)∧(sliceBounds lo hi none n).2.2=1:=by
  refine ⟨?_,?_,rfl⟩
  · cases lo with
    | none=>simp [sliceBounds,HT.kX]
    | some i=>
      simp only [sliceBounds,HT.kX,Option.getD_none,show (1:Int) > 0 by decide,if_true]
      by_cases h:i < 0
      · simp only [h,if_true] <;> omega
      · simp only [h,if_false] <;> omega
  · cases hi with
    | none=>simp [sliceBounds,HT.kX]
    | some i=>
      simp only [sliceBounds,HT.kX,Option.getD_none,show (1:Int) > 0 by decide,if_true]
      by_cases h:i < 0
      · simp only [h,if_true] <;> omega
      · simp only [h,if_false] <;> omega
theorem jy (its:List Value) (lo hi:Option Int):slicePick its.toArray lo hi none=((its.drop (HT.kX its.length 0 lo)).take (HT.kX its.length its.length hi - HT.kX its.length 0 lo)).toArray:=by
  obtain ⟨h1,h2,h3⟩:=kl lo hi its.toArray.size
  unfold slicePick
  rw [h1,h2,h3]
  simp only [sliceRange_one,pick_run,List.size_toArray] <;> rfl
def xH (K:PySem.W.Frag):V→Option Int→Option Int→Hp→VK→Prop:=fun x lo hi H Q=>∃a xs,x= .ref a∧SqL K H a xs∧∀p,H p=none→Q (.ref p) (upd H p (.lst (oD xs lo hi)))
theorem rY:SlR X (xH X.K):=by
  intro pins s σ H x v vl vu lo hi sl Q I rx hs pl pu h
  obtain ⟨a,xs,rfl,hx,q⟩:=h
  cases rx
  obtain ⟨its,r,ht,hz⟩:=I.list hx
  have hlen:=r.length
  refine ⟨"list",_,slot_list_getitem.lookup,ht.isList.typeIs,?_⟩
  refine wpAny_getItem_list_slice ht.isList hs pl pu .none (by simp) ?_ (by rw [List.size_toArray] <;> omega)
  rw [jy,←hlen]
  refine ⟨.ref s.heap.objs.size,_,I.laid (t':=s.toks) (o:= .lst (oD xs lo hi)) (fun b ob q=>Heap.get?_push_of_some _ q) (Nat.le_refl _) ?_,rfl,q _ (I.hok.fresh (Nat.le_refl _))⟩
  exact ⟨Nat.le_trans (lj xs lo hi) hz,_,0,(r.drop (HT.kX xs.length 0 lo)).take (HT.kX xs.length xs.length hi - HT.kX xs.length 0 lo),Heap.get?_push_size _ rfl⟩
def dS:V→Bool
  | .non=>true
  | .bl _=>true
  | .int _=>true
  | .str _=>true
  | _=>false
def rz:V→V→Bool
  | .non, .non=>true
  | .bl a, .bl b=>a == b
  | .bl a, .int b=>(if a then 1 else 0) == b
  | .int a, .bl b=>a == (if b then 1 else 0)
  | .int a, .int b=>a == b
  | .str a, .str b=>a == b
  | _,_=>false
theorem uQ {A:Around} {s:Shared} {y x:V} {u v:Value} (ry:RelV y u) (rx:RelV x v) (fy:dS y=true) (fx:dS x=true):SeqAt.EqAt A s u v (rz y x):=by
  cases y with
  | non=>
    cases ry
    cases x with
    | non=>cases rx;exact SeqAt.EqAt.same _
    | bl b=>cases rx;exact SeqAt.EqAt.none_bool b
    | int b=>obtain ⟨t,rfl⟩:=rx;exact SeqAt.EqAt.none_int b t
    | str b=>obtain ⟨t,rfl⟩:=rx;exact SeqAt.EqAt.none_str b t
    | _=>exact absurd (show false=true from fx) Bool.false_ne_true
  | bl a=>
    cases ry
    cases x with
    | non=>cases rx;exact SeqAt.EqAt.bool_none a
    | bl b=>cases rx;exact SeqAt.EqAt.bool_bool a b
    | int b=>obtain ⟨t,rfl⟩:=rx;exact SeqAt.EqAt.bool_int a b t
    | str b=>obtain ⟨t,rfl⟩:=rx;exact SeqAt.EqAt.bool_str a b t
    | _=>exact absurd (show false=true from fx) Bool.false_ne_true
  | int a=>
    obtain ⟨t',rfl⟩:=ry
    cases x with
    | non=>cases rx;exact SeqAt.EqAt.int_none a t'
    | bl b=>cases rx;exact SeqAt.EqAt.int_bool a t' b
    | int b=>obtain ⟨t,rfl⟩:=rx;exact SeqAt.EqAt.int_int a t' b t
    | str b=>obtain ⟨t,rfl⟩:=rx;exact SeqAt.EqAt.int_str a t' b t
    | _=>exact absurd (show false=true from fx) Bool.false_ne_true
  | str a=>
    obtain ⟨t',rfl⟩:=ry
    cases x with
    | non=>cases rx;exact SeqAt.EqAt.str_none a t'
    | bl b=>cases rx;exact SeqAt.EqAt.str_bool a t' b
    | int b=>obtain ⟨t,rfl⟩:=rx;exact SeqAt.EqAt.str_int a t' b t
    | str b=>obtain ⟨t,rfl⟩:=rx;exact SeqAt.EqAt.str_str a t' b t
    | _=>exact absurd (show false=true from fx) Bool.false_ne_true
  | _=>exact absurd (show false=true from fy) Bool.false_ne_true
def nJ (x:V) (u:Value):Bool:=match u with
  | .none=>rz .non x
  | .bool b=>rz (.bl b) x
  | .int i _=>rz (.int i) x
  | .str z _=>rz (.str z) x
  | _=>false
theorem pS {x y:V} {u:Value} (r:RelV y u) (f:dS y=true):nJ x u=rz y x:=by
  cases y with
  | non=>cases r;rfl
  | bl b=>cases r;rfl
  | int i=>obtain ⟨t,rfl⟩:=r;rfl
  | str z=>obtain ⟨t,rfl⟩:=r;rfl
  | _=>exact absurd (show false=true from f) Bool.false_ne_true
theorem km {x:V}:∀{xs:List V} {us:List Value},Vals xs us→xs.all dS=true→us.any (nJ x)=xs.any fun y=>rz y x
  | _,_, .nil,_=>rfl
  | y::xs,u::us, .cons r t,f=>by
    rw [List.all_cons,Bool.and_eq_true] at f
    rw [List.any_cons,List.any_cons,pS r f.1,km t f.2]
theorem e9 {A:Around} {s:Shared} {x:V} {v:Value} (rx:RelV x v) (fx:dS x=true):∀{xs:List V} {us:List Value},Vals xs us→xs.all dS=true→∀u∈us,SeqAt.EqAt A s u v (nJ x u)
  | _,_, .nil,_=>fun u hu=>by cases hu
  | y::xs,u::us, .cons r t,f=>fun u' hu=>by
    rw [List.all_cons,Bool.and_eq_true] at f
    rcases List.mem_cons.mp hu with rfl | hu
    · rw [pS r f.1];exact uQ r rx f.1 fx
    · exact e9 rx fx t f.2 u' hu
def vQ (x:V) (xs:List V):Bool:=xs.any fun y=>rz y x
def yk (K:PySem.W.Frag) (neg:Bool):R2:=fun x y H Q=>∃p xs,y= .ref p∧(SqL K H p xs∨SqT K H p xs)∧dS x=true∧xs.all dS=true∧Q (.bl (if neg then !vQ x xs else vQ x xs)) H
theorem oE:OpR X (compareOp .In) (yk X.K false):=by
  intro pins s σ H x y v u Q I rx ry h
  obtain ⟨p,xs,rfl,hq,fx,fs,q⟩:=h
  cases ry
  rcases hq with hq | hq
  · obtain ⟨its,r,pl,hz⟩:=I.list hq
    refine SeqAt.in_listAt (nJ x) pl.isList (fun w hw=>e9 rx fx r fs w (by simpa using hw)) ⟨.bl _,H,I,rfl,?_⟩
    rw [show its.toArray.any (nJ x)=its.any (nJ x) by simp,km r fs]
    exact q
  · obtain ⟨its,r,pl,hz⟩:=I.tuple hq
    refine SeqAt.in_tupleAt (nJ x) pl (fun w hw=>e9 rx fx r fs w (by simpa using hw)) ⟨.bl _,H,I,rfl,?_⟩
    rw [show its.toArray.any (nJ x)=its.any (nJ x) by simp,km r fs]
    exact q
theorem kn:CallR X (.builtin "len") (fun xs H Q=>∃p ys,xs=[.ref p]∧(SqL X.K H p ys∨SqT X.K H p ys)∧Q (.int ys.length) H):=by
  intro pins s σ H xs us Q I r h
  obtain ⟨p,ys,rfl,hq,q⟩:=h
  obtain ⟨u,rfl,rx⟩:=pP r
  cases rx
  have hn:=gO
  rcases hq with hq | hq
  · obtain ⟨its,r',pl,hz⟩:=I.list hq
    have hlen:=r'.length
    exact Calls.call_len_list pl.isList (by simp only [List.size_toArray] <;> omega) ⟨.int ys.length,H,I.tok _,⟨s.toks+1,by rw [List.size_toArray,hlen]⟩,q⟩
  · obtain ⟨its,r',pl,hz⟩:=I.tuple hq
    have hlen:=r'.length
    exact len_tuple pl (by simp only [List.size_toArray] <;> omega) ⟨.int ys.length,H,I.tok _,⟨s.toks+1,by rw [List.size_toArray,hlen]⟩,q⟩
theorem ko:CallR X (.builtin "len") (fun xs H Q=>∃z,xs=[.str z]∧z.length≤sizeLine∧Q (.int z.length) H):=by
  intro pins s σ H xs us Q I r h
  obtain ⟨z,rfl,hz,q⟩:=h
  obtain ⟨u,rfl,t,rfl⟩:=pP r
  have hn:=gO
  exact len_str (by omega) ⟨.int z.length,H,I.tok _,⟨_,rfl⟩,q⟩
theorem CallR.or {f:Value} {r r':List V→Hp→VK→Prop} (h:CallR X f r) (h':CallR X f r'):CallR X f (fun xs H Q=>r xs H Q∨r' xs H Q):=by
  intro pins s σ H xs us Q I rs q
  rcases q with q | q
  · exact h pins s σ H xs us Q I rs q
  · exact h' pins s σ H xs us Q I rs q
theorem kq:CallR X (.type "list") (fun xs H Q=>∃p ys,xs=[.ref p]∧(SqL X.K H p ys∨SqT X.K H p ys)∧∀l,H l=none→Q (.ref l) (upd H l (.lst ys))):=by
  intro pins s σ H xs us Q I r h
  obtain ⟨p,ys,rfl,hq,q⟩:=h
  obtain ⟨u,rfl,rx⟩:=pP r
  cases rx
  have fin:∀(its:List Value),Vals ys its→ys.length≤sizeLine→∀(h':Heap) (c':Nat),(∀b o',s.heap.get? b=some o'→h'.get? b=some o')→
      h'.get? s.heap.objs.size=some {cls:= .type "list",dict:=none,data:= .seq its.toArray c',slots:=#[]}→EP X pins σ Q (.ref s.heap.objs.size) {s with heap:=h'}:=fun its r' hz h' c' kp e=>
    ⟨.ref s.heap.objs.size,_,I.laid (t':=s.toks) kp (Nat.le_refl _) (show ObjOk X.prog X.w _ h' _ (.lst ys) from ⟨hz,its,c',r',e⟩),rfl,q _ (I.hok.fresh (Nat.le_refl _))⟩
  rcases hq with hq | hq
  · obtain ⟨its,r',pl,hz⟩:=I.list hq
    have hlen:=r'.length
    obtain ⟨o,ho,hc,n,hd⟩:=pl.isList
    exact call_list_seq p (.inl rfl) ho hc hd (fun h' c' kp e=>fin its r' hz h' c' kp e) (by simp only [List.size_toArray] <;> omega)
  · obtain ⟨its,r',pl,hz⟩:=I.tuple hq
    have hlen:=r'.length
    obtain ⟨o,ho,hc,n,hd⟩:=pl
    exact call_list_seq p (.inr rfl) ho hc hd (fun h' c' kp e=>fin its r' hz h' c' kp e) (by simp only [List.size_toArray] <;> omega)
def xI (K:PySem.W.Frag) (T:String) (x:V) (H:Hp):Prop:=match x with
  | .str _=>T="str"
  | .int _=>T="int"
  | .ref p=>(T="list"∧∃xs,SqL K H p xs)∨(T="tuple"∧∃o,K.lookup p=some o∧o.cls= .type "tuple"∧o.dict=none)∨
      (T="dict"∧((∃kvs,H p=some (.dK kvs))∨∃kvs,H p=some (.dT kvs)))∨(T="set"∧∃S n,H p=some (.set S n))
  | _=>False
theorem pT {pins:List (Addr×Obj)} {σ:St} {H:Hp} {s:Shared} {T:String} {x:V} {v:Value} (I:Inv X pins σ H s) (r:RelV x v) (ty:xI X.K T x H):
    s.TypeIs v T∧∀a,v= .ref a→∃ob,s.heap.get? a=some ob∧ob.dict=none:=by
  cases x with
  | str z=>
    obtain ⟨t,rfl⟩:=r
    cases (show T="str" from ty)
    exact ⟨typeIs_str s z t,fun _ e=>nomatch e⟩
  | int i=>
    obtain ⟨t,rfl⟩:=r
    cases (show T="int" from ty)
    exact ⟨typeIs_int s i t,fun _ e=>nomatch e⟩
  | ref p=>
    cases r
    rcases ty with ⟨rfl,xs,hq⟩ | ⟨rfl,o,hk,hc,hd⟩ | ⟨rfl,hk⟩ | ⟨rfl,S,n,hk⟩
    · obtain ⟨its,_,pl,_⟩:=I.list hq
      refine ⟨pl.isList.typeIs,fun a e=>?_⟩
      cases e
      obtain ⟨o,n,e,c,hd,_⟩:=pl
      exact ⟨o,e,hd⟩
    · refine ⟨⟨o,I.kIn p o hk,hc⟩,fun a e=>?_⟩
      cases e
      exact ⟨o,I.kIn _ o hk,hd⟩
    · have z:∃o,s.heap.get? p=some o∧o.ExactDict:=by
        rcases hk with ⟨kvs,hk⟩ | ⟨kvs,hk⟩
        · obtain ⟨_,_,_,_,o,_,_,e,ex,_⟩:=I.hok p _ hk
          exact ⟨o,e,ex⟩
        · obtain ⟨_,_,_,_,o,_,_,e,ex,_⟩:=I.hok p _ hk
          exact ⟨o,e,ex⟩
      obtain ⟨o,e,ex⟩:=z
      refine ⟨⟨o,e,ex.1⟩,fun a e2=>?_⟩
      cases e2
      exact ⟨o,e,ex.2.1⟩
    · obtain ⟨o,_,_,_,e,ex,_⟩:=I.hok p _ hk
      refine ⟨⟨o,e,ex.1⟩,fun a e2=>?_⟩
      cases e2
      exact ⟨o,e,ex.2.1⟩
  | _=>exact False.elim ty
def xJ (K:PySem.W.Frag) (T:String) (r:V→List V→Hp→VK→Prop) (to:TE):TE:=fun σ H Q=>to σ H fun x H1=>xI K T x H1∧r x [] H1 Q
def yx (K:PySem.W.Frag) (T:String) (r:V→List V→Hp→VK→Prop) (to:TE) (t:TA):TE:=fun σ H Q=>to σ H fun x H1=>xI K T x H1∧t σ H1 fun xs H2=>r x xs H2 Q
variable {o e:Expr} {es:List Expr} {to:TE} {t:TA} {name:Str} {apos cpos:Pos} {T id:String} {r:V→List V→Hp→VK→Prop}
theorem pU (pa:PlainAttrs T) (slot:Slot T name id) (hty:typeOf (.builtin id)=pure (.type "method_descriptor")) (hm:MtR X id r) (ho:PE X o to)
    (hbase:attributeBase o name X.env (eval o X.env)=eval o X.env:=by rfl) (hline:(apos.endLine == cpos.line)=true:=by rfl):PE X (.Call (.Attribute o name apos) [] [] cpos) (xJ X.K T r to):=by
  intro pins s σ H Q I h
  refine wpAny_Call_method0_late hbase hline (cB (ho pins s σ H _ I h) fun v s1 ⟨x,H1,I1,r1,ty,q1⟩=>?_)
  obtain ⟨h1,h2⟩:=pT I1 r1 ty
  exact ⟨T,id,pa,slot,hty,h1,h2,Calls.callWith_builtin rfl (PySem.evalArgs_none (hm pins s1 σ H1 x [] v [] Q I1 r1 .nil q1))⟩
theorem nK (pa:PlainAttrs T) (slot:Slot T name id) (hty:typeOf (.builtin id)=pure (.type "method_descriptor")) (hm:MtR X id r) (ho:PE X o to) (ha:PA X (e::es) t)
    (hbase:attributeBase o name X.env (eval o X.env)=eval o X.env:=by rfl)
    (hfew:((backTo cpos (starEach (e::es) X.env)).all (fun x=> !x.1)&&(backToKw cpos (keywordEach [] X.env)).all (fun x=>x.1.isSome)
      &&decide ((e::es).length+([]:List Keyword).length+(if ([]:List Keyword).isEmpty then 0 else 1) < 30))=true:=by rfl)
    (hline:(apos.endLine == cpos.line)=true:=by rfl) (hs:starEach (e::es) X.env=(false,eval e X.env)::starEach es X.env:=by rfl) (hplain:(backTo cpos (starEach es X.env)).any (·.1)=false:=by rfl):
    PE X (.Call (.Attribute o name apos) (e::es) [] cpos) (yx X.K T r to t):=by
  intro pins s σ H Q I h
  refine wpAny_Call_method_late hbase hfew hline rfl (cB (ho pins s σ H _ I h) fun v s1 ⟨x,H1,I1,r1,ty,q1⟩=>?_)
  obtain ⟨h1,h2⟩:=pT I1 r1 ty
  refine ⟨T,id,pa,slot,hty,h1,h2,?_⟩
  have hA:=ha cpos pins s1 σ H1 _ I1 q1
  rw [hs] at hA ⊢
  refine Calls.callWith_builtin (by show (false||(backTo cpos (starEach es X.env)).any (·.1))=false;rw [hplain] <;> rfl) (Calls.evalArgs_plain ?_)
  exact cB hA fun us s2 ⟨vs,H2,I2,r2,q2⟩=>hm pins s2 σ H2 x vs v us Q I2 r1 r2 q2
end
end L2
namespace L2
open PySem PySem.Spec PyProof.Rows
def xK (X:Cx) (id:String) (r:V→List V→Hp→VK→Prop):Prop:=
  ∀(pins:List (Addr×Obj)) (s:Shared) (σ:St) (H:Hp) (x:V) (xs:List V) (v:Value) (us:List Value) (Q:VK),Inv X pins σ H s→RelV x v→Vals xs us→r x xs H Q→
    wpAny (model X.prog X.w) X.A (call (.builtin id) (v::us)) (EP X pins σ Q) X.xe s
theorem Vals.one {x:V} {us:List Value} (h:Vals [x] us):∃u,us=[u]∧RelV x u:=by
  cases h with
  | cons r t=>cases t;exact ⟨_,rfl,r⟩
theorem Vals.two {x y:V} {us:List Value} (h:Vals [x,y] us):∃u v,us=[u,v]∧RelV x u∧RelV y v:=by
  cases h with
  | cons r t=>
    obtain ⟨v,rfl,q⟩:=Vals.one t
    exact ⟨_,_,rfl,r,q⟩
theorem Vals.zero:∀{us:List Value},Vals [] us→us=[]
  | _, .nil=>rfl
theorem Vals.dropLast {xs:List V} {us:List Value} (h:Vals xs us):Vals xs.dropLast us.dropLast:=by
  induction h with
  | nil=>exact .nil
  | cons r t ih=>
    cases t with
    | nil=>exact .nil
    | cons q t'=>exact .cons r ih
theorem Vals.eraseIdx:∀{xs:List V} {us:List Value} (i:Nat),Vals xs us→Vals (xs.eraseIdx i) (us.eraseIdx i)
  | _,_,_, .nil=> .nil
  | _,_,0, .cons _ t=>t
  | _,_,i+1, .cons r t=> .cons r (Vals.eraseIdx i t)
theorem Vals.reverse {xs:List V} {us:List Value} (h:Vals xs us):Vals xs.reverse us.reverse:=by
  induction h with
  | nil=>exact .nil
  | cons r t ih=>rw [List.reverse_cons,List.reverse_cons];exact Vals.append ih (.cons r .nil)
theorem Vals.rep {xs:List V} {us:List Value} (h:Vals xs us):∀k:Nat,Vals (List.replicate k xs).flatten (List.replicate k us).flatten
  | 0=> .nil
  | k+1=>by
    rw [List.replicate_succ,List.replicate_succ,List.flatten_cons,List.flatten_cons]
    exact Vals.append h (Vals.rep h k)
theorem mI {α:Type} (l:List α):l.eraseIdx (l.length - 1)=l.dropLast:=by
  induction l with
  | nil=>rfl
  | cons a r ih=>
    cases r with
    | nil=>rfl
    | cons b r=>
      have e:(a::b::r).length - 1=((b::r).length - 1)+1:=by
        have h1:(a::b::r).length=r.length+2:=rfl
        have h2:(b::r).length=r.length+1:=rfl
        omega
      rw [e,List.eraseIdx_cons_succ,ih]
      all_goals rfl
section
variable {X:Cx} {pins:List (Addr×Obj)} {σ:St} {H:Hp} {s:Shared} {l b:Addr} {xs ys zs:List V}
theorem Inv.lset {its its':List Value} {n:Nat} {f:Array Value→Array Value} {t':Nat} (I:Inv X pins σ H s) (hH:H l=some (.lst xs))
    (e:s.heap.get? l=some {cls:= .type "list",data:= .seq its.toArray n}) (hf:f its.toArray=its'.toArray) (hv:Vals ys its') (hz:ys.length≤sizeLine):
    Inv X pins σ (upd H l (.lst ys)) {s with heap:=s.heap.update l (Obj.mapSeq f),toks:=t'}:=by
  have q:=PySem.IsL.update e f
  rw [hf] at q
  refine I.write (x:=l) (e:=l) (by rw [hH];exact trivial) (.inl rfl) (fun b' u hb hu=>(Heap.get?_update_other s.heap (Obj.mapSeq f) (Ne.symm hb)).trans hu) ⟨_,q⟩ ?_
  exact ⟨hz,its',_,hv,q⟩
theorem Inv.lnew {its:List Value} {t':Nat} (I:Inv X pins σ H s) (hv:Vals ys its) (hz:ys.length≤sizeLine):
    Inv X pins σ (upd H s.heap.objs.size (.lst ys)) {s with heap:=s.heap.push {cls:= .type "list",data:= .seq its.toArray},toks:=t'}:=
  I.laid (fun _ _ q=>Heap.get?_push_of_some _ q) (Nat.le_refl _) ⟨hz,its,0,hv,Heap.get?_push_size _ rfl⟩
theorem Inv.fresh (I:Inv X pins σ H s):H s.heap.objs.size=none:=I.hok.fresh (Nat.le_refl _)
theorem Inv.lstM (I:Inv X pins σ H s) (hH:H l=some (.lst xs)):xs.length≤sizeLine∧∃(its:List Value) (n:Nat),Vals xs its∧xs.length=its.length∧s.heap.get? l=some {cls:= .type "list",data:= .seq its.toArray n}:=by
  obtain ⟨z,its,n,r,e⟩:=I.hok l _ hH
  exact ⟨z,its,n,r,r.length,e⟩
end
section
variable {X:Cx}
def rZ:V→List V→Hp→VK→Prop:=fun x vs H Q=>∃l xs y,x= .ref l∧vs=[y]∧H l=some (.lst xs)∧xs.length < sizeLine∧Q .non (upd H l (.lst (xs++[y])))
theorem jP:xK X "list.append" rZ:=by
  intro pins s σ H x vs v us Q I rx rv h
  obtain ⟨l,xs,y,rfl,rfl,hH,hz,q⟩:=h
  cases rx
  obtain ⟨u,rfl,ru⟩:=rv.one
  obtain ⟨z,its,n,r,hl,e⟩:=I.lstM hH
  refine call_meets F.slot_list_append ⟨_,e,rfl⟩ F.entry_list_append (F.args_list_append_2 _ _) (PySem.list_append l its.toArray n u (by rw [List.size_toArray];omega)) ⟨e,?_⟩
  refine ⟨.non,_,I.lset (its':=its++[u]) hH e (by simp) (r.append (.cons ru .nil)) ?_,rfl,q⟩
  rw [List.length_append,List.length_singleton]
  omega
def xL:V→List V→Hp→VK→Prop:=fun x vs H Q=>∃l xs y,x= .ref l∧vs=[]∧H l=some (.lst xs)∧xs[xs.length - 1]? =some y∧Q y (upd H l (.lst xs.dropLast))
theorem uR:xK X "list.pop" xL:=by
  intro pins s σ H x vs v us Q I rx rv h
  obtain ⟨l,xs,y,rfl,rfl,hH,hy,q⟩:=h
  cases rx
  have hus:=rv.zero
  subst hus
  obtain ⟨z,its,n,r,hl,e⟩:=I.lstM hH
  obtain ⟨u,hu,ru⟩:=r.get hy
  have hy':its.toArray[its.toArray.size - 1]? =some u:=by
    show its.toArray[its.length - 1]? =some u
    rw [←Array.getElem?_toList,←hl]
    exact hu
  refine call_meets F.slot_list_pop ⟨_,e,rfl⟩ F.entry_list_pop (F.args_list_pop_1 _) (MeetsSeq.list_pop_last l its.toArray n u hy' (by rw [List.size_toArray];omega)) ⟨e,?_⟩
  refine ⟨y,_,I.lset (its':=its.dropLast) hH e ?_ r.dropLast ?_,ru,q⟩
  · show its.toArray.eraseIdxIfInBounds (its.toArray.size - 1)=its.dropLast.toArray
    rw [List.size_toArray,List.eraseIdxIfInBounds_toArray,mI]
  · rw [List.length_dropLast]
    omega
def pV:V→List V→Hp→VK→Prop:=fun x vs H Q=>∃l xs,x= .ref l∧vs=[]∧H l=some (.lst xs)∧Q .non (upd H l (.lst xs.reverse))
theorem mJ:xK X "list.reverse" pV:=by
  intro pins s σ H x vs v us Q I rx rv h
  obtain ⟨l,xs,rfl,rfl,hH,q⟩:=h
  cases rx
  have hus:=rv.zero
  subst hus
  obtain ⟨z,its,n,r,hl,e⟩:=I.lstM hH
  refine call_meets F.slot_list_reverse ⟨_,e,rfl⟩ F.entry_list_reverse (F.args_list_reverse_1 _) (AutoSeq1.list_reverse_list_0 l its.toArray n (by rw [List.size_toArray];omega)) ⟨e,?_⟩
  refine ⟨.non,_,I.lset (its':=its.reverse) hH e (by simp) r.reverse ?_,rfl,q⟩
  rw [List.length_reverse]
  omega
theorem r8 {α:Type} (xs:List α) (k:Nat):(List.replicate k xs).flatten.length=k*xs.length:=by
  induction k with
  | zero=>simp
  | succ k ih=>rw [List.replicate_succ,List.flatten_cons,List.length_append,ih,Nat.succ_mul,Nat.add_comm]
end
end L2
namespace Att
open PySem PySem.W PySem.Calls PyProof.Rows
theorem ir {P:Params} {h:Heap}:∀(ns:List Int) (vs:List Value),WellAll P h vs (ns.map WData.int)→IntsAre vs ns:=by
  intro ns
  induction ns with
  | nil=>
    intro vs w
    rw [List.map_nil] at w
    cases w
    exact .nil
  | cons n ns ih=>
    intro vs w
    rw [List.map_cons] at w
    cases w with
    | cons a b=>
      cases a
      exact .cons _ _ (ih _ b)
theorem oF {l:OpenLaw} {n:Nat} (hn:l.most=some n) {P:Params} {h:Heap} {args:List WData} {vals:List Value}
    (hpre:l.row.toRowW.claim.pre args=true) (hwl:WellAll P h vals args):
    ∃a vs ns,vals=[Value.ref a]∧args=[WData.list (ns.map WData.int)]∧h.get? a=some {cls:= .type "list",data:= .seq vs.toArray}∧IntsAre vs ns∧ns.length≤n:=by
  have hsh:WShape.hasAll [] args [.list .int]=true:=(pre_splitW hpre).1
  have hc:l.pre.holds [] {args:=args}=true:=(pre_splitW hpre).2
  obtain ⟨d,r,rfl,h1,h2⟩:=hasAllW_cons hsh
  obtain rfl:=hasAllW_nil h2
  obtain ⟨xs,rfl,h3⟩:=hasW_list h1
  obtain ⟨ns,rfl⟩:=items_int h3
  have hlen:ns.length≤n:=by
    unfold OpenLaw.pre at hc
    have h4:(WTm.not (.lt (.lit (.int (n:Int))) (.len (.arg 0)))).holds [] {args:=[.list (ns.map .int)]}=true:=by
      have h4:=(holds_andW hc).1
      rw [hn] at h4
      exact h4
    have h5:=condW_of h4 (w_not (w_lt w_lit (w_len_list (w_arg rfl))))
    rw [List.length_map] at h5
    refine Nat.le_of_not_lt fun q=>?_
    have q':(n:Int) < ((ns.length:Nat):Int):=by omega
    first
      | (rw [decide_eq_true q'] at h5;exact absurd h5 (by decide))
      | (simp at h5;omega)
  cases hwl with
  | cons w1 w2=>
    cases w2
    cases w1 with
    | list ho hall=>exact ⟨_,_,ns,rfl,rfl,ho,ir ns _ hall,hlen⟩
theorem oG (l:OpenLaw) (args:List WData):l.row.toRowW.claim.post args (.bool true) args=true:=
  postW_of (r:=l.row.toRowW) (X:=(true == true))
    (show WShape.has [] (.bool true) .bool=true by first | rfl | decide | simp [WShape.has,WShape.arms,WShape.armsAll])
    (show (WTm.eq .res (.lit (.bool true))).value [] {args:=args,res:=some (.bool true),after:=args}=some (.bool (true == true)) from w_eq_bool (w_res rfl) w_lit) rfl
theorem lm {l:OpenLaw} {n:Nat} {q:Program} {loose:List Str} {XP:(Str→Option Value)→Heap→Prop} {YP:World→Heap→Prop} {d:DefRec}
    (hn:l.most=some n) (hdf:d.params.defaults=[])
    (call:∀(w:World) (s₀ s₁:Shared) (mg mb:Str→Option Value) (fa:Addr) (o:Obj) (pm cd doc:Value) (a:Addr) (vs:List Value) (ns:List Int),
      Ground q loose [] XP w s₀ mg mb s₁.heap→YP w s₁.heap→
      s₁.heap.get? fa=some o→o.data= .func (docDef d.name d.params d.body d.scope pm cd doc)→s₁.heap.CodeRec cd d.name→mg d.name=some (.ref fa)→
      s₁.heap.get? a=some {cls:= .type "list",data:= .seq vs.toArray}→IntsAre vs ns→ns.length≤n→s₁.gens=#[]→
      codeAny (model l.prog w) callerA (.call (.ref fa) ⟨[.ref a],[]⟩) (fun r s'=>r= .ok (.ret (.bool true))∧OldK s₁.heap s'.heap∧s'.os=s₁.os∧AllBare s'.gens) s₁):
    WalkO q loose XP YP l.row.toRowW d [] (fun f vs=>PySem.call f vs):=by
  intro w s₀ s₁ mg mb G Y fa o pm cd doc dV kV ho hd hcd hD hmg hg args vals as hpre hlay hrd hwl hlo
  obtain rfl:dV= .none:=Dflts.none hD hdf
  obtain rfl:kV= .none:=Dflts.noKw hD
  obtain ⟨a,vs,ns,rfl,rfl,hobj,hints,hlen⟩:=oF hn hpre hwl
  refine enter_call (codeAny_mono (call w s₀ s₁ mg mb fa o pm cd doc a vs ns G Y ho (fd_plain hd) hcd hmg hobj hints hlen hg) fun r s' hq=>?_)
  obtain ⟨rfl,h2,h3,h4⟩:=hq
  exact ⟨.inl ⟨.bool true, .bool true,[],rfl,fun _=>rfl, .bool true,oG l _,fun _=>⟨List.Pairwise.nil,fun _ hm=>(nomatch hm)⟩⟩,h2,h3,h4⟩
end Att
namespace L2
open PySem PySem.Spec PyProof.Rows
theorem fF:∀{vs:List Value} {ns:List Int},IntsAre vs ns→Vals (ns.map V.int) vs
  | _,_, .nil=> .nil
  | _,_, .cons n t h=> .cons ⟨t,rfl⟩ (fF h)
theorem ObjOk.tbl0 {P:Program} {w:World} {H:Hp} {h:Heap} {b:Addr} {q:Str} (e:h.get? b=some (PySem.W.tabObj #[])):ObjOk P w H h b (.tbl q):=⟨#[],e,trivial,fun pos cv z=>by cases z⟩
end L2
namespace L2
open PySem PySem.Spec PyProof.Rows
def aL (s:Stmt):Arguments:=match s with
  | .FunctionDef _ a _ _ _ _ _ _ _ _=>a
  | _=>{posonlyargs:=[],args:=[],vararg:=none,kwonlyargs:=[],kw_defaults:=[],kwarg:=none,defaults:=[]}
def aB (s:Stmt):List Stmt:=match s with
  | .FunctionDef _ _ b _ _ _ _ _ _ _=>b
  | _=>[]
def ae (s:Stmt):Scope:=match s with
  | .FunctionDef _ _ _ _ _ _ sc _ _ _=>sc
  | _=>{kind:= .function,names:=[],isGenerator:=false,isCoroutine:=false}
abbrev mK:oC:=fun _ _ _ _ _ _=>False
abbrev E0:XK:=fun _ _ _=>False
theorem wm {X:Cx}:mH mK X E0:=fun _ _ _ _ _ _ _ h=>h.elim
structure Fun (K:PySem.W.Frag) (x qual:Str) (st:Stmt) (f:Addr) (fd:FuncData):Prop where
  ex:∃(oc:Value) (od:Option Addr) (kV doc pm:Value) (an:Option Addr) (cdv ct:Value) (osl:Array (Option Value)),
    fd=PySem.W.fnOf x qual (aL st) (aB st) (ae st) .none kV doc pm an cdv ct∧K.lookup f=some ⟨oc,od, .func fd,osl⟩∧PySem.W.codeIn K cdv qual=true
  kp:PySem.W.keepIn K (.ref f)=true
section
variable {P:Program} {w:World} {K:PySem.W.Frag} {mg:Str→Option Value} {base:Heap}
theorem Fun.ok {x qual:Str} {st:Stmt} {f:Addr} {fd:FuncData} {N ps:List Str} {k:Nat} {sp:Sp} (F:Fun K x qual st f fd) (S:FnScope N ps (ae st)) (len:∀vs H Q E,sp vs H Q E→vs.length=ps.length)
    (hbody:∀(cdv:Value) (A:Around) (outer:List Env) (s:Shared) (H:Hp) (vs:List V) (Q:VK) (E:XK),Room k (A.deeper (envOfC qual (ae st) s.heap.objs.size f cdv))→sp vs H Q E→
      ∃t,PSs (e8 mK P w K mg base N qual (ae st) f cdv A outer s H E).nox (aB st) t∧t {nx:=fun _ H'=>Q .non H',rt:=Q} (dn N vs) H):FnOk P w K mg base mK (k+1) f fd ps sp:=by
  obtain ⟨oc,od,kV,doc,pm,an,cdv,ct,osl,rfl,lk,hcd⟩:=F.ex
  refine tW lk hcd S len fun A outer s H vs Q E hr hsp=>?_
  obtain ⟨t,h,q⟩:=hbody cdv A outer s H vs Q E hr hsp
  exact ⟨t,h.nox,q⟩
theorem Fun.binds {x qual:Str} {st:Stmt} {f:Addr} {fd:FuncData} {ps:List Str} (F:Fun K x qual st f fd)
    (h:∀(kV doc pm:Value) (an:Option Addr) (cdv ct:Value) (us:List Value),us.length=ps.length→bindArgs (PySem.W.fnOf x qual (aL st) (aB st) (ae st) .none kV doc pm an cdv ct) ⟨us,[]⟩=pure (ps.zip us)):Binds K fd ps []:=by
  obtain ⟨oc,od,kV,doc,pm,an,cdv,ct,osl,rfl,lk,hcd⟩:=F.ex
  exact .all (h kV doc pm an cdv ct)
theorem mL {x qual:Str} {st:Stmt} {f:Addr} {oc:Value} {od an:Option Addr} {osl:Array (Option Value)} {kV doc pm cdv ct:Value} (l:K.lookup f=some ⟨oc,od, .func (PySem.W.fnOf x qual (aL st) (aB st) (ae st) .none kV doc pm an cdv ct),osl⟩)
    (c:PySem.W.codeIn K cdv qual=true) (k:PySem.W.keepIn K (.ref f)=true):Fun K x qual st f (PySem.W.fnOf x qual (aL st) (aB st) (ae st) .none kV doc pm an cdv ct):=⟨⟨oc,od,kV,doc,pm,an,cdv,ct,osl,rfl,l,c⟩,k⟩
end
def Same (H H':Hp):Prop:=∀b o,H b=some o→H' b=some o
theorem Same.refl (H:Hp):Same H H:=fun _ _ h=>h
theorem Same.trans {H H1 H2:Hp} (a:Same H H1) (b:Same H1 H2):Same H H2:=fun c o h=>b c o (a c o h)
theorem Same.free {H H':Hp} (e:Same H H') {l:Addr} (h:H' l=Option.none):H l=Option.none:=by
  cases q:H l with
  | none=>rfl
  | some o=>
    rw [e l o q] at h
    cases h
theorem Same.seq {K:PySem.W.Frag} {H H':Hp} {a:Addr} {xs:List V} (e:Same H H') (h:SqL K H a xs):SqL K H' a xs:=by
  rcases h with (h | ⟨o,h⟩) | h
  · exact .inl (.inl (e _ _ h))
  · exact .inl (.inr ⟨o,e _ _ h⟩)
  · exact .inr h
end L2
namespace NH
section
variable {α:Type} [DecidableEq α]
def stp (r:List (α×Int)) (p:α×Int):List (α×Int):=
  match r with
  | []=>if p.2=0 then [] else [p]
  | q::r'=>if q.1=p.1 then (if q.2+p.2=0 then r' else (p.1,q.2+p.2)::r') else (if p.2=0 then q::r' else p::q::r')
def stk (c:List (α×Int)):List (α×Int):=c.foldl stp []
def short (c:List (α×Int)):List (α×Int):=(stk c).reverse
def jz (c:List (α×Int)):List (α×Int):=c.foldr (fun p r=>stp r p) []
def Red:List (α×Int)→Prop
  | []=>True
  | [p]=>p.2≠0
  | p::q::r=>p.2≠0∧p.1≠q.1∧Red (q::r)
theorem Red.tail {p:α×Int} {r:List (α×Int)} (h:Red (p::r)):Red r:=by
  cases r with
  | nil=>trivial
  | cons q r=>exact h.2.2
theorem Red.head {p:α×Int} {r:List (α×Int)} (h:Red (p::r)):p.2≠0:=by
  cases r with
  | nil=>exact h
  | cons q r=>exact h.1
theorem Red.cons {p:α×Int} {r:List (α×Int)} (h0:p.2≠0) (h1:∀q∈r.head?,p.1≠q.1) (h:Red r):Red (p::r):=by
  cases r with
  | nil=>exact h0
  | cons q r=>exact ⟨h0,h1 q rfl,h⟩
theorem Red.next {p:α×Int} {r:List (α×Int)} (h:Red (p::r)):∀q∈r.head?,p.1≠q.1:=by
  cases r with
  | nil=>intro q hq;cases hq
  | cons q r=>intro q' hq;cases hq;exact h.2.1
theorem nM {r:List (α×Int)} (h:Red r) (p:α×Int):Red (stp r p):=by
  cases r with
  | nil=>
    unfold stp
    by_cases h0:p.2=0
    · simp [h0,Red]
    · simp [h0,Red]
  | cons q r=>
    show Red (if q.1=p.1 then (if q.2+p.2=0 then r else (p.1,q.2+p.2)::r) else (if p.2=0 then q::r else p::q::r))
    by_cases e:q.1=p.1
    · rw [if_pos e]
      by_cases z:q.2+p.2=0
      · rw [if_pos z];exact h.tail
      · rw [if_neg z]
        refine Red.cons z (fun s hs=>?_) h.tail
        rw [←e];exact h.next s hs
    · rw [if_neg e]
      by_cases z:p.2=0
      · rw [if_pos z];exact h
      · rw [if_neg z];exact ⟨z,fun t=>e t.symm,h⟩
theorem gP:∀(c:List (α×Int)) {r:List (α×Int)},Red r→Red (c.foldl stp r)
  | [],_,h=>h
  | p::c,_,h=>gP c (nM h p)
theorem r_ (c:List (α×Int)):Red (stk c):=gP c trivial
theorem pW {r:List (α×Int)} (h:Red r) (n:α):stp r (n,0)=r:=by
  cases r with
  | nil=>simp [stp]
  | cons q r=>
    have:=h.head
    unfold stp
    by_cases e:q.1=n
    · obtain ⟨a,b⟩:=q
      simp at e this
      subst e
      simp [this]
    · simp [e]
theorem sd {r:List (α×Int)} (h:Red r) (n:α) (a b:Int):stp (stp r (n,a)) (n,b)=stp r (n,a+b):=by
  cases r with
  | nil=>
    by_cases ha:a=0
    · subst ha;simp [stp]
    · simp [stp,ha]
  | cons q r=>
    obtain ⟨m,u⟩:=q
    have hu:u≠0:=h.head
    by_cases e:m=n
    · subst e
      by_cases z:u+a=0
      · have e1:stp ((m,u)::r) (m,a)=r:=by simp [stp,z]
        rw [e1]
        have ez:u+(a+b)=b:=by omega
        have hn:=h.next
        cases r with
        | nil=>
          by_cases hb:b=0
          · subst hb;simp [stp];omega
          · simp [stp,ez,hb]
        | cons s r=>
          have e2:¬s.1=m:=fun t=>hn s rfl t.symm
          by_cases hb:b=0
          · subst hb;simp [stp,e2];omega
          · simp [stp,ez,hb,e2]
      · have e1:stp ((m,u)::r) (m,a)=(m,u+a)::r:=by simp [stp,z]
        rw [e1]
        simp only [stp,if_true]
        rw [Int.add_assoc]
    · by_cases ha:a=0
      · subst ha;simp [stp,e]
      · simp [stp,e,ha]
theorem pX {r:List (α×Int)} (h:Red r) (n:α) (a:Int):stp (stp r (n,a)) (n,-a)=r:=by
  rw [sd h,Int.add_right_neg,pW h]
def contr (c:List (α×Int)):List (α×Int):=c.reverse.map fun p=>(p.1,-p.2)
theorem mM (p:α×Int) (c:List (α×Int)):contr (p::c)=contr c++[(p.1,-p.2)]:=by simp [contr]
theorem lq (c:List (α×Int)):contr (contr c)=c:=by
  simp only [contr,List.map_reverse,List.reverse_reverse,List.map_map]
  conv=>rhs;rw [←List.map_id c]
  refine List.map_congr_left fun p _=>?_
  simp
theorem bh (c:List (α×Int)):(contr c).length=c.length:=by simp [contr]
theorem gQ:∀(c:List (α×Int)) {r:List (α×Int)},Red r→(c++contr c).foldl stp r=r
  | [],_,_=>rfl
  | p::c,r,h=>by
    rw [mM,←List.append_assoc,List.foldl_append]
    show stp ((c++contr c).foldl stp (stp r p)) (p.1,-p.2)=r
    rw [gQ c (nM h p)]
    exact pX h p.1 p.2
def sn (w:List (α×Int)) (p:α×Int):List (α×Int):=(stp w.reverse p).reverse
def se (p x:α×Int):List (α×Int):=if x.1=p.1 then (if x.2+p.2=0 then [] else [(p.1,x.2+p.2)]) else (if p.2=0 then [x] else [p,x])
theorem e_ (p x:α×Int) (r:List (α×Int)):stp (x::r) p=se p x++r:=by
  show (if x.1=p.1 then (if x.2+p.2=0 then r else (p.1,x.2+p.2)::r) else (if p.2=0 then x::r else p::x::r))=se p x++r
  unfold se
  by_cases e:x.1=p.1
  · rw [if_pos e,if_pos e];split <;> rfl
  · rw [if_neg e,if_neg e];split <;> rfl
def xM (x p:α×Int):List (α×Int):=(se p x).reverse
theorem nN (p x:α×Int) (r:List (α×Int)):sn (r++[x]) p=r++xM x p:=by
  unfold sn xM
  rw [List.reverse_append,List.reverse_singleton,List.singleton_append,e_,List.reverse_append,List.reverse_reverse]
theorem wn (p q:α×Int) (x:α×Int) (hx:x.2≠0):stp (sn [x] q) p=sn (stp [x] p) q:=by
  obtain ⟨n,a⟩:=p
  obtain ⟨k,b⟩:=q
  obtain ⟨m,u⟩:=x
  simp at hx
  by_cases e1:m=n
  · subst e1
    by_cases e2:m=k
    · subst e2
      by_cases z1:u+a=0 <;> by_cases z2:u+b=0
      · simp [stp,sn,z1,z2]
        have:a=b:=by omega
        have ha:a≠0:=by omega
        have hb:b≠0:=by omega
        simp [ha,hb,this]
      · have hb:u+b+a=b:=by omega
        by_cases b0:b=0
        · subst b0;simp [stp,sn,z1,hx]
        · simp [stp,sn,z1,z2,hb,b0]
      · have hb:u+a+b=a:=by omega
        by_cases a0:a=0
        · subst a0;simp [stp,sn,z2,hx]
        · simp [stp,sn,z1,z2,hb,a0]
      · have hb:u+b+a=u+a+b:=by omega
        by_cases z3:u+a+b=0
        · simp [stp,sn,z1,z2,hb,z3]
        · simp [stp,sn,z1,z2,hb,z3]
    · by_cases z1:u+a=0 <;> by_cases z2:b=0 <;> simp [stp,sn,e2,z1,z2]
  · by_cases e2:m=k
    · subst e2
      by_cases z1:u+b=0 <;> by_cases z2:a=0 <;> simp [stp,sn,e1,z1,z2]
    · by_cases z1:a=0 <;> by_cases z2:b=0 <;> simp [stp,sn,e1,e2,z1,z2]
theorem wo (p q:α×Int):stp (sn [] q) p=sn (stp [] p) q:=by
  obtain ⟨n,a⟩:=p
  obtain ⟨k,b⟩:=q
  by_cases z1:a=0 <;> by_cases z2:b=0
  · simp [stp,sn,z1,z2]
  · by_cases e:k=n <;> simp [stp,sn,z1,z2,e]
  · by_cases e:n=k <;> simp [stp,sn,z1,z2,e]
  · by_cases e:k=n
    · subst e
      by_cases z:a+b=0
      · have z':b+a=0:=by omega
        simp [stp,sn,z1,z2,z,z']
      · have z':¬b+a=0:=by omega
        simp [stp,sn,z1,z2,z,z']
        omega
    · have e':¬n=k:=fun t=>e t.symm
      simp [stp,sn,z1,z2,e,e']
theorem comm (p q:α×Int) {w:List (α×Int)} (h:Red w):stp (sn w q) p=sn (stp w p) q:=by
  cases w with
  | nil=>exact wo p q
  | cons x r=>
    rcases List.eq_nil_or_concat r with rfl | ⟨m,y,e⟩
    · exact wn p q x h
    · have e':r=m++[y]:=by rw [e] <;> simp
      subst e'
      have e1:x::(m++[y])=(x::m)++[y]:=rfl
      have e2:sn (x::(m++[y])) q=x::(m++xM y q):=by rw [e1,nN];rfl
      rw [e2,e_,e_,←List.append_assoc,←List.append_assoc,nN]
theorem dl:∀{m:List (α×Int)} {y z:α×Int},Red (m++[y])→z.2≠0→y.1≠z.1→Red (m++[y]++[z])
  | [],y,z,h,h0,h1=>⟨h,h1,h0⟩
  | [x],y,z,h,h0,h1=>⟨h.1,h.2.1,dl (m:=[]) h.2.2 h0 h1⟩
  | x::x'::m,y,z,h,h0,h1=>⟨h.1,h.2.1,dl (m:=x'::m) h.2.2 h0 h1⟩
theorem fb:∀{w:List (α×Int)},Red w→Red w.reverse
  | [],_=>trivial
  | [p],h=>h
  | p::q::r,h=>by
    have ih:=fb (w:=q::r) h.2.2
    rw [List.reverse_cons,List.reverse_cons]
    rw [List.reverse_cons] at ih
    exact dl ih h.1 fun t=>h.2.1 t.symm
theorem oH (c:List (α×Int)):Red (short c):=fb (r_ c)
theorem iN (c:List (α×Int)) (p:α×Int):short (c++[p])=sn (short c) p:=by
  unfold short stk sn
  rw [List.foldl_append,List.reverse_reverse]
  rfl
theorem mO (p:α×Int):∀c:List (α×Int),short (p::c)=stp (short c) p:=by
  intro c
  induction hn:c.length generalizing c with
  | zero=>
    have:c=[]:=List.length_eq_zero_iff.mp hn
    subst this
    simp [short,stk,stp]
    by_cases z:p.2=0 <;> simp [z]
  | succ n ih=>
    rcases List.eq_nil_or_concat c with rfl | ⟨m,y,e⟩
    · simp at hn
    · have e':c=m++[y]:=by rw [e] <;> simp
      subst e'
      have hm:m.length=n:=by simp at hn;exact hn
      have e1:p::(m++[y])=(p::m)++[y]:=rfl
      rw [e1,iN,ih m hm,iN,comm p y (oH m)]
theorem cW:∀c:List (α×Int),short c=jz c
  | []=>rfl
  | p::c=>by rw [mO,cW c];rfl
theorem hO:∀{w:List (α×Int)},Red w→jz w=w
  | [],_=>rfl
  | [p],h=>by
    have:p.2≠0:=h
    simp [jz,stp,this]
  | p::q::r,h=>by
    have ih:=hO (w:=q::r) h.2.2
    show stp (jz (q::r)) p=_
    rw [ih]
    have h1:¬q.1=p.1:=fun t=>h.2.1 t.symm
    simp [stp,h1,h.1]
theorem iO (c:List (α×Int)):short (c++contr c)=[]:=by
  unfold short stk;rw [gQ c (r:=[]) trivial];rfl
theorem nO (r:List (α×Int)) (p:α×Int):(stp r p).length≤r.length+1:=by
  cases r with
  | nil=>by_cases z:p.2=0 <;> simp [stp,z]
  | cons q r=>rw [e_];unfold se;split <;> split <;> simp <;> omega
theorem jQ:∀(c:List (α×Int)) (r:List (α×Int)),(c.foldl stp r).length≤r.length+c.length
  | [],r=>by simp
  | p::c,r=>by
    have h1:=jQ c (stp r p)
    have h2:=nO r p
    simp only [List.foldl_cons,List.length_cons]
    omega
theorem oI {A B X Y:List (α×Int)} (h:∀r,Red r→X.foldl stp r=Y.foldl stp r):short (A++X++B)=short (A++Y++B):=by
  unfold short stk
  rw [List.foldl_append,List.foldl_append,List.foldl_append,List.foldl_append,h _ (gP A (r:=[]) trivial)]
theorem pY (c:List (α×Int)):∀r:List (α×Int),Red r→(c++contr c).foldl stp r=([]:List (α×Int)).foldl stp r:=fun r h=>gQ c h
end
end NH
namespace L2
open PySem PySem.Spec PyProof.Rows
theorem d4 {H:Hp} {p:Addr} (h:H p=none) (o:HO):Same H (upd H p o):=fun b u q=>by rw [aC (bQ q h)];exact q
theorem Same.tup {K:PySem.W.Frag} {H H':Hp} {a:Addr} {xs:List V} (e:Same H H') (h:SqT K H a xs):SqT K H' a xs:=by
  rcases h with (h | ⟨o,h⟩) | h
  · exact .inl (.inl (e _ _ h))
  · exact .inl (.inr ⟨o,e _ _ h⟩)
  · exact .inr h
def SameBut (l:Addr) (H H':Hp):Prop:=∀b o,b≠l→H b=some o→H' b=some o
theorem SameBut.upd {H:Hp} {l:Addr} (o:HO):SameBut l H (upd H l o):=fun b u hb q=>by rw [aC hb];exact q
theorem SameBut.trans {H H1 H2:Hp} {l:Addr} (a:SameBut l H H1) (b:SameBut l H1 H2):SameBut l H H2:=fun c o hc q=>b c o hc (a c o hc q)
theorem SameBut.same {H H':Hp} {l:Addr} (a:SameBut l H H') (h:H l=none):Same H H':=fun b o q=>a b o (bQ q h) q
theorem SameBut.tup {K:PySem.W.Frag} {H H':Hp} {l a:Addr} {xs ys:List V} (e:SameBut l H H') (hl:H l=some (.lst ys)) (h:SqT K H a xs):SqT K H' a xs:=by
  rcases h with (h | ⟨o,h⟩) | h
  · exact .inl (.inl (e _ _ (tS h hl (by intro z;cases z)) h))
  · exact .inl (.inr ⟨o,e _ _ (tS h hl (by intro z;cases z)) h⟩)
  · exact .inr h
mutual
inductive DOf (K:PySem.W.Frag) (H:Hp):V→PyData→Prop
  | non:DOf K H .non .none
  | bl (b:Bool):DOf K H (.bl b) (.bool b)
  | int (i:Int):DOf K H (.int i) (.int i)
  | str (x:Str):DOf K H (.str x) (.str x)
  | lst {a:Addr} {xs:List V} {ds:List PyData}:SqL K H a xs→DAll K H xs ds→DOf K H (.ref a) (.list ds)
  | tup {a:Addr} {xs:List V} {ds:List PyData}:SqT K H a xs→DAll K H xs ds→DOf K H (.ref a) (.tuple ds)
inductive DAll (K:PySem.W.Frag) (H:Hp):List V→List PyData→Prop
  | nil:DAll K H [] []
  | cons {x:V} {xs:List V} {d:PyData} {ds:List PyData}:DOf K H x d→DAll K H xs ds→DAll K H (x::xs) (d::ds)
end
section
variable {X:Cx} {pins:List (Addr×Obj)} {σ:St} {H:Hp} {s:Shared}
theorem DOf.reads (I:Inv X pins σ H s) {x:V} {d:PyData} {u:Value} (h:DOf X.K H x d) (r:RelV x u):∃as,Reads s.heap u d as:=DOf.rec (motive_1:=fun x d _=>∀{u:Value},RelV x u→∃as,Reads s.heap u d as) (motive_2:=fun xs ds _=>∀{us:List Value},Vals xs us→∃as,ReadsAll s.heap us ds as)
    (fun r=>by cases r;exact ⟨_,Reads.none⟩) (fun b _ r=>by cases r;exact ⟨_,Reads.bool b⟩) (fun i _ r=>by obtain ⟨t,rfl⟩:=r;exact ⟨_,Reads.int i t⟩) (fun x _ r=>by obtain ⟨t,rfl⟩:=r;exact ⟨_,Reads.str x t⟩)
    (fun hq _ ih _ r=>by
      cases r
      obtain ⟨its,rv,⟨o,n,e,c,_,d⟩,_⟩:=I.list hq
      obtain ⟨as,q⟩:=ih rv
      exact ⟨_,reads_list_at e c d (by simpa using q)⟩)
    (fun hq _ ih _ r=>by
      cases r
      obtain ⟨its,rv,⟨o,e,c,n,d⟩,_⟩:=I.tuple hq
      obtain ⟨as,q⟩:=ih rv
      exact ⟨_,reads_tuple_at e c d (by simpa using q)⟩)
    (fun r=>by cases r;exact ⟨_,ReadsAll.nil⟩)
    (fun _ _ a b _ r=>by
      cases r with
      | cons r rt=>
        obtain ⟨as,q⟩:=a r
        obtain ⟨bs,p⟩:=b rt
        exact ⟨_,ReadsAll.cons q p⟩) h r
end
def wq (K:PySem.W.Frag):R2:=fun x y H Q=>∃d e,DOf K H x d∧DOf K H y e∧SeqAt.shaped d=true∧SeqAt.shaped e=true∧Q (.bl (PyData.eqv d e)) H
def wt (K:PySem.W.Frag):R2:=fun x y H Q=>∃d e,DOf K H x d∧DOf K H y e∧SeqAt.shaped d=true∧SeqAt.shaped e=true∧Q (.bl (!PyData.eqv d e)) H
theorem pZ {X:Cx} (hu:X.A.units+64 < cLine):OpR X (compareOp .Eq) (wq X.K):=by
  intro pins s σ H x y v u Q I rx ry h
  obtain ⟨d,e,hd,he,s1,s2,q⟩:=h
  obtain ⟨as,ra⟩:=hd.reads I rx
  obtain ⟨bs,rb⟩:=he.reads I ry
  exact eq_dataH ra rb s1 s2 hu ⟨.bl _,H,I,rfl,q⟩
theorem uS {X:Cx} (hu:X.A.units+64 < cLine):OpR X (compareOp .NotEq) (wt X.K):=by
  intro pins s σ H x y v u Q I rx ry h
  obtain ⟨d,e,hd,he,s1,s2,q⟩:=h
  obtain ⟨as,ra⟩:=hd.reads I rx
  obtain ⟨bs,rb⟩:=he.reads I ry
  exact ne_dataH ra rb s1 s2 hu ⟨.bl _,H,I,rfl,q⟩
def xN (K:PySem.W.Frag) (a:Addr) (xs:List V):It:=
  ⟨fun i H=>SqL K H a xs∧i < xs.length,fun i H x H'=>H'=H∧xs.reverse[i]? =some x,fun i H=>SqL K H a xs∧i=xs.length⟩
theorem p0 {P:Program} {w:World} {K:PySem.W.Frag} {tg:Expr} (a it:Addr) (xs:List V):Turn P w K tg (xN K a xs) [it] it (fun i h=>h.IsRevIter it a ((xs.length:Int) - 1 - (i:Int))) where
  mem:=by simp
  obj:=fun i h st b hb=>by
    have e:b=it:=by simpa using hb
    subst e
    obtain ⟨o,e,c,d⟩:=st
    exact ⟨o,e,fun v z=>by rw [d] at z;cases z⟩
  keep:=fun i h h' st k=>st.at fun o e=>k it (by simp) o e
  item:=by
    intro X hP hw hK hc i pins s σ H E I hf st hg
    subst hP hw hK
    obtain ⟨hq,hx⟩:=hg
    obtain ⟨its,rv,p,hz⟩:=I.list hq
    have hlen:=rv.length
    have e0:(xs.length:Int) - 1 - (i:Int)=((xs.length - 1 - i:Nat):Int):=by omega
    have hget:xs.reverse[i]? =xs[xs.length - 1 - i]? :=List.getElem?_reverse hx
    obtain ⟨x,hx'⟩:∃x,xs[xs.length - 1 - i]? =some x:=⟨xs[xs.length - 1 - i]'(by omega),List.getElem?_eq_getElem (by omega)⟩
    obtain ⟨u,hu,ru⟩:=rv.get hx'
    obtain ⟨f0,f1,f2,f3,f4,f5⟩:=hf it (by simp)
    have st1:s.heap.IsRevIter it a ((xs.length - 1 - i:Nat):Int):=by rw [←e0];exact st
    refine wpAny_pyNext_rev_item st1 p.isList (x:=u) (by simpa using hu) fun h' st' sb=>?_
    have I1:Inv X pins σ H {s with heap:=h'}:=I.turned (t':=s.toks) (fun b o hb e=>(sb.2 b hb).trans e) f0 f1 f3 f4 f5
    have e1:((xs.length - 1 - i:Nat):Int) - 1=(xs.length:Int) - 1 - ((i+1:Nat):Int):=by omega
    have st2:h'.IsRevIter it a ((xs.length:Int) - 1 - ((i+1:Nat):Int)):=by rw [←e1];exact st'
    obtain ⟨o,e,c,d⟩:=id st'
    exact ⟨u,rfl,lh (s:={s with heap:=h'}) e c d (by decide) ⟨x,H,I1,ru,⟨rfl,hget.trans hx'⟩,st2,fun b hb=>(hf b hb).1⟩⟩
  done:=by
    intro X hP hw hK hc i pins s σ H E I hf st hg
    subst hP hw hK
    obtain ⟨hq,hx⟩:=hg
    obtain ⟨f0,f1,f2,f3,f4,f5⟩:=hf it (by simp)
    have e0:(xs.length:Int) - 1 - (i:Int)= -1:=by omega
    have st1:s.heap.IsRevIter it a (-1):=by rw [←e0];exact st
    exact wpAny_pyNext_rev_end (I.ok.hd hc) st1 fun h' eb=>⟨rfl,I.turned (t':=s.toks) (fun b o hb e=>eb b o hb e) f0 f1 f3 f4 f5⟩
  self:=fun _ _ _ _ _ st h=>wpAny_pyIter_revIter st h
section
variable {X:Cx} {tg:Expr}
def xO (K:PySem.W.Frag) (tl:TA):TI:=fun σ H R=>tl σ H fun vs H1=>∃a xs,vs=[.ref a]∧SqL K H1 a xs∧R (xN K a xs) H1
theorem uT {l:Expr} {tl:TA} {p pos:Pos} (hg:Gl X "reversed") (hm:X.mg "reversed"=none) (ha:PA X [l] tl) (hs:starEach [l] X.env=[(false,eval l X.env)]:=by rfl):PI X tg (.Call (.Name "reversed" p) [l] [] pos) (xO X.K tl):=by
  intro pins s σ H R I h
  refine Call_ (iK I hg hm boot_reversed (PyProof.Rows.callWith_type1 (cB (ha pos pins s σ H _ I h) fun us s1 ⟨vs,H1,I1,r1,q1⟩=>?_) hs rfl))
  obtain ⟨a,xs,e,hq,q⟩:=q1
  subst e
  cases r1 with
  | cons r rr=>
    cases rr
    cases r
    obtain ⟨its,rv,p,hz⟩:=I1.list hq
    have hlen:=rv.length
    refine call_reversed_list p.isList ?_
    have hit:(s1.heap.push (revObj a (((its.toArray).size:Int) - 1))).IsRevIter s1.heap.objs.size a ((xs.length:Int) - 1 - ((0:Nat):Int)):=by
      refine ⟨_,Heap.get?_push_size _ rfl,rfl,?_⟩
      have e1:((its.toArray.size:Nat):Int) - 1=(xs.length:Int) - 1 - ((0:Nat):Int):=by rw [List.size_toArray];omega
      show Data.fields #[.ref a,rawInt ((its.toArray.size:Int) - 1)]=_
      rw [e1]
    have I2:Inv X pins σ H1 {s1 with heap:=s1.heap.push (revObj a (((its.toArray).size:Int) - 1))}:=I1.kept (t':=s1.toks) fun b o e=>Heap.get?_push_of_some _ e
    refine wpAny_pyIter_revIter hit ?_
    refine ⟨s1.heap.objs.size,[s1.heap.objs.size],_,_,H1,rfl,I2,p0 a _ xs,hit,fun b hb=>?_,q⟩
    have e:b=s1.heap.objs.size:=by simpa using hb
    subst e
    have f:=I1.fpOk (H':=H1) (Nat.le_refl _) (I1.hok.fresh (Nat.le_refl _))
    exact f
end
end L2
namespace L2
open PySem PySem.Spec PyProof.Rows
section
variable {prog:Program} {w:World} {A:Around} {R:Result→Shared→Prop} {s:Shared}
theorem kr {elt target iter:Expr} {ifs:List Expr} {scope:Scope} {pos:Pos} {it acc:Value} {env:Env} (I:Nat→Shared→Prop)
    (turn:∀n s,I n s→wpAny (model prog w) A (pyNext it) (fun r s₁=>match r with
      | none=>R (.ok .next) s₁
      | some v=>wpAny (model prog w) A (letOwnedTupleGo target it v) (fun _ s₁'=>wpAny (model prog w) A (assign target env v) (fun _ s₂=>
          wpAny (model prog w) A (forIn ifs true fun c r=>if r=true then do let ok ←isTrue c env (eval c env);pure (ForInStep.yield ok) else pure (ForInStep.yield r)) (fun ok s₃=>
            if ok=true then wpAny (model prog w) A (eval elt env) (fun x s₄=>
              wpAny (model prog w) A (call (.builtin "list.append") [acc,x]) (fun _ s₅=>∃m,m < n∧I m s₅) (fun _ _=>False) s₄) (fun _ _=>False) s₃
            else ∃m,m < n∧I m s₃) (fun _ _=>False) s₂) (fun _ _=>False) s₁') (fun _ _=>False) s₁) (fun _ _=>False) s)
    (n:Nat) (h:I n s):
    codeAny (model prog w) A (.compLoop (.ListComp elt [⟨target,iter,ifs,0⟩] scope pos) 0 it acc env) R s:=by
  refine codeAny_loop rfl I (fun n s hI=>?_) n h
  show wpAny _ A ((compTurn (.ListComp elt [⟨target,iter,ifs,0⟩] scope pos) 0 it acc env).onRaise (fun x=>do noteFrame x env;theTreesLotGoes x)) _ _ s
  refine wpAny_noted ?_
  rw [compTurn_list]
  refine wpAny_bind (wpAny_standAt (wpAny_bind (wpAny_mono (turn n s hI) (fun r s₁ h₁=>?_) fun _ _ h'=>h'.elim)))
  cases r with
  | none=>exact wpAny_pure h₁
  | some v=>
    refine wpAny_bind (wpAny_mono h₁ (fun _ s₁' h₁'=>?_) fun _ _ h'=>h'.elim)
    refine wpAny_bind (wpAny_mono h₁' (fun _ s₂ h₂=>wpAny_bind (wpAny_mono h₂ (fun ok s₃ h₃=>?_) fun _ _ h'=>h'.elim)) fun _ _ h'=>h'.elim)
    cases ok with
    | false=>exact wpAny_pure ⟨rfl,h₃⟩
    | true=>
      exact wpAny_bind (wpAny_bind (wpAny_mono h₃ (fun x s₄ h₄=>wpAny_bind (wpAny_mono h₄ (fun _ s₅ h₅=>wpAny_pure (wpAny_pure ⟨rfl,h₅⟩)) fun _ _ h'=>h'.elim)) fun _ _ h'=>h'.elim))
end
def Cx.comp (X:Cx) (sc:Scope) (cl:List (Str×Addr)) (N:List Str) (C:Addr) (s₀:Shared) (H₀:Hp) (fp:List Addr):Cx:=
  ⟨X.prog,X.w,X.K,X.mg,X.base,X.A,N,s₀,H₀,⟨sc,C,X.env.globals,cl,X.env.qual,none,X.env.code,X.env.frame,X.env.builtins⟩,X.stack,X.stack,fp,fun _=>false,X.calm,[],fun _ _=>False⟩
def xb (X:Cx) (ifs:List Expr) (t:TT):Prop:=
  ∀(pins:List (Addr×Obj)) (s:Shared) (σ:St) (H:Hp) (Q:Bool→Hp→Prop),Inv X pins σ H s→t σ H Q→
    wpAny (model X.prog X.w) X.A (forIn ifs true fun c r=>if r=true then do let ok ←isTrue c X.env (eval c X.env);pure (ForInStep.yield ok) else pure (ForInStep.yield r)) (TP X pins σ Q) X.xe s
def xP:TT:=fun _ H Q=>Q true H
theorem sf {X:Cx}:xb X [] xP:=fun _ _ _ H _ I h=>wpAny_tests_nil ⟨H,I,h⟩
theorem nP {X:Cx} {c:Expr} {t:TT} (h:PT X c t):xb X [c] t:=fun pins s σ H Q I q=>wpAny_tests_one (h pins s σ H Q I q)
def slots (js:List (Option Nat)) (σ:St):St:=js.map fun j=>j.bind fun j=>(σ[j]?).join
def nQ (js:List (Option Nat)) (wi:TI) (g:TG) (tt:TT) (te:TE):TE:=fun σ H Q=>wi σ H fun J H1=>∀l,H1 l=none→∃W:Nat→Nat→St→Hp→Prop,(∃m,W 0 m (slots js σ) (upd H1 l (.lst [])))∧
  ∀i m σ' H',W i m σ' H'→(J.stop i H'∧Q (.ref l) H')∨(J.go i H'∧∃N:St→Hp→Prop,(∀σ' H',N σ' H'→∃m',m' < m∧W (i+1) m' σ' H')∧∀x H2,J.yld i H' x H2→g x σ' H2 fun σ3 H3=>tt σ3 H3 fun b H4=>
    if b=true then te σ3 H4 fun y H5=>∃ys,H5 l=some (.lst ys)∧ys.length < sizeLine∧N σ3 (upd H5 l (.lst (ys++[y]))) else N σ3 H4)
section
variable {X:Cx} {elt target iter:Expr} {ifs:List Expr} {scope sc:Scope} {cl:List (Str×Addr)} {N:List Str} {pos:Pos} {wi:TI} {g:TG} {tt:TT} {te:TE} {js:List (Option Nat)}
structure CompOk (X:Cx) (scope sc:Scope) (cl:List (Str×Addr)) (N:List Str) (js:List (Option Nat)):Prop where
  clos:closureFor scope X.env=pure cl
  rel:relabel scope X.env=sc
  nocell:∀y∈scope.names,y.2≠ .cell
  kind:scope.kind= .function
  names:∀y∈scope.names,y.2= .local→scope.names.lookup y.1=some .local
  same:∀x c,cl.lookup x=some c→X.env.cells.lookup x=some c
  has:∀x,(sc.names.lookup x=some .cell∨sc.names.lookup x=some .free)→∃c,cl.lookup x=some c
  len:js.length=N.length
  from_:∀(i j:Nat),js[i]? =some (some j)→∃x,N[i]? =some x∧X.N[j]? =some x∧(sc.names.lookup x=some .cell∨sc.names.lookup x=some .free)∧(X.env.kindOf x=some .cell∨X.env.kindOf x=some .free)
theorem p3 {use:Option (Value→Sem Unit)} {Qv:Value→Shared→Prop} (K:CompOk X scope sc cl N js) (hc:X.calm=true) (hi:PI X target iter wi)
    (hgg:∀C s₀ H₀ fp,PG (X.comp sc cl N C s₀ H₀ fp) target g) (htt:∀C s₀ H₀ fp,xb (X.comp sc cl N C s₀ H₀ fp) ifs tt) (hee:∀C s₀ H₀ fp,PE (X.comp sc cl N C s₀ H₀ fp) elt te)
    (hs:∀x,foldedSetIterable iter X.env x=pure x) (pins:List (Addr×Obj)) (s:Shared) (σ:St) (H:Hp) (Q:VK) (I:Inv X pins σ H s) (h:nQ js wi g tt te σ H Q)
    (hend:∀(D C:Addr) (H4:Hp) (s5:Shared) (m:Str→Option Value),Inv X pins σ H4 s5→s5.heap.Ns C m→H4 C=none→C≠X.env.locals→C∉X.fs→X.s₀.heap.objs.size≤C→(∀x c,X.env.cells.lookup x=some c→c≠C)→(∀p∈X.pn++pins,p.1≠C)→Q (.ref D) H4→
      compPost (model X.prog X.w) X.A X.xe use Qv (.ref D) C (.ok .next) s5):
    wpAny (model X.prog X.w) X.A (comprehension (.ListComp elt [⟨target,iter,ifs,0⟩] scope pos) scope X.env (firstIterPos [⟨target,iter,ifs,0⟩] pos) (newList []) false (firstIter [⟨target,iter,ifs,0⟩] X.env) use) Qv X.xe s:=by
  refine wpAny_comprehension_free (use:=use) rfl hs K.clos K.kind K.names (cB (hi pins s σ H _ I h) fun v s1 h1=>cB h1 fun itv s2 h2=>?_)
  obtain ⟨it,fp,tn,J,H2,e,I2,T,st2,f2,R⟩:=h2
  subst e
  refine wpAny_newObj_type (wpAny_newFunctionEnv K.nocell (by intro y hy;simp at hy) (fun h₁ hns₁ hsb₁=>?_) K.kind)
  dsimp only at hns₁ hsb₁ ⊢
  have I3:Inv X pins σ (upd H2 s2.heap.objs.size (.lst [])) {s2 with heap:=s2.heap.push {cls:= .type "list",dict:=none,data:= .seq ([]:List Value).toArray}}:=
    I2.lnew (t':=s2.toks) (its:=[]) .nil (Nat.zero_le _)
  obtain ⟨W,⟨m0,w0⟩,turn⟩:=R s2.heap.objs.size (I2.hok.fresh (Nat.le_refl _))
  generalize hP:s2.heap.push {cls:= .type "list",dict:=none,data:= .seq ([]:List Value).toArray}=h3 at hns₁ hsb₁ I3 ⊢
  generalize hD:s2.heap.objs.size=D at w0 turn I3 ⊢
  have hsz3:h3.objs.size=D+1:=by rw [←hP,Heap.size_push,hD]
  have old3:∀b o,s2.heap.get? b=some o→h3.get? b=some o:=fun b o e=>by rw [←hP];exact Heap.get?_push_of_some _ e
  have old:∀b o,h3.get? b=some o→h₁.get? b=some o:=fun b o e=>hsb₁.extBut b o (Nat.ne_of_lt (Heap.lt_size e)) (Heap.get?_push_of_some _ e)
  have fpD:∀b∈fp,b < D:=fun b hb=>by
    obtain ⟨o,e,_⟩:=T.obj _ _ st2 b hb
    rw [←hD];exact Heap.lt_size e
  have frD:∀b∈fp,(upd H2 D (.lst [])) b=none:=fun b hb=>by rw [aC (Nat.ne_of_lt (fpD b hb))];exact (f2 b hb).1
  have f3:∀b∈fp,lg X pins (upd H2 D (.lst [])) b:=fun b hb=>⟨frD b hb,(f2 b hb).2⟩
  have Hfresh:∀a,h3.objs.size≤a→(upd H2 D (.lst [])) a=none:=fun a ha=>I3.hok.fresh ha
  have cellC:∀x c,X.env.cells.lookup x=some c→c < h3.objs.size:=fun x c e=>by
    obtain ⟨v,q⟩:=I3.cell x c e
    exact q.lt
  have YOk:(X.comp sc cl N h3.objs.size {s2 with heap:=h3} (upd H2 D (.lst [])) fp).Ok:=by
    refine ⟨I3.ok.mod,?_,I3.ok.glob,I3.ok.blt,Nat.le_refl _,fun x y c e1 e2=>I3.ok.inj x y c (K.same x c e1) (K.same y c e2),fun x hx=>K.has x hx,fun x c hf _=>absurd hf (by intro z;cases z),I3.ok.hd,I3.ok.frames, .inl rfl,fun b hb=>⟨?_,fun x c e=>(f2 b hb).2.2.2.2.1 x c (K.same x c e)⟩,
      I3.bs,Nat.le_trans I3.ok.bsz I3.sz,fun b o e hb=>?_,fun b hb hm=>?_,I3.stack,I3.stkFree,I3.tab⟩
    · rw [←K.rel];exact K.kind
    · exact Nat.ne_of_lt (by rw [hsz3];exact Nat.lt_succ_of_lt (fpD b hb))
    · rcases (f2 b hb).2.2.2.1 with z | z
      · exact I3.ok.noex b o e z
      · exact absurd (Nat.lt_of_lt_of_le (Heap.lt_size (I3.ok.bs b o e).1) z) (Nat.lt_irrefl _)
    · rcases List.mem_cons.mp (I3.stkSub b hm) with z | z
      · exact (f2 b hb).2.1 z
      · exact (f2 b hb).2.2.1 z
  have IY:Inv (X.comp sc cl N h3.objs.size {s2 with heap:=h3} (upd H2 D (.lst [])) fp) [] (slots js σ) (upd H2 D (.lst [])) {s2 with heap:=h₁,toks:=s2.toks+([]:List (Str×Value)).length}:=by
    refine ⟨YOk,rfl,I3.bare,Un.kept old,⟨_,hns₁,fun i x v e1 e2 e3=>?_⟩,fun x c e=>?_,Hfresh _ (Nat.le_refl _),fun x c e=>I3.freeC x c (K.same x c e),fun p hp=>absurd (show p∈([]:List (Addr×Obj)) from hp) (by simp),I3.hok.kept old,?_⟩
    · unfold slots at e2
      rw [List.getElem?_map] at e2
      cases ej:js[i]? with
      | none=>rw [ej] at e2;cases e2
      | some jo=>
        rw [ej] at e2
        cases jo with
        | none=>cases e2
        | some j=>
          obtain ⟨y,n1,n2,k1,k2⟩:=K.from_ i j ej
          have exy:y=x:=Option.some.inj (n1.symm.trans e1)
          subst exy
          have e2':(σ[j]?).join=some v:=Option.some.inj e2
          have e4:σ[j]? =some (some v):=by
            cases es:σ[j]? with
            | none=>rw [es] at e2';cases e2'
            | some w=>rw [es] at e2';exact congrArg some e2'
          obtain ⟨m,_,hl⟩:=I3.loc
          obtain ⟨u,ru,lk⟩:=hl j y v n2 e4 (by
            rcases k2 with z | z
            · exact .inr (.inl z)
            · exact .inr (.inr z))
          refine ⟨u,ru, .inr ⟨k1,?_⟩⟩
          obtain ⟨c,hcl⟩:=K.has y k1
          refine ⟨c,hcl,?_⟩
          rcases lk with ⟨z,_⟩ | ⟨_,c',e5,ic⟩
          · rcases k2 with q | q
            · rw [q] at z;cases z
            · rw [q] at z;cases z
          · have:c'=c:=Option.some.inj (e5.symm.trans (K.same y c hcl))
            subst this
            obtain ⟨o,ho,hd⟩:=ic
            exact ⟨o,old _ _ ho,hd⟩
    · obtain ⟨v,o,ho,hd⟩:=I3.cell x c (K.same x c e)
      exact ⟨v,o,old _ _ ho,hd⟩
    · unfold slots;rw [List.length_map];exact K.len
  have loop:∀s₃:Shared,s₃={s2 with heap:=h₁,toks:=s2.toks+([]:List (Str×Value)).length}→
      codeAny (model X.prog X.w) X.A (.compLoop (.ListComp elt [⟨target,iter,ifs,0⟩] scope pos) 0 (.ref it) (.ref D) (X.comp sc cl N h3.objs.size {s2 with heap:=h3} (upd H2 D (.lst [])) fp).env)
        (compPost (model X.prog X.w) X.A X.xe use Qv (.ref D) h3.objs.size) s₃:=by
    rintro s₃ rfl
    refine kr (fun n s'=>∃i σ' H',Inv (X.comp sc cl N h3.objs.size {s2 with heap:=h3} (upd H2 D (.lst [])) fp) [] σ' H' s'∧tn i s'.heap∧(∀b∈fp,H' b=none)∧W i n σ' H') ?_ m0
      ⟨0,_,_,IY,T.keep _ _ _ st2 (fun b hb o e=>old b o (old3 b o e)),frD,w0⟩
    rintro n s4 ⟨i,σ4,H4,I4,st4,fr4,w4⟩
    have ff:∀{H':Hp},(∀b∈fp,H' b=none)→∀b∈fp,lg (X.comp sc cl N h3.objs.size {s2 with heap:=h3} (upd H2 D (.lst [])) fp) [] H' b:=fun hn b hb=>
      ⟨hn b hb,(YOk.exf b hb).1,YOk.exfs b hb, .inl hb,(YOk.exf b hb).2,fun p hp=>absurd (show p∈([]:List (Addr×Obj)) from hp) (by simp)⟩
    have hg:=hgg h3.objs.size {s2 with heap:=h3} (upd H2 D (.lst [])) fp
    have ht:=htt h3.objs.size {s2 with heap:=h3} (upd H2 D (.lst [])) fp
    have he:=hee h3.objs.size {s2 with heap:=h3} (upd H2 D (.lst [])) fp
    rcases turn i n σ4 H4 w4 with ⟨stop,qn⟩ | ⟨go,Nx,hN,step⟩
    · refine cB (T.done (X.comp sc cl N h3.objs.size {s2 with heap:=h3} (upd H2 D (.lst [])) fp) rfl rfl rfl hc i [] s4 σ4 H4 _ I4 (ff fr4) st4 stop) fun r s5 ⟨hr,I5⟩=>?_
      subst hr
      obtain ⟨m,hn,_⟩:=I5.loc
      have IX:Inv X pins σ H4 s5:=I3.call' (ch:=fp) I5.os I5.base I5.hok I5.bare fun b hb=>⟨(f3 b hb).2.2.2.1,(f3 b hb).2.1,(f3 b hb).2.2.2.2.1,(f3 b hb).2.2.2.2.2⟩
      exact hend D h3.objs.size H4 s5 m IX hn I5.free (Ne.symm (Nat.ne_of_lt I3.lt)) (I3.nofs (Nat.le_refl _)) I3.sz (fun x c e=>Nat.ne_of_lt (cellC x c e)) (fun p hp=>Nat.ne_of_lt (Heap.lt_size (I3.pin p hp).1)) qn
    · refine cB (T.item (X.comp sc cl N h3.objs.size {s2 with heap:=h3} (upd H2 D (.lst [])) fp) rfl rfl rfl hc i [] s4 σ4 H4 _ I4 (ff fr4) st4 go) fun r s5 ⟨u,hr,h5⟩=>?_
      subst hr
      refine cB h5 fun _ s6 ⟨x,H6,I6,r6,y6,st6,fr6⟩=>?_
      have I6':=I6.pinned (ff fr6) (T.obj _ _ st6)
      have back:∀{σ7:St} {H7:Hp} {s7:Shared},Inv (X.comp sc cl N h3.objs.size {s2 with heap:=h3} (upd H2 D (.lst [])) fp) ([]++iL fp s6.heap) σ7 H7 s7→
          Inv (X.comp sc cl N h3.objs.size {s2 with heap:=h3} (upd H2 D (.lst [])) fp) [] σ7 H7 s7∧tn (i+1) s7.heap∧∀b∈fp,H7 b=none:=fun {σ7 H7 s7} I7=>
        ⟨I7.unpinned,T.keep _ _ _ st6 fun b hb o e=>(I7.pin (b,o) (List.mem_append_right _ (List.mem_append_right _ (eL hb e)))).1,fun b hb=>by
          obtain ⟨o,e,d⟩:=T.obj _ _ st6 b hb
          exact (I7.pin (b,o) (List.mem_append_right _ (List.mem_append_right _ (eL hb e)))).2.1⟩
      refine cB (hg _ s6 σ4 H6 x u _ I6' r6 (step x H6 y6)) fun _ s7 ⟨σ7,H7,I7,q7⟩=>?_
      refine cB (ht _ s7 σ7 H7 _ I7 q7) fun b s8 ⟨H8,I8,q8⟩=>?_
      cases b with
      | false=>
        obtain ⟨m',hm,w8⟩:=hN σ7 H8 q8
        obtain ⟨J1,J2,J3⟩:=back I8
        exact ⟨m',hm,i+1,σ7,H8,J1,J2,J3,w8⟩
      | true=>
        refine cB (he _ s8 σ7 H8 _ I8 q8) fun yv s9 ⟨y,H9,I9,r9,ys,hl,hz,n9⟩=>?_
        obtain ⟨m',hm,w9⟩:=hN _ _ n9
        refine cB (jP _ s9 σ7 H9 (.ref D) [y] (.ref D) [yv] (fun v H'=>v= .non∧H'=upd H9 D (.lst (ys++[y]))) I9 rfl (.cons r9 .nil) ⟨D,ys,y,rfl,rfl,hl,hz,rfl,rfl⟩) fun _ sA ⟨_,HA,IA,_,_,eA⟩=>?_
        subst eA
        obtain ⟨J1,J2,J3⟩:=back IA
        exact ⟨m',hm,i+1,σ7,_,J1,J2,J3,w9⟩
  rw [K.rel]
  exact codeAny_compStart_list (loop _ rfl) (T.self _ 0 _ _ _ (T.keep _ _ _ st2 (fun b hb o e=>old b o (old3 b o e))) (loop _ rfl))
theorem kt (K:CompOk X scope sc cl N js) (hc:X.calm=true) (hi:PI X target iter wi)
    (hgg:∀C s₀ H₀ fp,PG (X.comp sc cl N C s₀ H₀ fp) target g) (htt:∀C s₀ H₀ fp,xb (X.comp sc cl N C s₀ H₀ fp) ifs tt) (hee:∀C s₀ H₀ fp,PE (X.comp sc cl N C s₀ H₀ fp) elt te)
    (hs:∀x,foldedSetIterable iter X.env x=pure x:=by intro _;rfl):PE X (.ListComp elt [⟨target,iter,ifs,0⟩] scope pos) (nQ js wi g tt te):=by
  intro pins s σ H Q I h
  rw [eval_ListComp]
  refine p3 (use:=none) K hc hi hgg htt hee hs pins s σ H Q I h fun D C H4 s5 m IX hn fC nL _ sz nc np qn=>?_
  exact ⟨m,hn,fun h' hs'=>⟨.ref D,H4,IX.turned (t':=s5.toks) (it:=C) (fun b o hb e=>(hs'.2 b hb).trans e) fC nL (.inr sz) nc np,rfl,qn⟩⟩
end
end L2
namespace L2
open PySem PySem.Spec PyProof.Rows
theorem fU {X:Cx} {scope:Scope} {N:List Str} {js:List (Option Nat)} (hf:∀x∈scope.names,x.2≠ .free:=by decide+kernel) (hcell:∀x∈scope.names,x.2≠ .cell:=by decide+kernel)
    (hk:scope.kind= .function:=by rfl) (hn:∀y∈scope.names,y.2= .local→scope.names.lookup y.1=some .local:=by decide+kernel) (hl:js.length=N.length:=by rfl) (hj:∀j∈js,j=none:=by decide):CompOk X scope scope [] N js where
  clos:=closureFor_none hf
  rel:=by
    unfold relabel
    have e:(scope.names.map fun (x:Str×NameKind)=>match x with | (n,k)=>if (k == .free&&X.env.scope.kind == .function&&X.env.kindOf n == some .cell) then (n,NameKind.cell) else (n,k))=scope.names:=by
      refine map_eq_self fun x hx=>?_
      obtain ⟨n,k⟩:=x
      have:(k == NameKind.free)=false:=by simpa using hf _ hx
      simp [this]
    rw [e]
  nocell:=hcell
  kind:=hk
  names:=hn
  same:=fun x c e=>by simp at e
  has:=fun x h=>by
    rcases h with h | h
    · exact absurd rfl (hcell _ (PySem.mem_of_lookup h))
    · exact absurd rfl (hf _ (PySem.mem_of_lookup h))
  len:=hl
  from_:=fun i j h=>by
    have:=hj _ (List.mem_of_getElem? h)
    cases this
structure Own (P:Program) (w:World) (K:PySem.W.Frag) (mg:Str→Option Value) (base:Heap) (k:Nat) (x:Str) (ps:List Str) (sp:Sp):Prop where
  ex:∃(f:Addr) (fd:FuncData),FnOk P w K mg base mK k f fd ps sp∧Binds K fd ps []∧mg x=some (.ref f)∧PySem.W.keepIn K (.ref f)=true
theorem uU {X:Cx} {k:Nat} {x:Str} {ps:List Str} {sp:Sp} {p pos:Pos} {e:Expr} {es:List Expr} {t:TA} (D:Own X.prog X.w X.K X.mg X.base k x ps sp) (hr:Room k X.A) (hg:Gl X x) (ha:PA X (e::es) t)
    (hdb:(x == ("__debug__":Str))=false:=by decide) (he:starEach (e::es) X.env=(false,eval e X.env)::starEach es X.env:=by rfl) (hpl:(backTo pos (starEach es X.env)).any (·.1)=false:=by rfl):
    PE X (.Call (.Name x p) (e::es) [] pos) (pQ sp [] E0 t):=by
  obtain ⟨f,fd,F,b,m,kp⟩:=D.ex
  exact rS F hr hg m kp b .nil wm ha hdb he hpl
structure Def (K:PySem.W.Frag) (mg:Str→Option Value) (x:Str) (st:Stmt) (ps:List Str):Prop where
  ex:∃(f:Addr) (fd:FuncData),Fun K x x st f fd∧mg x=some (.ref f)∧Binds K fd ps []
theorem Def.own {P:Program} {w:World} {K:PySem.W.Frag} {mg:Str→Option Value} {base:Heap} {x:Str} {st:Stmt} {N ps:List Str} {k:Nat} {sp:Sp} (D:Def K mg x st ps) (S:FnScope N ps (ae st))
    (len:∀vs H Q E,sp vs H Q E→vs.length=ps.length)
    (hbody:∀(f:Addr) (cdv:Value) (A:Around) (outer:List Env) (s:Shared) (H:Hp) (vs:List V) (Q:VK) (E:XK),Room k (A.deeper (envOfC x (ae st) s.heap.objs.size f cdv))→sp vs H Q E→
      ∃t,PSs (e8 mK P w K mg base N x (ae st) f cdv A outer s H E).nox (aB st) t∧t {nx:=fun _ H'=>Q .non H',rt:=Q} (dn N vs) H):Own P w K mg base (k+1) x ps sp:=by
  obtain ⟨f,fd,F,m,b⟩:=D.ex
  exact ⟨f,fd,F.ok S len (hbody f),b,m,F.kp⟩
theorem bV {K:PySem.W.Frag} {h:Heap} {mg:Str→Option Value} {x:Str} {st:Stmt} {ps:List Str} {f:Addr} {oc:Value} {od an:Option Addr} {osl:Array (Option Value)} {kV doc pm cdv ct:Value} (X:K.In h) (G:h.Ns mainGlobals mg)
    (a:PySem.W.nsIn K mainGlobals x=some (some (.ref f))) (l:K.lookup f=some ⟨oc,od, .func (PySem.W.fnOf x x (aL st) (aB st) (ae st) .none kV doc pm an cdv ct),osl⟩)
    (c:PySem.W.codeIn K cdv x=true) (k:PySem.W.keepIn K (.ref f)=true)
    (b:∀(kV doc pm:Value) (an:Option Addr) (cdv ct:Value) (us:List Value),us.length=ps.length→bindArgs (PySem.W.fnOf x x (aL st) (aB st) (ae st) .none kV doc pm an cdv ct) ⟨us,[]⟩=pure (ps.zip us)):Def K mg x st ps:=
  ⟨f,_,mL l c k,PySem.W.mg_of X G a,(mL (st:=st) l c k).binds b⟩
end L2
namespace Nh
open PySem L2
section
variable {α β:Type} {F:α→β→Prop}
theorem fG:∀{a:List α} {b:List β} {c:List α} {d:List β},Paired F a b→Paired F c d→Paired F (a++c) (b++d)
  | _,_,_,_, .nil,s=>s
  | _,_,_,_, .cons r t,s=> .cons r (fG t s)
theorem nR:∀{a:List α} {b:List β} (n:Nat),Paired F a b→Paired F (a.take n) (b.take n)
  | _,_,0,_=> .nil
  | _,_,_+1, .nil=> .nil
  | _,_,n+1, .cons r t=> .cons r (nR n t)
theorem nS:∀{a:List α} {b:List β} (n:Nat),Paired F a b→Paired F (a.drop n) (b.drop n)
  | _,_,0,r=>r
  | _,_,_+1, .nil=> .nil
  | _,_,n+1, .cons _ t=>nS n t
theorem fV:∀{a:List α} {b:List β},Paired F a b→Paired F a.reverse b.reverse
  | _,_, .nil=> .nil
  | _,_, .cons r t=>by
    rw [List.reverse_cons,List.reverse_cons]
    exact fG (fV t) (.cons r .nil)
theorem nT:∀{a:List α} {b:List β} {i:Nat} {y:β},Paired F a b→b[i]? =some y→∃x,a[i]? =some x∧F x y
  | _,_,_,_, .nil,e=>by simp at e
  | _,_,0,_, .cons r _,e=>by simp at e;subst e;exact ⟨_,rfl,r⟩
  | _,_,i+1,x, .cons _ t,e=>by
    obtain ⟨u,h1,h2⟩:=nT (i:=i) (y:=x) t (by simpa using e)
    exact ⟨u,by simpa using h1,h2⟩
theorem p5 {a:List α} {b:List β} (h:Paired F a b):∀k:Nat,Paired F (List.replicate k a).flatten (List.replicate k b).flatten
  | 0=> .nil
  | k+1=>by
    rw [List.replicate_succ,List.replicate_succ,List.flatten_cons,List.flatten_cons]
    exact fG h (p5 h k)
end
abbrev Pc:=Nat×Int
def tv (p:Pc):List V:=[.str ⟨#[p.1]⟩, .int p.2]
def xQ (H:Hp) (v:V) (p:Pc):Prop:=∃t,v= .ref t∧H t=some (.tup (tv p))
abbrev PAll (H:Hp):List V→List Pc→Prop:=Paired (xQ H)
section
variable {H H':Hp} {l:Addr} {xs ys:List V} {c:List Pc}
theorem PAll.same (s:Same H H') (h:PAll H xs c):PAll H' xs c:=Paired.mapP h fun _ _ ⟨t,e,q⟩=>⟨t,e,s _ _ q⟩
theorem PAll.len (h:PAll H xs c):xs.length=c.length:=Paired.length h
end
def Cord (H:Hp) (a:Addr) (c:List Pc):Prop:=∃xs,H a=some (.lst xs)∧PAll H xs c
section
variable {H H':Hp} {a:Addr} {c d:List Pc}
theorem Cord.same (s:Same H H') (h:Cord H a c):Cord H' a c:=let ⟨xs,e,p⟩:=h;⟨xs,s _ _ e,p.same s⟩
end
def aX (p:Pc):PyData:= .tuple [.str ⟨#[p.1]⟩, .int p.2]
def fO (c:List Pc):PyData:= .list (c.map aX)
def NailsOk (c:List Pc):Prop:=∀p∈c,p.1 < 128
theorem jR {K:PySem.W.Frag} {H:Hp}:∀{xs:List V} {c:List Pc},PAll H xs c→DAll K H xs (c.map aX)
  | _,_, .nil=> .nil
  | _,_, .cons ⟨t,e,q⟩ r=>by
    subst e
    exact .cons (.tup (SqT.of q) (.cons (.str _) (.cons (.int _) .nil))) (jR r)
theorem Cord.data {K:PySem.W.Frag} {H:Hp} {a:Addr} {c:List Pc} (h:Cord H a c):DOf K H (.ref a) (fO c):=
  let ⟨_,e,p⟩:=h; .lst (SqL.of e) (jR p)
theorem wu {p:Pc} (h:p.1 < 128):(aX p).canLay0=true:=by
  have:p.1 < 1114112:=by omega
  simp [aX,PyData.canLay0,PyData.canLayAll0,PyData.strOk,this]
theorem lr:∀{c:List Pc},NailsOk c→PyData.canLayAll0 (c.map aX)=true∧PyData.depthAll (c.map aX)≤1
  | [],_=>by simp [PyData.canLayAll0,PyData.depthAll]
  | p::c,h=>by
    have ih:=lr (c:=c) fun q hq=>h q (List.mem_cons_of_mem _ hq)
    have h1:=wu (h p (List.mem_cons_self ..))
    have h2:=ih.2
    simp only [List.map_cons,PyData.canLayAll0,PyData.depthAll,h1,ih.1,Bool.and_self,true_and]
    have h3:(aX p).depth=1:=by simp [aX,PyData.depth,PyData.depthAll]
    omega
theorem hU {c:List Pc} (h:NailsOk c):SeqAt.shaped (fO c)=true:=by
  have q:=lr h
  have q2:=q.2
  unfold SeqAt.shaped
  simp only [fO,PyData.canLay0,PyData.depth,q.1,Bool.true_and]
  exact decide_eq_true (by omega)
theorem uV (p q:Pc):PyData.eqv (aX p) (aX q)=decide (p=q):=by
  obtain ⟨n,a⟩:=p
  obtain ⟨m,b⟩:=q
  simp only [aX,PyData.eqv,PyData.eqvAll,Bool.and_true]
  rw [Bool.eq_iff_iff]
  simp
theorem jS:∀c d:List Pc,PyData.eqvAll (c.map aX) (d.map aX)=decide (c=d)
  | [],[]=>by simp [PyData.eqvAll]
  | [],_::_=>by simp [PyData.eqvAll]
  | _::_,[]=>by simp [PyData.eqvAll]
  | p::c,q::d=>by
    simp only [List.map_cons,PyData.eqvAll,uV,jS c d]
    rw [Bool.eq_iff_iff]
    simp
theorem p6 (c d:List Pc):PyData.eqv (fO c) (fO d)=decide (c=d):=by
  simp only [fO,PyData.eqv,jS]
end Nh
namespace PL
open PySem PySem.Spec PyProof.Rows L2 Nh
def xR:cL→PyData
  | .inl i=> .int i
  | .inr x=> .str x
def d7 (a C:Addr):Heap→Prop:=fun h=>∃o,h.get? a=some o∧o.cls= .ref C
mutual
inductive Rp (K:PySem.W.Frag) (H:Hp):V→PyData→Prop
  | non:Rp K H .non .none
  | bl (b:Bool):Rp K H (.bl b) (.bool b)
  | int (i:Int):Rp K H (.int i) (.int i)
  | str (x:Str):Rp K H (.str x) (.str x)
  | lst {a:Addr} {xs:List V} {ds:List PyData}:SqL K H a xs→RpA K H xs ds→Rp K H (.ref a) (.list ds)
  | tup {a:Addr} {xs:List V} {ds:List PyData}:SqT K H a xs→RpA K H xs ds→Rp K H (.ref a) (.tuple ds)
  | dct {a:Addr} {us:List (cL×V)} {kvs:List (PyData×PyData)}:Rd H a (.dK us)→RpK K H us kvs→Rp K H (.ref a) (.dict kvs)
  | exc {a C:Addr} {n:Str}:H a=some (.ext (d7 a C))→PySem.W.nsIn K mainGlobals n=some (some (.ref C))→Rp K H (.ref a) (.dict [(.none, .str n)])
inductive RpA (K:PySem.W.Frag) (H:Hp):List V→List PyData→Prop
  | nil:RpA K H [] []
  | cons {x:V} {xs:List V} {d:PyData} {ds:List PyData}:Rp K H x d→RpA K H xs ds→RpA K H (x::xs) (d::ds)
inductive RpK (K:PySem.W.Frag) (H:Hp):List (cL×V)→List (PyData×PyData)→Prop
  | nil:RpK K H [] []
  | cons {k:cL} {x:V} {us:List (cL×V)} {d:PyData} {kvs:List (PyData×PyData)}:Rp K H x d→RpK K H us kvs→RpK K H ((k,x)::us) ((xR k,d)::kvs)
end
mutual
def bH:PyData→Bool
  | .none=>true
  | .bool _=>true
  | .int _=>true
  | .str _=>true
  | .list _=>false
  | .tuple xs=>aS xs
  | .dict _=>false
def aS:List PyData→Bool
  | []=>true
  | d::ds=>bH d&&aS ds
end
def tX:HO→Bool
  | .tup _=>true
  | .frz _ _=>true
  | _=>false
def tups (H:Hp):Hp:=fun b=>(H b).filter tX
theorem gR (H:Hp):Same (tups H) H:=fun b o h=>(Option.filter_eq_some_iff.mp h).1
theorem gr {H:Hp} {b:Addr} {o:HO} (h:H b=some o) (c:tX o=true):tups H b=some o:=Option.filter_eq_some_iff.mpr ⟨h,c⟩
theorem lv {H:Hp} {l:Addr} {xs ys:List V} (h:H l=some (.lst xs)):tups (upd H l (.lst ys))=tups H:=by
  funext b
  unfold tups
  by_cases e:b=l
  · subst e
    rw [bg,h]
    rfl
  · rw [aC e]
section
variable {K:PySem.W.Frag} {H H':Hp}
theorem lx {a:Addr} {xs:List V} (h:SqT K H a xs):SqT K (tups H) a xs:=by
  rcases h with (h | ⟨o,h⟩) | h
  · exact .inl (.inl (gr h rfl))
  · exact .inl (.inr ⟨o,gr h rfl⟩)
  · exact .inr h
theorem ku {a:Addr} {u:HO} (s:Same H H') (h:Rd H a u):Rd H' a u:=by
  rcases h with h | ⟨o,h⟩
  · exact .inl (s _ _ h)
  · exact .inr ⟨o,s _ _ h⟩
theorem Rp.same (s:Same H H') {v:V} {d:PyData} (h:Rp K H v d):Rp K H' v d:=Rp.rec (motive_1:=fun v d _=>Rp K H' v d) (motive_2:=fun v d _=>RpA K H' v d) (motive_3:=fun v d _=>RpK K H' v d) .non .bl .int .str (fun h _ r=> .lst (s.seq h) r) (fun h _ r=> .tup (s.tup h) r) (fun h _ r=> .dct (ku s h) r) (fun h r=> .exc (s _ _ h) r) .nil (fun _ _ a b=> .cons a b) .nil (fun _ _ a b=> .cons a b) h
theorem RpA.same (s:Same H H') {v:List V} {d:List PyData} (h:RpA K H v d):RpA K H' v d:=RpA.rec (motive_1:=fun v d _=>Rp K H' v d) (motive_2:=fun v d _=>RpA K H' v d) (motive_3:=fun v d _=>RpK K H' v d) .non .bl .int .str (fun h _ r=> .lst (s.seq h) r) (fun h _ r=> .tup (s.tup h) r) (fun h _ r=> .dct (ku s h) r) (fun h r=> .exc (s _ _ h) r) .nil (fun _ _ a b=> .cons a b) .nil (fun _ _ a b=> .cons a b) h
theorem RpK.same (s:Same H H') {v:List (cL×V)} {d:List (PyData×PyData)} (h:RpK K H v d):RpK K H' v d:=RpK.rec (motive_1:=fun v d _=>Rp K H' v d) (motive_2:=fun v d _=>RpA K H' v d) (motive_3:=fun v d _=>RpK K H' v d) .non .bl .int .str (fun h _ r=> .lst (s.seq h) r) (fun h _ r=> .tup (s.tup h) r) (fun h _ r=> .dct (ku s h) r) (fun h r=> .exc (s _ _ h) r) .nil (fun _ _ a b=> .cons a b) .nil (fun _ _ a b=> .cons a b) h
theorem Rp.cold {v:V} {d:PyData} (h:Rp K H v d) (e:bH d=true):Rp K (tups H) v d:=Rp.rec (motive_1:=fun v d _=>bH d=true→Rp K (tups H) v d) (motive_2:=fun v d _=>aS d=true→RpA K (tups H) v d) (motive_3:=fun _ _ _=>True) (fun _=> .non) (fun b _=> .bl b) (fun i _=> .int i) (fun x _=> .str x) (fun _ _ _ e=>nomatch e) (fun h _ r e=> .tup (lx h) (r e)) (fun _ _ _ e=>nomatch e) (fun _ _ e=>nomatch e) (fun _=> .nil) (fun _ _ a b e=> .cons (a (Bool.and_eq_true_iff.mp e).1) (b (Bool.and_eq_true_iff.mp e).2)) trivial (fun _ _ _ _=>trivial) h e
theorem RpA.cold {v:List V} {d:List PyData} (h:RpA K H v d) (e:aS d=true):RpA K (tups H) v d:=RpA.rec (motive_1:=fun v d _=>bH d=true→Rp K (tups H) v d) (motive_2:=fun v d _=>aS d=true→RpA K (tups H) v d) (motive_3:=fun _ _ _=>True) (fun _=> .non) (fun b _=> .bl b) (fun i _=> .int i) (fun x _=> .str x) (fun _ _ _ e=>nomatch e) (fun h _ r e=> .tup (lx h) (r e)) (fun _ _ _ e=>nomatch e) (fun _ _ e=>nomatch e) (fun _=> .nil) (fun _ _ a b e=> .cons (a (Bool.and_eq_true_iff.mp e).1) (b (Bool.and_eq_true_iff.mp e).2)) trivial (fun _ _ _ _=>trivial) h e
theorem Rp.dof' {v:V} {d:PyData} (h:Rp K H v d) (e:d.canLay0=true):DOf K H v d:=Rp.rec (motive_1:=fun v d _=>d.canLay0=true→DOf K H v d) (motive_2:=fun v d _=>PyData.canLayAll0 d=true→DAll K H v d) (motive_3:=fun _ _ _=>True) (fun _=> .non) (fun b _=> .bl b) (fun i _=> .int i) (fun x _=> .str x) (fun h _ r e=> .lst h (r e)) (fun h _ r e=> .tup h (r e)) (fun _ _ _ e=>nomatch e) (fun _ _ e=>nomatch e) (fun _=> .nil) (fun _ _ a b e=> .cons (a (Bool.and_eq_true_iff.mp e).1) (b (Bool.and_eq_true_iff.mp e).2)) trivial (fun _ _ _ _=>trivial) h e
theorem Rp.dof {v:V} {d:PyData} (h:Rp K H v d) (e:SeqAt.shaped d=true):DOf K H v d:=h.dof' (SeqAt.canLay_of_shaped e)
theorem RpA.pr {vs:List V} {ds:List PyData} (h:RpA K H vs ds):Paired (Rp K H) vs ds:=RpA.rec (motive_1:=fun _ _ _=>True) (motive_2:=fun v d _=>Paired (Rp K H) v d) (motive_3:=fun _ _ _=>True) trivial (fun _=>trivial) (fun _=>trivial) (fun _=>trivial) (fun _ _ _=>trivial) (fun _ _ _=>trivial) (fun _ _ _=>trivial) (fun _ _=>trivial) .nil (fun h _ _ b=> .cons h b) trivial (fun _ _ _ _=>trivial) h
theorem RpA.of {vs:List V} {ds:List PyData} (h:Paired (Rp K H) vs ds):RpA K H vs ds:=by
  induction h with
  | nil=>exact .nil
  | cons a _ b=>exact .cons a b
theorem RpA.len {vs:List V} {ds:List PyData} (h:RpA K H vs ds):vs.length=ds.length:=Paired.length h.pr
theorem RpA.append {vs us:List V} {ds es:List PyData} (h:RpA K H vs ds) (k:RpA K H us es):RpA K H (vs++us) (ds++es):= .of (fG h.pr k.pr)
theorem RpA.take {vs:List V} {ds:List PyData} (n:Nat) (h:RpA K H vs ds):RpA K H (vs.take n) (ds.take n):= .of (nR n h.pr)
theorem RpA.drop {vs:List V} {ds:List PyData} (n:Nat) (h:RpA K H vs ds):RpA K H (vs.drop n) (ds.drop n):= .of (nS n h.pr)
theorem RpA.rev {vs:List V} {ds:List PyData} (h:RpA K H vs ds):RpA K H vs.reverse ds.reverse:= .of (fV h.pr)
theorem RpA.rep {vs:List V} {ds:List PyData} (n:Nat) (h:RpA K H vs ds):RpA K H (List.replicate n vs).flatten (List.replicate n ds).flatten:= .of (p5 h.pr n)
theorem RpA.get {vs:List V} {ds:List PyData} {i:Nat} {d:PyData} (h:RpA K H vs ds) (e:ds[i]? =some d):∃v,vs[i]? =some v∧Rp K H v d:=nT h.pr e
theorem RpA.set:∀{vs:List V} {ds:List PyData} {v:V} {d:PyData} (i:Nat),RpA K H vs ds→Rp K H v d→RpA K H (vs.set i v) (ds.set i d)
  | _,_,_,_,_, .nil,_=> .nil
  | _,_,_,_,0, .cons _ r,h=> .cons h r
  | _,_,_,_,i+1, .cons q r,h=> .cons q (RpA.set i r h)
theorem RpA.dropLast {vs:List V} {ds:List PyData} (h:RpA K H vs ds):RpA K H vs.dropLast ds.dropLast:=by
  rw [List.dropLast_eq_take,List.dropLast_eq_take,h.len]
  exact h.take _
theorem RpA.snoc {vs:List V} {ds:List PyData} {v:V} {d:PyData} (h:RpA K H vs ds) (k:Rp K H v d):RpA K H (vs++[v]) (ds++[d]):=h.append (.cons k .nil)
end
inductive Pt where
  | fl (d:PyData) | ol (ds:List PyData)
def Pt.val:Pt→PyData
  | .fl d=>d
  | .ol ds=> .list ds
inductive Sl where
  /-- nothing is known -/
  | no
  /-- never written again -/
  | sh (d:PyData)
  /-- a list of one's own -/
  | ow (ds:List PyData)
  /-- a dict of one's own,its values lists of one's own -/
  | od (kvs:List (cL×List PyData))
  /-- a tuple with lists of one's own -/
  | tx (ps:List Pt)
  /-- (a part of an expression) the value of a name -/
  | al (i:Nat)
  /-- (a part of an expression) as it stands just now -/
  | br (d:PyData)
def PtsOk (K:PySem.W.Frag) (F H:Hp):List V→List Pt→List Addr→Prop
  | [],[],A=>A=[]
  | v::vs, .fl d::ps,A=>Rp K F v d∧PtsOk K F H vs ps A
  | v::vs, .ol ds::ps,A=>∃l us A',v= .ref l∧A=l::A'∧H l=some (.lst us)∧RpA K F us ds∧PtsOk K F H vs ps A'
  | _,_,_=>False
def DlOk (K:PySem.W.Frag) (F H:Hp):List (cL×V)→List (cL×List PyData)→List Addr→Prop
  | [],[],A=>A=[]
  | p::us,q::kvs,A=>∃l vs A',p=(q.1, .ref l)∧A=l::A'∧H l=some (.lst vs)∧RpA K F vs q.2∧DlOk K F H us kvs A'
  | _,_,_=>False
def SlOk (K:PySem.W.Frag) (F H:Hp) (σ:L2.St) (o:Option V):Sl→List Addr→Prop
  | .no,A=>A=[]
  | .sh d,A=>A=[]∧∃v,o=some v∧Rp K F v d
  | .ow ds,A=>∃l vs,o=some (.ref l)∧A=[l]∧H l=some (.lst vs)∧RpA K F vs ds
  | .od kvs,A=>∃l us A',o=some (.ref l)∧A=l::A'∧H l=some (.dK us)∧DlOk K F H us kvs A'
  | .tx ps,A=>∃t vs,o=some (.ref t)∧F t=some (.tup vs)∧PtsOk K F H vs ps A
  | .al i,A=>A=[]∧∃v,o=some v∧σ[i]? =some (some v)
  | .br d,A=>A=[]∧∃v,o=some v∧Rp K H v d
def Sl.isBr:Sl→Bool
  | .br _=>true
  | _=>false
def Sl.isAl:Sl→Bool
  | .al _=>true
  | .br _=>true
  | _=>false
section
variable {K:PySem.W.Frag} {F F' H H':Hp} {σ σ':L2.St}
theorem PtsOk.stay (s:Same F F'):∀{vs:List V} {ps:List Pt} {A:List Addr},(∀b∈A,H' b=H b)→PtsOk K F H vs ps A→PtsOk K F' H' vs ps A
  | [],[],A,_,h=>h
  | v::vs, .fl d::ps,A,e,h=>⟨h.1.same s,PtsOk.stay s e h.2⟩
  | v::vs, .ol ds::ps,A,e,h=>by
    obtain ⟨l,us,A',rfl,rfl,hl,hr,q⟩:=h
    exact ⟨l,us,A',rfl,rfl,(e l (List.mem_cons_self ..)).trans hl,hr.same s,q.stay s fun b hb=>e b (List.mem_cons_of_mem _ hb)⟩
  | [],_::_,_,_,h=>False.elim h
  | _::_,[],_,_,h=>False.elim h
theorem DlOk.stay (s:Same F F'):∀{us:List (cL×V)} {kvs:List (cL×List PyData)} {A:List Addr},(∀b∈A,H' b=H b)→DlOk K F H us kvs A→DlOk K F' H' us kvs A
  | [],[],A,_,h=>h
  | p::us,q::kvs,A,e,h=>by
    obtain ⟨l,vs,A',rfl,rfl,hl,hr,k⟩:=h
    exact ⟨l,vs,A',rfl,rfl,(e l (List.mem_cons_self ..)).trans hl,hr.same s,k.stay s fun b hb=>e b (List.mem_cons_of_mem _ hb)⟩
  | [],_::_,_,_,h=>False.elim h
  | _::_,[],_,_,h=>False.elim h
theorem DlOk.some:∀{us:List (cL×V)} {kvs:List (cL×List PyData)} {A:List Addr},DlOk K F H us kvs A→∀a∈A,∃vs,H a=some (.lst vs)
  | [],[],A,h,a,ha=>by rw [show A=[] from h] at ha;cases ha
  | p::us,q::kvs,A,h,a,ha=>by
    obtain ⟨l,vs,A',rfl,rfl,hl,hr,k⟩:=h
    rcases List.mem_cons.mp ha with e | e
    · subst e;exact ⟨vs,hl⟩
    · exact k.some a e
  | [],_::_,_,h,_,_=>False.elim h
  | _::_,[],_,h,_,_=>False.elim h
theorem PtsOk.some:∀{vs:List V} {ps:List Pt} {A:List Addr},PtsOk K F H vs ps A→∀a∈A,∃us,H a=some (.lst us)
  | [],[],A,h,a,ha=>by rw [show A=[] from h] at ha;cases ha
  | v::vs, .fl d::ps,A,h,a,ha=>PtsOk.some h.2 a ha
  | v::vs, .ol ds::ps,A,h,a,ha=>by
    obtain ⟨l,us,A',rfl,rfl,hl,hr,q⟩:=h
    rcases List.mem_cons.mp ha with e | e
    · subst e;exact ⟨us,hl⟩
    · exact q.some a e
  | [],_::_,_,h,_,_=>False.elim h
  | _::_,[],_,h,_,_=>False.elim h
theorem PtsOk.rp (s:Same F H):∀{vs:List V} {ps:List Pt} {A:List Addr},PtsOk K F H vs ps A→RpA K H vs (ps.map Pt.val)
  | [],[],A,_=> .nil
  | v::vs, .fl d::ps,A,h=> .cons (h.1.same s) (PtsOk.rp s h.2)
  | v::vs, .ol ds::ps,A,h=>by
    obtain ⟨l,us,A',rfl,rfl,hl,hr,q⟩:=h
    exact .cons (.lst (SqL.of hl) (hr.same s)) (q.rp s)
  | [],_::_,_,h=>False.elim h
  | _::_,[],_,h=>False.elim h
theorem SlOk.stay {o:Option V} {s:Sl} {A:List Addr} (hF:Same F F') (e:∀b∈A,H' b=H b) (hb:s.isBr=true→Same H H') (h:SlOk K F H σ o s A):SlOk K F' H' σ o s A:=by
  cases s with
  | no=>exact h
  | sh d=>obtain ⟨rfl,v,rfl,r⟩:=h;exact ⟨rfl,v,rfl,r.same hF⟩
  | ow ds=>obtain ⟨l,vs,rfl,rfl,hl,r⟩:=h;exact ⟨l,vs,rfl,rfl,(e l (by simp)).trans hl,r.same hF⟩
  | od kvs=>obtain ⟨l,us,A',rfl,rfl,hl,r⟩:=h;exact ⟨l,us,A',rfl,rfl,(e l (by simp)).trans hl,r.stay hF fun b hb=>e b (List.mem_cons_of_mem _ hb)⟩
  | tx ps=>obtain ⟨t,vs,rfl,ht,r⟩:=h;exact ⟨t,vs,rfl,hF _ _ ht,r.stay hF e⟩
  | al i=>exact h
  | br d=>obtain ⟨rfl,v,rfl,r⟩:=h;exact ⟨rfl,v,rfl,r.same (hb rfl)⟩
theorem SlOk.mut {o:Option V} {s:Sl} {A:List Addr} (h:SlOk K F H σ o s A):∀a∈A,(∃us,H a=some (.lst us))∨∃us,H a=some (.dK us):=by
  cases s with
  | no=>intro a ha;rw [show A=[] from h] at ha;cases ha
  | sh d=>obtain ⟨rfl,_⟩:=h;intro a ha;cases ha
  | ow ds=>obtain ⟨l,vs,rfl,rfl,hl,r⟩:=h;intro a ha;rw [List.mem_singleton.mp ha];exact .inl ⟨_,hl⟩
  | od kvs=>
    obtain ⟨l,vs,A',rfl,rfl,hl,r⟩:=h
    intro a ha
    rcases List.mem_cons.mp ha with z | z
    · rw [z];exact .inr ⟨_,hl⟩
    · exact .inl (r.some a z)
  | tx ps=>obtain ⟨t,vs,rfl,ht,r⟩:=h;exact fun a ha=> .inl (r.some a ha)
  | al i=>obtain ⟨rfl,_⟩:=h;intro a ha;cases ha
  | br d=>obtain ⟨rfl,_⟩:=h;intro a ha;cases ha
end
inductive SAll (P:Option V→Sl→List Addr→Prop):List (Option V)→List Sl→List Addr→Prop
  | nil:SAll P [] [] []
  | cons {o:Option V} {s:Sl} {A:List Addr} {os:List (Option V)} {ss:List Sl} {B:List Addr}:P o s A→SAll P os ss B→SAll P (o::os) (s::ss) (A++B)
section
variable {P P':Option V→Sl→List Addr→Prop}
theorem SAll.len {os:List (Option V)} {ss:List Sl} {A:List Addr} (h:SAll P os ss A):os.length=ss.length:=by
  induction h with
  | nil=>rfl
  | cons _ _ b=>exact congrArg (· +1) b
theorem SAll.mono {os:List (Option V)} {ss:List Sl} {A:List Addr} (h:SAll P os ss A):(∀o s B,s∈ss→(∀b∈B,b∈A)→P o s B→P' o s B)→SAll P' os ss A:=by
  induction h with
  | nil=>exact fun _=> .nil
  | cons h _ r=>exact fun f=> .cons (f _ _ _ (List.mem_cons_self ..) (fun b hb=>List.mem_append_left _ hb) h) (r fun o s B hs hB q=>f o s B (List.mem_cons_of_mem _ hs) (fun b hb=>List.mem_append_right _ (hB b hb)) q)
theorem SAll.all {R:Addr→Prop} (hR:∀o s B,P o s B→∀b∈B,R b) {os:List (Option V)} {ss:List Sl} {A:List Addr} (h:SAll P os ss A):∀a∈A,R a:=by
  induction h with
  | nil=>exact fun _ ha=>nomatch ha
  | cons h _ r=>exact fun a ha=>(List.mem_append.mp ha).elim (hR _ _ _ h a) (r a)
theorem SAll.at:∀{os:List (Option V)} {ss:List Sl} {A:List Addr} {k:Nat} {s:Sl},SAll P os ss A→ss[k]? =some s→
    ∃o A0 A1 A2,A=A0++(A1++A2)∧os[k]? =some o∧P o s A1∧∀(P':Option V→Sl→List Addr→Prop) (o':Option V) (s':Sl) (A1':List Addr),P' o' s' A1'→
      (∀o s B,s∈ss→(∀b∈B,b∈A0∨b∈A2)→P o s B→P' o s B)→SAll P' (os.set k o') (ss.set k s') (A0++(A1'++A2))
  | _,_,_,_,_, .nil,e=>by simp at e
  | _,_,_,0,s, .cons (o:=o) (A:=A) (B:=B) h r,e=>by
    simp at e;subst e
    refine ⟨o,[],A,B,by simp,rfl,h,fun P' o' s' A1' h' f=>?_⟩
    have z:SAll P' _ _ (A1'++B):= .cons h' (r.mono (P':=P') fun o s B hs hB q=>f o s B (List.mem_cons_of_mem _ hs) (fun b hb=> .inr (hB b hb)) q)
    exact z
  | _,_,_,k+1,s, .cons (o:=o) (A:=A) (B:=B) h r,e=>by
    obtain ⟨o2,A0,A1,A2,eA,eo,hp,f⟩:=r.at (k:=k) (s:=s) (by simpa using e)
    subst eA
    refine ⟨o2,A++A0,A1,A2,by simp,by simpa using eo,hp,fun P' o' s' A1' h' g=>?_⟩
    have z:=f P' o' s' A1' h' fun o s B hs hB q=>g o s B (List.mem_cons_of_mem _ hs) (fun b hb=>(hB b hb).imp (fun x=>List.mem_append_right _ x) id) q
    rw [List.append_assoc]
    exact .cons (g _ _ _ (List.mem_cons_self ..) (fun b hb=> .inl (List.mem_append_left _ hb)) h) z
end
end PL
namespace PL
open PySem L2 Nh
abbrev Sg:=L2.St
structure FrF (K:PySem.W.Frag) (B F:Hp) (A:List Addr) (σ:Sg) (H:Hp) (E:List Sl) (xs:List V) (Xs:List Sl):Prop where
  bf:Same B F
  fh:Same F H
  tf:Same (tups H) F
  sl:SAll (SlOk K F H σ) (xs.map some++σ) (Xs++E) A
  nd:A.Nodup
  fr:∀a∈A,F a=none
  len:xs.length=Xs.length
  pl:∀s∈E,s.isAl=false
def Frm (K:PySem.W.Frag) (B:Hp) (σ:Sg) (H:Hp) (E:List Sl) (xs:List V) (Xs:List Sl):Prop:=∃F A,FrF K B F A σ H E xs Xs
def Sl.val:Sl→Option PyData
  | .sh d=>some d
  | .ow ds=>some (.list ds)
  | .tx ps=>some (.tuple (ps.map Pt.val))
  | .br d=>some d
  | _=>none
def look (E:List Sl):Sl→Option PyData
  | .al i=>(E[i]?).bind Sl.val
  | s=>s.val
def cG:Sl→Bool
  | .br _=>true
  | .tx _=>true
  | _=>false
def dA (E:List Sl):Sl→Bool
  | .al i=>(E[i]?).any cG
  | s=>cG s
def RpF (K:PySem.W.Frag) (F H:Hp) (v:V):PyData→Prop
  | .list ds=>∃a vs,v= .ref a∧SqL K H a vs∧RpA K F vs ds
  | d=>Rp K F v d
def lz (F H:Hp) (A:List Addr):Hp:=fun b=>if b∈A then H b else F b
theorem kw {F H:Hp} {A:List Addr} {b:Addr} (h:b∈A):lz F H A b=H b:=if_pos h
theorem iP {F H:Hp} {A:List Addr} {b:Addr} (h:b∉A):lz F H A b=F b:=if_neg h
section
variable {K:PySem.W.Frag} {B F:Hp} {A:List Addr} {σ:Sg} {H:Hp} {E:List Sl} {xs:List V} {Xs:List Sl} {v:V} {s:Sl} {d:PyData}
theorem RpF.of (h:Rp K F v d) (s:Same F H):RpF K F H v d:=by
  cases h with
  | lst h r=>exact ⟨_,_,rfl,s.seq h,r⟩
  | non=>exact .non
  | bl b=>exact .bl b
  | int i=>exact .int i
  | str x=>exact .str x
  | tup h r=>exact .tup h r
  | dct h r=>exact .dct h r
  | exc h r=>exact .exc h r
theorem SlOk.val {o:Option V} {A1:List Addr} (h:SlOk K F H σ o s A1) (hF:Same F H) (e:s.val=some d):∃v,o=some v∧Rp K H v d∧(cG s=false→RpF K F H v d):=by
  cases s with
  | no=>cases e
  | sh d'=>
    obtain ⟨rfl,v,rfl,r⟩:=h
    cases e
    exact ⟨v,rfl,r.same hF,fun _=>RpF.of r hF⟩
  | ow ds=>
    obtain ⟨l,vs,rfl,rfl,hl,r⟩:=h
    cases e
    exact ⟨_,rfl, .lst (SqL.of hl) (r.same hF),fun _=>⟨_,_,rfl,SqL.of hl,r⟩⟩
  | od kvs=>cases e
  | tx ps=>
    obtain ⟨t,vs,rfl,ht,r⟩:=h
    cases e
    exact ⟨_,rfl, .tup (SqT.of (hF _ _ ht)) (r.rp hF),fun z=>by cases z⟩
  | al i=>cases e
  | br d'=>
    obtain ⟨rfl,v,rfl,r⟩:=h
    cases e
    exact ⟨v,rfl,r,fun z=>by cases z⟩
theorem FrF.slen (h:FrF K B F A σ H E xs Xs):σ.length=E.length:=by
  have e:=h.sl.len
  have:=h.len
  simp only [List.length_append,List.length_map] at e
  omega
theorem FrF.var {i:Nat} (h:FrF K B F A σ H E xs Xs) (e:E[i]? =some s):∃o A1,σ[i]? =some o∧SlOk K F H σ o s A1:=by
  obtain ⟨o,A0,A1,A2,eA,eo,hp,_⟩:=h.sl.at (k:=Xs.length+i) (s:=s) (by rw [List.getElem?_append_right (by omega)];simpa using e)
  rw [List.getElem?_append_right (by rw [List.length_map,h.len];omega),List.length_map,h.len,Nat.add_sub_cancel_left] at eo
  exact ⟨o,A1,eo,hp⟩
theorem FrF.ext {k:Nat} (h:FrF K B F A σ H E xs Xs) (e:Xs[k]? =some s):∃v A1,xs[k]? =some v∧SlOk K F H σ (some v) s A1:=by
  have hk:k < Xs.length:=(List.getElem?_eq_some_iff.mp e).1
  obtain ⟨o,A0,A1,A2,eA,eo,hp,_⟩:=h.sl.at (k:=k) (s:=s) (by rw [List.getElem?_append_left hk];exact e)
  rw [List.getElem?_append_left (by rw [List.length_map,h.len];omega),List.getElem?_map] at eo
  cases q:xs[k]? with
  | none=>rw [q] at eo;cases eo
  | some v=>rw [q] at eo;cases eo;exact ⟨v,A1,rfl,hp⟩
theorem FrF.look {k:Nat} (h:FrF K B F A σ H E xs Xs) (e:Xs[k]? =some s) (q:look E s=some d):∃v,xs[k]? =some v∧Rp K H v d∧(dA E s=false→RpF K F H v d):=by
  obtain ⟨v,A1,ev,hs⟩:=h.ext e
  cases s with
  | al i=>
    obtain ⟨rfl,w,ew,hw⟩:=hs
    cases ew
    cases ei:E[i]? with
    | none=>simp [PL.look,ei] at q
    | some t=>
      obtain ⟨o,A2,eo,ht⟩:=h.var ei
      rw [hw] at eo
      cases eo
      obtain ⟨v',e',r,c⟩:=ht.val h.fh (d:=d) (by simpa [PL.look,ei] using q)
      cases e'
      exact ⟨v,ev,r,fun z=>c (by simpa [dA,ei] using z)⟩
  | no=>cases q
  | od kvs=>cases q
  | sh d'=>obtain ⟨v',e',r,c⟩:=hs.val h.fh q;cases e';exact ⟨v,ev,r,c⟩
  | ow ds=>obtain ⟨v',e',r,c⟩:=hs.val h.fh q;cases e';exact ⟨v,ev,r,c⟩
  | tx ps=>obtain ⟨v',e',r,c⟩:=hs.val h.fh q;cases e';exact ⟨v,ev,r,c⟩
  | br d'=>obtain ⟨v',e',r,c⟩:=hs.val h.fh q;cases e';exact ⟨v,ev,r,c⟩
theorem FrF.look0 (h:FrF K B F A σ H E (v::xs) (s::Xs)) (q:PL.look E s=some d):Rp K H v d∧(dA E s=false→RpF K F H v d):=by
  obtain ⟨v',e,r⟩:=h.look (k:=0) rfl q
  cases e
  exact r
theorem FrF.look1 {w:V} {t:Sl} (h:FrF K B F A σ H E (w::v::xs) (t::s::Xs)) (q:PL.look E s=some d):Rp K H v d∧(dA E s=false→RpF K F H v d):=by
  obtain ⟨v',e,r⟩:=h.look (k:=1) rfl q
  cases e
  exact r
theorem FrF.mutA (h:FrF K B F A σ H E xs Xs):∀a∈A,(∃us,H a=some (.lst us))∨∃us,H a=some (.dK us):=
  SAll.all (R:=fun a=>(∃us,H a=some (.lst us))∨∃us,H a=some (.dK us)) (fun _ _ _ q=>q.mut) h.sl
theorem FrF.newA {p:Addr} (h:FrF K B F A σ H E xs Xs) (hp:H p=none):p∉A:=fun hm=>by
  rcases h.mutA p hm with ⟨_,z⟩ | ⟨_,z⟩ <;> rw [hp] at z <;> cases z
theorem FrF.cold {u:V} {e:PyData} (h:FrF K B F A σ H E xs Xs) (r:Rp K H u e) (f:bH e=true):Rp K F u e:=(r.cold f).same h.tf
theorem FrF.coldA {us:List V} {es:List PyData} (h:FrF K B F A σ H E xs Xs) (r:RpA K H us es) (f:aS es=true):RpA K F us es:=(r.cold f).same h.tf
theorem FrF.push (h:FrF K B F A σ H E xs Xs) (q:SlOk K F H σ (some v) s []):FrF K B F A σ H E (v::xs) (s::Xs):=
  ⟨h.bf,h.fh,h.tf, .cons (A:=[]) q h.sl,h.nd,h.fr,by simp [h.len],h.pl⟩
theorem FrF.pop (h:FrF K B F A σ H E (v::xs) (s::Xs)):∃A',FrF K B F A' σ H E xs Xs:=by
  obtain ⟨bf,fh,tf,sl,nd,fr,len,pl⟩:=h
  generalize hT:List.map some (v::xs)++σ=T at sl
  generalize hS:(s::Xs)++E=S at sl
  cases sl with
  | nil=>cases hS
  | cons q r=>
    injection hT with _ hT
    injection hS with _ hS
    subst hT hS
    exact ⟨_,bf,fh,tf,r,(List.nodup_append.mp nd).2.1,fun a ha=>fr a (List.mem_append_right _ ha),by simpa using len,pl⟩
theorem FrF.grow {H':Hp} (h:FrF K B F A σ H E xs Xs) (g:Same H H'):FrF K B (fun b=>if b∈A then none else H' b) A σ H' E xs Xs:=by
  have nF:∀b o,F b=some o→b∉A:=fun b o e hb=>by rw [h.fr b hb] at e;cases e
  have FF:Same F (fun b=>if b∈A then none else H' b):=fun b o e=>by
    show (if b∈A then none else H' b)=some o
    rw [if_neg (nF b o e)]
    exact g _ _ (h.fh _ _ e)
  have hA:∀b∈A,H' b=H b:=fun b hb=>by
    rcases h.mutA b hb with ⟨_,z⟩ | ⟨_,z⟩ <;> rw [z,g _ _ z]
  refine ⟨h.bf.trans FF,fun b o e=>?_,fun b o e=>?_,h.sl.mono fun o s C _ hC q=>q.stay FF (fun b hb=>hA b (hC b hb)) fun _=>g,h.nd,fun a ha=>if_pos ha,h.len,h.pl⟩
  · by_cases hb:b∈A
    · rw [if_pos hb] at e;cases e
    · rw [if_neg hb] at e;exact e
  · obtain ⟨e1,e2⟩:=Option.filter_eq_some_iff.mp e
    show (if b∈A then none else H' b)=some o
    by_cases hb:b∈A
    · rw [hA b hb] at e1
      rcases h.mutA b hb with ⟨_,z⟩ | ⟨_,z⟩ <;> rw [z] at e1 <;> cases e1 <;> cases e2
    · rw [if_neg hb];exact e1
theorem FrF.newl {p:Addr} {vs:List V} {ds:List PyData} (h:FrF K B F A σ H E xs Xs) (r:RpA K F vs ds) (hp:H p=none):FrF K B F (p::A) σ (upd H p (.lst vs)) E (.ref p::xs) (.ow ds::Xs):=by
  have g:Same H (upd H p (.lst vs)):=d4 hp _
  have nA:=h.newA hp
  refine ⟨h.bf,h.fh.trans g,fun b o e=>?_, .cons (A:=[p]) ⟨p,vs,rfl,rfl,bg,r⟩ (h.sl.mono fun o s C _ hC q=>q.stay (Same.refl _) (fun b hb=>aC fun z=>nA (z▸hC b hb)) fun _=>g),List.nodup_cons.mpr ⟨nA,h.nd⟩,fun a ha=>?_,by simp [h.len],h.pl⟩
  · obtain ⟨e1,e2⟩:=Option.filter_eq_some_iff.mp e
    by_cases hb:b=p
    · subst hb;rw [bg] at e1;cases e1;cases e2
    · rw [aC hb] at e1;exact h.tf b o (gr e1 e2)
  · rcases List.mem_cons.mp ha with z | z
    · subst z;exact h.fh.free hp
    · exact h.fr a z
theorem FrF.newt {p:Addr} {vs:List V} {ds:List PyData} (h:FrF K B F A σ H E xs Xs) (r:RpA K F vs ds) (hp:H p=none):FrF K B (upd F p (.tup vs)) A σ (upd H p (.tup vs)) E (.ref p::xs) (.sh (.tuple ds)::Xs):=by
  have g:Same H (upd H p (.tup vs)):=d4 hp _
  have nA:=h.newA hp
  have gF:Same F (upd F p (.tup vs)):=d4 (h.fh.free hp) _
  refine ⟨h.bf.trans gF,fun b o e=>?_,fun b o e=>?_, .cons (A:=[]) ⟨rfl,_,rfl, .tup (.inl (.inl bg)) (r.same gF)⟩ (h.sl.mono fun o s C _ hC q=>q.stay gF (fun b hb=>aC fun z=>nA (z▸hC b hb)) fun _=>g),h.nd,fun a ha=>?_,by simp [h.len],h.pl⟩
  · by_cases hb:b=p
    · subst hb;rw [bg] at e ⊢;exact e
    · rw [aC hb] at e ⊢;exact h.fh _ _ e
  · obtain ⟨e1,e2⟩:=Option.filter_eq_some_iff.mp e
    by_cases hb:b=p
    · subst hb;rw [bg] at e1 ⊢;exact e1
    · rw [aC hb] at e1 ⊢;exact h.tf b o (gr e1 e2)
  · have ne:a≠p:=fun z=>nA (z▸ha)
    rw [aC ne];exact h.fr a ha
theorem FrF.mut {i:Nat} {ds:List PyData} (h:FrF K B F A σ H E xs Xs) (e:E[i]? =some (.ow ds)) (c:∀s∈Xs,s.isBr=false):
    ∃l vs,σ[i]? =some (some (.ref l))∧H l=some (.lst vs)∧RpA K F vs ds∧∀vs' ds',RpA K F vs' ds'→FrF K B F A σ (upd H l (.lst vs')) (E.set i (.ow ds')) xs Xs:=by
  obtain ⟨o,A0,A1,A2,eA,eo,hp,put⟩:=h.sl.at (k:=Xs.length+i) (s:= .ow ds) (by rw [List.getElem?_append_right (by omega)];simpa using e)
  rw [List.getElem?_append_right (by rw [List.length_map,h.len];omega),List.length_map,h.len,Nat.add_sub_cancel_left] at eo
  obtain ⟨l,vs,rfl,rfl,hl,r⟩:=hp
  refine ⟨l,vs,eo,hl,r,fun vs' ds' r'=>?_⟩
  have hlA:l∈A:=by rw [eA];simp
  have nl:∀b,b∈A0∨b∈A2→b≠l:=fun b hb z=>by
    subst z
    have nd:=h.nd
    rw [eA] at nd
    rcases hb with hb | hb
    · exact (List.nodup_append.mp nd).2.2 b hb b (by simp) rfl
    · exact (List.nodup_append.mp (List.nodup_append.mp nd).2.1).2.2 b (by simp) b hb rfl
  have lF:F l=none:=h.fr l hlA
  have z:=put (SlOk K F (upd H l (.lst vs')) σ) (some (.ref l)) (.ow ds') [l] ⟨l,vs',rfl,rfl,bg,r'⟩ fun o s C hs hC q=>q.stay (Same.refl _) (fun b hb=>aC (nl b (hC b hb))) fun z=>by
    rcases List.mem_append.mp hs with hs | hs
    · rw [c s hs] at z;cases z
    · have:=h.pl s hs
      cases s <;> simp [Sl.isAl,Sl.isBr] at this z
  have e3:(Xs++E).set (Xs.length+i) (.ow ds')=Xs++E.set i (.ow ds'):=by
    rw [List.set_append_right _ _ (by omega),Nat.add_sub_cancel_left]
  have e2:(List.map some xs++σ).set (Xs.length+i) (some (V.ref l))=List.map some xs++σ:=by
    rw [←h.len,List.set_append_right _ _ (by rw [List.length_map];omega),List.length_map,Nat.add_sub_cancel_left]
    congr 1
    exact List.ext_getElem? fun j=>by
      by_cases hj:i=j
      · subst hj
        rw [List.getElem?_set_self',eo];rfl
      · rw [List.getElem?_set_ne hj]
  rw [e2,e3,←eA] at z
  refine ⟨h.bf,fun b o q=>?_,?_,z,h.nd,h.fr,h.len,fun s hs=>?_⟩
  · rw [aC (fun z=>by rw [z,lF] at q;cases q)]
    exact h.fh _ _ q
  · rw [lv hl];exact h.tf
  · rcases List.mem_or_eq_of_mem_set hs with hs | hs
    · exact h.pl s hs
    · subst hs;rfl
theorem FrF.frzAt {k:Nat} (h:FrF K B F A σ H E xs Xs) (e:(Xs++E)[k]? =some s) (q:s.val=some d) (c:s.isAl=false):
    ∃F' A' v,(xs.map some++σ)[k]? =some (some v)∧Rp K F' v d∧Same B F'∧Same F' H∧Same (tups H) F'∧SAll (SlOk K F' H σ) (xs.map some++σ) ((Xs++E).set k (.sh d)) A'∧A'.Nodup∧∀a∈A',F' a=none:=by
  obtain ⟨o,A0,A1,A2,eA,eo,hp,put⟩:=h.sl.at e
  have nd:=h.nd
  rw [eA] at nd
  have nA1:∀b o,F b=some o→b∉A1:=fun b o e hb=>by
    have:=h.fr b (by rw [eA];simp [hb])
    rw [this] at e;cases e
  have FF:Same F (lz F H A1):=fun b o e=>by rw [iP (nA1 b o e)];exact e
  obtain ⟨v,rfl,r⟩:∃v,o=some v∧Rp K (lz F H A1) v d:=by
    cases s with
    | no=>cases q
    | od kvs=>cases q
    | al i=>cases c
    | br d'=>cases c
    | sh d'=>
      obtain ⟨rfl,v,rfl,r⟩:=hp
      cases q
      exact ⟨v,rfl,r.same FF⟩
    | ow ds=>
      obtain ⟨l,vs,rfl,rfl,hl,r⟩:=hp
      cases q
      exact ⟨_,rfl, .lst (SqL.of ((kw (by simp)).trans hl)) (r.same FF)⟩
    | tx ps=>
      obtain ⟨t,vs,rfl,ht,r⟩:=hp
      cases q
      refine ⟨_,rfl, .tup (SqT.of (FF _ _ ht)) ?_⟩
      have r':PtsOk K (lz F H A1) (lz F H A1) vs ps A1:=r.stay FF fun b hb=>kw hb
      exact r'.rp (Same.refl _)
  have e2:(List.map some xs++σ).set k (some v)=List.map some xs++σ:=List.ext_getElem? fun j=>by
    by_cases hj:k=j
    · subst hj
      rw [List.getElem?_set_self',eo];rfl
    · rw [List.getElem?_set_ne hj]
  have z:=put (SlOk K (lz F H A1) H σ) (some v) (.sh d) [] ⟨rfl,v,rfl,r⟩ fun o s C _ hC q=>q.stay FF (fun b _=>rfl) fun _=>Same.refl _
  rw [e2] at z
  refine ⟨lz F H A1,A0++A2,v,eo,r,h.bf.trans FF,fun b o e=>?_,fun b o e=>FF _ _ (h.tf _ _ e),by simpa using z,?_,fun a ha=>?_⟩
  · by_cases hb:b∈A1
    · rw [kw hb] at e;exact e
    · rw [iP hb] at e;exact h.fh _ _ e
  · exact List.Nodup.sublist (List.Sublist.append (List.Sublist.refl _) (List.sublist_append_right _ _)) nd
  · have hn:a∉A1:=fun hm=>by
      rcases List.mem_append.mp ha with z | z
      · exact (List.nodup_append.mp nd).2.2 a z a (by simp [hm]) rfl
      · exact (List.nodup_append.mp (List.nodup_append.mp nd).2.1).2.2 a hm a z rfl
    rw [iP hn]
    exact h.fr a (by rw [eA];rcases List.mem_append.mp ha with z | z <;> simp [z])
end
def frz (E:List Sl):Sl→Option (PyData×List Sl)
  | .sh d=>some (d,E)
  | .ow ds=>some (.list ds,E)
  | .tx ps=>some (.tuple (ps.map Pt.val),E)
  | .br d=>if bH d then some (d,E) else none
  | .al i=>match E[i]? with
    | some (.sh d)=>some (d,E)
    | some (.ow ds)=>some (.list ds,E.set i (.sh (.list ds)))
    | some (.tx ps)=>some (.tuple (ps.map Pt.val),E.set i (.sh (.tuple (ps.map Pt.val))))
    | _=>none
  | _=>none
section
variable {K:PySem.W.Frag} {B F:Hp} {A:List Addr} {σ:Sg} {H:Hp} {E E':List Sl} {xs:List V} {Xs:List Sl} {v:V} {s:Sl} {d:PyData}
theorem FrF.frzVar {i:Nat} (h:FrF K B F A σ H E xs Xs) (e:E[i]? =some s) (q:s.val=some d):∃F' A' v,σ[i]? =some (some v)∧Rp K F' v d∧FrF K B F' A' σ H (E.set i (.sh d)) xs Xs:=by
  obtain ⟨F',A',v,ev,r,b1,b2,b3,sl,nd,fr⟩:=h.frzAt (k:=Xs.length+i) (by rw [List.getElem?_append_right (by omega)];simpa using e) q (h.pl s (List.mem_of_getElem? e))
  rw [List.getElem?_append_right (by rw [List.length_map,h.len];omega),List.length_map,h.len,Nat.add_sub_cancel_left] at ev
  have e3:(Xs++E).set (Xs.length+i) (.sh d)=Xs++E.set i (.sh d):=by
    rw [List.set_append_right _ _ (by omega),Nat.add_sub_cancel_left]
  rw [e3] at sl
  refine ⟨F',A',v,ev,r,b1,b2,b3,sl,nd,fr,h.len,fun s hs=>?_⟩
  rcases List.mem_or_eq_of_mem_set hs with hs | hs
  · exact h.pl s hs
  · subst hs;rfl
theorem FrF.frz0 (h:FrF K B F A σ H E (v::xs) (s::Xs)) (q:PL.frz E s=some (d,E')):∃F' A',FrF K B F' A' σ H E' (v::xs) (.sh d::Xs):=by
  have key:s.val=some d→s.isAl=false→E=E'→∃F' A',FrF K B F' A' σ H E' (v::xs) (.sh d::Xs):=fun q' c e=>by
    subst e
    obtain ⟨F',A',v',ev,r,b1,b2,b3,sl,nd,fr⟩:=h.frzAt (k:=0) rfl q' c
    exact ⟨F',A',b1,b2,b3,sl,nd,fr,by simpa using h.len,h.pl⟩
  have al:∀i t,s= .al i→E[i]? =some t→t.val=some d→E'=E.set i (.sh d)→∃F' A',FrF K B F' A' σ H E' (v::xs) (.sh d::Xs):=fun i t es ei qt eE=>by
    subst es eE
    obtain ⟨v',A1,ev,hs⟩:=h.ext (k:=0) rfl
    cases ev
    obtain ⟨rfl,w,ew,hw⟩:=hs
    cases ew
    obtain ⟨F',A',w,ew,r,h'⟩:=h.frzVar ei qt
    rw [hw] at ew
    cases ew
    obtain ⟨A2,h2⟩:=h'.pop
    exact ⟨F',A2,h2.push ⟨rfl,_,rfl,r⟩⟩
  cases s with
  | no=>cases q
  | od kvs=>cases q
  | sh d'=>cases q;exact key rfl rfl rfl
  | ow ds=>cases q;exact key rfl rfl rfl
  | tx ps=>cases q;exact key rfl rfl rfl
  | br d'=>
    simp only [PL.frz] at q
    split at q
    · rename_i hf
      cases q
      obtain ⟨r,_⟩:=h.look0 (d:=d) rfl
      obtain ⟨A2,h2⟩:=h.pop
      exact ⟨F,A2,h2.push ⟨rfl,_,rfl,h.cold r hf⟩⟩
    · cases q
  | al i=>
    simp only [PL.frz] at q
    split at q
    · rename_i d' ei
      cases q
      refine al i _ rfl ei rfl ?_
      exact List.ext_getElem? fun j=>by
        by_cases hj:i=j
        · subst hj;rw [List.getElem?_set_self',ei];rfl
        · rw [List.getElem?_set_ne hj]
    · rename_i ds ei
      cases q
      exact al i _ rfl ei rfl rfl
    · rename_i ps ei
      cases q
      exact al i _ rfl ei rfl rfl
    · cases q
theorem FrF.store {i:Nat} (h:FrF K B F A σ H E (v::xs) (s::Xs)) (c:s.isAl=false) (cx:∀s∈Xs,s.isAl=false) (hi:i < E.length):∃A',FrF K B F A' (σ.set i (some v)) H (E.set i s) xs Xs:=by
  have hlen:=h.len
  have hsl:=h.slen
  obtain ⟨bf,fh,tf,sl,nd,fr,len,pl⟩:=h
  generalize hT:List.map some (v::xs)++σ=T at sl
  generalize hS:(s::Xs)++E=S at sl
  cases sl with
  | nil=>cases hS
  | cons q r=>
    rename_i A1 _ _ A2
    injection hT with h1 hT
    injection hS with h2 hS
    subst h1 h2 hT hS
    have len':xs.length=Xs.length:=by simpa using len
    have r:SAll (SlOk K F H σ) (List.map some xs++σ) (Xs++E) A2:=r
    obtain ⟨t,et⟩:∃t,E[i]? =some t:=⟨E[i],List.getElem?_eq_getElem hi⟩
    obtain ⟨o,C0,C1,C2,eA,eo,hp,put⟩:=r.at (k:=Xs.length+i) (s:=t) (by rw [List.getElem?_append_right (by omega)];simpa using et)
    have all:∀s'∈Xs++E,s'.isAl=false:=fun s' hs=>(List.mem_append.mp hs).elim (cx s') (pl s')
    have chg:∀(o:Option V) (s':Sl) (C:List Addr),s'.isAl=false→SlOk K F H σ o s' C→SlOk K F H (σ.set i (some v)) o s' C:=fun o s' C hc z=>by
      cases s' <;> first | exact z | cases hc
    have z:=put (SlOk K F H (σ.set i (some v))) (some v) s A1 (chg _ _ _ c q) fun o s' C hs _ z=>chg o s' C (all s' hs) z
    have e3:(Xs++E).set (Xs.length+i) s=Xs++E.set i s:=by
      rw [List.set_append_right _ _ (by omega),Nat.add_sub_cancel_left]
    have e2:(List.map some xs++σ).set (Xs.length+i) (some v)=List.map some xs++σ.set i (some v):=by
      rw [←len',List.set_append_right _ _ (by rw [List.length_map];omega),List.length_map,Nat.add_sub_cancel_left]
    rw [e2,e3] at z
    refine ⟨_,bf,fh,tf,z,?_,fun a ha=>fr a ?_,len',fun s' hs=>?_⟩
    · rw [eA] at nd
      have p:(C0++(A1++C2)).Perm (A1++(C0++C2)):=by
        rw [←List.append_assoc,←List.append_assoc]
        exact List.Perm.append_right _ List.perm_append_comm
      refine p.nodup_iff.mpr (List.Nodup.sublist ?_ nd)
      exact List.Sublist.append (List.Sublist.refl _) (List.Sublist.append (List.Sublist.refl _) (List.sublist_append_right _ _))
    · rw [eA]
      simp only [List.mem_append] at ha ⊢
      rcases ha with z | z | z
      · exact .inr (.inl z)
      · exact .inl z
      · exact .inr (.inr (.inr z))
    · rcases List.mem_or_eq_of_mem_set hs with hs | hs
      · exact pl s' hs
      · subst hs;exact c
end
end PL
namespace PL
open PySem L2 Nh
abbrev bP:=List Sl→Option (Sl×List Sl)
abbrev hW:=List Sl→Option (Bool×List Sl)
abbrev kY:=List Sl→Option (List Sl×List Sl)
abbrev gS:=List Sl→Option (List PyData×List Sl)
inductive Fl where
  | nx | bk | ct | rt (r:Sl)
abbrev b_:=List Sl→Option (List Sl×Fl)
abbrev Calm (Xs:List Sl):Prop:=∀s∈Xs,s.isBr=false
abbrev Still (Xs:List Sl):Prop:=∀s∈Xs,s.isAl=false
theorem Still.calm {Xs:List Sl} (h:Still Xs):Calm Xs:=fun s hs=>by
  have:=h s hs
  cases s <;> simp [Sl.isAl,Sl.isBr] at this ⊢
theorem Still.nil {Xs:List Sl} (h:Xs=[]):Still Xs:=fun s hs=>by subst h;cases hs
theorem Calm.nil {Xs:List Sl} (h:Xs=[]):Calm Xs:=(Still.nil h).calm
theorem Calm.cons {Xs:List Sl} {s:Sl} (h:Calm Xs) (hs:s.isBr=false):Calm (s::Xs):=fun t ht=>(List.mem_cons.mp ht).elim (fun e=>e▸hs) (h t)
def rd (K:PySem.W.Frag) (m:Bool) (f:bP):TE:=fun σ H Q=>∃B E xs Xs r E',Frm K B σ H E xs Xs∧(m=true→Calm Xs)∧f E=some (r,E')∧∀v H',Frm K B σ H' E' (v::xs) (r::Xs)→Q v H'
def rt (K:PySem.W.Frag) (m:Bool) (f:hW):TT:=fun σ H Q=>∃B E xs Xs b E',Frm K B σ H E xs Xs∧(m=true→Calm Xs)∧f E=some (b,E')∧∀H',Frm K B σ H' E' xs Xs→Q b H'
def ra (K:PySem.W.Frag) (m:Bool) (f:kY):TA:=fun σ H Q=>∃B E xs Xs rs E',Frm K B σ H E xs Xs∧(m=true→Calm Xs)∧f E=some (rs,E')∧∀vs H',vs.length=rs.length→Frm K B σ H' E' (vs.reverse++xs) (rs.reverse++Xs)→Q vs H'
def yy (K:PySem.W.Frag) (m:Bool) (f:gS):TA:=fun σ H Q=>∃B E xs Xs ds E',Frm K B σ H E xs Xs∧(m=true→Calm Xs)∧f E=some (ds,E')∧∀vs H',vs.length=ds.length→Frm K B σ H' E' (vs.reverse++xs) (ds.reverse.map .sh++Xs)→Q vs H'
def rs (K:PySem.W.Frag) (g:b_):TS:=fun D σ H=>∃B E xs Xs E' fl,Frm K B σ H E xs Xs∧Xs=[]∧g E=some (E',fl)∧match fl with
  | .nx=>∀σ' H',Frm K B σ' H' E' xs Xs→D.nx σ' H'
  | .bk=>∀σ' H',Frm K B σ' H' E' xs Xs→D.bk σ' H'
  | .ct=>∀σ' H',Frm K B σ' H' E' xs Xs→D.ct σ' H'
  | .rt r=>∀σ' v H',Frm K B σ' H' E' (v::xs) (r::Xs)→D.rt v H'
def EX (X:Cx) (e:Expr) (m:Bool) (f:bP):Prop:=PE X e (rd X.K m f)
def TX (X:Cx) (e:Expr) (m:Bool) (f:hW):Prop:=PT X e (rt X.K m f)
def WX (X:Cx) (e:Expr) (m:Bool) (f:hW):Prop:=PW X e (rt X.K m f)
def AX (X:Cx) (es:List Expr) (m:Bool) (f:kY):Prop:=PA X es (ra X.K m f)
def DX (X:Cx) (es:List Expr) (m:Bool) (f:gS):Prop:=PA X es (yy X.K m f)
def SX (X:Cx) (s:Stmt) (g:b_):Prop:=PS X s (rs X.K g)
def oJ (X:Cx) (s:List Stmt) (g:b_):Prop:=PSs X s (rs X.K g)
section
variable {X:Cx}
theorem aW {e:Expr} {t t':TE} (h:PE X e t) (k:∀σ H Q,t' σ H Q→t σ H Q):PE X e t':=fun pins s σ H Q I q=>h pins s σ H Q I (k σ H Q q)
theorem mP {e:Expr} {t t':TT} (h:PT X e t) (k:∀σ H Q,t' σ H Q→t σ H Q):PT X e t':=fun pins s σ H Q I q=>h pins s σ H Q I (k σ H Q q)
theorem p7 {e:Expr} {t t':TT} (h:PW X e t) (k:∀σ H Q,t' σ H Q→t σ H Q):PW X e t':=fun whole pins s σ H Q I q=>h whole pins s σ H Q I (k σ H Q q)
theorem kx {es:List Expr} {t t':TA} (h:PA X es t) (k:∀σ H Q,t' σ H Q→t σ H Q):PA X es t':=fun pos pins s σ H Q I q=>h pos pins s σ H Q I (k σ H Q q)
theorem gT {st:Stmt} {t t':TS} (h:PS X st t) (k:∀D σ H,t' D σ H→t D σ H):PS X st t':=fun pins s σ H D I q=>h pins s σ H D I (k D σ H q)
theorem nU {st:List Stmt} {t t':TS} (h:PSs X st t) (k:∀D σ H,t' D σ H→t D σ H):PSs X st t':=fun pins s σ H D I q=>h pins s σ H D I (k D σ H q)
end
def tY:PyData→Option V
  | .none=>some .non
  | .bool b=>some (.bl b)
  | .int i=>some (.int i)
  | .str x=>some (.str x)
  | _=>none
theorem iQ {K:PySem.W.Frag} {H:Hp} {d:PyData} {v:V} (h:tY d=some v):Rp K H v d:=by
  cases d <;> simp [tY] at h <;> subst h <;> constructor
def ad (i:Nat):bP:=fun E=>match E[i]? with
  | some (.sh d)=>some (.sh d,E)
  | some (.ow _)=>some (.al i,E)
  | some (.od _)=>some (.al i,E)
  | some (.tx _)=>some (.al i,E)
  | _=>none
def pC (d:PyData):bP:=fun E=>some (.sh d,E)
section
variable {X:Cx} {K:PySem.W.Frag}
theorem aa (i:Nat) {x:Str} {pos:Pos} (hN:X.N[i]? =some x:=by rfl) (hv:tT X.env.scope x:=by first | exact Or.inl rfl | exact Or.inr (Or.inl rfl) | exact Or.inr (Or.inr rfl)) (hd:(x == ("__debug__":Str))=false:=by decide)
    (hcd:(x == ("__classdict__":Str))=false:=by decide):EX X (.Name x pos) false (ad i):=by
  refine aW (gN hN hv hd hcd) fun σ H Q h=>?_
  obtain ⟨B,E,xs,Xs,r,E',⟨F,A,fr⟩,_,e,q⟩:=h
  unfold ad at e
  split at e
  · rename_i d ei
    cases e
    obtain ⟨o,A1,eo,rfl,v,rfl,rp⟩:=fr.var ei
    exact ⟨v,eo,q v H ⟨F,A,fr.push ⟨rfl,v,rfl,rp⟩⟩⟩
  · rename_i ds ei
    cases e
    obtain ⟨o,A1,eo,l,vs,rfl,_⟩:=fr.var ei
    exact ⟨_,eo,q _ H ⟨F,A,fr.push ⟨rfl,_,rfl,eo⟩⟩⟩
  · rename_i ds ei
    cases e
    obtain ⟨o,A1,eo,l,vs,A2,rfl,_⟩:=fr.var ei
    exact ⟨_,eo,q _ H ⟨F,A,fr.push ⟨rfl,_,rfl,eo⟩⟩⟩
  · rename_i ds ei
    cases e
    obtain ⟨o,A1,eo,l,vs,rfl,_⟩:=fr.var ei
    exact ⟨_,eo,q _ H ⟨F,A,fr.push ⟨rfl,_,rfl,eo⟩⟩⟩
  · cases e
theorem sg {e:Expr} {v:V} (d:PyData) (h:PE X e (tC v)) (hd:tY d=some v:=by rfl):EX X e false (pC d):=by
  refine aW h fun σ H Q h=>?_
  obtain ⟨B,E,xs,Xs,r,E',⟨F,A,fr⟩,_,e,q⟩:=h
  cases e
  exact q v H ⟨F,A,fr.push ⟨rfl,v,rfl,iQ hd⟩⟩
theorem ao {i j pos}:EX X (.Constant (.int i) j pos) false (pC (.int i)):=sg _ uk
theorem gs {b j pos}:EX X (.Constant (.bool b) j pos) false (pC (.bool b)):=sg _ pE
theorem uW {j pos}:EX X (.Constant .none j pos) false (pC .none):=sg _ ul
theorem aT {x j pos}:EX X (.Constant (.str x) j pos) false (pC (.str x)):=sg _ mB
end
abbrev P2:=List Sl→Sl→Sl→Option (Sl×List Sl)
def fe (K:PySem.W.Frag) (r:R2) (p:P2):Prop:=∀{B F:Hp} {A:List Addr} {σ:Sg} {H:Hp} {E:List Sl} {xs:List V} {Xs:List Sl} {v1 v2:V} {s1 s2 res:Sl} {E':List Sl} {Q:VK},
  FrF K B F A σ H E (v2::v1::xs) (s2::s1::Xs)→p E s1 s2=some (res,E')→(∀v H',Frm K B σ H' E' (v::xs) (res::Xs)→Q v H')→r v1 v2 H Q
def ag (p:P2) (m2:Bool) (f g:bP):bP:=fun E=>(f E).bind fun a=>if m2&&a.1.isBr then none else (g a.2).bind fun b=>p b.2 a.1 b.1
theorem ky {K:PySem.W.Frag} {r:R2} {p:P2} (hp:fe K r p) {m1 m2:Bool} {f g:bP} {σ:Sg} {H:Hp} {Q:VK} (h:rd K (m1||m2) (ag p m2 f g) σ H Q):v4 r (rd K m1 f) (rd K m2 g) σ H Q:=by
  obtain ⟨B,E,xs,Xs,res,E',fr,c,e,q⟩:=h
  obtain ⟨⟨s1,E1⟩,e1,e⟩:=Option.bind_eq_some_iff.mp e
  by_cases hb:(m2&&s1.isBr)=true
  · rw [if_pos hb] at e;cases e
  rw [if_neg hb] at e
  obtain ⟨⟨s2,E2⟩,e2,e⟩:=Option.bind_eq_some_iff.mp e
  refine ⟨B,E,xs,Xs,s1,E1,fr,fun z=>c (by simp [z]),e1,fun v1 H1 fr1=>?_⟩
  refine ⟨B,E1,v1::xs,s1::Xs,s2,E2,fr1,fun z=>?_,e2,fun v2 H2 fr2=>?_⟩
  · refine Calm.cons (c (by simp [z])) ?_
    cases hs:s1.isBr with
    | false=>rfl
    | true=>exact absurd (by simp [z,hs]) hb
  · obtain ⟨F,A,fr2⟩:=fr2
    exact hp fr2 e q
def da (op:PyData→PyData→Option PyData):P2:=fun E s1 s2=>(look E s1).bind fun d1=>(look E s2).bind fun d2=>(op d1 d2).map fun d=>(.sh d,E)
theorem FrF.res2 {K:PySem.W.Frag} {B F:Hp} {A:List Addr} {σ:Sg} {H:Hp} {E:List Sl} {xs:List V} {Xs:List Sl} {v1 v2 v:V} {s1 s2 s:Sl} (h:FrF K B F A σ H E (v2::v1::xs) (s2::s1::Xs)) (q:SlOk K F H σ (some v) s []):Frm K B σ H E (v::xs) (s::Xs):=by
  obtain ⟨A1,h⟩:=h.pop
  obtain ⟨A2,h⟩:=h.pop
  exact ⟨F,A2,h.push q⟩
theorem iR {K:PySem.W.Frag} {r:R2} {op:PyData→PyData→Option PyData} (h:∀(d1 d2 d:PyData) (v1 v2:V) (H:Hp) (Q:VK),op d1 d2=some d→Rp K H v1 d1→Rp K H v2 d2→∃v,tY d=some v∧(Q v H→r v1 v2 H Q)):fe K r (da op):=by
  intro B F A σ H E xs Xs v1 v2 s1 s2 res E' Q fr e q
  obtain ⟨d1,e1,e⟩:=Option.bind_eq_some_iff.mp e
  obtain ⟨d2,e2,e⟩:=Option.bind_eq_some_iff.mp e
  obtain ⟨d,e3,e⟩:=Option.map_eq_some_iff.mp e
  cases e
  obtain ⟨v,hv,k⟩:=h d1 d2 d v1 v2 H Q e3 (fr.look1 e1).1 (fr.look0 e2).1
  exact k (q v H (fr.res2 ⟨rfl,v,rfl,iQ hv⟩))
section
variable {X:Cx} {a b:Expr} {m1 m2:Bool} {f g:bP} {pos:Pos}
theorem hZ {op:Operator} {r:R2} {p:P2} (ho:OpR X (binaryOp op) r) (hp:fe X.K r p) (ha:EX X a m1 f) (hb:EX X b m2 g):EX X (.BinOp a op b pos) (m1||m2) (ag p m2 f g):=aW (v5 ho ha hb) fun _ _ _ h=>ky hp h
theorem uX {op:CmpOp} {r:R2} {p:P2} (ho:OpR X (compareOp op) r) (hp:fe X.K r p) (ha:EX X a m1 f) (hb:EX X b m2 g) (hm:behindInMarks op b=false):EX X (.Compare a [op] [b] pos) (m1||m2) (ag p m2 f g):=aW (rP ho ha hb hm) fun _ _ _ h=>ky hp h
def ck (f:bP):hW:=fun E=>(f E).bind fun a=>match a.1 with
  | .sh (.bool b)=>some (b,a.2)
  | _=>none
theorem uY {K:PySem.W.Frag} {m:Bool} {f:bP} {σ:Sg} {H:Hp} {Q:Bool→Hp→Prop} (h:rt K m (ck f) σ H Q):rd K m f σ H (fun x H'=>∃k,x= .bl k∧Q k H'):=by
  obtain ⟨B,E,xs,Xs,b,E',fr,c,e,q⟩:=h
  obtain ⟨⟨s,E1⟩,e1,e⟩:=Option.bind_eq_some_iff.mp e
  refine ⟨B,E,xs,Xs,s,E1,fr,c,e1,fun v H' ⟨F,A,fr'⟩=>?_⟩
  simp only at e
  split at e
  · cases e
    obtain ⟨r,_⟩:=fr'.look0 (d:= .bool b) rfl
    cases r
    obtain ⟨A',fr2⟩:=fr'.pop
    exact ⟨b,rfl,q H' ⟨F,A',fr2⟩⟩
  · cases e
theorem kz {op:CmpOp} {r:R2} {p:P2} (ho:OpR X (compareOp op) r) (hp:fe X.K r p) (ha:EX X a m1 f) (hb:EX X b m2 g) (hm:behindInMarks op b=false):TX X (.Compare a [op] [b] pos) (m1||m2) (ck (ag p m2 f g)):=by
  refine mP (rQ ho ha hb hm) fun σ H Q h=>?_
  exact ky hp (uY h)
end
def uZ:Int:=2 ^ 20000
def d8 (i j:Int):Bool:=decide (-(2 ^ 64) < i∧i < 2 ^ 64)||decide (-(2 ^ 64) < j∧j < 2 ^ 64)||decide (-uZ < i∧i < uZ∧ -uZ < j∧j < uZ)
def fP (j:Int):Bool:=decide (0 < j∧j < 2 ^ 200)
def jA (C:Int→Int→Bool) (g:Int→Int→PyData):PyData→PyData→Option PyData
  | .int i, .int j=>if C i j then some (g i j) else none
  | _,_=>none
abbrev tZ (C:Int→Int→Bool) (g:Int→Int→V):R2:=rI (fun i j=>C i j=true) g
theorem gU {K:PySem.W.Frag} {C:Int→Int→Bool} {g:Int→Int→PyData} {g':Int→Int→V} (hg:∀i j,tY (g i j)=some (g' i j)):fe K (tZ C g') (da (jA C g)):=by
  refine iR fun d1 d2 d v1 v2 H Q e r1 r2=>?_
  unfold jA at e
  split at e
  · split at e
    · cases e
      cases r1
      cases r2
      rename_i hC
      exact ⟨_,hg _ _,fun q=>⟨_,_,rfl,rfl,hC,q⟩⟩
    · cases e
  · cases e
section
variable {X:Cx}
theorem h7 {i:Int} (h1: -uZ < i) (h2:i < uZ):Builtin.Int.intBits i≤2 ^ 20:=by
  unfold uZ at h1 h2
  have h:i.natAbs < 2 ^ 20000:=by
    have e:((2 ^ 20000:Nat):Int)=2 ^ 20000:=Int.natCast_pow 2 20000
    generalize (2 ^ 20000:Int)=z at h1 h2 e
    generalize (2 ^ 20000:Nat)=y at e ⊢
    omega
  unfold Builtin.Int.intBits
  split
  · exact Nat.zero_le _
  · rename_i hz
    have hz':i≠0:=by simpa using hz
    have:i.natAbs.log2 < 20000:=(Nat.log2_lt (by omega)).mpr h
    omega
theorem p9 {i j:Int} (h:d8 i j=true):PySem.IntMulOk i j:=by
  unfold d8 at h
  simp only [Bool.or_eq_true,decide_eq_true_eq] at h
  rcases h with (h | h) | h
  · exact CMul.ok (.inl h)
  · exact CMul.ok (.inr h)
  · exact PySem.IntMulOk.of_bits (h7 h.1 h.2.1) (h7 h.2.2.1 h.2.2.2)
end
end PL
namespace PL
open PySem L2 Nh PyProof.Rows
abbrev h8:=L2.St
section
variable {X:Cx}
theorem OpR.or {f:Value→Value→Sem Value} {r r':R2} (h:OpR X f r) (h':OpR X f r'):OpR X f (fun x y H Q=>r x y H Q∨r' x y H Q):=by
  intro pins s σ H x y v u Q I rx ry q
  rcases q with q | q
  · exact h pins s σ H x y v u Q I rx ry q
  · exact h' pins s σ H x y v u Q I rx ry q
theorem OpR.imp {f:Value→Value→Sem Value} {r r':R2} (h:OpR X f r) (k:∀x y H Q,r' x y H Q→r x y H Q):OpR X f r':=fun pins s σ H x y v u Q I rx ry q=>h pins s σ H x y v u Q I rx ry (k _ _ _ _ q)
def t0 (K:PySem.W.Frag):R2:=fun x y H Q=>∃l b xs zs,x= .ref l∧y= .ref b∧SqL K H l xs∧SqL K H b zs∧xs.length+zs.length≤sizeLine∧∀p,H p=none→Q (.ref p) (upd H p (.lst (xs++zs)))
theorem si:OpR X (binaryOp .Add) (t0 X.K):=by
  intro pins s σ H x y v u Q I rx ry h
  obtain ⟨l,b,xs,zs,rfl,rfl,hH,hB,hz,q⟩:=h
  cases rx
  cases ry
  obtain ⟨its,r,p1,z1⟩:=I.list hH
  obtain ⟨its2,r2,p2,z2⟩:=I.list hB
  obtain ⟨⟨cls,dd,data,sl⟩,ho,hc,n,hd⟩:=p1.isList
  obtain ⟨⟨cls2,dd2,data2,sl2⟩,ho2,hc2,n2,se⟩:=p2.isList
  simp only at hc hd hc2 se
  subst hc hd hc2 se
  have l1:=r.length
  have l2:=r2.length
  refine concat_meets ⟨_,ho,rfl⟩ ⟨_,ho2,rfl⟩ noFill_list_add seq_list_add PySem.F.slot_list_add PySem.F.entry_list_add (PySem.F.args_list_add_2 _ _) (list_addW l b its.toArray its2.toArray n n2 dd dd2 sl sl2 (by simp only [List.size_toArray];omega)) ⟨ho,ho2,?_⟩
  have ea:its.toArray++its2.toArray=(its++its2).toArray:=by simp
  rw [ea]
  exact ⟨.ref _,_,I.lnew (t':=s.toks) (r.append r2) (by rw [List.length_append];omega),rfl,q _ I.fresh⟩
def t4 (K:PySem.W.Frag):R2:=fun x y H Q=>∃l k xs,x= .ref l∧y= .int k∧SqL K H l xs∧ -(2 ^ 63)≤k∧k < 2 ^ 63∧xs.length*k.toNat≤sizeLine∧
  ∀p,H p=none→Q (.ref p) (upd H p (.lst (List.replicate k.toNat xs).flatten))
theorem sj:OpR X (binaryOp .Mult) (t4 X.K):=by
  intro pins s σ H x y v u Q I rx ry h
  obtain ⟨l,k,xs,rfl,rfl,hH,h1,h2,hz,q⟩:=h
  cases rx
  obtain ⟨t,rfl⟩:=ry
  obtain ⟨its,r,p1,z1⟩:=I.list hH
  obtain ⟨⟨cls,d,data,sl⟩,ho,hcl,n,hd⟩:=p1.isList
  simp only at hcl hd
  subst hcl hd
  have l1:=r.length
  have hsz:its.toArray.size*k.toNat≤2 ^ 24:=by rw [List.size_toArray,←l1];exact hz
  refine wpAny_binaryOp_repeat_ref (T:="list") (U:="int") (by decide) ⟨_,ho,rfl⟩ (fun s'=>typeIs_int s' k t) noFill_list_mul F.fills_int_mul F.slot_int_rmul repeat_list F.slot_int_index.lookup
    (call_meets F.slot_int_rmul (typeIs_int s k t) F.entry_int_rmul (F.args_int_rmul_2 _ _) (lm_int_rmul_list_any k t l its.toArray n d sl)
      ⟨ho,rfl,⟨_,ho,rfl⟩,call_meets F.slot_list_mul ⟨_,ho,rfl⟩ F.entry_list_mul (F.args_list_mul_2 _ _)
        (lm_list_mul_any l its.toArray n d sl k t (by simp [Builtin.List.listFitsIndex];omega) (by omega) (by simp [Builtin.List.listTooLong,sizeLine];omega))
        ⟨ho,?_⟩⟩)
  rw [listMul_foldl_if]
  exact ⟨.ref _,_,I.lnew (t':=s.toks) (r.rep k.toNat) (by rw [r8,Nat.mul_comm];exact hz),rfl,q _ I.fresh⟩
end
def bz:P2:=fun E s1 s2=>(look E s1).bind fun d1=>(look E s2).bind fun d2=>match d1,d2 with
  | .int i, .int j=>some (.sh (.int (i+j)),E)
  | .str a, .str b=>if a.length+b.length≤1000000 then some (.sh (.str (a++b)),E) else none
  | .list a, .list b=>if decide (a.length+b.length≤1000000)&&(!dA E s1||aS a)&&(!dA E s2||aS b) then some (.ow (a++b),E) else none
  | _,_=>none
theorem p_ {n:Nat} (h:n≤1000000):n < sizeLine:=Nat.lt_of_le_of_lt h (by rw [sizeLine_eq];decide)
theorem dZ {n:Nat} (h:n≤1000000):n≤sizeLine:=Nat.le_of_lt (p_ h)
section
variable {K:PySem.W.Frag} {B F:Hp} {A:List Addr} {σ:h8} {H:Hp} {E:List Sl} {xs:List V} {Xs:List Sl} {v:V} {s:Sl} {ds:List PyData}
theorem FrF.items {k:Nat} (h:FrF K B F A σ H E xs Xs) (e:Xs[k]? =some s) (q:PL.look E s=some (.list ds)) (c:(!dA E s||aS ds)=true):∃a vs,xs[k]? =some (.ref a)∧SqL K H a vs∧RpA K F vs ds:=by
  obtain ⟨v,ev,r,f⟩:=h.look e q
  cases hh:dA E s with
  | false=>
    obtain ⟨a,vs,rfl,h1,h2⟩:=f hh
    exact ⟨a,vs,ev,h1,h2⟩
  | true=>
    rw [hh] at c
    cases r with
    | lst h1 h2=>exact ⟨_,_,ev,h1,h.coldA h2 (by simpa using c)⟩
theorem FrF.res2l {v1 v2:V} {s1 s2:Sl} {vs:List V} (h:FrF K B F A σ H E (v2::v1::xs) (s2::s1::Xs)) (r:RpA K F vs ds) {p:Addr} (hp:H p=none):Frm K B σ (upd H p (.lst vs)) E (.ref p::xs) (.ow ds::Xs):=by
  obtain ⟨A1,h⟩:=h.pop
  obtain ⟨A2,h⟩:=h.pop
  exact ⟨F,_,h.newl r hp⟩
end
abbrev t5 (K:PySem.W.Frag):R2:=fun x y H Q=>(∃i j,x= .int i∧y= .int j∧Q (.int (i+j)) H)∨(∃i j,x= .str i∧y= .str j∧i.length+j.length≤sizeLine∧Q (.str (i++j)) H)∨t0 K x y H Q
theorem sk {X:Cx}:OpR X (binaryOp .Add) (t5 X.K):=OpR.or uC (OpR.or mG si)
theorem sm {K:PySem.W.Frag}:fe K (t5 K) bz:=by
  intro B F A σ H E xs Xs v1 v2 s1 s2 res E' Q fr e q
  obtain ⟨d1,e1,e⟩:=Option.bind_eq_some_iff.mp e
  obtain ⟨d2,e2,e⟩:=Option.bind_eq_some_iff.mp e
  have r1:=(fr.look1 e1).1
  have r2:=(fr.look0 e2).1
  split at e
  · cases e;cases r1;cases r2
    exact .inl ⟨_,_,rfl,rfl,q _ _ (fr.res2 ⟨rfl,_,rfl, .int _⟩)⟩
  · split at e
    · rename_i hl
      cases e;cases r1;cases r2
      exact .inr (.inl ⟨_,_,rfl,rfl,dZ hl,q _ _ (fr.res2 ⟨rfl,_,rfl, .str _⟩)⟩)
    · cases e
  · split at e
    · rename_i hc
      cases e
      simp only [Bool.and_eq_true,decide_eq_true_eq] at hc
      obtain ⟨a1,u1,x1,q1,i1⟩:=fr.items (k:=1) rfl e1 hc.1.2
      obtain ⟨a2,u2,x2,q2,i2⟩:=fr.items (k:=0) rfl e2 hc.2
      cases x1;cases x2
      have l1:=i1.len
      have l2:=i2.len
      exact .inr (.inr ⟨_,_,_,_,rfl,rfl,q1,q2,dZ (by omega),fun p hp=>q _ _ (fr.res2l (i1.append i2) hp)⟩)
    · cases e
  · cases e
def kA:P2:=da (jA (fun _ _=>true) fun i j=> .int (i - j))
def cH:P2:=da (jA (fun _ j=>fP j) fun i j=> .int (i / j))
def fg:P2:=da (jA (fun _ j=>decide (0 < j)) fun i j=> .int (i % j))
def u0:P2:=da (jA (fun i j=>decide (0≤j∧j≤1000000∧ -(2 ^ 64) < i∧i < 2 ^ 64)) fun i j=> .int (i ^ j.toNat))
section
variable {X:Cx}
theorem sq:OpR X (binaryOp .Sub) (tZ (fun _ _=>true) fun i j=> .int (i - j)):=OpR.imp uD fun x y H Q ⟨i,j,a,b,_,q⟩=>⟨i,j,a,b,q⟩
theorem qa:OpR X (binaryOp .FloorDiv) (tZ (fun _ j=>fP j) fun i j=> .int (i / j)):=v7 fun i j _ _ _ _ _ hc q=>by
  obtain ⟨h1,h2⟩:=of_decide_eq_true hc
  have h3:j.natAbs.log2 < 9000:=by
    have:j.natAbs < 2 ^ 200:=by omega
    have:=(Nat.log2_lt (n:=j.natAbs) (k:=200) (by omega)).mpr this
    omega
  exact floordiv_int (by omega) (by rw [Int.fdiv_eq_ediv_of_nonneg i (by omega)];exact q) (.inl (PyProof.noPylong_of_log2 h3))
theorem sr:OpR X (binaryOp .Mod) (tZ (fun _ j=>decide (0 < j)) fun i j=> .int (i % j)):=OpR.imp uE fun x y H Q ⟨i,j,a,b,c,q⟩=>⟨i,j,a,b,of_decide_eq_true c,q⟩
theorem su {i j:Int} (c:0≤j∧j≤1000000∧ -(2 ^ 64) < i∧i < 2 ^ 64):v8 i j:=⟨c.1,c.2.1,by omega⟩
theorem sw:OpR X (binaryOp .Pow) (tZ (fun i j=>decide (0≤j∧j≤1000000∧ -(2 ^ 64) < i∧i < 2 ^ 64)) fun i j=> .int (i ^ j.toNat)):=OpR.imp uF fun x y H Q ⟨i,j,a,b,c,q⟩=>⟨i,j,a,b,su (of_decide_eq_true c),q⟩
end
def iS:P2:=fun E s1 s2=>(look E s1).bind fun d1=>(look E s2).bind fun d2=>match d1,d2 with
  | .int i, .int j=>if d8 i j then some (.sh (.int (i*j)),E) else none
  | .list a, .int k=>if decide (a.length*k.toNat≤1000000∧ -1000000≤k∧k≤1000000)&&(!dA E s1||aS a) then some (.ow (List.replicate k.toNat a).flatten,E) else none
  | _,_=>none
abbrev t6 (K:PySem.W.Frag):R2:=fun x y H Q=>tZ d8 (fun i j=> .int (i*j)) x y H Q∨t4 K x y H Q
theorem sx {X:Cx}:OpR X (binaryOp .Mult) (t6 X.K):=OpR.or (v7 fun _ _ _ _ _ _ _ hc q=>mul_int q (p9 hc)) sj
theorem sy {K:PySem.W.Frag}:fe K (t6 K) iS:=by
  intro B F A σ H E xs Xs v1 v2 s1 s2 res E' Q fr e q
  obtain ⟨d1,e1,e⟩:=Option.bind_eq_some_iff.mp e
  obtain ⟨d2,e2,e⟩:=Option.bind_eq_some_iff.mp e
  have r1:=(fr.look1 e1).1
  have r2:=(fr.look0 e2).1
  split at e
  · split at e
    · rename_i hm
      cases e;cases r1;cases r2
      exact .inl ⟨_,_,rfl,rfl,hm,q _ _ (fr.res2 ⟨rfl,_,rfl, .int _⟩)⟩
    · cases e
  · split at e
    · rename_i hc
      cases e
      simp only [Bool.and_eq_true,decide_eq_true_eq] at hc
      obtain ⟨a1,u1,x1,q1,i1⟩:=fr.items (k:=1) rfl e1 hc.2
      cases x1;cases r2
      have l1:=i1.len
      exact .inr ⟨_,_,_,rfl,rfl,q1,by omega,by omega,dZ (by rw [l1];exact hc.1.1),fun p hp=>q _ _ (fr.res2l (i1.rep _) hp)⟩
    · cases e
  · cases e
section
variable {X:Cx} {a b:Expr} {m1 m2:Bool} {f g:bP} {pos:Pos}
theorem bv (ha:EX X a m1 f) (hb:EX X b m2 g):EX X (.BinOp a .Add b pos) (m1||m2) (ag bz m2 f g):=hZ sk sm ha hb
theorem mQ (ha:EX X a m1 f) (hb:EX X b m2 g):EX X (.BinOp a .Sub b pos) (m1||m2) (ag kA m2 f g):=hZ sq (gU fun _ _=>rfl) ha hb
theorem gV (ha:EX X a m1 f) (hb:EX X b m2 g):EX X (.BinOp a .Mult b pos) (m1||m2) (ag iS m2 f g):=hZ sx sy ha hb
theorem dU (ha:EX X a m1 f) (hb:EX X b m2 g):EX X (.BinOp a .FloorDiv b pos) (m1||m2) (ag cH m2 f g):=hZ qa (gU fun _ _=>rfl) ha hb
theorem eM (ha:EX X a m1 f) (hb:EX X b m2 g):EX X (.BinOp a .Mod b pos) (m1||m2) (ag fg m2 f g):=hZ sr (gU fun _ _=>rfl) ha hb
theorem u3 (ha:EX X a m1 f) (hb:EX X b m2 g):EX X (.BinOp a .Pow b pos) (m1||m2) (ag u0 m2 f g):=hZ sw (gU fun _ _=>rfl) ha hb
end
def xS (K:PySem.W.Frag) (r:V→Hp→VK→Prop) (op:PyData→Option PyData):Prop:=∀(d1 d:PyData) (v1:V) (H:Hp) (Q:VK),op d1=some d→Rp K H v1 d1→∃v,tY d=some v∧(Q v H→r v1 H Q)
def di (op:PyData→Option PyData) (f:bP):bP:=fun E=>(f E).bind fun a=>(look a.2 a.1).bind fun d1=>(op d1).map fun d=>(.sh d,a.2)
theorem wv {K:PySem.W.Frag} {r:V→Hp→VK→Prop} {op:PyData→Option PyData} (hp:xS K r op) {m:Bool} {f:bP} {σ:h8} {H:Hp} {Q:VK} (h:rd K m (di op f) σ H Q):rd K m f σ H (fun x H1=>r x H1 Q):=by
  obtain ⟨B,E,xs,Xs,res,E',fr,c,e,q⟩:=h
  obtain ⟨⟨s1,E1⟩,e1,e⟩:=Option.bind_eq_some_iff.mp e
  obtain ⟨d1,e2,e⟩:=Option.bind_eq_some_iff.mp e
  obtain ⟨d,e3,e⟩:=Option.map_eq_some_iff.mp e
  cases e
  refine ⟨B,E,xs,Xs,s1,E1,fr,c,e1,fun v1 H1 ⟨F,A,fr1⟩=>?_⟩
  obtain ⟨v,hv,k⟩:=hp d1 d v1 H1 Q e3 (fr1.look0 e2).1
  obtain ⟨A',fr2⟩:=fr1.pop
  exact k (q v H1 ⟨F,A',fr2.push ⟨rfl,v,rfl,iQ hv⟩⟩)
def iT:PyData→Option PyData
  | .int i=>some (.int (-i))
  | _=>none
section
variable {X:Cx} {a b c:Expr} {m1 m2 m3:Bool} {f g h:bP} {pos:Pos}
theorem qc (ha:EX X a m1 f):EX X (.UnaryOp .USub a pos) m1 (di iT f):=aW (v6 uI ha) fun σ H Q h=>wv (r:=rU fun i=> .int (-i)) (fun d1 d v1 H Q e r=>by
  cases d1 <;> simp [iT] at e
  cases e;cases r
  exact ⟨_,rfl,fun q=>⟨_,rfl,q⟩⟩) h
end
def jx (d1 d2:PyData):Option Bool:=match d1,d2 with
  | .int i, .int j=>some (decide (i=j))
  | .str a, .str b=>some (decide (a=b))
  | .bool a, .bool b=>some (decide (a=b))
  | .none, .none=>some true
  | .none, .str _=>some false
  | .str _, .none=>some false
  | d1,d2=>if SeqAt.shaped d1&&SeqAt.shaped d2 then some (PyData.eqv d1 d2) else none
def dW:P2:=da fun d1 d2=>(jx d1 d2).map fun b=> .bool b
def fQ:P2:=da fun d1 d2=>(jx d1 d2).map fun b=> .bool (!b)
abbrev xT (K:PySem.W.Frag):R2:=fun x y H Q=>yh x y H Q∨wq K x y H Q
abbrev xU (K:PySem.W.Frag):R2:=fun x y H Q=>yi x y H Q∨wt K x y H Q
theorem qd {K:PySem.W.Frag} {H:Hp} {v1 v2:V} {d1 d2:PyData} {b:Bool} (e:jx d1 d2=some b) (r1:Rp K H v1 d1) (r2:Rp K H v2 d2):
    (uJ v1 v2=true∧decide (v1=v2)=b)∨(DOf K H v1 d1∧DOf K H v2 d2∧SeqAt.shaped d1=true∧SeqAt.shaped d2=true∧PyData.eqv d1 d2=b):=by
  unfold jx at e
  split at e
  · cases e;cases r1;cases r2;exact .inl ⟨rfl,by simp⟩
  · cases e;cases r1;cases r2;exact .inl ⟨rfl,by simp⟩
  · cases e;cases r1;cases r2;exact .inl ⟨rfl,by simp⟩
  · cases e;cases r1;cases r2;exact .inl ⟨rfl,rfl⟩
  · cases e;cases r1;cases r2;exact .inl ⟨rfl,rfl⟩
  · cases e;cases r1;cases r2;exact .inl ⟨rfl,rfl⟩
  · split at e
    · rename_i hs
      cases e
      simp only [Bool.and_eq_true] at hs
      exact .inr ⟨r1.dof hs.1,r2.dof hs.2,hs.1,hs.2,rfl⟩
    · cases e
theorem qe {K:PySem.W.Frag}:fe K (xT K) dW:=iR fun d1 d2 d v1 v2 H Q e r1 r2=>by
  obtain ⟨b,e',rfl⟩:=Option.map_eq_some_iff.mp e
  refine ⟨_,rfl,fun q=>?_⟩
  rcases qd e' r1 r2 with ⟨a,rfl⟩ | ⟨a1,a2,a3,a4,rfl⟩
  · exact .inl ⟨a,q⟩
  · exact .inr ⟨_,_,a1,a2,a3,a4,q⟩
theorem u4 {K:PySem.W.Frag}:fe K (xU K) fQ:=iR fun d1 d2 d v1 v2 H Q e r1 r2=>by
  obtain ⟨b,e',rfl⟩:=Option.map_eq_some_iff.mp e
  refine ⟨_,rfl,fun q=>?_⟩
  rcases qd e' r1 r2 with ⟨a,rfl⟩ | ⟨a1,a2,a3,a4,rfl⟩
  · exact .inl ⟨a,q⟩
  · exact .inr ⟨_,_,a1,a2,a3,a4,q⟩
def oK (K:PySem.W.Frag) (r:R2) (op:PyData→PyData→Option PyData):Prop:=∀(d1 d2 d:PyData) (v1 v2:V) (H:Hp) (Q:VK),op d1 d2=some d→Rp K H v1 d1→Rp K H v2 d2→∃v,tY d=some v∧(Q v H→r v1 v2 H Q)
def fW (op op':PyData→PyData→Option PyData) (m2 m3:Bool) (f g h:bP):bP:=fun E=>(f E).bind fun a=>if (m2||m3)&&a.1.isBr then none else (g a.2).bind fun b=>if m3&&b.1.isBr then none else
  (look b.2 a.1).bind fun d1=>(look b.2 b.1).bind fun d2=>match op d1 d2 with
    | some (.bool true)=>(h b.2).bind fun c=>(look c.2 b.1).bind fun d2=>(look c.2 c.1).bind fun d3=>(op' d2 d3).map fun d=>(.sh d,c.2)
    | some (.bool false)=>some (.sh (.bool false),b.2)
    | _=>none
section
variable {X:Cx} {a b c:Expr} {m1 m2 m3:Bool} {f g h:bP} {pos:Pos}
theorem t7 (hu:X.A.units+64 < cLine) (ha:EX X a m1 f) (hb:EX X b m2 g):EX X (.Compare a [.Eq] [b] pos) (m1||m2) (ag dW m2 f g):=uX (OpR.or tV (pZ hu)) qe ha hb (ki _)
theorem fR (hu:X.A.units+64 < cLine) (ha:EX X a m1 f) (hb:EX X b m2 g):TX X (.Compare a [.Eq] [b] pos) (m1||m2) (ck (ag dW m2 f g)):=kz (OpR.or tV (pZ hu)) qe ha hb (ki _)
theorem fi (hu:X.A.units+64 < cLine) (ha:EX X a m1 f) (hb:EX X b m2 g):TX X (.Compare a [.NotEq] [b] pos) (m1||m2) (ck (ag fQ m2 f g)):=kz (OpR.or v9 (uS hu)) u4 ha hb (ki _)
theorem qf {K:PySem.W.Frag} {r r':R2} {op op':PyData→PyData→Option PyData} (k:oK K r op) (k':oK K r' op') {σ:h8} {H:Hp} {Q:VK} (z:rd K (m1||(m2||m3)) (fW op op' m2 m3 f g h) σ H Q):pL r r' (rd K m1 f) (rd K m2 g) (rd K m3 h) σ H Q:=by
  obtain ⟨B,E,xs,Xs,res,E',fr,cl,e,q⟩:=z
  obtain ⟨⟨s1,E1⟩,e1,e⟩:=Option.bind_eq_some_iff.mp e
  by_cases hb:((m2||m3)&&s1.isBr)=true
  · rw [if_pos hb] at e;cases e
  rw [if_neg hb] at e
  obtain ⟨⟨s2,E2⟩,e2,e⟩:=Option.bind_eq_some_iff.mp e
  by_cases hb2:(m3&&s2.isBr)=true
  · rw [if_pos hb2] at e;cases e
  rw [if_neg hb2] at e
  obtain ⟨d1,l1,e⟩:=Option.bind_eq_some_iff.mp e
  obtain ⟨d2,l2,e⟩:=Option.bind_eq_some_iff.mp e
  have n1:(m2||m3)=true→s1.isBr=false:=fun z=>by
    cases hs:s1.isBr with
    | false=>rfl
    | true=>exact absurd (by rw [z,hs];rfl) hb
  have n2:m3=true→s2.isBr=false:=fun z=>by
    cases hs:s2.isBr with
    | false=>rfl
    | true=>exact absurd (by rw [z,hs];rfl) hb2
  refine ⟨B,E,xs,Xs,s1,E1,fr,fun z=>cl (by simp [z]),e1,fun v1 H1 fr1=>?_⟩
  refine ⟨B,E1,v1::xs,s1::Xs,s2,E2,fr1,fun z=>Calm.cons (cl (by simp [z])) (n1 (by simp [z])),e2,fun v2 H2 ⟨F,A,fr2⟩=>?_⟩
  cases ho:op d1 d2 with
  | none=>rw [ho] at e;cases e
  | some d=>
    rw [ho] at e
    obtain ⟨v,hv,kk⟩:=k d1 d2 d v1 v2 H2 (fun z H3=>∃k,z= .bl k∧(if k=true then rd K m3 h σ H3 fun w' H4=>r' v2 w' H4 Q else Q (.bl false) H3)) ho (fr2.look1 l1).1 (fr2.look0 l2).1
    cases d with
    | bool t=>
      cases hv
      refine kk ⟨t,rfl,?_⟩
      cases t with
      | true=>
        rw [if_pos rfl]
        obtain ⟨⟨s3,E3⟩,e3,e⟩:=Option.bind_eq_some_iff.mp e
        obtain ⟨d2',l2',e⟩:=Option.bind_eq_some_iff.mp e
        obtain ⟨d3,l3,e⟩:=Option.bind_eq_some_iff.mp e
        obtain ⟨d,ho',e⟩:=Option.map_eq_some_iff.mp e
        cases e
        refine ⟨B,E2,v2::v1::xs,s2::s1::Xs,s3,E3,⟨F,A,fr2⟩,fun z=>Calm.cons (Calm.cons (cl (by simp [z])) (n1 (by simp [z]))) (n2 z),e3,fun v3 H3 ⟨F3,A3,fr3⟩=>?_⟩
        obtain ⟨v,hv,kk⟩:=k' d2' d3 d v2 v3 H3 Q ho' (fr3.look1 l2').1 (fr3.look0 l3).1
        obtain ⟨A4,fr4⟩:=fr3.pop
        exact kk (q v H3 (fr4.res2 ⟨rfl,v,rfl,iQ hv⟩))
      | false=>
        rw [if_neg (by decide)]
        cases e
        exact q _ _ (fr2.res2 ⟨rfl,_,rfl, .bl _⟩)
    | none=>cases e
    | int i=>cases e
    | str x=>cases e
    | list xs=>cases e
    | tuple xs=>cases e
    | dict kvs=>cases e
theorem qg {o1 o2:CmpOp} {r r':R2} {op op':PyData→PyData→Option PyData} (ho:OpR X (compareOp o1) r) (ho':OpR X (compareOp o2) r') (k:oK X.K r op) (k':oK X.K r' op') (ha:EX X a m1 f) (hb:EX X b m2 g) (hc:EX X c m3 h)
    (hm:lastMarks [o1,o2] [b,c]=false:=by with_unfolding_all rfl):EX X (.Compare a [o1,o2] [b,c] pos) (m1||(m2||m3)) (fW op op' m2 m3 f g h):=aW (pM ho ho' ha hb hc hm) fun _ _ _ z=>qf k k' z
end
end PL
namespace PL
open PySem L2 Nh
def jT (f g:bP):bP:=fun E=>(f E).bind fun a=>match a.1 with
  | .sh (.bool true)=>g a.2
  | .sh (.bool false)=>some (.sh (.bool false),a.2)
  | _=>none
def h9 (f g:hW):hW:=fun E=>(f E).bind fun a=>if a.1 then g a.2 else some (false,a.2)
def fM (f g:hW):hW:=fun E=>(f E).bind fun a=>if a.1 then some (true,a.2) else g a.2
def aY (f:hW):hW:=fun E=>(f E).map fun a=>(!a.1,a.2)
def dQ:PyData→Option Bool
  | .none=>some false
  | .bool b=>some b
  | .int i=>some (i != 0)
  | .str x=>if x.length≤1000000 then some ((x.length:Int) != 0) else none
  | .list xs=>some (!xs.isEmpty)
  | .tuple xs=>some (!xs.isEmpty)
  | .dict _=>none
def bZ (f:bP):hW:=fun E=>(f E).bind fun a=>match a.1 with
  | .al i=>match a.2[i]? with
    | some (.od kvs)=>some (!kvs.isEmpty,a.2)
    | some s=>(s.val.bind dQ).map fun b=>(b,a.2)
    | none=>none
  | s=>(s.val.bind dQ).map fun b=>(b,a.2)
section
variable {X:Cx} {a b c:Expr} {cm:List Expr} {m1 m2 m3:Bool} {f g h:bP} {t u:hW} {pos:Pos} {K:PySem.W.Frag}
theorem u5 {op} (h:EX X a m1 f):EX X (.BoolOp op [a] pos) m1 f:=uq h
theorem qh (ha:EX X a m1 f) (hb:EX X (.BoolOp .And (b::cm) pos) m2 g):EX X (.BoolOp .And (a::b::cm) pos) (m1||m2) (jT f g):=by
  refine aW (ur ha hb) fun σ H Q z=>?_
  obtain ⟨B,E,xs,Xs,res,E',fr,cl,e,q⟩:=z
  obtain ⟨⟨s1,E1⟩,e1,e⟩:=Option.bind_eq_some_iff.mp e
  refine ⟨B,E,xs,Xs,s1,E1,fr,fun z=>cl (by simp [z]),e1,fun v1 H1 ⟨F,A,fr1⟩=>?_⟩
  simp only at e
  split at e
  · obtain ⟨r,_⟩:=fr1.look0 (d:= .bool true) rfl
    cases r
    obtain ⟨A',fr2⟩:=fr1.pop
    exact ⟨true,rfl,(if_pos rfl).mpr ⟨B,E1,xs,Xs,res,E',⟨F,A',fr2⟩,fun z=>cl (by simp [z]),e,q⟩⟩
  · cases e
    obtain ⟨r,_⟩:=fr1.look0 (d:= .bool false) rfl
    cases r
    exact ⟨false,rfl,(if_neg (by decide)).mpr (q _ _ ⟨F,A,fr1⟩)⟩
  · cases e
theorem sC (ha:TX X a m1 t):WX X (.BoolOp .And [a] pos) m1 t:=rF ha
theorem iU (ha:TX X a m1 t):WX X (.BoolOp .Or [a] pos) m1 t:=um ha
theorem u6 (ha:TX X a m1 t) (hb:WX X (.BoolOp .And (b::cm) pos) m2 u):WX X (.BoolOp .And (a::b::cm) pos) (m1||m2) (h9 t u):=by
  refine p7 (uo ha hb) fun σ H Q z=>?_
  obtain ⟨B,E,xs,Xs,res,E',fr,cl,e,q⟩:=z
  obtain ⟨⟨b1,E1⟩,e1,e⟩:=Option.bind_eq_some_iff.mp e
  refine ⟨B,E,xs,Xs,b1,E1,fr,fun z=>cl (by simp [z]),e1,fun H1 fr1=>?_⟩
  cases b1 with
  | true=>exact (if_pos rfl).mpr ⟨B,E1,xs,Xs,res,E',fr1,fun z=>cl (by simp [z]),e,q⟩
  | false=>cases e;exact (if_neg (by decide)).mpr (q _ fr1)
theorem iV (ha:TX X a m1 t) (hb:WX X (.BoolOp .Or (b::cm) pos) m2 u):WX X (.BoolOp .Or (a::b::cm) pos) (m1||m2) (fM t u):=by
  refine p7 (vT ha hb) fun σ H Q z=>?_
  obtain ⟨B,E,xs,Xs,res,E',fr,cl,e,q⟩:=z
  obtain ⟨⟨b1,E1⟩,e1,e⟩:=Option.bind_eq_some_iff.mp e
  refine ⟨B,E,xs,Xs,b1,E1,fr,fun z=>cl (by simp [z]),e1,fun H1 fr1=>?_⟩
  cases b1 with
  | true=>cases e;exact (if_pos rfl).mpr (q _ fr1)
  | false=>exact (if_neg (by decide)).mpr ⟨B,E1,xs,Xs,res,E',fr1,fun z=>cl (by simp [z]),e,q⟩
theorem oM (h:WX X a m1 t):TX X a m1 t:=PW.pt h
theorem dm (ha:TX X a m1 t):TX X (.UnaryOp .Not a pos) m1 (aY t):=by
  refine mP (up ha) fun σ H Q z=>?_
  obtain ⟨B,E,xs,Xs,res,E',fr,cl,e,q⟩:=z
  obtain ⟨⟨b1,E1⟩,e1,e⟩:=Option.map_eq_some_iff.mp e
  cases e
  exact ⟨B,E,xs,Xs,b1,E1,fr,cl,e1,fun H1 fr1=>q _ fr1⟩
theorem u7 {H:Hp} {v:V} {d:PyData} {b:Bool} (r:Rp K H v d) (e:dQ d=some b):pN K v H b:=by
  cases r with
  | non=>cases e;rfl
  | bl b=>cases e;rfl
  | int i=>cases e;rfl
  | str x=>
    simp only [dQ] at e
    split at e
    · rename_i hl
      cases e
      exact ⟨dZ hl,rfl⟩
    · cases e
  | lst h r=>cases e;exact .inl ⟨_,h,by cases r <;> rfl⟩
  | tup h r=>cases e;exact .inr (.inl ⟨_,h,by cases r <;> rfl⟩)
  | dct h r=>cases e
  | exc h r=>cases e
theorem cO (ha:EX X a m1 f) (he:∀whole,isTrue a X.env whole=(do let v ←whole;standAt a.pos;holding [v] (truthy v)):=by exact fun _=>rfl):TX X a m1 (bZ f):=by
  refine mP (pO ha he) fun σ H Q z=>?_
  obtain ⟨B,E,xs,Xs,res,E',fr,cl,e,q⟩:=z
  obtain ⟨⟨s,E1⟩,e1,e⟩:=Option.bind_eq_some_iff.mp e
  refine ⟨B,E,xs,Xs,s,E1,fr,cl,e1,fun v1 H1 ⟨F,A,fr1⟩=>?_⟩
  have key:∀d,look E1 s=some d→(dQ d).map (fun b=>(b,E1))=some (res,E')→∃k,pN X.K v1 H1 k∧Q k H1:=fun d l e=>by
    obtain ⟨b,e',z⟩:=Option.map_eq_some_iff.mp e
    cases z
    obtain ⟨A',fr2⟩:=fr1.pop
    exact ⟨_,u7 (fr1.look0 l).1 e',q _ ⟨F,A',fr2⟩⟩
  have kv:(s.val.bind dQ).map (fun b=>(b,E1))=some (res,E')→(∀i,s≠ .al i)→∃k,pN X.K v1 H1 k∧Q k H1:=fun e na=>by
    obtain ⟨b,e',z⟩:=Option.map_eq_some_iff.mp e
    obtain ⟨d,e1,e2⟩:=Option.bind_eq_some_iff.mp e'
    refine key d ?_ (by rw [e2];exact congrArg some z)
    cases s <;> first | exact e1 | exact absurd rfl (na _)
  simp only at e
  split at e
  · rename_i i
    split at e
    · rename_i kvs ei
      cases e
      obtain ⟨v',A1,ev,rfl,w,ew,hw⟩:=fr1.ext (k:=0) rfl
      cases ev;cases ew
      obtain ⟨o,A1,eo,l,us,A2,rfl,_,hl,r⟩:=fr1.var ei
      rw [hw] at eo
      cases eo
      obtain ⟨A',fr2⟩:=fr1.pop
      exact ⟨_, .inr (.inr ⟨_,hl,by cases us <;> cases kvs <;> first | rfl | exact False.elim r⟩),q _ ⟨F,A',fr2⟩⟩
    · rename_i s' _ ei
      obtain ⟨b,e',z⟩:=Option.map_eq_some_iff.mp e
      obtain ⟨d,e1,e2⟩:=Option.bind_eq_some_iff.mp e'
      exact key d (by simp [look,ei,e1]) (by rw [e2];exact congrArg some z)
    · cases e
  · rename_i na
    exact kv e na
end
def aq:kY:=fun E=>some ([],E)
def af (m2:Bool) (f:bP) (g:kY):kY:=fun E=>(f E).bind fun a=>if m2&&a.1.isBr then none else (g a.2).map fun b=>(a.1::b.1,b.2)
def bx:gS:=fun E=>some ([],E)
def ar (f:bP) (g:gS):gS:=fun E=>(f E).bind fun a=>(frz a.2 a.1).bind fun b=>(g b.2).map fun c=>(b.1::c.1,c.2)
def db (f:gS):bP:=fun E=>(f E).bind fun a=>if a.1.length≤1000000 then some (.sh (.tuple a.1),a.2) else none
def b4 (f:gS):bP:=fun E=>(f E).bind fun a=>if a.1.length≤1000000 then some (.ow a.1,a.2) else none
section
variable {X:Cx} {e:Expr} {es:List Expr} {m1 m2:Bool} {f:bP} {g:kY} {d:gS} {pos:Pos} {K:PySem.W.Frag}
theorem au:AX X [] false aq:=by
  refine kx cN fun σ H Q z=>?_
  obtain ⟨B,E,xs,Xs,res,E',fr,cl,e,q⟩:=z
  cases e
  exact q [] H rfl fr
theorem ah (ha:EX X e m1 f) (hr:AX X es m2 g) (hs:starEach (e::es) X.env=(false,eval e X.env)::starEach es X.env:=by rfl):AX X (e::es) (m1||m2) (af m2 f g):=by
  refine kx (bR ha hr hs) fun σ H Q z=>?_
  obtain ⟨B,E,xs,Xs,res,E',fr,cl,e,q⟩:=z
  obtain ⟨⟨s,E1⟩,e1,e⟩:=Option.bind_eq_some_iff.mp e
  by_cases hb:(m2&&s.isBr)=true
  · rw [if_pos hb] at e;cases e
  rw [if_neg hb] at e
  obtain ⟨⟨rs,E2⟩,e2,e⟩:=Option.map_eq_some_iff.mp e
  cases e
  refine ⟨B,E,xs,Xs,s,E1,fr,fun z=>cl (by simp [z]),e1,fun v1 H1 fr1=>?_⟩
  refine ⟨B,E1,v1::xs,s::Xs,rs,E2,fr1,fun z=>Calm.cons (cl (by simp [z])) ?_,e2,fun vs H2 hl fr2=>?_⟩
  · cases hs:s.isBr with
    | false=>rfl
    | true=>exact absurd (by simp [z,hs]) hb
  · exact q (v1::vs) H2 (by simp [hl]) (by simpa using fr2)
theorem bI:DX X [] false bx:=by
  refine kx cN fun σ H Q z=>?_
  obtain ⟨B,E,xs,Xs,res,E',fr,cl,e,q⟩:=z
  cases e
  exact q [] H rfl fr
theorem am (ha:EX X e m1 f) (hr:DX X es m2 d) (hs:starEach (e::es) X.env=(false,eval e X.env)::starEach es X.env:=by rfl):DX X (e::es) (m1||m2) (ar f d):=by
  refine kx (bR ha hr hs) fun σ H Q z=>?_
  obtain ⟨B,E,xs,Xs,res,E',fr,cl,e,q⟩:=z
  obtain ⟨⟨s,E1⟩,e1,e⟩:=Option.bind_eq_some_iff.mp e
  obtain ⟨⟨d1,E2⟩,e2,e⟩:=Option.bind_eq_some_iff.mp e
  obtain ⟨⟨rs,E3⟩,e3,e⟩:=Option.map_eq_some_iff.mp e
  cases e
  refine ⟨B,E,xs,Xs,s,E1,fr,fun z=>cl (by simp [z]),e1,fun v1 H1 ⟨F,A,fr1⟩=>?_⟩
  obtain ⟨F2,A2,fr2⟩:=fr1.frz0 e2
  refine ⟨B,E2,v1::xs, .sh d1::Xs,rs,E3,⟨F2,A2,fr2⟩,fun z=>Calm.cons (cl (by simp [z])) rfl,e3,fun vs H2 hl fr2=>?_⟩
  exact q (v1::vs) H2 (by simp [hl]) (by simpa using fr2)
theorem FrF.shsR {B F:Hp} {σ:h8} {H:Hp} {E:List Sl} {xs:List V} {Xs:List Sl}:∀{us:List V} {es:List PyData} {A:List Addr},us.length=es.length→FrF K B F A σ H E (us++xs) (es.map .sh++Xs)→RpA K F us es∧∃A',FrF K B F A' σ H E xs Xs
  | [],[],A,_,h=>⟨.nil,A,h⟩
  | u::us,e::es,A,hl,h=>by
    obtain ⟨v,A1,ev,rfl,w,ew,r⟩:=h.ext (k:=0) rfl
    cases ev;cases ew
    obtain ⟨A',h'⟩:=FrF.pop (xs:=us++xs) (Xs:=es.map .sh++Xs) h
    obtain ⟨r',q⟩:=FrF.shsR (by simpa using hl) h'
    exact ⟨.cons r r',q⟩
  | [],_::_,_,e,_=>by cases e
  | _::_,[],_,e,_=>by cases e
theorem FrF.shs {B F:Hp} {σ:h8} {H:Hp} {E:List Sl} {xs:List V} {Xs:List Sl} {us:List V} {es:List PyData} {A:List Addr} (hl:us.length=es.length) (h:FrF K B F A σ H E (us.reverse++xs) (es.reverse.map .sh++Xs)):RpA K F us es∧∃A',FrF K B F A' σ H E xs Xs:=by
  obtain ⟨r,q⟩:=FrF.shsR (by simpa using hl) h
  have:=r.rev
  rw [List.reverse_reverse,List.reverse_reverse] at this
  exact ⟨this,q⟩
theorem fX {x1} (h:DX X es m1 d):EX X (.Tuple es x1 pos) m1 (db d):=by
  refine aW (uL h) fun σ H Q z=>?_
  obtain ⟨B,E,xs,Xs,res,E',fr,cl,e,q⟩:=z
  obtain ⟨⟨ds,E1⟩,e1,e⟩:=Option.bind_eq_some_iff.mp e
  simp only at e
  split at e
  · rename_i hl
    cases e
    refine ⟨B,E,xs,Xs,ds,_,fr,cl,e1,fun vs H1 hv ⟨F,A,fr1⟩=>?_⟩
    obtain ⟨r,A',fr2⟩:=fr1.shs hv
    exact ⟨dZ (by omega),fun p hp=>q _ _ ⟨_,_,fr2.newt r hp⟩⟩
  · cases e
theorem cP (h:DX X es m1 d):EX X (.List es pos) m1 (b4 d):=by
  refine aW (uM h) fun σ H Q z=>?_
  obtain ⟨B,E,xs,Xs,res,E',fr,cl,e,q⟩:=z
  obtain ⟨⟨ds,E1⟩,e1,e⟩:=Option.bind_eq_some_iff.mp e
  simp only at e
  split at e
  · rename_i hl
    cases e
    refine ⟨B,E,xs,Xs,ds,_,fr,cl,e1,fun vs H1 hv ⟨F,A,fr1⟩=>?_⟩
    obtain ⟨r,A',fr2⟩:=fr1.shs hv
    exact ⟨dZ (by omega),fun p hp=>q _ _ ⟨_,_,fr2.newl r hp⟩⟩
  · cases e
end
def sD (ds:List PyData) (lo hi:Option Int):List PyData:=(ds.drop (HT.kX ds.length 0 lo)).take (HT.kX ds.length ds.length hi - HT.kX ds.length 0 lo)
def fY:P2:=fun E s1 s2=>(look E s1).bind fun d1=>(look E s2).bind fun d2=>match d2 with
  | .int i=>match d1 with
    | .list ds=>(atI ds i).map fun d=>(if dA E s1&& !bH d then .br d else .sh d,E)
    | .tuple ds=>(atI ds i).map fun d=>(if dA E s1&& !bH d then .br d else .sh d,E)
    | .str z=>if z.length≤1000000 then (atI z.cps.toList i).map fun c=>(.sh (.str ⟨#[c]⟩),E) else none
    | _=>none
  | _=>none
section
variable {K:PySem.W.Frag} {H:Hp}
theorem RpA.atI {vs:List V} {ds:List PyData} {i:Int} {d:PyData} (h:RpA K H vs ds) (e:L2.atI ds i=some d):∃v,L2.atI vs i=some v∧Rp K H v d:=by
  unfold L2.atI at e ⊢
  obtain ⟨j,e1,e2⟩:=Option.bind_eq_some_iff.mp e
  obtain ⟨v,ev,r⟩:=h.get e2
  exact ⟨v,by rw [h.len,e1];exact ev,r⟩
theorem FrF.item {B F:Hp} {A:List Addr} {σ:h8} {E:List Sl} {xs:List V} {Xs:List Sl} {v1 v2 v:V} {s1 s2:Sl} {d:PyData} (fr:FrF K B F A σ H E (v2::v1::xs) (s2::s1::Xs)) (r:Rp K H v d) (f:dA E s1=false→Rp K F v d):
    Frm K B σ H E (v::xs) ((if dA E s1&& !bH d then .br d else .sh d)::Xs):=by
  by_cases hc:(dA E s1&& !bH d)=true
  · rw [if_pos hc]
    exact fr.res2 ⟨rfl,v,rfl,r⟩
  · rw [if_neg hc]
    refine fr.res2 ⟨rfl,v,rfl,?_⟩
    cases hh:dA E s1 with
    | false=>exact f hh
    | true=>
      rw [hh] at hc
      exact fr.cold r (by simpa using hc)
theorem u8:fe K (yj K) fY:=by
  intro B F A σ H E xs Xs v1 v2 s1 s2 res E' Q fr e q
  obtain ⟨d1,e1,e⟩:=Option.bind_eq_some_iff.mp e
  obtain ⟨d2,e2,e⟩:=Option.bind_eq_some_iff.mp e
  obtain ⟨r1,f1⟩:=fr.look1 e1
  have r2:=(fr.look0 e2).1
  split at e
  · cases r2
    split at e
    · obtain ⟨d,ed,e⟩:=Option.map_eq_some_iff.mp e
      cases e
      cases hh:dA E s1 with
      | false=>
        obtain ⟨a,vs,rfl,h1,h2⟩:=f1 hh
        obtain ⟨v,ev,rv⟩:=h2.atI ed
        have z:=fr.item (rv.same fr.fh) fun _=>rv
        rw [hh] at z q
        exact .inl ⟨_,_,_,v,rfl,rfl,h1,ev,q _ _ z⟩
      | true=>
        cases r1 with
        | lst h1 h2=>
          obtain ⟨v,ev,rv⟩:=h2.atI ed
          have z:=fr.item rv fun h=>absurd (hh.symm.trans h) (by decide)
          rw [hh] at z q
          exact .inl ⟨_,_,_,v,rfl,rfl,h1,ev,q _ _ z⟩
    · obtain ⟨d,ed,e⟩:=Option.map_eq_some_iff.mp e
      cases e
      cases hh:dA E s1 with
      | false=>
        have h0:Rp K F v1 _:=f1 hh
        cases h0 with
        | tup h1 h2=>
          obtain ⟨v,ev,rv⟩:=h2.atI ed
          have z:=fr.item (rv.same fr.fh) fun _=>rv
          rw [hh] at z q
          exact .inr (.inl ⟨_,_,_,v,rfl,rfl,fr.fh.tup h1,ev,q _ _ z⟩)
      | true=>
        cases r1 with
        | tup h1 h2=>
          obtain ⟨v,ev,rv⟩:=h2.atI ed
          have z:=fr.item rv fun h=>absurd (hh.symm.trans h) (by decide)
          rw [hh] at z q
          exact .inr (.inl ⟨_,_,_,v,rfl,rfl,h1,ev,q _ _ z⟩)
    · split at e
      · rename_i hl
        obtain ⟨c,ec,e⟩:=Option.map_eq_some_iff.mp e
        cases e;cases r1
        exact .inr (.inr ⟨_,_,c,rfl,rfl,dZ hl,ec,q _ _ (fr.res2 ⟨rfl,_,rfl, .str _⟩)⟩)
      · cases e
    · cases e
  · cases e
end
end PL
namespace L2
open PySem PySem.Spec PyProof.Rows
section
variable {κ:Type} [DecidableEq κ]
def iu (kvs:List (κ×V)) (k:κ):Option V:=(kvs.find? fun kv=>decide (kv.1=k)).map (·.2)
def lA (kvs:List (κ×V)) (k:κ) (v:V):List (κ×V):=
  if (kvs.any fun kv=>decide (kv.1=k))=true then kvs.map (fun kv=>if kv.1=k then (kv.1,v) else kv) else kvs++[(k,v)]
def t8 (kvs:List (κ×V)) (k:κ):List (κ×V):=kvs.filter fun kv=>decide (kv.1≠k)
theorem iW {p:κ×V} {r:List (κ×V)} {k:κ} (e:p.1=k):iu (p::r) k=some p.2:=by simp [iu,List.find?_cons,e]
theorem iX {p:κ×V} {r:List (κ×V)} {k:κ} (e:¬p.1=k):iu (p::r) k=iu r k:=by simp [iu,List.find?_cons,e]
theorem lB (k:κ):∀kvs:List (κ×V),(kvs.any fun kv=>decide (kv.1=k))=(iu kvs k).isSome
  | []=>rfl
  | p::r=>by
    rw [List.any_cons]
    by_cases e:p.1=k
    · simp only [iW e,decide_eq_true e,Bool.true_or,Option.isSome_some]
    · rw [iX e,decide_eq_false e,Bool.false_or];exact lB k r
theorem RelO.isSome_eq {o:Option V} {u:Option Value} (r:RelO o u):o.isSome=u.isSome:=by
  cases o with
  | none=>cases u with
    | none=>rfl
    | some _=>exact (show False from r).elim
  | some _=>cases u with
    | none=>exact (show False from r).elim
    | some _=>rfl
theorem RelO.getD {o:Option V} {u:Option Value} {d:V} {d':Value} (r:RelO o u) (rd:RelV d d'):RelV (o.getD d) (u.getD d'):=by
  cases o with
  | none=>cases u with
    | none=>exact rd
    | some _=>exact (show False from r).elim
  | some _=>cases u with
    | none=>exact (show False from r).elim
    | some _=>exact r
theorem KV.val {kvs:List (κ×V)} {vs:List (κ×Value)} (r:KV kvs vs) (k:κ):RelO (iu kvs k) (valueAt vs k):=by
  unfold KV at r
  induction r with
  | nil=>exact True.intro
  | @cons p q ps qs h t ih=>
    obtain ⟨h1,h2⟩:=h
    by_cases e:p.1=k
    · have e':q.1=k:=h1.symm.trans e
      have b:valueAt (q::qs) k=some q.2:=by simp [valueAt,List.find?_cons,e']
      rw [iW e,b];exact h2
    · have e':¬q.1=k:=fun z=>e (h1.trans z)
      have b:valueAt (q::qs) k=valueAt qs k:=by simp [valueAt,List.find?_cons,e']
      rw [iX e,b];exact ih
theorem KV.any {kvs:List (κ×V)} {vs:List (κ×Value)} (r:KV kvs vs) (k:κ):(kvs.any fun kv=>decide (kv.1=k))=vs.any fun kv=>decide (kv.1=k):=by
  unfold KV at r
  induction r with
  | nil=>rfl
  | cons h t ih=>rw [List.any_cons,List.any_cons,ih,h.1]
theorem KV.repl {kvs:List (κ×V)} {vs:List (κ×Value)} (r:KV kvs vs) (k:κ) {y:V} {u:Value} (ry:RelV y u):
    KV (kvs.map fun kv=>if kv.1=k then (kv.1,y) else kv) (vs.map fun kv=>if kv.1=k then (kv.1,u) else kv):=by
  unfold KV at r ⊢
  induction r with
  | nil=>exact .nil
  | @cons p q ps qs h t ih=>
    rw [List.map_cons,List.map_cons]
    refine .cons ?_ ih
    obtain ⟨h1,h2⟩:=h
    by_cases e:p.1=k
    · rw [if_pos e,if_pos (h1.symm.trans e)];exact ⟨h1,ry⟩
    · rw [if_neg e,if_neg (fun z=>e (h1.trans z))];exact ⟨h1,h2⟩
theorem KV.put {kvs:List (κ×V)} {vs:List (κ×Value)} (r:KV kvs vs) (k:κ) {y:V} {u:Value} (ry:RelV y u):KV (lA kvs k y) (stored vs k u):=by
  unfold lA stored
  rw [r.any k]
  by_cases e:(vs.any fun kv=>decide (kv.1=k))=true
  · rw [if_pos e,if_pos e];exact r.repl k ry
  · rw [if_neg e,if_neg e];exact Paired.snoc r ⟨rfl,ry⟩
theorem KV.drop {kvs:List (κ×V)} {vs:List (κ×Value)} (r:KV kvs vs) (k:κ):KV (t8 kvs k) (without vs k):=by
  unfold KV at r ⊢
  unfold t8 without
  induction r with
  | nil=>exact .nil
  | @cons p q ps qs h t ih=>
    obtain ⟨h1,h2⟩:=h
    rw [List.filter_cons,List.filter_cons]
    by_cases e:p.1=k
    · have a:¬decide (p.1≠k)=true:=by simp [e]
      have b:¬decide (q.1≠k)=true:=by simp [h1.symm.trans e]
      rw [if_neg a,if_neg b];exact ih
    · have e':¬q.1=k:=fun z=>e (h1.trans z)
      have a:decide (p.1≠k)=true:=by simp [e]
      have b:decide (q.1≠k)=true:=by simp [e']
      rw [if_pos a,if_pos b];exact .cons ⟨h1,h2⟩ ih
theorem KV.keys {kvs:List (κ×V)} {vs:List (κ×Value)} (r:KV kvs vs):kvs.map (·.1)=vs.map (·.1):=by
  unfold KV at r
  induction r with
  | nil=>rfl
  | cons h t ih=>rw [List.map_cons,List.map_cons,ih,h.1]
theorem KV.length {kvs:List (κ×V)} {vs:List (κ×Value)} (r:KV kvs vs):kvs.length=vs.length:=Paired.length r
end
abbrev KT (H:Hp):List (List cL×V)→List (List cL×Addr×Value)→Prop:=Paired fun p q=>p.1=q.1∧H q.2.1=some (.tup (p.1.map kV))∧RelV p.2 q.2.2
theorem KT.val {H:Hp} {kvs:List (List cL×V)} {xs:List (List cL×Addr×Value)} (r:KT H kvs xs) (k:List cL):RelO (iu kvs k) ((atKey xs k).map (·.2)):=by
  induction r with
  | nil=>exact True.intro
  | @cons p q ps qs h t ih=>
    obtain ⟨h1,_,h2⟩:=h
    by_cases e:p.1=k
    · have e':q.1=k:=h1.symm.trans e
      have b:atKey (q::qs) k=some q.2:=by simp [atKey,List.find?_cons,e']
      rw [iW e,b];exact h2
    · have e':¬q.1=k:=fun z=>e (h1.trans z)
      have b:atKey (q::qs) k=atKey qs k:=by simp [atKey,List.find?_cons,e']
      rw [iX e,b];exact ih
theorem KT.repl {H:Hp} {kvs:List (List cL×V)} {xs:List (List cL×Addr×Value)} (r:KT H kvs xs) (k:List cL) {y:V} {u:Value} (ry:RelV y u):
    KT H (kvs.map fun kv=>if kv.1=k then (kv.1,y) else kv) (xs.map (putAt k u)):=by
  induction r with
  | nil=>exact .nil
  | @cons p q ps qs h t ih=>
    rw [List.map_cons,List.map_cons]
    refine .cons ?_ ih
    obtain ⟨h1,h2,h3⟩:=h
    unfold putAt
    by_cases e:p.1=k
    · rw [if_pos e,if_pos (h1.symm.trans e)];exact ⟨h1,h2,ry⟩
    · rw [if_neg e,if_neg (fun z=>e (h1.trans z))];exact ⟨h1,h2,h3⟩
theorem KT.put {H:Hp} {kvs:List (List cL×V)} {xs:List (List cL×Addr×Value)} (r:KT H kvs xs) (k:List cL) {b:Addr} {y:V} {u:Value} (hb:H b=some (.tup (k.map kV))) (ry:RelV y u):
    KT H (lA kvs k y) (storedH xs k b u):=by
  have e:(kvs.any fun kv=>decide (kv.1=k))=(atKey xs k).isSome:=by
    rw [lB,(r.val k).isSome_eq,Option.isSome_map]
  unfold lA storedH
  rw [e]
  by_cases q:(atKey xs k).isSome=true
  · rw [if_pos q,if_pos q];exact r.repl k ry
  · rw [if_neg q,if_neg q];exact Paired.snoc r ⟨rfl,hb,ry⟩
theorem KT.keeps {H H':Hp} {kvs:List (List cL×V)} {xs:List (List cL×Addr×Value)} (r:KT H kvs xs) (ht:∀b ys,H b=some (.tup ys)→H' b=some (.tup ys)):KT H' kvs xs:=
  Paired.mapP r fun _ _ z=>⟨z.1,ht _ _ z.2.1,z.2.2⟩
section
variable {P:Program} {w:World} {H:Hp} {h:Heap} {a:Addr}
theorem ww {u:HO} (ok:HOk P w H h) (e:Rd H a u):ObjOk P w H h a u:=e.ok ok
theorem wx {kvs:List (cL×V)} (ok:HOk P w H h) (e:Rd H a (.dK kvs)):kvs.length≤sizeLine∧(a == sysModules)=false∧∃vs,KV kvs vs∧h.DictOf (iA P w) a vs:=
  show ObjOk P w H h a (.dK kvs) from ww ok e
end
def DGet (H:Hp) (a:Addr) (y:V) (r:Option V):Prop:=
  (∃kvs k,Rd H a (.dK kvs)∧y=kV k∧r=iu kvs k)∨∃kvs k b,Rd H a (.dT kvs)∧y= .ref b∧H b=some (.tup (k.map kV))∧r=iu kvs k
def DPut (H:Hp) (a:Addr) (y v:V) (H':Hp):Prop:=
  (∃kvs k,H a=some (.dK kvs)∧y=kV k∧kvs.length < sizeLine∧H'=upd H a (.dK (lA kvs k v)))∨
  ∃kvs k b,H a=some (.dT kvs)∧y= .ref b∧H b=some (.tup (k.map kV))∧kvs.length < sizeLine∧H'=upd H a (.dT (lA kvs k v))
theorem DGet.k {H:Hp} {a:Addr} {kvs:List (cL×V)} {k:cL} (e:H a=some (.dK kvs)):DGet H a (kV k) (iu kvs k):= .inl ⟨kvs,k, .inl e,rfl,rfl⟩
theorem DGet.t {H:Hp} {a b:Addr} {kvs:List (List cL×V)} {k:List cL} (e:H a=some (.dT kvs)) (eb:H b=some (.tup (k.map kV))):DGet H a (.ref b) (iu kvs k):= .inr ⟨kvs,k,b, .inl e,rfl,eb,rfl⟩
theorem DPut.k {H:Hp} {a:Addr} {kvs:List (cL×V)} {k:cL} {v:V} (e:H a=some (.dK kvs)) (hl:kvs.length < sizeLine):DPut H a (kV k) v (upd H a (.dK (lA kvs k v))):= .inl ⟨kvs,k,e,rfl,hl,rfl⟩
theorem DPut.t {H:Hp} {a b:Addr} {kvs:List (List cL×V)} {k:List cL} {v:V} (e:H a=some (.dT kvs)) (eb:H b=some (.tup (k.map kV))) (hl:kvs.length < sizeLine):
    DPut H a (.ref b) v (upd H a (.dT (lA kvs k v))):= .inr ⟨kvs,k,b,e,rfl,eb,hl,rfl⟩
section
variable {X:Cx} {pins:List (Addr×Obj)} {σ:St} {H:Hp} {s:Shared} {a:Addr} {y v:V} {u r:Value} {o:Option V} {A:Around} {E:Value→Shared→Prop}
theorem Inv.big (I:Inv X pins σ H s):sysModules < s.heap.objs.size:=by
  have h:mainGlobals < s.heap.objs.size:=(I.mod.glob.keeps I.bk).lt
  exact Nat.lt_trans (by decide) h
end
theorem qi {P:Program} {w:World} {H:Hp} (h:Heap) (hb:sysModules < h.objs.size):ObjOk P w H (h.push {cls:= .type "dict",data:= .dict #[]}) h.objs.size (.dK []):=
  ⟨Nat.zero_le _,beq_eq_false_iff_ne.mpr (Ne.symm (Nat.ne_of_lt hb)),[], .nil,Heap.DictOf.new h⟩
def u9:TE:=fun _ H Q=>∀p,H p=none→Q (.ref p) (upd H p (.dK []))
section
variable {X:Cx} {pos:Pos}
theorem qj:PE X (.Dict [] [] pos) u9:=fun pins s σ H Q I h=>
  wpAny_Dict_empty ⟨.ref s.heap.objs.size,_,I.laid (a:=s.heap.objs.size) (o:= .dK []) (t':=s.toks) (fun _ _ q=>Heap.get?_push_of_some _ q) (Nat.le_refl _) (qi s.heap I.big),rfl,h _ (I.hok.fresh (Nat.le_refl _))⟩
end
end L2
namespace PL
open PySem L2 Nh
theorem d9 {X:Cx} {a b:Expr} {m1 m2:Bool} {f g:bP} {pos:Pos} (ha:EX X a m1 f) (hb:EX X b m2 g) (hs:nI b:=by exact fun _ _=>rfl):EX X (.Subscript a b pos) (m1||m2) (ag fY m2 f g):=aW (wg uP ha hb hs) fun _ _ _ h=>ky u8 h
abbrev u_:=List Sl→Option (Option Int×List Sl)
def ro (K:PySem.W.Frag) (m:Bool) (f:u_):TO:=fun σ H Q=>∃B E xs Xs o E',Frm K B σ H E xs Xs∧(m=true→Calm Xs)∧f E=some (o,E')∧∀H',Frm K B σ H' E' xs Xs→Q o H'
def OX (X:Cx) (e:Option Expr) (m:Bool) (f:u_):Prop:=PO X e (ro X.K m f)
def dF:u_:=fun E=>some (none,E)
def dG (f:bP):u_:=fun E=>(f E).bind fun a=>match look a.2 a.1 with
  | some (.int i)=>some (some i,a.2)
  | _=>none
section
variable {X:Cx} {e:Expr} {lo hi:Option Expr} {m1 m2 m3:Bool} {f:bP} {g h:u_} {pos p2:Pos} {K:PySem.W.Frag}
theorem qk {e:Option Expr} {t t':TO} (h:PO X e t) (k:∀σ H Q,t' σ H Q→t σ H Q):PO X e t':=fun pins s σ H Q I q=>h pins s σ H Q I (k σ H Q q)
theorem fH:OX X none false dF:=qk rV fun σ H Q z=>by
  obtain ⟨B,E,xs,Xs,res,E',fr,cl,e,q⟩:=z
  cases e
  exact q _ fr
theorem fI (he:EX X e m1 f):OX X (some e) m1 (dG f):=qk (rW he) fun σ H Q z=>by
  obtain ⟨B,E,xs,Xs,res,E',fr,cl,e,q⟩:=z
  obtain ⟨⟨s,E1⟩,e1,e⟩:=Option.bind_eq_some_iff.mp e
  refine ⟨B,E,xs,Xs,s,E1,fr,cl,e1,fun v1 H1 ⟨F,A,fr1⟩=>?_⟩
  simp only at e
  split at e
  · rename_i i l
    cases e
    have r:=(fr1.look0 l).1
    cases r
    obtain ⟨A',fr2⟩:=fr1.pop
    exact ⟨i,rfl,q _ ⟨F,A',fr2⟩⟩
  · cases e
theorem RpA.cut {F:Hp} {vs:List V} {ds:List PyData} (h:RpA K F vs ds) (lo hi:Option Int):RpA K F (oD vs lo hi) (sD ds lo hi):=by
  unfold oD sD
  rw [h.len]
  exact (h.drop _).take _
end
def aH (E:List Sl):List Sl→Option (List PyData)
  | []=>some []
  | s::ss=>(look E s).bind fun d=>(aH E ss).map fun ds=>d::ds
theorem lookA_iff {E:List Sl}:∀{ss:List Sl} {ds:List PyData},aH E ss=some ds↔Paired (fun s d=>look E s=some d) ss ds
  | [],ds=>⟨fun h=>by cases h;exact .nil,fun h=>by cases h;rfl⟩
  | s::ss,ds=>by
    constructor
    · intro h
      obtain ⟨d,h1,h⟩:=Option.bind_eq_some_iff.mp h
      obtain ⟨es,h2,h⟩:=Option.map_eq_some_iff.mp h
      cases h
      exact .cons h1 (lookA_iff.mp h2)
    · intro h
      cases h with
      | cons h1 h2=>simp [aH,h1,lookA_iff.mpr h2]
theorem oN {E:List Sl} {ss:List Sl} {ds:List PyData} (h:aH E ss=some ds):aH E ss.reverse=some ds.reverse:=lookA_iff.mpr (fV (lookA_iff.mp h))
section
variable {X:Cx} {K:PySem.W.Frag} {B F:Hp} {σ:h8} {H:Hp} {E:List Sl} {xs:List V} {Xs:List Sl}
theorem FrF.looksR:∀{us:List V} {ts:List Sl} {es:List PyData} {A:List Addr},us.length=ts.length→FrF K B F A σ H E (us++xs) (ts++Xs)→aH E ts=some es→RpA K H us es∧∃A',FrF K B F A' σ H E xs Xs
  | [],[],es,A,_,h,e=>by cases e;exact ⟨.nil,A,h⟩
  | u::us,t::ts,es,A,hl,h,e=>by
    obtain ⟨d,h1,e⟩:=Option.bind_eq_some_iff.mp e
    obtain ⟨es',h2,e⟩:=Option.map_eq_some_iff.mp e
    cases e
    have r:=(FrF.look0 (xs:=us++xs) (Xs:=ts++Xs) h h1).1
    obtain ⟨A',h'⟩:=FrF.pop (xs:=us++xs) (Xs:=ts++Xs) h
    obtain ⟨r',q⟩:=FrF.looksR (by simpa using hl) h' h2
    exact ⟨.cons r r',q⟩
  | [],_::_,_,_,e,_,_=>by cases e
  | _::_,[],_,_,e,_,_=>by cases e
theorem FrF.looks {us:List V} {ts:List Sl} {es:List PyData} {A:List Addr} (hl:us.length=ts.length) (h:FrF K B F A σ H E (us.reverse++xs) (ts.reverse++Xs)) (e:aH E ts=some es):RpA K H us es∧∃A',FrF K B F A' σ H E xs Xs:=by
  obtain ⟨r,q⟩:=FrF.looksR (by simpa using hl) h (oN e)
  have:=r.rev
  rw [List.reverse_reverse,List.reverse_reverse] at this
  exact ⟨this,q⟩
end
def va (K:PySem.W.Frag) (r:List V→Hp→VK→Prop) (op:List PyData→Option PyData):Prop:=∀(ds:List PyData) (d:PyData) (vs:List V) (H:Hp) (Q:VK),op ds=some d→RpA K H vs ds→∃v,tY d=some v∧(Q v H→r vs H Q)
def cE (op:List PyData→Option PyData) (g:kY):bP:=fun E=>(g E).bind fun a=>(aH a.2 a.1).bind fun ds=>(op ds).map fun d=>(.sh d,a.2)
theorem vb {K:PySem.W.Frag} {r:List V→Hp→VK→Prop} {op:List PyData→Option PyData} (hp:va K r op) {m:Bool} {g:kY} {σ:h8} {H:Hp} {Q:VK} (h:rd K m (cE op g) σ H Q):xG r (ra K m g) σ H Q:=by
  obtain ⟨B,E,xs,Xs,res,E',fr,cl,e,q⟩:=h
  obtain ⟨⟨rs,E1⟩,e1,e⟩:=Option.bind_eq_some_iff.mp e
  obtain ⟨ds,e2,e⟩:=Option.bind_eq_some_iff.mp e
  obtain ⟨d,e3,e⟩:=Option.map_eq_some_iff.mp e
  cases e
  refine ⟨B,E,xs,Xs,rs,E1,fr,cl,e1,fun vs H1 hl ⟨F,A,fr1⟩=>?_⟩
  obtain ⟨r1,A',fr2⟩:=fr1.looks hl e2
  obtain ⟨v,hv,k⟩:=hp ds d vs H1 Q e3 r1
  exact k (q v H1 ⟨F,A',fr2.push ⟨rfl,v,rfl,iQ hv⟩⟩)
def cF:List PyData→Option PyData
  | [.list xs]=>some (.int xs.length)
  | [.tuple xs]=>some (.int xs.length)
  | [.str z]=>if z.length≤1000000 then some (.int z.length) else none
  | _=>none
theorem RpA.one {K:PySem.W.Frag} {H:Hp} {vs:List V} {d:PyData} (h:RpA K H vs [d]):∃v,vs=[v]∧Rp K H v d:=by
  cases h with
  | cons h t=>cases t;exact ⟨_,rfl,h⟩
theorem RpA.two {K:PySem.W.Frag} {H:Hp} {vs:List V} {d e:PyData} (h:RpA K H vs [d,e]):∃v u,vs=[v,u]∧Rp K H v d∧Rp K H u e:=by
  cases h with
  | cons h t=>
    obtain ⟨u,rfl,r⟩:=t.one
    exact ⟨_,_,rfl,h,r⟩
section
variable {X:Cx} {e:Expr} {es:List Expr} {m1:Bool} {g:kY} {p pos:Pos} {K:PySem.W.Frag}
abbrev wy (K:PySem.W.Frag):List V→Hp→VK→Prop:=fun xs H Q=>(∃p ys,xs=[.ref p]∧(SqL K H p ys∨SqT K H p ys)∧Q (.int ys.length) H)∨(∃z,xs=[.str z]∧z.length≤sizeLine∧Q (.int z.length) H)
theorem sE:va K (wy K) cF:=fun ds d vs H Q e r=>by
  unfold cF at e
  split at e
  · cases e
    obtain ⟨v,rfl,r'⟩:=r.one
    cases r' with
    | lst h1 h2=>exact ⟨_,rfl,fun q=> .inl ⟨_,_,rfl, .inl h1,by rw [h2.len];exact q⟩⟩
  · cases e
    obtain ⟨v,rfl,r'⟩:=r.one
    cases r' with
    | tup h1 h2=>exact ⟨_,rfl,fun q=> .inl ⟨_,_,rfl, .inr h1,by rw [h2.len];exact q⟩⟩
  · split at e
    · rename_i hl
      cases e
      obtain ⟨v,rfl,r'⟩:=r.one
      cases r'
      exact ⟨_,rfl,fun q=> .inr ⟨_,rfl,dZ hl,q⟩⟩
    · cases e
  · cases e
theorem ql {x:Str} {id:String} {r:List V→Hp→VK→Prop} {op:List PyData→Option PyData} (hp:va X.K r op) (hc:CallR X (.builtin id) r) (hg:Gl X x) (hm:X.mg x=none) (hv:bootBuiltins x=some (.builtin id)) (ha:AX X (e::es) m1 g) (hn:x≠"__name__":=by decide) (hdb:(x == ("__debug__":Str))=false:=by decide)
    (he:starEach (e::es) X.env=(false,eval e X.env)::starEach es X.env:=by rfl) (hpl:(backTo pos (starEach es X.env)).any (·.1)=false:=by rfl):EX X (.Call (.Name x p) (e::es) [] pos) m1 (cE op g):=
  aW (gq hc hg hm hv ha hn hdb he hpl) fun _ _ _ h=>vb hp h
theorem dH (hg:Gl X "len") (hm:X.mg "len"=none) (ha:AX X [e] m1 g) (he:starEach [e] X.env=[(false,eval e X.env)]:=by rfl):EX X (.Call (.Name "len" p) [e] [] pos) m1 (cE cF g):=ql sE (CallR.or kn ko) hg hm PySem.boot_len ha (by decide) (by decide) he rfl
end
def kB (g:bP):bP:=fun E=>(g E).bind fun a=>match look a.2 a.1 with
  | some (.list ds)=>if !dA a.2 a.1||aS ds then some (.ow ds,a.2) else none
  | some (.tuple ds)=>if !dA a.2 a.1||aS ds then some (.ow ds,a.2) else none
  | _=>none
section
variable {X:Cx} {e:Expr} {m1:Bool} {f:bP} {p pos:Pos} {K:PySem.W.Frag}
theorem sG (hg:Gl X "list") (hm:X.mg "list"=none) (ha:EX X e m1 f) (he:starEach [e] X.env=[(false,eval e X.env)]:=by rfl):EX X (.Call (.Name "list" p) [e] [] pos) m1 (kB f):=by
  refine aW (jO kq hg hm PyProof.Rows.boot_list (bR ha cN he) (by decide) (by decide) he rfl) fun σ H Q z=>?_
  obtain ⟨B,E,xs,Xs,res,E',fr,cl,e,q⟩:=z
  obtain ⟨⟨s,E1⟩,e1,e⟩:=Option.bind_eq_some_iff.mp e
  refine ⟨B,E,xs,Xs,s,E1,fr,cl,e1,fun v1 H1 ⟨F,A,fr1⟩=>?_⟩
  obtain ⟨A',fr2⟩:=fr1.pop
  simp only at e
  split at e
  · rename_i ds ld
    split at e
    · rename_i hc
      cases e
      obtain ⟨a,vs,ev,h1,h2⟩:=fr1.items (k:=0) rfl ld hc
      cases ev
      exact ⟨a,vs,rfl, .inl h1,fun l hl=>q _ _ ⟨F,_,fr2.newl h2 hl⟩⟩
    · cases e
  · rename_i ds ld
    split at e
    · rename_i hc
      cases e
      obtain ⟨r,f0⟩:=fr1.look0 ld
      cases hh:dA E' s with
      | false=>
        have h0:Rp X.K F v1 _:=f0 hh
        cases h0 with
        | tup h1 h2=>exact ⟨_,_,rfl, .inr (fr1.fh.tup h1),fun l hl=>q _ _ ⟨F,_,fr2.newl h2 hl⟩⟩
      | true=>
        rw [hh] at hc
        cases r with
        | tup h1 h2=>exact ⟨_,_,rfl, .inr h1,fun l hl=>q _ _ ⟨F,_,fr2.newl (fr1.coldA h2 (by simpa using hc)) hl⟩⟩
    · cases e
  · cases e
end
inductive Ty where
  | non | bool | int | str | list | tuple | dict
def Ty.name:Ty→String
  | .non=>"NoneType"
  | .bool=>"bool"
  | .int=>"int"
  | .str=>"str"
  | .list=>"list"
  | .tuple=>"tuple"
  | .dict=>"dict"
def Ty.is:Ty→Ty→Bool
  | .non, .non=>true
  | .bool, .bool=>true
  | .bool, .int=>true
  | .int, .int=>true
  | .str, .str=>true
  | .list, .list=>true
  | .tuple, .tuple=>true
  | .dict, .dict=>true
  | _,_=>false
def kZ:PyData→Ty
  | .none=> .non
  | .bool _=> .bool
  | .int _=> .int
  | .str _=> .str
  | .list _=> .list
  | .tuple _=> .tuple
  | .dict _=> .dict
theorem vd (K:PySem.W.Frag) (t n:Ty):PySem.W.kitOne K (.type t.name) (.type n.name)=some (t.is n):=by cases t <;> cases n <;> rfl
def dc (n:Ty):PyData→Option PyData
  | .dict ((.none,_)::_)=>none
  | d=>some (.bool ((kZ d).is n))
section
variable {X:Cx} {e:Expr} {m1:Bool} {f:bP} {p p2 pos:Pos}
theorem oO {pins:List (Addr×Obj)} {s:Shared} {σ:h8} {H:Hp} {x:V} {u:Value} {d r:PyData} {n:Ty} {A:Around} {E:Value→Shared→Prop} {Q:Value→Shared→Prop} (I:Inv X pins σ H s) (rx:RelV x u) (rp:Rp X.K H x d) (hd:dc n d=some r) (h:∀tk b,r= .bool b→Q (.bool b) {s with toks:=tk}):
    wpAny (model X.prog X.w) A (call (.builtin "isinstance") [u, .type n.name]) Q E s:=by
  have e:=vd X.K (kZ d) n
  have h:∀tk,r= .bool ((kZ d).is n)→Q (.bool ((kZ d).is n)) {s with toks:=tk}:=fun tk z=>h tk _ z
  cases rp with
  | non=>cases hd;exact fE I rx .non e fun tk=>h tk rfl
  | bl b=>cases hd;exact fE I rx (.bl b) e fun tk=>h tk rfl
  | int i=>cases hd;exact fE I rx (.int i) e fun tk=>h tk rfl
  | str y=>cases hd;exact fE I rx (.str y) e fun tk=>h tk rfl
  | lst h1 _=>
    cases hd
    cases rx
    obtain ⟨its,rv,⟨o,n',e1,c,_,d⟩,_⟩:=I.list h1
    exact PySem.W.kia_one PySem.W.kitx_list I.kIn ⟨_,e1,c⟩ e (fun z=>nomatch z) fun tk=>h tk rfl
  | tup h1 _=>
    cases hd
    cases rx
    obtain ⟨its,rv,⟨o,e1,c,n',d⟩,_⟩:=I.tuple h1
    exact PySem.W.kia_one PySem.W.kitx_tuple I.kIn ⟨_,e1,c⟩ e (fun z=>nomatch z) fun tk=>h tk rfl
  | dct h1 hk=>
    cases rx
    obtain ⟨_,_,vs,_,ob,es,ep,e1,c,_⟩:=wx I.hok h1
    refine PySem.W.kia_one PySem.W.kitx_dict I.kIn ⟨_,e1,c.1⟩ e (fun z=>nomatch z) fun tk=>h tk ?_
    cases hk with
    | nil=>cases hd;rfl
    | @cons k x us d kvs a b=>cases k <;> (cases hd;rfl)
  | exc h1 h2=>cases hd
theorem oP (n:Ty):CallR X (.builtin "isinstance") (fun xs H Q=>∃x d r,xs=[x, .ty n.name]∧Rp X.K H x d∧dc n d=some r∧∀b,r= .bool b→Q (.bl b) H):=by
  intro pins s σ H xs us Q I r h
  obtain ⟨x,d,r',rfl,rp,hd,q⟩:=h
  obtain ⟨u,w',rfl,ru,rw'⟩:=r.two
  cases (show w'=Value.type n.name from rw')
  exact oO I ru rp hd fun tk b z=>⟨.bl _,H,I.tok _,rfl,q b z⟩
theorem eN (n:Ty) (hg:Gl X "isinstance") (hm:X.mg "isinstance"=none) (ha:EX X e m1 f) {x:Str} (hgx:Gl X x) (hmx:X.mg x=none) (hbx:bootBuiltins x=some (.type n.name)) (hnx:x≠"__name__":=by decide) (hdx:(x == ("__debug__":Str))=false:=by decide)
    (he:starEach [e, .Name x p2] X.env=(false,eval e X.env)::starEach [.Name x p2] X.env:=by rfl) (he2:starEach [.Name x p2] X.env=[(false,eval (.Name x p2) X.env)]:=by rfl) (hpl:(backTo pos (starEach [.Name x p2] X.env)).any (·.1)=false:=by rfl):
    EX X (.Call (.Name "isinstance" p) [e, .Name x p2] [] pos) m1 (di (dc n) f):=by
  have h2:PE X (.Name x p2) (tC (.ty n.name)):=nC (v:= .ty n.name) hgx hmx hbx rfl hnx hdx
  refine aW (gq (oP n) hg hm PyProof.Rows.boot_isinstance (bR ha (bR h2 cN he2) he) (by decide) (by decide) he hpl) fun σ H Q z=>?_
  obtain ⟨B,E,xs,Xs,res,E',fr,cl,e,q⟩:=z
  obtain ⟨⟨s,E1⟩,e1,e⟩:=Option.bind_eq_some_iff.mp e
  obtain ⟨d1,e2,e⟩:=Option.bind_eq_some_iff.mp e
  obtain ⟨d2,e3,e⟩:=Option.map_eq_some_iff.mp e
  cases e
  refine ⟨B,E,xs,Xs,s,E1,fr,cl,e1,fun v1 H1 ⟨F,A,fr1⟩=>?_⟩
  obtain ⟨A',fr2⟩:=fr1.pop
  exact ⟨v1,d1,d2,rfl,(fr1.look0 e2).1,e3,fun b z=>q _ _ ⟨F,A',fr2.push ⟨rfl,_,rfl,z▸ .bl b⟩⟩⟩
end
end PL
namespace PL
open PySem L2 Nh
def nV (K:PySem.W.Frag) (H H':Hp) (v:V):Sl→Prop
  | .sh d=>Rp K (tups H') v d
  | .ow ds=>∃l vs,v= .ref l∧H l=none∧H' l=some (.lst vs)∧RpA K (tups H') vs ds
  | .tx ps=>∃t vs A,v= .ref t∧tups H' t=some (.tup vs)∧A.Nodup∧(∀a∈A,H a=none)∧PtsOk K (tups H') H' vs ps A
  | .od kvs=>∃l us A,v= .ref l∧(l::A).Nodup∧(∀a∈l::A,H a=none)∧H' l=some (.dK us)∧DlOk K (tups H') H' us kvs A
  | .br d=>Rp K H' v d
  | _=>False
def cC (K:PySem.W.Frag) (c:List PyData→Option Sl):Sp:=fun vs H Q _=>∃ds r,c ds=some r∧RpA K H vs ds∧∀v H',Same H H'→nV K H H' v r→Q v H'
section
variable {K:PySem.W.Frag} {B F:Hp} {A N:List Addr} {σ:h8} {H H':Hp} {E:List Sl} {xs:List V} {Xs:List Sl} {v:V} {s:Sl}
theorem FrF.growN (h:FrF K B F A σ H E xs Xs) (g:Same H H') (hN:∀a∈N,H a=none∧((∃us,H' a=some (.lst us))∨∃us,H' a=some (.dK us))):FrF K B (fun b=>if b∈N then none else if b∈A then none else H' b) A σ H' E xs Xs:=by
  have h1:=h.grow g
  have nF:∀b o,F b=some o→b∉N:=fun b o e hb=>by
    have:=h.fh.free (hN b hb).1
    rw [this] at e;cases e
  have FF:Same F (fun b=>if b∈N then none else if b∈A then none else H' b):=fun b o e=>by
    have nA:b∉A:=fun hb=>by rw [h.fr b hb] at e;cases e
    show (if b∈N then none else if b∈A then none else H' b)=some o
    rw [if_neg (nF b o e),if_neg nA]
    exact g _ _ (h.fh _ _ e)
  have hA:∀b∈A,H' b=H b:=fun b hb=>by
    rcases h.mutA b hb with ⟨_,z⟩ | ⟨_,z⟩ <;> rw [z,g _ _ z]
  refine ⟨h.bf.trans FF,fun b o e=>?_,fun b o e=>?_,h.sl.mono fun o s C _ hC q=>q.stay FF (fun b hb=>hA b (hC b hb)) fun _=>g,h.nd,fun a ha=>?_,h.len,h.pl⟩
  · by_cases hb:b∈N
    · rw [if_pos hb] at e;cases e
    · rw [if_neg hb] at e;exact h1.fh _ _ e
  · show (if b∈N then none else if b∈A then none else H' b)=some o
    by_cases hb:b∈N
    · obtain ⟨e1,e2⟩:=Option.filter_eq_some_iff.mp e
      rcases (hN b hb).2 with ⟨us,z⟩ | ⟨us,z⟩ <;> rw [z] at e1 <;> cases e1 <;> cases e2
    · rw [if_neg hb];exact h1.tf _ _ e
  · show (if a∈N then none else if a∈A then none else H' a)=none
    by_cases hb:a∈N
    · rw [if_pos hb]
    · rw [if_neg hb,if_pos ha]
theorem FrF.pushR (h:FrF K B F A σ H E xs Xs) (q:SlOk K F H σ (some v) s N) (nd:N.Nodup) (dj:∀a∈N,a∉A) (fr:∀a∈N,F a=none):FrF K B F (N++A) σ H E (v::xs) (s::Xs):=
  ⟨h.bf,h.fh,h.tf, .cons q h.sl,List.nodup_append.mpr ⟨nd,h.nd,fun a ha b hb e=>dj a ha (e▸hb)⟩,fun a ha=>(List.mem_append.mp ha).elim (fr a) (h.fr a),by simp [h.len],h.pl⟩
theorem FrF.told (h:FrF K B F A σ H E xs Xs) (g:Same H H') (q:nV K H H' v s):Frm K B σ H' E (v::xs) (s::Xs):=by
  cases s with
  | sh d=>
    have h1:=h.grow g
    exact ⟨_,_,h1.push ⟨rfl,v,rfl,Rp.same h1.tf q⟩⟩
  | ow ds=>
    obtain ⟨l,vs,rfl,hl,hl',r⟩:=q
    have h1:=h.growN (N:=[l]) g fun a ha=>by rw [List.mem_singleton.mp ha];exact ⟨hl, .inl ⟨vs,hl'⟩⟩
    exact ⟨_,_,h1.pushR (N:=[l]) ⟨l,vs,rfl,rfl,hl',r.same h1.tf⟩ (by simp) (fun a ha=>by rw [List.mem_singleton.mp ha];exact h.newA hl) fun a ha=>if_pos ha⟩
  | tx ps=>
    obtain ⟨t,vs,N,rfl,ht,nd,hN,r⟩:=q
    have h1:=h.growN (N:=N) g fun a ha=>⟨hN a ha, .inl (r.some a ha)⟩
    exact ⟨_,_,h1.pushR (N:=N) ⟨t,vs,rfl,h1.tf _ _ ht,r.stay h1.tf fun _ _=>rfl⟩ nd (fun a ha=>h.newA (hN a ha)) fun a ha=>if_pos ha⟩
  | no=>exact False.elim q
  | od kvs=>
    obtain ⟨l,us,N,rfl,nd,hN,hl,r⟩:=q
    have h1:=h.growN (N:=l::N) g fun a ha=>⟨hN a ha,(List.mem_cons.mp ha).elim (fun z=> .inr ⟨us,z▸hl⟩) fun z=> .inl (r.some a z)⟩
    exact ⟨_,_,h1.pushR (N:=l::N) ⟨l,us,N,rfl,rfl,hl,r.stay h1.tf fun _ _=>rfl⟩ nd (fun a ha=>h.newA (hN a ha)) fun a ha=>if_pos ha⟩
  | al i=>exact False.elim q
  | br d=>
    have h1:=h.grow g
    exact ⟨_,_,h1.push ⟨rfl,v,rfl,q⟩⟩
end
def ak (c:List PyData→Option Sl) (g:kY):bP:=fun E=>(g E).bind fun a=>(aH a.2 a.1).bind fun ds=>(c ds).map fun r=>(r,a.2)
theorem aJ {X:Cx} {k:Nat} {x:Str} {ps:List Str} {c:List PyData→Option Sl} {p pos:Pos} {e:Expr} {es:List Expr} {m:Bool} {g:kY} (D:Own X.prog X.w X.K X.mg X.base k x ps (cC X.K c)) (hr:Room k X.A) (hg:Gl X x) (ha:AX X (e::es) m g)
    (hdb:(x == ("__debug__":Str))=false:=by decide) (he:starEach (e::es) X.env=(false,eval e X.env)::starEach es X.env:=by rfl) (hpl:(backTo pos (starEach es X.env)).any (·.1)=false:=by rfl):
    EX X (.Call (.Name x p) (e::es) [] pos) m (ak c g):=by
  refine aW (uU D hr hg ha hdb he hpl) fun σ H Q z=>?_
  obtain ⟨B,E,xs,Xs,res,E',fr,cl,e,q⟩:=z
  obtain ⟨⟨rs,E1⟩,e1,e⟩:=Option.bind_eq_some_iff.mp e
  obtain ⟨ds,e2,e⟩:=Option.bind_eq_some_iff.mp e
  obtain ⟨r,e3,e⟩:=Option.map_eq_some_iff.mp e
  cases e
  refine ⟨B,E,xs,Xs,rs,E1,fr,cl,e1,fun vs H1 hl ⟨F,A,fr1⟩=>?_⟩
  obtain ⟨r1,A',fr2⟩:=fr1.looks hl e2
  exact ⟨ds,res,e3,by rw [List.append_nil];exact r1,fun v H' g q'=>q v H' (fr2.told g q')⟩
def cw (i:Nat) (f:bP):bP:=fun E=>match E[i]? with
  | some (.ow _)=>(f E).bind fun a=>(frz a.2 a.1).bind fun b=>match b.2[i]? with
    | some (.ow ds)=>if ds.length < 1000000 then some (.sh .none,b.2.set i (.ow (ds++[b.1]))) else none
    | _=>none
  | _=>none
def kC (i:Nat):bP:=fun E=>match E[i]? with
  | some (.ow ds)=>(ds[ds.length - 1]?).map fun d=>(.sh d,E.set i (.ow ds.dropLast))
  | _=>none
section
variable {X:Cx} {e:Expr} {m1:Bool} {f:bP} {x:Str} {p apos cpos:Pos}
theorem jU (i:Nat) (he:EX X e m1 f) (hN:X.N[i]? =some x:=by rfl) (hv:tT X.env.scope x:=by first | exact Or.inl rfl | exact Or.inr (Or.inl rfl) | exact Or.inr (Or.inr rfl)) (hd:(x == ("__debug__":Str))=false:=by decide) (hcd:(x == ("__classdict__":Str))=false:=by decide)
    (hs:starEach [e] X.env=[(false,eval e X.env)]:=by rfl) (hbase:attributeBase (.Name x p) "append" X.env (eval (.Name x p) X.env)=eval (.Name x p) X.env:=by rfl)
    (hfew:((backTo cpos (starEach [e] X.env)).all (fun x=> !x.1)&&(backToKw cpos (keywordEach [] X.env)).all (fun x=>x.1.isSome)
      &&decide (([e]:List Expr).length+([]:List Keyword).length+(if ([]:List Keyword).isEmpty then 0 else 1) < 30))=true:=by rfl) (hline:(apos.endLine == cpos.line)=true:=by rfl):
    EX X (.Call (.Attribute (.Name x p) "append" apos) [e] [] cpos) true (cw i f):=by
  refine aW (nK PySem.F.plainAttrs_list PySem.F.slot_list_append PySem.F.type_list_append jP (gN hN hv hd hcd) (bR he cN hs) hbase hfew hline hs rfl) fun σ H Q z=>?_
  obtain ⟨B,E,xs,Xs,res,E',⟨F,A,fr⟩,cl,e,q⟩:=z
  unfold cw at e
  split at e
  · rename_i ds0 ei
    obtain ⟨⟨s,E1⟩,e1,e⟩:=Option.bind_eq_some_iff.mp e
    obtain ⟨⟨d,E2⟩,e2,e⟩:=Option.bind_eq_some_iff.mp e
    simp only at e
    split at e
    · rename_i ds ei2
      split at e
      · rename_i hl
        cases e
        obtain ⟨o,A1,eo,l,vs,rfl,rfl,hl0,_⟩:=fr.var ei
        refine ⟨_,eo, .inl ⟨rfl,_,SqL.of hl0⟩,B,E,xs,Xs,s,E1,⟨F,A,fr⟩,fun _=>cl rfl,e1,fun v H1 ⟨F1,A1,fr1⟩=>?_⟩
        obtain ⟨F2,A2,fr2⟩:=fr1.frz0 e2
        obtain ⟨v',A3,ev,rfl,w,ew,rv⟩:=fr2.ext (k:=0) rfl
        cases ev;cases ew
        obtain ⟨A4,fr3⟩:=fr2.pop
        obtain ⟨l',vs',eo',hl',r',put⟩:=fr3.mut ei2 (cl rfl)
        rw [eo] at eo'
        cases eo'
        have ll:=r'.len
        have fr4:=put (vs'++[v]) (ds++[d]) (r'.snoc rv)
        exact ⟨l,vs',v,rfl,rfl,hl',p_ (by omega),q _ _ ⟨_,_,fr4.push ⟨rfl,_,rfl, .non⟩⟩⟩
      · cases e
    · cases e
  · cases e
theorem ve (i:Nat) (hN:X.N[i]? =some x:=by rfl) (hv:tT X.env.scope x:=by first | exact Or.inl rfl | exact Or.inr (Or.inl rfl) | exact Or.inr (Or.inr rfl)) (hd:(x == ("__debug__":Str))=false:=by decide) (hcd:(x == ("__classdict__":Str))=false:=by decide)
    (hbase:attributeBase (.Name x p) "pop" X.env (eval (.Name x p) X.env)=eval (.Name x p) X.env:=by rfl) (hline:(apos.endLine == cpos.line)=true:=by rfl):
    EX X (.Call (.Attribute (.Name x p) "pop" apos) [] [] cpos) true (kC i):=by
  refine aW (pU PySem.F.plainAttrs_list PySem.F.slot_list_pop PySem.F.type_list_pop uR (gN hN hv hd hcd) hbase hline) fun σ H Q z=>?_
  obtain ⟨B,E,xs,Xs,res,E',⟨F,A,fr⟩,cl,e,q⟩:=z
  unfold kC at e
  split at e
  · rename_i ds ei
    obtain ⟨d,ed,e⟩:=Option.map_eq_some_iff.mp e
    cases e
    obtain ⟨l,vs,eo,hl,r,put⟩:=fr.mut ei (cl rfl)
    obtain ⟨y,ey,ry⟩:=r.get ed
    have fr2:=put vs.dropLast ds.dropLast r.dropLast
    exact ⟨_,eo, .inl ⟨rfl,_,SqL.of hl⟩,l,vs,y,rfl,rfl,hl,by rw [r.len];exact ey,q _ _ ⟨_,_,fr2.push ⟨rfl,_,rfl,ry⟩⟩⟩
  · cases e
end
def qm (s:Sl):Sl:=match s.val with
  | some d=> .sh d
  | none=> .no
def frzAll (E:List Sl):List Sl:=E.map qm
def settle (E:List Sl):Sl→Option (Sl×List Sl)
  | .al i=>(frz E (.al i)).map fun a=>(.sh a.1,a.2)
  | .br d=>if bH d then some (.sh d,E) else some (.sh d,frzAll E)
  | s=>some (s,E)
def ay (g h:b_):b_:=fun E=>(g E).bind fun a=>match a.2 with
  | .nx=>h a.1
  | fl=>some (a.1,fl)
def aw:b_:=fun E=>some (E, .nx)
def dX (f:bP):b_:=fun E=>(f E).map fun a=>(a.2, .nx)
def aF (f:bP):b_:=fun E=>(f E).bind fun a=>match a.1 with
  | .al i=>(a.2[i]?).map fun s=>(a.2.set i .no, .rt s)
  | s=>some (a.2, .rt s)
def aP (c:hW) (g h:b_):b_:=fun E=>(c E).bind fun a=>if a.1 then g a.2 else h a.2
def aO (i:Nat) (f:bP):b_:=fun E=>(f E).bind fun a=>(settle a.2 a.1).bind fun b=>if i < b.2.length then some (b.2.set i b.1, .nx) else none
section
variable {K:PySem.W.Frag} {B F:Hp} {A:List Addr} {σ:h8} {H:Hp} {E E':List Sl} {xs:List V} {Xs:List Sl} {v:V} {s s':Sl} {d:PyData}
theorem FrF.frzAll (h:FrF K B F A σ H E xs Xs) (hX:Xs=[]):FrF K B H [] σ H (PL.frzAll E) [] []:=by
  subst hX
  have hx:xs=[]:=by simpa using h.len
  subst hx
  refine ⟨h.bf.trans h.fh,Same.refl _,gR H,?_,List.nodup_nil,fun a ha=>(by cases ha),rfl,fun s hs=>?_⟩
  · have key:∀{os:List (Option V)} {ss:List Sl} {C:List Addr},SAll (SlOk K F H σ) os ss C→SAll (SlOk K H H σ) os (PL.frzAll ss) []:=fun {os ss C} r=>by
      induction r with
      | nil=>exact .nil
      | cons q _ ih=>
        refine .cons (A:=[]) ?_ ih
        unfold qm
        split
        · rename_i d e
          obtain ⟨v,rfl,r,_⟩:=q.val h.fh e
          exact ⟨rfl,v,rfl,r⟩
        · exact rfl
    exact key h.sl
  · obtain ⟨t,_,rfl⟩:=List.mem_map.mp hs
    unfold qm
    split <;> rfl
theorem FrF.settle (h:FrF K B F A σ H E (v::xs) (s::Xs)) (hX:Xs=[]) (q:PL.settle E s=some (s',E')):s'.isAl=false∧Frm K B σ H E' (v::xs) (s'::Xs):=by
  cases s with
  | al i=>
    obtain ⟨⟨d,E2⟩,e,z⟩:=Option.map_eq_some_iff.mp (show (frz E (.al i)).map (fun a=>(Sl.sh a.1,a.2))=some (s',E') from q)
    cases z
    obtain ⟨F',A',h'⟩:=h.frz0 e
    exact ⟨rfl,F',A',h'⟩
  | br d=>
    have r:=(h.look0 (d:=d) rfl).1
    obtain ⟨A',h'⟩:=h.pop
    simp only [PL.settle] at q
    split at q
    · rename_i hf
      cases q
      exact ⟨rfl,F,A',h'.push ⟨rfl,v,rfl,h.cold r hf⟩⟩
    · cases q
      have h2:=h'.frzAll hX
      have hl:=h'.len
      subst hX
      have hx:xs=[]:=by simpa using hl
      subst hx
      exact ⟨rfl,H,[],h2.push ⟨rfl,v,rfl,r⟩⟩
  | no=>cases q;exact ⟨rfl,F,A,h⟩
  | sh d=>cases q;exact ⟨rfl,F,A,h⟩
  | ow ds=>cases q;exact ⟨rfl,F,A,h⟩
  | od kvs=>cases q;exact ⟨rfl,F,A,h⟩
  | tx ps=>cases q;exact ⟨rfl,F,A,h⟩
theorem FrF.move {i:Nat} (h:FrF K B F A σ H E (v::xs) (.al i::Xs)) (e:E[i]? =some s):Frm K B σ H (E.set i .no) (v::xs) (s::Xs):=by
  obtain ⟨v',A1,ev,rfl,w,ew,hw⟩:=h.ext (k:=0) rfl
  cases ev;cases ew
  obtain ⟨A',h'⟩:=h.pop
  obtain ⟨o,A0,A1,A2,eA,eo,hp,put⟩:=h'.sl.at (k:=Xs.length+i) (s:=s) (by rw [List.getElem?_append_right (by omega)];simpa using e)
  have z:=put (SlOk K F H σ) o .no [] rfl fun _ _ _ _ _ q=>q
  have e3:(Xs++E).set (Xs.length+i) .no=Xs++E.set i .no:=by
    rw [List.set_append_right _ _ (by omega),Nat.add_sub_cancel_left]
  have e2:(List.map some xs++σ).set (Xs.length+i) o=List.map some xs++σ:=List.ext_getElem? fun j=>by
    by_cases hj:Xs.length+i=j
    · subst hj
      rw [List.getElem?_set_self',eo];rfl
    · rw [List.getElem?_set_ne hj]
  rw [e2,e3] at z
  rw [List.getElem?_append_right (by rw [List.length_map,h'.len];omega),List.length_map,h'.len,Nat.add_sub_cancel_left,hw] at eo
  cases eo
  have nd:=h'.nd
  rw [eA] at nd
  refine ⟨F,A1++(A0++([]++A2)),h.bf,h.fh,h.tf, .cons hp z,?_,fun a ha=>h'.fr a ?_,h.len,fun s' hs=>?_⟩
  · have p:(A1++(A0++([]++A2))).Perm (A0++(A1++A2)):=by
      rw [List.nil_append,←List.append_assoc,←List.append_assoc]
      exact List.Perm.append_right _ List.perm_append_comm
    exact p.nodup_iff.mpr nd
  · rw [eA]
    simp only [List.mem_append,List.nil_append] at ha ⊢
    rcases ha with z | z | z
    · exact .inr (.inl z)
    · exact .inl z
    · exact .inr (.inr z)
  · rcases List.mem_or_eq_of_mem_set hs with hs | hs
    · exact h.pl s' hs
    · subst hs;rfl
end
section
variable {X:Cx} {st:Stmt} {cm a b:List Stmt} {g h:b_} {e c:Expr} {m:Bool} {f:bP} {t:hW} {pos:Pos}
theorem aU:oJ X [] aw:=nU rG fun D σ H z=>by
  obtain ⟨B,E,xs,Xs,E',fl,fr,cl,e,q⟩:=z
  cases e
  exact q _ _ fr
theorem aj (h1:SX X st g):oJ X [st] g:=rH h1
theorem vf {K:PySem.W.Frag} {D:Ends} {σ:h8} {H:Hp} (z:rs K (ay g h) D σ H):rs K g {D with nx:=rs K h D} σ H:=by
  obtain ⟨B,E,xs,Xs,E',fl,fr,cl,e,q⟩:=z
  obtain ⟨⟨E1,f1⟩,e1,e⟩:=Option.bind_eq_some_iff.mp e
  refine ⟨B,E,xs,Xs,E1,f1,fr,cl,e1,?_⟩
  cases f1 with
  | nx=>exact fun σ' H' fr'=>⟨B,E1,xs,Xs,E',fl,fr',cl,e,q⟩
  | bk=>cases e;exact q
  | ct=>cases e;exact q
  | rt r=>cases e;exact q
theorem ai (h1:SX X st g) (h2:oJ X cm h):oJ X (st::cm) (ay g h):=nU (pF h1 h2) fun D σ H z=>vf z
theorem kD (he:EX X e m f) (hs:swapsWith e none pos.line X.env=pure false:=by rfl):SX X (.Expr e pos) (dX f):=gT (rJ he hs) fun D σ H z=>by
  obtain ⟨B,E,xs,Xs,E',fl,fr,cl,e,q⟩:=z
  obtain ⟨⟨s,E1⟩,e1,e⟩:=Option.map_eq_some_iff.mp e
  cases e
  refine ⟨B,E,xs,Xs,s,E1,fr,fun _=>Calm.nil cl,e1,fun v H1 ⟨F,A,fr1⟩=>?_⟩
  obtain ⟨A',fr2⟩:=fr1.pop
  exact q _ _ ⟨F,A',fr2⟩
theorem aK (he:EX X e m f):SX X (.Return (some e) pos) (aF f):=gT (ut he) fun D σ H z=>by
  obtain ⟨B,E,xs,Xs,E',fl,fr,cl,e,q⟩:=z
  obtain ⟨⟨s,E1⟩,e1,e⟩:=Option.bind_eq_some_iff.mp e
  refine ⟨B,E,xs,Xs,s,E1,fr,fun _=>Calm.nil cl,e1,fun v H1 ⟨F,A,fr1⟩=>?_⟩
  simp only at e
  split at e
  · obtain ⟨s',es,e⟩:=Option.map_eq_some_iff.mp e
    cases e
    exact q σ _ _ (fr1.move es)
  · cases e
    exact q σ _ _ ⟨F,A,fr1⟩
theorem b5 (hc:TX X c m t) (ha:oJ X a g) (hb:oJ X b h):SX X (.If c a b pos) (aP t g h):=gT (vX hc ha hb) fun D σ H z=>by
  obtain ⟨B,E,xs,Xs,E',fl,fr,cl,e,q⟩:=z
  obtain ⟨⟨b1,E1⟩,e1,e⟩:=Option.bind_eq_some_iff.mp e
  refine ⟨B,E,xs,Xs,b1,E1,fr,fun _=>Calm.nil cl,e1,fun H1 fr1=>?_⟩
  cases b1 with
  | true=>exact (if_pos rfl).mpr ⟨B,E1,xs,Xs,E',fl,fr1,cl,e,q⟩
  | false=>exact (if_neg (by decide)).mpr ⟨B,E1,xs,Xs,E',fl,fr1,cl,e,q⟩
theorem aZ (i:Nat) {x:Str} {pos':Pos} (hN:X.N.Nodup) (he:EX X e m f) (hi:X.N[i]? =some x:=by rfl) (hx:vO X.env.scope x:=by first | exact Or.inl rfl | exact Or.inr rfl) (hs:swapsWith e (some (.Name x pos')) pos.line X.env=pure false:=by rfl) (hf:X.fn x=true∨X.env.scope.names.lookup x=some .local:=by first | exact .inl rfl | exact .inr rfl | assumption):
    SX X (.Assign [.Name x pos'] e pos) (aO i f):=gT (uy hN hi hx he hs hf) fun D σ H z=>by
  obtain ⟨B,E,xs,Xs,E',fl,fr,cl,e,q⟩:=z
  obtain ⟨⟨s,E1⟩,e1,e⟩:=Option.bind_eq_some_iff.mp e
  obtain ⟨⟨s',E2⟩,e2,e⟩:=Option.bind_eq_some_iff.mp e
  refine ⟨B,E,xs,Xs,s,E1,fr,fun _=>Calm.nil cl,e1,fun v H1 ⟨F,A,fr1⟩=>?_⟩
  obtain ⟨c1,F2,A2,fr2⟩:=fr1.settle cl e2
  simp only at e
  split at e
  · rename_i hi
    cases e
    obtain ⟨A3,fr3⟩:=fr2.store c1 (Still.nil cl) hi
    exact q _ _ ⟨F2,A3,fr3⟩
  · cases e
end
end PL
namespace PL
open PySem L2 Nh
abbrev fZ:=PyData→List Sl→Option (List Sl)
abbrev lC:=List PyData→List Sl→Option (List Sl)
def rg (K:PySem.W.Frag) (h:fZ):TG:=fun v σ H Q=>∃B E xs Xs d E',Frm K B σ H E (v::xs) (.sh d::Xs)∧Still Xs∧h d E=some E'∧∀σ' H',Frm K B σ' H' E' xs Xs→Q σ' H'
def yz (K:PySem.W.Frag) (h:lC):rK:=fun vs σ H Q=>∃B E xs Xs ds E',vs.length=ds.length∧Frm K B σ H E (vs++xs) (ds.map .sh++Xs)∧Still Xs∧h ds E=some E'∧∀σ' H',Frm K B σ' H' E' xs Xs→Q σ' H'
def GX (X:Cx) (e:Expr) (h:fZ):Prop:=PG X e (rg X.K h)
def xc (X:Cx) (es:List Expr) (h:lC):Prop:=uw X es (yz X.K h)
def bA (i:Nat):fZ:=fun d E=>if i < E.length then some (E.set i (.sh d)) else none
def iY:lC:=fun ds E=>if ds.isEmpty then some E else none
def eO (h:fZ) (hs:lC):lC:=fun ds E=>match ds with
  | d::ds=>(h d E).bind (hs ds)
  | []=>none
def iZ (n:Nat) (hs:lC):fZ:=fun d E=>match d with
  | .tuple ds=>if ds.length=n then hs ds E else none
  | _=>none
section
variable {X:Cx}
theorem qo {e:Expr} {t t':TG} (h:PG X e t) (k:∀v σ H Q,t' v σ H Q→t v σ H Q):PG X e t':=fun pins s σ H v u Q I r q=>h pins s σ H v u Q I r (k v σ H Q q)
theorem nW {es:List Expr} {t t':rK} (h:uw X es t) (k:∀v σ H Q,t' v σ H Q→t v σ H Q):uw X es t':=fun pins s σ H v u Q I r q=>h pins s σ H v u Q I r (k v σ H Q q)
theorem bX (i:Nat) {x:Str} {pos:Pos} (hN:X.N.Nodup) (hi:X.N[i]? =some x:=by rfl) (hx:vO X.env.scope x:=by first | exact Or.inl rfl | exact Or.inr rfl) (hf:X.fn x=true∨X.env.scope.names.lookup x=some .local:=by first | exact .inl rfl | exact .inr rfl | assumption):GX X (.Name x pos) (bA i):=qo (rL hN hi hx hf) fun v σ H Q z=>by
  obtain ⟨B,E,xs,Xs,d,E',⟨F,A,fr⟩,cl,e,q⟩:=z
  unfold bA at e
  split at e
  · rename_i hi
    cases e
    obtain ⟨A',fr'⟩:=fr.store rfl cl hi
    exact q _ _ ⟨F,A',fr'⟩
  · cases e
theorem kE:xc X [] iY:=nW rM fun v σ H Q z=>by
  obtain ⟨B,E,xs,Xs,ds,E',hl,fr,cl,e,q⟩:=z
  unfold iY at e
  split at e
  · rename_i hd
    cases e
    have:ds=[]:=by simpa using hd
    subst this
    have hv:v=[]:=by simpa using hl
    subst hv
    exact ⟨rfl,q _ _ fr⟩
  · cases e
theorem d_ {e:Expr} {es:List Expr} {h:fZ} {hs:lC} (h1:GX X e h) (h2:xc X es hs) (hst:(assignEach (e::es) X.env).map (·.2)=assign e X.env::(assignEach es X.env).map (·.2):=by rfl):xc X (e::es) (eO h hs):=nW (pH h1 h2 hst) fun v σ H Q z=>by
  obtain ⟨B,E,xs,Xs,ds,E',hl,fr,cl,e,q⟩:=z
  cases ds with
  | nil=>cases e
  | cons d ds=>
    cases v with
    | nil=>cases hl
    | cons v vs=>
      obtain ⟨E1,e1,e2⟩:=Option.bind_eq_some_iff.mp e
      refine ⟨v,vs,rfl,B,E,vs++xs,ds.map Sl.sh++Xs,d,E1,fr,fun s hs=>?_,e1,fun σ1 H1 fr1=>⟨B,E1,xs,Xs,ds,E',by simpa using hl,fr1,cl,e2,q⟩⟩
      rcases List.mem_append.mp hs with hs | hs
      · obtain ⟨d',_,rfl⟩:=List.mem_map.mp hs
        rfl
      · exact cl s hs
theorem mR {es:List Expr} {k:Nat} {pos:Pos} {hs:lC} {n:Nat} (hc:X.calm=true) (h:xc X es hs) (hn:(assignEach es X.env).length=n:=by rfl) (hst:(assignEach es X.env).findIdx? (·.1)=none:=by rfl):GX X (.Tuple es k pos) (iZ n hs):=qo (ux hc h hn hst) fun v σ H Q z=>by
  obtain ⟨B,E,xs,Xs,d,E',⟨F,A,fr⟩,cl,e,q⟩:=z
  unfold iZ at e
  split at e
  · rename_i ds
    split at e
    · rename_i hl
      obtain ⟨v',A1,ev,rfl,w,ew,r⟩:=fr.ext (k:=0) rfl
      cases ev;cases ew
      cases r with
      | tup h1 h2=>
        obtain ⟨A',fr'⟩:=fr.pop
        have key:∀{us:List V} {es:List PyData},RpA X.K F us es→FrF X.K B F A' σ H E (us++xs) (es.map .sh++Xs):=fun {us es} r=>by
          induction us generalizing es with
          | nil=>cases r;exact fr'
          | cons u us ih=>
            cases r with
            | cons r1 r2=>exact (ih r2).push ⟨rfl,_,rfl,r1⟩
        exact ⟨_,_,rfl,fr.fh.tup h1,by rw [h2.len];exact hl,B,E,xs,Xs,ds,E',h2.len,⟨F,A',key h2⟩,cl,e,q⟩
    · cases e
  · cases e
end
def lD (K:PySem.W.Frag) (B0:Hp) (J:It) (ds:List PyData):Prop:=∀{B F:Hp} {A:List Addr} {σ:h8} {H:Hp} {E:List Sl} {xs:List V} {Xs:List Sl} (i:Nat),Same B0 B→FrF K B F A σ H E xs Xs→
  (∀d,ds[i]? =some d→J.go i H∧∀x H2,J.yld i H x H2→Frm K B σ H2 E (x::xs) (.sh d::Xs))∧(i=ds.length→J.stop i H)
def ri (K:PySem.W.Frag) (m:Bool) (f:gS):TI:=fun σ H R=>∃B E xs Xs ds E',Frm K B σ H E xs Xs∧(m=true→Calm Xs)∧f E=some (ds,E')∧∀B' J H',Same B B'→Frm K B' σ H' E' xs Xs→lD K B' J ds→R J H'
def IX (X:Cx) (tg e:Expr) (m:Bool) (f:gS):Prop:=PI X tg e (ri X.K m f)
theorem FrF.base {K:PySem.W.Frag} {B B' F:Hp} {A:List Addr} {σ:h8} {H:Hp} {E:List Sl} {xs:List V} {Xs:List Sl} (h:FrF K B' F A σ H E xs Xs) (s:Same B B'):FrF K B F A σ H E xs Xs:=⟨s.trans h.bf,h.fh,h.tf,h.sl,h.nd,h.fr,h.len,h.pl⟩
theorem Frm.base {K:PySem.W.Frag} {B B':Hp} {σ:h8} {H:Hp} {E:List Sl} {xs:List V} {Xs:List Sl} (h:Frm K B' σ H E xs Xs) (s:Same B B'):Frm K B σ H E xs Xs:=let ⟨F,A,h⟩:=h;⟨F,A,h.base s⟩
theorem FrF.raise {K:PySem.W.Frag} {B F:Hp} {A:List Addr} {σ:h8} {H:Hp} {E:List Sl} {xs:List V} {Xs:List Sl} (h:FrF K B F A σ H E xs Xs):FrF K F F A σ H E xs Xs:=⟨Same.refl _,h.fh,h.tf,h.sl,h.nd,h.fr,h.len,h.pl⟩
def kF (lo:Int) (n:Nat):List PyData:=(List.range n).map fun (k:Nat)=> .int (lo+(k:Int))
def mS (g:kY):gS:=fun E=>(g E).bind fun a=>match aH a.2 a.1 with
  | some [.int j]=>if -1000000≤j∧j≤1000000 then some (kF 0 j.toNat,a.2) else none
  | _=>none
def ia (f:bP):gS:=fun E=>(f E).bind fun a=>(frz a.2 a.1).bind fun b=>match b.1 with
  | .list ds=>some (ds.reverse,b.2)
  | _=>none
section
variable {X:Cx} {tg e e2:Expr} {m:Bool} {f:bP} {g:kY} {p pos:Pos} {K:PySem.W.Frag} {B:Hp}
theorem kG {t t':TI} (h:PI X tg e t) (k:∀σ H Q,t' σ H Q→t σ H Q):PI X tg e t':=fun pins s σ H R I q=>h pins s σ H R I (k σ H R q)
theorem jV {a:Addr} {vs:List V} {ds:List PyData} (h:SqL K B a vs) (r:RpA K B vs ds):lD K B (xx K a) ds:=fun {B' F A σ H E xs Xs} i sB fr=>by
  have hH:=fr.fh.seq (fr.bf.seq (sB.seq h))
  refine ⟨fun d ed=>?_,fun e=>⟨vs,hH,by rw [e,r.len];exact Nat.le_refl _⟩⟩
  obtain ⟨v,ev,rv⟩:=r.get ed
  refine ⟨⟨vs,v,hH,ev⟩,fun x H2 ⟨e2,y⟩=>?_⟩
  subst e2
  have:=y vs hH
  rw [ev] at this
  cases this
  exact ⟨F,A,fr.push ⟨rfl,_,rfl,rv.same (sB.trans fr.bf)⟩⟩
theorem qp {a:Addr} {vs:List V} {ds:List PyData} (h:SqL K B a vs) (r:RpA K B vs ds):lD K B (xN K a vs) ds.reverse:=fun {B' F A σ H E xs Xs} i sB fr=>by
  have hH:=fr.fh.seq (fr.bf.seq (sB.seq h))
  refine ⟨fun d ed=>?_,fun e=>⟨hH,by rw [e,List.length_reverse,r.len]⟩⟩
  obtain ⟨v,ev,rv⟩:=r.rev.get ed
  have hi:i < vs.length:=by
    have:=(List.getElem?_eq_some_iff.mp ev).1
    simpa using this
  refine ⟨⟨hH,hi⟩,fun x H2 ⟨e2,y⟩=>?_⟩
  subst e2
  rw [ev] at y
  cases y
  exact ⟨F,A,fr.push ⟨rfl,_,rfl,rv.same (sB.trans fr.bf)⟩⟩
theorem mT {lo:Int} {n:Nat}:lD K B (xa lo n) (kF lo n):=fun {B' F A σ H E xs Xs} i sB fr=>by
  have hl:(kF lo n).length=n:=by simp [kF]
  refine ⟨fun d ed=>?_,fun e=>?_⟩
  · have hi:i < n:=by have:=(List.getElem?_eq_some_iff.mp ed).1;omega
    refine ⟨hi,fun x H2 ⟨e2,y⟩=>?_⟩
    subst e2 y
    have:d= .int (lo+i):=by
      unfold kF at ed
      rw [List.getElem?_map,List.getElem?_range hi] at ed
      exact (Option.some.inj ed).symm
    subst this
    exact ⟨F,A,fr.push ⟨rfl,_,rfl, .int _⟩⟩
  · show n≤i
    omega
theorem kH (hg:Gl X "reversed") (hm:X.mg "reversed"=none) (he:EX X e m f) (hs:starEach [e] X.env=[(false,eval e X.env)]:=by rfl):IX X tg (.Call (.Name "reversed" p) [e] [] pos) m (ia f):=kG (uT hg hm (bR he cN hs) hs) fun σ H R z=>by
  obtain ⟨B,E,xs,Xs,ds,E',fr,cl,e,q⟩:=z
  obtain ⟨⟨s,E1⟩,e1,e⟩:=Option.bind_eq_some_iff.mp e
  obtain ⟨⟨d,E2⟩,e2,e⟩:=Option.bind_eq_some_iff.mp e
  refine ⟨B,E,xs,Xs,s,E1,fr,cl,e1,fun v H1 ⟨F,A,fr1⟩=>?_⟩
  obtain ⟨F2,A2,fr2⟩:=fr1.frz0 e2
  simp only at e
  split at e
  · cases e
    obtain ⟨v',A1,ev,rfl,w,ew,r⟩:=fr2.ext (k:=0) rfl
    cases ev;cases ew
    cases r with
    | lst h1 h2=>
      obtain ⟨A3,fr3⟩:=fr2.pop
      exact ⟨_,_,rfl,fr2.fh.seq h1,q F2 _ _ fr2.bf ⟨F2,A3,fr3.raise⟩ (qp h1 h2)⟩
  · cases e
theorem oQ (hg:Gl X "range") (hm:X.mg "range"=none) (ha:AX X [e] m g) (hs:starEach [e] X.env=[(false,eval e X.env)]:=by rfl):IX X tg (.Call (.Name "range" p) [e] [] pos) m (mS g):=kG (ox hg hm ha hs) fun σ H R z=>by
  obtain ⟨B,E,xs,Xs,ds,E',fr,cl,e,q⟩:=z
  obtain ⟨⟨rs,E1⟩,e1,e⟩:=Option.bind_eq_some_iff.mp e
  refine ⟨B,E,xs,Xs,rs,E1,fr,cl,e1,fun vs H1 hl ⟨F,A,fr1⟩=>?_⟩
  simp only at e
  split at e
  · rename_i j ld
    split at e
    · rename_i hj
      cases e
      obtain ⟨r,A',fr2⟩:=fr1.looks hl ld
      obtain ⟨v,rfl,r'⟩:=r.one
      cases r'
      exact ⟨j,rfl,by omega,by omega,q B _ _ (Same.refl _) ⟨F,A',fr2⟩ mT⟩
    · cases e
  · cases e
end
def dq (tg:fZ) (body:b_):List PyData→b_
  | [],E=>some (E, .nx)
  | d::ds,E=>((tg d E).bind body).bind fun a=>match a.2 with
    | .nx=>dq tg body ds a.1
    | .ct=>dq tg body ds a.1
    | .bk=>some (a.1, .nx)
    | .rt r=>some (a.1, .rt r)
def gW (it:gS) (tg:fZ) (body:b_):b_:=fun E=>(it E).bind fun a=>dq tg body a.1 a.2
theorem i0 {X:Cx} {tg iter:Expr} {body:List Stmt} {m:Bool} {it:gS} {g:fZ} {b:b_} {pos:Pos} (hp:PassesOwn (model X.prog X.w) X.A X.env X.xe) (hc:X.calm=true) (hi:IX X tg iter m it) (hg:GX X tg g) (hb:oJ X body b)
    (hs:∀x,foldedSetIterable iter X.env x=pure x:=by intro _;rfl):SX X (.For tg iter body [] pos) (gW it g b):=gT (pJ hp hc hi hg hb hs) fun D σ H z=>by
  obtain ⟨B,E,xs,Xs,E',fl,fr,cl,e,q⟩:=z
  obtain ⟨⟨ds,E1⟩,e1,e⟩:=Option.bind_eq_some_iff.mp e
  refine ⟨B,E,xs,Xs,ds,E1,fr,fun _=>Calm.nil cl,e1,fun B' J H1 hB fr1 ok=>?_⟩
  refine ⟨fun i mm σ' H'=>mm=ds.length - i∧i≤ds.length∧∃Ei,dq g b (ds.drop i) Ei=some (E',fl)∧Frm X.K B' σ' H' Ei xs Xs,⟨ds.length,by simp,Nat.zero_le _,E1,by simpa using e,fr1⟩,?_⟩
  rintro i mm σ' H' ⟨rfl,hi,Ei,ei,F,A,fri⟩
  obtain ⟨go,stop⟩:=ok i (Same.refl _) fri
  by_cases hlt:i < ds.length
  · obtain ⟨d,ed⟩:∃d,ds[i]? =some d:=⟨ds[i],List.getElem?_eq_getElem hlt⟩
    obtain ⟨g1,yl⟩:=go d ed
    have edr:ds.drop i=d::ds.drop (i+1):=by
      rw [List.drop_eq_getElem_cons hlt]
      congr 1
      exact Option.some.inj ((List.getElem?_eq_getElem hlt).symm.trans ed)
    rw [edr] at ei
    obtain ⟨⟨E2,f2⟩,e2,ei⟩:=Option.bind_eq_some_iff.mp ei
    obtain ⟨E3,e3,e2⟩:=Option.bind_eq_some_iff.mp e2
    refine .inr ⟨g1,fun σ2 H2=>∃Ej,dq g b (ds.drop (i+1)) Ej=some (E',fl)∧Frm X.K B' σ2 H2 Ej xs Xs,fun σ2 H2 ⟨Ej,ej,frj⟩=>⟨ds.length - (i+1),by omega,rfl,hlt,Ej,ej,frj⟩,fun x H2 y=>?_⟩
    refine ⟨B',Ei,xs,Xs,d,E3,yl x H2 y,Still.nil cl,e3,fun σ3 H3 fr3=>?_⟩
    refine ⟨B',E3,xs,Xs,E2,f2,fr3,cl,e2,?_⟩
    cases f2 with
    | nx=>exact fun σ4 H4 fr4=>⟨E2,ei,fr4⟩
    | ct=>exact fun σ4 H4 fr4=>⟨E2,ei,fr4⟩
    | bk=>cases ei;exact fun σ4 H4 fr4=>q _ _ (fr4.base hB)
    | rt r=>cases ei;exact fun σ4 v H4 fr4=>q _ _ _ (fr4.base hB)
  · have e0:i=ds.length:=by omega
    refine .inl ⟨stop e0,?_⟩
    rw [e0,List.drop_length] at ei
    cases ei
    exact q _ _ (Frm.base ⟨F,A,fri⟩ hB)
def bi:Sl→Bool
  | .sh d=>bH d
  | .ow ds=>aS ds
  | .tx ps=>ps.all fun p=>match p with | .fl d=>bH d | .ol ds=>aS ds
  | .od kvs=>kvs.all fun p=>aS p.2
  | _=>false
def av (n:Nat) (ds:List PyData):List Sl:=ds.map .sh++List.replicate (n - ds.length) .no
def cp (r:Sl):Option Sl:=if bi r then some r else match r with
  | .sh d=>some (.br d)
  | .ow ds=>some (.br (.list ds))
  | .tx ps=>some (.br (.tuple (ps.map Pt.val)))
  | .br d=>some (if bH d then .sh d else .br d)
  | _=>none
def cI (n:Nat) (g:b_):List PyData→Option Sl:=fun ds=>(g (av n ds)).bind fun a=>match a.2 with
  | .rt r=>cp r
  | .nx=>some (.sh .none)
  | _=>none
section
variable {K:PySem.W.Frag} {B F:Hp} {A:List Addr} {σ:h8} {H:Hp} {E:List Sl} {v:V} {r:Sl}
theorem DlOk.cold {F H:Hp} (sF:Same F H):∀{us:List (cL×V)} {kvs:List (cL×List PyData)} {A:List Addr},(∀p∈kvs,aS p.2=true)→DlOk K F H us kvs A→DlOk K (tups H) H us kvs A
  | [],[],A,_,h=>h
  | p::us,q::kvs,A,c,h=>by
    obtain ⟨l,vs,A',rfl,rfl,hl,hr,k⟩:=h
    exact ⟨l,vs,A',rfl,rfl,hl,(hr.same sF).cold (c q (List.mem_cons_self ..)),DlOk.cold sF (fun p hp=>c p (List.mem_cons_of_mem _ hp)) k⟩
  | [],_::_,_,_,h=>False.elim h
  | _::_,[],_,_,h=>False.elim h
theorem PtsOk.cold {F H G:Hp} (sF:Same F H) (tG:∀{v:V} {d:PyData},Rp K F v d→bH d=true→Rp K G v d):∀{vs:List V} {ps:List Pt} {A:List Addr},(∀p∈ps,(match p with | .fl d=>bH d | .ol ds=>aS ds)=true)→PtsOk K F H vs ps A→PtsOk K G H vs ps A
  | [],[],A,_,h=>h
  | v::vs, .fl d::ps,A,c,h=>⟨tG h.1 (c (.fl d) (List.mem_cons_self ..)),PtsOk.cold sF tG (fun p hp=>c p (List.mem_cons_of_mem _ hp)) h.2⟩
  | v::vs, .ol ds::ps,A,c,h=>by
    obtain ⟨l,us,A',rfl,rfl,hl,hr,q⟩:=h
    refine ⟨l,us,A',rfl,rfl,hl,?_,q.cold sF tG fun p hp=>c p (List.mem_cons_of_mem _ hp)⟩
    have cd:aS ds=true:=c (.ol ds) (List.mem_cons_self ..)
    have key:∀{us:List V} {ds:List PyData},RpA K F us ds→aS ds=true→RpA K G us ds:=fun {us ds} r c=>by
      induction us generalizing ds with
      | nil=>cases r;exact .nil
      | cons u us ih=>
        cases r with
        | cons r1 r2=>
          simp only [aS,Bool.and_eq_true] at c
          exact .cons (tG r1 c.1) (ih r2 c.2)
    exact key hr cd
  | [],_::_,_,_,h=>False.elim h
  | _::_,[],_,_,h=>False.elim h
theorem FrF.result (h:FrF K B F A σ H E [v] [r]) (c:bi r=true):Same B H∧nV K B H v r:=by
  refine ⟨h.bf.trans h.fh,?_⟩
  have nB:∀a,F a=none→B a=none:=fun a e=>h.bf.free e
  have cold:∀{v:V} {d:PyData},Rp K F v d→bH d=true→Rp K (tups H) v d:=fun r f=>(r.same h.fh).cold f
  obtain ⟨v',A1,ev,hs⟩:=h.ext (k:=0) rfl
  cases ev
  obtain ⟨o,C0,C1,C2,eA,eo,hp,_⟩:=h.sl.at (k:=0) (s:=r) rfl
  cases eo
  have sub:∀a∈C1,F a=none:=fun a ha=>h.fr a (by rw [eA];simp [ha])
  have nd:C1.Nodup:=by
    have:=h.nd
    rw [eA] at this
    exact (List.nodup_append.mp (List.nodup_append.mp this).2.1).1
  cases r with
  | sh d=>obtain ⟨_,w,ew,r⟩:=hp;cases ew;exact cold r c
  | ow ds=>
    obtain ⟨l,vs,el,rfl,hl,r⟩:=hp
    cases el
    exact ⟨l,vs,rfl,nB l (sub l (by simp)),hl,(r.same h.fh).cold c⟩
  | tx ps=>
    obtain ⟨t,vs,et,ht,r⟩:=hp
    cases et
    exact ⟨t,vs,C1,rfl,gr (h.fh _ _ ht) rfl,nd,fun a ha=>nB a (sub a ha),r.cold h.fh cold (by simpa [bi,List.all_eq_true] using c)⟩
  | no=>cases c
  | od kvs=>
    obtain ⟨l,us,A',el,rfl,hl,r⟩:=hp
    cases el
    exact ⟨l,us,A',rfl,nd,fun a ha=>nB a (sub a ha),hl,r.cold h.fh (by simpa [bi,List.all_eq_true] using c)⟩
  | al i=>cases c
  | br d=>cases c
theorem FrF.resultO {r':Sl} (h:FrF K B F A σ H E [v] [r]) (c:cp r=some r'):Same B H∧nV K B H v r':=by
  unfold cp at c
  split at c
  · rename_i hc
    cases c
    exact h.result hc
  · refine ⟨h.bf.trans h.fh,?_⟩
    cases r with
    | sh d=>cases c;exact (h.look0 (d:=d) rfl).1
    | ow ds=>cases c;exact (h.look0 (d:= .list ds) rfl).1
    | tx ps=>cases c;exact (h.look0 (d:= .tuple (ps.map Pt.val)) rfl).1
    | br d=>
      have r:=(h.look0 (d:=d) rfl).1
      simp only at c
      split at c
      · rename_i hf
        cases c
        exact r.cold hf
      · cases c
        exact r
    | no=>cases c
    | od kvs=>cases c
    | al i=>cases c
theorem iB {N:List Str} {vs:List V} {ds:List PyData} (r:RpA K H vs ds) (hn:ds.length≤N.length):FrF K H H [] (L2.dn N vs) H (av N.length ds) [] []:=by
  refine ⟨Same.refl _,Same.refl _,gR H,?_,List.nodup_nil,fun a ha=>(by cases ha),rfl,?_⟩
  · have l:=r.len
    unfold L2.dn av
    rw [l]
    generalize N.length - ds.length=k
    have base:∀τ:h8,SAll (SlOk K H H τ) (List.replicate k none) (List.replicate k .no) []:=fun τ=>by
      induction k with
      | zero=>exact .nil
      | succ k ih=>exact .cons (A:=[]) rfl ih
    have key:∀(τ:h8) {us:List V} {es:List PyData},RpA K H us es→SAll (SlOk K H H τ) (us.map some++List.replicate k none) (es.map .sh++List.replicate k .no) []:=fun τ us es r=>by
      induction us generalizing es with
      | nil=>cases r;exact base τ
      | cons u us ih=>
        cases r with
        | cons r1 r2=>exact .cons (A:=[]) ⟨rfl,_,rfl,r1⟩ (ih _ r2)
    exact key _ r
  · intro s hs
    unfold av at hs
    rcases List.mem_append.mp hs with hs | hs
    · obtain ⟨d,_,rfl⟩:=List.mem_map.mp hs
      rfl
    · rw [(List.mem_replicate.mp hs).2]
      rfl
end
def cq (k n:Nat) (g:b_):List PyData→Option Sl:=fun ds=>if ds.length=k then cI n g ds else none
theorem fj {P:Program} {w:World} {K:PySem.W.Frag} {mg:Str→Option Value} {base:Heap} {x:Str} {st:Stmt} {N ps:List Str} {k a n:Nat} {g:b_} (D:Def K mg x st ps) (S:FnScope N ps (ae st)) (hpa:ps.length=a) (hNn:N.length=n) (hps:a≤n)
    (hbody:∀(f:Addr) (cdv:Value) (A:Around) (outer:List Env) (s:Shared) (H:Hp) (E:XK),Room k (A.deeper (PyProof.Rows.envOfC x (ae st) s.heap.objs.size f cdv))→
      oJ (e8 mK P w K mg base N x (ae st) f cdv A outer s H E).nox (aB st) g):Own P w K mg base (k+1) x ps (cC K (cq a n g)):=by
  subst hpa hNn
  refine D.own S (fun vs H Q E h=>?_) (fun f cdv A outer s H vs Q E hr h=>?_)
  · obtain ⟨ds,r,e,rp,_⟩:=h
    unfold cq at e
    split at e
    · rename_i hl
      rw [rp.len];exact hl
    · cases e
  obtain ⟨ds,r,e,rp,q⟩:=h
  unfold cq at e
  split at e
  · rename_i hl
    refine ⟨_,hbody f cdv A outer s H E hr,?_⟩
    obtain ⟨⟨E',fl⟩,e1,e⟩:=Option.bind_eq_some_iff.mp e
    refine ⟨H,av N.length ds,[],[],E',fl,⟨H,[],iB rp (by omega)⟩,rfl,e1,?_⟩
    cases fl with
    | nx=>
      cases e
      rintro σ' H' ⟨F',A',fr'⟩
      exact q _ _ (fr'.bf.trans fr'.fh) .non
    | bk=>cases e
    | ct=>cases e
    | rt r'=>
      rintro σ' v H' ⟨F',A',fr'⟩
      obtain ⟨s1,s2⟩:=fr'.resultO e
      exact q v H' s1 s2
  · cases e
theorem yA {P:Program} {w:World} {K:PySem.W.Frag} {mg:Str→Option Value} {base:Heap} {x:Str} {st:Stmt} {N ps:List Str} {k a n:Nat} {g:b_} {f0:Addr} {fd:FuncData} (D:Fun K x x st f0 fd) (S:FnScope N ps (ae st)) (hpa:ps.length=a) (hNn:N.length=n) (hps:a≤n)
    (hbody:∀(cdv:Value) (A:Around) (outer:List Env) (s:Shared) (H:Hp) (E:XK),Room k (A.deeper (PyProof.Rows.envOfC x (ae st) s.heap.objs.size f0 cdv))→
      oJ (e8 mK P w K mg base N x (ae st) f0 cdv A outer s H E).nox (aB st) g):FnOk P w K mg base mK (k+1) f0 fd ps (cC K (cq a n g)):=by
  subst hpa hNn
  refine D.ok S (fun vs H Q E h=>?_) (fun cdv A outer s H vs Q E hr h=>?_)
  · obtain ⟨ds,r,e,rp,_⟩:=h
    unfold cq at e
    split at e
    · rename_i hl
      rw [rp.len];exact hl
    · cases e
  obtain ⟨ds,r,e,rp,q⟩:=h
  unfold cq at e
  split at e
  · rename_i hl
    refine ⟨_,hbody cdv A outer s H E hr,?_⟩
    obtain ⟨⟨E',fl⟩,e1,e⟩:=Option.bind_eq_some_iff.mp e
    refine ⟨H,av N.length ds,[],[],E',fl,⟨H,[],iB rp (by omega)⟩,rfl,e1,?_⟩
    cases fl with
    | nx=>
      cases e
      rintro σ' H' ⟨F',A',fr'⟩
      exact q _ _ (fr'.bf.trans fr'.fh) .non
    | bk=>cases e
    | ct=>cases e
    | rt r'=>
      rintro σ' v H' ⟨F',A',fr'⟩
      obtain ⟨s1,s2⟩:=fr'.resultO e
      exact q v H' s1 s2
  · cases e
theorem jW {K:PySem.W.Frag} {H:Hp}:∀ns:List Int,RpA K H (ns.map V.int) (ns.map PyData.int)
  | []=> .nil
  | n::ns=> .cons (.int n) (jW ns)
theorem vg {K:PySem.W.Frag} {H:Hp} {a:Addr} {ns:List Int} {c:List PyData→Option Sl} (e:c [.list (ns.map .int)]=some (.sh (.bool true))) (h:SqL K H a (ns.map V.int)):cC K c [.ref a] H (fun v _=>v= .bl true) fun _ _ _=>False:=
  ⟨_,_,e, .cons (.lst h (jW ns)) .nil,fun v H' _ r=>by
    have r':Rp K (tups H') v (.bool true):=r
    cases r'
    rfl⟩
end PL
namespace PL
open PySem L2 Nh
def i3 (E:List Sl):Option Nat→Sl
  | none=> .no
  | some j=>match (E[j]?).bind Sl.val with
    | some d=> .sh d
    | none=> .no
def eP (js:List (Option Nat)) (E:List Sl):List Sl:=js.map (i3 E)
def fS:hW:=fun E=>some (true,E)
def de (tg:fZ) (cond:hW) (elt:bP):List PyData→List Sl→Option (List PyData)
  | [],_=>some []
  | d::ds,E=>(tg d E).bind fun E1=>(cond E1).bind fun b=>if b.1 then (elt b.2).bind fun c=>(frz c.2 c.1).bind fun e=>(de tg cond elt ds e.2).map fun r=>e.1::r else de tg cond elt ds b.2
def du (js:List (Option Nat)) (it:gS) (tg:fZ) (cond:hW) (elt:bP):bP:=fun E=>(it E).bind fun a=>(de tg cond elt a.1 (eP js a.2)).bind fun ds=>if aS ds&&decide (ds.length≤1000000) then some (.ow ds,a.2) else none
section
variable {X:Cx} {elt target iter:Expr} {ifs:List Expr} {scope sc:Scope} {cl:List (Str×Addr)} {N:List Str} {pos:Pos} {js:List (Option Nat)} {K:PySem.W.Frag}
theorem qr {B F:Hp} {A:List Addr} {σ:h8} {H:Hp} {E:List Sl} {xs:List V} {Xs:List Sl} (fr:FrF K B F A σ H E xs Xs) (js:List (Option Nat)):FrF K H H [] (slots js σ) H (eP js E) [] []:=by
  refine ⟨Same.refl _,Same.refl _,gR H,?_,List.nodup_nil,fun a ha=>(by cases ha),rfl,fun s hs=>?_⟩
  · have key:∀(τ:h8) (ks:List (Option Nat)),SAll (SlOk K H H τ) (slots ks σ) (eP ks E) []:=fun τ ks=>by
      induction ks with
      | nil=>exact .nil
      | cons j ks ih=>
        refine .cons (A:=[]) ?_ ih
        cases j with
        | none=>exact rfl
        | some j=>
          show SlOk K H H τ _ (match (E[j]?).bind Sl.val with | some d=> .sh d | none=> .no) []
          cases ej:E[j]? with
          | none=>exact rfl
          | some s=>
            cases ev:s.val with
            | none=>simp only [Option.bind_some,ev];exact rfl
            | some d=>
              simp only [Option.bind_some,ev]
              obtain ⟨o,A1,eo,hs⟩:=fr.var ej
              obtain ⟨v,rfl,r,_⟩:=hs.val fr.fh ev
              refine ⟨rfl,v,?_,r⟩
              show (σ[j]?).join=some v
              rw [eo]
              rfl
    exact key _ js
  · obtain ⟨j,_,rfl⟩:=List.mem_map.mp hs
    cases j with
    | none=>rfl
    | some j=>
      simp only [i3]
      split <;> rfl
theorem jX {m2 m3:Bool} {tg:fZ} {cond:hW} {el:bP} {tt:TT} (htt:∀σ H Q,rt K m2 cond σ H Q→tt σ H Q) {B B' F:Hp} {A:List Addr} {σ:h8} {H1:Hp} {E1:List Sl} {xs:List V} {Xs:List Sl} {ds rs:List PyData} {J:It} {Q:VK}
    (fr1:FrF K B F A σ H1 E1 xs Xs) (B2:Same B' H1) (ok:lD K B' J ds) (e2:de tg cond el ds (eP js E1)=some rs) (hc:aS rs=true∧rs.length≤1000000) (q:∀v H',Frm K B σ H' E1 (v::xs) (.ow rs::Xs)→Q v H') (l:Addr) (hl:H1 l=none):
    ∃W:Nat→Nat→h8→Hp→Prop,(∃m,W 0 m (slots js σ) (upd H1 l (.lst [])))∧
  ∀i m σ' H',W i m σ' H'→(J.stop i H'∧Q (.ref l) H')∨(J.go i H'∧∃N:h8→Hp→Prop,(∀σ' H',N σ' H'→∃m',m' < m∧W (i+1) m' σ' H')∧∀x H2,J.yld i H' x H2→rg K tg x σ' H2 fun σ3 H3=>tt σ3 H3 fun b H4=>
    if b=true then rd K m3 el σ3 H4 fun y H5=>∃ys,H5 l=some (.lst ys)∧ys.length < sizeLine∧N σ3 (upd H5 l (.lst (ys++[y]))) else N σ3 H4):=by
  have fr0:=(qr fr1 js).newl (ds:=[]) .nil hl
  refine ⟨fun i mm σ' H'=>mm=ds.length - i∧i≤ds.length∧∃Ei acc cm,de tg cond el (ds.drop i) Ei=some cm∧rs=acc++cm∧Frm K H1 σ' H' Ei [.ref l] [.ow acc],⟨ds.length,by simp,Nat.zero_le _,_,[],rs,by simpa using e2,rfl,⟨_,_,fr0⟩⟩,?_⟩
  rintro i mm σ' H' ⟨rfl,hi,Ei,acc,cm,ei,er,F',A',fri⟩
  obtain ⟨go,stop⟩:=ok i B2 fri
  by_cases hlt:i < ds.length
  · obtain ⟨d,ed⟩:∃d,ds[i]? =some d:=⟨ds[i],List.getElem?_eq_getElem hlt⟩
    obtain ⟨g1,yl⟩:=go d ed
    have edr:ds.drop i=d::ds.drop (i+1):=by
      rw [List.drop_eq_getElem_cons hlt]
      congr 1
      exact Option.some.inj ((List.getElem?_eq_getElem hlt).symm.trans ed)
    rw [edr] at ei
    obtain ⟨E3,e3,ei⟩:=Option.bind_eq_some_iff.mp ei
    obtain ⟨⟨b,E4⟩,e4,ei⟩:=Option.bind_eq_some_iff.mp ei
    refine .inr ⟨g1,fun σ2 H2=>∃Ej acc cm,de tg cond el (ds.drop (i+1)) Ej=some cm∧rs=acc++cm∧Frm K H1 σ2 H2 Ej [.ref l] [.ow acc],fun σ2 H2 ⟨Ej,ac,rt,ej,er,frj⟩=>⟨ds.length - (i+1),by omega,rfl,hlt,Ej,ac,rt,ej,er,frj⟩,fun x H2 y=>?_⟩
    have clm:Calm [Sl.ow acc]:=Calm.cons (fun s hs=>absurd hs (by simp)) rfl
    refine ⟨H1,Ei,[.ref l],[.ow acc],d,E3,yl x H2 y,(fun s hs=>by rw [List.mem_singleton.mp hs];rfl),e3,fun σ3 H3 fr3=>htt _ _ _ ?_⟩
    refine ⟨H1,E3,[.ref l],[.ow acc],b,E4,fr3,fun _=>clm,e4,fun H4 fr4=>?_⟩
    cases b with
    | false=>
      rw [if_neg (by decide)]
      exact ⟨E4,acc,cm,ei,er,fr4⟩
    | true=>
      rw [if_pos rfl]
      obtain ⟨⟨s5,E5⟩,e5,ei⟩:=Option.bind_eq_some_iff.mp ei
      obtain ⟨⟨d6,E6⟩,e6,ei⟩:=Option.bind_eq_some_iff.mp ei
      obtain ⟨rest',e7,ei⟩:=Option.map_eq_some_iff.mp ei
      subst ei
      refine ⟨H1,E4,[.ref l],[.ow acc],s5,E5,fr4,fun _=>clm,e5,fun y5 H5 ⟨F5,A5,fr5⟩=>?_⟩
      obtain ⟨F6,A6,fr6⟩:=fr5.frz0 e6
      obtain ⟨v',C1,ev,rfl,w,ew,ry⟩:=fr6.ext (k:=0) rfl
      cases ev;cases ew
      obtain ⟨A7,fr7⟩:=fr6.pop
      -- the list under way is the one part that owns
      obtain ⟨bf,fh,tf,sl,nd,frn,len,pl⟩:=fr7
      generalize hT:List.map some [V.ref l]++σ3=T at sl
      generalize hS:[Sl.ow acc]++E6=S at sl
      cases sl with
      | nil=>cases hS
      | cons q0 r0=>
        injection hT with h1 hT
        injection hS with h2 hS
        subst h1 h2 hT hS
        obtain ⟨l',us,el,rfl,hl5,ru⟩:=q0
        cases el
        have lu:=ru.len
        refine ⟨us,hl5,p_ (by rw [er] at hc;simp at hc;omega),E6,acc++[d6],rest',e7,by rw [er];simp,F6,_,bf,fun b o qb=>?_,?_, .cons (A:=[l]) ⟨l,us++[y5],rfl,rfl,bg,ru.snoc ry⟩ (r0.mono fun o s C hs hC qq=>qq.stay (Same.refl _) (fun b hb=>aC fun z=>?_) fun z=>?_),nd,frn,rfl,pl⟩
        · have lF:F6 l=none:=frn l (by simp)
          rw [aC (fun z=>by rw [z,lF] at qb;cases qb)]
          exact fh _ _ qb
        · rw [lv hl5];exact tf
        · have:=hC b hb
          rw [z] at this
          exact (List.nodup_cons.mp nd).1 this
        · have:=pl s hs
          cases s <;> simp [Sl.isAl,Sl.isBr] at this z
  · have e0:i=ds.length:=by omega
    refine .inl ⟨stop e0,?_⟩
    rw [e0,List.drop_length] at ei
    cases ei
    rw [List.append_nil] at er
    subst er
    obtain ⟨g1,g2⟩:=fri.result hc.1
    exact q _ _ (fr1.told g1 g2)
theorem nX {m m2 m3:Bool} {it:gS} {tg:fZ} {cond:hW} {el:bP} {tt:TT} (htt:∀σ H Q,rt K m2 cond σ H Q→tt σ H Q) {σ:h8} {H:Hp} {Q:VK} (z:rd K m (du js it tg cond el) σ H Q):nQ js (ri K m it) (rg K tg) tt (rd K m3 el) σ H Q:=by
  obtain ⟨B,E,xs,Xs,res,E',fr,cl,e,q⟩:=z
  obtain ⟨⟨ds,E1⟩,e1,e⟩:=Option.bind_eq_some_iff.mp e
  obtain ⟨rs,e2,e⟩:=Option.bind_eq_some_iff.mp e
  simp only at e
  split at e
  · rename_i hc
    cases e
    simp only [Bool.and_eq_true,decide_eq_true_eq] at hc
    exact ⟨B,E,xs,Xs,ds,_,fr,cl,e1,fun B' J H1 hB ⟨F,A,fr1⟩ ok l hl=>jX htt (fr1.base hB) (fr1.bf.trans fr1.fh) ok e2 hc q l hl⟩
  · cases e
def ym (K:PySem.W.Frag) (m:Bool) (f:gS):TI:=fun σ H R=>∃B E xs Xs ds E',Frm K B σ H E xs Xs∧(m=true→Calm Xs)∧f E=some (ds,E')∧∀J H',Frm K B σ H' E' xs Xs→lD K H' J ds→R J H'
def yn (X:Cx) (tg e:Expr) (m:Bool) (f:gS):Prop:=PI X tg e (ym X.K m f)
theorem qu {m m2 m3:Bool} {it:gS} {tg:fZ} {cond:hW} {el:bP} {tt:TT} (htt:∀σ H Q,rt K m2 cond σ H Q→tt σ H Q) {σ:h8} {H:Hp} {Q:VK} (z:rd K m (du js it tg cond el) σ H Q):nQ js (ym K m it) (rg K tg) tt (rd K m3 el) σ H Q:=by
  obtain ⟨B,E,xs,Xs,res,E',fr,cl,e,q⟩:=z
  obtain ⟨⟨ds,E1⟩,e1,e⟩:=Option.bind_eq_some_iff.mp e
  obtain ⟨rs,e2,e⟩:=Option.bind_eq_some_iff.mp e
  simp only at e
  split at e
  · rename_i hc
    cases e
    simp only [Bool.and_eq_true,decide_eq_true_eq] at hc
    exact ⟨B,E,xs,Xs,ds,_,fr,cl,e1,fun J H1 ⟨F,A,fr1⟩ ok l hl=>jX htt fr1 (Same.refl _) ok e2 hc q l hl⟩
  · cases e
theorem i4 {m m3:Bool} {it:gS} {tg:fZ} {el:bP} (C:CompOk X scope sc cl N js) (hc:X.calm=true) (hi:IX X target iter m it) (hg:∀C s₀ H₀ fp,GX (X.comp sc cl N C s₀ H₀ fp) target tg) (he:∀C s₀ H₀ fp,EX (X.comp sc cl N C s₀ H₀ fp) elt m3 el)
    (hs:∀x,foldedSetIterable iter X.env x=pure x:=by intro _;rfl):EX X (.ListComp elt [⟨target,iter,[],0⟩] scope pos) m (du js it tg fS el):=
  aW (kt (g:=rg X.K tg) (te:=rd X.K m3 el) C hc hi hg (fun _ _ _ _=>sf) he hs) fun σ H Q z=>nX (m2:=false) (fun σ H Q z=>by
    obtain ⟨B,E,xs,Xs,b,E',fr,cl,e,q⟩:=z
    cases e
    exact q _ fr) z
theorem qv {c:Expr} {m m2 m3:Bool} {it:gS} {tg:fZ} {cond:hW} {el:bP} (C:CompOk X scope sc cl N js) (hc:X.calm=true) (hi:IX X target iter m it) (hg:∀C s₀ H₀ fp,GX (X.comp sc cl N C s₀ H₀ fp) target tg) (ht:∀C s₀ H₀ fp,TX (X.comp sc cl N C s₀ H₀ fp) c m2 cond) (he:∀C s₀ H₀ fp,EX (X.comp sc cl N C s₀ H₀ fp) elt m3 el)
    (hs:∀x,foldedSetIterable iter X.env x=pure x:=by intro _;rfl):EX X (.ListComp elt [⟨target,iter,[c],0⟩] scope pos) m (du js it tg cond el):=
  aW (kt (g:=rg X.K tg) (te:=rd X.K m3 el) (tt:=rt X.K m2 cond) C hc hi hg (fun _ _ _ _=>nP (ht _ _ _ _)) he hs) fun σ H Q z=>nX (m2:=m2) (fun _ _ _ z=>z) z
def qw (f:bP):gS:=fun E=>(f E).bind fun a=>match look a.2 a.1 with
  | some (.list ds)=>some (ds,a.2)
  | _=>none
theorem sH {tg e:Expr} {m:Bool} {f:bP} (he:EX X e m f):yn X tg e m (qw f):=kG (nD he) fun σ H R z=>by
  obtain ⟨B,E,xs,Xs,ds,E',fr,cl,e,q⟩:=z
  obtain ⟨⟨s,E1⟩,e1,e⟩:=Option.bind_eq_some_iff.mp e
  simp only at e
  split at e
  · rename_i ds' ld
    cases e
    refine ⟨B,E,xs,Xs,s,_,fr,cl,e1,fun v H1 ⟨F,A,fr1⟩=>?_⟩
    obtain ⟨r,_⟩:=fr1.look0 ld
    obtain ⟨A',fr2⟩:=fr1.pop
    cases r with
    | lst h1 h2=>exact ⟨_,rfl,⟨_,h1⟩,q _ _ ⟨F,A',fr2⟩ (jV h1 h2)⟩
  · cases e
theorem oR {c:Expr} {m m2 m3:Bool} {it:gS} {tg:fZ} {cond:hW} {el:bP} (C:CompOk X scope sc cl N js) (hc:X.calm=true) (hi:yn X target iter m it) (hg:∀C s₀ H₀ fp,GX (X.comp sc cl N C s₀ H₀ fp) target tg) (ht:∀C s₀ H₀ fp,TX (X.comp sc cl N C s₀ H₀ fp) c m2 cond) (he:∀C s₀ H₀ fp,EX (X.comp sc cl N C s₀ H₀ fp) elt m3 el)
    (hs:∀x,foldedSetIterable iter X.env x=pure x:=by intro _;rfl):EX X (.ListComp elt [⟨target,iter,[c],0⟩] scope pos) m (du js it tg cond el):=
  aW (kt (g:=rg X.K tg) (te:=rd X.K m3 el) (tt:=rt X.K m2 cond) C hc hi hg (fun _ _ _ _=>nP (ht _ _ _ _)) he hs) fun σ H Q z=>qu (m2:=m2) (fun _ _ _ z=>z) z
end
end PL
namespace PL
open PySem L2 Nh
def wz:PyData→Option cL
  | .int i=>some (.inl i)
  | .str x=>some (.inr x)
  | _=>none
def keysOf:List (PyData×PyData)→Option (List cL)
  | []=>some []
  | p::r=>(wz p.1).bind fun k=>(keysOf r).map fun ks=>k::ks
end PL
namespace PL
open PySem L2 Nh
theorem ef {α:Type} (xs:List α) (k:Nat):atI xs (k:Int)=xs[k]? :=by
  unfold atI vP
  rw [if_pos (by omega)]
  split
  · simp
  · rw [List.getElem?_eq_none (by omega)];rfl
theorem i5 {α:Type} (a:α) (l:List α):atI (a::l) 0=some a:=ef (a::l) 0
theorem jY {α:Type} (a b:α) (l:List α):atI (a::b::l) 1=some b:=ef (a::b::l) 1
theorem wA {α:Type} (a b c:α) (l:List α):atI (a::b::c::l) 2=some c:=ef (a::b::c::l) 2
theorem iC {α:Type} (l:List α) (a:α):atI (l++[a]) (-1)=some a:=by
  unfold atI vP
  rw [if_neg (by omega),if_pos (by simp;omega)]
  have e:(-1+(((l++[a]).length:Nat):Int)).toNat=l.length:=by simp;omega
  rw [e]
  simp
theorem kI {α:Type} (l:List α) (a:α):(l++[a])[(l++[a]).length - 1]? =some a:=by simp
theorem eQ:∀(a b:List PyData),aS (a++b)=(aS a&&aS b)
  | [],b=>by simp [aS]
  | x::a,b=>by simp [aS,eQ a b,Bool.and_assoc]
theorem jZ:∀{a:List PyData},(∀d∈a,bH d=true)→aS a=true
  | [],_=>rfl
  | x::a,h=>by simp [aS,h x (List.mem_cons_self ..),jZ fun d hd=>h d (List.mem_cons_of_mem _ hd)]
theorem oS {α:Type} {f:α→PyData} (h:∀a,bH (f a)=true) (l:List α):aS (l.map f)=true:=jZ fun d hd=>by
  obtain ⟨a,_,rfl⟩:=List.mem_map.mp hd
  exact h a
theorem sI (p:Pc):bH (aX p)=true:=rfl
theorem cr (c:List Pc):aS (c.map aX)=true:=oS sI c
theorem oU (lo:Int) (n:Nat):kF lo (n+1)= .int lo::kF (lo+1) n:=by
  unfold kF
  rw [List.range_succ_eq_map,List.map_cons,List.map_map]
  simp only [Int.natCast_zero,Int.add_zero]
  congr 1
  refine List.map_congr_left fun k _=>?_
  show PyData.int (lo+((k+1:Nat):Int))=PyData.int (lo+1+(k:Int))
  congr 1
  omega
end PL
namespace L2
open PySem PySem.Spec PyProof.Rows
def xf (x:Str):It:=⟨fun i _=>i < x.cps.toList.length,fun i H v H'=>H'=H∧∃c,x.cps.toList[i]? =some c∧v= .str ⟨#[c]⟩,fun i _=>i=x.cps.toList.length⟩
theorem qx {P:Program} {w:World} {K:PySem.W.Frag} {tg:Expr} {it:Addr} {T:String} {x:Str} {t:Tok} (hT:T="str_ascii_iterator"∨T="str_iterator"):Turn P w K tg (xf x) [it] it (fun i h=>h.IsStrIter it T x t i) where
  mem:=by simp
  obj:=fun i h st b hb=>by
    have e:b=it:=by simpa using hb
    subst e
    obtain ⟨o,e,c,d⟩:=st
    exact ⟨o,e,fun v z=>by rw [d] at z;cases z⟩
  keep:=fun i h h' st k=>let ⟨o,ho,r⟩:=st;⟨o,k it (by simp) o ho,r⟩
  item:=by
    intro X hP hw hK hc i pins s σ H E I hf st hg
    subst hP hw hK
    obtain ⟨f0,f1,f2,f3,f4,f5⟩:=hf it (by simp)
    have hi:i < x.cps.toList.length:=hg
    have hx:x.cps[i]? =some (x.cps.toList[i]'hi):=by simp at hi;simp [hi]
    have fin:∀(h':Heap),h'.IsStrIter it T x t (i+1)→Heap.SameBut it s.heap h'→∃u,some (Value.str ⟨#[x.cps.toList[i]'hi]⟩ s.toks)=some u∧
        wpAny (model X.prog X.w) X.A (letOwnedTupleGo tg (.ref it) u) (fun _ s2=>∃v H',Inv X pins σ H' s2∧RelV v u∧(xf x).yld i H v H'∧s2.heap.IsStrIter it T x t (i+1)∧∀b∈[it],H' b=none) E {s with heap:=h',toks:=s.toks+1}:=fun h' st' sb=>by
      have I1:Inv X pins σ H {s with heap:=h',toks:=s.toks+1}:=I.turned (t':=s.toks+1) (fun b o hb e=>(sb.2 b hb).trans e) f0 f1 f3 f4 f5
      obtain ⟨o,e,c,d⟩:=id st'
      exact ⟨_,rfl,lh (s:={s with heap:=h',toks:=s.toks+1}) e c d (by rcases hT with rfl | rfl <;> decide) ⟨.str ⟨#[x.cps.toList[i]'hi]⟩,H,I1,⟨_,rfl⟩,⟨rfl,_,List.getElem?_eq_getElem hi,rfl⟩,st',fun b hb=>(hf b hb).1⟩⟩
    rcases hT with rfl | rfl
    · exact wpAny_pyNext_ascii_item st hx fun h' st' sb=>fin h' st' sb
    · exact wpAny_pyNext_wide_item st hx fun h' st' sb=>fin h' st' sb
  done:=by
    intro X hP hw hK hc i pins s σ H E I hf st hg
    subst hP hw hK
    obtain ⟨f0,f1,f2,f3,f4,f5⟩:=hf it (by simp)
    have hi:i=x.cps.toList.length:=hg
    have hx:x.cps[i]? =none:=by simp at hi;simp [hi]
    rcases hT with rfl | rfl
    · exact wpAny_pyNext_ascii_end (I.ok.hd hc) st hx fun h' eb=>⟨rfl,I.turned (t':=s.toks) (fun b o hb e=>eb b o hb e) f0 f1 f3 f4 f5⟩
    · exact wpAny_pyNext_wide_end (I.ok.hd hc) st hx fun h' eb=>⟨rfl,I.turned (t':=s.toks) (fun b o hb e=>eb b o hb e) f0 f1 f3 f4 f5⟩
  self:=fun _ _ _ _ _ st h=>by
    rcases hT with rfl | rfl
    · exact wpAny_pyIter_striter_ascii st h
    · exact wpAny_pyIter_striter_wide st h
def xV (tl:TE):TI:=fun σ H R=>tl σ H fun v H1=>∃x,v= .str x∧R (xf x) H1
theorem vh {X:Cx} {tg l:Expr} {tl:TE} (hl:PE X l tl):PI X tg l (xV tl):=by
  intro pins s σ H R I h
  refine cB (hl pins s σ H _ I h) fun v s1 ⟨y,H1,I1,r1,q1⟩=>?_
  obtain ⟨x,e,q⟩:=q1
  subst e
  obtain ⟨t,rfl⟩:=r1
  refine wpAny_pyIter_strU ?_
  refine ⟨s1.heap.objs.size,[s1.heap.objs.size],fun i h=>h.IsStrIter s1.heap.objs.size (strIterType x) x t i,_,H1,rfl,I1.kept (t':=s1.toks) fun b o e=>Heap.get?_push_of_some _ e,qx (t:=t) ?_,⟨_,Heap.get?_push_size _ rfl,rfl,rfl⟩,fun b hb=>?_,q⟩
  · unfold strIterType
    split
    · exact .inl rfl
    · exact .inr rfl
  · have e:b=s1.heap.objs.size:=by simpa using hb
    subst e
    exact I1.fpOk (Nat.le_refl _) (I1.hok.fresh (Nat.le_refl _))
theorem PI.or {X:Cx} {tg l:Expr} {a b:TI} (h1:PI X tg l a) (h2:PI X tg l b):PI X tg l (fun σ H R=>a σ H R∨b σ H R):=by
  intro pins s σ H R I h
  rcases h with h | h
  · exact h1 pins s σ H R I h
  · exact h2 pins s σ H R I h
end L2
namespace PL
open PySem L2 Nh
def gX (x:Str):List PyData:=x.cps.toList.map fun c=> .str ⟨#[c]⟩
def f_ (f:bP):gS:=fun E=>(f E).bind fun a=>(frz a.2 a.1).bind fun b=>match b.1 with
  | .list ds=>some (ds,b.2)
  | .tuple ds=>some (ds,b.2)
  | .str x=>some (gX x,b.2)
  | _=>none
section
variable {X:Cx} {K:PySem.W.Frag} {B:Hp}
theorem qy {x:Str}:lD K B (xf x) (gX x):=fun {B' F A σ H E xs Xs} i sB fr=>by
  refine ⟨fun d ed=>?_,fun e=>by show i=x.cps.toList.length;rw [e];simp [gX]⟩
  unfold gX at ed
  rw [List.getElem?_map] at ed
  obtain ⟨c,ec,rfl⟩:=Option.map_eq_some_iff.mp ed
  refine ⟨(List.getElem?_eq_some_iff.mp ec).1,fun z H2 ⟨e1,c',e2,e3⟩=>?_⟩
  rw [ec] at e2;cases e2
  subst e1 e3
  exact ⟨F,A,fr.push ⟨rfl,_,rfl, .str _⟩⟩
theorem qz {a:Addr} {vs:List V} {ds:List PyData} (h:SqT K B a vs) (r:RpA K B vs ds):lD K B (xy K a) ds:=fun {B' F A σ H E xs Xs} i sB fr=>by
  have hH:=fr.fh.tup (fr.bf.tup (sB.tup h))
  refine ⟨fun d ed=>?_,fun e=>⟨vs,hH,by rw [e,r.len];exact Nat.le_refl _⟩⟩
  obtain ⟨v,ev,rv⟩:=r.get ed
  refine ⟨⟨vs,v,hH,ev⟩,fun x H2 ⟨e2,y⟩=>?_⟩
  subst e2
  have:=y vs hH
  rw [ev] at this
  cases this
  exact ⟨F,A,fr.push ⟨rfl,_,rfl,rv.same (sB.trans fr.bf)⟩⟩
theorem i6 {tg e:Expr} {m:Bool} {f:bP} (he:EX X e m f):IX X tg e m (f_ f):=kG (PI.or (nD he) (PI.or (uz he) (vh he))) fun σ H R z=>by
  obtain ⟨B,E,xs,Xs,ds,E',fr,cl,e,q⟩:=z
  obtain ⟨⟨s,E1⟩,e1,e⟩:=Option.bind_eq_some_iff.mp e
  obtain ⟨⟨d,E2⟩,e2,e⟩:=Option.bind_eq_some_iff.mp e
  have key:∀(v:V) (H1:Hp),Frm X.K B σ H1 E1 (v::xs) (s::Xs)→∃F2 A2 A3,Rp X.K F2 v d∧Same B F2∧FrF X.K F2 F2 A3 σ H1 E2 xs Xs∧FrF X.K B F2 A2 σ H1 E2 (v::xs) (.sh d::Xs):=fun v H1 ⟨F,A,fr1⟩=>by
    obtain ⟨F2,A2,fr2⟩:=fr1.frz0 e2
    obtain ⟨v',A1,ev,rfl,w,ew,r⟩:=fr2.ext (k:=0) rfl
    cases ev;cases ew
    obtain ⟨A3,fr3⟩:=fr2.pop
    exact ⟨F2,A2,A3,r,fr2.bf,fr3.raise,fr2⟩
  simp only at e
  split at e
  · cases e
    refine .inl ⟨B,E,xs,Xs,s,E1,fr,cl,e1,fun v H1 fr1=>?_⟩
    obtain ⟨F2,A2,A3,r,sb,fr3,fr2⟩:=key v H1 fr1
    cases r with
    | lst h1 h2=>exact ⟨_,rfl,⟨_,fr2.fh.seq h1⟩,q F2 _ _ sb ⟨F2,A3,fr3⟩ (jV h1 h2)⟩
  · cases e
    refine .inr (.inl ⟨B,E,xs,Xs,s,E1,fr,cl,e1,fun v H1 fr1=>?_⟩)
    obtain ⟨F2,A2,A3,r,sb,fr3,fr2⟩:=key v H1 fr1
    cases r with
    | tup h1 h2=>exact ⟨_,rfl,⟨_,fr2.fh.tup h1⟩,q F2 _ _ sb ⟨F2,A3,fr3⟩ (qz h1 h2)⟩
  · cases e
    refine .inr (.inr ⟨B,E,xs,Xs,s,E1,fr,cl,e1,fun v H1 fr1=>?_⟩)
    obtain ⟨F2,A2,A3,r,sb,fr3,fr2⟩:=key v H1 fr1
    cases r
    exact ⟨_,rfl,q F2 _ _ sb ⟨F2,A3,fr3⟩ qy⟩
  · cases e
end
end PL
namespace PL
open PySem L2 Nh
inductive Cm where
  | lt | le | gt | ge
def Cm.op:Cm→CmpOp
  | .lt=> .Lt
  | .le=> .LtE
  | .gt=> .Gt
  | .ge=> .GtE
def Cm.i:Cm→Int→Int→Bool
  | .lt,i,j=>decide (i < j)
  | .le,i,j=>decide (i≤j)
  | .gt,i,j=>decide (j < i)
  | .ge,i,j=>decide (j≤i)
def Cm.s:Cm→List Nat→List Nat→Bool
  | .lt,i,j=>decide (i < j)
  | .le,i,j=> !decide (j < i)
  | .gt,i,j=>decide (j < i)
  | .ge,i,j=> !decide (i < j)
def iv (c:Cm):PyData→PyData→Option PyData
  | .int i, .int j=>some (.bool (c.i i j))
  | .str x, .str y=>some (.bool (c.s x.cps.toList y.cps.toList))
  | _,_=>none
def yo (c:Cm):R2:=fun x y H Q=>(∃i j,x= .int i∧y= .int j∧Q (.bl (c.i i j)) H)∨(∃i j,x= .str i∧y= .str j∧Q (.bl (c.s i.cps.toList j.cps.toList)) H)
section
variable {X:Cx} {a b c:Expr} {m1 m2 m3:Bool} {f g h:bP} {pos:Pos} {K:PySem.W.Frag}
theorem qA (c:Cm):OpR X (compareOp c.op) (yo c):=by
  cases c with
  | lt=>exact OpR.or v_ oz
  | le=>exact OpR.or wa (fun pins s σ H x y v u Q I rx ry h=>by
      obtain ⟨i,j,rfl,rfl,q⟩:=h
      obtain ⟨t,rfl⟩:=rx
      obtain ⟨t',rfl⟩:=ry
      exact PySem.P.le_str (aG I q rfl))
  | gt=>exact OpR.or wb (fun pins s σ H x y v u Q I rx ry h=>by
      obtain ⟨i,j,rfl,rfl,q⟩:=h
      obtain ⟨t,rfl⟩:=rx
      obtain ⟨t',rfl⟩:=ry
      exact PySem.P.gt_str (aG I q rfl))
  | ge=>exact OpR.or wc (fun pins s σ H x y v u Q I rx ry h=>by
      obtain ⟨i,j,rfl,rfl,q⟩:=h
      obtain ⟨t,rfl⟩:=rx
      obtain ⟨t',rfl⟩:=ry
      exact PySem.P.ge_str (aG I q rfl))
theorem qB (c:Cm):oK K (yo c) (iv c):=fun d1 d2 d v1 v2 H Q e r1 r2=>by
  unfold iv at e
  split at e
  · cases e;cases r1;cases r2
    exact ⟨_,rfl,fun q=> .inl ⟨_,_,rfl,rfl,q⟩⟩
  · cases e;cases r1;cases r2
    exact ⟨_,rfl,fun q=> .inr ⟨_,_,rfl,rfl,q⟩⟩
  · cases e
theorem oV (c:Cm) (b:Expr):behindInMarks c.op b=false:=by cases c <;> exact ki _
theorem wB (c:Cm) (ha:EX X a m1 f) (hb:EX X b m2 g):TX X (.Compare a [c.op] [b] pos) (m1||m2) (ck (ag (da (iv c)) m2 f g)):=kz (qA c) (iR (qB c)) ha hb (oV c b)
theorem wC (c1 c2:Cm) (ha:EX X a m1 f) (hb:EX X b m2 g) (hc:EX X c m3 h) (hm:lastMarks [c1.op,c2.op] [b,c]=false:=by with_unfolding_all rfl):EX X (.Compare a [c1.op,c2.op] [b,c] pos) (m1||(m2||m3)) (fW (iv c1) (iv c2) m2 m3 f g h):=qg (qA c1) (qA c2) (qB c1) (qB c2) ha hb hc hm
def sJ:P2:=da (jA (fun _ j=>decide (0≤j)) fun i j=> .int (i / 2 ^ j.toNat))
def sK:P2:=da (jA (fun _ _=>true) fun i j=> .int (Builtin.bitAnd i j))
theorem vi (ha:EX X a m1 f) (hb:EX X b m2 g):EX X (.BinOp a .RShift b pos) (m1||m2) (ag sJ m2 f g):=hZ (r:=tZ (fun _ j=>decide (0≤j)) fun i j=> .int (i / 2 ^ j.toNat)) (OpR.imp uG fun x y H Q ⟨i,j,a,b,c,q⟩=>⟨i,j,a,b,of_decide_eq_true c,q⟩) (gU fun _ _=>rfl) ha hb
theorem sL (ha:EX X a m1 f) (hb:EX X b m2 g):EX X (.BinOp a .BitAnd b pos) (m1||m2) (ag sK m2 f g):=hZ (r:=tZ (fun _ _=>true) fun i j=> .int (Builtin.bitAnd i j)) (OpR.imp uH fun x y H Q ⟨i,j,a,b,_,q⟩=>⟨i,j,a,b,q⟩) (gU fun _ _=>rfl) ha hb
def isInt:PyData→Option Int
  | .int x=>some x
  | _=>none
def d0:List PyData→Option (List Str)
  | []=>some []
  | .str x::ds=>(d0 ds).map fun xs=>x::xs
  | _::_=>none
def kJ:List PyData→Option (List Int)
  | []=>some []
  | .int x::ds=>(kJ ds).map fun xs=>x::xs
  | _::_=>none
theorem ek:∀{ds:List PyData} {xs:List Str},d0 ds=some xs→ds=xs.map .str
  | [],xs,h=>by cases h;rfl
  | d::ds,xs,h=>by
    cases d with
    | str x=>
      obtain ⟨ys,e,rfl⟩:=Option.map_eq_some_iff.mp h
      rw [ek e];rfl
    | _=>cases h
theorem gY:∀{ds:List PyData} {xs:List Int},kJ ds=some xs→ds=xs.map .int
  | [],xs,h=>by cases h;rfl
  | d::ds,xs,h=>by
    cases d with
    | int x=>
      obtain ⟨ys,e,rfl⟩:=Option.map_eq_some_iff.mp h
      rw [gY e];rfl
    | _=>cases h
theorem fk {H:Hp}:∀{vs:List V} {xs:List Str},RpA K H vs (xs.map .str)→vs=xs.map .str
  | [],[],_=>rfl
  | v::vs,x::xs, .cons h r=>by cases h;rw [fk r];rfl
theorem i8 {H:Hp}:∀{vs:List V} {xs:List Int},RpA K H vs (xs.map .int)→vs=xs.map .int
  | [],[],_=>rfl
  | v::vs,x::xs, .cons h r=>by cases h;rw [i8 r];rfl
def xg:PyData→PyData→Option Bool
  | .str x, .str y=>some (!(Builtin.Str.occurrences y x 0 y.length 1).isEmpty)
  | .str x, .list ds=>(d0 ds).map fun xs=>xs.contains x
  | .str x, .tuple ds=>(d0 ds).map fun xs=>xs.contains x
  | .int x, .list ds=>(kJ ds).map fun xs=>xs.contains x
  | .int x, .tuple ds=>(kJ ds).map fun xs=>xs.contains x
  | _,_=>none
def wD (K:PySem.W.Frag) (neg:Bool):R2:=fun x y H Q=>(∃i j,x= .str i∧y= .str j∧Q (.bl (if neg then !(!(Builtin.Str.occurrences j i 0 j.length 1).isEmpty) else !(Builtin.Str.occurrences j i 0 j.length 1).isEmpty)) H)∨yk K neg x y H Q
theorem lE (x:Str) (xs:List Str):vQ (.str x) (xs.map .str)=xs.contains x:=by
  induction xs with
  | nil=>rfl
  | cons y xs ih=>
    rw [List.contains_cons,←ih]
    show (rz (.str y) (.str x)||vQ (.str x) (xs.map .str))=_
    congr 1
    show (y == x)=(x == y)
    exact BEq.comm
theorem lG (x:Int) (xs:List Int):vQ (.int x) (xs.map .int)=xs.contains x:=by
  induction xs with
  | nil=>rfl
  | cons y xs ih=>
    rw [List.contains_cons,←ih]
    show (rz (.int y) (.int x)||vQ (.int x) (xs.map .int))=_
    congr 1
    show (y == x)=(x == y)
    exact BEq.comm
theorem vj (neg:Bool):oK K (wD K neg) (fun d1 d2=>(xg d1 d2).map fun b=> .bool (if neg then !b else b)):=fun d1 d2 d v1 v2 H Q e r1 r2=>by
  obtain ⟨b,e',rfl⟩:=Option.map_eq_some_iff.mp e
  clear e
  have e:=e'
  clear e'
  refine ⟨_,rfl,fun q=>?_⟩
  have hs:∀xs:List Str,(xs.map V.str).all dS=true:=fun xs=>by simp [List.all_eq_true,dS]
  have hi:∀xs:List Int,(xs.map V.int).all dS=true:=fun xs=>by simp [List.all_eq_true,dS]
  unfold xg at e
  split at e
  · cases e;cases r1;cases r2
    exact .inl ⟨_,_,rfl,rfl,q⟩
  · obtain ⟨xs,ex,rfl⟩:=Option.map_eq_some_iff.mp e
    cases r1
    cases r2 with
    | lst h1 h2=>
      rw [ek ex] at h2
      rw [fk h2] at h1
      exact .inr ⟨_,_,rfl, .inl h1,rfl,hs _,by rw [lE];exact q⟩
  · obtain ⟨xs,ex,rfl⟩:=Option.map_eq_some_iff.mp e
    cases r1
    cases r2 with
    | tup h1 h2=>
      rw [ek ex] at h2
      rw [fk h2] at h1
      exact .inr ⟨_,_,rfl, .inr h1,rfl,hs _,by rw [lE];exact q⟩
  · obtain ⟨xs,ex,rfl⟩:=Option.map_eq_some_iff.mp e
    cases r1
    cases r2 with
    | lst h1 h2=>
      rw [gY ex] at h2
      rw [i8 h2] at h1
      exact .inr ⟨_,_,rfl, .inl h1,rfl,hi _,by rw [lG];exact q⟩
  · obtain ⟨xs,ex,rfl⟩:=Option.map_eq_some_iff.mp e
    cases r1
    cases r2 with
    | tup h1 h2=>
      rw [gY ex] at h2
      rw [i8 h2] at h1
      exact .inr ⟨_,_,rfl, .inr h1,rfl,hi _,by rw [lG];exact q⟩
  · cases e
def xW (neg:Bool):P2:=da fun d1 d2=>(xg d1 d2).map fun b=> .bool (if neg then !b else b)
theorem vk:OpR X (compareOp .In) (wD X.K false):=OpR.or oA oE
theorem wE (ha:EX X a m1 f) (hb:EX X b m2 g) (hm:behindInMarks .In b=false:=by with_unfolding_all rfl):TX X (.Compare a [.In] [b] pos) (m1||m2) (ck (ag (xW false) m2 f g)):=kz vk (iR (vj false)) ha hb hm
end
def nY (x:Str):PyData→Option PyData
  | .list ds=>(d0 ds).bind fun ys=>if (ys.map (·.length)).sum+ys.length*x.length≤1000000 then some (.str (Txt.join x ys)) else none
  | .tuple ds=>(d0 ds).bind fun ys=>if (ys.map (·.length)).sum+ys.length*x.length≤1000000 then some (.str (Txt.join x ys)) else none
  | _=>none
theorem j0 {ys:List Str}:∀{us:List Value},Vals (ys.map V.str) us→PyProof.Rows.StrsAre us ys:=by
  induction ys with
  | nil=>intro us h;cases h;exact .nil
  | cons y ys ih=>
    intro us h
    cases h with
    | cons h r=>
      obtain ⟨t,rfl⟩:=h
      exact .cons y t (ih r)
def wF (K:PySem.W.Frag):V→List V→Hp→VK→Prop:=fun x vs H Q=>∃z p ys,x= .str z∧vs=[.ref p]∧(SqL K H p (ys.map .str)∨SqT K H p (ys.map .str))∧(ys.map (·.length)).sum+ys.length*z.length≤16777216∧Q (.str (Txt.join z ys)) H
theorem sM {X:Cx}:MtR X "str.join" (wF X.K):=by
  intro pins s σ H x vs v us Q I rx rv h
  obtain ⟨z,p,ys,rfl,rfl,hq,hl,q⟩:=h
  obtain ⟨t,rfl⟩:=rx
  obtain ⟨u,rfl,ru⟩:=rv.one
  cases ru
  rcases hq with hq | hq
  · obtain ⟨its,r,pl,_⟩:=I.list hq
    exact PyProof.Rows.join_list pl.isList (by simpa using j0 r) hl fun t' k=>⟨.str _,H,I.tok _,⟨_,rfl⟩,q⟩
  · obtain ⟨its,r,pl,_⟩:=I.tuple hq
    exact PyProof.Rows.join_tuple pl (by simpa using j0 r) hl fun t' k=>⟨.str _,H,I.tok _,⟨_,rfl⟩,q⟩
section
variable {X:Cx} {e o:Expr} {m1 m2:Bool} {g:kY} {f h:bP} {p pos apos cpos:Pos} {K:PySem.W.Frag}
def j1 (x:Str) (f:bP):bP:=di (nY x) f
theorem nZ {x:Str} {j:Nat} {sp:Pos} (he:EX X e m1 f) (hs:starEach [e] X.env=[(false,eval e X.env)]:=by rfl) (hbase:attributeBase (.Constant (.str x) j sp) "join" X.env (eval (.Constant (.str x) j sp) X.env)=eval (.Constant (.str x) j sp) X.env:=by rfl)
    (hfew:((backTo cpos (starEach [e] X.env)).all (fun x=> !x.1)&&(backToKw cpos (keywordEach [] X.env)).all (fun x=>x.1.isSome)
      &&decide (([e]:List Expr).length+([]:List Keyword).length+(if ([]:List Keyword).isEmpty then 0 else 1) < 30))=true:=by rfl) (hline:(apos.endLine == cpos.line)=true:=by rfl):
    EX X (.Call (.Attribute (.Constant (.str x) j sp) "join" apos) [e] [] cpos) m1 (j1 x f):=by
  refine aW (nK PySem.F.plainAttrs_str PySem.F.slot_str_join PySem.F.type_str_join sM (mB) (bR he cN hs) hbase hfew hline hs rfl) fun σ H Q z=>?_
  obtain ⟨B,E,xs,Xs,res,E',fr,c,e,q⟩:=z
  obtain ⟨⟨s1,E1⟩,e1,e⟩:=Option.bind_eq_some_iff.mp e
  obtain ⟨d1,e2,e⟩:=Option.bind_eq_some_iff.mp e
  obtain ⟨d,e3,e⟩:=Option.map_eq_some_iff.mp e
  cases e
  refine ⟨rfl,B,E,xs,Xs,s1,E1,fr,c,e1,fun v1 H1 ⟨F,A,fr1⟩=>?_⟩
  have r:=(fr1.look0 e2).1
  obtain ⟨A',fr2⟩:=fr1.pop
  unfold nY at e3
  split at e3
  · obtain ⟨ys,ey,e3⟩:=Option.bind_eq_some_iff.mp e3
    split at e3
    · rename_i hl
      cases e3
      cases r with
      | lst h1 h2=>
        rw [ek ey] at h2
        rw [fk h2] at h1
        exact ⟨x,_,ys,rfl,rfl, .inl h1,by omega,q _ _ ⟨F,A',fr2.push ⟨rfl,_,rfl, .str _⟩⟩⟩
    · cases e3
  · obtain ⟨ys,ey,e3⟩:=Option.bind_eq_some_iff.mp e3
    split at e3
    · rename_i hl
      cases e3
      cases r with
      | tup h1 h2=>
        rw [ek ey] at h2
        rw [fk h2] at h1
        exact ⟨x,_,ys,rfl,rfl, .inr h1,by omega,q _ _ ⟨F,A',fr2.push ⟨rfl,_,rfl, .str _⟩⟩⟩
    · cases e3
  · cases e3
end
theorem fm {X:Cx} {st:Stmt}:SX X st (fun _=>none):=gT pG fun D σ H z=>by
  obtain ⟨B,E,xs,Xs,E',fl,fr,cl,e,q⟩:=z
  cases e
def kK:b_:=fun _=>none
end PL
namespace PL
open PySem L2 Nh
theorem vm {X:Cx}:SlR X (fun x lo hi H Q=>∃z,x= .str z∧z.length≤sizeLine∧Q (.str (Txt.slice z lo hi)) H):=by
  intro pins s σ H x v vl vu lo hi sl Q I rx hs pl pu h
  obtain ⟨z,rfl,hz,q⟩:=h
  obtain ⟨t,rfl⟩:=rx
  cases pl with
  | none=>
    cases pu with
    | none=>exact ⟨"str",_,PySem.F.slot_str_getitem.lookup,typeIs_str _ _ _,wpAny_getItem_str_slice (l:=none) (u:=none) (st:=none) hs rfl (post_val_or_str ⟨Nat.le_trans (Txt.slice_le z _ _) hz,fun t' k=>⟨.str _,H,I.tok _,⟨_,rfl⟩,q⟩⟩)⟩
    | int j uj=>exact ⟨"str",_,PySem.F.slot_str_getitem.lookup,typeIs_str _ _ _,wpAny_getItem_str_slice (l:=none) (u:=some (j,uj)) (st:=none) hs rfl (post_val_or_str ⟨Nat.le_trans (Txt.slice_le z _ _) hz,fun t' k=>⟨.str _,H,I.tok _,⟨_,rfl⟩,q⟩⟩)⟩
  | int i ui=>
    cases pu with
    | none=>exact ⟨"str",_,PySem.F.slot_str_getitem.lookup,typeIs_str _ _ _,wpAny_getItem_str_slice (l:=some (i,ui)) (u:=none) (st:=none) hs rfl (post_val_or_str ⟨Nat.le_trans (Txt.slice_le z _ _) hz,fun t' k=>⟨.str _,H,I.tok _,⟨_,rfl⟩,q⟩⟩)⟩
    | int j uj=>exact ⟨"str",_,PySem.F.slot_str_getitem.lookup,typeIs_str _ _ _,wpAny_getItem_str_slice (l:=some (i,ui)) (u:=some (j,uj)) (st:=none) hs rfl (post_val_or_str ⟨Nat.le_trans (Txt.slice_le z _ _) hz,fun t' k=>⟨.str _,H,I.tok _,⟨_,rfl⟩,q⟩⟩)⟩
def gb (m2:Bool) (f:bP) (lo hi:u_):bP:=fun E=>(f E).bind fun a=>if m2&&a.1.isBr then none else (lo a.2).bind fun b=>(hi b.2).bind fun c=>match look c.2 a.1 with
  | some (.list ds)=>if !dA c.2 a.1||aS (sD ds b.1 c.1) then some (.ow (sD ds b.1 c.1),c.2) else none
  | some (.str z)=>if z.length≤1000000 then some (.sh (.str (Txt.slice z b.1 c.1)),c.2) else none
  | _=>none
theorem gZ {X:Cx} {e:Expr} {lo hi:Option Expr} {m1 m2 m3:Bool} {f:bP} {g h:u_} {pos p2:Pos} (he:EX X e m1 f) (hl:OX X lo m2 g) (hh:OX X hi m3 h):EX X (.Subscript e (.Slice lo hi none p2) pos) (m1||(m2||m3)) (gb (m2||m3) f g h):=by
  refine aW (pR (SlR.or rY vm) he hl hh) fun σ H Q z=>?_
  obtain ⟨B,E,xs,Xs,res,E',fr,cl,e,q⟩:=z
  obtain ⟨⟨s,E1⟩,e1,e⟩:=Option.bind_eq_some_iff.mp e
  by_cases hb:((m2||m3)&&s.isBr)=true
  · rw [if_pos hb] at e;cases e
  rw [if_neg hb] at e
  have n1:(m2||m3)=true→s.isBr=false:=fun z=>by
    cases hs:s.isBr with
    | false=>rfl
    | true=>exact absurd (by rw [z,hs];rfl) hb
  obtain ⟨⟨l,E2⟩,e2,e⟩:=Option.bind_eq_some_iff.mp e
  obtain ⟨⟨u,E3⟩,e3,e⟩:=Option.bind_eq_some_iff.mp e
  refine ⟨B,E,xs,Xs,s,E1,fr,fun z=>cl (by simp [z]),e1,fun v1 H1 fr1=>?_⟩
  refine ⟨B,E1,v1::xs,s::Xs,l,E2,fr1,fun z=>Calm.cons (cl (by simp [z])) (n1 (by simp [z])),e2,fun H2 fr2=>?_⟩
  refine ⟨B,E2,v1::xs,s::Xs,u,E3,fr2,fun z=>Calm.cons (cl (by simp [z])) (n1 (by simp [z])),e3,fun H3 ⟨F,A,fr3⟩=>?_⟩
  simp only at e
  split at e
  · rename_i ds ld
    split at e
    · rename_i hc
      cases e
      obtain ⟨v,ev,r,f0⟩:=fr3.look (k:=0) rfl ld
      cases ev
      obtain ⟨A',fr4⟩:=fr3.pop
      cases hh:dA E' s with
      | false=>
        obtain ⟨a,vs,rfl,h1,h2⟩:=f0 hh
        exact .inl ⟨a,vs,rfl,h1,fun p hp=>q _ _ ⟨F,_,fr4.newl (h2.cut l u) hp⟩⟩
      | true=>
        rw [hh] at hc
        cases r with
        | lst h1 h2=>exact .inl ⟨_,_,rfl,h1,fun p hp=>q _ _ ⟨F,_,fr4.newl (fr3.coldA (h2.cut l u) (by simpa using hc)) hp⟩⟩
    · cases e
  · rename_i z ld
    split at e
    · rename_i hc
      cases e
      have r:=(fr3.look0 ld).1
      cases r
      obtain ⟨A',fr4⟩:=fr3.pop
      exact .inr ⟨_,rfl,dZ hc,q _ _ ⟨F,A',fr4.push ⟨rfl,_,rfl, .str _⟩⟩⟩
    · cases e
  · cases e
def fo (i:Nat):bP:=fun E=>match E[i]? with
  | some (.ow ds)=>some (.sh .none,E.set i (.ow ds.reverse))
  | _=>none
section
variable {X:Cx} {e:Expr} {m1:Bool} {f:bP} {x:Str} {p apos cpos:Pos}
theorem mU (i:Nat) (hN:X.N[i]? =some x:=by rfl) (hv:tT X.env.scope x:=by first | exact Or.inl rfl | exact Or.inr (Or.inl rfl) | exact Or.inr (Or.inr rfl)) (hd:(x == ("__debug__":Str))=false:=by decide) (hcd:(x == ("__classdict__":Str))=false:=by decide)
    (hbase:attributeBase (.Name x p) "reverse" X.env (eval (.Name x p) X.env)=eval (.Name x p) X.env:=by rfl) (hline:(apos.endLine == cpos.line)=true:=by rfl):
    EX X (.Call (.Attribute (.Name x p) "reverse" apos) [] [] cpos) true (fo i):=by
  refine aW (pU PySem.F.plainAttrs_list PySem.F.slot_list_reverse PySem.F.type_list_reverse mJ (gN hN hv hd hcd) hbase hline) fun σ H Q z=>?_
  obtain ⟨B,E,xs,Xs,res,E',⟨F,A,fr⟩,cl,e,q⟩:=z
  unfold fo at e
  split at e
  · rename_i ds ei
    cases e
    obtain ⟨l,vs,eo,hl,r,put⟩:=fr.mut ei (cl rfl)
    have fr2:=put vs.reverse ds.reverse r.rev
    exact ⟨_,eo, .inl ⟨rfl,_,SqL.of hl⟩,l,vs,rfl,rfl,hl,q _ _ ⟨_,_,fr2.push ⟨rfl,_,rfl, .non⟩⟩⟩
  · cases e
end
def lH (scope:Scope) (env:Env):List (Str×Addr):=((scope.names.filter fun p=>p.2 == .free).map fun p=>(p.1,(env.cells.lookup p.1).getD 0)).reverse
theorem lI {X:Cx} {scope:Scope} {N:List Str} {js:List (Option Nat)} (clos:closureFor scope X.env=pure (lH scope X.env):=by rfl) (nocell:∀y∈scope.names,y.2≠ .cell:=by decide+kernel) (kind:scope.kind= .function:=by rfl)
    (names:∀y∈scope.names,y.2= .local→scope.names.lookup y.1=some .local:=by decide+kernel) (same:(scope.names.filter fun p=>p.2 == .free).all (fun p=>(X.env.cells.lookup p.1).isSome)=true:=by rfl)
    (has:(relabel scope X.env).names.all (fun y=> !(y.2 == .cell||y.2 == .free)||((lH scope X.env).lookup y.1).isSome)=true:=by rfl) (len:js.length=N.length:=by rfl)
    (fr:(js.zip N).all (fun p=>match p.1 with | none=>true | some j=>X.N[j]? == some p.2&&((relabel scope X.env).names.lookup p.2 == some .cell||(relabel scope X.env).names.lookup p.2 == some .free)&&(X.env.kindOf p.2 == some .cell||X.env.kindOf p.2 == some .free))=true:=by rfl):
    CompOk X scope (relabel scope X.env) (lH scope X.env) N js where
  clos:=clos
  rel:=rfl
  nocell:=nocell
  kind:=kind
  names:=names
  same:=fun x c e=>by
    have hm:=PySem.mem_of_lookup e
    unfold lH at hm
    obtain ⟨p,hp,ep⟩:=List.mem_map.mp (List.mem_reverse.mp hm)
    have:=List.all_eq_true.mp same _ hp
    obtain ⟨c',ec⟩:=Option.isSome_iff_exists.mp this
    injection ep with e1 e2
    subst e1
    rw [ec] at e2 ⊢
    exact congrArg some e2
  has:=fun x h=>by
    have key:∀k,(relabel scope X.env).names.lookup x=some k→(k == NameKind.cell||k == NameKind.free)=true→∃c,(lH scope X.env).lookup x=some c:=fun k h hk=>by
      have:=List.all_eq_true.mp has _ (PySem.mem_of_lookup h)
      simp only [hk,Bool.not_true,Bool.false_or] at this
      exact Option.isSome_iff_exists.mp this
    rcases h with h | h
    · exact key _ h rfl
    · exact key _ h rfl
  len:=len
  from_:=fun i j h=>by
    have hi:i < js.length:=(List.getElem?_eq_some_iff.mp h).1
    obtain ⟨x,ex⟩:∃x,N[i]? =some x:=⟨N[i]'(by omega),List.getElem?_eq_getElem (by omega)⟩
    have hz:(js.zip N)[i]? =some (some j,x):=by rw [List.getElem?_zip_eq_some];exact ⟨h,ex⟩
    have:=List.all_eq_true.mp fr _ (List.mem_of_getElem? hz)
    simp only [Bool.and_eq_true,Bool.or_eq_true,beq_iff_eq] at this
    exact ⟨x,ex,this.1.1,this.1.2,this.2⟩
structure Bn (mg:Str→Option Value):Prop where
  len:mg "len"=none
  range:mg "range"=none
  abs:mg "abs"=none
  min:mg "min"=none
  max:mg "max"=none
  reversed:mg "reversed"=none
  enumerate:mg "enumerate"=none
  isinstance:mg "isinstance"=none
  list:mg "list"=none
  tuple:mg "tuple"=none
  str:mg "str"=none
  int:mg "int"=none
  bool:mg "bool"=none
  sorted:mg "sorted"=none
  zip:mg "zip"=none
  sum:mg "sum"=none
  any:mg "any"=none
  all:mg "all"=none
  set:mg "set"=none
  dict:mg "dict"=none
theorem wG {K:PySem.W.Frag} {h:Heap} {mg:Str→Option Value} (X:K.In h) (G:h.Ns mainGlobals mg)
    (z1:PySem.W.nsIn K mainGlobals "len"=some none) (z2:PySem.W.nsIn K mainGlobals "range"=some none) (z3:PySem.W.nsIn K mainGlobals "abs"=some none) (z4:PySem.W.nsIn K mainGlobals "min"=some none) (z5:PySem.W.nsIn K mainGlobals "max"=some none) (z6:PySem.W.nsIn K mainGlobals "reversed"=some none) (z7:PySem.W.nsIn K mainGlobals "enumerate"=some none) (z8:PySem.W.nsIn K mainGlobals "isinstance"=some none) (z9:PySem.W.nsIn K mainGlobals "list"=some none) (z10:PySem.W.nsIn K mainGlobals "tuple"=some none) (z11:PySem.W.nsIn K mainGlobals "str"=some none) (z12:PySem.W.nsIn K mainGlobals "int"=some none) (z13:PySem.W.nsIn K mainGlobals "bool"=some none) (z14:PySem.W.nsIn K mainGlobals "sorted"=some none) (z15:PySem.W.nsIn K mainGlobals "zip"=some none) (z16:PySem.W.nsIn K mainGlobals "sum"=some none) (z17:PySem.W.nsIn K mainGlobals "any"=some none) (z18:PySem.W.nsIn K mainGlobals "all"=some none) (z19:PySem.W.nsIn K mainGlobals "set"=some none) (z20:PySem.W.nsIn K mainGlobals "dict"=some none):Bn mg:=
  ⟨PySem.W.mg_none_of X G z1,PySem.W.mg_none_of X G z2,PySem.W.mg_none_of X G z3,PySem.W.mg_none_of X G z4,PySem.W.mg_none_of X G z5,PySem.W.mg_none_of X G z6,PySem.W.mg_none_of X G z7,PySem.W.mg_none_of X G z8,PySem.W.mg_none_of X G z9,PySem.W.mg_none_of X G z10,PySem.W.mg_none_of X G z11,PySem.W.mg_none_of X G z12,PySem.W.mg_none_of X G z13,PySem.W.mg_none_of X G z14,PySem.W.mg_none_of X G z15,PySem.W.mg_none_of X G z16,PySem.W.mg_none_of X G z17,PySem.W.mg_none_of X G z18,PySem.W.mg_none_of X G z19,PySem.W.mg_none_of X G z20⟩
end PL
namespace PL
open PySem L2 Nh
section
variable {K:PySem.W.Frag} {F H:Hp}
theorem PtsOk.append:∀{us:List V} {ts:List Pt} {A:List Addr} {us':List V} {ts':List Pt} {A':List Addr},PtsOk K F H us ts A→PtsOk K F H us' ts' A'→PtsOk K F H (us++us') (ts++ts') (A++A')
  | [],[],A,_,_,_,h,h'=>by rw [show A=[] from h];exact h'
  | v::vs, .fl d::ps,A,_,_,_,h,h'=>⟨h.1,PtsOk.append h.2 h'⟩
  | v::vs, .ol ds::ps,A,_,_,_,h,h'=>by
    obtain ⟨l,us,A1,rfl,rfl,hl,hr,q⟩:=h
    exact ⟨l,us,_,rfl,rfl,hl,hr,q.append h'⟩
  | [],_::_,_,_,_,_,h,_=>False.elim h
  | _::_,[],_,_,_,_,h,_=>False.elim h
theorem PtsOk.rev:∀{us:List V} {ts:List Pt} {A:List Addr},PtsOk K F H us ts A→PtsOk K F H us.reverse ts.reverse A.reverse
  | [],[],A,h=>by rw [show A=[] from h];exact rfl
  | v::vs, .fl d::ps,A,h=>by
    rw [List.reverse_cons,List.reverse_cons,←List.append_nil A.reverse]
    exact (PtsOk.rev h.2).append (us':=[v]) (ts':=[.fl d]) (A':=[]) ⟨h.1,rfl⟩
  | v::vs, .ol ds::ps,A,h=>by
    obtain ⟨l,us,A1,rfl,rfl,hl,hr,q⟩:=h
    rw [List.reverse_cons,List.reverse_cons,List.reverse_cons]
    exact q.rev.append (us':=[.ref l]) (ts':=[.ol ds]) (A':=[l]) ⟨l,us,[],rfl,rfl,hl,hr,rfl⟩
  | [],_::_,_,h=>False.elim h
  | _::_,[],_,h=>False.elim h
theorem PtsOk.len:∀{us:List V} {ts:List Pt} {A:List Addr},PtsOk K F H us ts A→us.length=ts.length
  | [],[],A,_=>rfl
  | v::vs, .fl d::ps,A,h=>congrArg (· +1) h.2.len
  | v::vs, .ol ds::ps,A,h=>by
    obtain ⟨l,us,A1,rfl,rfl,hl,hr,q⟩:=h
    exact congrArg (· +1) q.len
  | [],_::_,_,h=>False.elim h
  | _::_,[],_,h=>False.elim h
end
abbrev yC:=List Sl→Option (List Pt×List Sl)
end PL
namespace PL
open PySem L2 Nh
theorem i9 {P:Program} {w:World} {K:PySem.W.Frag} {mg:Str→Option Value} {base:Heap} {x:Str} {st:Stmt} {N ps:List Str} {k:Nat} (D:Def K mg x st ps) (S:FnScope N ps (ae st)):Own P w K mg base (k+1) x ps (cC K fun _=>none):=by
  refine D.own S (fun vs H Q E h=>?_) (fun f cdv A outer s H vs Q E hr h=>?_)
  · obtain ⟨ds,r,e,_⟩:=h
    cases e
  · obtain ⟨ds,r,e,_⟩:=h
    cases e
end PL
namespace PL
open PySem L2 Nh
def fJ:List PyData→Option (List Bool)
  | []=>some []
  | .bool b::ds=>(fJ ds).map (b:: ·)
  | _=>none
theorem i_ {K:PySem.W.Frag} {H:Hp}:∀{vs:List V} {ds:List PyData} {bs:List Bool},RpA K H vs ds→fJ ds=some bs→vs=bs.map V.bl
  | _,_,bs, .nil,e=>by cases e;rfl
  | _,_,bs, .cons (d:=d) h t,e=>by
    cases d <;> simp [fJ] at e
    obtain ⟨cs,e,rfl⟩:=e
    cases h
    rw [i_ t e]
    rfl
section
variable {X:Cx} {e:Expr} {es:List Expr} {m1:Bool} {g:kY} {p pos:Pos}
theorem fF:∀{ns:List Int} {us:List Value},Vals (ns.map V.int) us→us.length=ns.length∧∀(i:Nat) (v:Value),us[i]? =some v→∃t,v=Value.int (ns.getD i 0) t
  | [],_, .nil=>⟨rfl,fun i v h=>by simp at h⟩
  | n::ns,_, .cons h t=>by
    obtain ⟨tk,rfl⟩:=h
    obtain ⟨h1,h2⟩:=fF t
    refine ⟨by simp [h1],fun i v h=>?_⟩
    cases i with
    | zero=>simp at h;subst h;exact ⟨tk,rfl⟩
    | succ i=>simpa using h2 i v (by simpa using h)
end
end PL
namespace PL
open PySem L2 Nh
def k_ (a b:Str):Bool:=decide (a.cps.toList≤b.cps.toList)
def ib (ss:List Str):List Str:=ss.mergeSort k_
theorem g_ (a b c:Str) (h:k_ a b=true) (k:k_ b c=true):k_ a c=true:=decide_eq_true (List.le_trans (of_decide_eq_true h) (of_decide_eq_true k))
theorem j2 (a b:Str):(k_ a b||k_ b a)=true:=by
  rcases List.le_total a.cps.toList b.cps.toList with h | h
  · simp [k_,h]
  · simp [k_,h]
theorem lJ {a b:Str} (h:k_ a b=true) (k:k_ b a=true):a=b:=by
  have e:=List.le_antisymm (of_decide_eq_true h) (of_decide_eq_true k)
  cases a;cases b
  simp only at e
  rw [Array.toList_inj.mp e]
theorem j3:∀(p:Str) (l:List Str),PyProof.Rows.risingS p l=true→(p::l).Pairwise (fun a b=>k_ a b=true)
  | p,[],_=>by simp
  | p,x::r,h=>by
    have h':(!PySem.Spec.ltCps x.cps.toList p.cps.toList&&PyProof.Rows.risingS x r)=true:=h
    rw [Bool.and_eq_true,PyProof.Rows.ltCps_eq] at h'
    have ih:=j3 x r h'.2
    have hpx:k_ p x=true:=by
      have:=h'.1
      simp only [Bool.not_eq_true',decide_eq_false_iff_not] at this
      exact decide_eq_true this
    refine List.pairwise_cons.mpr ⟨fun y hy=>?_,ih⟩
    rcases List.mem_cons.mp hy with rfl | hy
    · exact hpx
    · exact g_ p x y hpx ((List.pairwise_cons.mp ih).1 y hy)
theorem oW:∀l:List Str,PyProof.Rows.sortedS l=true→l.Pairwise (fun a b=>k_ a b=true)
  | [],_=>List.Pairwise.nil
  | x::r,h=>j3 x r h
theorem mV {a b:List Str} (p:a.Perm b) (h:PyProof.Rows.sortedS a=true):a=ib b:=
  List.Perm.eq_of_pairwise (fun _ _ _ _ h k=>lJ h k) (oW a h) (List.pairwise_mergeSort g_ j2 b) (p.trans (List.mergeSort_perm b k_).symm)
theorem j4 (ss:List Str):(ib ss).length=ss.length:=(List.mergeSort_perm ss k_).length_eq
section
variable {X:Cx} {e:Expr} {m1:Bool} {f:bP} {p pos:Pos}
theorem lK:∀{ss:List Str} {us:List Value},Vals (ss.map V.str) us→PyProof.Rows.StrsAre us ss
  | [],_, .nil=> .nil
  | s::ss,_, .cons h t=>by obtain ⟨tk,rfl⟩:=h;exact .cons _ _ (lK t)
theorem lL:∀{ss:List Str} {us:List Value},PyProof.Rows.StrsAre us ss→Vals (ss.map V.str) us
  | [],_, .nil=> .nil
  | _::_,_, .cons y t h=> .cons ⟨t,rfl⟩ (lL h)
def n4:List PyData→Option (List Str)
  | []=>some []
  | .str x::ds=>(n4 ds).map (x:: ·)
  | _=>none
theorem n5 {K:PySem.W.Frag} {H:Hp}:∀{vs:List V} {ds:List PyData} {bs:List Str},RpA K H vs ds→n4 ds=some bs→vs=bs.map V.str
  | _,_,bs, .nil,e=>by cases e;rfl
  | _,_,bs, .cons (d:=d) h t,e=>by
    cases d <;> simp [n4] at e
    obtain ⟨cs,e,rfl⟩:=e
    cases h
    rw [n5 t e]
    rfl
theorem ja {K:PySem.W.Frag} {H:Hp}:∀ss:List Str,RpA K H (ss.map V.str) (ss.map PyData.str)
  | []=> .nil
  | s::ss=> .cons (.str s) (ja ss)
end
end PL
namespace PL
open PySem L2 Nh
def rA (ks:List Str) (x:Str):List Str:=if x∈ks then ks else ks++[x]
def fN (ss:List Str):List Str:=ss.foldl rA []
def gu (x:Str):List Str:=x.cps.toList.map fun c=>⟨#[c]⟩
def jb (g:bP):bP:=fun E=>(g E).bind fun a=>match look a.2 a.1 with
  | some (.list ds)=>(n4 ds).bind fun ss=>if ss.length < 4000∧(fN ss).length < 64 then some (.ow ((ib (fN ss)).map .str),a.2) else none
  | some (.str x)=>if (gu x).length < 4000∧(fN (gu x)).length < 64 then some (.ow ((ib (fN (gu x))).map .str),a.2) else none
  | _=>none
end PL
namespace NhSet
open PySem PyProof.Rows
structure SS (w:World) (b:Bool) (ks:List Str) (es:Array (Int×Value)) (t:SetTable):Prop where
  perm:(es.toList.map (fun e=>strOf e.2)).Perm ks
  elems:∀e∈es.toList,∃x tk,e=(hashStr w x,Value.str x tk)
  bound:es.size < scanBound
  fits:t.fits es.size=true
  led:t.led=b
  plain:es.size≠0→t.plain=false
abbrev bF (es:Array (Int×Value)) (ep:Nat) (t:SetTable):Obj:={cls:= .type "set",dict:=none,data:= .set es ep t}
def StrSet (w:World) (h:Heap) (a:Addr) (b:Bool) (ks:List Str):Prop:=∃es ep t,h.get? a=some (bF es ep t)∧SS w b ks es t
theorem StrSet.at' {w:World} {h h':Heap} {a:Addr} {b:Bool} {ks:List Str} (S:StrSet w h a b ks) (e:∀o,h.get? a=some o→h'.get? a=some o):StrSet w h' a b ks:=
  let ⟨es,ep,t,ho,r⟩:=S;⟨es,ep,t,e _ ho,r⟩
theorem StrSet.obj {w:World} {h:Heap} {a:Addr} {b:Bool} {ks:List Str} (S:StrSet w h a b ks):∃o,h.get? a=some o:=let ⟨_,_,_,ho,_⟩:=S;⟨_,ho⟩
theorem StrSet.typeIs {w:World} {s:Shared} {a:Addr} {b:Bool} {ks:List Str} (S:StrSet w s.heap a b ks):s.TypeIs (.ref a) "set":=let ⟨_,_,_,ho,_⟩:=S;⟨_,ho,rfl⟩
theorem SS.elemsOf {prog:Program} {w:World} {b:Bool} {ks:List Str} {es:Array (Int×Value)} {t:SetTable} (S:SS w b ks es t):ElemsOf (strKind prog w) es.toList:=fun e he=>by
  obtain ⟨x,tk,rfl⟩:=S.elems e he
  exact ⟨⟨x,by simp [PySem.strKind,Value.isStrOf],rfl⟩,rfl⟩
theorem SS.len {w:World} {b:Bool} {ks:List Str} {es:Array (Int×Value)} {t:SetTable} (S:SS w b ks es t):es.size=ks.length:=by
  have:=S.perm.length_eq;simpa using this
theorem SS.mem {w:World} {b:Bool} {ks:List Str} {es:Array (Int×Value)} {t:SetTable} (S:SS w b ks es t) (x:Str):x∈ks↔∃e∈es.toList,Value.isStrOf x e.2=true:=by
  rw [←S.perm.mem_iff,List.mem_map]
  constructor
  · rintro ⟨e,he,rfl⟩
    obtain ⟨y,tk,rfl⟩:=S.elems e he
    exact ⟨_,he,by simp [Value.isStrOf,strOf]⟩
  · rintro ⟨e,he,hx⟩
    obtain ⟨y,tk,rfl⟩:=S.elems e he
    have:y=x:=by simpa [Value.isStrOf] using hx
    exact ⟨_,he,by simp [strOf,this]⟩
theorem SetTable.orStandIn_led (t:SetTable) (n:Nat):(t.orStandIn n).led=t.led:=by
  unfold SetTable.orStandIn;split <;> rfl
theorem mW (t:SetTable) (es:Array (Int×Value)) (h:Int) (x:Value):(layNew t es h x).2.1.led=t.led:=by
  unfold layNew
  split
  · exact SetTable.orStandIn_led _ _
  · rfl
theorem mX {mask finger moves:Nat} {led plain:Bool} {hashes:Array Int} {t':SetTable} {order:Array Nat} (h:SetTable.laid mask finger moves led plain hashes=some (t',order)):t'.led=led∧t'.plain=plain:=by
  unfold SetTable.laid at h
  cases hc:SetTable.layClean mask hashes with
  | none=>rw [hc] at h;simp at h
  | some ow=>rw [hc] at h;simp at h;rw [←h.1];exact ⟨rfl,rfl⟩
theorem jc (t:SetTable) (es:Array (Int×Value)) (wanted:Nat) (hp:t.plain=false):(relayAll t es wanted).2.1.led=t.led∧(relayAll t es wanted).2.1.plain=false:=by
  unfold relayAll
  split
  · rename_i t' order hr
    dsimp only
    split
    · have:=mX hr
      exact ⟨this.1,this.2.trans hp⟩
    · exact ⟨rfl,rfl⟩
  · exact ⟨rfl,rfl⟩
section
variable {prog:Program} {w:World} {A:Around} {E:Value→Shared→Prop} {s:Shared}
theorem jB (es es':Array (Int×Value)) (ep:Nat) (t t':SetTable):Obj.putSet es' t' (bF es ep t)=bF es' (ep+1) t':=rfl
theorem lM {h:Heap} {a:Addr} {es es':Array (Int×Value)} {ep:Nat} {t t':SetTable} (ho:h.get? a=some (bF es ep t)):(h.update a (Obj.putSet es' t')).get? a=some (bF es' (ep+1) t'):=
  Heap.get?_update_self (Obj.putSet es' t') ho (by rw [jB];rfl)
theorem n6 {g:Bool→Sem Unit} (hg:∀(b:Bool) (s₁:Shared) (Q':Unit→Shared→Prop),Q' () s₁→wpAny (model prog w) A (g b) Q' E s₁)
    {a:Addr} {es:Array (Int×Value)} {ep:Nat} {t:SetTable} (ho:s.heap.get? a=some (bF es ep t))
    {es1:Array (Int×Value)} {t2:SetTable} {b:Bool} {ks:List Str} (S:SS w b ks es1 t2) (hp:t2.plain=false) {wasDummy:Bool} {R:Option Bool→Shared→Prop}
    (h:∀h',Heap.SameBut a s.heap h'→StrSet w h' a b ks→R (some true) {s with heap:=h'}):
    wpAny (model prog w) A (do
        storeSet a es1 t2
        if (!wasDummy&&t2.tooFull)=true then do
            g (relayAll t2 es1 (SetTable.grown es1.size)).2.2
            storeSet a (relayAll t2 es1 (SetTable.grown es1.size)).1 (relayAll t2 es1 (SetTable.grown es1.size)).2.1
            pure (some true)
          else pure (some true)) R E s:=by
  refine wpAny_bind (wpAny_storeSet_of ho rfl ?_ (fits_of_scanBound S.bound))
  have ho1:=lM (es':=es1) (t':=t2) ho
  have hsb1:=Heap.SameBut.update s.heap a (Obj.putSet es1 t2)
  split
  · have hpm:=relayAll_perm t2 es1 (SetTable.grown es1.size)
    have hfr:=relayAll_fits t2 es1 (SetTable.grown es1.size)
    have hmk:=jc t2 es1 (SetTable.grown es1.size) hp
    generalize hRl:relayAll t2 es1 (SetTable.grown es1.size)=Rl at hpm hfr hmk ⊢
    obtain ⟨es2,t3,gave2⟩:=Rl
    dsimp only at hpm hfr hmk ⊢
    have hsz:es2.size=es1.size:=by rw [←Array.length_toList,hpm.length_eq,Array.length_toList]
    have hb2:es2.size < scanBound:=by rw [hsz];exact S.bound
    have S2:SS w b ks es2 t3:=⟨(hpm.map _).trans S.perm,fun e he=>S.elems e (hpm.mem_iff.mp he),hb2,hfr,hmk.1.trans S.led,fun _=>hmk.2⟩
    refine wpAny_bind (hg _ _ _ ?_)
    refine wpAny_bind (wpAny_storeSet_of ho1 rfl ?_ (fits_of_scanBound hb2))
    exact wpAny_pure (h _ (hsb1.trans (Heap.SameBut.update _ a _)) ⟨es2,_,t3,lM ho1,S2⟩)
  · exact wpAny_pure (h _ hsb1 ⟨es1,_,t2,ho1,S⟩)
def iw (ks:List Str) (x:Str):List Str:=if x∈ks then ks else ks++[x]
theorem hG {a:Addr} {b:Bool} {ks:List Str} {x:Str} {tk:Tok} {Q:Bool→Shared→Prop} (hS:StrSet w s.heap a b ks) (hroom:ks.length+1 < scanBound)
    (h:∀(r:Bool) h',Heap.SameBut a s.heap h'→StrSet w h' a b (iw ks x)→Q r {s with heap:=h'}):
    wpAny (model prog w) A (setAddHashed a (.str x tk) (hashStr w x)) Q E s:=by
  obtain ⟨es,ep,t,ho,S⟩:=hS
  have hb1:es.size+1 < scanBound:=by rw [S.len];exact hroom
  have hel:=S.elemsOf (prog:=prog)
  have hkey:(strKind prog w).is x (.str x tk)=true:=by simp [PySem.strKind,Value.isStrOf]
  unfold setAddHashed setAddHashedIn
  refine wpAny_holding (wpAny_bind (wpAny_setState_of ho rfl S.fits ?_))
  dsimp only
  rw [byScan_of (knd:=strKind prog w) (x:= .str x tk) rfl S.bound hel]
  simp only [↓reduceIte]
  unfold setAddByScan
  refine wpAny_bind ?_
  refine wpAny_bind (wpAny_rule ?_)
  refine wpAny_bind (wpAny_setScan_of (knd:=strKind prog w) hkey ho rfl S.fits hel ?_)
  cases hr:List.findIdx? (fun e=>(strKind prog w).is x e.2) es.toList with
  | some j=>
    dsimp only
    obtain ⟨hj,hpj,_⟩:=List.findIdx?_eq_some_iff_getElem.mp hr
    have hk:x∈ks:=(S.mem x).mpr ⟨es.toList[j],List.getElem_mem hj,hpj⟩
    refine wpAny_pure (wpAny_pure ?_)
    have e:s={s with heap:=s.heap}:=by cases s;rfl
    rw [e]
    exact h _ s.heap (Heap.SameBut.refl a s.heap) (by rw [iw,if_pos hk];exact ⟨es,ep,t,ho,S⟩)
  | none=>
    dsimp only
    have hk:x∉ks:=fun hk=>by
      obtain ⟨e,he,hp⟩:=(S.mem x).mp hk
      have:=List.findIdx?_eq_none_iff.mp hr e he
      rw [show (strKind prog w).is x e.2=true from hp] at this;exact Bool.noConfusion this
    have hgw:∀(b:Bool) {s₁:Shared} {Q':Unit→Shared→Prop},Q' () s₁→wpAny (model prog w) A (match b with | true=>rule "set.scan.the-table-gave-way" | false=>pure ()) Q' E s₁:=
      fun b s₁ Q' hq=>by cases b <;> first | exact wpAny_pure hq | exact wpAny_rule hq
    have hperm:=layNew_perm t es (hashStr w x) (.str x tk)
    have hfits:=layNew_fits t es (hashStr w x) (.str x tk)
    have hled:=mW t es (hashStr w x) (.str x tk)
    generalize hL:layNew t es (hashStr w x) (.str x tk)=L at hperm hfits hled ⊢
    obtain ⟨es1,t1,wasDummy,gave⟩:=L
    dsimp only at hperm hfits hled ⊢
    rw [Array.toList_push] at hperm
    have hb1':es1.size < scanBound:=by rw [←Array.length_toList,hperm.length_eq,List.length_append,Array.length_toList];simpa using hb1
    have hpm:(es1.toList.map (fun e=>strOf e.2)).Perm (ks++[x]):=(hperm.map _).trans (by rw [List.map_append];exact S.perm.append_right _)
    have hel1:∀e∈es1.toList,∃x tk,e=(hashStr w x,Value.str x tk):=fun e he=>by
      rcases List.mem_append.mp (hperm.mem_iff.mp he) with z | z
      · exact S.elems e z
      · exact ⟨x,tk,List.mem_singleton.mp z⟩
    refine wpAny_bind (hgw _ ?_)
    split
    · refine wpAny_bind ?_
      rw [hashByValue_scannable 8 (x:= .str x tk) rfl]
      refine wpAny_pure ?_
      simp only [plainKind,Bool.false_eq_true,↓reduceIte]
      refine n6 ?_ ho (t2:={t1 with plain:=false}) (ks:=iw ks x) (b:=b) ⟨by rw [iw,if_neg hk];exact hpm,hel1,hb1',SetTable.fits_plain_off hfits,hled.trans S.led,fun _=>rfl⟩ rfl ?_
      · intro b s₁ Q' hq;cases b <;> first | exact wpAny_pure hq | exact wpAny_rule hq
      · intro h' hsb hS';dsimp only;exact wpAny_pure (h _ h' hsb hS')
    · rename_i hpl
      refine wpAny_bind (wpAny_pure ?_)
      simp only [↓reduceIte]
      have hpl':t1.plain=false:=by simpa using hpl
      refine n6 ?_ ho (ks:=iw ks x) (b:=b) ⟨by rw [iw,if_neg hk];exact hpm,hel1,hb1',hfits,hled.trans S.led,fun _=>hpl'⟩ hpl' ?_
      · intro b s₁ Q' hq;cases b <;> first | exact wpAny_pure hq | exact wpAny_rule hq
      · intro h' hsb hS';dsimp only;exact wpAny_pure (h _ h' hsb hS')
end
def gc (val:Nat→Str) (i:Nat):List Str:=((List.range i).map val).foldl iw []
theorem j5 (val:Nat→Str) (i:Nat):gc val (i+1)=iw (gc val i) (val i):=by
  unfold gc;rw [List.range_succ,List.map_append,List.foldl_append];rfl
theorem qC (ks:List Str) (x:Str):(iw ks x).length≤ks.length+1:=by
  unfold iw;split
  · omega
  · simp
theorem lN (val:Nat→Str):∀i,(gc val i).length≤i
  | 0=>Nat.le_refl _
  | i+1=>by rw [j5];have:=lN val i;have:=qC (gc val i) (val i);omega
section
variable {prog:Program} {w:World} {A:Around} {R:Result→Shared→Prop} {I:Addr} {fp wr:List Addr} {G:Array GenState→Array GenState→Prop} {n:Nat} {P:Nat→Value→Prop} {St:Nat→Shared→Prop}
theorem ie (W:WalksS prog w A.in1 I fp wr G n P St) (S:Addr) (hSf:S∉fp) (b:Bool)
    (val:Nat→Str) (hval:∀i v,P i v→∃t,v= .str (val i) t) (hb:n+1 < scanBound):
    ∀(k i:Nat) (s:Shared),n - i=k→i≤n→St i s→StrSet w s.heap S b (gc val i)→
      (∀s',Moved (S::wr) G s s'→StrSet w s'.heap S b (gc val n)→R (.ok (.ret .none)) s')→
      codeAny (model prog w) A (.builtin "set.update.loop" ⟨[.ref S, .ref I],[]⟩) R s:=by
  have hSw:S∉wr:=fun h=>hSf (W.sub _ h)
  have hsub:∀b∈wr,b∈S::wr:=fun b hb=>List.mem_cons_of_mem _ hb
  intro k
  induction k with
  | zero=>
    intro i s hk hi hst hS hR
    have hin:i=n:=by omega
    subst hin
    refine codeAny_builtin PyProof.Rows.F.entry_set_update_loop ?_
    rw [Around.under_plainId PyProof.Rows.F.plain_set_update_loop _]
    show wpAny _ A.in1 (pyNext (.ref I) >>= _) _ _ s
    refine wpAny_bind (W.done s _ _ hst fun s' hm=>?_)
    show wpAny _ A.in1 (ret Value.none) _ _ s'
    exact wpAny_pure (hR s' (hm.mono hsub) (hS.at' fun o e=>hm.heap S o hSw e))
  | succ k ih=>
    intro i s hk hi hst hS hR
    have hlt:i < n:=by omega
    refine codeAny_builtin PyProof.Rows.F.entry_set_update_loop ?_
    rw [Around.under_plainId PyProof.Rows.F.plain_set_update_loop _]
    show wpAny _ A.in1 (pyNext (.ref I) >>= _) _ _ s
    refine wpAny_bind (W.item i s _ _ hlt hst fun v s' hP hst' hm=>?_)
    obtain ⟨t,rfl⟩:=hval i v hP
    have hS':StrSet w s'.heap S b (gc val i):=hS.at' fun o e=>hm.heap S o hSw e
    show wpAny _ A.in1 (holding [Value.str (val i) t] (setAdd S (.str (val i) t)) >>= _) _ _ s'
    refine wpAny_bind (wpAny_holding ?_)
    unfold setAdd
    refine wpAny_holding ?_
    refine wpAny_bind (wpAny_pyHash_str ?_)
    have hroom:(gc val i).length+1 < scanBound:=by have:=lN val i;omega
    refine hG (s:={s' with toks:=s'.toks+1}) hS' hroom fun r h' hsb hS2=>?_
    refine wpAny_pure ⟨plainId_quiet PyProof.Rows.F.plain_set_update_loop _,ih (i+1) _ (by omega) hlt (W.frame _ s' _ _ hst' (Nat.le_succ _) fun b hb o e=>?_) (by rw [j5];exact hS2) fun s'' hm'' hS''=>?_⟩
    · rw [hsb.2 b (fun h:b=S=>hSf (by rw [←h];exact hb))];exact e
    · refine hR s'' (Moved.trans W.gtrans ((hm.mono hsub).then_heap (Nat.le_succ _) fun b o hb e=>?_) hm'') hS''
      rw [hsb.2 b (fun h:b=S=>hb (by rw [h];exact List.mem_cons_self))];exact e
end
theorem gv (w:World) (led:Bool):SS w led [] #[] (.fresh 0 0 led):=⟨by simp,fun e he=>by simp at he,by decide,by rfl,rfl,fun h=>absurd rfl h⟩
def fT (w:World):Bool:= !w.params.followText "set-order"
section
variable {prog:Program} {w:World} {A:Around} {E:Value→Shared→Prop} {s:Shared}
theorem lO (a:Value) {Q₁:Value→Shared→Prop}
    (h:Q₁ (.ref s.heap.objs.size) {s with heap:=s.heap.push (bF #[] 0 (.fresh 0 0 (fT w)))}):
    codeAny (model prog w) A (.call (.builtin "set.__new__") ⟨[.type "set",a],[]⟩) (wants Q₁ E) s:=by
  refine codeAny_of_tree ?_
  show wpAny _ A.in1 (do checkBuiltinCall "set.__new__" ⟨[.type "set",a],[]⟩;again (.builtin "set.__new__" ⟨[.type "set",a],[]⟩)) _ _ s
  refine wpAny_bind (wpAny_of_eq (PySem.F.newCall_set_1 a) (wpAny_pure ⟨plainId_quiet PySem.F.plain_set_new _,codeAny_builtin PySem.F.entry_set_new ?_⟩))
  rw [Around.under_plainId PySem.F.plain_set_new _]
  unfold Builtin.«set.__new__» Builtin.Frozenset.newClass
  have hsub:=sub_set_self
  obtain ⟨hp,g,d,tk,os⟩:=s
  dsimp only
  wp_walk
  refine wpAny_askSetting (wpAny_pure ?_)
  dsimp only
  simp only [newObj]
  refine wpAny_bind (wpAny_alloc (wpAny_pure ?_))
  exact wpAny_pure h
end
end NhSet
namespace NhSet
open PySem PyProof.Rows
namespace F
theorem lP:isSubtype (.type "str") (.type "set")=pure false:=by rw [isSubtype_type];kernel_rfl
theorem gw:isSubtype (.type "str") (.type "frozenset")=pure false:=by rw [isSubtype_type];kernel_rfl
end F
section
variable {prog:Program} {w:World} {A:Around} {E:Value→Shared→Prop} {s:Shared}
theorem n8:∀{vs:List Value} {ns:List Str},StrsAre vs ns→∀(i:Nat) (v:Value),vs[i]? =some v→∃t,v= .str (ns.getD i ⟨#[]⟩) t
  | _,_, .nil,i,v,h=>by simp at h
  | _,_, .cons n t hr,0,v,h=>by simp at h;exact ⟨t,by rw [←h];rfl⟩
  | _,_, .cons n t hr,i+1,v,h=>by
    simp only [List.getElem?_cons_succ] at h
    obtain ⟨t',e⟩:=n8 hr i v h
    exact ⟨t',by rw [e];rfl⟩
set_option maxHeartbeats 4000000 in
theorem oX {l:Addr} {items:Array Value} {ns:List Str} {Q:Value→Shared→Prop}
    (hh:A.handled=none) (hl:s.heap.IsList l items) (hi:StrsAre items.toList ns) (hb:items.size+1 < scanBound)
    (h:∀(h':Heap) (tk:Nat),StrSet w h' s.heap.objs.size (fT w) (gc (fun i=>ns.getD i ⟨#[]⟩) items.size)→
      (∀b o,b < s.heap.objs.size→s.heap.get? b=some o→h'.get? b=some o)→Q (.ref s.heap.objs.size) {s with heap:=h',toks:=tk}):
    wpAny (model prog w) A (call (.type "set") [.ref l]) Q E s:=by
  obtain ⟨c,tl,hmro⟩:=PySem.F.called_set.mro
  have hmade:=PySem.F.called_set.made
  have hsub:=PySem.F.called_set.sub
  refine wpAny_call (codeAny_of_tree ?_)
  show wpAny _ _ (callAny (.type "set") _) _ _ _
  refine wpAny_pure ⟨Code.quiet_builtin _ (by decide+kernel),codeAny_builtin PySem.F.entry_type_call ?_⟩
  rw [Around.under_plain (weight_type_call_type "set" [.ref l] []) rfl]
  have h1:=PySem.F.called_set.notType
  have h2:=PySem.F.called_set.canCreate
  have hct:=PySem.F.typeCall_set_1 (.ref l)
  repeat (any_goals (first | assumption | wp_step))
  generalize hled:fT w=led at h
  refine codeAny_mono (lO (w:=w) (.ref l) (E:=E) (Q₁:=fun obj s₁=>obj= .ref s.heap.objs.size∧s₁={s with heap:=s.heap.push {cls:= .type "set",dict:=none,data:= .set #[] 0 (.fresh 0 0 led)}}) (by rw [hled];exact ⟨rfl,rfl⟩)) fun r s₁ hr=>?_
  cases r with
  | error e=>exact hr
  | ok fl=>
    cases fl with
    | ret obj=>
      obtain ⟨rfl,rfl⟩:=hr
      have hS:(s.heap.push {cls:= .type "set",dict:=none,data:= .set #[] 0 (.fresh 0 0 led)}).get? s.heap.objs.size=some {cls:= .type "set",dict:=none,data:= .set #[] 0 (.fresh 0 0 led)}:=Heap.get?_push_size _ rfl
      have hT:Shared.TypeIs {s with heap:=s.heap.push {cls:= .type "set",dict:=none,data:= .set #[] 0 (.fresh 0 0 led)}} (.ref s.heap.objs.size) "set":=⟨_,hS,rfl⟩
      have hli:=PySem.F.called_set.init.lookup
      have hbi:=PySem.F.called_set.init.bind (.ref s.heap.objs.size)
      repeat (any_goals (first | assumption | wp_step))
      refine codeAny_mono (codeAny_call_builtin (R:=wants (fun r s₂=>r= .none∧∃h' tk,s₂={s with heap:=h',toks:=tk}∧
          StrSet w h' s.heap.objs.size led (gc (fun i=>ns.getD i ⟨#[]⟩) items.size)∧
          (∀b o,b < s.heap.objs.size→s.heap.get? b=some o→h'.get? b=some o)) E) PySem.F.called_set.init.plain PySem.F.entry_set_init (check_set_init_1 hT ?_)) fun r₂ s₂ hr₂=>?_
      · obtain ⟨ol,hol,hcl,nl,hdl⟩:=hl
        obtain ⟨ocls,odict,odata,oslots⟩:=ol
        simp only at hcl hdl
        subst hcl;subst hdl
        have hol':(s.heap.push {cls:= .type "set",dict:=none,data:= .set #[] 0 (.fresh 0 0 led)}).get? l=some {cls:= .type "list",dict:=odict,data:= .seq items nl,slots:=oslots}:=Heap.get?_push_of_some _ hol
        have hsls:=PySem.F.sub_list_set
        have hslf:=PySem.F.sub_list_frozenset
        have hne:(Value.type "list" == Value.type "dict")=false:=by decide
        have hl1:(s.heap.push {cls:= .type "set",dict:=none,data:= .set #[] 0 (.fresh 0 0 led)}).IsList l items:=⟨_,hol',rfl,nl,rfl⟩
        unfold Builtin.«set.__init__» noKeywords Builtin.Frozenset.updateFrom
        generalize hPI:pyIter=PI
        wp_walk
        subst hPI
        refine wpAny_pyIter_list hl1 ?_
        refine wpAny_bind (wpAny_runValue ?_)
        have hlS:l < s.heap.objs.size:=Heap.lt_size hol
        have hh3:A.in1.in1.in1.handled=none:=by simp [hh]
        have hneI:l≠(s.heap.push {cls:= .type "set",dict:=none,data:= .set #[] 0 (.fresh 0 0 led)}).objs.size:=by
          rw [Heap.size_push];exact Nat.ne_of_lt (Nat.lt_succ_of_lt hlS)
        have hSf:s.heap.objs.size∉[(s.heap.push {cls:= .type "set",dict:=none,data:= .set #[] 0 (.fresh 0 0 led)}).objs.size,l]:=by
          rw [Heap.size_push];simp only [List.mem_cons,List.mem_singleton,List.not_mem_nil,or_false,not_or]
          exact ⟨Nat.ne_of_lt (Nat.lt_succ_self _),Nat.ne_of_gt hlS⟩
        have hval:∀(i:Nat) (v:Value),items[i]? =some v→∃t,v= .str ((fun i=>ns.getD i ⟨#[]⟩) i) t:=fun i v hv=>
          n8 hi i v (by rw [Array.getElem?_toList];exact hv)
        refine ie ((Walks.list hh3 _ l hneI items).toS) s.heap.objs.size
          hSf led (fun i=>ns.getD i ⟨#[]⟩) hval hb (items.size - 0) 0 _ (by omega) (Nat.zero_le _)
          ⟨⟨_,Heap.get?_push_size _ rfl,rfl,rfl⟩,(hl1.push _)⟩ ?hS0 ?hR
        case hS0=>
          have hget:((s.heap.push {cls:= .type "set",dict:=none,data:= .set #[] 0 (.fresh 0 0 led)}).push {cls:= .type "list_iterator",data:= .fields #[.ref l, .int 0 0]}).get? s.heap.objs.size
              =some {cls:= .type "set",dict:=none,data:= .set #[] 0 (.fresh 0 0 led)}:=Heap.get?_push_of_some _ hS
          exact ⟨_,_,_,hget,gv w led⟩
        case hR=>
          intro s' hm hS'
          obtain ⟨h',g',d',tk',os'⟩:=s'
          have eg:g'=s.gens:=hm.gens
          have ed:d'=s.drawn:=hm.drawn
          have eo:os'=s.os:=hm.os
          subst eg;subst ed;subst eo
          show wpAny _ _ _ _ _ _
          refine wpAny_pure ?_
          show wpAny _ _ (ret Value.none) _ _ _
          refine wpAny_pure ⟨rfl,h',tk',rfl,hS',fun b o hb e=>?_⟩
          have hb1:b≠s.heap.objs.size:=Nat.ne_of_lt hb
          have hb2:b≠(s.heap.push {cls:= .type "set",dict:=none,data:= .set #[] 0 (.fresh 0 0 led)}).objs.size:=by
            rw [Heap.size_push];exact Nat.ne_of_lt (Nat.lt_succ_of_lt hb)
          exact hm.heap b o (by simp only [List.mem_cons,List.mem_singleton,List.not_mem_nil,or_false,not_or];exact ⟨hb1,hb2⟩) (Heap.get?_push_of_some _ (Heap.get?_push_of_some _ e))
      · cases r₂ with
        | error e=>exact hr₂
        | ok fl₂=>
          cases fl₂ with
          | ret r=>
            obtain ⟨rfl,h',tk,rfl,hS',hk'⟩:=hr₂
            repeat (any_goals (first | assumption | wp_step))
            exact h _ _ hS' hk'
          | _=>exact hr₂.elim
    | _=>exact hr.elim
def eR (x:Str) (i:Nat):Str:=⟨#[x.cps.getD i 0]⟩
set_option maxHeartbeats 4000000 in
theorem qD {x:Str} {t:Tok} {Q:Value→Shared→Prop}
    (hh:A.handled=none) (hb:x.cps.size+1 < scanBound)
    (h:∀(h':Heap) (tk:Nat),StrSet w h' s.heap.objs.size (fT w) (gc (eR x) x.cps.size)→
      (∀b o,b < s.heap.objs.size→s.heap.get? b=some o→h'.get? b=some o)→Q (.ref s.heap.objs.size) {s with heap:=h',toks:=tk}):
    wpAny (model prog w) A (call (.type "set") [.str x t]) Q E s:=by
  obtain ⟨c,tl,hmro⟩:=PySem.F.called_set.mro
  have hmade:=PySem.F.called_set.made
  have hsub:=PySem.F.called_set.sub
  refine wpAny_call (codeAny_of_tree ?_)
  show wpAny _ _ (callAny (.type "set") _) _ _ _
  refine wpAny_pure ⟨Code.quiet_builtin _ (by decide+kernel),codeAny_builtin PySem.F.entry_type_call ?_⟩
  rw [Around.under_plain (weight_type_call_type "set" [.str x t] []) rfl]
  have h1:=PySem.F.called_set.notType
  have h2:=PySem.F.called_set.canCreate
  have hct:=PySem.F.typeCall_set_1 (.str x t)
  repeat (any_goals (first | assumption | wp_step))
  generalize hled:fT w=led at h
  refine codeAny_mono (lO (w:=w) (.str x t) (E:=E) (Q₁:=fun obj s₁=>obj= .ref s.heap.objs.size∧s₁={s with heap:=s.heap.push {cls:= .type "set",dict:=none,data:= .set #[] 0 (.fresh 0 0 led)}}) (by rw [hled];exact ⟨rfl,rfl⟩)) fun r s₁ hr=>?_
  cases r with
  | error e=>exact hr
  | ok fl=>
    cases fl with
    | ret obj=>
      obtain ⟨rfl,rfl⟩:=hr
      have hS:(s.heap.push {cls:= .type "set",dict:=none,data:= .set #[] 0 (.fresh 0 0 led)}).get? s.heap.objs.size=some {cls:= .type "set",dict:=none,data:= .set #[] 0 (.fresh 0 0 led)}:=Heap.get?_push_size _ rfl
      have hT:Shared.TypeIs {s with heap:=s.heap.push {cls:= .type "set",dict:=none,data:= .set #[] 0 (.fresh 0 0 led)}} (.ref s.heap.objs.size) "set":=⟨_,hS,rfl⟩
      have hli:=PySem.F.called_set.init.lookup
      have hbi:=PySem.F.called_set.init.bind (.ref s.heap.objs.size)
      repeat (any_goals (first | assumption | wp_step))
      refine codeAny_mono (codeAny_call_builtin (R:=wants (fun r s₂=>r= .none∧∃h' tk,s₂={s with heap:=h',toks:=tk}∧
          StrSet w h' s.heap.objs.size led (gc (eR x) x.cps.size)∧
          (∀b o,b < s.heap.objs.size→s.heap.get? b=some o→h'.get? b=some o)) E) PySem.F.called_set.init.plain PySem.F.entry_set_init (check_set_init_1 hT ?_)) fun r₂ s₂ hr₂=>?_
      · have hsls:=F.lP
        have hslf:=F.gw
        have hne:(Value.type "str" == Value.type "dict")=false:=by decide
        have hTx:Shared.TypeIs {s with heap:=s.heap.push {cls:= .type "set",dict:=none,data:= .set #[] 0 (.fresh 0 0 led)}} (.str x t) "str":=rfl
        unfold Builtin.«set.__init__» noKeywords Builtin.Frozenset.updateFrom
        generalize hPI:pyIter=PI
        wp_walk
        subst hPI
        refine wpAny_pyIter_str fun o St W hst=>?_
        refine wpAny_bind (wpAny_runValue ?_)
        have hh3:A.in1.in1.in1.handled=none:=by simp [hh]
        have hSf:s.heap.objs.size∉[(s.heap.push {cls:= .type "set",dict:=none,data:= .set #[] 0 (.fresh 0 0 led)}).objs.size]:=by
          rw [Heap.size_push];simp only [List.mem_cons,List.mem_singleton,List.not_mem_nil,or_false,not_or]
          exact Nat.ne_of_lt (Nat.lt_succ_self _)
        have hval:∀(i:Nat) (v:Value),SignAt x i v→∃t,v= .str (eR x i) t:=fun i v ⟨c,u,hc,hv⟩=>⟨u,by rw [hv];simp [eR,Array.getD_eq_getD_getElem?,hc]⟩
        refine ie ((W _ hh3).toS) s.heap.objs.size
          hSf led (eR x) hval hb (x.cps.size - 0) 0 _ (by omega) (Nat.zero_le _) hst ?hS0 ?hR
        case hS0=>exact ⟨_,_,_,Heap.get?_push_of_some _ hS,gv w led⟩
        case hR=>
          intro s' hm hS'
          obtain ⟨h',g',d',tk',os'⟩:=s'
          have eg:g'=s.gens:=hm.gens
          have ed:d'=s.drawn:=hm.drawn
          have eo:os'=s.os:=hm.os
          subst eg;subst ed;subst eo
          show wpAny _ _ _ _ _ _
          refine wpAny_pure ?_
          show wpAny _ _ (ret Value.none) _ _ _
          refine wpAny_pure ⟨rfl,h',tk',rfl,hS',fun b o hb e=>?_⟩
          have hb1:b≠s.heap.objs.size:=Nat.ne_of_lt hb
          have hb2:b≠(s.heap.push {cls:= .type "set",dict:=none,data:= .set #[] 0 (.fresh 0 0 led)}).objs.size:=by
            rw [Heap.size_push];exact Nat.ne_of_lt (Nat.lt_succ_of_lt hb)
          exact hm.heap b o (by simp only [List.mem_cons,List.mem_singleton,List.not_mem_nil,or_false,not_or];exact ⟨hb1,hb2⟩) (Heap.get?_push_of_some _ (Heap.get?_push_of_some _ e))
      · cases r₂ with
        | error e=>exact hr₂
        | ok fl₂=>
          cases fl₂ with
          | ret r=>
            obtain ⟨rfl,h',tk,rfl,hS',hk'⟩:=hr₂
            repeat (any_goals (first | assumption | wp_step))
            exact h _ _ hS' hk'
          | _=>exact hr₂.elim
    | _=>exact hr.elim
end
end NhSet
namespace NhSet
open PySem PyProof.Rows
theorem gd {α:Type}:∀{l:List α} {i:Nat} (h:i < l.length),(l[i]::l.eraseIdx i).Perm l
  | x::xs,0,h=>List.Perm.refl _
  | x::xs,i+1,h=>by
    have:=gd (l:=xs) (i:=i) (by simpa using h)
    simp only [List.getElem_cons_succ,List.eraseIdx_cons_succ]
    exact (List.Perm.swap x _ _).trans (this.cons x)
theorem j6 {α:Type} (next:Nat→Nat):∀(fuel k:Nat) (left:List α) (out:Array α),left.length=fuel→(pickOrder.go next fuel k left out).toList.Perm (out.toList++left)
  | 0,k,left,out,h=>by
    have:left=[]:=List.length_eq_zero_iff.mp h
    subst this;simp [pickOrder.go]
  | fuel+1,k,left,out,h=>by
    unfold pickOrder.go
    have hlt:next k % left.length < left.length:=Nat.mod_lt _ (by omega)
    rw [List.getElem?_eq_getElem hlt]
    dsimp only
    refine (j6 next fuel (k+1) _ _ (by rw [List.length_eraseIdx_of_lt hlt];omega)).trans ?_
    rw [Array.toList_push,List.append_assoc]
    exact (gd hlt).append_left _
theorem jd {α:Type} (next:Nat→Nat) (xs:Array α):(pickOrder next xs).toList.Perm xs.toList:=by
  have:=j6 next xs.size 0 xs.toList #[] (by simp)
  simpa [pickOrder] using this
section
variable {M:Model} {A:Around} {E:Value→Shared→Prop}
theorem kL {src:Source} {n:Nat} {s:Shared} {Q:Nat→Shared→Prop} (hn:n≠0) (h:∀i d,i < n→Q i {s with drawn:=d}):wpAny M A (choose src n) Q E s:=fun Γ p hΓ=>by
  show Sem.wp M Γ (.choose src n .pure) _ _ p s
  rw [Sem.wp_choose]
  exact ⟨hn,by rw [Sem.wp_pure];exact h _ _ (Nat.mod_lt _ (Nat.pos_of_ne_zero hn))⟩
theorem eX {α:Type}:∀(n:Nat) (xs:List α) (s:Shared) {Q:List α→Shared→Prop},xs.length=n→(∀ys d,ys.Perm xs→Q ys {s with drawn:=d})→wpAny M A (drawOrder n xs) Q E s
  | 0,xs,s,Q,hl,h=>by
    have:xs=[]:=List.length_eq_zero_iff.mp hl
    subst this
    exact wpAny_pure (h [] s.drawn (List.Perm.refl _))
  | n+1,[],s,Q,hl,h=>by simp at hl
  | n+1,x::xs,s,Q,hl,h=>by
    show wpAny M A (choose .order (x::xs).length >>= _) Q E s
    refine wpAny_bind (kL (by simp) fun i d hi=>?_)
    rw [List.getElem?_eq_getElem hi]
    dsimp only
    refine wpAny_bind (eX n _ _ (by rw [List.length_eraseIdx_of_lt hi];simpa using hl) fun ys d' hp=>?_)
    exact wpAny_pure (h _ d' ((hp.cons _).trans (gd hi)))
end
namespace F
theorem je:entryFor table "set.__iter__"=some Builtin.«frozenset.__iter__»:=
  entryFor_alias (id':="frozenset.__iter__") (by kernel_rfl) rfl (by decide+kernel) (by kernel_rfl)
theorem slot_next:Slot "set_iterator" "__next__" "set_iterator.__next__":=
  .of (owner:="set_iterator") (n:="__next__") (by rw [typeLookup_type,builtinLookup_eq_fast];kernel_rfl) (by decide+kernel) (by decide+kernel) (by decide+kernel)
    (by first | exact .inl (by decide+kernel) | exact .inr (by decide+kernel)) (by rw [isSubtype_type];kernel_rfl)
theorem mY:entryFor table "set_iterator.__next__"=some Builtin.«set_iterator.__next__»:=entryFor_of_fast (by kernel_rfl)
theorem oY (a:Value):argsOk "set_iterator.__next__" ⟨[a],[]⟩:=by unfold argsOk;kernel_rfl
theorem j7:Slot "set_iterator" "__iter__" "set_iterator.__iter__":=
  .of (owner:="set_iterator") (n:="__iter__") (by rw [typeLookup_type,builtinLookup_eq_fast];kernel_rfl) (by decide+kernel) (by decide+kernel) (by decide+kernel)
    (by first | exact .inl (by decide+kernel) | exact .inr (by decide+kernel)) (by rw [isSubtype_type];kernel_rfl)
theorem mZ:entryFor table "set_iterator.__iter__"=some Builtin.«dict_keyiterator.__iter__»:=
  entryFor_alias (id':="dict_keyiterator.__iter__") (by kernel_rfl) rfl (by decide+kernel) (by kernel_rfl)
theorem oZ (a:Value):argsOk "set_iterator.__iter__" ⟨[a],[]⟩:=by unfold argsOk;kernel_rfl
end F
abbrev lQ (first:Value) (i:Nat) (a:Addr) (n ep:Nat):Obj:={cls:= .type "set_iterator",data:= .fields #[first, .int i 0, .ref a, .int n 0, .int ep 0]}
section
variable {prog:Program} {w:World} {A:Around} {E:Value→Shared→Prop} {s:Shared}
theorem kM {I:Addr} {first:Value} {i:Nat} {a:Addr} {n ep:Nat} {Q:Value→Shared→Prop} (ho:s.heap.get? I=some (lQ first i a n ep)) (h:Q (.ref I) s):wpAny (model prog w) A (pyIter (.ref I)) Q E s:=by
  have hT:s.TypeIs (.ref I) "set_iterator":=⟨_,ho,rfl⟩
  refine wpAny_pyIter_slot hT F.j7 (wpAny_call_entry F.j7 hT F.mZ ?_ (F.oZ _))
  show wpAny _ _ (ret (.ref I)) _ _ s
  exact wpAny_pure ⟨_,rfl,"set_iterator",_,hT,F.slot_next.lookup,h⟩
theorem lR {a:Addr} {es:Array (Int×Value)} {ep:Nat} {t:SetTable} {Q:Bool→Shared→Prop} (ho:s.heap.get? a=some (bF es ep t)) (hf:t.fits es.size=true)
    (h:Q (!(w.params.followText "set-order")&&(!t.plain&&decide (es.size > 1))) s):wpAny (model prog w) A (setDrawn a) Q E s:=by
  unfold setDrawn setsByText
  refine wpAny_bind (wpAny_setState_of ho rfl hf ?_)
  dsimp only
  refine wpAny_bind (wpAny_bind (wpAny_askSetting (wpAny_pure ?_)))
  exact wpAny_pure h
theorem kN {I:Addr} {Q:Option Value→Shared→Prop} (hh:A.handled=none) {o:Obj} (hQ:∀h',Heap.ExtBut I s.heap h'→Q none {s with heap:=h'}) {h1:Heap} (k:Heap.ExtBut I s.heap h1):
    wpAny (model prog w) A.in1 (newExc (.type "StopIteration") [] >>= fun e=>raiseNew e) (fun (fin:Fin) s'=>∃r,fin= .done (.ret r)∧wpAny (model prog w) A (pure (some r)) Q E s')
      (fun e s'=>wpAny (model prog w) A (isInstance e (.type "StopIteration") >>= fun b=>if b=true then pure none else throw e) Q E s') {s with heap:=h1}:=by
  refine wpAny_bind ?_
  simp only [newExc,newTuple]
  refine wpAny_bind (wpAny_newObj_type ?_ (by size_fits))
  refine wpAny_bind (m:=firstArgMember _ _) (wpAny_of_eq (a:=Value.none) (by first | rfl | (simp only [firstArgMember];rfl)) ?_)
  refine wpAny_newObj_type ?_ (by size_fits)
  simp only [raiseNew]
  refine wpAny_bind (wpAny_handled ?_)
  rw [show A.in1.handled=none from hh]
  refine wpAny_bind (wpAny_pure (wpAny_throw ?_))
  refine wpAny_bind (wpAny_isInstance (T:="StopIteration") (b:=true) ⟨_,Heap.get?_push_size _ rfl,rfl⟩ isSubtype_stop ?_)
  exact wpAny_pure (hQ _ ((k.push _).push _))
end
end NhSet
namespace NhSet
open PySem PyProof.Rows
section
variable {prog:Program} {w:World} {A:Around} {E:Value→Shared→Prop} {s:Shared}
theorem cQ {I:Addr} {first:Value} {i:Nat} {a:Addr} {n ep:Nat} {Q:Option Value→Shared→Prop} (hI:s.heap.get? I=some (lQ first i a n ep)) {es:Array (Int×Value)} {t:SetTable} (ha:s.heap.get? a=some (bF es ep t)) (hf:t.fits es.size=true) (hn:es.size=n)
    (h:wpAny (model prog w) A.in1 (if let .int slot _:=first then do
        match ←setNext a slot.toNat i ep with
        | some (x,next)=>do
          setField (.ref I) 0 (rawInt next)
          setField (.ref I) 1 (rawInt (i+1))
          ret x
        | none=>do setField (.ref I) 2 .none;raiseNew (←newExc (.type "StopIteration") [])
      else do
        let some places ←seqItems? first | unsupported "internal:set_iterator"
        match places[i]? with
        | some (.int place _)=>do
          let x ←setNextDrawn a place.toNat ep
          setField (.ref I) 1 (rawInt (i+1))
          ret x
        | some _=>unsupported "internal:set_iterator"
        | none=>do setField (.ref I) 0 (rawInt 0);setField (.ref I) 2 .none;raiseNew (←newExc (.type "StopIteration") []))
      (fun (fin:Fin) s'=>∃r,fin= .done (.ret r)∧wpAny (model prog w) A (pure (some r)) Q E s')
      (fun e s'=>wpAny (model prog w) A (isInstance e (.type "StopIteration") >>= fun b=>if b=true then pure none else throw e) Q E s') s):
    wpAny (model prog w) A (pyNext (.ref I)) Q E s:=by
  have hT':s.TypeIs (.ref I) "set_iterator":=⟨_,hI,rfl⟩
  unfold pyNext
  refine wpAny_bind (wpAny_attempt (wpAny_callSpecial?_slot (name:=Str.ofString "__next__") hT' F.slot_next (wpAny_call_entry F.slot_next hT' F.mY ?_ (F.oY _))))
  unfold Builtin.«set_iterator.__next__»
  refine wpAny_bind (m:=slotArgs _ _ _) (wpAny_pure ?_)
  refine wpAny_bind (wpAny_fieldsOf hI rfl ?_)
  dsimp only
  refine wpAny_bind (wpAny_setEntries_of ha rfl hf ?_)
  rw [if_neg (by simp [hn])]
  exact h
abbrev t9 (es:Array (Int×Value)) (j:Nat):Value:=(es.getD j (0, .none)).2
theorem bD {I:Addr} {o:Obj} {vs:Array Value} {k:Nat} {x:Value} {Q:Unit→Shared→Prop} (ho:s.heap.get? I=some o) (hd:o.data= .fields vs) (hk:k < vs.size) (hQ:∀h',Heap.SameBut I s.heap h'→h'.get? I=some {o with data:= .fields (vs.setIfInBounds k x)}→Q () {s with heap:=h'}):wpAny (model prog w) A (setField (.ref I) k x) Q E s:=by
  refine wpAny_setField ho hd hk (hQ _ (Heap.SameBut.update ..) ?_)
  have:=Heap.get?_update_self (Obj.mapFields fun vs=>vs.setIfInBounds k x) ho (Obj.isFreed_of_fields (Obj.data_mapFields hd _))
  rw [this]
  obtain ⟨c,d,dt,sl⟩:=o
  simp only at hd
  subst hd
  rfl
theorem m4 (hh:A.handled=none) {I T a:Addr} {es:Array (Int×Value)} {ep:Nat} {t:SetTable} (π:List Nat) (hp:∀j∈π,j < es.size) (hl:π.length=es.size) (hf:t.fits es.size=true) (hTI:T≠I) (haI:a≠I):
    Walks prog w A I [I,T,a] [I] (π.map (t9 es)).length (fun i v=>(π.map (t9 es))[i]? =some v)
      (fun i h=>h.get? I=some (lQ (.ref T) i a es.size ep)∧h.get? T=some {cls:= .type "tuple",data:= .seq (π.map fun (i:Nat)=>rawInt i).toArray}∧h.get? a=some (bF es ep t)) where
  sub:=fun b hb=>by simp at hb;simp [hb]
  frame:=fun _ _ _ st hk=>⟨hk I (by simp) _ st.1,hk T (by simp) _ st.2.1,hk a (by simp) _ st.2.2⟩
  self:=fun _ _ _ _ st hQ=>kM st.1 hQ
  item:=fun i s Q E hi st hQ=>by
    obtain ⟨hI,hT,ha⟩:=st
    rw [List.length_map] at hi
    refine cQ hI ha hf rfl ?_
    dsimp only
    refine wpAny_bind (wpAny_seqItems hT rfl ?_)
    dsimp only
    have e:(π.map fun (i:Nat)=>rawInt i).toArray[i]? =some (.int (π[i]:Nat) 0):=by
      simp [hi,rawInt]
    rw [e]
    dsimp only
    have hj:=hp π[i] (List.getElem_mem hi)
    unfold setNextDrawn
    refine wpAny_bind (wpAny_bind (wpAny_setState_of ha rfl hf ?_))
    dsimp only
    rw [if_neg (by simp)]
    have e2:es[((π[i]:Nat):Int).toNat]? =some (es[π[i]]):=by simp [hj]
    rw [e2]
    refine wpAny_pure ?_
    refine wpAny_bind (bD hI rfl (by simp) fun h' hs' ho'=>?_)
    refine wpAny_pure ⟨_,rfl,wpAny_pure (hQ _ h' s.toks ?_ ⟨?_,?_,?_⟩ fun b o hb e=>hs'.extBut b o (fun z=>hb (by simp [z])) e)⟩
    · simp [hi,t9,hj]
    · rw [ho'];simp [rawInt]
    · exact hs'.extBut T _ hTI hT
    · exact hs'.extBut a _ haI ha
  done:=fun s Q E st hQ=>by
    obtain ⟨hI,hT,ha⟩:=st
    refine cQ hI ha hf rfl ?_
    dsimp only
    refine wpAny_bind (wpAny_seqItems hT rfl ?_)
    dsimp only
    have e:(π.map fun (i:Nat)=>rawInt i).toArray[(π.map (t9 es)).length]? =none:=by simp
    rw [e]
    dsimp only
    refine wpAny_bind (bD hI rfl (by simp) fun h' hs' ho'=>?_)
    refine wpAny_bind (bD (s:={s with heap:=h'}) ho' rfl (by simp) fun h2 hs2 _=>?_)
    exact kN (I:=I) (o:=bF es ep t) hh (fun h3 k=>hQ h3 s.toks fun b o hb e=>k b o (fun z=>hb (by simp [z])) e) (hs'.trans hs2).extBut
theorem gx {a:Addr} {es:Array (Int×Value)} {ep:Nat} {t:SetTable} {slot given:Nat} {Q:Option (Value×Nat)→Shared→Prop} (hb:w.params.followText "set-order"=true) (ha:s.heap.get? a=some (bF es ep t)) (hf:t.fits es.size=true)
    (h:Q (((pickOrder (w.params.setOrder a ep) es)[given]?).map fun e=>(e.2,slot)) s):wpAny (model prog w) A (setNext a slot given ep) Q E s:=by
  unfold setNext setsByText
  refine wpAny_bind (wpAny_setState_of ha rfl hf ?_)
  dsimp only
  refine wpAny_bind (wpAny_bind (wpAny_askSetting (wpAny_pure ?_)))
  rw [if_pos (show (model prog w).w.params.followText "set-order"=true from hb)]
  rw [if_neg (by simp)]
  refine wpAny_bind ?_
  unfold setWalk setsByText
  refine wpAny_bind (wpAny_setState_of ha rfl hf ?_)
  dsimp only
  refine wpAny_bind (wpAny_bind (wpAny_askSetting (wpAny_pure ?_)))
  rw [if_pos (show (model prog w).w.params.followText "set-order"=true from hb)]
  refine wpAny_bind (wpAny_askSetting (wpAny_pure ?_))
  exact wpAny_pure h
theorem ig {a:Addr} {es:Array (Int×Value)} {ep:Nat} {t:SetTable} {slot given:Nat} {Q:Option (Value×Nat)→Shared→Prop} (hb:w.params.followText "set-order"=false) (hsz:es.size≤1) (hled:t.led=true) (ha:s.heap.get? a=some (bF es ep t)) (hf:t.fits es.size=true)
    (h:Q (match es[SetTable.below t.place slot]?,t.place[SetTable.below t.place slot]? with | some (_,x),some j=>some (x,j+1) | _,_=>none) s):wpAny (model prog w) A (setNext a slot given ep) Q E s:=by
  unfold setNext setsByText
  refine wpAny_bind (wpAny_setState_of ha rfl hf ?_)
  dsimp only
  refine wpAny_bind (wpAny_bind (wpAny_askSetting (wpAny_pure ?_)))
  rw [if_neg (show ¬((model prog w).w.params.followText "set-order"=true) by show ¬(w.params.followText "set-order"=true);rw [hb];decide)]
  have hd:(!t.plain&&decide (es.size > 1))=false:=by rw [decide_eq_false (by omega)];simp
  show wpAny _ _ (if (!t.plain&&decide (es.size > 1))=true then _ else _) _ _ _
  rw [hd,if_neg (by decide)]
  show wpAny _ _ ((if (!t.led&& !es.isEmpty)=true then unsupported "set:maker-not-led" else pure PUnit.unit) >>= _) _ _ _
  rw [hled,if_neg (by simp)]
  refine wpAny_bind (wpAny_pure ?_)
  exact wpAny_pure h
theorem o0 (hh:A.handled=none) {I a:Addr} {es:Array (Int×Value)} {ep:Nat} {t:SetTable} (hb:w.params.followText "set-order"=true) (hf:t.fits es.size=true) (haI:a≠I):
    Walks prog w A I [I,a] [I] ((pickOrder (w.params.setOrder a ep) es).toList.map (·.2)).length (fun i v=>((pickOrder (w.params.setOrder a ep) es).toList.map (·.2))[i]? =some v)
      (fun i h=>h.get? I=some (lQ (.int 0 0) i a es.size ep)∧h.get? a=some (bF es ep t)) where
  sub:=fun b hb=>by simp at hb;simp [hb]
  frame:=fun _ _ _ st hk=>⟨hk I (by simp) _ st.1,hk a (by simp) _ st.2⟩
  self:=fun _ _ _ _ st hQ=>kM st.1 hQ
  item:=fun i s Q E hi st hQ=>by
    obtain ⟨hI,ha⟩:=st
    have hi':i < (pickOrder (w.params.setOrder a ep) es).size:=by simpa using hi
    refine cQ hI ha hf rfl ?_
    dsimp only
    refine wpAny_bind (gx hb ha hf ?_)
    rw [Array.getElem?_eq_getElem hi']
    dsimp only [Option.map_some]
    refine wpAny_bind (bD hI rfl (by simp) fun h' hs' ho'=>?_)
    refine wpAny_bind (bD (s:={s with heap:=h'}) ho' rfl (by simp) fun h2 hs2 ho2=>?_)
    refine wpAny_pure ⟨_,rfl,wpAny_pure (hQ _ h2 s.toks ?_ ⟨?_,?_⟩ fun b o hb e=>(hs'.trans hs2).extBut b o (fun z=>hb (by simp [z])) e)⟩
    · simp [hi']
    · rw [ho2];simp [rawInt]
    · exact (hs'.trans hs2).extBut a _ haI ha
  done:=fun s Q E st hQ=>by
    obtain ⟨hI,ha⟩:=st
    refine cQ hI ha hf rfl ?_
    dsimp only
    refine wpAny_bind (gx hb ha hf ?_)
    rw [show (pickOrder (w.params.setOrder a ep) es)[((pickOrder (w.params.setOrder a ep) es).toList.map (·.2)).length]? =none by simp]
    dsimp only [Option.map_none]
    refine wpAny_bind (bD hI rfl (by simp) fun h' hs' ho'=>?_)
    exact kN (I:=I) (o:=bF es ep t) hh (fun h3 k=>hQ h3 s.toks fun b o hb e=>k b o (fun z=>hb (by simp [z])) e) hs'.extBut
theorem jf {xs:Array Nat} (h:xs.size≤1):SetTable.below xs 0=0:=by
  obtain ⟨l⟩:=xs
  match l,h with
  | [],_=>rfl
  | [p],_=>simp [SetTable.below,SetTable.below.go]
theorem m5 {p:Nat}:SetTable.below #[p] (p+1)=1:=by simp [SetTable.below,SetTable.below.go]
theorem qE (hh:A.handled=none) {I a:Addr} {es:Array (Int×Value)} {ep:Nat} {t:SetTable} (hb:w.params.followText "set-order"=false) (hsz:es.size≤1) (hled:t.led=true) (hf:t.fits es.size=true) (haI:a≠I):
    Walks prog w A I [I,a] [I] (es.toList.map (·.2)).length (fun i v=>(es.toList.map (·.2))[i]? =some v)
      (fun i h=>h.get? I=some (lQ (.int (if i=0 then 0 else (t.place.getD 0 0+1:Nat)) 0) i a es.size ep)∧h.get? a=some (bF es ep t)) where
  sub:=fun b hb=>by simp at hb;simp [hb]
  frame:=fun _ _ _ st hk=>⟨hk I (by simp) _ st.1,hk a (by simp) _ st.2⟩
  self:=fun _ _ _ _ st hQ=>kM st.1 hQ
  item:=fun i s Q E hi st hQ=>by
    obtain ⟨hI,ha⟩:=st
    have hi':i < es.size:=by simpa using hi
    have hi0:i=0:=by omega
    subst hi0
    rw [if_pos rfl] at hI
    have hps:t.place.size=es.size:=by
      have:=hf;simp only [SetTable.fits,Bool.and_eq_true,beq_iff_eq] at this;exact this.1
    refine cQ hI ha hf rfl ?_
    dsimp only
    refine wpAny_bind (ig hb hsz hled ha hf ?_)
    rw [show ((0:Int)).toNat=0 from rfl,jf (by omega),Array.getElem?_eq_getElem hi',Array.getElem?_eq_getElem (show 0 < t.place.size by omega)]
    dsimp only
    refine wpAny_bind (bD hI rfl (by simp) fun h' hs' ho'=>?_)
    refine wpAny_bind (bD (s:={s with heap:=h'}) ho' rfl (by simp) fun h2 hs2 ho2=>?_)
    refine wpAny_pure ⟨_,rfl,wpAny_pure (hQ _ h2 s.toks ?_ ⟨?_,?_⟩ fun b o hb e=>(hs'.trans hs2).extBut b o (fun z=>hb (by simp [z])) e)⟩
    · simp [hi']
    · rw [ho2]
      have:t.place.getD 0 0=t.place[0]:=by simp [Array.getD,show 0 < t.place.size by omega]
      simp [rawInt,this]
    · exact (hs'.trans hs2).extBut a _ haI ha
  done:=fun s Q E st hQ=>by
    obtain ⟨hI,ha⟩:=st
    have hps:t.place.size=es.size:=by
      have:=hf;simp only [SetTable.fits,Bool.and_eq_true,beq_iff_eq] at this;exact this.1
    have hlen:(es.toList.map (·.2)).length=es.size:=by simp
    rw [hlen] at hI
    refine cQ hI ha hf rfl ?_
    dsimp only
    refine wpAny_bind (ig hb hsz hled ha hf ?_)
    have hno:(match es[SetTable.below t.place (if es.size=0 then (0:Int) else ((t.place.getD 0 0+1:Nat):Int)).toNat]?,t.place[SetTable.below t.place (if es.size=0 then (0:Int) else ((t.place.getD 0 0+1:Nat):Int)).toNat]? with | some (_,x),some j=>some (x,j+1) | _,_=>(none:Option (Value×Nat)))=none:=by
      by_cases z:es.size=0
      · rw [if_pos z,show ((0:Int)).toNat=0 from rfl,jf (by omega),Array.getElem?_eq_none (by omega)]
      · rw [if_neg z]
        obtain ⟨⟨p⟩,hp⟩:∃q:{p:Nat // t.place=#[p]},True:=by
          generalize t.place=pl at hps
          obtain ⟨l⟩:=pl
          match l,hps with
          | [],h=>simp at h;omega
          | [p],h=>exact ⟨⟨p,rfl⟩,trivial⟩
          | _::_::_,h=>simp at h;omega
        rename_i hpl
        rw [hpl]
        simp only [Int.toNat_natCast]
        have:(#[p]:Array Nat).getD 0 0=p:=rfl
        rw [this,m5,Array.getElem?_eq_none (show es.size≤1 by omega)]
    rw [hno]
    dsimp only
    refine wpAny_bind (bD hI rfl (by simp) fun h' hs' ho'=>?_)
    exact kN (I:=I) (o:=bF es ep t) hh (fun h3 k=>hQ h3 s.toks fun b o hb e=>k b o (fun z=>hb (by simp [z])) e) hs'.extBut
theorem qF {a:Addr} {es:Array (Int×Value)} {ep:Nat} {t:SetTable} {ks:List Str} {Q:Value→Shared→Prop} (ha:s.heap.get? a=some (bF es ep t)) (S:SS w (fT w) ks es t)
    (hQ:∀(s':Shared) (I:Addr) (fp:List Addr) (St:Nat→Heap→Prop) (items:List Value),(∀b o,s.heap.get? b=some o→s'.heap.get? b=some o)→s.heap.objs.size≤s'.heap.objs.size→s'.gens=s.gens→s'.os=s.os→s'.toks=s.toks→(∀b∈fp,b=a∨s.heap.objs.size≤b)→s.heap.objs.size≤I→
      (∀A':Around,A'.handled=none→Walks prog w A' I fp [I] items.length (fun i v=>items[i]? =some v) St)→St 0 s'.heap→items.Perm (es.toList.map (·.2))→Q (.ref I) s'):
    wpAny (model prog w) A (pyIter (.ref a)) Q E s:=by
  have hT:s.TypeIs (.ref a) "set":=⟨_,ha,rfl⟩
  have hlt:a < s.heap.objs.size:=Heap.lt_size ha
  refine wpAny_pyIter_slot hT PySem.F.slot_set_iter (wpAny_call_entry PySem.F.slot_set_iter hT F.je ?_ (PySem.F.args_set_iter_1 _))
  unfold Builtin.«frozenset.__iter__» Builtin.Frozenset.slot0 slotArgs
  simp only [List.isEmpty_nil,Bool.not_true,Bool.false_eq_true,↓reduceIte,bind_assoc,List.length_nil,bne_self_eq_false]
  unfold Builtin.Frozenset.addrOf Builtin.Frozenset.sizeOf
  refine wpAny_bind (wpAny_pure ?_)
  try dsimp only
  refine wpAny_bind (wpAny_pure ?_)
  refine wpAny_bind (wpAny_bind (wpAny_setEntries_of ha rfl S.fits (wpAny_pure ?_)))
  refine wpAny_bind (lR ha S.fits ?_)
  cases hd:(!(w.params.followText "set-order")&&(!t.plain&&decide (es.size > 1))) with
  | true=>
    simp only [↓reduceIte]
    refine wpAny_bind (eX es.size (List.range es.size) s (by simp) fun π d hp=>?_)
    have hl:π.length=es.size:=by rw [hp.length_eq,List.length_range]
    have hm:∀j∈π,j < es.size:=fun j hj=>List.mem_range.mp (hp.mem_iff.mp hj)
    refine wpAny_bind (wpAny_newTuple (s:={s with drawn:=d}) ?_ (by rw [List.length_map,hl];exact fits_of_scanBound S.bound))
    have ha2:(s.heap.push {cls:= .type "tuple",data:= .seq (π.map fun (i:Nat)=>rawInt i).toArray}).get? a=some (bF es ep t):=Heap.get?_push_of_some _ ha
    refine wpAny_bind (wpAny_setEpoch_of (s:={s with drawn:=d,heap:=s.heap.push {cls:= .type "tuple",data:= .seq (π.map fun (i:Nat)=>rawInt i).toArray}}) ha2 rfl S.fits ?_)
    refine wpAny_bind (wpAny_newObj_type ?_)
    have hs1:(s.heap.push {cls:= .type "tuple",data:= .seq (π.map fun (i:Nat)=>rawInt i).toArray}).objs.size=s.heap.objs.size+1:=by rw [Heap.size_push]
    refine wpAny_pure ⟨_,rfl,"set_iterator",_,⟨_,Heap.get?_push_size _ rfl,rfl⟩,F.slot_next.lookup,?_⟩
    refine hQ _ _ _ _ (π.map (t9 es)) (fun b o e=>Heap.get?_push_of_some _ (Heap.get?_push_of_some _ e)) (by rw [Heap.size_push,Heap.size_push];omega) rfl rfl rfl ?_ (by dsimp only;rw [hs1];omega)
      (fun A' hA=>m4 hA (T:=s.heap.objs.size) (a:=a) (ep:=ep) (t:=t) π hm hl S.fits (by dsimp only;rw [hs1];exact Nat.ne_of_lt (Nat.lt_succ_self _)) (by dsimp only;rw [hs1];exact Nat.ne_of_lt (Nat.lt_succ_of_lt hlt)))
      ⟨Heap.get?_push_size _ rfl,Heap.get?_push_of_some _ (Heap.get?_push_size _ rfl),Heap.get?_push_of_some _ ha2⟩ ?_
    · intro b hb
      rcases List.mem_cons.mp hb with rfl | hb
      · right;dsimp only;rw [hs1];omega
      rcases List.mem_cons.mp hb with rfl | hb
      · right;exact Nat.le_refl _
      · left;exact List.mem_singleton.mp hb
    · refine (hp.map (t9 es)).trans ?_
      rw [show (List.range es.size).map (t9 es)=es.toList.map (·.2) from ?_]
      refine List.ext_getElem (by simp) fun i h1 h2=>?_
      have hi:i < es.size:=by simpa using h1
      simp [t9,hi]
  | false=>
    simp only [Bool.false_eq_true,↓reduceIte]
    refine wpAny_bind (wpAny_pure ?_)
    refine wpAny_bind (wpAny_setEpoch_of ha rfl S.fits ?_)
    refine wpAny_bind (wpAny_newObj_type ?_)
    refine wpAny_pure ⟨_,rfl,"set_iterator",_,⟨_,Heap.get?_push_size _ rfl,rfl⟩,F.slot_next.lookup,?_⟩
    have hfp:∀b∈[s.heap.objs.size,a],b=a∨s.heap.objs.size≤b:=fun b hb=>by
      rcases List.mem_cons.mp hb with rfl | hb
      · right;exact Nat.le_refl _
      · left;exact List.mem_singleton.mp hb
    cases hb:w.params.followText "set-order" with
    | true=>
      exact hQ _ _ _ _ ((pickOrder (w.params.setOrder a ep) es).toList.map (·.2)) (fun b o e=>Heap.get?_push_of_some _ e) (by rw [Heap.size_push];omega) rfl rfl rfl hfp (Nat.le_refl _)
        (fun A' hA=>o0 hA (t:=t) hb S.fits (Nat.ne_of_lt hlt)) ⟨Heap.get?_push_size _ rfl,Heap.get?_push_of_some _ ha⟩ ((jd _ es).map _)
    | false=>
      have hled:t.led=true:=by rw [S.led,fT,hb];rfl
      have hsz:es.size≤1:=by
        rw [hb] at hd
        by_cases z:es.size=0
        · omega
        · rw [S.plain z] at hd
          simp at hd
          omega
      exact hQ _ _ _ _ (es.toList.map (·.2)) (fun b o e=>Heap.get?_push_of_some _ e) (by rw [Heap.size_push];omega) rfl rfl rfl hfp (Nat.le_refl _)
        (fun A' hA=>qE hA (t:=t) hb hsz hled S.fits (Nat.ne_of_lt hlt)) ⟨Heap.get?_push_size _ rfl,Heap.get?_push_of_some _ ha⟩ (List.Perm.refl _)
end
end NhSet
namespace NhSet
open PySem PyProof.Rows
namespace F
theorem sN:typeLookup (.type "set") "__len__"=pure (some (.builtin "set.__len__")):=by rw [typeLookup_type,builtinLookup_eq_fast];kernel_rfl
end F
section
variable {prog:Program} {w:World} {A:Around} {E:Value→Shared→Prop} {s:Shared}
theorem lS {a:Addr} {es:Array (Int×Value)} {ep:Nat} {t:SetTable} {ks:List Str} {Q:List Value→Shared→Prop} (hh:A.handled=none) (ha:s.heap.get? a=some (bF es ep t)) (S:SS w (fT w) ks es t)
    (hQ:∀(s':Shared) (items:List Value),(∀b o,s.heap.get? b=some o→s'.heap.get? b=some o)→s'.gens=s.gens→s'.os=s.os→s.heap.objs.size≤s'.heap.objs.size→items.Perm (es.toList.map (·.2))→Q items s'):
    wpAny (model prog w) A (collect (.ref a)) Q E s:=by
  have hlt:a < s.heap.objs.size:=Heap.lt_size ha
  unfold collect
  refine wpAny_bind (wpAny_runValue (codeAny_builtin PySem.F.entry_proto_collect ?_))
  rw [Around.under_plainId PySem.F.plain_proto_collect _]
  show wpAny _ A.in1 (newList [] >>= fun l=>again (.builtin "list.__iadd__" ⟨[l, .ref a],[]⟩)) _ _ s
  refine wpAny_bind (wpAny_newObj_type ?_)
  refine wpAny_pure ⟨plainId_quiet PySem.F.plain_list_iadd _,codeAny_builtin PySem.F.entry_list_iadd ?_⟩
  rw [Around.under_plainId PySem.F.plain_list_iadd _]
  show wpAny _ A.in1 (Builtin.List.listExtendWith (.ref s.heap.objs.size) (.ref a) (.ref s.heap.objs.size)) _ _ _
  unfold Builtin.List.listExtendWith
  have ha1:(s.heap.push {cls:= .type "list",data:= .seq ([]:List Value).toArray}).get? a=some (bF es ep t):=Heap.get?_push_of_some _ ha
  have hT1:Shared.TypeIs {s with heap:=s.heap.push {cls:= .type "list",data:= .seq ([]:List Value).toArray}} (.ref a) "set":=⟨_,ha1,rfl⟩
  refine wpAny_bind (wpAny_typeOf hT1 ?_)
  have h1:Builtin.List.listSameRef (.ref s.heap.objs.size) (.ref a)=false:=by simp [Builtin.List.listSameRef];exact Nat.ne_of_gt hlt
  have h2:(Value.type "set" == Value.type "list")=false:=by decide
  have h3:(Value.type "set" == Value.type "tuple")=false:=by decide
  simp only [h1,h2,h3,Bool.or_false,Bool.false_eq_true,if_false]
  refine wpAny_bind (qF ha1 S fun s2 I fp St items k2 z2 g2 o2 t2 hfp hI W hst hp=>?_)
  have hT2:s2.TypeIs (.ref a) "set":=⟨_,k2 a _ ha1,rfl⟩
  refine wpAny_bind (wpAny_holding ?_)
  unfold Builtin.List.listLengthHint
  refine wpAny_bind (wpAny_specialOf hT2 F.sN ?_)
  wp_delta
  refine wpAny_bind (wpAny_isInstance (T:="set") (b:=true) hT2 sub_set_self ?_)
  show wpAny _ A.in1 (typeOf (Value.ref a) >>= _) _ _ _
  refine wpAny_bind (wpAny_typeOf hT2 ?_)
  refine wpAny_pure ?_
  rw [if_pos (by decide)]
  refine wpAny_bind (wpAny_rule ?_)
  have hS0:s2.heap.get? s.heap.objs.size=some {cls:= .type "list",data:= .seq ([]:List Value).toArray}:=k2 _ _ (Heap.get?_push_size _ rfl)
  refine wpAny_bind ?_
  show wpAny _ A.in1 (updateSeq s.heap.objs.size (·.push .none) >>= fun _=>updateSeq s.heap.objs.size (·.pop)) _ _ _
  refine wpAny_bind (wpAny_updateSeq hS0 rfl ?_)
  have hS2:=Heap.get?_update_self (Obj.mapSeq (·.push Value.none)) hS0 rfl
  refine wpAny_updateSeq hS2 rfl ?_
  have hS3:=Heap.get?_update_self (Obj.mapSeq (·.pop)) hS2 rfl
  have oth:∀b o,b≠s.heap.objs.size→s2.heap.get? b=some o→
      ((s2.heap.update s.heap.objs.size (Obj.mapSeq (·.push Value.none))).update s.heap.objs.size (Obj.mapSeq (·.pop))).get? b=some o:=
    fun b o hb e=>(Heap.get?_update_other _ _ (Ne.symm hb)).trans ((Heap.get?_update_other _ _ (Ne.symm hb)).trans e)
  have hz1:(s.heap.push {cls:= .type "list",data:= .seq ([]:List Value).toArray}).objs.size=s.heap.objs.size+1:=by rw [Heap.size_push]
  have hnS:∀b,(s.heap.push {cls:= .type "list",data:= .seq ([]:List Value).toArray}).objs.size≤b→b≠s.heap.objs.size:=fun b hb e=>by
    rw [hz1,e] at hb;exact Nat.not_succ_le_self _ hb
  have hSf:s.heap.objs.size∉fp:=fun hm=>by
    rcases hfp _ hm with e | e
    · exact absurd e (Nat.ne_of_gt hlt)
    · exact hnS _ e rfl
  have hlen:items.length≤sizeLine:=by
    rw [hp.length_eq];simpa using fits_of_scanBound S.bound
  refine wpAny_pure ⟨plainId_quiet PySem.F.plain_extend_loop _,codeAny_extend_loopS (W A.in1 (by simp [hh])).toS hlen _ hSf _ items.length 0 _ _ _ rfl (Nat.zero_le _)
    ((W A.in1 (by simp [hh])).frame 0 s2.heap _ hst fun b hb o e=>oth b o (fun z=>hSf (z▸hb)) e) hS3 (ItemsOf.nil _) fun s' acc' c' hm hS' hacc=>?_⟩
  show wpAny _ A (load s.heap.objs.size >>= _) _ _ s'
  refine wpAny_bind (wpAny_load hS' ?_)
  have hacc':acc'.toList=items:=by
    refine List.ext_getElem? fun i=>?_
    rw [Array.getElem?_toList]
    by_cases hi:i < acc'.size
    · rw [Array.getElem?_eq_getElem hi]
      exact (hacc.2 i _ (Array.getElem?_eq_getElem hi)).symm
    · rw [Array.getElem?_eq_none (by omega),List.getElem?_eq_none (by rw [←hacc.1];omega)]
  refine wpAny_pure ?_
  rw [hacc']
  refine hQ s' items (fun b o e=>?_) (hm.gens.trans g2) (hm.os.trans o2) (Nat.le_of_lt (Heap.lt_size hS')) hp
  have hb:b < s.heap.objs.size:=Heap.lt_size e
  refine hm.heap b o (fun z=>?_) (oth b o (Nat.ne_of_lt hb) (k2 b o (Heap.get?_push_of_some _ e)))
  rcases List.mem_cons.mp z with z | z
  · exact absurd z (Nat.ne_of_lt hb)
  · rw [List.mem_singleton.mp z] at hb
    have hI':s.heap.objs.size+1≤I:=by rw [←hz1];exact hI
    exact absurd (Nat.lt_of_lt_of_le (Nat.lt_succ_self _) hI') (Nat.lt_asymm hb)
theorem m6 {a:Addr} {ks:List Str} {Q:Value→Shared→Prop} (hh:A.handled=none) (hS:StrSet w s.heap a (fT w) ks) (h64:ks.length < 64)
    (h:∀(s':Shared) (l:Addr) (out:Array Value) (e:Nat) (ss':List Str),(∀b o,s.heap.get? b=some o→s'.heap.get? b=some o)→s'.gens=s.gens→s'.os=s.os→s.heap.objs.size≤l→s'.heap.get? l=some (seqObj "list" out e)→StrsAre out.toList ss'→ss'.Perm ks→sortedS ss'=true→Q (.ref l) s'):
    wpAny (model prog w) A (call (.builtin "sorted") [.ref a]) Q E s:=by
  obtain ⟨es,ep,t,ha,S⟩:=hS
  refine Calls.call_function_entry kind_sorted plain_sorted entry_sorted (args_sorted1 _) ?_
  unfold Builtin.«sorted»
  refine wpAny_bind (m:=checkCount "sorted" 1 1 _) (wpAny_pure ?_)
  refine wpAny_bind (lS (by simp [hh]) ha S fun s1 items k1 g1 o1 hsz hp=>?_)
  have hpk:(items.map strOf).Perm ks:=(hp.map strOf).trans (by rw [List.map_map];exact S.perm)
  have hst:∀v∈items,∃x tk,v= .str x tk:=fun v hv=>by
    obtain ⟨e,he,rfl⟩:=List.mem_map.mp (hp.mem_iff.mp hv)
    obtain ⟨x,tk,rfl⟩:=S.elems e he
    exact ⟨x,tk,rfl⟩
  have hSA:=strsAre_map items hst
  have hl64:items.length < 64:=by have:=hpk.length_eq;rw [List.length_map] at this;omega
  refine wpAny_bind (wpAny_newList ?_)
  have hoL:(s1.heap.push (seqObj "list" items.toArray 0)).get? s1.heap.objs.size=some (seqObj "list" items.toArray 0):=Heap.get?_push_size _ rfl
  refine wpAny_bind (wpAny_holding (wpAny_call_entry slot_list_sort ⟨_,hoL,rfl⟩ entry_list_sort (list_sort_treeK (s:={s1 with heap:=s1.heap.push (seqObj "list" items.toArray 0)}) strKind_oneLt hoL hSA.keysOf (fun v₁ v₂ cm e=>keyKind_strs (by rw [←e];exact hSA)) hl64 fun st' a1 a2=>⟨_,rfl,?_⟩) (args_list_sort _)))
  obtain ⟨ss',b1,b2,b3⟩:=sorted_out_str hSA a1 a2
  obtain ⟨e,he⟩:=sortedHeap_at (out:=(arrOf st').map (·.2)) hoL
  refine wpAny_pure ⟨_,rfl,h _ s1.heap.objs.size _ e ss' (fun b o hb=>?_) g1 o1 hsz he b1 (b2.trans hpk) b3⟩
  have hb1:=k1 b o hb
  have hlt:=Heap.lt_size hb1
  dsimp only
  rw [sortedHeap_old (Nat.ne_of_lt hlt) (by rw [size_push'];exact Nat.lt_succ_of_lt hlt),Heap.get?_push_ne _ _ _ (Nat.ne_of_lt hlt)]
  exact hb1
end
end NhSet
namespace PL
open PySem L2 Nh
def o3 (w:World) (a:Addr) (ks:List Str):HO:= .ext fun h=>NhSet.StrSet w h a (NhSet.fT w) ks
theorem qG (ns:List Str) (n:Nat) (h:n=ns.length):NhSet.gc (fun i=>ns.getD i ⟨#[]⟩) n=fN ns:=by
  have e:(List.range n).map (fun i=>ns.getD i ⟨#[]⟩)=ns:=by
    subst h
    refine List.ext_getElem (by simp) fun i h1 h2=>?_
    simp [h2]
  show ((List.range n).map (fun i=>ns.getD i ⟨#[]⟩)).foldl NhSet.iw []=ns.foldl rA []
  rw [e]
  rfl
theorem o4 (x:Str):NhSet.gc (NhSet.eR x) x.cps.size=fN (gu x):=by
  have e:(List.range x.cps.size).map (NhSet.eR x)=gu x:=by
    refine List.ext_getElem (by simp [gu]) fun i h1 h2=>?_
    have hi:i < x.cps.size:=by simpa using h1
    simp [gu,NhSet.eR,hi]
  show ((List.range x.cps.size).map (NhSet.eR x)).foldl NhSet.iw []=(gu x).foldl rA []
  rw [e]
  rfl
section
variable {X:Cx} {e:Expr} {m1:Bool} {f:bP} {p p2 pos pos2:Pos}
def xX (K:PySem.W.Frag) (w:World):List V→Hp→VK→Prop:=fun xs H Q=>
  (∃(p:Addr) (ss:List Str),xs=[.ref p]∧SqL K H p (ss.map V.str)∧ss.length < 4000∧∀a,H a=none→Q (.ref a) (upd H a (o3 w a (fN ss))))∨
  ∃x:Str,xs=[.str x]∧(gu x).length < 4000∧∀a,H a=none→Q (.ref a) (upd H a (o3 w a (fN (gu x))))
theorem o5 (hc:X.calm=true):CallR X (.type "set") (xX X.K X.w):=by
  intro pins s σ H xs us Q I r h
  rcases h with ⟨p,ss,rfl,hq,hl,q⟩ | ⟨x,rfl,hl,q⟩
  · cases r with
    | cons r rr=>
      cases rr
      cases r
      obtain ⟨its,rv,pl,hz⟩:=I.list hq
      have hS:=lK rv
      have hlen:its.length=ss.length:=by have:=rv.length;simpa using this.symm
      refine NhSet.oX (I.ok.hd hc) pl.isList (by simpa using hS) (by simp only [List.size_toArray,scanBound];omega) fun h' tk S k=>?_
      rw [qG ss its.toArray.size (by simpa using hlen)] at S
      exact ⟨.ref s.heap.objs.size,_,I.laid (fun b o e=>k b o (Heap.lt_size e) e) (Nat.le_refl _) (show ObjOk X.prog X.w _ _ _ (o3 X.w s.heap.objs.size (fN ss)) from ⟨S,S.obj,fun h1 h2 T kk=>T.at' kk⟩),rfl,q _ (I.hok.fresh (Nat.le_refl _))⟩
  · cases r with
    | cons r rr=>
      cases rr
      obtain ⟨t,rfl⟩:=r
      have hl2:x.cps.size < 4000:=by simpa [gu] using hl
      refine NhSet.qD (I.ok.hd hc) (by simp only [scanBound];omega) fun h' tk S k=>?_
      rw [o4] at S
      exact ⟨.ref s.heap.objs.size,_,I.laid (fun b o e=>k b o (Heap.lt_size e) e) (Nat.le_refl _) (show ObjOk X.prog X.w _ _ _ (o3 X.w s.heap.objs.size (fN (gu x))) from ⟨S,S.obj,fun h1 h2 T kk=>T.at' kk⟩),rfl,q _ (I.hok.fresh (Nat.le_refl _))⟩
def qH (w:World):List V→Hp→VK→Prop:=fun xs H Q=>∃(a:Addr) (ks:List Str),xs=[.ref a]∧H a=some (o3 w a ks)∧ks.length < 64∧∀l,H l=none→Q (.ref l) (upd H l (.lst ((ib ks).map V.str)))
theorem kO (hc:X.calm=true):CallR X (.builtin "sorted") (qH X.w):=by
  intro pins s σ H xs us Q I r h
  obtain ⟨a,ks,rfl,ha,h64,q⟩:=h
  cases r with
  | cons r rr=>
    cases rr
    cases r
    obtain ⟨S,_,_⟩:ObjOk X.prog X.w H s.heap a (o3 X.w a ks):=I.hok a _ ha
    refine NhSet.m6 (I.ok.hd hc) S h64 fun s' l out e ss' k g o hl he b1 b2 b3=>?_
    have:=mV b2 b3
    subst this
    have new:ObjOk X.prog X.w (upd H l (.lst ((ib ks).map V.str))) s'.heap l (.lst ((ib ks).map V.str)):=⟨by rw [List.length_map,j4];exact dZ (by omega),out.toList,e,lL b1,he⟩
    exact ⟨.ref l,_,I.call' (ch:=[]) o (Un.laid k hl (I.hok.fresh hl)) (I.hok.laid k hl new) (by rw [g];exact I.bare) (fun _ z=>nomatch z),rfl,q _ (I.hok.fresh hl)⟩
theorem m7 (hc:X.calm=true) (hg:Gl X "sorted") (hm:X.mg "sorted"=none) (hg2:Gl X "set") (hm2:X.mg "set"=none) (ha:EX X e m1 f) (he:starEach [e] X.env=[(false,eval e X.env)]:=by rfl)
    (he2:starEach [.Call (.Name "set" p2) [e] [] pos2] X.env=[(false,eval (.Call (.Name "set" p2) [e] [] pos2) X.env)]:=by rfl):EX X (.Call (.Name "sorted" p) [.Call (.Name "set" p2) [e] [] pos2] [] pos) m1 (jb f):=by
  refine aW (gq (kO hc) hg hm PyProof.Rows.boot_sorted (bR (jO (o5 hc) hg2 hm2 PyProof.Rows.boot_set (bR ha cN he) (by decide) (by decide) he rfl) cN he2) (by decide) (by decide) he2 rfl) fun σ H Q z=>?_
  obtain ⟨B,E,xs,Xs,res,E',fr,cl,e,q⟩:=z
  obtain ⟨⟨s,E1⟩,e1,e⟩:=Option.bind_eq_some_iff.mp e
  refine ⟨B,E,xs,Xs,s,E1,fr,cl,e1,fun v1 H1 ⟨F,A,fr1⟩=>?_⟩
  obtain ⟨A',fr2⟩:=fr1.pop
  simp only at e
  split at e
  · rename_i ds ld
    obtain ⟨ss,es,e⟩:=Option.bind_eq_some_iff.mp e
    split at e
    · rename_i hc
      cases e
      have r:=(fr1.look0 ld).1
      cases r with
      | lst h1 h2=>
        have:=n5 h2 es
        subst this
        exact .inl ⟨_,ss,rfl,h1,hc.1,fun a ha=>⟨a,_,rfl,bg,hc.2,fun l hl=>q _ _ ⟨_,_,(fr2.grow (d4 ha _)).newl (ja _) hl⟩⟩⟩
    · cases e
  · rename_i x ld
    split at e
    · rename_i hc
      cases e
      have r:=(fr1.look0 ld).1
      cases r
      exact .inr ⟨x,rfl,hc.1,fun a ha=>⟨a,_,rfl,bg,hc.2,fun l hl=>q _ _ ⟨_,_,(fr2.grow (d4 ha _)).newl (ja _) hl⟩⟩⟩
    · cases e
  · cases e
end
end PL
namespace Nh
open PySem L2
theorem NailsOk.stp {r:List Pc} {p:Pc} (h:NailsOk r) (hp:p.1 < 128):NailsOk (NH.stp r p):=by
  cases r with
  | nil=>
    show NailsOk (if p.2=0 then [] else [p])
    split
    · exact h
    · intro q hq;rw [List.mem_singleton.mp hq];exact hp
  | cons x r=>
    rw [NH.e_]
    intro q hq
    rcases List.mem_append.mp hq with h1 | h1
    · unfold NH.se at h1
      split at h1
      · split at h1
        · cases h1
        · rw [List.mem_singleton.mp h1];exact hp
      · split at h1
        · rw [List.mem_singleton.mp h1];exact h x (List.mem_cons_self ..)
        · rcases List.mem_cons.mp h1 with h2 | h2
          · rw [h2];exact hp
          · rw [List.mem_singleton.mp h2];exact h x (List.mem_cons_self ..)
    · exact h q (List.mem_cons_of_mem _ h1)
theorem NailsOk.foldl:∀(c:List Pc) {r:List Pc},NailsOk r→NailsOk c→NailsOk (c.foldl NH.stp r)
  | [],_,h,_=>h
  | p::c,_,h,hc=>NailsOk.foldl c (h.stp (hc p (List.mem_cons_self ..))) fun q hq=>hc q (List.mem_cons_of_mem _ hq)
theorem NailsOk.take {c:List Pc} (h:NailsOk c) (i:Nat):NailsOk (c.take i):=fun p hp=>h p (List.mem_of_mem_take hp)
theorem NailsOk.drop {c:List Pc} (h:NailsOk c) (i:Nat):NailsOk (c.drop i):=fun p hp=>h p (List.mem_of_mem_drop hp)
theorem NailsOk.reverse {c:List Pc} (h:NailsOk c):NailsOk c.reverse:=fun p hp=>h p (List.mem_reverse.mp hp)
theorem NailsOk.append {c d:List Pc} (h:NailsOk c) (h':NailsOk d):NailsOk (c++d):=fun p hp=>(List.mem_append.mp hp).elim (h p) (h' p)
theorem NailsOk.contr {c:List Pc} (h:NailsOk c):NailsOk (NH.contr c):=fun p hp=>by
  obtain ⟨q,hq,e⟩:=List.mem_map.mp hp
  subst e
  exact h q (List.mem_reverse.mp hq)
theorem NailsOk.short {c:List Pc} (h:NailsOk c):NailsOk (NH.short c):=(NailsOk.foldl c (fun _ z=>by cases z) h).reverse
theorem j8:NailsOk []:=fun _ z=>by cases z
end Nh
namespace Nh
open PySem L2 PL
theorem NailsOk.rep {c:List Pc} (h:NailsOk c) (k:Nat):NailsOk (List.replicate k c).flatten:=fun p hp=>by
  obtain ⟨l,hl,hpl⟩:=List.mem_flatten.mp hp
  rw [(List.mem_replicate.mp hl).2] at hpl
  exact h p hpl
def l4 (i:Int):Nat:=[97,98,99,122].getD i.toNat 97
theorem kP {i j:Int} (h1: -(2 ^ 64) < j) (h2:j < 2 ^ 64):d8 i j=true:=by
  simp only [d8,Bool.or_eq_true,decide_eq_true_eq]
  exact .inl (.inr ⟨h1,h2⟩)
theorem n_ {i j:Int} (h1: -(2 ^ 64) < i) (h2:i < 2 ^ 64):d8 i j=true:=by
  simp only [d8,Bool.or_eq_true,decide_eq_true_eq]
  exact .inl (.inl ⟨h1,h2⟩)
theorem aQ (i j:Int):jx (.int i) (.int j)=some (decide (i=j)):=rfl
theorem gy (i j:Str):jx (.str i) (.str j)=some (decide (i=j)):=rfl
theorem lU {c d:List Pc} (hc:NailsOk c) (hd:NailsOk d):jx (.list (c.map aX)) (.list (d.map aX))=some (decide (c=d)):=by
  have e:jx (.list (c.map aX)) (.list (d.map aX))=(if SeqAt.shaped (fO c)&&SeqAt.shaped (fO d) then some (PyData.eqv (fO c) (fO d)) else none):=rfl
  rw [e,hU hc,hU hd,p6]
  rfl
theorem kQ {c:List Pc} (hc:NailsOk c):jx (.list (c.map aX)) (.list [])=some (decide (c=[])):=lU hc j8
theorem j9 (c:List Pc):c.reverse.foldl NH.stp []=NH.jz c:=by
  unfold NH.jz
  rw [List.foldl_reverse]
theorem oa (a b:Nat):((⟨#[a]⟩:Str)=⟨#[b]⟩)=(a=b):=propext ⟨fun h=>by
  injection h with h
  simpa using congrArg Array.toList h,fun h=>by rw [h]⟩
end Nh
namespace L2
open PySem PySem.Spec PyProof.Rows
def og (K:PySem.W.Frag) (h:Heap):Prop:=∀b q,iH K b=some q→h.get? b=some (PySem.W.tabObj #[])∧(∃c,PySem.W.CodeHd h c b)∧K.lookup b=none
def bW (K:PySem.W.Frag) (a:Addr) (so:Option HO):Hp:=fun b=>match iH K b with
  | some q=>some (.tbl q)
  | none=>if b=a then so else none
theorem m8 {K:PySem.W.Frag} {a b:Addr} {so:Option HO} {q:Str} (e:iH K b=some q):bW K a so b=some (.tbl q):=by unfold bW;rw [e]
theorem o6 {K:PySem.W.Frag} {a:Addr} {so:Option HO} (e:iH K a=none):bW K a so a=so:=by unfold bW;rw [e];exact if_pos rfl
theorem df {K:PySem.W.Frag} {a b:Addr} {so:Option HO} {u:HO} (e:bW K a so b=some u):(∃q,iH K b=some q∧u= .tbl q)∨(b=a∧so=some u):=by
  unfold bW at e
  split at e
  · rename_i q h;cases e;exact .inl ⟨q,h,rfl⟩
  · by_cases hb:b=a
    · rw [if_pos hb] at e;exact .inr ⟨hb,e⟩
    · rw [if_neg hb] at e;cases e
section
variable {P:Program} {w:World} {K:PySem.W.Frag} {mg mb:Str→Option Value} {CX:oC} {k:Nat} {fa a:Addr} {fd:FuncData} {x:Str} {sp:Sp} {s₁:Shared} {vs:List Value} {ns:List Int}
theorem sO (KX:K.In s₁.heap) (hns:s₁.heap.Ns mainGlobals mg) (hb:s₁.heap.Ns builtinsNs mb) (hbb:∀x:Str,x≠"__name__"→mb x=bootBuiltins x) (hlim:s₁.heap.NoLimit) (hg:s₁.gens=#[]) (hbm:∃bm ob,mg "__builtins__"=some (.ref bm)∧bm≠builtinsNs∧s₁.heap.get? bm=some ob∧ob.cls= .type "module"∧ob.dict=some builtinsNs∧ob.data= .plain) (hT:og K s₁.heap)
    (ha:s₁.heap.get? a=some {cls:= .type "list",data:= .seq vs.toArray}) (hi:IntsAre vs ns) (hl:ns.length≤sizeLine) (hr:Room k callerA)
    (F:∀base:Heap,K.In base→base.Ns mainGlobals mg→FnOk P w K mg base CX k fa fd [x] sp) (hbind:∀(s:Shared) (u:Value),BindsTo s fd ⟨[u],[]⟩ [(x,u)])
    (hsp:∀H:Hp,SqL K H a (ns.map V.int)→sp [.ref a] H (fun v _=>v= .bl true) fun _ _ _=>False)
    (hCX:∀H e s',CX [] H s₁ (fun _ _ _=>False) e s'→False):
    codeAny (model P w) callerA (.call (.ref fa) ⟨[.ref a],[]⟩) (fun r s'=>r= .ok (.ret (.bool true))∧OldK s₁.heap s'.heap∧s'.os=s₁.os∧AllBare s'.gens) s₁:=by
  have rv:=fF hi
  have lenV:=hi.length
  have tabA:iH K a=none:=by
    cases q:iH K a with
    | none=>rfl
    | some z=>
      have e:=(hT a z q).1
      rw [ha] at e
      cases e
  have main:∀so:Option HO,(so=none∨(so=some (.frz {cls:= .type "list",data:= .seq vs.toArray} (.lst (ns.map V.int)))∧K.lookup a=none))→SqL K (bW K a so) a (ns.map V.int)→
      codeAny (model P w) callerA (.call (.ref fa) ⟨[.ref a],[]⟩) (fun r s'=>r= .ok (.ret (.bool true))∧OldK s₁.heap s'.heap∧s'.os=s₁.os∧AllBare s'.gens) s₁:=by
    intro so hso hS
    have hok:HOk P w (bW K a so) s₁.heap:=fun b u e=>by
      rcases df e with ⟨q,e1,rfl⟩ | ⟨rfl,e1⟩
      · exact ObjOk.tbl0 (hT b q e1).1
      · rcases hso with z | ⟨z,_⟩
        · rw [z] at e1;cases e1
        · rw [z] at e1;cases e1
          exact ⟨ha,by rw [List.length_map];exact hl,vs,_,rv,ha⟩
    have free:∀{b:Addr} {o:Obj} {es:Array DictEntry} {ep:Nat},s₁.heap.get? b=some o→o.data= .dict es ep→bW K a so b=none:=fun {b o es ep} e d=>by
      cases q:bW K a so b with
      | none=>rfl
      | some u=>
        rcases df q with ⟨z,e1,_⟩ | ⟨rfl,_⟩
        · rw [(hT b z e1).1] at e;cases e;cases d
        · rw [ha] at e;cases e;cases d
    have nsK:∀{b:Addr} {m:Str→Option Value},s₁.heap.Ns b m→(lf s₁.heap (bW K a so)).Ns b m:=fun {b m} ⟨o,es,ep,e,d,r⟩=>⟨o,es,ep,iG e (free e d),d,r⟩
    have kin:K.In (lf s₁.heap (bW K a so)):=fun b o e=>iG (KX b o e) (by
      cases q:bW K a so b with
      | none=>rfl
      | some u=>
        rcases df q with ⟨z,e1,_⟩ | ⟨rfl,e1⟩
        · rw [(hT b z e1).2.2] at e;cases e
        · rcases hso with z | ⟨_,z⟩
          · rw [z] at e1;cases e1
          · rw [z] at e;cases e)
    have bmK:∃bm ob,mg "__builtins__"=some (.ref bm)∧bm≠builtinsNs∧(lf s₁.heap (bW K a so)).get? bm=some ob∧ob.cls= .type "module"∧ob.dict=some builtinsNs∧ob.data= .plain:=by
      obtain ⟨bm,ob,c1,c2,c3,c4,c5⟩:=hbm
      refine ⟨bm,ob,c1,c2,iG c3 ?_,c4,c5⟩
      cases q:bW K a so bm with
      | none=>rfl
      | some u=>
        rcases df q with ⟨z,e1,_⟩ | ⟨rfl,_⟩
        · rw [(hT bm z e1).1] at c3;cases c3;cases c4
        · rw [ha] at c3
          cases c3
          injection c4 with c6
          exact absurd c6 (by decide)
    have e0:Env0 P w K mg (lf s₁.heap (bW K a so)) callerA [] s₁ (bW K a so):=
      ⟨rfl,⟨kin,nsK hns,⟨mb,nsK hb,hbb⟩,let ⟨mc,h1,h2⟩:=hlim;⟨mc,nsK h1,h2⟩,bmK⟩,fun b o e=>rC e,Nat.le_of_eq (ot _ _),trivial,fun b hb=>absurd (show b∈([]:List Addr) from hb) (by simp),hok, .of_eq hg,fun b q e=>m8 e⟩
    refine codeAny_mono ((F _ kin (nsK hns)).run callerA [] s₁ _ ⟨[.ref a],[]⟩ [.ref a] [.ref a] _ _ hr e0 (hbind s₁ (.ref a)) (.cons rfl .nil) (hsp _ hS)) fun r s' h=>?_
    cases r with
    | error e=>exact (hCX _ e s' h).elim
    | ok fl=>
      cases fl with
      | next=>exact False.elim h
      | brk=>exact False.elim h
      | cont=>exact False.elim h
      | ret u=>
        obtain ⟨v,H',os,bare,un,hok',r',q⟩:=h
        have q':v= .bl true:=q
        subst q'
        obtain rfl:u=Value.bool true:=r'
        have nofs:∀b,b∉gp ([]:List Env):=fun b z=>absurd (show b∈([]:List Addr) from z) (by simp)
        have step:∀b o,s₁.heap.get? b=some o→asItWas s₁.heap s'.heap b o∧∃o',s'.heap.get? b=some o':=fun b o e=>by
          cases q:bW K a so b with
          | none=>exact ⟨.inl (un.keep b o e q (nofs b) (by simp)),_,un.keep b o e q (nofs b) (by simp)⟩
          | some u=>
            rcases df q with ⟨z,e1,rfl⟩ | ⟨rfl,e1⟩
            · obtain ⟨t1,⟨c,t2⟩,_⟩:=hT b z e1
              obtain ⟨ps,p1,_⟩:=hok' b _ (un.tbls b z q)
              rw [t1] at e
              cases e
              exact ⟨.inr (.inl ⟨(t2.tab t1).isCodeTable,rfl,#[],ps,rfl,by simpa using p1⟩),_,p1⟩
            · rcases hso with z | ⟨z,_⟩
              · rw [z] at e1;cases e1
              · rw [z] at e1;cases e1
                have z2:=un.frzs b _ _ q
                obtain ⟨e2,_⟩:=hok' b _ z2
                rw [ha] at e;cases e
                exact ⟨.inl e2,_,e2⟩
        exact ⟨rfl,⟨fun b o e=>(step b o e).1,fun b o e=>(step b o e).2⟩,os,bare⟩
  cases hk:K.lookup a with
  | some o=>
    have e:=KX a o hk
    rw [ha] at e
    cases e
    exact main none (.inl rfl) (.inr ⟨_,vs.toArray,_,hk,rfl,rfl,rfl,by rw [List.size_toArray,lenV];exact hl,by simpa using rv⟩)
  | none=>exact main _ (.inr ⟨rfl,hk⟩) (.inl (.inr ⟨_,o6 tabA⟩))
end
theorem qI {l:PySem.W.OpenLaw} {n k:Nat} {q:Program} {loose:List Str} {XP:(Str→Option Value)→Heap→Prop} {YP:World→Heap→Prop} {d:DefRec} {K:Params→PySem.W.Frag} {CX:World→oC} {sp:World→Sp} {x:Str}
    (hn:l.most=some n) (hn2:n≤sizeLine) (hdf:d.params.defaults=[]) (hr:Room k callerA)
    (hY:∀(w:World) (h:Heap),YP w h→(K w.params).In h∧og (K w.params) h)
    (F:∀(w:World) (mg:Str→Option Value) (fa:Addr) (h:Heap),(K w.params).In h→h.Ns mainGlobals mg→mg d.name=some (.ref fa)→
      ∃fd:FuncData,(∀(s:Shared) (u:Value),BindsTo s fd ⟨[u],[]⟩ [(x,u)])∧
        ∀base:Heap,(K w.params).In base→base.Ns mainGlobals mg→FnOk l.prog w (K w.params) mg base (CX w) k fa fd [x] (sp w))
    (hsp:∀(w:World) (H:Hp) (a:Addr) (ns:List Int),ns.length≤n→SqL (K w.params) H a (ns.map V.int)→sp w [.ref a] H (fun v _=>v= .bl true) fun _ _ _=>False)
    (hCX:∀(w:World) (H:Hp) (s:Shared) (e:Value) (s':Shared),CX w [] H s (fun _ _ _=>False) e s'→False):
    PySem.W.WalkO q loose XP YP l.row.toRowW d [] (fun f vs=>PySem.call f vs):=by
  refine Att.lm hn hdf fun w s₀ s₁ mg mb fa o pm cd doc a vs ns G Y ho hd hcd hmg hobj hints hlen hg=>?_
  obtain ⟨KX,KT⟩:=hY w _ Y
  obtain ⟨fd,hb,hF⟩:=F w mg fa _ KX G.T.g hmg
  exact sO KX G.T.g G.T.b G.T.builtins G.T.nolimit hg G.T.bmain KT hobj hints (Nat.le_trans hlen hn2) hr hF hb (fun H hS=>hsp w H a ns hlen hS) fun H e s'=>hCX w H s₁ e s'
theorem m9 {K:PySem.W.Frag} {h:Heap} (e:PySem.W.nsIn K mainGlobals "in_told_order"=some none):og K h:=fun b q z=>by
  unfold iH vS at z
  rw [e] at z
  cases z
end L2
namespace NH
variable {α:Type} [DecidableEq α]
theorem j_ {a:List (α×Int)} (h:Red a):Red (contr a):=by
  have:=fb h
  unfold contr
  generalize a.reverse=b at this
  induction b with
  | nil=>trivial
  | cons p b ih=>
    refine Red.cons (by have:=this.head;simpa using this) (fun q hq=>?_) (ih this.tail)
    cases b with
    | nil=>cases hq
    | cons r b=>
      simp only [List.map_cons,List.head?_cons,Option.mem_def,Option.some.injEq] at hq
      subst hq
      exact this.next r (by simp)
end NH
namespace NH
variable {α:Type} [DecidableEq α]
end NH
namespace Nh
open PySem L2 PL
def CordOk (c:List Pc):Prop:=∀p∈c,p.1 < 128∧p.2.natAbs < 2 ^ 100
theorem CordOk.n {c:List Pc} (h:CordOk c):NailsOk c:=fun p hp=>(h p hp).1
theorem CordOk.append {c d:List Pc} (h:CordOk c) (h':CordOk d):CordOk (c++d):=fun p hp=>(List.mem_append.mp hp).elim (h p) (h' p)
theorem CordOk.contr {c:List Pc} (h:CordOk c):CordOk (NH.contr c):=fun p hp=>by
  obtain ⟨q,hq,e⟩:=List.mem_map.mp hp
  subst e
  have:=h q (List.mem_reverse.mp hq)
  exact ⟨this.1,by simpa using this.2⟩
end Nh
namespace NH
variable {α:Type} [DecidableEq α]
theorem lV {a a':List (α×Int)} (h:short a=short a') (b:List (α×Int)):short (a++b)=short (a'++b):=by
  have k:stk a=stk a':=by
    have:=congrArg List.reverse h
    simpa [short] using this
  unfold short stk at *
  rw [List.foldl_append,List.foldl_append,k]
theorem kc {b b':List (α×Int)} (a:List (α×Int)) (h:short b=short b'):short (a++b)=short (a++b'):=by
  rw [cW,cW] at h ⊢
  unfold jz at *
  rw [List.foldr_append,List.foldr_append,h]
theorem fK {a a' b b':List (α×Int)} (h:short a=short a') (k:short b=short b'):short (a++b)=short (a'++b'):=(lV h b).trans (kc a' k)
theorem qJ (A X B:List (α×Int)):short (A++(X++contr X)++B)=short (A++B):=by
  have:=oI (A:=A) (B:=B) (X:=X++contr X) (Y:=[]) (pY X)
  simpa using this
theorem sP (A X B:List (α×Int)):short (A++(contr X++X)++B)=short (A++B):=by
  have:=qJ A (contr X) B
  rwa [lq] at this
theorem kd {a a':List (α×Int)} (h:short a=short a'):short (contr a)=short (contr a'):=by
  have h1:short (contr a++(a++contr a'))=short (contr a++(a'++contr a')):=kc _ (lV h _)
  have h2:=qJ (contr a) a' []
  have h3:=sP [] a (contr a')
  simp only [List.append_nil,List.nil_append,List.append_assoc] at h1 h2 h3
  rw [←h2,←h1,h3]
end NH
namespace NH
variable {α:Type} [DecidableEq α]
theorem iD:∀{a b:List (α×Int)},Red a→Red b→(∀x y,a.getLast? =some x→b.head? =some y→x.1≠y.1)→Red (a++b)
  | [],b,_,h,_=>h
  | [x],b,ha,hb,hj=>Red.cons ha.head (fun q hq=>hj x q rfl hq) hb
  | x::y::a,b,ha,hb,hj=>Red.cons ha.head (fun q hq=>ha.next q hq) (iD (a:=y::a) ha.tail hb fun u v hu hv=>hj u v (by simpa using hu) hv)
end NH
namespace Nh
open NH
def Per (I:List Pc) (a:Nat):Prop:=∀i,I[(i+a) % I.length]? =I[i % I.length]?
theorem Per.sub {I:List Pc} {a b:Nat} (ha:Per I a) (hb:Per I b) (h:a≤b):Per I (b - a):=fun i=>by
  rw [←ha (i+(b - a)),show i+(b - a)+a=i+b by omega,hb]
end Nh
namespace PL
open PySem PySem.Spec PyProof.Rows L2 Nh PySem.W PySem.Calls Builtin Builtin.ObjectAttr Builtin.Getset_descriptor
structure ExCls (K:Frag) (C:Addr):Prop where
  cls:∃cd,clsIn K C=some cd
  ga:findIn K (.ref C) "__getattribute__"=some (some (.builtin "BaseException.__getattribute__"))
  gt:findIn K (.ref C) "__getattr__"=some none
  ca:findIn K (.ref C) "__class__"=some (some (.builtin "object.__class__"))
  mb:mroIn K C (.type "BaseException")=some true
  mo:mroIn K C (.type "object")=some true
section
variable {K:Frag} {a C:Addr} {M:Model} {h:Heap}
theorem hJ (p:d7 a C h):Looks M h (typeOf (.ref a)) (.ref C):=by
  obtain ⟨o,h1,h2⟩:=p
  exact h2▸(Looks.ld h1).andThen .now
theorem sQ {prog:Program} {w:World} {A:Around} {R:Result→Shared→Prop} {s:Shared} {tp:Value} (Z:ExCls K C) (X:K.In s.heap) (I:d7 a C s.heap) (h:R (.ok (.ret (.ref C))) s):
    codeAny (model prog w) A (.call (.builtin "getset_descriptor.__get__") ⟨[.builtin "object.__class__", .ref a,tp],[]⟩) R s:=by
  obtain ⟨hh,g,dr,t,os⟩:=s
  have L0:=hJ (M:=model prog w) I
  have L1:=looks_mroIn (M:=model prog w) X Z.mo
  refine codeAny_call_builtin KF.slot_gs.plain KF.entry_gs (KF.slot_gs.check _ _ _ _ _ _ _ _ KF.type_class (KF.args_gs _ _ _) ?_)
  unfold Builtin.«getset_descriptor.__get__» descrGet
  rw [dga_obj]
  refine wpAny_bind (wpAny_pure ?_)
  unfold descrGetter descrCheckInstance descrNameAndClass isInstance
  simp only [KF.owner_class]
  repeat lk
  refine ⟨Code.quiet_builtin _ (by decide+kernel),codeAny_builtin KF.entry_class ?_⟩
  unfold Builtin.«object.__class__» shownTypeOf
  repeat lk
  exact h
theorem o7 {prog:Program} {w:World} {A:Around} {E:Value→Shared→Prop} {Q:Fin→Shared→Prop} {s:Shared} {tk:Tok} (Z:ExCls K C) (X:K.In s.heap) (I:d7 a C s.heap) (h:Q (.done (.ret (.ref C))) s):
    wpAny (model prog w) A (Builtin.«object.__getattribute__» ⟨[.ref a, .str "__class__" tk],[]⟩) Q E s:=by
  obtain ⟨hh,g,dr,t,os⟩:=s
  have L0:=hJ (M:=model prog w) I
  have L1:=looks_findIn (M:=model prog w) X Z.ca
  have hT5:(⟨hh,g,dr,t,os⟩:Shared).TypeIs (.builtin "object.__class__") "getset_descriptor":=F.typeOf_object_class
  have f5:=F.typeOf_object_class
  have f6:=F.slot_gs_get.lookup
  have f7:=F.slot_gs_set.lookup
  repeat (any_goals (first | assumption | with_reducible refine L0.at ?_ | with_reducible refine L1.at ?_ | wp_step))
  refine sQ Z X I ?_
  repeat (any_goals (first | assumption | wp_step))
theorem o8 {A:Around} {E:Value→Shared→Prop} {nameV:Value} {Q:Unit→Shared→Prop} {s:Shared} (Z:ExCls K C) (X:K.In s.heap) (I:d7 a C s.heap) (hq:Q () s):wpAny M A (checkBuiltinCall "BaseException.__getattribute__" ⟨[.ref a,nameV],[]⟩) Q E s:=by
  obtain ⟨hh,g,dr,t,os⟩:=s
  have L0:=hJ (M:=M) I
  have L1:=looks_mroIn (M:=M) X Z.mb
  have hk:builtinKind "BaseException.__getattribute__"=some .slot:=by decide+kernel
  have hsplit:splitId "BaseException.__getattribute__"=some ("BaseException","__getattribute__"):=by decide+kernel
  have ha:=F.args_bexc_ga (.ref a) nameV
  simp only [checkBuiltinCall,hk,hsplit]
  refine wpAny_bind ?_
  unfold isInstance
  repeat (first | with_reducible refine L0.at ?_ | with_reducible refine L1.at ?_ | wp_step)
  exact hq
theorem vn {prog:Program} {w:World} {A:Around} {E:Value→Shared→Prop} {Q:Value→Shared→Prop} {s:Shared} {tk:Tok} {fill expr:Bool} (Z:ExCls K C) (X:K.In s.heap) (I:d7 a C s.heap) (hq:Q (.ref C) s):
    wpAny (model prog w) A (getAttrBy (.ref a) (.str "__class__" tk) fill expr) Q E s:=by
  obtain ⟨hh,g,dr,t,os⟩:=s
  have L0:=hJ (M:=model prog w) I
  have L1:=looks_findIn (M:=model prog w) X Z.ga
  have L2:=looks_findIn (M:=model prog w) X Z.gt
  have f3:=F.attr_ValueError.ga.bind (.ref a)
  have hx0:(expr&&onTheHeap (Value.builtin "BaseException.__getattribute__"))=false:=by cases expr <;> rfl
  have hx2:(Value.builtin "BaseException.__getattribute__" == Value.builtin "object.__getattribute__")=false:=by decide+kernel
  have hx1:(onTheHeap (Value.ref C)&&Value.builtin "BaseException.__getattribute__" == Value.builtin "object.__getattribute__")=false:=by rw [hx2];rfl
  repeat (any_goals (first | assumption | with_reducible refine L0.at ?_ | with_reducible refine L1.at ?_ | with_reducible refine L2.at ?_ | wp_step))
  refine codeAny_call_builtin F.attr_ValueError.ga.plain F.entry_bexc_ga (o8 Z X I (o7 Z X I ?_))
  repeat (any_goals (first | assumption | wp_step))
theorem qK {prog:Program} {w:World} {A:Around} {E:Value→Shared→Prop} {Q:Option Value→Shared→Prop} {s:Shared} (Z:ExCls K C) (X:K.In s.heap) (I:d7 a C s.heap) (hq:Q (some (.ref C)) {s with toks:=s.toks+1}):
    wpAny (model prog w) A (getAttr? (.ref a) "__class__") Q E s:=by
  obtain ⟨hh,g,dr,t,os⟩:=s
  unfold getAttr?
  repeat (any_goals (first | assumption | with_reducible apply vn (s:=⟨hh,g,dr,t+1,os⟩) Z X I | wp_step))
theorem qL (Z:ExCls K C):KitX K (.ref a) (.ref C) (d7 a C) where
  ty:=fun _ _ _ I=>hJ I
  it:=fun _ _ X _=>by
    obtain ⟨cdD,hcD⟩:=Z.cls
    unfold clsIn at hcD
    split at hcD
    · rename_i c' d' cd' sl' ho
      intro A' Q' E' s' k q
      unfold isType loadHead
      exact wpAny_bind (wpAny_loadPart (k _ _ (X _ _ ho)) (wpAny_pure q))
    · cases hcD
  ne:=fun h tp dd its n sl X htp=>by
    obtain ⟨cdD,hcD⟩:=Z.cls
    refine Bool.eq_false_iff.mpr fun q=>?_
    have e:C=tp:=Value.ref.inj (beq_iff_eq.mp q)
    subst e
    unfold clsIn at hcD
    split at hcD
    · rename_i c' d' cd' sl' ho
      have z:=(X _ _ ho).symm.trans htp
      cases z
    · cases hcD
  ca:=fun X I k=>qK Z X I k
end
end PL
namespace PL
open PySem PySem.Spec PyProof.Rows L2 Nh
structure UnB (fs:List Addr) (H H':Hp) (h B h':Heap):Prop where
  keep:∀b o,h.get? b=some o→H b=none→b∉fs→B.get? b=some o
  slot:∀b o,h.get? b=some o→H b=none→b∈fs→∃sl,h'.get? b=some {o with slots:=sl}
  free:∀b o,h.get? b=some o→H b=none→H' b=none
  there:∀b o,h.get? b=some o→b∉fs→∃o',B.get? b=some o'
  tups:∀b xs,H b=some (.tup xs)→H' b=some (.tup xs)
  frzs:∀b o u,H b=some (.frz o u)→H' b=some (.frz o u)
  tbls:∀b ps,H b=some (.tbl ps)→H' b=some (.tbl ps)
theorem UnB.un {fs:List Addr} {H H':Hp} {h B h':Heap} (u:UnB fs H H' h B h') (st:B.StaysIn h') (hf:∀b∈fs,H b=none):Un fs [] H H' h h':=
  ⟨fun b o e n hb _=>st b o (u.keep b o e n hb),fun b o e n hb _=>u.slot b o e n hb,fun b o e n _=>u.free b o e n,fun b o e _=>by
    by_cases hb:b∈fs
    · obtain ⟨sl,z⟩:=u.slot b o e (hf b hb) hb
      exact ⟨_,z⟩
    · obtain ⟨o',z⟩:=u.there b o e hb
      exact ⟨o',st b o' z⟩,u.tups,u.frzs,u.tbls⟩
theorem UnB.on {l:List Env} {H H':Hp} {h B h' h2:Heap} (u:UnB (gp l) H H' h B h') (ff:h'.FunFrames B l) (k:h'.UpToSlots h2):UnB (gp l) H H' h B h2:=
  ⟨u.keep,fun b o e n hb=>by
    obtain ⟨sl,z⟩:=u.slot b o e n hb
    obtain ⟨_,o',ho',hd⟩:=ff.mem hb
    rw [z] at ho'
    cases ho'
    obtain ⟨sl2,z2⟩:=k b _ z hd
    exact ⟨sl2,z2⟩,u.free,u.there,u.tups,u.frzs,u.tbls⟩
theorem UnB.out {X:Cx} {pins:List (Addr×Obj)} {σ:L2.St} {H H':Hp} {s:Shared} {B h':Heap} (I:Inv X pins σ H s) (hx:X.ex=[]) (u:UnB (gp X.stack) H H' s.heap B h'):UnB X.fs X.H₀ H' X.s₀.heap B h':=by
  have nx:∀b:Addr,b∉X.ex:=fun b z=>by rw [hx] at z;cases z
  have ne:∀b o,X.s₀.heap.get? b=some o→b≠X.env.locals:=fun b o e=>Nat.ne_of_lt (Nat.lt_of_lt_of_le (Heap.lt_size e) I.ok.above)
  have nf:∀b o,X.s₀.heap.get? b=some o→b∉X.fs→b∉gp X.stack:=fun b o e hb z=>(List.mem_cons.mp (I.stkSub b z)).elim (ne b o e) hb
  refine ⟨fun b o e n hb=>u.keep b o (I.base.keep b o e n hb (nx b)) (I.base.free b o e n (nx b)) (nf b o e hb),fun b o e n hb=>?_,fun b o e n=>?_,fun b o e hb=>?_,fun b xs e=>u.tups b xs (I.base.tups b xs e),fun b o v e=>u.frzs b o v (I.base.frzs b o v e),fun b ps e=>u.tbls b ps (I.base.tbls b ps e)⟩
  · obtain ⟨sl,z⟩:=I.base.slot b o e n hb (nx b)
    have hb':b∈gp X.stack:=by
      rcases I.ok.stk with q | ⟨q,hf⟩
      · rw [q];exact hb
      · rw [q];unfold gp;rw [List.filterMap_cons,hf];exact List.mem_cons_of_mem _ hb
    obtain ⟨sl2,z2⟩:=u.slot b _ z (I.base.free b o e n (nx b)) hb'
    exact ⟨sl2,z2⟩
  · obtain ⟨o',z⟩:=I.base.there b o e (nx b)
    exact u.free b o' z (I.base.free b o e n (nx b))
  · obtain ⟨o',z⟩:=I.base.there b o e (nx b)
    exact u.there b o' z (nf b o e hb)
theorem lW {P:Program} {w:World} {H:Hp} {h:Heap} {a:Addr} {o:HO} (x:ObjOk P w H h a o):∃u,h.get? a=some u:=by
  cases o with
  | lst xs=>obtain ⟨_,_,_,_,e⟩:=x;exact ⟨_,e⟩
  | tup xs=>obtain ⟨_,_,_,o,e,_⟩:=x;exact ⟨_,e⟩
  | dK kvs=>obtain ⟨_,_,_,_,o,_,_,e,_⟩:=x;exact ⟨_,e⟩
  | dT kvs=>obtain ⟨_,_,_,_,o,_,_,e,_⟩:=x;exact ⟨_,e⟩
  | set S n=>obtain ⟨o,_,_,_,e,_⟩:=x;exact ⟨_,e⟩
  | ins C dx fs=>obtain ⟨_,_,_,e,_⟩:=x;exact ⟨_,e⟩
  | own y=>obtain ⟨_,e⟩:=x;exact ⟨_,e⟩
  | xd fs=>obtain ⟨_,⟨_,_,_,e,_⟩,_⟩:=x;exact ⟨_,e⟩
  | rng lo hi=>obtain ⟨_,_,_,e⟩:=x;exact ⟨_,e⟩
  | frz ob u=>obtain ⟨e,_⟩:=x;exact ⟨_,e⟩
  | tbl q=>obtain ⟨_,e,_⟩:=x;exact ⟨_,e⟩
  | met f y=>exact ⟨_,(show h.get? a=some _ from x)⟩
  | ext φ=>obtain ⟨_,⟨_,e⟩,_⟩:=x;exact ⟨_,e⟩
def t_ (P:Program) (w:World):oC:=fun outer H s E e s'=>∃H' ea C a0 B,e= .ref ea∧E (.ref C) none H'∧s'.os=s.os∧AllBare s'.gens∧Heap.FlyingW B outer ea (.ref C) a0 s'.heap∧HOk P w H' B∧UnB (gp outer) H H' s.heap B s'.heap
def qM (X:Cx) (C:Addr) (pins:List (Addr×Obj)) (σ:L2.St) (H:Hp):Prop:=∀s h' ea vs,Inv X pins σ H s→Heap.MadeExcOf s.heap h' ea (.ref C) vs→X.xe (.ref ea) {s with heap:=h'}
def sR (X:Cx) (C:Addr) (pins:List (Addr×Obj)) (σ:L2.St) (H':Hp):Prop:=∀H s ea s' a0 B,Inv X pins σ H s→s'.os=s.os→AllBare s'.gens→Heap.FlyingW B X.stack ea (.ref C) a0 s'.heap→HOk X.prog X.w H' B→UnB (gp X.stack) H H' s.heap B s'.heap→X.xe (.ref ea) s'
def qN (X:Cx) (C:Addr) (pins:List (Addr×Obj)) (σ:L2.St) (H':Hp):Prop:=∀H s ea s' a0 B,Inv X pins σ H s→s'.os=s.os→AllBare s'.gens→Heap.HeldW B X.stack ea (.ref C) a0 X.env.locals s'.heap→HOk X.prog X.w H' B→UnB (gp X.stack) H H' s.heap B s'.heap→X.xe (.ref ea) s'
theorem lX {M:Model} {A:Around} {E:Value→Shared→Prop} {s:Shared} {base:Heap} {env:Env} {outer:List Env} {L e:Addr} {cls a0:Value} {Q:Unit→Shared→Prop} (hf:env.frame=some L) (hh:Heap.HeldW base (env::outer) e cls a0 L s.heap)
    (hQ:∀h',Heap.FlyingW base outer e cls a0 h'→s.heap.UpToSlots h'→Q () {s with heap:=h'}):wpAny M A (leaving env (.ref e)) Q E s:=by
  unfold leaving
  refine wpAny_bind (wpAny_noteFrame_againW hf hh.2.2.2 ?_)
  refine wpAny_landsW hh fun h' hfl k=>?_
  obtain ⟨k1,k2,⟨_,_,k3⟩,k4⟩:=hfl
  exact hQ h' ⟨k1,k2,k3,k4⟩ k
section
variable {P:Program} {w:World} {K:PySem.W.Frag} {mg:Str→Option Value} {base:Heap} {N:List Str} {qual:Str} {scope:Scope} {f:Addr} {cd:Value} {A:Around} {outer:List Env} {s:Shared} {H H':Hp} {E:XK} {C:Addr} {pins:List (Addr×Obj)} {σ:L2.St}
theorem sS (hE:E (.ref C) none H'):qM (e8 (t_ P w) P w K mg base N qual scope f cd A outer s H E) C pins σ H':=by
  intro s1 h' ea vs I hx
  show wpAny (model P w) _ (leaving _ (.ref ea)) _ _ _
  have st:=I.stack
  have hin:∀env∈(e8 (t_ P w) P w K mg base N qual scope f cd A outer s H E).stack,∀b,env.frame=some b→b∈gp (e8 (t_ P w) P w K mg base N qual scope f cd A outer s H E).stack:=fun env he b hb=>List.mem_filterMap.mpr ⟨env,he,hb⟩
  refine wpAny_leaves_madeW (base:=PySem.W.hideAll s1.heap (gp (e8 (t_ P w) P w K mg base N qual scope f cd A outer s H E).stack)) (h:=s1.heap) I.ok.frames rfl (fun b o q=>PySem.W.of_hideAll _ q) (PySem.W.funFrames_hide st hin) hx fun h2 t x1 x2 x3 x4=>?_
  refine ⟨H',ea,C,_,_,rfl,hE,I.os,I.bare,x1,fun a o e=>?_,?_⟩
  · refine (I.hok a o e).stay (fun b u hb q=>PySem.W.hideAll_get _ q fun z=>?_) (fun _ q=>q) fun _ _ q=>q
    have n:=I.stkFree b z
    rcases hb with rfl | hb
    · rw [n] at e;cases e
    · rw [n] at hb;cases hb
  · refine UnB.out I rfl ⟨fun b o e n hb=>PySem.W.hideAll_get _ e hb,fun b o e n hb=>?_,fun _ _ _ n=>n,fun b o e hb=>⟨o,PySem.W.hideAll_get _ e hb⟩,fun _ _ e=>e,fun _ _ _ e=>e,fun _ _ e=>e⟩
    obtain ⟨_,o',ho',hd⟩:=st.mem hb
    rw [e] at ho'
    cases ho'
    exact x4 b o (hx.keeps b o e) hd
theorem vo (hE:E (.ref C) none H'):sR (e8 (t_ P w) P w K mg base N qual scope f cd A outer s H E) C pins σ H':=by
  intro H1 s1 ea s' a0 B I os bare fl hok u
  show wpAny (model P w) _ (leaving _ (.ref ea)) _ _ _
  refine wpAny_leaves_onW I.ok.frames rfl fl fun h2 x1 x2=>?_
  exact ⟨H',ea,C,a0,B,rfl,hE,os.trans I.os,bare,x1,hok,UnB.out I rfl (u.on fl.2.2.1 x2)⟩
theorem sU (hE:E (.ref C) none H'):qN (e8 (t_ P w) P w K mg base N qual scope f cd A outer s H E) C pins σ H':=by
  intro H1 s1 ea s' a0 B I os bare fl hok u
  show wpAny (model P w) _ (leaving _ (.ref ea)) _ _ _
  refine lX rfl fl fun h2 x1 x2=>?_
  exact ⟨H',ea,C,a0,B,rfl,hE,os.trans I.os,bare,x1,hok,UnB.out I rfl (u.on fl.2.2.1 x2)⟩
end
abbrev jg:=List Sl→Option (Str×List Sl)
def rB (X:Cx) (mk al:Bool) (body:List Stmt) (r:jg):Prop:=∀pins s σ H B E n E',Inv X pins σ H s→Frm X.K B σ H E [] []→r E=some (n,E')→
  (∀pins',(al=false→pins'=pins)→∀σ' C H',PySem.W.nsIn X.K mainGlobals n=some (some (.ref C))→Frm X.K B σ' H' E' [] []→(mk=true→qM X C pins' σ' H')∧sR X C pins' σ' H'∧(al=true→qN X C pins' σ' H'))→wpAny (model X.prog X.w) X.A (execs body X.env) (fun _ _=>False) X.xe s
def RX (X:Cx) (mk al:Bool) (st:Stmt) (r:jg):Prop:=∀pins s σ H B E n E',Inv X pins σ H s→Frm X.K B σ H E [] []→r E=some (n,E')→
  (∀pins',(al=false→pins'=pins)→∀σ' C H',PySem.W.nsIn X.K mainGlobals n=some (some (.ref C))→Frm X.K B σ' H' E' [] []→(mk=true→qM X C pins' σ' H')∧sR X C pins' σ' H'∧(al=true→qN X C pins' σ' H'))→wpAny (model X.prog X.w) X.A (exec st X.env) (fun _ _=>False) X.xe s
def lY (g:b_) (r:jg):jg:=fun E=>match g E with
  | some (E', .nx)=>r E'
  | _=>none
def jh (t:hW) (r:jg):jg:=fun E=>match t E with
  | some (true,E')=>r E'
  | _=>none
def m_ (r q:jg):jg:=fun E=>match r E with
  | some x=>some x
  | none=>q E
def cM (n:Str):jg:=fun E=>some (n,E)
section
variable {X:Cx} {mk al:Bool} {st:Stmt} {cm a b:List Stmt} {g:b_} {r:jg} {c:Expr} {m:Bool} {t:hW} {pos:Pos}
theorem dv (h:RX X mk al st r):rB X mk al (st::cm) r:=fun pins s σ H B E n E' I fr e k=>
  wpAny_execs_cons (wpAny_mono (h pins s σ H B E n E' I fr e k) (fun _ _ z=>z.elim) fun _ _ z=>z)
theorem qO (h1:SX X.nox st g) (h2:rB X mk al cm r):rB X mk al (st::cm) (lY g r):=fun pins s σ H B E n E' I fr e k=>by
  unfold lY at e
  split at e
  · rename_i E1 eg
    have q:=h1 pins s σ H {nx:=fun σ' H'=>Frm X.K B σ' H' E1 [] [],bk:=fun _ _=>False,ct:=fun _ _=>False,rt:=fun _ _=>False} (I.wish _) ⟨B,E,[],[],E1, .nx,fr,rfl,eg,fun σ' H' f=>f⟩
    refine wpAny_execs_cons (wpAny_mono q (fun f s1 z=>?_) fun _ _ z=>z.elim)
    cases f with
    | next=>obtain ⟨σ',H',I',fr'⟩:=z;exact h2 pins s1 σ' H' B E1 n E' I'.unwish fr' e k
    | brk=>obtain ⟨_,_,_,z⟩:=z;exact z.elim
    | cont=>obtain ⟨_,_,_,z⟩:=z;exact z.elim
    | ret u=>obtain ⟨_,_,_,_,_,z⟩:=z;exact z.elim
  · cases e
theorem qP (hc:TX X.nox c m t) (h:rB X mk al a r):RX X mk al (.If c a b pos) (jh t r):=fun pins s σ H B E n E' I fr e k=>by
  unfold jh at e
  split at e
  · rename_i E1 et
    have q:=hc pins s σ H (fun bb H1=>bb=true∧Frm X.K B σ H1 E1 [] []) (I.wish _) ⟨B,E,[],[],true,E1,fr,fun _=>Calm.nil rfl,et,fun H1 f=>⟨rfl,f⟩⟩
    refine wpAny_If (wpAny_mono q (fun bb s1 z=>?_) fun _ _ z=>z.elim)
    obtain ⟨H1,I1,rfl,fr1⟩:=z
    exact h pins s1 σ H1 B E1 n E' I1.unwish fr1 e k
  · cases e
theorem ua {q:jg} (h1:rB X mk al a r) (h2:rB X mk al a q):rB X mk al a (m_ r q):=fun pins s σ H B E n E' I fr e k=>by
  unfold m_ at e
  split at e
  · rename_i x ex
    cases e
    exact h1 pins s σ H B E n E' I fr ex k
  · exact h2 pins s σ H B E n E' I fr e k
end
end PL
namespace PL
open PySem PySem.Spec PyProof.Rows L2 Nh
abbrev yp:List Value:=[.type "ValueError", .type "Exception", .type "BaseException", .type "object"]
structure XC (K:PySem.W.Frag) (mg:Str→Option Value) (x:Str) (C:Addr):Prop where
  ns:PySem.W.nsIn K mainGlobals x=some (some (.ref C))
  mg:mg x=some (.ref C)
  ex:PySem.W.excIn K C yp "ValueError.__new__"=true
  cls:ExCls K C
theorem vp {K:PySem.W.Frag} {h:Heap} {mg:Str→Option Value} {x:Str} {C:Addr} {bmB:List Value} {newId:String} (X:K.In h) (m:mg x=some (.ref C)) (q:PySem.W.excIn K C bmB newId=true):OwnCls x C bmB newId mg h:=by
  refine ⟨m,?_⟩
  unfold PySem.W.excIn at q
  split at q
  · rename_i dd cd sl ho
    split at q
    · rename_i C' bm k0 k1 k2 k3 n k5 hm hs
      simp only [Bool.and_eq_true,beq_iff_eq,Bool.not_eq_true'] at q
      obtain ⟨⟨⟨⟨⟨rfl,rfl⟩,hdel⟩,ht⟩,hok⟩,hni⟩:=q
      obtain ⟨nm,bs,mro,ns,qn,hd,sn,sub,ab,col,del⟩:=cd
      dsimp only at hm hdel hok hni
      subst hm hdel
      have hsl:sl=#[k0,k1,k2,k3,some (.builtin n),k5]:=by
        obtain ⟨l⟩:=sl
        simp only at hs
        rw [hs]
      subst hsl
      exact ⟨bm,ns,nm,qn,bs,hd,sn,sub,ab,col,dd,k0,k1,k2,k3,k5,_,X _ _ ho, .of_isNs (PySem.W.isNs_of_in X hok),PySem.W.nsMap_none_of_in X hok hni,PySem.W.tail_of_in X ht⟩
    · cases q
  · cases q
section
variable {X:Cx} {mk al:Bool} {x:Str} {C:Addr} {np p cpos pos:Pos}
theorem ji {tx:Str} {j:Nat} (hcalm:X.calm=true) (hg:Gl X x) (Z:XC X.K X.mg x C) (hd:(x == ("__debug__":Str))=false:=by decide)
    (he:starEach [.Constant (.str tx) j p] X.env=[(false,eval (.Constant (.str tx) j p) X.env)]:=by rfl):
    RX X true al (.Raise (some (.Call (.Name x np) [.Constant (.str tx) j p] [] cpos)) none pos) (cM x):=fun pins s σ H B E n E' I fr e k=>by
  cases e
  obtain ⟨tl,N,nm,q,bs,hdct,sn,sub,ab,col,dd,k0,k1,k2,k3,k5,mN,hC,hN,hni,T⟩:=(vp I.ok.mod.kin Z.mg Z.ex).obj
  refine wpAny_Raise_call_subT (C:=C) (nm:=nm) (q:=q) (N:=N) (bs:=bs) (bm:=tl) (hdct:=hdct) (sn:=sn) (sub:=sub) (ab:=ab) (col:=col) (dd:=dd) (k0:=k0) (k1:=k1) (k2:=k2) (k3:=k3) (k5:=k5)
    PySem.F.excBase_ValueError (mN:=mN) (T.hasType PySem.F.excBase_ValueError.hasBase) (I.ok.hd hcalm) (by rw [he];rfl) hni (fD I hg Z.mg ⟨rfl,?_⟩ hd)
  have q1:=bR (X:=X) (mB (x:=tx) (j:=j) (pos:=p)) cN he cpos pins s σ H (fun vs H1=>vs=[.str tx]∧H1=H) I ⟨rfl,rfl⟩
  rw [he] at q1 ⊢
  refine Calls.evalArgs_plain (cB q1 fun vs s2 ⟨us,H2,I2,r,eu,eH⟩=>?_)
  subst eu eH
  have fin:=(k pins (fun _=>rfl) σ C H2 Z.ns fr).1 rfl
  exact ⟨rfl,by rw [←r.length];exact Nat.le_of_ble_eq_true rfl,I2.bk _ _ hC,hN.keeps I2.bk,T.keeps I2.bk,fun h' ea hm=>fin s2 h' ea vs I2 hm⟩
end
def ub (K:PySem.W.Frag) (r:List PyData→Option Str):Sp:=fun vs H _ E=>∃ds n,r ds=some n∧RpA K H vs ds∧∀C H',PySem.W.nsIn K mainGlobals n=some (some (.ref C))→Same H H'→E (.ref C) none H'
structure OwnR (P:Program) (w:World) (K:PySem.W.Frag) (mg:Str→Option Value) (base:Heap) (k:Nat) (x:Str) (ps:List Str) (sp:Sp):Prop where
  ex:∃(f:Addr) (fd:FuncData),FnOk P w K mg base (t_ P w) k f fd ps sp∧Binds K fd ps []∧mg x=some (.ref f)∧PySem.W.keepIn K (.ref f)=true
def fq (r:List PyData→Option Str) (g:kY):jg:=fun E=>(g E).bind fun a=>(aH a.2 a.1).bind fun ds=>(r ds).map fun n=>(n,a.2)
section
variable {X:Cx} {k:Nat} {x:Str} {ps:List Str} {r:List PyData→Option Str} {p pos cpos:Pos} {e:Expr} {es:List Expr} {m:Bool} {g:kY}
theorem o9 (D:OwnR X.prog X.w X.K X.mg X.base k x ps (ub X.K r)) (hr:Room k X.A) (hg:Gl X x) (ha:AX X.nox (e::es) m g) (hdb:(x == ("__debug__":Str))=false) (he:starEach (e::es) X.env=(false,eval e X.env)::starEach es X.env) (hpl:(backTo pos (starEach es X.env)).any (·.1)=false)
    {pins:List (Addr×Obj)} {s:Shared} {σ:L2.St} {H B:Hp} {E E':List Sl} {n:Str} (I:Inv X pins σ H s) (fr:Frm X.K B σ H E [] []) (ee:fq r g E=some (n,E')) (k:∀C H',PySem.W.nsIn X.K mainGlobals n=some (some (.ref C))→Frm X.K B σ H' E' [] []→sR X C pins σ H'):
    wpAny (model X.prog X.w) X.A (eval (.Call (.Name x p) (e::es) [] pos) X.env) (fun _ _=>False) X.xe s:=by
  obtain ⟨f,fd,F,b,mx,kp⟩:=D.ex
  obtain ⟨⟨rs,E1⟩,e1,ee⟩:=Option.bind_eq_some_iff.mp ee
  obtain ⟨ds,e2,ee⟩:=Option.bind_eq_some_iff.mp ee
  obtain ⟨n',e3,ee⟩:=Option.map_eq_some_iff.mp ee
  cases ee
  refine wpAny_Call_Name_kw (fD I hg mx ?_ hdb)
  have q1:=ha pos pins s σ H (fun vs H1=>vs.length=rs.length∧Frm X.K B σ H1 E1 (vs.reverse++[]) (rs.reverse++[])) (I.wish _) ⟨B,E,[],[],rs,E1,fr,fun _=>Calm.nil rfl,e1,fun vs H1 hl f=>⟨hl,f⟩⟩
  refine PySem.W.callWith_K (h₀:=X.base) I.ok.mod.kin kp (wpAny_mono q1 (fun us s1 ⟨vs,H1,I1,rv,hl,F1,A1,fr1⟩=>⟨I1.kIn,?_⟩) fun _ _ z=>z.elim) he hpl
  have I1:=I1.unwish
  obtain ⟨r1,A',fr2⟩:=fr1.looks hl e2
  have hlen:(us++[]).length=ps.length:=by
    rw [List.append_nil,←rv.length]
    exact F.len vs H1 (fun _ _=>False) (fun _ _ _=>True) ⟨ds,n,e3,r1,fun _ _ _ _=>trivial⟩
  have bd:=b s1 us I1.kIn hlen
  rw [List.append_nil] at bd
  refine wpAny_call (codeAny_mono (F.run X.A X.stack s1 H1 ⟨us,[]⟩ us vs (fun _ _=>False) (fun c _ H'=>∃C,c= .ref C∧PySem.W.nsIn X.K mainGlobals n=some (some (.ref C))∧Same H1 H') hr I1.env0 bd rv ⟨ds,n,e3,r1,fun C H' z g=>⟨C,rfl,z,g⟩⟩) fun rr s' hq=>?_)
  cases rr with
  | error er=>
    obtain ⟨H',ea,C,a0,B',rfl,⟨C',eC,ns,g⟩,os,bare,fl,hok,u⟩:=hq
    cases eC
    exact k C H' ns ⟨_,_,fr2.grow g⟩ H1 s1 ea s' a0 B' I1 os bare fl hok u
  | ok fl=>
    cases fl with
    | ret u=>obtain ⟨_,_,_,_,_,_,_,z⟩:=hq;exact z
    | next=>exact False.elim hq
    | brk=>exact False.elim hq
    | cont=>exact False.elim hq
theorem qQ {y:Str} {pos':Pos} (D:OwnR X.prog X.w X.K X.mg X.base k x ps (ub X.K r)) (hr:Room k X.A) (hg:Gl X x) (ha:AX X.nox (e::es) m g) (hs:swapsWith (.Call (.Name x p) (e::es) [] cpos) (some (.Name y pos')) pos.line X.env=pure false:=by rfl) (hdb:(x == ("__debug__":Str))=false:=by decide) (he:starEach (e::es) X.env=(false,eval e X.env)::starEach es X.env:=by rfl) (hpl:(backTo cpos (starEach es X.env)).any (·.1)=false:=by rfl) {mk al:Bool}:
    RX X mk al (.Assign [.Name y pos'] (.Call (.Name x p) (e::es) [] cpos) pos) (fq r g):=fun pins s σ H B E n E' I fr ee k=>
  wpAny_Assign_Name (cB (o9 D hr hg ha hdb he hpl I fr ee fun C H' z f=>(k pins (fun _=>rfl) σ C H' z f).2.1) fun _ _ z=>z.elim) hs
end
def mz (k n:Nat) (r:jg):List PyData→Option Str:=fun ds=>if ds.length=k then (r (av n ds)).map (·.1) else none
theorem wH {P:Program} {w:World} {K:PySem.W.Frag} {mg:Str→Option Value} {base:Heap} {x:Str} {st:Stmt} {N ps:List Str} {k a n:Nat} {r:jg} {mk al:Bool} (D:Def K mg x st ps) (S:FnScope N ps (ae st)) (hpa:ps.length=a) (hNn:N.length=n) (hps:a≤n)
    (hbody:∀(f:Addr) (cdv:Value) (A:Around) (outer:List Env) (s:Shared) (H:Hp) (E:XK),Room k (A.deeper (PyProof.Rows.envOfC x (ae st) s.heap.objs.size f cdv))→
      rB (e8 (t_ P w) P w K mg base N x (ae st) f cdv A outer s H E) mk al (aB st) r):OwnR P w K mg base (k+1) x ps (ub K (mz a n r)):=by
  subst hpa hNn
  obtain ⟨f,fd,F,mx,b⟩:=D.ex
  have kp:=F.kp
  obtain ⟨oc,od,kV,doc,pm,an,cdv,ct,osl,rfl,lk,hcd⟩:=F.ex
  refine ⟨f,_,tW lk hcd S (fun vs H Q E h=>?_) fun A outer s H vs Q E hr h=>?_,b,mx,kp⟩
  · obtain ⟨ds,n,e,rp,_⟩:=h
    unfold mz at e
    split at e
    · rename_i hl
      rw [rp.len];exact hl
    · cases e
  obtain ⟨ds,n,e,rp,q⟩:=h
  unfold mz at e
  split at e
  · rename_i hl
    obtain ⟨⟨n',E'⟩,er,z⟩:=Option.map_eq_some_iff.mp e
    cases z
    refine ⟨fun D σ H'=>σ=dn N vs∧H'=H,fun pins s1 σ H1 D I z=>?_,rfl,rfl⟩
    obtain ⟨rfl,rfl⟩:=z
    refine cB (hbody f cdv A outer s H1 E hr pins s1 _ H1 H1 (av N.length ds) n' E' I ⟨H1,[],iB rp (by omega)⟩ er fun _ _ σ' C H' ns ⟨F',A',fr'⟩=>?_) fun _ _ z=>z.elim
    have hE:=q C H' ns (fr'.bf.trans fr'.fh)
    exact ⟨fun _=>sS hE,vo hE,fun _=>sU hE⟩
  · cases e
end PL
namespace PL
open PySem PySem.Spec PyProof.Rows L2 Nh
abbrev hX (X:Cx) (ea:Addr):Cx:={X with A:=X.A.mark (some (.ref ea)),calm:=false,xe:=fun _ _=>False}
section
variable {X:Cx} {pins:List (Addr×Obj)} {σ:L2.St} {H:Hp} {s:Shared} {ea:Addr}
theorem oh (I:Inv X pins σ H s):Inv (hX X ea) pins σ H s:=
  let ok:=I.ok
  ⟨⟨ok.mod,ok.kind,ok.glob,ok.blt,ok.above,ok.inj,ok.has,ok.cab,fun z=>(nomatch z),ok.frames,ok.stk,ok.exf,ok.bs,ok.bsz,ok.noex,ok.exfs,ok.funs,ok.frf,ok.tab⟩,I.os,I.bare,I.base,I.loc,I.cell,I.free,I.freeC,I.pin,I.hok,I.len⟩
theorem qR (I:Inv (hX X ea) pins σ H s) (ok:X.Ok):Inv X pins σ H s:=⟨ok,I.os,I.bare,I.base,I.loc,I.cell,I.free,I.freeC,I.pin,I.hok,I.len⟩
theorem o_ {a:Addr} {o:HO} (I:Inv X pins σ H s) (hn:H a=none) (h0:X.s₀.heap.get? a=none) (hL:X.env.locals≠a) (hc:∀x c,X.env.cells.lookup x=some c→c≠a) (hp:∀p∈X.pn++pins,p.1≠a) (ok:ObjOk X.prog X.w (upd H a o) s.heap a o):Inv X pins σ (upd H a o) s:=by
  have ne:∀b u,H b=some u→b≠a:=fun b u e=>bQ e hn
  refine ⟨I.ok,I.os,I.bare,⟨I.base.keep,I.base.slot,fun b u e n hx=>?_,I.base.there,fun b xs e=>?_,fun b u v e=>?_,fun b q e=>?_⟩,I.loc,I.cell,?_,fun x c e=>?_,fun p q=>?_,fun b u e=>?_,I.len⟩
  · rw [aC (fun z=>by rw [z,h0] at e;cases e)];exact I.base.free b u e n hx
  · have z:=I.base.tups b xs e
    rw [aC (ne _ _ z)];exact z
  · have z:=I.base.frzs b u v e
    rw [aC (ne _ _ z)];exact z
  · have z:=I.base.tbls b q e
    rw [aC (ne _ _ z)];exact z
  · rw [aC hL];exact I.free
  · rw [aC (hc x c e)];exact I.freeC x c e
  · obtain ⟨e1,e2,e3⟩:=I.pin p q
    exact ⟨e1,by rw [aC (hp p q)];exact e2,e3⟩
  · by_cases hb:b=a
    · subst hb;rw [bg] at e;cases e;exact ok
    · rw [aC hb] at e
      refine (I.hok b u e).stay (fun c w' _ q=>q) (fun c q=>?_) fun c xs q=>?_
      · rw [aC (ne _ _ q)];exact q
      · rw [aC (ne _ _ q)];exact q
theorem qS {M:Model} {A:Around} {E:Value→Shared→Prop} {i:Nat} {x:Str} {pos:Pos} {Q:Unit→Shared→Prop} (I:Inv X pins σ H s) (hN:X.N.Nodup) (hi:X.N[i]? =some x) (hk:X.env.scope.names.lookup x=some .local)
    (h:∀s',Inv X pins (σ.set i none) H s'→Q () s'):wpAny M A (do bindName X.env x .none;unbindBehindTheSuite X.env x pos) Q E s:=by
  obtain ⟨m,hn,hl⟩:=id I.loc
  have hcls:(X.env.scope.kind == .class||(X.env.scope.kind == .module&&X.env.locals != X.env.globals))=false:=by rw [I.ok.kind];rfl
  have hiσ:i < σ.length:=by rw [I.len];exact (List.getElem?_eq_some_iff.mp hi).1
  have cne:=I.cne
  refine wpAny_nameGoes_keeps hk hn hcls fun h' v hn' hs=>?_
  obtain ⟨oL,_,_,hoL,_⟩:=id hn
  refine h _ ⟨I.ok,I.os,I.bare,⟨fun b o e n hb hx=>?_,fun b o e n hb hx=>?_,I.base.free,fun b o e hx=>?_,I.base.tups,I.base.frzs,I.base.tbls⟩,⟨_,hn',fun j y v' e1 e2 e3=>?_⟩,fun y c e=>?_,I.free,I.freeC,fun p hp=>?_,fun b ob e=>?_,by simpa using I.len⟩
  · exact (hs.2 b (Nat.ne_of_lt (Nat.lt_of_lt_of_le (Heap.lt_size e) I.ok.above))).trans (I.base.keep b o e n hb hx)
  · obtain ⟨sl,e1⟩:=I.base.slot b o e n hb hx
    exact ⟨sl,(hs.2 b (Nat.ne_of_lt (Nat.lt_of_lt_of_le (Heap.lt_size e) I.ok.above))).trans e1⟩
  · obtain ⟨o',e1⟩:=I.base.there b o e hx
    exact ⟨o',(hs.2 b (Nat.ne_of_lt (Nat.lt_of_lt_of_le (Heap.lt_size e) I.ok.above))).trans e1⟩
  · by_cases hj:j=i
    · subst hj
      rw [List.getElem?_set_self hiσ] at e2
      cases e2
    · rw [List.getElem?_set_ne (Ne.symm hj)] at e2
      obtain ⟨u',r',q⟩:=hl j y v' e1 e2 e3
      refine ⟨u',r',?_⟩
      rcases q with ⟨k,e⟩ | ⟨k,c,e,z⟩
      · refine .inl ⟨k,?_⟩
        have:y≠x:=fun e=>hj (iI hN e1 (e▸hi))
        simp [this,e]
      · exact .inr ⟨k,c,e,z.sameBut hs (cne y c e)⟩
  · obtain ⟨w',z⟩:=I.cell y c e
    exact ⟨w',z.sameBut hs (cne y c e)⟩
  · obtain ⟨e,n,ne,nf,d⟩:=I.pin p hp
    exact ⟨(hs.2 p.1 ne).trans e,n,ne,nf,d⟩
  · refine (I.hok b ob e).stay (fun c w' hc q=>(hs.2 c ?_).trans q) (fun _ q=>q) fun _ _ q=>q
    rintro rfl
    rcases hc with rfl | hc
    · rw [I.free] at e;cases e
    · rw [I.free] at hc;cases hc
end
abbrev pb (n:Str):PyData:= .dict [(.none, .str n)]
def qT (ok:List Str) (i:Nat) (r:jg) (g h:b_):b_:=fun E=>match r E with
  | none=>g E
  | some (n,E')=>if n∈ok∧i < E'.length then match h (E'.set i (.sh (pb n))) with
    | some (E2, .rt s)=>some (E2, .rt s)
    | _=>none
    else none
theorem sW {X:Cx} {body:List Stmt} {cn en:Str} {CH:Addr} {np hpos pos:Pos} {b₀:Stmt} {suite:List Stmt} {ok:List Str} {i:Nat} {r:jg} {g hs:b_} (hx:X.xe=fun _ _=>False) (hN:X.N.Nodup) (hex:X.ex=[]) (hst:X.stack=X.env::X.outer) (hfr:X.env.frame=some X.env.locals) (hg:Gl X cn) (hm:X.mg cn=some (.ref CH))
    (hok:∀n∈ok,∀C,PySem.W.nsIn X.K mainGlobals n=some (some (.ref C))→PySem.W.exmOne X.K (.ref C) (.ref CH)=some true) (hb:oJ X body g) (hr:∀W,rB (X.wish W) false false body r) (hh:∀ea,oJ (hX X ea) (b₀::suite) hs)
    (hi:X.N[i]? =some en:=by rfl) (hk:X.env.scope.names.lookup en=some .local:=by rfl) (hdb:(cn == ("__debug__":Str))=false:=by decide):
    SX X (.Try body [.ExceptHandler (some (.Name cn np)) (some en) (b₀::suite) hpos] [] [] pos) (qT ok i r g hs):=by
  intro pins s σ H D I hw
  obtain ⟨B,E,xs,Xs,E2,fl,fr,cl,e,q⟩:=hw
  subst cl
  have hxs:xs=[]:=by obtain ⟨_,_,f⟩:=fr;simpa using f.len
  subst hxs
  unfold qT at e
  split at e
  · have q:=hb pins s σ H D I ⟨B,E,[],[],E2,fl,fr,rfl,e,q⟩
    rw [hx] at q
    refine wpAny_Try_except (wpAny_mono q (fun f s1 z=>?_) fun _ _ z=>z.elim)
    cases f with
    | next=>exact wpAny_execs_nil z
    | brk=>exact z
    | cont=>exact z
    | ret u=>exact z
  · rename_i n E' er
    split at e
    rotate_left
    · cases e
    rename_i hc
    split at e
    rotate_left
    · cases e
    rename_i E3 sv eh
    cases e
    refine wpAny_Try_except (wpAny_mono (hr (fun e s₁=>wpAny (model X.prog X.w) X.A (noteFrame e X.env) (fun _ s₂=>wpAny (model X.prog X.w) X.A (setFlight e none) (fun _ s₃=>wpAny (model X.prog X.w) X.A (handleBy e X.env [.ExceptHandler (some (.Name cn np)) (some en) (b₀::suite) hpos]) (SP X pins D) X.xe s₃) X.xe s₂) X.xe s₁) pins s σ H B E n E' (I.wish _) fr er fun pp hp σ' C H' ns fr'=>⟨fun z=>(nomatch z),?_,fun z=>(nomatch z)⟩) (fun _ _ z=>z.elim) fun _ _ z=>z)
    cases hp rfl
    intro H1 s1 ea s' a0 Bb I1 os bare fly hokB u
    have I1:Inv X pins σ' H1 s1:=I1.unwish
    have ff:s'.heap.FunFrames Bb X.stack:=fly.2.2.1
    have fly':Heap.FlyingW Bb (X.env::X.outer) ea (.ref C) a0 s'.heap:=hst▸fly
    have invAt:∀h5,Bb.StaysIn h5→s'.heap.UpToSlots h5→Inv X pins σ' H' {s' with heap:=h5}:=fun h5 st k=>by
      have u2:UnB (gp X.stack) H1 H' s1.heap Bb h5:=u.on ff k
      exact I1.call' (s':={s' with heap:=h5}) os (u2.un st I1.stkFree) (hokB.kept fun b o e=>st b o e) bare fun b z=>(nomatch z)
    refine wpAny_looks_onW (by rw [I1.ok.frames,hst]) hfr fly' fun h4 held4 k4=>?_
    refine wpAny_landsW held4 fun h5 fly5 k5=>?_
    have I5:=invAt h5 fly5.1 (k4.trans k5)
    obtain ⟨ob,hob,hobc⟩:=fly5.there
    have Z5:d7 ea C h5:=⟨ob,hob,hobc⟩
    refine wpAny_handleBy_cons (codeAny_handlers_test (fD (X:=hX X ea) (oh I5) hg hm ?_ hdb)) (by intro q;cases q)
    refine (PySem.W.exm_one (I5.kIn) (hJ Z5) (hok n hc.1 C ns)).here ?_
    refine codeAny_handlers_suite_as ?_
    refine lands_againW fly5 fun h6 fly6 k6=>?_
    have I6:=invAt h6 fly6.1 ((k4.trans k5).trans k6)
    obtain ⟨oe,vs,hoe,hoec,hoed,_⟩:=fly6.first
    have nB:Bb.get? ea=none:=fly6.2.1
    have old:∀b o,s1.heap.get? b=some o→b≠ea:=fun b o eb z=>by
      subst z
      by_cases hf:b∈gp X.stack
      · obtain ⟨_,o',ho',hd⟩:=(show h6.FunFrames Bb X.stack from hst▸fly6.2.2.1).mem hf
        rw [hoe] at ho'
        cases ho'
        exact hd vs hoed
      · obtain ⟨o',ho'⟩:=u.there b o eb hf
        rw [nB] at ho'
        cases ho'
    have hn6:H' ea=none:=by
      cases q:H' ea with
      | none=>rfl
      | some o=>
        obtain ⟨z,e⟩:=lW (hokB ea o q)
        rw [nB] at e
        cases e
    have I7:Inv X pins σ' (upd H' ea (.ext (d7 ea C))) {s' with heap:=h6}:=by
      refine o_ I6 hn6 ?_ ?_ (fun x c e=>?_) (fun p hp=>?_) ?_
      · cases q:X.s₀.heap.get? ea with
        | none=>rfl
        | some o=>
          obtain ⟨o',z⟩:=I1.base.there ea o q (by rw [hex];exact fun z=>(nomatch z))
          exact absurd rfl (old ea o' z)
      · obtain ⟨_,⟨o,_,_,ho,_⟩,_⟩:=I1.loc
        exact old _ o ho
      · obtain ⟨v,o,ho,_⟩:=I1.cell x c e
        exact old _ o ho
      · exact old _ _ (I1.pin p hp).1
      · exact ⟨⟨oe,hoe,hoec⟩,⟨oe,hoe⟩,fun h1 h2 ⟨o,z,c⟩ k=>⟨o,k o z,c⟩⟩
    refine iJ (X:=X) I7 hN hi (.inl hk) (v:= .ref ea) rfl (fun s8 I8=>?_) (.inr hk)
    have g:Same H' (upd H' ea (.ext (d7 ea C))):=fun b o e=>by rw [aC (bQ e hn6)];exact e
    obtain ⟨F',A',fr1⟩:=fr'
    have fr2:=fr1.grow g
    have nA:ea∉A':=fun z=>by
      rcases fr1.mutA ea z with ⟨_,w⟩ | ⟨_,w⟩ <;> rw [hn6] at w <;> cases w
    have fr3:=fr2.push (v:= .ref ea) (s:= .sh (pb n)) ⟨rfl,_,rfl, .exc (by show (if ea∈A' then none else _)=_;rw [if_neg nA];exact bg) ns⟩
    obtain ⟨A3,fr4⟩:=fr3.store rfl (fun _ z=>(nomatch z)) hc.2
    have q8:=hh ea pins s8 _ _ {nx:=fun _ _=>False,bk:=fun _ _=>False,ct:=fun _ _=>False,rt:=fun v H9=>∃σ9,Frm X.K B σ9 H9 E2 [v] [sv]} (oh I8) ⟨B,_,[],[],E2, .rt sv,⟨_,A3,fr4⟩,rfl,eh,fun σ9 v H9 f=>⟨σ9,f⟩⟩
    refine wpAny_mono q8 (fun f s9 z=>?_) fun _ _ z=>z.elim
    cases f with
    | next=>obtain ⟨_,_,_,z⟩:=z;exact z.elim
    | brk=>obtain ⟨_,_,_,z⟩:=z;exact z.elim
    | cont=>obtain ⟨_,_,_,z⟩:=z;exact z.elim
    | ret uu=>
      obtain ⟨v,σ9,H9,I9,rv,σx,fx⟩:=z
      have I9:Inv X pins σ9 H9 s9:=qR I9 I.ok
      exact qS I9 hN hi hk fun s10 I10=>⟨v,_,H9,I10,rv,q _ v H9 fx⟩
end PL
namespace PL
open PySem PySem.Spec PyProof.Rows L2 Nh
def XT (K:PySem.W.Frag) (c:Value) (tab:List (Str×Bool)):Prop:=∀n b C,tab.lookup n=some b→PySem.W.nsIn K mainGlobals n=some (some (.ref C))→ExCls K C∧PySem.W.kitOne K (.ref C) c=some b
theorem dI {K:PySem.W.Frag} {c:Value}:XT K c []:=fun _ _ _ e=>nomatch e
theorem cJ {K:PySem.W.Frag} {c:Value} {n:Str} {C:Addr} {b:Bool} {tab:List (Str×Bool)} (ns:PySem.W.nsIn K mainGlobals n=some (some (.ref C))) (Z:ExCls K C) (k:PySem.W.kitOne K (.ref C) c=some b) (h:XT K c tab):XT K c ((n,b)::tab):=fun n' b' C' e ns'=>by
  rw [List.lookup_cons] at e
  split at e
  · rename_i q
    rw [beq_iff_eq] at q
    subst q
    rw [ns] at ns'
    cases ns'
    cases e
    exact ⟨Z,k⟩
  · exact h n' b' C' e ns'
def ft (tab:List (Str×Bool)):PyData→Option PyData
  | .dict [(.none, .str n)]=>(tab.lookup n).map .bool
  | _=>none
theorem vq {K:PySem.W.Frag} {H:Hp} {v:V} {n:Str} (r:Rp K H v (.dict [(.none, .str n)])):∃a C,v= .ref a∧H a=some (.ext (d7 a C))∧PySem.W.nsIn K mainGlobals n=some (some (.ref C)):=by
  generalize e:PyData.dict [(PyData.none,PyData.str n)]=d at r
  cases r with
  | exc h1 h2=>cases e;exact ⟨_,_,rfl,h1,h2⟩
  | dct h1 h2=>
    cases h2 with
    | nil=>cases e
    | @cons k x us d kvs a b=>cases k <;> cases e
  | _=>cases e
section
variable {X:Cx} {e:Expr} {m1:Bool} {f:bP} {p p2 pos:Pos}
theorem pc {c:Value} {vc:V} {tab:List (Str×Bool)} (rc:∀u,RelV vc u→u=c) (T:XT X.K c tab):CallR X (.builtin "isinstance") (fun xs H Q=>∃x d r,xs=[x,vc]∧Rp X.K H x d∧ft tab d=some r∧∀b,r= .bool b→Q (.bl b) H):=by
  intro pins s σ H xs us Q I r h
  obtain ⟨x,d,r',rfl,rp,hd,q⟩:=h
  obtain ⟨u,w',rfl,ru,rw'⟩:=r.two
  cases rc w' rw'
  unfold ft at hd
  split at hd
  · rename_i n
    obtain ⟨b,eb,z⟩:=Option.map_eq_some_iff.mp hd
    obtain ⟨a,C,rfl,ha,ns⟩:=vq rp
    obtain ⟨Z,k⟩:=T n b C eb ns
    cases (show u=Value.ref a from ru)
    exact PySem.W.kia_one (qL Z) I.kIn (show d7 a C s.heap from (I.hok a _ ha).1) k (fun z=>nomatch z) fun tk=>⟨.bl b,H,I.tok _,rfl,q b z.symm⟩
  · cases hd
theorem oi {c:Value} {vc:V} {tab:List (Str×Bool)} (rc:∀u,RelV vc u→u=c) (T:XT X.K c tab) (hg:Gl X "isinstance") (hm:X.mg "isinstance"=none) (ha:EX X e m1 f) {x:Str} (h2:PE X (.Name x p2) (tC vc))
    (he:starEach [e, .Name x p2] X.env=(false,eval e X.env)::starEach [.Name x p2] X.env) (he2:starEach [.Name x p2] X.env=[(false,eval (.Name x p2) X.env)]) (hpl:(backTo pos (starEach [.Name x p2] X.env)).any (·.1)=false):
    EX X (.Call (.Name "isinstance" p) [e, .Name x p2] [] pos) m1 (di (ft tab) f):=by
  refine aW (gq (pc rc T) hg hm PyProof.Rows.boot_isinstance (bR ha (bR h2 cN he2) he) (by decide) (by decide) he hpl) fun σ H Q z=>?_
  obtain ⟨B,E,xs,Xs,res,E',fr,cl,e,q⟩:=z
  obtain ⟨⟨s,E1⟩,e1,e⟩:=Option.bind_eq_some_iff.mp e
  obtain ⟨d1,e2,e⟩:=Option.bind_eq_some_iff.mp e
  obtain ⟨d2,e3,e⟩:=Option.map_eq_some_iff.mp e
  cases e
  refine ⟨B,E,xs,Xs,s,E1,fr,cl,e1,fun v1 H1 ⟨F,A,fr1⟩=>?_⟩
  obtain ⟨A',fr2⟩:=fr1.pop
  exact ⟨v1,d1,d2,rfl,(fr1.look0 e2).1,e3,fun b z=>q _ _ ⟨F,A',fr2.push ⟨rfl,_,rfl,z▸ .bl b⟩⟩⟩
theorem cX {C:Addr} {tab:List (Str×Bool)} (hg:Gl X "isinstance") (hm:X.mg "isinstance"=none) (ha:EX X e m1 f) {x:Str} (hgx:Gl X x) (hmx:X.mg x=some (.ref C)) (T:XT X.K (.ref C) tab) (hdx:(x == ("__debug__":Str))=false:=by decide)
    (he:starEach [e, .Name x p2] X.env=(false,eval e X.env)::starEach [.Name x p2] X.env:=by rfl) (he2:starEach [.Name x p2] X.env=[(false,eval (.Name x p2) X.env)]:=by rfl) (hpl:(backTo pos (starEach [.Name x p2] X.env)).any (·.1)=false:=by rfl):
    EX X (.Call (.Name "isinstance" p) [e, .Name x p2] [] pos) m1 (di (ft tab) f):=oi (vc:= .ref C) (fun _ z=>z) T hg hm ha (rE (v:= .ref C) hgx hmx rfl hdx) he he2 hpl
theorem sX {t:String} {tab:List (Str×Bool)} (hg:Gl X "isinstance") (hm:X.mg "isinstance"=none) (ha:EX X e m1 f) {x:Str} (hgx:Gl X x) (hmx:X.mg x=none) (hbx:bootBuiltins x=some (.type t)) (T:XT X.K (.type t) tab) (hnx:x≠"__name__":=by decide) (hdx:(x == ("__debug__":Str))=false:=by decide)
    (he:starEach [e, .Name x p2] X.env=(false,eval e X.env)::starEach [.Name x p2] X.env:=by rfl) (he2:starEach [.Name x p2] X.env=[(false,eval (.Name x p2) X.env)]:=by rfl) (hpl:(backTo pos (starEach [.Name x p2] X.env)).any (·.1)=false:=by rfl):
    EX X (.Call (.Name "isinstance" p) [e, .Name x p2] [] pos) m1 (di (ft tab) f):=oi (vc:= .ty t) (fun _ z=>z) T hg hm ha (nC (v:= .ty t) hgx hmx hbx rfl hnx hdx) he he2 hpl
end
structure RoomH (k:Nat) (A:Around):Prop where
  dp:A.depth+3*k+5 < recursionLimit
  un:A.units+16*k+200 < cLine
theorem RoomH.mono {j k:Nat} {A:Around} (r:RoomH k A) (h:j≤k):RoomH j A:=⟨by have:=r.dp;omega,by have:=r.un;omega⟩
theorem RoomH.deeper {k:Nat} {A:Around} (r:RoomH (k+1) A) (env:Env):RoomH k (A.deeper env):=
  ⟨by have:=r.dp;show A.depth+1+3*k+5 < _;omega,by have:=r.un;show A.units+3+16*k+200 < _;omega⟩
theorem RoomH.depth {k:Nat} {A:Around} (r:RoomH k A):A.depth < recursionLimit:=by have:=r.dp;omega
theorem RoomH.units {k:Nat} {A:Around} (r:RoomH k A):A.units+64 < cLine:=by have:=r.un;omega
theorem Room.mark {k:Nat} {A:Around} (r:Room k A) (v:Option Value):RoomH k (A.mark v):=⟨r.dp,r.un⟩
abbrev xh (P:Program) (w:World) (K:PySem.W.Frag) (mg:Str→Option Value) (base:Heap) (N:List Str) (qual:Str) (scope:Scope) (f:Addr) (cd:Value) (A:Around) (outer:List Env) (s:Shared) (H:Hp) (E:XK):Cx:={e8 mK P w K mg base N qual scope f cd A outer s H E with calm:=false,xe:=fun _ _=>False}
structure FnOkH (P:Program) (w:World) (K:PySem.W.Frag) (mg:Str→Option Value) (base:Heap) (k:Nat) (f:Addr) (fd:FuncData) (ps:List Str) (sp:Sp):Prop where
  len:∀vs H Q E,sp vs H Q E→vs.length=ps.length
  run:∀(A:Around) (outer:List Env) (s:Shared) (H:Hp) (args:Args) (us:List Value) (vs:List V) (Q:VK) (E:XK),RoomH k A→Env0 P w K mg base A outer s H→BindsTo s fd args (ps.zip us)→Vals vs us→sp vs H Q E→
    codeAny (model P w) A (.call (.ref f) args) (CR mK outer P w H s Q E) s
structure OwnH (P:Program) (w:World) (K:PySem.W.Frag) (mg:Str→Option Value) (base:Heap) (k:Nat) (x:Str) (ps:List Str) (sp:Sp):Prop where
  ex:∃(f:Addr) (fd:FuncData),FnOkH P w K mg base k f fd ps sp∧Binds K fd ps []∧mg x=some (.ref f)∧PySem.W.keepIn K (.ref f)=true
theorem vt {P:Program} {w:World} {K:PySem.W.Frag} {mg:Str→Option Value} {base:Heap} {k:Nat} {f:Addr} {name qual:Str} {params:Arguments} {body:List Stmt} {scope:Scope} {dV kV doc pm cdv ct oc:Value} {an od:Option Addr}
    {osl:Array (Option Value)} {N ps:List Str} {sp:Sp} (lk:K.lookup f=some ⟨oc,od, .func (PySem.W.fnOf name qual params body scope dV kV doc pm an cdv ct),osl⟩) (hcd:PySem.W.codeIn K cdv qual=true) (S:FnScope N ps scope)
    (len:∀vs H Q E,sp vs H Q E→vs.length=ps.length)
    (hbody:∀(A:Around) (outer:List Env) (s:Shared) (H:Hp) (vs:List V) (Q:VK) (E:XK),RoomH k (A.deeper (envOfC qual scope s.heap.objs.size f cdv))→sp vs H Q E→
      ∃t,PSs (xh P w K mg base N qual scope f cdv A outer s H E) body t∧t {nx:=fun _ H'=>Q .non H',rt:=Q} (dn N vs) H):
    FnOkH P w K mg base (k+1) f (PySem.W.fnOf name qual params body scope dV kV doc pm an cdv ct) ps sp:=by
  refine ⟨len,fun A outer s H args us vs Q E hr e0 hb r hsp=>?_⟩
  have hl:=len _ _ _ _ hsp
  have KX:K.In s.heap:=e0.mod.kin.keeps fun b o e=>(e0.bs b o e).1
  have lim:s.heap.NoLimit:=e0.mod.nolimit.keeps fun b o e=>(e0.bs b o e).1
  have hkind:∀y∈ps.zip us,scope.names.lookup y.1=some .local∨(scope.names.lookup y.1=some .cell∧((cellsFrom (s.heap.objs.size+1) scope.names []).lookup y.1).isSome=true):=fun ⟨n,v⟩ hy=>by
    rcases S.par n (List.of_mem_zip hy).1 with q | q
    · exact .inl q
    · exact .inr ⟨q,PySem.W.cellsFrom_some _ _ _ (.inl q)⟩
  refine codeAny_call_function hr.depth (KX _ _ lk) rfl S.co S.gen rfl (PySem.W.codeRec_of KX hcd) (hb _ _ _ _ ?_)
  refine wpAny_newFunctionEnv_cells S.kind hkind fun env he s1 x=>?_
  subst he
  refine ⟨lim.keeps x.toInCall.keep,codeAny_func ?_⟩
  obtain ⟨t,ht,hq⟩:=hbody A outer s H vs Q E (hr.deeper _) hsp
  have I0:Inv (e8 mK P w K mg base N qual scope f cdv {A with handled:=none} outer s H E) [] (dn N vs) H s1:=jN S rfl ⟨e0.frames,e0.mod,e0.bs,e0.bsz,e0.funs,e0.frf,e0.hok,e0.bare,e0.tab⟩ hl r x
  have I:Inv (xh P w K mg base N qual scope f cdv A outer s H E) [] (dn N vs) H s1:=
    let ok:=I0.ok
    ⟨⟨ok.mod,ok.kind,ok.glob,ok.blt,ok.above,ok.inj,ok.has,ok.cab,fun z=>(nomatch z),Around.frames_deeper e0.frames,ok.stk,ok.exf,ok.bs,ok.bsz,ok.noex,ok.exfs,ok.funs,ok.frf,ok.tab⟩,I0.os,I0.bare,I0.base,I0.loc,I0.cell,I0.free,I0.freeC,I0.pin,I0.hok,I0.len⟩
  refine wpAny_mono (ht [] s1 (dn N vs) H _ I hq) (fun fl s' hs=>?_) fun e s' hs=>hs.elim
  have fin:∀{σ':L2.St} {H':Hp} {v:V} {u:Value},Inv (xh P w K mg base N qual scope f cdv A outer s H E) [] σ' H' s'→RelV v u→Q v H'→CE outer P w H s Q u s':=
    fun {σ' H' v u} J rv q=>⟨v,H',J.os,J.bare,J.base,J.hok,rv,q⟩
  cases fl with
  | ret u=>
    obtain ⟨v,σ',H',J,rv,q⟩:=hs
    exact fin J rv q
  | next=>
    obtain ⟨σ',H',J,q⟩:=hs
    exact fin (v:=V.non) (u:=Value.none) J rfl q
  | brk=>
    obtain ⟨_,_,_,q⟩:=hs
    exact False.elim q
  | cont=>
    obtain ⟨_,_,_,q⟩:=hs
    exact False.elim q
theorem xY {P:Program} {w:World} {K:PySem.W.Frag} {mg:Str→Option Value} {base:Heap} {x:Str} {st:Stmt} {N ps:List Str} {k a n:Nat} {g:b_} (D:Def K mg x st ps) (S:FnScope N ps (ae st)) (hpa:ps.length=a) (hNn:N.length=n) (hps:a≤n)
    (hbody:∀(f:Addr) (cdv:Value) (A:Around) (outer:List Env) (s:Shared) (H:Hp) (E:XK),RoomH k (A.deeper (PyProof.Rows.envOfC x (ae st) s.heap.objs.size f cdv))→
      oJ (xh P w K mg base N x (ae st) f cdv A outer s H E) (aB st) g):OwnH P w K mg base (k+1) x ps (cC K (cq a n g)):=by
  subst hpa hNn
  obtain ⟨f,fd,F,mx,b⟩:=D.ex
  have kp:=F.kp
  obtain ⟨oc,od,kV,doc,pm,an,cdv,ct,osl,rfl,lk,hcd⟩:=F.ex
  refine ⟨f,_,vt lk hcd S (fun vs H Q E h=>?_) fun A outer s H vs Q E hr h=>?_,b,mx,kp⟩
  · obtain ⟨ds,r,e,rp,_⟩:=h
    unfold cq at e
    split at e
    · rename_i hl
      rw [rp.len];exact hl
    · cases e
  obtain ⟨ds,r,e,rp,q⟩:=h
  unfold cq at e
  split at e
  · rename_i hl
    refine ⟨_,hbody f cdv A outer s H E hr,?_⟩
    obtain ⟨⟨E',fl⟩,e1,e⟩:=Option.bind_eq_some_iff.mp e
    refine ⟨H,av N.length ds,[],[],E',fl,⟨H,[],iB rp (by omega)⟩,rfl,e1,?_⟩
    cases fl with
    | nx=>
      cases e
      rintro σ' H' ⟨F',A',fr'⟩
      exact q _ _ (fr'.bf.trans fr'.fh) .non
    | bk=>cases e
    | ct=>cases e
    | rt r'=>
      rintro σ' v H' ⟨F',A',fr'⟩
      obtain ⟨s1,s2⟩:=fr'.resultO e
      exact q v H' s1 s2
  · cases e
theorem sY {X:Cx} {k:Nat} {x:Str} {ps:List Str} {c:List PyData→Option Sl} {p pos:Pos} {e:Expr} {es:List Expr} {m:Bool} {g:kY} (D:OwnH X.prog X.w X.K X.mg X.base k x ps (cC X.K c)) (hr:RoomH k X.A) (hg:Gl X x) (ha:AX X (e::es) m g)
    (hdb:(x == ("__debug__":Str))=false:=by decide) (he:starEach (e::es) X.env=(false,eval e X.env)::starEach es X.env:=by rfl) (hpl:(backTo pos (starEach es X.env)).any (·.1)=false:=by rfl):
    EX X (.Call (.Name x p) (e::es) [] pos) m (ak c g):=by
  obtain ⟨f,fd,F,b,mx,kp⟩:=D.ex
  have hc:PE X (.Call (.Name x p) (e::es) [] pos) (pQ (cC X.K c) [] E0 (ra X.K m g)):=by
    intro pins s σ H Q I h
    refine wpAny_Call_Name_kw (fD I hg mx ?_ hdb)
    refine PySem.W.callWith_K (h₀:=X.base) I.ok.mod.kin kp (cB (ha pos pins s σ H _ I h) fun us s1 ⟨vs,H1,I1,r,q⟩=>⟨I1.kIn,?_⟩) he hpl
    have q:cC X.K c (vs++[]) H1 Q E0:=q
    rw [List.append_nil] at q
    have hlen:(us++[]).length=ps.length:=by rw [List.append_nil,←r.length];exact F.len _ _ _ _ q
    have bd:=b s1 us I1.kIn hlen
    rw [List.append_nil] at bd
    refine wpAny_call (codeAny_mono (F.run X.A X.stack s1 H1 ⟨us,[]⟩ us vs Q E0 hr I1.env0 bd r q) fun rr s' hq=>?_)
    cases rr with
    | error e=>exact False.elim hq
    | ok fl=>
      cases fl with
      | ret u=>exact I1.after hq
      | next=>exact False.elim hq
      | brk=>exact False.elim hq
      | cont=>exact False.elim hq
  refine aW hc fun σ H Q z=>?_
  obtain ⟨B,E,xs,Xs,res,E',fr,cl,e,q⟩:=z
  obtain ⟨⟨rs,E1⟩,e1,e⟩:=Option.bind_eq_some_iff.mp e
  obtain ⟨ds,e2,e⟩:=Option.bind_eq_some_iff.mp e
  obtain ⟨r,e3,e⟩:=Option.map_eq_some_iff.mp e
  cases e
  refine ⟨B,E,xs,Xs,rs,E1,fr,cl,e1,fun vs H1 hl ⟨F,A,fr1⟩=>?_⟩
  obtain ⟨r1,A',fr2⟩:=fr1.looks hl e2
  exact ⟨ds,res,e3,by rw [List.append_nil];exact r1,fun v H' g q'=>q v H' (fr2.told g q')⟩
end PL
namespace PL
open PySem PySem.Spec PyProof.Rows L2 Nh
section
variable {M:Model} {A:Around} {E:Value→Shared→Prop} {s:Shared}
theorem ng {base h:Heap} {env:Env} {outer:List Env} {L e:Addr} {cls:Value} {args:List Value} {Q:Unit→Shared→Prop}
    (hfr:A.frames=some (env::outer)) (hf:env.frame=some L) (hkb:base.StaysIn h) (hl:h.FunFrames base (env::outer)) (hx:Heap.MadeExcOf h s.heap e cls args)
    (hQ:∀h' t,Heap.HeldW base (env::outer) e cls (.ref t) L h'→s.heap.UpToSlots h'→Q () {s with heap:=h'}):wpAny M A (noteFrame (.ref e) env) Q E s:=by
  obtain ⟨t,he,htn,ht⟩:=hx.there
  have hen:base.get? e=none:=by
    cases hq:base.get? e with
    | none=>rfl
    | some o'=>have:=hkb e o' hq;rw [hx.new] at this;cases this
  have h1:(#[Value.ref t, .none, .none, .none, .bool false, .none]:Array Value)[1]? =some Value.none:=rfl
  unfold noteFrame
  simp only [hf]
  refine wpAny_bind (wpAny_field he rfl h1 ?_)
  rw [if_neg (show ¬((Value.none != Value.none)=true) from by decide)]
  exact wpAny_entryW (a0:= .ref t) hfr (hl.of_keeps fun b o hb _=>⟨o,hx.keeps b o hb,rfl⟩) hf he (fun b o hb=>hx.keeps b o (hkb b o hb)) hen rfl (by simp) rfl fun h' ⟨x1,x2,x3,x4⟩=>hQ h' t ⟨x1,hen,x2,x3⟩ x4
theorem pd {base:Heap} {env:Env} {l:List Env} {L e:Addr} {cls a0:Value} (hf:env.frame=some L) (hh:Heap.HeldW base l e cls a0 L s.heap)
    (hE:∀h',Heap.HeldW base l e cls a0 L h'→s.heap.UpToSlots h'→E (.ref e) {s with heap:=h'}):cameBackBy M A env E (.ref e) s:=by
  obtain ⟨hkb,hen,hl,oe,vs,T,oT,ts,he,hcls,hd,h1,hnT,hTe,hT,hdT,h3⟩:=hh
  have hsz3:3 < ts.size:=(Array.getElem?_eq_some_iff.mp h3).1
  have other:∀b,b≠T→(s.heap.update T (Obj.mapFields (·.setIfInBounds 3 ((some L).elim Value.none fun f=>rawInt f)))).get? b=s.heap.get? b:=
    fun b hb=>Heap.get?_update_other _ _ (Ne.symm hb)
  have noRecord:∀b o,s.heap.get? b=some o→(∀vs,o.data≠ .fields vs)→b≠T:=fun b o hb hnf q=>by
    rw [q,hT] at hb;injection hb with hb;subst hb;exact hnf ts hdT
  unfold cameBackBy
  refine wpAny_bind (wpAny_field he hd h1 ?_)
  rw [if_neg (show ¬((Value.ref T == Value.none)=true) from by simp)]
  rw [hf]
  unfold setFlight
  refine wpAny_bind (wpAny_field he hd h1 ?_)
  rw [if_pos (show (Value.ref T != Value.none)=true from by simp)]
  refine wpAny_setField hT hdT hsz3 (hE _ ⟨fun b o hbo=>(other b fun q=>by rw [q,hnT] at hbo;cases hbo).trans (hkb b o hbo),hen,
    hl.of_keeps fun b o hb hnf=>⟨o,(other b (noRecord b o hb hnf)).trans hb,rfl⟩,?_⟩ fun b o hb hnf=>⟨o.slots,(other b (noRecord b o hb hnf)).trans hb⟩)
  exact ⟨oe,vs,T,_,_,(other e (Ne.symm hTe)).trans he,hcls,hd,h1,hnT,hTe,Heap.get?_update_self _ hT (Obj.isFreed_of_fields (Obj.data_mapFields hdT _)),Obj.data_mapFields hdT _,by simp [hsz3]⟩
end
def eB (g:fZ) (b:b_) (r:jg):List PyData→jg
  | []=>fun _=>none
  | d::ds=>fun E=>(g d E).bind fun E1=>match r E1 with
    | some x=>some x
    | none=>match b E1 with
      | some (E2, .nx)=>eB g b r ds E2
      | some (E2, .ct)=>eB g b r ds E2
      | _=>none
def sZ (it:gS) (g:fZ) (b:b_) (r:jg):jg:=fun E=>(it E).bind fun a=>eB g b r a.1 a.2
def qU (X:Cx) (mk:Bool) (n:Str) (B:Hp) (E':List Sl) (e:Value) (s':Shared):Prop:=∃pins σ C H' ea,e= .ref ea∧PySem.W.nsIn X.K mainGlobals n=some (some (.ref C))∧Frm X.K B σ H' E' [] []∧
  ((mk=true∧∃s h' vs,Inv X pins σ H' s∧Heap.MadeExcOf s.heap h' ea (.ref C) vs∧s'={s with heap:=h'})∨
   (∃H s a0 Bb,Inv X pins σ H s∧s'.os=s.os∧AllBare s'.gens∧Heap.FlyingW Bb X.stack ea (.ref C) a0 s'.heap∧HOk X.prog X.w H' Bb∧UnB (gp X.stack) H H' s.heap Bb s'.heap)∨
   (∃H s a0 Bb,Inv X pins σ H s∧s'.os=s.os∧AllBare s'.gens∧Heap.HeldW Bb X.stack ea (.ref C) a0 X.env.locals s'.heap∧HOk X.prog X.w H' Bb∧UnB (gp X.stack) H H' s.heap Bb s'.heap))
theorem qV {X:Cx} {mk:Bool} {n:Str} {B:Hp} {E':List Sl} (hst:X.stack=X.env::X.outer) (hfr:X.env.frame=some X.env.locals):PassesOwn (model X.prog X.w) X.A X.env (qU X mk n B E'):=by
  intro e s' h
  obtain ⟨pins,σ,C,H',ea,rfl,ns,fr,h⟩:=h
  have came:∀(s1:Shared) (H:Hp) (s:Shared) (a0:Value) (Bb:Heap),Inv X pins σ H s→s1.os=s.os→AllBare s1.gens→Heap.HeldW Bb X.stack ea (.ref C) a0 X.env.locals s1.heap→HOk X.prog X.w H' Bb→UnB (gp X.stack) H H' s.heap Bb s1.heap→cameBackBy (model X.prog X.w) X.A X.env (qU X mk n B E') (.ref ea) s1:=fun s1 H s a0 Bb I os bare hh hok u=>
    pd hfr hh fun h2 x1 x2=>⟨pins,σ,C,H',ea,rfl,ns,fr, .inr (.inr ⟨H,s,a0,Bb,I,os,bare,x1,hok,u.on hh.2.2.1 x2⟩)⟩
  show wpAny _ _ (noteFrame _ _) _ _ _
  rcases h with ⟨hm,s,h',vs,I,hx,rfl⟩ | ⟨H,s,a0,Bb,I,os,bare,fl,hok,u⟩ | ⟨H,s,a0,Bb,I,os,bare,hh,hok,u⟩
  · have st:=I.stack
    have hin:∀env∈X.stack,∀b,env.frame=some b→b∈gp X.stack:=fun env he b hb=>List.mem_filterMap.mpr ⟨env,he,hb⟩
    have ff:=PySem.W.funFrames_hide st hin
    refine ng (base:=PySem.W.hideAll s.heap (gp X.stack)) (h:=s.heap) (outer:=X.outer) (by rw [I.ok.frames,hst]) hfr (fun b o q=>PySem.W.of_hideAll _ q) (hst▸ff) hx fun h2 t x1 x2=>?_
    refine came {s with heap:=h2} H' s (.ref t) _ I rfl I.bare (hst▸x1) (fun a o e=>?_) ⟨fun b o e n hb=>PySem.W.hideAll_get _ e hb,fun b o e n hb=>?_,fun _ _ _ n=>n,fun b o e hb=>⟨o,PySem.W.hideAll_get _ e hb⟩,fun _ _ e=>e,fun _ _ _ e=>e,fun _ _ e=>e⟩
    · refine (I.hok a o e).stay (fun b u hb q=>PySem.W.hideAll_get _ q fun z=>?_) (fun _ q=>q) fun _ _ q=>q
      have n:=I.stkFree b z
      rcases hb with rfl | hb
      · rw [n] at e;cases e
      · rw [n] at hb;cases hb
    · obtain ⟨_,o',ho',hd⟩:=st.mem hb
      rw [e] at ho'
      cases ho'
      exact x2 b o (hx.keeps b o e) hd
  · refine wpAny_looks_onW (outer:=X.outer) (by rw [I.ok.frames,hst]) hfr (hst▸fl) fun h2 x1 x2=>?_
    exact came {s' with heap:=h2} H s a0 Bb I os bare (hst▸x1) hok (u.on fl.2.2.1 x2)
  · exact wpAny_noteFrame_againW hfr hh.2.2.2 (came s' H s a0 Bb I os bare hh hok u)
theorem vv {X:Cx} {mk:Bool} {tg iter:Expr} {body:List Stmt} {m:Bool} {it:gS} {g:fZ} {b:b_} {r:jg} {pos:Pos} (hst:X.stack=X.env::X.outer) (hfr:X.env.frame=some X.env.locals) (hc:X.calm=true) (hi:∀W,IX (X.wish W) tg iter m it) (hg:∀W,GX (X.wish W) tg g) (hb:oJ X.nox body b) (hr:∀W,rB (X.wish W) mk true body r)
    (hs:∀x,foldedSetIterable iter X.env x=pure x:=by intro _;rfl):RX X mk true (.For tg iter body [] pos) (sZ it g b r):=fun pins s σ H B E n E' I fr e k=>by
  obtain ⟨⟨ds,E1⟩,e1,e⟩:=Option.bind_eq_some_iff.mp e
  have hbW:PSs (X.wish (qU X mk n B E')) body (rs X.K b):=fun pins s σ H D I hw=>
    wpAny_mono (hb pins s σ H D (I.unwish.wish _) hw) (fun _ _ q=>SP.unwish (X:=X) q |> fun z=>by
      rename_i f s'
      cases f with
      | next=>obtain ⟨σ',H',I,q⟩:=z;exact ⟨σ',H',I.wish _,q⟩
      | brk=>obtain ⟨σ',H',I,q⟩:=z;exact ⟨σ',H',I.wish _,q⟩
      | cont=>obtain ⟨σ',H',I,q⟩:=z;exact ⟨σ',H',I.wish _,q⟩
      | ret u=>obtain ⟨v,σ',H',I,r,q⟩:=z;exact ⟨v,σ',H',I.wish _,r,q⟩) fun _ _ z=>z.elim
  have hbody:PSs (X.wish (qU X mk n B E')) body (fun D σ H=>rs X.K b D σ H∨∃B' Ei,Same B B'∧Frm X.K B' σ H Ei [] []∧r Ei=some (n,E')):=fun pins s σ H D I hw=>by
    rcases hw with hw | ⟨B',Ei,sb,fri,er⟩
    · exact hbW pins s σ H D I hw
    · refine wpAny_mono (hr _ pins s σ H B' Ei n E' I fri er fun pp _ σ' C H' ns fr'=>⟨fun hm=>?_,?_,fun _=>?_⟩) (fun _ _ z=>z.elim) fun _ _ z=>z
      · exact fun s h' ea vs I hx=>⟨pp,σ',C,H',ea,rfl,ns,fr'.base sb, .inl ⟨hm,s,h',vs,I.unwish,hx,rfl⟩⟩
      · exact fun H s ea s' a0 Bb I os bare fl hok u=>⟨pp,σ',C,H',ea,rfl,ns,fr'.base sb, .inr (.inl ⟨H,s,a0,Bb,I.unwish,os,bare,fl,hok,u⟩)⟩
      · exact fun H s ea s' a0 Bb I os bare fl hok u=>⟨pp,σ',C,H',ea,rfl,ns,fr'.base sb, .inr (.inr ⟨H,s,a0,Bb,I.unwish,os,bare,fl,hok,u⟩)⟩
  have q:=pJ (X:=X.wish (qU X mk n B E')) (pos:=pos) (qV hst hfr) hc (hi _) (hg _) hbody hs pins s σ H {nx:=fun _ _=>False,bk:=fun _ _=>False,ct:=fun _ _=>False,rt:=fun _ _=>False} (I.wish _) (by
    refine ⟨B,E,[],[],ds,E1,fr,fun _=>Calm.nil rfl,e1,fun B' J H1 hB fr1 ok=>?_⟩
    refine ⟨fun i mm σ' H'=>mm=ds.length - i∧i≤ds.length∧∃Ei,eB g b r (ds.drop i) Ei=some (n,E')∧Frm X.K B' σ' H' Ei [] [],⟨ds.length,by simp,Nat.zero_le _,E1,by simpa using e,fr1⟩,?_⟩
    rintro i mm σ' H' ⟨rfl,hi,Ei,ei,F,A,fri⟩
    obtain ⟨go,stop⟩:=ok i (Same.refl _) fri
    by_cases hlt:i < ds.length
    · obtain ⟨d,ed⟩:∃d,ds[i]? =some d:=⟨ds[i],List.getElem?_eq_getElem hlt⟩
      obtain ⟨g1,yl⟩:=go d ed
      have edr:ds.drop i=d::ds.drop (i+1):=by
        rw [List.drop_eq_getElem_cons hlt]
        congr 1
        exact Option.some.inj ((List.getElem?_eq_getElem hlt).symm.trans ed)
      rw [edr] at ei
      obtain ⟨E3,e3,ei⟩:=Option.bind_eq_some_iff.mp ei
      refine .inr ⟨g1,fun σ2 H2=>∃Ej,eB g b r (ds.drop (i+1)) Ej=some (n,E')∧Frm X.K B' σ2 H2 Ej [] [],fun σ2 H2 ⟨Ej,ej,frj⟩=>⟨ds.length - (i+1),by omega,rfl,hlt,Ej,ej,frj⟩,fun x H2 y=>?_⟩
      refine ⟨B',Ei,[],[],d,E3,yl x H2 y,Still.nil rfl,e3,fun σ3 H3 fr3=>?_⟩
      split at ei
      · rename_i x er
        cases ei
        exact .inr ⟨B',E3,hB,fr3,er⟩
      · split at ei
        · rename_i E2 eb
          exact .inl ⟨B',E3,[],[],E2, .nx,fr3,rfl,eb,fun σ4 H4 fr4=>⟨E2,ei,fr4⟩⟩
        · rename_i E2 eb
          exact .inl ⟨B',E3,[],[],E2, .ct,fr3,rfl,eb,fun σ4 H4 fr4=>⟨E2,ei,fr4⟩⟩
        · cases ei
    · have e0:i=ds.length:=by omega
      rw [e0,List.drop_length] at ei
      cases ei)
  refine wpAny_mono q (fun f s1 z=>?_) fun e1 s1 z=>?_
  · cases f with
    | next=>obtain ⟨_,_,_,z⟩:=z;exact z
    | brk=>obtain ⟨_,_,_,z⟩:=z;exact z
    | cont=>obtain ⟨_,_,_,z⟩:=z;exact z
    | ret u=>obtain ⟨_,_,_,_,_,z⟩:=z;exact z
  · obtain ⟨pp,σ',C,H',ea,rfl,ns,fr',z⟩:=z
    obtain ⟨k1,k2,k3⟩:=k pp (fun h=>nomatch h) σ' C H' ns fr'
    rcases z with ⟨hm,s2,h2,vs,I2,hx,rfl⟩ | ⟨H2,s2,a0,Bb,I2,os,bare,fl,hok,u⟩ | ⟨H2,s2,a0,Bb,I2,os,bare,fl,hok,u⟩
    · exact k1 hm s2 h2 ea vs I2 hx
    · exact k2 H2 s2 ea s1 a0 Bb I2 os bare fl hok u
    · exact k3 rfl H2 s2 ea s1 a0 Bb I2 os bare fl hok u
end PL
namespace PL
open PySem PySem.Spec PyProof.Rows L2 Nh
theorem kR:∀{bs:List Bool} {us:List Value},Vals (bs.map .bl) us→us=bs.map Value.bool
  | [],_,h=>by cases h;rfl
  | b::bs,_,h=>by
    cases h with
    | cons r t=>
      have e:=kR t
      cases r
      rw [e]
      rfl
theorem lZ (b:Bool):nJ (.bl true) (.bool b)=b:=by cases b <;> rfl
def s0:V→List V→Hp→VK→Prop:=fun x vs H Q=>∃(l:Addr) (bs:List Bool),x= .ref l∧vs=[.bl true]∧H l=some (.lst (bs.map V.bl))∧Q (.int ((bs.countP id:Nat):Int)) H
def s_:V→List V→Hp→VK→Prop:=fun x vs H Q=>∃(l:Addr) (bs:List Bool),x= .ref l∧vs=[.bl true]∧H l=some (.lst (bs.map V.bl))∧bs.findIdx id < bs.length∧bs.length≤1000∧Q (.int ((bs.findIdx id:Nat):Int)) H
section
variable {X:Cx}
theorem pe:MtR X "list.count" s0:=by
  intro pins s σ H x vs v us Q I rx rv h
  obtain ⟨l,bs,rfl,rfl,hH,q⟩:=h
  cases rx
  obtain ⟨u,rfl,ru⟩:=rv.one
  obtain ⟨z,its,n,r,hl,e⟩:=I.lstM hH
  have ei:=kR r
  refine call_meets F.slot_list_count ⟨_,e,rfl⟩ F.entry_list_count (F.args_list_count_2 _ _) (SeqAt.list_countAt l its.toArray n none #[] u (nJ (.bl true))) ⟨e,fun y hy=>e9 ru rfl r (by simp [List.all_eq_true,dS]) y (by simpa using hy),?_⟩
  refine ⟨.int _,H,I.tok _,⟨_,rfl⟩,?_⟩
  have k:its.toArray.toList.countP (nJ (.bl true))=bs.countP id:=by
    rw [List.toList_toArray,ei,List.countP_map]
    congr 1
    funext b
    exact lZ b
  rw [k]
  exact q
theorem pf:MtR X "list.index" s_:=by
  intro pins s σ H x vs v us Q I rx rv h
  obtain ⟨l,bs,rfl,rfl,hH,hj,hl0,q⟩:=h
  cases rx
  obtain ⟨u,rfl,ru⟩:=rv.one
  obtain ⟨z,its,n,r,hl,e⟩:=I.lstM hH
  have ei:=kR r
  have hlen:its.length=bs.length:=by rw [ei,List.length_map]
  have at_:∀m (hm:m < its.toArray.size),nJ (.bl true) its.toArray[m]=bs[m]'(by simpa [hlen] using hm):=fun m hm=>by
    subst ei
    simp only [List.getElem_toArray,List.getElem_map]
    exact lZ _
  refine call_meets F.slot_list_index ⟨_,e,rfl⟩ F.entry_list_index (F.args_list_index_2 _ _) (SeqAt.list_indexAt l its.toArray n none #[] u (nJ (.bl true)) (bs.findIdx id) (by simpa [hlen] using hj) (by omega) ?_ fun m hm h2=>?_) ⟨e,fun y hy=>e9 ru rfl r (by simp [List.all_eq_true,dS]) y (by simpa using hy),?_⟩
  · rw [at_]
    exact List.findIdx_getElem (w:=hj)
  · rw [at_]
    simpa using List.not_of_lt_findIdx h2
  · exact ⟨.int _,H,I.tok _,⟨_,rfl⟩,q⟩
end
def iE (i:Nat):bP:=fun E=>match E[i]? with
  | some (.ow ds)=>(fJ ds).map fun bs=>(.sh (.int ((bs.countP id:Nat):Int)),E)
  | _=>none
def iF (i:Nat):bP:=fun E=>match E[i]? with
  | some (.ow ds)=>(fJ ds).bind fun bs=>if bs.findIdx id < bs.length∧bs.length≤1000 then some (.sh (.int ((bs.findIdx id:Nat):Int)),E) else none
  | _=>none
section
variable {X:Cx} {x:Str} {p p2 apos cpos:Pos} {j:Nat}
theorem ph (i:Nat) (hN:X.N[i]? =some x:=by rfl) (hv:tT X.env.scope x:=by first | exact Or.inl rfl | exact Or.inr (Or.inl rfl) | exact Or.inr (Or.inr rfl)) (hd:(x == ("__debug__":Str))=false:=by decide) (hcd:(x == ("__classdict__":Str))=false:=by decide)
    (hs:starEach [.Constant (.bool true) j p2] X.env=[(false,eval (.Constant (.bool true) j p2) X.env)]:=by rfl) (hbase:attributeBase (.Name x p) "count" X.env (eval (.Name x p) X.env)=eval (.Name x p) X.env:=by rfl)
    (hfew:((backTo cpos (starEach [.Constant (.bool true) j p2] X.env)).all (fun x=> !x.1)&&(backToKw cpos (keywordEach [] X.env)).all (fun x=>x.1.isSome)
      &&decide (([Expr.Constant (.bool true) j p2]:List Expr).length+([]:List Keyword).length+(if ([]:List Keyword).isEmpty then 0 else 1) < 30))=true:=by rfl) (hline:(apos.endLine == cpos.line)=true:=by rfl):
    EX X (.Call (.Attribute (.Name x p) "count" apos) [.Constant (.bool true) j p2] [] cpos) false (iE i):=by
  refine aW (nK PySem.F.plainAttrs_list PySem.F.slot_list_count PySem.F.type_list_count pe (gN hN hv hd hcd) (bR pE cN hs) hbase hfew hline hs rfl) fun σ H Q z=>?_
  obtain ⟨B,E,xs,Xs,res,E',⟨F,A,fr⟩,cl,e,q⟩:=z
  unfold iE at e
  split at e
  · rename_i ds ei
    obtain ⟨bs,eb,e⟩:=Option.map_eq_some_iff.mp e
    cases e
    obtain ⟨o,A1,eo,l,vs,rfl,rfl,hl0,r⟩:=fr.var ei
    have z:=i_ r eb
    subst z
    exact ⟨_,eo, .inl ⟨rfl,_,SqL.of hl0⟩,l,bs,rfl,rfl,hl0,q _ _ ⟨F,A,fr.push ⟨rfl,_,rfl, .int _⟩⟩⟩
  · cases e
theorem pi (i:Nat) (hN:X.N[i]? =some x:=by rfl) (hv:tT X.env.scope x:=by first | exact Or.inl rfl | exact Or.inr (Or.inl rfl) | exact Or.inr (Or.inr rfl)) (hd:(x == ("__debug__":Str))=false:=by decide) (hcd:(x == ("__classdict__":Str))=false:=by decide)
    (hs:starEach [.Constant (.bool true) j p2] X.env=[(false,eval (.Constant (.bool true) j p2) X.env)]:=by rfl) (hbase:attributeBase (.Name x p) "index" X.env (eval (.Name x p) X.env)=eval (.Name x p) X.env:=by rfl)
    (hfew:((backTo cpos (starEach [.Constant (.bool true) j p2] X.env)).all (fun x=> !x.1)&&(backToKw cpos (keywordEach [] X.env)).all (fun x=>x.1.isSome)
      &&decide (([Expr.Constant (.bool true) j p2]:List Expr).length+([]:List Keyword).length+(if ([]:List Keyword).isEmpty then 0 else 1) < 30))=true:=by rfl) (hline:(apos.endLine == cpos.line)=true:=by rfl):
    EX X (.Call (.Attribute (.Name x p) "index" apos) [.Constant (.bool true) j p2] [] cpos) false (iF i):=by
  refine aW (nK PySem.F.plainAttrs_list PySem.F.slot_list_index PySem.F.type_list_index pf (gN hN hv hd hcd) (bR pE cN hs) hbase hfew hline hs rfl) fun σ H Q z=>?_
  obtain ⟨B,E,xs,Xs,res,E',⟨F,A,fr⟩,cl,e,q⟩:=z
  unfold iF at e
  split at e
  · rename_i ds ei
    obtain ⟨bs,eb,e⟩:=Option.bind_eq_some_iff.mp e
    split at e
    · rename_i hc
      cases e
      obtain ⟨o,A1,eo,l,vs,rfl,rfl,hl0,r⟩:=fr.var ei
      have z:=i_ r eb
      subst z
      exact ⟨_,eo, .inl ⟨rfl,_,SqL.of hl0⟩,l,bs,rfl,rfl,hl0,hc.1,hc.2,q _ _ ⟨F,A,fr.push ⟨rfl,_,rfl, .int _⟩⟩⟩
    · cases e
  · cases e
end
def xi:bP:=fun E=>some (.sh (.dict []),E)
theorem wI {X:Cx} {pos:Pos}:EX X (.Dict [] [] pos) false xi:=by
  refine aW qj fun σ H Q z=>?_
  obtain ⟨B,E,xs,Xs,res,E',⟨F,A,fr⟩,c,e,q⟩:=z
  cases e
  intro p hp
  have fr2:=fr.grow (d4 hp (.dK []))
  exact q _ _ ⟨_,_,fr2.push ⟨rfl,_,rfl, .dct (.inl (by show (if p∈A then none else _)=_;rw [if_neg (fr.newA hp)];exact bg)) .nil⟩⟩
end PL
namespace Nhk51
open PySem L2 Nh PL
def gf:List (Str×Bool):=[("NoNails",false)]
def fv:List (Str×Bool):=[("NoNails",true)]
def gg:List (Str×Bool):=[("NoNails",false)]
def gh:List (Str×Bool):=[("NoNails",false)]
def gi:List (Str×Bool):=[("NoNails",false)]
def gj:List (Str×Bool):=[("NoNails",false)]
def gk:List (Str×Bool):=[("NoNails",false)]
def eS:List (Str×Bool):=[("NoNails",false)]
def fw:List (Str×Bool):=[("NoNails",false)]
def fz:List (Str×Bool):=[("NoNails",false)]
def dJ:List (Str×Bool):=[("NoNails",true)]
def dB:b_:=(aF (jT (di (dc .str) (ad 0)) (jT (ag dW false (cE cF (af false (ad 0) aq)) (pC (.int 1))) (fW (iv .le) (iv .le) false false (pC (.str "a")) (ad 0) (pC (.str "z"))))))
def aE:List PyData→Option Sl:=cq 1 1 dB
def cY:fZ:=(iZ 2 (eO (bA 0) (eO (bA 1) iY)))
def cu:bP:=(db (ar (ad 0) (ar (di iT (ad 1)) bx)))
def eT:b_:=(aF (du [none,none] (ia (ad 0)) cY fS cu))
def b6:List PyData→Option Sl:=cq 1 1 eT
def cb:b_:=(aF (ag bz false (ag bz false (ag bz false (ad 0) (ad 1)) (ak b6 (af false (ad 0) aq))) (ak b6 (af false (ad 1) aq))))
def aM:List PyData→Option Sl:=cq 2 2 cb
def aD:fZ:=(bA 1)
def aN:b_:=(aP (aY (bZ (ak aE (af false (ad 1) aq))))
  kK
  aw)
def gz:b_:=(ay (aP (aY (bZ (di (dc .str) (ad 0))))
  kK
  aw)
  (ay (gW (f_ (ad 0)) aD
  aN)
  (aF (j1 "" (jb (ad 0))))))
def bJ:List PyData→Option Sl:=cq 1 2 gz
def b7:jg:=(m_ (jh (aY (bZ (di (dc .str) (ad 0)))) (cM "NoNails"))
  (lY (aP (aY (bZ (di (dc .str) (ad 0))))
  kK
  aw)
  (sZ (f_ (ad 0)) aD aN (jh (aY (bZ (ak aE (af false (ad 1) aq)))) (cM "NoNails")))))
def aA:List PyData→Option Str:=mz 1 2 b7
def dw:b_:=(aF (ag cH false (ag bz false (ad 0) (pC (.int 1))) (pC (.int 2))))
def bj:List PyData→Option Sl:=cq 1 1 dw
def a_ (self:List PyData→Option Sl):b_:=(ay (aP (ck (ag dW false (cE cF (af false (ad 0) aq)) (pC (.int 1))))
  (aF (b4 (ar (db (ar (ad 0) (ar (pC (.int 1)) bx))) bx)))
  aw)
  (ay (aO 1 (ak bj (af false (cE cF (af false (ad 0) aq)) aq)))
  (aF (ak aM (af false (ak self (af false (gb false (ad 0) dF (dG (ad 1))) aq)) (af false (ak self (af false (gb false (ad 0) (dG (ad 1)) dF) aq)) aq))))))
def bt:Nat→List PyData→Option Sl
  | 0=>fun _=>none
  | k+1=>cq 1 2 (a_ (bt k))
def bT:List PyData→Option Sl:=bt 8
def dy:b_:=(ay (aO 1 (ak bJ (af false (ad 0) aq)))
  (ay (aP (ck (ag dW false (ad 1) (pC (.str ""))))
  kK
  aw)
  (aF (ak bT (af false (ad 1) aq)))))
def bn:List PyData→Option Sl:=cq 1 2 dy
def ce:jg:=(m_ (fq aA (af false (ad 0) aq))
  (lY (aO 1 (ak bJ (af false (ad 0) aq)))
  (jh (ck (ag dW false (ad 1) (pC (.str "")))) (cM "NoNails"))))
def ap:List PyData→Option Str:=mz 1 2 ce
def gA:b_:=(ay (aP (ck (ag (da (iv .lt)) false (ad 1) (cE cF (af false (ad 0) aq))))
  (aF (ag fY false (ad 0) (ad 1)))
  aw)
  (aF (pC (.int 0))))
def bB:List PyData→Option Sl:=cq 2 2 gA
def fL:b_:=(ay (aO 2 (ag fg false (ag bz false (ag bz false (ag iS false (ag fg false (ad 0) (ag u0 false (pC (.int 10)) (pC (.int 40)))) (ag bz false (pC (.int 62089911)) (ag iS false (pC (.int 2)) (ad 1)))) (ag iS false (pC (.int 982451653)) (ad 1))) (pC (.int 17))) (pC (.int 4294967291))))
  (aF (ag fg false (ag iS false (ad 2) (ag bz false (ag bz false (ag cH false (ad 2) (pC (.int 1024))) (ag iS false (pC (.int 2)) (ad 1))) (pC (.int 1)))) (pC (.int 4294967279)))))
def cy:List PyData→Option Sl:=cq 2 3 fL
def bY:fZ:=(iZ 2 (eO (bA 0) (eO (bA 1) iY)))
def bE:bP:=(db (ar (ad 0) (ar (ag kA false (pC (.int 0)) (ad 1)) bx)))
def cK:b_:=(aF (du [none,none] (ia (ad 0)) bY fS bE))
def aI:List PyData→Option Sl:=cq 1 1 cK
def bG:fZ:=(iZ 2 (eO (bA 2) (eO (bA 3) iY)))
def aR:b_:=(ay (aP (h9 (ck (ag fQ false (ad 1) (b4 bx))) (ck (ag dW false (ag fY false (ag fY false (ad 1) (di iT (pC (.int 1)))) (pC (.int 0))) (ad 2))))
  (aO 3 (ag bz true (ad 3) (ag fY false (kC 1) (pC (.int 1)))))
  aw)
  (aP (ck (ag fQ false (ad 3) (pC (.int 0))))
  (dX (cw 1 (db (ar (ad 2) (ar (ad 3) bx)))))
  aw))
def cZ:fZ:=(bA 0)
def c0:bP:=(ad 0)
def eU:b_:=(ay (aO 1 (b4 bx))
  (ay (gW (ia (ad 0)) bG
  aR)
  (aF (du [none] (ia (ad 1)) cZ fS c0))))
def bo:List PyData→Option Sl:=cq 1 4 eU
def bK:fZ:=(bA 1)
def bL:b_:=(ay (aP (fM (aY (bZ (di (dc .tuple) (ad 1)))) (fM (ck (ag fQ false (cE cF (af false (ad 1) aq)) (pC (.int 2)))) (aY (bZ (di (dc .str) (ag fY false (ad 1) (pC (.int 0))))))))
  (aF (pC (.bool false)))
  aw)
  (aP (fM (aY (bZ (di (dc .int) (ag fY false (ad 1) (pC (.int 1)))))) (bZ (di (dc .bool) (ag fY false (ad 1) (pC (.int 1))))))
  (aF (pC (.bool false)))
  aw))
def c_:b_:=(ay (aP (aY (bZ (di (dc .list) (ad 0))))
  (aF (pC (.bool false)))
  aw)
  (ay (gW (f_ (ad 0)) bK
  bL)
  (aF (pC (.bool true)))))
def ba:List PyData→Option Sl:=cq 1 2 c_
def eV:b_:=(ay (aO 1 (b4 (ar (di (ft gf) (ad 0)) (ar (di (ft fv) (ad 0)) (ar (di (ft gg) (ad 0)) (ar (di (ft gh) (ad 0)) bx))))))
  (ay (aO 1 (ag bz false (ad 1) (b4 (ar (di (ft gi) (ad 0)) (ar (di (ft gj) (ad 0)) (ar (di (ft gk) (ad 0)) bx))))))
  (ay (aO 1 (ag bz false (ad 1) (b4 (ar (di (ft eS) (ad 0)) (ar (di (ft fw) (ad 0)) (ar (di (ft fz) (ad 0)) bx))))))
  (ay (aP (fM (aY (bZ (di (ft dJ) (ad 0)))) (ck (ag fQ false (iE 1) (pC (.int 1)))))
  (aF (pC (.str "other")))
  aw)
  (ay (aO 2 (b4 (ar (pC (.str "cord")) (ar (pC (.str "nails")) (ar (pC (.str "rule")) (ar (pC (.str "text")) (ar (pC (.str "move")) (ar (pC (.str "line")) (ar (pC (.str "name")) (ar (pC (.str "number")) (ar (pC (.str "many")) (ar (pC (.str "long")) bx))))))))))))
  (aF (ag fY false (ad 2) (iF 1))))))))
def cD:List PyData→Option Sl:=cq 1 3 eV
def b8 (self:List PyData→Option Sl):b_:=(ay (aP (ck (ag dW false (ad 0) (pC (.int 1))))
  (aF (pC (.int 1)))
  aw)
  (aF (ag iS false (pC (.int 2)) (ag bz false (ak self (af false (ag kA false (ad 0) (ag cH false (ad 0) (pC (.int 2)))) aq)) (ak self (af false (ag cH false (ad 0) (pC (.int 2))) aq))))))
def cf:Nat→List PyData→Option Sl
  | 0=>fun _=>none
  | k+1=>cq 1 1 (b8 (cf k))
def dg:List PyData→Option Sl:=cf 8
def b9 (self:List PyData→Option Sl):b_:=(ay (aP (ck (ag dW false (cE cF (af false (ad 0) aq)) (pC (.int 1))))
  (aF (b4 (ar (db (ar (ad 0) (ar (pC (.int 1)) bx))) bx)))
  aw)
  (ay (aO 1 (ag kA false (cE cF (af false (ad 0) aq)) (ag cH false (cE cF (af false (ad 0) aq)) (pC (.int 2)))))
  (ay (aO 2 (ak self (af false (gb false (ad 0) dF (dG (ad 1))) aq)))
  (ay (aO 3 (ak self (af false (gb false (ad 0) (dG (ad 1)) dF) aq)))
  (aF (ag bz false (ag bz false (ag bz false (ad 2) (ad 3)) (ak aI (af false (ad 2) aq))) (ak aI (af false (ad 3) aq))))))))
def cg:Nat→List PyData→Option Sl
  | 0=>fun _=>none
  | k+1=>cq 1 4 (b9 (cg k))
def dh:List PyData→Option Sl:=cg 8
def bc:fZ:=(bA 3)
def be:b_:=(aP (ck (ag dW false (ag sK false (ag sJ false (ad 1) (ad 3)) (pC (.int 1))) (pC (.int 1))))
  (ay (aO 4 (ag fY false (pC (.str "abcdefghijklmnopqrstuvwxyz")) (ad 3)))
  (aO 2 (ag fY false (b4 (ar (ag bz false (ad 4) (ad 2)) (ar (ag bz false (ad 2) (ad 4)) (ar (ag bz false (ag bz false (ad 4) (ad 2)) (ad 4)) bx)))) (ag fg false (ak cy (af false (ak bB (af false (ad 0) (af false (pC (.int 1)) aq))) (af false (ad 3) aq))) (pC (.int 3))))))
  aw)
def dz:b_:=(ay (aO 1 (ak bB (af false (ad 0) (af false (pC (.int 0)) aq))))
  (ay (aO 2 (pC (.str "")))
  (ay (gW (mS (af false (pC (.int 26)) aq)) bc
  be)
  (aF (ad 2)))))
def bp:List PyData→Option Sl:=cq 1 5 dz
def dL:b_:=(ay (aO 1 (b4 bx))
  (ay (qT ["NoNails"] 2 (fq ap (af false (ad 0) aq)) (aO 1 (ak bn (af false (ad 0) aq))) (aF (ak cD (af false (ad 2) aq))))
  (aF (ad 1))))
def ax:List PyData→Option Sl:=cq 1 3 dL
def cR:b_:=(ay (aO 2 (ag fg false (ag cH false (ad 1) (pC (.int 5))) (ag bz false (cE cF (af false (ad 0) aq)) (pC (.int 1)))))
  (ay (aP (ck (ag dW false (ag fg false (ad 1) (pC (.int 5))) (pC (.int 0))))
  (aF (ag fY false (b4 (ar (pC .none) (ar (pC (.int 3)) (ar (pC (.bool true)) (ar (b4 (ar (pC (.str "a")) bx)) (ar (db (ar (pC (.str "a")) bx)) (ar xi bx))))))) (ag fg false (ag cH false (ad 1) (pC (.int 5))) (pC (.int 6)))))
  aw)
  (ay (aP (ck (ag dW false (ag fg false (ad 1) (pC (.int 5))) (pC (.int 1))))
  (aF (pC (.str "")))
  aw)
  (aF (ag bz false (ag bz false (gb false (ad 0) dF (dG (ad 2))) (ag fY false (pC (.str " AZ1-_.~")) (ag fg false (ag cH false (ad 1) (pC (.int 260))) (pC (.int 8))))) (gb false (ad 0) (dG (ad 2)) dF))))))
def aV:List PyData→Option Sl:=cq 2 3 cR
def eD:fZ:=(bA 0)
def eF:bP:=(ad 0)
def dM:hW:=(ck (ag (xW false) false (ad 0) (ad 1)))
def gB:fZ:=(bA 0)
def gC:bP:=(ad 0)
def fA:hW:=(ck (ag fQ false (ag fY false (ad 0) (pC (.int 0))) (ad 1)))
def eG:fZ:=(bA 4)
def eI:b_:=(aP (ck (ag fQ false (ak bo (af false (du [none,some 4] (qw (ad 3)) gB fA gC) aq)) (b4 bx)))
  (aF (pC (.bool false)))
  aw)
def l0:b_:=(ay (aO 1 (ak bp (af false (ad 0) aq)))
  (ay (aO 2 (j1 "" (du [none,some 1] (f_ (pC (.str "abcdefghijklmnopqrstuvwxyz"))) eD dM eF)))
  (ay (aP (fM (ck (ag fQ false (ak ax (af false (ak aV (af false (ad 1) (af false (ak bB (af false (ad 0) (af false (pC (.int 2)) aq))) aq))) aq)) (pC (.str "nails")))) (ck (ag fQ false (ak ax (af false (pC (.str "")) aq)) (pC (.str "nails")))))
  (aF (pC (.bool false)))
  aw)
  (ay (aP (ck (ag dW false (ad 2) (pC (.str ""))))
  (ay (aO 2 (pC (.str "k")))
  (aO 1 (pC (.str "kk"))))
  aw)
  (ay (aO 3 (ak ax (af false (ad 1) aq)))
  (ay (aP (fM (aY (bZ (ak ba (af false (ad 3) aq)))) (fM (ck (ag fQ false (ad 3) (ak dh (af false (ad 2) aq)))) (ck (ag fQ false (cE cF (af false (ad 3) aq)) (ak dg (af false (cE cF (af false (ad 2) aq)) aq))))))
  (aF (pC (.bool false)))
  aw)
  (ay (aP (ck (ag fQ false (ak bo (af false (ad 3) aq)) (ad 3)))
  (aF (pC (.bool false)))
  aw)
  (ay (gW (f_ (ad 2)) eG
  eI)
  (ay (aO 5 (kB (ad 3)))
  (ay (dX (cw 3 (db (ar (pC (.str "a")) (ar (pC (.int 0)) bx)))))
  (ay (dX (fo 3))
  (aF (ag dW false (ak ax (af false (ad 2) aq)) (ad 5))))))))))))))
def gl:List PyData→Option Sl:=cq 1 6 l0
end Nhk51
namespace Nhk51
open PySem L2 Nh PL
def kS (i:Nat):Stmt:=PySem.Challenge.pw_nailhang_k51_round_and_back.main.body.getD i (.Pass ⟨0,0,0,0⟩)
structure XF (K:PySem.W.Frag) (mg:Str→Option Value):Prop where
  c_NoCord:∃C,mg "NoCord"=some (.ref C)∧XT K (.ref C) gf
  c_NoNails:∃C,mg "NoNails"=some (.ref C)∧XT K (.ref C) fv∧XC K mg "NoNails" C
  c_NoRule:∃C,mg "NoRule"=some (.ref C)∧XT K (.ref C) gg
  c_NoText:∃C,mg "NoText"=some (.ref C)∧XT K (.ref C) gh
  c_NoMove:∃C,mg "NoMove"=some (.ref C)∧XT K (.ref C) gi
  c_NoLine:∃C,mg "NoLine"=some (.ref C)∧XT K (.ref C) gj
  c_NoName:∃C,mg "NoName"=some (.ref C)∧XT K (.ref C) gk
  c_NoNumber:∃C,mg "NoNumber"=some (.ref C)∧XT K (.ref C) eS
  c_TooMany:∃C,mg "TooMany"=some (.ref C)∧XT K (.ref C) fw
  c_TooLong:∃C,mg "TooLong"=some (.ref C)∧XT K (.ref C) fz
  v_ValueError:mg "ValueError"=none∧XT K (.type "ValueError") dJ
  e_HangError:∃C,mg "HangError"=some (.ref C)∧∀n∈[("NoNails":Str)],∀D,PySem.W.nsIn K mainGlobals n=some (some (.ref D))→PySem.W.exmOne K (.ref D) (.ref C)=some true
section
variable {P:Program} {w:World} {K:PySem.W.Frag} {mg:Str→Option Value} {base:Heap}
abbrev dC:Stmt:=kS 13
theorem nh:FnScope ["thing"] ["thing"] (ae dC):=⟨rfl,rfl,rfl,by decide+kernel,rfl,by decide+kernel,by decide+kernel⟩
theorem ni (D:Def K mg "is_nail" dC ["thing"]) (B:Bn mg):Own P w K mg base 1 "is_nail" ["thing"] (cC K aE):=by
  delta aE
  refine fj (g:=dB) D nh rfl rfl (by decide) fun f cdv A outer s H E hr=>?_
  delta dB
  exact (aj (aK (qh (eN .str (by rfl) (by exact B.isinstance) (aa 0) (by rfl) (by exact B.str) PyProof.Rows.boot_str) (qh (t7 hr.units (dH (by rfl) (by exact B.len) (ah (aa 0) au)) ao) (u5 (wC .le .le aT (aa 0) aT))))))
abbrev cS:Stmt:=kS 14
theorem l_:FnScope ["cord"] ["cord"] (ae cS):=⟨rfl,rfl,rfl,by decide+kernel,rfl,by decide+kernel,by decide+kernel⟩
theorem ma (D:Def K mg "contrary" cS ["cord"]) (B:Bn mg):Own P w K mg base 1 "contrary" ["cord"] (cC K b6):=by
  delta b6
  refine fj (g:=eT) D l_ rfl rfl (by decide) fun f cdv A outer s H E hr=>?_
  delta eT
  exact (aj (aK (i4 (N:=["nail","turns"]) (js:=[none,none]) fU (by rfl) (kH (by rfl) (by exact B.reversed) (aa 0)) (fun _ _ _ _=>(by delta cY;exact (mR (by rfl) (d_ (bX 0 (show (["nail","turns"]:List Str).Nodup by decide+kernel)) (d_ (bX 1 (show (["nail","turns"]:List Str).Nodup by decide+kernel)) kE))))) (fun _ _ _ _=>(by delta cu;exact (fX (am (aa 0) (am (qc (aa 1)) bI))))))))
abbrev bu:Stmt:=kS 15
theorem gD:FnScope ["one","other"] ["one","other"] (ae bu):=⟨rfl,rfl,rfl,by decide+kernel,rfl,by decide+kernel,by decide+kernel⟩
theorem gE (D:Def K mg "there_and_back" bu ["one","other"]) (B:Bn mg) (D_contrary:Own P w K mg base 1 "contrary" ["cord"] (cC K b6)):Own P w K mg base 2 "there_and_back" ["one","other"] (cC K aM):=by
  delta aM
  refine fj (g:=cb) D gD rfl rfl (by decide) fun f cdv A outer s H E hr=>?_
  delta cb
  exact (aj (aK (bv (bv (bv (aa 0) (aa 1)) (aJ D_contrary (hr.mono (by decide)) (by rfl) (ah (aa 0) au))) (aJ D_contrary (hr.mono (by decide)) (by rfl) (ah (aa 1) au)))))
abbrev dN:Stmt:=kS 17
theorem sc_set_of:FnScope ["nails","sign"] ["nails"] (ae dN):=⟨rfl,rfl,rfl,by decide+kernel,rfl,by decide+kernel,by decide+kernel⟩
theorem pj (D:Def K mg "set_of" dN ["nails"]) (B:Bn mg) (D_is_nail:Own P w K mg base 1 "is_nail" ["thing"] (cC K aE)) (XX:XF K mg):Own P w K mg base 2 "set_of" ["nails"] (cC K bJ):=by
  obtain ⟨C_NoNails,m_NoNails,t_NoNails,z_NoNails⟩:=XX.c_NoNails
  delta bJ
  refine fj (g:=gz) D sc_set_of rfl rfl (by decide) fun f cdv A outer s H E hr=>?_
  delta gz
  exact (ai (b5 (dm (cO (eN .str (by rfl) (by exact B.isinstance) (aa 0) (by rfl) (by exact B.str) PyProof.Rows.boot_str)))
  (aj fm)
  aU)
  (ai (i0 PassesOwn.never (by rfl) (i6 (aa 0)) (by delta aD;exact (bX 1 sc_set_of.nd))
  (by delta aN;exact (aj (b5 (dm (cO (aJ D_is_nail (hr.mono (by decide)) (by rfl) (ah (aa 1) au))))
  (aj fm)
  aU))))
  (aj (aK (nZ (m7 rfl (by rfl) (by exact B.sorted) (by rfl) (by exact B.set) (aa 0)))))))
theorem nj (D:Def K mg "set_of" dN ["nails"]) (B:Bn mg) (D_is_nail:Own P w K mg base 1 "is_nail" ["thing"] (cC K aE)) (XX:XF K mg):OwnR P w K mg base 2 "set_of" ["nails"] (ub K aA):=by
  obtain ⟨C_NoNails,m_NoNails,t_NoNails,z_NoNails⟩:=XX.c_NoNails
  delta aA
  refine wH (mk:=true) (al:=true) (r:=b7) D sc_set_of rfl rfl (by decide) fun f cdv A outer s H E hr=>?_
  delta b7
  exact (ua (dv (qP (dm (cO (eN .str (by rfl) (by exact B.isinstance) (aa 0) (by rfl) (by exact B.str) PyProof.Rows.boot_str))) (dv (ji (by rfl) (by rfl) z_NoNails))))
  (qO (b5 (dm (cO (eN .str (by rfl) (by exact B.isinstance) (aa 0) (by rfl) (by exact B.str) PyProof.Rows.boot_str)))
  (aj fm)
  aU)
  (dv (vv rfl rfl (by rfl) (fun W=>(i6 (aa 0))) (fun W=>by delta aD;exact (bX 1 sc_set_of.nd)) (by delta aN;exact (aj (b5 (dm (cO (aJ D_is_nail (hr.mono (by decide)) (by rfl) (ah (aa 1) au))))
  (aj fm)
  aU))) (fun W=>(dv (qP (dm (cO (aJ D_is_nail (hr.mono (by decide)) (by rfl) (ah (aa 1) au)))) (dv (ji (by rfl) (by rfl) z_NoNails)))))))))
abbrev ci:Stmt:=kS 19
theorem jC:FnScope ["number"] ["number"] (ae ci):=⟨rfl,rfl,rfl,by decide+kernel,rfl,by decide+kernel,by decide+kernel⟩
theorem jD (D:Def K mg "first_half" ci ["number"]) (B:Bn mg):Own P w K mg base 1 "first_half" ["number"] (cC K bj):=by
  delta bj
  refine fj (g:=dw) D jC rfl rfl (by decide) fun f cdv A outer s H E hr=>?_
  delta dw
  exact (aj (aK (dU (bv (aa 0) ao) ao)))
abbrev bw:Stmt:=kS 20
theorem sc_halves_round:FnScope ["nails","middle"] ["nails"] (ae bw):=⟨rfl,rfl,rfl,by decide+kernel,rfl,by decide+kernel,by decide+kernel⟩
theorem eJ (D:Def K mg "halves_round" bw ["nails"]) (B:Bn mg) (D_first_half:Own P w K mg base 1 "first_half" ["number"] (cC K bj)) (D_there_and_back:Own P w K mg base 2 "there_and_back" ["one","other"] (cC K aM)):∀k:Nat,Own P w K mg base (2+k+1) "halves_round" ["nails"] (cC K (bt k))
  | 0=>i9 D sc_halves_round
  | k+1=>by
    have D_halves_round:=eJ D B D_first_half D_there_and_back k
    show Own P w K mg base (2+k+1+1) "halves_round" ["nails"] (cC K (cq 1 2 (a_ (bt k))))
    generalize bt k=self at D_halves_round ⊢
    refine fj (k:=2+k+1) (g:=a_ self) D sc_halves_round rfl rfl (by decide) fun f cdv A outer s H E hr=>?_
    delta a_
    exact (ai (b5 (fR hr.units (dH (by rfl) (by exact B.len) (ah (aa 0) au)) ao)
  (aj (aK (cP (am (fX (am (aa 0) (am ao bI))) bI))))
  aU)
  (ai (aZ 1 sc_halves_round.nd (aJ D_first_half (hr.mono (by omega)) (by rfl) (ah (dH (by rfl) (by exact B.len) (ah (aa 0) au)) au)))
  (aj (aK (aJ D_there_and_back (hr.mono (by omega)) (by rfl) (ah (aJ D_halves_round hr (by rfl) (ah (gZ (aa 0) fH (fI (aa 1))) au)) (ah (aJ D_halves_round hr (by rfl) (ah (gZ (aa 0) (fI (aa 1)) fH) au)) au)))))))
theorem ix (D:Def K mg "halves_round" bw ["nails"]) (B:Bn mg) (D_first_half:Own P w K mg base 1 "first_half" ["number"] (cC K bj)) (D_there_and_back:Own P w K mg base 2 "there_and_back" ["one","other"] (cC K aM)):Own P w K mg base 11 "halves_round" ["nails"] (cC K bT):=eJ D B D_first_half D_there_and_back 8
abbrev bS:Stmt:=kS 21
theorem sc_round_back:FnScope ["nails","told"] ["nails"] (ae bS):=⟨rfl,rfl,rfl,by decide+kernel,rfl,by decide+kernel,by decide+kernel⟩
theorem jE (D:Def K mg "round_back" bS ["nails"]) (B:Bn mg) (D_set_of:Own P w K mg base 2 "set_of" ["nails"] (cC K bJ)) (D_halves_round:Own P w K mg base 11 "halves_round" ["nails"] (cC K bT)) (R_set_of:OwnR P w K mg base 2 "set_of" ["nails"] (ub K aA)) (XX:XF K mg):Own P w K mg base 12 "round_back" ["nails"] (cC K bn):=by
  obtain ⟨C_NoNails,m_NoNails,t_NoNails,z_NoNails⟩:=XX.c_NoNails
  delta bn
  refine fj (g:=dy) D sc_round_back rfl rfl (by decide) fun f cdv A outer s H E hr=>?_
  delta dy
  exact (ai (aZ 1 sc_round_back.nd (aJ D_set_of (hr.mono (by decide)) (by rfl) (ah (aa 0) au)))
  (ai (b5 (fR hr.units (aa 1) aT)
  (aj fm)
  aU)
  (aj (aK (aJ D_halves_round (hr.mono (by decide)) (by rfl) (ah (aa 1) au))))))
theorem jj (D:Def K mg "round_back" bS ["nails"]) (B:Bn mg) (D_set_of:Own P w K mg base 2 "set_of" ["nails"] (cC K bJ)) (D_halves_round:Own P w K mg base 11 "halves_round" ["nails"] (cC K bT)) (R_set_of:OwnR P w K mg base 2 "set_of" ["nails"] (ub K aA)) (XX:XF K mg):OwnR P w K mg base 12 "round_back" ["nails"] (ub K ap):=by
  obtain ⟨C_NoNails,m_NoNails,t_NoNails,z_NoNails⟩:=XX.c_NoNails
  delta ap
  refine wH (mk:=true) (al:=true) (r:=ce) D sc_round_back rfl rfl (by decide) fun f cdv A outer s H E hr=>?_
  delta ce
  exact (ua (dv (qQ R_set_of (hr.mono (by decide)) (by rfl) (ah (aa 0) au)))
  (qO (aZ 1 sc_round_back.nd (aJ D_set_of (hr.mono (by decide)) (by rfl) (ah (aa 0) au)))
  (dv (qP (fR hr.units (aa 1) aT) (dv (ji (by rfl) (by rfl) z_NoNails))))))
abbrev eK:Stmt:=kS 23
theorem pk:FnScope ["_law_script","_law_k"] ["_law_script","_law_k"] (ae eK):=⟨rfl,rfl,rfl,by decide+kernel,rfl,by decide+kernel,by decide+kernel⟩
theorem pq (D:Def K mg "_law_at" eK ["_law_script","_law_k"]) (B:Bn mg):Own P w K mg base 1 "_law_at" ["_law_script","_law_k"] (cC K bB):=by
  delta bB
  refine fj (g:=gA) D pk rfl rfl (by decide) fun f cdv A outer s H E hr=>?_
  delta gA
  exact (ai (b5 (wB .lt (aa 1) (dH (by rfl) (by exact B.len) (ah (aa 0) au)))
  (aj (aK (d9 (aa 0) (aa 1))))
  aU)
  (aj (aK ao)))
abbrev dD:Stmt:=kS 24
theorem sc_law_mix:FnScope ["_law_cell","_law_k","_law_one"] ["_law_cell","_law_k"] (ae dD):=⟨rfl,rfl,rfl,by decide+kernel,rfl,by decide+kernel,by decide+kernel⟩
theorem nk (D:Def K mg "_law_mix" dD ["_law_cell","_law_k"]) (B:Bn mg):Own P w K mg base 1 "_law_mix" ["_law_cell","_law_k"] (cC K cy):=by
  delta cy
  refine fj (g:=fL) D sc_law_mix rfl rfl (by decide) fun f cdv A outer s H E hr=>?_
  delta fL
  exact (ai (aZ 2 sc_law_mix.nd (eM (bv (bv (gV (eM (aa 0) (u3 ao ao)) (bv ao (gV ao (aa 1)))) (gV ao (aa 1))) ao) ao))
  (aj (aK (eM (gV (aa 2) (bv (bv (dU (aa 2) ao) (gV ao (aa 1))) ao)) ao))))
abbrev bM:Stmt:=kS 25
theorem iy:FnScope ["_law_cord"] ["_law_cord"] (ae bM):=⟨rfl,rfl,rfl,by decide+kernel,rfl,by decide+kernel,by decide+kernel⟩
theorem iz (D:Def K mg "_law_contrary" bM ["_law_cord"]) (B:Bn mg):Own P w K mg base 1 "_law_contrary" ["_law_cord"] (cC K aI):=by
  delta aI
  refine fj (g:=cK) D iy rfl rfl (by decide) fun f cdv A outer s H E hr=>?_
  delta cK
  exact (aj (aK (i4 (N:=["_law_nail","_law_turns"]) (js:=[none,none]) fU (by rfl) (kH (by rfl) (by exact B.reversed) (aa 0)) (fun _ _ _ _=>(by delta bY;exact (mR (by rfl) (d_ (bX 0 (show (["_law_nail","_law_turns"]:List Str).Nodup by decide+kernel)) (d_ (bX 1 (show (["_law_nail","_law_turns"]:List Str).Nodup by decide+kernel)) kE))))) (fun _ _ _ _=>(by delta bE;exact (fX (am (aa 0) (am (mQ ao (aa 1)) bI))))))))
abbrev cT:Stmt:=kS 26
theorem sc_law_runs:FnScope ["_law_cord","_law_runs_here","_law_nail","_law_turns"] ["_law_cord"] (ae cT):=⟨rfl,rfl,rfl,by decide+kernel,rfl,by decide+kernel,by decide+kernel⟩
theorem md (D:Def K mg "_law_runs" cT ["_law_cord"]) (B:Bn mg):Own P w K mg base 1 "_law_runs" ["_law_cord"] (cC K bo):=by
  delta bo
  refine fj (g:=eU) D sc_law_runs rfl rfl (by decide) fun f cdv A outer s H E hr=>?_
  delta eU
  exact (ai (aZ 1 sc_law_runs.nd (cP bI))
  (ai (i0 PassesOwn.never (by rfl) (kH (by rfl) (by exact B.reversed) (aa 0)) (by delta bG;exact (mR (by rfl) (d_ (bX 2 sc_law_runs.nd) (d_ (bX 3 sc_law_runs.nd) kE))))
  (by delta aR;exact (ai (b5 (oM (u6 (fi hr.units (aa 1) (cP bI)) (sC (fR hr.units (d9 (d9 (aa 1) (qc ao)) ao) (aa 2)))))
  (aj (aZ 3 sc_law_runs.nd (bv (aa 3) (d9 (ve 1) ao))))
  aU)
  (aj (b5 (fi hr.units (aa 3) ao)
  (aj (kD (jU 1 (fX (am (aa 2) (am (aa 3) bI))))))
  aU)))))
  (aj (aK (i4 (N:=["_law_run"]) (js:=[none]) fU (by rfl) (kH (by rfl) (by exact B.reversed) (aa 1)) (fun _ _ _ _=>(by delta cZ;exact (bX 0 (show (["_law_run"]:List Str).Nodup by decide+kernel)))) (fun _ _ _ _=>(by delta c0;exact (aa 0))))))))
abbrev bU:Stmt:=kS 27
theorem sc_law_is_cord:FnScope ["_law_found","_law_piece"] ["_law_found"] (ae bU):=⟨rfl,rfl,rfl,by decide+kernel,rfl,by decide+kernel,by decide+kernel⟩
theorem jk (D:Def K mg "_law_is_cord" bU ["_law_found"]) (B:Bn mg):Own P w K mg base 1 "_law_is_cord" ["_law_found"] (cC K ba):=by
  delta ba
  refine fj (g:=c_) D sc_law_is_cord rfl rfl (by decide) fun f cdv A outer s H E hr=>?_
  delta c_
  exact (ai (b5 (dm (cO (eN .list (by rfl) (by exact B.isinstance) (aa 0) (by rfl) (by exact B.list) PyProof.Rows.boot_list)))
  (aj (aK gs))
  aU)
  (ai (i0 PassesOwn.never (by rfl) (i6 (aa 0)) (by delta bK;exact (bX 1 sc_law_is_cord.nd))
  (by delta bL;exact (ai (b5 (oM (iV (dm (cO (eN .tuple (by rfl) (by exact B.isinstance) (aa 1) (by rfl) (by exact B.tuple) PyProof.Rows.boot_tuple))) (iV (fi hr.units (dH (by rfl) (by exact B.len) (ah (aa 1) au)) ao) (iU (dm (cO (eN .str (by rfl) (by exact B.isinstance) (d9 (aa 1) ao) (by rfl) (by exact B.str) PyProof.Rows.boot_str)))))))
  (aj (aK gs))
  aU)
  (aj (b5 (oM (iV (dm (cO (eN .int (by rfl) (by exact B.isinstance) (d9 (aa 1) ao) (by rfl) (by exact B.int) PyProof.Rows.boot_int))) (iU (cO (eN .bool (by rfl) (by exact B.isinstance) (d9 (aa 1) ao) (by rfl) (by exact B.bool) PyProof.Rows.boot_bool)))))
  (aj (aK gs))
  aU)))))
  (aj (aK gs))))
abbrev cU:Stmt:=kS 28
theorem sc_law_word:FnScope ["_law_e","_law_kinds","_law_words"] ["_law_e"] (ae cU):=⟨rfl,rfl,rfl,by decide+kernel,rfl,by decide+kernel,by decide+kernel⟩
theorem me (D:Def K mg "_law_word" cU ["_law_e"]) (B:Bn mg) (XX:XF K mg):OwnH P w K mg base 1 "_law_word" ["_law_e"] (cC K cD):=by
  obtain ⟨C_NoCord,m_NoCord,t_NoCord⟩:=XX.c_NoCord
  obtain ⟨C_NoNails,m_NoNails,t_NoNails,z_NoNails⟩:=XX.c_NoNails
  obtain ⟨C_NoRule,m_NoRule,t_NoRule⟩:=XX.c_NoRule
  obtain ⟨C_NoText,m_NoText,t_NoText⟩:=XX.c_NoText
  obtain ⟨C_NoMove,m_NoMove,t_NoMove⟩:=XX.c_NoMove
  obtain ⟨C_NoLine,m_NoLine,t_NoLine⟩:=XX.c_NoLine
  obtain ⟨C_NoName,m_NoName,t_NoName⟩:=XX.c_NoName
  obtain ⟨C_NoNumber,m_NoNumber,t_NoNumber⟩:=XX.c_NoNumber
  obtain ⟨C_TooMany,m_TooMany,t_TooMany⟩:=XX.c_TooMany
  obtain ⟨C_TooLong,m_TooLong,t_TooLong⟩:=XX.c_TooLong
  obtain ⟨v_ValueError,t_ValueError⟩:=XX.v_ValueError
  delta cD
  refine xY (g:=eV) D sc_law_word rfl rfl (by decide) fun f cdv A outer s H E hr=>?_
  delta eV
  exact (ai (aZ 1 sc_law_word.nd (cP (am (cX (by rfl) (by exact B.isinstance) (aa 0) (by rfl) (by exact m_NoCord) t_NoCord) (am (cX (by rfl) (by exact B.isinstance) (aa 0) (by rfl) (by exact m_NoNails) t_NoNails) (am (cX (by rfl) (by exact B.isinstance) (aa 0) (by rfl) (by exact m_NoRule) t_NoRule) (am (cX (by rfl) (by exact B.isinstance) (aa 0) (by rfl) (by exact m_NoText) t_NoText) bI))))))
  (ai (aZ 1 sc_law_word.nd (bv (aa 1) (cP (am (cX (by rfl) (by exact B.isinstance) (aa 0) (by rfl) (by exact m_NoMove) t_NoMove) (am (cX (by rfl) (by exact B.isinstance) (aa 0) (by rfl) (by exact m_NoLine) t_NoLine) (am (cX (by rfl) (by exact B.isinstance) (aa 0) (by rfl) (by exact m_NoName) t_NoName) bI))))))
  (ai (aZ 1 sc_law_word.nd (bv (aa 1) (cP (am (cX (by rfl) (by exact B.isinstance) (aa 0) (by rfl) (by exact m_NoNumber) t_NoNumber) (am (cX (by rfl) (by exact B.isinstance) (aa 0) (by rfl) (by exact m_TooMany) t_TooMany) (am (cX (by rfl) (by exact B.isinstance) (aa 0) (by rfl) (by exact m_TooLong) t_TooLong) bI))))))
  (ai (b5 (oM (iV (dm (cO (sX (by rfl) (by exact B.isinstance) (aa 0) (by rfl) (by exact v_ValueError) PyProof.Rows.Boot.«ValueError» t_ValueError))) (iU (fi hr.units (ph 1) ao))))
  (aj (aK aT))
  aU)
  (ai (aZ 2 sc_law_word.nd (cP (am aT (am aT (am aT (am aT (am aT (am aT (am aT (am aT (am aT (am aT bI))))))))))))
  (aj (aK (d9 (aa 2) (pi 1)))))))))
abbrev cz:Stmt:=kS 29
theorem ii:FnScope ["_law_many"] ["_law_many"] (ae cz):=⟨rfl,rfl,rfl,by decide+kernel,rfl,by decide+kernel,by decide+kernel⟩
theorem gG (D:Def K mg "_law_size" cz ["_law_many"]) (B:Bn mg):∀k:Nat,Own P w K mg base (0+k+1) "_law_size" ["_law_many"] (cC K (cf k))
  | 0=>i9 D ii
  | k+1=>by
    have D_law_size:=gG D B  k
    show Own P w K mg base (0+k+1+1) "_law_size" ["_law_many"] (cC K (cq 1 1 (b8 (cf k))))
    generalize cf k=self at D_law_size ⊢
    refine fj (k:=0+k+1) (g:=b8 self) D ii rfl rfl (by decide) fun f cdv A outer s H E hr=>?_
    delta b8
    exact (ai (b5 (fR hr.units (aa 0) ao)
  (aj (aK ao))
  aU)
  (aj (aK (gV ao (bv (aJ D_law_size hr (by rfl) (ah (mQ (aa 0) (dU (aa 0) ao)) au)) (aJ D_law_size hr (by rfl) (ah (dU (aa 0) ao) au)))))))
theorem mf (D:Def K mg "_law_size" cz ["_law_many"]) (B:Bn mg):Own P w K mg base 9 "_law_size" ["_law_many"] (cC K dg):=gG D B  8
abbrev cA:Stmt:=kS 30
theorem sc_law_plan:FnScope ["_law_nails","_law_half","_law_one","_law_other"] ["_law_nails"] (ae cA):=⟨rfl,rfl,rfl,by decide+kernel,rfl,by decide+kernel,by decide+kernel⟩
theorem gH (D:Def K mg "_law_plan" cA ["_law_nails"]) (B:Bn mg) (D_law_contrary:Own P w K mg base 1 "_law_contrary" ["_law_cord"] (cC K aI)):∀k:Nat,Own P w K mg base (1+k+1) "_law_plan" ["_law_nails"] (cC K (cg k))
  | 0=>i9 D sc_law_plan
  | k+1=>by
    have D_law_plan:=gH D B D_law_contrary k
    show Own P w K mg base (1+k+1+1) "_law_plan" ["_law_nails"] (cC K (cq 1 4 (b9 (cg k))))
    generalize cg k=self at D_law_plan ⊢
    refine fj (k:=1+k+1) (g:=b9 self) D sc_law_plan rfl rfl (by decide) fun f cdv A outer s H E hr=>?_
    delta b9
    exact (ai (b5 (fR hr.units (dH (by rfl) (by exact B.len) (ah (aa 0) au)) ao)
  (aj (aK (cP (am (fX (am (aa 0) (am ao bI))) bI))))
  aU)
  (ai (aZ 1 sc_law_plan.nd (mQ (dH (by rfl) (by exact B.len) (ah (aa 0) au)) (dU (dH (by rfl) (by exact B.len) (ah (aa 0) au)) ao)))
  (ai (aZ 2 sc_law_plan.nd (aJ D_law_plan hr (by rfl) (ah (gZ (aa 0) fH (fI (aa 1))) au)))
  (ai (aZ 3 sc_law_plan.nd (aJ D_law_plan hr (by rfl) (ah (gZ (aa 0) (fI (aa 1)) fH) au)))
  (aj (aK (bv (bv (bv (aa 2) (aa 3)) (aJ D_law_contrary (hr.mono (by omega)) (by rfl) (ah (aa 2) au))) (aJ D_law_contrary (hr.mono (by omega)) (by rfl) (ah (aa 3) au)))))))))
theorem mh (D:Def K mg "_law_plan" cA ["_law_nails"]) (B:Bn mg) (D_law_contrary:Own P w K mg base 1 "_law_contrary" ["_law_cord"] (cC K aI)):Own P w K mg base 10 "_law_plan" ["_law_nails"] (cC K dh):=gH D B D_law_contrary 8
abbrev cj:Stmt:=kS 31
theorem sc_law_handed:FnScope ["_law_script","_law_cell","_law_text","_law_k","_law_letter"] ["_law_script"] (ae cj):=⟨rfl,rfl,rfl,by decide+kernel,rfl,by decide+kernel,by decide+kernel⟩
theorem jF (D:Def K mg "_law_handed" cj ["_law_script"]) (B:Bn mg) (D_law_at:Own P w K mg base 1 "_law_at" ["_law_script","_law_k"] (cC K bB)) (D_law_mix:Own P w K mg base 1 "_law_mix" ["_law_cell","_law_k"] (cC K cy)):Own P w K mg base 2 "_law_handed" ["_law_script"] (cC K bp):=by
  delta bp
  refine fj (g:=dz) D sc_law_handed rfl rfl (by decide) fun f cdv A outer s H E hr=>?_
  delta dz
  exact (ai (aZ 1 sc_law_handed.nd (aJ D_law_at (hr.mono (by decide)) (by rfl) (ah (aa 0) (ah ao au))))
  (ai (aZ 2 sc_law_handed.nd aT)
  (ai (i0 PassesOwn.never (by rfl) (oQ (by rfl) (by exact B.range) (ah ao au)) (by delta bc;exact (bX 3 sc_law_handed.nd))
  (by delta be;exact (aj (b5 (fR hr.units (sL (vi (aa 1) (aa 3)) ao) ao)
  (ai (aZ 4 sc_law_handed.nd (d9 aT (aa 3)))
  (aj (aZ 2 sc_law_handed.nd (d9 (cP (am (bv (aa 4) (aa 2)) (am (bv (aa 2) (aa 4)) (am (bv (bv (aa 4) (aa 2)) (aa 4)) bI)))) (eM (aJ D_law_mix (hr.mono (by decide)) (by rfl) (ah (aJ D_law_at (hr.mono (by decide)) (by rfl) (ah (aa 0) (ah ao au))) (ah (aa 3) au))) ao)))))
  aU))))
  (aj (aK (aa 2))))))
abbrev cV:Stmt:=kS 32
theorem sc_law_said:FnScope ["_law_thing","_law_found","_law_e"] ["_law_thing"] (ae cV):=⟨rfl,rfl,rfl,by decide+kernel,rfl,by decide+kernel,by decide+kernel⟩
theorem mi (D:Def K mg "_law_said" cV ["_law_thing"]) (B:Bn mg) (D_round_back:Own P w K mg base 12 "round_back" ["nails"] (cC K bn)) (R_round_back:OwnR P w K mg base 12 "round_back" ["nails"] (ub K ap)) (D_law_word:OwnH P w K mg base 1 "_law_word" ["_law_e"] (cC K cD)) (XX:XF K mg):Own P w K mg base 13 "_law_said" ["_law_thing"] (cC K ax):=by
  obtain ⟨C_HangError,m_HangError,e_HangError⟩:=XX.e_HangError
  delta ax
  refine fj (g:=dL) D sc_law_said rfl rfl (by decide) fun f cdv A outer s H E hr=>?_
  delta dL
  exact (ai (aZ 1 sc_law_said.nd (cP bI))
  (ai (sW rfl sc_law_said.nd rfl rfl rfl (by rfl) (by exact m_HangError) e_HangError (aj (aZ 1 sc_law_said.nd (aJ D_round_back (hr.mono (by decide)) (by rfl) (ah (aa 0) au)))) (fun W=>(dv (qQ R_round_back (hr.mono (by decide)) (by rfl) (ah (aa 0) au)))) (fun ea=>(aj (aK (sY D_law_word ((Room.mark hr _).mono (by decide)) (by rfl) (ah (aa 2) au))))))
  (aj (aK (aa 1)))))
abbrev dE:Stmt:=kS 33
theorem sc_law_odd:FnScope ["_law_text","_law_cell","_law_at_here"] ["_law_text","_law_cell"] (ae dE):=⟨rfl,rfl,rfl,by decide+kernel,rfl,by decide+kernel,by decide+kernel⟩
theorem nn (D:Def K mg "_law_odd" dE ["_law_text","_law_cell"]) (B:Bn mg):Own P w K mg base 1 "_law_odd" ["_law_text","_law_cell"] (cC K aV):=by
  delta aV
  refine fj (g:=cR) D sc_law_odd rfl rfl (by decide) fun f cdv A outer s H E hr=>?_
  delta cR
  exact (ai (aZ 2 sc_law_odd.nd (eM (dU (aa 1) ao) (bv (dH (by rfl) (by exact B.len) (ah (aa 0) au)) ao)))
  (ai (b5 (fR hr.units (eM (aa 1) ao) ao)
  (aj (aK (d9 (cP (am uW (am ao (am gs (am (cP (am aT bI)) (am (fX (am aT bI)) (am wI bI))))))) (eM (dU (aa 1) ao) ao))))
  aU)
  (ai (b5 (fR hr.units (eM (aa 1) ao) ao)
  (aj (aK aT))
  aU)
  (aj (aK (bv (bv (gZ (aa 0) fH (fI (aa 2))) (d9 aT (eM (dU (aa 1) ao) ao))) (gZ (aa 0) (fI (aa 2)) fH)))))))
abbrev gI:Stmt:=kS 34
theorem sc_law:FnScope ["_law_script","_law_text","_law_nails","_law_found","_law_nail","_law_kept"] ["_law_script"] (ae gI):=⟨rfl,rfl,rfl,by decide+kernel,rfl,by decide+kernel,by decide+kernel⟩
theorem vw {f0:Addr} {fd:FuncData} (D:Fun K "law" "law" gI f0 fd) (B:Bn mg) (D_law_handed:Own P w K mg base 2 "_law_handed" ["_law_script"] (cC K bp)) (D_law_at:Own P w K mg base 1 "_law_at" ["_law_script","_law_k"] (cC K bB)) (D_law_odd:Own P w K mg base 1 "_law_odd" ["_law_text","_law_cell"] (cC K aV)) (D_law_said:Own P w K mg base 13 "_law_said" ["_law_thing"] (cC K ax)) (D_law_is_cord:Own P w K mg base 1 "_law_is_cord" ["_law_found"] (cC K ba)) (D_law_plan:Own P w K mg base 10 "_law_plan" ["_law_nails"] (cC K dh)) (D_law_size:Own P w K mg base 9 "_law_size" ["_law_many"] (cC K dg)) (D_law_runs:Own P w K mg base 1 "_law_runs" ["_law_cord"] (cC K bo)):FnOk P w K mg base mK 14 f0 fd ["_law_script"] (cC K gl):=by
  delta gl
  refine yA (g:=l0) D sc_law rfl rfl (by decide) fun cdv A outer s H E hr=>?_
  delta l0
  exact (ai (aZ 1 sc_law.nd (aJ D_law_handed (hr.mono (by decide)) (by rfl) (ah (aa 0) au)))
  (ai (aZ 2 sc_law.nd (nZ (qv (N:=["_law_letter","_law_text"]) (js:=[none,some 1]) lI (by rfl) (i6 aT) (fun _ _ _ _=>(by delta eD;exact (bX 0 (show (["_law_letter","_law_text"]:List Str).Nodup by decide+kernel)))) (fun _ _ _ _=>(by delta dM;exact (wE (aa 0) (aa 1)))) (fun _ _ _ _=>(by delta eF;exact (aa 0))))))
  (ai (b5 (oM (iV (fi hr.units (aJ D_law_said (hr.mono (by decide)) (by rfl) (ah (aJ D_law_odd (hr.mono (by decide)) (by rfl) (ah (aa 1) (ah (aJ D_law_at (hr.mono (by decide)) (by rfl) (ah (aa 0) (ah ao au))) au))) au)) aT) (iU (fi hr.units (aJ D_law_said (hr.mono (by decide)) (by rfl) (ah aT au)) aT))))
  (aj (aK gs))
  aU)
  (ai (b5 (fR hr.units (aa 2) aT)
  (ai (aZ 2 sc_law.nd aT)
  (aj (aZ 1 sc_law.nd aT)))
  aU)
  (ai (aZ 3 sc_law.nd (aJ D_law_said (hr.mono (by decide)) (by rfl) (ah (aa 1) au)))
  (ai (b5 (oM (iV (dm (cO (aJ D_law_is_cord (hr.mono (by decide)) (by rfl) (ah (aa 3) au)))) (iV (fi hr.units (aa 3) (aJ D_law_plan (hr.mono (by decide)) (by rfl) (ah (aa 2) au))) (iU (fi hr.units (dH (by rfl) (by exact B.len) (ah (aa 3) au)) (aJ D_law_size (hr.mono (by decide)) (by rfl) (ah (dH (by rfl) (by exact B.len) (ah (aa 2) au)) au)))))))
  (aj (aK gs))
  aU)
  (ai (b5 (fi hr.units (aJ D_law_runs (hr.mono (by decide)) (by rfl) (ah (aa 3) au)) (aa 3))
  (aj (aK gs))
  aU)
  (ai (i0 PassesOwn.never (by rfl) (i6 (aa 2)) (by delta eG;exact (bX 4 sc_law.nd))
  (by delta eI;exact (aj (b5 (fi hr.units (aJ D_law_runs (hr.mono (by decide)) (by rfl) (ah (oR (N:=["_law_piece","_law_nail"]) (js:=[none,some 4]) lI (by rfl) (sH (aa 3)) (fun _ _ _ _=>(by delta gB;exact (bX 0 (show (["_law_piece","_law_nail"]:List Str).Nodup by decide+kernel)))) (fun _ _ _ _=>(by delta fA;exact (fi hr.units (d9 (aa 0) ao) (aa 1)))) (fun _ _ _ _=>(by delta gC;exact (aa 0)))) au)) (cP bI))
  (aj (aK gs))
  aU))))
  (ai (aZ 5 sc_law.nd (sG (by rfl) (by exact B.list) (aa 3)))
  (ai (kD (jU 3 (fX (am aT (am ao bI)))))
  (ai (kD (mU 3))
  (aj (aK (t7 hr.units (aJ D_law_said (hr.mono (by decide)) (by rfl) (ah (aa 2) au)) (aa 5)))))))))))))))
end
end Nhk51
namespace Nhk51
open PySem L2 Nh PL
def eW:Nat→List Nat→List Pc
  | 0,_=>[]
  | k+1,w=>if w.length=1 then w.map fun a=>((a,1):Pc) else
    eW k (w.take (w.length - w.length / 2))++eW k (w.drop (w.length - w.length / 2))++NH.contr (eW k (w.take (w.length - w.length / 2)))++NH.contr (eW k (w.drop (w.length - w.length / 2)))
def pv:Nat→Nat→Nat
  | 0,_=>0
  | k+1,n=>if n=1 then 1 else 2*(pv k (n - n / 2)+pv k (n / 2))
theorem bN (w:List Nat):(w.take (w.length - w.length / 2)).length=w.length - w.length / 2:=by rw [List.length_take];omega
theorem bO (w:List Nat):(w.drop (w.length - w.length / 2)).length=w.length / 2:=by rw [List.length_drop];omega
theorem gJ:∀(k:Nat) (w:List Nat),(eW k w).length=pv k w.length:=by
  intro k
  induction k with
  | zero=>intro w;rfl
  | succ k ih=>
    intro w
    unfold eW pv
    by_cases h:w.length=1
    · rw [if_pos h,if_pos h,List.length_map,h]
    · rw [if_neg h,if_neg h,List.length_append,List.length_append,List.length_append,NH.bh,NH.bh,ih,ih,bN,bO]
      omega
theorem jl:∀(k n:Nat),1≤n→n≤2 ^ k→pv (k+1) n≤4 ^ k:=by
  intro k
  induction k with
  | zero=>
    intro n h1 h2
    have:n=1:=by omega
    subst this
    decide
  | succ k ih=>
    intro n h1 h2
    unfold pv
    by_cases h:n=1
    · rw [if_pos h];exact Nat.one_le_pow _ _ (by decide)
    · rw [if_neg h]
      rw [Nat.pow_succ] at h2
      have a:=ih (n - n / 2) (by omega) (by omega)
      have b:=ih (n / 2) (by omega) (by omega)
      rw [Nat.pow_succ]
      omega
theorem jm {c:List Pc} {p:Pc} (h:p∈NH.contr c):∃q∈c,p.1=q.1:=by
  obtain ⟨q,hq,rfl⟩:=List.mem_map.mp h
  exact ⟨q,List.mem_reverse.mp hq,rfl⟩
theorem gK (x:Nat) (c:List Pc):(NH.contr c).filter (fun p=> !decide (p.1=x))=NH.contr (c.filter fun p=> !decide (p.1=x)):=by
  unfold NH.contr
  rw [List.filter_map,List.filter_reverse]
  rfl
theorem jn {x:Nat} {c:List Pc} {w:List Nat} (h:∀p∈c,p.1∈w) (hx:x∉w):c.filter (fun p=> !decide (p.1=x))=c:=by
  refine List.filter_eq_self.mpr fun p hp=>?_
  simp only [Bool.not_eq_true',decide_eq_false_iff_not]
  rintro rfl
  exact hx (h p hp)
structure Pl (w:List Nat) (c:List Pc):Prop where
  ne:c≠[]
  red:NH.Red c
  nails:∀p∈c,p.1∈w
  fall:∀x∈w,NH.short (c.filter fun p=> !decide (p.1=x))=[]
theorem qW (a:Nat):Pl [a] [((a,1):Pc)]:=by
  refine ⟨by simp,?_,fun p hp=>by simp at hp;simp [hp],fun x hx=>?_⟩
  · exact NH.Red.cons (show (1:Int)≠0 by decide) (fun q hq=>by simp at hq) trivial
  · simp only [List.mem_singleton] at hx
    subst hx
    simp [NH.short,NH.stk]
theorem mj {α:Type} (x:List α) {y:List α} (h:y≠[]):(x++y).getLast? =y.getLast? :=by
  rw [List.getLast?_append]
  cases e:y.getLast? with
  | none=>exact absurd (List.getLast?_eq_none_iff.mp e) h
  | some z=>rfl
theorem vx {A B:List Nat} {a b:List Pc} (ha:Pl A a) (hb:Pl B b) (dj:∀x∈A,x∉B):Pl (A++B) (a++b++NH.contr a++NH.contr b):=by
  have ca:NH.contr a≠[]:=fun z=>ha.ne (List.length_eq_zero_iff.mp (by rw [←NH.bh,z];rfl))
  have na:∀p∈NH.contr a,p.1∈A:=fun p hp=>by
    obtain ⟨q,hq,e⟩:=jm hp
    rw [e];exact ha.nails q hq
  have nb:∀p∈NH.contr b,p.1∈B:=fun p hp=>by
    obtain ⟨q,hq,e⟩:=jm hp
    rw [e];exact hb.nails q hq
  refine ⟨?_,?_,fun p hp=>?_,fun x hx=>?_⟩
  · intro z
    simp only [List.append_eq_nil_iff] at z
    exact ha.ne z.1.1.1
  · refine NH.iD (NH.iD (NH.iD ha.red hb.red fun x y h1 h2 e=>?_) (NH.j_ ha.red) fun x y h1 h2 e=>?_) (NH.j_ hb.red) fun x y h1 h2 e=>?_
    · exact dj x.1 (ha.nails x (List.mem_of_getLast? h1)) (e▸hb.nails y (List.mem_of_head? h2))
    · rw [mj _ hb.ne] at h1
      exact dj y.1 (na y (List.mem_of_head? h2)) (e▸hb.nails x (List.mem_of_getLast? h1))
    · rw [mj _ ca] at h1
      exact dj x.1 (na x (List.mem_of_getLast? h1)) (e▸nb y (List.mem_of_head? h2))
  · simp only [List.mem_append] at hp
    rcases hp with ((hp | hp) | hp) | hp
    · exact List.mem_append_left _ (ha.nails p hp)
    · exact List.mem_append_right _ (hb.nails p hp)
    · exact List.mem_append_left _ (na p hp)
    · exact List.mem_append_right _ (nb p hp)
  · rw [List.filter_append,List.filter_append,List.filter_append,gK,gK]
    rcases List.mem_append.mp hx with hx | hx
    · have e:=ha.fall x hx
      rw [jn hb.nails (dj x hx)]
      have e0:NH.short (a.filter fun p=> !decide (p.1=x))=NH.short ([]:List Pc):=e
      have k:=NH.fK (NH.fK (NH.fK e0 (rfl:NH.short b=NH.short b)) (NH.kd e0)) (rfl:NH.short (NH.contr b)=NH.short (NH.contr b))
      rw [k]
      have z:NH.contr ([]:List Pc)=[]:=rfl
      rw [z,List.nil_append,List.append_nil]
      exact NH.iO b
    · have e:=hb.fall x hx
      rw [jn ha.nails (fun z=>dj x z hx)]
      have e0:NH.short (b.filter fun p=> !decide (p.1=x))=NH.short ([]:List Pc):=e
      have k:=NH.fK (NH.fK (NH.fK (rfl:NH.short a=NH.short a) e0) (rfl:NH.short (NH.contr a)=NH.short (NH.contr a))) (NH.kd e0)
      rw [k]
      have z:NH.contr ([]:List Pc)=[]:=rfl
      rw [z,List.append_nil,List.append_nil]
      exact NH.iO a
theorem vy:∀(k:Nat) (w:List Nat),w.Nodup→1≤w.length→w.length≤2 ^ k→Pl w (eW (k+1) w):=by
  intro k
  induction k with
  | zero=>
    intro w _ h1 h2
    obtain ⟨a,rfl⟩:=List.length_eq_one_iff.mp (show w.length=1 by omega)
    exact qW a
  | succ k ih=>
    intro w nd h1 h2
    by_cases h:w.length=1
    · obtain ⟨a,rfl⟩:=List.length_eq_one_iff.mp h
      exact qW a
    · unfold eW
      rw [if_neg h]
      rw [Nat.pow_succ] at h2
      have e:w.take (w.length - w.length / 2)++w.drop (w.length - w.length / 2)=w:=List.take_append_drop _ _
      have nd':=nd
      rw [←e] at nd'
      obtain ⟨n1,n2,n3⟩:=List.nodup_append.mp nd'
      have p:=vx (ih _ n1 (by rw [bN];omega) (by rw [bN];omega)) (ih _ n2 (by rw [bO];omega) (by rw [bO];omega)) fun x h1 h2=>n3 x h1 x h2 rfl
      rw [e] at p
      exact p
theorem dY (w:List Nat):(⟨w.toArray⟩:Str).length=w.length:=by show w.toArray.size=_;simp
theorem hM (ns:List Int) (k:Nat):bB [.list (ns.map .int), .int k]=some (.sh (.int (ns.getD k 0))):=by
  simp only [bB,cq,List.length_cons,List.length_nil,Nat.zero_add,Nat.reduceAdd,cI,gA,ay,aP,ck,ag,ad,av,List.map_cons,List.map_nil,Nat.sub_self,List.replicate,List.cons_append,List.nil_append,List.getElem?_cons_succ,List.getElem?_cons_zero,Sl.isBr,Bool.false_and,Bool.false_eq_true,cE,af,aq,Option.map_some,if_false,cF,da,look,Sl.val,iv,Cm.i,Cm.s,Option.bind_some,aH,aF,fY,dA,cG,aw,pC,cp,bi,if_true]
  by_cases h:k < ns.length
  · simp [h,ef,bH]
  · simp [h,List.getElem?_eq_none (Nat.le_of_not_lt h),bH]
theorem nq (cell:Int) (k:Nat) (h:k≤1000000):∃z:Int,cy [.int cell, .int k]=some (.sh (.int z)):=by
  have a1:∀i:Int,d8 i (62089911+2*(k:Int))=true:=fun i=>kP (by omega) (by omega)
  have a2:d8 982451653 (k:Int)=true:=kP (by omega) (by omega)
  have a3:d8 2 (k:Int)=true:=kP (by omega) (by omega)
  have a4:∀i j:Int,d8 (i % 4294967291) j=true:=fun i j=>n_ (by have:=Int.emod_nonneg i (show (4294967291:Int)≠0 by decide);omega) (by have:=Int.emod_lt_of_pos i (show (0:Int) < 4294967291 by decide);omega)
  have d1:fP 1024=true:=by decide
  simp only [cy,cq,List.length_cons,List.length_nil,Nat.zero_add,Nat.reduceAdd,cI,fL,ay,aO,ag,ad,av,List.map_cons,List.map_nil,Nat.reduceSub,List.replicate,List.cons_append,List.nil_append,List.getElem?_cons_zero,Sl.isBr,Bool.false_and,Bool.false_eq_true,pC,u0,da,look,Sl.val,jA,Int.reducePow,Int.reduceNeg,Option.bind_some,if_false,Int.reduceLE,Int.reduceLT,and_self,decide_true,Int.reduceToNat,if_true,Option.map_some,fg,iS,dA,cG,Bool.not_false,Bool.true_or,Bool.and_true,bz,List.getElem?_cons_succ,a3,a1,a2,PL.settle,frz,frzAll,Nat.reduceLT,List.set_cons_succ,List.set_cons_zero,aF,cH,d1,a4,cp,bi,bH]
  exact ⟨_,rfl⟩
theorem ij:∀(d:List Pc) (x0 x1:Sl),de cY fS cu (d.map aX) [x0,x1]=some ((d.map fun p=>((p.1,-p.2):Pc)).map aX)
  | [],x0,x1=>rfl
  | p::d,x0,x1=>by
    have e:(cY (aX p) [x0,x1])=some [.sh (.str ⟨#[p.1]⟩), .sh (.int p.2)]:=rfl
    have e2:cu [.sh (.str ⟨#[p.1]⟩), .sh (.int p.2)]=some (.sh (aX (p.1,-p.2)),[.sh (.str ⟨#[p.1]⟩), .sh (.int p.2)]):=by
      simp only [cu,db,ar,ad,List.getElem?_cons_zero,frz,di,look,Sl.val,iT,bx,Option.map_some,Option.bind_some,List.getElem?_cons_succ,List.length_cons,List.length_nil,Nat.zero_add,Nat.reduceAdd,Nat.reduceLeDiff,if_true,aX]
    rw [List.map_cons,de,e,Option.bind_some]
    simp only [fS,frz,Option.bind_some,e2,ij d,Option.map_some,if_true,List.map_cons]
theorem ik (c:List Pc) (h:c.length≤1000000):b6 [.list (c.map aX)]=some (.ow ((NH.contr c).map aX)):=by
  have hl:(NH.contr c).length=c.length:=NH.bh c
  have e:(c.reverse.map fun p=>((p.1,-p.2):Pc))=NH.contr c:=rfl
  have k:=ij c.reverse .no .no
  rw [e,List.map_reverse] at k
  simp only [b6,cq,List.length_cons,List.length_nil,Nat.zero_add,cI,eT,aF,du,ia,ad,av,List.map_cons,List.map_nil,Nat.sub_self,List.replicate,List.cons_append,List.nil_append,List.getElem?_cons_zero,frz,Option.bind_some,eP,i3,k,cr,List.length_map,hl,h,decide_true,Bool.and_true,if_true,cp,bi]
theorem jp (x:Str) (l u:Option Int):Txt.slice x l u=PySem.StrLaws.sliceText x l u:=rfl
theorem gm (w:List Nat) (i:Nat) (h:i≤w.length):Txt.slice (⟨w.toArray⟩:Str) (some (i:Int)) none=⟨(w.drop i).toArray⟩:=by
  have e:(⟨w.toArray⟩:Str).cps.toList=w:=by simp
  rw [jp,PySem.StrLaws.sliceText_from ⟨by omega,by rw [e];omega⟩,e]
  rw [show ((w.length:Int) - (i:Int)).toNat=w.length - i by omega,Int.toNat_natCast,List.take_of_length_le (by simp)]
theorem ml (u v:List Nat):(⟨u.toArray⟩:Str)++(⟨v.toArray⟩:Str)=⟨(u++v).toArray⟩:=by
  show (⟨u.toArray++v.toArray⟩:Str)=_
  simp
theorem qX {u v:List Nat}:((⟨u.toArray⟩:Str)=⟨v.toArray⟩)↔u=v:=by
  constructor
  · intro h
    have:=congrArg (fun x:Str=>x.cps.toList) h
    simpa using this
  · intro h;rw [h]
theorem gn (w:List Nat) (i:Nat) (h:i≤w.length):Txt.slice (⟨w.toArray⟩:Str) none (some (i:Int))=⟨(w.take i).toArray⟩:=by
  have e:(⟨w.toArray⟩:Str).cps.toList=w:=by simp
  have ln:(⟨w.toArray⟩:Str).length=w.length:=by show w.toArray.size=_;simp
  rw [jp,PySem.StrLaws.sliceText_to ⟨by omega,by rw [e];omega⟩,e,Int.sub_zero,Int.toNat_natCast,List.drop_zero]
theorem jG (n:Nat):bj [.int (n:Int)]=some (.sh (.int ((n - n / 2:Nat):Int))):=by
  have d:fP 2=true:=by decide
  have e:((n:Int)+1) / 2=((n - n / 2:Nat):Int):=by omega
  simp only [bj,cq,List.length_cons,List.length_nil,Nat.zero_add,cI,dw,aF,ag,ad,av,List.map_cons,List.map_nil,Nat.sub_self,List.replicate,List.cons_append,List.nil_append,List.getElem?_cons_zero,Sl.isBr,Bool.false_and,Bool.false_eq_true,pC,bz,look,Sl.val,dA,cG,Option.bind_some,Bool.not_false,Bool.true_or,Bool.and_true,if_false,cH,da,jA,d,e,if_true,Option.map_some,cp,bi,bH]
theorem qY (a b:List Pc) (h:a.length+b.length≤100000):aM [.list (a.map aX), .list (b.map aX)]=some (.ow ((a++b++NH.contr a++NH.contr b).map aX)):=by
  have ea:=ik a (by omega)
  have eb:=ik b (by omega)
  have l1:a.length+b.length≤1000000:=by omega
  have l2:a.length+b.length+a.length≤1000000:=by omega
  have l3:a.length+b.length+a.length+b.length≤1000000:=by omega
  have la:(NH.contr a).length=a.length:=NH.bh a
  have lb:(NH.contr b).length=b.length:=NH.bh b
  simp only [aM,cq,List.length_cons,List.length_nil,Nat.zero_add,Nat.reduceAdd,cI,cb,aF,ag,ad,av,List.map_cons,List.map_nil,Nat.sub_self,List.replicate,List.cons_append,List.nil_append,List.getElem?_cons_zero,Sl.isBr,Bool.false_and,Bool.false_eq_true,bz,look,Sl.val,dA,cG,if_false,Option.bind_some,List.getElem?_cons_succ,Bool.not_false,Bool.true_or,Bool.and_true,List.length_map,l1,decide_true,if_true,ak,af,aq,Option.map_some,aH,ea,List.length_append,la,l2,eb,lb,l3,cp,bi,eQ,cr,List.map_append]
theorem jq (self:List PyData→Option Sl) (a:Nat):cq 1 2 (a_ self) [.str ⟨#[a]⟩]=some (.ow [aX (a,1)]):=by
  have l:(⟨#[a]⟩:Str).length=1:=rfl
  simp only [cq,List.length_cons,List.length_nil,Nat.zero_add,cI,a_,ay,aP,ck,ag,cE,af,ad,av,List.map_cons,List.map_nil,Nat.reduceSub,List.replicate,List.cons_append,List.nil_append,List.getElem?_cons_zero,Sl.isBr,Bool.false_and,Bool.false_eq_true,aq,Option.map_some,if_false,Option.bind_some,cF,aH,look,Sl.val,l,Nat.reduceLeDiff,Int.cast_ofNat_Int,if_true,pC,dW,da,aQ,decide_true,aF,b4,ar,db,frz,bx,aw,Nat.reduceAdd,aO,ak,PL.settle,frzAll,gb,dF,dG,dA,cG,cp,bi,aS,bH,Bool.and_true,aX]
theorem nr (self:List PyData→Option Sl) (w:List Nat) (h N:Int) (u v:Str) (A B C:List PyData) (hl:w.length≤1000000) (hN:(w.length:Int)=N) (n1:N≠1) (e0:bj [.int N]=some (.sh (.int h))) (eu:Txt.slice (⟨w.toArray⟩:Str) none (some h)=u) (ev:Txt.slice (⟨w.toArray⟩:Str) (some h) none=v) (ea:self [.str u]=some (.ow A)) (eb:self [.str v]=some (.ow B)) (ec:aM [.list A, .list B]=some (.ow C)) (fc:aS C=true):
    cq 1 2 (a_ self) [.str ⟨w.toArray⟩]=some (.ow C):=by
  simp only [cq,List.length_cons,List.length_nil,Nat.zero_add,cI,a_,ay,aP,ck,ag,cE,af,ad,av,List.map_cons,List.map_nil,Nat.reduceSub,List.replicate,List.cons_append,List.nil_append,List.getElem?_cons_zero,Sl.isBr,Bool.false_and,Bool.false_eq_true,aq,Option.map_some,if_false,Option.bind_some,cF,aH,look,Sl.val,dY,hl,hN,if_true,pC,dW,da,aQ,n1,decide_false,aF,b4,ar,db,frz,bx,aw,Nat.reduceAdd,Nat.reduceLeDiff,aO,ak,PL.settle,frzAll,gb,dF,dG,dA,cG,e0,Nat.reduceLT,List.set_cons_succ,List.set_cons_zero,List.getElem?_cons_succ,eu,ea,ev,eb,ec,cp,bi,fc]
theorem pw:∀(k:Nat) (w:List Nat),k≤8→1≤w.length→w.length≤2 ^ k→bt (k+1) [.str ⟨w.toArray⟩]=some (.ow ((eW (k+1) w).map aX)):=by
  intro k
  induction k with
  | zero=>
    intro w _ h1 h2
    obtain ⟨a,rfl⟩:=List.length_eq_one_iff.mp (show w.length=1 by omega)
    exact jq _ a
  | succ k ih=>
    intro w hk h1 h2
    by_cases h:w.length=1
    · obtain ⟨a,rfl⟩:=List.length_eq_one_iff.mp h
      exact jq _ a
    · have p8:2 ^ (k+1)≤2 ^ 8:=Nat.pow_le_pow_right (by decide) hk
      have h3:=h2
      rw [Nat.pow_succ] at h3
      have la:=gJ (k+1) (w.take (w.length - w.length / 2))
      have lb:=gJ (k+1) (w.drop (w.length - w.length / 2))
      have sa:=jl k (w.take (w.length - w.length / 2)).length (by rw [bN];omega) (by rw [bN];omega)
      have sb:=jl k (w.drop (w.length - w.length / 2)).length (by rw [bO];omega) (by rw [bO];omega)
      have p4:4 ^ k≤4 ^ 7:=Nat.pow_le_pow_right (by decide) (by omega)
      have ec:=qY (eW (k+1) (w.take (w.length - w.length / 2))) (eW (k+1) (w.drop (w.length - w.length / 2))) (by omega)
      have e:eW (k+1+1) w=eW (k+1) (w.take (w.length - w.length / 2))++eW (k+1) (w.drop (w.length - w.length / 2))++NH.contr (eW (k+1) (w.take (w.length - w.length / 2)))++NH.contr (eW (k+1) (w.drop (w.length - w.length / 2))):=by
        rw [eW,if_neg h]
      rw [e]
      exact nr _ w ((w.length - w.length / 2:Nat):Int) w.length _ _ _ _ _ (by omega) rfl (by omega) (jG w.length) (gn w _ (by omega)) (gm w _ (by omega)) (ih _ (by omega) (by rw [bN];omega) (by rw [bN];omega)) (ih _ (by omega) (by rw [bO];omega) (by rw [bO];omega)) ec (cr _)
theorem eY:∀(d:List Pc) (x0 x1:Sl),de bY fS bE (d.map aX) [x0,x1]=some ((d.map fun p=>((p.1,-p.2):Pc)).map aX)
  | [],x0,x1=>rfl
  | p::d,x0,x1=>by
    have e:(bY (aX p) [x0,x1])=some [.sh (.str ⟨#[p.1]⟩), .sh (.int p.2)]:=rfl
    have e2:bE [.sh (.str ⟨#[p.1]⟩), .sh (.int p.2)]=some (.sh (aX (p.1,-p.2)),[.sh (.str ⟨#[p.1]⟩), .sh (.int p.2)]):=by
      simp only [bE,db,ar,ad,List.getElem?_cons_zero,frz,ag,pC,Sl.isBr,Bool.false_and,Bool.false_eq_true,kA,da,look,Sl.val,jA,if_true,if_false,Option.bind_some,bx,Option.map_some,List.getElem?_cons_succ,Int.zero_sub,List.length_cons,List.length_nil,Nat.zero_add,Nat.reduceAdd,Nat.reduceLeDiff,aX]
    rw [List.map_cons,de,e,Option.bind_some]
    simp only [fS,frz,Option.bind_some,e2,eY d,Option.map_some,if_true,List.map_cons]
theorem eZ (c:List Pc) (h:c.length≤1000000):aI [.list (c.map aX)]=some (.ow ((NH.contr c).map aX)):=by
  have hl:(NH.contr c).length=c.length:=NH.bh c
  have e:(c.reverse.map fun p=>((p.1,-p.2):Pc))=NH.contr c:=rfl
  have k:=eY c.reverse .no .no
  rw [e,List.map_reverse] at k
  simp only [aI,cq,List.length_cons,List.length_nil,Nat.zero_add,cI,cK,aF,du,ia,ad,av,List.map_cons,List.map_nil,Nat.sub_self,List.replicate,List.cons_append,List.nil_append,List.getElem?_cons_zero,frz,Option.bind_some,eP,i3,k,cr,List.length_map,hl,h,decide_true,Bool.and_true,if_true,cp,bi]
theorem il (x0:Sl):∀(c:List Pc) (st:List Pc) (a b:Sl),st.length+c.length≤100000→NailsOk st→NailsOk c→∃a' b',dq bG aR (c.map aX) [x0, .ow (st.reverse.map aX),a,b]=some ([x0, .ow ((c.foldl NH.stp st).reverse.map aX),a',b'], .nx)
  | [],st,a,b,_,_,_=>⟨a,b,rfl⟩
  | p::c,st,a,b,h,hs,hc=>by
    have step:∃a' b',(bG (aX p) [x0, .ow (st.reverse.map aX),a,b]).bind aR=some ([x0, .ow ((NH.stp st p).reverse.map aX),a',b'], .nx):=by
      have e0:=kQ hs.reverse
      cases st with
      | nil=>
        simp only [List.reverse_nil,List.map_nil] at e0
        by_cases z:p.2=0
        · simp only [bG,iZ,aX,z,List.length_cons,List.length_nil,Nat.zero_add,Nat.reduceAdd,eO,bA,List.reverse_nil,List.map_nil,Nat.reduceLT,List.set_cons_succ,List.set_cons_zero,if_true,Option.bind_some,iY,List.isEmpty_nil,aR,fQ,dW,ay,aP,h9,ck,ag,ad,List.getElem?_cons_succ,List.getElem?_cons_zero,Sl.isBr,Bool.false_and,Bool.false_eq_true,b4,bx,Nat.reduceLeDiff,da,look,Sl.val,if_false,e0,decide_true,Option.map_some,Bool.not_true,di,pC,iT,fY,dA,cG,Option.any_some,aO,Bool.true_and,kC,bz,PL.settle,frz,frzAll,aw,Nat.reduceSub,Bool.not_false,Bool.true_or,Bool.and_true,dX,cw,db,ar,aQ,List.nil_append,NH.stp]
          exact ⟨_,_,rfl⟩
        · simp only [bG,iZ,aX,List.length_cons,List.length_nil,Nat.zero_add,Nat.reduceAdd,eO,bA,List.reverse_nil,List.map_nil,Nat.reduceLT,List.set_cons_succ,List.set_cons_zero,if_true,Option.bind_some,iY,List.isEmpty_nil,aR,fQ,dW,ay,aP,h9,ck,ag,ad,List.getElem?_cons_succ,List.getElem?_cons_zero,Sl.isBr,Bool.false_and,Bool.false_eq_true,b4,bx,Nat.reduceLeDiff,da,look,Sl.val,if_false,e0,decide_true,Option.map_some,Bool.not_true,di,pC,iT,fY,dA,cG,Option.any_some,aO,Bool.true_and,kC,bz,PL.settle,frz,frzAll,aw,Nat.reduceSub,Bool.not_false,Bool.true_or,Bool.and_true,dX,cw,db,ar,aQ,z,decide_false,List.nil_append,NH.stp]
          exact ⟨_,_,rfl⟩
      | cons q st=>
        have lb:st.length < 1000000∧st.length+1 < 1000000:=by simp at h;omega
        simp only [List.reverse_cons,List.map_append,List.map_cons,List.map_nil] at e0
        have et:∀ds,bG (aX p) [x0, .ow ds,a,b]=some [x0, .ow ds, .sh (.str ⟨#[p.1]⟩), .sh (.int p.2)]:=fun _=>rfl
        rw [et,Option.bind_some]
        by_cases e:q.1=p.1
        · by_cases z:q.2+p.2=0
          · simp only [aR,ay,aP,h9,ck,ag,ad,List.reverse_cons,List.map_append,List.map_cons,List.map_nil,List.getElem?_cons_succ,List.getElem?_cons_zero,Sl.isBr,Bool.false_and,Bool.false_eq_true,b4,bx,Option.bind_some,List.length_nil,Nat.reduceLeDiff,if_true,fQ,da,look,Sl.val,if_false,e0,List.append_eq_nil_iff,reduceCtorEq,and_false,decide_false,Option.map_some,Bool.not_false,di,pC,iT,fY,dA,cG,dW,Option.any_some,iC,aO,Bool.true_and,kC,bz,PL.settle,frz,frzAll,aw,dX,cw,db,ar,NH.stp]
            simp only [aX,e,i5,Option.map_some,Option.bind_some,List.getElem?_cons_succ,List.getElem?_cons_zero,gy,decide_true,Bool.false_eq_true,List.dropLast_concat,List.set_cons_succ,List.set_cons_zero,kI,Bool.false_and,if_false,jY,Bool.not_false,Bool.true_or,Bool.and_true,Int.add_comm p.2 q.2,z,List.length_cons,List.length_nil,Nat.zero_add,Nat.reduceAdd,Nat.reduceLT,if_true,aQ,Bool.not_true,Nat.reduceLeDiff]
            simp [aX]
          · simp only [aR,ay,aP,h9,ck,ag,ad,List.reverse_cons,List.map_append,List.map_cons,List.map_nil,List.getElem?_cons_succ,List.getElem?_cons_zero,Sl.isBr,Bool.false_and,Bool.false_eq_true,b4,bx,Option.bind_some,List.length_nil,Nat.reduceLeDiff,if_true,fQ,da,look,Sl.val,if_false,e0,List.append_eq_nil_iff,reduceCtorEq,and_false,decide_false,Option.map_some,Bool.not_false,di,pC,iT,fY,dA,cG,dW,Option.any_some,iC,aO,Bool.true_and,kC,bz,PL.settle,frz,frzAll,aw,dX,cw,db,ar,NH.stp]
            simp only [aX,e,i5,Option.map_some,Option.bind_some,List.getElem?_cons_succ,List.getElem?_cons_zero,gy,decide_true,Bool.false_eq_true,List.dropLast_concat,List.set_cons_succ,List.set_cons_zero,kI,Bool.false_and,if_false,jY,Bool.not_false,Bool.true_or,Bool.and_true,Int.add_comm p.2 q.2,List.length_cons,List.length_nil,Nat.zero_add,Nat.reduceAdd,Nat.reduceLT,if_true,aQ,z,decide_false,Nat.reduceLeDiff,List.length_map,List.length_reverse,lb]
            simp [aX]
        · by_cases z:p.2=0
          · simp only [aR,ay,aP,h9,ck,ag,ad,List.reverse_cons,List.map_append,List.map_cons,List.map_nil,List.getElem?_cons_succ,List.getElem?_cons_zero,Sl.isBr,Bool.false_and,Bool.false_eq_true,b4,bx,Option.bind_some,List.length_nil,Nat.reduceLeDiff,if_true,fQ,da,look,Sl.val,if_false,e0,List.append_eq_nil_iff,reduceCtorEq,and_false,decide_false,Option.map_some,Bool.not_false,di,pC,iT,fY,dA,cG,dW,Option.any_some,iC,aO,Bool.true_and,kC,bz,PL.settle,frz,frzAll,aw,dX,cw,db,ar,NH.stp]
            simp only [aX,z,i5,Option.map_some,Option.bind_some,List.getElem?_cons_succ,List.getElem?_cons_zero,gy,oa,e,decide_false,Bool.false_eq_true,List.dropLast_concat,List.set_cons_succ,List.set_cons_zero,kI,Bool.false_and,if_false,jY,Bool.not_false,Bool.true_or,Bool.and_true,List.length_cons,List.length_nil,Nat.zero_add,Nat.reduceAdd,Nat.reduceLT,if_true,aQ,decide_true,Bool.not_true,Nat.reduceLeDiff]
            simp [aX]
          · simp only [aR,ay,aP,h9,ck,ag,ad,List.reverse_cons,List.map_append,List.map_cons,List.map_nil,List.getElem?_cons_succ,List.getElem?_cons_zero,Sl.isBr,Bool.false_and,Bool.false_eq_true,b4,bx,Option.bind_some,List.length_nil,Nat.reduceLeDiff,if_true,fQ,da,look,Sl.val,if_false,e0,List.append_eq_nil_iff,reduceCtorEq,and_false,decide_false,Option.map_some,Bool.not_false,di,pC,iT,fY,dA,cG,dW,Option.any_some,iC,aO,Bool.true_and,kC,bz,PL.settle,frz,frzAll,aw,dX,cw,db,ar,NH.stp]
            simp only [aX,i5,Option.map_some,Option.bind_some,List.getElem?_cons_succ,List.getElem?_cons_zero,gy,oa,e,decide_false,Bool.false_eq_true,List.dropLast_concat,List.set_cons_succ,List.set_cons_zero,List.length_append,List.length_map,List.length_reverse,List.length_cons,List.length_nil,Nat.zero_add,Bool.not_false,Bool.true_or,Bool.and_true,if_false,aQ,z,Nat.reduceAdd,Nat.reduceLeDiff,if_true,lb]
            simp [aX]
    obtain ⟨a',b',e⟩:=step
    have ih:=il x0 c (NH.stp st p) a' b' (by have:=NH.nO st p;simp at h;omega) (hs.stp (hc p (List.mem_cons_self ..))) fun q hq=>hc q (List.mem_cons_of_mem _ hq)
    obtain ⟨a2,b2,e2⟩:=ih
    refine ⟨a2,b2,?_⟩
    rw [List.map_cons,dq,e]
    exact e2
theorem im:∀(c:List Pc) (x:Sl),de cZ fS c0 (c.map aX) [x]=some (c.map aX)
  | [],x=>rfl
  | p::c,x=>by
    have e:cZ (aX p) [x]=some [.sh (aX p)]:=rfl
    have e2:c0 [.sh (aX p)]=some (.sh (aX p),[.sh (aX p)]):=rfl
    rw [List.map_cons,de,e,Option.bind_some]
    simp only [fS,frz,Option.bind_some,e2,im c,Option.map_some,if_true]
theorem io (c:List Pc) (h:c.length≤100000) (hN:NailsOk c):bo [.list (c.map aX)]=some (.ow ((NH.jz c).map aX)):=by
  obtain ⟨a,b,e⟩:=il (.sh (.list (c.map aX))) c.reverse [] .no .no (by simpa using h) j8 hN.reverse
  simp only [List.reverse_nil,List.map_nil,List.map_reverse] at e
  rw [j9] at e
  have hl:=NH.jQ c.reverse ([]:List Pc)
  rw [j9] at hl
  have lb:(NH.jz c).length≤1000000:=by simp at hl;omega
  have k:=im (NH.jz c) .no
  simp only [bo,cq,List.length_cons,List.length_nil,Nat.zero_add,cI,eU,ay,aO,b4,bx,av,List.map_cons,List.map_nil,Nat.reduceSub,List.replicate,List.cons_append,List.nil_append,Option.bind_some,Nat.reduceLeDiff,if_true,PL.settle,frz,frzAll,Nat.reduceAdd,Nat.reduceLT,List.set_cons_succ,List.set_cons_zero,gW,ia,ad,aF,du,eP,i3,List.getElem?_cons_zero,e,List.getElem?_cons_succ,List.reverse_reverse,k,cr,List.length_map,lb,decide_true,Bool.and_true,cp,bi]
theorem fB (x0:Sl):∀(c:List Pc) (a:Sl),∃a',dq bK bL (c.map aX) [x0,a]=some ([x0,a'], .nx)
  | [],a=>⟨a,rfl⟩
  | p::c,a=>by
    have e:(bK (aX p) [x0,a]).bind bL=some ([x0, .sh (aX p)], .nx):=by
      simp only [bK,bA,List.length_cons,List.length_nil,Nat.zero_add,Nat.reduceAdd,Nat.reduceLT,aX,List.set_cons_succ,List.set_cons_zero,if_true,bL,fQ,Option.bind_some,ay,aP,fM,aY,bZ,di,ad,List.getElem?_cons_succ,List.getElem?_cons_zero,look,Sl.val,dc,Ty.is,kZ,Option.map_some,dQ,Bool.not_true,ck,ag,cE,af,Sl.isBr,Bool.false_and,Bool.false_eq_true,aq,if_false,cF,pC,da,fY,dA,cG,aH,Int.cast_ofNat_Int,aQ,decide_true,i5,aF,aw,jY]
    obtain ⟨a',ih⟩:=fB x0 c (.sh (aX p))
    refine ⟨a',?_⟩
    rw [List.map_cons,dq,e]
    exact ih
theorem jr (c:List Pc):ba [.list (c.map aX)]=some (.sh (.bool true)):=by
  obtain ⟨a,e⟩:=fB (.sh (.list (c.map aX))) c .no
  simp only [ba,cq,List.length_cons,List.length_nil,Nat.zero_add,cI,c_,ay,aP,aY,bZ,di,ad,av,List.map_cons,List.map_nil,Nat.reduceSub,List.replicate,List.cons_append,List.nil_append,List.getElem?_cons_zero,look,Sl.val,dc,Ty.is,kZ,Option.bind_some,Option.map_some,dQ,Bool.not_true,aF,pC,aw,Bool.false_eq_true,if_false,gW,f_,frz,e,cp,bi,bH,if_true]
theorem mn (self:List PyData→Option Sl) (a:Nat):cq 1 4 (b9 self) [.str ⟨#[a]⟩]=some (.ow [aX (a,1)]):=by
  have l:(⟨#[a]⟩:Str).length=1:=rfl
  simp only [cq,List.length_cons,List.length_nil,Nat.zero_add,cI,b9,ay,aP,ck,ag,cE,af,ad,av,List.map_cons,List.map_nil,Nat.reduceSub,List.replicate,List.cons_append,List.nil_append,List.getElem?_cons_zero,Sl.isBr,Bool.false_and,Bool.false_eq_true,aq,Option.map_some,if_false,Option.bind_some,cF,aH,look,Sl.val,l,Nat.reduceLeDiff,Int.cast_ofNat_Int,if_true,pC,dW,da,aQ,decide_true,aF,b4,ar,db,frz,bx,aw,Nat.reduceAdd,aO,cH,jA,kA,PL.settle,frzAll,ak,gb,dF,dG,dA,cG,bz,cp,bi,aS,bH,Bool.and_true,aX]
theorem qZ (self:List PyData→Option Sl) (w:List Nat) (h N:Int) (u v:Str) (a b:List Pc) (hl:w.length≤1000000) (hN:(w.length:Int)=N) (n1:N≠1) (d:fP 2=true) (e0:N - N / 2=h) (eu:Txt.slice (⟨w.toArray⟩:Str) none (some h)=u) (ev:Txt.slice (⟨w.toArray⟩:Str) (some h) none=v) (ea:self [.str u]=some (.ow (a.map aX))) (eb:self [.str v]=some (.ow (b.map aX)))
    (ka:aI [.list (a.map aX)]=some (.ow ((NH.contr a).map aX))) (kb:aI [.list (b.map aX)]=some (.ow ((NH.contr b).map aX))) (la:(NH.contr a).length=a.length) (lb:(NH.contr b).length=b.length) (l1:a.length+b.length≤1000000) (l2:a.length+b.length+a.length≤1000000) (l3:a.length+b.length+a.length+b.length≤1000000):
    cq 1 4 (b9 self) [.str ⟨w.toArray⟩]=some (.ow ((a++b++NH.contr a++NH.contr b).map aX)):=by
  simp only [cq,List.length_cons,List.length_nil,Nat.zero_add,cI,b9,ay,aP,ck,ag,cE,af,ad,av,List.map_cons,List.map_nil,Nat.reduceSub,List.replicate,List.cons_append,List.nil_append,List.getElem?_cons_zero,Sl.isBr,Bool.false_and,Bool.false_eq_true,aq,Option.map_some,if_false,Option.bind_some,cF,aH,look,Sl.val,dY,hl,hN,if_true,pC,dW,da,aQ,n1,decide_false,aF,b4,ar,db,frz,bx,aw,Nat.reduceAdd,Nat.reduceLeDiff,aO,cH,jA,kA,PL.settle,frzAll,ak,gb,dF,dG,dA,cG,bz,d,e0,Nat.reduceLT,List.set_cons_succ,List.set_cons_zero,List.getElem?_cons_succ,eu,ea,ev,eb,Option.any_some,Bool.not_false,Bool.true_or,Bool.and_true,List.length_map,l1,decide_true,ka,List.length_append,la,l2,kb,lb,l3,cp,bi,eQ,cr,List.map_append]
theorem td:∀(k:Nat) (w:List Nat),k≤8→1≤w.length→w.length≤2 ^ k→cg (k+1) [.str ⟨w.toArray⟩]=some (.ow ((eW (k+1) w).map aX)):=by
  intro k
  induction k with
  | zero=>
    intro w _ h1 h2
    obtain ⟨a,rfl⟩:=List.length_eq_one_iff.mp (show w.length=1 by omega)
    exact mn _ a
  | succ k ih=>
    intro w hk h1 h2
    by_cases h:w.length=1
    · obtain ⟨a,rfl⟩:=List.length_eq_one_iff.mp h
      exact mn _ a
    · have p8:2 ^ (k+1)≤2 ^ 8:=Nat.pow_le_pow_right (by decide) hk
      have h3:=h2
      rw [Nat.pow_succ] at h3
      have la:=gJ (k+1) (w.take (w.length - w.length / 2))
      have lb:=gJ (k+1) (w.drop (w.length - w.length / 2))
      have sa:=jl k (w.take (w.length - w.length / 2)).length (by rw [bN];omega) (by rw [bN];omega)
      have sb:=jl k (w.drop (w.length - w.length / 2)).length (by rw [bO];omega) (by rw [bO];omega)
      have p4:4 ^ k≤4 ^ 7:=Nat.pow_le_pow_right (by decide) (by omega)
      have e:eW (k+1+1) w=eW (k+1) (w.take (w.length - w.length / 2))++eW (k+1) (w.drop (w.length - w.length / 2))++NH.contr (eW (k+1) (w.take (w.length - w.length / 2)))++NH.contr (eW (k+1) (w.drop (w.length - w.length / 2))):=by
        rw [eW,if_neg h]
      rw [e]
      exact qZ _ w ((w.length - w.length / 2:Nat):Int) w.length _ _ _ _ (by omega) rfl (by omega) (by decide) (by omega) (gn w _ (by omega)) (gm w _ (by omega)) (ih _ (by omega) (by rw [bN];omega) (by rw [bN];omega)) (ih _ (by omega) (by rw [bO];omega) (by rw [bO];omega)) (eZ _ (by omega)) (eZ _ (by omega)) (NH.bh _) (NH.bh _) (by omega) (by omega) (by omega)
theorem ti (self:List PyData→Option Sl) (n h h' A B:Int) (n1:n≠1) (d:fP 2=true) (hh:n / 2=h') (e0:n - h'=h) (ea:self [.int h]=some (.sh (.int A))) (eb:self [.int h']=some (.sh (.int B))) (ok:d8 2 (A+B)=true):cq 1 1 (b8 self) [.int n]=some (.sh (.int (2*(A+B)))):=by
  simp only [cq,List.length_cons,List.length_nil,Nat.zero_add,cI,b8,ay,aP,ck,ag,ad,av,List.map_cons,List.map_nil,Nat.sub_self,List.replicate,List.cons_append,List.nil_append,List.getElem?_cons_zero,Sl.isBr,Bool.false_and,Bool.false_eq_true,pC,dW,da,look,Sl.val,Option.bind_some,if_false,aQ,n1,decide_false,Option.map_some,aF,aw,ak,af,cH,jA,kA,if_true,aq,bz,dA,cG,iS,Bool.not_false,Bool.true_or,Bool.and_true,d,hh,e0,aH,ea,eb,ok,cp,bi,bH]
theorem mq (self:List PyData→Option Sl):cq 1 1 (b8 self) [.int 1]=some (.sh (.int 1)):=by
  simp only [cq,List.length_cons,List.length_nil,Nat.zero_add,cI,b8,ay,aP,ck,ag,ad,av,List.map_cons,List.map_nil,Nat.sub_self,List.replicate,List.cons_append,List.nil_append,List.getElem?_cons_zero,Sl.isBr,Bool.false_and,Bool.false_eq_true,pC,dW,da,look,Sl.val,Option.bind_some,if_false,aQ,decide_true,Option.map_some,aF,aw,if_true,ak,af,cH,jA,kA,aq,bz,dA,cG,iS,Bool.not_false,Bool.true_or,Bool.and_true,cp,bi,bH]
theorem tj:∀(k n:Nat),1≤n→n≤2 ^ k→cf (k+1) [.int (n:Int)]=some (.sh (.int ((pv (k+1) n:Nat):Int))):=by
  intro k
  induction k with
  | zero=>
    intro n h1 h2
    have:n=1:=by omega
    subst this
    exact mq _
  | succ k ih=>
    intro n h1 h2
    by_cases h:n=1
    · subst h
      exact mq _
    · rw [Nat.pow_succ] at h2
      have e:pv (k+1+1) n=2*(pv (k+1) (n - n / 2)+pv (k+1) (n / 2)):=by rw [pv,if_neg h]
      rw [e,Int.natCast_mul,Int.natCast_add]
      exact ti _ n ((n - n / 2:Nat):Int) ((n / 2:Nat):Int) _ _ (by omega) (by decide) (by omega) (by omega) (ih _ (by omega) (by omega)) (ih _ (by omega) (by omega)) (n_ (by decide) (by decide))
theorem wJ:List.lookup ("NoNails":Str) [(("NoNails":Str),false)]=some false:=by decide+kernel
theorem vA:List.lookup ("NoNails":Str) [(("NoNails":Str),true)]=some true:=by decide+kernel
theorem wK:(List.countP id [false,true,false,false,false,false,false,false,false,false]:Nat)=1:=by decide
theorem wL:List.findIdx id [false,true,false,false,false,false,false,false,false,false]=1:=by decide
theorem mr:cD [pb "NoNails"]=some (.sh (.str "nails")):=by
  have d1:(1:Nat) < 10:=by decide
  simp only [cD,cq,pb,List.length_cons,List.length_nil,Nat.zero_add,cI,eV,ay,aO,b4,ar,di,ad,av,List.map_cons,List.map_nil,Nat.reduceSub,List.replicate,List.cons_append,List.nil_append,List.getElem?_cons_zero,look,Sl.val,ft,gf,Option.bind_some,wJ,Option.map_some,frz,fv,gg,gh,bx,vA,Nat.reduceAdd,Nat.reduceLeDiff,if_true,PL.settle,frzAll,Nat.reduceLT,List.set_cons_succ,List.set_cons_zero,ag,Sl.isBr,Bool.false_and,Bool.false_eq_true,gi,gj,gk,bz,dA,cG,if_false,eS,fw,fz,aP,fM,aY,bZ,dJ,ck,iE,pC,fQ,da,aF,aw,iF,fY,List.getElem?_cons_succ,Option.any_some,Bool.not_false,Bool.true_or,Bool.and_true,decide_true,dQ,Bool.not_true,fJ,wK,Int.cast_ofNat_Int,aQ,wL,and_self,jY,cp,bi,bH]
theorem jt (d:PyData) (e:ap [d]=some ("NoNails":Str)):ax [d]=some (.sh (.str "nails")):=by
  have r:fq ap (af false (ad 0) aq) [.sh d, .ow [], .no]=some (("NoNails":Str),([.sh d, .ow [], .no]:List Sl)):=by
    simp only [fq,af,ad,List.getElem?_cons_zero,Sl.isBr,Bool.false_and,Bool.false_eq_true,aq,Option.map_some,if_false,Option.bind_some,aH,look,Sl.val,e]
  have o:=mr
  simp only [pb] at o
  simp only [ax,cq,List.length_cons,List.length_nil,Nat.zero_add,cI,dL,ay,aO,b4,bx,av,List.map_cons,List.map_nil,Nat.reduceSub,List.replicate,List.cons_append,List.nil_append,Option.bind_some,Nat.reduceLeDiff,if_true,PL.settle,frz,frzAll,Nat.reduceAdd,Nat.reduceLT,List.set_cons_succ,List.set_cons_zero,qT,ak,af,ad,Sl.isBr,Bool.false_and,Bool.false_eq_true,aq,Option.map_some,if_false,List.mem_cons,List.not_mem_nil,or_false,aF,pb,r,true_and,List.getElem?_cons_succ,List.getElem?_cons_zero,aH,look,Sl.val,o,cp,bi,bH]
theorem ms (d:PyData) (c:List PyData) (hf:aS c=true) (e:ap [d]=none) (k:bn [d]=some (.ow c)):ax [d]=some (.ow c):=by
  have r:fq ap (af false (ad 0) aq) [.sh d, .ow [], .no]=none:=by
    simp only [fq,af,ad,List.getElem?_cons_zero,Sl.isBr,Bool.false_and,Bool.false_eq_true,aq,Option.map_some,if_false,Option.bind_some,aH,look,Sl.val,e,Option.map_none]
  simp only [ax,cq,List.length_cons,List.length_nil,Nat.zero_add,cI,dL,ay,aO,b4,bx,av,List.map_cons,List.map_nil,Nat.reduceSub,List.replicate,List.cons_append,List.nil_append,Option.bind_some,Nat.reduceLeDiff,if_true,PL.settle,frz,frzAll,Nat.reduceAdd,Nat.reduceLT,List.set_cons_succ,List.set_cons_zero,qT,ak,af,ad,Sl.isBr,Bool.false_and,Bool.false_eq_true,aq,Option.map_some,if_false,aF,r,List.getElem?_cons_zero,aH,look,Sl.val,k,List.getElem?_cons_succ,cp,bi,hf]
def az (a:Nat):Prop:=97≤a∧a < 123
theorem q5 {a:Nat} (h:az a):a∈List.range' 97 26:=List.mem_range'_1.mpr ⟨h.1,h.2⟩
def dk (a:Nat):PyData:= .str ⟨#[a]⟩
def dR (a:Nat):Str:=⟨#[a]⟩
theorem q9 {a b:Nat} (h:dR a=dR b):a=b:=by
  simp [dR] at h;exact h
theorem tm {a b:Nat} (h:a≤b):k_ (dR a) (dR b)=true:=by
  have:[a]≤[b]:=by
    rcases Nat.lt_or_ge a b with k | k
    · exact List.le_of_lt (List.Lex.rel k)
    · rw [Nat.le_antisymm h k];exact List.le_refl _
  exact decide_eq_true this
theorem tu (ks:List Str) (x y:Str):y∈rA ks x↔y∈ks∨y=x:=by
  unfold rA
  split
  · rename_i h
    exact ⟨.inl,fun z=>z.elim id fun e=>e▸h⟩
  · simp
theorem px {ks:List Str} (h:ks.Nodup) (x:Str):(rA ks x).Nodup:=by
  unfold rA
  split
  · exact h
  · rename_i k
    rw [List.nodup_append]
    refine ⟨h,by simp,fun a ha b hb=>?_⟩
    rw [List.mem_singleton.mp hb]
    exact fun e=>k (e▸ha)
theorem kT:∀(ss ks:List Str),ks.Nodup→(ss.foldl rA ks).Nodup∧∀y,y∈ss.foldl rA ks↔y∈ks∨y∈ss
  | [],ks,h=>⟨h,fun y=>by simp⟩
  | s::ss,ks,h=>by
    obtain ⟨a,b⟩:=kT ss (rA ks s) (px h s)
    refine ⟨a,fun y=>?_⟩
    rw [List.foldl_cons,b y,tu,List.mem_cons,or_assoc]
theorem py (ss:List Str):(fN ss).Nodup:=(kT ss [] List.nodup_nil).1
theorem tw (ss:List Str) (y:Str):y∈fN ss↔y∈ss:=by
  rw [fN,(kT ss [] List.nodup_nil).2 y];simp
def bq (w:List Nat):List Nat:=(List.range' 97 26).filter fun a=>decide (a∈w)
theorem inOrd_mem {w:List Nat} {a:Nat}:a∈bq w↔a∈List.range' 97 26∧a∈w:=by simp [bq]
theorem ju {α:Type} [DecidableEq α]:∀{l m:List α},l.Nodup→m.Nodup→(∀a,a∈l↔a∈m)→l.Perm m
  | [],m,_,_,h=>by
    have:m=[]:=by
      cases m with
      | nil=>rfl
      | cons b m=>exact absurd ((h b).mpr (by simp)) (by simp)
    rw [this]
  | a::l,m,hl,hm,h=>by
    have ha:a∈m:=(h a).mp (by simp)
    have hl':=List.nodup_cons.mp hl
    have p:=List.perm_cons_erase ha
    refine ((ju hl'.2 (hm.erase a) fun b=>?_).cons a).trans p.symm
    rw [List.Nodup.mem_erase_iff hm,←h b,List.mem_cons]
    exact ⟨fun k=>⟨fun e=>hl'.1 (e▸k), .inr k⟩,fun k=>k.2.resolve_left k.1⟩
theorem nt {w:List Nat} (h:w.Nodup):(w.map dR).Nodup:=by
  rw [List.Nodup,List.pairwise_map]
  exact h.imp fun k e=>k (q9 e)
theorem ip (w:List Nat):(bq w).Nodup:=List.Nodup.sublist List.filter_sublist (List.nodup_range' ..)
theorem kU (w:List Nat):((bq w).map dR).Pairwise fun a b=>k_ a b=true:=by
  rw [List.pairwise_map]
  have h:(List.range' 97 26).Pairwise (· < ·):=List.pairwise_lt_range'
  exact (h.sublist List.filter_sublist).imp fun k=>tm (Nat.le_of_lt k)
theorem mt {w:List Nat} (hw:∀a∈w,a∈List.range' 97 26):ib (fN (w.map dR))=(bq w).map dR:=by
  refine (List.Perm.eq_of_pairwise (fun _ _ _ _ h k=>lJ h k) (kU w) (List.pairwise_mergeSort g_ j2 _) ?_).symm
  refine List.Perm.trans ?_ (List.mergeSort_perm _ k_).symm
  refine ju (nt (ip w)) (py _) fun y=>?_
  rw [tw,List.mem_map,List.mem_map]
  constructor
  · rintro ⟨a,ha,rfl⟩
    exact ⟨a,(inOrd_mem.mp ha).2,rfl⟩
  · rintro ⟨a,ha,rfl⟩
    exact ⟨a,inOrd_mem.mpr ⟨hw a ha,ha⟩,rfl⟩
theorem tz {w:List Nat} (hw:∀a∈w,a∈List.range' 97 26):(fN (w.map dR)).length≤26:=by
  rw [←j4,mt hw,List.length_map]
  refine Nat.le_trans (List.length_filter_le _ _) (by simp)
theorem tB (w:List Nat) (a:Nat):(Builtin.Str.occurrences ⟨w.toArray⟩ ⟨#[a]⟩ 0 (⟨w.toArray⟩:Str).length 1).isEmpty= !decide (a∈w):=by
  have h:=PySem.StrLaws.found_one ⟨w.toArray⟩ a
  rw [List.toList_toArray] at h
  rw [←h,Bool.not_not]
theorem tD {a:Nat} (h:az a):decide ([a] < (Str.ofString "a").cps.toList)=false:=by
  have e:(Str.ofString "a").cps.toList=[97]:=by decide+kernel
  rw [e]
  refine decide_eq_false fun k=>?_
  have:a < 97:=by
    cases k with
    | rel k=>exact k
    | cons k=>cases k
  exact absurd this (Nat.not_lt.mpr h.1)
theorem tE {a:Nat} (h:az a):decide ((Str.ofString "z").cps.toList < [a])=false:=by
  have e:(Str.ofString "z").cps.toList=[122]:=by decide+kernel
  rw [e]
  refine decide_eq_false fun k=>?_
  have:122 < a:=by
    cases k with
    | rel k=>exact k
    | cons k=>cases k
  exact absurd this (Nat.not_lt.mpr (Nat.le_of_lt_succ h.2))
theorem jv {a:Nat} (h:az a):aE [.str ⟨#[a]⟩]=some (.sh (.bool true)):=by
  have l:(⟨#[a]⟩:Str).length=1:=rfl
  have t:(#[a]:Array Nat).toList=[a]:=rfl
  have lo:=tD h
  have hi:=tE h
  simp only [aE,cq,List.length_cons,List.length_nil,Nat.zero_add,cI,dB,aF,jT,di,ad,av,List.map_cons,List.map_nil,Nat.sub_self,List.replicate,List.cons_append,List.nil_append,List.getElem?_cons_zero,look,Sl.val,dc,Ty.is,kZ,Option.bind_some,Option.map_some,ag,cE,af,Sl.isBr,Bool.false_and,Bool.false_eq_true,aq,if_false,cF,pC,dW,da,fW,Bool.or_false,iv,Cm.i,Cm.s,aH,l,Nat.reduceLeDiff,Int.cast_ofNat_Int,if_true,aQ,decide_true,hi,Bool.not_false,lo,cp,bi,bH]
theorem ke (x0:Sl):∀(w:List Nat) (a:Sl),(∀y∈w,az y)→∃a',dq aD aN (w.map dk) [x0,a]=some ([x0,a'], .nx)
  | [],a,_=>⟨a,rfl⟩
  | y::w,a,h=>by
    have n:=jv (h y (List.mem_cons_self ..))
    have e:(aD (dk y) [x0,a]).bind aN=some ([x0, .sh (dk y)], .nx):=by
      simp only [aD,bA,List.length_cons,List.length_nil,Nat.zero_add,Nat.reduceAdd,Nat.reduceLT,dk,List.set_cons_succ,List.set_cons_zero,if_true,aN,Option.bind_some,aP,aY,bZ,ak,af,ad,List.getElem?_cons_succ,List.getElem?_cons_zero,Sl.isBr,Bool.false_and,Bool.false_eq_true,aq,Option.map_some,if_false,aH,look,Sl.val,n,dQ,Bool.not_true,aw]
    obtain ⟨a',ih⟩:=ke x0 w (.sh (dk y)) fun z hz=>h z (List.mem_cons_of_mem _ hz)
    refine ⟨a',?_⟩
    rw [List.map_cons,dq,e]
    exact ih
theorem gL (w:List Nat):gX ⟨w.toArray⟩=w.map dk:=by simp [gX,dk]
theorem wM (w:List Nat):gu ⟨w.toArray⟩=w.map dR:=by simp [gu,dR]
theorem nu (w:List Nat):d0 ((w.map dR).map PyData.str)=some (w.map dR):=by
  induction w with
  | nil=>rfl
  | cons a w ih=>simp only [List.map_cons,d0,ih,Option.map_some]
theorem iq:∀(w:List Nat),d0 (w.map dk)=some (w.map dR)
  | []=>rfl
  | a::w=>by simp only [List.map_cons,dk,d0];rw [iq w];rfl
theorem oj (w:List Nat):((w.map dR).map (·.length)).sum+(w.map dR).length*(Str.ofString "").length=w.length:=by
  have:(Str.ofString "").length=0:=rfl
  rw [this,Nat.mul_zero,Nat.add_zero]
  induction w with
  | nil=>rfl
  | cons a w ih=>simp only [List.map_cons,List.sum_cons,ih,List.length_cons];show 1+_=_;omega
theorem mv:∀(w:List Nat),Txt.join "" (w.map dR)=⟨w.toArray⟩:=by
  intro w
  show Builtin.Str.glued "" _=_
  rw [StrLaws.glued_eq_join]
  induction w with
  | nil=>rfl
  | cons a w ih=>
    cases w with
    | nil=>rfl
    | cons b w=>
      have e:Str.join "" ((a::b::w).map dR)=(⟨#[a]⟩:Str)++""++Str.join "" ((b::w).map dR):=rfl
      rw [e,ih]
      show (⟨(#[a]++(Str.ofString "").cps)++(b::w).toArray⟩:Str)=_
      rw [show (Str.ofString "").cps=#[] by decide+kernel]
      simp
theorem kf (w:List Nat):(bq w).length≤1000000:=Nat.le_trans (List.length_filter_le _ _) (by simp)
theorem kg {w:List Nat} (h:∀y∈w,az y) (hl:w.length≤1000):bJ [.str ⟨w.toArray⟩]=some (.sh (.str ⟨(bq w).toArray⟩)):=by
  obtain ⟨a,e⟩:=ke (.sh (.str ⟨w.toArray⟩)) w .no h
  have d:=mt fun y hy=>q5 (h y hy)
  have d2:(w.map dR).length < 4000∧(fN (w.map dR)).length < 64:=⟨by rw [List.length_map];omega,Nat.lt_of_le_of_lt (tz fun y hy=>q5 (h y hy)) (by decide)⟩
  have l:=oj (bq w)
  have l2:=kf w
  simp only [bJ,cq,List.length_cons,List.length_nil,Nat.zero_add,cI,gz,ay,aP,aY,bZ,di,ad,av,List.map_cons,List.map_nil,Nat.reduceSub,List.replicate,List.cons_append,List.nil_append,List.getElem?_cons_zero,look,Sl.val,dc,Ty.is,kZ,Option.bind_some,Option.map_some,dQ,Bool.not_true,aw,Bool.false_eq_true,if_false,gW,f_,frz,aF,j1,jb,nY,gL,e,wM,d2,and_self,d,if_true,nu,l,l2,mv,cp,bi,bH]
theorem q_ {a:Nat} (h:a < 97):decide ([a] < (Str.ofString "a").cps.toList)=true:=by
  have e:(Str.ofString "a").cps.toList=[97]:=by decide+kernel
  rw [e]
  exact decide_eq_true (List.Lex.rel h)
theorem re {a:Nat} (h:97≤a):decide ([a] < (Str.ofString "a").cps.toList)=false:=by
  have e:(Str.ofString "a").cps.toList=[97]:=by decide+kernel
  rw [e]
  refine decide_eq_false fun k=>?_
  have:a < 97:=by
    cases k with
    | rel k=>exact k
    | cons k=>cases k
  omega
theorem rf {a:Nat} (h:122 < a):decide ((Str.ofString "z").cps.toList < [a])=true:=by
  have e:(Str.ofString "z").cps.toList=[122]:=by decide+kernel
  rw [e]
  exact decide_eq_true (List.Lex.rel h)
theorem jH {a:Nat} (h:¬az a):aE [.str ⟨#[a]⟩]=some (.sh (.bool false)):=by
  have l:(⟨#[a]⟩:Str).length=1:=rfl
  have t:(#[a]:Array Nat).toList=[a]:=rfl
  by_cases k:a < 97
  · have lo:=q_ k
    simp only [aE,cq,List.length_cons,List.length_nil,Nat.zero_add,cI,dB,aF,jT,di,ad,av,List.map_cons,List.map_nil,Nat.sub_self,List.replicate,List.cons_append,List.nil_append,List.getElem?_cons_zero,look,Sl.val,dc,Ty.is,kZ,Option.bind_some,Option.map_some,ag,cE,af,Sl.isBr,Bool.false_and,Bool.false_eq_true,aq,if_false,cF,pC,dW,da,fW,Bool.or_false,iv,Cm.i,Cm.s,aH,l,Nat.reduceLeDiff,Int.cast_ofNat_Int,if_true,aQ,decide_true,lo,Bool.not_true,cp,bi,bH]
  · have lo:=re (show 97≤a by omega)
    have hi:=rf (show 122 < a by unfold az at h;omega)
    simp only [aE,cq,List.length_cons,List.length_nil,Nat.zero_add,cI,dB,aF,jT,di,ad,av,List.map_cons,List.map_nil,Nat.sub_self,List.replicate,List.cons_append,List.nil_append,List.getElem?_cons_zero,look,Sl.val,dc,Ty.is,kZ,Option.bind_some,Option.map_some,ag,cE,af,Sl.isBr,Bool.false_and,Bool.false_eq_true,aq,if_false,cF,pC,dW,da,fW,Bool.or_false,iv,Cm.i,Cm.s,aH,l,Nat.reduceLeDiff,Int.cast_ofNat_Int,if_true,aQ,decide_true,hi,Bool.not_true,lo,Bool.not_false,cp,bi,bH]
theorem tF (x0 a:Sl) (y:Nat) (n:aE [.str ⟨#[y]⟩]=some (.sh (.bool true))) (ds:List PyData):eB aD aN (jh (aY (bZ (ak aE (af false (ad 1) aq)))) (cM "NoNails")) (dk y::ds) [x0,a]=eB aD aN (jh (aY (bZ (ak aE (af false (ad 1) aq)))) (cM "NoNails")) ds [x0, .sh (dk y)]:=by
  have e:aD (dk y) [x0,a]=some [x0, .sh (dk y)]:=rfl
  rw [eB]
  show (aD (dk y) [x0,a]).bind _=_
  rw [e,Option.bind_some]
  simp only [jh,aY,bZ,ak,af,ad,dk,List.getElem?_cons_succ,List.getElem?_cons_zero,Sl.isBr,Bool.false_and,Bool.false_eq_true,aq,Option.map_some,if_false,Option.bind_some,aH,look,Sl.val,n,dQ,Bool.not_true,aN,aP,aw]
theorem nv (x0 a:Sl) (y:Nat) (n:aE [.str ⟨#[y]⟩]=some (.sh (.bool false))) (ds:List PyData):eB aD aN (jh (aY (bZ (ak aE (af false (ad 1) aq)))) (cM "NoNails")) (dk y::ds) [x0,a]=some (("NoNails":Str),([x0, .sh (dk y)]:List Sl)):=by
  have e:aD (dk y) [x0,a]=some [x0, .sh (dk y)]:=rfl
  rw [eB]
  show (aD (dk y) [x0,a]).bind _=_
  rw [e,Option.bind_some]
  simp only [jh,aY,bZ,ak,af,ad,dk,List.getElem?_cons_succ,List.getElem?_cons_zero,Sl.isBr,Bool.false_and,Bool.false_eq_true,aq,Option.map_some,if_false,Option.bind_some,aH,look,Sl.val,n,dQ,Bool.not_false,cM]
theorem om (x0:Sl) (ds:List PyData):∀(w:List Nat) (a:Sl),(∀y∈w,az y)→∃a',eB aD aN (jh (aY (bZ (ak aE (af false (ad 1) aq)))) (cM "NoNails")) (w.map dk++ds) [x0,a]=eB aD aN (jh (aY (bZ (ak aE (af false (ad 1) aq)))) (cM "NoNails")) ds [x0,a']:=by
  intro w
  induction w with
  | nil=>exact fun a _=>⟨a,rfl⟩
  | cons y w ih=>
    intro a h
    obtain ⟨a',k⟩:=ih (.sh (dk y)) fun z hz=>h z (List.mem_cons_of_mem _ hz)
    refine ⟨a',?_⟩
    rw [List.map_cons,List.cons_append,tF x0 a y (jv (h y (List.mem_cons_self ..)))]
    exact k
theorem jw {w:List Nat} (h:∀y∈w,az y):aA [.str ⟨w.toArray⟩]=none:=by
  obtain ⟨a,e⟩:=om (.sh (.str ⟨w.toArray⟩)) [] w .no h
  rw [List.append_nil] at e
  have z:∀E,eB aD aN (jh (aY (bZ (ak aE (af false (ad 1) aq)))) (cM "NoNails")) [] E=none:=fun _=>rfl
  rw [z] at e
  simp only [aA,mz,List.length_cons,List.length_nil,Nat.zero_add,b7,m_,jh,aY,bZ,di,ad,av,List.map_cons,List.map_nil,Nat.reduceSub,List.replicate,List.cons_append,List.nil_append,List.getElem?_cons_zero,look,Sl.val,dc,Ty.is,kZ,Option.bind_some,Option.map_some,dQ,Bool.not_true,lY,aP,aw,Bool.false_eq_true,if_false,sZ,f_,frz,gL,if_true] at e ⊢
  rw [e]
  rfl
theorem nw {u v:List Nat} {s:Nat} (h:∀y∈u,az y) (hs:¬az s):aA [.str ⟨(u++s::v).toArray⟩]=some ("NoNails":Str):=by
  obtain ⟨a,e⟩:=om (.sh (.str ⟨(u++s::v).toArray⟩)) ((s::v).map dk) u .no h
  rw [←List.map_append,List.map_cons,nv _ a s (jH hs)] at e
  simp only [List.map_append,List.map_cons,aA,mz,List.length_cons,List.length_nil,Nat.zero_add,b7,m_,jh,aY,bZ,di,ad,av,List.map_nil,Nat.reduceSub,List.replicate,List.cons_append,List.nil_append,List.getElem?_cons_zero,look,Sl.val,dc,Ty.is,kZ,Option.bind_some,Option.map_some,dQ,Bool.not_true,lY,aP,aw,Bool.false_eq_true,if_false,sZ,f_,frz,gL,if_true] at e ⊢
  rw [e]
  rfl
theorem dO {d:PyData} (h:aA [d]=some ("NoNails":Str)):ap [d]=some ("NoNails":Str):=by
  simp only [ap,mz,List.length_cons,List.length_nil,Nat.zero_add,ce,m_,fq,af,ad,av,List.map_cons,List.map_nil,Nat.reduceSub,List.replicate,List.cons_append,List.nil_append,List.getElem?_cons_zero,Sl.isBr,Bool.false_and,Bool.false_eq_true,aq,Option.map_some,if_false,Option.bind_some,aH,look,Sl.val,h,if_true]
theorem rh:(Str.ofString "")=⟨([]:List Nat).toArray⟩:=by decide+kernel
theorem pz (d:PyData) (t:Str) (h:aA [d]=none) (k:bJ [d]=some (.sh (.str t))) (q:jx (.str t) (.str "")=some true):ap [d]=some ("NoNails":Str):=by
  simp only [ap,mz,List.length_cons,List.length_nil,Nat.zero_add,ce,m_,fq,af,ad,av,List.map_cons,List.map_nil,Nat.reduceSub,List.replicate,List.cons_append,List.nil_append,List.getElem?_cons_zero,Sl.isBr,Bool.false_and,Bool.false_eq_true,aq,Option.map_some,if_false,Option.bind_some,aH,look,Sl.val,h,Option.map_none,lY,aO,ak,k,PL.settle,frz,frzAll,Nat.reduceAdd,Nat.reduceLT,List.set_cons_succ,List.set_cons_zero,if_true,jh,ck,ag,List.getElem?_cons_succ,pC,dW,da,q,cM]
theorem pA (d:PyData) (t:Str) (h:aA [d]=none) (k:bJ [d]=some (.sh (.str t))) (q:jx (.str t) (.str "")=some false):ap [d]=none:=by
  simp only [ap,mz,List.length_cons,List.length_nil,Nat.zero_add,ce,m_,fq,af,ad,av,List.map_cons,List.map_nil,Nat.reduceSub,List.replicate,List.cons_append,List.nil_append,List.getElem?_cons_zero,Sl.isBr,Bool.false_and,Bool.false_eq_true,aq,Option.map_some,if_false,Option.bind_some,aH,look,Sl.val,h,Option.map_none,lY,aO,ak,k,PL.settle,frz,frzAll,Nat.reduceAdd,Nat.reduceLT,List.set_cons_succ,List.set_cons_zero,if_true,jh,ck,ag,List.getElem?_cons_succ,pC,dW,da,q]
theorem rj (d:PyData) (t:Str) (c:List PyData) (k:bJ [d]=some (.sh (.str t))) (q:jx (.str t) (.str "")=some false) (e:bT [.str t]=some (.ow c)) (hf:aS c=true):bn [d]=some (.ow c):=by
  simp only [bn,cq,List.length_cons,List.length_nil,Nat.zero_add,cI,dy,ay,aO,ak,af,ad,av,List.map_cons,List.map_nil,Nat.reduceSub,List.replicate,List.cons_append,List.nil_append,List.getElem?_cons_zero,Sl.isBr,Bool.false_and,Bool.false_eq_true,aq,Option.map_some,if_false,Option.bind_some,aH,look,Sl.val,k,PL.settle,frz,frzAll,Nat.reduceAdd,Nat.reduceLT,List.set_cons_succ,List.set_cons_zero,if_true,aP,ck,ag,pC,dW,da,aw,aF,List.getElem?_cons_succ,q,e,cp,bi,hf]
theorem uc (u v:List Nat):jx (.str ⟨u.toArray⟩) (.str ⟨v.toArray⟩)=some (decide (u=v)):=by
  rw [gy]
  congr 1
  exact decide_eq_decide.mpr qX
theorem kW (u:List Nat):jx (.str ⟨u.toArray⟩) (.str "")=some (decide (u=[])):=by
  rw [rh]
  exact uc u []
theorem kh:ap [.str ""]=some ("NoNails":Str):=by
  rw [rh]
  refine pz _ _ (jw fun y hy=>by cases hy) (kg (fun y hy=>by cases hy) (by simp)) ?_
  have e:bq []=[]:=by decide
  rw [e,kW]
  rfl
theorem ud (w:List Nat):(bq w).length≤26:=Nat.le_trans (List.length_filter_le _ _) (by simp)
theorem rk {w:List Nat} (h:∀y∈w,az y) (hl:w.length≤1000) (hne:bq w≠[]):ap [.str ⟨w.toArray⟩]=none∧bn [.str ⟨w.toArray⟩]=some (.ow ((eW 8 (bq w)).map aX)):=by
  have q:=kW (bq w)
  rw [decide_eq_false hne] at q
  have k:=kg h hl
  have l1:1≤(bq w).length:=List.length_pos_iff.mpr hne
  have l2:=ud w
  exact ⟨pA _ _ (jw h) k q,rj _ _ _ k q (pw 7 (bq w) (by decide) l1 (by omega)) (cr _)⟩
theorem mw {w:List Nat} (h:∀y∈w,az y) (hl:w.length≤1000) (hne:bq w≠[]):ax [.str ⟨w.toArray⟩]=some (.ow ((eW 8 (bq w)).map aX)):=ms _ _ (cr _) (rk h hl hne).1 (rk h hl hne).2
theorem tH:aA [.none]=some ("NoNails":Str):=by simp only [aA,mz,List.length_cons,List.length_nil,Nat.zero_add,b7,m_,jh,aY,bZ,di,ad,av,List.map_cons,List.map_nil,Nat.reduceSub,List.replicate,List.cons_append,List.nil_append,List.getElem?_cons_zero,look,Sl.val,dc,Ty.is,kZ,Option.bind_some,Option.map_some,dQ,Bool.not_false,cM,if_true]
theorem vB (i:Int):aA [.int i]=some ("NoNails":Str):=by simp only [aA,mz,List.length_cons,List.length_nil,Nat.zero_add,b7,m_,jh,aY,bZ,di,ad,av,List.map_cons,List.map_nil,Nat.reduceSub,List.replicate,List.cons_append,List.nil_append,List.getElem?_cons_zero,look,Sl.val,dc,Ty.is,kZ,Option.bind_some,Option.map_some,dQ,Bool.not_false,cM,if_true]
theorem tI (b:Bool):aA [.bool b]=some ("NoNails":Str):=by simp only [aA,mz,List.length_cons,List.length_nil,Nat.zero_add,b7,m_,jh,aY,bZ,di,ad,av,List.map_cons,List.map_nil,Nat.reduceSub,List.replicate,List.cons_append,List.nil_append,List.getElem?_cons_zero,look,Sl.val,dc,Ty.is,kZ,Option.bind_some,Option.map_some,dQ,Bool.not_false,cM,if_true]
theorem tJ (ds:List PyData):aA [.list ds]=some ("NoNails":Str):=by simp only [aA,mz,List.length_cons,List.length_nil,Nat.zero_add,b7,m_,jh,aY,bZ,di,ad,av,List.map_cons,List.map_nil,Nat.reduceSub,List.replicate,List.cons_append,List.nil_append,List.getElem?_cons_zero,look,Sl.val,dc,Ty.is,kZ,Option.bind_some,Option.map_some,dQ,Bool.not_false,cM,if_true]
theorem rl (ds:List PyData):aA [.tuple ds]=some ("NoNails":Str):=by simp only [aA,mz,List.length_cons,List.length_nil,Nat.zero_add,b7,m_,jh,aY,bZ,di,ad,av,List.map_cons,List.map_nil,Nat.reduceSub,List.replicate,List.cons_append,List.nil_append,List.getElem?_cons_zero,look,Sl.val,dc,Ty.is,kZ,Option.bind_some,Option.map_some,dQ,Bool.not_false,cM,if_true]
theorem tK:aA [.dict []]=some ("NoNails":Str):=by simp only [aA,mz,List.length_cons,List.length_nil,Nat.zero_add,b7,m_,jh,aY,bZ,di,ad,av,List.map_cons,List.map_nil,Nat.reduceSub,List.replicate,List.cons_append,List.nil_append,List.getElem?_cons_zero,look,Sl.val,dc,Ty.is,kZ,Option.bind_some,Option.map_some,dQ,Bool.not_false,cM,if_true]
theorem wN:∀i,i < 6→∃d,[PyData.none, .int 3, .bool true, .list [.str "a"], .tuple [.str "a"], .dict []][i]? =some d∧ap [d]=some ("NoNails":Str)
  | 0,_=>⟨_,rfl,dO tH⟩
  | 1,_=>⟨_,rfl,dO (vB 3)⟩
  | 2,_=>⟨_,rfl,dO (tI true)⟩
  | 3,_=>⟨_,rfl,dO (tJ _)⟩
  | 4,_=>⟨_,rfl,dO (rl _)⟩
  | 5,_=>⟨_,rfl,dO tK⟩
  | n+6,h=>absurd h (by omega)
theorem vC {z:Int}:∃d,atI [PyData.none, .int 3, .bool true, .list [.str "a"], .tuple [.str "a"], .dict []] (z % 6)=some d∧ap [d]=some ("NoNails":Str):=by
  have m0:=Int.emod_nonneg z (show (6:Int)≠0 by decide)
  have m1:=Int.emod_lt_of_pos z (show (0:Int) < 6 by decide)
  obtain ⟨k,hk⟩:=Int.eq_ofNat_of_zero_le m0
  obtain ⟨d,e,r⟩:=wN k (by omega)
  refine ⟨d,?_,r⟩
  rw [hk]
  exact (ef _ k).trans e
theorem wO:(Str.ofString " AZ1-_.~").cps.toList=[32,65,90,49,45,95,46,126]:=by decide+kernel
theorem pB:(Str.ofString " AZ1-_.~").length≤1000000:=by decide+kernel
theorem rm (z:Int):∃s,atI (Str.ofString " AZ1-_.~").cps.toList (z % 8)=some s∧¬az s:=by
  rw [wO]
  have m0:=Int.emod_nonneg z (show (8:Int)≠0 by decide)
  have m1:=Int.emod_lt_of_pos z (show (0:Int) < 8 by decide)
  obtain ⟨k,hk⟩:=Int.eq_ofNat_of_zero_le m0
  have all:∀i,i < 8→∃s,[32,65,90,49,45,95,46,126][i]? =some s∧¬az s:=by
    intro i hi
    have:([32,65,90,49,45,95,46,126]:List Nat)[i]?.isSome:=by simp;omega
    obtain ⟨s,e⟩:=Option.isSome_iff_exists.mp this
    have m:=List.mem_of_getElem? e
    refine ⟨s,e,?_⟩
    simp only [List.mem_cons,List.not_mem_nil,or_false] at m
    unfold az
    omega
  obtain ⟨s,e,r⟩:=all k (by omega)
  refine ⟨s,?_,r⟩
  rw [hk]
  exact (ef _ k).trans e
theorem tL (t:List Nat) (z N:Int) (d:PyData) (lt:t.length≤1000000) (hN:(t.length:Int)+1=N) (n0:0 < N) (h0:z % 5=0) (ea:atI [PyData.none, .int 3, .bool true, .list [.str "a"], .tuple [.str "a"], .dict []] (z / 5 % 6)=some d) (d5:fP 5=true) (hout:∀r,cp (.sh d)=some r→True):∃r,aV [.str ⟨t.toArray⟩, .int z]=some r∧(r= .sh d∨r= .br d):=by
  by_cases hf:bH d=true
  · refine ⟨.sh d,?_, .inl rfl⟩
    simp only [aV,cq,List.length_cons,List.length_nil,Nat.zero_add,Nat.reduceAdd,cI,cR,ay,aO,ag,ad,av,List.map_cons,List.map_nil,Nat.reduceSub,List.replicate,List.cons_append,List.nil_append,List.getElem?_cons_succ,List.getElem?_cons_zero,Sl.isBr,Bool.false_and,Bool.false_eq_true,pC,cH,da,look,Sl.val,jA,Option.bind_some,if_false,d5,if_true,Option.map_some,cE,af,aq,cF,bz,dA,cG,Bool.not_false,Bool.true_or,Bool.and_true,fg,aH,dY,lt,hN,n0,decide_true,PL.settle,frz,frzAll,Nat.reduceLT,List.set_cons_succ,List.set_cons_zero,aP,ck,dW,aF,b4,ar,bx,Nat.reduceLeDiff,db,xi,fY,aw,gb,dF,dG,Int.reduceLT,h0,aQ,ea,cp,bi,hf]
  · refine ⟨.br d,?_, .inr rfl⟩
    simp only [aV,cq,List.length_cons,List.length_nil,Nat.zero_add,Nat.reduceAdd,cI,cR,ay,aO,ag,ad,av,List.map_cons,List.map_nil,Nat.reduceSub,List.replicate,List.cons_append,List.nil_append,List.getElem?_cons_succ,List.getElem?_cons_zero,Sl.isBr,Bool.false_and,Bool.false_eq_true,pC,cH,da,look,Sl.val,jA,Option.bind_some,if_false,d5,if_true,Option.map_some,cE,af,aq,cF,bz,dA,cG,Bool.not_false,Bool.true_or,Bool.and_true,fg,aH,dY,lt,hN,n0,decide_true,PL.settle,frz,frzAll,Nat.reduceLT,List.set_cons_succ,List.set_cons_zero,aP,ck,dW,aF,b4,ar,bx,Nat.reduceLeDiff,db,xi,fY,aw,gb,dF,dG,Int.reduceLT,h0,aQ,ea,cp,bi,hf]
theorem tM (t:List Nat) (z N:Int) (lt:t.length≤1000000) (hN:(t.length:Int)+1=N) (n0:0 < N) (h1:z % 5=1) (d5:fP 5=true):aV [.str ⟨t.toArray⟩, .int z]=some (.sh (.str "")):=by
  have q1:¬((1:Int)=0):=by decide
  simp only [aV,cq,List.length_cons,List.length_nil,Nat.zero_add,Nat.reduceAdd,cI,cR,ay,aO,ag,ad,av,List.map_cons,List.map_nil,Nat.reduceSub,List.replicate,List.cons_append,List.nil_append,List.getElem?_cons_succ,List.getElem?_cons_zero,Sl.isBr,Bool.false_and,Bool.false_eq_true,pC,cH,da,look,Sl.val,jA,Option.bind_some,if_false,d5,if_true,Option.map_some,cE,af,aq,cF,bz,dA,cG,Bool.not_false,Bool.true_or,Bool.and_true,fg,aH,dY,lt,hN,n0,decide_true,PL.settle,frz,frzAll,Nat.reduceLT,List.set_cons_succ,List.set_cons_zero,aP,ck,dW,aF,b4,ar,bx,Nat.reduceLeDiff,db,fY,aw,gb,dF,dG,Int.reduceLT,h1,aQ,q1,decide_false,cp,bi,bH]
theorem tN (t u v:List Nat) (s:Nat) (z N r j:Int) (lt:t.length≤1000) (hN:(t.length:Int)+1=N) (n0:0 < N) (hr:z % 5=r) (h0:r≠0) (h1:r≠1) (d5:fP 5=true) (d260:fP 260=true) (hj:z / 5 % N=j) (es:atI (Str.ofString " AZ1-_.~").cps.toList (z / 260 % 8)=some s) (el:(Str.ofString " AZ1-_.~").length≤1000000) (eu:Txt.slice (⟨t.toArray⟩:Str) none (some j)=⟨u.toArray⟩) (ev:Txt.slice (⟨t.toArray⟩:Str) (some j) none=⟨v.toArray⟩) (l1:t.length≤1000000) (l2:u.length+1≤1000000) (l3:u.length+1+v.length≤1000000):aV [.str ⟨t.toArray⟩, .int z]=some (.sh (.str ⟨(u++s::v).toArray⟩)):=by
  have w1:(⟨#[s]⟩:Str)=⟨[s].toArray⟩:=rfl
  have e1:(⟨u.toArray⟩:Str)++(⟨#[s]⟩:Str)=⟨(u++[s]).toArray⟩:=by rw [w1,ml]
  have e2:(⟨(u++[s]).toArray⟩:Str)++(⟨v.toArray⟩:Str)=⟨(u++s::v).toArray⟩:=by rw [ml];simp
  have ls:(⟨#[s]⟩:Str).length=1:=rfl
  have lu:(u++[s]).length=u.length+1:=by simp
  simp only [aV,cq,List.length_cons,List.length_nil,Nat.zero_add,Nat.reduceAdd,cI,cR,ay,aO,ag,ad,av,List.map_cons,List.map_nil,Nat.reduceSub,List.replicate,List.cons_append,List.nil_append,List.getElem?_cons_succ,List.getElem?_cons_zero,Sl.isBr,Bool.false_and,Bool.false_eq_true,pC,cH,da,look,Sl.val,jA,Option.bind_some,if_false,d5,if_true,Option.map_some,cE,af,aq,cF,bz,dA,cG,Bool.not_false,Bool.true_or,Bool.and_true,fg,aH,dY,l1,hN,n0,decide_true,hj,PL.settle,frz,frzAll,Nat.reduceLT,List.set_cons_succ,List.set_cons_zero,aP,ck,dW,aF,b4,ar,bx,Nat.reduceLeDiff,db,fY,aw,gb,dF,dG,el,Int.reduceLT,hr,aQ,h0,decide_false,h1,eu,d260,es,ls,l2,e1,ev,lu,l3,e2,cp,bi,bH]
theorem ny {t:List Nat} (ht:∀y∈t,az y) (lt:t.length≤1000) (z:Int):∃r d,aV [.str ⟨t.toArray⟩, .int z]=some r∧(r= .sh d∨r= .br d)∧ap [d]=some ("NoNails":Str):=by
  by_cases h0:z % 5=0
  · obtain ⟨d,ea,rr⟩:=vC (z:=z / 5)
    obtain ⟨r,e,k⟩:=tL t z _ d (by omega) rfl (by omega) h0 ea (by decide) fun _ _=>trivial
    exact ⟨r,d,e,k,rr⟩
  by_cases h1:z % 5=1
  · exact ⟨_,_,tM t z _ (by omega) rfl (by omega) h1 (by decide), .inl rfl,kh⟩
  · obtain ⟨s,es,ns⟩:=rm (z / 260)
    have m0:=Int.emod_nonneg (z / 5) (show ((t.length:Int)+1)≠0 by omega)
    have m1:=Int.emod_lt_of_pos (z / 5) (show (0:Int) < (t.length:Int)+1 by omega)
    obtain ⟨j,hj⟩:=Int.eq_ofNat_of_zero_le m0
    have e:=tN t (t.take j) (t.drop j) s z _ _ _ lt rfl (by omega) rfl h0 h1 (by decide) (by decide) hj es pB (gn t j (by omega)) (gm t j (by omega)) (by omega) (by rw [List.length_take];omega) (by rw [List.length_take,List.length_drop];omega)
    exact ⟨_,_,e, .inl rfl,dO (nw (fun y hy=>ht y (List.mem_of_mem_take hy)) ns)⟩
theorem vD:∀k,k < 26→atI (Str.ofString "abcdefghijklmnopqrstuvwxyz").cps.toList ((k:Nat):Int)=some (97+k):=by decide+kernel
theorem tO:(Str.ofString "abcdefghijklmnopqrstuvwxyz").length≤1000000:=by decide+kernel
theorem rn {a b c:PyData} {z:Int}:∃d,atI [a,b,c] (z % 3)=some d∧(d=a∨d=b∨d=c):=by
  have m0:=Int.emod_nonneg z (show (3:Int)≠0 by decide)
  have m1:=Int.emod_lt_of_pos z (show (0:Int) < 3 by decide)
  have:z % 3=0∨z % 3=1∨z % 3=2:=by omega
  rcases this with e | e | e
  · exact ⟨a,by rw [e];exact i5 .., .inl rfl⟩
  · exact ⟨b,by rw [e];exact jY .., .inr (.inl rfl)⟩
  · exact ⟨c,by rw [e];exact wA .., .inr (.inr rfl)⟩
theorem nz (sc:PyData) (cell k r:Int) (x2 a3 a4:Sl) (hk:0≤k) (hr:Builtin.bitAnd (cell / 2 ^ k.toNat) 1=r) (h:r≠1):(bc (.int k) [.sh sc, .sh (.int cell),x2,a3,a4]).bind be=some ([.sh sc, .sh (.int cell),x2, .sh (.int k),a4], .nx):=by
  simp only [bc,bA,List.length_cons,List.length_nil,Nat.zero_add,Nat.reduceAdd,Nat.reduceLT,List.set_cons_succ,List.set_cons_zero,if_true,be,dW,sK,sJ,fg,Option.bind_some,aP,ck,ag,ad,List.getElem?_cons_succ,List.getElem?_cons_zero,Sl.isBr,Bool.false_and,Bool.false_eq_true,da,look,Sl.val,jA,if_false,hk,decide_true,Option.map_some,pC,hr,aQ,h,decide_false,ay,aO,fY,dA,cG,PL.settle,frz,frzAll,b4,ar,bz,bx,ak,af,aq,aw]
theorem my (sc:PyData) (cell k r z1 m:Int) (t:List Nat) (y:Nat) (u:PyData) (a3 a4:Sl) (hk:0≤k) (hr:Builtin.bitAnd (cell / 2 ^ k.toNat) 1=r) (h:r=1) (ey:atI (Str.ofString "abcdefghijklmnopqrstuvwxyz").cps.toList k=some y) (el:(Str.ofString "abcdefghijklmnopqrstuvwxyz").length≤1000000) (ea:bB [sc, .int 1]=some (.sh (.int z1))) (em:cy [.int z1, .int k]=some (.sh (.int m)))
    (eu:atI [PyData.str ⟨(y::t).toArray⟩, .str ⟨(t++[y]).toArray⟩, .str ⟨(y::(t++[y])).toArray⟩] (m % 3)=some u) (l1:1+t.length≤1000000) (l2:t.length+1≤1000000) (l3:t.length+1+1≤1000000) (fu:bH u=true):
    (bc (.int k) [.sh sc, .sh (.int cell), .sh (.str ⟨t.toArray⟩),a3,a4]).bind be=some ([.sh sc, .sh (.int cell), .sh u, .sh (.int k), .sh (.str ⟨#[y]⟩)], .nx):=by
  have w1:(⟨#[y]⟩:Str)=⟨[y].toArray⟩:=rfl
  have e1:(⟨#[y]⟩:Str)++(⟨t.toArray⟩:Str)=⟨(y::t).toArray⟩:=by rw [w1,ml];rfl
  have e2:(⟨t.toArray⟩:Str)++(⟨#[y]⟩:Str)=⟨(t++[y]).toArray⟩:=by rw [w1,ml]
  have e3:(⟨(y::t).toArray⟩:Str)++(⟨#[y]⟩:Str)=⟨(y::(t++[y])).toArray⟩:=by rw [w1,ml];rfl
  have ly:(⟨#[y]⟩:Str).length=1:=rfl
  subst h
  simp only [bc,bA,List.length_cons,List.length_nil,Nat.zero_add,Nat.reduceAdd,Nat.reduceLT,List.set_cons_succ,List.set_cons_zero,if_true,be,dW,sK,sJ,fg,Option.bind_some,aP,ck,ag,ad,List.getElem?_cons_succ,List.getElem?_cons_zero,Sl.isBr,Bool.false_and,Bool.false_eq_true,da,look,Sl.val,jA,if_false,hk,decide_true,Option.map_some,pC,hr,aQ,ay,aO,fY,dA,cG,el,PL.settle,frz,frzAll,b4,ar,bz,bx,ak,af,aq,aw,ey,Bool.not_false,Bool.true_or,Bool.and_true,ly,dY,l1,e1,l2,e2,l3,e3,Nat.reduceLeDiff,aH,ea,em,Int.reduceLT,eu]
theorem tP (ns:List Int) (cell:Int):∀(n lo:Nat) (t:List Nat) (a3 a4:Sl),lo+n≤26→(∀y∈t,az y)→t.length≤2*lo→∃(t':List Nat) (a3' a4':Sl),dq bc be (kF lo n) [.sh (.list (ns.map .int)), .sh (.int cell), .sh (.str ⟨t.toArray⟩),a3,a4]=some ([.sh (.list (ns.map .int)), .sh (.int cell), .sh (.str ⟨t'.toArray⟩),a3',a4'], .nx)∧(∀y∈t',az y)∧t'.length≤52:=by
  intro n
  induction n with
  | zero=>exact fun lo t a3 a4 _ ht hl=>⟨t,a3,a4,rfl,ht,by omega⟩
  | succ n ih=>
    intro lo t a3 a4 hn ht hl
    rw [oU,dq]
    have c:((lo:Int)+1)=((lo+1:Nat):Int):=by omega
    rw [c]
    by_cases h:Builtin.bitAnd (cell / 2 ^ (lo:Int).toNat) 1=1
    · obtain ⟨m,em⟩:=nq (ns.getD 1 0) lo (by omega)
      have ea:=hM ns 1
      simp only [Int.natCast_one] at ea
      obtain ⟨u,eu,hu⟩:=rn (a:=PyData.str ⟨((97+lo)::t).toArray⟩) (b:= .str ⟨(t++[97+lo]).toArray⟩) (c:= .str ⟨((97+lo)::(t++[97+lo])).toArray⟩) (z:=m)
      have ha:az (97+lo):=⟨by omega,by omega⟩
      obtain ⟨t',rfl,ht',hl'⟩:∃t':List Nat,u= .str ⟨t'.toArray⟩∧(∀y∈t',az y)∧t'.length≤2*(lo+1):=by
        rcases hu with rfl | rfl | rfl
        · exact ⟨_,rfl,fun y hy=>(List.mem_cons.mp hy).elim (fun e=>e▸ha) (ht y),by simp;omega⟩
        · exact ⟨_,rfl,fun y hy=>(List.mem_append.mp hy).elim (ht y) (fun e=>List.mem_singleton.mp e▸ha),by simp;omega⟩
        · exact ⟨_,rfl,fun y hy=>(List.mem_cons.mp hy).elim (fun e=>e▸ha) fun hy=>(List.mem_append.mp hy).elim (ht y) (fun e=>List.mem_singleton.mp e▸ha),by simp;omega⟩
      rw [my _ cell lo _ _ m t (97+lo) _ a3 a4 (by omega) rfl h (vD lo (by omega)) tO ea em eu (by omega) (by omega) (by omega) rfl]
      exact ih (lo+1) t' _ _ (by omega) ht' hl'
    · rw [nz _ cell lo _ _ a3 a4 (by omega) rfl h]
      exact ih (lo+1) t _ _ (by omega) ht (by omega)
theorem jI (ns:List Int):∃t:List Nat,bp [.list (ns.map .int)]=some (.sh (.str ⟨t.toArray⟩))∧(∀y∈t,az y)∧t.length≤52:=by
  have ea:=hM ns 0
  simp only [Int.natCast_zero] at ea
  obtain ⟨t,a3,a4,e,ht,hl⟩:=tP ns (ns.getD 0 0) 26 0 [] .no .no (by decide) (fun y hy=>by cases hy) (by simp)
  refine ⟨t,?_,ht,hl⟩
  rw [show ((0:Nat):Int)=0 from rfl,←rh] at e
  have r26:(26:Int).toNat=26:=rfl
  simp only [bp,cq,List.length_cons,List.length_nil,Nat.zero_add,cI,dz,ay,aO,ak,af,ad,av,List.map_cons,List.map_nil,Nat.reduceSub,List.replicate,List.cons_append,List.nil_append,List.getElem?_cons_zero,Sl.isBr,Bool.false_and,Bool.false_eq_true,pC,aq,Option.map_some,if_false,Option.bind_some,aH,look,Sl.val,ea,PL.settle,frz,frzAll,Nat.reduceAdd,Nat.reduceLT,List.set_cons_succ,List.set_cons_zero,if_true,gW,mS,Int.reduceNeg,Int.reduceLE,and_self,r26,aF,e,List.getElem?_cons_succ,cp,bi,bH]
def xZ:b_:=(aO 1 (ak bp (af false (ad 0) aq)))
def x6:b_:=(aO 2 (j1 "" (du [none,some 1] (f_ (pC (.str "abcdefghijklmnopqrstuvwxyz"))) eD dM eF)))
def xj:b_:=(aP (fM (ck (ag fQ false (ak ax (af false (ak aV (af false (ad 1) (af false (ak bB (af false (ad 0) (af false (pC (.int 2)) aq))) aq))) aq)) (pC (.str "nails")))) (ck (ag fQ false (ak ax (af false (pC (.str "")) aq)) (pC (.str "nails")))))
  (aF (pC (.bool false)))
  aw)
def vR:b_:=(aP (ck (ag dW false (ad 2) (pC (.str ""))))
  (ay (aO 2 (pC (.str "k")))
  (aO 1 (pC (.str "kk"))))
  aw)
def x8:b_:=(aO 3 (ak ax (af false (ad 1) aq)))
def x9:b_:=(aP (fM (aY (bZ (ak ba (af false (ad 3) aq)))) (fM (ck (ag fQ false (ad 3) (ak dh (af false (ad 2) aq)))) (ck (ag fQ false (cE cF (af false (ad 3) aq)) (ak dg (af false (cE cF (af false (ad 2) aq)) aq))))))
  (aF (pC (.bool false)))
  aw)
def x_:b_:=(aP (ck (ag fQ false (ak bo (af false (ad 3) aq)) (ad 3)))
  (aF (pC (.bool false)))
  aw)
def yq:b_:=(gW (f_ (ad 2)) eG
  eI)
def ya:b_:=(aO 5 (kB (ad 3)))
def yb:b_:=(dX (cw 3 (db (ar (pC (.str "a")) (ar (pC (.int 0)) bx)))))
def vE:b_:=(dX (fo 3))
def vF:b_:=(aF (ag dW false (ak ax (af false (ad 2) aq)) (ad 5)))
theorem rq:l0=(ay xZ (ay x6 (ay xj (ay vR (ay x8 (ay x9 (ay x_ (ay yq (ay ya (ay yb (ay vE vF))))))))))):=rfl
theorem yc (t:List Nat) (a:Nat):dM [.sh (dk a), .sh (.str ⟨t.toArray⟩)]=some (decide (a∈t),[.sh (dk a), .sh (.str ⟨t.toArray⟩)]):=by
  have e:=tB t a
  simp only [dM,ck,ag,ad,dk,List.getElem?_cons_zero,Sl.isBr,Bool.false_and,Bool.false_eq_true,xW,da,look,Sl.val,if_false,xg,Option.bind_some,List.getElem?_cons_succ,e,Bool.not_not,Option.map_some]
theorem wP (t:List Nat):∀(w:List Nat) (x:Sl),de eD dM eF (w.map dk) [x, .sh (.str ⟨t.toArray⟩)]=some ((w.filter fun a=>decide (a∈t)).map dk):=by
  intro w
  induction w with
  | nil=>exact fun x=>rfl
  | cons a w ih=>
    intro x
    have e:eD (dk a) [x, .sh (.str ⟨t.toArray⟩)]=some [.sh (dk a), .sh (.str ⟨t.toArray⟩)]:=rfl
    have c:=yc t a
    have k:=ih (.sh (dk a))
    have el:eF [.sh (dk a), .sh (.str ⟨t.toArray⟩)]=some (.sh (dk a),[.sh (dk a), .sh (.str ⟨t.toArray⟩)]):=rfl
    rw [List.map_cons,de,e,Option.bind_some,c]
    by_cases h:a∈t
    · rw [List.filter_cons_of_pos (by simpa using h),List.map_cons]
      simp only [h,decide_true,Option.bind_some,if_true,el,k,frz,Option.map_some]
    · rw [List.filter_cons_of_neg (by simpa using h)]
      simp only [h,decide_false,Option.bind_some,Bool.false_eq_true,if_false,k]
theorem pD:(Str.ofString "abcdefghijklmnopqrstuvwxyz")=(⟨(List.range' 97 26).toArray⟩:Str):=by decide+kernel
theorem yd (x:Nat) (p:Pc):fA [.sh (aX p), .sh (dk x)]=some (!decide (p.1=x),[.sh (aX p), .sh (dk x)]):=by
  have q:=uc [p.1] [x]
  have q2:jx (.str ⟨#[p.1]⟩) (.str ⟨#[x]⟩)=some (decide (p.1=x)):=by
    have z:(decide ([p.1]=[x]))=decide (p.1=x):=by simp
    rw [←z];exact q
  simp only [fA,ck,ag,ad,aX,dk,List.getElem?_cons_zero,Sl.isBr,Bool.false_and,Bool.false_eq_true,pC,fY,look,Sl.val,dA,cG,Option.bind_some,if_false,i5,Option.map_some,fQ,da,List.getElem?_cons_succ,q2]
theorem wQ (x:Nat):∀(c:List Pc) (y:Sl),de gB fA gC (c.map aX) [y, .sh (dk x)]=some ((c.filter fun p=> !decide (p.1=x)).map aX):=by
  intro c
  induction c with
  | nil=>exact fun y=>rfl
  | cons p c ih=>
    intro y
    have e:gB (aX p) [y, .sh (dk x)]=some [.sh (aX p), .sh (dk x)]:=rfl
    have cc:=yd x p
    have k:=ih (.sh (aX p))
    have el:gC [.sh (aX p), .sh (dk x)]=some (.sh (aX p),[.sh (aX p), .sh (dk x)]):=rfl
    rw [List.map_cons,de,e,Option.bind_some,cc]
    by_cases h:p.1=x
    · rw [List.filter_cons_of_neg (by simp [h])]
      simp only [h,decide_true,Bool.not_true,Option.bind_some,Bool.false_eq_true,if_false,k]
    · rw [List.filter_cons_of_pos (by simp [h]),List.map_cons]
      simp only [h,decide_false,Bool.not_false,Option.bind_some,if_true,el,k,frz,Option.map_some]
theorem wR (x0 x1 x2 x5 a:Sl) (x:Nat) (c:List Pc) (R:List PyData) (lc:(c.filter fun p=> !decide (p.1=x)).length≤1000000) (er:bo [.list ((c.filter fun p=> !decide (p.1=x)).map aX)]=some (.ow R)) (q:jx (.list R) (.list [])=some true):(eG (dk x) [x0,x1,x2, .ow (c.map aX),a,x5]).bind eI=some ([x0,x1,x2, .ow (c.map aX), .sh (dk x),x5], .nx):=by
  have k:=wQ x c .no
  simp only [dk,eG,bA,List.length_cons,List.length_nil,Nat.zero_add,Nat.reduceAdd,Nat.reduceLT,List.set_cons_succ,List.set_cons_zero,if_true,eI,fQ,Option.bind_some,aP,ck,ag,ak,af,du,qw,ad,List.getElem?_cons_succ,List.getElem?_cons_zero,look,Sl.val,eP,List.map_cons,i3,List.map_nil,Sl.isBr,Bool.false_and,Bool.false_eq_true,aq,Option.map_some,if_false,b4,bx,Nat.reduceLeDiff,da,aF,pC,aw] at k ⊢
  simp only [k,Option.bind_some,cr,List.length_map,lc,decide_true,Bool.and_true,if_true,aH,look,Sl.val,Option.map_some,er,q,Bool.not_true,Bool.false_eq_true,if_false]
theorem dP {f g:b_} {E E1:List Sl} (h:f E=some (E1, .nx)):ay f g E=g E1:=by
  unfold ay
  rw [h]
  rfl
theorem vG {it:gS} {tg:fZ} {body:b_} {E E1 E2:List Sl} {ds:List PyData} (h:it E=some (ds,E1)) (l:dq tg body ds E1=some (E2, .nx)):gW it tg body E=some (E2, .nx):=by
  unfold gW
  rw [h,Option.bind_some,l]
section
variable (sc:PyData) (t w:List Nat) (c:List Pc) (z:Int) (x1 x2 x3 x4 x5:Sl)
theorem wS (e:bp [sc]=some (.sh (.str ⟨t.toArray⟩))):xZ [.sh sc, .no, .no, .no, .no, .no]=some ([.sh sc, .sh (.str ⟨t.toArray⟩), .no, .no, .no, .no], .nx):=by
  simp only [xZ,aO,ak,af,ad,List.getElem?_cons_zero,Sl.isBr,Bool.false_and,Bool.false_eq_true,aq,Option.map_some,if_false,Option.bind_some,aH,look,Sl.val,e,PL.settle,frz,frzAll,List.length_cons,List.length_nil,Nat.zero_add,Nat.reduceAdd,Nat.reduceLT,List.set_cons_succ,List.set_cons_zero,if_true]
theorem oo:∀w:List Nat,aS (w.map dk)=true
  | []=>rfl
  | _::w=>oo w
theorem wT:x6 [.sh sc, .sh (.str ⟨t.toArray⟩), .no, .no, .no, .no]=some ([.sh sc, .sh (.str ⟨t.toArray⟩), .sh (.str ⟨(bq t).toArray⟩), .no, .no, .no], .nx):=by
  have k:=wP t (List.range' 97 26) .no
  have k2:de eD dM eF ((List.range' 97 26).map dk) [.no, .sh (.str ⟨t.toArray⟩)]=some ((bq t).map dk):=k
  have l:=oj (bq t)
  have l2:=kf t
  simp only [List.length_map] at l
  simp only [x6,aO,j1,di,du,f_,pC,pD,frz,Option.bind_some,gL,eP,List.map_cons,i3,List.map_nil,List.getElem?_cons_succ,List.getElem?_cons_zero,Sl.val,k2,oo,List.length_map,l2,decide_true,Bool.and_true,if_true,look,nY,iq,l,mv,Option.map_some,PL.settle,frzAll,List.length_cons,List.length_nil,Nat.zero_add,Nat.reduceAdd,Nat.reduceLT,List.set_cons_succ,List.set_cons_zero]
theorem wU (x2:Sl) (d:PyData) (r:Sl) (a:bB [sc, .int 2]=some (.sh (.int z))) (eo:aV [.str ⟨t.toArray⟩, .int z]=some r) (hr:r= .sh d∨r= .br d) (e1:ax [d]=some (.sh (.str "nails"))) (e2:ax [.str ""]=some (.sh (.str "nails"))) (q:jx (.str "nails") (.str "nails")=some true):xj [.sh sc, .sh (.str ⟨t.toArray⟩),x2, .no, .no, .no]=some ([.sh sc, .sh (.str ⟨t.toArray⟩),x2, .no, .no, .no], .nx):=by
  rcases hr with rfl | rfl
  · simp only [xj,aP,fM,ck,ag,ak,af,ad,List.getElem?_cons_succ,List.getElem?_cons_zero,Sl.isBr,Bool.false_and,Bool.false_eq_true,pC,aq,Option.map_some,if_false,Option.bind_some,aH,look,Sl.val,a,eo,e1,fQ,da,q,Bool.not_true,e2,aF,aw]
  · simp only [xj,aP,fM,ck,ag,ak,af,ad,List.getElem?_cons_succ,List.getElem?_cons_zero,Sl.isBr,Bool.false_and,Bool.false_eq_true,pC,aq,Option.map_some,if_false,Option.bind_some,aH,look,Sl.val,a,eo,e1,fQ,da,q,Bool.not_true,e2,aF,aw]
theorem vH (q:jx (.str ⟨w.toArray⟩) (.str "")=some true):vR [.sh sc,x1, .sh (.str ⟨w.toArray⟩), .no, .no, .no]=some ([.sh sc, .sh (.str "kk"), .sh (.str "k"), .no, .no, .no], .nx):=by
  simp only [vR,aP,ck,ag,ad,List.getElem?_cons_succ,List.getElem?_cons_zero,Sl.isBr,Bool.false_and,Bool.false_eq_true,pC,dW,da,look,Sl.val,Option.bind_some,if_false,q,Option.map_some,ay,aO,PL.settle,frz,frzAll,aw,List.length_cons,List.length_nil,Nat.zero_add,Nat.reduceAdd,Nat.reduceLT,List.set_cons_succ,List.set_cons_zero,if_true]
theorem vI (q:jx (.str ⟨w.toArray⟩) (.str "")=some false):vR [.sh sc,x1, .sh (.str ⟨w.toArray⟩), .no, .no, .no]=some ([.sh sc,x1, .sh (.str ⟨w.toArray⟩), .no, .no, .no], .nx):=by
  simp only [vR,aP,ck,ag,ad,List.getElem?_cons_succ,List.getElem?_cons_zero,Sl.isBr,Bool.false_and,Bool.false_eq_true,pC,dW,da,look,Sl.val,Option.bind_some,if_false,q,Option.map_some,ay,aO,PL.settle,frz,frzAll,aw,List.length_cons,List.length_nil,Nat.zero_add,Nat.reduceAdd,Nat.reduceLT,List.set_cons_succ,List.set_cons_zero,if_true]
theorem wV (C:List PyData) (e:ax [.str ⟨t.toArray⟩]=some (.ow C)):x8 [.sh sc, .sh (.str ⟨t.toArray⟩),x2, .no, .no, .no]=some ([.sh sc, .sh (.str ⟨t.toArray⟩),x2, .ow C, .no, .no], .nx):=by
  simp only [x8,aO,ak,af,ad,List.getElem?_cons_succ,List.getElem?_cons_zero,Sl.isBr,Bool.false_and,Bool.false_eq_true,aq,Option.map_some,if_false,Option.bind_some,aH,look,Sl.val,e,PL.settle,frz,frzAll,List.length_cons,List.length_nil,Nat.zero_add,Nat.reduceAdd,Nat.reduceLT,List.set_cons_succ,List.set_cons_zero,if_true]
theorem wW (C:List PyData) (L S:Int) (e1:ba [.list C]=some (.sh (.bool true))) (e2:dh [.str ⟨w.toArray⟩]=some (.ow C)) (q:jx (.list C) (.list C)=some true) (lw:w.length≤1000000) (hL:(w.length:Int)=L) (e3:dg [.int L]=some (.sh (.int S))) (hS:(C.length:Int)=S):x9 [.sh sc,x1, .sh (.str ⟨w.toArray⟩), .ow C, .no, .no]=some ([.sh sc,x1, .sh (.str ⟨w.toArray⟩), .ow C, .no, .no], .nx):=by
  simp only [x9,aP,fM,aY,bZ,ak,af,ad,List.getElem?_cons_succ,List.getElem?_cons_zero,Sl.isBr,Bool.false_and,Bool.false_eq_true,aq,Option.map_some,if_false,Option.bind_some,aH,look,Sl.val,e1,dQ,Bool.not_true,ck,ag,fQ,da,cE,cF,e2,q,hS,dY,lw,hL,if_true,e3,aQ,decide_true,aF,pC,aw]
theorem wX (C:List PyData) (e:bo [.list C]=some (.ow C)) (q:jx (.list C) (.list C)=some true):x_ [.sh sc,x1,x2, .ow C, .no, .no]=some ([.sh sc,x1,x2, .ow C, .no, .no], .nx):=by
  simp only [x_,aP,ck,ag,ak,af,ad,List.getElem?_cons_succ,List.getElem?_cons_zero,Sl.isBr,Bool.false_and,Bool.false_eq_true,aq,Option.map_some,if_false,Option.bind_some,aH,look,Sl.val,e,fQ,da,q,Bool.not_true,aF,pC,aw]
theorem wY (C:List PyData) (lc:C.length≤1000000) (hf:aS C=true):ya [.sh sc,x1,x2, .ow C,x4, .no]=some ([.sh sc,x1,x2, .ow C,x4, .ow C], .nx):=by
  simp only [ya,aO,kB,ad,List.getElem?_cons_succ,List.getElem?_cons_zero,look,Sl.val,dA,cG,Option.bind_some,Option.any_some,Bool.not_false,hf,Bool.or_true,if_true,PL.settle,frz,frzAll,List.length_cons,List.length_nil,Nat.zero_add,Nat.reduceAdd,Nat.reduceLT,List.set_cons_succ,List.set_cons_zero]
theorem wZ (C:List PyData) (lc:C.length < 1000000):yb [.sh sc,x1,x2, .ow C,x4,x5]=some ([.sh sc,x1,x2, .ow (C++[.tuple [.str "a", .int 0]]),x4,x5], .nx):=by
  simp only [yb,dX,cw,List.getElem?_cons_succ,List.getElem?_cons_zero,db,ar,pC,frz,bx,Option.map_some,Option.bind_some,List.length_cons,List.length_nil,Nat.zero_add,Nat.reduceAdd,Nat.reduceLeDiff,if_true,lc,List.set_cons_succ,List.set_cons_zero]
theorem vJ (C:List PyData):vE [.sh sc,x1,x2, .ow C,x4,x5]=some ([.sh sc,x1,x2, .ow C.reverse,x4,x5], .nx):=by
  simp only [vE,dX,fo,List.getElem?_cons_succ,List.getElem?_cons_zero,List.set_cons_succ,List.set_cons_zero,Option.map_some]
theorem vK (C:List PyData) (e:ax [.str ⟨w.toArray⟩]=some (.ow C)) (q:jx (.list C) (.list C)=some true):vF [.sh sc,x1, .sh (.str ⟨w.toArray⟩),x3,x4, .ow C]=some ([.sh sc,x1, .sh (.str ⟨w.toArray⟩),x3,x4, .ow C], .rt (.sh (.bool true))):=by
  simp only [vF,aF,ag,ak,af,ad,List.getElem?_cons_succ,List.getElem?_cons_zero,Sl.isBr,Bool.false_and,Bool.false_eq_true,aq,Option.map_some,if_false,Option.bind_some,aH,look,Sl.val,e,dW,da,q]
end
theorem w5 (x0 x1 x2 x5:Sl) (c:List Pc) (hc:NailsOk c) (lc:c.length≤100000):∀(w:List Nat) (a:Sl),(∀x∈w,NH.short (c.filter fun p=> !decide (p.1=x))=[])→∃a',dq eG eI (w.map dk) [x0,x1,x2, .ow (c.map aX),a,x5]=some ([x0,x1,x2, .ow (c.map aX),a',x5], .nx):=by
  intro w
  induction w with
  | nil=>exact fun a _=>⟨a,rfl⟩
  | cons x w ih=>
    intro a h
    have fl:=List.length_filter_le (fun p:Pc=> !decide (p.1=x)) c
    have er:=io (c.filter fun p=> !decide (p.1=x)) (by omega) fun p hp=>hc p (List.mem_filter.mp hp).1
    rw [←NH.cW,h x (List.mem_cons_self ..)] at er
    have e:=wR x0 x1 x2 x5 a x c _ (by omega) er rfl
    obtain ⟨a',k⟩:=ih (.sh (dk x)) fun y hy=>h y (List.mem_cons_of_mem _ hy)
    refine ⟨a',?_⟩
    rw [List.map_cons,dq,e]
    exact k
theorem oq {t:List Nat}:bq (bq t)=bq t:=by
  unfold bq
  refine List.filter_congr fun a ha=>?_
  have:a∈(List.range' 97 26).filter (fun a=>decide (a∈t))↔a∈t:=by
    rw [List.mem_filter]
    simp [ha]
  exact decide_eq_decide.mpr this
theorem vL {t:List Nat}:∀y∈bq t,az y:=fun y hy=>by
  have:=(inOrd_mem.mp hy).1
  rw [List.mem_range'_1] at this
  exact ⟨this.1,this.2⟩
theorem ye:(Str.ofString "kk")=⟨([107,107]:List Nat).toArray⟩:=by decide+kernel
theorem yB:(Str.ofString "k")=⟨([107]:List Nat).toArray⟩:=by decide+kernel
theorem vM (ns:List Int) (hl:ns.length≤63):gl [.list (ns.map .int)]=some (.sh (.bool true)):=by
  obtain ⟨t,et,ht,lt⟩:=jI ns
  have a2:=hM ns 2
  rw [show ((2:Nat):Int)=2 from rfl] at a2
  obtain ⟨r,d,eo,hr,rr⟩:=ny ht (by omega) (ns.getD 2 0)
  have g0:=wS (.list (ns.map .int)) t et
  have g1:=wT (.list (ns.map .int)) t
  have g2:=wU (.list (ns.map .int)) t _ (.sh (.str ⟨(bq t).toArray⟩)) d r a2 eo hr (jt d rr) (jt _ kh) rfl
  obtain ⟨T,V,hT,lT,hV,V0,g3⟩:∃T V:List Nat,(∀y∈T,az y)∧T.length≤52∧V=bq T∧V≠[]∧vR [.sh (.list (ns.map .int)), .sh (.str ⟨t.toArray⟩), .sh (.str ⟨(bq t).toArray⟩), .no, .no, .no]=some ([.sh (.list (ns.map .int)), .sh (.str ⟨T.toArray⟩), .sh (.str ⟨V.toArray⟩), .no, .no, .no], .nx):=by
    have q:=kW (bq t)
    by_cases h:bq t=[]
    · rw [decide_eq_true h] at q
      refine ⟨[107,107],[107],?_,by decide,by decide,by decide,?_⟩
      · intro y hy
        simp only [List.mem_cons,List.not_mem_nil,or_false,or_self] at hy
        subst hy
        exact ⟨by decide,by decide⟩
      · rw [←ye,←yB]
        exact vH _ _ _ q
    · rw [decide_eq_false h] at q
      exact ⟨t,bq t,ht,lt,rfl,h,vI _ _ _ q⟩
  have nd:V.Nodup:=hV▸ip T
  have l1:1≤V.length:=List.length_pos_iff.mpr V0
  have l2:V.length≤26:=hV▸ud T
  have P:=vy 7 V nd l1 (by omega)
  have vz:∀y∈V,az y:=hV▸vL
  have hc:NailsOk (eW 8 V):=fun p hp=>by
    have:=(vz _ (P.nails p hp)).2
    omega
  have sl:pv 8 V.length≤4 ^ 7:=jl 7 V.length l1 (by omega)
  have cl:(eW 8 V).length=pv 8 V.length:=gJ 8 V
  have p4:(4:Nat) ^ 7=16384:=by decide
  have q:=lU hc hc
  rw [decide_eq_true rfl] at q
  have sT:=mw hT (by omega) (hV▸V0)
  rw [←hV] at sT
  have sV:=mw vz (by omega) (by rw [hV,oq,←hV];exact V0)
  rw [show bq V=V by rw [hV,oq]] at sV
  have g4:=wV (.list (ns.map .int)) T (.sh (.str ⟨V.toArray⟩)) _ sT
  have g5:=wW (.list (ns.map .int)) V (.sh (.str ⟨T.toArray⟩)) _ V.length _ (jr (eW 8 V)) (td 7 V (by decide) l1 (by omega)) q (by omega) rfl (tj 7 V.length l1 (by omega)) (by rw [List.length_map,cl])
  have er:=io (eW 8 V) (by omega) hc
  rw [NH.hO P.red] at er
  have g6:=wX (.list (ns.map .int)) (.sh (.str ⟨T.toArray⟩)) (.sh (.str ⟨V.toArray⟩)) _ er q
  obtain ⟨a4,lp⟩:=w5 (.sh (.list (ns.map .int))) (.sh (.str ⟨T.toArray⟩)) (.sh (.str ⟨V.toArray⟩)) .no (eW 8 V) hc (by omega) V .no P.fall
  have i7:f_ (ad 2) [.sh (.list (ns.map .int)), .sh (.str ⟨T.toArray⟩), .sh (.str ⟨V.toArray⟩), .ow ((eW 8 V).map aX), .no, .no]=some (V.map dk,[.sh (.list (ns.map .int)), .sh (.str ⟨T.toArray⟩), .sh (.str ⟨V.toArray⟩), .ow ((eW 8 V).map aX), .no, .no]):=by
    simp only [f_,ad,List.getElem?_cons_succ,List.getElem?_cons_zero,frz,Option.bind_some,gL]
  have g7:yq _=_:=vG i7 lp
  have g8:=wY (.list (ns.map .int)) (.sh (.str ⟨T.toArray⟩)) (.sh (.str ⟨V.toArray⟩)) a4 ((eW 8 V).map aX) (by rw [List.length_map];omega) (cr _)
  have g9:=wZ (.list (ns.map .int)) (.sh (.str ⟨T.toArray⟩)) (.sh (.str ⟨V.toArray⟩)) a4 (.ow ((eW 8 V).map aX)) ((eW 8 V).map aX) (by rw [List.length_map];omega)
  have g10:=vJ (.list (ns.map .int)) (.sh (.str ⟨T.toArray⟩)) (.sh (.str ⟨V.toArray⟩)) a4 (.ow ((eW 8 V).map aX)) ((eW 8 V).map aX++[.tuple [.str "a", .int 0]])
  have g11:=vK (.list (ns.map .int)) V (.sh (.str ⟨T.toArray⟩)) (.ow ((eW 8 V).map aX++[PyData.tuple [.str "a", .int 0]]).reverse) a4 _ sV q
  have all:∃E,l0 [.sh (.list (ns.map .int)), .no, .no, .no, .no, .no]=some (E, .rt (.sh (.bool true))):=by
    rw [rq,dP g0,dP g1,dP g2,dP g3,dP g4,dP g5,dP g6,dP g7,dP g8,dP g9,dP g10]
    exact ⟨_,g11⟩
  obtain ⟨E,all⟩:=all
  simp only [gl,cq,List.length_cons,List.length_nil,Nat.zero_add,cI,av,List.map_cons,List.map_nil,Nat.reduceSub,List.replicate,List.cons_append,List.nil_append,all,cp,bi,Option.bind_some,bH,if_true]
end Nhk51
namespace Nhk51
open PySem L2 Nh PL
theorem gM {fd:FuncData} {xs:List Str} (h:∀a0,bindArgs fd ⟨[a0],[]⟩=pure (xs.zip [a0])):∀us:List Value,us.length=1→bindArgs fd ⟨us,[]⟩=pure (xs.zip us)
  | [a0],_=>h a0
theorem tQ {fd:FuncData} {xs:List Str} (h:∀a0 a1,bindArgs fd ⟨[a0,a1],[]⟩=pure (xs.zip [a0,a1])):∀us:List Value,us.length=2→bindArgs fd ⟨us,[]⟩=pure (xs.zip us)
  | [a0,a1],_=>h a0 a1
theorem vN {l:PySem.W.OpenLaw} {w:World} {K:PySem.W.Frag} {h:Heap} {mg:Str→Option Value} {fa f1 f2 f3 f4 f5 f6 f7 f8 f9 f10 f11 f12 f13 f14 f15 f16 f17 f18 f19:Addr} (X:K.In h) (G:h.Ns mainGlobals mg) (hfa:mg "law"=some (.ref fa))
    {od1 od2 od3 od4 od5 od6 od7 od8 od9 od10 od11 od12 od13 od14 od15 od16 od17 od18 od19 an1 an2 an3 an4 an5 an6 an7 an8 an9 an10 an11 an12 an13 an14 an15 an16 an17 an18 an19:Option Addr} {sl1 sl2 sl3 sl4 sl5 sl6 sl7 sl8 sl9 sl10 sl11 sl12 sl13 sl14 sl15 sl16 sl17 sl18 sl19:Array (Option Value)} {oc1 kV1 dc1 pm1 cd1 ct1 oc2 kV2 dc2 pm2 cd2 ct2 oc3 kV3 dc3 pm3 cd3 ct3 oc4 kV4 dc4 pm4 cd4 ct4 oc5 kV5 dc5 pm5 cd5 ct5 oc6 kV6 dc6 pm6 cd6 ct6 oc7 kV7 dc7 pm7 cd7 ct7 oc8 kV8 dc8 pm8 cd8 ct8 oc9 kV9 dc9 pm9 cd9 ct9 oc10 kV10 dc10 pm10 cd10 ct10 oc11 kV11 dc11 pm11 cd11 ct11 oc12 kV12 dc12 pm12 cd12 ct12 oc13 kV13 dc13 pm13 cd13 ct13 oc14 kV14 dc14 pm14 cd14 ct14 oc15 kV15 dc15 pm15 cd15 ct15 oc16 kV16 dc16 pm16 cd16 ct16 oc17 kV17 dc17 pm17 cd17 ct17 oc18 kV18 dc18 pm18 cd18 ct18 oc19 kV19 dc19 pm19 cd19 ct19:Value}
    (a1:PySem.W.nsIn K mainGlobals "is_nail"=some (some (.ref f1))) (l1:K.lookup f1=some ⟨oc1,od1, .func (PySem.W.fnOf "is_nail" "is_nail" (aL dC) (aB dC) (ae dC) .none kV1 dc1 pm1 an1 cd1 ct1),sl1⟩) (c1:PySem.W.codeIn K cd1 "is_nail"=true) (k1:PySem.W.keepIn K (.ref f1)=true)
    (a2:PySem.W.nsIn K mainGlobals "contrary"=some (some (.ref f2))) (l2:K.lookup f2=some ⟨oc2,od2, .func (PySem.W.fnOf "contrary" "contrary" (aL cS) (aB cS) (ae cS) .none kV2 dc2 pm2 an2 cd2 ct2),sl2⟩) (c2:PySem.W.codeIn K cd2 "contrary"=true) (k2:PySem.W.keepIn K (.ref f2)=true)
    (a3:PySem.W.nsIn K mainGlobals "there_and_back"=some (some (.ref f3))) (l3:K.lookup f3=some ⟨oc3,od3, .func (PySem.W.fnOf "there_and_back" "there_and_back" (aL bu) (aB bu) (ae bu) .none kV3 dc3 pm3 an3 cd3 ct3),sl3⟩) (c3:PySem.W.codeIn K cd3 "there_and_back"=true) (k3:PySem.W.keepIn K (.ref f3)=true)
    (a4:PySem.W.nsIn K mainGlobals "set_of"=some (some (.ref f4))) (l4:K.lookup f4=some ⟨oc4,od4, .func (PySem.W.fnOf "set_of" "set_of" (aL dN) (aB dN) (ae dN) .none kV4 dc4 pm4 an4 cd4 ct4),sl4⟩) (c4:PySem.W.codeIn K cd4 "set_of"=true) (k4:PySem.W.keepIn K (.ref f4)=true)
    (a5:PySem.W.nsIn K mainGlobals "first_half"=some (some (.ref f5))) (l5:K.lookup f5=some ⟨oc5,od5, .func (PySem.W.fnOf "first_half" "first_half" (aL ci) (aB ci) (ae ci) .none kV5 dc5 pm5 an5 cd5 ct5),sl5⟩) (c5:PySem.W.codeIn K cd5 "first_half"=true) (k5:PySem.W.keepIn K (.ref f5)=true)
    (a6:PySem.W.nsIn K mainGlobals "halves_round"=some (some (.ref f6))) (l6:K.lookup f6=some ⟨oc6,od6, .func (PySem.W.fnOf "halves_round" "halves_round" (aL bw) (aB bw) (ae bw) .none kV6 dc6 pm6 an6 cd6 ct6),sl6⟩) (c6:PySem.W.codeIn K cd6 "halves_round"=true) (k6:PySem.W.keepIn K (.ref f6)=true)
    (a7:PySem.W.nsIn K mainGlobals "round_back"=some (some (.ref f7))) (l7:K.lookup f7=some ⟨oc7,od7, .func (PySem.W.fnOf "round_back" "round_back" (aL bS) (aB bS) (ae bS) .none kV7 dc7 pm7 an7 cd7 ct7),sl7⟩) (c7:PySem.W.codeIn K cd7 "round_back"=true) (k7:PySem.W.keepIn K (.ref f7)=true)
    (a8:PySem.W.nsIn K mainGlobals "_law_at"=some (some (.ref f8))) (l8:K.lookup f8=some ⟨oc8,od8, .func (PySem.W.fnOf "_law_at" "_law_at" (aL eK) (aB eK) (ae eK) .none kV8 dc8 pm8 an8 cd8 ct8),sl8⟩) (c8:PySem.W.codeIn K cd8 "_law_at"=true) (k8:PySem.W.keepIn K (.ref f8)=true)
    (a9:PySem.W.nsIn K mainGlobals "_law_mix"=some (some (.ref f9))) (l9:K.lookup f9=some ⟨oc9,od9, .func (PySem.W.fnOf "_law_mix" "_law_mix" (aL dD) (aB dD) (ae dD) .none kV9 dc9 pm9 an9 cd9 ct9),sl9⟩) (c9:PySem.W.codeIn K cd9 "_law_mix"=true) (k9:PySem.W.keepIn K (.ref f9)=true)
    (a10:PySem.W.nsIn K mainGlobals "_law_contrary"=some (some (.ref f10))) (l10:K.lookup f10=some ⟨oc10,od10, .func (PySem.W.fnOf "_law_contrary" "_law_contrary" (aL bM) (aB bM) (ae bM) .none kV10 dc10 pm10 an10 cd10 ct10),sl10⟩) (c10:PySem.W.codeIn K cd10 "_law_contrary"=true) (k10:PySem.W.keepIn K (.ref f10)=true)
    (a11:PySem.W.nsIn K mainGlobals "_law_runs"=some (some (.ref f11))) (l11:K.lookup f11=some ⟨oc11,od11, .func (PySem.W.fnOf "_law_runs" "_law_runs" (aL cT) (aB cT) (ae cT) .none kV11 dc11 pm11 an11 cd11 ct11),sl11⟩) (c11:PySem.W.codeIn K cd11 "_law_runs"=true) (k11:PySem.W.keepIn K (.ref f11)=true)
    (a12:PySem.W.nsIn K mainGlobals "_law_is_cord"=some (some (.ref f12))) (l12:K.lookup f12=some ⟨oc12,od12, .func (PySem.W.fnOf "_law_is_cord" "_law_is_cord" (aL bU) (aB bU) (ae bU) .none kV12 dc12 pm12 an12 cd12 ct12),sl12⟩) (c12:PySem.W.codeIn K cd12 "_law_is_cord"=true) (k12:PySem.W.keepIn K (.ref f12)=true)
    (a13:PySem.W.nsIn K mainGlobals "_law_word"=some (some (.ref f13))) (l13:K.lookup f13=some ⟨oc13,od13, .func (PySem.W.fnOf "_law_word" "_law_word" (aL cU) (aB cU) (ae cU) .none kV13 dc13 pm13 an13 cd13 ct13),sl13⟩) (c13:PySem.W.codeIn K cd13 "_law_word"=true) (k13:PySem.W.keepIn K (.ref f13)=true)
    (a14:PySem.W.nsIn K mainGlobals "_law_size"=some (some (.ref f14))) (l14:K.lookup f14=some ⟨oc14,od14, .func (PySem.W.fnOf "_law_size" "_law_size" (aL cz) (aB cz) (ae cz) .none kV14 dc14 pm14 an14 cd14 ct14),sl14⟩) (c14:PySem.W.codeIn K cd14 "_law_size"=true) (k14:PySem.W.keepIn K (.ref f14)=true)
    (a15:PySem.W.nsIn K mainGlobals "_law_plan"=some (some (.ref f15))) (l15:K.lookup f15=some ⟨oc15,od15, .func (PySem.W.fnOf "_law_plan" "_law_plan" (aL cA) (aB cA) (ae cA) .none kV15 dc15 pm15 an15 cd15 ct15),sl15⟩) (c15:PySem.W.codeIn K cd15 "_law_plan"=true) (k15:PySem.W.keepIn K (.ref f15)=true)
    (a16:PySem.W.nsIn K mainGlobals "_law_handed"=some (some (.ref f16))) (l16:K.lookup f16=some ⟨oc16,od16, .func (PySem.W.fnOf "_law_handed" "_law_handed" (aL cj) (aB cj) (ae cj) .none kV16 dc16 pm16 an16 cd16 ct16),sl16⟩) (c16:PySem.W.codeIn K cd16 "_law_handed"=true) (k16:PySem.W.keepIn K (.ref f16)=true)
    (a17:PySem.W.nsIn K mainGlobals "_law_said"=some (some (.ref f17))) (l17:K.lookup f17=some ⟨oc17,od17, .func (PySem.W.fnOf "_law_said" "_law_said" (aL cV) (aB cV) (ae cV) .none kV17 dc17 pm17 an17 cd17 ct17),sl17⟩) (c17:PySem.W.codeIn K cd17 "_law_said"=true) (k17:PySem.W.keepIn K (.ref f17)=true)
    (a18:PySem.W.nsIn K mainGlobals "_law_odd"=some (some (.ref f18))) (l18:K.lookup f18=some ⟨oc18,od18, .func (PySem.W.fnOf "_law_odd" "_law_odd" (aL dE) (aB dE) (ae dE) .none kV18 dc18 pm18 an18 cd18 ct18),sl18⟩) (c18:PySem.W.codeIn K cd18 "_law_odd"=true) (k18:PySem.W.keepIn K (.ref f18)=true)
    (a19:PySem.W.nsIn K mainGlobals "law"=some (some (.ref f19))) (l19:K.lookup f19=some ⟨oc19,od19, .func (PySem.W.fnOf "law" "law" (aL gI) (aB gI) (ae gI) .none kV19 dc19 pm19 an19 cd19 ct19),sl19⟩) (c19:PySem.W.codeIn K cd19 "law"=true) (k19:PySem.W.keepIn K (.ref f19)=true)
    {ec_NoCord ec_NoNails ec_NoRule ec_NoText ec_NoMove ec_NoLine ec_NoName ec_NoNumber ec_TooMany ec_TooLong ec_HangError:Addr}
    (qc_NoCord:PySem.W.nsIn K mainGlobals "NoCord"=some (some (.ref ec_NoCord)))
    (qc_NoNails:PySem.W.nsIn K mainGlobals "NoNails"=some (some (.ref ec_NoNails)))
    (qc_NoRule:PySem.W.nsIn K mainGlobals "NoRule"=some (some (.ref ec_NoRule)))
    (qc_NoText:PySem.W.nsIn K mainGlobals "NoText"=some (some (.ref ec_NoText)))
    (qc_NoMove:PySem.W.nsIn K mainGlobals "NoMove"=some (some (.ref ec_NoMove)))
    (qc_NoLine:PySem.W.nsIn K mainGlobals "NoLine"=some (some (.ref ec_NoLine)))
    (qc_NoName:PySem.W.nsIn K mainGlobals "NoName"=some (some (.ref ec_NoName)))
    (qc_NoNumber:PySem.W.nsIn K mainGlobals "NoNumber"=some (some (.ref ec_NoNumber)))
    (qc_TooMany:PySem.W.nsIn K mainGlobals "TooMany"=some (some (.ref ec_TooMany)))
    (qc_TooLong:PySem.W.nsIn K mainGlobals "TooLong"=some (some (.ref ec_TooLong)))
    (qc_ValueError:PySem.W.nsIn K mainGlobals "ValueError"=some none)
    (qc_HangError:PySem.W.nsIn K mainGlobals "HangError"=some (some (.ref ec_HangError)))
    (w1_NoNails:PySem.W.excIn K ec_NoNails yp "ValueError.__new__"=true)
    (w2_NoNails:(PySem.W.clsIn K ec_NoNails).isSome=true)
    (w3_NoNails:PySem.W.findIn K (.ref ec_NoNails) "__getattribute__"=some (some (.builtin "BaseException.__getattribute__")))
    (w4_NoNails:PySem.W.findIn K (.ref ec_NoNails) "__getattr__"=some none)
    (w5_NoNails:PySem.W.findIn K (.ref ec_NoNails) "__class__"=some (some (.builtin "object.__class__")))
    (w6_NoNails:PySem.W.mroIn K ec_NoNails (.type "BaseException")=some true)
    (w7_NoNails:PySem.W.mroIn K ec_NoNails (.type "object")=some true)
    (y_NoNails_NoCord:PySem.W.kitOne K (.ref ec_NoNails) (.ref ec_NoCord)=some false)
    (y_NoNails_NoNails:PySem.W.kitOne K (.ref ec_NoNails) (.ref ec_NoNails)=some true)
    (y_NoNails_NoRule:PySem.W.kitOne K (.ref ec_NoNails) (.ref ec_NoRule)=some false)
    (y_NoNails_NoText:PySem.W.kitOne K (.ref ec_NoNails) (.ref ec_NoText)=some false)
    (y_NoNails_NoMove:PySem.W.kitOne K (.ref ec_NoNails) (.ref ec_NoMove)=some false)
    (y_NoNails_NoLine:PySem.W.kitOne K (.ref ec_NoNails) (.ref ec_NoLine)=some false)
    (y_NoNails_NoName:PySem.W.kitOne K (.ref ec_NoNails) (.ref ec_NoName)=some false)
    (y_NoNails_NoNumber:PySem.W.kitOne K (.ref ec_NoNails) (.ref ec_NoNumber)=some false)
    (y_NoNails_TooMany:PySem.W.kitOne K (.ref ec_NoNails) (.ref ec_TooMany)=some false)
    (y_NoNails_TooLong:PySem.W.kitOne K (.ref ec_NoNails) (.ref ec_TooLong)=some false)
    (y_NoNails_ValueError:PySem.W.kitOne K (.ref ec_NoNails) (.type "ValueError")=some true)
    (y_NoNails_HangError:PySem.W.exmOne K (.ref ec_NoNails) (.ref ec_HangError)=some true)
    (z1:PySem.W.nsIn K mainGlobals "len"=some none)
    (z2:PySem.W.nsIn K mainGlobals "range"=some none)
    (z3:PySem.W.nsIn K mainGlobals "abs"=some none)
    (z4:PySem.W.nsIn K mainGlobals "min"=some none)
    (z5:PySem.W.nsIn K mainGlobals "max"=some none)
    (z6:PySem.W.nsIn K mainGlobals "reversed"=some none)
    (z7:PySem.W.nsIn K mainGlobals "enumerate"=some none)
    (z8:PySem.W.nsIn K mainGlobals "isinstance"=some none)
    (z9:PySem.W.nsIn K mainGlobals "list"=some none)
    (z10:PySem.W.nsIn K mainGlobals "tuple"=some none)
    (z11:PySem.W.nsIn K mainGlobals "str"=some none)
    (z12:PySem.W.nsIn K mainGlobals "int"=some none)
    (z13:PySem.W.nsIn K mainGlobals "bool"=some none)
    (z14:PySem.W.nsIn K mainGlobals "sorted"=some none)
    (z15:PySem.W.nsIn K mainGlobals "zip"=some none)
    (z16:PySem.W.nsIn K mainGlobals "sum"=some none)
    (z17:PySem.W.nsIn K mainGlobals "any"=some none)
    (z18:PySem.W.nsIn K mainGlobals "all"=some none)
    (z19:PySem.W.nsIn K mainGlobals "set"=some none)
    (z20:PySem.W.nsIn K mainGlobals "dict"=some none):
    ∃fd:FuncData,(∀(s:Shared) (v:Value),BindsTo s fd ⟨[v],[]⟩ [("_law_script",v)])∧∀base:Heap,K.In base→base.Ns mainGlobals mg→FnOk l.prog w K mg base mK 14 fa fd ["_law_script"] (cC K gl):=by
  have e:=hfa.symm.trans (PySem.W.mg_of X G a19)
  cases e
  have F0:=mL (st:=gI) l19 c19 k19
  have B:Bn mg:=wG X G z1 z2 z3 z4 z5 z6 z7 z8 z9 z10 z11 z12 z13 z14 z15 z16 z17 z18 z19 z20
  have Z_NoNails:ExCls K ec_NoNails:=⟨Option.isSome_iff_exists.mp w2_NoNails,w3_NoNails,w4_NoNails,w5_NoNails,w6_NoNails,w7_NoNails⟩
  have XX:XF K mg:=⟨⟨ec_NoCord,PySem.W.mg_of X G qc_NoCord,(cJ qc_NoNails Z_NoNails y_NoNails_NoCord dI)⟩,⟨ec_NoNails,PySem.W.mg_of X G qc_NoNails,(cJ qc_NoNails Z_NoNails y_NoNails_NoNails dI),⟨qc_NoNails,PySem.W.mg_of X G qc_NoNails,w1_NoNails,Z_NoNails⟩⟩,⟨ec_NoRule,PySem.W.mg_of X G qc_NoRule,(cJ qc_NoNails Z_NoNails y_NoNails_NoRule dI)⟩,⟨ec_NoText,PySem.W.mg_of X G qc_NoText,(cJ qc_NoNails Z_NoNails y_NoNails_NoText dI)⟩,⟨ec_NoMove,PySem.W.mg_of X G qc_NoMove,(cJ qc_NoNails Z_NoNails y_NoNails_NoMove dI)⟩,⟨ec_NoLine,PySem.W.mg_of X G qc_NoLine,(cJ qc_NoNails Z_NoNails y_NoNails_NoLine dI)⟩,⟨ec_NoName,PySem.W.mg_of X G qc_NoName,(cJ qc_NoNails Z_NoNails y_NoNails_NoName dI)⟩,⟨ec_NoNumber,PySem.W.mg_of X G qc_NoNumber,(cJ qc_NoNails Z_NoNails y_NoNails_NoNumber dI)⟩,⟨ec_TooMany,PySem.W.mg_of X G qc_TooMany,(cJ qc_NoNails Z_NoNails y_NoNails_TooMany dI)⟩,⟨ec_TooLong,PySem.W.mg_of X G qc_TooLong,(cJ qc_NoNails Z_NoNails y_NoNails_TooLong dI)⟩,⟨PySem.W.mg_none_of X G qc_ValueError,(cJ qc_NoNails Z_NoNails y_NoNails_ValueError dI)⟩,⟨ec_HangError,PySem.W.mg_of X G qc_HangError,fun n hn D hD=>by
    simp only [List.mem_cons,List.not_mem_nil,or_false] at hn
    rcases hn with rfl
    · rw [qc_NoNails] at hD;cases hD;exact y_NoNails_HangError⟩⟩
  have e_is_nail:Def K mg "is_nail" dC ["thing"]:=bV X G a1 l1 c1 k1 fun _ _ _ _ _ _=>fun us hl=>gM (fun _=>rfl) us hl
  have e_contrary:Def K mg "contrary" cS ["cord"]:=bV X G a2 l2 c2 k2 fun _ _ _ _ _ _=>fun us hl=>gM (fun _=>rfl) us hl
  have e_there_and_back:Def K mg "there_and_back" bu ["one","other"]:=bV X G a3 l3 c3 k3 fun _ _ _ _ _ _=>fun us hl=>tQ (fun _ _=>rfl) us hl
  have e_set_of:Def K mg "set_of" dN ["nails"]:=bV X G a4 l4 c4 k4 fun _ _ _ _ _ _=>fun us hl=>gM (fun _=>rfl) us hl
  have e_first_half:Def K mg "first_half" ci ["number"]:=bV X G a5 l5 c5 k5 fun _ _ _ _ _ _=>fun us hl=>gM (fun _=>rfl) us hl
  have e_halves_round:Def K mg "halves_round" bw ["nails"]:=bV X G a6 l6 c6 k6 fun _ _ _ _ _ _=>fun us hl=>gM (fun _=>rfl) us hl
  have e_round_back:Def K mg "round_back" bS ["nails"]:=bV X G a7 l7 c7 k7 fun _ _ _ _ _ _=>fun us hl=>gM (fun _=>rfl) us hl
  have e_law_at:Def K mg "_law_at" eK ["_law_script","_law_k"]:=bV X G a8 l8 c8 k8 fun _ _ _ _ _ _=>fun us hl=>tQ (fun _ _=>rfl) us hl
  have e_law_mix:Def K mg "_law_mix" dD ["_law_cell","_law_k"]:=bV X G a9 l9 c9 k9 fun _ _ _ _ _ _=>fun us hl=>tQ (fun _ _=>rfl) us hl
  have e_law_contrary:Def K mg "_law_contrary" bM ["_law_cord"]:=bV X G a10 l10 c10 k10 fun _ _ _ _ _ _=>fun us hl=>gM (fun _=>rfl) us hl
  have e_law_runs:Def K mg "_law_runs" cT ["_law_cord"]:=bV X G a11 l11 c11 k11 fun _ _ _ _ _ _=>fun us hl=>gM (fun _=>rfl) us hl
  have e_law_is_cord:Def K mg "_law_is_cord" bU ["_law_found"]:=bV X G a12 l12 c12 k12 fun _ _ _ _ _ _=>fun us hl=>gM (fun _=>rfl) us hl
  have e_law_word:Def K mg "_law_word" cU ["_law_e"]:=bV X G a13 l13 c13 k13 fun _ _ _ _ _ _=>fun us hl=>gM (fun _=>rfl) us hl
  have e_law_size:Def K mg "_law_size" cz ["_law_many"]:=bV X G a14 l14 c14 k14 fun _ _ _ _ _ _=>fun us hl=>gM (fun _=>rfl) us hl
  have e_law_plan:Def K mg "_law_plan" cA ["_law_nails"]:=bV X G a15 l15 c15 k15 fun _ _ _ _ _ _=>fun us hl=>gM (fun _=>rfl) us hl
  have e_law_handed:Def K mg "_law_handed" cj ["_law_script"]:=bV X G a16 l16 c16 k16 fun _ _ _ _ _ _=>fun us hl=>gM (fun _=>rfl) us hl
  have e_law_said:Def K mg "_law_said" cV ["_law_thing"]:=bV X G a17 l17 c17 k17 fun _ _ _ _ _ _=>fun us hl=>gM (fun _=>rfl) us hl
  have e_law_odd:Def K mg "_law_odd" dE ["_law_text","_law_cell"]:=bV X G a18 l18 c18 k18 fun _ _ _ _ _ _=>fun us hl=>tQ (fun _ _=>rfl) us hl
  refine ⟨PySem.W.fnOf "law" "law" (aL gI) (aB gI) (ae gI) .none kV19 dc19 pm19 an19 cd19 ct19,fun s v=> .of_eq rfl,fun base _ _=>?_⟩
  have D_is_nail:=ni (P:=l.prog) (w:=w) (base:=base) e_is_nail B
  have D_contrary:=ma (P:=l.prog) (w:=w) (base:=base) e_contrary B
  have D_there_and_back:=gE (P:=l.prog) (w:=w) (base:=base) e_there_and_back B D_contrary
  have D_set_of:=pj (P:=l.prog) (w:=w) (base:=base) e_set_of B D_is_nail XX
  have R_set_of:=nj (P:=l.prog) (w:=w) (base:=base) e_set_of B D_is_nail XX
  have D_first_half:=jD (P:=l.prog) (w:=w) (base:=base) e_first_half B
  have D_halves_round:=ix (P:=l.prog) (w:=w) (base:=base) e_halves_round B D_first_half D_there_and_back
  have D_round_back:=jE (P:=l.prog) (w:=w) (base:=base) e_round_back B D_set_of D_halves_round R_set_of XX
  have R_round_back:=jj (P:=l.prog) (w:=w) (base:=base) e_round_back B D_set_of D_halves_round R_set_of XX
  have D_law_at:=pq (P:=l.prog) (w:=w) (base:=base) e_law_at B
  have D_law_mix:=nk (P:=l.prog) (w:=w) (base:=base) e_law_mix B
  have D_law_contrary:=iz (P:=l.prog) (w:=w) (base:=base) e_law_contrary B
  have D_law_runs:=md (P:=l.prog) (w:=w) (base:=base) e_law_runs B
  have D_law_is_cord:=jk (P:=l.prog) (w:=w) (base:=base) e_law_is_cord B
  have D_law_word:=me (P:=l.prog) (w:=w) (base:=base) e_law_word B XX
  have D_law_size:=mf (P:=l.prog) (w:=w) (base:=base) e_law_size B
  have D_law_plan:=mh (P:=l.prog) (w:=w) (base:=base) e_law_plan B D_law_contrary
  have D_law_handed:=jF (P:=l.prog) (w:=w) (base:=base) e_law_handed B D_law_at D_law_mix
  have D_law_said:=mi (P:=l.prog) (w:=w) (base:=base) e_law_said B D_round_back R_round_back D_law_word XX
  have D_law_odd:=nn (P:=l.prog) (w:=w) (base:=base) e_law_odd B
  exact vw F0 B D_law_handed D_law_at D_law_odd D_law_said D_law_is_cord D_law_plan D_law_size D_law_runs
theorem yf {l:PySem.W.OpenLaw} {q:Program} {loose:List Str} {XP:(Str→Option Value)→Heap→Prop} {YP:World→Heap→Prop} {d:DefRec} {K:Params→PySem.W.Frag} (hn:l.most=some 63) (hdf:d.params.defaults=[])
    (hY:∀(w:World) (h:Heap),YP w h→(K w.params).In h∧og (K w.params) h)
    (F:∀(w:World) (mg:Str→Option Value) (fa:Addr) (h:Heap),(K w.params).In h→h.Ns mainGlobals mg→mg d.name=some (.ref fa)→
      ∃fd:FuncData,(∀(s:Shared) (u:Value),BindsTo s fd ⟨[u],[]⟩ [("_law_script",u)])∧∀base:Heap,(K w.params).In base→base.Ns mainGlobals mg→FnOk l.prog w (K w.params) mg base mK 14 fa fd ["_law_script"] (cC (K w.params) gl)):
    PySem.W.WalkO q loose XP YP l.row.toRowW d [] (fun f vs=>PySem.call f vs):=
  L2.qI (n:=63) (k:=14) (x:="_law_script") (CX:=fun _=>mK) (sp:=fun w=>cC (K w.params) gl) hn (by decide) hdf ⟨rfl,by decide,by decide⟩ hY F (fun _ _ a ns hl hS=>vg (vM ns hl) hS) fun _ _ _ _ _ z=>z
end Nhk51
open PySem PySem.W PyProof.Rows
theorem PySem.W.Fast.te5383750872249222932 : True := trivial
set_option maxRecDepth 100000 in
set_option maxHeartbeats 0 in
theorem PySem.Challenge.cw_nailhang_k51_round_and_back_holds : PySem.Challenge.rw_nailhang_k51_round_and_back.Holds := by
  w_on;o_law;k_head;(case hw=>w_witness2)
  k_fill
  refine Nhk51.yf (l:=PySem.Challenge.rw_nailhang_k51_round_and_back) rfl rfl (fun w h Y=>⟨PySem.W.kIn_of Y,L2.m9 (by k_is)⟩) ?F
  case F=>
    intro w mg fa h KX G hmg
    refine' Nhk51.vN KX G hmg ?a1 ?l1 ?c1 ?k1 ?a2 ?l2 ?c2 ?k2 ?a3 ?l3 ?c3 ?k3 ?a4 ?l4 ?c4 ?k4 ?a5 ?l5 ?c5 ?k5 ?a6 ?l6 ?c6 ?k6 ?a7 ?l7 ?c7 ?k7 ?a8 ?l8 ?c8 ?k8 ?a9 ?l9 ?c9 ?k9 ?a10 ?l10 ?c10 ?k10 ?a11 ?l11 ?c11 ?k11 ?a12 ?l12 ?c12 ?k12 ?a13 ?l13 ?c13 ?k13 ?a14 ?l14 ?c14 ?k14 ?a15 ?l15 ?c15 ?k15 ?a16 ?l16 ?c16 ?k16 ?a17 ?l17 ?c17 ?k17 ?a18 ?l18 ?c18 ?k18 ?a19 ?l19 ?c19 ?k19 ?qc_NoCord ?qc_NoNails ?qc_NoRule ?qc_NoText ?qc_NoMove ?qc_NoLine ?qc_NoName ?qc_NoNumber ?qc_TooMany ?qc_TooLong ?qc_ValueError ?qc_HangError ?w1_NoNails ?w2_NoNails ?w3_NoNails ?w4_NoNails ?w5_NoNails ?w6_NoNails ?w7_NoNails ?y_NoNails_NoCord ?y_NoNails_NoNails ?y_NoNails_NoRule ?y_NoNails_NoText ?y_NoNails_NoMove ?y_NoNails_NoLine ?y_NoNails_NoName ?y_NoNails_NoNumber ?y_NoNails_TooMany ?y_NoNails_TooLong ?y_NoNails_ValueError ?y_NoNails_HangError ?z1 ?z2 ?z3 ?z4 ?z5 ?z6 ?z7 ?z8 ?z9 ?z10 ?z11 ?z12 ?z13 ?z14 ?z15 ?z16 ?z17 ?z18 ?z19 ?z20
    (case a1=>k_is)
    (case l1=>k_is)
    (case c1=>k_is)
    (case k1=>k_is)
    (case a2=>k_is)
    (case l2=>k_is)
    (case c2=>k_is)
    (case k2=>k_is)
    (case a3=>k_is)
    (case l3=>k_is)
    (case c3=>k_is)
    (case k3=>k_is)
    (case a4=>k_is)
    (case l4=>k_is)
    (case c4=>k_is)
    (case k4=>k_is)
    (case a5=>k_is)
    (case l5=>k_is)
    (case c5=>k_is)
    (case k5=>k_is)
    (case a6=>k_is)
    (case l6=>k_is)
    (case c6=>k_is)
    (case k6=>k_is)
    (case a7=>k_is)
    (case l7=>k_is)
    (case c7=>k_is)
    (case k7=>k_is)
    (case a8=>k_is)
    (case l8=>k_is)
    (case c8=>k_is)
    (case k8=>k_is)
    (case a9=>k_is)
    (case l9=>k_is)
    (case c9=>k_is)
    (case k9=>k_is)
    (case a10=>k_is)
    (case l10=>k_is)
    (case c10=>k_is)
    (case k10=>k_is)
    (case a11=>k_is)
    (case l11=>k_is)
    (case c11=>k_is)
    (case k11=>k_is)
    (case a12=>k_is)
    (case l12=>k_is)
    (case c12=>k_is)
    (case k12=>k_is)
    (case a13=>k_is)
    (case l13=>k_is)
    (case c13=>k_is)
    (case k13=>k_is)
    (case a14=>k_is)
    (case l14=>k_is)
    (case c14=>k_is)
    (case k14=>k_is)
    (case a15=>k_is)
    (case l15=>k_is)
    (case c15=>k_is)
    (case k15=>k_is)
    (case a16=>k_is)
    (case l16=>k_is)
    (case c16=>k_is)
    (case k16=>k_is)
    (case a17=>k_is)
    (case l17=>k_is)
    (case c17=>k_is)
    (case k17=>k_is)
    (case a18=>k_is)
    (case l18=>k_is)
    (case c18=>k_is)
    (case k18=>k_is)
    (case a19=>k_is)
    (case l19=>k_is)
    (case c19=>k_is)
    (case k19=>k_is)
    (case qc_NoCord=>k_is)
    (case qc_NoNails=>k_is)
    (case qc_NoRule=>k_is)
    (case qc_NoText=>k_is)
    (case qc_NoMove=>k_is)
    (case qc_NoLine=>k_is)
    (case qc_NoName=>k_is)
    (case qc_NoNumber=>k_is)
    (case qc_TooMany=>k_is)
    (case qc_TooLong=>k_is)
    (case qc_ValueError=>k_is)
    (case qc_HangError=>k_is)
    (case w1_NoNails=>k_exc)
    (case w2_NoNails=>kernel_rfl)
    (case w3_NoNails=>k_is)
    (case w4_NoNails=>k_is)
    (case w5_NoNails=>k_is)
    (case w6_NoNails=>k_is)
    (case w7_NoNails=>k_is)
    (case y_NoNails_NoCord=>kit_is)
    (case y_NoNails_NoNails=>kit_is)
    (case y_NoNails_NoRule=>kit_is)
    (case y_NoNails_NoText=>kit_is)
    (case y_NoNails_NoMove=>kit_is)
    (case y_NoNails_NoLine=>kit_is)
    (case y_NoNails_NoName=>kit_is)
    (case y_NoNails_NoNumber=>kit_is)
    (case y_NoNails_TooMany=>kit_is)
    (case y_NoNails_TooLong=>kit_is)
    (case y_NoNails_ValueError=>kit_is)
    (case y_NoNails_HangError=>kts_exm)
    (case z1=>k_is)
    (case z2=>k_is)
    (case z3=>k_is)
    (case z4=>k_is)
    (case z5=>k_is)
    (case z6=>k_is)
    (case z7=>k_is)
    (case z8=>k_is)
    (case z9=>k_is)
    (case z10=>k_is)
    (case z11=>k_is)
    (case z12=>k_is)
    (case z13=>k_is)
    (case z14=>k_is)
    (case z15=>k_is)
    (case z16=>k_is)
    (case z17=>k_is)
    (case z18=>k_is)
    (case z19=>k_is)
    (case z20=>k_is)
