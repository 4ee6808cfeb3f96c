import PyProof.Rows.All
import KE.KLam
import KE.KNestM
import PyProof.OldK
import Wide.All
import OpenK.AllK
import Wide.FinOn
import Lean
import PyProof.EqAt
import PyProof.EqKinds
import PyProof.TupleCall
import KE.KRevIter
import PyProof.Rows.SeqMore
import PyProof.Rows.ListMulArg
import PyProof.ZipIter
import PyProof.Rows.ZipGen
import PyProof.EnumMake
import PyProof.StrWalks
import PyProof.SliceStr2
import PyProof.StrBlockH
import PyProof.FString5
import PyProof.Rows.StrJoin2
import PyProof.Rows.Range3
import KE.KDictLaws
import PyProof.ConsumeWalk
import PyProof.SumWalkG
import PyProof.Rows.SeqCalls
import PyProof.Rows.SeqGen
import PyProof.Rows.MinMaxN
import PyProof.Rows.CallKwBuiltin
import PyProof.Rows.SortStr
import PyProof.StrOps2
import PyProof.Rows.StrMul
import PyProof.IsRules
import PyProof.Rows.SetFrom
import PyProof.CollectStr
import KE.KTryMore
import KE.RegKIsAll
import KE.RegKTryMore
import PySem.Challenge.RW_nailhang_k25_powers
set_option Elab.async false
set_option linter.all false
set_option maxRecDepth 100000
set_option maxHeartbeats 4000000
local macro_rules | `(tactic| omega) => `(tactic| lia)
noncomputable section
namespace L2
open PySem PySem.Spec PyProof.Rows
abbrev cN:=Sum Int Str
def pM:cN→Value→Bool
  | .inl k,v=>Value.isInt k v
  | .inr x,v=>Value.isStrOf x v
def tZ (w:World):cN→Int
  | .inl k=>hashInt k
  | .inr x=>hashStr w x
theorem bt:∀{k:cN} {v:Value},pM k v=true→(∃i t,k=Sum.inl i∧v=Value.int i t)∨(∃x t,k=Sum.inr x∧v=Value.str x t)
  | .inl i,v,h=>by
    obtain ⟨t,e⟩:=Value.isInt_shape (k:=i) (v:=v) h
    exact .inl ⟨i,t,rfl,e⟩
  | .inr x,v,h=>by
    obtain ⟨t,e⟩:=Value.isStrOf_shape (x:=x) (v:=v) h
    exact .inr ⟨x,t,rfl,e⟩
theorem p4 (a b:Int):decide ((Sum.inl a:cN)=Sum.inl b)=(a == b):=by
  by_cases e:a=b
  · subst e;simp
  · have h:¬(Sum.inl a:cN)=Sum.inl b:=fun q=>e (Sum.inl.inj q)
    rw [decide_eq_false h]
    exact (beq_eq_false_iff_ne.mpr e).symm
theorem p5 (a b:Str):decide ((Sum.inr a:cN)=Sum.inr b)=decide (a=b):=by
  by_cases e:a=b
  · subst e;simp
  · have h:¬(Sum.inr a:cN)=Sum.inr b:=fun q=>e (Sum.inr.inj q)
    rw [decide_eq_false h,decide_eq_false e]
theorem p6 (a:Int) (b:Str):decide ((Sum.inl a:cN)=Sum.inr b)=false:=decide_eq_false (fun q=>nomatch q)
theorem p7 (a:Str) (b:Int):decide ((Sum.inr a:cN)=Sum.inl b)=false:=decide_eq_false (fun q=>nomatch q)
def gI (prog:Program) (w:World):PySem.KeyKind prog w cN where
  is:=pM
  hash:=tZ w
  inj:=fun v a b ha hb=>by
    rcases bt ha with ⟨i,t,rfl,rfl⟩ | ⟨x,t,rfl,rfl⟩
    · rcases bt hb with ⟨j,u,rfl,e⟩ | ⟨y,u,rfl,e⟩
      · injection e with e1 _;rw [e1]
      · exact nomatch e
    · rcases bt hb with ⟨j,u,rfl,e⟩ | ⟨y,u,rfl,e⟩
      · exact nomatch e
      · injection e with e1 _;rw [e1]
  byValue:=fun k v h=>by
    rcases bt h with ⟨i,t,rfl,rfl⟩ | ⟨x,t,rfl,rfl⟩ <;> rfl
  pyHash:=fun hv h=>by
    rcases bt hv with ⟨i,t,rfl,rfl⟩ | ⟨x,t,rfl,rfl⟩
    · exact wpAny_pyHash_int h
    · exact wpAny_pyHash_str h
  eqBool:=fun hu hv h=>by
    rcases bt hu with ⟨i,t,rfl,rfl⟩ | ⟨x,t,rfl,rfl⟩
    · rcases bt hv with ⟨j,u,rfl,rfl⟩ | ⟨y,u,rfl,rfl⟩
      · rw [p4] at h;exact wpAny_eqBool_int h
      · rw [p6] at h;exact SeqAt.EqAt.int_str i t y u _ _ _ _ h
    · rcases bt hv with ⟨j,u,rfl,rfl⟩ | ⟨y,u,rfl,rfl⟩
      · rw [p7] at h;exact SeqAt.EqAt.str_int x t j u _ _ _ _ h
      · rw [p5] at h;exact wpAny_eqBool_str h
  «strs»:=fun k x t v h=>by
    rcases bt h with ⟨i,u,rfl,e⟩ | ⟨y,u,rfl,e⟩
    · exact nomatch e
    · injection e with e1 _
      subst e1
      cases v <;> rfl
end L2
namespace L2
open PySem PySem.Spec PyProof.Rows
inductive V where
  | non | bl (b:Bool) | int (i:Int) | str (x:Str) | byt (b:Array UInt8) | flt (b:UInt64) | ref (a:Addr) | ty (n:String)
  deriving DecidableEq
def RelV:V→Value→Prop
  | .non,u=>u=Value.none
  | .bl b,u=>u=Value.bool b
  | .int i,u=>∃t,u=Value.int i t
  | .str x,u=>∃t,u=Value.str x t
  | .byt b,u=>∃t,u=Value.bytes b t
  | .flt b,u=>∃t,u=Value.float b t
  | .ref a,u=>u=Value.ref a
  | .ty n,u=>u=Value.type n
abbrev Vals:List V→List Value→Prop:=Paired RelV
theorem Vals.length {xs:List V} {us:List Value} (r:Vals xs us):xs.length=us.length:=Paired.length r
theorem Vals.get:∀{xs:List V} {us:List Value} {i:Nat} {x:V},Vals xs us→xs[i]? =some x→∃u,us[i]? =some u∧RelV x u
  | _,_,_,_, .nil,e=>by simp at e
  | _,_,0,_, .cons r _,e=>by simp at e;subst e;exact ⟨_,rfl,r⟩
  | _,_,i+1,x, .cons _ t,e=>by
    obtain ⟨u,h1,h2⟩:=Vals.get (i:=i) (x:=x) t (by simpa using e)
    exact ⟨u,by simpa using h1,h2⟩
theorem Vals.set {x:V} {u:Value} (r:RelV x u):∀{xs:List V} {us:List Value} (i:Nat),Vals xs us→Vals (xs.set i x) (us.set i u)
  | _,_,_, .nil=> .nil
  | _,_,0, .cons _ t=> .cons r t
  | _,_,i+1, .cons q t=> .cons q (Vals.set r i t)
theorem Vals.append:∀{xs ys:List V} {us ws:List Value},Vals xs us→Vals ys ws→Vals (xs++ys) (us++ws)
  | _,_,_,_, .nil,s=>s
  | _,_,_,_, .cons r t,s=> .cons r (Vals.append t s)
theorem Vals.take:∀{xs:List V} {us:List Value} (n:Nat),Vals xs us→Vals (xs.take n) (us.take n)
  | _,_,0,_=> .nil
  | _,_,_+1, .nil=> .nil
  | _,_,n+1, .cons r t=> .cons r (Vals.take n t)
theorem Vals.drop:∀{xs:List V} {us:List Value} (n:Nat),Vals xs us→Vals (xs.drop n) (us.drop n)
  | _,_,0,r=>r
  | _,_,_+1, .nil=> .nil
  | _,_,n+1, .cons _ t=>Vals.drop n t
def RelO:Option V→Option Value→Prop
  | some v,some u=>RelV v u
  | none,none=>True
  | _,_=>False
def KV {κ:Type}:List (κ×V)→List (κ×Value)→Prop:=Paired fun (p:κ×V) (q:κ×Value)=>p.1=q.1∧RelV p.2 q.2
def kV:cN→V
  | .inl i=> .int i
  | .inr x=> .str x
inductive HO where
  /-- a list -/
  | lst (xs:List V)
  /-- a tuple (never changes) -/
  | tup (xs:List V)
  /-- a dict whose keys are ints and texts;one whose keys are tuples of ints and texts (the empty one is both) -/
  | dK (kvs:List (cN×V)) | dT (kvs:List (List cN×V))
  /-- a set of ints:its members,its size -/
  | set (S:Int→Bool) (n:Nat)
  /-- an instance of the class at C,its dict at dx,its attributes -/
  | ins (C dx:Addr) (fs:List (Str×V))
  /-- the dict of the instance at x -/
  | own (x:Addr)
  /-- the dict of an exception -/
  | xd (fs:List (Str×V))
  /-- a bound method,f of x -/
  | met (f x:Addr)
  /-- a range object lo,lo+1, .. below hi -/
  | rng (lo hi:Int)
  /-- a thing that is known to the object (the script;a dict while a loop walks it):read,never written while it is so -/
  | frz (o:Obj) (u:HO)
  /-- a code object's table -/
  | tbl (q:Str)
  /-- any other thing,by what is true of its one object (a def of one's own:SetO a S n:=HO.ext fun h=> ..) -/
  | ext (φ:Heap→Prop)
abbrev Hp:=Addr→Option HO
def upd (H:Hp) (a:Addr) (o:HO):Hp:=fun b=>if b=a then some o else H b
theorem bi {H:Hp} {a:Addr} {o:HO}:upd H a o a=some o:=by unfold upd;rw [if_pos rfl]
theorem az {H:Hp} {a b:Addr} {o:HO} (h:b≠a):upd H a o b=H b:=by unfold upd;rw [if_neg h]
theorem oB {H:Hp} {a:Addr} {o u:HO}:upd (upd H a o) a u=upd H a u:=by
  funext b;unfold upd;split <;> rfl
theorem pN {H:Hp} {a b:Addr} {o u:HO} (h:H a=some o) (h':H b=some u) (d:o≠u):a≠b:=by
  intro e;subst e;rw [h] at h';exact d (Option.some.inj h')
theorem bK {H:Hp} {a b:Addr} {o:HO} (h:H a=some o) (h':H b=none):a≠b:=by
  intro e;subst e;rw [h] at h';cases h'
section
variable (P:Program) (w:World)
def ObjOk (H:Hp) (h:Heap) (a:Addr):HO→Prop
  | .lst xs=>xs.length≤sizeLine∧∃(its:List Value) (n:Nat),Vals xs its∧h.get? a=some {cls:= .type "list",data:= .seq its.toArray n}
  | .tup xs=>xs.length≤sizeLine∧∃its:List Value,Vals xs its∧IsTup h a its.toArray
  | .dK kvs=>kvs.length≤sizeLine∧(a == sysModules)=false∧∃vs,KV kvs vs∧h.DictOf (gI P w) a vs
  | .dT kvs=>kvs.length≤sizeLine∧(a == sysModules)=false∧∃xs:List (List cN×Addr×Value),
      Paired (fun (p:List cN×V) (q:List cN×Addr×Value)=>p.1=q.1∧H q.2.1=some (.tup (p.1.map kV))∧RelV p.2 q.2.2) kvs xs∧
      ∃o es ep,h.get? a=some o∧o.ExactDict∧o.data= .dict es ep∧es.toList=xs.map (entryOfKey (tupleKind (gI P w)))∧(xs.map (·.1)).Nodup
  | .set S n=>h.SetOf (intKind P w) a S n
  | .ins C dx fs=>H dx=some (.own a)∧fs.length≤1000∧dx≠a∧h.get? a=some (PySem.W.instObj C dx)∧
      ∃mA,h.Ns1 dx mA∧(∀f,RelO (fs.lookup f) (mA f))∧PySem.Within mA (fs.map (·.1))
  | .own _=>∃o,h.get? a=some o
  | .xd fs=>∃mA,h.Ns1 a mA∧∀f,RelO (fs.lookup f) (mA f)
  | .rng lo hi=>∃t u v,h.get? a=some {cls:= .type "range",data:= .fields #[.int lo t, .int hi u, .int 1 v]}
  | .frz o u=>h.get? a=some o∧ObjOk H h a u
  | .tbl q=>∃ps:Array Value,h.get? a=some (PySem.W.tabObj ps)∧TriplesOk ps.toList∧∀pos cv,codeAmong pos ps.toList=some cv→∃c,cv=Value.ref c∧H c=some (.own a)∧h.CodeRec cv q
  | .met f x=>h.get? a=some (PySem.W.methodObj (.ref f) (.ref x))
  | .ext φ=>φ h∧(∃o,h.get? a=some o)∧∀h1 h2:Heap,φ h1→(∀o,h1.get? a=some o→h2.get? a=some o)→φ h2
def HOk (H:Hp) (h:Heap):Prop:=∀a o,H a=some o→ObjOk P w H h a o
end
section
variable {P:Program} {w:World} {H H':Hp} {h h':Heap} {a:Addr} {o:HO}
theorem ObjOk.lt (x:ObjOk P w H h a o):a < h.objs.size:=by
  cases o with
  | lst xs=>obtain ⟨_,_,_,_,e⟩:=x;exact Heap.lt_size e
  | tup xs=>obtain ⟨_,_,_,p⟩:=x;exact p.lt
  | dK kvs=>obtain ⟨_,_,_,_,o,_,_,e,_⟩:=x;exact Heap.lt_size e
  | dT kvs=>obtain ⟨_,_,_,_,o,_,_,e,_⟩:=x;exact Heap.lt_size e
  | set S n=>obtain ⟨o,_,_,_,e,_⟩:=x;exact Heap.lt_size e
  | ins C dx fs=>obtain ⟨_,_,_,e,_⟩:=x;exact Heap.lt_size e
  | own y=>obtain ⟨_,e⟩:=x;exact Heap.lt_size e
  | xd fs=>obtain ⟨_,⟨_,_,_,e,_⟩,_⟩:=x;exact Heap.lt_size e
  | rng lo hi=>obtain ⟨_,_,_,e⟩:=x;exact Heap.lt_size e
  | frz ob u=>obtain ⟨e,_⟩:=x;exact Heap.lt_size e
  | tbl q=>obtain ⟨_,e,_⟩:=x;exact Heap.lt_size e
  | met f y=>exact Heap.lt_size (show h.get? a=some _ from x)
  | ext φ=>obtain ⟨_,⟨_,e⟩,_⟩:=x;exact Heap.lt_size e
theorem Paired.mapP {α β:Type} {F G:α→β→Prop} {l₁:List α} {l₂:List β} (h:Paired F l₁ l₂) (f:∀a b,F a b→G a b):Paired G l₁ l₂:=by
  induction h with
  | nil=>exact .nil
  | cons r _ t=>exact .cons (f _ _ r) t
theorem ObjOk.stay (x:ObjOk P w H h a o) (k:∀b u,(b=a∨H b=some (.own a))→h.get? b=some u→h'.get? b=some u)
    (ho:∀b,H b=some (.own a)→H' b=some (.own a)) (ht:∀b xs,H b=some (.tup xs)→H' b=some (.tup xs)):ObjOk P w H' h' a o:=by
  induction o with
  | lst xs=>obtain ⟨z,its,n,r,e⟩:=x;exact ⟨z,its,n,r,k _ _ (.inl rfl) e⟩
  | tup xs=>obtain ⟨z,its,r,ob,e,c⟩:=x;exact ⟨z,its,r,ob,k _ _ (.inl rfl) e,c⟩
  | dK kvs=>obtain ⟨z,y,vs,r,ob,es,ep,e,c⟩:=x;exact ⟨z,y,vs,r,ob,es,ep,k _ _ (.inl rfl) e,c⟩
  | dT kvs=>
    obtain ⟨z,y,xs,r,ob,es,ep,e,c⟩:=x
    exact ⟨z,y,xs,Paired.mapP r fun p q z=>⟨z.1,ht _ _ z.2.1,z.2.2⟩,ob,es,ep,k _ _ (.inl rfl) e,c⟩
  | set S n=>obtain ⟨ob,es,ep,t,e,c⟩:=x;exact ⟨ob,es,ep,t,k _ _ (.inl rfl) e,c⟩
  | ins C dx fs=>
    obtain ⟨d,z,ne,e,mA,⟨od,es,ep,e2,c⟩,r⟩:=x
    exact ⟨ho _ d,z,ne,k _ _ (.inl rfl) e,mA,⟨od,es,ep,k _ _ (.inr d) e2,c⟩,r⟩
  | own y=>obtain ⟨ob,e⟩:=x;exact ⟨ob,k _ _ (.inl rfl) e⟩
  | xd fs=>obtain ⟨mA,⟨od,es,ep,e,c⟩,r⟩:=x;exact ⟨mA,⟨od,es,ep,k _ _ (.inl rfl) e,c⟩,r⟩
  | rng lo hi=>obtain ⟨t,u,v,e⟩:=x;exact ⟨t,u,v,k _ _ (.inl rfl) e⟩
  | frz ob u ih=>obtain ⟨e,q⟩:=x;exact ⟨k _ _ (.inl rfl) e,ih q⟩
  | tbl q=>
    obtain ⟨ps,e,t,r⟩:=x
    refine ⟨ps,k _ _ (.inl rfl) e,t,fun pos cv z=>?_⟩
    obtain ⟨c,ec,ho',c2,oc,vs,tq,hc,hoc,hd⟩:=r pos cv z
    subst ec
    cases hc
    exact ⟨c,rfl,ho _ ho',c,oc,vs,tq,rfl,k _ _ (.inr ho') hoc,hd⟩
  | met f y=>
    have e:h.get? a=some (PySem.W.methodObj (.ref f) (.ref y)):=x
    show h'.get? a=some (PySem.W.methodObj (.ref f) (.ref y))
    exact k a _ (.inl rfl) e
  | ext φ=>obtain ⟨p,⟨o,e⟩,st⟩:=x;exact ⟨st _ _ p fun o q=>k _ _ (.inl rfl) q,⟨o,k _ _ (.inl rfl) e⟩,st⟩
theorem HOk.lt (x:HOk P w H h) (e:H a=some o):a < h.objs.size:=(x a o e).lt
theorem HOk.fresh (x:HOk P w H h) (e:h.objs.size≤a):H a=none:=by
  cases q:H a with
  | none=>rfl
  | some u=>exact absurd (Nat.lt_of_lt_of_le (x.lt q) e) (Nat.lt_irrefl _)
theorem HOk.kept (x:HOk P w H h) (k:∀b u,h.get? b=some u→h'.get? b=some u):HOk P w H h':=fun a o e=>
  (x a o e).stay (fun b u _ q=>k b u q) (fun _ q=>q) fun _ _ q=>q
theorem HOk.laid (x:HOk P w H h) (k:∀b u,h.get? b=some u→h'.get? b=some u) (hp:h.objs.size≤a) (new:ObjOk P w (upd H a o) h' a o):HOk P w (upd H a o) h':=fun b u e=>by
  have hn:=x.fresh hp
  by_cases hb:b=a
  · subst hb;rw [bi] at e;cases e;exact new
  · rw [az hb] at e
    exact (x b u e).stay (fun c v _ q=>k c v q) (fun c q=>by rw [az (bK q hn)];exact q) fun c xs q=>by rw [az (bK q hn)];exact q
end
def Rd (H:Hp) (a:Addr) (u:HO):Prop:=H a=some u∨∃o,H a=some (.frz o u)
theorem Rd.of {H:Hp} {a:Addr} {u:HO} (h:H a=some u):Rd H a u:= .inl h
theorem Rd.ok {P:Program} {w:World} {H:Hp} {h:Heap} {a:Addr} {u:HO} (r:Rd H a u) (x:HOk P w H h):ObjOk P w H h a u:=by
  rcases r with r | ⟨o,r⟩
  · exact x a u r
  · obtain ⟨_,q⟩:=x a _ r
    exact q
def tO:Option HO→Prop
  | some (.lst _)=>True
  | some (.dK _)=>True
  | some (.dT _)=>True
  | some (.set _ _)=>True
  | some (.ins _ _ _)=>True
  | some (.ext _)=>True
  | _=>False
section
variable {P:Program} {w:World} {H:Hp} {h h':Heap} {x e:Addr} {o':HO}
theorem HOk.write (ok:HOk P w H h) (mu:tO (H x)) (he:e=x∨H e=some (.own x)) (k:∀b u,b≠e→h.get? b=some u→h'.get? b=some u) (heo:∃u,h'.get? e=some u)
    (new:ObjOk P w (upd H x o') h' x o'):HOk P w (upd H x o') h':=fun b u q=>by
  have nown:∀c y,H c=some (.own y)→c≠x:=fun c y r z=>by subst z;rw [r] at mu;exact mu
  have ntup:∀c xs,H c=some (.tup xs)→c≠x:=fun c xs r z=>by subst z;rw [r] at mu;exact mu
  by_cases hb:b=x
  · subst hb;rw [bi] at q;cases q;exact new
  · rw [az hb] at q
    by_cases hbe:b=e
    · have q':H b=some (.own x):=by
        rcases he with z | z
        · exact absurd (hbe.trans z) hb
        · rw [hbe];exact z
      rw [q] at q';cases q'
      obtain ⟨v,hv⟩:=heo
      exact ⟨v,by rw [hbe];exact hv⟩
    · refine (ok b u q).stay (fun c v hc r=>k c v ?_ r) (fun c r=>by rw [az (nown c b r)];exact r) fun c xs r=>by rw [az (ntup c xs r)];exact r
      rcases hc with rfl | hc
      · exact hbe
      · rintro rfl
        rcases he with z | z
        · exact nown c b hc z
        · rw [hc] at z;cases z;exact hb rfl
end
structure Un (fs ex:List Addr) (H H':Hp) (h h':Heap):Prop where
  keep:∀b o,h.get? b=some o→H b=none→b∉fs→b∉ex→h'.get? b=some o
  slot:∀b o,h.get? b=some o→H b=none→b∈fs→b∉ex→∃sl,h'.get? b=some {o with slots:=sl}
  free:∀b o,h.get? b=some o→H b=none→b∉ex→H' b=none
  there:∀b o,h.get? b=some o→b∉ex→∃o',h'.get? b=some o'
  tups:∀b xs,H b=some (.tup xs)→H' b=some (.tup xs)
  frzs:∀b o u,H b=some (.frz o u)→H' b=some (.frz o u)
  tbls:∀b ps,H b=some (.tbl ps)→H' b=some (.tbl ps)
section
variable {fs fs' ex ex':List Addr} {H H1 H2:Hp} {h h1 h2 h':Heap} {a x e:Addr} {o:HO}
theorem Un.any (u:Un fs ex H H1 h h1) {b:Addr} {ob:Obj} (q:h.get? b=some ob) (n:H b=none) (hx:b∉ex):∃sl,h1.get? b=some {ob with slots:=sl}:=by
  by_cases hb:b∈fs
  · exact u.slot b ob q n hb hx
  · exact ⟨ob.slots,u.keep b ob q n hb hx⟩
theorem Un.trans (a:Un fs ex H H1 h h1) (b:Un fs ex H1 H2 h1 h2):Un fs ex H H2 h h2 where
  keep:=fun c ob q n hc hx=>b.keep c ob (a.keep c ob q n hc hx) (a.free c ob q n hx) hc hx
  slot:=fun c ob q n hc hx=>by
    obtain ⟨sl,e1⟩:=a.slot c ob q n hc hx
    obtain ⟨sl',e2⟩:=b.slot c _ e1 (a.free c ob q n hx) hc hx
    exact ⟨sl',e2⟩
  free:=fun c ob q n hx=>by
    obtain ⟨o',e1⟩:=a.there c ob q hx
    exact b.free c o' e1 (a.free c ob q n hx) hx
  there:=fun c ob q hx=>by
    obtain ⟨o',e1⟩:=a.there c ob q hx
    exact b.there c o' e1 hx
  tups:=fun c xs q=>b.tups c xs (a.tups c xs q)
  frzs:=fun c ob xs q=>b.frzs c ob xs (a.frzs c ob xs q)
  tbls:=fun c ps q=>b.tbls c ps (a.tbls c ps q)
theorem Un.kept (k:∀b u,h.get? b=some u→h'.get? b=some u):Un fs ex H H h h':=
  ⟨fun b ob q _ _ _=>k b ob q,fun b ob q _ _ _=>⟨ob.slots,k b ob q⟩,fun _ _ _ n _=>n,fun b ob q _=>⟨ob,k b ob q⟩,fun _ _ q=>q,fun _ _ _ q=>q,fun _ _ q=>q⟩
theorem Un.refl:Un fs ex H H h h:=Un.kept fun _ _ q=>q
theorem Un.laid (k:∀b u,h.get? b=some u→h'.get? b=some u) (hp:h.objs.size≤a) (hn:H a=none):Un fs ex H (upd H a o) h h' where
  keep:=fun b u q _ _ _=>k b u q
  slot:=fun b u q _ _ _=>⟨u.slots,k b u q⟩
  free:=fun b u q n _=>by rw [az (Nat.ne_of_lt (Nat.lt_of_lt_of_le (Heap.lt_size q) hp))];exact n
  there:=fun b u q _=>⟨u,k b u q⟩
  tups:=fun b xs q=>by rw [az (bK q hn)];exact q
  frzs:=fun b u xs q=>by rw [az (bK q hn)];exact q
  tbls:=fun b ps q=>by rw [az (bK q hn)];exact q
theorem Un.write (mu:tO (H x)) (he:e=x∨H e=some (.own x)) (k:∀b u,b≠e→h.get? b=some u→h'.get? b=some u) (heo:∃u,h'.get? e=some u):Un fs ex H (upd H x o) h h':=by
  have hx:∀b,H b=none→b≠x:=fun b n z=>by subst z;rw [n] at mu;exact mu
  have hb:∀b,H b=none→b≠e:=fun b n z=>by
    subst z
    rcases he with r | r
    · exact hx b n r
    · rw [n] at r;cases r
  have hm:∀b u,H b=some u→¬tO (some u)→b≠x:=fun b u q nm z=>by subst z;rw [q] at mu;exact nm mu
  refine ⟨fun b u q n _ _=>k b u (hb b n) q,fun b u q n _ _=>⟨u.slots,k b u (hb b n) q⟩,fun b u q n _=>by rw [az (hx b n)];exact n,fun b u q _=>?_,
    fun b xs q=>by rw [az (hm b _ q fun z=>z)];exact q,fun b u xs q=>by rw [az (hm b _ q fun z=>z)];exact q,fun b ps q=>by rw [az (hm b _ q fun z=>z)];exact q⟩
  by_cases hbe:b=e
  · subst hbe;exact heo
  · exact ⟨u,k b u hbe q⟩
theorem Un.mono (u:Un fs ex H H1 h h1) (hs:∀b∈fs,b∈fs') (hx:∀b∈ex,b∈ex'):Un fs' ex' H H1 h h1:=
  ⟨fun b ob q n hb he=>u.keep b ob q n (fun z=>hb (hs b z)) fun z=>he (hx b z),fun _ _ q n _ he=>u.any q n fun z=>he (hx _ z),fun b ob q n he=>u.free b ob q n fun z=>he (hx b z),fun b ob q he=>u.there b ob q fun z=>he (hx b z),u.tups,u.frzs,u.tbls⟩
end
def tP (h:Heap) (H:Hp):List Addr:=(List.range h.objs.size).filter fun a=>(H a).isSome
def jy (h:Heap) (H:Hp):Heap:=PySem.W.hideAll h (tP h H)
theorem lJ (h:Heap) (H:Hp):(jy h H).objs.size=h.objs.size:=PySem.W.hideAll_size _ _
theorem gO {h:Heap} {H:Hp} {b:Addr} {o:Obj} (e:h.get? b=some o) (n:H b=none):(jy h H).get? b=some o:=
  PySem.W.hideAll_get _ e fun hm=>by
    have q:(H b).isSome=true:=(List.mem_filter.mp hm).2
    rw [n] at q;simp at q
theorem oC {h:Heap} {H:Hp} {b:Addr} {o:Obj} (e:(jy h H).get? b=some o):h.get? b=some o∧H b=none:=by
  have e':h.get? b=some o:=PySem.W.of_hideAll (tP h H) e
  refine ⟨e',?_⟩
  cases q:H b with
  | none=>rfl
  | some x=>
    have hm:b∈tP h H:=List.mem_filter.mpr ⟨List.mem_range.mpr (Heap.lt_size e'),by simp [q]⟩
    have z:(jy h H).get? b=none:=PySem.W.hideAll_none (tP h H) hm
    rw [z] at e;cases e
def oD (g h:Heap) (L:Addr):List (Addr×Obj):=(List.range h.objs.size).filterMap fun a=>if a=L∨(g.get? a).isSome=true then none else (h.get? a).map fun o=>(a,o)
def be (g h:Heap) (L d:Addr):List (Addr×Obj):=(oD g h L).filter fun p=>decide (p.1≠d)
end L2
namespace L2
open PySem PySem.Spec PyProof.Rows
def rX (K:PySem.W.Frag):Option Addr:=match PySem.W.nsIn K mainGlobals "in_told_order" with
  | some (some (.ref f))=>match K.lookup f with
    | some ⟨_,_, .func fd,_⟩=>match fd.code with
      | .ref c=>match K.lookup c with
        | some ⟨_,_, .fields vs,_⟩=>match (vs[11]? :Option Value) with
          | some (.ref P)=>some P
          | _=>none
        | _=>none
      | _=>none
    | _=>none
  | _=>none
def gP (K:PySem.W.Frag) (b:Addr):Option Str:=if rX K=some b then some (Str.ofString "in_told_order.<locals>.<lambda>") else none
structure Mod (K:PySem.W.Frag) (mg:Str→Option Value) (base:Heap):Prop where
  kin:K.In base
  glob:base.Ns mainGlobals mg
  blt:∃mb,base.Ns builtinsNs mb∧∀x:Str,x≠"__name__"→mb x=bootBuiltins x
  nolimit:base.NoLimit
  bmain:∃bm ob,mg "__builtins__"=some (.ref bm)∧bm≠builtinsNs∧base.get? bm=some ob∧ob.cls= .type "module"∧ob.dict=some builtinsNs∧ob.data= .plain
structure Cx where
  prog:Program
  w:World
  K:PySem.W.Frag
  mg:Str→Option Value
  base:Heap
  A:Around
  N:List Str
  s₀:Shared
  H₀:Hp
  env:Env
  outer:List Env
  stack:List Env
  ex:List Addr
  fn:Str→Bool
  calm:Bool
  pn:List (Addr×Obj)
  xe:Value→Shared→Prop
def gA (l:List Env):List Addr:=l.filterMap (·.frame)
abbrev Cx.fs (X:Cx):List Addr:=gA X.outer
def p8 (sc:Scope) (x:Str):Prop:=sc.names.lookup x=some .local∨sc.names.lookup x=some .cell∨sc.names.lookup x=some .free
def rQ (sc:Scope) (x:Str):Prop:=sc.names.lookup x=some .local∨sc.names.lookup x=some .cell
def t0 (env:Env) (h:Heap) (m:Str→Option Value) (x:Str) (u:Value):Prop:=
  (env.kindOf x=some .local∧m x=some u)∨((env.kindOf x=some .cell∨env.kindOf x=some .free)∧∃c,env.cells.lookup x=some c∧h.IsCell c (some u))
structure Cx.Ok (X:Cx):Prop where
  mod:Mod X.K X.mg X.base
  kind:X.env.scope.kind= .function
  glob:X.env.globals=mainGlobals
  blt:X.env.builtins=builtinsNs
  above:X.s₀.heap.objs.size≤X.env.locals
  inj:∀x y c,X.env.cells.lookup x=some c→X.env.cells.lookup y=some c→x=y
  has:∀x,(X.env.kindOf x=some .cell∨X.env.kindOf x=some .free)→∃c,X.env.cells.lookup x=some c
  cab:∀x c,X.fn x=true→X.env.cells.lookup x=some c→X.s₀.heap.objs.size≤c
  hd:X.calm=true→X.A.handled=none
  frames:X.A.frames=some X.stack
  stk:X.stack=X.outer∨(X.stack=X.env::X.outer∧X.env.frame=some X.env.locals)
  exf:∀b∈X.ex,b≠X.env.locals∧∀x c,X.env.cells.lookup x=some c→c≠b
  bs:∀b o,X.base.get? b=some o→X.s₀.heap.get? b=some o∧X.H₀ b=none
  bsz:X.base.objs.size≤X.s₀.heap.objs.size
  noex:∀b o,X.base.get? b=some o→b∉X.ex
  exfs:∀b∈X.ex,b∉X.fs
  funs:X.s₀.heap.FunFrames X.base X.outer
  frf:∀b∈X.fs,X.H₀ b=none
  tab:∀b q,gP X.K b=some q→X.H₀ b=some (.tbl q)
structure Inv (X:Cx) (pins:List (Addr×Obj)) (σ:List (Option V)) (H:Hp) (s:Shared):Prop where
  ok:X.Ok
  os:s.os=X.s₀.os
  bare:AllBare s.gens
  base:Un X.fs X.ex X.H₀ H X.s₀.heap s.heap
  loc:∃m,s.heap.Ns X.env.locals m∧∀(i:Nat) (x:Str) (v:V),X.N[i]? =some x→σ[i]? =some (some v)→p8 X.env.scope x→∃u,RelV v u∧t0 X.env s.heap m x u
  cell:∀x c,X.env.cells.lookup x=some c→∃v,s.heap.IsCell c v
  free:H X.env.locals=none
  freeC:∀x c,X.env.cells.lookup x=some c→H c=none
  pin:∀p∈X.pn++pins,s.heap.get? p.1=some p.2∧H p.1=none∧p.1≠X.env.locals∧p.1∉X.fs∧∀v,p.2.data≠ .cell v
  hok:HOk X.prog X.w H s.heap
  len:σ.length=X.N.length
section
variable {X:Cx} {pins:List (Addr×Obj)} {σ:List (Option V)} {H H':Hp} {s:Shared} {h':Heap}
theorem Cx.Ok.nofr (ok:X.Ok) {b:Addr} {o:Obj} (e:X.base.get? b=some o):b∉X.fs:=fun hb=>by
  have:=(ok.funs.mem hb).1
  rw [e] at this;cases this
theorem Inv.bs (I:Inv X pins σ H s):∀b o,X.base.get? b=some o→s.heap.get? b=some o∧H b=none:=fun b o e=>
  ⟨I.base.keep b o (I.ok.bs b o e).1 (I.ok.bs b o e).2 (I.ok.nofr e) (I.ok.noex b o e),I.base.free b o (I.ok.bs b o e).1 (I.ok.bs b o e).2 (I.ok.noex b o e)⟩
theorem Inv.bk (I:Inv X pins σ H s):∀b o,X.base.get? b=some o→s.heap.get? b=some o:=fun b o e=>(I.bs b o e).1
theorem Inv.mod (I:Inv X pins σ H s):Mod X.K X.mg X.base:=I.ok.mod
theorem Inv.tab (I:Inv X pins σ H s):∀b q,gP X.K b=some q→H b=some (.tbl q):=fun b q e=>I.base.tbls b q (I.ok.tab b q e)
theorem Inv.kIn (I:Inv X pins σ H s):X.K.In s.heap:=I.ok.mod.kin.keeps I.bk
theorem Inv.nolimit (I:Inv X pins σ H s):s.heap.NoLimit:=I.ok.mod.nolimit.keeps I.bk
theorem Inv.fr (I:Inv X pins σ H s):∃m,Fr X.base X.env.locals s.heap m:=
  let ⟨m,hn,_⟩:=I.loc
  ⟨m,hn,I.bk,Nat.le_trans I.ok.bsz I.ok.above⟩
theorem Inv.lt (I:Inv X pins σ H s):X.env.locals < s.heap.objs.size:=let ⟨_,hn,_⟩:=I.loc;hn.lt
theorem Inv.sz (I:Inv X pins σ H s):X.s₀.heap.objs.size≤s.heap.objs.size:=Nat.le_trans I.ok.above (Nat.le_of_lt I.lt)
theorem Inv.nofs (I:Inv X pins σ H s) {a:Addr} (h:s.heap.objs.size≤a):a∉X.fs:=fun hb=>by
  obtain ⟨_,o,ho,_⟩:=I.ok.funs.mem hb
  exact absurd (Nat.lt_of_lt_of_le (Heap.lt_size ho) (Nat.le_trans I.sz h)) (Nat.lt_irrefl _)
theorem Inv.cne (I:Inv X pins σ H s):∀x c,X.env.cells.lookup x=some c→c≠X.env.locals:=fun x c e z=>by
  obtain ⟨v,o,ho,hd⟩:=I.cell x c e
  obtain ⟨m,⟨o',es,ep,ho',hd',_⟩,_⟩:=I.loc
  rw [z,ho'] at ho;cases ho;rw [hd'] at hd;cases hd
theorem Inv.funs (I:Inv X pins σ H s):s.heap.FunFrames X.base X.outer:=by
  have all:∀(l:List Env),(∀b∈gA l,b∈X.fs)→X.s₀.heap.FunFrames X.base l→s.heap.FunFrames X.base l:=by
    intro l
    induction l with
    | nil=>intro _ _;trivial
    | cons env r ih=>
      intro hs hl
      obtain ⟨hk,⟨L,o,hf,hn,ho,hd⟩,hr⟩:=hl
      have hL:L∈X.fs:=hs L (by unfold gA;rw [List.filterMap_cons,hf];exact List.mem_cons_self)
      obtain ⟨sl,e⟩:=I.base.slot L o ho (I.ok.frf L hL) hL fun z=>I.ok.exfs L z hL
      exact ⟨hk,⟨L,_,hf,hn,e,hd⟩,ih (fun b hb=>hs b (by unfold gA;rw [List.filterMap_cons,hf];exact List.mem_cons_of_mem _ hb)) hr⟩
  exact all X.outer (fun _ hb=>hb) I.ok.funs
theorem Inv.stack (I:Inv X pins σ H s):s.heap.FunFrames X.base X.stack:=by
  rcases I.ok.stk with e | ⟨e,hf⟩
  · rw [e];exact I.funs
  · rw [e]
    obtain ⟨m,hn,_⟩:=I.loc
    refine .cons (by rw [I.ok.kind];decide) hf hn ?_ I.funs
    exact Heap.get?_none_of_le (Nat.le_trans I.ok.bsz I.ok.above)
theorem Inv.stkSub (I:Inv X pins σ H s):∀b∈gA X.stack,b∈X.env.locals::X.fs:=fun b hb=>by
  rcases I.ok.stk with e | ⟨e,hf⟩
  · rw [e] at hb;exact List.mem_cons_of_mem _ hb
  · rw [e] at hb
    unfold gA at hb
    rw [List.filterMap_cons,hf] at hb
    exact hb
theorem Inv.stkFree (I:Inv X pins σ H s):∀b∈gA X.stack,H b=none:=fun b hb=>by
  rcases List.mem_cons.mp (I.stkSub b hb) with e | hb
  · rw [e];exact I.free
  · obtain ⟨_,o,ho,_⟩:=I.ok.funs.mem hb
    exact I.base.free b o ho (I.ok.frf b hb) fun z=>I.ok.exfs b z hb
theorem Inv.step {g':Array GenState} {t':Nat} {d':Drawn} {ch:List Addr} (I:Inv X pins σ H s)
    (hch:∀b∈ch,(b∈X.ex∨X.s₀.heap.objs.size≤b)∧b≠X.env.locals∧(∀x c,X.env.cells.lookup x=some c→c≠b)∧∀p∈X.pn++pins,p.1≠b)
    (keep:∀b o,b≠X.env.locals→b∉X.fs→b∉ch→s.heap.get? b=some o→H b=none→h'.get? b=some o)
    (slot:∀b o,b≠X.env.locals→b∈X.fs→b∉ch→s.heap.get? b=some o→H b=none→∃sl,h'.get? b=some {o with slots:=sl}) (free:∀b o,b∉ch→s.heap.get? b=some o→H b=none→H' b=none)
    (there:∀b o,b∉ch→s.heap.get? b=some o→∃o',h'.get? b=some o')
    (tups:∀b xs,H b=some (.tup xs)→H' b=some (.tup xs)) (frzs:∀b o u,H b=some (.frz o u)→H' b=some (.frz o u)) (tbls:∀b ps,H b=some (.tbl ps)→H' b=some (.tbl ps))
    (ns:∀m,s.heap.Ns X.env.locals m→h'.Ns X.env.locals m) (hok:HOk X.prog X.w H' h') (hg:AllBare g'):
    Inv X pins σ H' {s with heap:=h',gens:=g',drawn:=d',toks:=t'}:=by
  have neL:∀b o,X.s₀.heap.get? b=some o→b≠X.env.locals:=fun b o e=>Nat.ne_of_lt (Nat.lt_of_lt_of_le (Heap.lt_size e) I.ok.above)
  have neC:∀b o,X.s₀.heap.get? b=some o→b∉X.ex→b∉ch:=fun b o e hx hb=>by
    rcases (hch b hb).1 with z | z
    · exact hx z
    · exact absurd (Nat.lt_of_lt_of_le (Heap.lt_size e) z) (Nat.lt_irrefl _)
  have cellK:∀x c,X.env.cells.lookup x=some c→∀v,s.heap.IsCell c v→h'.IsCell c v:=fun x c e v ⟨o,ho,hd⟩=>by
    have nch:c∉ch:=fun z=>(hch c z).2.2.1 x c e rfl
    by_cases hc:c∈X.fs
    · obtain ⟨sl,q⟩:=slot c o (I.cne x c e) hc nch ho (I.freeC x c e)
      exact ⟨_,q,hd⟩
    · exact ⟨o,keep c o (I.cne x c e) hc nch ho (I.freeC x c e),hd⟩
  refine ⟨I.ok,I.os,hg,⟨fun b o e n hb hx=>?_,fun b o e n hb hx=>?_,fun b o e n hx=>?_,fun b o e hx=>?_,fun b xs e=>tups b xs (I.base.tups b xs e),fun b o xs e=>frzs b o xs (I.base.frzs b o xs e),fun b ps e=>?_⟩,?_,fun x c e=>?_,?_,fun x c e=>?_,fun p hp=>?_,hok,I.len⟩
  · exact keep b o (neL b o e) hb (neC b o e hx) (I.base.keep b o e n hb hx) (I.base.free b o e n hx)
  · obtain ⟨sl,e1⟩:=I.base.slot b o e n hb hx
    obtain ⟨sl',e2⟩:=slot b _ (neL b o e) hb (neC b o e hx) e1 (I.base.free b o e n hx)
    exact ⟨sl',e2⟩
  · obtain ⟨o',e1⟩:=I.base.there b o e hx
    exact free b o' (neC b o e hx) e1 (I.base.free b o e n hx)
  · obtain ⟨o',e1⟩:=I.base.there b o e hx
    exact there b o' (neC b o e hx) e1
  · exact tbls b _ (I.base.tbls b ps e)
  · obtain ⟨m,hn,hl⟩:=I.loc
    refine ⟨m,ns m hn,fun i x v e1 e2 e3=>?_⟩
    obtain ⟨u,r,l⟩:=hl i x v e1 e2 e3
    refine ⟨u,r,?_⟩
    rcases l with l | ⟨k,c,e,z⟩
    · exact .inl l
    · exact .inr ⟨k,c,e,cellK x c e _ z⟩
  · obtain ⟨v,z⟩:=I.cell x c e
    exact ⟨v,cellK x c e v z⟩
  · obtain ⟨m,⟨o,_,_,ho,_⟩,_⟩:=I.loc
    exact free _ o (fun z=>(hch _ z).2.1 rfl) ho I.free
  · obtain ⟨v,o,ho,hd⟩:=I.cell x c e
    exact free c o (fun z=>(hch c z).2.2.1 x c e rfl) ho (I.freeC x c e)
  · obtain ⟨e,n,ne,nf,d⟩:=I.pin p hp
    have nch:p.1∉ch:=fun z=>(hch p.1 z).2.2.2 p hp rfl
    exact ⟨keep p.1 p.2 ne nf nch e n,free p.1 p.2 nch e n,ne,nf,d⟩
theorem Inv.un {t':Nat} (I:Inv X pins σ H s) (u:Un X.fs [] H H' s.heap h') (hok:HOk X.prog X.w H' h'):Inv X pins σ H' {s with heap:=h',toks:=t'}:=by
  obtain ⟨m,⟨o,es,ep,ho,r⟩,_⟩:=id I.loc
  obtain ⟨sl,hL⟩:=u.any ho I.free (by simp)
  exact I.step (g':=s.gens) (d':=s.drawn) (ch:=[]) (fun _ z=>nomatch z) (fun b o _ hb _ e n=>u.keep b o e n hb (by simp)) (fun b o _ hb _ e n=>u.slot b o e n hb (by simp)) (fun b o _ e n=>u.free b o e n (by simp)) (fun b o _ e=>u.there b o e (by simp)) u.tups u.frzs u.tbls (fun m' hm=>by
    obtain ⟨o',es',ep',ho',r'⟩:=hm
    rw [ho] at ho';cases ho'
    exact ⟨_,es',ep',hL,r'⟩) hok I.bare
theorem Inv.call {g':Array GenState} {t':Nat} {d':Drawn} {ch:List Addr} (I:Inv X pins σ H s) (u:Un (gA X.stack) ch H H' s.heap h') (hok:HOk X.prog X.w H' h') (hg:AllBare g')
    (hch:∀b∈ch,(b∈X.ex∨X.s₀.heap.objs.size≤b)∧b≠X.env.locals∧(∀x c,X.env.cells.lookup x=some c→c≠b)∧∀p∈X.pn++pins,p.1≠b):
    Inv X pins σ H' {s with heap:=h',gens:=g',drawn:=d',toks:=t'}:=by
  obtain ⟨m,⟨o,es,ep,ho,r⟩,_⟩:=id I.loc
  obtain ⟨sl,hL⟩:=u.any ho I.free fun z=>(hch _ z).2.1 rfl
  exact I.step (ch:=ch) hch (fun b o hL hb hc e n=>u.keep b o e n (fun z=>(List.mem_cons.mp (I.stkSub b z)).elim hL hb) hc) (fun b o _ _ hc e n=>u.any e n hc) (fun b o hc e n=>u.free b o e n hc) (fun b o hc e=>u.there b o e hc) u.tups u.frzs u.tbls (fun m' hm=>by
    obtain ⟨o',es',ep',ho',r'⟩:=hm
    rw [ho] at ho';cases ho'
    exact ⟨_,es',ep',hL,r'⟩) hok hg
theorem Inv.turned {t':Nat} {it:Addr} (I:Inv X pins σ H s) (k:∀b o,b≠it→s.heap.get? b=some o→h'.get? b=some o) (hn:H it=none) (hL:it≠X.env.locals)
    (h1:it∈X.ex∨X.s₀.heap.objs.size≤it) (h2:∀x c,X.env.cells.lookup x=some c→c≠it) (h3:∀p∈X.pn++pins,p.1≠it):Inv X pins σ H {s with heap:=h',toks:=t'}:=by
  have nit:∀b u,H b=some u→b≠it:=fun b u e z=>by rw [z,hn] at e;cases e
  refine I.step (g':=s.gens) (d':=s.drawn) (ch:=[it]) (fun b hb=>?_) (fun b o _ _ hc e _=>k b o (fun z=>hc (by simp [z])) e) (fun b o _ _ hc e _=>⟨o.slots,k b o (fun z=>hc (by simp [z])) e⟩) (fun _ _ _ _ n=>n)
    (fun b o hc e=>⟨o,k b o (fun z=>hc (by simp [z])) e⟩) (fun _ _ e=>e) (fun _ _ _ e=>e) (fun _ _ e=>e) (fun m hm=>?_) (fun b u e=>?_) I.bare
  · have e:b=it:=by simpa using hb
    subst e
    exact ⟨h1,hL,h2,h3⟩
  · obtain ⟨o,es,ep,ho,r⟩:=hm
    exact ⟨o,es,ep,k _ o (Ne.symm hL) ho,r⟩
  · refine (I.hok b u e).stay (fun c v hc q=>k c v ?_ q) (fun _ q=>q) fun _ _ q=>q
    rcases hc with z | z
    · rw [z];exact nit b u e
    · exact nit c _ z
theorem Inv.tok (I:Inv X pins σ H s) (t:Nat):Inv X pins σ H {s with toks:=t}:=I.un (h':=s.heap) (t':=t) Un.refl I.hok
theorem Inv.kept {t':Nat} (I:Inv X pins σ H s) (k:∀b u,s.heap.get? b=some u→h'.get? b=some u):Inv X pins σ H {s with heap:=h',toks:=t'}:=I.un (Un.kept k) (I.hok.kept k)
theorem Inv.laid {a:Addr} {o:HO} {t':Nat} (I:Inv X pins σ H s) (k:∀b u,s.heap.get? b=some u→h'.get? b=some u) (hp:s.heap.objs.size≤a) (new:ObjOk X.prog X.w (upd H a o) h' a o):
    Inv X pins σ (upd H a o) {s with heap:=h',toks:=t'}:=I.un (Un.laid k hp (I.hok.fresh hp)) (I.hok.laid k hp new)
theorem Inv.write {x e:Addr} {o:HO} {t':Nat} (I:Inv X pins σ H s) (mu:tO (H x)) (he:e=x∨H e=some (.own x)) (k:∀b u,b≠e→s.heap.get? b=some u→h'.get? b=some u) (heo:∃u,h'.get? e=some u)
    (new:ObjOk X.prog X.w (upd H x o) h' x o):Inv X pins σ (upd H x o) {s with heap:=h',toks:=t'}:=I.un (Un.write mu he k heo) (I.hok.write mu he k heo new)
theorem Inv.pins_of {pins':List (Addr×Obj)} (I:Inv X pins σ H s) (h:∀p∈pins',s.heap.get? p.1=some p.2∧H p.1=none∧p.1≠X.env.locals∧p.1∉X.fs∧∀v,p.2.data≠ .cell v):Inv X pins' σ H s:=
  ⟨I.ok,I.os,I.bare,I.base,I.loc,I.cell,I.free,I.freeC,fun p hp=>(List.mem_append.mp hp).elim (fun z=>I.pin p (List.mem_append_left _ z)) (h p),I.hok,I.len⟩
theorem gQ {N:List Str} (hN:N.Nodup) {i j:Nat} {x:Str} (a:N[i]? =some x) (b:N[j]? =some x):i=j:=by
  obtain ⟨h1,e1⟩:=List.getElem?_eq_some_iff.mp a
  obtain ⟨h2,e2⟩:=List.getElem?_eq_some_iff.mp b
  exact (List.getElem_inj hN).mp (e1.trans e2.symm)
theorem lK {M:Model} {A:Around} {E:Value→Shared→Prop} {i:Nat} {x:Str} {v:V} {u:Value} {Q:Unit→Shared→Prop} (I:Inv X pins σ H s) (hN:X.N.Nodup) (hi:X.N[i]? =some x) (hx:rQ X.env.scope x) (r:RelV v u)
    (h:∀s',Inv X pins (σ.set i (some v)) H s'→(∃a,Heap.SameBut a s.heap s'.heap∧(a=X.env.locals∨X.env.cells.lookup x=some a))→Q () s') (hf:X.fn x=true∨X.env.scope.names.lookup x=some .local:=by first | exact .inl rfl | exact .inr rfl | assumption):wpAny M A (storeName X.env x u) Q E s:=by
  obtain ⟨m,hn,hl⟩:=id I.loc
  have hcls:(X.env.scope.kind == .class||(X.env.scope.kind == .module&&X.env.locals != X.env.globals))=false:=by rw [I.ok.kind];rfl
  have hiσ:i < σ.length:=by rw [I.len];exact (List.getElem?_eq_some_iff.mp hi).1
  have cne:=I.cne
  have tracked:∀{a:Addr} {h':Heap},(∃o,s.heap.get? a=some o∧H a=none)→Heap.SameBut a s.heap h'→HOk X.prog X.w H h':=fun {a h'} ha hs b ob e=>by
    obtain ⟨_,_,hfree⟩:=ha
    refine (I.hok b ob e).stay (fun c w' hc q=>(hs.2 c ?_).trans q) (fun _ q=>q) fun _ _ q=>q
    rintro rfl
    rcases hc with rfl | hc
    · rw [hfree] at e;cases e
    · rw [hfree] at hc;cases hc
  rcases hx with hk | hk
  · refine wpAny_storeName_local hk hn (fun h' hn' hs=>?_) hcls
    obtain ⟨oL,_,_,hoL,_⟩:=id hn
    refine h _ ⟨I.ok,I.os,I.bare,⟨fun b o e n hb hx=>?_,fun b o e n hb hx=>?_,I.base.free,fun b o e hx=>?_,I.base.tups,I.base.frzs,I.base.tbls⟩,⟨_,hn',fun j y v' e1 e2 e3=>?_⟩,fun y c e=>?_,I.free,I.freeC,fun p hp=>?_,tracked ⟨oL,hoL,I.free⟩ hs,by simpa using I.len⟩ ⟨_,hs, .inl rfl⟩
    · exact (hs.2 b (Nat.ne_of_lt (Nat.lt_of_lt_of_le (Heap.lt_size e) I.ok.above))).trans (I.base.keep b o e n hb hx)
    · obtain ⟨sl,e1⟩:=I.base.slot b o e n hb hx
      exact ⟨sl,(hs.2 b (Nat.ne_of_lt (Nat.lt_of_lt_of_le (Heap.lt_size e) I.ok.above))).trans e1⟩
    · obtain ⟨o',e1⟩:=I.base.there b o e hx
      exact ⟨o',(hs.2 b (Nat.ne_of_lt (Nat.lt_of_lt_of_le (Heap.lt_size e) I.ok.above))).trans e1⟩
    · by_cases hj:j=i
      · subst hj
        rw [hi] at e1;cases e1
        rw [List.getElem?_set_self hiσ] at e2
        cases e2
        exact ⟨u,r, .inl ⟨hk,by simp⟩⟩
      · rw [List.getElem?_set_ne (Ne.symm hj)] at e2
        obtain ⟨u',r',q⟩:=hl j y v' e1 e2 e3
        refine ⟨u',r',?_⟩
        rcases q with ⟨k,e⟩ | ⟨k,c,e,z⟩
        · refine .inl ⟨k,?_⟩
          have:y≠x:=fun e=>hj (gQ hN e1 (e▸hi))
          simp [this,e]
        · exact .inr ⟨k,c,e,z.sameBut hs (cne y c e)⟩
    · obtain ⟨w',z⟩:=I.cell y c e
      exact ⟨w',z.sameBut hs (cne y c e)⟩
    · obtain ⟨e,n,ne,nf,d⟩:=I.pin p hp
      exact ⟨(hs.2 p.1 ne).trans e,n,ne,nf,d⟩
  · have hfn:X.fn x=true:=by
      rcases hf with z | z
      · exact z
      · rw [z] at hk;cases hk
    obtain ⟨c,hc⟩:=I.ok.has x (.inl hk)
    obtain ⟨w',z⟩:=I.cell x c hc
    refine wpAny_storeName_cell I.ok.kind hk hc z (fun h' hc' hs=>?_)
    obtain ⟨oc,hoc,hocd⟩:=id z
    refine h {s with heap:=h'} ⟨I.ok,I.os,I.bare,⟨fun b o e n hb hx=>?_,fun b o e n hb hx=>?_,I.base.free,fun b o e hx=>?_,I.base.tups,I.base.frzs,I.base.tbls⟩,⟨m,hn.sameBut hs (Ne.symm (cne x c hc)),fun j y v' e1 e2 e3=>?_⟩,fun y c' e=>?_,I.free,I.freeC,fun p hp=>?_,tracked ⟨oc,hoc,I.freeC x c hc⟩ hs,by simpa using I.len⟩ ⟨c,hs, .inr hc⟩
    · exact (hs.2 b (Nat.ne_of_lt (Nat.lt_of_lt_of_le (Heap.lt_size e) (I.ok.cab x c hfn hc)))).trans (I.base.keep b o e n hb hx)
    · obtain ⟨sl,e1⟩:=I.base.slot b o e n hb hx
      exact ⟨sl,(hs.2 b (Nat.ne_of_lt (Nat.lt_of_lt_of_le (Heap.lt_size e) (I.ok.cab x c hfn hc)))).trans e1⟩
    · obtain ⟨o',e1⟩:=I.base.there b o e hx
      exact ⟨o',(hs.2 b (Nat.ne_of_lt (Nat.lt_of_lt_of_le (Heap.lt_size e) (I.ok.cab x c hfn hc)))).trans e1⟩
    · by_cases hj:j=i
      · subst hj
        rw [hi] at e1;cases e1
        rw [List.getElem?_set_self hiσ] at e2
        cases e2
        exact ⟨u,r, .inr ⟨.inl hk,c,hc,hc'⟩⟩
      · rw [List.getElem?_set_ne (Ne.symm hj)] at e2
        obtain ⟨u',r',q⟩:=hl j y v' e1 e2 e3
        refine ⟨u',r',?_⟩
        rcases q with q | ⟨k,c',e,z'⟩
        · exact .inl q
        · refine .inr ⟨k,c',e,z'.sameBut hs ?_⟩
          rintro rfl
          exact hj (gQ hN e1 (I.ok.inj _ _ _ e hc▸hi))
    · by_cases hcc:c'=c
      · subst hcc;exact ⟨_,hc'⟩
      · obtain ⟨w2,z2⟩:=I.cell y c' e
        exact ⟨w2,z2.sameBut hs hcc⟩
    · obtain ⟨e,n,ne,nf,d⟩:=I.pin p hp
      refine ⟨(hs.2 p.1 ?_).trans e,n,ne,nf,d⟩
      intro q
      rw [q,hoc] at e
      have q':oc=p.2:=Option.some.inj e
      exact d w' (by rw [←q'];exact hocd)
theorem gR {M:Model} {A:Around} {E:Value→Shared→Prop} {i:Nat} {x:Str} {v:V} {u:Value} {Q:Unit→Shared→Prop} (I:Inv X pins σ H s) (hN:X.N.Nodup) (hi:X.N[i]? =some x) (hx:rQ X.env.scope x) (r:RelV v u)
    (h:∀s',Inv X pins (σ.set i (some v)) H s'→Q () s') (hf:X.fn x=true∨X.env.scope.names.lookup x=some .local:=by first | exact .inl rfl | exact .inr rfl | assumption):wpAny M A (storeName X.env x u) Q E s:=
  lK I hN hi hx r (fun s' I' _=>h s' I') hf
theorem Inv.call' {s':Shared} {ch:List Addr} (I:Inv X pins σ H s) (ho:s'.os=s.os) (u:Un (gA X.stack) ch H H' s.heap s'.heap) (hok:HOk X.prog X.w H' s'.heap) (hg:AllBare s'.gens)
    (hch:∀b∈ch,(b∈X.ex∨X.s₀.heap.objs.size≤b)∧b≠X.env.locals∧(∀x c,X.env.cells.lookup x=some c→c≠b)∧∀p∈X.pn++pins,p.1≠b):Inv X pins σ H' s':=by
  obtain ⟨h',g',d',t',o'⟩:=s'
  have e:o'=s.os:=ho
  subst e
  exact I.call (g':=g') (t':=t') (d':=d') u hok hg hch
end
abbrev XK:=Value→Option Addr→Hp→Prop
abbrev St:=List (Option V)
abbrev VK:=V→Hp→Prop
abbrev TE:=St→Hp→VK→Prop
abbrev TT:=St→Hp→(Bool→Hp→Prop)→Prop
abbrev TA:=St→Hp→(List V→Hp→Prop)→Prop
structure Ends where
  nx:St→Hp→Prop
  rt:VK
  bk:St→Hp→Prop:=fun _ _=>False
  ct:St→Hp→Prop:=fun _ _=>False
abbrev TS:=Ends→St→Hp→Prop
def EP (X:Cx) (pins:List (Addr×Obj)) (σ:St) (Q:VK) (u:Value) (s':Shared):Prop:=∃v H',Inv X pins σ H' s'∧RelV v u∧Q v H'
def TP (X:Cx) (pins:List (Addr×Obj)) (σ:St) (Q:Bool→Hp→Prop) (b:Bool) (s':Shared):Prop:=∃H',Inv X pins σ H' s'∧Q b H'
def AP (X:Cx) (pins:List (Addr×Obj)) (σ:St) (Q:List V→Hp→Prop) (us:List Value) (s':Shared):Prop:=∃vs H',Inv X pins σ H' s'∧Vals vs us∧Q vs H'
def SP (X:Cx) (pins:List (Addr×Obj)) (D:Ends) (f:Flow) (s':Shared):Prop:=
  match f with
  | .next=>∃σ' H',Inv X pins σ' H' s'∧D.nx σ' H'
  | .brk=>∃σ' H',Inv X pins σ' H' s'∧D.bk σ' H'
  | .cont=>∃σ' H',Inv X pins σ' H' s'∧D.ct σ' H'
  | .ret u=>∃v σ' H',Inv X pins σ' H' s'∧RelV v u∧D.rt v H'
def PE (X:Cx) (e:Expr) (t:TE):Prop:=
  ∀(pins:List (Addr×Obj)) (s:Shared) (σ:St) (H:Hp) (Q:VK),Inv X pins σ H s→t σ H Q→wpAny (model X.prog X.w) X.A (eval e X.env) (EP X pins σ Q) X.xe s
def PT (X:Cx) (e:Expr) (t:TT):Prop:=
  ∀(pins:List (Addr×Obj)) (s:Shared) (σ:St) (H:Hp) (Q:Bool→Hp→Prop),Inv X pins σ H s→t σ H Q→wpAny (model X.prog X.w) X.A (isTrue e X.env (eval e X.env)) (TP X pins σ Q) X.xe s
def PW (X:Cx) (e:Expr) (t:TT):Prop:=
  ∀(whole:Sem Value) (pins:List (Addr×Obj)) (s:Shared) (σ:St) (H:Hp) (Q:Bool→Hp→Prop),Inv X pins σ H s→t σ H Q→wpAny (model X.prog X.w) X.A (isTrue e X.env whole) (TP X pins σ Q) X.xe s
theorem PW.pt {X:Cx} {e:Expr} {t:TT} (h:PW X e t):PT X e t:=h _
def PA (X:Cx) (es:List Expr) (t:TA):Prop:=
  ∀(pos:Pos) (pins:List (Addr×Obj)) (s:Shared) (σ:St) (H:Hp) (Q:List V→Hp→Prop),Inv X pins σ H s→t σ H Q→wpAny (model X.prog X.w) X.A (spliced (backTo pos (starEach es X.env))) (AP X pins σ Q) X.xe s
def PS (X:Cx) (st:Stmt) (t:TS):Prop:=
  ∀(pins:List (Addr×Obj)) (s:Shared) (σ:St) (H:Hp) (D:Ends),Inv X pins σ H s→t D σ H→wpAny (model X.prog X.w) X.A (exec st X.env) (SP X pins D) X.xe s
def PSs (X:Cx) (st:List Stmt) (t:TS):Prop:=
  ∀(pins:List (Addr×Obj)) (s:Shared) (σ:St) (H:Hp) (D:Ends),Inv X pins σ H s→t D σ H→wpAny (model X.prog X.w) X.A (execs st X.env) (SP X pins D) X.xe s
theorem b5 {α:Type} {t:Sem α} {Q Q':α→Shared→Prop} {M:Model} {A:Around} {E:Value→Shared→Prop} {s:Shared} (h:wpAny M A t Q E s) (hQ:∀a s,Q a s→Q' a s):wpAny M A t Q' E s:=wpAny_mono h hQ fun _ _ x=>x
end L2
namespace L2
open PySem PySem.Spec PyProof.Rows
section
variable {X:Cx}
def rY (i:Nat):TE:=fun σ H Q=>∃v,σ[i]? =some (some v)∧Q v H
def tC (v:V):TE:=fun _ H Q=>Q v H
theorem gS {i:Nat} {x:Str} {pos:Pos} (hN:X.N[i]? =some x) (hv:p8 X.env.scope x) (hd:(x == ("__debug__":Str))=false:=by decide) (hcd:(x == ("__classdict__":Str))=false:=by decide):PE X (.Name x pos) (rY i):=by
  intro pins s σ H Q I h
  obtain ⟨v,e,h⟩:=h
  obtain ⟨m,hn,hl⟩:=I.loc
  obtain ⟨u,r,l⟩:=hl i x v hN e hv
  have fin:EP X pins σ Q u s:=⟨v,H,I,r,h⟩
  rcases l with ⟨hk,hm⟩ | ⟨hk,c,hc,hcell⟩
  · exact wpAny_Name (wpAny_loadName_local I.ok.kind hk hn hm fin) hd
  · rcases hk with hk | hk
    · exact wpAny_Name (wpAny_loadName_cell I.ok.kind hk hc hcell fin) hd
    · exact wpAny_Name (wpAny_loadName_free I.ok.kind hk hc hcell fin hcd) hd
theorem iY {i j pos}:PE X (.Constant (.int i) j pos) (tC (.int i)):=fun _ _ _ H _ I h=>wpAny_Constant_int ⟨.int i,H,I.tok _,⟨_,rfl⟩,h⟩
theorem rZ {b j pos}:PE X (.Constant (.bool b) j pos) (tC (.bl b)):=fun _ _ _ H _ I h=>Constant_bool ⟨.bl b,H,I,rfl,h⟩
theorem mz {x j pos}:PE X (.Constant (.str x) j pos) (tC (.str x)):=fun _ _ _ H _ I h=>Calls.Constant_str ⟨.str x,H,I.tok _,⟨_,rfl⟩,h⟩
def Gl (X:Cx) (x:Str):Prop:=X.env.kindOf x=some .globalImplicit
theorem eZ {E:Value→Shared→Prop} {pins:List (Addr×Obj)} {s:Shared} {σ:St} {H:Hp} {x:Str} {u:Value} {pos:Pos} {Q:Value→Shared→Prop} (I:Inv X pins σ H s) (hg:Gl X x) (hm:X.mg x=some u) (h:Q u s)
    (hd:(x == ("__debug__":Str))=false:=by decide):wpAny (model X.prog X.w) X.A (eval (.Name x pos) X.env) Q E s:=
  Calls.Name_function_global I.ok.kind hg (Calls.loadGlobal_global (by rw [I.ok.glob];exact I.mod.glob.keeps I.bk) hm h) hd
theorem gi {E:Value→Shared→Prop} {pins:List (Addr×Obj)} {s:Shared} {σ:St} {H:Hp} {x:Str} {u:Value} {pos:Pos} {Q:Value→Shared→Prop} (I:Inv X pins σ H s) (hg:Gl X x) (hm:X.mg x=none) (hv:bootBuiltins x=some u) (h:Q u s)
    (hn:x≠"__name__":=by decide) (hd:(x == ("__debug__":Str))=false:=by decide):wpAny (model X.prog X.w) X.A (eval (.Name x pos) X.env) Q E s:=by
  obtain ⟨mb,h1,h2⟩:=I.mod.blt
  exact Calls.Name_function_global I.ok.kind hg (Calls.loadGlobal_builtin (by rw [I.ok.glob];exact I.mod.glob.keeps I.bk) hm (by rw [I.ok.blt];exact h1.keeps I.bk) ((h2 x hn).trans hv) h) hd
theorem kN {x:Str} {v:V} {u:Value} {pos:Pos} (hg:Gl X x) (hm:X.mg x=some u) (r:RelV v u) (hd:(x == ("__debug__":Str))=false:=by decide):PE X (.Name x pos) (tC v):=
  fun _ _ _ H _ I h=>eZ I hg hm ⟨v,H,I,r,h⟩ hd
theorem kO {x:Str} {v:V} {u:Value} {pos:Pos} (hg:Gl X x) (hm:X.mg x=none) (hv:bootBuiltins x=some u) (r:RelV v u) (hn:x≠"__name__":=by decide) (hd:(x == ("__debug__":Str))=false:=by decide):PE X (.Name x pos) (tC v):=
  fun _ _ _ H _ I h=>gi I hg hm hv ⟨v,H,I,r,h⟩ hn hd
variable {a b:Expr} {ta tb:TE} {pos:Pos}
variable {tA tB':TT} {be:List Expr}
def t3 (t u:TT):TT:=fun σ H Q=>t σ H fun c H1=>if c=true then u σ H1 Q else Q false H1
def u9 (t u:TT):TT:=fun σ H Q=>t σ H fun c H1=>if c=true then Q true H1 else u σ H1 Q
def t4 (t:TT):TT:=fun σ H Q=>t σ H fun c H1=>Q (!c) H1
theorem oE (ha:PT X a tA):PW X (.BoolOp .And [a] pos) tA:=by
  intro wh pins s σ H Q I h
  refine isTrue_and (b5 (ha pins s σ H Q I h) fun c s1 e=>?_)
  cases c with
  | true=>exact isTrue_and_nil e
  | false=>exact e
theorem p9 (ha:PT X a tA):PW X (.BoolOp .Or [a] pos) tA:=by
  intro wh pins s σ H Q I h
  refine isTrue_or (b5 (ha pins s σ H Q I h) fun c s1 e=>?_)
  cases c with
  | false=>exact isTrue_or_nil e
  | true=>exact e
theorem p_ (ha:PT X a tA) (hb:PW X (.BoolOp .And (b::be) pos) tB'):PW X (.BoolOp .And (a::b::be) pos) (t3 tA tB'):=by
  intro wh pins s σ H Q I h
  refine isTrue_and (b5 (ha pins s σ H _ I h) fun c s1 ⟨H1,I1,q1⟩=>?_)
  cases c with
  | true=>exact hb wh pins s1 σ H1 Q I1 q1
  | false=>exact ⟨H1,I1,q1⟩
theorem r8 (ha:PT X a tA) (hb:PW X (.BoolOp .Or (b::be) pos) tB'):PW X (.BoolOp .Or (a::b::be) pos) (u9 tA tB'):=by
  intro wh pins s σ H Q I h
  refine isTrue_or (b5 (ha pins s σ H _ I h) fun c s1 ⟨H1,I1,q1⟩=>?_)
  cases c with
  | true=>exact ⟨H1,I1,q1⟩
  | false=>exact hb wh pins s1 σ H1 Q I1 q1
theorem qa (ha:PT X a tA):PT X (.UnaryOp .Not a pos) (t4 tA):=by
  intro pins s σ H Q I h
  exact isTrue_not (ha pins s σ H (fun c H1=>Q (!c) H1) I h)
def r_ (ta tb:TE):TE:=fun σ H Q=>ta σ H fun x H1=>∃c,x= .bl c∧if c=true then tb σ H1 Q else Q (.bl false) H1
theorem qc {op} {t:TE} (h:PE X a t):PE X (.BoolOp op [a] pos) t:=fun pins s σ H Q I hw=>BoolOp_one (h pins s σ H Q I hw)
theorem qd (ha:PE X a ta) (hb:PE X (.BoolOp .And (b::be) pos) tb):PE X (.BoolOp .And (a::b::be) pos) (r_ ta tb):=by
  intro pins s σ H Q I h
  refine BoolOp_and (b5 (ha pins s σ H _ I h) fun v s1 ⟨x,H1,I1,r1,q1⟩=>?_)
  obtain ⟨c,rfl,q1⟩:=q1
  cases r1
  refine wpAny_truthy_bool ?_
  cases c with
  | true=>exact hb pins s1 σ H1 Q I1 q1
  | false=>exact ⟨.bl false,H1,I1,rfl,q1⟩
def u_ (t:TT) (ta tb:TE):TE:=fun σ H Q=>t σ H fun c H1=>if c=true then ta σ H1 Q else tb σ H1 Q
theorem mB {c:Expr} (hc:PT X c tA) (ha:PE X a ta) (hb:PE X b tb):PE X (.IfExp c a b pos) (u_ tA ta tb):=by
  intro pins s σ H Q I h
  refine wpAny_IfExp (b5 (hc pins s σ H _ I h) fun d s1 ⟨H1,I1,q1⟩=>?_)
  cases d with
  | true=>exact ha pins s1 σ H1 Q I1 q1
  | false=>exact hb pins s1 σ H1 Q I1 q1
end
end L2
namespace L2
open PySem PySem.Spec PyProof.Rows
def SqL (K:PySem.W.Frag) (H:Hp) (a:Addr) (xs:List V):Prop:=
  Rd H a (.lst xs)∨
    ∃(o:Obj) (its:Array Value) (n:Nat),K.lookup a=some o∧o.cls= .type "list"∧o.dict=none∧o.data= .seq its n∧its.size≤sizeLine∧Vals xs its.toList
def SqT (K:PySem.W.Frag) (H:Hp) (a:Addr) (xs:List V):Prop:=
  Rd H a (.tup xs)∨
    ∃(o:Obj) (its:Array Value) (n:Nat),K.lookup a=some o∧o.cls= .type "tuple"∧o.data= .seq its n∧its.size≤sizeLine∧Vals xs its.toList
def t5:Value→Option V
  | .none=>some .non
  | .bool b=>some (.bl b)
  | .int i _=>some (.int i)
  | .str x _=>some (.str x)
  | .bytes b _=>some (.byt b)
  | .float b _=>some (.flt b)
  | .ref a=>some (.ref a)
  | .type n=>some (.ty n)
  | _=>none
theorem RelV.abs {x:V} {u:Value} (r:RelV x u):t5 u=some x:=by
  cases x with
  | non=>cases r;rfl
  | bl _=>cases r;rfl
  | int _=>obtain ⟨t,rfl⟩:=r;rfl
  | str _=>obtain ⟨t,rfl⟩:=r;rfl
  | byt _=>obtain ⟨t,rfl⟩:=r;rfl
  | flt _=>obtain ⟨t,rfl⟩:=r;rfl
  | ref _=>cases r;rfl
  | ty _=>cases r;rfl
theorem RelV.inj {x y:V} {u:Value} (r:RelV x u) (q:RelV y u):x=y:=Option.some.inj (r.abs.symm.trans q.abs)
theorem Vals.inj {xs ys:List V} {us:List Value} (h:Vals xs us) (k:Vals ys us):xs=ys:=by
  induction h generalizing ys with
  | nil=>cases k;rfl
  | cons r _ ih=>cases k with | cons r' t'=>rw [r.inj r',ih t']
section
variable {X:Cx} {pins:List (Addr×Obj)} {σ:St} {H:Hp} {s:Shared} {a:Addr} {xs ys:List V}
theorem SqL.of {K:PySem.W.Frag} (h:H a=some (.lst xs)):SqL K H a xs:= .inl (.inl h)
theorem SqT.of {K:PySem.W.Frag} (h:H a=some (.tup xs)):SqT K H a xs:= .inl (.inl h)
theorem Inv.list (I:Inv X pins σ H s) (h:SqL X.K H a xs):∃its:List Value,Vals xs its∧PlainL s.heap a its.toArray∧xs.length≤sizeLine:=by
  rcases h with h | ⟨o,its,n,hk,hc,hd,hs,hz,r⟩
  · obtain ⟨z,its,n,r,e⟩:=h.ok I.hok
    exact ⟨its,r,⟨_,n,e,rfl,rfl,rfl⟩,z⟩
  · refine ⟨its.toList,r,⟨o,n,I.kIn a o hk,hc,hd,by simpa using hs⟩,?_⟩
    have e:=r.length
    simp only [Array.length_toList] at e
    omega
theorem Inv.tuple (I:Inv X pins σ H s) (h:SqT X.K H a xs):∃its:List Value,Vals xs its∧IsTup s.heap a its.toArray∧xs.length≤sizeLine:=by
  rcases h with h | ⟨o,its,n,hk,hc,hs,hz,r⟩
  · obtain ⟨z,its,r,p⟩:=h.ok I.hok
    exact ⟨its,r,p,z⟩
  · refine ⟨its.toList,r,⟨o,I.kIn a o hk,hc,n,by simpa using hs⟩,?_⟩
    have e:=r.length
    simp only [Array.length_toList] at e
    omega
theorem Inv.list_inj (I:Inv X pins σ H s) (h:SqL X.K H a xs) (h':SqL X.K H a ys):xs=ys:=by
  obtain ⟨its,r,⟨o,n,e,_,_,d⟩,_⟩:=I.list h
  obtain ⟨its',r',⟨o',n',e',_,_,d'⟩,_⟩:=I.list h'
  rw [e] at e';cases e'
  rw [d] at d'
  injection d' with d1 _
  have:its=its':=by simpa using congrArg Array.toList d1
  subst this
  exact r.inj r'
theorem Inv.tuple_inj (I:Inv X pins σ H s) (h:SqT X.K H a xs) (h':SqT X.K H a ys):xs=ys:=by
  obtain ⟨its,r,⟨o,e,_,n,d⟩,_⟩:=I.tuple h
  obtain ⟨its',r',⟨o',e',_,n',d'⟩,_⟩:=I.tuple h'
  rw [e] at e';cases e'
  rw [d] at d'
  injection d' with d1 _
  have:its=its':=by simpa using congrArg Array.toList d1
  subst this
  exact r.inj r'
end
abbrev Cx.wish (X:Cx) (E:Value→Shared→Prop):Cx:={X with xe:=E}
abbrev Cx.nox (X:Cx):Cx:=X.wish fun _ _=>False
theorem Cx.Ok.wish {X:Cx} (ok:X.Ok) (E:Value→Shared→Prop):(X.wish E).Ok:=
  ⟨ok.mod,ok.kind,ok.glob,ok.blt,ok.above,ok.inj,ok.has,ok.cab,ok.hd,ok.frames,ok.stk,ok.exf,ok.bs,ok.bsz,ok.noex,ok.exfs,ok.funs,ok.frf,ok.tab⟩
theorem Cx.Ok.unwish {X:Cx} {E:Value→Shared→Prop} (ok:(X.wish E).Ok):X.Ok:=
  ⟨ok.mod,ok.kind,ok.glob,ok.blt,ok.above,ok.inj,ok.has,ok.cab,ok.hd,ok.frames,ok.stk,ok.exf,ok.bs,ok.bsz,ok.noex,ok.exfs,ok.funs,ok.frf,ok.tab⟩
section
variable {X:Cx} {pins:List (Addr×Obj)} {σ:St} {H:Hp} {s:Shared} {E:Value→Shared→Prop}
theorem Inv.wish (I:Inv X pins σ H s) (E:Value→Shared→Prop):Inv (X.wish E) pins σ H s:=⟨I.ok.wish E,I.os,I.bare,I.base,I.loc,I.cell,I.free,I.freeC,I.pin,I.hok,I.len⟩
theorem Inv.unwish (I:Inv (X.wish E) pins σ H s):Inv X pins σ H s:=⟨I.ok.unwish,I.os,I.bare,I.base,I.loc,I.cell,I.free,I.freeC,I.pin,I.hok,I.len⟩
theorem SP.unwish {D:Ends} {f:Flow} {s':Shared} (h:SP (X.wish E) pins D f s'):SP X pins D f s':=by
  cases f with
  | next=>obtain ⟨σ',H',I,q⟩:=h;exact ⟨σ',H',I.unwish,q⟩
  | brk=>obtain ⟨σ',H',I,q⟩:=h;exact ⟨σ',H',I.unwish,q⟩
  | cont=>obtain ⟨σ',H',I,q⟩:=h;exact ⟨σ',H',I.unwish,q⟩
  | ret u=>obtain ⟨v,σ',H',I,r,q⟩:=h;exact ⟨v,σ',H',I.unwish,r,q⟩
theorem PE.nox {e:Expr} {t:TE} (h:PE X.nox e t):PE X e t:=fun pins s σ H Q I hw=>
  wpAny_mono (h pins s σ H Q (I.wish _) hw) (fun _ _ ⟨v,H',I',r,q⟩=>⟨v,H',I'.unwish,r,q⟩) fun _ _ z=>False.elim z
theorem PT.nox {e:Expr} {t:TT} (h:PT X.nox e t):PT X e t:=fun pins s σ H Q I hw=>
  wpAny_mono (h pins s σ H Q (I.wish _) hw) (fun _ _ ⟨H',I',q⟩=>⟨H',I'.unwish,q⟩) fun _ _ z=>False.elim z
theorem PSs.nox {st:List Stmt} {t:TS} (h:PSs X.nox st t):PSs X st t:=fun pins s σ H D I hw=>
  wpAny_mono (h pins s σ H D (I.wish _) hw) (fun _ _ q=>q.unwish) fun _ _ z=>False.elim z
end
section
variable {X:Cx} {st:Stmt} {be:List Stmt} {t u:TS} {e:Expr} {te:TE} {pos:Pos}
def sd:TS:=fun D σ H=>D.nx σ H
def t7 (t u:TS):TS:=fun D σ H=>t {D with nx:=u D} σ H
theorem oF:PSs X [] sd:=fun _ _ σ H _ I h=>wpAny_execs_nil ⟨σ,H,I,h⟩
theorem gT (h1:PS X st t) (h2:PSs X be u):PSs X (st::be) (t7 t u):=by
  intro pins s σ H D I h
  refine wpAny_execs_cons (b5 (h1 pins s σ H {D with nx:=u D} I h) fun f s1 q=>?_)
  cases f with
  | next=>
    obtain ⟨σ',H',I',q⟩:=q
    exact h2 pins s1 σ' H' D I' q
  | ret v=>exact q
  | brk=>exact q
  | cont=>exact q
theorem kP (h1:PS X st t):PSs X [st] t:=by
  intro pins s σ H D I h
  refine wpAny_execs_cons (b5 (h1 pins s σ H D I h) fun f s1 q=>?_)
  cases f with
  | next=>exact wpAny_execs_nil q
  | ret v=>exact q
  | brk=>exact q
  | cont=>exact q
theorem Inv.quiet {pins:List (Addr×Obj)} {σ:St} {H:Hp} {s:Shared} (I:Inv X pins σ H s):interactive X.env=false:=by simp [interactive,I.ok.kind]
def se (te:TE):TS:=fun D σ H=>te σ H fun _ H1=>D.nx σ H1
theorem oG (he:PE X e te) (hs:swapsWith e none pos.line X.env=pure false:=by rfl):PS X (.Expr e pos) (se te):=by
  intro pins s σ H D I h
  exact wpAny_Expr_any (b5 (he pins s σ H _ I h) fun v s1 ⟨x,H1,I1,r1,q1⟩=>⟨σ,H1,I1,q1⟩) I.quiet hs
def t8 (te:TE):TS:=fun D σ H=>te σ H D.rt
theorem mC (he:PE X e te):PS X (.Return (some e) pos) (t8 te):=by
  intro pins s σ H D I h
  exact wpAny_Return_some (b5 (he pins s σ H _ I h) fun v s1 ⟨x,H1,I1,r1,q1⟩=>⟨x,σ,H1,I1,r1,q1⟩)
def t9 (c:TT) (t u:TS):TS:=fun D σ H=>c σ H fun b H1=>if b=true then t D σ H1 else u D σ H1
theorem sf {c:Expr} {a b:List Stmt} {tc:TT} (hc:PT X c tc) (ha:PSs X a t) (hb:PSs X b u):PS X (.If c a b pos) (t9 tc t u):=by
  intro pins s σ H D I h
  refine wpAny_If (b5 (hc pins s σ H _ I h) fun d s1 ⟨H1,I1,q1⟩=>?_)
  cases d with
  | true=>exact ha pins s1 σ H1 D I1 q1
  | false=>exact hb pins s1 σ H1 D I1 q1
def qe:TS:=fun _ _ _=>False
theorem mD:PS X st qe:=fun _ _ _ _ _ _ h=>h.elim
end
abbrev TG:=V→St→Hp→(St→Hp→Prop)→Prop
abbrev oH:=List V→St→Hp→(St→Hp→Prop)→Prop
def PG (X:Cx) (target:Expr) (t:TG):Prop:=
  ∀(pins:List (Addr×Obj)) (s:Shared) (σ:St) (H:Hp) (v:V) (u:Value) (Q:St→Hp→Prop),Inv X pins σ H s→RelV v u→t v σ H Q→
    wpAny (model X.prog X.w) X.A (assign target X.env u) (fun _ s'=>∃σ' H',Inv X pins σ' H' s'∧Q σ' H') X.xe s
def qf (X:Cx) (ts:List Expr) (t:oH):Prop:=
  ∀(pins:List (Addr×Obj)) (s:Shared) (σ:St) (H:Hp) (vs:List V) (us:List Value) (Q:St→Hp→Prop),Inv X pins σ H s→Vals vs us→t vs σ H Q→
    wpAny (model X.prog X.w) X.A (assignInOrder ((assignEach ts X.env).map (·.2)) us) (fun _ s'=>∃σ' H',Inv X pins σ' H' s'∧Q σ' H') X.xe s
abbrev qg:=V→V→V→Hp→(Hp→Prop)→Prop
def sg (X:Cx) (t:qg):Prop:=
  ∀(pins:List (Addr×Obj)) (s:Shared) (σ:St) (H:Hp) (o i v:V) (ov iv u:Value) (Q:Hp→Prop),Inv X pins σ H s→RelV o ov→RelV i iv→RelV v u→t o i v H Q→
    wpAny (model X.prog X.w) X.A (setItem ov iv u) (fun _ s'=>∃H',Inv X pins σ H' s'∧Q H') X.xe s
section
variable {X:Cx} {pos:Pos}
def pO (i:Nat):TG:=fun v σ H Q=>Q (σ.set i (some v)) H
theorem oI {i:Nat} {x:Str} (hN:X.N.Nodup) (hi:X.N[i]? =some x) (hx:rQ X.env.scope x) (hf:X.fn x=true∨X.env.scope.names.lookup x=some .local:=by first | exact .inl rfl | exact .inr rfl | assumption):PG X (.Name x pos) (pO i):=by
  intro pins s σ H v u Q I r h
  exact wpAny_assign_Name (gR I hN hi hx r (fun s' I'=>⟨_,H,I',h⟩) hf)
def t_:oH:=fun vs σ H Q=>vs=[]∧Q σ H
def si (t:TG) (u:oH):oH:=fun vs σ H Q=>∃v r,vs=v::r∧t v σ H fun σ' H'=>u r σ' H' Q
theorem oJ:qf X [] t_:=by
  intro pins s σ H vs us Q I r h
  obtain ⟨e,h⟩:=h
  subst e
  cases r
  exact assignInOrder_nil ⟨σ,H,I,h⟩
theorem mE {e:Expr} {es:List Expr} {t:TG} {u:oH} (h1:PG X e t) (h2:qf X es u)
    (hs:(assignEach (e::es) X.env).map (·.2)=assign e X.env::(assignEach es X.env).map (·.2):=by rfl):qf X (e::es) (si t u):=by
  intro pins s σ H vs us Q I r h
  obtain ⟨v,vr,e1,h⟩:=h
  subst e1
  cases r with
  | cons r rr=>
    rw [hs]
    refine assignInOrder_cons (b5 (h1 pins s σ H _ _ _ I r h) fun _ s1 ⟨σ1,H1,I1,q1⟩=>?_)
    exact h2 pins s1 σ1 H1 _ _ Q I1 rr q1
def ua (K:PySem.W.Frag) (n:Nat) (t:oH):TG:=fun v σ H Q=>∃a xs,v= .ref a∧SqT K H a xs∧xs.length=n∧t xs σ H Q
theorem qh {es:List Expr} {k:Nat} {t:oH} {n:Nat} (hc:X.calm=true) (h:qf X es t)
    (hn:(assignEach es X.env).length=n:=by rfl) (hst:(assignEach es X.env).findIdx? (·.1)=none:=by rfl):PG X (.Tuple es k pos) (ua X.K n t):=by
  intro pins s σ H v u Q I r hw
  obtain ⟨a,xs,e1,hq,hl,hw⟩:=hw
  subst e1
  cases r
  obtain ⟨its,rv,ht,hz⟩:=I.tuple hq
  refine assign_Tuple_tuple (I.ok.hd hc) ht (by simp [hn,←hl,rv.length]) hst fun h' hx=>?_
  have I1:Inv X pins σ H {s with heap:=h'}:=I.kept (t':=s.toks) fun b o e=>hx b o (Nat.ne_of_lt (Heap.lt_size e)) e
  exact h pins _ σ H xs _ Q I1 (by simpa using rv) hw
def ub (to ti:TE) (t:qg):TG:=fun v σ H Q=>to σ H fun o H1=>ti σ H1 fun i H2=>t o i v H2 fun H3=>Q σ H3
theorem qi {o i:Expr} {to ti:TE} {t:qg} (ho:PE X o to) (hi:PE X i ti) (hs:sg X t)
    (ha:∀v,assign (.Subscript o i pos) X.env v=(do
      let ov ←holding [v] (eval o X.env)
      let iv ←holding [v,ov] (eval i X.env)
      standAt pos
      holding [v,ov,iv] (setItem ov iv v)
      release [v,ov,iv] []):=by intro _;rfl):PG X (.Subscript o i pos) (ub to ti t):=by
  intro pins s σ H v u Q I r h
  rw [ha]
  refine wpAny_bind (wpAny_holding (b5 (ho pins s σ H _ I h) fun ov s1 ⟨x,H1,I1,r1,q1⟩=>?_))
  refine wpAny_bind (wpAny_holding (b5 (hi pins s1 σ H1 _ I1 q1) fun iv s2 ⟨y,H2,I2,r2,q2⟩=>?_))
  refine wpAny_bind (wpAny_standAt (wpAny_bind (wpAny_holding (b5 (hs pins s2 σ H2 x y v ov iv u _ I2 r1 r2 r q2) fun _ s3 ⟨H3,I3,q3⟩=>?_))))
  exact wpAny_release ⟨σ,H3,I3,q3⟩
def sj (te:TE) (g:TG):TS:=fun D σ H=>te σ H fun x H1=>g x σ H1 D.nx
theorem qj {tg e:Expr} {te:TE} {g:TG} (he:PE X e te) (hg:PG X tg g) (hs:swapsWithSole [tg] e pos.line X.env=pure false:=by rfl) (hw:swappedStores [tg] e X.env=pure none:=by rfl)
    (h1:(assignEach [tg] X.env).map (·.2)=[assign tg X.env]:=by rfl):PS X (.Assign [tg] e pos) (sj te g):=by
  intro pins s σ H D I h
  refine wpAny_Assign_stores (b5 (he pins s σ H _ I h) fun v s1 ⟨x,H1,I1,r1,q1⟩=>?_) hs hw
  rw [h1]
  exact b5 (hg pins s1 σ H1 x v _ I1 r1 q1) fun _ s2 q=>q
theorem mF {i:Nat} {x:Str} {e:Expr} {te:TE} {pos':Pos} (hN:X.N.Nodup) (hi:X.N[i]? =some x) (hx:rQ X.env.scope x) (he:PE X e te) (hs:swapsWith e (some (.Name x pos')) pos.line X.env=pure false:=by rfl) (hf:X.fn x=true∨X.env.scope.names.lookup x=some .local:=by first | exact .inl rfl | exact .inr rfl | assumption):
    PS X (.Assign [.Name x pos'] e pos) (sj te (pO i)):=by
  intro pins s σ H D I h
  refine wpAny_Assign_Name (b5 (he pins s σ H _ I h) fun v s1 ⟨y,H1,I1,r1,q1⟩=>?_) hs
  exact gR I1 hN hi hx r1 (fun s2 I2=>⟨_,H1,I2,q1⟩) hf
end
structure It where
  go:Nat→Hp→Prop
  yld:Nat→Hp→V→Hp→Prop
  stop:Nat→Hp→Prop
def il (X:Cx) (pins:List (Addr×Obj)) (H:Hp) (b:Addr):Prop:=
  H b=none∧b≠X.env.locals∧b∉X.fs∧(b∈X.ex∨X.s₀.heap.objs.size≤b)∧(∀x c,X.env.cells.lookup x=some c→c≠b)∧∀p∈X.pn++pins,p.1≠b
theorem Inv.fpOk {X:Cx} {pins:List (Addr×Obj)} {σ:St} {H H':Hp} {s:Shared} {b:Addr} (I:Inv X pins σ H s) (hb:s.heap.objs.size≤b) (hn:H' b=none):il X pins H' b:=by
  refine ⟨hn,Nat.ne_of_gt (Nat.lt_of_lt_of_le I.lt hb),I.nofs hb, .inr (Nat.le_trans I.sz hb),fun x c e z=>?_,fun p hp z=>?_⟩
  · obtain ⟨v,q⟩:=I.cell x c e
    exact absurd (Nat.lt_of_lt_of_le q.lt (by rw [z];exact hb)) (Nat.lt_irrefl _)
  · exact absurd (Nat.lt_of_lt_of_le (Heap.lt_size (I.pin p hp).1) (by rw [z];exact hb)) (Nat.lt_irrefl _)
structure Turn (P:Program) (w:World) (K:PySem.W.Frag) (tg:Expr) (J:It) (fp:List Addr) (it:Addr) (tn:Nat→Heap→Prop):Prop where
  mem:it∈fp
  obj:∀i h,tn i h→∀b∈fp,∃o,h.get? b=some o∧∀v,o.data≠ .cell v
  keep:∀i h h',tn i h→(∀b∈fp,∀o,h.get? b=some o→h'.get? b=some o)→tn i h'
  item:∀(X:Cx),X.prog=P→X.w=w→X.K=K→X.calm=true→∀(i:Nat) (pins:List (Addr×Obj)) (s:Shared) (σ:St) (H:Hp) (E:Value→Shared→Prop),Inv X pins σ H s→(∀b∈fp,il X pins H b)→tn i s.heap→J.go i H→
    wpAny (model P w) X.A (pyNext (.ref it)) (fun r s1=>∃u,r=some u∧
      wpAny (model P w) X.A (letOwnedTupleGo tg (.ref it) u) (fun _ s2=>∃x H',Inv X pins σ H' s2∧RelV x u∧J.yld i H x H'∧tn (i+1) s2.heap∧∀b∈fp,H' b=none) E s1) E s
  done:∀(X:Cx),X.prog=P→X.w=w→X.K=K→X.calm=true→∀(i:Nat) (pins:List (Addr×Obj)) (s:Shared) (σ:St) (H:Hp) (E:Value→Shared→Prop),Inv X pins σ H s→(∀b∈fp,il X pins H b)→tn i s.heap→J.stop i H→
    wpAny (model P w) X.A (pyNext (.ref it)) (fun r s1=>r=none∧Inv X pins σ H s1) E s
  self:∀(A:Around) (i:Nat) (s:Shared) (Q:Value→Shared→Prop) (E:Value→Shared→Prop),tn i s.heap→Q (.ref it) s→wpAny (model P w) A (pyIter (.ref it)) Q E s
abbrev TI:=St→Hp→(It→Hp→Prop)→Prop
def uX (X:Cx) (pins:List (Addr×Obj)) (σ:St) (tg:Expr) (R:It→Hp→Prop) (itv:Value) (s2:Shared):Prop:=
  ∃(it:Addr) (fp:List Addr) (tn:Nat→Heap→Prop) (J:It) (H':Hp),itv= .ref it∧Inv X pins σ H' s2∧Turn X.prog X.w X.K tg J fp it tn∧tn 0 s2.heap∧(∀b∈fp,il X pins H' b)∧R J H'
def PI (X:Cx) (tg iter:Expr) (wi:TI):Prop:=
  ∀(pins:List (Addr×Obj)) (s:Shared) (σ:St) (H:Hp) (R:It→Hp→Prop),Inv X pins σ H s→wi σ H R→
    wpAny (model X.prog X.w) X.A (eval iter X.env) (fun v s1=>wpAny (model X.prog X.w) X.A (pyIter v) (uX X pins σ tg R) X.xe s1) X.xe s
theorem jz {M:Model} {A:Around} {E:Value→Shared→Prop} {s:Shared} {tg:Expr} {it:Addr} {u:Value} {o:Obj} {n:String} {vs:Array Value} {Q:Unit→Shared→Prop} (ho:s.heap.get? it=some o) (hc:o.cls= .type n) (hd:o.data= .fields vs)
    (hn:["enumerate","zip","dict_itemiterator","dict_reverseitemiterator","odict_iterator","itertools.zip_longest","itertools.pairwise"].contains n=false) (hQ:Q () s):wpAny M A (letOwnedTupleGo tg (.ref it) u) Q E s:=by
  unfold letOwnedTupleGo
  cases tg <;> first
    | exact wpAny_pure hQ
    | (cases u <;> first
        | exact wpAny_pure hQ
        | (refine wpAny_bind (wpAny_load ho ?_)
           rw [hc,hd]
           show wpAny M A (if (["enumerate","zip","dict_itemiterator","dict_reverseitemiterator","odict_iterator","itertools.zip_longest","itertools.pairwise"].contains n&&vs[0]? == some (rawInt _))=true then _ else _) Q E s
           rw [if_neg (by intro h;rw [hn,Bool.false_and] at h;cases h)]
           exact wpAny_pure hQ))
def uc (K:PySem.W.Frag) (a:Addr):It:=
  ⟨fun i H=>∃xs x,SqL K H a xs∧xs[i]? =some x,fun i H x H'=>H'=H∧∀xs,SqL K H a xs→xs[i]? =some x,fun i H=>∃xs,SqL K H a xs∧xs.length≤i⟩
def ud (K:PySem.W.Frag) (a:Addr):It:=
  ⟨fun i H=>∃xs x,SqT K H a xs∧xs[i]? =some x,fun i H x H'=>H'=H∧∀xs,SqT K H a xs→xs[i]? =some x,fun i H=>∃xs,SqT K H a xs∧xs.length≤i⟩
def tQ (lo:Int) (n:Nat):It:=⟨fun i _=>i < n,fun i H x H'=>H'=H∧x= .int (lo+i),fun i _=>n≤i⟩
theorem lL {P:Program} {w:World} {K:PySem.W.Frag} {tg:Expr} (a it:Addr):Turn P w K tg (uc K a) [it] it (fun i h=>h.IsListIter it a i) where
  mem:=by simp
  obj:=fun i h st b hb=>by
    have e:b=it:=by simpa using hb
    subst e
    obtain ⟨o,e,c,d⟩:=st
    exact ⟨o,e,fun v z=>by rw [d] at z;cases z⟩
  keep:=fun i h h' st k=>st.at fun o e=>k it (by simp) o e
  item:=by
    intro X hP hw hK hc i pins s σ H E I hf st hg
    subst hP hw hK
    obtain ⟨xs,x,hq,hx⟩:=hg
    obtain ⟨its,rv,p,hz⟩:=I.list hq
    obtain ⟨u,hu,ru⟩:=rv.get hx
    obtain ⟨f0,f1,f2,f3,f4,f5⟩:=hf it (by simp)
    refine wpAny_pyNext_list_item st p.isList (x:=u) (by simpa using hu) fun h' st' sb=>?_
    have I1:Inv X pins σ H {s with heap:=h'}:=I.turned (t':=s.toks) (fun b o hb e=>(sb.2 b hb).trans e) f0 f1 f3 f4 f5
    obtain ⟨o,e,c,d⟩:=id st'
    exact ⟨u,rfl,jz (s:={s with heap:=h'}) e c d (by decide) ⟨x,H,I1,ru,⟨rfl,fun ys hy=>by rw [I.list_inj hy hq];exact hx⟩,st',fun b hb=>(hf b hb).1⟩⟩
  done:=by
    intro X hP hw hK hc i pins s σ H E I hf st hg
    subst hP hw hK
    obtain ⟨xs,hq,hx⟩:=hg
    obtain ⟨its,rv,p,hz⟩:=I.list hq
    obtain ⟨f0,f1,f2,f3,f4,f5⟩:=hf it (by simp)
    have hl:=rv.length
    exact wpAny_pyNext_list_end (I.ok.hd hc) st p.isList (by simp;omega) fun h' eb=>⟨rfl,I.turned (t':=s.toks) (fun b o hb e=>eb b o hb e) f0 f1 f3 f4 f5⟩
  self:=fun _ _ _ _ _ st h=>wpAny_pyIter_listiter st h
theorem kh {P:Program} {w:World} {K:PySem.W.Frag} {tg:Expr} (a it:Addr):Turn P w K tg (ud K a) [it] it (fun i h=>h.IsTupleIter it a i) where
  mem:=by simp
  obj:=fun i h st b hb=>by
    have e:b=it:=by simpa using hb
    subst e
    obtain ⟨o,e,c,d⟩:=st
    exact ⟨o,e,fun v z=>by rw [d] at z;cases z⟩
  keep:=fun i h h' st k=>st.at fun o e=>k it (by simp) o e
  item:=by
    intro X hP hw hK hc i pins s σ H E I hf st hg
    subst hP hw hK
    obtain ⟨xs,x,hq,hx⟩:=hg
    obtain ⟨its,rv,p,hz⟩:=I.tuple hq
    obtain ⟨u,hu,ru⟩:=rv.get hx
    obtain ⟨f0,f1,f2,f3,f4,f5⟩:=hf it (by simp)
    refine wpAny_pyNext_tuple_item st (show s.heap.IsTuple a its.toArray from p) (x:=u) (by simpa using hu) fun h' st' sb=>?_
    have I1:Inv X pins σ H {s with heap:=h'}:=I.turned (t':=s.toks) (fun b o hb e=>(sb.2 b hb).trans e) f0 f1 f3 f4 f5
    obtain ⟨o,e,c,d⟩:=id st'
    exact ⟨u,rfl,jz (s:={s with heap:=h'}) e c d (by decide) ⟨x,H,I1,ru,⟨rfl,fun ys hy=>by rw [I.tuple_inj hy hq];exact hx⟩,st',fun b hb=>(hf b hb).1⟩⟩
  done:=by
    intro X hP hw hK hc i pins s σ H E I hf st hg
    subst hP hw hK
    obtain ⟨xs,hq,hx⟩:=hg
    obtain ⟨its,rv,p,hz⟩:=I.tuple hq
    obtain ⟨f0,f1,f2,f3,f4,f5⟩:=hf it (by simp)
    have hl:=rv.length
    exact wpAny_pyNext_tuple_end (I.ok.hd hc) st (show s.heap.IsTuple a its.toArray from p) (by simp;omega) fun h' eb=>⟨rfl,I.turned (t':=s.toks) (fun b o hb e=>eb b o hb e) f0 f1 f3 f4 f5⟩
  self:=fun _ _ _ _ _ st h=>wpAny_pyIter_tupleiter st h
theorem ki {P:Program} {w:World} {K:PySem.W.Frag} {tg:Expr} (it:Addr) (lo:Int) (n:Nat):Turn P w K tg (tQ lo n) [it] it (fun i h=>IsRangeIter h it (lo+(i:Nat)*1) ((n:Int) - (i:Nat)) 1) where
  mem:=by simp
  obj:=fun i h st b hb=>by
    have e:b=it:=by simpa using hb
    subst e
    exact ⟨_,st,fun v z=>by
      have z':Data.fields _=Data.cell v:=z
      cases z'⟩
  keep:=fun i h h' st k=>k it (by simp) _ st
  item:=by
    intro X hP hw hK hc i pins s σ H E I hf st hg
    subst hP hw hK
    obtain ⟨f0,f1,f2,f3,f4,f5⟩:=hf it (by simp)
    have W:=Walks.range (prog:=X.prog) (w:=X.w) (I.ok.hd hc) it lo 1 n
    refine W.item i s _ _ hg st fun v h' tk hv st' kk=>?_
    obtain ⟨t,rfl⟩:=hv
    have I1:Inv X pins σ H {s with heap:=h',toks:=tk}:=I.turned (fun b o hb e=>kk b o (by simpa using hb) e) f0 f1 f3 f4 f5
    refine ⟨_,rfl,jz (s:={s with heap:=h',toks:=tk}) (n:="range_iterator") st' rfl rfl (by decide) ⟨.int (lo+i),H,I1,⟨t,?_⟩,⟨rfl,rfl⟩,st',fun b hb=>(hf b hb).1⟩⟩
    rw [Int.mul_one]
  done:=by
    intro X hP hw hK hc i pins s σ H E I hf st hg
    subst hP hw hK
    obtain ⟨f0,f1,f2,f3,f4,f5⟩:=hf it (by simp)
    exact wpAny_pyNext_range_end (I.ok.hd hc) st (by have:n≤i:=hg;omega) fun h' eb=>⟨rfl,I.turned (t':=s.toks) (fun b o hb e=>eb b o hb e) f0 f1 f3 f4 f5⟩
  self:=fun _ _ _ _ _ st h=>wpAny_pyIter_rangeiter st h
end L2
namespace L2
open PySem PySem.Spec PyProof.Rows
section
variable {X:Cx} {tg:Expr}
def sk (K:PySem.W.Frag) (tl:TE):TI:=fun σ H R=>tl σ H fun x H1=>∃a,x= .ref a∧(∃xs,SqL K H1 a xs)∧R (uc K a) H1
def ue (K:PySem.W.Frag) (tl:TE):TI:=fun σ H R=>tl σ H fun x H1=>∃a,x= .ref a∧(∃xs,SqT K H1 a xs)∧R (ud K a) H1
theorem oK {l:Expr} {tl:TE} (hl:PE X l tl):PI X tg l (sk X.K tl):=by
  intro pins s σ H R I h
  refine b5 (hl pins s σ H _ I h) fun v s1 ⟨x,H1,I1,r1,q1⟩=>?_
  obtain ⟨a,e,⟨xs,hq⟩,q⟩:=q1
  subst e
  cases r1
  obtain ⟨its,rv,p,hz⟩:=I1.list hq
  refine wpAny_pyIter_list p.isList ?_
  refine ⟨s1.heap.objs.size,[s1.heap.objs.size],_,_,H1,rfl,I1.kept (t':=s1.toks) fun b o e=>Heap.get?_push_of_some _ e,lL a _,⟨_,Heap.get?_push_size _ rfl,rfl,rfl⟩,fun b hb=>?_,q⟩
  have e:b=s1.heap.objs.size:=by simpa using hb
  subst e
  exact I1.fpOk (Nat.le_refl _) (I1.hok.fresh (Nat.le_refl _))
theorem qk {l:Expr} {tl:TE} (hl:PE X l tl):PI X tg l (ue X.K tl):=by
  intro pins s σ H R I h
  refine b5 (hl pins s σ H _ I h) fun v s1 ⟨x,H1,I1,r1,q1⟩=>?_
  obtain ⟨a,e,⟨xs,hq⟩,q⟩:=q1
  subst e
  cases r1
  obtain ⟨its,rv,p,hz⟩:=I1.tuple hq
  refine wpAny_pyIter_tuple (show s1.heap.IsTuple a its.toArray from p) ?_
  refine ⟨s1.heap.objs.size,[s1.heap.objs.size],_,_,H1,rfl,I1.kept (t':=s1.toks) fun b o e=>Heap.get?_push_of_some _ e,kh a _,⟨_,Heap.get?_push_size _ rfl,rfl,rfl⟩,fun b hb=>?_,q⟩
  have e:b=s1.heap.objs.size:=by simpa using hb
  subst e
  exact I1.fpOk (Nat.le_refl _) (I1.hok.fresh (Nat.le_refl _))
theorem mG {pins:List (Addr×Obj)} {σ:St} {H:Hp} {s:Shared} {R:It→Hp→Prop} {E:Value→Shared→Prop} {lo hi:Int} {t u v:Tok} {tk:Nat} (I:Inv X pins σ H s) (h1: -(2 ^ 62)≤lo) (h2:lo < 2 ^ 62) (h3: -(2 ^ 62)≤hi) (h4:hi < 2 ^ 62)
    (q:R (tQ lo (hi - lo).toNat) H):wpAny (model X.prog X.w) X.A (pyIter (.ref s.heap.objs.size)) (uX X pins σ tg R) E {s with heap:=s.heap.push {cls:= .type "range",data:= .fields #[.int lo t, .int hi u, .int 1 v]},toks:=tk}:=by
  refine wpAny_pyIter_range (IsRange.new ..) (small_one h1 h2 h3 h4) ?_
  have I1:Inv X pins σ H {s with heap:=s.heap.push {cls:= .type "range",data:= .fields #[.int lo t, .int hi u, .int 1 v]},toks:=tk}:=I.kept fun b o e=>Heap.get?_push_of_some _ e
  refine ⟨(s.heap.push {cls:= .type "range",data:= .fields #[.int lo t, .int hi u, .int 1 v]}).objs.size,[(s.heap.push {cls:= .type "range",data:= .fields #[.int lo t, .int hi u, .int 1 v]}).objs.size],_,_,H,rfl,
    I1.kept (t':=tk) fun b o e=>Heap.get?_push_of_some _ e,ki _ lo (hi - lo).toNat,?_,fun b hb=>?_,q⟩
  · have e1:lo+((0:Nat):Int)*1=lo:=by simp
    have e2:(((hi - lo).toNat:Nat):Int) - ((0:Nat):Int)=Builtin.Range.rangeSize lo hi 1:=by rw [rangeSize_one];split <;> omega
    show IsRangeIter _ _ (lo+((0:Nat):Int)*1) ((((hi - lo).toNat:Nat):Int) - ((0:Nat):Int)) 1
    rw [e1,e2]
    exact Heap.get?_push_size _ rfl
  · have e:b=(s.heap.push {cls:= .type "range",data:= .fields #[.int lo t, .int hi u, .int 1 v]}).objs.size:=by simpa using hb
    subst e
    exact I1.fpOk (Nat.le_refl _) (I1.hok.fresh (Nat.le_refl _))
def sm (ta:TA):TI:=fun σ H R=>ta σ H fun vs H1=>∃j:Int,vs=[.int j]∧ -(2 ^ 62)≤j∧j < 2 ^ 62∧R (tQ 0 j.toNat) H1
theorem lM {a:Expr} {ta:TA} {p pos:Pos} (hg:Gl X "range") (hm:X.mg "range"=none) (ha:PA X [a] ta) (hs:starEach [a] X.env=[(false,eval a X.env)]:=by rfl):PI X tg (.Call (.Name "range" p) [a] [] pos) (sm ta):=by
  intro pins s σ H R I h
  refine Call_ (gi I hg hm boot_range (PyProof.Rows.callWith_type1 (b5 (ha pos pins s σ H _ I h) fun us s1 ⟨vs,H1,I1,r1,q1⟩=>?_) hs rfl))
  obtain ⟨j,e,q1,q2,q⟩:=q1
  subst e
  cases r1 with
  | cons r rr=>
    cases rr
    obtain ⟨t,rfl⟩:=r
    exact call_range_1 (mG I1 (by omega) (by omega) q1 q2 (by simpa using q))
def uf (wi:TI) (g:TG) (tb:TS):TS:=fun D σ H=>wi σ H fun J H1=>∃W:Nat→Nat→St→Hp→Prop,(∃m,W 0 m σ H1)∧∀i m σ H,W i m σ H→
  (J.stop i H∧D.nx σ H)∨(J.go i H∧∃N:St→Hp→Prop,(∀σ' H',N σ' H'→∃m',m' < m∧W (i+1) m' σ' H')∧∀x H',J.yld i H x H'→g x σ H' fun σ2 H2=>tb {D with nx:=N,ct:=N,bk:=D.nx} σ2 H2)
def gU (fp:List Addr) (h:Heap):List (Addr×Obj):=fp.filterMap fun b=>(h.get? b).map fun o=>(b,o)
theorem dZ {fp:List Addr} {h:Heap} {b:Addr} {o:Obj} (hb:b∈fp) (e:h.get? b=some o):(b,o)∈gU fp h:=List.mem_filterMap.mpr ⟨b,hb,by rw [e];rfl⟩
theorem lN {fp:List Addr} {h:Heap} {p:Addr×Obj} (hp:p∈gU fp h):p.1∈fp∧h.get? p.1=some p.2:=by
  obtain ⟨b,hb,e⟩:=List.mem_filterMap.mp hp
  cases q:h.get? b with
  | none=>rw [q] at e;cases e
  | some o=>
    rw [q] at e
    have e':(b,o)=p:=Option.some.inj e
    subst e'
    exact ⟨hb,q⟩
theorem Inv.pinned {pins:List (Addr×Obj)} {σ:St} {H:Hp} {s:Shared} {fp:List Addr} (I:Inv X pins σ H s) (hf:∀b∈fp,il X pins H b) (ho:∀b∈fp,∃o,s.heap.get? b=some o∧∀v,o.data≠ .cell v):Inv X (pins++gU fp s.heap) σ H s:=
  I.pins_of fun p hp=>(List.mem_append.mp hp).elim (fun z=>I.pin p (List.mem_append_right _ z)) fun z=>by
    obtain ⟨hb,e⟩:=lN z
    obtain ⟨f0,f1,f2,_⟩:=hf p.1 hb
    obtain ⟨o,e',d⟩:=ho p.1 hb
    rw [e] at e';cases e'
    exact ⟨e,f0,f1,f2,d⟩
theorem Inv.unpinned {pins pl:List (Addr×Obj)} {σ:St} {H:Hp} {s:Shared} (I:Inv X (pins++pl) σ H s):Inv X pins σ H s:=I.pins_of fun p hp=>I.pin p (List.mem_append_right _ (List.mem_append_left _ hp))
theorem ql {iter:Expr} {body:List Stmt} {wi:TI} {g:TG} {tb:TS} {pos:Pos} (hp:PassesOwn (model X.prog X.w) X.A X.env X.xe) (hc:X.calm=true) (hi:PI X tg iter wi) (hg:PG X tg g) (hb:PSs X body tb)
    (hs:∀x,foldedSetIterable iter X.env x=pure x:=by intro _;rfl):PS X (.For tg iter body [] pos) (uf wi g tb):=by
  intro pins s σ H D I h
  refine wpAny_For (b5 (hi pins s σ H _ I h) fun v s1 h1=>b5 h1 fun itv s2 h2=>?_) hs
  obtain ⟨it,fp,tn,J,H2,e,I2,T,st2,f2,W,⟨m0,w0⟩,turn⟩:=h2
  subst e
  -- what stays true of the iterator's objects through the loop
  have stat:∀{H':Hp},(∀b∈fp,H' b=none)→∀b∈fp,il X pins H' b:=fun hn b hb=>⟨hn b hb,(f2 b hb).2⟩
  refine codeAny_forLoop_any (fun n s'=>∃i σ' H',Inv X pins σ' H' s'∧tn i s'.heap∧(∀b∈fp,H' b=none)∧W i n σ' H') ?_ m0 ⟨0,σ,H2,I2,st2,fun b hb=>(f2 b hb).1,w0⟩
  rintro n s3 ⟨i,σ3,H3,I3,st3,fr3,w3⟩
  rcases turn i n σ3 H3 w3 with ⟨stop,qn⟩ | ⟨go,N,hN,step⟩
  · refine wpAny_passesOwn hp (b5 (T.done X rfl rfl rfl hc i pins s3 σ3 H3 X.xe I3 (stat fr3) st3 stop) fun r s4 ⟨hr,I4⟩=>?_)
    subst hr
    exact wpAny_execs_nil ⟨σ3,H3,I4,qn⟩
  · refine wpAny_passesOwn hp (b5 (T.item X rfl rfl rfl hc i pins s3 σ3 H3 X.xe I3 (stat fr3) st3 go) fun r s4 ⟨u,hr,h4⟩=>?_)
    subst hr
    refine wpAny_passesOwn hp (b5 h4 fun _ s5 ⟨x,H5,I5,r5,y5,st5,fr5⟩=>?_)
    have I5':=I5.pinned (stat fr5) (T.obj _ _ st5)
    refine wpAny_passesOwn hp (b5 (hg _ s5 σ3 H5 x u _ I5' r5 (step x H5 y5)) fun _ s6 ⟨σ6,H6,I6,q6⟩=>?_)
    refine wpAny_passesOwn hp (b5 (hb _ s6 σ6 H6 _ I6 q6) fun f s7 q7=>?_)
    have again:∀{σ7:St} {H7:Hp},Inv X (pins++gU fp s5.heap) σ7 H7 s7→N σ7 H7→∃m,m < n∧∃i σ' H',Inv X pins σ' H' s7∧tn i s7.heap∧(∀b∈fp,H' b=none)∧W i m σ' H':=fun {σ7 H7} I7 n7=>by
      obtain ⟨m',hm,w7⟩:=hN σ7 H7 n7
      refine ⟨m',hm,i+1,σ7,H7,I7.unpinned,T.keep _ _ _ st5 fun b hb o e=>(I7.pin (b,o) (List.mem_append_right _ (List.mem_append_right _ (dZ hb e)))).1,fun b hb=>?_,w7⟩
      obtain ⟨o,e,d⟩:=T.obj _ _ st5 b hb
      exact (I7.pin (b,o) (List.mem_append_right _ (List.mem_append_right _ (dZ hb e)))).2.1
    cases f with
    | next=>obtain ⟨σ7,H7,I7,n7⟩:=q7;exact again I7 n7
    | cont=>obtain ⟨σ7,H7,I7,n7⟩:=q7;exact again I7 n7
    | brk=>obtain ⟨σ7,H7,I7,q7⟩:=q7;exact ⟨σ7,H7,I7.unpinned,q7⟩
    | ret v=>obtain ⟨x7,σ7,H7,I7,r7,q7⟩:=q7;exact ⟨x7,σ7,H7,I7.unpinned,r7,q7⟩
end
end L2
namespace L2
open PySem PySem.Spec PyProof.Rows
abbrev R2:=V→V→Hp→VK→Prop
def OpR (X:Cx) (f:Value→Value→Sem Value) (r:R2):Prop:=
  ∀(pins:List (Addr×Obj)) (s:Shared) (σ:St) (H:Hp) (x y:V) (v u:Value) (Q:VK),Inv X pins σ H s→RelV x v→RelV y u→r x y H Q→
    wpAny (model X.prog X.w) X.A (f v u) (EP X pins σ Q) X.xe s
def ug (X:Cx) (f:Value→Sem Value) (r:V→Hp→VK→Prop):Prop:=
  ∀(pins:List (Addr×Obj)) (s:Shared) (σ:St) (H:Hp) (x:V) (v:Value) (Q:VK),Inv X pins σ H s→RelV x v→r x H Q→
    wpAny (model X.prog X.w) X.A (f v) (EP X pins σ Q) X.xe s
def CallR (X:Cx) (f:Value) (r:List V→Hp→VK→Prop):Prop:=
  ∀(pins:List (Addr×Obj)) (s:Shared) (σ:St) (H:Hp) (xs:List V) (us:List Value) (Q:VK),Inv X pins σ H s→Vals xs us→r xs H Q→
    wpAny (model X.prog X.w) X.A (call f us) (EP X pins σ Q) X.xe s
def uh (X:Cx) (r:V→Hp→(Bool→Hp→Prop)→Prop):Prop:=
  ∀(pins:List (Addr×Obj)) (s:Shared) (σ:St) (H:Hp) (x:V) (v:Value) (Q:Bool→Hp→Prop),Inv X pins σ H s→RelV x v→r x H Q→
    wpAny (model X.prog X.w) X.A (truthy v) (TP X pins σ Q) X.xe s
def sq (r:R2) (ta tb:TE):TE:=fun σ H Q=>ta σ H fun x H1=>tb σ H1 fun y H2=>r x y H2 Q
def va (r:V→Hp→VK→Prop) (ta:TE):TE:=fun σ H Q=>ta σ H fun x H1=>r x H1 Q
def rI (C:Int→Int→Prop) (g:Int→Int→V):R2:=fun x y H Q=>∃i j,x= .int i∧y= .int j∧C i j∧Q (g i j) H
def pP (g:Int→Int→V):R2:=fun x y H Q=>∃i j,x= .int i∧y= .int j∧Q (g i j) H
def rU (g:Int→V):V→Hp→VK→Prop:=fun x H Q=>∃i,x= .int i∧Q (g i) H
section
variable {X:Cx} {a b c:Expr} {ta tb tc:TE} {pos:Pos}
theorem qm (ha:PE X a ta) (hb:PE X b tb) {pins:List (Addr×Obj)} {s:Shared} {σ:St} {H:Hp} {R:V→V→Hp→Prop} (I:Inv X pins σ H s)
    (h:ta σ H fun x H1=>tb σ H1 fun y H2=>R x y H2) {Q:Value→Shared→Prop} {f:Value→Value→Sem Value}
    (hf:∀v u s2 x y H2,Inv X pins σ H2 s2→RelV x v→RelV y u→R x y H2→wpAny (model X.prog X.w) X.A (f v u) Q X.xe s2):
    wpAny (model X.prog X.w) X.A (eval a X.env) (fun v s₁=>wpAny (model X.prog X.w) X.A (eval b X.env) (fun u s₂=>wpAny (model X.prog X.w) X.A (f v u) Q X.xe s₂) X.xe s₁) X.xe s:=by
  refine b5 (ha pins s σ H _ I h) fun v s1 ⟨x,H1,I1,r1,q1⟩=>?_
  refine b5 (hb pins s1 σ H1 _ I1 q1) fun u s2 ⟨y,H2,I2,r2,q2⟩=>?_
  exact hf v u s2 x y H2 I2 r1 r2 q2
theorem mH {op:Operator} {r:R2} (ho:OpR X (binaryOp op) r) (ha:PE X a ta) (hb:PE X b tb):PE X (.BinOp a op b pos) (sq r ta tb):=by
  intro pins s σ H Q I h
  exact wpAny_BinOp (qm ha hb I h fun v u s2 x y H2 I2 rx ry q=>ho pins s2 σ H2 x y v u Q I2 rx ry q)
theorem sr {op:UnaryOp} {r:V→Hp→VK→Prop} (ho:ug X (unaryOp op) r) (ha:PE X a ta):PE X (.UnaryOp op a pos) (va r ta):=by
  intro pins s σ H Q I h
  exact UnaryOp_ (b5 (ha pins s σ H _ I h) fun v s1 ⟨x,H1,I1,r1,q1⟩=>ho pins s1 σ H1 x v Q I1 r1 q1)
theorem tR {f:Value→Value→Sem Value} {C:Int→Int→Prop} {g:Int→Int→Int}
    (rule:∀(i j:Int) (t u:Tok) (s:Shared) (Q:Value→Shared→Prop) (E:Value→Shared→Prop),C i j→Q (.int (g i j) s.toks) {s with toks:=s.toks+1}→wpAny (model X.prog X.w) X.A (f (.int i t) (.int j u)) Q E s):
    OpR X f (rI C fun i j=> .int (g i j)):=by
  intro pins s σ H x y v u Q I rx ry h
  obtain ⟨i,j,rfl,rfl,hc,q⟩:=h
  obtain ⟨t,rfl⟩:=rx
  obtain ⟨t',rfl⟩:=ry
  exact rule i j t t' s _ _ hc ⟨.int (g i j),H,I.tok _,⟨_,rfl⟩,q⟩
theorem su {f:Value→Value→Sem Value} {g:Int→Int→Int}
    (rule:∀(i j:Int) (t u:Tok) (s:Shared) (Q:Value→Shared→Prop) (E:Value→Shared→Prop),Q (.int (g i j) s.toks) {s with toks:=s.toks+1}→wpAny (model X.prog X.w) X.A (f (.int i t) (.int j u)) Q E s):
    OpR X f (pP fun i j=> .int (g i j)):=by
  intro pins s σ H x y v u Q I rx ry h
  obtain ⟨i,j,rfl,rfl,q⟩:=h
  obtain ⟨t,rfl⟩:=rx
  obtain ⟨t',rfl⟩:=ry
  exact rule i j t t' s _ _ ⟨.int (g i j),H,I.tok _,⟨_,rfl⟩,q⟩
theorem oM {f:Value→Value→Sem Value} {g:Int→Int→Bool}
    (rule:∀(i j:Int) (t u:Tok) (s:Shared) (Q:Value→Shared→Prop) (E:Value→Shared→Prop),Q (.bool (g i j)) s→wpAny (model X.prog X.w) X.A (f (.int i t) (.int j u)) Q E s):
    OpR X f (pP fun i j=> .bl (g i j)):=by
  intro pins s σ H x y v u Q I rx ry h
  obtain ⟨i,j,rfl,rfl,q⟩:=h
  obtain ⟨t,rfl⟩:=rx
  obtain ⟨t',rfl⟩:=ry
  exact rule i j t t' s _ _ ⟨.bl (g i j),H,I,rfl,q⟩
def sw (i j:Int):Prop:=0≤j∧j≤1000000∧i.natAbs < 2 ^ 64
def CMul (i j:Int):Prop:=(-(2 ^ 64) < i∧i < 2 ^ 64)∨(-(2 ^ 64) < j∧j < 2 ^ 64)
theorem CMul.ok {i j:Int} (h:CMul i j):IntMulOk i j:=by
  rcases h with ⟨h1,h2⟩ | ⟨h1,h2⟩
  · exact .of_left (intBits_le_64 h1 h2)
  · exact .of_right (intBits_le_64 h1 h2)
theorem qo:OpR X (binaryOp .Add) (pP fun i j=> .int (i+j)):=su fun _ _ _ _ _ _ _ q=>add_int q
theorem qp:OpR X (binaryOp .Sub) (pP fun i j=> .int (i - j)):=su fun _ _ _ _ _ _ _ q=>sub_int q
theorem mI:OpR X (binaryOp .Mod) (rI (fun _ j=>0 < j) fun i j=> .int (i % j)):=tR fun i j _ _ _ _ _ hc q=>by
  have h1:(0:Int) < j:=hc
  exact mod_int' (by omega) (by rw [Int.fmod_eq_emod_of_nonneg i (by omega)];exact q)
theorem qr:OpR X (binaryOp .Pow) (rI sw fun i j=> .int (i ^ j.toNat)):=tR fun _ _ _ _ _ _ _ hc q=>pow_int_small hc.1 hc.2.1 hc.2.2 q
theorem vb {f:Value→Sem Value} {g:Int→Int}
    (rule:∀(i:Int) (t:Tok) (s:Shared) (Q:Value→Shared→Prop) (E:Value→Shared→Prop),Q (.int (g i) s.toks) {s with toks:=s.toks+1}→wpAny (model X.prog X.w) X.A (f (.int i t)) Q E s):
    ug X f (rU fun i=> .int (g i)):=by
  intro pins s σ H x v Q I rx h
  obtain ⟨i,rfl,q⟩:=h
  obtain ⟨t,rfl⟩:=rx
  exact rule i t s _ _ ⟨.int (g i),H,I.tok _,⟨_,rfl⟩,q⟩
theorem qu:ug X (unaryOp .USub) (rU fun i=> .int (-i)):=vb fun _ _ _ _ _ q=>neg_int q
end
def qv:V→V→Bool
  | .non, .non=>true | .non, .int _=>true | .int _, .non=>true | .non, .bl _=>true | .bl _, .non=>true | .non, .str _=>true | .str _, .non=>true
  | .int _, .int _=>true | .bl _, .bl _=>true | .str _, .str _=>true | .byt _, .byt _=>true
  | .int _, .str _=>true | .str _, .int _=>true | .bl _, .str _=>true | .str _, .bl _=>true
  | _,_=>false
def uY:R2:=fun x y H Q=>qv x y=true∧Q (.bl (decide (x=y))) H
def uZ:R2:=fun x y H Q=>qv x y=true∧Q (.bl (!decide (x=y))) H
theorem kQ {i j:Int}:decide (V.int i=V.int j)=(i == j):=by
  rw [Bool.eq_iff_iff]
  simp
theorem mJ {i j:Bool}:decide (V.bl i=V.bl j)=(i == j):=by
  rw [Bool.eq_iff_iff]
  simp
theorem kR {i j:Str}:decide (V.str i=V.str j)=(i == j):=by
  rw [Bool.eq_iff_iff]
  simp
theorem kS {i j:Array UInt8}:decide (V.byt i=V.byt j)=(i.toList == j.toList):=by
  rw [Bool.eq_iff_iff]
  cases i
  cases j
  simp
section
variable {X:Cx} {a b c:Expr} {ta tb tc:TE} {pos:Pos}
theorem aL {pins:List (Addr×Obj)} {σ:St} {H:Hp} {s:Shared} {Q:VK} {k k':Bool} (I:Inv X pins σ H s) (q:Q (.bl k) H) (e:k=k'):EP X pins σ Q (.bool k') s:=by
  subst e
  exact ⟨.bl k,H,I,rfl,q⟩
theorem sx:OpR X (compareOp .Eq) uY:=by
  intro pins s σ H x y v u Q I rx ry h
  obtain ⟨hs,q⟩:=h
  cases x with
  | non=>
    cases rx
    cases y with
    | non=>cases ry;exact PySem.EqNone.eq_none_none (aL I q (by simp))
    | bl j=>cases ry;exact PySem.EqNone.eq_none_bool (aL I q (by simp))
    | int j=>obtain ⟨t',rfl⟩:=ry;exact PySem.EqNone.eq_none_int (aL I q (by simp))
    | str j=>obtain ⟨t',rfl⟩:=ry;exact PySem.EqNone.eq_none_str (aL I q (by simp))
    | _=>exact absurd (show false=true from hs) Bool.false_ne_true
  | bl i=>
    cases rx
    cases y with
    | non=>cases ry;exact PySem.EqNone.eq_bool_none (aL I q (by simp))
    | bl j=>cases ry;exact eq_bool (aL I q mJ)
    | str j=>obtain ⟨t',rfl⟩:=ry;exact PySem.EqMixed.eq_bool_str (aL I q (by simp))
    | _=>exact absurd (show false=true from hs) Bool.false_ne_true
  | int i=>
    obtain ⟨t,rfl⟩:=rx
    cases y with
    | non=>cases ry;exact PySem.EqNone.eq_int_none (aL I q (by simp))
    | int j=>obtain ⟨t',rfl⟩:=ry;exact eq_int (aL I q kQ)
    | str j=>obtain ⟨t',rfl⟩:=ry;exact PySem.EqMixed.eq_int_str (aL I q (by simp))
    | _=>exact absurd (show false=true from hs) Bool.false_ne_true
  | str i=>
    obtain ⟨t,rfl⟩:=rx
    cases y with
    | non=>cases ry;exact PySem.EqNone.eq_str_none (aL I q (by simp))
    | bl j=>cases ry;exact PySem.EqMixed.eq_str_bool (aL I q (by simp))
    | int j=>obtain ⟨t',rfl⟩:=ry;exact PySem.EqMixed.eq_str_int (aL I q (by simp))
    | str j=>obtain ⟨t',rfl⟩:=ry;exact eq_str (aL I q kR)
    | _=>exact absurd (show false=true from hs) Bool.false_ne_true
  | byt i=>
    obtain ⟨t,rfl⟩:=rx
    cases y with
    | byt j=>obtain ⟨t',rfl⟩:=ry;exact PySem.W.eq_bytes (aL I q kS)
    | _=>exact absurd (show false=true from hs) Bool.false_ne_true
  | _=>cases y <;> exact absurd (show false=true from hs) Bool.false_ne_true
theorem sy:OpR X (compareOp .NotEq) uZ:=by
  intro pins s σ H x y v u Q I rx ry h
  obtain ⟨hs,q⟩:=h
  cases x with
  | non=>
    cases rx
    cases y with
    | non=>cases ry;exact PySem.EqNone.ne_none_none (aL I q (by simp))
    | bl j=>cases ry;exact PySem.EqNone.ne_none_bool (aL I q (by simp))
    | int j=>obtain ⟨t',rfl⟩:=ry;exact PySem.EqNone.ne_none_int (aL I q (by simp))
    | str j=>obtain ⟨t',rfl⟩:=ry;exact PySem.EqNone.ne_none_str (aL I q (by simp))
    | _=>exact absurd (show false=true from hs) Bool.false_ne_true
  | bl i=>
    cases rx
    cases y with
    | non=>cases ry;exact PySem.EqNone.ne_bool_none (aL I q (by simp))
    | bl j=>cases ry;exact ne_bool (aL I q (congrArg not mJ))
    | str j=>obtain ⟨t',rfl⟩:=ry;exact PySem.EqMixed.ne_bool_str (aL I q (by simp))
    | _=>exact absurd (show false=true from hs) Bool.false_ne_true
  | int i=>
    obtain ⟨t,rfl⟩:=rx
    cases y with
    | non=>cases ry;exact PySem.EqNone.ne_int_none (aL I q (by simp))
    | int j=>obtain ⟨t',rfl⟩:=ry;exact ne_int (aL I q (congrArg not kQ))
    | str j=>obtain ⟨t',rfl⟩:=ry;exact PySem.EqMixed.ne_int_str (aL I q (by simp))
    | _=>exact absurd (show false=true from hs) Bool.false_ne_true
  | str i=>
    obtain ⟨t,rfl⟩:=rx
    cases y with
    | non=>cases ry;exact PySem.EqNone.ne_str_none (aL I q (by simp))
    | bl j=>cases ry;exact PySem.EqMixed.ne_str_bool (aL I q (by simp))
    | int j=>obtain ⟨t',rfl⟩:=ry;exact PySem.EqMixed.ne_str_int (aL I q (by simp))
    | str j=>obtain ⟨t',rfl⟩:=ry;exact ne_str (aL I q (congrArg not kR))
    | _=>exact absurd (show false=true from hs) Bool.false_ne_true
  | byt i=>
    obtain ⟨t,rfl⟩:=rx
    cases y with
    | byt j=>obtain ⟨t',rfl⟩:=ry;exact PySem.W.ne_bytes (aL I q (congrArg not kS))
    | _=>exact absurd (show false=true from hs) Bool.false_ne_true
  | _=>cases y <;> exact absurd (show false=true from hs) Bool.false_ne_true
theorem sC:OpR X (compareOp .Lt) (pP fun i j=> .bl (decide (i < j))):=oM fun _ _ _ _ _ _ _ q=>lt_int q
theorem sD:OpR X (compareOp .LtE) (pP fun i j=> .bl (decide (i≤j))):=oM fun _ _ _ _ _ _ _ q=>le_int q
theorem sE:OpR X (compareOp .Gt) (pP fun i j=> .bl (decide (j < i))):=oM fun _ _ _ _ _ _ _ q=>gt_int q
theorem sG:OpR X (compareOp .GtE) (pP fun i j=> .bl (decide (j≤i))):=oM fun _ _ _ _ _ _ _ q=>ge_int q
theorem lO:OpR X (compareOp .Lt) (fun x y H Q=>∃i j,x= .str i∧y= .str j∧Q (.bl (decide (i.cps.toList < j.cps.toList))) H):=by
  intro pins s σ H x y v u Q I rx ry h
  obtain ⟨i,j,rfl,rfl,q⟩:=h
  obtain ⟨t,rfl⟩:=rx
  obtain ⟨t',rfl⟩:=ry
  exact lt_str (aL I q rfl)
theorem OpR.or {f:Value→Value→Sem Value} {r r':R2} (h:OpR X f r) (h':OpR X f r'):OpR X f (fun x y H Q=>r x y H Q∨r' x y H Q):=by
  intro pins s σ H x y v u Q I rx ry q
  rcases q with q | q
  · exact h pins s σ H x y v u Q I rx ry q
  · exact h' pins s σ H x y v u Q I rx ry q
theorem kj (b:Expr) {op:CmpOp} (h:op≠ .In:=by decide) (h2:op≠ .NotIn:=by decide):behindInMarks op b=false:=by
  have e1:(op == CmpOp.In)=false:=by cases op <;> first | rfl | exact absurd rfl h
  have e2:(op == CmpOp.NotIn)=false:=by cases op <;> first | rfl | exact absurd rfl h2
  cases b <;> simp [behindInMarks,e1,e2]
theorem oN {op:CmpOp} {r:R2} (ho:OpR X (compareOp op) r) (ha:PE X a ta) (hb:PE X b tb) (hm:behindInMarks op b=false):PE X (.Compare a [op] [b] pos) (sq r ta tb):=by
  intro pins s σ H Q I h
  exact wpAny_Compare1 (qm ha hb I h fun v u s2 x y H2 I2 rx ry q=>ho pins s2 σ H2 x y v u Q I2 rx ry q) hm
def pQ (t:TE):TT:=fun σ H Q=>t σ H fun x H'=>∃k,x= .bl k∧Q k H'
theorem oO {op:CmpOp} {r:R2} (ho:OpR X (compareOp op) r) (ha:PE X a ta) (hb:PE X b tb) (hm:behindInMarks op b=false):PT X (.Compare a [op] [b] pos) (pQ (sq r ta tb)):=by
  intro pins s σ H Q I h
  refine wpAny_isTrue_Compare1 (b5 (ha pins s σ H _ I h) fun v s1 ⟨x,H1,I1,r1,q1⟩=>b5 (hb pins s1 σ H1 _ I1 q1) fun u s2 ⟨y,H2,I2,r2,q2⟩=>
    b5 (ho pins s2 σ H2 x y v u _ I2 r1 r2 q2) fun c s3 ⟨z,H3,I3,r3,k,e,q3⟩=>?_) hm
  subst e
  cases r3
  exact wpAny_truthy_bool ⟨H3,I3,q3⟩
def mK (r r':R2) (ta tb tc:TE):TE:=fun σ H Q=>ta σ H fun x H1=>tb σ H1 fun y H2=>r x y H2 fun z H3=>∃k,z= .bl k∧
  (if k=true then tc σ H3 fun w' H4=>r' y w' H4 Q else Q (.bl false) H3)
theorem mL {op op':CmpOp} {r r':R2} (ho:OpR X (compareOp op) r) (ho':OpR X (compareOp op') r') (ha:PE X a ta) (hb:PE X b tb) (hc:PE X c tc)
    (hm:lastMarks [op,op'] [b,c]=false:=by with_unfolding_all rfl):PT X (.Compare a [op,op'] [b,c] pos) (pQ (mK r r' ta tb tc)):=by
  intro pins s σ H Q I h
  refine isTrue_chain (b5 (ha pins s σ H _ I h) fun v s1 ⟨x,H1,I1,r1,q1⟩=>test_link (b5 (hb pins s1 σ H1 _ I1 q1) fun u s2 ⟨y,H2,I2,r2,q2⟩=>
    b5 (ho pins s2 σ H2 x y v u _ I2 r1 r2 q2) fun d s3 ⟨z,H3,I3,r3,k,e,q3⟩=>?_)) hm
  subst e
  cases r3
  refine wpAny_truthy_bool ?_
  cases k with
  | false=>
    obtain ⟨k',e',q'⟩:=q3
    cases e'
    exact ite_ff ⟨H3,I3,q'⟩
  | true=>
    refine ite_tt (test_last (b5 (hc pins s3 σ H3 _ I3 q3) fun w' s4 ⟨z',H4,I4,r4,q4⟩=>b5 (ho' pins s4 σ H4 y z' u w' _ I4 r2 r4 q4) fun d' s5 ⟨z2,H5,I5,r5,k2,e2,q5⟩=>?_))
    subst e2
    cases r5
    exact wpAny_truthy_bool ⟨H5,I5,q5⟩
def mM (K:PySem.W.Frag) (x:V) (H:Hp) (k:Bool):Prop:=
  match x with
  | .non=>k=false
  | .bl b=>k=b
  | .int i=>k=(i != 0)
  | .str y=>y.length≤sizeLine∧k=((y.length:Int) != 0)
  | .byt y=>y.size≤sizeLine∧k=((y.size:Int) != 0)
  | .ref p=>(∃xs,SqL K H p xs∧k= !xs.isEmpty)∨(∃xs,SqT K H p xs∧k= !xs.isEmpty)∨∃kvs,H p=some (.dK kvs)∧k= !kvs.isEmpty
  | _=>False
theorem kl {κ:Type} {kvs:List (κ×V)} {vs:List (κ×Value)} (r:KV kvs vs):(!vs.isEmpty)= !kvs.isEmpty:=by
  cases r <;> rfl
theorem gV {xs:List V} {its:List Value} (r:Vals xs its):(!its.toArray.isEmpty)= !xs.isEmpty:=by
  cases r <;> simp
theorem fw:(sizeLine:Nat) < 2 ^ 63:=by rw [sizeLine_eq];decide
theorem qw:uh X (fun x H Q=>∃k,mM X.K x H k∧Q k H):=by
  intro pins s σ H x v Q I rx h
  obtain ⟨k,e,q⟩:=h
  have hl:=fw
  have hs:sizeLine=16777216:=sizeLine_eq
  cases x with
  | non=>
    cases rx
    have e':k=false:=e
    subst e'
    exact truthy_none ⟨H,I,q⟩
  | bl b=>
    cases rx
    have e':k=b:=e
    subst e'
    exact wpAny_truthy_bool ⟨H,I,q⟩
  | int i=>
    obtain ⟨t,rfl⟩:=rx
    have e':k=(i != 0):=e
    subst e'
    exact PySem.P.truthy_int ⟨H,I,q⟩
  | str y=>
    obtain ⟨t,rfl⟩:=rx
    obtain ⟨hy,e'⟩:y.length≤sizeLine∧k=((y.length:Int) != 0):=e
    subst e'
    exact PySem.P.truthy_str (by omega) ⟨H,I.tok _,q⟩
  | byt y=>
    obtain ⟨t,rfl⟩:=rx
    obtain ⟨hy,e'⟩:y.size≤sizeLine∧k=((y.size:Int) != 0):=e
    subst e'
    exact PySem.W.truthy_bytes (by omega) ⟨H,I.tok _,q⟩
  | ref p=>
    cases rx
    have e':(∃xs,SqL X.K H p xs∧k= !xs.isEmpty)∨(∃xs,SqT X.K H p xs∧k= !xs.isEmpty)∨∃kvs,H p=some (.dK kvs)∧k= !kvs.isEmpty:=e
    rcases e' with ⟨xs,hx,e'⟩ | ⟨xs,hx,e'⟩ | ⟨kvs,hx,e'⟩
    · subst e'
      obtain ⟨its,r,pl,hz⟩:=I.list hx
      have hlen:=r.length
      exact wpAny_truthy_list pl.isList (by simp only [List.size_toArray];omega) ⟨H,I.tok _,by rw [gV r];exact q⟩
    · subst e'
      obtain ⟨its,r,pl,hz⟩:=I.tuple hx
      have hlen:=r.length
      exact truthy_tuple pl (by simp only [List.size_toArray];omega) ⟨H,I.tok _,by rw [gV r];exact q⟩
    · subst e'
      obtain ⟨hz,hS,vs,r,m⟩:kvs.length≤sizeLine∧(p == sysModules)=false∧∃vs,KV kvs vs∧s.heap.DictOf (gI X.prog X.w) p vs:=I.hok p _ hx
      have hlen:kvs.length=vs.length:=Paired.length r
      exact wpAny_truthy_dict hS m (by omega) ⟨H,I.tok _,by rw [kl r];exact q⟩
  | _=>exact (show False from e).elim
theorem mO (ha:PE X a ta) (he:∀whole,isTrue a X.env whole=(do let v ←whole;standAt a.pos;holding [v] (truthy v))):
    PT X a (fun σ H Q=>ta σ H fun x H'=>∃k,mM X.K x H' k∧Q k H'):=by
  intro pins s σ H Q I h
  exact isTrue_plain (b5 (ha pins s σ H _ I h) fun v s1 ⟨x,H1,I1,r1,q1⟩=>qw pins s1 σ H1 x v Q I1 r1 q1) (he _)
theorem km:OpR X (binaryOp .Add) (fun x y H Q=>∃i j,x= .str i∧y= .str j∧i.length+j.length≤sizeLine∧Q (.str (i++j)) H):=by
  intro pins s σ H x y v u Q I rx ry h
  obtain ⟨i,j,rfl,rfl,hz,q⟩:=h
  obtain ⟨t,rfl⟩:=rx
  obtain ⟨t',rfl⟩:=ry
  exact add_str (fun t' tk=>⟨.str (i++j),H,I.tok _,⟨_,rfl⟩,q⟩) hz
theorem kT {x:V} {us:List Value} (r:Vals [x] us):∃u,us=[u]∧RelV x u:=by
  cases r with
  | cons r1 r2=>cases r2;exact ⟨_,rfl,r1⟩
theorem mP:CallR X (.builtin "abs") (fun xs H Q=>∃i,xs=[.int i]∧Q (.int (if i < 0 then -i else i)) H):=by
  intro pins s σ H xs us Q I r h
  obtain ⟨i,rfl,q⟩:=h
  obtain ⟨u,rfl,t,rfl⟩:=kT r
  exact call_abs_int fun u tk=>⟨.int (if i < 0 then -i else i),H,I.tok _,⟨_,rfl⟩,q⟩
end
end L2
namespace L2
open PySem PySem.Spec PyProof.Rows
structure ObjM (h:Heap) (x dx C:Addr) (mA:Str→Option Value):Prop where
  obj:h.get? x=some (PySem.W.instObj C dx)
  ns:h.Ns1 dx mA
  ne:dx≠x
theorem lP {h:Heap} {dx:Addr} {mA:Str→Option Value} (n:h.Ns1 dx mA):∃od,h.get? dx=some od∧∀name,PySem.W.lookIn name od=some (mA name):=by
  obtain ⟨o,es,ep,ho,hd,hk,_,hm⟩:=n
  refine ⟨o,ho,fun name=>?_⟩
  have e:=hm name
  unfold nsFind findBy at e
  rw [←Array.find?_toList] at e
  unfold PySem.W.lookIn
  rw [hd]
  dsimp only
  split
  · rename_i y q
    rw [q] at e
    exact congrArg some e
  · rename_i q
    rw [q] at e
    have a:es.toList.any (·.refKey)=false:=by
      rw [List.any_eq_false]
      intro y hy
      obtain ⟨z,t,hkey⟩:=hk y (Array.mem_toList_iff.mp hy)
      simp [DictEntry.refKey,hkey]
    have a':¬es.toList.any (·.refKey)=true:=by rw [a];exact Bool.false_ne_true
    rw [if_neg a']
    exact congrArg some e
theorem ObjM.look {h:Heap} {x dx C:Addr} {mA:Str→Option Value} (I:ObjM h x dx C mA):∃od,PySem.W.InstAt h x (PySem.W.instObj C dx) C (some od)∧∀name,PySem.W.lookIn name od=some (mA name):=
  let ⟨od,ho,hl⟩:=lP I.ns
  ⟨od,⟨I.obj,rfl,rfl,ho⟩,hl⟩
section
variable {P:Program} {w:World} {H H':Hp} {h h':Heap} {a C dx:Addr} {fs fs':List (Str×V)}
theorem oP (hok:HOk P w H h) (e:H a=some (.ins C dx fs)):∃mA,ObjM h a dx C mA∧(∀f,RelO (fs.lookup f) (mA f))∧PySem.Within mA (fs.map (·.1))∧fs.length≤1000∧H dx=some (.own a):=by
  obtain ⟨d,z,ne,ob,mA,n,r,q⟩:=(show ObjOk P w H h a (.ins C dx fs) from hok a _ e)
  exact ⟨mA,⟨ob,n,ne⟩,r,q,z,d⟩
end
structure Cls (K:PySem.W.Frag) (C:Addr):Prop where
  pg:PySem.W.plainGet K C Str.empty=true
  hd:PySem.W.hasDictIn K C=true
  po:PySem.W.plainOver K C=true
  sa:PySem.W.findIn K (.ref C) "__setattr__"=some (some (.builtin "object.__setattr__"))
theorem Cls.get {K:PySem.W.Frag} {C:Addr} (c:Cls K C) (f:Str):PySem.W.plainGet K C f=true:=c.pg
section
variable {X:Cx} {pins:List (Addr×Obj)} {σ:St} {H:Hp} {s:Shared} {A:Around} {E:Value→Shared→Prop} {Q:Value→Shared→Prop} {c:Value} {b:Bool}
inductive TyOf (K:PySem.W.Frag) (H:Hp):V→Value→Prop where
  | non:TyOf K H .non (.type "NoneType")
  | bl (x:Bool):TyOf K H (.bl x) (.type "bool")
  | int (i:Int):TyOf K H (.int i) (.type "int")
  | str (x:Str):TyOf K H (.str x) (.type "str")
  | flt (x:UInt64):TyOf K H (.flt x) (.type "float")
  | lst {a:Addr} {xs:List V} (e:H a=some (.lst xs)):TyOf K H (.ref a) (.type "list")
  | frz {a:Addr} {o:Obj} {xs:List V} (e:H a=some (.frz o (.lst xs))):TyOf K H (.ref a) (.type "list")
  | tup {a:Addr} {xs:List V} (e:H a=some (.tup xs)):TyOf K H (.ref a) (.type "tuple")
  | dK {a:Addr} {kvs:List (cN×V)} (e:H a=some (.dK kvs)):TyOf K H (.ref a) (.type "dict")
  | dT {a:Addr} {kvs:List (List cN×V)} (e:H a=some (.dT kvs)):TyOf K H (.ref a) (.type "dict")
  | ins {a C dx:Addr} {fs:List (Str×V)} (e:H a=some (.ins C dx fs)) (cl:Cls K C) (ha:PySem.W.findIn K (.ref C) "__class__"=some (some (.builtin "object.__class__")))
      (hn:PySem.W.specialIn K (.builtin "object.__class__") "__get__"=some (some (.builtin "getset_descriptor.__get__"))) (htk:PySem.W.takesIn K (.builtin "object.__class__")=some true)
      (hm:PySem.W.mroIn K C (.type "object")=some true):TyOf K H (.ref a) (.ref C)
theorem e8 {x:V} {u t:Value} (I:Inv X pins σ H s) (rx:RelV x u) (ty:TyOf X.K H x t) (e:PySem.W.kitOne X.K t c=some b) (h:∀tk,Q (.bool b) {s with toks:=tk}):
    wpAny (model X.prog X.w) A (call (.builtin "isinstance") [u,c]) Q E s:=by
  cases ty with
  | non=>cases (show u=Value.none from rx);exact PySem.W.kia_one PySem.W.kitx_none I.kIn True.intro e (fun z=>nomatch z) h
  | bl y=>cases (show u=Value.bool y from rx);exact PySem.W.kia_one PySem.W.kitx_bool I.kIn True.intro e (fun z=>nomatch z) h
  | int i=>obtain ⟨t,q⟩:=(show ∃t,u=Value.int i t from rx);cases q;exact PySem.W.kia_one PySem.W.kitx_int I.kIn True.intro e (fun z=>nomatch z) h
  | str y=>obtain ⟨t,q⟩:=(show ∃t,u=Value.str y t from rx);cases q;exact PySem.W.kia_one PySem.W.kitx_str I.kIn True.intro e (fun z=>nomatch z) h
  | flt y=>obtain ⟨t,q⟩:=(show ∃t,u=Value.float y t from rx);cases q;exact PySem.W.kia_one PySem.W.kitx_float I.kIn True.intro e (fun z=>nomatch z) h
  | @lst a xs ea=>
    cases (show u=Value.ref a from rx)
    obtain ⟨_,_,n,_,h1⟩:=(show ObjOk X.prog X.w H s.heap a (.lst xs) from I.hok a _ ea)
    exact PySem.W.kia_one PySem.W.kitx_list I.kIn ⟨_,h1,rfl⟩ e (fun z=>nomatch z) h
  | @frz a ob xs ea=>
    cases (show u=Value.ref a from rx)
    obtain ⟨_,_,_,n,_,h1⟩:=(show ObjOk X.prog X.w H s.heap a (.frz ob (.lst xs)) from I.hok a _ ea)
    exact PySem.W.kia_one PySem.W.kitx_list I.kIn ⟨_,h1,rfl⟩ e (fun z=>nomatch z) h
  | @tup a xs ea=>
    cases (show u=Value.ref a from rx)
    obtain ⟨_,_,_,p⟩:=(show ObjOk X.prog X.w H s.heap a (.tup xs) from I.hok a _ ea)
    obtain ⟨o,h1,h2,_⟩:=p
    exact PySem.W.kia_one PySem.W.kitx_tuple I.kIn ⟨o,h1,h2⟩ e (fun z=>nomatch z) h
  | @dK a kvs ea=>
    cases (show u=Value.ref a from rx)
    obtain ⟨_,_,vs,_,p⟩:=(show ObjOk X.prog X.w H s.heap a (.dK kvs) from I.hok a _ ea)
    obtain ⟨o,es,ep,h1,h2,_⟩:=p
    exact PySem.W.kia_one PySem.W.kitx_dict I.kIn ⟨o,h1,h2.1⟩ e (fun z=>nomatch z) h
  | @dT a kvs ea=>
    cases (show u=Value.ref a from rx)
    obtain ⟨_,_,xs,_,o,es,ep,h1,h2,_⟩:=(show ObjOk X.prog X.w H s.heap a (.dT kvs) from I.hok a _ ea)
    exact PySem.W.kia_one PySem.W.kitx_dict I.kIn ⟨o,h1,h2.1⟩ e (fun z=>nomatch z) h
  | @ins a C dx fs ea cl ha hn htk hm=>
    cases (show u=Value.ref a from rx)
    obtain ⟨mA,O,_⟩:=oP I.hok ea
    obtain ⟨od,J,_⟩:=O.look
    exact PySem.W.kia_one (PySem.W.kitx_own (cl.get _) cl.hd ha hn htk hm) I.kIn J e (fun z=>nomatch z) h
end
end L2
namespace L2
open PySem PySem.Spec PyProof.Rows
structure Room (k:Nat) (A:Around):Prop where
  hd:A.handled=none
  dp:A.depth+3*k+5 < recursionLimit
  un:A.units+16*k+200 < cLine
theorem Room.mono {j k:Nat} {A:Around} (r:Room k A) (h:j≤k):Room j A:=⟨r.hd,by have:=r.dp;omega,by have:=r.un;omega⟩
theorem Room.deeper {k:Nat} {A:Around} (r:Room (k+1) A) (env:Env):Room k (A.deeper env):=
  ⟨r.hd,by have:=r.dp;show A.depth+1+3*k+5 < _;omega,by have:=r.un;show A.units+3+16*k+200 < _;omega⟩
theorem Room.depth {k:Nat} {A:Around} (r:Room k A):A.depth < recursionLimit:=by have:=r.dp;omega
theorem Room.units {k:Nat} {A:Around} (r:Room k A):A.units+64 < cLine:=by have:=r.un;omega
def uk:TA:=fun _ H Q=>Q [] H
def sH (ta:TE) (tr:TA):TA:=fun σ H Q=>ta σ H fun x H1=>tr σ H1 fun xs H2=>Q (x::xs) H2
section
variable {X:Cx} {e:Expr} {es:List Expr} {te:TE} {t:TA} {pos:Pos}
theorem d0:PA X [] uk:=fun _ _ _ _ H Q I h=>Calls.spliced_nil ⟨[],H,I, .nil,h⟩
theorem b6 (ha:PE X e te) (hr:PA X es t) (hs:starEach (e::es) X.env=(false,eval e X.env)::starEach es X.env:=by rfl):PA X (e::es) (sH te t):=by
  intro pos pins s σ H Q I h
  rw [hs]
  show wpAny _ _ (spliced ((false,eval e X.env)::backTo pos (starEach es X.env))) _ _ s
  refine Calls.spliced_cons (b5 (ha pins s σ H _ I h) fun u s1 ⟨x,H1,I1,r1,q1⟩=>?_)
  exact b5 (hr pos pins s1 σ H1 _ I1 q1) fun us s2 ⟨xs,H2,I2,r2,q2⟩=>⟨x::xs,H2,I2, .cons r1 r2,q2⟩
def ul (t:TA):TE:=fun σ H Q=>t σ H fun xs H1=>xs.length≤sizeLine∧∀p,H1 p=none→Q (.ref p) (upd H1 p (.tup xs))
def um (t:TA):TE:=fun σ H Q=>t σ H fun xs H1=>xs.length≤sizeLine∧∀p,H1 p=none→Q (.ref p) (upd H1 p (.lst xs))
theorem qx {x1} (h:PA X es t):PE X (.Tuple es x1 pos) (ul t):=by
  intro pins s σ H Q I hq
  refine wpAny_Tuple_spliced (b5 (h pos pins s σ H _ I hq) fun us s1 ⟨xs,H1,I1,r,z,q⟩=>⟨by rw [←r.length];exact z,?_⟩)
  have hf:H1 s1.heap.objs.size=none:=I1.hok.fresh (Nat.le_refl _)
  refine ⟨.ref s1.heap.objs.size,upd H1 s1.heap.objs.size (.tup xs),I1.laid (t':=s1.toks) (fun b u e=>Heap.get?_push_of_some _ e) (Nat.le_refl _) ?_,rfl,q _ hf⟩
  exact ⟨z,us,r,⟨_,Heap.get?_push_size _ rfl,rfl,_,rfl⟩⟩
theorem qy (h:PA X es t):PE X (.List es pos) (um t):=by
  intro pins s σ H Q I hq
  refine wpAny_List_spliced (b5 (h pos pins s σ H _ I hq) fun us s1 ⟨xs,H1,I1,r,z,q⟩=>⟨by rw [←r.length];exact z,?_⟩)
  have hf:H1 s1.heap.objs.size=none:=I1.hok.fresh (Nat.le_refl _)
  refine ⟨.ref s1.heap.objs.size,upd H1 s1.heap.objs.size (.lst xs),I1.laid (t':=s1.toks) (fun b u e=>Heap.get?_push_of_some _ e) (Nat.le_refl _) ?_,rfl,q _ hf⟩
  exact ⟨z,us,0,r,Heap.get?_push_size _ rfl⟩
end
abbrev Sp:=List V→Hp→VK→XK→Prop
abbrev lQ:=List Env→Hp→Shared→XK→Value→Shared→Prop
structure Env0 (P:Program) (w:World) (K:PySem.W.Frag) (mg:Str→Option Value) (base:Heap) (A:Around) (outer:List Env) (s:Shared) (H:Hp):Prop where
  frames:A.frames=some outer
  mod:Mod K mg base
  bs:∀b o,base.get? b=some o→s.heap.get? b=some o∧H b=none
  bsz:base.objs.size≤s.heap.objs.size
  funs:s.heap.FunFrames base outer
  frf:∀b∈gA outer,H b=none
  hok:HOk P w H s.heap
  bare:AllBare s.gens
  tab:∀b q,gP K b=some q→H b=some (.tbl q)
def CE (outer:List Env) (P:Program) (w:World) (H:Hp) (s:Shared) (Q:VK) (u:Value) (s':Shared):Prop:=
  ∃v H',s'.os=s.os∧AllBare s'.gens∧Un (gA outer) [] H H' s.heap s'.heap∧HOk P w H' s'.heap∧RelV v u∧Q v H'
def CR (CX:lQ) (outer:List Env) (P:Program) (w:World) (H:Hp) (s:Shared) (Q:VK) (E:XK) (r:Result) (s':Shared):Prop:=
  match r with
  | .ok (.ret u)=>CE outer P w H s Q u s'
  | .ok _=>False
  | .error e=>CX outer H s E e s'
structure FnOk (P:Program) (w:World) (K:PySem.W.Frag) (mg:Str→Option Value) (base:Heap) (CX:lQ) (k:Nat) (f:Addr) (fd:FuncData) (ps:List Str) (sp:Sp):Prop where
  len:∀vs H Q E,sp vs H Q E→vs.length=ps.length
  run:∀(A:Around) (outer:List Env) (s:Shared) (H:Hp) (args:Args) (us:List Value) (vs:List V) (Q:VK) (E:XK),Room k A→Env0 P w K mg base A outer s H→BindsTo s fd args (ps.zip us)→Vals vs us→sp vs H Q E→
    codeAny (model P w) A (.call (.ref f) args) (CR CX outer P w H s Q E) s
theorem FnOk.mono {P:Program} {w:World} {K:PySem.W.Frag} {mg:Str→Option Value} {base:Heap} {CX:lQ} {j k:Nat} {f:Addr} {fd:FuncData} {ps:List Str} {sp:Sp} (F:FnOk P w K mg base CX j f fd ps sp) (h:j≤k):
    FnOk P w K mg base CX k f fd ps sp:=⟨F.len,fun A outer s H args us vs Q E hr=>F.run A outer s H args us vs Q E (hr.mono h)⟩
theorem FnOk.imp {P:Program} {w:World} {K:PySem.W.Frag} {mg:Str→Option Value} {base:Heap} {CX:lQ} {k:Nat} {f:Addr} {fd:FuncData} {ps:List Str} {sp sp':Sp} (F:FnOk P w K mg base CX k f fd ps sp)
    (h:∀vs H Q E,sp' vs H Q E→sp vs H Q E):FnOk P w K mg base CX k f fd ps sp':=
  ⟨fun vs H Q E q=>F.len vs H Q E (h _ _ _ _ q),fun A outer s H args us vs Q E hr he hb hv hs=>F.run A outer s H args us vs Q E hr he hb hv (h _ _ _ _ hs)⟩
section
variable {X:Cx} {pins:List (Addr×Obj)} {σ:St} {H:Hp} {s s':Shared}
theorem Inv.env0 (I:Inv X pins σ H s):Env0 X.prog X.w X.K X.mg X.base X.A X.stack s H:=
  ⟨I.ok.frames,I.ok.mod,I.bs,Nat.le_trans I.ok.bsz I.sz,I.stack,I.stkFree,I.hok,I.bare,I.tab⟩
theorem Inv.after {Q:VK} {u:Value} (I:Inv X pins σ H s) (h:CE X.stack X.prog X.w H s Q u s'):EP X pins σ Q u s':=by
  obtain ⟨v,H',os,bare,un,hok,r,q⟩:=h
  obtain ⟨hh,g,d,t,os'⟩:=s'
  obtain rfl:os'=s.os:=os
  exact ⟨v,H',I.call (h':=hh) (g':=g) (d':=d) (t':=t) (ch:=[]) un hok bare (fun b z=>absurd z (by simp)),r,q⟩
end
def mQ (sp:Sp) (dvs:List V) (E:XK) (t:TA):TE:=fun σ H Q=>t σ H fun vs H1=>sp (vs++dvs) H1 Q E
def Binds (K:PySem.W.Frag) (fd:FuncData) (ps:List Str) (ds:List Value):Prop:=
  ∀(s:Shared) (us:List Value),K.In s.heap→(us++ds).length=ps.length→BindsTo s fd ⟨us,[]⟩ (ps.zip (us++ds))
theorem Binds.all {K:PySem.W.Frag} {fd:FuncData} {ps:List Str} (h:∀us:List Value,us.length=ps.length→bindArgs fd ⟨us,[]⟩=pure (ps.zip us)):Binds K fd ps []:=fun s us _ hl=>by
  rw [List.append_nil] at hl ⊢
  exact .of_eq (h us hl)
def ko (CX:lQ) (X:Cx) (E:XK):Prop:=∀(pins:List (Addr×Obj)) (σ:St) (H:Hp) (s:Shared) (e:Value) (s':Shared),Inv X pins σ H s→CX X.stack H s E e s'→X.xe e s'
section
variable {X:Cx} {CX:lQ} {k:Nat} {f C:Addr} {fd:FuncData} {ps:List Str} {sp:Sp} {dvs:List V} {ds:List Value} {E:XK} {x m:Str} {p pos apos:Pos} {e o:Expr} {es:List Expr} {ta:TE} {t:TA}
theorem qz {pins:List (Addr×Obj)} {σ:St} {H:Hp} {s:Shared} {Q:VK} {us:List Value} {vs:List V} (F:FnOk X.prog X.w X.K X.mg X.base CX k f fd ps sp) (hr:Room k X.A) (hb:Binds X.K fd ps ds) (hd:Vals dvs ds) (hx:ko CX X E)
    (I:Inv X pins σ H s) (r:Vals vs us) (h:sp (vs++dvs) H Q E):wpAny (model X.prog X.w) X.A (call (.ref f) us) (EP X pins σ Q) X.xe s:=by
  have r2:Vals (vs++dvs) (us++ds):=r.append hd
  have hl:(us++ds).length=ps.length:=by rw [←r2.length];exact F.len _ _ _ _ h
  refine wpAny_call (codeAny_mono (F.run X.A X.stack s H ⟨us,[]⟩ (us++ds) (vs++dvs) Q E hr I.env0 (hb s us I.kIn hl) r2 h) fun r s' hq=>?_)
  cases r with
  | error e=>exact hx pins σ H s e s' I hq
  | ok fl=>
    cases fl with
    | ret u=>exact I.after hq
    | next=>exact False.elim hq
    | brk=>exact False.elim hq
    | cont=>exact False.elim hq
theorem oQ (F:FnOk X.prog X.w X.K X.mg X.base CX k f fd ps sp) (hr:Room k X.A) (hg:Gl X x) (hm:X.mg x=some (.ref f)) (hk:PySem.W.keepIn X.K (.ref f)=true) (hb:Binds X.K fd ps ds) (hd:Vals dvs ds) (hx:ko CX X E)
    (ha:PA X (e::es) t) (hdb:(x == ("__debug__":Str))=false:=by decide) (he:starEach (e::es) X.env=(false,eval e X.env)::starEach es X.env:=by rfl) (hpl:(backTo pos (starEach es X.env)).any (·.1)=false:=by rfl):
    PE X (.Call (.Name x p) (e::es) [] pos) (mQ sp dvs E t):=by
  intro pins s σ H Q I h
  refine wpAny_Call_Name_kw (eZ I hg hm ?_ hdb)
  refine PySem.W.callWith_K (h₀:=X.base) I.ok.mod.kin hk (b5 (ha pos pins s σ H _ I h) fun us s1 ⟨vs,H1,I1,r,q⟩=>⟨I1.kIn,?_⟩) he hpl
  exact qz F hr hb hd hx I1 r q
end
structure FnScope (N P:List Str) (sc:Scope):Prop where
  kind:sc.kind= .function
  co:sc.isCoroutine=false
  gen:sc.isGenerator=false
  nd:N.Nodup
  pre:N.take P.length=P
  par:∀x∈P,sc.names.lookup x=some .local∨sc.names.lookup x=some .cell
  nofree:∀y∈sc.names,y.2≠ .free
theorem iD {kindOf:Str→Option NameKind} {x:Str}:∀{binds:List (Str×Value)} {m:Str→Option Value},(∀v,(x,v)∉binds)→bindL kindOf binds m x=m x
  | [],_,_=>rfl
  | (n,v)::r,m,h=>by
    unfold bindL
    rw [iD fun w hw=>h w (List.mem_cons_of_mem _ hw)]
    split
    · have:x≠n:=by rintro rfl;exact h v List.mem_cons_self
      simp [this]
    · rfl
theorem iE {kindOf:Str→Option NameKind} {x:Str}:∀{binds:List (Str×Value)} {m:Str→Option Value},(∀v,(x,v)∉binds)→bindC kindOf binds m x=m x
  | [],_,_=>rfl
  | (n,v)::r,m,h=>by
    unfold bindC
    rw [iE fun w hw=>h w (List.mem_cons_of_mem _ hw)]
    split
    · rfl
    · have:x≠n:=by rintro rfl;exact h v List.mem_cons_self
      simp [this]
theorem iF {kindOf:Str→Option NameKind} {x:Str} {v:Value}:∀{P:List Str} {vs:List Value} {i:Nat} {m:Str→Option Value},P.Nodup→P[i]? =some x→vs[i]? =some v→kindOf x=some .local→
    bindL kindOf (P.zip vs) m x=some v
  | [],_,_,_,_,h,_,_=>by simp at h
  | _::_,[],_,_,_,_,h,_=>by simp at h
  | p::P,w::vs,0,m,nd,h1,h2,hk=>by
    simp at h1 h2;subst h1;subst h2
    show bindL kindOf ((p,w)::P.zip vs) m p=_
    unfold bindL
    rw [iD fun v hv=>(List.nodup_cons.mp nd).1 (List.of_mem_zip hv).1,if_pos hk]
    simp
  | p::P,w::vs,i+1,m,nd,h1,h2,hk=>by
    show bindL kindOf ((p,w)::P.zip vs) m x=_
    unfold bindL
    exact iF (i:=i) (List.nodup_cons.mp nd).2 (by simpa using h1) (by simpa using h2) hk
theorem iG {kindOf:Str→Option NameKind} {x:Str} {v:Value}:∀{P:List Str} {vs:List Value} {i:Nat} {m:Str→Option Value},P.Nodup→P[i]? =some x→vs[i]? =some v→kindOf x≠some .local→
    bindC kindOf (P.zip vs) m x=some v
  | [],_,_,_,_,h,_,_=>by simp at h
  | _::_,[],_,_,_,_,h,_=>by simp at h
  | p::P,w::vs,0,m,nd,h1,h2,hk=>by
    simp at h1 h2;subst h1;subst h2
    show bindC kindOf ((p,w)::P.zip vs) m p=_
    unfold bindC
    rw [iE fun v hv=>(List.nodup_cons.mp nd).1 (List.of_mem_zip hv).1,if_neg hk]
    simp
  | p::P,w::vs,i+1,m,nd,h1,h2,hk=>by
    show bindC kindOf ((p,w)::P.zip vs) m x=_
    unfold bindC
    exact iG (i:=i) (List.nodup_cons.mp nd).2 (by simpa using h1) (by simpa using h2) hk
def de (N:List Str) (vs:List V):St:=vs.map some++List.replicate (N.length - vs.length) none
def eK (CX:lQ) (P:Program) (w:World) (K:PySem.W.Frag) (mg:Str→Option Value) (base:Heap) (N:List Str) (qual:Str) (scope:Scope) (f:Addr) (cd:Value) (A:Around) (outer:List Env) (s:Shared) (H:Hp) (E:XK):Cx where
  prog:=P
  w:=w
  K:=K
  mg:=mg
  base:=base
  A:=A.deeper (envOfC qual scope s.heap.objs.size f cd)
  N:=N
  s₀:=s
  H₀:=H
  env:=envOfC qual scope s.heap.objs.size f cd
  outer:=outer
  stack:=envOfC qual scope s.heap.objs.size f cd::outer
  ex:=[]
  calm:=true
  fn:=fun _=>true
  pn:=[]
  xe:=fun e s'=>wpAny (model P w) (A.deeper (envOfC qual scope s.heap.objs.size f cd)) (leaving (envOfC qual scope s.heap.objs.size f cd) e) (fun _ s''=>CX outer H s E e s'') (fun e' s''=>CX outer H s E e' s'') s'
theorem jA {sc:Scope} {n:Nat} {x:Str} (h:sc.names.lookup x=some .cell):∃c,(cellsFrom n sc.names []).lookup x=some c:=by
  have q:=PySem.W.cellsFrom_some sc.names n [] (.inl h)
  exact Option.isSome_iff_exists.mp q
theorem iH {CX:lQ} {P:Program} {w:World} {K:PySem.W.Frag} {mg:Str→Option Value} {base:Heap} {N ps:List Str} {qual:Str} {scope:Scope} {f:Addr} {cd:Value} {A:Around} {outer:List Env} {s s1:Shared} {H:Hp} {E:XK} {us:List Value} {vs:List V}
    (S:FnScope N ps scope) (hd:A.handled=none) (e0:Env0 P w K mg base A outer s H) (hl:vs.length=ps.length) (r:Vals vs us)
    (x:InCallC s s.heap.objs.size (bindL (envOfC qual scope s.heap.objs.size f cd).kindOf (ps.zip us) fun _=>none) (cellsFrom (s.heap.objs.size+1) scope.names []) (bindC (envOfC qual scope s.heap.objs.size f cd).kindOf (ps.zip us) fun _=>none) s1):
    Inv (eK CX P w K mg base N qual scope f cd A outer s H E) [] (de N vs) H s1:=by
  have hpl:ps.length≤N.length:=by have:=congrArg List.length S.pre;rw [List.length_take] at this;omega
  obtain ⟨h1,tk,rfl,hk⟩:=x.done
  have noA:∀b:Addr,b∉(eK CX P w K mg base N qual scope f cd A outer s H E).ex:=fun b z=>absurd (show b∈([]:List Addr) from z) (by simp)
  refine ⟨⟨e0.mod,S.kind,rfl,rfl,Nat.le_refl _,fun y z c h1 h2=>?_,fun y hy=>?_,fun y c _ h=>?_,fun _=>hd,Around.frames_deeper e0.frames, .inr ⟨rfl,rfl⟩,fun b z=>absurd z (noA b),e0.bs,e0.bsz,fun b _ _=>noA b,fun b z=>absurd z (noA b),e0.funs,e0.frf,e0.tab⟩,
    rfl,e0.bare,Un.kept hk,⟨_,x.toInCall.ns,fun i y v h1 h2 h3=>?_⟩,fun y c h=>⟨_,x.cell y c h⟩,e0.hok.fresh (Nat.le_refl _),fun y c h=>?_,fun p hp=>absurd (show p∈([]:List (Addr×Obj)) from hp) (by simp),e0.hok.kept hk,?_⟩
  · exact name_of_addr x.apart (PySem.mem_of_lookup h1) (PySem.mem_of_lookup h2)
  · have hy:scope.names.lookup y=some .cell∨scope.names.lookup y=some .free:=hy
    rcases hy with hy | hy
    · exact jA hy
    · exact absurd rfl (S.nofree _ (PySem.mem_of_lookup hy))
  · exact Nat.le_of_lt (x.above y c (PySem.mem_of_lookup h))
  · have hi:i < vs.length:=by
      unfold de at h2
      by_cases hi:i < vs.length
      · exact hi
      · rw [List.getElem?_append_right (by simpa using hi)] at h2
        rw [List.getElem?_replicate] at h2
        split at h2 <;> cases h2
    have ha:vs[i]? =some v:=by
      unfold de at h2
      rw [List.getElem?_append_left (by simpa using hi),List.getElem?_map] at h2
      cases e:vs[i]? with
      | none=>rw [e] at h2;cases h2
      | some a=>rw [e] at h2;cases h2;rfl
    obtain ⟨u,hu,rv⟩:=r.get ha
    have hp:ps[i]? =some y:=by
      rw [←S.pre,List.getElem?_take_of_lt (by omega)];exact h1
    have ndP:ps.Nodup:=by rw [←S.pre];exact S.nd.sublist (List.take_sublist _ _)
    refine ⟨u,rv,?_⟩
    rcases S.par y (List.mem_of_getElem? hp) with k | k
    · exact .inl ⟨k,iF ndP hp hu k⟩
    · obtain ⟨c,e⟩:=jA (n:=s.heap.objs.size+1) k
      refine .inr ⟨.inl k,c,e,?_⟩
      have q:=x.cell y c e
      rw [iG ndP hp hu (by show scope.names.lookup y≠_;rw [k];decide)] at q
      exact q
  · exact e0.hok.fresh (Nat.le_of_lt (x.above y c (PySem.mem_of_lookup h)))
  · unfold de
    show _=N.length
    rw [List.length_append,List.length_map,List.length_replicate]
    omega
theorem pR {CX:lQ} {P:Program} {w:World} {K:PySem.W.Frag} {mg:Str→Option Value} {base:Heap} {k:Nat} {f:Addr} {name qual:Str} {params:Arguments} {body:List Stmt} {scope:Scope} {dV kV doc pm cdv ct oc:Value} {an od:Option Addr}
    {osl:Array (Option Value)} {N ps:List Str} {sp:Sp} (lk:K.lookup f=some ⟨oc,od, .func (PySem.W.fnOf name qual params body scope dV kV doc pm an cdv ct),osl⟩) (hcd:PySem.W.codeIn K cdv qual=true) (S:FnScope N ps scope)
    (len:∀vs H Q E,sp vs H Q E→vs.length=ps.length)
    (hbody:∀(A:Around) (outer:List Env) (s:Shared) (H:Hp) (vs:List V) (Q:VK) (E:XK),Room k (A.deeper (envOfC qual scope s.heap.objs.size f cdv))→sp vs H Q E→
      ∃t,PSs (eK CX P w K mg base N qual scope f cdv A outer s H E) body t∧t {nx:=fun _ H'=>Q .non H',rt:=Q} (de N vs) H):
    FnOk P w K mg base CX (k+1) f (PySem.W.fnOf name qual params body scope dV kV doc pm an cdv ct) ps sp:=by
  refine ⟨len,fun A outer s H args us vs Q E hr e0 hb r hsp=>?_⟩
  have hl:=len _ _ _ _ hsp
  have KX:K.In s.heap:=e0.mod.kin.keeps fun b o e=>(e0.bs b o e).1
  have lim:s.heap.NoLimit:=e0.mod.nolimit.keeps fun b o e=>(e0.bs b o e).1
  have hkind:∀y∈ps.zip us,scope.names.lookup y.1=some .local∨(scope.names.lookup y.1=some .cell∧((cellsFrom (s.heap.objs.size+1) scope.names []).lookup y.1).isSome=true):=fun ⟨n,v⟩ hy=>by
    rcases S.par n (List.of_mem_zip hy).1 with q | q
    · exact .inl q
    · exact .inr ⟨q,PySem.W.cellsFrom_some _ _ _ (.inl q)⟩
  refine codeAny_call_function hr.depth (KX _ _ lk) rfl S.co S.gen rfl (PySem.W.codeRec_of KX hcd) (hb _ _ _ _ ?_)
  refine wpAny_newFunctionEnv_cells S.kind hkind fun env he s1 x=>?_
  subst he
  refine ⟨lim.keeps x.toInCall.keep,codeAny_func ?_⟩
  obtain ⟨t,ht,hq⟩:=hbody A outer s H vs Q E (hr.deeper _) hsp
  have I:Inv (eK CX P w K mg base N qual scope f cdv A outer s H E) [] (de N vs) H s1:=iH S hr.hd e0 hl r x
  refine wpAny_mono (ht [] s1 (de N vs) H _ I hq) (fun fl s' hs=>?_) fun e s' hs=>hs
  have fin:∀{σ':St} {H':Hp} {v:V} {u:Value},Inv (eK CX P w K mg base N qual scope f cdv A outer s H E) [] σ' H' s'→RelV v u→Q v H'→CE outer P w H s Q u s':=
    fun {σ' H' v u} J rv q=>⟨v,H',J.os,J.bare,J.base,J.hok,rv,q⟩
  cases fl with
  | ret u=>
    obtain ⟨v,σ',H',J,rv,q⟩:=hs
    exact fin J rv q
  | next=>
    obtain ⟨σ',H',J,q⟩:=hs
    exact fin (v:=V.non) (u:=Value.none) J rfl q
  | brk=>
    obtain ⟨_,_,_,q⟩:=hs
    exact False.elim q
  | cont=>
    obtain ⟨_,_,_,q⟩:=hs
    exact False.elim q
end L2
namespace L2
open PySem PySem.Spec PyProof.Rows
section
variable {X:Cx} {x:Str} {p pos:Pos} {e:Expr} {es:List Expr} {t:TA} {id T:String} {r:List V→Hp→VK→Prop}
def uo (r:List V→Hp→VK→Prop) (t:TA):TE:=fun σ H Q=>t σ H fun vs H1=>r vs H1 Q
theorem gW (hc:CallR X (.builtin id) r) (hg:Gl X x) (hm:X.mg x=none) (hv:bootBuiltins x=some (.builtin id)) (ha:PA X (e::es) t) (hn:x≠"__name__":=by decide) (hdb:(x == ("__debug__":Str))=false:=by decide)
    (he:starEach (e::es) X.env=(false,eval e X.env)::starEach es X.env:=by rfl) (hpl:(backTo pos (starEach es X.env)).any (·.1)=false:=by rfl):PE X (.Call (.Name x p) (e::es) [] pos) (uo r t):=by
  intro pins s σ H Q I h
  refine wpAny_Call_Name_kw (gi I hg hm hv ?_ hn hdb)
  exact PyProof.Rows.callWith_builtin1 (b5 (ha pos pins s σ H _ I h) fun us s1 ⟨vs,H1,I1,r1,q1⟩=>hc pins s1 σ H1 vs us Q I1 r1 q1) he hpl
theorem lR (hc:CallR X (.type T) r) (hg:Gl X x) (hm:X.mg x=none) (hv:bootBuiltins x=some (.type T)) (ha:PA X (e::es) t) (hn:x≠"__name__":=by decide) (hdb:(x == ("__debug__":Str))=false:=by decide)
    (he:starEach (e::es) X.env=(false,eval e X.env)::starEach es X.env:=by rfl) (hpl:(backTo pos (starEach es X.env)).any (·.1)=false:=by rfl):PE X (.Call (.Name x p) (e::es) [] pos) (uo r t):=by
  intro pins s σ H Q I h
  refine wpAny_Call_Name_kw (gi I hg hm hv ?_ hn hdb)
  exact PyProof.Rows.callWith_type1 (b5 (ha pos pins s σ H _ I h) fun us s1 ⟨vs,H1,I1,r1,q1⟩=>hc pins s1 σ H1 vs us Q I1 r1 q1) he hpl
end
end L2
namespace HT
open PySem PyProof.Rows
section
open PySem.SeqAt
open PySem.AutoSeq1 (wpAny_loadPart')
open PySem.MeetsSeq PySem.MeetsSeq2 PySem.MeetsSeq3
end
section
variable {prog:Program} {w:World} {A:Around} {E:Value→Shared→Prop} {s:Shared}
def jx (n d:Nat):Option Int→Nat
  | none=>d
  | some v=>if v < 0 then (v+(n:Int)).toNat else min v.toNat n
end
end HT
namespace L2
open PySem PySem.Spec PyProof.Rows
abbrev TO:=St→Hp→(Option Int→Hp→Prop)→Prop
def PO (X:Cx) (e:Option Expr) (t:TO):Prop:=
  ∀(pins:List (Addr×Obj)) (s:Shared) (σ:St) (H:Hp) (Q:Option Int→Hp→Prop),Inv X pins σ H s→t σ H Q→
    wpAny (model X.prog X.w) X.A (evalPart e X.env) (fun u s'=>∃o H',Inv X pins σ H' s'∧IsPart u o∧Q o H') X.xe s
def sI (t:TE):TO:=fun σ H Q=>t σ H fun x H1=>∃i,x= .int i∧Q (some i) H1
section
variable {X:Cx} {e:Expr} {te:TE} {lo hi:Option Expr} {tl th:TO} {pos p2:Pos}
theorem oR (h:PE X e te):PO X (some e) (sI te):=by
  intro pins s σ H Q I hw
  rw [evalPart_some]
  refine b5 (h pins s σ H _ I hw) fun u s1 ⟨x,H1,I1,r1,q1⟩=>?_
  obtain ⟨i,rfl,q⟩:=q1
  obtain ⟨t,rfl⟩:=r1
  exact ⟨some i,H1,I1, .int i t,q⟩
def SlR (X:Cx) (r:V→Option Int→Option Int→Hp→VK→Prop):Prop:=
  ∀(pins:List (Addr×Obj)) (s:Shared) (σ:St) (H:Hp) (x:V) (v vl vu:Value) (lo hi:Option Int) (sl:Addr) (Q:VK),Inv X pins σ H s→RelV x v→s.heap.IsSliceOf sl vl vu .none→IsPart vl lo→IsPart vu hi→r x lo hi H Q→
    ∃T id,typeLookup (.type T) "__getitem__"=pure (some (.builtin id))∧s.TypeIs v T∧wpAny (model X.prog X.w) X.A (getItem v (.ref sl)) (EP X pins σ Q) X.xe s
theorem SlR.or {r r':V→Option Int→Option Int→Hp→VK→Prop} (h:SlR X r) (h':SlR X r'):SlR X (fun x lo hi H Q=>r x lo hi H Q∨r' x lo hi H Q):=by
  intro pins s σ H x v vl vu lo hi sl Q I rx hs pl pu q
  rcases q with q | q
  · exact h pins s σ H x v vl vu lo hi sl Q I rx hs pl pu q
  · exact h' pins s σ H x v vl vu lo hi sl Q I rx hs pl pu q
def vd (r:V→Option Int→Option Int→Hp→VK→Prop) (te:TE) (tl th:TO):TE:=fun σ H Q=>te σ H fun x H1=>tl σ H1 fun l H2=>th σ H2 fun u H3=>r x l u H3 Q
theorem mR {r:V→Option Int→Option Int→Hp→VK→Prop} (hr:SlR X r) (he:PE X e te) (hl:PO X lo tl) (hu:PO X hi th):PE X (.Subscript e (.Slice lo hi none p2) pos) (vd r te tl th):=by
  intro pins s σ H Q I h
  refine Subscript_ (b5 (he pins s σ H _ I h) fun v s1 ⟨x,H1,I1,r1,q1⟩=>?_)
  refine wpAny_Slice (b5 (hl pins s1 σ H1 _ I1 q1) fun vl s2 ⟨l,H2,I2,pl,q2⟩=>b5 (hu pins s2 σ H2 _ I2 q2) fun vu s3 ⟨u,H3,I3,pu,q3⟩=>?_)
  rw [evalPart_none]
  refine wpAny_pure ?_
  have I4:Inv X pins σ H3 {s3 with heap:=s3.heap.push {cls:= .type "slice",data:= .fields #[vl,vu, .none]}}:=I3.kept (t':=s3.toks) fun b ob q=>Heap.get?_push_of_some _ q
  obtain ⟨T,id,hT,ht,hg⟩:=hr pins {s3 with heap:=s3.heap.push {cls:= .type "slice",data:= .fields #[vl,vu, .none]}} σ H3 x v vl vu l u s3.heap.objs.size Q I4 r1 (Heap.IsSliceOf.new ..) pl pu q3
  show wpAny (model X.prog X.w) X.A (subscriptTail e (.Slice lo hi none p2) v (.ref s3.heap.objs.size)) (EP X pins σ Q) X.xe {s3 with heap:=s3.heap.push {cls:= .type "slice",data:= .fields #[vl,vu, .none]}}
  exact tail_any (ops:=[.ref s3.heap.objs.size,v]) ht hT hg (by with_unfolding_all rfl)
def lS (xs:List V) (lo hi:Option Int):List V:=(xs.drop (HT.jx xs.length 0 lo)).take (HT.jx xs.length xs.length hi - HT.jx xs.length 0 lo)
theorem jB (xs:List V) (lo hi:Option Int):(lS xs lo hi).length≤xs.length:=by
  unfold lS
  rw [List.length_take,List.length_drop]
  omega
end
end L2
namespace L2
open PySem PySem.Spec PyProof.Rows
def qA (n:Nat) (i:Int):Option Nat:=if 0≤i then (if i < n then some i.toNat else none) else if -(n:Int)≤i then some (i+n).toNat else none
def atI {α:Type} (xs:List α) (i:Int):Option α:=(qA xs.length i).bind fun j=>xs[j]?
theorem kU {n:Nat} {i:Int} {j:Nat} (h:qA n i=some j):seqIndex? i n=some j∧j < n∧ -(n:Int)≤i∧i < n:=by
  unfold qA at h
  by_cases h0:0≤i
  · rw [if_pos h0] at h
    by_cases h1:i < n
    · rw [if_pos h1] at h
      have e:i.toNat=j:=Option.some.inj h
      exact ⟨by rw [seqIndex_of h0 h1,e],by omega,by omega,h1⟩
    · rw [if_neg h1] at h;cases h
  · rw [if_neg h0] at h
    by_cases h1: -(n:Int)≤i
    · rw [if_pos h1] at h
      have e:(i+n).toNat=j:=Option.some.inj h
      exact ⟨by rw [seqIndex_neg (by omega) h1,e],by omega,h1,by omega⟩
    · rw [if_neg h1] at h;cases h
theorem iZ {α:Type} {xs:List α} {i:Int} {v:α} (h:atI xs i=some v):∃j,seqIndex? i xs.length=some j∧xs[j]? =some v∧j < xs.length∧ -(xs.length:Int)≤i∧i < xs.length:=by
  unfold atI at h
  cases e:qA xs.length i with
  | none=>rw [e] at h;cases h
  | some j=>
    rw [e] at h
    obtain ⟨h1,h2,h3,h4⟩:=kU e
    exact ⟨j,h1,h,h2,h3,h4⟩
def kW (b:Expr):Prop:=∀o i,subscripted b false o i=operate [o,i] (getItem o i)
def IxR (X:Cx) (r:R2):Prop:=
  ∀(value slice:Expr) (pins:List (Addr×Obj)) (s:Shared) (σ:St) (H:Hp) (x y:V) (v u:Value) (Q:VK),Inv X pins σ H s→RelV x v→RelV y u→r x y H Q→
    subscripted slice false v u=operate [v,u] (getItem v u)→wpAny (model X.prog X.w) X.A (subscriptTail value slice v u) (EP X pins σ Q) X.xe s
def MtR (X:Cx) (id:String) (r:V→List V→Hp→VK→Prop):Prop:=
  ∀(pins:List (Addr×Obj)) (s:Shared) (σ:St) (H:Hp) (x:V) (xs:List V) (v:Value) (us:List Value) (Q:VK),Inv X pins σ H s→RelV x v→Vals xs us→r x xs H Q→
    wpAny (model X.prog X.w) X.A (call (.builtin id) (v::us)) (EP X pins σ Q) X.xe s
section
variable {X:Cx} {a b:Expr} {ta tb:TE} {pos:Pos}
theorem IxR.or {r r':R2} (h:IxR X r) (h':IxR X r'):IxR X (fun x y H Q=>r x y H Q∨r' x y H Q):=by
  intro value slice pins s σ H x y v u Q I rx ry q hs
  rcases q with q | q
  · exact h value slice pins s σ H x y v u Q I rx ry q hs
  · exact h' value slice pins s σ H x y v u Q I rx ry q hs
theorem MtR.or {id:String} {r r':V→List V→Hp→VK→Prop} (h:MtR X id r) (h':MtR X id r'):MtR X id (fun x xs H Q=>r x xs H Q∨r' x xs H Q):=by
  intro pins s σ H x xs v us Q I rx rs q
  rcases q with q | q
  · exact h pins s σ H x xs v us Q I rx rs q
  · exact h' pins s σ H x xs v us Q I rx rs q
theorem mS {r:R2} (hr:IxR X r) (ha:PE X a ta) (hb:PE X b tb) (hs:kW b):PE X (.Subscript a b pos) (sq r ta tb):=by
  intro pins s σ H Q I h
  exact Subscript_ (qm ha hb I h fun v u s2 x y H2 I2 rx ry q=>hr a b pins s2 σ H2 x y v u Q I2 rx ry q (hs _ _))
def sJ (K:PySem.W.Frag):R2:=fun x y H Q=>∃p xs i v,x= .ref p∧y= .int i∧SqL K H p xs∧atI xs i=some v∧Q v H
def sK (K:PySem.W.Frag):R2:=fun x y H Q=>∃p xs i v,x= .ref p∧y= .int i∧SqT K H p xs∧atI xs i=some v∧Q v H
def sL:R2:=fun x y H Q=>∃z i c,x= .str z∧y= .int i∧z.length≤sizeLine∧atI z.cps.toList i=some c∧Q (.str ⟨#[c]⟩) H
theorem ix_list:IxR X (sJ X.K):=by
  intro value slice pins s σ H x y v u Q I rx ry h hs
  obtain ⟨p,xs,i,z,rfl,rfl,hq,he,q⟩:=h
  cases rx
  obtain ⟨t,rfl⟩:=ry
  obtain ⟨its,r,pl,hz⟩:=I.list hq
  obtain ⟨j,h1,h2,h3,h4,h5⟩:=iZ he
  obtain ⟨w,ew,rw'⟩:=r.get h2
  have hl:=r.length
  have hn:=fw
  have fin:EP X pins σ Q w s:=⟨z,H,I,rw',q⟩
  by_cases h0:0≤i
  · have hj:i.toNat=j:=by
      rw [seqIndex_of h0 h5] at h1
      exact Option.some.inj h1
    exact item_listR pl.isList h0 (by omega) (by rw [hj];simpa using ew) fin hs
  · have hj:(i+(its.toArray.size:Int)).toNat=j:=by
      rw [seqIndex_neg (by omega) h4] at h1
      rw [List.size_toArray,←hl]
      exact Option.some.inj h1
    exact subscriptTail_builtinR (x:=w) pl.isList.typeIs slot_list_getitem.lookup
      (wpAny_getItem_list_neg (Q:=fun r s'=>r=w∧EP X pins σ Q r s') pl.isList (by omega) (by rw [List.size_toArray] <;> omega) (by omega) (by rw [hj];simpa using ew) ⟨rfl,fin⟩) hs
theorem ix_tup:IxR X (sK X.K):=by
  intro value slice pins s σ H x y v u Q I rx ry h hs
  obtain ⟨p,xs,i,z,rfl,rfl,hq,he,q⟩:=h
  cases rx
  obtain ⟨t,rfl⟩:=ry
  obtain ⟨its,r,pl,hz⟩:=I.tuple hq
  obtain ⟨j,h1,h2,h3,h4,h5⟩:=iZ he
  obtain ⟨w,ew,rw'⟩:=r.get h2
  have hl:=r.length
  have hn:=fw
  have fin:EP X pins σ Q w s:=⟨z,H,I,rw',q⟩
  exact subscriptTail_builtinR (x:=w) pl.typeIs slot_tuple_getitem.lookup
    (getItem_tuple (j:=j) (Q:=fun r s'=>r=w∧EP X pins σ Q r s') pl (by omega) (by omega) (by rw [List.size_toArray,←hl];exact h1) (by simpa using ew) ⟨rfl,fin⟩) hs
theorem qB:IxR X sL:=by
  intro value slice pins s σ H x y v u Q I rx ry h hs
  obtain ⟨z,i,c,rfl,rfl,hz,he,q⟩:=h
  obtain ⟨t,rfl⟩:=rx
  obtain ⟨t',rfl⟩:=ry
  obtain ⟨j,h1,h2,h3,h4,h5⟩:=iZ he
  have hl:z.cps.toList.length=z.length:=by simp [Str.length]
  rw [hl] at h1 h4 h5
  have hn:=fw
  exact tail_any (typeIs_str s z t) slot_str_getitem.lookup (getItem_str (c:=c) (by
    have e1:decide (i < -(2 ^ 63:Int))=false:=decide_eq_false (by omega)
    have e2:decide (i≥2 ^ 63)=false:=decide_eq_false (by omega)
    rw [e1,e2,Bool.or_false]) (by rw [h1];simpa using h2) ⟨.str ⟨#[c]⟩,H,I.tok _,⟨_,rfl⟩,q⟩) hs
def u0 (K:PySem.W.Frag):R2:=fun x y H Q=>sJ K x y H Q∨sK K x y H Q∨sL x y H Q
theorem qC:IxR X (u0 X.K):=ix_list.or (ix_tup.or qB)
theorem kq (its:List Value) (n j:Nat) (u:Value):Obj.mapSeq (·.setIfInBounds j u) {cls:= .type "list",data:= .seq its.toArray n}={cls:= .type "list",data:= .seq (its.set j u).toArray n}:=by
  simp [Obj.mapSeq]
theorem Inv.lst {pins:List (Addr×Obj)} {σ:St} {H:Hp} {s:Shared} {p:Addr} {xs:List V} (I:Inv X pins σ H s) (h:H p=some (.lst xs)):
    ∃(its:List Value) (n:Nat),Vals xs its∧s.heap.get? p=some {cls:= .type "list",data:= .seq its.toArray n}∧xs.length≤sizeLine:=by
  obtain ⟨z,its,n,r,e⟩:=I.hok p _ h
  exact ⟨its,n,r,e,z⟩
theorem Inv.lstUpd {pins:List (Addr×Obj)} {σ:St} {H:Hp} {s:Shared} {p:Addr} {xs ys:List V} {its its':List Value} {n n':Nat} {f:Obj→Obj} (I:Inv X pins σ H s) (h:H p=some (.lst xs))
    (ho:s.heap.get? p=some {cls:= .type "list",data:= .seq its.toArray n}) (hf:f {cls:= .type "list",data:= .seq its.toArray n}={cls:= .type "list",data:= .seq its'.toArray n'}) (r:Vals ys its') (hz:ys.length≤sizeLine) (t:Nat):
    Inv X pins σ (upd H p (.lst ys)) {s with heap:=s.heap.update p f,toks:=t}:=by
  have e:(s.heap.update p f).get? p=some {cls:= .type "list",data:= .seq its'.toArray n'}:=by
    rw [Heap.get?_update_self f ho (by rw [hf] <;> rfl),hf]
  refine I.write (x:=p) (e:=p) (by rw [h];trivial) (.inl rfl) (fun b u hb q=>(Heap.get?_update_other _ _ (Ne.symm hb)).trans q) ⟨_,e⟩ ?_
  exact ⟨hz,its',n',r,e⟩
def sM:V→V→V→Hp→(Hp→Prop)→Prop:=fun o i v H Q=>∃p xs k j,o= .ref p∧i= .int k∧H p=some (.lst xs)∧qA xs.length k=some j∧Q (upd H p (.lst (xs.set j v)))
theorem mT:sg X sM:=by
  intro pins s σ H o i v ov iv u Q I ro ri rv h
  obtain ⟨p,xs,k,j,rfl,rfl,hp,hj,q⟩:=h
  cases ro
  obtain ⟨t,rfl⟩:=ri
  obtain ⟨its,n,r,ho,hz⟩:=I.lst hp
  obtain ⟨h1,h2,h3,h4⟩:=kU hj
  have hl:=r.length
  have hn:=fw
  have I':Inv X pins σ (upd H p (.lst (xs.set j v))) {s with heap:=s.heap.update p (Obj.mapSeq (·.setIfInBounds j u))}:=
    I.lstUpd hp ho (kq its n j u) (r.set rv j) (by rw [List.length_set];exact hz) s.toks
  by_cases h0:0≤k
  · have hk:k.toNat=j:=by
      rw [seqIndex_of h0 h4] at h1
      exact Option.some.inj h1
    exact PySem.W.ki_setAt ho h0 (by omega) (by rw [List.size_toArray,←hl];exact h4) (by rw [hk];exact ⟨_,I',q⟩)
  · have hk:(k+(its.toArray.size:Int)).toNat=j:=by
      rw [seqIndex_neg (by omega) h3] at h1
      rw [List.size_toArray,←hl]
      exact Option.some.inj h1
    exact PySem.W.ki_setBack ho (by omega) (by rw [List.size_toArray,←hl];exact h3) (by omega) (by rw [hk];exact ⟨_,I',q⟩)
theorem i0 (lo hi:Option Int) (n:Nat):(sliceBounds lo hi none n).1=((HT.jx n 0 lo:Nat):Int)∧(sliceBounds lo hi none n).2.1=((HT.jx n n hi:Nat):Int)∧(sliceBounds lo hi none n).2.2=1:=by
  refine ⟨?_,?_,rfl⟩
  · cases lo with
    | none=>simp [sliceBounds,HT.jx]
    | some i=>
      simp only [sliceBounds,HT.jx,Option.getD_none,show (1:Int) > 0 by decide,if_true]
      by_cases h:i < 0
      · simp only [h,if_true] <;> omega
      · simp only [h,if_false] <;> omega
  · cases hi with
    | none=>simp [sliceBounds,HT.jx]
    | some i=>
      simp only [sliceBounds,HT.jx,Option.getD_none,show (1:Int) > 0 by decide,if_true]
      by_cases h:i < 0
      · simp only [h,if_true] <;> omega
      · simp only [h,if_false] <;> omega
theorem im (its:List Value) (lo hi:Option Int):slicePick its.toArray lo hi none=((its.drop (HT.jx its.length 0 lo)).take (HT.jx its.length its.length hi - HT.jx its.length 0 lo)).toArray:=by
  obtain ⟨h1,h2,h3⟩:=i0 lo hi its.toArray.size
  unfold slicePick
  rw [h1,h2,h3]
  simp only [sliceRange_one,pick_run,List.size_toArray] <;> rfl
def up (K:PySem.W.Frag):V→Option Int→Option Int→Hp→VK→Prop:=fun x lo hi H Q=>∃a xs,x= .ref a∧SqL K H a xs∧∀p,H p=none→Q (.ref p) (upd H p (.lst (lS xs lo hi)))
theorem oS:SlR X (up X.K):=by
  intro pins s σ H x v vl vu lo hi sl Q I rx hs pl pu h
  obtain ⟨a,xs,rfl,hx,q⟩:=h
  cases rx
  obtain ⟨its,r,ht,hz⟩:=I.list hx
  have hlen:=r.length
  refine ⟨"list",_,slot_list_getitem.lookup,ht.isList.typeIs,?_⟩
  refine wpAny_getItem_list_slice ht.isList hs pl pu .none (by simp) ?_ (by rw [List.size_toArray] <;> omega)
  rw [im,←hlen]
  refine ⟨.ref s.heap.objs.size,_,I.laid (t':=s.toks) (o:= .lst (lS xs lo hi)) (fun b ob q=>Heap.get?_push_of_some _ q) (Nat.le_refl _) ?_,rfl,q _ (I.hok.fresh (Nat.le_refl _))⟩
  exact ⟨Nat.le_trans (jB xs lo hi) hz,_,0,(r.drop (HT.jx xs.length 0 lo)).take (HT.jx xs.length xs.length hi - HT.jx xs.length 0 lo),Heap.get?_push_size _ rfl⟩
def fP:V→Bool
  | .non=>true
  | .bl _=>true
  | .int _=>true
  | .str _=>true
  | _=>false
def oT:V→V→Bool
  | .non, .non=>true
  | .bl a, .bl b=>a == b
  | .bl a, .int b=>(if a then 1 else 0) == b
  | .int a, .bl b=>a == (if b then 1 else 0)
  | .int a, .int b=>a == b
  | .str a, .str b=>a == b
  | _,_=>false
theorem qD {A:Around} {s:Shared} {y x:V} {u v:Value} (ry:RelV y u) (rx:RelV x v) (fy:fP y=true) (fx:fP x=true):SeqAt.EqAt A s u v (oT y x):=by
  cases y with
  | non=>
    cases ry
    cases x with
    | non=>cases rx;exact SeqAt.EqAt.same _
    | bl b=>cases rx;exact SeqAt.EqAt.none_bool b
    | int b=>obtain ⟨t,rfl⟩:=rx;exact SeqAt.EqAt.none_int b t
    | str b=>obtain ⟨t,rfl⟩:=rx;exact SeqAt.EqAt.none_str b t
    | _=>exact absurd (show false=true from fx) Bool.false_ne_true
  | bl a=>
    cases ry
    cases x with
    | non=>cases rx;exact SeqAt.EqAt.bool_none a
    | bl b=>cases rx;exact SeqAt.EqAt.bool_bool a b
    | int b=>obtain ⟨t,rfl⟩:=rx;exact SeqAt.EqAt.bool_int a b t
    | str b=>obtain ⟨t,rfl⟩:=rx;exact SeqAt.EqAt.bool_str a b t
    | _=>exact absurd (show false=true from fx) Bool.false_ne_true
  | int a=>
    obtain ⟨t',rfl⟩:=ry
    cases x with
    | non=>cases rx;exact SeqAt.EqAt.int_none a t'
    | bl b=>cases rx;exact SeqAt.EqAt.int_bool a t' b
    | int b=>obtain ⟨t,rfl⟩:=rx;exact SeqAt.EqAt.int_int a t' b t
    | str b=>obtain ⟨t,rfl⟩:=rx;exact SeqAt.EqAt.int_str a t' b t
    | _=>exact absurd (show false=true from fx) Bool.false_ne_true
  | str a=>
    obtain ⟨t',rfl⟩:=ry
    cases x with
    | non=>cases rx;exact SeqAt.EqAt.str_none a t'
    | bl b=>cases rx;exact SeqAt.EqAt.str_bool a t' b
    | int b=>obtain ⟨t,rfl⟩:=rx;exact SeqAt.EqAt.str_int a t' b t
    | str b=>obtain ⟨t,rfl⟩:=rx;exact SeqAt.EqAt.str_str a t' b t
    | _=>exact absurd (show false=true from fx) Bool.false_ne_true
  | _=>exact absurd (show false=true from fy) Bool.false_ne_true
def oU (x:V) (u:Value):Bool:=match u with
  | .none=>oT .non x
  | .bool b=>oT (.bl b) x
  | .int i _=>oT (.int i) x
  | .str z _=>oT (.str z) x
  | _=>false
theorem mU {x y:V} {u:Value} (r:RelV y u) (f:fP y=true):oU x u=oT y x:=by
  cases y with
  | non=>cases r;rfl
  | bl b=>cases r;rfl
  | int i=>obtain ⟨t,rfl⟩:=r;rfl
  | str z=>obtain ⟨t,rfl⟩:=r;rfl
  | _=>exact absurd (show false=true from f) Bool.false_ne_true
theorem i3 {x:V}:∀{xs:List V} {us:List Value},Vals xs us→xs.all fP=true→us.any (oU x)=xs.any fun y=>oT y x
  | _,_, .nil,_=>rfl
  | y::xs,u::us, .cons r t,f=>by
    rw [List.all_cons,Bool.and_eq_true] at f
    rw [List.any_cons,List.any_cons,mU r f.1,i3 t f.2]
theorem gX {A:Around} {s:Shared} {x:V} {v:Value} (rx:RelV x v) (fx:fP x=true):∀{xs:List V} {us:List Value},Vals xs us→xs.all fP=true→∀u∈us,SeqAt.EqAt A s u v (oU x u)
  | _,_, .nil,_=>fun u hu=>by cases hu
  | y::xs,u::us, .cons r t,f=>fun u' hu=>by
    rw [List.all_cons,Bool.and_eq_true] at f
    rcases List.mem_cons.mp hu with rfl | hu
    · rw [mU r f.1];exact qD r rx f.1 fx
    · exact gX rx fx t f.2 u' hu
def tS (x:V) (xs:List V):Bool:=xs.any fun y=>oT y x
def u3 (K:PySem.W.Frag) (neg:Bool):R2:=fun x y H Q=>∃p xs,y= .ref p∧(SqL K H p xs∨SqT K H p xs)∧fP x=true∧xs.all fP=true∧Q (.bl (if neg then !tS x xs else tS x xs)) H
theorem i5:OpR X (compareOp .NotIn) (u3 X.K true):=by
  intro pins s σ H x y v u Q I rx ry h
  obtain ⟨p,xs,rfl,hq,fx,fs,q⟩:=h
  cases ry
  rcases hq with hq | hq
  · obtain ⟨its,r,pl,hz⟩:=I.list hq
    refine SeqAt.notIn_listAt (oU x) pl.isList (fun w hw=>gX rx fx r fs w (by simpa using hw)) ⟨.bl _,H,I,rfl,?_⟩
    rw [show its.toArray.any (oU x)=its.any (oU x) by simp,i3 r fs]
    exact q
  · obtain ⟨its,r,pl,hz⟩:=I.tuple hq
    refine SeqAt.notIn_tupleAt (oU x) pl (fun w hw=>gX rx fx r fs w (by simpa using hw)) ⟨.bl _,H,I,rfl,?_⟩
    rw [show its.toArray.any (oU x)=its.any (oU x) by simp,i3 r fs]
    exact q
theorem i6:CallR X (.builtin "len") (fun xs H Q=>∃p ys,xs=[.ref p]∧(SqL X.K H p ys∨SqT X.K H p ys)∧Q (.int ys.length) H):=by
  intro pins s σ H xs us Q I r h
  obtain ⟨p,ys,rfl,hq,q⟩:=h
  obtain ⟨u,rfl,rx⟩:=kT r
  cases rx
  have hn:=fw
  rcases hq with hq | hq
  · obtain ⟨its,r',pl,hz⟩:=I.list hq
    have hlen:=r'.length
    exact Calls.call_len_list pl.isList (by simp only [List.size_toArray] <;> omega) ⟨.int ys.length,H,I.tok _,⟨s.toks+1,by rw [List.size_toArray,hlen]⟩,q⟩
  · obtain ⟨its,r',pl,hz⟩:=I.tuple hq
    have hlen:=r'.length
    exact len_tuple pl (by simp only [List.size_toArray] <;> omega) ⟨.int ys.length,H,I.tok _,⟨s.toks+1,by rw [List.size_toArray,hlen]⟩,q⟩
theorem i7:CallR X (.builtin "len") (fun xs H Q=>∃z,xs=[.str z]∧z.length≤sizeLine∧Q (.int z.length) H):=by
  intro pins s σ H xs us Q I r h
  obtain ⟨z,rfl,hz,q⟩:=h
  obtain ⟨u,rfl,t,rfl⟩:=kT r
  have hn:=fw
  exact len_str (by omega) ⟨.int z.length,H,I.tok _,⟨_,rfl⟩,q⟩
theorem CallR.or {f:Value} {r r':List V→Hp→VK→Prop} (h:CallR X f r) (h':CallR X f r'):CallR X f (fun xs H Q=>r xs H Q∨r' xs H Q):=by
  intro pins s σ H xs us Q I rs q
  rcases q with q | q
  · exact h pins s σ H xs us Q I rs q
  · exact h' pins s σ H xs us Q I rs q
theorem i8:CallR X (.type "list") (fun xs H Q=>∃p ys,xs=[.ref p]∧(SqL X.K H p ys∨SqT X.K H p ys)∧∀l,H l=none→Q (.ref l) (upd H l (.lst ys))):=by
  intro pins s σ H xs us Q I r h
  obtain ⟨p,ys,rfl,hq,q⟩:=h
  obtain ⟨u,rfl,rx⟩:=kT r
  cases rx
  have fin:∀(its:List Value),Vals ys its→ys.length≤sizeLine→∀(h':Heap) (c':Nat),(∀b o',s.heap.get? b=some o'→h'.get? b=some o')→
      h'.get? s.heap.objs.size=some {cls:= .type "list",dict:=none,data:= .seq its.toArray c',slots:=#[]}→EP X pins σ Q (.ref s.heap.objs.size) {s with heap:=h'}:=fun its r' hz h' c' kp e=>
    ⟨.ref s.heap.objs.size,_,I.laid (t':=s.toks) kp (Nat.le_refl _) (show ObjOk X.prog X.w _ h' _ (.lst ys) from ⟨hz,its,c',r',e⟩),rfl,q _ (I.hok.fresh (Nat.le_refl _))⟩
  rcases hq with hq | hq
  · obtain ⟨its,r',pl,hz⟩:=I.list hq
    have hlen:=r'.length
    obtain ⟨o,ho,hc,n,hd⟩:=pl.isList
    exact call_list_seq p (.inl rfl) ho hc hd (fun h' c' kp e=>fin its r' hz h' c' kp e) (by simp only [List.size_toArray] <;> omega)
  · obtain ⟨its,r',pl,hz⟩:=I.tuple hq
    have hlen:=r'.length
    obtain ⟨o,ho,hc,n,hd⟩:=pl
    exact call_list_seq p (.inr rfl) ho hc hd (fun h' c' kp e=>fin its r' hz h' c' kp e) (by simp only [List.size_toArray] <;> omega)
def uq (K:PySem.W.Frag) (T:String) (x:V) (H:Hp):Prop:=match x with
  | .str _=>T="str"
  | .int _=>T="int"
  | .ref p=>(T="list"∧∃xs,SqL K H p xs)∨(T="tuple"∧∃o,K.lookup p=some o∧o.cls= .type "tuple"∧o.dict=none)∨
      (T="dict"∧((∃kvs,H p=some (.dK kvs))∨∃kvs,H p=some (.dT kvs)))∨(T="set"∧∃S n,H p=some (.set S n))
  | _=>False
theorem mV {pins:List (Addr×Obj)} {σ:St} {H:Hp} {s:Shared} {T:String} {x:V} {v:Value} (I:Inv X pins σ H s) (r:RelV x v) (ty:uq X.K T x H):
    s.TypeIs v T∧∀a,v= .ref a→∃ob,s.heap.get? a=some ob∧ob.dict=none:=by
  cases x with
  | str z=>
    obtain ⟨t,rfl⟩:=r
    cases (show T="str" from ty)
    exact ⟨typeIs_str s z t,fun _ e=>nomatch e⟩
  | int i=>
    obtain ⟨t,rfl⟩:=r
    cases (show T="int" from ty)
    exact ⟨typeIs_int s i t,fun _ e=>nomatch e⟩
  | ref p=>
    cases r
    rcases ty with ⟨rfl,xs,hq⟩ | ⟨rfl,o,hk,hc,hd⟩ | ⟨rfl,hk⟩ | ⟨rfl,S,n,hk⟩
    · obtain ⟨its,_,pl,_⟩:=I.list hq
      refine ⟨pl.isList.typeIs,fun a e=>?_⟩
      cases e
      obtain ⟨o,n,e,c,hd,_⟩:=pl
      exact ⟨o,e,hd⟩
    · refine ⟨⟨o,I.kIn p o hk,hc⟩,fun a e=>?_⟩
      cases e
      exact ⟨o,I.kIn _ o hk,hd⟩
    · have z:∃o,s.heap.get? p=some o∧o.ExactDict:=by
        rcases hk with ⟨kvs,hk⟩ | ⟨kvs,hk⟩
        · obtain ⟨_,_,_,_,o,_,_,e,ex,_⟩:=I.hok p _ hk
          exact ⟨o,e,ex⟩
        · obtain ⟨_,_,_,_,o,_,_,e,ex,_⟩:=I.hok p _ hk
          exact ⟨o,e,ex⟩
      obtain ⟨o,e,ex⟩:=z
      refine ⟨⟨o,e,ex.1⟩,fun a e2=>?_⟩
      cases e2
      exact ⟨o,e,ex.2.1⟩
    · obtain ⟨o,_,_,_,e,ex,_⟩:=I.hok p _ hk
      refine ⟨⟨o,e,ex.1⟩,fun a e2=>?_⟩
      cases e2
      exact ⟨o,e,ex.2.1⟩
  | _=>exact False.elim ty
def ur (K:PySem.W.Frag) (T:String) (r:V→List V→Hp→VK→Prop) (to:TE):TE:=fun σ H Q=>to σ H fun x H1=>uq K T x H1∧r x [] H1 Q
def ve (K:PySem.W.Frag) (T:String) (r:V→List V→Hp→VK→Prop) (to:TE) (t:TA):TE:=fun σ H Q=>to σ H fun x H1=>uq K T x H1∧t σ H1 fun xs H2=>r x xs H2 Q
variable {o e:Expr} {es:List Expr} {to:TE} {t:TA} {name:Str} {apos cpos:Pos} {T id:String} {r:V→List V→Hp→VK→Prop}
theorem qE (pa:PlainAttrs T) (slot:Slot T name id) (hty:typeOf (.builtin id)=pure (.type "method_descriptor")) (hm:MtR X id r) (ho:PE X o to)
    (hbase:attributeBase o name X.env (eval o X.env)=eval o X.env:=by rfl) (hline:(apos.endLine == cpos.line)=true:=by rfl):PE X (.Call (.Attribute o name apos) [] [] cpos) (ur X.K T r to):=by
  intro pins s σ H Q I h
  refine wpAny_Call_method0_late hbase hline (b5 (ho pins s σ H _ I h) fun v s1 ⟨x,H1,I1,r1,ty,q1⟩=>?_)
  obtain ⟨h1,h2⟩:=mV I1 r1 ty
  exact ⟨T,id,pa,slot,hty,h1,h2,Calls.callWith_builtin rfl (PySem.evalArgs_none (hm pins s1 σ H1 x [] v [] Q I1 r1 .nil q1))⟩
theorem sN (pa:PlainAttrs T) (slot:Slot T name id) (hty:typeOf (.builtin id)=pure (.type "method_descriptor")) (hm:MtR X id r) (ho:PE X o to) (ha:PA X (e::es) t)
    (hbase:attributeBase o name X.env (eval o X.env)=eval o X.env:=by rfl)
    (hfew:((backTo cpos (starEach (e::es) X.env)).all (fun x=> !x.1)&&(backToKw cpos (keywordEach [] X.env)).all (fun x=>x.1.isSome)
      &&decide ((e::es).length+([]:List Keyword).length+(if ([]:List Keyword).isEmpty then 0 else 1) < 30))=true:=by rfl)
    (hline:(apos.endLine == cpos.line)=true:=by rfl) (hs:starEach (e::es) X.env=(false,eval e X.env)::starEach es X.env:=by rfl) (hplain:(backTo cpos (starEach es X.env)).any (·.1)=false:=by rfl):
    PE X (.Call (.Attribute o name apos) (e::es) [] cpos) (ve X.K T r to t):=by
  intro pins s σ H Q I h
  refine wpAny_Call_method_late hbase hfew hline rfl (b5 (ho pins s σ H _ I h) fun v s1 ⟨x,H1,I1,r1,ty,q1⟩=>?_)
  obtain ⟨h1,h2⟩:=mV I1 r1 ty
  refine ⟨T,id,pa,slot,hty,h1,h2,?_⟩
  have hA:=ha cpos pins s1 σ H1 _ I1 q1
  rw [hs] at hA ⊢
  refine Calls.callWith_builtin (by show (false||(backTo cpos (starEach es X.env)).any (·.1))=false;rw [hplain] <;> rfl) (Calls.evalArgs_plain ?_)
  exact b5 hA fun us s2 ⟨vs,H2,I2,r2,q2⟩=>hm pins s2 σ H2 x vs v us Q I2 r1 r2 q2
end
end L2
namespace L2
open PySem PySem.Spec PyProof.Rows
def u4 (X:Cx) (id:String) (r:V→List V→Hp→VK→Prop):Prop:=
  ∀(pins:List (Addr×Obj)) (s:Shared) (σ:St) (H:Hp) (x:V) (xs:List V) (v:Value) (us:List Value) (Q:VK),Inv X pins σ H s→RelV x v→Vals xs us→r x xs H Q→
    wpAny (model X.prog X.w) X.A (call (.builtin id) (v::us)) (EP X pins σ Q) X.xe s
theorem Vals.one {x:V} {us:List Value} (h:Vals [x] us):∃u,us=[u]∧RelV x u:=by
  cases h with
  | cons r t=>cases t;exact ⟨_,rfl,r⟩
theorem Vals.two {x y:V} {us:List Value} (h:Vals [x,y] us):∃u v,us=[u,v]∧RelV x u∧RelV y v:=by
  cases h with
  | cons r t=>
    obtain ⟨v,rfl,q⟩:=Vals.one t
    exact ⟨_,_,rfl,r,q⟩
theorem Vals.zero:∀{us:List Value},Vals [] us→us=[]
  | _, .nil=>rfl
theorem Vals.dropLast {xs:List V} {us:List Value} (h:Vals xs us):Vals xs.dropLast us.dropLast:=by
  induction h with
  | nil=>exact .nil
  | cons r t ih=>
    cases t with
    | nil=>exact .nil
    | cons q t'=>exact .cons r ih
theorem Vals.eraseIdx:∀{xs:List V} {us:List Value} (i:Nat),Vals xs us→Vals (xs.eraseIdx i) (us.eraseIdx i)
  | _,_,_, .nil=> .nil
  | _,_,0, .cons _ t=>t
  | _,_,i+1, .cons r t=> .cons r (Vals.eraseIdx i t)
theorem Vals.reverse {xs:List V} {us:List Value} (h:Vals xs us):Vals xs.reverse us.reverse:=by
  induction h with
  | nil=>exact .nil
  | cons r t ih=>rw [List.reverse_cons,List.reverse_cons];exact Vals.append ih (.cons r .nil)
theorem Vals.rep {xs:List V} {us:List Value} (h:Vals xs us):∀k:Nat,Vals (List.replicate k xs).flatten (List.replicate k us).flatten
  | 0=> .nil
  | k+1=>by
    rw [List.replicate_succ,List.replicate_succ,List.flatten_cons,List.flatten_cons]
    exact Vals.append h (Vals.rep h k)
theorem kr {α:Type} (l:List α):l.eraseIdx (l.length - 1)=l.dropLast:=by
  induction l with
  | nil=>rfl
  | cons a r ih=>
    cases r with
    | nil=>rfl
    | cons b r=>
      have e:(a::b::r).length - 1=((b::r).length - 1)+1:=by
        have h1:(a::b::r).length=r.length+2:=rfl
        have h2:(b::r).length=r.length+1:=rfl
        omega
      rw [e,List.eraseIdx_cons_succ,ih]
      all_goals rfl
section
variable {X:Cx} {pins:List (Addr×Obj)} {σ:St} {H:Hp} {s:Shared} {l b:Addr} {xs ys zs:List V}
theorem Inv.lset {its its':List Value} {n:Nat} {f:Array Value→Array Value} {t':Nat} (I:Inv X pins σ H s) (hH:H l=some (.lst xs))
    (e:s.heap.get? l=some {cls:= .type "list",data:= .seq its.toArray n}) (hf:f its.toArray=its'.toArray) (hv:Vals ys its') (hz:ys.length≤sizeLine):
    Inv X pins σ (upd H l (.lst ys)) {s with heap:=s.heap.update l (Obj.mapSeq f),toks:=t'}:=by
  have q:=PySem.IsL.update e f
  rw [hf] at q
  refine I.write (x:=l) (e:=l) (by rw [hH];exact trivial) (.inl rfl) (fun b' u hb hu=>(Heap.get?_update_other s.heap (Obj.mapSeq f) (Ne.symm hb)).trans hu) ⟨_,q⟩ ?_
  exact ⟨hz,its',_,hv,q⟩
theorem Inv.lnew {its:List Value} {t':Nat} (I:Inv X pins σ H s) (hv:Vals ys its) (hz:ys.length≤sizeLine):
    Inv X pins σ (upd H s.heap.objs.size (.lst ys)) {s with heap:=s.heap.push {cls:= .type "list",data:= .seq its.toArray},toks:=t'}:=
  I.laid (fun _ _ q=>Heap.get?_push_of_some _ q) (Nat.le_refl _) ⟨hz,its,0,hv,Heap.get?_push_size _ rfl⟩
theorem Inv.fresh (I:Inv X pins σ H s):H s.heap.objs.size=none:=I.hok.fresh (Nat.le_refl _)
theorem Inv.lstM (I:Inv X pins σ H s) (hH:H l=some (.lst xs)):xs.length≤sizeLine∧∃(its:List Value) (n:Nat),Vals xs its∧xs.length=its.length∧s.heap.get? l=some {cls:= .type "list",data:= .seq its.toArray n}:=by
  obtain ⟨z,its,n,r,e⟩:=I.hok l _ hH
  exact ⟨z,its,n,r,r.length,e⟩
end
section
variable {X:Cx}
def oV:V→List V→Hp→VK→Prop:=fun x vs H Q=>∃l xs y,x= .ref l∧vs=[y]∧H l=some (.lst xs)∧xs.length < sizeLine∧Q .non (upd H l (.lst (xs++[y])))
theorem iI:u4 X "list.append" oV:=by
  intro pins s σ H x vs v us Q I rx rv h
  obtain ⟨l,xs,y,rfl,rfl,hH,hz,q⟩:=h
  cases rx
  obtain ⟨u,rfl,ru⟩:=rv.one
  obtain ⟨z,its,n,r,hl,e⟩:=I.lstM hH
  refine call_meets F.slot_list_append ⟨_,e,rfl⟩ F.entry_list_append (F.args_list_append_2 _ _) (PySem.list_append l its.toArray n u (by rw [List.size_toArray];omega)) ⟨e,?_⟩
  refine ⟨.non,_,I.lset (its':=its++[u]) hH e (by simp) (r.append (.cons ru .nil)) ?_,rfl,q⟩
  rw [List.length_append,List.length_singleton]
  omega
def ut:V→List V→Hp→VK→Prop:=fun x vs H Q=>∃l xs y,x= .ref l∧vs=[]∧H l=some (.lst xs)∧xs[xs.length - 1]? =some y∧Q y (upd H l (.lst xs.dropLast))
theorem qF:u4 X "list.pop" ut:=by
  intro pins s σ H x vs v us Q I rx rv h
  obtain ⟨l,xs,y,rfl,rfl,hH,hy,q⟩:=h
  cases rx
  have hus:=rv.zero
  subst hus
  obtain ⟨z,its,n,r,hl,e⟩:=I.lstM hH
  obtain ⟨u,hu,ru⟩:=r.get hy
  have hy':its.toArray[its.toArray.size - 1]? =some u:=by
    show its.toArray[its.length - 1]? =some u
    rw [←Array.getElem?_toList,←hl]
    exact hu
  refine call_meets F.slot_list_pop ⟨_,e,rfl⟩ F.entry_list_pop (F.args_list_pop_1 _) (MeetsSeq.list_pop_last l its.toArray n u hy' (by rw [List.size_toArray];omega)) ⟨e,?_⟩
  refine ⟨y,_,I.lset (its':=its.dropLast) hH e ?_ r.dropLast ?_,ru,q⟩
  · show its.toArray.eraseIdxIfInBounds (its.toArray.size - 1)=its.dropLast.toArray
    rw [List.size_toArray,List.eraseIdxIfInBounds_toArray,kr]
  · rw [List.length_dropLast]
    omega
theorem oW {α:Type} (xs:List α) (k:Nat):(List.replicate k xs).flatten.length=k*xs.length:=by
  induction k with
  | zero=>simp
  | succ k ih=>rw [List.replicate_succ,List.flatten_cons,List.length_append,ih,Nat.succ_mul,Nat.add_comm]
end
end L2
namespace Att
open PySem PySem.W PySem.Calls PyProof.Rows
theorem gB {P:Params} {h:Heap}:∀(ns:List Int) (vs:List Value),WellAll P h vs (ns.map WData.int)→IntsAre vs ns:=by
  intro ns
  induction ns with
  | nil=>
    intro vs w
    rw [List.map_nil] at w
    cases w
    exact .nil
  | cons n ns ih=>
    intro vs w
    rw [List.map_cons] at w
    cases w with
    | cons a b=>
      cases a
      exact .cons _ _ (ih _ b)
theorem lT {l:OpenLaw} {n:Nat} (hn:l.most=some n) {P:Params} {h:Heap} {args:List WData} {vals:List Value}
    (hpre:l.row.toRowW.claim.pre args=true) (hwl:WellAll P h vals args):
    ∃a vs ns,vals=[Value.ref a]∧args=[WData.list (ns.map WData.int)]∧h.get? a=some {cls:= .type "list",data:= .seq vs.toArray}∧IntsAre vs ns∧ns.length≤n:=by
  have hsh:WShape.hasAll [] args [.list .int]=true:=(pre_splitW hpre).1
  have hc:l.pre.holds [] {args:=args}=true:=(pre_splitW hpre).2
  obtain ⟨d,r,rfl,h1,h2⟩:=hasAllW_cons hsh
  obtain rfl:=hasAllW_nil h2
  obtain ⟨xs,rfl,h3⟩:=hasW_list h1
  obtain ⟨ns,rfl⟩:=items_int h3
  have hlen:ns.length≤n:=by
    unfold OpenLaw.pre at hc
    have h4:(WTm.not (.lt (.lit (.int (n:Int))) (.len (.arg 0)))).holds [] {args:=[.list (ns.map .int)]}=true:=by
      have h4:=(holds_andW hc).1
      rw [hn] at h4
      exact h4
    have h5:=condW_of h4 (w_not (w_lt w_lit (w_len_list (w_arg rfl))))
    rw [List.length_map] at h5
    refine Nat.le_of_not_lt fun q=>?_
    have q':(n:Int) < ((ns.length:Nat):Int):=by omega
    first
      | (rw [decide_eq_true q'] at h5;exact absurd h5 (by decide))
      | (simp at h5;omega)
  cases hwl with
  | cons w1 w2=>
    cases w2
    cases w1 with
    | list ho hall=>exact ⟨_,_,ns,rfl,rfl,ho,gB ns _ hall,hlen⟩
theorem lU (l:OpenLaw) (args:List WData):l.row.toRowW.claim.post args (.bool true) args=true:=
  postW_of (r:=l.row.toRowW) (X:=(true == true))
    (show WShape.has [] (.bool true) .bool=true by first | rfl | decide | simp [WShape.has,WShape.arms,WShape.armsAll])
    (show (WTm.eq .res (.lit (.bool true))).value [] {args:=args,res:=some (.bool true),after:=args}=some (.bool (true == true)) from w_eq_bool (w_res rfl) w_lit) rfl
theorem jC {l:OpenLaw} {n:Nat} {q:Program} {loose:List Str} {XP:(Str→Option Value)→Heap→Prop} {YP:World→Heap→Prop} {d:DefRec}
    (hn:l.most=some n) (hdf:d.params.defaults=[])
    (call:∀(w:World) (s₀ s₁:Shared) (mg mb:Str→Option Value) (fa:Addr) (o:Obj) (pm cd doc:Value) (a:Addr) (vs:List Value) (ns:List Int),
      Ground q loose [] XP w s₀ mg mb s₁.heap→YP w s₁.heap→
      s₁.heap.get? fa=some o→o.data= .func (docDef d.name d.params d.body d.scope pm cd doc)→s₁.heap.CodeRec cd d.name→mg d.name=some (.ref fa)→
      s₁.heap.get? a=some {cls:= .type "list",data:= .seq vs.toArray}→IntsAre vs ns→ns.length≤n→s₁.gens=#[]→
      codeAny (model l.prog w) callerA (.call (.ref fa) ⟨[.ref a],[]⟩) (fun r s'=>r= .ok (.ret (.bool true))∧OldK s₁.heap s'.heap∧s'.os=s₁.os∧AllBare s'.gens) s₁):
    WalkO q loose XP YP l.row.toRowW d [] (fun f vs=>PySem.call f vs):=by
  intro w s₀ s₁ mg mb G Y fa o pm cd doc dV kV ho hd hcd hD hmg hg args vals as hpre hlay hrd hwl hlo
  obtain rfl:dV= .none:=Dflts.none hD hdf
  obtain rfl:kV= .none:=Dflts.noKw hD
  obtain ⟨a,vs,ns,rfl,rfl,hobj,hints,hlen⟩:=lT hn hpre hwl
  refine enter_call (codeAny_mono (call w s₀ s₁ mg mb fa o pm cd doc a vs ns G Y ho (fd_plain hd) hcd hmg hobj hints hlen hg) fun r s' hq=>?_)
  obtain ⟨rfl,h2,h3,h4⟩:=hq
  exact ⟨.inl ⟨.bool true, .bool true,[],rfl,fun _=>rfl, .bool true,lU l _,fun _=>⟨List.Pairwise.nil,fun _ hm=>(nomatch hm)⟩⟩,h2,h3,h4⟩
end Att
namespace L2
open PySem PySem.Spec PyProof.Rows
theorem e9:∀{vs:List Value} {ns:List Int},IntsAre vs ns→Vals (ns.map V.int) vs
  | _,_, .nil=> .nil
  | _,_, .cons n t h=> .cons ⟨t,rfl⟩ (e9 h)
theorem ObjOk.tbl0 {P:Program} {w:World} {H:Hp} {h:Heap} {b:Addr} {q:Str} (e:h.get? b=some (PySem.W.tabObj #[])):ObjOk P w H h b (.tbl q):=⟨#[],e,trivial,fun pos cv z=>by cases z⟩
end L2
namespace L2
open PySem PySem.Spec PyProof.Rows
def aQ (s:Stmt):Arguments:=match s with
  | .FunctionDef _ a _ _ _ _ _ _ _ _=>a
  | _=>{posonlyargs:=[],args:=[],vararg:=none,kwonlyargs:=[],kw_defaults:=[],kwarg:=none,defaults:=[]}
def aE (s:Stmt):List Stmt:=match s with
  | .FunctionDef _ _ b _ _ _ _ _ _ _=>b
  | _=>[]
def ai (s:Stmt):Scope:=match s with
  | .FunctionDef _ _ _ _ _ _ sc _ _ _=>sc
  | _=>{kind:= .function,names:=[],isGenerator:=false,isCoroutine:=false}
abbrev ku:lQ:=fun _ _ _ _ _ _=>False
abbrev E0:XK:=fun _ _ _=>False
theorem sO {X:Cx}:ko ku X E0:=fun _ _ _ _ _ _ _ h=>h.elim
structure Fun (K:PySem.W.Frag) (x qual:Str) (st:Stmt) (f:Addr) (fd:FuncData):Prop where
  ex:∃(oc:Value) (od:Option Addr) (kV doc pm:Value) (an:Option Addr) (cdv ct:Value) (osl:Array (Option Value)),
    fd=PySem.W.fnOf x qual (aQ st) (aE st) (ai st) .none kV doc pm an cdv ct∧K.lookup f=some ⟨oc,od, .func fd,osl⟩∧PySem.W.codeIn K cdv qual=true
  kp:PySem.W.keepIn K (.ref f)=true
section
variable {P:Program} {w:World} {K:PySem.W.Frag} {mg:Str→Option Value} {base:Heap}
theorem Fun.ok {x qual:Str} {st:Stmt} {f:Addr} {fd:FuncData} {N ps:List Str} {k:Nat} {sp:Sp} (F:Fun K x qual st f fd) (S:FnScope N ps (ai st)) (len:∀vs H Q E,sp vs H Q E→vs.length=ps.length)
    (hbody:∀(cdv:Value) (A:Around) (outer:List Env) (s:Shared) (H:Hp) (vs:List V) (Q:VK) (E:XK),Room k (A.deeper (envOfC qual (ai st) s.heap.objs.size f cdv))→sp vs H Q E→
      ∃t,PSs (eK ku P w K mg base N qual (ai st) f cdv A outer s H E).nox (aE st) t∧t {nx:=fun _ H'=>Q .non H',rt:=Q} (de N vs) H):FnOk P w K mg base ku (k+1) f fd ps sp:=by
  obtain ⟨oc,od,kV,doc,pm,an,cdv,ct,osl,rfl,lk,hcd⟩:=F.ex
  refine pR lk hcd S len fun A outer s H vs Q E hr hsp=>?_
  obtain ⟨t,h,q⟩:=hbody cdv A outer s H vs Q E hr hsp
  exact ⟨t,h.nox,q⟩
theorem Fun.binds {x qual:Str} {st:Stmt} {f:Addr} {fd:FuncData} {ps:List Str} (F:Fun K x qual st f fd)
    (h:∀(kV doc pm:Value) (an:Option Addr) (cdv ct:Value) (us:List Value),us.length=ps.length→bindArgs (PySem.W.fnOf x qual (aQ st) (aE st) (ai st) .none kV doc pm an cdv ct) ⟨us,[]⟩=pure (ps.zip us)):Binds K fd ps []:=by
  obtain ⟨oc,od,kV,doc,pm,an,cdv,ct,osl,rfl,lk,hcd⟩:=F.ex
  exact .all (h kV doc pm an cdv ct)
theorem kw {x qual:Str} {st:Stmt} {f:Addr} {oc:Value} {od an:Option Addr} {osl:Array (Option Value)} {kV doc pm cdv ct:Value} (l:K.lookup f=some ⟨oc,od, .func (PySem.W.fnOf x qual (aQ st) (aE st) (ai st) .none kV doc pm an cdv ct),osl⟩)
    (c:PySem.W.codeIn K cdv qual=true) (k:PySem.W.keepIn K (.ref f)=true):Fun K x qual st f (PySem.W.fnOf x qual (aQ st) (aE st) (ai st) .none kV doc pm an cdv ct):=⟨⟨oc,od,kV,doc,pm,an,cdv,ct,osl,rfl,l,c⟩,k⟩
end
section
variable {X:Cx}
theorem pv (i:Nat) {x:Str} {pos:Pos} (hN:X.N[i]? =some x:=by rfl) (hv:p8 X.env.scope x:=by first | exact Or.inl rfl | exact Or.inr (Or.inl rfl) | exact Or.inr (Or.inr rfl)) (hd:(x == ("__debug__":Str))=false:=by decide)
    (hcd:(x == ("__classdict__":Str))=false:=by decide):PE X (.Name x pos) (rY i):=gS hN hv hd hcd
end
def Same (H H':Hp):Prop:=∀b o,H b=some o→H' b=some o
theorem Same.refl (H:Hp):Same H H:=fun _ _ h=>h
theorem Same.trans {H H1 H2:Hp} (a:Same H H1) (b:Same H1 H2):Same H H2:=fun c o h=>b c o (a c o h)
theorem Same.free {H H':Hp} (e:Same H H') {l:Addr} (h:H' l=Option.none):H l=Option.none:=by
  cases q:H l with
  | none=>rfl
  | some o=>
    rw [e l o q] at h
    cases h
theorem Same.seq {K:PySem.W.Frag} {H H':Hp} {a:Addr} {xs:List V} (e:Same H H') (h:SqL K H a xs):SqL K H' a xs:=by
  rcases h with (h | ⟨o,h⟩) | h
  · exact .inl (.inl (e _ _ h))
  · exact .inl (.inr ⟨o,e _ _ h⟩)
  · exact .inr h
end L2
namespace NH
section
variable {α:Type} [DecidableEq α]
def stp (r:List (α×Int)) (p:α×Int):List (α×Int):=
  match r with
  | []=>if p.2=0 then [] else [p]
  | q::r'=>if q.1=p.1 then (if q.2+p.2=0 then r' else (p.1,q.2+p.2)::r') else (if p.2=0 then q::r' else p::q::r')
def stk (c:List (α×Int)):List (α×Int):=c.foldl stp []
def short (c:List (α×Int)):List (α×Int):=(stk c).reverse
def runs (c:List (α×Int)):List (α×Int):=c.foldr (fun p r=>stp r p) []
def Red:List (α×Int)→Prop
  | []=>True
  | [p]=>p.2≠0
  | p::q::r=>p.2≠0∧p.1≠q.1∧Red (q::r)
theorem Red.tail {p:α×Int} {r:List (α×Int)} (h:Red (p::r)):Red r:=by
  cases r with
  | nil=>trivial
  | cons q r=>exact h.2.2
theorem Red.head {p:α×Int} {r:List (α×Int)} (h:Red (p::r)):p.2≠0:=by
  cases r with
  | nil=>exact h
  | cons q r=>exact h.1
theorem Red.cons {p:α×Int} {r:List (α×Int)} (h0:p.2≠0) (h1:∀q∈r.head?,p.1≠q.1) (h:Red r):Red (p::r):=by
  cases r with
  | nil=>exact h0
  | cons q r=>exact ⟨h0,h1 q rfl,h⟩
theorem Red.next {p:α×Int} {r:List (α×Int)} (h:Red (p::r)):∀q∈r.head?,p.1≠q.1:=by
  cases r with
  | nil=>intro q hq;cases hq
  | cons q r=>intro q' hq;cases hq;exact h.2.1
theorem kX {r:List (α×Int)} (h:Red r) (p:α×Int):Red (stp r p):=by
  cases r with
  | nil=>
    unfold stp
    by_cases h0:p.2=0
    · simp [h0,Red]
    · simp [h0,Red]
  | cons q r=>
    show Red (if q.1=p.1 then (if q.2+p.2=0 then r else (p.1,q.2+p.2)::r) else (if p.2=0 then q::r else p::q::r))
    by_cases e:q.1=p.1
    · rw [if_pos e]
      by_cases z:q.2+p.2=0
      · rw [if_pos z];exact h.tail
      · rw [if_neg z]
        refine Red.cons z (fun s hs=>?_) h.tail
        rw [←e];exact h.next s hs
    · rw [if_neg e]
      by_cases z:p.2=0
      · rw [if_pos z];exact h
      · rw [if_neg z];exact ⟨z,fun t=>e t.symm,h⟩
theorem gj:∀(c:List (α×Int)) {r:List (α×Int)},Red r→Red (c.foldl stp r)
  | [],_,h=>h
  | p::c,_,h=>gj c (kX h p)
theorem oX (c:List (α×Int)):Red (stk c):=gj c trivial
theorem mW {r:List (α×Int)} (h:Red r) (n:α):stp r (n,0)=r:=by
  cases r with
  | nil=>simp [stp]
  | cons q r=>
    have:=h.head
    unfold stp
    by_cases e:q.1=n
    · obtain ⟨a,b⟩:=q
      simp at e this
      subst e
      simp [this]
    · simp [e]
theorem kY {r:List (α×Int)} (h:Red r) (n:α) (a b:Int):stp (stp r (n,a)) (n,b)=stp r (n,a+b):=by
  cases r with
  | nil=>
    by_cases ha:a=0
    · subst ha;simp [stp]
    · simp [stp,ha]
  | cons q r=>
    obtain ⟨m,u⟩:=q
    have hu:u≠0:=h.head
    by_cases e:m=n
    · subst e
      by_cases z:u+a=0
      · have e1:stp ((m,u)::r) (m,a)=r:=by simp [stp,z]
        rw [e1]
        have ez:u+(a+b)=b:=by omega
        have hn:=h.next
        cases r with
        | nil=>
          by_cases hb:b=0
          · subst hb;simp [stp];omega
          · simp [stp,ez,hb]
        | cons s r=>
          have e2:¬s.1=m:=fun t=>hn s rfl t.symm
          by_cases hb:b=0
          · subst hb;simp [stp,e2];omega
          · simp [stp,ez,hb,e2]
      · have e1:stp ((m,u)::r) (m,a)=(m,u+a)::r:=by simp [stp,z]
        rw [e1]
        simp only [stp,if_true]
        rw [Int.add_assoc]
    · by_cases ha:a=0
      · subst ha;simp [stp,e]
      · simp [stp,e,ha]
theorem mX {r:List (α×Int)} (h:Red r) (n:α) (a:Int):stp (stp r (n,a)) (n,-a)=r:=by
  rw [kY h,Int.add_right_neg,mW h]
def contr (c:List (α×Int)):List (α×Int):=c.reverse.map fun p=>(p.1,-p.2)
theorem kx (p:α×Int) (c:List (α×Int)):contr (p::c)=contr c++[(p.1,-p.2)]:=by simp [contr]
theorem jD (c:List (α×Int)):contr (contr c)=c:=by
  simp only [contr,List.map_reverse,List.reverse_reverse,List.map_map]
  conv=>rhs;rw [←List.map_id c]
  refine List.map_congr_left fun p _=>?_
  simp
theorem bL (c:List (α×Int)):(contr c).length=c.length:=by simp [contr]
theorem gk:∀(c:List (α×Int)) {r:List (α×Int)},Red r→(c++contr c).foldl stp r=r
  | [],_,_=>rfl
  | p::c,r,h=>by
    rw [kx,←List.append_assoc,List.foldl_append]
    show stp ((c++contr c).foldl stp (stp r p)) (p.1,-p.2)=r
    rw [gk c (kX h p)]
    exact mX h p.1 p.2
def sn (w:List (α×Int)) (p:α×Int):List (α×Int):=(stp w.reverse p).reverse
def oA (p x:α×Int):List (α×Int):=if x.1=p.1 then (if x.2+p.2=0 then [] else [(p.1,x.2+p.2)]) else (if p.2=0 then [x] else [p,x])
theorem dO (p x:α×Int) (r:List (α×Int)):stp (x::r) p=oA p x++r:=by
  show (if x.1=p.1 then (if x.2+p.2=0 then r else (p.1,x.2+p.2)::r) else (if p.2=0 then x::r else p::x::r))=oA p x++r
  unfold oA
  by_cases e:x.1=p.1
  · rw [if_pos e,if_pos e];split <;> rfl
  · rw [if_neg e,if_neg e];split <;> rfl
def uv (x p:α×Int):List (α×Int):=(oA p x).reverse
theorem kZ (p x:α×Int) (r:List (α×Int)):sn (r++[x]) p=r++uv x p:=by
  unfold sn uv
  rw [List.reverse_append,List.reverse_singleton,List.singleton_append,dO,List.reverse_append,List.reverse_reverse]
theorem sP (p q:α×Int) (x:α×Int) (hx:x.2≠0):stp (sn [x] q) p=sn (stp [x] p) q:=by
  obtain ⟨n,a⟩:=p
  obtain ⟨k,b⟩:=q
  obtain ⟨m,u⟩:=x
  simp at hx
  by_cases e1:m=n
  · subst e1
    by_cases e2:m=k
    · subst e2
      by_cases z1:u+a=0 <;> by_cases z2:u+b=0
      · simp [stp,sn,z1,z2]
        have:a=b:=by omega
        have ha:a≠0:=by omega
        have hb:b≠0:=by omega
        simp [ha,hb,this]
      · have hb:u+b+a=b:=by omega
        by_cases b0:b=0
        · subst b0;simp [stp,sn,z1,hx]
        · simp [stp,sn,z1,z2,hb,b0]
      · have hb:u+a+b=a:=by omega
        by_cases a0:a=0
        · subst a0;simp [stp,sn,z2,hx]
        · simp [stp,sn,z1,z2,hb,a0]
      · have hb:u+b+a=u+a+b:=by omega
        by_cases z3:u+a+b=0
        · simp [stp,sn,z1,z2,hb,z3]
        · simp [stp,sn,z1,z2,hb,z3]
    · by_cases z1:u+a=0 <;> by_cases z2:b=0 <;> simp [stp,sn,e2,z1,z2]
  · by_cases e2:m=k
    · subst e2
      by_cases z1:u+b=0 <;> by_cases z2:a=0 <;> simp [stp,sn,e1,z1,z2]
    · by_cases z1:a=0 <;> by_cases z2:b=0 <;> simp [stp,sn,e1,e2,z1,z2]
theorem sQ (p q:α×Int):stp (sn [] q) p=sn (stp [] p) q:=by
  obtain ⟨n,a⟩:=p
  obtain ⟨k,b⟩:=q
  by_cases z1:a=0 <;> by_cases z2:b=0
  · simp [stp,sn,z1,z2]
  · by_cases e:k=n <;> simp [stp,sn,z1,z2,e]
  · by_cases e:n=k <;> simp [stp,sn,z1,z2,e]
  · by_cases e:k=n
    · subst e
      by_cases z:a+b=0
      · have z':b+a=0:=by omega
        simp [stp,sn,z1,z2,z,z']
      · have z':¬b+a=0:=by omega
        simp [stp,sn,z1,z2,z,z']
        omega
    · have e':¬n=k:=fun t=>e t.symm
      simp [stp,sn,z1,z2,e,e']
theorem uw (p q:α×Int) {w:List (α×Int)} (h:Red w):stp (sn w q) p=sn (stp w p) q:=by
  cases w with
  | nil=>exact sQ p q
  | cons x r=>
    rcases List.eq_nil_or_concat r with rfl | ⟨m,y,e⟩
    · exact sP p q x h
    · have e':r=m++[y]:=by rw [e] <;> simp
      subst e'
      have e1:x::(m++[y])=(x::m)++[y]:=rfl
      have e2:sn (x::(m++[y])) q=x::(m++uv y q):=by rw [e1,kZ];rfl
      rw [e2,dO,dO,←List.append_assoc,←List.append_assoc,kZ]
theorem da:∀{m:List (α×Int)} {y z:α×Int},Red (m++[y])→z.2≠0→y.1≠z.1→Red (m++[y]++[z])
  | [],y,z,h,h0,h1=>⟨h,h1,h0⟩
  | [x],y,z,h,h0,h1=>⟨h.1,h.2.1,da (m:=[]) h.2.2 h0 h1⟩
  | x::x'::m,y,z,h,h0,h1=>⟨h.1,h.2.1,da (m:=x'::m) h.2.2 h0 h1⟩
theorem gv:∀{w:List (α×Int)},Red w→Red w.reverse
  | [],_=>trivial
  | [p],h=>h
  | p::q::r,h=>by
    have ih:=gv (w:=q::r) h.2.2
    rw [List.reverse_cons,List.reverse_cons]
    rw [List.reverse_cons] at ih
    exact da ih h.1 fun t=>h.2.1 t.symm
theorem iJ (c:List (α×Int)):Red (short c):=gv (oX c)
theorem gY (c:List (α×Int)) (p:α×Int):short (c++[p])=sn (short c) p:=by
  unfold short stk sn
  rw [List.foldl_append,List.reverse_reverse]
  rfl
theorem ky (p:α×Int):∀c:List (α×Int),short (p::c)=stp (short c) p:=by
  intro c
  induction hn:c.length generalizing c with
  | zero=>
    have:c=[]:=List.length_eq_zero_iff.mp hn
    subst this
    simp [short,stk,stp]
    by_cases z:p.2=0 <;> simp [z]
  | succ n ih=>
    rcases List.eq_nil_or_concat c with rfl | ⟨m,y,e⟩
    · simp at hn
    · have e':c=m++[y]:=by rw [e] <;> simp
      subst e'
      have hm:m.length=n:=by simp at hn;exact hn
      have e1:p::(m++[y])=(p::m)++[y]:=rfl
      rw [e1,gY,ih m hm,gY,uw p y (iJ m)]
theorem ce:∀c:List (α×Int),short c=runs c
  | []=>rfl
  | p::c=>by rw [ky,ce c];rfl
theorem gw:∀{w:List (α×Int)},Red w→runs w=w
  | [],_=>rfl
  | [p],h=>by
    have:p.2≠0:=h
    simp [runs,stp,this]
  | p::q::r,h=>by
    have ih:=gw (w:=q::r) h.2.2
    show stp (runs (q::r)) p=_
    rw [ih]
    have h1:¬q.1=p.1:=fun t=>h.2.1 t.symm
    simp [stp,h1,h.1]
theorem jE (c:List (α×Int)):short (short c)=short c:=by rw [ce (short c),gw (iJ c)]
theorem fz (c:List (α×Int)):short (c++contr c)=[]:=by
  unfold short stk;rw [gk c (r:=[]) trivial];rfl
theorem i9 (r:List (α×Int)) (p:α×Int):(stp r p).length≤r.length+1:=by
  cases r with
  | nil=>by_cases z:p.2=0 <;> simp [stp,z]
  | cons q r=>rw [dO];unfold oA;split <;> split <;> simp <;> omega
theorem iK:∀(c:List (α×Int)) (r:List (α×Int)),(c.foldl stp r).length≤r.length+c.length
  | [],r=>by simp
  | p::c,r=>by
    have h1:=iK c (stp r p)
    have h2:=i9 r p
    simp only [List.foldl_cons,List.length_cons]
    omega
theorem dn (c:List (α×Int)):(short c).length≤c.length:=by
  have:=iK c []
  simpa [short,stk] using this
theorem iL {A B X Y:List (α×Int)} (h:∀r,Red r→X.foldl stp r=Y.foldl stp r):short (A++X++B)=short (A++Y++B):=by
  unfold short stk
  rw [List.foldl_append,List.foldl_append,List.foldl_append,List.foldl_append,h _ (gj A (r:=[]) trivial)]
theorem mY (c:List (α×Int)):∀r:List (α×Int),Red r→(c++contr c).foldl stp r=([]:List (α×Int)).foldl stp r:=fun r h=>gk c h
theorem mZ (n:α) (u v:Int):∀r:List (α×Int),Red r→[(n,u+v)].foldl stp r=[(n,u),(n,v)].foldl stp r:=fun r h=>(kY h n u v).symm
end
end NH
namespace L2
open PySem PySem.Spec PyProof.Rows
theorem gZ {H:Hp} {p:Addr} (h:H p=none) (o:HO):Same H (upd H p o):=fun b u q=>by rw [az (bK q h)];exact q
theorem Same.tup {K:PySem.W.Frag} {H H':Hp} {a:Addr} {xs:List V} (e:Same H H') (h:SqT K H a xs):SqT K H' a xs:=by
  rcases h with (h | ⟨o,h⟩) | h
  · exact .inl (.inl (e _ _ h))
  · exact .inl (.inr ⟨o,e _ _ h⟩)
  · exact .inr h
def SameBut (l:Addr) (H H':Hp):Prop:=∀b o,b≠l→H b=some o→H' b=some o
theorem SameBut.upd {H:Hp} {l:Addr} (o:HO):SameBut l H (upd H l o):=fun b u hb q=>by rw [az hb];exact q
theorem SameBut.trans {H H1 H2:Hp} {l:Addr} (a:SameBut l H H1) (b:SameBut l H1 H2):SameBut l H H2:=fun c o hc q=>b c o hc (a c o hc q)
theorem SameBut.same {H H':Hp} {l:Addr} (a:SameBut l H H') (h:H l=none):Same H H':=fun b o q=>a b o (bK q h) q
theorem SameBut.tup {K:PySem.W.Frag} {H H':Hp} {l a:Addr} {xs ys:List V} (e:SameBut l H H') (hl:H l=some (.lst ys)) (h:SqT K H a xs):SqT K H' a xs:=by
  rcases h with (h | ⟨o,h⟩) | h
  · exact .inl (.inl (e _ _ (pN h hl (by intro z;cases z)) h))
  · exact .inl (.inr ⟨o,e _ _ (pN h hl (by intro z;cases z)) h⟩)
  · exact .inr h
mutual
inductive DOf (K:PySem.W.Frag) (H:Hp):V→PyData→Prop
  | non:DOf K H .non .none
  | bl (b:Bool):DOf K H (.bl b) (.bool b)
  | int (i:Int):DOf K H (.int i) (.int i)
  | str (x:Str):DOf K H (.str x) (.str x)
  | lst {a:Addr} {xs:List V} {ds:List PyData}:SqL K H a xs→DAll K H xs ds→DOf K H (.ref a) (.list ds)
  | tup {a:Addr} {xs:List V} {ds:List PyData}:SqT K H a xs→DAll K H xs ds→DOf K H (.ref a) (.tuple ds)
inductive DAll (K:PySem.W.Frag) (H:Hp):List V→List PyData→Prop
  | nil:DAll K H [] []
  | cons {x:V} {xs:List V} {d:PyData} {ds:List PyData}:DOf K H x d→DAll K H xs ds→DAll K H (x::xs) (d::ds)
end
section
variable {X:Cx} {pins:List (Addr×Obj)} {σ:St} {H:Hp} {s:Shared}
theorem DOf.reads (I:Inv X pins σ H s) {x:V} {d:PyData} {u:Value} (h:DOf X.K H x d) (r:RelV x u):∃as,Reads s.heap u d as:=DOf.rec (motive_1:=fun x d _=>∀{u:Value},RelV x u→∃as,Reads s.heap u d as) (motive_2:=fun xs ds _=>∀{us:List Value},Vals xs us→∃as,ReadsAll s.heap us ds as)
    (fun r=>by cases r;exact ⟨_,Reads.none⟩) (fun b _ r=>by cases r;exact ⟨_,Reads.bool b⟩) (fun i _ r=>by obtain ⟨t,rfl⟩:=r;exact ⟨_,Reads.int i t⟩) (fun x _ r=>by obtain ⟨t,rfl⟩:=r;exact ⟨_,Reads.str x t⟩)
    (fun hq _ ih _ r=>by
      cases r
      obtain ⟨its,rv,⟨o,n,e,c,_,d⟩,_⟩:=I.list hq
      obtain ⟨as,q⟩:=ih rv
      exact ⟨_,reads_list_at e c d (by simpa using q)⟩)
    (fun hq _ ih _ r=>by
      cases r
      obtain ⟨its,rv,⟨o,e,c,n,d⟩,_⟩:=I.tuple hq
      obtain ⟨as,q⟩:=ih rv
      exact ⟨_,reads_tuple_at e c d (by simpa using q)⟩)
    (fun r=>by cases r;exact ⟨_,ReadsAll.nil⟩)
    (fun _ _ a b _ r=>by
      cases r with
      | cons r rt=>
        obtain ⟨as,q⟩:=a r
        obtain ⟨bs,p⟩:=b rt
        exact ⟨_,ReadsAll.cons q p⟩) h r
end
def sR (K:PySem.W.Frag):R2:=fun x y H Q=>∃d e,DOf K H x d∧DOf K H y e∧SeqAt.shaped d=true∧SeqAt.shaped e=true∧Q (.bl (PyData.eqv d e)) H
def sS (K:PySem.W.Frag):R2:=fun x y H Q=>∃d e,DOf K H x d∧DOf K H y e∧SeqAt.shaped d=true∧SeqAt.shaped e=true∧Q (.bl (!PyData.eqv d e)) H
theorem qG {X:Cx} (hu:X.A.units+64 < cLine):OpR X (compareOp .Eq) (sR X.K):=by
  intro pins s σ H x y v u Q I rx ry h
  obtain ⟨d,e,hd,he,s1,s2,q⟩:=h
  obtain ⟨as,ra⟩:=hd.reads I rx
  obtain ⟨bs,rb⟩:=he.reads I ry
  exact eq_dataH ra rb s1 s2 hu ⟨.bl _,H,I,rfl,q⟩
theorem qH {X:Cx} (hu:X.A.units+64 < cLine):OpR X (compareOp .NotEq) (sS X.K):=by
  intro pins s σ H x y v u Q I rx ry h
  obtain ⟨d,e,hd,he,s1,s2,q⟩:=h
  obtain ⟨as,ra⟩:=hd.reads I rx
  obtain ⟨bs,rb⟩:=he.reads I ry
  exact ne_dataH ra rb s1 s2 hu ⟨.bl _,H,I,rfl,q⟩
def ux (K:PySem.W.Frag) (a:Addr) (xs:List V):It:=
  ⟨fun i H=>SqL K H a xs∧i < xs.length,fun i H x H'=>H'=H∧xs.reverse[i]? =some x,fun i H=>SqL K H a xs∧i=xs.length⟩
theorem m6 {P:Program} {w:World} {K:PySem.W.Frag} {tg:Expr} (a it:Addr) (xs:List V):Turn P w K tg (ux K a xs) [it] it (fun i h=>h.IsRevIter it a ((xs.length:Int) - 1 - (i:Int))) where
  mem:=by simp
  obj:=fun i h st b hb=>by
    have e:b=it:=by simpa using hb
    subst e
    obtain ⟨o,e,c,d⟩:=st
    exact ⟨o,e,fun v z=>by rw [d] at z;cases z⟩
  keep:=fun i h h' st k=>st.at fun o e=>k it (by simp) o e
  item:=by
    intro X hP hw hK hc i pins s σ H E I hf st hg
    subst hP hw hK
    obtain ⟨hq,hx⟩:=hg
    obtain ⟨its,rv,p,hz⟩:=I.list hq
    have hlen:=rv.length
    have e0:(xs.length:Int) - 1 - (i:Int)=((xs.length - 1 - i:Nat):Int):=by omega
    have hget:xs.reverse[i]? =xs[xs.length - 1 - i]? :=List.getElem?_reverse hx
    obtain ⟨x,hx'⟩:∃x,xs[xs.length - 1 - i]? =some x:=⟨xs[xs.length - 1 - i]'(by omega),List.getElem?_eq_getElem (by omega)⟩
    obtain ⟨u,hu,ru⟩:=rv.get hx'
    obtain ⟨f0,f1,f2,f3,f4,f5⟩:=hf it (by simp)
    have st1:s.heap.IsRevIter it a ((xs.length - 1 - i:Nat):Int):=by rw [←e0];exact st
    refine wpAny_pyNext_rev_item st1 p.isList (x:=u) (by simpa using hu) fun h' st' sb=>?_
    have I1:Inv X pins σ H {s with heap:=h'}:=I.turned (t':=s.toks) (fun b o hb e=>(sb.2 b hb).trans e) f0 f1 f3 f4 f5
    have e1:((xs.length - 1 - i:Nat):Int) - 1=(xs.length:Int) - 1 - ((i+1:Nat):Int):=by omega
    have st2:h'.IsRevIter it a ((xs.length:Int) - 1 - ((i+1:Nat):Int)):=by rw [←e1];exact st'
    obtain ⟨o,e,c,d⟩:=id st'
    exact ⟨u,rfl,jz (s:={s with heap:=h'}) e c d (by decide) ⟨x,H,I1,ru,⟨rfl,hget.trans hx'⟩,st2,fun b hb=>(hf b hb).1⟩⟩
  done:=by
    intro X hP hw hK hc i pins s σ H E I hf st hg
    subst hP hw hK
    obtain ⟨hq,hx⟩:=hg
    obtain ⟨f0,f1,f2,f3,f4,f5⟩:=hf it (by simp)
    have e0:(xs.length:Int) - 1 - (i:Int)= -1:=by omega
    have st1:s.heap.IsRevIter it a (-1):=by rw [←e0];exact st
    exact wpAny_pyNext_rev_end (I.ok.hd hc) st1 fun h' eb=>⟨rfl,I.turned (t':=s.toks) (fun b o hb e=>eb b o hb e) f0 f1 f3 f4 f5⟩
  self:=fun _ _ _ _ _ st h=>wpAny_pyIter_revIter st h
section
variable {X:Cx} {tg:Expr}
def uy (K:PySem.W.Frag) (tl:TA):TI:=fun σ H R=>tl σ H fun vs H1=>∃a xs,vs=[.ref a]∧SqL K H1 a xs∧R (ux K a xs) H1
theorem qI {l:Expr} {tl:TA} {p pos:Pos} (hg:Gl X "reversed") (hm:X.mg "reversed"=none) (ha:PA X [l] tl) (hs:starEach [l] X.env=[(false,eval l X.env)]:=by rfl):PI X tg (.Call (.Name "reversed" p) [l] [] pos) (uy X.K tl):=by
  intro pins s σ H R I h
  refine Call_ (gi I hg hm boot_reversed (PyProof.Rows.callWith_type1 (b5 (ha pos pins s σ H _ I h) fun us s1 ⟨vs,H1,I1,r1,q1⟩=>?_) hs rfl))
  obtain ⟨a,xs,e,hq,q⟩:=q1
  subst e
  cases r1 with
  | cons r rr=>
    cases rr
    cases r
    obtain ⟨its,rv,p,hz⟩:=I1.list hq
    have hlen:=rv.length
    refine call_reversed_list p.isList ?_
    have hit:(s1.heap.push (revObj a (((its.toArray).size:Int) - 1))).IsRevIter s1.heap.objs.size a ((xs.length:Int) - 1 - ((0:Nat):Int)):=by
      refine ⟨_,Heap.get?_push_size _ rfl,rfl,?_⟩
      have e1:((its.toArray.size:Nat):Int) - 1=(xs.length:Int) - 1 - ((0:Nat):Int):=by rw [List.size_toArray];omega
      show Data.fields #[.ref a,rawInt ((its.toArray.size:Int) - 1)]=_
      rw [e1]
    have I2:Inv X pins σ H1 {s1 with heap:=s1.heap.push (revObj a (((its.toArray).size:Int) - 1))}:=I1.kept (t':=s1.toks) fun b o e=>Heap.get?_push_of_some _ e
    refine wpAny_pyIter_revIter hit ?_
    refine ⟨s1.heap.objs.size,[s1.heap.objs.size],_,_,H1,rfl,I2,m6 a _ xs,hit,fun b hb=>?_,q⟩
    have e:b=s1.heap.objs.size:=by simpa using hb
    subst e
    have f:=I1.fpOk (H':=H1) (Nat.le_refl _) (I1.hok.fresh (Nat.le_refl _))
    exact f
end
end L2
namespace L2
open PySem PySem.Spec PyProof.Rows
section
variable {prog:Program} {w:World} {A:Around} {R:Result→Shared→Prop} {s:Shared}
theorem i_ {elt target iter:Expr} {ifs:List Expr} {scope:Scope} {pos:Pos} {it acc:Value} {env:Env} (I:Nat→Shared→Prop)
    (turn:∀n s,I n s→wpAny (model prog w) A (pyNext it) (fun r s₁=>match r with
      | none=>R (.ok .next) s₁
      | some v=>wpAny (model prog w) A (letOwnedTupleGo target it v) (fun _ s₁'=>wpAny (model prog w) A (assign target env v) (fun _ s₂=>
          wpAny (model prog w) A (forIn ifs true fun c r=>if r=true then do let ok ←isTrue c env (eval c env);pure (ForInStep.yield ok) else pure (ForInStep.yield r)) (fun ok s₃=>
            if ok=true then wpAny (model prog w) A (eval elt env) (fun x s₄=>
              wpAny (model prog w) A (call (.builtin "list.append") [acc,x]) (fun _ s₅=>∃m,m < n∧I m s₅) (fun _ _=>False) s₄) (fun _ _=>False) s₃
            else ∃m,m < n∧I m s₃) (fun _ _=>False) s₂) (fun _ _=>False) s₁') (fun _ _=>False) s₁) (fun _ _=>False) s)
    (n:Nat) (h:I n s):
    codeAny (model prog w) A (.compLoop (.ListComp elt [⟨target,iter,ifs,0⟩] scope pos) 0 it acc env) R s:=by
  refine codeAny_loop rfl I (fun n s hI=>?_) n h
  show wpAny _ A ((compTurn (.ListComp elt [⟨target,iter,ifs,0⟩] scope pos) 0 it acc env).onRaise (fun x=>do noteFrame x env;theTreesLotGoes x)) _ _ s
  refine wpAny_noted ?_
  rw [compTurn_list]
  refine wpAny_bind (wpAny_standAt (wpAny_bind (wpAny_mono (turn n s hI) (fun r s₁ h₁=>?_) fun _ _ h'=>h'.elim)))
  cases r with
  | none=>exact wpAny_pure h₁
  | some v=>
    refine wpAny_bind (wpAny_mono h₁ (fun _ s₁' h₁'=>?_) fun _ _ h'=>h'.elim)
    refine wpAny_bind (wpAny_mono h₁' (fun _ s₂ h₂=>wpAny_bind (wpAny_mono h₂ (fun ok s₃ h₃=>?_) fun _ _ h'=>h'.elim)) fun _ _ h'=>h'.elim)
    cases ok with
    | false=>exact wpAny_pure ⟨rfl,h₃⟩
    | true=>
      exact wpAny_bind (wpAny_bind (wpAny_mono h₃ (fun x s₄ h₄=>wpAny_bind (wpAny_mono h₄ (fun _ s₅ h₅=>wpAny_pure (wpAny_pure ⟨rfl,h₅⟩)) fun _ _ h'=>h'.elim)) fun _ _ h'=>h'.elim))
end
def Cx.comp (X:Cx) (sc:Scope) (cl:List (Str×Addr)) (N:List Str) (C:Addr) (s₀:Shared) (H₀:Hp) (fp:List Addr):Cx:=
  ⟨X.prog,X.w,X.K,X.mg,X.base,X.A,N,s₀,H₀,⟨sc,C,X.env.globals,cl,X.env.qual,none,X.env.code,X.env.frame,X.env.builtins⟩,X.stack,X.stack,fp,fun _=>false,X.calm,[],fun _ _=>False⟩
def uz (X:Cx) (ifs:List Expr) (t:TT):Prop:=
  ∀(pins:List (Addr×Obj)) (s:Shared) (σ:St) (H:Hp) (Q:Bool→Hp→Prop),Inv X pins σ H s→t σ H Q→
    wpAny (model X.prog X.w) X.A (forIn ifs true fun c r=>if r=true then do let ok ←isTrue c X.env (eval c X.env);pure (ForInStep.yield ok) else pure (ForInStep.yield r)) (TP X pins σ Q) X.xe s
def uA:TT:=fun _ H Q=>Q true H
theorem oY {X:Cx}:uz X [] uA:=fun _ _ _ H _ I h=>wpAny_tests_nil ⟨H,I,h⟩
def slots (js:List (Option Nat)) (σ:St):St:=js.map fun j=>j.bind fun j=>(σ[j]?).join
def m7 (js:List (Option Nat)) (wi:TI) (g:TG) (tt:TT) (te:TE):TE:=fun σ H Q=>wi σ H fun J H1=>∀l,H1 l=none→∃W:Nat→Nat→St→Hp→Prop,(∃m,W 0 m (slots js σ) (upd H1 l (.lst [])))∧
  ∀i m σ' H',W i m σ' H'→(J.stop i H'∧Q (.ref l) H')∨(J.go i H'∧∃N:St→Hp→Prop,(∀σ' H',N σ' H'→∃m',m' < m∧W (i+1) m' σ' H')∧∀x H2,J.yld i H' x H2→g x σ' H2 fun σ3 H3=>tt σ3 H3 fun b H4=>
    if b=true then te σ3 H4 fun y H5=>∃ys,H5 l=some (.lst ys)∧ys.length < sizeLine∧N σ3 (upd H5 l (.lst (ys++[y]))) else N σ3 H4)
section
variable {X:Cx} {elt target iter:Expr} {ifs:List Expr} {scope sc:Scope} {cl:List (Str×Addr)} {N:List Str} {pos:Pos} {wi:TI} {g:TG} {tt:TT} {te:TE} {js:List (Option Nat)}
structure CompOk (X:Cx) (scope sc:Scope) (cl:List (Str×Addr)) (N:List Str) (js:List (Option Nat)):Prop where
  clos:closureFor scope X.env=pure cl
  rel:relabel scope X.env=sc
  nocell:∀y∈scope.names,y.2≠ .cell
  kind:scope.kind= .function
  names:∀y∈scope.names,y.2= .local→scope.names.lookup y.1=some .local
  same:∀x c,cl.lookup x=some c→X.env.cells.lookup x=some c
  has:∀x,(sc.names.lookup x=some .cell∨sc.names.lookup x=some .free)→∃c,cl.lookup x=some c
  len:js.length=N.length
  from_:∀(i j:Nat),js[i]? =some (some j)→∃x,N[i]? =some x∧X.N[j]? =some x∧(sc.names.lookup x=some .cell∨sc.names.lookup x=some .free)∧(X.env.kindOf x=some .cell∨X.env.kindOf x=some .free)
theorem m8 {use:Option (Value→Sem Unit)} {Qv:Value→Shared→Prop} (K:CompOk X scope sc cl N js) (hc:X.calm=true) (hi:PI X target iter wi)
    (hgg:∀C s₀ H₀ fp,PG (X.comp sc cl N C s₀ H₀ fp) target g) (htt:∀C s₀ H₀ fp,uz (X.comp sc cl N C s₀ H₀ fp) ifs tt) (hee:∀C s₀ H₀ fp,PE (X.comp sc cl N C s₀ H₀ fp) elt te)
    (hs:∀x,foldedSetIterable iter X.env x=pure x) (pins:List (Addr×Obj)) (s:Shared) (σ:St) (H:Hp) (Q:VK) (I:Inv X pins σ H s) (h:m7 js wi g tt te σ H Q)
    (hend:∀(D C:Addr) (H4:Hp) (s5:Shared) (m:Str→Option Value),Inv X pins σ H4 s5→s5.heap.Ns C m→H4 C=none→C≠X.env.locals→C∉X.fs→X.s₀.heap.objs.size≤C→(∀x c,X.env.cells.lookup x=some c→c≠C)→(∀p∈X.pn++pins,p.1≠C)→Q (.ref D) H4→
      compPost (model X.prog X.w) X.A X.xe use Qv (.ref D) C (.ok .next) s5):
    wpAny (model X.prog X.w) X.A (comprehension (.ListComp elt [⟨target,iter,ifs,0⟩] scope pos) scope X.env (firstIterPos [⟨target,iter,ifs,0⟩] pos) (newList []) false (firstIter [⟨target,iter,ifs,0⟩] X.env) use) Qv X.xe s:=by
  refine wpAny_comprehension_free (use:=use) rfl hs K.clos K.kind K.names (b5 (hi pins s σ H _ I h) fun v s1 h1=>b5 h1 fun itv s2 h2=>?_)
  obtain ⟨it,fp,tn,J,H2,e,I2,T,st2,f2,R⟩:=h2
  subst e
  refine wpAny_newObj_type (wpAny_newFunctionEnv K.nocell (by intro y hy;simp at hy) (fun h₁ hns₁ hsb₁=>?_) K.kind)
  dsimp only at hns₁ hsb₁ ⊢
  have I3:Inv X pins σ (upd H2 s2.heap.objs.size (.lst [])) {s2 with heap:=s2.heap.push {cls:= .type "list",dict:=none,data:= .seq ([]:List Value).toArray}}:=
    I2.lnew (t':=s2.toks) (its:=[]) .nil (Nat.zero_le _)
  obtain ⟨W,⟨m0,w0⟩,turn⟩:=R s2.heap.objs.size (I2.hok.fresh (Nat.le_refl _))
  generalize hP:s2.heap.push {cls:= .type "list",dict:=none,data:= .seq ([]:List Value).toArray}=h3 at hns₁ hsb₁ I3 ⊢
  generalize hD:s2.heap.objs.size=D at w0 turn I3 ⊢
  have hsz3:h3.objs.size=D+1:=by rw [←hP,Heap.size_push,hD]
  have old3:∀b o,s2.heap.get? b=some o→h3.get? b=some o:=fun b o e=>by rw [←hP];exact Heap.get?_push_of_some _ e
  have old:∀b o,h3.get? b=some o→h₁.get? b=some o:=fun b o e=>hsb₁.extBut b o (Nat.ne_of_lt (Heap.lt_size e)) (Heap.get?_push_of_some _ e)
  have fpD:∀b∈fp,b < D:=fun b hb=>by
    obtain ⟨o,e,_⟩:=T.obj _ _ st2 b hb
    rw [←hD];exact Heap.lt_size e
  have frD:∀b∈fp,(upd H2 D (.lst [])) b=none:=fun b hb=>by rw [az (Nat.ne_of_lt (fpD b hb))];exact (f2 b hb).1
  have f3:∀b∈fp,il X pins (upd H2 D (.lst [])) b:=fun b hb=>⟨frD b hb,(f2 b hb).2⟩
  have Hfresh:∀a,h3.objs.size≤a→(upd H2 D (.lst [])) a=none:=fun a ha=>I3.hok.fresh ha
  have cellC:∀x c,X.env.cells.lookup x=some c→c < h3.objs.size:=fun x c e=>by
    obtain ⟨v,q⟩:=I3.cell x c e
    exact q.lt
  have YOk:(X.comp sc cl N h3.objs.size {s2 with heap:=h3} (upd H2 D (.lst [])) fp).Ok:=by
    refine ⟨I3.ok.mod,?_,I3.ok.glob,I3.ok.blt,Nat.le_refl _,fun x y c e1 e2=>I3.ok.inj x y c (K.same x c e1) (K.same y c e2),fun x hx=>K.has x hx,fun x c hf _=>absurd hf (by intro z;cases z),I3.ok.hd,I3.ok.frames, .inl rfl,fun b hb=>⟨?_,fun x c e=>(f2 b hb).2.2.2.2.1 x c (K.same x c e)⟩,
      I3.bs,Nat.le_trans I3.ok.bsz I3.sz,fun b o e hb=>?_,fun b hb hm=>?_,I3.stack,I3.stkFree,I3.tab⟩
    · rw [←K.rel];exact K.kind
    · exact Nat.ne_of_lt (by rw [hsz3];exact Nat.lt_succ_of_lt (fpD b hb))
    · rcases (f2 b hb).2.2.2.1 with z | z
      · exact I3.ok.noex b o e z
      · exact absurd (Nat.lt_of_lt_of_le (Heap.lt_size (I3.ok.bs b o e).1) z) (Nat.lt_irrefl _)
    · rcases List.mem_cons.mp (I3.stkSub b hm) with z | z
      · exact (f2 b hb).2.1 z
      · exact (f2 b hb).2.2.1 z
  have IY:Inv (X.comp sc cl N h3.objs.size {s2 with heap:=h3} (upd H2 D (.lst [])) fp) [] (slots js σ) (upd H2 D (.lst [])) {s2 with heap:=h₁,toks:=s2.toks+([]:List (Str×Value)).length}:=by
    refine ⟨YOk,rfl,I3.bare,Un.kept old,⟨_,hns₁,fun i x v e1 e2 e3=>?_⟩,fun x c e=>?_,Hfresh _ (Nat.le_refl _),fun x c e=>I3.freeC x c (K.same x c e),fun p hp=>absurd (show p∈([]:List (Addr×Obj)) from hp) (by simp),I3.hok.kept old,?_⟩
    · unfold slots at e2
      rw [List.getElem?_map] at e2
      cases ej:js[i]? with
      | none=>rw [ej] at e2;cases e2
      | some jo=>
        rw [ej] at e2
        cases jo with
        | none=>cases e2
        | some j=>
          obtain ⟨y,n1,n2,k1,k2⟩:=K.from_ i j ej
          have exy:y=x:=Option.some.inj (n1.symm.trans e1)
          subst exy
          have e2':(σ[j]?).join=some v:=Option.some.inj e2
          have e4:σ[j]? =some (some v):=by
            cases es:σ[j]? with
            | none=>rw [es] at e2';cases e2'
            | some w=>rw [es] at e2';exact congrArg some e2'
          obtain ⟨m,_,hl⟩:=I3.loc
          obtain ⟨u,ru,lk⟩:=hl j y v n2 e4 (by
            rcases k2 with z | z
            · exact .inr (.inl z)
            · exact .inr (.inr z))
          refine ⟨u,ru, .inr ⟨k1,?_⟩⟩
          obtain ⟨c,hcl⟩:=K.has y k1
          refine ⟨c,hcl,?_⟩
          rcases lk with ⟨z,_⟩ | ⟨_,c',e5,ic⟩
          · rcases k2 with q | q
            · rw [q] at z;cases z
            · rw [q] at z;cases z
          · have:c'=c:=Option.some.inj (e5.symm.trans (K.same y c hcl))
            subst this
            obtain ⟨o,ho,hd⟩:=ic
            exact ⟨o,old _ _ ho,hd⟩
    · obtain ⟨v,o,ho,hd⟩:=I3.cell x c (K.same x c e)
      exact ⟨v,o,old _ _ ho,hd⟩
    · unfold slots;rw [List.length_map];exact K.len
  have loop:∀s₃:Shared,s₃={s2 with heap:=h₁,toks:=s2.toks+([]:List (Str×Value)).length}→
      codeAny (model X.prog X.w) X.A (.compLoop (.ListComp elt [⟨target,iter,ifs,0⟩] scope pos) 0 (.ref it) (.ref D) (X.comp sc cl N h3.objs.size {s2 with heap:=h3} (upd H2 D (.lst [])) fp).env)
        (compPost (model X.prog X.w) X.A X.xe use Qv (.ref D) h3.objs.size) s₃:=by
    rintro s₃ rfl
    refine i_ (fun n s'=>∃i σ' H',Inv (X.comp sc cl N h3.objs.size {s2 with heap:=h3} (upd H2 D (.lst [])) fp) [] σ' H' s'∧tn i s'.heap∧(∀b∈fp,H' b=none)∧W i n σ' H') ?_ m0
      ⟨0,_,_,IY,T.keep _ _ _ st2 (fun b hb o e=>old b o (old3 b o e)),frD,w0⟩
    rintro n s4 ⟨i,σ4,H4,I4,st4,fr4,w4⟩
    have ff:∀{H':Hp},(∀b∈fp,H' b=none)→∀b∈fp,il (X.comp sc cl N h3.objs.size {s2 with heap:=h3} (upd H2 D (.lst [])) fp) [] H' b:=fun hn b hb=>
      ⟨hn b hb,(YOk.exf b hb).1,YOk.exfs b hb, .inl hb,(YOk.exf b hb).2,fun p hp=>absurd (show p∈([]:List (Addr×Obj)) from hp) (by simp)⟩
    have hg:=hgg h3.objs.size {s2 with heap:=h3} (upd H2 D (.lst [])) fp
    have ht:=htt h3.objs.size {s2 with heap:=h3} (upd H2 D (.lst [])) fp
    have he:=hee h3.objs.size {s2 with heap:=h3} (upd H2 D (.lst [])) fp
    rcases turn i n σ4 H4 w4 with ⟨stop,qn⟩ | ⟨go,Nx,hN,step⟩
    · refine b5 (T.done (X.comp sc cl N h3.objs.size {s2 with heap:=h3} (upd H2 D (.lst [])) fp) rfl rfl rfl hc i [] s4 σ4 H4 _ I4 (ff fr4) st4 stop) fun r s5 ⟨hr,I5⟩=>?_
      subst hr
      obtain ⟨m,hn,_⟩:=I5.loc
      have IX:Inv X pins σ H4 s5:=I3.call' (ch:=fp) I5.os I5.base I5.hok I5.bare fun b hb=>⟨(f3 b hb).2.2.2.1,(f3 b hb).2.1,(f3 b hb).2.2.2.2.1,(f3 b hb).2.2.2.2.2⟩
      exact hend D h3.objs.size H4 s5 m IX hn I5.free (Ne.symm (Nat.ne_of_lt I3.lt)) (I3.nofs (Nat.le_refl _)) I3.sz (fun x c e=>Nat.ne_of_lt (cellC x c e)) (fun p hp=>Nat.ne_of_lt (Heap.lt_size (I3.pin p hp).1)) qn
    · refine b5 (T.item (X.comp sc cl N h3.objs.size {s2 with heap:=h3} (upd H2 D (.lst [])) fp) rfl rfl rfl hc i [] s4 σ4 H4 _ I4 (ff fr4) st4 go) fun r s5 ⟨u,hr,h5⟩=>?_
      subst hr
      refine b5 h5 fun _ s6 ⟨x,H6,I6,r6,y6,st6,fr6⟩=>?_
      have I6':=I6.pinned (ff fr6) (T.obj _ _ st6)
      have back:∀{σ7:St} {H7:Hp} {s7:Shared},Inv (X.comp sc cl N h3.objs.size {s2 with heap:=h3} (upd H2 D (.lst [])) fp) ([]++gU fp s6.heap) σ7 H7 s7→
          Inv (X.comp sc cl N h3.objs.size {s2 with heap:=h3} (upd H2 D (.lst [])) fp) [] σ7 H7 s7∧tn (i+1) s7.heap∧∀b∈fp,H7 b=none:=fun {σ7 H7 s7} I7=>
        ⟨I7.unpinned,T.keep _ _ _ st6 fun b hb o e=>(I7.pin (b,o) (List.mem_append_right _ (List.mem_append_right _ (dZ hb e)))).1,fun b hb=>by
          obtain ⟨o,e,d⟩:=T.obj _ _ st6 b hb
          exact (I7.pin (b,o) (List.mem_append_right _ (List.mem_append_right _ (dZ hb e)))).2.1⟩
      refine b5 (hg _ s6 σ4 H6 x u _ I6' r6 (step x H6 y6)) fun _ s7 ⟨σ7,H7,I7,q7⟩=>?_
      refine b5 (ht _ s7 σ7 H7 _ I7 q7) fun b s8 ⟨H8,I8,q8⟩=>?_
      cases b with
      | false=>
        obtain ⟨m',hm,w8⟩:=hN σ7 H8 q8
        obtain ⟨J1,J2,J3⟩:=back I8
        exact ⟨m',hm,i+1,σ7,H8,J1,J2,J3,w8⟩
      | true=>
        refine b5 (he _ s8 σ7 H8 _ I8 q8) fun yv s9 ⟨y,H9,I9,r9,ys,hl,hz,n9⟩=>?_
        obtain ⟨m',hm,w9⟩:=hN _ _ n9
        refine b5 (iI _ s9 σ7 H9 (.ref D) [y] (.ref D) [yv] (fun v H'=>v= .non∧H'=upd H9 D (.lst (ys++[y]))) I9 rfl (.cons r9 .nil) ⟨D,ys,y,rfl,rfl,hl,hz,rfl,rfl⟩) fun _ sA ⟨_,HA,IA,_,_,eA⟩=>?_
        subst eA
        obtain ⟨J1,J2,J3⟩:=back IA
        exact ⟨m',hm,i+1,σ7,_,J1,J2,J3,w9⟩
  rw [K.rel]
  exact codeAny_compStart_list (loop _ rfl) (T.self _ 0 _ _ _ (T.keep _ _ _ st2 (fun b hb o e=>old b o (old3 b o e))) (loop _ rfl))
theorem oZ (K:CompOk X scope sc cl N js) (hc:X.calm=true) (hi:PI X target iter wi)
    (hgg:∀C s₀ H₀ fp,PG (X.comp sc cl N C s₀ H₀ fp) target g) (htt:∀C s₀ H₀ fp,uz (X.comp sc cl N C s₀ H₀ fp) ifs tt) (hee:∀C s₀ H₀ fp,PE (X.comp sc cl N C s₀ H₀ fp) elt te)
    (hs:∀x,foldedSetIterable iter X.env x=pure x:=by intro _;rfl):PE X (.ListComp elt [⟨target,iter,ifs,0⟩] scope pos) (m7 js wi g tt te):=by
  intro pins s σ H Q I h
  rw [eval_ListComp]
  refine m8 (use:=none) K hc hi hgg htt hee hs pins s σ H Q I h fun D C H4 s5 m IX hn fC nL _ sz nc np qn=>?_
  exact ⟨m,hn,fun h' hs'=>⟨.ref D,H4,IX.turned (t':=s5.toks) (it:=C) (fun b o hb e=>(hs'.2 b hb).trans e) fC nL (.inr sz) nc np,rfl,qn⟩⟩
end
end L2
namespace L2
open PySem PySem.Spec PyProof.Rows
theorem g_ {X:Cx} {scope:Scope} {N:List Str} {js:List (Option Nat)} (hf:∀x∈scope.names,x.2≠ .free:=by decide+kernel) (hcell:∀x∈scope.names,x.2≠ .cell:=by decide+kernel)
    (hk:scope.kind= .function:=by rfl) (hn:∀y∈scope.names,y.2= .local→scope.names.lookup y.1=some .local:=by decide+kernel) (hl:js.length=N.length:=by rfl) (hj:∀j∈js,j=none:=by decide):CompOk X scope scope [] N js where
  clos:=closureFor_none hf
  rel:=by
    unfold relabel
    have e:(scope.names.map fun (x:Str×NameKind)=>match x with | (n,k)=>if (k == .free&&X.env.scope.kind == .function&&X.env.kindOf n == some .cell) then (n,NameKind.cell) else (n,k))=scope.names:=by
      refine map_eq_self fun x hx=>?_
      obtain ⟨n,k⟩:=x
      have:(k == NameKind.free)=false:=by simpa using hf _ hx
      simp [this]
    rw [e]
  nocell:=hcell
  kind:=hk
  names:=hn
  same:=fun x c e=>by simp at e
  has:=fun x h=>by
    rcases h with h | h
    · exact absurd rfl (hcell _ (PySem.mem_of_lookup h))
    · exact absurd rfl (hf _ (PySem.mem_of_lookup h))
  len:=hl
  from_:=fun i j h=>by
    have:=hj _ (List.mem_of_getElem? h)
    cases this
structure Own (P:Program) (w:World) (K:PySem.W.Frag) (mg:Str→Option Value) (base:Heap) (k:Nat) (x:Str) (ps:List Str) (sp:Sp):Prop where
  ex:∃(f:Addr) (fd:FuncData),FnOk P w K mg base ku k f fd ps sp∧Binds K fd ps []∧mg x=some (.ref f)∧PySem.W.keepIn K (.ref f)=true
theorem m9 {X:Cx} {k:Nat} {x:Str} {ps:List Str} {sp:Sp} {p pos:Pos} {e:Expr} {es:List Expr} {t:TA} (D:Own X.prog X.w X.K X.mg X.base k x ps sp) (hr:Room k X.A) (hg:Gl X x) (ha:PA X (e::es) t)
    (hdb:(x == ("__debug__":Str))=false:=by decide) (he:starEach (e::es) X.env=(false,eval e X.env)::starEach es X.env:=by rfl) (hpl:(backTo pos (starEach es X.env)).any (·.1)=false:=by rfl):
    PE X (.Call (.Name x p) (e::es) [] pos) (mQ sp [] E0 t):=by
  obtain ⟨f,fd,F,b,m,kp⟩:=D.ex
  exact oQ F hr hg m kp b .nil sO ha hdb he hpl
structure Def (K:PySem.W.Frag) (mg:Str→Option Value) (x:Str) (st:Stmt) (ps:List Str):Prop where
  ex:∃(f:Addr) (fd:FuncData),Fun K x x st f fd∧mg x=some (.ref f)∧Binds K fd ps []
theorem Def.own {P:Program} {w:World} {K:PySem.W.Frag} {mg:Str→Option Value} {base:Heap} {x:Str} {st:Stmt} {N ps:List Str} {k:Nat} {sp:Sp} (D:Def K mg x st ps) (S:FnScope N ps (ai st))
    (len:∀vs H Q E,sp vs H Q E→vs.length=ps.length)
    (hbody:∀(f:Addr) (cdv:Value) (A:Around) (outer:List Env) (s:Shared) (H:Hp) (vs:List V) (Q:VK) (E:XK),Room k (A.deeper (envOfC x (ai st) s.heap.objs.size f cdv))→sp vs H Q E→
      ∃t,PSs (eK ku P w K mg base N x (ai st) f cdv A outer s H E).nox (aE st) t∧t {nx:=fun _ H'=>Q .non H',rt:=Q} (de N vs) H):Own P w K mg base (k+1) x ps sp:=by
  obtain ⟨f,fd,F,m,b⟩:=D.ex
  exact ⟨f,fd,F.ok S len (hbody f),b,m,F.kp⟩
theorem b_ {K:PySem.W.Frag} {h:Heap} {mg:Str→Option Value} {x:Str} {st:Stmt} {ps:List Str} {f:Addr} {oc:Value} {od an:Option Addr} {osl:Array (Option Value)} {kV doc pm cdv ct:Value} (X:K.In h) (G:h.Ns mainGlobals mg)
    (a:PySem.W.nsIn K mainGlobals x=some (some (.ref f))) (l:K.lookup f=some ⟨oc,od, .func (PySem.W.fnOf x x (aQ st) (aE st) (ai st) .none kV doc pm an cdv ct),osl⟩)
    (c:PySem.W.codeIn K cdv x=true) (k:PySem.W.keepIn K (.ref f)=true)
    (b:∀(kV doc pm:Value) (an:Option Addr) (cdv ct:Value) (us:List Value),us.length=ps.length→bindArgs (PySem.W.fnOf x x (aQ st) (aE st) (ai st) .none kV doc pm an cdv ct) ⟨us,[]⟩=pure (ps.zip us)):Def K mg x st ps:=
  ⟨f,_,kw l c k,PySem.W.mg_of X G a,(kw (st:=st) l c k).binds b⟩
end L2
namespace Nh
open PySem L2
section
variable {α β:Type} {F:α→β→Prop}
theorem e_:∀{a:List α} {b:List β} {c:List α} {d:List β},Paired F a b→Paired F c d→Paired F (a++c) (b++d)
  | _,_,_,_, .nil,s=>s
  | _,_,_,_, .cons r t,s=> .cons r (e_ t s)
theorem k_:∀{a:List α} {b:List β} (n:Nat),Paired F a b→Paired F (a.take n) (b.take n)
  | _,_,0,_=> .nil
  | _,_,_+1, .nil=> .nil
  | _,_,n+1, .cons r t=> .cons r (k_ n t)
theorem lf:∀{a:List α} {b:List β} (n:Nat),Paired F a b→Paired F (a.drop n) (b.drop n)
  | _,_,0,r=>r
  | _,_,_+1, .nil=> .nil
  | _,_,n+1, .cons _ t=>lf n t
theorem fA:∀{a:List α} {b:List β},Paired F a b→Paired F a.reverse b.reverse
  | _,_, .nil=> .nil
  | _,_, .cons r t=>by
    rw [List.reverse_cons,List.reverse_cons]
    exact e_ (fA t) (.cons r .nil)
theorem lg:∀{a:List α} {b:List β} {i:Nat} {y:β},Paired F a b→b[i]? =some y→∃x,a[i]? =some x∧F x y
  | _,_,_,_, .nil,e=>by simp at e
  | _,_,0,_, .cons r _,e=>by simp at e;subst e;exact ⟨_,rfl,r⟩
  | _,_,i+1,x, .cons _ t,e=>by
    obtain ⟨u,h1,h2⟩:=lg (i:=i) (y:=x) t (by simpa using e)
    exact ⟨u,by simpa using h1,h2⟩
theorem m_ {a:List α} {b:List β} (h:Paired F a b):∀k:Nat,Paired F (List.replicate k a).flatten (List.replicate k b).flatten
  | 0=> .nil
  | k+1=>by
    rw [List.replicate_succ,List.replicate_succ,List.flatten_cons,List.flatten_cons]
    exact e_ h (m_ h k)
end
abbrev Pc:=Nat×Int
def tv (p:Pc):List V:=[.str ⟨#[p.1]⟩, .int p.2]
def uB (H:Hp) (v:V) (p:Pc):Prop:=∃t,v= .ref t∧H t=some (.tup (tv p))
abbrev PAll (H:Hp):List V→List Pc→Prop:=Paired (uB H)
section
variable {H H':Hp} {l:Addr} {xs ys:List V} {c:List Pc}
theorem PAll.same (s:Same H H') (h:PAll H xs c):PAll H' xs c:=Paired.mapP h fun _ _ ⟨t,e,q⟩=>⟨t,e,s _ _ q⟩
theorem PAll.len (h:PAll H xs c):xs.length=c.length:=Paired.length h
end
def Cord (H:Hp) (a:Addr) (c:List Pc):Prop:=∃xs,H a=some (.lst xs)∧PAll H xs c
section
variable {H H':Hp} {a:Addr} {c d:List Pc}
theorem Cord.same (s:Same H H') (h:Cord H a c):Cord H' a c:=let ⟨xs,e,p⟩:=h;⟨xs,s _ _ e,p.same s⟩
end
def aF (p:Pc):PyData:= .tuple [.str ⟨#[p.1]⟩, .int p.2]
def fq (c:List Pc):PyData:= .list (c.map aF)
def NailsOk (c:List Pc):Prop:=∀p∈c,p.1 < 128
theorem iM {K:PySem.W.Frag} {H:Hp}:∀{xs:List V} {c:List Pc},PAll H xs c→DAll K H xs (c.map aF)
  | _,_, .nil=> .nil
  | _,_, .cons ⟨t,e,q⟩ r=>by
    subst e
    exact .cons (.tup (SqT.of q) (.cons (.str _) (.cons (.int _) .nil))) (iM r)
theorem Cord.data {K:PySem.W.Frag} {H:Hp} {a:Addr} {c:List Pc} (h:Cord H a c):DOf K H (.ref a) (fq c):=
  let ⟨_,e,p⟩:=h; .lst (SqL.of e) (iM p)
theorem pS {p:Pc} (h:p.1 < 128):(aF p).canLay0=true:=by
  have:p.1 < 1114112:=by omega
  simp [aF,PyData.canLay0,PyData.canLayAll0,PyData.strOk,this]
theorem jF:∀{c:List Pc},NailsOk c→PyData.canLayAll0 (c.map aF)=true∧PyData.depthAll (c.map aF)≤1
  | [],_=>by simp [PyData.canLayAll0,PyData.depthAll]
  | p::c,h=>by
    have ih:=jF (c:=c) fun q hq=>h q (List.mem_cons_of_mem _ hq)
    have h1:=pS (h p (List.mem_cons_self ..))
    have h2:=ih.2
    simp only [List.map_cons,PyData.canLayAll0,PyData.depthAll,h1,ih.1,Bool.and_self,true_and]
    have h3:(aF p).depth=1:=by simp [aF,PyData.depth,PyData.depthAll]
    omega
theorem gx {c:List Pc} (h:NailsOk c):SeqAt.shaped (fq c)=true:=by
  have q:=jF h
  have q2:=q.2
  unfold SeqAt.shaped
  simp only [fq,PyData.canLay0,PyData.depth,q.1,Bool.true_and]
  exact decide_eq_true (by omega)
theorem nb (p q:Pc):PyData.eqv (aF p) (aF q)=decide (p=q):=by
  obtain ⟨n,a⟩:=p
  obtain ⟨m,b⟩:=q
  simp only [aF,PyData.eqv,PyData.eqvAll,Bool.and_true]
  rw [Bool.eq_iff_iff]
  simp
theorem iN:∀c d:List Pc,PyData.eqvAll (c.map aF) (d.map aF)=decide (c=d)
  | [],[]=>by simp [PyData.eqvAll]
  | [],_::_=>by simp [PyData.eqvAll]
  | _::_,[]=>by simp [PyData.eqvAll]
  | p::c,q::d=>by
    simp only [List.map_cons,PyData.eqvAll,nb,iN c d]
    rw [Bool.eq_iff_iff]
    simp
theorem ng (c d:List Pc):PyData.eqv (fq c) (fq d)=decide (c=d):=by
  simp only [fq,PyData.eqv,iN]
end Nh
namespace PL
open PySem PySem.Spec PyProof.Rows L2 Nh
def uC:cN→PyData
  | .inl i=> .int i
  | .inr x=> .str x
def dP (a C:Addr):Heap→Prop:=fun h=>∃o,h.get? a=some o∧o.cls= .ref C
mutual
inductive Rp (K:PySem.W.Frag) (H:Hp):V→PyData→Prop
  | non:Rp K H .non .none
  | bl (b:Bool):Rp K H (.bl b) (.bool b)
  | int (i:Int):Rp K H (.int i) (.int i)
  | str (x:Str):Rp K H (.str x) (.str x)
  | lst {a:Addr} {xs:List V} {ds:List PyData}:SqL K H a xs→RpA K H xs ds→Rp K H (.ref a) (.list ds)
  | tup {a:Addr} {xs:List V} {ds:List PyData}:SqT K H a xs→RpA K H xs ds→Rp K H (.ref a) (.tuple ds)
  | dct {a:Addr} {us:List (cN×V)} {kvs:List (PyData×PyData)}:Rd H a (.dK us)→RpK K H us kvs→Rp K H (.ref a) (.dict kvs)
  | exc {a C:Addr} {n:Str}:H a=some (.ext (dP a C))→PySem.W.nsIn K mainGlobals n=some (some (.ref C))→Rp K H (.ref a) (.dict [(.none, .str n)])
inductive RpA (K:PySem.W.Frag) (H:Hp):List V→List PyData→Prop
  | nil:RpA K H [] []
  | cons {x:V} {xs:List V} {d:PyData} {ds:List PyData}:Rp K H x d→RpA K H xs ds→RpA K H (x::xs) (d::ds)
inductive RpK (K:PySem.W.Frag) (H:Hp):List (cN×V)→List (PyData×PyData)→Prop
  | nil:RpK K H [] []
  | cons {k:cN} {x:V} {us:List (cN×V)} {d:PyData} {kvs:List (PyData×PyData)}:Rp K H x d→RpK K H us kvs→RpK K H ((k,x)::us) ((uC k,d)::kvs)
end
mutual
def cb:PyData→Bool
  | .none=>true
  | .bool _=>true
  | .int _=>true
  | .str _=>true
  | .list _=>false
  | .tuple xs=>aS xs
  | .dict _=>false
def aS:List PyData→Bool
  | []=>true
  | d::ds=>cb d&&aS ds
end
def pT:HO→Bool
  | .tup _=>true
  | .frz _ _=>true
  | _=>false
def tups (H:Hp):Hp:=fun b=>(H b).filter pT
theorem gl (H:Hp):Same (tups H) H:=fun b o h=>(Option.filter_eq_some_iff.mp h).1
theorem fQ {H:Hp} {b:Addr} {o:HO} (h:H b=some o) (c:pT o=true):tups H b=some o:=Option.filter_eq_some_iff.mpr ⟨h,c⟩
theorem hG {H:Hp} {l:Addr} {xs ys:List V} (h:H l=some (.lst xs)):tups (upd H l (.lst ys))=tups H:=by
  funext b
  unfold tups
  by_cases e:b=l
  · subst e
    rw [bi,h]
    rfl
  · rw [az e]
section
variable {K:PySem.W.Frag} {H H':Hp}
theorem jG {a:Addr} {xs:List V} (h:SqT K H a xs):SqT K (tups H) a xs:=by
  rcases h with (h | ⟨o,h⟩) | h
  · exact .inl (.inl (fQ h rfl))
  · exact .inl (.inr ⟨o,fQ h rfl⟩)
  · exact .inr h
theorem ja {a:Addr} {u:HO} (s:Same H H') (h:Rd H a u):Rd H' a u:=by
  rcases h with h | ⟨o,h⟩
  · exact .inl (s _ _ h)
  · exact .inr ⟨o,s _ _ h⟩
theorem Rp.same (s:Same H H') {v:V} {d:PyData} (h:Rp K H v d):Rp K H' v d:=Rp.rec (motive_1:=fun v d _=>Rp K H' v d) (motive_2:=fun v d _=>RpA K H' v d) (motive_3:=fun v d _=>RpK K H' v d) .non .bl .int .str (fun h _ r=> .lst (s.seq h) r) (fun h _ r=> .tup (s.tup h) r) (fun h _ r=> .dct (ja s h) r) (fun h r=> .exc (s _ _ h) r) .nil (fun _ _ a b=> .cons a b) .nil (fun _ _ a b=> .cons a b) h
theorem RpA.same (s:Same H H') {v:List V} {d:List PyData} (h:RpA K H v d):RpA K H' v d:=RpA.rec (motive_1:=fun v d _=>Rp K H' v d) (motive_2:=fun v d _=>RpA K H' v d) (motive_3:=fun v d _=>RpK K H' v d) .non .bl .int .str (fun h _ r=> .lst (s.seq h) r) (fun h _ r=> .tup (s.tup h) r) (fun h _ r=> .dct (ja s h) r) (fun h r=> .exc (s _ _ h) r) .nil (fun _ _ a b=> .cons a b) .nil (fun _ _ a b=> .cons a b) h
theorem RpK.same (s:Same H H') {v:List (cN×V)} {d:List (PyData×PyData)} (h:RpK K H v d):RpK K H' v d:=RpK.rec (motive_1:=fun v d _=>Rp K H' v d) (motive_2:=fun v d _=>RpA K H' v d) (motive_3:=fun v d _=>RpK K H' v d) .non .bl .int .str (fun h _ r=> .lst (s.seq h) r) (fun h _ r=> .tup (s.tup h) r) (fun h _ r=> .dct (ja s h) r) (fun h r=> .exc (s _ _ h) r) .nil (fun _ _ a b=> .cons a b) .nil (fun _ _ a b=> .cons a b) h
theorem Rp.cold {v:V} {d:PyData} (h:Rp K H v d) (e:cb d=true):Rp K (tups H) v d:=Rp.rec (motive_1:=fun v d _=>cb d=true→Rp K (tups H) v d) (motive_2:=fun v d _=>aS d=true→RpA K (tups H) v d) (motive_3:=fun _ _ _=>True) (fun _=> .non) (fun b _=> .bl b) (fun i _=> .int i) (fun x _=> .str x) (fun _ _ _ e=>nomatch e) (fun h _ r e=> .tup (jG h) (r e)) (fun _ _ _ e=>nomatch e) (fun _ _ e=>nomatch e) (fun _=> .nil) (fun _ _ a b e=> .cons (a (Bool.and_eq_true_iff.mp e).1) (b (Bool.and_eq_true_iff.mp e).2)) trivial (fun _ _ _ _=>trivial) h e
theorem RpA.cold {v:List V} {d:List PyData} (h:RpA K H v d) (e:aS d=true):RpA K (tups H) v d:=RpA.rec (motive_1:=fun v d _=>cb d=true→Rp K (tups H) v d) (motive_2:=fun v d _=>aS d=true→RpA K (tups H) v d) (motive_3:=fun _ _ _=>True) (fun _=> .non) (fun b _=> .bl b) (fun i _=> .int i) (fun x _=> .str x) (fun _ _ _ e=>nomatch e) (fun h _ r e=> .tup (jG h) (r e)) (fun _ _ _ e=>nomatch e) (fun _ _ e=>nomatch e) (fun _=> .nil) (fun _ _ a b e=> .cons (a (Bool.and_eq_true_iff.mp e).1) (b (Bool.and_eq_true_iff.mp e).2)) trivial (fun _ _ _ _=>trivial) h e
theorem Rp.dof' {v:V} {d:PyData} (h:Rp K H v d) (e:d.canLay0=true):DOf K H v d:=Rp.rec (motive_1:=fun v d _=>d.canLay0=true→DOf K H v d) (motive_2:=fun v d _=>PyData.canLayAll0 d=true→DAll K H v d) (motive_3:=fun _ _ _=>True) (fun _=> .non) (fun b _=> .bl b) (fun i _=> .int i) (fun x _=> .str x) (fun h _ r e=> .lst h (r e)) (fun h _ r e=> .tup h (r e)) (fun _ _ _ e=>nomatch e) (fun _ _ e=>nomatch e) (fun _=> .nil) (fun _ _ a b e=> .cons (a (Bool.and_eq_true_iff.mp e).1) (b (Bool.and_eq_true_iff.mp e).2)) trivial (fun _ _ _ _=>trivial) h e
theorem Rp.dof {v:V} {d:PyData} (h:Rp K H v d) (e:SeqAt.shaped d=true):DOf K H v d:=h.dof' (SeqAt.canLay_of_shaped e)
theorem RpA.pr {vs:List V} {ds:List PyData} (h:RpA K H vs ds):Paired (Rp K H) vs ds:=RpA.rec (motive_1:=fun _ _ _=>True) (motive_2:=fun v d _=>Paired (Rp K H) v d) (motive_3:=fun _ _ _=>True) trivial (fun _=>trivial) (fun _=>trivial) (fun _=>trivial) (fun _ _ _=>trivial) (fun _ _ _=>trivial) (fun _ _ _=>trivial) (fun _ _=>trivial) .nil (fun h _ _ b=> .cons h b) trivial (fun _ _ _ _=>trivial) h
theorem RpA.of {vs:List V} {ds:List PyData} (h:Paired (Rp K H) vs ds):RpA K H vs ds:=by
  induction h with
  | nil=>exact .nil
  | cons a _ b=>exact .cons a b
theorem RpA.len {vs:List V} {ds:List PyData} (h:RpA K H vs ds):vs.length=ds.length:=Paired.length h.pr
theorem RpA.append {vs us:List V} {ds es:List PyData} (h:RpA K H vs ds) (k:RpA K H us es):RpA K H (vs++us) (ds++es):= .of (e_ h.pr k.pr)
theorem RpA.take {vs:List V} {ds:List PyData} (n:Nat) (h:RpA K H vs ds):RpA K H (vs.take n) (ds.take n):= .of (k_ n h.pr)
theorem RpA.drop {vs:List V} {ds:List PyData} (n:Nat) (h:RpA K H vs ds):RpA K H (vs.drop n) (ds.drop n):= .of (lf n h.pr)
theorem RpA.rev {vs:List V} {ds:List PyData} (h:RpA K H vs ds):RpA K H vs.reverse ds.reverse:= .of (fA h.pr)
theorem RpA.rep {vs:List V} {ds:List PyData} (n:Nat) (h:RpA K H vs ds):RpA K H (List.replicate n vs).flatten (List.replicate n ds).flatten:= .of (m_ h.pr n)
theorem RpA.get {vs:List V} {ds:List PyData} {i:Nat} {d:PyData} (h:RpA K H vs ds) (e:ds[i]? =some d):∃v,vs[i]? =some v∧Rp K H v d:=lg h.pr e
theorem RpA.set:∀{vs:List V} {ds:List PyData} {v:V} {d:PyData} (i:Nat),RpA K H vs ds→Rp K H v d→RpA K H (vs.set i v) (ds.set i d)
  | _,_,_,_,_, .nil,_=> .nil
  | _,_,_,_,0, .cons _ r,h=> .cons h r
  | _,_,_,_,i+1, .cons q r,h=> .cons q (RpA.set i r h)
theorem RpA.dropLast {vs:List V} {ds:List PyData} (h:RpA K H vs ds):RpA K H vs.dropLast ds.dropLast:=by
  rw [List.dropLast_eq_take,List.dropLast_eq_take,h.len]
  exact h.take _
theorem RpA.snoc {vs:List V} {ds:List PyData} {v:V} {d:PyData} (h:RpA K H vs ds) (k:Rp K H v d):RpA K H (vs++[v]) (ds++[d]):=h.append (.cons k .nil)
end
inductive Pt where
  | fl (d:PyData) | ol (ds:List PyData)
def Pt.val:Pt→PyData
  | .fl d=>d
  | .ol ds=> .list ds
inductive Sl where
  /-- nothing is known -/
  | no
  /-- never written again -/
  | sh (d:PyData)
  /-- a list of one's own -/
  | ow (ds:List PyData)
  /-- a dict of one's own,its values lists of one's own -/
  | od (kvs:List (cN×List PyData))
  /-- a tuple with lists of one's own -/
  | tx (ps:List Pt)
  /-- (a part of an expression) the value of a name -/
  | al (i:Nat)
  /-- (a part of an expression) as it stands just now -/
  | br (d:PyData)
def PtsOk (K:PySem.W.Frag) (F H:Hp):List V→List Pt→List Addr→Prop
  | [],[],A=>A=[]
  | v::vs, .fl d::ps,A=>Rp K F v d∧PtsOk K F H vs ps A
  | v::vs, .ol ds::ps,A=>∃l us A',v= .ref l∧A=l::A'∧H l=some (.lst us)∧RpA K F us ds∧PtsOk K F H vs ps A'
  | _,_,_=>False
def DlOk (K:PySem.W.Frag) (F H:Hp):List (cN×V)→List (cN×List PyData)→List Addr→Prop
  | [],[],A=>A=[]
  | p::us,q::kvs,A=>∃l vs A',p=(q.1, .ref l)∧A=l::A'∧H l=some (.lst vs)∧RpA K F vs q.2∧DlOk K F H us kvs A'
  | _,_,_=>False
def SlOk (K:PySem.W.Frag) (F H:Hp) (σ:L2.St) (o:Option V):Sl→List Addr→Prop
  | .no,A=>A=[]
  | .sh d,A=>A=[]∧∃v,o=some v∧Rp K F v d
  | .ow ds,A=>∃l vs,o=some (.ref l)∧A=[l]∧H l=some (.lst vs)∧RpA K F vs ds
  | .od kvs,A=>∃l us A',o=some (.ref l)∧A=l::A'∧H l=some (.dK us)∧DlOk K F H us kvs A'
  | .tx ps,A=>∃t vs,o=some (.ref t)∧F t=some (.tup vs)∧PtsOk K F H vs ps A
  | .al i,A=>A=[]∧∃v,o=some v∧σ[i]? =some (some v)
  | .br d,A=>A=[]∧∃v,o=some v∧Rp K H v d
def Sl.isBr:Sl→Bool
  | .br _=>true
  | _=>false
def Sl.isAl:Sl→Bool
  | .al _=>true
  | .br _=>true
  | _=>false
section
variable {K:PySem.W.Frag} {F F' H H':Hp} {σ σ':L2.St}
theorem PtsOk.stay (s:Same F F'):∀{vs:List V} {ps:List Pt} {A:List Addr},(∀b∈A,H' b=H b)→PtsOk K F H vs ps A→PtsOk K F' H' vs ps A
  | [],[],A,_,h=>h
  | v::vs, .fl d::ps,A,e,h=>⟨h.1.same s,PtsOk.stay s e h.2⟩
  | v::vs, .ol ds::ps,A,e,h=>by
    obtain ⟨l,us,A',rfl,rfl,hl,hr,q⟩:=h
    exact ⟨l,us,A',rfl,rfl,(e l (List.mem_cons_self ..)).trans hl,hr.same s,q.stay s fun b hb=>e b (List.mem_cons_of_mem _ hb)⟩
  | [],_::_,_,_,h=>False.elim h
  | _::_,[],_,_,h=>False.elim h
theorem DlOk.stay (s:Same F F'):∀{us:List (cN×V)} {kvs:List (cN×List PyData)} {A:List Addr},(∀b∈A,H' b=H b)→DlOk K F H us kvs A→DlOk K F' H' us kvs A
  | [],[],A,_,h=>h
  | p::us,q::kvs,A,e,h=>by
    obtain ⟨l,vs,A',rfl,rfl,hl,hr,k⟩:=h
    exact ⟨l,vs,A',rfl,rfl,(e l (List.mem_cons_self ..)).trans hl,hr.same s,k.stay s fun b hb=>e b (List.mem_cons_of_mem _ hb)⟩
  | [],_::_,_,_,h=>False.elim h
  | _::_,[],_,_,h=>False.elim h
theorem DlOk.some:∀{us:List (cN×V)} {kvs:List (cN×List PyData)} {A:List Addr},DlOk K F H us kvs A→∀a∈A,∃vs,H a=some (.lst vs)
  | [],[],A,h,a,ha=>by rw [show A=[] from h] at ha;cases ha
  | p::us,q::kvs,A,h,a,ha=>by
    obtain ⟨l,vs,A',rfl,rfl,hl,hr,k⟩:=h
    rcases List.mem_cons.mp ha with e | e
    · subst e;exact ⟨vs,hl⟩
    · exact k.some a e
  | [],_::_,_,h,_,_=>False.elim h
  | _::_,[],_,h,_,_=>False.elim h
theorem PtsOk.some:∀{vs:List V} {ps:List Pt} {A:List Addr},PtsOk K F H vs ps A→∀a∈A,∃us,H a=some (.lst us)
  | [],[],A,h,a,ha=>by rw [show A=[] from h] at ha;cases ha
  | v::vs, .fl d::ps,A,h,a,ha=>PtsOk.some h.2 a ha
  | v::vs, .ol ds::ps,A,h,a,ha=>by
    obtain ⟨l,us,A',rfl,rfl,hl,hr,q⟩:=h
    rcases List.mem_cons.mp ha with e | e
    · subst e;exact ⟨us,hl⟩
    · exact q.some a e
  | [],_::_,_,h,_,_=>False.elim h
  | _::_,[],_,h,_,_=>False.elim h
theorem PtsOk.rp (s:Same F H):∀{vs:List V} {ps:List Pt} {A:List Addr},PtsOk K F H vs ps A→RpA K H vs (ps.map Pt.val)
  | [],[],A,_=> .nil
  | v::vs, .fl d::ps,A,h=> .cons (h.1.same s) (PtsOk.rp s h.2)
  | v::vs, .ol ds::ps,A,h=>by
    obtain ⟨l,us,A',rfl,rfl,hl,hr,q⟩:=h
    exact .cons (.lst (SqL.of hl) (hr.same s)) (q.rp s)
  | [],_::_,_,h=>False.elim h
  | _::_,[],_,h=>False.elim h
theorem SlOk.stay {o:Option V} {s:Sl} {A:List Addr} (hF:Same F F') (e:∀b∈A,H' b=H b) (hb:s.isBr=true→Same H H') (h:SlOk K F H σ o s A):SlOk K F' H' σ o s A:=by
  cases s with
  | no=>exact h
  | sh d=>obtain ⟨rfl,v,rfl,r⟩:=h;exact ⟨rfl,v,rfl,r.same hF⟩
  | ow ds=>obtain ⟨l,vs,rfl,rfl,hl,r⟩:=h;exact ⟨l,vs,rfl,rfl,(e l (by simp)).trans hl,r.same hF⟩
  | od kvs=>obtain ⟨l,us,A',rfl,rfl,hl,r⟩:=h;exact ⟨l,us,A',rfl,rfl,(e l (by simp)).trans hl,r.stay hF fun b hb=>e b (List.mem_cons_of_mem _ hb)⟩
  | tx ps=>obtain ⟨t,vs,rfl,ht,r⟩:=h;exact ⟨t,vs,rfl,hF _ _ ht,r.stay hF e⟩
  | al i=>exact h
  | br d=>obtain ⟨rfl,v,rfl,r⟩:=h;exact ⟨rfl,v,rfl,r.same (hb rfl)⟩
theorem SlOk.mut {o:Option V} {s:Sl} {A:List Addr} (h:SlOk K F H σ o s A):∀a∈A,(∃us,H a=some (.lst us))∨∃us,H a=some (.dK us):=by
  cases s with
  | no=>intro a ha;rw [show A=[] from h] at ha;cases ha
  | sh d=>obtain ⟨rfl,_⟩:=h;intro a ha;cases ha
  | ow ds=>obtain ⟨l,vs,rfl,rfl,hl,r⟩:=h;intro a ha;rw [List.mem_singleton.mp ha];exact .inl ⟨_,hl⟩
  | od kvs=>
    obtain ⟨l,vs,A',rfl,rfl,hl,r⟩:=h
    intro a ha
    rcases List.mem_cons.mp ha with z | z
    · rw [z];exact .inr ⟨_,hl⟩
    · exact .inl (r.some a z)
  | tx ps=>obtain ⟨t,vs,rfl,ht,r⟩:=h;exact fun a ha=> .inl (r.some a ha)
  | al i=>obtain ⟨rfl,_⟩:=h;intro a ha;cases ha
  | br d=>obtain ⟨rfl,_⟩:=h;intro a ha;cases ha
end
inductive SAll (P:Option V→Sl→List Addr→Prop):List (Option V)→List Sl→List Addr→Prop
  | nil:SAll P [] [] []
  | cons {o:Option V} {s:Sl} {A:List Addr} {os:List (Option V)} {ss:List Sl} {B:List Addr}:P o s A→SAll P os ss B→SAll P (o::os) (s::ss) (A++B)
section
variable {P P':Option V→Sl→List Addr→Prop}
theorem SAll.len {os:List (Option V)} {ss:List Sl} {A:List Addr} (h:SAll P os ss A):os.length=ss.length:=by
  induction h with
  | nil=>rfl
  | cons _ _ b=>exact congrArg (· +1) b
theorem SAll.mono {os:List (Option V)} {ss:List Sl} {A:List Addr} (h:SAll P os ss A):(∀o s B,s∈ss→(∀b∈B,b∈A)→P o s B→P' o s B)→SAll P' os ss A:=by
  induction h with
  | nil=>exact fun _=> .nil
  | cons h _ r=>exact fun f=> .cons (f _ _ _ (List.mem_cons_self ..) (fun b hb=>List.mem_append_left _ hb) h) (r fun o s B hs hB q=>f o s B (List.mem_cons_of_mem _ hs) (fun b hb=>List.mem_append_right _ (hB b hb)) q)
theorem SAll.all {R:Addr→Prop} (hR:∀o s B,P o s B→∀b∈B,R b) {os:List (Option V)} {ss:List Sl} {A:List Addr} (h:SAll P os ss A):∀a∈A,R a:=by
  induction h with
  | nil=>exact fun _ ha=>nomatch ha
  | cons h _ r=>exact fun a ha=>(List.mem_append.mp ha).elim (hR _ _ _ h a) (r a)
theorem SAll.at:∀{os:List (Option V)} {ss:List Sl} {A:List Addr} {k:Nat} {s:Sl},SAll P os ss A→ss[k]? =some s→
    ∃o A0 A1 A2,A=A0++(A1++A2)∧os[k]? =some o∧P o s A1∧∀(P':Option V→Sl→List Addr→Prop) (o':Option V) (s':Sl) (A1':List Addr),P' o' s' A1'→
      (∀o s B,s∈ss→(∀b∈B,b∈A0∨b∈A2)→P o s B→P' o s B)→SAll P' (os.set k o') (ss.set k s') (A0++(A1'++A2))
  | _,_,_,_,_, .nil,e=>by simp at e
  | _,_,_,0,s, .cons (o:=o) (A:=A) (B:=B) h r,e=>by
    simp at e;subst e
    refine ⟨o,[],A,B,by simp,rfl,h,fun P' o' s' A1' h' f=>?_⟩
    have z:SAll P' _ _ (A1'++B):= .cons h' (r.mono (P':=P') fun o s B hs hB q=>f o s B (List.mem_cons_of_mem _ hs) (fun b hb=> .inr (hB b hb)) q)
    exact z
  | _,_,_,k+1,s, .cons (o:=o) (A:=A) (B:=B) h r,e=>by
    obtain ⟨o2,A0,A1,A2,eA,eo,hp,f⟩:=r.at (k:=k) (s:=s) (by simpa using e)
    subst eA
    refine ⟨o2,A++A0,A1,A2,by simp,by simpa using eo,hp,fun P' o' s' A1' h' g=>?_⟩
    have z:=f P' o' s' A1' h' fun o s B hs hB q=>g o s B (List.mem_cons_of_mem _ hs) (fun b hb=>(hB b hb).imp (fun x=>List.mem_append_right _ x) id) q
    rw [List.append_assoc]
    exact .cons (g _ _ _ (List.mem_cons_self ..) (fun b hb=> .inl (List.mem_append_left _ hb)) h) z
end
end PL
namespace PL
open PySem L2 Nh
abbrev Sg:=L2.St
structure FrF (K:PySem.W.Frag) (B F:Hp) (A:List Addr) (σ:Sg) (H:Hp) (E:List Sl) (xs:List V) (Xs:List Sl):Prop where
  bf:Same B F
  fh:Same F H
  tf:Same (tups H) F
  sl:SAll (SlOk K F H σ) (xs.map some++σ) (Xs++E) A
  nd:A.Nodup
  fr:∀a∈A,F a=none
  len:xs.length=Xs.length
  pl:∀s∈E,s.isAl=false
def Frm (K:PySem.W.Frag) (B:Hp) (σ:Sg) (H:Hp) (E:List Sl) (xs:List V) (Xs:List Sl):Prop:=∃F A,FrF K B F A σ H E xs Xs
def Sl.val:Sl→Option PyData
  | .sh d=>some d
  | .ow ds=>some (.list ds)
  | .tx ps=>some (.tuple (ps.map Pt.val))
  | .br d=>some d
  | _=>none
def look (E:List Sl):Sl→Option PyData
  | .al i=>(E[i]?).bind Sl.val
  | s=>s.val
def bg:Sl→Bool
  | .br _=>true
  | .tx _=>true
  | _=>false
def ck (E:List Sl):Sl→Bool
  | .al i=>(E[i]?).any bg
  | s=>bg s
def RpF (K:PySem.W.Frag) (F H:Hp) (v:V):PyData→Prop
  | .list ds=>∃a vs,v= .ref a∧SqL K H a vs∧RpA K F vs ds
  | d=>Rp K F v d
def jH (F H:Hp) (A:List Addr):Hp:=fun b=>if b∈A then H b else F b
theorem jb {F H:Hp} {A:List Addr} {b:Addr} (h:b∈A):jH F H A b=H b:=if_pos h
theorem hJ {F H:Hp} {A:List Addr} {b:Addr} (h:b∉A):jH F H A b=F b:=if_neg h
section
variable {K:PySem.W.Frag} {B F:Hp} {A:List Addr} {σ:Sg} {H:Hp} {E:List Sl} {xs:List V} {Xs:List Sl} {v:V} {s:Sl} {d:PyData}
theorem RpF.of (h:Rp K F v d) (s:Same F H):RpF K F H v d:=by
  cases h with
  | lst h r=>exact ⟨_,_,rfl,s.seq h,r⟩
  | non=>exact .non
  | bl b=>exact .bl b
  | int i=>exact .int i
  | str x=>exact .str x
  | tup h r=>exact .tup h r
  | dct h r=>exact .dct h r
  | exc h r=>exact .exc h r
theorem SlOk.val {o:Option V} {A1:List Addr} (h:SlOk K F H σ o s A1) (hF:Same F H) (e:s.val=some d):∃v,o=some v∧Rp K H v d∧(bg s=false→RpF K F H v d):=by
  cases s with
  | no=>cases e
  | sh d'=>
    obtain ⟨rfl,v,rfl,r⟩:=h
    cases e
    exact ⟨v,rfl,r.same hF,fun _=>RpF.of r hF⟩
  | ow ds=>
    obtain ⟨l,vs,rfl,rfl,hl,r⟩:=h
    cases e
    exact ⟨_,rfl, .lst (SqL.of hl) (r.same hF),fun _=>⟨_,_,rfl,SqL.of hl,r⟩⟩
  | od kvs=>cases e
  | tx ps=>
    obtain ⟨t,vs,rfl,ht,r⟩:=h
    cases e
    exact ⟨_,rfl, .tup (SqT.of (hF _ _ ht)) (r.rp hF),fun z=>by cases z⟩
  | al i=>cases e
  | br d'=>
    obtain ⟨rfl,v,rfl,r⟩:=h
    cases e
    exact ⟨v,rfl,r,fun z=>by cases z⟩
theorem FrF.slen (h:FrF K B F A σ H E xs Xs):σ.length=E.length:=by
  have e:=h.sl.len
  have:=h.len
  simp only [List.length_append,List.length_map] at e
  omega
theorem FrF.var {i:Nat} (h:FrF K B F A σ H E xs Xs) (e:E[i]? =some s):∃o A1,σ[i]? =some o∧SlOk K F H σ o s A1:=by
  obtain ⟨o,A0,A1,A2,eA,eo,hp,_⟩:=h.sl.at (k:=Xs.length+i) (s:=s) (by rw [List.getElem?_append_right (by omega)];simpa using e)
  rw [List.getElem?_append_right (by rw [List.length_map,h.len];omega),List.length_map,h.len,Nat.add_sub_cancel_left] at eo
  exact ⟨o,A1,eo,hp⟩
theorem FrF.ext {k:Nat} (h:FrF K B F A σ H E xs Xs) (e:Xs[k]? =some s):∃v A1,xs[k]? =some v∧SlOk K F H σ (some v) s A1:=by
  have hk:k < Xs.length:=(List.getElem?_eq_some_iff.mp e).1
  obtain ⟨o,A0,A1,A2,eA,eo,hp,_⟩:=h.sl.at (k:=k) (s:=s) (by rw [List.getElem?_append_left hk];exact e)
  rw [List.getElem?_append_left (by rw [List.length_map,h.len];omega),List.getElem?_map] at eo
  cases q:xs[k]? with
  | none=>rw [q] at eo;cases eo
  | some v=>rw [q] at eo;cases eo;exact ⟨v,A1,rfl,hp⟩
theorem FrF.look {k:Nat} (h:FrF K B F A σ H E xs Xs) (e:Xs[k]? =some s) (q:look E s=some d):∃v,xs[k]? =some v∧Rp K H v d∧(ck E s=false→RpF K F H v d):=by
  obtain ⟨v,A1,ev,hs⟩:=h.ext e
  cases s with
  | al i=>
    obtain ⟨rfl,w,ew,hw⟩:=hs
    cases ew
    cases ei:E[i]? with
    | none=>simp [PL.look,ei] at q
    | some t=>
      obtain ⟨o,A2,eo,ht⟩:=h.var ei
      rw [hw] at eo
      cases eo
      obtain ⟨v',e',r,c⟩:=ht.val h.fh (d:=d) (by simpa [PL.look,ei] using q)
      cases e'
      exact ⟨v,ev,r,fun z=>c (by simpa [ck,ei] using z)⟩
  | no=>cases q
  | od kvs=>cases q
  | sh d'=>obtain ⟨v',e',r,c⟩:=hs.val h.fh q;cases e';exact ⟨v,ev,r,c⟩
  | ow ds=>obtain ⟨v',e',r,c⟩:=hs.val h.fh q;cases e';exact ⟨v,ev,r,c⟩
  | tx ps=>obtain ⟨v',e',r,c⟩:=hs.val h.fh q;cases e';exact ⟨v,ev,r,c⟩
  | br d'=>obtain ⟨v',e',r,c⟩:=hs.val h.fh q;cases e';exact ⟨v,ev,r,c⟩
theorem FrF.look0 (h:FrF K B F A σ H E (v::xs) (s::Xs)) (q:PL.look E s=some d):Rp K H v d∧(ck E s=false→RpF K F H v d):=by
  obtain ⟨v',e,r⟩:=h.look (k:=0) rfl q
  cases e
  exact r
theorem FrF.look1 {w:V} {t:Sl} (h:FrF K B F A σ H E (w::v::xs) (t::s::Xs)) (q:PL.look E s=some d):Rp K H v d∧(ck E s=false→RpF K F H v d):=by
  obtain ⟨v',e,r⟩:=h.look (k:=1) rfl q
  cases e
  exact r
theorem FrF.mutA (h:FrF K B F A σ H E xs Xs):∀a∈A,(∃us,H a=some (.lst us))∨∃us,H a=some (.dK us):=
  SAll.all (R:=fun a=>(∃us,H a=some (.lst us))∨∃us,H a=some (.dK us)) (fun _ _ _ q=>q.mut) h.sl
theorem FrF.newA {p:Addr} (h:FrF K B F A σ H E xs Xs) (hp:H p=none):p∉A:=fun hm=>by
  rcases h.mutA p hm with ⟨_,z⟩ | ⟨_,z⟩ <;> rw [hp] at z <;> cases z
theorem FrF.cold {u:V} {e:PyData} (h:FrF K B F A σ H E xs Xs) (r:Rp K H u e) (f:cb e=true):Rp K F u e:=(r.cold f).same h.tf
theorem FrF.coldA {us:List V} {es:List PyData} (h:FrF K B F A σ H E xs Xs) (r:RpA K H us es) (f:aS es=true):RpA K F us es:=(r.cold f).same h.tf
theorem FrF.push (h:FrF K B F A σ H E xs Xs) (q:SlOk K F H σ (some v) s []):FrF K B F A σ H E (v::xs) (s::Xs):=
  ⟨h.bf,h.fh,h.tf, .cons (A:=[]) q h.sl,h.nd,h.fr,by simp [h.len],h.pl⟩
theorem FrF.pop (h:FrF K B F A σ H E (v::xs) (s::Xs)):∃A',FrF K B F A' σ H E xs Xs:=by
  obtain ⟨bf,fh,tf,sl,nd,fr,len,pl⟩:=h
  generalize hT:List.map some (v::xs)++σ=T at sl
  generalize hS:(s::Xs)++E=S at sl
  cases sl with
  | nil=>cases hS
  | cons q r=>
    injection hT with _ hT
    injection hS with _ hS
    subst hT hS
    exact ⟨_,bf,fh,tf,r,(List.nodup_append.mp nd).2.1,fun a ha=>fr a (List.mem_append_right _ ha),by simpa using len,pl⟩
theorem FrF.grow {H':Hp} (h:FrF K B F A σ H E xs Xs) (g:Same H H'):FrF K B (fun b=>if b∈A then none else H' b) A σ H' E xs Xs:=by
  have nF:∀b o,F b=some o→b∉A:=fun b o e hb=>by rw [h.fr b hb] at e;cases e
  have FF:Same F (fun b=>if b∈A then none else H' b):=fun b o e=>by
    show (if b∈A then none else H' b)=some o
    rw [if_neg (nF b o e)]
    exact g _ _ (h.fh _ _ e)
  have hA:∀b∈A,H' b=H b:=fun b hb=>by
    rcases h.mutA b hb with ⟨_,z⟩ | ⟨_,z⟩ <;> rw [z,g _ _ z]
  refine ⟨h.bf.trans FF,fun b o e=>?_,fun b o e=>?_,h.sl.mono fun o s C _ hC q=>q.stay FF (fun b hb=>hA b (hC b hb)) fun _=>g,h.nd,fun a ha=>if_pos ha,h.len,h.pl⟩
  · by_cases hb:b∈A
    · rw [if_pos hb] at e;cases e
    · rw [if_neg hb] at e;exact e
  · obtain ⟨e1,e2⟩:=Option.filter_eq_some_iff.mp e
    show (if b∈A then none else H' b)=some o
    by_cases hb:b∈A
    · rw [hA b hb] at e1
      rcases h.mutA b hb with ⟨_,z⟩ | ⟨_,z⟩ <;> rw [z] at e1 <;> cases e1 <;> cases e2
    · rw [if_neg hb];exact e1
theorem FrF.newl {p:Addr} {vs:List V} {ds:List PyData} (h:FrF K B F A σ H E xs Xs) (r:RpA K F vs ds) (hp:H p=none):FrF K B F (p::A) σ (upd H p (.lst vs)) E (.ref p::xs) (.ow ds::Xs):=by
  have g:Same H (upd H p (.lst vs)):=gZ hp _
  have nA:=h.newA hp
  refine ⟨h.bf,h.fh.trans g,fun b o e=>?_, .cons (A:=[p]) ⟨p,vs,rfl,rfl,bi,r⟩ (h.sl.mono fun o s C _ hC q=>q.stay (Same.refl _) (fun b hb=>az fun z=>nA (z▸hC b hb)) fun _=>g),List.nodup_cons.mpr ⟨nA,h.nd⟩,fun a ha=>?_,by simp [h.len],h.pl⟩
  · obtain ⟨e1,e2⟩:=Option.filter_eq_some_iff.mp e
    by_cases hb:b=p
    · subst hb;rw [bi] at e1;cases e1;cases e2
    · rw [az hb] at e1;exact h.tf b o (fQ e1 e2)
  · rcases List.mem_cons.mp ha with z | z
    · subst z;exact h.fh.free hp
    · exact h.fr a z
theorem FrF.newt {p:Addr} {vs:List V} {ds:List PyData} (h:FrF K B F A σ H E xs Xs) (r:RpA K F vs ds) (hp:H p=none):FrF K B (upd F p (.tup vs)) A σ (upd H p (.tup vs)) E (.ref p::xs) (.sh (.tuple ds)::Xs):=by
  have g:Same H (upd H p (.tup vs)):=gZ hp _
  have nA:=h.newA hp
  have gF:Same F (upd F p (.tup vs)):=gZ (h.fh.free hp) _
  refine ⟨h.bf.trans gF,fun b o e=>?_,fun b o e=>?_, .cons (A:=[]) ⟨rfl,_,rfl, .tup (.inl (.inl bi)) (r.same gF)⟩ (h.sl.mono fun o s C _ hC q=>q.stay gF (fun b hb=>az fun z=>nA (z▸hC b hb)) fun _=>g),h.nd,fun a ha=>?_,by simp [h.len],h.pl⟩
  · by_cases hb:b=p
    · subst hb;rw [bi] at e ⊢;exact e
    · rw [az hb] at e ⊢;exact h.fh _ _ e
  · obtain ⟨e1,e2⟩:=Option.filter_eq_some_iff.mp e
    by_cases hb:b=p
    · subst hb;rw [bi] at e1 ⊢;exact e1
    · rw [az hb] at e1 ⊢;exact h.tf b o (fQ e1 e2)
  · have ne:a≠p:=fun z=>nA (z▸ha)
    rw [az ne];exact h.fr a ha
theorem FrF.mut {i:Nat} {ds:List PyData} (h:FrF K B F A σ H E xs Xs) (e:E[i]? =some (.ow ds)) (c:∀s∈Xs,s.isBr=false):
    ∃l vs,σ[i]? =some (some (.ref l))∧H l=some (.lst vs)∧RpA K F vs ds∧∀vs' ds',RpA K F vs' ds'→FrF K B F A σ (upd H l (.lst vs')) (E.set i (.ow ds')) xs Xs:=by
  obtain ⟨o,A0,A1,A2,eA,eo,hp,put⟩:=h.sl.at (k:=Xs.length+i) (s:= .ow ds) (by rw [List.getElem?_append_right (by omega)];simpa using e)
  rw [List.getElem?_append_right (by rw [List.length_map,h.len];omega),List.length_map,h.len,Nat.add_sub_cancel_left] at eo
  obtain ⟨l,vs,rfl,rfl,hl,r⟩:=hp
  refine ⟨l,vs,eo,hl,r,fun vs' ds' r'=>?_⟩
  have hlA:l∈A:=by rw [eA];simp
  have nl:∀b,b∈A0∨b∈A2→b≠l:=fun b hb z=>by
    subst z
    have nd:=h.nd
    rw [eA] at nd
    rcases hb with hb | hb
    · exact (List.nodup_append.mp nd).2.2 b hb b (by simp) rfl
    · exact (List.nodup_append.mp (List.nodup_append.mp nd).2.1).2.2 b (by simp) b hb rfl
  have lF:F l=none:=h.fr l hlA
  have z:=put (SlOk K F (upd H l (.lst vs')) σ) (some (.ref l)) (.ow ds') [l] ⟨l,vs',rfl,rfl,bi,r'⟩ fun o s C hs hC q=>q.stay (Same.refl _) (fun b hb=>az (nl b (hC b hb))) fun z=>by
    rcases List.mem_append.mp hs with hs | hs
    · rw [c s hs] at z;cases z
    · have:=h.pl s hs
      cases s <;> simp [Sl.isAl,Sl.isBr] at this z
  have e3:(Xs++E).set (Xs.length+i) (.ow ds')=Xs++E.set i (.ow ds'):=by
    rw [List.set_append_right _ _ (by omega),Nat.add_sub_cancel_left]
  have e2:(List.map some xs++σ).set (Xs.length+i) (some (V.ref l))=List.map some xs++σ:=by
    rw [←h.len,List.set_append_right _ _ (by rw [List.length_map];omega),List.length_map,Nat.add_sub_cancel_left]
    congr 1
    exact List.ext_getElem? fun j=>by
      by_cases hj:i=j
      · subst hj
        rw [List.getElem?_set_self',eo];rfl
      · rw [List.getElem?_set_ne hj]
  rw [e2,e3,←eA] at z
  refine ⟨h.bf,fun b o q=>?_,?_,z,h.nd,h.fr,h.len,fun s hs=>?_⟩
  · rw [az (fun z=>by rw [z,lF] at q;cases q)]
    exact h.fh _ _ q
  · rw [hG hl];exact h.tf
  · rcases List.mem_or_eq_of_mem_set hs with hs | hs
    · exact h.pl s hs
    · subst hs;rfl
theorem FrF.frzAt {k:Nat} (h:FrF K B F A σ H E xs Xs) (e:(Xs++E)[k]? =some s) (q:s.val=some d) (c:s.isAl=false):
    ∃F' A' v,(xs.map some++σ)[k]? =some (some v)∧Rp K F' v d∧Same B F'∧Same F' H∧Same (tups H) F'∧SAll (SlOk K F' H σ) (xs.map some++σ) ((Xs++E).set k (.sh d)) A'∧A'.Nodup∧∀a∈A',F' a=none:=by
  obtain ⟨o,A0,A1,A2,eA,eo,hp,put⟩:=h.sl.at e
  have nd:=h.nd
  rw [eA] at nd
  have nA1:∀b o,F b=some o→b∉A1:=fun b o e hb=>by
    have:=h.fr b (by rw [eA];simp [hb])
    rw [this] at e;cases e
  have FF:Same F (jH F H A1):=fun b o e=>by rw [hJ (nA1 b o e)];exact e
  obtain ⟨v,rfl,r⟩:∃v,o=some v∧Rp K (jH F H A1) v d:=by
    cases s with
    | no=>cases q
    | od kvs=>cases q
    | al i=>cases c
    | br d'=>cases c
    | sh d'=>
      obtain ⟨rfl,v,rfl,r⟩:=hp
      cases q
      exact ⟨v,rfl,r.same FF⟩
    | ow ds=>
      obtain ⟨l,vs,rfl,rfl,hl,r⟩:=hp
      cases q
      exact ⟨_,rfl, .lst (SqL.of ((jb (by simp)).trans hl)) (r.same FF)⟩
    | tx ps=>
      obtain ⟨t,vs,rfl,ht,r⟩:=hp
      cases q
      refine ⟨_,rfl, .tup (SqT.of (FF _ _ ht)) ?_⟩
      have r':PtsOk K (jH F H A1) (jH F H A1) vs ps A1:=r.stay FF fun b hb=>jb hb
      exact r'.rp (Same.refl _)
  have e2:(List.map some xs++σ).set k (some v)=List.map some xs++σ:=List.ext_getElem? fun j=>by
    by_cases hj:k=j
    · subst hj
      rw [List.getElem?_set_self',eo];rfl
    · rw [List.getElem?_set_ne hj]
  have z:=put (SlOk K (jH F H A1) H σ) (some v) (.sh d) [] ⟨rfl,v,rfl,r⟩ fun o s C _ hC q=>q.stay FF (fun b _=>rfl) fun _=>Same.refl _
  rw [e2] at z
  refine ⟨jH F H A1,A0++A2,v,eo,r,h.bf.trans FF,fun b o e=>?_,fun b o e=>FF _ _ (h.tf _ _ e),by simpa using z,?_,fun a ha=>?_⟩
  · by_cases hb:b∈A1
    · rw [jb hb] at e;exact e
    · rw [hJ hb] at e;exact h.fh _ _ e
  · exact List.Nodup.sublist (List.Sublist.append (List.Sublist.refl _) (List.sublist_append_right _ _)) nd
  · have hn:a∉A1:=fun hm=>by
      rcases List.mem_append.mp ha with z | z
      · exact (List.nodup_append.mp nd).2.2 a z a (by simp [hm]) rfl
      · exact (List.nodup_append.mp (List.nodup_append.mp nd).2.1).2.2 a hm a z rfl
    rw [hJ hn]
    exact h.fr a (by rw [eA];rcases List.mem_append.mp ha with z | z <;> simp [z])
end
def frz (E:List Sl):Sl→Option (PyData×List Sl)
  | .sh d=>some (d,E)
  | .ow ds=>some (.list ds,E)
  | .tx ps=>some (.tuple (ps.map Pt.val),E)
  | .br d=>if cb d then some (d,E) else none
  | .al i=>match E[i]? with
    | some (.sh d)=>some (d,E)
    | some (.ow ds)=>some (.list ds,E.set i (.sh (.list ds)))
    | some (.tx ps)=>some (.tuple (ps.map Pt.val),E.set i (.sh (.tuple (ps.map Pt.val))))
    | _=>none
  | _=>none
section
variable {K:PySem.W.Frag} {B F:Hp} {A:List Addr} {σ:Sg} {H:Hp} {E E':List Sl} {xs:List V} {Xs:List Sl} {v:V} {s:Sl} {d:PyData}
theorem FrF.frzVar {i:Nat} (h:FrF K B F A σ H E xs Xs) (e:E[i]? =some s) (q:s.val=some d):∃F' A' v,σ[i]? =some (some v)∧Rp K F' v d∧FrF K B F' A' σ H (E.set i (.sh d)) xs Xs:=by
  obtain ⟨F',A',v,ev,r,b1,b2,b3,sl,nd,fr⟩:=h.frzAt (k:=Xs.length+i) (by rw [List.getElem?_append_right (by omega)];simpa using e) q (h.pl s (List.mem_of_getElem? e))
  rw [List.getElem?_append_right (by rw [List.length_map,h.len];omega),List.length_map,h.len,Nat.add_sub_cancel_left] at ev
  have e3:(Xs++E).set (Xs.length+i) (.sh d)=Xs++E.set i (.sh d):=by
    rw [List.set_append_right _ _ (by omega),Nat.add_sub_cancel_left]
  rw [e3] at sl
  refine ⟨F',A',v,ev,r,b1,b2,b3,sl,nd,fr,h.len,fun s hs=>?_⟩
  rcases List.mem_or_eq_of_mem_set hs with hs | hs
  · exact h.pl s hs
  · subst hs;rfl
theorem FrF.frz0 (h:FrF K B F A σ H E (v::xs) (s::Xs)) (q:PL.frz E s=some (d,E')):∃F' A',FrF K B F' A' σ H E' (v::xs) (.sh d::Xs):=by
  have key:s.val=some d→s.isAl=false→E=E'→∃F' A',FrF K B F' A' σ H E' (v::xs) (.sh d::Xs):=fun q' c e=>by
    subst e
    obtain ⟨F',A',v',ev,r,b1,b2,b3,sl,nd,fr⟩:=h.frzAt (k:=0) rfl q' c
    exact ⟨F',A',b1,b2,b3,sl,nd,fr,by simpa using h.len,h.pl⟩
  have al:∀i t,s= .al i→E[i]? =some t→t.val=some d→E'=E.set i (.sh d)→∃F' A',FrF K B F' A' σ H E' (v::xs) (.sh d::Xs):=fun i t es ei qt eE=>by
    subst es eE
    obtain ⟨v',A1,ev,hs⟩:=h.ext (k:=0) rfl
    cases ev
    obtain ⟨rfl,w,ew,hw⟩:=hs
    cases ew
    obtain ⟨F',A',w,ew,r,h'⟩:=h.frzVar ei qt
    rw [hw] at ew
    cases ew
    obtain ⟨A2,h2⟩:=h'.pop
    exact ⟨F',A2,h2.push ⟨rfl,_,rfl,r⟩⟩
  cases s with
  | no=>cases q
  | od kvs=>cases q
  | sh d'=>cases q;exact key rfl rfl rfl
  | ow ds=>cases q;exact key rfl rfl rfl
  | tx ps=>cases q;exact key rfl rfl rfl
  | br d'=>
    simp only [PL.frz] at q
    split at q
    · rename_i hf
      cases q
      obtain ⟨r,_⟩:=h.look0 (d:=d) rfl
      obtain ⟨A2,h2⟩:=h.pop
      exact ⟨F,A2,h2.push ⟨rfl,_,rfl,h.cold r hf⟩⟩
    · cases q
  | al i=>
    simp only [PL.frz] at q
    split at q
    · rename_i d' ei
      cases q
      refine al i _ rfl ei rfl ?_
      exact List.ext_getElem? fun j=>by
        by_cases hj:i=j
        · subst hj;rw [List.getElem?_set_self',ei];rfl
        · rw [List.getElem?_set_ne hj]
    · rename_i ds ei
      cases q
      exact al i _ rfl ei rfl rfl
    · rename_i ps ei
      cases q
      exact al i _ rfl ei rfl rfl
    · cases q
theorem FrF.store {i:Nat} (h:FrF K B F A σ H E (v::xs) (s::Xs)) (c:s.isAl=false) (cx:∀s∈Xs,s.isAl=false) (hi:i < E.length):∃A',FrF K B F A' (σ.set i (some v)) H (E.set i s) xs Xs:=by
  have hlen:=h.len
  have hsl:=h.slen
  obtain ⟨bf,fh,tf,sl,nd,fr,len,pl⟩:=h
  generalize hT:List.map some (v::xs)++σ=T at sl
  generalize hS:(s::Xs)++E=S at sl
  cases sl with
  | nil=>cases hS
  | cons q r=>
    rename_i A1 _ _ A2
    injection hT with h1 hT
    injection hS with h2 hS
    subst h1 h2 hT hS
    have len':xs.length=Xs.length:=by simpa using len
    have r:SAll (SlOk K F H σ) (List.map some xs++σ) (Xs++E) A2:=r
    obtain ⟨t,et⟩:∃t,E[i]? =some t:=⟨E[i],List.getElem?_eq_getElem hi⟩
    obtain ⟨o,C0,C1,C2,eA,eo,hp,put⟩:=r.at (k:=Xs.length+i) (s:=t) (by rw [List.getElem?_append_right (by omega)];simpa using et)
    have all:∀s'∈Xs++E,s'.isAl=false:=fun s' hs=>(List.mem_append.mp hs).elim (cx s') (pl s')
    have chg:∀(o:Option V) (s':Sl) (C:List Addr),s'.isAl=false→SlOk K F H σ o s' C→SlOk K F H (σ.set i (some v)) o s' C:=fun o s' C hc z=>by
      cases s' <;> first | exact z | cases hc
    have z:=put (SlOk K F H (σ.set i (some v))) (some v) s A1 (chg _ _ _ c q) fun o s' C hs _ z=>chg o s' C (all s' hs) z
    have e3:(Xs++E).set (Xs.length+i) s=Xs++E.set i s:=by
      rw [List.set_append_right _ _ (by omega),Nat.add_sub_cancel_left]
    have e2:(List.map some xs++σ).set (Xs.length+i) (some v)=List.map some xs++σ.set i (some v):=by
      rw [←len',List.set_append_right _ _ (by rw [List.length_map];omega),List.length_map,Nat.add_sub_cancel_left]
    rw [e2,e3] at z
    refine ⟨_,bf,fh,tf,z,?_,fun a ha=>fr a ?_,len',fun s' hs=>?_⟩
    · rw [eA] at nd
      have p:(C0++(A1++C2)).Perm (A1++(C0++C2)):=by
        rw [←List.append_assoc,←List.append_assoc]
        exact List.Perm.append_right _ List.perm_append_comm
      refine p.nodup_iff.mpr (List.Nodup.sublist ?_ nd)
      exact List.Sublist.append (List.Sublist.refl _) (List.Sublist.append (List.Sublist.refl _) (List.sublist_append_right _ _))
    · rw [eA]
      simp only [List.mem_append] at ha ⊢
      rcases ha with z | z | z
      · exact .inr (.inl z)
      · exact .inl z
      · exact .inr (.inr (.inr z))
    · rcases List.mem_or_eq_of_mem_set hs with hs | hs
      · exact pl s' hs
      · subst hs;exact c
end
end PL
namespace PL
open PySem L2 Nh
abbrev b7:=List Sl→Option (Sl×List Sl)
abbrev ik:=List Sl→Option (Bool×List Sl)
abbrev jc:=List Sl→Option (List Sl×List Sl)
abbrev io:=List Sl→Option (List PyData×List Sl)
inductive Fl where
  | nx | bk | ct | rt (r:Sl)
abbrev cc:=List Sl→Option (List Sl×Fl)
abbrev Calm (Xs:List Sl):Prop:=∀s∈Xs,s.isBr=false
abbrev Still (Xs:List Sl):Prop:=∀s∈Xs,s.isAl=false
theorem Still.calm {Xs:List Sl} (h:Still Xs):Calm Xs:=fun s hs=>by
  have:=h s hs
  cases s <;> simp [Sl.isAl,Sl.isBr] at this ⊢
theorem Still.nil {Xs:List Sl} (h:Xs=[]):Still Xs:=fun s hs=>by subst h;cases hs
theorem Calm.nil {Xs:List Sl} (h:Xs=[]):Calm Xs:=(Still.nil h).calm
theorem Calm.cons {Xs:List Sl} {s:Sl} (h:Calm Xs) (hs:s.isBr=false):Calm (s::Xs):=fun t ht=>(List.mem_cons.mp ht).elim (fun e=>e▸hs) (h t)
def rd (K:PySem.W.Frag) (m:Bool) (f:b7):TE:=fun σ H Q=>∃B E xs Xs r E',Frm K B σ H E xs Xs∧(m=true→Calm Xs)∧f E=some (r,E')∧∀v H',Frm K B σ H' E' (v::xs) (r::Xs)→Q v H'
def rt (K:PySem.W.Frag) (m:Bool) (f:ik):TT:=fun σ H Q=>∃B E xs Xs b E',Frm K B σ H E xs Xs∧(m=true→Calm Xs)∧f E=some (b,E')∧∀H',Frm K B σ H' E' xs Xs→Q b H'
def ra (K:PySem.W.Frag) (m:Bool) (f:jc):TA:=fun σ H Q=>∃B E xs Xs rs E',Frm K B σ H E xs Xs∧(m=true→Calm Xs)∧f E=some (rs,E')∧∀vs H',vs.length=rs.length→Frm K B σ H' E' (vs.reverse++xs) (rs.reverse++Xs)→Q vs H'
def vf (K:PySem.W.Frag) (m:Bool) (f:io):TA:=fun σ H Q=>∃B E xs Xs ds E',Frm K B σ H E xs Xs∧(m=true→Calm Xs)∧f E=some (ds,E')∧∀vs H',vs.length=ds.length→Frm K B σ H' E' (vs.reverse++xs) (ds.reverse.map .sh++Xs)→Q vs H'
def rs (K:PySem.W.Frag) (g:cc):TS:=fun D σ H=>∃B E xs Xs E' fl,Frm K B σ H E xs Xs∧Xs=[]∧g E=some (E',fl)∧match fl with
  | .nx=>∀σ' H',Frm K B σ' H' E' xs Xs→D.nx σ' H'
  | .bk=>∀σ' H',Frm K B σ' H' E' xs Xs→D.bk σ' H'
  | .ct=>∀σ' H',Frm K B σ' H' E' xs Xs→D.ct σ' H'
  | .rt r=>∀σ' v H',Frm K B σ' H' E' (v::xs) (r::Xs)→D.rt v H'
def EX (X:Cx) (e:Expr) (m:Bool) (f:b7):Prop:=PE X e (rd X.K m f)
def TX (X:Cx) (e:Expr) (m:Bool) (f:ik):Prop:=PT X e (rt X.K m f)
def WX (X:Cx) (e:Expr) (m:Bool) (f:ik):Prop:=PW X e (rt X.K m f)
def AX (X:Cx) (es:List Expr) (m:Bool) (f:jc):Prop:=PA X es (ra X.K m f)
def DX (X:Cx) (es:List Expr) (m:Bool) (f:io):Prop:=PA X es (vf X.K m f)
def SX (X:Cx) (s:Stmt) (g:cc):Prop:=PS X s (rs X.K g)
def lh (X:Cx) (s:List Stmt) (g:cc):Prop:=PSs X s (rs X.K g)
section
variable {X:Cx}
theorem bp {e:Expr} {t t':TE} (h:PE X e t) (k:∀σ H Q,t' σ H Q→t σ H Q):PE X e t':=fun pins s σ H Q I q=>h pins s σ H Q I (k σ H Q q)
theorem jd {e:Expr} {t t':TT} (h:PT X e t) (k:∀σ H Q,t' σ H Q→t σ H Q):PT X e t':=fun pins s σ H Q I q=>h pins s σ H Q I (k σ H Q q)
theorem nh {e:Expr} {t t':TT} (h:PW X e t) (k:∀σ H Q,t' σ H Q→t σ H Q):PW X e t':=fun whole pins s σ H Q I q=>h whole pins s σ H Q I (k σ H Q q)
theorem je {es:List Expr} {t t':TA} (h:PA X es t) (k:∀σ H Q,t' σ H Q→t σ H Q):PA X es t':=fun pos pins s σ H Q I q=>h pos pins s σ H Q I (k σ H Q q)
theorem gm {st:Stmt} {t t':TS} (h:PS X st t) (k:∀D σ H,t' D σ H→t D σ H):PS X st t':=fun pins s σ H D I q=>h pins s σ H D I (k D σ H q)
theorem li {st:List Stmt} {t t':TS} (h:PSs X st t) (k:∀D σ H,t' D σ H→t D σ H):PSs X st t':=fun pins s σ H D I q=>h pins s σ H D I (k D σ H q)
end
def pU:PyData→Option V
  | .none=>some .non
  | .bool b=>some (.bl b)
  | .int i=>some (.int i)
  | .str x=>some (.str x)
  | _=>none
theorem hO {K:PySem.W.Frag} {H:Hp} {d:PyData} {v:V} (h:pU d=some v):Rp K H v d:=by
  cases d <;> simp [pU] at h <;> subst h <;> constructor
def ae (i:Nat):b7:=fun E=>match E[i]? with
  | some (.sh d)=>some (.sh d,E)
  | some (.ow _)=>some (.al i,E)
  | some (.od _)=>some (.al i,E)
  | some (.tx _)=>some (.al i,E)
  | _=>none
def pC (d:PyData):b7:=fun E=>some (.sh d,E)
section
variable {X:Cx} {K:PySem.W.Frag}
theorem aa (i:Nat) {x:Str} {pos:Pos} (hN:X.N[i]? =some x:=by rfl) (hv:p8 X.env.scope x:=by first | exact Or.inl rfl | exact Or.inr (Or.inl rfl) | exact Or.inr (Or.inr rfl)) (hd:(x == ("__debug__":Str))=false:=by decide)
    (hcd:(x == ("__classdict__":Str))=false:=by decide):EX X (.Name x pos) false (ae i):=by
  refine bp (gS hN hv hd hcd) fun σ H Q h=>?_
  obtain ⟨B,E,xs,Xs,r,E',⟨F,A,fr⟩,_,e,q⟩:=h
  unfold ae at e
  split at e
  · rename_i d ei
    cases e
    obtain ⟨o,A1,eo,rfl,v,rfl,rp⟩:=fr.var ei
    exact ⟨v,eo,q v H ⟨F,A,fr.push ⟨rfl,v,rfl,rp⟩⟩⟩
  · rename_i ds ei
    cases e
    obtain ⟨o,A1,eo,l,vs,rfl,_⟩:=fr.var ei
    exact ⟨_,eo,q _ H ⟨F,A,fr.push ⟨rfl,_,rfl,eo⟩⟩⟩
  · rename_i ds ei
    cases e
    obtain ⟨o,A1,eo,l,vs,A2,rfl,_⟩:=fr.var ei
    exact ⟨_,eo,q _ H ⟨F,A,fr.push ⟨rfl,_,rfl,eo⟩⟩⟩
  · rename_i ds ei
    cases e
    obtain ⟨o,A1,eo,l,vs,rfl,_⟩:=fr.var ei
    exact ⟨_,eo,q _ H ⟨F,A,fr.push ⟨rfl,_,rfl,eo⟩⟩⟩
  · cases e
theorem qJ {e:Expr} {v:V} (d:PyData) (h:PE X e (tC v)) (hd:pU d=some v:=by rfl):EX X e false (pC d):=by
  refine bp h fun σ H Q h=>?_
  obtain ⟨B,E,xs,Xs,r,E',⟨F,A,fr⟩,_,e,q⟩:=h
  cases e
  exact q v H ⟨F,A,fr.push ⟨rfl,v,rfl,hO hd⟩⟩
theorem ah {i j pos}:EX X (.Constant (.int i) j pos) false (pC (.int i)):=qJ _ iY
theorem eP {b j pos}:EX X (.Constant (.bool b) j pos) false (pC (.bool b)):=qJ _ rZ
theorem ni {x j pos}:EX X (.Constant (.str x) j pos) false (pC (.str x)):=qJ _ mz
end
abbrev P2:=List Sl→Sl→Sl→Option (Sl×List Sl)
def eG (K:PySem.W.Frag) (r:R2) (p:P2):Prop:=∀{B F:Hp} {A:List Addr} {σ:Sg} {H:Hp} {E:List Sl} {xs:List V} {Xs:List Sl} {v1 v2:V} {s1 s2 res:Sl} {E':List Sl} {Q:VK},
  FrF K B F A σ H E (v2::v1::xs) (s2::s1::Xs)→p E s1 s2=some (res,E')→(∀v H',Frm K B σ H' E' (v::xs) (res::Xs)→Q v H')→r v1 v2 H Q
def ag (p:P2) (m2:Bool) (f g:b7):b7:=fun E=>(f E).bind fun a=>if m2&&a.1.isBr then none else (g a.2).bind fun b=>p b.2 a.1 b.1
theorem jf {K:PySem.W.Frag} {r:R2} {p:P2} (hp:eG K r p) {m1 m2:Bool} {f g:b7} {σ:Sg} {H:Hp} {Q:VK} (h:rd K (m1||m2) (ag p m2 f g) σ H Q):sq r (rd K m1 f) (rd K m2 g) σ H Q:=by
  obtain ⟨B,E,xs,Xs,res,E',fr,c,e,q⟩:=h
  obtain ⟨⟨s1,E1⟩,e1,e⟩:=Option.bind_eq_some_iff.mp e
  by_cases hb:(m2&&s1.isBr)=true
  · rw [if_pos hb] at e;cases e
  rw [if_neg hb] at e
  obtain ⟨⟨s2,E2⟩,e2,e⟩:=Option.bind_eq_some_iff.mp e
  refine ⟨B,E,xs,Xs,s1,E1,fr,fun z=>c (by simp [z]),e1,fun v1 H1 fr1=>?_⟩
  refine ⟨B,E1,v1::xs,s1::Xs,s2,E2,fr1,fun z=>?_,e2,fun v2 H2 fr2=>?_⟩
  · refine Calm.cons (c (by simp [z])) ?_
    cases hs:s1.isBr with
    | false=>rfl
    | true=>exact absurd (by simp [z,hs]) hb
  · obtain ⟨F,A,fr2⟩:=fr2
    exact hp fr2 e q
def cm (op:PyData→PyData→Option PyData):P2:=fun E s1 s2=>(look E s1).bind fun d1=>(look E s2).bind fun d2=>(op d1 d2).map fun d=>(.sh d,E)
theorem FrF.res2 {K:PySem.W.Frag} {B F:Hp} {A:List Addr} {σ:Sg} {H:Hp} {E:List Sl} {xs:List V} {Xs:List Sl} {v1 v2 v:V} {s1 s2 s:Sl} (h:FrF K B F A σ H E (v2::v1::xs) (s2::s1::Xs)) (q:SlOk K F H σ (some v) s []):Frm K B σ H E (v::xs) (s::Xs):=by
  obtain ⟨A1,h⟩:=h.pop
  obtain ⟨A2,h⟩:=h.pop
  exact ⟨F,A2,h.push q⟩
theorem hV {K:PySem.W.Frag} {r:R2} {op:PyData→PyData→Option PyData} (h:∀(d1 d2 d:PyData) (v1 v2:V) (H:Hp) (Q:VK),op d1 d2=some d→Rp K H v1 d1→Rp K H v2 d2→∃v,pU d=some v∧(Q v H→r v1 v2 H Q)):eG K r (cm op):=by
  intro B F A σ H E xs Xs v1 v2 s1 s2 res E' Q fr e q
  obtain ⟨d1,e1,e⟩:=Option.bind_eq_some_iff.mp e
  obtain ⟨d2,e2,e⟩:=Option.bind_eq_some_iff.mp e
  obtain ⟨d,e3,e⟩:=Option.map_eq_some_iff.mp e
  cases e
  obtain ⟨v,hv,k⟩:=h d1 d2 d v1 v2 H Q e3 (fr.look1 e1).1 (fr.look0 e2).1
  exact k (q v H (fr.res2 ⟨rfl,v,rfl,hO hv⟩))
section
variable {X:Cx} {a b:Expr} {m1 m2:Bool} {f g:b7} {pos:Pos}
theorem iO {op:Operator} {r:R2} {p:P2} (ho:OpR X (binaryOp op) r) (hp:eG X.K r p) (ha:EX X a m1 f) (hb:EX X b m2 g):EX X (.BinOp a op b pos) (m1||m2) (ag p m2 f g):=bp (mH ho ha hb) fun _ _ _ h=>jf hp h
theorem qK {op:CmpOp} {r:R2} {p:P2} (ho:OpR X (compareOp op) r) (hp:eG X.K r p) (ha:EX X a m1 f) (hb:EX X b m2 g) (hm:behindInMarks op b=false):EX X (.Compare a [op] [b] pos) (m1||m2) (ag p m2 f g):=bp (oN ho ha hb hm) fun _ _ _ h=>jf hp h
def cu (f:b7):ik:=fun E=>(f E).bind fun a=>match a.1 with
  | .sh (.bool b)=>some (b,a.2)
  | _=>none
theorem nj {K:PySem.W.Frag} {m:Bool} {f:b7} {σ:Sg} {H:Hp} {Q:Bool→Hp→Prop} (h:rt K m (cu f) σ H Q):rd K m f σ H (fun x H'=>∃k,x= .bl k∧Q k H'):=by
  obtain ⟨B,E,xs,Xs,b,E',fr,c,e,q⟩:=h
  obtain ⟨⟨s,E1⟩,e1,e⟩:=Option.bind_eq_some_iff.mp e
  refine ⟨B,E,xs,Xs,s,E1,fr,c,e1,fun v H' ⟨F,A,fr'⟩=>?_⟩
  simp only at e
  split at e
  · cases e
    obtain ⟨r,_⟩:=fr'.look0 (d:= .bool b) rfl
    cases r
    obtain ⟨A',fr2⟩:=fr'.pop
    exact ⟨b,rfl,q H' ⟨F,A',fr2⟩⟩
  · cases e
theorem kz {op:CmpOp} {r:R2} {p:P2} (ho:OpR X (compareOp op) r) (hp:eG X.K r p) (ha:EX X a m1 f) (hb:EX X b m2 g) (hm:behindInMarks op b=false):TX X (.Compare a [op] [b] pos) (m1||m2) (cu (ag p m2 f g)):=by
  refine jd (oO ho ha hb hm) fun σ H Q h=>?_
  exact jf hp (nj h)
end
def lV:Int:=2 ^ 20000
def bB (i j:Int):Bool:=decide (-(2 ^ 64) < i∧i < 2 ^ 64)||decide (-(2 ^ 64) < j∧j < 2 ^ 64)||decide (-lV < i∧i < lV∧ -lV < j∧j < lV)
def cw (j:Int):Bool:=decide (0 < j∧j < 2 ^ 200)
def ip (C:Int→Int→Bool) (g:Int→Int→PyData):PyData→PyData→Option PyData
  | .int i, .int j=>if C i j then some (g i j) else none
  | _,_=>none
abbrev rR (C:Int→Int→Bool) (g:Int→Int→V):R2:=rI (fun i j=>C i j=true) g
theorem jg {K:PySem.W.Frag} {C:Int→Int→Bool} {g:Int→Int→PyData} {g':Int→Int→V} (hg:∀i j,pU (g i j)=some (g' i j)):eG K (rR C g') (cm (ip C g)):=by
  refine hV fun d1 d2 d v1 v2 H Q e r1 r2=>?_
  unfold ip at e
  split at e
  · split at e
    · cases e
      cases r1
      cases r2
      rename_i hC
      exact ⟨_,hg _ _,fun q=>⟨_,_,rfl,rfl,hC,q⟩⟩
    · cases e
  · cases e
section
variable {X:Cx}
theorem gy {i:Int} (h1: -lV < i) (h2:i < lV):Builtin.Int.intBits i≤2 ^ 20:=by
  unfold lV at h1 h2
  have h:i.natAbs < 2 ^ 20000:=by
    have e:((2 ^ 20000:Nat):Int)=2 ^ 20000:=Int.natCast_pow 2 20000
    generalize (2 ^ 20000:Int)=z at h1 h2 e
    generalize (2 ^ 20000:Nat)=y at e ⊢
    omega
  unfold Builtin.Int.intBits
  split
  · exact Nat.zero_le _
  · rename_i hz
    have hz':i≠0:=by simpa using hz
    have:i.natAbs.log2 < 20000:=(Nat.log2_lt (by omega)).mpr h
    omega
theorem nk {i j:Int} (h:bB i j=true):PySem.IntMulOk i j:=by
  unfold bB at h
  simp only [Bool.or_eq_true,decide_eq_true_eq] at h
  rcases h with (h | h) | h
  · exact CMul.ok (.inl h)
  · exact CMul.ok (.inr h)
  · exact PySem.IntMulOk.of_bits (gy h.1 h.2.1) (gy h.2.2.1 h.2.2.2)
end
end PL
namespace PL
open PySem L2 Nh PyProof.Rows
abbrev gn:=L2.St
section
variable {X:Cx}
theorem OpR.or {f:Value→Value→Sem Value} {r r':R2} (h:OpR X f r) (h':OpR X f r'):OpR X f (fun x y H Q=>r x y H Q∨r' x y H Q):=by
  intro pins s σ H x y v u Q I rx ry q
  rcases q with q | q
  · exact h pins s σ H x y v u Q I rx ry q
  · exact h' pins s σ H x y v u Q I rx ry q
theorem OpR.imp {f:Value→Value→Sem Value} {r r':R2} (h:OpR X f r) (k:∀x y H Q,r' x y H Q→r x y H Q):OpR X f r':=fun pins s σ H x y v u Q I rx ry q=>h pins s σ H x y v u Q I rx ry (k _ _ _ _ q)
def pV (K:PySem.W.Frag):R2:=fun x y H Q=>∃l b xs zs,x= .ref l∧y= .ref b∧SqL K H l xs∧SqL K H b zs∧xs.length+zs.length≤sizeLine∧∀p,H p=none→Q (.ref p) (upd H p (.lst (xs++zs)))
theorem o0:OpR X (binaryOp .Add) (pV X.K):=by
  intro pins s σ H x y v u Q I rx ry h
  obtain ⟨l,b,xs,zs,rfl,rfl,hH,hB,hz,q⟩:=h
  cases rx
  cases ry
  obtain ⟨its,r,p1,z1⟩:=I.list hH
  obtain ⟨its2,r2,p2,z2⟩:=I.list hB
  obtain ⟨⟨cls,dd,data,sl⟩,ho,hc,n,hd⟩:=p1.isList
  obtain ⟨⟨cls2,dd2,data2,sl2⟩,ho2,hc2,n2,oA⟩:=p2.isList
  simp only at hc hd hc2 oA
  subst hc hd hc2 oA
  have l1:=r.length
  have l2:=r2.length
  refine concat_meets ⟨_,ho,rfl⟩ ⟨_,ho2,rfl⟩ noFill_list_add seq_list_add PySem.F.slot_list_add PySem.F.entry_list_add (PySem.F.args_list_add_2 _ _) (list_addW l b its.toArray its2.toArray n n2 dd dd2 sl sl2 (by simp only [List.size_toArray];omega)) ⟨ho,ho2,?_⟩
  have ea:its.toArray++its2.toArray=(its++its2).toArray:=by simp
  rw [ea]
  exact ⟨.ref _,_,I.lnew (t':=s.toks) (r.append r2) (by rw [List.length_append];omega),rfl,q _ I.fresh⟩
def pW (K:PySem.W.Frag):R2:=fun x y H Q=>∃l k xs,x= .ref l∧y= .int k∧SqL K H l xs∧ -(2 ^ 63)≤k∧k < 2 ^ 63∧xs.length*k.toNat≤sizeLine∧
  ∀p,H p=none→Q (.ref p) (upd H p (.lst (List.replicate k.toNat xs).flatten))
theorem o3:OpR X (binaryOp .Mult) (pW X.K):=by
  intro pins s σ H x y v u Q I rx ry h
  obtain ⟨l,k,xs,rfl,rfl,hH,h1,h2,hz,q⟩:=h
  cases rx
  obtain ⟨t,rfl⟩:=ry
  obtain ⟨its,r,p1,z1⟩:=I.list hH
  obtain ⟨⟨cls,d,data,sl⟩,ho,hcl,n,hd⟩:=p1.isList
  simp only at hcl hd
  subst hcl hd
  have l1:=r.length
  have hsz:its.toArray.size*k.toNat≤2 ^ 24:=by rw [List.size_toArray,←l1];exact hz
  refine wpAny_binaryOp_repeat_ref (T:="list") (U:="int") (by decide) ⟨_,ho,rfl⟩ (fun s'=>typeIs_int s' k t) noFill_list_mul F.fills_int_mul F.slot_int_rmul repeat_list F.slot_int_index.lookup
    (call_meets F.slot_int_rmul (typeIs_int s k t) F.entry_int_rmul (F.args_int_rmul_2 _ _) (lm_int_rmul_list_any k t l its.toArray n d sl)
      ⟨ho,rfl,⟨_,ho,rfl⟩,call_meets F.slot_list_mul ⟨_,ho,rfl⟩ F.entry_list_mul (F.args_list_mul_2 _ _)
        (lm_list_mul_any l its.toArray n d sl k t (by simp [Builtin.List.listFitsIndex];omega) (by omega) (by simp [Builtin.List.listTooLong,sizeLine];omega))
        ⟨ho,?_⟩⟩)
  rw [listMul_foldl_if]
  exact ⟨.ref _,_,I.lnew (t':=s.toks) (r.rep k.toNat) (by rw [oW,Nat.mul_comm];exact hz),rfl,q _ I.fresh⟩
end
def aX:P2:=fun E s1 s2=>(look E s1).bind fun d1=>(look E s2).bind fun d2=>match d1,d2 with
  | .int i, .int j=>some (.sh (.int (i+j)),E)
  | .str a, .str b=>if a.length+b.length≤1000000 then some (.sh (.str (a++b)),E) else none
  | .list a, .list b=>if decide (a.length+b.length≤1000000)&&(!ck E s1||aS a)&&(!ck E s2||aS b) then some (.ow (a++b),E) else none
  | _,_=>none
theorem nn {n:Nat} (h:n≤1000000):n < sizeLine:=Nat.lt_of_le_of_lt h (by rw [sizeLine_eq];decide)
theorem d7 {n:Nat} (h:n≤1000000):n≤sizeLine:=Nat.le_of_lt (nn h)
section
variable {K:PySem.W.Frag} {B F:Hp} {A:List Addr} {σ:gn} {H:Hp} {E:List Sl} {xs:List V} {Xs:List Sl} {v:V} {s:Sl} {ds:List PyData}
theorem FrF.items {k:Nat} (h:FrF K B F A σ H E xs Xs) (e:Xs[k]? =some s) (q:PL.look E s=some (.list ds)) (c:(!ck E s||aS ds)=true):∃a vs,xs[k]? =some (.ref a)∧SqL K H a vs∧RpA K F vs ds:=by
  obtain ⟨v,ev,r,f⟩:=h.look e q
  cases hh:ck E s with
  | false=>
    obtain ⟨a,vs,rfl,h1,h2⟩:=f hh
    exact ⟨a,vs,ev,h1,h2⟩
  | true=>
    rw [hh] at c
    cases r with
    | lst h1 h2=>exact ⟨_,_,ev,h1,h.coldA h2 (by simpa using c)⟩
theorem FrF.res2l {v1 v2:V} {s1 s2:Sl} {vs:List V} (h:FrF K B F A σ H E (v2::v1::xs) (s2::s1::Xs)) (r:RpA K F vs ds) {p:Addr} (hp:H p=none):Frm K B σ (upd H p (.lst vs)) E (.ref p::xs) (.ow ds::Xs):=by
  obtain ⟨A1,h⟩:=h.pop
  obtain ⟨A2,h⟩:=h.pop
  exact ⟨F,_,h.newl r hp⟩
end
abbrev pX (K:PySem.W.Frag):R2:=fun x y H Q=>(∃i j,x= .int i∧y= .int j∧Q (.int (i+j)) H)∨(∃i j,x= .str i∧y= .str j∧i.length+j.length≤sizeLine∧Q (.str (i++j)) H)∨pV K x y H Q
theorem o6 {X:Cx}:OpR X (binaryOp .Add) (pX X.K):=OpR.or qo (OpR.or km o0)
theorem o7 {K:PySem.W.Frag}:eG K (pX K) aX:=by
  intro B F A σ H E xs Xs v1 v2 s1 s2 res E' Q fr e q
  obtain ⟨d1,e1,e⟩:=Option.bind_eq_some_iff.mp e
  obtain ⟨d2,e2,e⟩:=Option.bind_eq_some_iff.mp e
  have r1:=(fr.look1 e1).1
  have r2:=(fr.look0 e2).1
  split at e
  · cases e;cases r1;cases r2
    exact .inl ⟨_,_,rfl,rfl,q _ _ (fr.res2 ⟨rfl,_,rfl, .int _⟩)⟩
  · split at e
    · rename_i hl
      cases e;cases r1;cases r2
      exact .inr (.inl ⟨_,_,rfl,rfl,d7 hl,q _ _ (fr.res2 ⟨rfl,_,rfl, .str _⟩)⟩)
    · cases e
  · split at e
    · rename_i hc
      cases e
      simp only [Bool.and_eq_true,decide_eq_true_eq] at hc
      obtain ⟨a1,u1,x1,q1,i1⟩:=fr.items (k:=1) rfl e1 hc.1.2
      obtain ⟨a2,u2,x2,q2,i2⟩:=fr.items (k:=0) rfl e2 hc.2
      cases x1;cases x2
      have l1:=i1.len
      have l2:=i2.len
      exact .inr (.inr ⟨_,_,_,_,rfl,rfl,q1,q2,d7 (by omega),fun p hp=>q _ _ (fr.res2l (i1.append i2) hp)⟩)
    · cases e
  · cases e
def cY:P2:=cm (ip (fun _ _=>true) fun i j=> .int (i - j))
def cM:P2:=cm (ip (fun _ j=>cw j) fun i j=> .int (i / j))
def cf:P2:=cm (ip (fun _ j=>decide (0 < j)) fun i j=> .int (i % j))
def eL:P2:=cm (ip (fun i j=>decide (0≤j∧j≤1000000∧ -(2 ^ 64) < i∧i < 2 ^ 64)) fun i j=> .int (i ^ j.toNat))
section
variable {X:Cx}
theorem o8:OpR X (binaryOp .Sub) (rR (fun _ _=>true) fun i j=> .int (i - j)):=OpR.imp qp fun x y H Q ⟨i,j,a,b,_,q⟩=>⟨i,j,a,b,q⟩
theorem jI:OpR X (binaryOp .FloorDiv) (rR (fun _ j=>cw j) fun i j=> .int (i / j)):=tR fun i j _ _ _ _ _ hc q=>by
  obtain ⟨h1,h2⟩:=of_decide_eq_true hc
  have h3:j.natAbs.log2 < 9000:=by
    have:j.natAbs < 2 ^ 200:=by omega
    have:=(Nat.log2_lt (n:=j.natAbs) (k:=200) (by omega)).mpr this
    omega
  exact floordiv_int (by omega) (by rw [Int.fdiv_eq_ediv_of_nonneg i (by omega)];exact q) (.inl (PyProof.noPylong_of_log2 h3))
theorem o9:OpR X (binaryOp .Mod) (rR (fun _ j=>decide (0 < j)) fun i j=> .int (i % j)):=OpR.imp mI fun x y H Q ⟨i,j,a,b,c,q⟩=>⟨i,j,a,b,of_decide_eq_true c,q⟩
theorem o_ {i j:Int} (c:0≤j∧j≤1000000∧ -(2 ^ 64) < i∧i < 2 ^ 64):sw i j:=⟨c.1,c.2.1,by omega⟩
theorem pb:OpR X (binaryOp .Pow) (rR (fun i j=>decide (0≤j∧j≤1000000∧ -(2 ^ 64) < i∧i < 2 ^ 64)) fun i j=> .int (i ^ j.toNat)):=OpR.imp qr fun x y H Q ⟨i,j,a,b,c,q⟩=>⟨i,j,a,b,o_ (of_decide_eq_true c),q⟩
end
def bC:P2:=fun E s1 s2=>(look E s1).bind fun d1=>(look E s2).bind fun d2=>match d1,d2 with
  | .int i, .int j=>if bB i j then some (.sh (.int (i*j)),E) else none
  | .list a, .int k=>if decide (a.length*k.toNat≤1000000∧ -1000000≤k∧k≤1000000)&&(!ck E s1||aS a) then some (.ow (List.replicate k.toNat a).flatten,E) else none
  | _,_=>none
abbrev pY (K:PySem.W.Frag):R2:=fun x y H Q=>rR bB (fun i j=> .int (i*j)) x y H Q∨pW K x y H Q
theorem pc {X:Cx}:OpR X (binaryOp .Mult) (pY X.K):=OpR.or (tR fun _ _ _ _ _ _ _ hc q=>mul_int q (nk hc)) o3
theorem pd {K:PySem.W.Frag}:eG K (pY K) bC:=by
  intro B F A σ H E xs Xs v1 v2 s1 s2 res E' Q fr e q
  obtain ⟨d1,e1,e⟩:=Option.bind_eq_some_iff.mp e
  obtain ⟨d2,e2,e⟩:=Option.bind_eq_some_iff.mp e
  have r1:=(fr.look1 e1).1
  have r2:=(fr.look0 e2).1
  split at e
  · split at e
    · rename_i hm
      cases e;cases r1;cases r2
      exact .inl ⟨_,_,rfl,rfl,hm,q _ _ (fr.res2 ⟨rfl,_,rfl, .int _⟩)⟩
    · cases e
  · split at e
    · rename_i hc
      cases e
      simp only [Bool.and_eq_true,decide_eq_true_eq] at hc
      obtain ⟨a1,u1,x1,q1,i1⟩:=fr.items (k:=1) rfl e1 hc.2
      cases x1;cases r2
      have l1:=i1.len
      exact .inr ⟨_,_,_,rfl,rfl,q1,by omega,by omega,d7 (by rw [l1];exact hc.1.1),fun p hp=>q _ _ (fr.res2l (i1.rep _) hp)⟩
    · cases e
  · cases e
section
variable {X:Cx} {a b:Expr} {m1 m2:Bool} {f g:b7} {pos:Pos}
theorem bq (ha:EX X a m1 f) (hb:EX X b m2 g):EX X (.BinOp a .Add b pos) (m1||m2) (ag aX m2 f g):=iO o6 o7 ha hb
theorem d8 (ha:EX X a m1 f) (hb:EX X b m2 g):EX X (.BinOp a .Sub b pos) (m1||m2) (ag cY m2 f g):=iO o8 (jg fun _ _=>rfl) ha hb
theorem bD (ha:EX X a m1 f) (hb:EX X b m2 g):EX X (.BinOp a .Mult b pos) (m1||m2) (ag bC m2 f g):=iO pc pd ha hb
theorem fb (ha:EX X a m1 f) (hb:EX X b m2 g):EX X (.BinOp a .FloorDiv b pos) (m1||m2) (ag cM m2 f g):=iO jI (jg fun _ _=>rfl) ha hb
theorem cO (ha:EX X a m1 f) (hb:EX X b m2 g):EX X (.BinOp a .Mod b pos) (m1||m2) (ag cf m2 f g):=iO o9 (jg fun _ _=>rfl) ha hb
theorem fB (ha:EX X a m1 f) (hb:EX X b m2 g):EX X (.BinOp a .Pow b pos) (m1||m2) (ag eL m2 f g):=iO pb (jg fun _ _=>rfl) ha hb
end
def uD (K:PySem.W.Frag) (r:V→Hp→VK→Prop) (op:PyData→Option PyData):Prop:=∀(d1 d:PyData) (v1:V) (H:Hp) (Q:VK),op d1=some d→Rp K H v1 d1→∃v,pU d=some v∧(Q v H→r v1 H Q)
def cy (op:PyData→Option PyData) (f:b7):b7:=fun E=>(f E).bind fun a=>(look a.2 a.1).bind fun d1=>(op d1).map fun d=>(.sh d,a.2)
theorem sT {K:PySem.W.Frag} {r:V→Hp→VK→Prop} {op:PyData→Option PyData} (hp:uD K r op) {m:Bool} {f:b7} {σ:gn} {H:Hp} {Q:VK} (h:rd K m (cy op f) σ H Q):rd K m f σ H (fun x H1=>r x H1 Q):=by
  obtain ⟨B,E,xs,Xs,res,E',fr,c,e,q⟩:=h
  obtain ⟨⟨s1,E1⟩,e1,e⟩:=Option.bind_eq_some_iff.mp e
  obtain ⟨d1,e2,e⟩:=Option.bind_eq_some_iff.mp e
  obtain ⟨d,e3,e⟩:=Option.map_eq_some_iff.mp e
  cases e
  refine ⟨B,E,xs,Xs,s1,E1,fr,c,e1,fun v1 H1 ⟨F,A,fr1⟩=>?_⟩
  obtain ⟨v,hv,k⟩:=hp d1 d v1 H1 Q e3 (fr1.look0 e2).1
  obtain ⟨A',fr2⟩:=fr1.pop
  exact k (q v H1 ⟨F,A',fr2.push ⟨rfl,v,rfl,hO hv⟩⟩)
def bM:PyData→Option PyData
  | .int i=>some (.int (-i))
  | _=>none
section
variable {X:Cx} {a b c:Expr} {m1 m2 m3:Bool} {f g h:b7} {pos:Pos}
theorem dL (ha:EX X a m1 f):EX X (.UnaryOp .USub a pos) m1 (cy bM f):=bp (sr qu ha) fun σ H Q h=>sT (r:=rU fun i=> .int (-i)) (fun d1 d v1 H Q e r=>by
  cases d1 <;> simp [bM] at e
  cases e;cases r
  exact ⟨_,rfl,fun q=>⟨_,rfl,q⟩⟩) h
end
def lj (d1 d2:PyData):Option Bool:=match d1,d2 with
  | .int i, .int j=>some (decide (i=j))
  | .str a, .str b=>some (decide (a=b))
  | .bool a, .bool b=>some (decide (a=b))
  | .none, .none=>some true
  | .none, .str _=>some false
  | .str _, .none=>some false
  | d1,d2=>if SeqAt.shaped d1&&SeqAt.shaped d2 then some (PyData.eqv d1 d2) else none
def iq:P2:=cm fun d1 d2=>(lj d1 d2).map fun b=> .bool b
def gp:P2:=cm fun d1 d2=>(lj d1 d2).map fun b=> .bool (!b)
abbrev uE (K:PySem.W.Frag):R2:=fun x y H Q=>uY x y H Q∨sR K x y H Q
abbrev uF (K:PySem.W.Frag):R2:=fun x y H Q=>uZ x y H Q∨sS K x y H Q
theorem nq {K:PySem.W.Frag} {H:Hp} {v1 v2:V} {d1 d2:PyData} {b:Bool} (e:lj d1 d2=some b) (r1:Rp K H v1 d1) (r2:Rp K H v2 d2):
    (qv v1 v2=true∧decide (v1=v2)=b)∨(DOf K H v1 d1∧DOf K H v2 d2∧SeqAt.shaped d1=true∧SeqAt.shaped d2=true∧PyData.eqv d1 d2=b):=by
  unfold lj at e
  split at e
  · cases e;cases r1;cases r2;exact .inl ⟨rfl,by simp⟩
  · cases e;cases r1;cases r2;exact .inl ⟨rfl,by simp⟩
  · cases e;cases r1;cases r2;exact .inl ⟨rfl,by simp⟩
  · cases e;cases r1;cases r2;exact .inl ⟨rfl,rfl⟩
  · cases e;cases r1;cases r2;exact .inl ⟨rfl,rfl⟩
  · cases e;cases r1;cases r2;exact .inl ⟨rfl,rfl⟩
  · split at e
    · rename_i hs
      cases e
      simp only [Bool.and_eq_true] at hs
      exact .inr ⟨r1.dof hs.1,r2.dof hs.2,hs.1,hs.2,rfl⟩
    · cases e
theorem qL {K:PySem.W.Frag}:eG K (uE K) iq:=hV fun d1 d2 d v1 v2 H Q e r1 r2=>by
  obtain ⟨b,e',rfl⟩:=Option.map_eq_some_iff.mp e
  refine ⟨_,rfl,fun q=>?_⟩
  rcases nq e' r1 r2 with ⟨a,rfl⟩ | ⟨a1,a2,a3,a4,rfl⟩
  · exact .inl ⟨a,q⟩
  · exact .inr ⟨_,_,a1,a2,a3,a4,q⟩
theorem qM {K:PySem.W.Frag}:eG K (uF K) gp:=hV fun d1 d2 d v1 v2 H Q e r1 r2=>by
  obtain ⟨b,e',rfl⟩:=Option.map_eq_some_iff.mp e
  refine ⟨_,rfl,fun q=>?_⟩
  rcases nq e' r1 r2 with ⟨a,rfl⟩ | ⟨a1,a2,a3,a4,rfl⟩
  · exact .inl ⟨a,q⟩
  · exact .inr ⟨_,_,a1,a2,a3,a4,q⟩
def nr (K:PySem.W.Frag) (r:R2) (op:PyData→PyData→Option PyData):Prop:=∀(d1 d2 d:PyData) (v1 v2:V) (H:Hp) (Q:VK),op d1 d2=some d→Rp K H v1 d1→Rp K H v2 d2→∃v,pU d=some v∧(Q v H→r v1 v2 H Q)
def fD (op op':PyData→PyData→Option PyData) (m2 m3:Bool) (f g h:b7):b7:=fun E=>(f E).bind fun a=>if (m2||m3)&&a.1.isBr then none else (g a.2).bind fun b=>if m3&&b.1.isBr then none else
  (look b.2 a.1).bind fun d1=>(look b.2 b.1).bind fun d2=>match op d1 d2 with
    | some (.bool true)=>(h b.2).bind fun c=>(look c.2 b.1).bind fun d2=>(look c.2 c.1).bind fun d3=>(op' d2 d3).map fun d=>(.sh d,c.2)
    | some (.bool false)=>some (.sh (.bool false),b.2)
    | _=>none
section
variable {X:Cx} {a b c:Expr} {m1 m2 m3:Bool} {f g h:b7} {pos:Pos}
theorem nt (hu:X.A.units+64 < cLine) (ha:EX X a m1 f) (hb:EX X b m2 g):TX X (.Compare a [.Eq] [b] pos) (m1||m2) (cu (ag iq m2 f g)):=kz (OpR.or sx (qG hu)) qL ha hb (kj _)
theorem hW (hu:X.A.units+64 < cLine) (ha:EX X a m1 f) (hb:EX X b m2 g):TX X (.Compare a [.NotEq] [b] pos) (m1||m2) (cu (ag gp m2 f g)):=kz (OpR.or sy (qH hu)) qM ha hb (kj _)
theorem nu {K:PySem.W.Frag} {r r':R2} {op op':PyData→PyData→Option PyData} (k:nr K r op) (k':nr K r' op') {σ:gn} {H:Hp} {Q:VK} (z:rd K (m1||(m2||m3)) (fD op op' m2 m3 f g h) σ H Q):mK r r' (rd K m1 f) (rd K m2 g) (rd K m3 h) σ H Q:=by
  obtain ⟨B,E,xs,Xs,res,E',fr,cl,e,q⟩:=z
  obtain ⟨⟨s1,E1⟩,e1,e⟩:=Option.bind_eq_some_iff.mp e
  by_cases hb:((m2||m3)&&s1.isBr)=true
  · rw [if_pos hb] at e;cases e
  rw [if_neg hb] at e
  obtain ⟨⟨s2,E2⟩,e2,e⟩:=Option.bind_eq_some_iff.mp e
  by_cases hb2:(m3&&s2.isBr)=true
  · rw [if_pos hb2] at e;cases e
  rw [if_neg hb2] at e
  obtain ⟨d1,l1,e⟩:=Option.bind_eq_some_iff.mp e
  obtain ⟨d2,l2,e⟩:=Option.bind_eq_some_iff.mp e
  have n1:(m2||m3)=true→s1.isBr=false:=fun z=>by
    cases hs:s1.isBr with
    | false=>rfl
    | true=>exact absurd (by rw [z,hs];rfl) hb
  have n2:m3=true→s2.isBr=false:=fun z=>by
    cases hs:s2.isBr with
    | false=>rfl
    | true=>exact absurd (by rw [z,hs];rfl) hb2
  refine ⟨B,E,xs,Xs,s1,E1,fr,fun z=>cl (by simp [z]),e1,fun v1 H1 fr1=>?_⟩
  refine ⟨B,E1,v1::xs,s1::Xs,s2,E2,fr1,fun z=>Calm.cons (cl (by simp [z])) (n1 (by simp [z])),e2,fun v2 H2 ⟨F,A,fr2⟩=>?_⟩
  cases ho:op d1 d2 with
  | none=>rw [ho] at e;cases e
  | some d=>
    rw [ho] at e
    obtain ⟨v,hv,kk⟩:=k d1 d2 d v1 v2 H2 (fun z H3=>∃k,z= .bl k∧(if k=true then rd K m3 h σ H3 fun w' H4=>r' v2 w' H4 Q else Q (.bl false) H3)) ho (fr2.look1 l1).1 (fr2.look0 l2).1
    cases d with
    | bool t=>
      cases hv
      refine kk ⟨t,rfl,?_⟩
      cases t with
      | true=>
        rw [if_pos rfl]
        obtain ⟨⟨s3,E3⟩,e3,e⟩:=Option.bind_eq_some_iff.mp e
        obtain ⟨d2',l2',e⟩:=Option.bind_eq_some_iff.mp e
        obtain ⟨d3,l3,e⟩:=Option.bind_eq_some_iff.mp e
        obtain ⟨d,ho',e⟩:=Option.map_eq_some_iff.mp e
        cases e
        refine ⟨B,E2,v2::v1::xs,s2::s1::Xs,s3,E3,⟨F,A,fr2⟩,fun z=>Calm.cons (Calm.cons (cl (by simp [z])) (n1 (by simp [z]))) (n2 z),e3,fun v3 H3 ⟨F3,A3,fr3⟩=>?_⟩
        obtain ⟨v,hv,kk⟩:=k' d2' d3 d v2 v3 H3 Q ho' (fr3.look1 l2').1 (fr3.look0 l3).1
        obtain ⟨A4,fr4⟩:=fr3.pop
        exact kk (q v H3 (fr4.res2 ⟨rfl,v,rfl,hO hv⟩))
      | false=>
        rw [if_neg (by decide)]
        cases e
        exact q _ _ (fr2.res2 ⟨rfl,_,rfl, .bl _⟩)
    | none=>cases e
    | int i=>cases e
    | str x=>cases e
    | list xs=>cases e
    | tuple xs=>cases e
    | dict kvs=>cases e
end
end PL
namespace PL
open PySem L2 Nh
def lm (f g:b7):b7:=fun E=>(f E).bind fun a=>match a.1 with
  | .sh (.bool true)=>g a.2
  | .sh (.bool false)=>some (.sh (.bool false),a.2)
  | _=>none
def cz (f g:ik):ik:=fun E=>(f E).bind fun a=>if a.1 then g a.2 else some (false,a.2)
def ir (f g:ik):ik:=fun E=>(f E).bind fun a=>if a.1 then some (true,a.2) else g a.2
def bU (f:ik):ik:=fun E=>(f E).map fun a=>(!a.1,a.2)
def tT (c:ik) (f g:b7):b7:=fun E=>(c E).bind fun a=>if a.1 then f a.2 else g a.2
def eM:PyData→Option Bool
  | .none=>some false
  | .bool b=>some b
  | .int i=>some (i != 0)
  | .str x=>if x.length≤1000000 then some ((x.length:Int) != 0) else none
  | .list xs=>some (!xs.isEmpty)
  | .tuple xs=>some (!xs.isEmpty)
  | .dict _=>none
def cL (f:b7):ik:=fun E=>(f E).bind fun a=>match a.1 with
  | .al i=>match a.2[i]? with
    | some (.od kvs)=>some (!kvs.isEmpty,a.2)
    | some s=>(s.val.bind eM).map fun b=>(b,a.2)
    | none=>none
  | s=>(s.val.bind eM).map fun b=>(b,a.2)
section
variable {X:Cx} {a b c:Expr} {be:List Expr} {m1 m2 m3:Bool} {f g h:b7} {t u:ik} {pos:Pos} {K:PySem.W.Frag}
theorem qN {op} (h:EX X a m1 f):EX X (.BoolOp op [a] pos) m1 f:=qc h
theorem nv (ha:EX X a m1 f) (hb:EX X (.BoolOp .And (b::be) pos) m2 g):EX X (.BoolOp .And (a::b::be) pos) (m1||m2) (lm f g):=by
  refine bp (qd ha hb) fun σ H Q z=>?_
  obtain ⟨B,E,xs,Xs,res,E',fr,cl,e,q⟩:=z
  obtain ⟨⟨s1,E1⟩,e1,e⟩:=Option.bind_eq_some_iff.mp e
  refine ⟨B,E,xs,Xs,s1,E1,fr,fun z=>cl (by simp [z]),e1,fun v1 H1 ⟨F,A,fr1⟩=>?_⟩
  simp only at e
  split at e
  · obtain ⟨r,_⟩:=fr1.look0 (d:= .bool true) rfl
    cases r
    obtain ⟨A',fr2⟩:=fr1.pop
    exact ⟨true,rfl,(if_pos rfl).mpr ⟨B,E1,xs,Xs,res,E',⟨F,A',fr2⟩,fun z=>cl (by simp [z]),e,q⟩⟩
  · cases e
    obtain ⟨r,_⟩:=fr1.look0 (d:= .bool false) rfl
    cases r
    exact ⟨false,rfl,(if_neg (by decide)).mpr (q _ _ ⟨F,A,fr1⟩)⟩
  · cases e
theorem jh (ha:TX X a m1 t):WX X (.BoolOp .And [a] pos) m1 t:=oE ha
theorem ji (ha:TX X a m1 t):WX X (.BoolOp .Or [a] pos) m1 t:=p9 ha
theorem kA (ha:TX X a m1 t) (hb:WX X (.BoolOp .And (b::be) pos) m2 u):WX X (.BoolOp .And (a::b::be) pos) (m1||m2) (cz t u):=by
  refine nh (p_ ha hb) fun σ H Q z=>?_
  obtain ⟨B,E,xs,Xs,res,E',fr,cl,e,q⟩:=z
  obtain ⟨⟨b1,E1⟩,e1,e⟩:=Option.bind_eq_some_iff.mp e
  refine ⟨B,E,xs,Xs,b1,E1,fr,fun z=>cl (by simp [z]),e1,fun H1 fr1=>?_⟩
  cases b1 with
  | true=>exact (if_pos rfl).mpr ⟨B,E1,xs,Xs,res,E',fr1,fun z=>cl (by simp [z]),e,q⟩
  | false=>cases e;exact (if_neg (by decide)).mpr (q _ fr1)
theorem iP (ha:TX X a m1 t) (hb:WX X (.BoolOp .Or (b::be) pos) m2 u):WX X (.BoolOp .Or (a::b::be) pos) (m1||m2) (ir t u):=by
  refine nh (r8 ha hb) fun σ H Q z=>?_
  obtain ⟨B,E,xs,Xs,res,E',fr,cl,e,q⟩:=z
  obtain ⟨⟨b1,E1⟩,e1,e⟩:=Option.bind_eq_some_iff.mp e
  refine ⟨B,E,xs,Xs,b1,E1,fr,fun z=>cl (by simp [z]),e1,fun H1 fr1=>?_⟩
  cases b1 with
  | true=>cases e;exact (if_pos rfl).mpr (q _ fr1)
  | false=>exact (if_neg (by decide)).mpr ⟨B,E1,xs,Xs,res,E',fr1,fun z=>cl (by simp [z]),e,q⟩
theorem kB (h:WX X a m1 t):TX X a m1 t:=PW.pt h
theorem dM (ha:TX X a m1 t):TX X (.UnaryOp .Not a pos) m1 (bU t):=by
  refine jd (qa ha) fun σ H Q z=>?_
  obtain ⟨B,E,xs,Xs,res,E',fr,cl,e,q⟩:=z
  obtain ⟨⟨b1,E1⟩,e1,e⟩:=Option.map_eq_some_iff.mp e
  cases e
  exact ⟨B,E,xs,Xs,b1,E1,fr,cl,e1,fun H1 fr1=>q _ fr1⟩
theorem sU (hc:TX X c m1 t) (ha:EX X a m2 f) (hb:EX X b m3 g):EX X (.IfExp c a b pos) (m1||(m2||m3)) (tT t f g):=by
  refine bp (mB hc ha hb) fun σ H Q z=>?_
  obtain ⟨B,E,xs,Xs,res,E',fr,cl,e,q⟩:=z
  obtain ⟨⟨b1,E1⟩,e1,e⟩:=Option.bind_eq_some_iff.mp e
  refine ⟨B,E,xs,Xs,b1,E1,fr,fun z=>cl (by simp [z]),e1,fun H1 fr1=>?_⟩
  cases b1 with
  | true=>exact (if_pos rfl).mpr ⟨B,E1,xs,Xs,res,E',fr1,fun z=>cl (by simp [z]),e,q⟩
  | false=>exact (if_neg (by decide)).mpr ⟨B,E1,xs,Xs,res,E',fr1,fun z=>cl (by simp [z]),e,q⟩
theorem qO {H:Hp} {v:V} {d:PyData} {b:Bool} (r:Rp K H v d) (e:eM d=some b):mM K v H b:=by
  cases r with
  | non=>cases e;rfl
  | bl b=>cases e;rfl
  | int i=>cases e;rfl
  | str x=>
    simp only [eM] at e
    split at e
    · rename_i hl
      cases e
      exact ⟨d7 hl,rfl⟩
    · cases e
  | lst h r=>cases e;exact .inl ⟨_,h,by cases r <;> rfl⟩
  | tup h r=>cases e;exact .inr (.inl ⟨_,h,by cases r <;> rfl⟩)
  | dct h r=>cases e
  | exc h r=>cases e
theorem du (ha:EX X a m1 f) (he:∀whole,isTrue a X.env whole=(do let v ←whole;standAt a.pos;holding [v] (truthy v)):=by exact fun _=>rfl):TX X a m1 (cL f):=by
  refine jd (mO ha he) fun σ H Q z=>?_
  obtain ⟨B,E,xs,Xs,res,E',fr,cl,e,q⟩:=z
  obtain ⟨⟨s,E1⟩,e1,e⟩:=Option.bind_eq_some_iff.mp e
  refine ⟨B,E,xs,Xs,s,E1,fr,cl,e1,fun v1 H1 ⟨F,A,fr1⟩=>?_⟩
  have key:∀d,look E1 s=some d→(eM d).map (fun b=>(b,E1))=some (res,E')→∃k,mM X.K v1 H1 k∧Q k H1:=fun d l e=>by
    obtain ⟨b,e',z⟩:=Option.map_eq_some_iff.mp e
    cases z
    obtain ⟨A',fr2⟩:=fr1.pop
    exact ⟨_,qO (fr1.look0 l).1 e',q _ ⟨F,A',fr2⟩⟩
  have kv:(s.val.bind eM).map (fun b=>(b,E1))=some (res,E')→(∀i,s≠ .al i)→∃k,mM X.K v1 H1 k∧Q k H1:=fun e na=>by
    obtain ⟨b,e',z⟩:=Option.map_eq_some_iff.mp e
    obtain ⟨d,e1,e2⟩:=Option.bind_eq_some_iff.mp e'
    refine key d ?_ (by rw [e2];exact congrArg some z)
    cases s <;> first | exact e1 | exact absurd rfl (na _)
  simp only at e
  split at e
  · rename_i i
    split at e
    · rename_i kvs ei
      cases e
      obtain ⟨v',A1,ev,rfl,w,ew,hw⟩:=fr1.ext (k:=0) rfl
      cases ev;cases ew
      obtain ⟨o,A1,eo,l,us,A2,rfl,_,hl,r⟩:=fr1.var ei
      rw [hw] at eo
      cases eo
      obtain ⟨A',fr2⟩:=fr1.pop
      exact ⟨_, .inr (.inr ⟨_,hl,by cases us <;> cases kvs <;> first | rfl | exact False.elim r⟩),q _ ⟨F,A',fr2⟩⟩
    · rename_i s' _ ei
      obtain ⟨b,e',z⟩:=Option.map_eq_some_iff.mp e
      obtain ⟨d,e1,e2⟩:=Option.bind_eq_some_iff.mp e'
      exact key d (by simp [look,ei,e1]) (by rw [e2];exact congrArg some z)
    · cases e
  · rename_i na
    exact kv e na
end
theorem nw {X:Cx} {a b c:Expr} {m1 m2 m3:Bool} {f g h:b7} {pos:Pos} {o1 o2:CmpOp} {r r':R2} {op op':PyData→PyData→Option PyData} (ho:OpR X (compareOp o1) r) (ho':OpR X (compareOp o2) r') (k:nr X.K r op) (k':nr X.K r' op') (ha:EX X a m1 f) (hb:EX X b m2 g) (hc:EX X c m3 h)
    (hm:lastMarks [o1,o2] [b,c]=false:=by with_unfolding_all rfl):TX X (.Compare a [o1,o2] [b,c] pos) (m1||(m2||m3)) (cu (fD op op' m2 m3 f g h)):=jd (mL ho ho' ha hb hc hm) fun _ _ _ z=>nu k k' (nj z)
def ap:jc:=fun E=>some ([],E)
def ad (m2:Bool) (f:b7) (g:jc):jc:=fun E=>(f E).bind fun a=>if m2&&a.1.isBr then none else (g a.2).map fun b=>(a.1::b.1,b.2)
def aH:io:=fun E=>some ([],E)
def aj (f:b7) (g:io):io:=fun E=>(f E).bind fun a=>(frz a.2 a.1).bind fun b=>(g b.2).map fun c=>(b.1::c.1,c.2)
def bS (f:io):b7:=fun E=>(f E).bind fun a=>if a.1.length≤1000000 then some (.sh (.tuple a.1),a.2) else none
def bH (f:io):b7:=fun E=>(f E).bind fun a=>if a.1.length≤1000000 then some (.ow a.1,a.2) else none
section
variable {X:Cx} {e:Expr} {es:List Expr} {m1 m2:Bool} {f:b7} {g:jc} {d:io} {pos:Pos} {K:PySem.W.Frag}
theorem ao:AX X [] false ap:=by
  refine je d0 fun σ H Q z=>?_
  obtain ⟨B,E,xs,Xs,res,E',fr,cl,e,q⟩:=z
  cases e
  exact q [] H rfl fr
theorem af (ha:EX X e m1 f) (hr:AX X es m2 g) (hs:starEach (e::es) X.env=(false,eval e X.env)::starEach es X.env:=by rfl):AX X (e::es) (m1||m2) (ad m2 f g):=by
  refine je (b6 ha hr hs) fun σ H Q z=>?_
  obtain ⟨B,E,xs,Xs,res,E',fr,cl,e,q⟩:=z
  obtain ⟨⟨s,E1⟩,e1,e⟩:=Option.bind_eq_some_iff.mp e
  by_cases hb:(m2&&s.isBr)=true
  · rw [if_pos hb] at e;cases e
  rw [if_neg hb] at e
  obtain ⟨⟨rs,E2⟩,e2,e⟩:=Option.map_eq_some_iff.mp e
  cases e
  refine ⟨B,E,xs,Xs,s,E1,fr,fun z=>cl (by simp [z]),e1,fun v1 H1 fr1=>?_⟩
  refine ⟨B,E1,v1::xs,s::Xs,rs,E2,fr1,fun z=>Calm.cons (cl (by simp [z])) ?_,e2,fun vs H2 hl fr2=>?_⟩
  · cases hs:s.isBr with
    | false=>rfl
    | true=>exact absurd (by simp [z,hs]) hb
  · exact q (v1::vs) H2 (by simp [hl]) (by simpa using fr2)
theorem aY:DX X [] false aH:=by
  refine je d0 fun σ H Q z=>?_
  obtain ⟨B,E,xs,Xs,res,E',fr,cl,e,q⟩:=z
  cases e
  exact q [] H rfl fr
theorem aq (ha:EX X e m1 f) (hr:DX X es m2 d) (hs:starEach (e::es) X.env=(false,eval e X.env)::starEach es X.env:=by rfl):DX X (e::es) (m1||m2) (aj f d):=by
  refine je (b6 ha hr hs) fun σ H Q z=>?_
  obtain ⟨B,E,xs,Xs,res,E',fr,cl,e,q⟩:=z
  obtain ⟨⟨s,E1⟩,e1,e⟩:=Option.bind_eq_some_iff.mp e
  obtain ⟨⟨d1,E2⟩,e2,e⟩:=Option.bind_eq_some_iff.mp e
  obtain ⟨⟨rs,E3⟩,e3,e⟩:=Option.map_eq_some_iff.mp e
  cases e
  refine ⟨B,E,xs,Xs,s,E1,fr,fun z=>cl (by simp [z]),e1,fun v1 H1 ⟨F,A,fr1⟩=>?_⟩
  obtain ⟨F2,A2,fr2⟩:=fr1.frz0 e2
  refine ⟨B,E2,v1::xs, .sh d1::Xs,rs,E3,⟨F2,A2,fr2⟩,fun z=>Calm.cons (cl (by simp [z])) rfl,e3,fun vs H2 hl fr2=>?_⟩
  exact q (v1::vs) H2 (by simp [hl]) (by simpa using fr2)
theorem FrF.shsR {B F:Hp} {σ:gn} {H:Hp} {E:List Sl} {xs:List V} {Xs:List Sl}:∀{us:List V} {es:List PyData} {A:List Addr},us.length=es.length→FrF K B F A σ H E (us++xs) (es.map .sh++Xs)→RpA K F us es∧∃A',FrF K B F A' σ H E xs Xs
  | [],[],A,_,h=>⟨.nil,A,h⟩
  | u::us,e::es,A,hl,h=>by
    obtain ⟨v,A1,ev,rfl,w,ew,r⟩:=h.ext (k:=0) rfl
    cases ev;cases ew
    obtain ⟨A',h'⟩:=FrF.pop (xs:=us++xs) (Xs:=es.map .sh++Xs) h
    obtain ⟨r',q⟩:=FrF.shsR (by simpa using hl) h'
    exact ⟨.cons r r',q⟩
  | [],_::_,_,e,_=>by cases e
  | _::_,[],_,e,_=>by cases e
theorem FrF.shs {B F:Hp} {σ:gn} {H:Hp} {E:List Sl} {xs:List V} {Xs:List Sl} {us:List V} {es:List PyData} {A:List Addr} (hl:us.length=es.length) (h:FrF K B F A σ H E (us.reverse++xs) (es.reverse.map .sh++Xs)):RpA K F us es∧∃A',FrF K B F A' σ H E xs Xs:=by
  obtain ⟨r,q⟩:=FrF.shsR (by simpa using hl) h
  have:=r.rev
  rw [List.reverse_reverse,List.reverse_reverse] at this
  exact ⟨this,q⟩
theorem db {x1} (h:DX X es m1 d):EX X (.Tuple es x1 pos) m1 (bS d):=by
  refine bp (qx h) fun σ H Q z=>?_
  obtain ⟨B,E,xs,Xs,res,E',fr,cl,e,q⟩:=z
  obtain ⟨⟨ds,E1⟩,e1,e⟩:=Option.bind_eq_some_iff.mp e
  simp only at e
  split at e
  · rename_i hl
    cases e
    refine ⟨B,E,xs,Xs,ds,_,fr,cl,e1,fun vs H1 hv ⟨F,A,fr1⟩=>?_⟩
    obtain ⟨r,A',fr2⟩:=fr1.shs hv
    exact ⟨d7 (by omega),fun p hp=>q _ _ ⟨_,_,fr2.newt r hp⟩⟩
  · cases e
theorem cq (h:DX X es m1 d):EX X (.List es pos) m1 (bH d):=by
  refine bp (qy h) fun σ H Q z=>?_
  obtain ⟨B,E,xs,Xs,res,E',fr,cl,e,q⟩:=z
  obtain ⟨⟨ds,E1⟩,e1,e⟩:=Option.bind_eq_some_iff.mp e
  simp only at e
  split at e
  · rename_i hl
    cases e
    refine ⟨B,E,xs,Xs,ds,_,fr,cl,e1,fun vs H1 hv ⟨F,A,fr1⟩=>?_⟩
    obtain ⟨r,A',fr2⟩:=fr1.shs hv
    exact ⟨d7 (by omega),fun p hp=>q _ _ ⟨_,_,fr2.newl r hp⟩⟩
  · cases e
end
def pe (ds:List PyData) (lo hi:Option Int):List PyData:=(ds.drop (HT.jx ds.length 0 lo)).take (HT.jx ds.length ds.length hi - HT.jx ds.length 0 lo)
def df:P2:=fun E s1 s2=>(look E s1).bind fun d1=>(look E s2).bind fun d2=>match d2 with
  | .int i=>match d1 with
    | .list ds=>(atI ds i).map fun d=>(if ck E s1&& !cb d then .br d else .sh d,E)
    | .tuple ds=>(atI ds i).map fun d=>(if ck E s1&& !cb d then .br d else .sh d,E)
    | .str z=>if z.length≤1000000 then (atI z.cps.toList i).map fun c=>(.sh (.str ⟨#[c]⟩),E) else none
    | _=>none
  | _=>none
section
variable {K:PySem.W.Frag} {H:Hp}
theorem RpA.atI {vs:List V} {ds:List PyData} {i:Int} {d:PyData} (h:RpA K H vs ds) (e:L2.atI ds i=some d):∃v,L2.atI vs i=some v∧Rp K H v d:=by
  unfold L2.atI at e ⊢
  obtain ⟨j,e1,e2⟩:=Option.bind_eq_some_iff.mp e
  obtain ⟨v,ev,r⟩:=h.get e2
  exact ⟨v,by rw [h.len,e1];exact ev,r⟩
theorem FrF.item {B F:Hp} {A:List Addr} {σ:gn} {E:List Sl} {xs:List V} {Xs:List Sl} {v1 v2 v:V} {s1 s2:Sl} {d:PyData} (fr:FrF K B F A σ H E (v2::v1::xs) (s2::s1::Xs)) (r:Rp K H v d) (f:ck E s1=false→Rp K F v d):
    Frm K B σ H E (v::xs) ((if ck E s1&& !cb d then .br d else .sh d)::Xs):=by
  by_cases hc:(ck E s1&& !cb d)=true
  · rw [if_pos hc]
    exact fr.res2 ⟨rfl,v,rfl,r⟩
  · rw [if_neg hc]
    refine fr.res2 ⟨rfl,v,rfl,?_⟩
    cases hh:ck E s1 with
    | false=>exact f hh
    | true=>
      rw [hh] at hc
      exact fr.cold r (by simpa using hc)
theorem qP:eG K (u0 K) df:=by
  intro B F A σ H E xs Xs v1 v2 s1 s2 res E' Q fr e q
  obtain ⟨d1,e1,e⟩:=Option.bind_eq_some_iff.mp e
  obtain ⟨d2,e2,e⟩:=Option.bind_eq_some_iff.mp e
  obtain ⟨r1,f1⟩:=fr.look1 e1
  have r2:=(fr.look0 e2).1
  split at e
  · cases r2
    split at e
    · obtain ⟨d,ed,e⟩:=Option.map_eq_some_iff.mp e
      cases e
      cases hh:ck E s1 with
      | false=>
        obtain ⟨a,vs,rfl,h1,h2⟩:=f1 hh
        obtain ⟨v,ev,rv⟩:=h2.atI ed
        have z:=fr.item (rv.same fr.fh) fun _=>rv
        rw [hh] at z q
        exact .inl ⟨_,_,_,v,rfl,rfl,h1,ev,q _ _ z⟩
      | true=>
        cases r1 with
        | lst h1 h2=>
          obtain ⟨v,ev,rv⟩:=h2.atI ed
          have z:=fr.item rv fun h=>absurd (hh.symm.trans h) (by decide)
          rw [hh] at z q
          exact .inl ⟨_,_,_,v,rfl,rfl,h1,ev,q _ _ z⟩
    · obtain ⟨d,ed,e⟩:=Option.map_eq_some_iff.mp e
      cases e
      cases hh:ck E s1 with
      | false=>
        have h0:Rp K F v1 _:=f1 hh
        cases h0 with
        | tup h1 h2=>
          obtain ⟨v,ev,rv⟩:=h2.atI ed
          have z:=fr.item (rv.same fr.fh) fun _=>rv
          rw [hh] at z q
          exact .inr (.inl ⟨_,_,_,v,rfl,rfl,fr.fh.tup h1,ev,q _ _ z⟩)
      | true=>
        cases r1 with
        | tup h1 h2=>
          obtain ⟨v,ev,rv⟩:=h2.atI ed
          have z:=fr.item rv fun h=>absurd (hh.symm.trans h) (by decide)
          rw [hh] at z q
          exact .inr (.inl ⟨_,_,_,v,rfl,rfl,h1,ev,q _ _ z⟩)
    · split at e
      · rename_i hl
        obtain ⟨c,ec,e⟩:=Option.map_eq_some_iff.mp e
        cases e;cases r1
        exact .inr (.inr ⟨_,_,c,rfl,rfl,d7 hl,ec,q _ _ (fr.res2 ⟨rfl,_,rfl, .str _⟩)⟩)
      · cases e
    · cases e
  · cases e
end
end PL
namespace L2
open PySem PySem.Spec PyProof.Rows
section
variable {κ:Type} [DecidableEq κ]
def gC (kvs:List (κ×V)) (k:κ):Option V:=(kvs.find? fun kv=>decide (kv.1=k)).map (·.2)
def jJ (kvs:List (κ×V)) (k:κ) (v:V):List (κ×V):=
  if (kvs.any fun kv=>decide (kv.1=k))=true then kvs.map (fun kv=>if kv.1=k then (kv.1,v) else kv) else kvs++[(k,v)]
def pZ (kvs:List (κ×V)) (k:κ):List (κ×V):=kvs.filter fun kv=>decide (kv.1≠k)
theorem hZ {p:κ×V} {r:List (κ×V)} {k:κ} (e:p.1=k):gC (p::r) k=some p.2:=by simp [gC,List.find?_cons,e]
theorem h7 {p:κ×V} {r:List (κ×V)} {k:κ} (e:¬p.1=k):gC (p::r) k=gC r k:=by simp [gC,List.find?_cons,e]
theorem jK (k:κ):∀kvs:List (κ×V),(kvs.any fun kv=>decide (kv.1=k))=(gC kvs k).isSome
  | []=>rfl
  | p::r=>by
    rw [List.any_cons]
    by_cases e:p.1=k
    · simp only [hZ e,decide_eq_true e,Bool.true_or,Option.isSome_some]
    · rw [h7 e,decide_eq_false e,Bool.false_or];exact jK k r
theorem RelO.isSome_eq {o:Option V} {u:Option Value} (r:RelO o u):o.isSome=u.isSome:=by
  cases o with
  | none=>cases u with
    | none=>rfl
    | some _=>exact (show False from r).elim
  | some _=>cases u with
    | none=>exact (show False from r).elim
    | some _=>rfl
theorem RelO.getD {o:Option V} {u:Option Value} {d:V} {d':Value} (r:RelO o u) (rd:RelV d d'):RelV (o.getD d) (u.getD d'):=by
  cases o with
  | none=>cases u with
    | none=>exact rd
    | some _=>exact (show False from r).elim
  | some _=>cases u with
    | none=>exact (show False from r).elim
    | some _=>exact r
theorem KV.val {kvs:List (κ×V)} {vs:List (κ×Value)} (r:KV kvs vs) (k:κ):RelO (gC kvs k) (valueAt vs k):=by
  unfold KV at r
  induction r with
  | nil=>exact True.intro
  | @cons p q ps qs h t ih=>
    obtain ⟨h1,h2⟩:=h
    by_cases e:p.1=k
    · have e':q.1=k:=h1.symm.trans e
      have b:valueAt (q::qs) k=some q.2:=by simp [valueAt,List.find?_cons,e']
      rw [hZ e,b];exact h2
    · have e':¬q.1=k:=fun z=>e (h1.trans z)
      have b:valueAt (q::qs) k=valueAt qs k:=by simp [valueAt,List.find?_cons,e']
      rw [h7 e,b];exact ih
theorem KV.any {kvs:List (κ×V)} {vs:List (κ×Value)} (r:KV kvs vs) (k:κ):(kvs.any fun kv=>decide (kv.1=k))=vs.any fun kv=>decide (kv.1=k):=by
  unfold KV at r
  induction r with
  | nil=>rfl
  | cons h t ih=>rw [List.any_cons,List.any_cons,ih,h.1]
theorem KV.repl {kvs:List (κ×V)} {vs:List (κ×Value)} (r:KV kvs vs) (k:κ) {y:V} {u:Value} (ry:RelV y u):
    KV (kvs.map fun kv=>if kv.1=k then (kv.1,y) else kv) (vs.map fun kv=>if kv.1=k then (kv.1,u) else kv):=by
  unfold KV at r ⊢
  induction r with
  | nil=>exact .nil
  | @cons p q ps qs h t ih=>
    rw [List.map_cons,List.map_cons]
    refine .cons ?_ ih
    obtain ⟨h1,h2⟩:=h
    by_cases e:p.1=k
    · rw [if_pos e,if_pos (h1.symm.trans e)];exact ⟨h1,ry⟩
    · rw [if_neg e,if_neg (fun z=>e (h1.trans z))];exact ⟨h1,h2⟩
theorem KV.put {kvs:List (κ×V)} {vs:List (κ×Value)} (r:KV kvs vs) (k:κ) {y:V} {u:Value} (ry:RelV y u):KV (jJ kvs k y) (stored vs k u):=by
  unfold jJ stored
  rw [r.any k]
  by_cases e:(vs.any fun kv=>decide (kv.1=k))=true
  · rw [if_pos e,if_pos e];exact r.repl k ry
  · rw [if_neg e,if_neg e];exact Paired.snoc r ⟨rfl,ry⟩
theorem KV.drop {kvs:List (κ×V)} {vs:List (κ×Value)} (r:KV kvs vs) (k:κ):KV (pZ kvs k) (without vs k):=by
  unfold KV at r ⊢
  unfold pZ without
  induction r with
  | nil=>exact .nil
  | @cons p q ps qs h t ih=>
    obtain ⟨h1,h2⟩:=h
    rw [List.filter_cons,List.filter_cons]
    by_cases e:p.1=k
    · have a:¬decide (p.1≠k)=true:=by simp [e]
      have b:¬decide (q.1≠k)=true:=by simp [h1.symm.trans e]
      rw [if_neg a,if_neg b];exact ih
    · have e':¬q.1=k:=fun z=>e (h1.trans z)
      have a:decide (p.1≠k)=true:=by simp [e]
      have b:decide (q.1≠k)=true:=by simp [e']
      rw [if_pos a,if_pos b];exact .cons ⟨h1,h2⟩ ih
theorem KV.keys {kvs:List (κ×V)} {vs:List (κ×Value)} (r:KV kvs vs):kvs.map (·.1)=vs.map (·.1):=by
  unfold KV at r
  induction r with
  | nil=>rfl
  | cons h t ih=>rw [List.map_cons,List.map_cons,ih,h.1]
theorem KV.length {kvs:List (κ×V)} {vs:List (κ×Value)} (r:KV kvs vs):kvs.length=vs.length:=Paired.length r
end
abbrev KT (H:Hp):List (List cN×V)→List (List cN×Addr×Value)→Prop:=Paired fun p q=>p.1=q.1∧H q.2.1=some (.tup (p.1.map kV))∧RelV p.2 q.2.2
theorem KT.val {H:Hp} {kvs:List (List cN×V)} {xs:List (List cN×Addr×Value)} (r:KT H kvs xs) (k:List cN):RelO (gC kvs k) ((atKey xs k).map (·.2)):=by
  induction r with
  | nil=>exact True.intro
  | @cons p q ps qs h t ih=>
    obtain ⟨h1,_,h2⟩:=h
    by_cases e:p.1=k
    · have e':q.1=k:=h1.symm.trans e
      have b:atKey (q::qs) k=some q.2:=by simp [atKey,List.find?_cons,e']
      rw [hZ e,b];exact h2
    · have e':¬q.1=k:=fun z=>e (h1.trans z)
      have b:atKey (q::qs) k=atKey qs k:=by simp [atKey,List.find?_cons,e']
      rw [h7 e,b];exact ih
theorem KT.repl {H:Hp} {kvs:List (List cN×V)} {xs:List (List cN×Addr×Value)} (r:KT H kvs xs) (k:List cN) {y:V} {u:Value} (ry:RelV y u):
    KT H (kvs.map fun kv=>if kv.1=k then (kv.1,y) else kv) (xs.map (putAt k u)):=by
  induction r with
  | nil=>exact .nil
  | @cons p q ps qs h t ih=>
    rw [List.map_cons,List.map_cons]
    refine .cons ?_ ih
    obtain ⟨h1,h2,h3⟩:=h
    unfold putAt
    by_cases e:p.1=k
    · rw [if_pos e,if_pos (h1.symm.trans e)];exact ⟨h1,h2,ry⟩
    · rw [if_neg e,if_neg (fun z=>e (h1.trans z))];exact ⟨h1,h2,h3⟩
theorem KT.put {H:Hp} {kvs:List (List cN×V)} {xs:List (List cN×Addr×Value)} (r:KT H kvs xs) (k:List cN) {b:Addr} {y:V} {u:Value} (hb:H b=some (.tup (k.map kV))) (ry:RelV y u):
    KT H (jJ kvs k y) (storedH xs k b u):=by
  have e:(kvs.any fun kv=>decide (kv.1=k))=(atKey xs k).isSome:=by
    rw [jK,(r.val k).isSome_eq,Option.isSome_map]
  unfold jJ storedH
  rw [e]
  by_cases q:(atKey xs k).isSome=true
  · rw [if_pos q,if_pos q];exact r.repl k ry
  · rw [if_neg q,if_neg q];exact Paired.snoc r ⟨rfl,hb,ry⟩
theorem KT.keeps {H H':Hp} {kvs:List (List cN×V)} {xs:List (List cN×Addr×Value)} (r:KT H kvs xs) (ht:∀b ys,H b=some (.tup ys)→H' b=some (.tup ys)):KT H' kvs xs:=
  Paired.mapP r fun _ _ z=>⟨z.1,ht _ _ z.2.1,z.2.2⟩
section
variable {P:Program} {w:World} {H:Hp} {h:Heap} {a:Addr}
theorem sV {u:HO} (ok:HOk P w H h) (e:Rd H a u):ObjOk P w H h a u:=e.ok ok
theorem sW {kvs:List (cN×V)} (ok:HOk P w H h) (e:Rd H a (.dK kvs)):kvs.length≤sizeLine∧(a == sysModules)=false∧∃vs,KV kvs vs∧h.DictOf (gI P w) a vs:=
  show ObjOk P w H h a (.dK kvs) from sV ok e
end
def DGet (H:Hp) (a:Addr) (y:V) (r:Option V):Prop:=
  (∃kvs k,Rd H a (.dK kvs)∧y=kV k∧r=gC kvs k)∨∃kvs k b,Rd H a (.dT kvs)∧y= .ref b∧H b=some (.tup (k.map kV))∧r=gC kvs k
def DPut (H:Hp) (a:Addr) (y v:V) (H':Hp):Prop:=
  (∃kvs k,H a=some (.dK kvs)∧y=kV k∧kvs.length < sizeLine∧H'=upd H a (.dK (jJ kvs k v)))∨
  ∃kvs k b,H a=some (.dT kvs)∧y= .ref b∧H b=some (.tup (k.map kV))∧kvs.length < sizeLine∧H'=upd H a (.dT (jJ kvs k v))
theorem DGet.k {H:Hp} {a:Addr} {kvs:List (cN×V)} {k:cN} (e:H a=some (.dK kvs)):DGet H a (kV k) (gC kvs k):= .inl ⟨kvs,k, .inl e,rfl,rfl⟩
theorem DGet.t {H:Hp} {a b:Addr} {kvs:List (List cN×V)} {k:List cN} (e:H a=some (.dT kvs)) (eb:H b=some (.tup (k.map kV))):DGet H a (.ref b) (gC kvs k):= .inr ⟨kvs,k,b, .inl e,rfl,eb,rfl⟩
theorem DPut.k {H:Hp} {a:Addr} {kvs:List (cN×V)} {k:cN} {v:V} (e:H a=some (.dK kvs)) (hl:kvs.length < sizeLine):DPut H a (kV k) v (upd H a (.dK (jJ kvs k v))):= .inl ⟨kvs,k,e,rfl,hl,rfl⟩
theorem DPut.t {H:Hp} {a b:Addr} {kvs:List (List cN×V)} {k:List cN} {v:V} (e:H a=some (.dT kvs)) (eb:H b=some (.tup (k.map kV))) (hl:kvs.length < sizeLine):
    DPut H a (.ref b) v (upd H a (.dT (jJ kvs k v))):= .inr ⟨kvs,k,b,e,rfl,eb,hl,rfl⟩
section
variable {X:Cx} {pins:List (Addr×Obj)} {σ:St} {H:Hp} {s:Shared} {a:Addr} {y v:V} {u r:Value} {o:Option V} {A:Around} {E:Value→Shared→Prop}
theorem Inv.big (I:Inv X pins σ H s):sysModules < s.heap.objs.size:=by
  have h:mainGlobals < s.heap.objs.size:=(I.mod.glob.keeps I.bk).lt
  exact Nat.lt_trans (by decide) h
end
end L2
namespace PL
open PySem L2 Nh
theorem cA {X:Cx} {a b:Expr} {m1 m2:Bool} {f g:b7} {pos:Pos} (ha:EX X a m1 f) (hb:EX X b m2 g) (hs:kW b:=by exact fun _ _=>rfl):EX X (.Subscript a b pos) (m1||m2) (ag df m2 f g):=bp (mS qC ha hb hs) fun _ _ _ h=>jf qP h
abbrev rS:=List Sl→Option (Option Int×List Sl)
def ro (K:PySem.W.Frag) (m:Bool) (f:rS):TO:=fun σ H Q=>∃B E xs Xs o E',Frm K B σ H E xs Xs∧(m=true→Calm Xs)∧f E=some (o,E')∧∀H',Frm K B σ H' E' xs Xs→Q o H'
def OX (X:Cx) (e:Option Expr) (m:Bool) (f:rS):Prop:=PO X e (ro X.K m f)
def ln (f:b7):rS:=fun E=>(f E).bind fun a=>match look a.2 a.1 with
  | some (.int i)=>some (some i,a.2)
  | _=>none
section
variable {X:Cx} {e:Expr} {lo hi:Option Expr} {m1 m2 m3:Bool} {f:b7} {g h:rS} {pos p2:Pos} {K:PySem.W.Frag}
theorem qQ {e:Option Expr} {t t':TO} (h:PO X e t) (k:∀σ H Q,t' σ H Q→t σ H Q):PO X e t':=fun pins s σ H Q I q=>h pins s σ H Q I (k σ H Q q)
theorem lq (he:EX X e m1 f):OX X (some e) m1 (ln f):=qQ (oR he) fun σ H Q z=>by
  obtain ⟨B,E,xs,Xs,res,E',fr,cl,e,q⟩:=z
  obtain ⟨⟨s,E1⟩,e1,e⟩:=Option.bind_eq_some_iff.mp e
  refine ⟨B,E,xs,Xs,s,E1,fr,cl,e1,fun v1 H1 ⟨F,A,fr1⟩=>?_⟩
  simp only at e
  split at e
  · rename_i i l
    cases e
    have r:=(fr1.look0 l).1
    cases r
    obtain ⟨A',fr2⟩:=fr1.pop
    exact ⟨i,rfl,q _ ⟨F,A',fr2⟩⟩
  · cases e
theorem RpA.cut {F:Hp} {vs:List V} {ds:List PyData} (h:RpA K F vs ds) (lo hi:Option Int):RpA K F (lS vs lo hi) (pe ds lo hi):=by
  unfold lS pe
  rw [h.len]
  exact (h.drop _).take _
end
def aG (E:List Sl):List Sl→Option (List PyData)
  | []=>some []
  | s::ss=>(look E s).bind fun d=>(aG E ss).map fun ds=>d::ds
theorem lookA_iff {E:List Sl}:∀{ss:List Sl} {ds:List PyData},aG E ss=some ds↔Paired (fun s d=>look E s=some d) ss ds
  | [],ds=>⟨fun h=>by cases h;exact .nil,fun h=>by cases h;rfl⟩
  | s::ss,ds=>by
    constructor
    · intro h
      obtain ⟨d,h1,h⟩:=Option.bind_eq_some_iff.mp h
      obtain ⟨es,h2,h⟩:=Option.map_eq_some_iff.mp h
      cases h
      exact .cons h1 (lookA_iff.mp h2)
    · intro h
      cases h with
      | cons h1 h2=>simp [aG,h1,lookA_iff.mpr h2]
theorem lW {E:List Sl} {ss:List Sl} {ds:List PyData} (h:aG E ss=some ds):aG E ss.reverse=some ds.reverse:=lookA_iff.mpr (fA (lookA_iff.mp h))
section
variable {X:Cx} {K:PySem.W.Frag} {B F:Hp} {σ:gn} {H:Hp} {E:List Sl} {xs:List V} {Xs:List Sl}
theorem FrF.looksR:∀{us:List V} {ts:List Sl} {es:List PyData} {A:List Addr},us.length=ts.length→FrF K B F A σ H E (us++xs) (ts++Xs)→aG E ts=some es→RpA K H us es∧∃A',FrF K B F A' σ H E xs Xs
  | [],[],es,A,_,h,e=>by cases e;exact ⟨.nil,A,h⟩
  | u::us,t::ts,es,A,hl,h,e=>by
    obtain ⟨d,h1,e⟩:=Option.bind_eq_some_iff.mp e
    obtain ⟨es',h2,e⟩:=Option.map_eq_some_iff.mp e
    cases e
    have r:=(FrF.look0 (xs:=us++xs) (Xs:=ts++Xs) h h1).1
    obtain ⟨A',h'⟩:=FrF.pop (xs:=us++xs) (Xs:=ts++Xs) h
    obtain ⟨r',q⟩:=FrF.looksR (by simpa using hl) h' h2
    exact ⟨.cons r r',q⟩
  | [],_::_,_,_,e,_,_=>by cases e
  | _::_,[],_,_,e,_,_=>by cases e
theorem FrF.looks {us:List V} {ts:List Sl} {es:List PyData} {A:List Addr} (hl:us.length=ts.length) (h:FrF K B F A σ H E (us.reverse++xs) (ts.reverse++Xs)) (e:aG E ts=some es):RpA K H us es∧∃A',FrF K B F A' σ H E xs Xs:=by
  obtain ⟨r,q⟩:=FrF.looksR (by simpa using hl) h (lW e)
  have:=r.rev
  rw [List.reverse_reverse,List.reverse_reverse] at this
  exact ⟨this,q⟩
end
def qR (K:PySem.W.Frag) (r:List V→Hp→VK→Prop) (op:List PyData→Option PyData):Prop:=∀(ds:List PyData) (d:PyData) (vs:List V) (H:Hp) (Q:VK),op ds=some d→RpA K H vs ds→∃v,pU d=some v∧(Q v H→r vs H Q)
def bj (op:List PyData→Option PyData) (g:jc):b7:=fun E=>(g E).bind fun a=>(aG a.2 a.1).bind fun ds=>(op ds).map fun d=>(.sh d,a.2)
theorem qS {K:PySem.W.Frag} {r:List V→Hp→VK→Prop} {op:List PyData→Option PyData} (hp:qR K r op) {m:Bool} {g:jc} {σ:gn} {H:Hp} {Q:VK} (h:rd K m (bj op g) σ H Q):uo r (ra K m g) σ H Q:=by
  obtain ⟨B,E,xs,Xs,res,E',fr,cl,e,q⟩:=h
  obtain ⟨⟨rs,E1⟩,e1,e⟩:=Option.bind_eq_some_iff.mp e
  obtain ⟨ds,e2,e⟩:=Option.bind_eq_some_iff.mp e
  obtain ⟨d,e3,e⟩:=Option.map_eq_some_iff.mp e
  cases e
  refine ⟨B,E,xs,Xs,rs,E1,fr,cl,e1,fun vs H1 hl ⟨F,A,fr1⟩=>?_⟩
  obtain ⟨r1,A',fr2⟩:=fr1.looks hl e2
  obtain ⟨v,hv,k⟩:=hp ds d vs H1 Q e3 r1
  exact k (q v H1 ⟨F,A',fr2.push ⟨rfl,v,rfl,hO hv⟩⟩)
def bW:List PyData→Option PyData
  | [.list xs]=>some (.int xs.length)
  | [.tuple xs]=>some (.int xs.length)
  | [.str z]=>if z.length≤1000000 then some (.int z.length) else none
  | _=>none
def d9:List PyData→Option PyData
  | [.int i]=>some (.int (if i < 0 then -i else i))
  | _=>none
theorem RpA.one {K:PySem.W.Frag} {H:Hp} {vs:List V} {d:PyData} (h:RpA K H vs [d]):∃v,vs=[v]∧Rp K H v d:=by
  cases h with
  | cons h t=>cases t;exact ⟨_,rfl,h⟩
theorem RpA.two {K:PySem.W.Frag} {H:Hp} {vs:List V} {d e:PyData} (h:RpA K H vs [d,e]):∃v u,vs=[v,u]∧Rp K H v d∧Rp K H u e:=by
  cases h with
  | cons h t=>
    obtain ⟨u,rfl,r⟩:=t.one
    exact ⟨_,_,rfl,h,r⟩
section
variable {X:Cx} {e:Expr} {es:List Expr} {m1:Bool} {g:jc} {p pos:Pos} {K:PySem.W.Frag}
abbrev sX (K:PySem.W.Frag):List V→Hp→VK→Prop:=fun xs H Q=>(∃p ys,xs=[.ref p]∧(SqL K H p ys∨SqT K H p ys)∧Q (.int ys.length) H)∨(∃z,xs=[.str z]∧z.length≤sizeLine∧Q (.int z.length) H)
theorem pf:qR K (sX K) bW:=fun ds d vs H Q e r=>by
  unfold bW at e
  split at e
  · cases e
    obtain ⟨v,rfl,r'⟩:=r.one
    cases r' with
    | lst h1 h2=>exact ⟨_,rfl,fun q=> .inl ⟨_,_,rfl, .inl h1,by rw [h2.len];exact q⟩⟩
  · cases e
    obtain ⟨v,rfl,r'⟩:=r.one
    cases r' with
    | tup h1 h2=>exact ⟨_,rfl,fun q=> .inl ⟨_,_,rfl, .inr h1,by rw [h2.len];exact q⟩⟩
  · split at e
    · rename_i hl
      cases e
      obtain ⟨v,rfl,r'⟩:=r.one
      cases r'
      exact ⟨_,rfl,fun q=> .inr ⟨_,rfl,d7 hl,q⟩⟩
    · cases e
  · cases e
theorem jL {x:Str} {id:String} {r:List V→Hp→VK→Prop} {op:List PyData→Option PyData} (hp:qR X.K r op) (hc:CallR X (.builtin id) r) (hg:Gl X x) (hm:X.mg x=none) (hv:bootBuiltins x=some (.builtin id)) (ha:AX X (e::es) m1 g) (hn:x≠"__name__":=by decide) (hdb:(x == ("__debug__":Str))=false:=by decide)
    (he:starEach (e::es) X.env=(false,eval e X.env)::starEach es X.env:=by rfl) (hpl:(backTo pos (starEach es X.env)).any (·.1)=false:=by rfl):EX X (.Call (.Name x p) (e::es) [] pos) m1 (bj op g):=
  bp (gW hc hg hm hv ha hn hdb he hpl) fun _ _ _ h=>qS hp h
theorem cP (hg:Gl X "len") (hm:X.mg "len"=none) (ha:AX X [e] m1 g) (he:starEach [e] X.env=[(false,eval e X.env)]:=by rfl):EX X (.Call (.Name "len" p) [e] [] pos) m1 (bj bW g):=jL pf (CallR.or i6 i7) hg hm PySem.boot_len ha (by decide) (by decide) he rfl
theorem h8 (hg:Gl X "abs") (hm:X.mg "abs"=none) (ha:AX X [e] m1 g) (he:starEach [e] X.env=[(false,eval e X.env)]:=by rfl):EX X (.Call (.Name "abs" p) [e] [] pos) m1 (bj d9 g):=jL (fun ds d vs H Q e r=>by
  unfold d9 at e
  split at e
  · cases e
    obtain ⟨v,rfl,r'⟩:=r.one
    cases r'
    exact ⟨_,rfl,fun q=>⟨_,rfl,q⟩⟩
  · cases e) mP hg hm PyProof.Rows.boot_abs ha (by decide) (by decide) he rfl
end
def kC (g:b7):b7:=fun E=>(g E).bind fun a=>match look a.2 a.1 with
  | some (.list ds)=>if !ck a.2 a.1||aS ds then some (.ow ds,a.2) else none
  | some (.tuple ds)=>if !ck a.2 a.1||aS ds then some (.ow ds,a.2) else none
  | _=>none
section
variable {X:Cx} {e:Expr} {m1:Bool} {f:b7} {p pos:Pos} {K:PySem.W.Frag}
theorem ph (hg:Gl X "list") (hm:X.mg "list"=none) (ha:EX X e m1 f) (he:starEach [e] X.env=[(false,eval e X.env)]:=by rfl):EX X (.Call (.Name "list" p) [e] [] pos) m1 (kC f):=by
  refine bp (lR i8 hg hm PyProof.Rows.boot_list (b6 ha d0 he) (by decide) (by decide) he rfl) fun σ H Q z=>?_
  obtain ⟨B,E,xs,Xs,res,E',fr,cl,e,q⟩:=z
  obtain ⟨⟨s,E1⟩,e1,e⟩:=Option.bind_eq_some_iff.mp e
  refine ⟨B,E,xs,Xs,s,E1,fr,cl,e1,fun v1 H1 ⟨F,A,fr1⟩=>?_⟩
  obtain ⟨A',fr2⟩:=fr1.pop
  simp only at e
  split at e
  · rename_i ds ld
    split at e
    · rename_i hc
      cases e
      obtain ⟨a,vs,ev,h1,h2⟩:=fr1.items (k:=0) rfl ld hc
      cases ev
      exact ⟨a,vs,rfl, .inl h1,fun l hl=>q _ _ ⟨F,_,fr2.newl h2 hl⟩⟩
    · cases e
  · rename_i ds ld
    split at e
    · rename_i hc
      cases e
      obtain ⟨r,f0⟩:=fr1.look0 ld
      cases hh:ck E' s with
      | false=>
        have h0:Rp X.K F v1 _:=f0 hh
        cases h0 with
        | tup h1 h2=>exact ⟨_,_,rfl, .inr (fr1.fh.tup h1),fun l hl=>q _ _ ⟨F,_,fr2.newl h2 hl⟩⟩
      | true=>
        rw [hh] at hc
        cases r with
        | tup h1 h2=>exact ⟨_,_,rfl, .inr h1,fun l hl=>q _ _ ⟨F,_,fr2.newl (fr1.coldA h2 (by simpa using hc)) hl⟩⟩
    · cases e
  · cases e
end
inductive Ty where
  | non | bool | int | str | list | tuple | dict
def Ty.name:Ty→String
  | .non=>"NoneType"
  | .bool=>"bool"
  | .int=>"int"
  | .str=>"str"
  | .list=>"list"
  | .tuple=>"tuple"
  | .dict=>"dict"
def Ty.is:Ty→Ty→Bool
  | .non, .non=>true
  | .bool, .bool=>true
  | .bool, .int=>true
  | .int, .int=>true
  | .str, .str=>true
  | .list, .list=>true
  | .tuple, .tuple=>true
  | .dict, .dict=>true
  | _,_=>false
def rT:PyData→Ty
  | .none=> .non
  | .bool _=> .bool
  | .int _=> .int
  | .str _=> .str
  | .list _=> .list
  | .tuple _=> .tuple
  | .dict _=> .dict
theorem qT (K:PySem.W.Frag) (t n:Ty):PySem.W.kitOne K (.type t.name) (.type n.name)=some (t.is n):=by cases t <;> cases n <;> rfl
def iu (n:Ty):PyData→Option PyData
  | .dict ((.none,_)::_)=>none
  | d=>some (.bool ((rT d).is n))
section
variable {X:Cx} {e:Expr} {m1:Bool} {f:b7} {p p2 pos:Pos}
theorem lX {pins:List (Addr×Obj)} {s:Shared} {σ:gn} {H:Hp} {x:V} {u:Value} {d r:PyData} {n:Ty} {A:Around} {E:Value→Shared→Prop} {Q:Value→Shared→Prop} (I:Inv X pins σ H s) (rx:RelV x u) (rp:Rp X.K H x d) (hd:iu n d=some r) (h:∀tk b,r= .bool b→Q (.bool b) {s with toks:=tk}):
    wpAny (model X.prog X.w) A (call (.builtin "isinstance") [u, .type n.name]) Q E s:=by
  have e:=qT X.K (rT d) n
  have h:∀tk,r= .bool ((rT d).is n)→Q (.bool ((rT d).is n)) {s with toks:=tk}:=fun tk z=>h tk _ z
  cases rp with
  | non=>cases hd;exact e8 I rx .non e fun tk=>h tk rfl
  | bl b=>cases hd;exact e8 I rx (.bl b) e fun tk=>h tk rfl
  | int i=>cases hd;exact e8 I rx (.int i) e fun tk=>h tk rfl
  | str y=>cases hd;exact e8 I rx (.str y) e fun tk=>h tk rfl
  | lst h1 _=>
    cases hd
    cases rx
    obtain ⟨its,rv,⟨o,n',e1,c,_,d⟩,_⟩:=I.list h1
    exact PySem.W.kia_one PySem.W.kitx_list I.kIn ⟨_,e1,c⟩ e (fun z=>nomatch z) fun tk=>h tk rfl
  | tup h1 _=>
    cases hd
    cases rx
    obtain ⟨its,rv,⟨o,e1,c,n',d⟩,_⟩:=I.tuple h1
    exact PySem.W.kia_one PySem.W.kitx_tuple I.kIn ⟨_,e1,c⟩ e (fun z=>nomatch z) fun tk=>h tk rfl
  | dct h1 hk=>
    cases rx
    obtain ⟨_,_,vs,_,ob,es,ep,e1,c,_⟩:=sW I.hok h1
    refine PySem.W.kia_one PySem.W.kitx_dict I.kIn ⟨_,e1,c.1⟩ e (fun z=>nomatch z) fun tk=>h tk ?_
    cases hk with
    | nil=>cases hd;rfl
    | @cons k x us d kvs a b=>cases k <;> (cases hd;rfl)
  | exc h1 h2=>cases hd
theorem lY (n:Ty):CallR X (.builtin "isinstance") (fun xs H Q=>∃x d r,xs=[x, .ty n.name]∧Rp X.K H x d∧iu n d=some r∧∀b,r= .bool b→Q (.bl b) H):=by
  intro pins s σ H xs us Q I r h
  obtain ⟨x,d,r',rfl,rp,hd,q⟩:=h
  obtain ⟨u,w',rfl,ru,rw'⟩:=r.two
  cases (show w'=Value.type n.name from rw')
  exact lX I ru rp hd fun tk b z=>⟨.bl _,H,I.tok _,rfl,q b z⟩
theorem h9 (n:Ty) (hg:Gl X "isinstance") (hm:X.mg "isinstance"=none) (ha:EX X e m1 f) {x:Str} (hgx:Gl X x) (hmx:X.mg x=none) (hbx:bootBuiltins x=some (.type n.name)) (hnx:x≠"__name__":=by decide) (hdx:(x == ("__debug__":Str))=false:=by decide)
    (he:starEach [e, .Name x p2] X.env=(false,eval e X.env)::starEach [.Name x p2] X.env:=by rfl) (he2:starEach [.Name x p2] X.env=[(false,eval (.Name x p2) X.env)]:=by rfl) (hpl:(backTo pos (starEach [.Name x p2] X.env)).any (·.1)=false:=by rfl):
    EX X (.Call (.Name "isinstance" p) [e, .Name x p2] [] pos) m1 (cy (iu n) f):=by
  have h2:PE X (.Name x p2) (tC (.ty n.name)):=kO (v:= .ty n.name) hgx hmx hbx rfl hnx hdx
  refine bp (gW (lY n) hg hm PyProof.Rows.boot_isinstance (b6 ha (b6 h2 d0 he2) he) (by decide) (by decide) he hpl) fun σ H Q z=>?_
  obtain ⟨B,E,xs,Xs,res,E',fr,cl,e,q⟩:=z
  obtain ⟨⟨s,E1⟩,e1,e⟩:=Option.bind_eq_some_iff.mp e
  obtain ⟨d1,e2,e⟩:=Option.bind_eq_some_iff.mp e
  obtain ⟨d2,e3,e⟩:=Option.map_eq_some_iff.mp e
  cases e
  refine ⟨B,E,xs,Xs,s,E1,fr,cl,e1,fun v1 H1 ⟨F,A,fr1⟩=>?_⟩
  obtain ⟨A',fr2⟩:=fr1.pop
  exact ⟨v1,d1,d2,rfl,(fr1.look0 e2).1,e3,fun b z=>q _ _ ⟨F,A',fr2.push ⟨rfl,_,rfl,z▸ .bl b⟩⟩⟩
end
end PL
namespace PL
open PySem L2 Nh
def iQ (K:PySem.W.Frag) (H H':Hp) (v:V):Sl→Prop
  | .sh d=>Rp K (tups H') v d
  | .ow ds=>∃l vs,v= .ref l∧H l=none∧H' l=some (.lst vs)∧RpA K (tups H') vs ds
  | .tx ps=>∃t vs A,v= .ref t∧tups H' t=some (.tup vs)∧A.Nodup∧(∀a∈A,H a=none)∧PtsOk K (tups H') H' vs ps A
  | .od kvs=>∃l us A,v= .ref l∧(l::A).Nodup∧(∀a∈l::A,H a=none)∧H' l=some (.dK us)∧DlOk K (tups H') H' us kvs A
  | .br d=>Rp K H' v d
  | _=>False
def dv (K:PySem.W.Frag) (c:List PyData→Option Sl):Sp:=fun vs H Q _=>∃ds r,c ds=some r∧RpA K H vs ds∧∀v H',Same H H'→iQ K H H' v r→Q v H'
section
variable {K:PySem.W.Frag} {B F:Hp} {A N:List Addr} {σ:gn} {H H':Hp} {E:List Sl} {xs:List V} {Xs:List Sl} {v:V} {s:Sl}
theorem FrF.growN (h:FrF K B F A σ H E xs Xs) (g:Same H H') (hN:∀a∈N,H a=none∧((∃us,H' a=some (.lst us))∨∃us,H' a=some (.dK us))):FrF K B (fun b=>if b∈N then none else if b∈A then none else H' b) A σ H' E xs Xs:=by
  have h1:=h.grow g
  have nF:∀b o,F b=some o→b∉N:=fun b o e hb=>by
    have:=h.fh.free (hN b hb).1
    rw [this] at e;cases e
  have FF:Same F (fun b=>if b∈N then none else if b∈A then none else H' b):=fun b o e=>by
    have nA:b∉A:=fun hb=>by rw [h.fr b hb] at e;cases e
    show (if b∈N then none else if b∈A then none else H' b)=some o
    rw [if_neg (nF b o e),if_neg nA]
    exact g _ _ (h.fh _ _ e)
  have hA:∀b∈A,H' b=H b:=fun b hb=>by
    rcases h.mutA b hb with ⟨_,z⟩ | ⟨_,z⟩ <;> rw [z,g _ _ z]
  refine ⟨h.bf.trans FF,fun b o e=>?_,fun b o e=>?_,h.sl.mono fun o s C _ hC q=>q.stay FF (fun b hb=>hA b (hC b hb)) fun _=>g,h.nd,fun a ha=>?_,h.len,h.pl⟩
  · by_cases hb:b∈N
    · rw [if_pos hb] at e;cases e
    · rw [if_neg hb] at e;exact h1.fh _ _ e
  · show (if b∈N then none else if b∈A then none else H' b)=some o
    by_cases hb:b∈N
    · obtain ⟨e1,e2⟩:=Option.filter_eq_some_iff.mp e
      rcases (hN b hb).2 with ⟨us,z⟩ | ⟨us,z⟩ <;> rw [z] at e1 <;> cases e1 <;> cases e2
    · rw [if_neg hb];exact h1.tf _ _ e
  · show (if a∈N then none else if a∈A then none else H' a)=none
    by_cases hb:a∈N
    · rw [if_pos hb]
    · rw [if_neg hb,if_pos ha]
theorem FrF.pushR (h:FrF K B F A σ H E xs Xs) (q:SlOk K F H σ (some v) s N) (nd:N.Nodup) (dj:∀a∈N,a∉A) (fr:∀a∈N,F a=none):FrF K B F (N++A) σ H E (v::xs) (s::Xs):=
  ⟨h.bf,h.fh,h.tf, .cons q h.sl,List.nodup_append.mpr ⟨nd,h.nd,fun a ha b hb e=>dj a ha (e▸hb)⟩,fun a ha=>(List.mem_append.mp ha).elim (fr a) (h.fr a),by simp [h.len],h.pl⟩
theorem FrF.told (h:FrF K B F A σ H E xs Xs) (g:Same H H') (q:iQ K H H' v s):Frm K B σ H' E (v::xs) (s::Xs):=by
  cases s with
  | sh d=>
    have h1:=h.grow g
    exact ⟨_,_,h1.push ⟨rfl,v,rfl,Rp.same h1.tf q⟩⟩
  | ow ds=>
    obtain ⟨l,vs,rfl,hl,hl',r⟩:=q
    have h1:=h.growN (N:=[l]) g fun a ha=>by rw [List.mem_singleton.mp ha];exact ⟨hl, .inl ⟨vs,hl'⟩⟩
    exact ⟨_,_,h1.pushR (N:=[l]) ⟨l,vs,rfl,rfl,hl',r.same h1.tf⟩ (by simp) (fun a ha=>by rw [List.mem_singleton.mp ha];exact h.newA hl) fun a ha=>if_pos ha⟩
  | tx ps=>
    obtain ⟨t,vs,N,rfl,ht,nd,hN,r⟩:=q
    have h1:=h.growN (N:=N) g fun a ha=>⟨hN a ha, .inl (r.some a ha)⟩
    exact ⟨_,_,h1.pushR (N:=N) ⟨t,vs,rfl,h1.tf _ _ ht,r.stay h1.tf fun _ _=>rfl⟩ nd (fun a ha=>h.newA (hN a ha)) fun a ha=>if_pos ha⟩
  | no=>exact False.elim q
  | od kvs=>
    obtain ⟨l,us,N,rfl,nd,hN,hl,r⟩:=q
    have h1:=h.growN (N:=l::N) g fun a ha=>⟨hN a ha,(List.mem_cons.mp ha).elim (fun z=> .inr ⟨us,z▸hl⟩) fun z=> .inl (r.some a z)⟩
    exact ⟨_,_,h1.pushR (N:=l::N) ⟨l,us,N,rfl,rfl,hl,r.stay h1.tf fun _ _=>rfl⟩ nd (fun a ha=>h.newA (hN a ha)) fun a ha=>if_pos ha⟩
  | al i=>exact False.elim q
  | br d=>
    have h1:=h.grow g
    exact ⟨_,_,h1.push ⟨rfl,v,rfl,q⟩⟩
end
def am (c:List PyData→Option Sl) (g:jc):b7:=fun E=>(g E).bind fun a=>(aG a.2 a.1).bind fun ds=>(c ds).map fun r=>(r,a.2)
theorem aC {X:Cx} {k:Nat} {x:Str} {ps:List Str} {c:List PyData→Option Sl} {p pos:Pos} {e:Expr} {es:List Expr} {m:Bool} {g:jc} (D:Own X.prog X.w X.K X.mg X.base k x ps (dv X.K c)) (hr:Room k X.A) (hg:Gl X x) (ha:AX X (e::es) m g)
    (hdb:(x == ("__debug__":Str))=false:=by decide) (he:starEach (e::es) X.env=(false,eval e X.env)::starEach es X.env:=by rfl) (hpl:(backTo pos (starEach es X.env)).any (·.1)=false:=by rfl):
    EX X (.Call (.Name x p) (e::es) [] pos) m (am c g):=by
  refine bp (m9 D hr hg ha hdb he hpl) fun σ H Q z=>?_
  obtain ⟨B,E,xs,Xs,res,E',fr,cl,e,q⟩:=z
  obtain ⟨⟨rs,E1⟩,e1,e⟩:=Option.bind_eq_some_iff.mp e
  obtain ⟨ds,e2,e⟩:=Option.bind_eq_some_iff.mp e
  obtain ⟨r,e3,e⟩:=Option.map_eq_some_iff.mp e
  cases e
  refine ⟨B,E,xs,Xs,rs,E1,fr,cl,e1,fun vs H1 hl ⟨F,A,fr1⟩=>?_⟩
  obtain ⟨r1,A',fr2⟩:=fr1.looks hl e2
  exact ⟨ds,res,e3,by rw [List.append_nil];exact r1,fun v H' g q'=>q v H' (fr2.told g q')⟩
def aW (i:Nat) (f:b7):b7:=fun E=>match E[i]? with
  | some (.ow _)=>(f E).bind fun a=>(frz a.2 a.1).bind fun b=>match b.2[i]? with
    | some (.ow ds)=>if ds.length < 1000000 then some (.sh .none,b.2.set i (.ow (ds++[b.1]))) else none
    | _=>none
  | _=>none
def fm (i:Nat):b7:=fun E=>match E[i]? with
  | some (.ow ds)=>(ds[ds.length - 1]?).map fun d=>(.sh d,E.set i (.ow ds.dropLast))
  | _=>none
section
variable {X:Cx} {e:Expr} {m1:Bool} {f:b7} {x:Str} {p apos cpos:Pos}
theorem dQ (i:Nat) (he:EX X e m1 f) (hN:X.N[i]? =some x:=by rfl) (hv:p8 X.env.scope x:=by first | exact Or.inl rfl | exact Or.inr (Or.inl rfl) | exact Or.inr (Or.inr rfl)) (hd:(x == ("__debug__":Str))=false:=by decide) (hcd:(x == ("__classdict__":Str))=false:=by decide)
    (hs:starEach [e] X.env=[(false,eval e X.env)]:=by rfl) (hbase:attributeBase (.Name x p) "append" X.env (eval (.Name x p) X.env)=eval (.Name x p) X.env:=by rfl)
    (hfew:((backTo cpos (starEach [e] X.env)).all (fun x=> !x.1)&&(backToKw cpos (keywordEach [] X.env)).all (fun x=>x.1.isSome)
      &&decide (([e]:List Expr).length+([]:List Keyword).length+(if ([]:List Keyword).isEmpty then 0 else 1) < 30))=true:=by rfl) (hline:(apos.endLine == cpos.line)=true:=by rfl):
    EX X (.Call (.Attribute (.Name x p) "append" apos) [e] [] cpos) true (aW i f):=by
  refine bp (sN PySem.F.plainAttrs_list PySem.F.slot_list_append PySem.F.type_list_append iI (gS hN hv hd hcd) (b6 he d0 hs) hbase hfew hline hs rfl) fun σ H Q z=>?_
  obtain ⟨B,E,xs,Xs,res,E',⟨F,A,fr⟩,cl,e,q⟩:=z
  unfold aW at e
  split at e
  · rename_i ds0 ei
    obtain ⟨⟨s,E1⟩,e1,e⟩:=Option.bind_eq_some_iff.mp e
    obtain ⟨⟨d,E2⟩,e2,e⟩:=Option.bind_eq_some_iff.mp e
    simp only at e
    split at e
    · rename_i ds ei2
      split at e
      · rename_i hl
        cases e
        obtain ⟨o,A1,eo,l,vs,rfl,rfl,hl0,_⟩:=fr.var ei
        refine ⟨_,eo, .inl ⟨rfl,_,SqL.of hl0⟩,B,E,xs,Xs,s,E1,⟨F,A,fr⟩,fun _=>cl rfl,e1,fun v H1 ⟨F1,A1,fr1⟩=>?_⟩
        obtain ⟨F2,A2,fr2⟩:=fr1.frz0 e2
        obtain ⟨v',A3,ev,rfl,w,ew,rv⟩:=fr2.ext (k:=0) rfl
        cases ev;cases ew
        obtain ⟨A4,fr3⟩:=fr2.pop
        obtain ⟨l',vs',eo',hl',r',put⟩:=fr3.mut ei2 (cl rfl)
        rw [eo] at eo'
        cases eo'
        have ll:=r'.len
        have fr4:=put (vs'++[v]) (ds++[d]) (r'.snoc rv)
        exact ⟨l,vs',v,rfl,rfl,hl',nn (by omega),q _ _ ⟨_,_,fr4.push ⟨rfl,_,rfl, .non⟩⟩⟩
      · cases e
    · cases e
  · cases e
theorem nz (i:Nat) (hN:X.N[i]? =some x:=by rfl) (hv:p8 X.env.scope x:=by first | exact Or.inl rfl | exact Or.inr (Or.inl rfl) | exact Or.inr (Or.inr rfl)) (hd:(x == ("__debug__":Str))=false:=by decide) (hcd:(x == ("__classdict__":Str))=false:=by decide)
    (hbase:attributeBase (.Name x p) "pop" X.env (eval (.Name x p) X.env)=eval (.Name x p) X.env:=by rfl) (hline:(apos.endLine == cpos.line)=true:=by rfl):
    EX X (.Call (.Attribute (.Name x p) "pop" apos) [] [] cpos) true (fm i):=by
  refine bp (qE PySem.F.plainAttrs_list PySem.F.slot_list_pop PySem.F.type_list_pop qF (gS hN hv hd hcd) hbase hline) fun σ H Q z=>?_
  obtain ⟨B,E,xs,Xs,res,E',⟨F,A,fr⟩,cl,e,q⟩:=z
  unfold fm at e
  split at e
  · rename_i ds ei
    obtain ⟨d,ed,e⟩:=Option.map_eq_some_iff.mp e
    cases e
    obtain ⟨l,vs,eo,hl,r,put⟩:=fr.mut ei (cl rfl)
    obtain ⟨y,ey,ry⟩:=r.get ed
    have fr2:=put vs.dropLast ds.dropLast r.dropLast
    exact ⟨_,eo, .inl ⟨rfl,_,SqL.of hl⟩,l,vs,y,rfl,rfl,hl,by rw [r.len];exact ey,q _ _ ⟨_,_,fr2.push ⟨rfl,_,rfl,ry⟩⟩⟩
  · cases e
end
def nC (s:Sl):Sl:=match s.val with
  | some d=> .sh d
  | none=> .no
def frzAll (E:List Sl):List Sl:=E.map nC
def settle (E:List Sl):Sl→Option (Sl×List Sl)
  | .al i=>(frz E (.al i)).map fun a=>(.sh a.1,a.2)
  | .br d=>if cb d then some (.sh d,E) else some (.sh d,frzAll E)
  | s=>some (s,E)
def au (g h:cc):cc:=fun E=>(g E).bind fun a=>match a.2 with
  | .nx=>h a.1
  | fl=>some (a.1,fl)
def ay:cc:=fun E=>some (E, .nx)
def bX (f:b7):cc:=fun E=>(f E).map fun a=>(a.2, .nx)
def aP (f:b7):cc:=fun E=>(f E).bind fun a=>match a.1 with
  | .al i=>(a.2[i]?).map fun s=>(a.2.set i .no, .rt s)
  | s=>some (a.2, .rt s)
def aV (c:ik) (g h:cc):cc:=fun E=>(c E).bind fun a=>if a.1 then g a.2 else h a.2
def aB (i:Nat) (f:b7):cc:=fun E=>(f E).bind fun a=>(settle a.2 a.1).bind fun b=>if i < b.2.length then some (b.2.set i b.1, .nx) else none
section
variable {K:PySem.W.Frag} {B F:Hp} {A:List Addr} {σ:gn} {H:Hp} {E E':List Sl} {xs:List V} {Xs:List Sl} {v:V} {s s':Sl} {d:PyData}
theorem FrF.frzAll (h:FrF K B F A σ H E xs Xs) (hX:Xs=[]):FrF K B H [] σ H (PL.frzAll E) [] []:=by
  subst hX
  have hx:xs=[]:=by simpa using h.len
  subst hx
  refine ⟨h.bf.trans h.fh,Same.refl _,gl H,?_,List.nodup_nil,fun a ha=>(by cases ha),rfl,fun s hs=>?_⟩
  · have key:∀{os:List (Option V)} {ss:List Sl} {C:List Addr},SAll (SlOk K F H σ) os ss C→SAll (SlOk K H H σ) os (PL.frzAll ss) []:=fun {os ss C} r=>by
      induction r with
      | nil=>exact .nil
      | cons q _ ih=>
        refine .cons (A:=[]) ?_ ih
        unfold nC
        split
        · rename_i d e
          obtain ⟨v,rfl,r,_⟩:=q.val h.fh e
          exact ⟨rfl,v,rfl,r⟩
        · exact rfl
    exact key h.sl
  · obtain ⟨t,_,rfl⟩:=List.mem_map.mp hs
    unfold nC
    split <;> rfl
theorem FrF.settle (h:FrF K B F A σ H E (v::xs) (s::Xs)) (hX:Xs=[]) (q:PL.settle E s=some (s',E')):s'.isAl=false∧Frm K B σ H E' (v::xs) (s'::Xs):=by
  cases s with
  | al i=>
    obtain ⟨⟨d,E2⟩,e,z⟩:=Option.map_eq_some_iff.mp (show (frz E (.al i)).map (fun a=>(Sl.sh a.1,a.2))=some (s',E') from q)
    cases z
    obtain ⟨F',A',h'⟩:=h.frz0 e
    exact ⟨rfl,F',A',h'⟩
  | br d=>
    have r:=(h.look0 (d:=d) rfl).1
    obtain ⟨A',h'⟩:=h.pop
    simp only [PL.settle] at q
    split at q
    · rename_i hf
      cases q
      exact ⟨rfl,F,A',h'.push ⟨rfl,v,rfl,h.cold r hf⟩⟩
    · cases q
      have h2:=h'.frzAll hX
      have hl:=h'.len
      subst hX
      have hx:xs=[]:=by simpa using hl
      subst hx
      exact ⟨rfl,H,[],h2.push ⟨rfl,v,rfl,r⟩⟩
  | no=>cases q;exact ⟨rfl,F,A,h⟩
  | sh d=>cases q;exact ⟨rfl,F,A,h⟩
  | ow ds=>cases q;exact ⟨rfl,F,A,h⟩
  | od kvs=>cases q;exact ⟨rfl,F,A,h⟩
  | tx ps=>cases q;exact ⟨rfl,F,A,h⟩
theorem FrF.move {i:Nat} (h:FrF K B F A σ H E (v::xs) (.al i::Xs)) (e:E[i]? =some s):Frm K B σ H (E.set i .no) (v::xs) (s::Xs):=by
  obtain ⟨v',A1,ev,rfl,w,ew,hw⟩:=h.ext (k:=0) rfl
  cases ev;cases ew
  obtain ⟨A',h'⟩:=h.pop
  obtain ⟨o,A0,A1,A2,eA,eo,hp,put⟩:=h'.sl.at (k:=Xs.length+i) (s:=s) (by rw [List.getElem?_append_right (by omega)];simpa using e)
  have z:=put (SlOk K F H σ) o .no [] rfl fun _ _ _ _ _ q=>q
  have e3:(Xs++E).set (Xs.length+i) .no=Xs++E.set i .no:=by
    rw [List.set_append_right _ _ (by omega),Nat.add_sub_cancel_left]
  have e2:(List.map some xs++σ).set (Xs.length+i) o=List.map some xs++σ:=List.ext_getElem? fun j=>by
    by_cases hj:Xs.length+i=j
    · subst hj
      rw [List.getElem?_set_self',eo];rfl
    · rw [List.getElem?_set_ne hj]
  rw [e2,e3] at z
  rw [List.getElem?_append_right (by rw [List.length_map,h'.len];omega),List.length_map,h'.len,Nat.add_sub_cancel_left,hw] at eo
  cases eo
  have nd:=h'.nd
  rw [eA] at nd
  refine ⟨F,A1++(A0++([]++A2)),h.bf,h.fh,h.tf, .cons hp z,?_,fun a ha=>h'.fr a ?_,h.len,fun s' hs=>?_⟩
  · have p:(A1++(A0++([]++A2))).Perm (A0++(A1++A2)):=by
      rw [List.nil_append,←List.append_assoc,←List.append_assoc]
      exact List.Perm.append_right _ List.perm_append_comm
    exact p.nodup_iff.mpr nd
  · rw [eA]
    simp only [List.mem_append,List.nil_append] at ha ⊢
    rcases ha with z | z | z
    · exact .inr (.inl z)
    · exact .inl z
    · exact .inr (.inr z)
  · rcases List.mem_or_eq_of_mem_set hs with hs | hs
    · exact h.pl s' hs
    · subst hs;rfl
end
section
variable {X:Cx} {st:Stmt} {be a b:List Stmt} {g h:cc} {e c:Expr} {m:Bool} {f:b7} {t:ik} {pos:Pos}
theorem a_:lh X [] ay:=li oF fun D σ H z=>by
  obtain ⟨B,E,xs,Xs,E',fl,fr,cl,e,q⟩:=z
  cases e
  exact q _ _ fr
theorem ar (h1:SX X st g):lh X [st] g:=kP h1
theorem qU {K:PySem.W.Frag} {D:Ends} {σ:gn} {H:Hp} (z:rs K (au g h) D σ H):rs K g {D with nx:=rs K h D} σ H:=by
  obtain ⟨B,E,xs,Xs,E',fl,fr,cl,e,q⟩:=z
  obtain ⟨⟨E1,f1⟩,e1,e⟩:=Option.bind_eq_some_iff.mp e
  refine ⟨B,E,xs,Xs,E1,f1,fr,cl,e1,?_⟩
  cases f1 with
  | nx=>exact fun σ' H' fr'=>⟨B,E1,xs,Xs,E',fl,fr',cl,e,q⟩
  | bk=>cases e;exact q
  | ct=>cases e;exact q
  | rt r=>cases e;exact q
theorem ak (h1:SX X st g) (h2:lh X be h):lh X (st::be) (au g h):=li (gT h1 h2) fun D σ H z=>qU z
theorem d_ (he:EX X e m f) (hs:swapsWith e none pos.line X.env=pure false:=by rfl):SX X (.Expr e pos) (bX f):=gm (oG he hs) fun D σ H z=>by
  obtain ⟨B,E,xs,Xs,E',fl,fr,cl,e,q⟩:=z
  obtain ⟨⟨s,E1⟩,e1,e⟩:=Option.map_eq_some_iff.mp e
  cases e
  refine ⟨B,E,xs,Xs,s,E1,fr,fun _=>Calm.nil cl,e1,fun v H1 ⟨F,A,fr1⟩=>?_⟩
  obtain ⟨A',fr2⟩:=fr1.pop
  exact q _ _ ⟨F,A',fr2⟩
theorem aT (he:EX X e m f):SX X (.Return (some e) pos) (aP f):=gm (mC he) fun D σ H z=>by
  obtain ⟨B,E,xs,Xs,E',fl,fr,cl,e,q⟩:=z
  obtain ⟨⟨s,E1⟩,e1,e⟩:=Option.bind_eq_some_iff.mp e
  refine ⟨B,E,xs,Xs,s,E1,fr,fun _=>Calm.nil cl,e1,fun v H1 ⟨F,A,fr1⟩=>?_⟩
  simp only at e
  split at e
  · obtain ⟨s',es,e⟩:=Option.map_eq_some_iff.mp e
    cases e
    exact q σ _ _ (fr1.move es)
  · cases e
    exact q σ _ _ ⟨F,A,fr1⟩
theorem cB (hc:TX X c m t) (ha:lh X a g) (hb:lh X b h):SX X (.If c a b pos) (aV t g h):=gm (sf hc ha hb) fun D σ H z=>by
  obtain ⟨B,E,xs,Xs,E',fl,fr,cl,e,q⟩:=z
  obtain ⟨⟨b1,E1⟩,e1,e⟩:=Option.bind_eq_some_iff.mp e
  refine ⟨B,E,xs,Xs,b1,E1,fr,fun _=>Calm.nil cl,e1,fun H1 fr1=>?_⟩
  cases b1 with
  | true=>exact (if_pos rfl).mpr ⟨B,E1,xs,Xs,E',fl,fr1,cl,e,q⟩
  | false=>exact (if_neg (by decide)).mpr ⟨B,E1,xs,Xs,E',fl,fr1,cl,e,q⟩
theorem aR (i:Nat) {x:Str} {pos':Pos} (hN:X.N.Nodup) (he:EX X e m f) (hi:X.N[i]? =some x:=by rfl) (hx:rQ X.env.scope x:=by first | exact Or.inl rfl | exact Or.inr rfl) (hs:swapsWith e (some (.Name x pos')) pos.line X.env=pure false:=by rfl) (hf:X.fn x=true∨X.env.scope.names.lookup x=some .local:=by first | exact .inl rfl | exact .inr rfl | assumption):
    SX X (.Assign [.Name x pos'] e pos) (aB i f):=gm (mF hN hi hx he hs hf) fun D σ H z=>by
  obtain ⟨B,E,xs,Xs,E',fl,fr,cl,e,q⟩:=z
  obtain ⟨⟨s,E1⟩,e1,e⟩:=Option.bind_eq_some_iff.mp e
  obtain ⟨⟨s',E2⟩,e2,e⟩:=Option.bind_eq_some_iff.mp e
  refine ⟨B,E,xs,Xs,s,E1,fr,fun _=>Calm.nil cl,e1,fun v H1 ⟨F,A,fr1⟩=>?_⟩
  obtain ⟨c1,F2,A2,fr2⟩:=fr1.settle cl e2
  simp only at e
  split at e
  · rename_i hi
    cases e
    obtain ⟨A3,fr3⟩:=fr2.store c1 (Still.nil cl) hi
    exact q _ _ ⟨F2,A3,fr3⟩
  · cases e
end
end PL
namespace PL
open PySem L2 Nh
abbrev gD:=PyData→List Sl→Option (List Sl)
abbrev jM:=List PyData→List Sl→Option (List Sl)
def rg (K:PySem.W.Frag) (h:gD):TG:=fun v σ H Q=>∃B E xs Xs d E',Frm K B σ H E (v::xs) (.sh d::Xs)∧Still Xs∧h d E=some E'∧∀σ' H',Frm K B σ' H' E' xs Xs→Q σ' H'
def vg (K:PySem.W.Frag) (h:jM):oH:=fun vs σ H Q=>∃B E xs Xs ds E',vs.length=ds.length∧Frm K B σ H E (vs++xs) (ds.map .sh++Xs)∧Still Xs∧h ds E=some E'∧∀σ' H',Frm K B σ' H' E' xs Xs→Q σ' H'
def GX (X:Cx) (e:Expr) (h:gD):Prop:=PG X e (rg X.K h)
def tU (X:Cx) (es:List Expr) (h:jM):Prop:=qf X es (vg X.K h)
def aU (i:Nat):gD:=fun d E=>if i < E.length then some (E.set i (.sh d)) else none
def dw:jM:=fun ds E=>if ds.isEmpty then some E else none
def bE (h:gD) (hs:jM):jM:=fun ds E=>match ds with
  | d::ds=>(h d E).bind (hs ds)
  | []=>none
def dy (n:Nat) (hs:jM):gD:=fun d E=>match d with
  | .tuple ds=>if ds.length=n then hs ds E else none
  | _=>none
section
variable {X:Cx}
theorem nD {e:Expr} {t t':TG} (h:PG X e t) (k:∀v σ H Q,t' v σ H Q→t v σ H Q):PG X e t':=fun pins s σ H v u Q I r q=>h pins s σ H v u Q I r (k v σ H Q q)
theorem lr {es:List Expr} {t t':oH} (h:qf X es t) (k:∀v σ H Q,t' v σ H Q→t v σ H Q):qf X es t':=fun pins s σ H v u Q I r q=>h pins s σ H v u Q I r (k v σ H Q q)
theorem bo (i:Nat) {x:Str} {pos:Pos} (hN:X.N.Nodup) (hi:X.N[i]? =some x:=by rfl) (hx:rQ X.env.scope x:=by first | exact Or.inl rfl | exact Or.inr rfl) (hf:X.fn x=true∨X.env.scope.names.lookup x=some .local:=by first | exact .inl rfl | exact .inr rfl | assumption):GX X (.Name x pos) (aU i):=nD (oI hN hi hx hf) fun v σ H Q z=>by
  obtain ⟨B,E,xs,Xs,d,E',⟨F,A,fr⟩,cl,e,q⟩:=z
  unfold aU at e
  split at e
  · rename_i hi
    cases e
    obtain ⟨A',fr'⟩:=fr.store rfl cl hi
    exact q _ _ ⟨F,A',fr'⟩
  · cases e
theorem ef:tU X [] dw:=lr oJ fun v σ H Q z=>by
  obtain ⟨B,E,xs,Xs,ds,E',hl,fr,cl,e,q⟩:=z
  unfold dw at e
  split at e
  · rename_i hd
    cases e
    have:ds=[]:=by simpa using hd
    subst this
    have hv:v=[]:=by simpa using hl
    subst hv
    exact ⟨rfl,q _ _ fr⟩
  · cases e
theorem bu {e:Expr} {es:List Expr} {h:gD} {hs:jM} (h1:GX X e h) (h2:tU X es hs) (hst:(assignEach (e::es) X.env).map (·.2)=assign e X.env::(assignEach es X.env).map (·.2):=by rfl):tU X (e::es) (bE h hs):=lr (mE h1 h2 hst) fun v σ H Q z=>by
  obtain ⟨B,E,xs,Xs,ds,E',hl,fr,cl,e,q⟩:=z
  cases ds with
  | nil=>cases e
  | cons d ds=>
    cases v with
    | nil=>cases hl
    | cons v vs=>
      obtain ⟨E1,e1,e2⟩:=Option.bind_eq_some_iff.mp e
      refine ⟨v,vs,rfl,B,E,vs++xs,ds.map Sl.sh++Xs,d,E1,fr,fun s hs=>?_,e1,fun σ1 H1 fr1=>⟨B,E1,xs,Xs,ds,E',by simpa using hl,fr1,cl,e2,q⟩⟩
      rcases List.mem_append.mp hs with hs | hs
      · obtain ⟨d',_,rfl⟩:=List.mem_map.mp hs
        rfl
      · exact cl s hs
theorem fE {es:List Expr} {k:Nat} {pos:Pos} {hs:jM} {n:Nat} (hc:X.calm=true) (h:tU X es hs) (hn:(assignEach es X.env).length=n:=by rfl) (hst:(assignEach es X.env).findIdx? (·.1)=none:=by rfl):GX X (.Tuple es k pos) (dy n hs):=nD (qh hc h hn hst) fun v σ H Q z=>by
  obtain ⟨B,E,xs,Xs,d,E',⟨F,A,fr⟩,cl,e,q⟩:=z
  unfold dy at e
  split at e
  · rename_i ds
    split at e
    · rename_i hl
      obtain ⟨v',A1,ev,rfl,w,ew,r⟩:=fr.ext (k:=0) rfl
      cases ev;cases ew
      cases r with
      | tup h1 h2=>
        obtain ⟨A',fr'⟩:=fr.pop
        have key:∀{us:List V} {es:List PyData},RpA X.K F us es→FrF X.K B F A' σ H E (us++xs) (es.map .sh++Xs):=fun {us es} r=>by
          induction us generalizing es with
          | nil=>cases r;exact fr'
          | cons u us ih=>
            cases r with
            | cons r1 r2=>exact (ih r2).push ⟨rfl,_,rfl,r1⟩
        exact ⟨_,_,rfl,fr.fh.tup h1,by rw [h2.len];exact hl,B,E,xs,Xs,ds,E',h2.len,⟨F,A',key h2⟩,cl,e,q⟩
    · cases e
  · cases e
end
def jN (K:PySem.W.Frag) (B0:Hp) (J:It) (ds:List PyData):Prop:=∀{B F:Hp} {A:List Addr} {σ:gn} {H:Hp} {E:List Sl} {xs:List V} {Xs:List Sl} (i:Nat),Same B0 B→FrF K B F A σ H E xs Xs→
  (∀d,ds[i]? =some d→J.go i H∧∀x H2,J.yld i H x H2→Frm K B σ H2 E (x::xs) (.sh d::Xs))∧(i=ds.length→J.stop i H)
def ri (K:PySem.W.Frag) (m:Bool) (f:io):TI:=fun σ H R=>∃B E xs Xs ds E',Frm K B σ H E xs Xs∧(m=true→Calm Xs)∧f E=some (ds,E')∧∀B' J H',Same B B'→Frm K B' σ H' E' xs Xs→jN K B' J ds→R J H'
def IX (X:Cx) (tg e:Expr) (m:Bool) (f:io):Prop:=PI X tg e (ri X.K m f)
theorem FrF.base {K:PySem.W.Frag} {B B' F:Hp} {A:List Addr} {σ:gn} {H:Hp} {E:List Sl} {xs:List V} {Xs:List Sl} (h:FrF K B' F A σ H E xs Xs) (s:Same B B'):FrF K B F A σ H E xs Xs:=⟨s.trans h.bf,h.fh,h.tf,h.sl,h.nd,h.fr,h.len,h.pl⟩
theorem Frm.base {K:PySem.W.Frag} {B B':Hp} {σ:gn} {H:Hp} {E:List Sl} {xs:List V} {Xs:List Sl} (h:Frm K B' σ H E xs Xs) (s:Same B B'):Frm K B σ H E xs Xs:=let ⟨F,A,h⟩:=h;⟨F,A,h.base s⟩
theorem FrF.raise {K:PySem.W.Frag} {B F:Hp} {A:List Addr} {σ:gn} {H:Hp} {E:List Sl} {xs:List V} {Xs:List Sl} (h:FrF K B F A σ H E xs Xs):FrF K F F A σ H E xs Xs:=⟨Same.refl _,h.fh,h.tf,h.sl,h.nd,h.fr,h.len,h.pl⟩
def ia (lo:Int) (n:Nat):List PyData:=(List.range n).map fun (k:Nat)=> .int (lo+(k:Int))
def gq (g:jc):io:=fun E=>(g E).bind fun a=>match aG a.2 a.1 with
  | some [.int j]=>if -1000000≤j∧j≤1000000 then some (ia 0 j.toNat,a.2) else none
  | _=>none
def jO (f:b7):io:=fun E=>(f E).bind fun a=>(frz a.2 a.1).bind fun b=>match b.1 with
  | .list ds=>some (ds.reverse,b.2)
  | _=>none
section
variable {X:Cx} {tg e e2:Expr} {m:Bool} {f:b7} {g:jc} {p pos:Pos} {K:PySem.W.Frag} {B:Hp}
theorem jj {t t':TI} (h:PI X tg e t) (k:∀σ H Q,t' σ H Q→t σ H Q):PI X tg e t':=fun pins s σ H R I q=>h pins s σ H R I (k σ H R q)
theorem lZ {a:Addr} {vs:List V} {ds:List PyData} (h:SqL K B a vs) (r:RpA K B vs ds):jN K B (uc K a) ds:=fun {B' F A σ H E xs Xs} i sB fr=>by
  have hH:=fr.fh.seq (fr.bf.seq (sB.seq h))
  refine ⟨fun d ed=>?_,fun e=>⟨vs,hH,by rw [e,r.len];exact Nat.le_refl _⟩⟩
  obtain ⟨v,ev,rv⟩:=r.get ed
  refine ⟨⟨vs,v,hH,ev⟩,fun x H2 ⟨e2,y⟩=>?_⟩
  subst e2
  have:=y vs hH
  rw [ev] at this
  cases this
  exact ⟨F,A,fr.push ⟨rfl,_,rfl,rv.same (sB.trans fr.bf)⟩⟩
theorem nE {a:Addr} {vs:List V} {ds:List PyData} (h:SqL K B a vs) (r:RpA K B vs ds):jN K B (ux K a vs) ds.reverse:=fun {B' F A σ H E xs Xs} i sB fr=>by
  have hH:=fr.fh.seq (fr.bf.seq (sB.seq h))
  refine ⟨fun d ed=>?_,fun e=>⟨hH,by rw [e,List.length_reverse,r.len]⟩⟩
  obtain ⟨v,ev,rv⟩:=r.rev.get ed
  have hi:i < vs.length:=by
    have:=(List.getElem?_eq_some_iff.mp ev).1
    simpa using this
  refine ⟨⟨hH,hi⟩,fun x H2 ⟨e2,y⟩=>?_⟩
  subst e2
  rw [ev] at y
  cases y
  exact ⟨F,A,fr.push ⟨rfl,_,rfl,rv.same (sB.trans fr.bf)⟩⟩
theorem kD {lo:Int} {n:Nat}:jN K B (tQ lo n) (ia lo n):=fun {B' F A σ H E xs Xs} i sB fr=>by
  have hl:(ia lo n).length=n:=by simp [ia]
  refine ⟨fun d ed=>?_,fun e=>?_⟩
  · have hi:i < n:=by have:=(List.getElem?_eq_some_iff.mp ed).1;omega
    refine ⟨hi,fun x H2 ⟨e2,y⟩=>?_⟩
    subst e2 y
    have:d= .int (lo+i):=by
      unfold ia at ed
      rw [List.getElem?_map,List.getElem?_range hi] at ed
      exact (Option.some.inj ed).symm
    subst this
    exact ⟨F,A,fr.push ⟨rfl,_,rfl, .int _⟩⟩
  · show n≤i
    omega
theorem nG (hg:Gl X "reversed") (hm:X.mg "reversed"=none) (he:EX X e m f) (hs:starEach [e] X.env=[(false,eval e X.env)]:=by rfl):IX X tg (.Call (.Name "reversed" p) [e] [] pos) m (jO f):=jj (qI hg hm (b6 he d0 hs) hs) fun σ H R z=>by
  obtain ⟨B,E,xs,Xs,ds,E',fr,cl,e,q⟩:=z
  obtain ⟨⟨s,E1⟩,e1,e⟩:=Option.bind_eq_some_iff.mp e
  obtain ⟨⟨d,E2⟩,e2,e⟩:=Option.bind_eq_some_iff.mp e
  refine ⟨B,E,xs,Xs,s,E1,fr,cl,e1,fun v H1 ⟨F,A,fr1⟩=>?_⟩
  obtain ⟨F2,A2,fr2⟩:=fr1.frz0 e2
  simp only at e
  split at e
  · cases e
    obtain ⟨v',A1,ev,rfl,w,ew,r⟩:=fr2.ext (k:=0) rfl
    cases ev;cases ew
    cases r with
    | lst h1 h2=>
      obtain ⟨A3,fr3⟩:=fr2.pop
      exact ⟨_,_,rfl,fr2.fh.seq h1,q F2 _ _ fr2.bf ⟨F2,A3,fr3.raise⟩ (nE h1 h2)⟩
  · cases e
theorem iR (hg:Gl X "range") (hm:X.mg "range"=none) (ha:AX X [e] m g) (hs:starEach [e] X.env=[(false,eval e X.env)]:=by rfl):IX X tg (.Call (.Name "range" p) [e] [] pos) m (gq g):=jj (lM hg hm ha hs) fun σ H R z=>by
  obtain ⟨B,E,xs,Xs,ds,E',fr,cl,e,q⟩:=z
  obtain ⟨⟨rs,E1⟩,e1,e⟩:=Option.bind_eq_some_iff.mp e
  refine ⟨B,E,xs,Xs,rs,E1,fr,cl,e1,fun vs H1 hl ⟨F,A,fr1⟩=>?_⟩
  simp only at e
  split at e
  · rename_i j ld
    split at e
    · rename_i hj
      cases e
      obtain ⟨r,A',fr2⟩:=fr1.looks hl ld
      obtain ⟨v,rfl,r'⟩:=r.one
      cases r'
      exact ⟨j,rfl,by omega,by omega,q B _ _ (Same.refl _) ⟨F,A',fr2⟩ kD⟩
    · cases e
  · cases e
end
def bN (tg:gD) (body:cc):List PyData→cc
  | [],E=>some (E, .nx)
  | d::ds,E=>((tg d E).bind body).bind fun a=>match a.2 with
    | .nx=>bN tg body ds a.1
    | .ct=>bN tg body ds a.1
    | .bk=>some (a.1, .nx)
    | .rt r=>some (a.1, .rt r)
def dN (it:io) (tg:gD) (body:cc):cc:=fun E=>(it E).bind fun a=>bN tg body a.1 a.2
theorem fF {X:Cx} {tg iter:Expr} {body:List Stmt} {m:Bool} {it:io} {g:gD} {b:cc} {pos:Pos} (hp:PassesOwn (model X.prog X.w) X.A X.env X.xe) (hc:X.calm=true) (hi:IX X tg iter m it) (hg:GX X tg g) (hb:lh X body b)
    (hs:∀x,foldedSetIterable iter X.env x=pure x:=by intro _;rfl):SX X (.For tg iter body [] pos) (dN it g b):=gm (ql hp hc hi hg hb hs) fun D σ H z=>by
  obtain ⟨B,E,xs,Xs,E',fl,fr,cl,e,q⟩:=z
  obtain ⟨⟨ds,E1⟩,e1,e⟩:=Option.bind_eq_some_iff.mp e
  refine ⟨B,E,xs,Xs,ds,E1,fr,fun _=>Calm.nil cl,e1,fun B' J H1 hB fr1 ok=>?_⟩
  refine ⟨fun i mm σ' H'=>mm=ds.length - i∧i≤ds.length∧∃Ei,bN g b (ds.drop i) Ei=some (E',fl)∧Frm X.K B' σ' H' Ei xs Xs,⟨ds.length,by simp,Nat.zero_le _,E1,by simpa using e,fr1⟩,?_⟩
  rintro i mm σ' H' ⟨rfl,hi,Ei,ei,F,A,fri⟩
  obtain ⟨go,stop⟩:=ok i (Same.refl _) fri
  by_cases hlt:i < ds.length
  · obtain ⟨d,ed⟩:∃d,ds[i]? =some d:=⟨ds[i],List.getElem?_eq_getElem hlt⟩
    obtain ⟨g1,yl⟩:=go d ed
    have edr:ds.drop i=d::ds.drop (i+1):=by
      rw [List.drop_eq_getElem_cons hlt]
      congr 1
      exact Option.some.inj ((List.getElem?_eq_getElem hlt).symm.trans ed)
    rw [edr] at ei
    obtain ⟨⟨E2,f2⟩,e2,ei⟩:=Option.bind_eq_some_iff.mp ei
    obtain ⟨E3,e3,e2⟩:=Option.bind_eq_some_iff.mp e2
    refine .inr ⟨g1,fun σ2 H2=>∃Ej,bN g b (ds.drop (i+1)) Ej=some (E',fl)∧Frm X.K B' σ2 H2 Ej xs Xs,fun σ2 H2 ⟨Ej,ej,frj⟩=>⟨ds.length - (i+1),by omega,rfl,hlt,Ej,ej,frj⟩,fun x H2 y=>?_⟩
    refine ⟨B',Ei,xs,Xs,d,E3,yl x H2 y,Still.nil cl,e3,fun σ3 H3 fr3=>?_⟩
    refine ⟨B',E3,xs,Xs,E2,f2,fr3,cl,e2,?_⟩
    cases f2 with
    | nx=>exact fun σ4 H4 fr4=>⟨E2,ei,fr4⟩
    | ct=>exact fun σ4 H4 fr4=>⟨E2,ei,fr4⟩
    | bk=>cases ei;exact fun σ4 H4 fr4=>q _ _ (fr4.base hB)
    | rt r=>cases ei;exact fun σ4 v H4 fr4=>q _ _ _ (fr4.base hB)
  · have e0:i=ds.length:=by omega
    refine .inl ⟨stop e0,?_⟩
    rw [e0,List.drop_length] at ei
    cases ei
    exact q _ _ (Frm.base ⟨F,A,fri⟩ hB)
def bI:Sl→Bool
  | .sh d=>cb d
  | .ow ds=>aS ds
  | .tx ps=>ps.all fun p=>match p with | .fl d=>cb d | .ol ds=>aS ds
  | .od kvs=>kvs.all fun p=>aS p.2
  | _=>false
def aM (n:Nat) (ds:List PyData):List Sl:=ds.map .sh++List.replicate (n - ds.length) .no
def dc (r:Sl):Option Sl:=if bI r then some r else match r with
  | .sh d=>some (.br d)
  | .ow ds=>some (.br (.list ds))
  | .tx ps=>some (.br (.tuple (ps.map Pt.val)))
  | .br d=>some (if cb d then .sh d else .br d)
  | _=>none
def dz (n:Nat) (g:cc):List PyData→Option Sl:=fun ds=>(g (aM n ds)).bind fun a=>match a.2 with
  | .rt r=>dc r
  | .nx=>some (.sh .none)
  | _=>none
section
variable {K:PySem.W.Frag} {B F:Hp} {A:List Addr} {σ:gn} {H:Hp} {E:List Sl} {v:V} {r:Sl}
theorem DlOk.cold {F H:Hp} (sF:Same F H):∀{us:List (cN×V)} {kvs:List (cN×List PyData)} {A:List Addr},(∀p∈kvs,aS p.2=true)→DlOk K F H us kvs A→DlOk K (tups H) H us kvs A
  | [],[],A,_,h=>h
  | p::us,q::kvs,A,c,h=>by
    obtain ⟨l,vs,A',rfl,rfl,hl,hr,k⟩:=h
    exact ⟨l,vs,A',rfl,rfl,hl,(hr.same sF).cold (c q (List.mem_cons_self ..)),DlOk.cold sF (fun p hp=>c p (List.mem_cons_of_mem _ hp)) k⟩
  | [],_::_,_,_,h=>False.elim h
  | _::_,[],_,_,h=>False.elim h
theorem PtsOk.cold {F H G:Hp} (sF:Same F H) (tG:∀{v:V} {d:PyData},Rp K F v d→cb d=true→Rp K G v d):∀{vs:List V} {ps:List Pt} {A:List Addr},(∀p∈ps,(match p with | .fl d=>cb d | .ol ds=>aS ds)=true)→PtsOk K F H vs ps A→PtsOk K G H vs ps A
  | [],[],A,_,h=>h
  | v::vs, .fl d::ps,A,c,h=>⟨tG h.1 (c (.fl d) (List.mem_cons_self ..)),PtsOk.cold sF tG (fun p hp=>c p (List.mem_cons_of_mem _ hp)) h.2⟩
  | v::vs, .ol ds::ps,A,c,h=>by
    obtain ⟨l,us,A',rfl,rfl,hl,hr,q⟩:=h
    refine ⟨l,us,A',rfl,rfl,hl,?_,q.cold sF tG fun p hp=>c p (List.mem_cons_of_mem _ hp)⟩
    have cd:aS ds=true:=c (.ol ds) (List.mem_cons_self ..)
    have key:∀{us:List V} {ds:List PyData},RpA K F us ds→aS ds=true→RpA K G us ds:=fun {us ds} r c=>by
      induction us generalizing ds with
      | nil=>cases r;exact .nil
      | cons u us ih=>
        cases r with
        | cons r1 r2=>
          simp only [aS,Bool.and_eq_true] at c
          exact .cons (tG r1 c.1) (ih r2 c.2)
    exact key hr cd
  | [],_::_,_,_,h=>False.elim h
  | _::_,[],_,_,h=>False.elim h
theorem FrF.result (h:FrF K B F A σ H E [v] [r]) (c:bI r=true):Same B H∧iQ K B H v r:=by
  refine ⟨h.bf.trans h.fh,?_⟩
  have nB:∀a,F a=none→B a=none:=fun a e=>h.bf.free e
  have cold:∀{v:V} {d:PyData},Rp K F v d→cb d=true→Rp K (tups H) v d:=fun r f=>(r.same h.fh).cold f
  obtain ⟨v',A1,ev,hs⟩:=h.ext (k:=0) rfl
  cases ev
  obtain ⟨o,C0,C1,C2,eA,eo,hp,_⟩:=h.sl.at (k:=0) (s:=r) rfl
  cases eo
  have sub:∀a∈C1,F a=none:=fun a ha=>h.fr a (by rw [eA];simp [ha])
  have nd:C1.Nodup:=by
    have:=h.nd
    rw [eA] at this
    exact (List.nodup_append.mp (List.nodup_append.mp this).2.1).1
  cases r with
  | sh d=>obtain ⟨_,w,ew,r⟩:=hp;cases ew;exact cold r c
  | ow ds=>
    obtain ⟨l,vs,el,rfl,hl,r⟩:=hp
    cases el
    exact ⟨l,vs,rfl,nB l (sub l (by simp)),hl,(r.same h.fh).cold c⟩
  | tx ps=>
    obtain ⟨t,vs,et,ht,r⟩:=hp
    cases et
    exact ⟨t,vs,C1,rfl,fQ (h.fh _ _ ht) rfl,nd,fun a ha=>nB a (sub a ha),r.cold h.fh cold (by simpa [bI,List.all_eq_true] using c)⟩
  | no=>cases c
  | od kvs=>
    obtain ⟨l,us,A',el,rfl,hl,r⟩:=hp
    cases el
    exact ⟨l,us,A',rfl,nd,fun a ha=>nB a (sub a ha),hl,r.cold h.fh (by simpa [bI,List.all_eq_true] using c)⟩
  | al i=>cases c
  | br d=>cases c
theorem FrF.resultO {r':Sl} (h:FrF K B F A σ H E [v] [r]) (c:dc r=some r'):Same B H∧iQ K B H v r':=by
  unfold dc at c
  split at c
  · rename_i hc
    cases c
    exact h.result hc
  · refine ⟨h.bf.trans h.fh,?_⟩
    cases r with
    | sh d=>cases c;exact (h.look0 (d:=d) rfl).1
    | ow ds=>cases c;exact (h.look0 (d:= .list ds) rfl).1
    | tx ps=>cases c;exact (h.look0 (d:= .tuple (ps.map Pt.val)) rfl).1
    | br d=>
      have r:=(h.look0 (d:=d) rfl).1
      simp only at c
      split at c
      · rename_i hf
        cases c
        exact r.cold hf
      · cases c
        exact r
    | no=>cases c
    | od kvs=>cases c
    | al i=>cases c
theorem gJ {N:List Str} {vs:List V} {ds:List PyData} (r:RpA K H vs ds) (hn:ds.length≤N.length):FrF K H H [] (L2.de N vs) H (aM N.length ds) [] []:=by
  refine ⟨Same.refl _,Same.refl _,gl H,?_,List.nodup_nil,fun a ha=>(by cases ha),rfl,?_⟩
  · have l:=r.len
    unfold L2.de aM
    rw [l]
    generalize N.length - ds.length=k
    have base:∀τ:gn,SAll (SlOk K H H τ) (List.replicate k none) (List.replicate k .no) []:=fun τ=>by
      induction k with
      | zero=>exact .nil
      | succ k ih=>exact .cons (A:=[]) rfl ih
    have key:∀(τ:gn) {us:List V} {es:List PyData},RpA K H us es→SAll (SlOk K H H τ) (us.map some++List.replicate k none) (es.map .sh++List.replicate k .no) []:=fun τ us es r=>by
      induction us generalizing es with
      | nil=>cases r;exact base τ
      | cons u us ih=>
        cases r with
        | cons r1 r2=>exact .cons (A:=[]) ⟨rfl,_,rfl,r1⟩ (ih _ r2)
    exact key _ r
  · intro s hs
    unfold aM at hs
    rcases List.mem_append.mp hs with hs | hs
    · obtain ⟨d,_,rfl⟩:=List.mem_map.mp hs
      rfl
    · rw [(List.mem_replicate.mp hs).2]
      rfl
end
def dA (k n:Nat) (g:cc):List PyData→Option Sl:=fun ds=>if ds.length=k then dz n g ds else none
theorem fR {P:Program} {w:World} {K:PySem.W.Frag} {mg:Str→Option Value} {base:Heap} {x:Str} {st:Stmt} {N ps:List Str} {k a n:Nat} {g:cc} (D:Def K mg x st ps) (S:FnScope N ps (ai st)) (hpa:ps.length=a) (hNn:N.length=n) (hps:a≤n)
    (hbody:∀(f:Addr) (cdv:Value) (A:Around) (outer:List Env) (s:Shared) (H:Hp) (E:XK),Room k (A.deeper (PyProof.Rows.envOfC x (ai st) s.heap.objs.size f cdv))→
      lh (eK ku P w K mg base N x (ai st) f cdv A outer s H E).nox (aE st) g):Own P w K mg base (k+1) x ps (dv K (dA a n g)):=by
  subst hpa hNn
  refine D.own S (fun vs H Q E h=>?_) (fun f cdv A outer s H vs Q E hr h=>?_)
  · obtain ⟨ds,r,e,rp,_⟩:=h
    unfold dA at e
    split at e
    · rename_i hl
      rw [rp.len];exact hl
    · cases e
  obtain ⟨ds,r,e,rp,q⟩:=h
  unfold dA at e
  split at e
  · rename_i hl
    refine ⟨_,hbody f cdv A outer s H E hr,?_⟩
    obtain ⟨⟨E',fl⟩,e1,e⟩:=Option.bind_eq_some_iff.mp e
    refine ⟨H,aM N.length ds,[],[],E',fl,⟨H,[],gJ rp (by omega)⟩,rfl,e1,?_⟩
    cases fl with
    | nx=>
      cases e
      rintro σ' H' ⟨F',A',fr'⟩
      exact q _ _ (fr'.bf.trans fr'.fh) .non
    | bk=>cases e
    | ct=>cases e
    | rt r'=>
      rintro σ' v H' ⟨F',A',fr'⟩
      obtain ⟨s1,s2⟩:=fr'.resultO e
      exact q v H' s1 s2
  · cases e
theorem vh {P:Program} {w:World} {K:PySem.W.Frag} {mg:Str→Option Value} {base:Heap} {x:Str} {st:Stmt} {N ps:List Str} {k a n:Nat} {g:cc} {f0:Addr} {fd:FuncData} (D:Fun K x x st f0 fd) (S:FnScope N ps (ai st)) (hpa:ps.length=a) (hNn:N.length=n) (hps:a≤n)
    (hbody:∀(cdv:Value) (A:Around) (outer:List Env) (s:Shared) (H:Hp) (E:XK),Room k (A.deeper (PyProof.Rows.envOfC x (ai st) s.heap.objs.size f0 cdv))→
      lh (eK ku P w K mg base N x (ai st) f0 cdv A outer s H E).nox (aE st) g):FnOk P w K mg base ku (k+1) f0 fd ps (dv K (dA a n g)):=by
  subst hpa hNn
  refine D.ok S (fun vs H Q E h=>?_) (fun cdv A outer s H vs Q E hr h=>?_)
  · obtain ⟨ds,r,e,rp,_⟩:=h
    unfold dA at e
    split at e
    · rename_i hl
      rw [rp.len];exact hl
    · cases e
  obtain ⟨ds,r,e,rp,q⟩:=h
  unfold dA at e
  split at e
  · rename_i hl
    refine ⟨_,hbody cdv A outer s H E hr,?_⟩
    obtain ⟨⟨E',fl⟩,e1,e⟩:=Option.bind_eq_some_iff.mp e
    refine ⟨H,aM N.length ds,[],[],E',fl,⟨H,[],gJ rp (by omega)⟩,rfl,e1,?_⟩
    cases fl with
    | nx=>
      cases e
      rintro σ' H' ⟨F',A',fr'⟩
      exact q _ _ (fr'.bf.trans fr'.fh) .non
    | bk=>cases e
    | ct=>cases e
    | rt r'=>
      rintro σ' v H' ⟨F',A',fr'⟩
      obtain ⟨s1,s2⟩:=fr'.resultO e
      exact q v H' s1 s2
  · cases e
theorem iS {K:PySem.W.Frag} {H:Hp}:∀ns:List Int,RpA K H (ns.map V.int) (ns.map PyData.int)
  | []=> .nil
  | n::ns=> .cons (.int n) (iS ns)
theorem qV {K:PySem.W.Frag} {H:Hp} {a:Addr} {ns:List Int} {c:List PyData→Option Sl} (e:c [.list (ns.map .int)]=some (.sh (.bool true))) (h:SqL K H a (ns.map V.int)):dv K c [.ref a] H (fun v _=>v= .bl true) fun _ _ _=>False:=
  ⟨_,_,e, .cons (.lst h (iS ns)) .nil,fun v H' _ r=>by
    have r':Rp K (tups H') v (.bool true):=r
    cases r'
    rfl⟩
end PL
namespace PL
open PySem L2 Nh
def iT (E:List Sl):Option Nat→Sl
  | none=> .no
  | some j=>match (E[j]?).bind Sl.val with
    | some d=> .sh d
    | none=> .no
def eQ (js:List (Option Nat)) (E:List Sl):List Sl:=js.map (iT E)
def eR:ik:=fun E=>some (true,E)
def dF (tg:gD) (cond:ik) (elt:b7):List PyData→List Sl→Option (List PyData)
  | [],_=>some []
  | d::ds,E=>(tg d E).bind fun E1=>(cond E1).bind fun b=>if b.1 then (elt b.2).bind fun c=>(frz c.2 c.1).bind fun e=>(dF tg cond elt ds e.2).map fun r=>e.1::r else dF tg cond elt ds b.2
def ft (js:List (Option Nat)) (it:io) (tg:gD) (cond:ik) (elt:b7):b7:=fun E=>(it E).bind fun a=>(dF tg cond elt a.1 (eQ js a.2)).bind fun ds=>if aS ds&&decide (ds.length≤1000000) then some (.ow ds,a.2) else none
section
variable {X:Cx} {elt target iter:Expr} {ifs:List Expr} {scope sc:Scope} {cl:List (Str×Addr)} {N:List Str} {pos:Pos} {js:List (Option Nat)} {K:PySem.W.Frag}
theorem nH {B F:Hp} {A:List Addr} {σ:gn} {H:Hp} {E:List Sl} {xs:List V} {Xs:List Sl} (fr:FrF K B F A σ H E xs Xs) (js:List (Option Nat)):FrF K H H [] (slots js σ) H (eQ js E) [] []:=by
  refine ⟨Same.refl _,Same.refl _,gl H,?_,List.nodup_nil,fun a ha=>(by cases ha),rfl,fun s hs=>?_⟩
  · have key:∀(τ:gn) (ks:List (Option Nat)),SAll (SlOk K H H τ) (slots ks σ) (eQ ks E) []:=fun τ ks=>by
      induction ks with
      | nil=>exact .nil
      | cons j ks ih=>
        refine .cons (A:=[]) ?_ ih
        cases j with
        | none=>exact rfl
        | some j=>
          show SlOk K H H τ _ (match (E[j]?).bind Sl.val with | some d=> .sh d | none=> .no) []
          cases ej:E[j]? with
          | none=>exact rfl
          | some s=>
            cases ev:s.val with
            | none=>simp only [Option.bind_some,ev];exact rfl
            | some d=>
              simp only [Option.bind_some,ev]
              obtain ⟨o,A1,eo,hs⟩:=fr.var ej
              obtain ⟨v,rfl,r,_⟩:=hs.val fr.fh ev
              refine ⟨rfl,v,?_,r⟩
              show (σ[j]?).join=some v
              rw [eo]
              rfl
    exact key _ js
  · obtain ⟨j,_,rfl⟩:=List.mem_map.mp hs
    cases j with
    | none=>rfl
    | some j=>
      simp only [iT]
      split <;> rfl
theorem l_ {m2 m3:Bool} {tg:gD} {cond:ik} {el:b7} {tt:TT} (htt:∀σ H Q,rt K m2 cond σ H Q→tt σ H Q) {B B' F:Hp} {A:List Addr} {σ:gn} {H1:Hp} {E1:List Sl} {xs:List V} {Xs:List Sl} {ds rs:List PyData} {J:It} {Q:VK}
    (fr1:FrF K B F A σ H1 E1 xs Xs) (B2:Same B' H1) (ok:jN K B' J ds) (e2:dF tg cond el ds (eQ js E1)=some rs) (hc:aS rs=true∧rs.length≤1000000) (q:∀v H',Frm K B σ H' E1 (v::xs) (.ow rs::Xs)→Q v H') (l:Addr) (hl:H1 l=none):
    ∃W:Nat→Nat→gn→Hp→Prop,(∃m,W 0 m (slots js σ) (upd H1 l (.lst [])))∧
  ∀i m σ' H',W i m σ' H'→(J.stop i H'∧Q (.ref l) H')∨(J.go i H'∧∃N:gn→Hp→Prop,(∀σ' H',N σ' H'→∃m',m' < m∧W (i+1) m' σ' H')∧∀x H2,J.yld i H' x H2→rg K tg x σ' H2 fun σ3 H3=>tt σ3 H3 fun b H4=>
    if b=true then rd K m3 el σ3 H4 fun y H5=>∃ys,H5 l=some (.lst ys)∧ys.length < sizeLine∧N σ3 (upd H5 l (.lst (ys++[y]))) else N σ3 H4):=by
  have fr0:=(nH fr1 js).newl (ds:=[]) .nil hl
  refine ⟨fun i mm σ' H'=>mm=ds.length - i∧i≤ds.length∧∃Ei acc be,dF tg cond el (ds.drop i) Ei=some be∧rs=acc++be∧Frm K H1 σ' H' Ei [.ref l] [.ow acc],⟨ds.length,by simp,Nat.zero_le _,_,[],rs,by simpa using e2,rfl,⟨_,_,fr0⟩⟩,?_⟩
  rintro i mm σ' H' ⟨rfl,hi,Ei,acc,be,ei,er,F',A',fri⟩
  obtain ⟨go,stop⟩:=ok i B2 fri
  by_cases hlt:i < ds.length
  · obtain ⟨d,ed⟩:∃d,ds[i]? =some d:=⟨ds[i],List.getElem?_eq_getElem hlt⟩
    obtain ⟨g1,yl⟩:=go d ed
    have edr:ds.drop i=d::ds.drop (i+1):=by
      rw [List.drop_eq_getElem_cons hlt]
      congr 1
      exact Option.some.inj ((List.getElem?_eq_getElem hlt).symm.trans ed)
    rw [edr] at ei
    obtain ⟨E3,e3,ei⟩:=Option.bind_eq_some_iff.mp ei
    obtain ⟨⟨b,E4⟩,e4,ei⟩:=Option.bind_eq_some_iff.mp ei
    refine .inr ⟨g1,fun σ2 H2=>∃Ej acc be,dF tg cond el (ds.drop (i+1)) Ej=some be∧rs=acc++be∧Frm K H1 σ2 H2 Ej [.ref l] [.ow acc],fun σ2 H2 ⟨Ej,ac,rt,ej,er,frj⟩=>⟨ds.length - (i+1),by omega,rfl,hlt,Ej,ac,rt,ej,er,frj⟩,fun x H2 y=>?_⟩
    have clm:Calm [Sl.ow acc]:=Calm.cons (fun s hs=>absurd hs (by simp)) rfl
    refine ⟨H1,Ei,[.ref l],[.ow acc],d,E3,yl x H2 y,(fun s hs=>by rw [List.mem_singleton.mp hs];rfl),e3,fun σ3 H3 fr3=>htt _ _ _ ?_⟩
    refine ⟨H1,E3,[.ref l],[.ow acc],b,E4,fr3,fun _=>clm,e4,fun H4 fr4=>?_⟩
    cases b with
    | false=>
      rw [if_neg (by decide)]
      exact ⟨E4,acc,be,ei,er,fr4⟩
    | true=>
      rw [if_pos rfl]
      obtain ⟨⟨s5,E5⟩,e5,ei⟩:=Option.bind_eq_some_iff.mp ei
      obtain ⟨⟨d6,E6⟩,e6,ei⟩:=Option.bind_eq_some_iff.mp ei
      obtain ⟨rest',e7,ei⟩:=Option.map_eq_some_iff.mp ei
      subst ei
      refine ⟨H1,E4,[.ref l],[.ow acc],s5,E5,fr4,fun _=>clm,e5,fun y5 H5 ⟨F5,A5,fr5⟩=>?_⟩
      obtain ⟨F6,A6,fr6⟩:=fr5.frz0 e6
      obtain ⟨v',C1,ev,rfl,w,ew,ry⟩:=fr6.ext (k:=0) rfl
      cases ev;cases ew
      obtain ⟨A7,fr7⟩:=fr6.pop
      -- the list under way is the one part that owns
      obtain ⟨bf,fh,tf,sl,nd,frn,len,pl⟩:=fr7
      generalize hT:List.map some [V.ref l]++σ3=T at sl
      generalize hS:[Sl.ow acc]++E6=S at sl
      cases sl with
      | nil=>cases hS
      | cons q0 r0=>
        injection hT with h1 hT
        injection hS with h2 hS
        subst h1 h2 hT hS
        obtain ⟨l',us,el,rfl,hl5,ru⟩:=q0
        cases el
        have lu:=ru.len
        refine ⟨us,hl5,nn (by rw [er] at hc;simp at hc;omega),E6,acc++[d6],rest',e7,by rw [er];simp,F6,_,bf,fun b o qb=>?_,?_, .cons (A:=[l]) ⟨l,us++[y5],rfl,rfl,bi,ru.snoc ry⟩ (r0.mono fun o s C hs hC qq=>qq.stay (Same.refl _) (fun b hb=>az fun z=>?_) fun z=>?_),nd,frn,rfl,pl⟩
        · have lF:F6 l=none:=frn l (by simp)
          rw [az (fun z=>by rw [z,lF] at qb;cases qb)]
          exact fh _ _ qb
        · rw [hG hl5];exact tf
        · have:=hC b hb
          rw [z] at this
          exact (List.nodup_cons.mp nd).1 this
        · have:=pl s hs
          cases s <;> simp [Sl.isAl,Sl.isBr] at this z
  · have e0:i=ds.length:=by omega
    refine .inl ⟨stop e0,?_⟩
    rw [e0,List.drop_length] at ei
    cases ei
    rw [List.append_nil] at er
    subst er
    obtain ⟨g1,g2⟩:=fri.result hc.1
    exact q _ _ (fr1.told g1 g2)
theorem pi {m m2 m3:Bool} {it:io} {tg:gD} {cond:ik} {el:b7} {tt:TT} (htt:∀σ H Q,rt K m2 cond σ H Q→tt σ H Q) {σ:gn} {H:Hp} {Q:VK} (z:rd K m (ft js it tg cond el) σ H Q):m7 js (ri K m it) (rg K tg) tt (rd K m3 el) σ H Q:=by
  obtain ⟨B,E,xs,Xs,res,E',fr,cl,e,q⟩:=z
  obtain ⟨⟨ds,E1⟩,e1,e⟩:=Option.bind_eq_some_iff.mp e
  obtain ⟨rs,e2,e⟩:=Option.bind_eq_some_iff.mp e
  simp only at e
  split at e
  · rename_i hc
    cases e
    simp only [Bool.and_eq_true,decide_eq_true_eq] at hc
    exact ⟨B,E,xs,Xs,ds,_,fr,cl,e1,fun B' J H1 hB ⟨F,A,fr1⟩ ok l hl=>l_ htt (fr1.base hB) (fr1.bf.trans fr1.fh) ok e2 hc q l hl⟩
  · cases e
theorem fS {m m3:Bool} {it:io} {tg:gD} {el:b7} (C:CompOk X scope sc cl N js) (hc:X.calm=true) (hi:IX X target iter m it) (hg:∀C s₀ H₀ fp,GX (X.comp sc cl N C s₀ H₀ fp) target tg) (he:∀C s₀ H₀ fp,EX (X.comp sc cl N C s₀ H₀ fp) elt m3 el)
    (hs:∀x,foldedSetIterable iter X.env x=pure x:=by intro _;rfl):EX X (.ListComp elt [⟨target,iter,[],0⟩] scope pos) m (ft js it tg eR el):=
  bp (oZ (g:=rg X.K tg) (te:=rd X.K m3 el) C hc hi hg (fun _ _ _ _=>oY) he hs) fun σ H Q z=>pi (m2:=false) (fun σ H Q z=>by
    obtain ⟨B,E,xs,Xs,b,E',fr,cl,e,q⟩:=z
    cases e
    exact q _ fr) z
end
end PL
namespace PL
open PySem L2 Nh
section
variable {X:Cx} {elt target iter:Expr} {ifs:List Expr} {scope sc:Scope} {cl:List (Str×Addr)} {N:List Str} {pos:Pos} {js:List (Option Nat)} {K:PySem.W.Frag}
theorem SAll.split {P:Option V→Sl→List Addr→Prop}:∀{os os':List (Option V)} {ss ss':List Sl} {A:List Addr},os.length=ss.length→SAll P (os++os') (ss++ss') A→∃A1 A2,A=A1++A2∧SAll P os ss A1∧SAll P os' ss' A2
  | [],_,[],_,A,_,h=>⟨[],A,rfl, .nil,h⟩
  | o::os,_,s::ss,_,_,l, .cons h r=>by
    obtain ⟨A1,A2,rfl,h1,h2⟩:=SAll.split (os:=os) (ss:=ss) (by simpa using l) r
    exact ⟨_,A2,by rw [List.append_assoc], .cons h h1,h2⟩
  | [],_,_::_,_,_,l,_=>by simp at l
  | _::_,_,[],_,_,l,_=>by simp at l
end
end PL
namespace PL
open PySem L2 Nh
def sY:Const→Option Int
  | .int i=>some i
  | _=>none
def qW:Expr→Option Int
  | .Constant c _ _=>sY c
  | _=>none
def fc:List Expr→Option (List Int)
  | []=>some []
  | e::r=>(qW e).bind fun i=>(fc r).map (i:: ·)
def nI (ns:List Int):io:=fun E=>some (ns.map .int,E)
theorem qX {e:Expr} {i:Int} (h:qW e=some i):∃k p,e= .Constant (.int i) k p:=by
  unfold qW at h
  split at h
  · unfold sY at h
    split at h
    · cases h;exact ⟨_,_,rfl⟩
    · cases h
  · cases h
theorem ls {X:Cx}:∀{es:List Expr} {ns:List Int},fc es=some ns→DX X es false (nI ns)
  | [],ns,h=>by cases h;exact aY
  | e::es,ns,h=>by
    obtain ⟨i,h0,h⟩:=Option.bind_eq_some_iff.mp h
    obtain ⟨ms,h1,h⟩:=Option.map_eq_some_iff.mp h
    subst h
    obtain ⟨k,p,rfl⟩:=qX h0
    exact aq (m1:=false) (m2:=false) ah (ls h1) rfl
def sZ (body:List Stmt) (k:Nat):List Expr:=match body[k]? with
  | some (.Assign _ (.Subscript (.List es _) _ _) _)=>es
  | _=>[]
def uG (es:List Expr):Stmt→Stmt
  | .Assign t (.Subscript (.List _ p) i q) r=> .Assign t (.Subscript (.List es p) i q) r
  | s=>s
def qY (es:List Expr):Nat→List Stmt→List Stmt
  | _,[]=>[]
  | 0,s::r=>uG es s::r
  | k+1,s::r=>s::qY es k r
theorem kE {X:Cx} {body:List Stmt} {g:cc} (k:Nat) (ns:List Int) (h:fc (sZ body k)=some ns) (hb:qY (sZ body k) k body=body) (key:∀es,fc es=some ns→lh X (qY es k body) g):lh X body g:=by
  have:=key _ h
  rw [hb] at this
  exact this
end PL
namespace PL
open PySem L2 Nh
theorem dR {α:Type} (xs:List α) (k:Nat):atI xs (k:Int)=xs[k]? :=by
  unfold atI qA
  rw [if_pos (by omega)]
  split
  · simp
  · rw [List.getElem?_eq_none (by omega)];rfl
theorem eS {α:Type} (a:α) (l:List α):atI (a::l) 0=some a:=dR (a::l) 0
theorem fu {α:Type} (a b:α) (l:List α):atI (a::b::l) 1=some b:=dR (a::b::l) 1
theorem cp {α:Type} (l:List α) (a:α):atI (l++[a]) (-1)=some a:=by
  unfold atI qA
  rw [if_neg (by omega),if_pos (by simp;omega)]
  have e:(-1+(((l++[a]).length:Nat):Int)).toNat=l.length:=by simp;omega
  rw [e]
  simp
theorem fe {α:Type} (l:List α) (a:α):(l++[a])[(l++[a]).length - 1]? =some a:=by simp
theorem gK {α:Type} (l:List α) (a:α):(l++[a]).isEmpty=false:=by cases l <;> rfl
theorem iU:∀{a:List PyData},(∀d∈a,cb d=true)→aS a=true
  | [],_=>rfl
  | x::a,h=>by simp [aS,h x (List.mem_cons_self ..),iU fun d hd=>h d (List.mem_cons_of_mem _ hd)]
theorem ma {α:Type} {f:α→PyData} (h:∀a,cb (f a)=true) (l:List α):aS (l.map f)=true:=iU fun d hd=>by
  obtain ⟨a,_,rfl⟩:=List.mem_map.mp hd
  exact h a
theorem lv (p:Pc):cb (aF p)=true:=rfl
theorem bc (c:List Pc):aS (c.map aF)=true:=ma lv c
theorem lx {α β:Type} (f:α→β) (k:Nat) (l:List α):(List.replicate k (l.map f)).flatten=((List.replicate k l).flatten).map f:=by
  induction k with
  | zero=>rfl
  | succ k ih=>rw [List.replicate_succ,List.replicate_succ,List.flatten_cons,List.flatten_cons,List.map_append,ih]
theorem iV (lo:Int) (n:Nat):ia lo (n+1)= .int lo::ia (lo+1) n:=by
  unfold ia
  rw [List.range_succ_eq_map,List.map_cons,List.map_map]
  simp only [Int.natCast_zero,Int.add_zero]
  congr 1
  refine List.map_congr_left fun k _=>?_
  show PyData.int (lo+((k+1:Nat):Int))=PyData.int (lo+1+(k:Int))
  congr 1
  omega
end PL
namespace L2
open PySem PySem.Spec PyProof.Rows
section
variable {X:Cx} {pins:List (Addr×Obj)} {σ:L2.St} {H:Hp} {s:Shared} {h':Heap}
theorem Inv.turnedL {t':Nat} {fp:List Addr} (I:Inv X pins σ H s) (k:∀b o,b∉fp→s.heap.get? b=some o→h'.get? b=some o) (hf:∀b∈fp,il X pins H b):Inv X pins σ H {s with heap:=h',toks:=t'}:=by
  have nit:∀b u,H b=some u→b∉fp:=fun b u e z=>by rw [(hf b z).1] at e;cases e
  refine I.step (g':=s.gens) (d':=s.drawn) (ch:=fp) (fun b hb=>?_) (fun b o _ _ hc e _=>k b o hc e) (fun b o _ _ hc e _=>⟨o.slots,k b o hc e⟩) (fun _ _ _ _ n=>n)
    (fun b o hc e=>⟨o,k b o hc e⟩) (fun _ _ e=>e) (fun _ _ _ e=>e) (fun _ _ e=>e) (fun m hm=>?_) (fun b u e=>?_) I.bare
  · obtain ⟨f0,f1,f2,f3,f4,f5⟩:=hf b hb
    exact ⟨f3,f1,f4,f5⟩
  · obtain ⟨o,es,ep,ho,r⟩:=hm
    exact ⟨o,es,ep,k _ o (fun z=>(hf _ z).2.1 rfl) ho,r⟩
  · refine (I.hok b u e).stay (fun c v hc q=>k c v ?_ q) (fun _ q=>q) fun _ _ q=>q
    rcases hc with z | z
    · rw [z];exact nit b u e
    · exact nit c _ z
theorem kF {h:Heap} {o o':Obj} {c:Addr} (hc:c≠h.objs.size) (e:(h.push o').get? c=some o):h.get? c=some o:=(Heap.get?_push_cases e).elim (fun z=>absurd z.1 hc) id
theorem nJ {t':Nat} {us:List Value} {vs:List V} (I:Inv X pins σ H s) (r:Vals vs us) (hz:vs.length≤sizeLine):
    Inv X pins σ (upd H s.heap.objs.size (.tup vs)) {s with heap:=s.heap.push {cls:= .type "tuple",data:= .seq us.toArray},toks:=t'}:=
  I.laid (fun b u e=>Heap.get?_push_of_some _ e) (Nat.le_refl _) ⟨hz,us,r,⟨_,Heap.get?_push_size _ rfl,rfl,_,rfl⟩⟩
end
def uH (K:PySem.W.Frag) (a b:Addr) (xs ys:List V):It:=
  ⟨fun i H=>SqL K H a xs∧SqL K H b ys∧i < xs.length∧i < ys.length,fun i H x H'=>∃T u v,H T=none∧xs[i]? =some u∧ys[i]? =some v∧x= .ref T∧H'=upd H T (.tup [u,v]),
   fun i H=>SqL K H a xs∧SqL K H b ys∧i=min xs.length ys.length⟩
theorem nK {P:Program} {w:World} {K:PySem.W.Frag} {elts:List Expr} {k:Nat} {pos:Pos} {z TI TO i1 i2 a b:Addr} (D:ZipApart z TI TO i1 i2 a b) (xs ys:List V):Turn P w K (.Tuple elts k pos) (uH K a b xs ys) [z,TI,TO,i1,i2] z
    (fun i h=>IsZip h z TI TO .none∧IsPair h TI (.ref i1) (.ref i2)∧(∃a b,IsPair h TO a b)∧h.IsListIter i1 a i∧h.IsListIter i2 b i) where
  mem:=by simp
  obj:=fun i h st c hc=>by
    obtain ⟨h1,h2,⟨x,y,h3⟩,⟨o4,h4,_,d4⟩,⟨o5,h5,_,d5⟩⟩:=st
    simp only [List.mem_cons,List.not_mem_nil,or_false] at hc
    rcases hc with rfl | rfl | rfl | rfl | rfl
    · exact ⟨_,h1,fun v z=>by cases z⟩
    · exact ⟨_,h2,fun v z=>by cases z⟩
    · exact ⟨_,h3,fun v z=>by cases z⟩
    · exact ⟨_,h4,fun v z=>by rw [d4] at z;cases z⟩
    · exact ⟨_,h5,fun v z=>by rw [d5] at z;cases z⟩
  keep:=fun i h h' st kk=>by
    obtain ⟨h1,h2,⟨x,y,h3⟩,h4,h5⟩:=st
    exact ⟨kk z (by simp) _ h1,kk TI (by simp) _ h2,⟨x,y,kk TO (by simp) _ h3⟩,h4.at fun o e=>kk i1 (by simp) o e,h5.at fun o e=>kk i2 (by simp) o e⟩
  item:=by
    intro X hP hw hK hc i pins s σ H E I hf st hg
    subst hP hw hK
    obtain ⟨h1,h2,⟨x,y,h3⟩,h4,h5⟩:=st
    obtain ⟨q1,q2,l1,l2⟩:=hg
    obtain ⟨its,rv,p,hz⟩:=I.list q1
    obtain ⟨its2,rv2,p2,hz2⟩:=I.list q2
    obtain ⟨u,hu⟩:∃u,xs[i]? =some u:=⟨xs[i],List.getElem?_eq_getElem l1⟩
    obtain ⟨v,hv⟩:∃v,ys[i]? =some v:=⟨ys[i],List.getElem?_eq_getElem l2⟩
    obtain ⟨u',hu',ru⟩:=rv.get hu
    obtain ⟨v',hv',rv'⟩:=rv2.get hv
    refine wpAny_pyNext_zip_item D h1 h2 h3 h4 h5 p.isList p2.isList (by simpa using hu') (by simpa using hv') fun h' a1 a2 a3 a4 a5 a6 hk=>?_
    have I0:=nJ (t':=s.toks) I (us:=[u',v']) (vs:=[u,v]) (.cons ru (.cons rv' .nil)) (by show 2≤sizeLine;decide)
    have hT:∀c∈[z,TI,TO,i1,i2],c≠s.heap.objs.size:=fun c hc ZE=>by
      have:c < s.heap.objs.size:=by
        simp only [List.mem_cons,List.not_mem_nil,or_false] at hc
        rcases hc with rfl | rfl | rfl | rfl | rfl
        · exact Heap.lt_size h1
        · exact Heap.lt_size h2
        · exact Heap.lt_size h3
        · obtain ⟨o,q,_⟩:=h4;exact Heap.lt_size q
        · obtain ⟨o,q,_⟩:=h5;exact Heap.lt_size q
      rw [ZE] at this;exact Nat.lt_irrefl _ this
    have hf2:∀c∈[z,TI,TO,i1,i2],il X pins (upd H s.heap.objs.size (.tup [u,v])) c:=fun c hc=>by
      obtain ⟨f0,f⟩:=hf c hc
      exact ⟨by rw [az (hT c hc)];exact f0,f⟩
    have I1:=I0.turnedL (h':=h') (t':=s.toks) (fp:=[z,TI,TO,i1,i2]) (fun c o hc e=>by
      simp only [List.mem_cons,List.not_mem_nil,or_false,not_or] at hc
      by_cases ec:c=s.heap.objs.size
      · subst ec
        rw [Heap.get?_push_size _ rfl] at e
        cases e
        exact a5
      · have e':s.heap.get? c=some o:=by
          exact kF ec e
        exact hk c o hc.1 hc.2.2.1 hc.2.2.2.1 hc.2.2.2.2 e') hf2
    refine ⟨_,rfl,wpAny_letOwnedTupleGo_zip (s:={s with heap:=h'}) a1 fun h'' z'' s''=>?_⟩
    have I2:=I1.turnedL (h':=h'') (t':=s.toks) (fp:=[z,TI,TO,i1,i2]) (fun c o hc e=>(s''.2 c fun e'=>hc (by simp [e'])).trans e) hf2
    refine ⟨.ref s.heap.objs.size,_,I2,rfl,⟨_,u,v,I.hok.fresh (Nat.le_refl _),hu,hv,rfl,rfl⟩,⟨z'',?_,⟨_,_,s''.extBut _ _ D.TOz a2⟩,a3.extBut s''.extBut D.i1z,a4.extBut s''.extBut D.i2z⟩,fun c hc=>(hf2 c hc).1⟩
    exact s''.extBut _ _ D.TIz (hk _ _ D.TIz D.TITO D.TIi1 D.TIi2 h2)
  done:=by
    intro X hP hw hK hc i pins s σ H E I hf st hg
    subst hP hw hK
    obtain ⟨h1,h2,⟨x,y,h3⟩,h4,h5⟩:=st
    obtain ⟨q1,q2,hi⟩:=hg
    obtain ⟨its,rv,p,hz⟩:=I.list q1
    obtain ⟨its2,rv2,p2,hz2⟩:=I.list q2
    have n1:=rv.length
    have n2:=rv2.length
    refine wpAny_pyNext_zip_end (I.ok.hd hc) D h1 h2 h3 h4 h5 p.isList p2.isList ?_ fun h' hk=>⟨rfl,I.turnedL (t':=s.toks) (fp:=[z,TI,TO,i1,i2]) (fun c o hc e=>?_) hf⟩
    · rcases Nat.le_total xs.length ys.length with h | h
      · exact .inl (Array.getElem?_eq_none (by rw [List.size_toArray];omega))
      · exact .inr (Array.getElem?_eq_none (by rw [List.size_toArray];omega))
    · simp only [List.mem_cons,List.not_mem_nil,or_false,not_or] at hc
      exact hk c o hc.1 hc.2.2.1 hc.2.2.2.1 hc.2.2.2.2 e
  self:=fun _ _ _ _ _ st h=>wpAny_pyIter_zip st.1 h
def uI (K:PySem.W.Frag) (tl:TA):TI:=fun σ H R=>tl σ H fun vs H1=>∃a b xs ys,vs=[.ref a, .ref b]∧SqL K H1 a xs∧SqL K H1 b ys∧R (uH K a b xs ys) H1
section
variable {X:Cx} {elts:List Expr} {kt:Nat} {pt:Pos}
theorem qZ {l l2:Expr} {tl:TA} {p pos:Pos} (hg:Gl X "zip") (hm:X.mg "zip"=none) (ha:PA X [l,l2] tl) (hs:starEach [l,l2] X.env=(false,eval l X.env)::starEach [l2] X.env:=by rfl) (hs2:starEach [l2] X.env=[(false,eval l2 X.env)]:=by rfl):PI X (.Tuple elts kt pt) (.Call (.Name "zip" p) [l,l2] [] pos) (uI X.K tl):=by
  intro pins s σ H R I h
  refine Call_ (gi I hg hm boot_zip (PyProof.Rows.callWith_type1 (b5 (ha pos pins s σ H _ I h) fun us s1 ⟨vs,H1,I1,r1,q1⟩=>?_) hs (by rw [hs2];rfl)))
  obtain ⟨a,b,xs,ys,e,hq,hq2,q⟩:=q1
  subst e
  obtain ⟨u,v,rfl,ru,rv⟩:=r1.two
  cases ru;cases rv
  obtain ⟨its,rva,p1,hz⟩:=I1.list hq
  obtain ⟨its2,rvb,p2,hz2⟩:=I1.list hq2
  have la:a < s1.heap.objs.size:=by obtain ⟨_,e,_⟩:=p1.isList;exact Heap.lt_size e
  have lb:b < s1.heap.objs.size:=by obtain ⟨_,e,_⟩:=p2.isList;exact Heap.lt_size e
  refine call_zip_2 p1.isList p2.isList fun h' z1 z2 z3 z4 z5 z6 hk=>?_
  have I2:Inv X pins σ H1 {s1 with heap:=h'}:=I1.kept (t':=s1.toks) hk
  refine wpAny_pyIter_zip (s:={s1 with heap:=h'}) z1 ⟨_,[_,_,_,_,_],_,_,H1,rfl,I2,nK (zipApart_new la lb) xs ys,⟨z1,z2,⟨_,_,z3⟩,z4,z5⟩,fun c hc=>?_,q⟩
  have le:s1.heap.objs.size≤c:=by
    simp only [List.mem_cons,List.not_mem_nil,or_false] at hc
    rcases hc with rfl | rfl | rfl | rfl | rfl
    · exact Nat.le_add_right _ 4
    · exact Nat.le_add_right _ 2
    · exact Nat.le_add_right _ 3
    · exact Nat.le_refl _
    · exact Nat.le_add_right _ 1
  exact I1.fpOk le (I1.hok.fresh le)
end
def tV (x:Str):It:=⟨fun i _=>i < x.cps.toList.length,fun i H v H'=>H'=H∧∃c,x.cps.toList[i]? =some c∧v= .str ⟨#[c]⟩,fun i _=>i=x.cps.toList.length⟩
theorem nM {P:Program} {w:World} {K:PySem.W.Frag} {tg:Expr} {it:Addr} {T:String} {x:Str} {t:Tok} (hT:T="str_ascii_iterator"∨T="str_iterator"):Turn P w K tg (tV x) [it] it (fun i h=>h.IsStrIter it T x t i) where
  mem:=by simp
  obj:=fun i h st b hb=>by
    have e:b=it:=by simpa using hb
    subst e
    obtain ⟨o,e,c,d⟩:=st
    exact ⟨o,e,fun v z=>by rw [d] at z;cases z⟩
  keep:=fun i h h' st k=>let ⟨o,ho,r⟩:=st;⟨o,k it (by simp) o ho,r⟩
  item:=by
    intro X hP hw hK hc i pins s σ H E I hf st hg
    subst hP hw hK
    obtain ⟨f0,f1,f2,f3,f4,f5⟩:=hf it (by simp)
    have hi:i < x.cps.toList.length:=hg
    have hx:x.cps[i]? =some (x.cps.toList[i]'hi):=by simp at hi;simp [hi]
    have fin:∀(h':Heap),h'.IsStrIter it T x t (i+1)→Heap.SameBut it s.heap h'→∃u,some (Value.str ⟨#[x.cps.toList[i]'hi]⟩ s.toks)=some u∧
        wpAny (model X.prog X.w) X.A (letOwnedTupleGo tg (.ref it) u) (fun _ s2=>∃v H',Inv X pins σ H' s2∧RelV v u∧(tV x).yld i H v H'∧s2.heap.IsStrIter it T x t (i+1)∧∀b∈[it],H' b=none) E {s with heap:=h',toks:=s.toks+1}:=fun h' st' sb=>by
      have I1:Inv X pins σ H {s with heap:=h',toks:=s.toks+1}:=I.turned (t':=s.toks+1) (fun b o hb e=>(sb.2 b hb).trans e) f0 f1 f3 f4 f5
      obtain ⟨o,e,c,d⟩:=id st'
      exact ⟨_,rfl,jz (s:={s with heap:=h',toks:=s.toks+1}) e c d (by rcases hT with rfl | rfl <;> decide) ⟨.str ⟨#[x.cps.toList[i]'hi]⟩,H,I1,⟨_,rfl⟩,⟨rfl,_,List.getElem?_eq_getElem hi,rfl⟩,st',fun b hb=>(hf b hb).1⟩⟩
    rcases hT with rfl | rfl
    · exact wpAny_pyNext_ascii_item st hx fun h' st' sb=>fin h' st' sb
    · exact wpAny_pyNext_wide_item st hx fun h' st' sb=>fin h' st' sb
  done:=by
    intro X hP hw hK hc i pins s σ H E I hf st hg
    subst hP hw hK
    obtain ⟨f0,f1,f2,f3,f4,f5⟩:=hf it (by simp)
    have hi:i=x.cps.toList.length:=hg
    have hx:x.cps[i]? =none:=by simp at hi;simp [hi]
    rcases hT with rfl | rfl
    · exact wpAny_pyNext_ascii_end (I.ok.hd hc) st hx fun h' eb=>⟨rfl,I.turned (t':=s.toks) (fun b o hb e=>eb b o hb e) f0 f1 f3 f4 f5⟩
    · exact wpAny_pyNext_wide_end (I.ok.hd hc) st hx fun h' eb=>⟨rfl,I.turned (t':=s.toks) (fun b o hb e=>eb b o hb e) f0 f1 f3 f4 f5⟩
  self:=fun _ _ _ _ _ st h=>by
    rcases hT with rfl | rfl
    · exact wpAny_pyIter_striter_ascii st h
    · exact wpAny_pyIter_striter_wide st h
def uJ (tl:TE):TI:=fun σ H R=>tl σ H fun v H1=>∃x,v= .str x∧R (tV x) H1
theorem q9 {X:Cx} {tg l:Expr} {tl:TE} (hl:PE X l tl):PI X tg l (uJ tl):=by
  intro pins s σ H R I h
  refine b5 (hl pins s σ H _ I h) fun v s1 ⟨y,H1,I1,r1,q1⟩=>?_
  obtain ⟨x,e,q⟩:=q1
  subst e
  obtain ⟨t,rfl⟩:=r1
  refine wpAny_pyIter_strU ?_
  refine ⟨s1.heap.objs.size,[s1.heap.objs.size],fun i h=>h.IsStrIter s1.heap.objs.size (strIterType x) x t i,_,H1,rfl,I1.kept (t':=s1.toks) fun b o e=>Heap.get?_push_of_some _ e,nM (t:=t) ?_,⟨_,Heap.get?_push_size _ rfl,rfl,rfl⟩,fun b hb=>?_,q⟩
  · unfold strIterType
    split
    · exact .inl rfl
    · exact .inr rfl
  · have e:b=s1.heap.objs.size:=by simpa using hb
    subst e
    exact I1.fpOk (Nat.le_refl _) (I1.hok.fresh (Nat.le_refl _))
theorem PI.or {X:Cx} {tg l:Expr} {a b:TI} (h1:PI X tg l a) (h2:PI X tg l b):PI X tg l (fun σ H R=>a σ H R∨b σ H R):=by
  intro pins s σ H R I h
  rcases h with h | h
  · exact h1 pins s σ H R I h
  · exact h2 pins s σ H R I h
end L2
namespace PL
open PySem L2 Nh
def fT:List PyData→List PyData→List PyData
  | a::as,b::bs=> .tuple [a,b]::fT as bs
  | _,_=>[]
def nN (f g:b7):io:=fun E=>(f E).bind fun a=>(frz a.2 a.1).bind fun b=>(g b.2).bind fun c=>(frz c.2 c.1).bind fun d=>match b.1,d.1 with
  | .list xs, .list ys=>some (fT xs ys,d.2)
  | _,_=>none
def jk (x:Str):List PyData:=x.cps.toList.map fun c=> .str ⟨#[c]⟩
def eN (f:b7):io:=fun E=>(f E).bind fun a=>(frz a.2 a.1).bind fun b=>match b.1 with
  | .list ds=>some (ds,b.2)
  | .tuple ds=>some (ds,b.2)
  | .str x=>some (jk x,b.2)
  | _=>none
section
variable {X:Cx} {K:PySem.W.Frag} {B:Hp}
theorem jP:∀{as bs:List PyData} {i:Nat} {d:PyData},(fT as bs)[i]? =some d→∃a b,as[i]? =some a∧bs[i]? =some b∧d= .tuple [a,b]
  | a::as,b::bs,0,d,e=>by simp [fT] at e;exact ⟨a,b,rfl,rfl,e.symm⟩
  | a::as,b::bs,i+1,d,e=>by
    obtain ⟨x,y,h1,h2,h3⟩:=jP (as:=as) (bs:=bs) (i:=i) (by simpa [fT] using e)
    exact ⟨x,y,by simpa using h1,by simpa using h2,h3⟩
  | [],_,_,_,e=>by simp [fT] at e
  | _::_,[],_,_,e=>by simp [fT] at e
theorem jQ:∀(as bs:List PyData),(fT as bs).length=min as.length bs.length
  | a::as,b::bs=>by simp [fT,jQ as bs]
  | [],_=>by simp [fT]
  | _::_,[]=>by simp [fT]
theorem nO {a b:Addr} {vs us:List V} {ds es:List PyData} (h:SqL K B a vs) (r:RpA K B vs ds) (h2:SqL K B b us) (r2:RpA K B us es):jN K B (uH K a b vs us) (fT ds es):=fun {B' F A σ H E xs Xs} i sB fr=>by
  have hH:=fr.fh.seq (fr.bf.seq (sB.seq h))
  have hH2:=fr.fh.seq (fr.bf.seq (sB.seq h2))
  refine ⟨fun d ed=>?_,fun e=>⟨hH,hH2,by rw [e,jQ,r.len,r2.len]⟩⟩
  obtain ⟨x,y,ex,ey,rfl⟩:=jP ed
  obtain ⟨v,ev,rv⟩:=r.get ex
  obtain ⟨u,eu,ru⟩:=r2.get ey
  refine ⟨⟨hH,hH2,(List.getElem?_eq_some_iff.mp ev).1,(List.getElem?_eq_some_iff.mp eu).1⟩,fun z H2 ⟨T,v',u',hT,e1,e2,e3,e4⟩=>?_⟩
  rw [ev] at e1;cases e1
  rw [eu] at e2;cases e2
  subst e3 e4
  have s1:=sB.trans fr.bf
  exact ⟨_,_,fr.newt (.cons (rv.same s1) (.cons (ru.same s1) .nil)) hT⟩
theorem nP {x:Str}:jN K B (tV x) (jk x):=fun {B' F A σ H E xs Xs} i sB fr=>by
  refine ⟨fun d ed=>?_,fun e=>by show i=x.cps.toList.length;rw [e];simp [jk]⟩
  unfold jk at ed
  rw [List.getElem?_map] at ed
  obtain ⟨c,ec,rfl⟩:=Option.map_eq_some_iff.mp ed
  refine ⟨(List.getElem?_eq_some_iff.mp ec).1,fun z H2 ⟨e1,c',e2,e3⟩=>?_⟩
  rw [ec] at e2;cases e2
  subst e1 e3
  exact ⟨F,A,fr.push ⟨rfl,_,rfl, .str _⟩⟩
theorem nQ {a:Addr} {vs:List V} {ds:List PyData} (h:SqT K B a vs) (r:RpA K B vs ds):jN K B (ud K a) ds:=fun {B' F A σ H E xs Xs} i sB fr=>by
  have hH:=fr.fh.tup (fr.bf.tup (sB.tup h))
  refine ⟨fun d ed=>?_,fun e=>⟨vs,hH,by rw [e,r.len];exact Nat.le_refl _⟩⟩
  obtain ⟨v,ev,rv⟩:=r.get ed
  refine ⟨⟨vs,v,hH,ev⟩,fun x H2 ⟨e2,y⟩=>?_⟩
  subst e2
  have:=y vs hH
  rw [ev] at this
  cases this
  exact ⟨F,A,fr.push ⟨rfl,_,rfl,rv.same (sB.trans fr.bf)⟩⟩
theorem gr {tg e:Expr} {m:Bool} {f:b7} (he:EX X e m f):IX X tg e m (eN f):=jj (PI.or (oK he) (PI.or (qk he) (q9 he))) fun σ H R z=>by
  obtain ⟨B,E,xs,Xs,ds,E',fr,cl,e,q⟩:=z
  obtain ⟨⟨s,E1⟩,e1,e⟩:=Option.bind_eq_some_iff.mp e
  obtain ⟨⟨d,E2⟩,e2,e⟩:=Option.bind_eq_some_iff.mp e
  have key:∀(v:V) (H1:Hp),Frm X.K B σ H1 E1 (v::xs) (s::Xs)→∃F2 A2 A3,Rp X.K F2 v d∧Same B F2∧FrF X.K F2 F2 A3 σ H1 E2 xs Xs∧FrF X.K B F2 A2 σ H1 E2 (v::xs) (.sh d::Xs):=fun v H1 ⟨F,A,fr1⟩=>by
    obtain ⟨F2,A2,fr2⟩:=fr1.frz0 e2
    obtain ⟨v',A1,ev,rfl,w,ew,r⟩:=fr2.ext (k:=0) rfl
    cases ev;cases ew
    obtain ⟨A3,fr3⟩:=fr2.pop
    exact ⟨F2,A2,A3,r,fr2.bf,fr3.raise,fr2⟩
  simp only at e
  split at e
  · cases e
    refine .inl ⟨B,E,xs,Xs,s,E1,fr,cl,e1,fun v H1 fr1=>?_⟩
    obtain ⟨F2,A2,A3,r,sb,fr3,fr2⟩:=key v H1 fr1
    cases r with
    | lst h1 h2=>exact ⟨_,rfl,⟨_,fr2.fh.seq h1⟩,q F2 _ _ sb ⟨F2,A3,fr3⟩ (lZ h1 h2)⟩
  · cases e
    refine .inr (.inl ⟨B,E,xs,Xs,s,E1,fr,cl,e1,fun v H1 fr1=>?_⟩)
    obtain ⟨F2,A2,A3,r,sb,fr3,fr2⟩:=key v H1 fr1
    cases r with
    | tup h1 h2=>exact ⟨_,rfl,⟨_,fr2.fh.tup h1⟩,q F2 _ _ sb ⟨F2,A3,fr3⟩ (nQ h1 h2)⟩
  · cases e
    refine .inr (.inr ⟨B,E,xs,Xs,s,E1,fr,cl,e1,fun v H1 fr1=>?_⟩)
    obtain ⟨F2,A2,A3,r,sb,fr3,fr2⟩:=key v H1 fr1
    cases r
    exact ⟨_,rfl,q F2 _ _ sb ⟨F2,A3,fr3⟩ nP⟩
  · cases e
theorem q_ {elts:List Expr} {kt:Nat} {pt p pos:Pos} {e e2:Expr} {m m2:Bool} {f g:b7} (hg:Gl X "zip") (hm:X.mg "zip"=none) (he:EX X e m f) (he2:EX X e2 m2 g) (hs:starEach [e,e2] X.env=(false,eval e X.env)::starEach [e2] X.env:=by rfl) (hs2:starEach [e2] X.env=[(false,eval e2 X.env)]:=by rfl):IX X (.Tuple elts kt pt) (.Call (.Name "zip" p) [e,e2] [] pos) (m||m2) (nN f g):=jj (qZ hg hm (b6 he (b6 he2 d0 hs2) hs) hs hs2) fun σ H R z=>by
  obtain ⟨B,E,xs,Xs,ds,E',fr,cl,e,q⟩:=z
  obtain ⟨⟨s,E1⟩,e1,e⟩:=Option.bind_eq_some_iff.mp e
  obtain ⟨⟨d,E2⟩,e2,e⟩:=Option.bind_eq_some_iff.mp e
  obtain ⟨⟨s3,E3⟩,e3,e⟩:=Option.bind_eq_some_iff.mp e
  obtain ⟨⟨d4,E4⟩,e4,e⟩:=Option.bind_eq_some_iff.mp e
  refine ⟨B,E,xs,Xs,s,E1,fr,fun z=>cl (by simp [z]),e1,fun v H1 ⟨F,A,fr1⟩=>?_⟩
  obtain ⟨F2,A2,fr2⟩:=fr1.frz0 e2
  refine ⟨B,E2,v::xs, .sh d::Xs,s3,E3,⟨F2,A2,fr2⟩,fun z=>Calm.cons (cl (by simp [z])) rfl,e3,fun v3 H3 ⟨F3,A3,fr3⟩=>?_⟩
  obtain ⟨F4,A4,fr4⟩:=fr3.frz0 e4
  simp only at e
  split at e
  · cases e
    obtain ⟨v',A1,ev,rfl,w,ew,r⟩:=fr4.ext (k:=0) rfl
    cases ev;cases ew
    obtain ⟨v',A1,ev,rfl,w,ew,r2⟩:=fr4.ext (k:=1) rfl
    cases ev;cases ew
    cases r with
    | lst h1 h2=>
      cases r2 with
      | lst h3 h4=>
        obtain ⟨A5,fr5⟩:=fr4.pop
        obtain ⟨A6,fr6⟩:=fr5.pop
        exact ⟨_,_,_,_,rfl,fr4.fh.seq h3,fr4.fh.seq h1,q F4 _ _ fr4.bf ⟨F4,A6,fr6.raise⟩ (nO h3 h4 h1 h2)⟩
  · cases e
end
end PL
namespace PL
open PySem L2 Nh
inductive Cm where
  | lt | le | gt | ge
def Cm.op:Cm→CmpOp
  | .lt=> .Lt
  | .le=> .LtE
  | .gt=> .Gt
  | .ge=> .GtE
def Cm.i:Cm→Int→Int→Bool
  | .lt,i,j=>decide (i < j)
  | .le,i,j=>decide (i≤j)
  | .gt,i,j=>decide (j < i)
  | .ge,i,j=>decide (j≤i)
def Cm.s:Cm→List Nat→List Nat→Bool
  | .lt,i,j=>decide (i < j)
  | .le,i,j=> !decide (j < i)
  | .gt,i,j=>decide (j < i)
  | .ge,i,j=> !decide (i < j)
def bO (c:Cm):PyData→PyData→Option PyData
  | .int i, .int j=>some (.bool (c.i i j))
  | .str x, .str y=>some (.bool (c.s x.cps.toList y.cps.toList))
  | _,_=>none
def u5 (c:Cm):R2:=fun x y H Q=>(∃i j,x= .int i∧y= .int j∧Q (.bl (c.i i j)) H)∨(∃i j,x= .str i∧y= .str j∧Q (.bl (c.s i.cps.toList j.cps.toList)) H)
section
variable {X:Cx} {a b c:Expr} {m1 m2 m3:Bool} {f g h:b7} {pos:Pos} {K:PySem.W.Frag}
theorem nR (c:Cm):OpR X (compareOp c.op) (u5 c):=by
  cases c with
  | lt=>exact OpR.or sC lO
  | le=>exact OpR.or sD (fun pins s σ H x y v u Q I rx ry h=>by
      obtain ⟨i,j,rfl,rfl,q⟩:=h
      obtain ⟨t,rfl⟩:=rx
      obtain ⟨t',rfl⟩:=ry
      exact PySem.P.le_str (aL I q rfl))
  | gt=>exact OpR.or sE (fun pins s σ H x y v u Q I rx ry h=>by
      obtain ⟨i,j,rfl,rfl,q⟩:=h
      obtain ⟨t,rfl⟩:=rx
      obtain ⟨t',rfl⟩:=ry
      exact PySem.P.gt_str (aL I q rfl))
  | ge=>exact OpR.or sG (fun pins s σ H x y v u Q I rx ry h=>by
      obtain ⟨i,j,rfl,rfl,q⟩:=h
      obtain ⟨t,rfl⟩:=rx
      obtain ⟨t',rfl⟩:=ry
      exact PySem.P.ge_str (aL I q rfl))
theorem nS (c:Cm):nr K (u5 c) (bO c):=fun d1 d2 d v1 v2 H Q e r1 r2=>by
  unfold bO at e
  split at e
  · cases e;cases r1;cases r2
    exact ⟨_,rfl,fun q=> .inl ⟨_,_,rfl,rfl,q⟩⟩
  · cases e;cases r1;cases r2
    exact ⟨_,rfl,fun q=> .inr ⟨_,_,rfl,rfl,q⟩⟩
  · cases e
theorem md (c:Cm) (b:Expr):behindInMarks c.op b=false:=by cases c <;> exact kj _
theorem fU (c:Cm) (ha:EX X a m1 f) (hb:EX X b m2 g):TX X (.Compare a [c.op] [b] pos) (m1||m2) (cu (ag (cm (bO c)) m2 f g)):=kz (nR c) (hV (nS c)) ha hb (md c b)
theorem s0 (c1 c2:Cm) (ha:EX X a m1 f) (hb:EX X b m2 g) (hc:EX X c m3 h) (hm:lastMarks [c1.op,c2.op] [b,c]=false:=by with_unfolding_all rfl):TX X (.Compare a [c1.op,c2.op] [b,c] pos) (m1||(m2||m3)) (cu (fD (bO c1) (bO c2) m2 m3 f g h)):=nw (nR c1) (nR c2) (nS c1) (nS c2) ha hb hc hm
def isInt:PyData→Option Int
  | .int x=>some x
  | _=>none
end
theorem nT {X:Cx} {st:Stmt}:SX X st (fun _=>none):=gm mD fun D σ H z=>by
  obtain ⟨B,E,xs,Xs,E',fl,fr,cl,e,q⟩:=z
  cases e
def re:cc:=fun _=>none
end PL
namespace PL
open PySem L2 Nh
theorem rf {X:Cx}:SlR X (fun x lo hi H Q=>∃z,x= .str z∧z.length≤sizeLine∧Q (.str (Txt.slice z lo hi)) H):=by
  intro pins s σ H x v vl vu lo hi sl Q I rx hs pl pu h
  obtain ⟨z,rfl,hz,q⟩:=h
  obtain ⟨t,rfl⟩:=rx
  cases pl with
  | none=>
    cases pu with
    | none=>exact ⟨"str",_,PySem.F.slot_str_getitem.lookup,typeIs_str _ _ _,wpAny_getItem_str_slice (l:=none) (u:=none) (st:=none) hs rfl (post_val_or_str ⟨Nat.le_trans (Txt.slice_le z _ _) hz,fun t' k=>⟨.str _,H,I.tok _,⟨_,rfl⟩,q⟩⟩)⟩
    | int j uj=>exact ⟨"str",_,PySem.F.slot_str_getitem.lookup,typeIs_str _ _ _,wpAny_getItem_str_slice (l:=none) (u:=some (j,uj)) (st:=none) hs rfl (post_val_or_str ⟨Nat.le_trans (Txt.slice_le z _ _) hz,fun t' k=>⟨.str _,H,I.tok _,⟨_,rfl⟩,q⟩⟩)⟩
  | int i ui=>
    cases pu with
    | none=>exact ⟨"str",_,PySem.F.slot_str_getitem.lookup,typeIs_str _ _ _,wpAny_getItem_str_slice (l:=some (i,ui)) (u:=none) (st:=none) hs rfl (post_val_or_str ⟨Nat.le_trans (Txt.slice_le z _ _) hz,fun t' k=>⟨.str _,H,I.tok _,⟨_,rfl⟩,q⟩⟩)⟩
    | int j uj=>exact ⟨"str",_,PySem.F.slot_str_getitem.lookup,typeIs_str _ _ _,wpAny_getItem_str_slice (l:=some (i,ui)) (u:=some (j,uj)) (st:=none) hs rfl (post_val_or_str ⟨Nat.le_trans (Txt.slice_le z _ _) hz,fun t' k=>⟨.str _,H,I.tok _,⟨_,rfl⟩,q⟩⟩)⟩
def rh (m2:Bool) (f:b7) (lo hi:rS):b7:=fun E=>(f E).bind fun a=>if m2&&a.1.isBr then none else (lo a.2).bind fun b=>(hi b.2).bind fun c=>match look c.2 a.1 with
  | some (.list ds)=>if !ck c.2 a.1||aS (pe ds b.1 c.1) then some (.ow (pe ds b.1 c.1),c.2) else none
  | some (.str z)=>if z.length≤1000000 then some (.sh (.str (Txt.slice z b.1 c.1)),c.2) else none
  | _=>none
theorem rj {X:Cx} {e:Expr} {lo hi:Option Expr} {m1 m2 m3:Bool} {f:b7} {g h:rS} {pos p2:Pos} (he:EX X e m1 f) (hl:OX X lo m2 g) (hh:OX X hi m3 h):EX X (.Subscript e (.Slice lo hi none p2) pos) (m1||(m2||m3)) (rh (m2||m3) f g h):=by
  refine bp (mR (SlR.or oS rf) he hl hh) fun σ H Q z=>?_
  obtain ⟨B,E,xs,Xs,res,E',fr,cl,e,q⟩:=z
  obtain ⟨⟨s,E1⟩,e1,e⟩:=Option.bind_eq_some_iff.mp e
  by_cases hb:((m2||m3)&&s.isBr)=true
  · rw [if_pos hb] at e;cases e
  rw [if_neg hb] at e
  have n1:(m2||m3)=true→s.isBr=false:=fun z=>by
    cases hs:s.isBr with
    | false=>rfl
    | true=>exact absurd (by rw [z,hs];rfl) hb
  obtain ⟨⟨l,E2⟩,e2,e⟩:=Option.bind_eq_some_iff.mp e
  obtain ⟨⟨u,E3⟩,e3,e⟩:=Option.bind_eq_some_iff.mp e
  refine ⟨B,E,xs,Xs,s,E1,fr,fun z=>cl (by simp [z]),e1,fun v1 H1 fr1=>?_⟩
  refine ⟨B,E1,v1::xs,s::Xs,l,E2,fr1,fun z=>Calm.cons (cl (by simp [z])) (n1 (by simp [z])),e2,fun H2 fr2=>?_⟩
  refine ⟨B,E2,v1::xs,s::Xs,u,E3,fr2,fun z=>Calm.cons (cl (by simp [z])) (n1 (by simp [z])),e3,fun H3 ⟨F,A,fr3⟩=>?_⟩
  simp only at e
  split at e
  · rename_i ds ld
    split at e
    · rename_i hc
      cases e
      obtain ⟨v,ev,r,f0⟩:=fr3.look (k:=0) rfl ld
      cases ev
      obtain ⟨A',fr4⟩:=fr3.pop
      cases hh:ck E' s with
      | false=>
        obtain ⟨a,vs,rfl,h1,h2⟩:=f0 hh
        exact .inl ⟨a,vs,rfl,h1,fun p hp=>q _ _ ⟨F,_,fr4.newl (h2.cut l u) hp⟩⟩
      | true=>
        rw [hh] at hc
        cases r with
        | lst h1 h2=>exact .inl ⟨_,_,rfl,h1,fun p hp=>q _ _ ⟨F,_,fr4.newl (fr3.coldA (h2.cut l u) (by simpa using hc)) hp⟩⟩
    · cases e
  · rename_i z ld
    split at e
    · rename_i hc
      cases e
      have r:=(fr3.look0 ld).1
      cases r
      obtain ⟨A',fr4⟩:=fr3.pop
      exact .inr ⟨_,rfl,d7 hc,q _ _ ⟨F,A',fr4.push ⟨rfl,_,rfl, .str _⟩⟩⟩
    · cases e
  · cases e
def rk (K:PySem.W.Frag) (c:List PyData→List PyData→Option (Sl×List PyData)):Sp:=fun vs H Q _=>∃l us ds0 be ds r ds',vs= .ref l::be∧H l=some (.lst us)∧RpA K (tups H) us ds0∧RpA K H be ds∧c ds0 ds=some (r,ds')∧
  ∀v H' us',SameBut l H H'→H' l=some (.lst us')→RpA K (tups H') us' ds'→iQ K H H' v r→Q v H'
def dg (i:Nat) (c:List PyData→List PyData→Option (Sl×List PyData)) (g:jc):b7:=fun E=>match E[i]? with
  | some (.ow _)=>(g E).bind fun a=>match a.2[i]? with
    | some (.ow ds0)=>if aS ds0 then (aG a.2 a.1).bind fun ds=>(c ds0 ds).map fun r=>(r.1,a.2.set i (.ow r.2)) else none
    | _=>none
  | _=>none
section
variable {K:PySem.W.Frag} {B F:Hp} {A:List Addr} {σ:gn} {H H':Hp} {E:List Sl} {xs:List V} {Xs:List Sl}
theorem FrF.mutGrow {i:Nat} {ds ds':List PyData} {l:Addr} {us us':List V} (h:FrF K B F A σ H E xs Xs) (e:E[i]? =some (.ow ds)) (c:Calm Xs) (el:σ[i]? =some (some (.ref l))) (hl:H l=some (.lst us)) (sb:SameBut l H H') (hl':H' l=some (.lst us')) (r:RpA K (tups H') us' ds'):
    ∃F',FrF K B F' A σ H' (E.set i (.ow ds')) xs Xs:=by
  have g:Same H (upd H' l (.lst us)):=fun b o q=>by
    by_cases eb:b=l
    · subst eb;rw [bi,←hl];exact q
    · rw [az eb];exact sb b o eb q
  have h1:=h.grow g
  obtain ⟨l1,us1,el1,hl1,r1,put⟩:=h1.mut e c
  rw [el] at el1
  cases el1
  have r2:RpA K _ us' ds':=RpA.same h1.tf (by rw [hG hl'];exact r)
  have h2:=put us' ds' r2
  have eH:upd (upd H' l (.lst us)) l (.lst us')=H':=by
    rw [oB]
    funext b
    by_cases eb:b=l
    · subst eb;rw [bi,hl']
    · rw [az eb]
  rw [eH] at h2
  exact ⟨_,h2⟩
end
theorem FrF.toldIO {K:PySem.W.Frag} {B F:Hp} {A:List Addr} {σ:gn} {H H':Hp} {E:List Sl} {xs:List V} {Xs:List Sl} {v:V} {d:PyData} (h:FrF K B F A σ H' E xs Xs) (q:iQ K H H' v (.sh d)):Frm K B σ H' E (v::xs) (.sh d::Xs):=⟨F,A,h.push ⟨rfl,v,rfl,Rp.same h.tf q⟩⟩
theorem nU {X:Cx} (i:Nat) {k:Nat} {x y:Str} {ps:List Str} {c:List PyData→List PyData→Option (Sl×List PyData)} {p p2 pos:Pos} {es:List Expr} {m:Bool} {g:jc} (D:Own X.prog X.w X.K X.mg X.base k x ps (rk X.K c)) (hc:∀ds0 ds r,c ds0 ds=some r→∃d,r.1= .sh d) (hr:Room k X.A) (hg:Gl X x) (ha:AX X es m g)
    (hN:X.N[i]? =some y:=by rfl) (hv:p8 X.env.scope y:=by first | exact Or.inl rfl | exact Or.inr (Or.inl rfl) | exact Or.inr (Or.inr rfl)) (hd:(y == ("__debug__":Str))=false:=by decide) (hcd:(y == ("__classdict__":Str))=false:=by decide)
    (hdb:(x == ("__debug__":Str))=false:=by decide) (he:starEach (.Name y p2::es) X.env=(false,eval (.Name y p2) X.env)::starEach es X.env:=by rfl) (hpl:(backTo pos (starEach es X.env)).any (·.1)=false:=by rfl):
    EX X (.Call (.Name x p) (.Name y p2::es) [] pos) true (dg i c g):=by
  refine bp (m9 D hr hg (b6 (gS hN hv hd hcd) ha he) hdb he hpl) fun σ H Q z=>?_
  obtain ⟨B,E,xs,Xs,res,E',⟨F,A,fr⟩,cl,e,q⟩:=z
  unfold dg at e
  split at e
  · rename_i ds0 ei
    obtain ⟨⟨rs,E1⟩,e1,e⟩:=Option.bind_eq_some_iff.mp e
    simp only at e
    split at e
    · rename_i ds1 ei1
      split at e
      · rename_i hf
        obtain ⟨ds,e2,e⟩:=Option.bind_eq_some_iff.mp e
        obtain ⟨⟨r,ds'⟩,e3,e⟩:=Option.map_eq_some_iff.mp e
        obtain ⟨d,ed⟩:=hc _ _ _ e3
        simp only at ed
        subst ed
        cases e
        obtain ⟨o,A1,eo,l,vs,rfl,rfl,hl0,_⟩:=fr.var ei
        refine ⟨_,eo,B,E,xs,Xs,rs,E1,⟨F,A,fr⟩,fun _=>cl rfl,e1,fun us H1 hl ⟨F1,A1,fr1⟩=>?_⟩
        obtain ⟨r1,A',fr2⟩:=fr1.looks hl e2
        obtain ⟨l',vs',eo',hl',r',_⟩:=fr2.mut ei1 (cl rfl)
        rw [eo] at eo'
        cases eo'
        refine ⟨l,vs',ds1,us,ds, .sh d,ds',by rw [List.append_nil],hl',(r'.same fr2.fh).cold hf,r1,e3,fun v H' us' sb h1 h2 h3=>?_⟩
        obtain ⟨F',fr3⟩:=fr2.mutGrow ei1 (cl rfl) eo hl' sb h1 h2
        exact q _ _ (fr3.toldIO h3)
      · cases e
    · cases e
  · cases e
def jR (scope:Scope) (env:Env):List (Str×Addr):=((scope.names.filter fun p=>p.2 == .free).map fun p=>(p.1,(env.cells.lookup p.1).getD 0)).reverse
theorem jS {X:Cx} {scope:Scope} {N:List Str} {js:List (Option Nat)} (clos:closureFor scope X.env=pure (jR scope X.env):=by rfl) (nocell:∀y∈scope.names,y.2≠ .cell:=by decide+kernel) (kind:scope.kind= .function:=by rfl)
    (names:∀y∈scope.names,y.2= .local→scope.names.lookup y.1=some .local:=by decide+kernel) (same:(scope.names.filter fun p=>p.2 == .free).all (fun p=>(X.env.cells.lookup p.1).isSome)=true:=by rfl)
    (has:(relabel scope X.env).names.all (fun y=> !(y.2 == .cell||y.2 == .free)||((jR scope X.env).lookup y.1).isSome)=true:=by rfl) (len:js.length=N.length:=by rfl)
    (fr:(js.zip N).all (fun p=>match p.1 with | none=>true | some j=>X.N[j]? == some p.2&&((relabel scope X.env).names.lookup p.2 == some .cell||(relabel scope X.env).names.lookup p.2 == some .free)&&(X.env.kindOf p.2 == some .cell||X.env.kindOf p.2 == some .free))=true:=by rfl):
    CompOk X scope (relabel scope X.env) (jR scope X.env) N js where
  clos:=clos
  rel:=rfl
  nocell:=nocell
  kind:=kind
  names:=names
  same:=fun x c e=>by
    have hm:=PySem.mem_of_lookup e
    unfold jR at hm
    obtain ⟨p,hp,ep⟩:=List.mem_map.mp (List.mem_reverse.mp hm)
    have:=List.all_eq_true.mp same _ hp
    obtain ⟨c',ec⟩:=Option.isSome_iff_exists.mp this
    injection ep with e1 e2
    subst e1
    rw [ec] at e2 ⊢
    exact congrArg some e2
  has:=fun x h=>by
    have key:∀k,(relabel scope X.env).names.lookup x=some k→(k == NameKind.cell||k == NameKind.free)=true→∃c,(jR scope X.env).lookup x=some c:=fun k h hk=>by
      have:=List.all_eq_true.mp has _ (PySem.mem_of_lookup h)
      simp only [hk,Bool.not_true,Bool.false_or] at this
      exact Option.isSome_iff_exists.mp this
    rcases h with h | h
    · exact key _ h rfl
    · exact key _ h rfl
  len:=len
  from_:=fun i j h=>by
    have hi:i < js.length:=(List.getElem?_eq_some_iff.mp h).1
    obtain ⟨x,ex⟩:∃x,N[i]? =some x:=⟨N[i]'(by omega),List.getElem?_eq_getElem (by omega)⟩
    have hz:(js.zip N)[i]? =some (some j,x):=by rw [List.getElem?_zip_eq_some];exact ⟨h,ex⟩
    have:=List.all_eq_true.mp fr _ (List.mem_of_getElem? hz)
    simp only [Bool.and_eq_true,Bool.or_eq_true,beq_iff_eq] at this
    exact ⟨x,ex,this.1.1,this.1.2,this.2⟩
structure Bn (mg:Str→Option Value):Prop where
  len:mg "len"=none
  range:mg "range"=none
  abs:mg "abs"=none
  min:mg "min"=none
  max:mg "max"=none
  reversed:mg "reversed"=none
  enumerate:mg "enumerate"=none
  isinstance:mg "isinstance"=none
  list:mg "list"=none
  tuple:mg "tuple"=none
  str:mg "str"=none
  int:mg "int"=none
  bool:mg "bool"=none
  sorted:mg "sorted"=none
  zip:mg "zip"=none
  sum:mg "sum"=none
  any:mg "any"=none
  all:mg "all"=none
  set:mg "set"=none
  dict:mg "dict"=none
theorem s_ {K:PySem.W.Frag} {h:Heap} {mg:Str→Option Value} (X:K.In h) (G:h.Ns mainGlobals mg)
    (z1:PySem.W.nsIn K mainGlobals "len"=some none) (z2:PySem.W.nsIn K mainGlobals "range"=some none) (z3:PySem.W.nsIn K mainGlobals "abs"=some none) (z4:PySem.W.nsIn K mainGlobals "min"=some none) (z5:PySem.W.nsIn K mainGlobals "max"=some none) (z6:PySem.W.nsIn K mainGlobals "reversed"=some none) (z7:PySem.W.nsIn K mainGlobals "enumerate"=some none) (z8:PySem.W.nsIn K mainGlobals "isinstance"=some none) (z9:PySem.W.nsIn K mainGlobals "list"=some none) (z10:PySem.W.nsIn K mainGlobals "tuple"=some none) (z11:PySem.W.nsIn K mainGlobals "str"=some none) (z12:PySem.W.nsIn K mainGlobals "int"=some none) (z13:PySem.W.nsIn K mainGlobals "bool"=some none) (z14:PySem.W.nsIn K mainGlobals "sorted"=some none) (z15:PySem.W.nsIn K mainGlobals "zip"=some none) (z16:PySem.W.nsIn K mainGlobals "sum"=some none) (z17:PySem.W.nsIn K mainGlobals "any"=some none) (z18:PySem.W.nsIn K mainGlobals "all"=some none) (z19:PySem.W.nsIn K mainGlobals "set"=some none) (z20:PySem.W.nsIn K mainGlobals "dict"=some none):Bn mg:=
  ⟨PySem.W.mg_none_of X G z1,PySem.W.mg_none_of X G z2,PySem.W.mg_none_of X G z3,PySem.W.mg_none_of X G z4,PySem.W.mg_none_of X G z5,PySem.W.mg_none_of X G z6,PySem.W.mg_none_of X G z7,PySem.W.mg_none_of X G z8,PySem.W.mg_none_of X G z9,PySem.W.mg_none_of X G z10,PySem.W.mg_none_of X G z11,PySem.W.mg_none_of X G z12,PySem.W.mg_none_of X G z13,PySem.W.mg_none_of X G z14,PySem.W.mg_none_of X G z15,PySem.W.mg_none_of X G z16,PySem.W.mg_none_of X G z17,PySem.W.mg_none_of X G z18,PySem.W.mg_none_of X G z19,PySem.W.mg_none_of X G z20⟩
end PL
namespace PL
open PySem L2 Nh
def fV:List PyData→Option (List Bool)
  | []=>some []
  | .bool b::ds=>(fV ds).map (b:: ·)
  | _=>none
theorem jT {K:PySem.W.Frag} {H:Hp}:∀{vs:List V} {ds:List PyData} {bs:List Bool},RpA K H vs ds→fV ds=some bs→vs=bs.map V.bl
  | _,_,bs, .nil,e=>by cases e;rfl
  | _,_,bs, .cons (d:=d) h t,e=>by
    cases d <;> simp [fV] at e
    obtain ⟨cs,e,rfl⟩:=e
    cases h
    rw [jT t e]
    rfl
section
variable {X:Cx} {e:Expr} {es:List Expr} {m1:Bool} {g:jc} {p pos:Pos}
theorem e9:∀{ns:List Int} {us:List Value},Vals (ns.map V.int) us→us.length=ns.length∧∀(i:Nat) (v:Value),us[i]? =some v→∃t,v=Value.int (ns.getD i 0) t
  | [],_, .nil=>⟨rfl,fun i v h=>by simp at h⟩
  | n::ns,_, .cons h t=>by
    obtain ⟨tk,rfl⟩:=h
    obtain ⟨h1,h2⟩:=e9 t
    refine ⟨by simp [h1],fun i v h=>?_⟩
    cases i with
    | zero=>simp at h;subst h;exact ⟨tk,rfl⟩
    | succ i=>simpa using h2 i v (by simpa using h)
end
end PL
namespace PL
open PySem L2 Nh
theorem ly {X:Cx} {x:Str} {i:Int} {t:Tok} {pos:Pos} (hg:Gl X x) (hm:X.mg x=some (.int i t)) (hd:(x == ("__debug__":Str))=false:=by decide):EX X (.Name x pos) false (pC (.int i)):=by
  refine bp (kN (v:= .int i) hg hm ⟨t,rfl⟩ hd) fun σ H Q z=>?_
  obtain ⟨B,E,xs,Xs,res,E',⟨F,A,fr⟩,cl,e,q⟩:=z
  cases e
  exact q _ _ ⟨F,A,fr.push ⟨rfl,_,rfl, .int _⟩⟩
end PL
namespace Nh
open PySem L2
theorem NailsOk.stp {r:List Pc} {p:Pc} (h:NailsOk r) (hp:p.1 < 128):NailsOk (NH.stp r p):=by
  cases r with
  | nil=>
    show NailsOk (if p.2=0 then [] else [p])
    split
    · exact h
    · intro q hq;rw [List.mem_singleton.mp hq];exact hp
  | cons x r=>
    rw [NH.dO]
    intro q hq
    rcases List.mem_append.mp hq with h1 | h1
    · unfold NH.oA at h1
      split at h1
      · split at h1
        · cases h1
        · rw [List.mem_singleton.mp h1];exact hp
      · split at h1
        · rw [List.mem_singleton.mp h1];exact h x (List.mem_cons_self ..)
        · rcases List.mem_cons.mp h1 with h2 | h2
          · rw [h2];exact hp
          · rw [List.mem_singleton.mp h2];exact h x (List.mem_cons_self ..)
    · exact h q (List.mem_cons_of_mem _ h1)
theorem NailsOk.foldl:∀(c:List Pc) {r:List Pc},NailsOk r→NailsOk c→NailsOk (c.foldl NH.stp r)
  | [],_,h,_=>h
  | p::c,_,h,hc=>NailsOk.foldl c (h.stp (hc p (List.mem_cons_self ..))) fun q hq=>hc q (List.mem_cons_of_mem _ hq)
theorem NailsOk.take {c:List Pc} (h:NailsOk c) (i:Nat):NailsOk (c.take i):=fun p hp=>h p (List.mem_of_mem_take hp)
theorem NailsOk.drop {c:List Pc} (h:NailsOk c) (i:Nat):NailsOk (c.drop i):=fun p hp=>h p (List.mem_of_mem_drop hp)
theorem NailsOk.reverse {c:List Pc} (h:NailsOk c):NailsOk c.reverse:=fun p hp=>h p (List.mem_reverse.mp hp)
theorem NailsOk.append {c d:List Pc} (h:NailsOk c) (h':NailsOk d):NailsOk (c++d):=fun p hp=>(List.mem_append.mp hp).elim (h p) (h' p)
theorem NailsOk.contr {c:List Pc} (h:NailsOk c):NailsOk (NH.contr c):=fun p hp=>by
  obtain ⟨q,hq,e⟩:=List.mem_map.mp hp
  subst e
  exact h q (List.mem_reverse.mp hq)
theorem NailsOk.short {c:List Pc} (h:NailsOk c):NailsOk (NH.short c):=(NailsOk.foldl c (fun _ z=>by cases z) h).reverse
theorem gs:NailsOk []:=fun _ z=>by cases z
end Nh
namespace Nh
open PySem L2 PL
theorem NailsOk.rep {c:List Pc} (h:NailsOk c) (k:Nat):NailsOk (List.replicate k c).flatten:=fun p hp=>by
  obtain ⟨l,hl,hpl⟩:=List.mem_flatten.mp hp
  rw [(List.mem_replicate.mp hl).2] at hpl
  exact h p hpl
def l4 (i:Int):Nat:=[97,98,99,122].getD i.toNat 97
theorem fW {i j:Int} (h1: -(2 ^ 64) < j) (h2:j < 2 ^ 64):bB i j=true:=by
  simp only [bB,Bool.or_eq_true,decide_eq_true_eq]
  exact .inl (.inr ⟨h1,h2⟩)
theorem fg {i j:Int} (h1: -(2 ^ 64) < i) (h2:i < 2 ^ 64):bB i j=true:=by
  simp only [bB,Bool.or_eq_true,decide_eq_true_eq]
  exact .inl (.inl ⟨h1,h2⟩)
theorem fX {j:Int} (h1:0 < j) (h2:j < 2 ^ 200):cw j=true:=decide_eq_true ⟨h1,h2⟩
theorem bv (i j:Int):lj (.int i) (.int j)=some (decide (i=j)):=rfl
theorem dG (i j:Str):lj (.str i) (.str j)=some (decide (i=j)):=rfl
theorem nV {c d:List Pc} (hc:NailsOk c) (hd:NailsOk d):lj (.list (c.map aF)) (.list (d.map aF))=some (decide (c=d)):=by
  have e:lj (.list (c.map aF)) (.list (d.map aF))=(if SeqAt.shaped (fq c)&&SeqAt.shaped (fq d) then some (PyData.eqv (fq c) (fq d)) else none):=rfl
  rw [e,gx hc,gx hd,ng]
  rfl
theorem gL (a b:Nat):((⟨#[a]⟩:Str)=⟨#[b]⟩)=(a=b):=propext ⟨fun h=>by
  injection h with h
  simpa using congrArg Array.toList h,fun h=>by rw [h]⟩
end Nh
namespace L2
open PySem PySem.Spec PyProof.Rows
def lz (K:PySem.W.Frag) (h:Heap):Prop:=∀b q,gP K b=some q→h.get? b=some (PySem.W.tabObj #[])∧(∃c,PySem.W.CodeHd h c b)∧K.lookup b=none
def bT (K:PySem.W.Frag) (a:Addr) (so:Option HO):Hp:=fun b=>match gP K b with
  | some q=>some (.tbl q)
  | none=>if b=a then so else none
theorem kG {K:PySem.W.Frag} {a b:Addr} {so:Option HO} {q:Str} (e:gP K b=some q):bT K a so b=some (.tbl q):=by unfold bT;rw [e]
theorem me {K:PySem.W.Frag} {a:Addr} {so:Option HO} (e:gP K a=none):bT K a so a=so:=by unfold bT;rw [e];exact if_pos rfl
theorem cZ {K:PySem.W.Frag} {a b:Addr} {so:Option HO} {u:HO} (e:bT K a so b=some u):(∃q,gP K b=some q∧u= .tbl q)∨(b=a∧so=some u):=by
  unfold bT at e
  split at e
  · rename_i q h;cases e;exact .inl ⟨q,h,rfl⟩
  · by_cases hb:b=a
    · rw [if_pos hb] at e;exact .inr ⟨hb,e⟩
    · rw [if_neg hb] at e;cases e
section
variable {P:Program} {w:World} {K:PySem.W.Frag} {mg mb:Str→Option Value} {CX:lQ} {k:Nat} {fa a:Addr} {fd:FuncData} {x:Str} {sp:Sp} {s₁:Shared} {vs:List Value} {ns:List Int}
theorem pj (KX:K.In s₁.heap) (hns:s₁.heap.Ns mainGlobals mg) (hb:s₁.heap.Ns builtinsNs mb) (hbb:∀x:Str,x≠"__name__"→mb x=bootBuiltins x) (hlim:s₁.heap.NoLimit) (hg:s₁.gens=#[]) (hbm:∃bm ob,mg "__builtins__"=some (.ref bm)∧bm≠builtinsNs∧s₁.heap.get? bm=some ob∧ob.cls= .type "module"∧ob.dict=some builtinsNs∧ob.data= .plain) (hT:lz K s₁.heap)
    (ha:s₁.heap.get? a=some {cls:= .type "list",data:= .seq vs.toArray}) (hi:IntsAre vs ns) (hl:ns.length≤sizeLine) (hr:Room k callerA)
    (F:∀base:Heap,K.In base→base.Ns mainGlobals mg→FnOk P w K mg base CX k fa fd [x] sp) (hbind:∀(s:Shared) (u:Value),BindsTo s fd ⟨[u],[]⟩ [(x,u)])
    (hsp:∀H:Hp,SqL K H a (ns.map V.int)→sp [.ref a] H (fun v _=>v= .bl true) fun _ _ _=>False)
    (hCX:∀H e s',CX [] H s₁ (fun _ _ _=>False) e s'→False):
    codeAny (model P w) callerA (.call (.ref fa) ⟨[.ref a],[]⟩) (fun r s'=>r= .ok (.ret (.bool true))∧OldK s₁.heap s'.heap∧s'.os=s₁.os∧AllBare s'.gens) s₁:=by
  have rv:=e9 hi
  have lenV:=hi.length
  have tabA:gP K a=none:=by
    cases q:gP K a with
    | none=>rfl
    | some z=>
      have e:=(hT a z q).1
      rw [ha] at e
      cases e
  have main:∀so:Option HO,(so=none∨(so=some (.frz {cls:= .type "list",data:= .seq vs.toArray} (.lst (ns.map V.int)))∧K.lookup a=none))→SqL K (bT K a so) a (ns.map V.int)→
      codeAny (model P w) callerA (.call (.ref fa) ⟨[.ref a],[]⟩) (fun r s'=>r= .ok (.ret (.bool true))∧OldK s₁.heap s'.heap∧s'.os=s₁.os∧AllBare s'.gens) s₁:=by
    intro so hso hS
    have hok:HOk P w (bT K a so) s₁.heap:=fun b u e=>by
      rcases cZ e with ⟨q,e1,rfl⟩ | ⟨rfl,e1⟩
      · exact ObjOk.tbl0 (hT b q e1).1
      · rcases hso with z | ⟨z,_⟩
        · rw [z] at e1;cases e1
        · rw [z] at e1;cases e1
          exact ⟨ha,by rw [List.length_map];exact hl,vs,_,rv,ha⟩
    have free:∀{b:Addr} {o:Obj} {es:Array DictEntry} {ep:Nat},s₁.heap.get? b=some o→o.data= .dict es ep→bT K a so b=none:=fun {b o es ep} e d=>by
      cases q:bT K a so b with
      | none=>rfl
      | some u=>
        rcases cZ q with ⟨z,e1,_⟩ | ⟨rfl,_⟩
        · rw [(hT b z e1).1] at e;cases e;cases d
        · rw [ha] at e;cases e;cases d
    have nsK:∀{b:Addr} {m:Str→Option Value},s₁.heap.Ns b m→(jy s₁.heap (bT K a so)).Ns b m:=fun {b m} ⟨o,es,ep,e,d,r⟩=>⟨o,es,ep,gO e (free e d),d,r⟩
    have kin:K.In (jy s₁.heap (bT K a so)):=fun b o e=>gO (KX b o e) (by
      cases q:bT K a so b with
      | none=>rfl
      | some u=>
        rcases cZ q with ⟨z,e1,_⟩ | ⟨rfl,e1⟩
        · rw [(hT b z e1).2.2] at e;cases e
        · rcases hso with z | ⟨_,z⟩
          · rw [z] at e1;cases e1
          · rw [z] at e;cases e)
    have bmK:∃bm ob,mg "__builtins__"=some (.ref bm)∧bm≠builtinsNs∧(jy s₁.heap (bT K a so)).get? bm=some ob∧ob.cls= .type "module"∧ob.dict=some builtinsNs∧ob.data= .plain:=by
      obtain ⟨bm,ob,c1,c2,c3,c4,c5⟩:=hbm
      refine ⟨bm,ob,c1,c2,gO c3 ?_,c4,c5⟩
      cases q:bT K a so bm with
      | none=>rfl
      | some u=>
        rcases cZ q with ⟨z,e1,_⟩ | ⟨rfl,_⟩
        · rw [(hT bm z e1).1] at c3;cases c3;cases c4
        · rw [ha] at c3
          cases c3
          injection c4 with c6
          exact absurd c6 (by decide)
    have e0:Env0 P w K mg (jy s₁.heap (bT K a so)) callerA [] s₁ (bT K a so):=
      ⟨rfl,⟨kin,nsK hns,⟨mb,nsK hb,hbb⟩,let ⟨mc,h1,h2⟩:=hlim;⟨mc,nsK h1,h2⟩,bmK⟩,fun b o e=>oC e,Nat.le_of_eq (lJ _ _),trivial,fun b hb=>absurd (show b∈([]:List Addr) from hb) (by simp),hok, .of_eq hg,fun b q e=>kG e⟩
    refine codeAny_mono ((F _ kin (nsK hns)).run callerA [] s₁ _ ⟨[.ref a],[]⟩ [.ref a] [.ref a] _ _ hr e0 (hbind s₁ (.ref a)) (.cons rfl .nil) (hsp _ hS)) fun r s' h=>?_
    cases r with
    | error e=>exact (hCX _ e s' h).elim
    | ok fl=>
      cases fl with
      | next=>exact False.elim h
      | brk=>exact False.elim h
      | cont=>exact False.elim h
      | ret u=>
        obtain ⟨v,H',os,bare,un,hok',r',q⟩:=h
        have q':v= .bl true:=q
        subst q'
        obtain rfl:u=Value.bool true:=r'
        have nofs:∀b,b∉gA ([]:List Env):=fun b z=>absurd (show b∈([]:List Addr) from z) (by simp)
        have step:∀b o,s₁.heap.get? b=some o→asItWas s₁.heap s'.heap b o∧∃o',s'.heap.get? b=some o':=fun b o e=>by
          cases q:bT K a so b with
          | none=>exact ⟨.inl (un.keep b o e q (nofs b) (by simp)),_,un.keep b o e q (nofs b) (by simp)⟩
          | some u=>
            rcases cZ q with ⟨z,e1,rfl⟩ | ⟨rfl,e1⟩
            · obtain ⟨t1,⟨c,t2⟩,_⟩:=hT b z e1
              obtain ⟨ps,p1,_⟩:=hok' b _ (un.tbls b z q)
              rw [t1] at e
              cases e
              exact ⟨.inr (.inl ⟨(t2.tab t1).isCodeTable,rfl,#[],ps,rfl,by simpa using p1⟩),_,p1⟩
            · rcases hso with z | ⟨z,_⟩
              · rw [z] at e1;cases e1
              · rw [z] at e1;cases e1
                have z2:=un.frzs b _ _ q
                obtain ⟨e2,_⟩:=hok' b _ z2
                rw [ha] at e;cases e
                exact ⟨.inl e2,_,e2⟩
        exact ⟨rfl,⟨fun b o e=>(step b o e).1,fun b o e=>(step b o e).2⟩,os,bare⟩
  cases hk:K.lookup a with
  | some o=>
    have e:=KX a o hk
    rw [ha] at e
    cases e
    exact main none (.inl rfl) (.inr ⟨_,vs.toArray,_,hk,rfl,rfl,rfl,by rw [List.size_toArray,lenV];exact hl,by simpa using rv⟩)
  | none=>exact main _ (.inr ⟨rfl,hk⟩) (.inl (.inr ⟨_,me tabA⟩))
end
theorem nW {l:PySem.W.OpenLaw} {n k:Nat} {q:Program} {loose:List Str} {XP:(Str→Option Value)→Heap→Prop} {YP:World→Heap→Prop} {d:DefRec} {K:Params→PySem.W.Frag} {CX:World→lQ} {sp:World→Sp} {x:Str}
    (hn:l.most=some n) (hn2:n≤sizeLine) (hdf:d.params.defaults=[]) (hr:Room k callerA)
    (hY:∀(w:World) (h:Heap),YP w h→(K w.params).In h∧lz (K w.params) h)
    (F:∀(w:World) (mg:Str→Option Value) (fa:Addr) (h:Heap),(K w.params).In h→h.Ns mainGlobals mg→mg d.name=some (.ref fa)→
      ∃fd:FuncData,(∀(s:Shared) (u:Value),BindsTo s fd ⟨[u],[]⟩ [(x,u)])∧
        ∀base:Heap,(K w.params).In base→base.Ns mainGlobals mg→FnOk l.prog w (K w.params) mg base (CX w) k fa fd [x] (sp w))
    (hsp:∀(w:World) (H:Hp) (a:Addr) (ns:List Int),ns.length≤n→SqL (K w.params) H a (ns.map V.int)→sp w [.ref a] H (fun v _=>v= .bl true) fun _ _ _=>False)
    (hCX:∀(w:World) (H:Hp) (s:Shared) (e:Value) (s':Shared),CX w [] H s (fun _ _ _=>False) e s'→False):
    PySem.W.WalkO q loose XP YP l.row.toRowW d [] (fun f vs=>PySem.call f vs):=by
  refine Att.jC hn hdf fun w s₀ s₁ mg mb fa o pm cd doc a vs ns G Y ho hd hcd hmg hobj hints hlen hg=>?_
  obtain ⟨KX,KT⟩:=hY w _ Y
  obtain ⟨fd,hb,hF⟩:=F w mg fa _ KX G.T.g hmg
  exact pj KX G.T.g G.T.b G.T.builtins G.T.nolimit hg G.T.bmain KT hobj hints (Nat.le_trans hlen hn2) hr hF hb (fun H hS=>hsp w H a ns hlen hS) fun H e s'=>hCX w H s₁ e s'
theorem kH {K:PySem.W.Frag} {h:Heap} (e:PySem.W.nsIn K mainGlobals "in_told_order"=some none):lz K h:=fun b q z=>by
  unfold gP rX at z
  rw [e] at z
  cases z
end L2
namespace NH
def uK:Nat→Nat→Nat
  | _,0=>1
  | 0,_+1=>0
  | n+1,k+1=>uK n (k+1)+uK n k
def uL:Nat→Nat→Int
  | _,0=>1
  | 0,_+1=>0
  | m+1,k+1=>uL m (k+1) - uL (m+1) k
def ch (n:Int) (k:Nat):Int:=match n with
  | .ofNat n=>(uK n k:Int)
  | .negSucc m=>uL (m+1) k
def ff (n:Int):Nat→Int
  | 0=>1
  | k+1=>ff n k*(n - k)
section
variable {α:Type}
def conv (f g:List α→Int):List α→Int
  | []=>f []*g []
  | a::w=>f []*g (a::w)+conv (fun u=>f (a::u)) g w
def vi:List α→Int
  | []=>1
  | _::_=>0
end
section
variable {α:Type} [DecidableEq α]
def td (p:α×Int) (w:List α):Int:=if w.all (fun b=>decide (b=p.1)) then ch p.2 w.length else 0
def u6 (w:List α) (c:List (α×Int)):Int:=c.foldr (fun p f=>conv (td p) f) vi w
def vs (j:Nat) (m n:Int):Nat→Int
  | 0=>ch m j
  | k+1=>ch m j*ch n (k+1)+vs (j+1) m n k
def Unlike:List α→Prop
  | []=>True
  | [_]=>True
  | a::b::w=>a≠b∧Unlike (b::w)
theorem Unlike.tail {a:α} {w:List α} (h:Unlike (a::w)):Unlike w:=by
  cases w with
  | nil=>trivial
  | cons b w=>exact h.2
end
end NH
namespace NH
section
variable {α:Type} [DecidableEq α]
def Rot (a b:List (α×Int)):Prop:=∃u v,a=u++v∧b=v++u
theorem Rot.refl (a:List (α×Int)):Rot a a:=⟨[],a,rfl,by simp⟩
theorem Rot.symm {a b:List (α×Int)} (h:Rot a b):Rot b a:=let ⟨u,v,e,f⟩:=h;⟨v,u,f,e⟩
theorem Rot.trans {a b c:List (α×Int)} (h:Rot a b) (k:Rot b c):Rot a c:=by
  obtain ⟨u,v,rfl,e⟩:=h
  obtain ⟨x,y,e2,rfl⟩:=k
  rw [e] at e2
  rcases List.append_eq_append_iff.mp e2 with ⟨w,e3,e4⟩ | ⟨w,e3,e4⟩
  · subst e3 e4
    exact ⟨w,y++v,by simp,by simp⟩
  · subst e3 e4
    exact ⟨u++x,w,by simp,by simp⟩
theorem Rot.eq {a b:List (α×Int)} (h:a=b):Rot a b:=h▸Rot.refl a
theorem Rot.len {a b:List (α×Int)} (h:Rot a b):a.length=b.length:=by
  obtain ⟨u,v,rfl,rfl⟩:=h
  simp [Nat.add_comm]
end
end NH
namespace Nh
open PySem L2 PL
def lp (p q:Pc):Bool:=if p.1=q.1 then decide (p.2 < q.2) else decide (p.1 < q.1)
def ll:List Pc→List Pc→Bool
  | [],[]=>false
  | [],_::_=>true
  | _::_,[]=>false
  | x::xs,y::ys=>if x=y then ll xs ys else lp x y
theorem nX {p q:Pc} (h:p≠q):lp p q=true∨lp q p=true:=by
  unfold lp
  by_cases e:p.1=q.1
  · rw [if_pos e,if_pos e.symm]
    simp only [decide_eq_true_eq]
    have:p.2≠q.2:=fun z=>h (by cases p;cases q;simp_all)
    omega
  · rw [if_neg e,if_neg (fun z=>e z.symm)]
    simp only [decide_eq_true_eq]
    omega
theorem jU:∀{a b:List Pc},a≠b→ll a b=true∨ll b a=true
  | [],[],h=>absurd rfl h
  | [],_::_,_=> .inl rfl
  | _::_,[],_=> .inr rfl
  | x::a,y::b,h=>by
    unfold ll
    by_cases e:x=y
    · subst e
      rw [if_pos rfl,if_pos rfl]
      exact jU fun z=>h (by rw [z])
    · rw [if_neg e,if_neg (fun z=>e z.symm)]
      exact nX e
def rV (a:List Pc) (p:Nat):List Pc:=a.drop p++a.take p
def Least (a w:List Pc):Prop:=(∃p,p≤a.length∧w=rV a p)∧∀p,p≤a.length→ll (rV a p) w=false
theorem Least.one {a w w':List Pc} (h:Least a w) (h':Least a w'):w=w':=by
  obtain ⟨⟨p,hp,rfl⟩,k⟩:=h
  obtain ⟨⟨p',hp',rfl⟩,k'⟩:=h'
  by_cases e:rV a p=rV a p'
  · exact e
  · rcases jU e with z | z
    · rw [k' p hp] at z;cases z
    · rw [k p' hp'] at z;cases z
end Nh
namespace NH
variable {α:Type} [DecidableEq α]
end NH
namespace Nh
open PySem L2 PL
theorem rl {p q:Pc} (hp:p.1 < 128) (hq:q.1 < 128):lj (aF p) (aF q)=some (decide (p=q)):=by
  have s:∀{p:Pc},p.1 < 128→SeqAt.shaped (aF p)=true:=fun {p} h=>by
    have h1:=pS h
    unfold SeqAt.shaped
    rw [h1]
    simp [aF,PyData.depth,PyData.depthAll]
  have e:lj (aF p) (aF q)=(if SeqAt.shaped (aF p)&&SeqAt.shaped (aF q) then some (PyData.eqv (aF p) (aF q)) else none):=rfl
  rw [e,s hp,s hq,nb]
  rfl
end Nh
namespace NH
variable {α:Type} [DecidableEq α]
end NH
namespace Nh
open PySem L2 PL
def CordOk (c:List Pc):Prop:=∀p∈c,p.1 < 128∧p.2.natAbs < 2 ^ 100
theorem CordOk.n {c:List Pc} (h:CordOk c):NailsOk c:=fun p hp=>(h p hp).1
theorem CordOk.append {c d:List Pc} (h:CordOk c) (h':CordOk d):CordOk (c++d):=fun p hp=>(List.mem_append.mp hp).elim (h p) (h' p)
theorem CordOk.contr {c:List Pc} (h:CordOk c):CordOk (NH.contr c):=fun p hp=>by
  obtain ⟨q,hq,e⟩:=List.mem_map.mp hp
  subst e
  have:=h q (List.mem_reverse.mp hq)
  exact ⟨this.1,by simpa using this.2⟩
theorem jV:CordOk []:=fun _ z=>by cases z
theorem pk {i j:Int} (h1:i.natAbs < 2 ^ 20000) (h2:j.natAbs < 2 ^ 20000):bB i j=true:=by
  have hb:lV=((2 ^ 20000:Nat):Int):=by unfold lV;exact (Int.natCast_pow 2 20000).symm
  have e: -lV < i∧i < lV∧ -lV < j∧j < lV:=by
    rw [hb]
    generalize 2 ^ 20000=B at h1 h2
    omega
  unfold bB
  rw [decide_eq_true e,Bool.or_true]
end Nh
namespace NH
variable {α:Type} [DecidableEq α]
theorem fY {a a':List (α×Int)} (h:short a=short a') (b:List (α×Int)):short (a++b)=short (a'++b):=by
  have k:stk a=stk a':=by
    have:=congrArg List.reverse h
    simpa [short] using this
  unfold short stk at *
  rw [List.foldl_append,List.foldl_append,k]
theorem fi {b b':List (α×Int)} (a:List (α×Int)) (h:short b=short b'):short (a++b)=short (a++b'):=by
  rw [ce,ce] at h ⊢
  unfold runs at *
  rw [List.foldr_append,List.foldr_append,h]
theorem pq {a a' b b':List (α×Int)} (h:short a=short a') (k:short b=short b'):short (a++b)=short (a'++b'):=(fY h b).trans (fi a' k)
theorem nY (A X B:List (α×Int)):short (A++(X++contr X)++B)=short (A++B):=by
  have:=iL (A:=A) (B:=B) (X:=X++contr X) (Y:=[]) (mY X)
  simpa using this
theorem px (A X B:List (α×Int)):short (A++(contr X++X)++B)=short (A++B):=by
  have:=nY A (contr X) B
  rwa [jD] at this
theorem mf {a a':List (α×Int)} (h:short a=short a'):short (contr a)=short (contr a'):=by
  have h1:short (contr a++(a++contr a'))=short (contr a++(a'++contr a')):=fi _ (fY h _)
  have h2:=nY (contr a) a' []
  have h3:=px [] a (contr a')
  simp only [List.append_nil,List.nil_append,List.append_assoc] at h1 h2 h3
  rw [←h2,←h1,h3]
end NH
namespace NH
variable {α:Type} [DecidableEq α]
def pw {β:Type} (t:Nat) (v:List β):List β:=(List.replicate t v).flatten
theorem lA {β:Type} (v:List β):pw 0 v=[]:=rfl
theorem fZ {β:Type} (t:Nat) (v:List β):pw (t+1) v=v++pw t v:=by simp [pw,List.replicate_succ]
theorem nZ {β:Type} (t:Nat) (v:List β):(pw t v).length=t*v.length:=by
  induction t with
  | zero=>simp [lA]
  | succ t ih=>rw [fZ,List.length_append,ih,Nat.succ_mul];omega
theorem jl {a b:List (α×Int)} (h:short a=short b):∀t,short (pw t a)=short (pw t b)
  | 0=>rfl
  | t+1=>by rw [fZ,fZ];exact pq h (jl h t)
theorem kI (n:α) (a:Int):∀t:Nat,short (pw t [(n,a)])=short [(n,a*(t:Int))]
  | 0=>by simp [lA,short,stk,stp]
  | t+1=>by
    rw [fZ,fi _ (kI n a t)]
    have:=iL (A:=[]) (B:=[]) (mZ n a (a*(t:Int)))
    simp only [List.nil_append,List.append_nil] at this
    show short [(n,a),(n,a*(t:Int))]=_
    rw [←this]
    congr 3
    rw [Int.natCast_succ,Int.mul_add,Int.mul_one,Int.add_comm]
end NH
namespace Nh
open NH
def Oft (C:List Pc) (t:Nat):Prop:=(∃p,C=[p]∧t=p.2.natAbs)∨(2≤C.length∧∃s,1≤s∧s*t=C.length∧rV C s=C∧∀l,1≤l→l < s→l∣C.length→rV C l≠C)
theorem Oft.one {C:List Pc} {t t':Nat} (h:Oft C t) (h':Oft C t'):t=t':=by
  rcases h with ⟨p,rfl,e⟩ | ⟨h2,s,s1,s2,s3,s4⟩
  · rcases h' with ⟨p',e',e2⟩ | ⟨h2,_⟩
    · cases e';rw [e,e2]
    · simp at h2
  · rcases h' with ⟨p',rfl,e2⟩ | ⟨_,s',s1',s2',s3',s4'⟩
    · simp at h2
    · have:s=s':=by
        rcases Nat.lt_trichotomy s s' with z | z | z
        · exact absurd s3 (s4' s s1 z ⟨t,s2.symm⟩)
        · exact z
        · exact absurd s3' (s4 s' s1' z ⟨t',s2'.symm⟩)
      subst this
      exact Nat.eq_of_mul_eq_mul_left (by omega) (s2.trans s2'.symm)
end Nh
namespace NH
variable {α:Type} [DecidableEq α]
def fo (z:Int) (v:List (α×Int)):List (α×Int):=if z < 0 then pw z.natAbs (contr v) else pw z.natAbs v
structure Hom (f:α×Int→List (α×Int)):Prop where
  zero:∀n,short (f (n,0))=[]
  add:∀n a b,short (f (n,a)++f (n,b))=short (f (n,a+b))
theorem Hom.stp {f:α×Int→List (α×Int)} (h:Hom f) (r:List (α×Int)) (p:α×Int):short ((stp r p).flatMap f)=short (f p++r.flatMap f):=by
  have z:∀(q:α×Int) (X:List (α×Int)),q.2=0→short (f q++X)=short X:=fun q X hq=>by
    have e:q=(q.1,0):=by rw [←hq]
    rw [e]
    have:=fY (show short (f (q.1,0))=short [] by rw [h.zero];rfl) X
    simpa using this
  cases r with
  | nil=>
    show short ((if p.2=0 then [] else [p]).flatMap f)=_
    split
    · rename_i hp
      rw [z p _ hp]
    · simp
  | cons q r=>
    rw [dO,List.flatMap_append,List.flatMap_cons]
    unfold oA
    split
    · rename_i e
      have k:short (f p++f q)=short (f (p.1,q.2+p.2)):=by
        have:=h.add p.1 p.2 q.2
        rw [show (p.1,q.2)=q by rw [←e],show (p.1,p.2)=p from rfl,Int.add_comm] at this
        exact this
      rw [←List.append_assoc,fY k]
      split
      · rename_i e2
        rw [e2,z (p.1,0) _ rfl]
        simp
      · simp
    · split
      · rename_i hp
        rw [z p _ hp]
        simp
      · simp
theorem Hom.runs {f:α×Int→List (α×Int)} (h:Hom f):∀c:List (α×Int),short ((runs c).flatMap f)=short (c.flatMap f)
  | []=>rfl
  | p::c=>by
    have:NH.runs (p::c)=NH.stp (NH.runs c) p:=rfl
    rw [this,h.stp,List.flatMap_cons,fi (f p) (h.runs c)]
theorem Hom.short {f:α×Int→List (α×Int)} (h:Hom f) (c:List (α×Int)):NH.short ((NH.short c).flatMap f)=NH.short (c.flatMap f):=by rw [ce c,h.runs]
theorem Hom.one {f:α×Int→List (α×Int)} (h:Hom f) {c d:List (α×Int)} (e:NH.short c=NH.short d):NH.short (c.flatMap f)=NH.short (d.flatMap f):=by rw [←h.short c,e,h.short d]
end NH
namespace PL
open PySem PySem.Spec PyProof.Rows L2 Nh PySem.W PySem.Calls Builtin Builtin.ObjectAttr Builtin.Getset_descriptor
structure ExCls (K:Frag) (C:Addr):Prop where
  cls:∃cd,clsIn K C=some cd
  ga:findIn K (.ref C) "__getattribute__"=some (some (.builtin "BaseException.__getattribute__"))
  gt:findIn K (.ref C) "__getattr__"=some none
  ca:findIn K (.ref C) "__class__"=some (some (.builtin "object.__class__"))
  mb:mroIn K C (.type "BaseException")=some true
  mo:mroIn K C (.type "object")=some true
section
variable {K:Frag} {a C:Addr} {M:Model} {h:Heap}
theorem gu (p:dP a C h):Looks M h (typeOf (.ref a)) (.ref C):=by
  obtain ⟨o,h1,h2⟩:=p
  exact h2▸(Looks.ld h1).andThen .now
theorem py {prog:Program} {w:World} {A:Around} {R:Result→Shared→Prop} {s:Shared} {tp:Value} (Z:ExCls K C) (X:K.In s.heap) (I:dP a C s.heap) (h:R (.ok (.ret (.ref C))) s):
    codeAny (model prog w) A (.call (.builtin "getset_descriptor.__get__") ⟨[.builtin "object.__class__", .ref a,tp],[]⟩) R s:=by
  obtain ⟨hh,g,dr,t,os⟩:=s
  have L0:=gu (M:=model prog w) I
  have L1:=looks_mroIn (M:=model prog w) X Z.mo
  refine codeAny_call_builtin KF.slot_gs.plain KF.entry_gs (KF.slot_gs.check _ _ _ _ _ _ _ _ KF.type_class (KF.args_gs _ _ _) ?_)
  unfold Builtin.«getset_descriptor.__get__» descrGet
  rw [dga_obj]
  refine wpAny_bind (wpAny_pure ?_)
  unfold descrGetter descrCheckInstance descrNameAndClass isInstance
  simp only [KF.owner_class]
  repeat lk
  refine ⟨Code.quiet_builtin _ (by decide+kernel),codeAny_builtin KF.entry_class ?_⟩
  unfold Builtin.«object.__class__» shownTypeOf
  repeat lk
  exact h
theorem mh {prog:Program} {w:World} {A:Around} {E:Value→Shared→Prop} {Q:Fin→Shared→Prop} {s:Shared} {tk:Tok} (Z:ExCls K C) (X:K.In s.heap) (I:dP a C s.heap) (h:Q (.done (.ret (.ref C))) s):
    wpAny (model prog w) A (Builtin.«object.__getattribute__» ⟨[.ref a, .str "__class__" tk],[]⟩) Q E s:=by
  obtain ⟨hh,g,dr,t,os⟩:=s
  have L0:=gu (M:=model prog w) I
  have L1:=looks_findIn (M:=model prog w) X Z.ca
  have hT5:(⟨hh,g,dr,t,os⟩:Shared).TypeIs (.builtin "object.__class__") "getset_descriptor":=F.typeOf_object_class
  have f5:=F.typeOf_object_class
  have f6:=F.slot_gs_get.lookup
  have f7:=F.slot_gs_set.lookup
  repeat (any_goals (first | assumption | with_reducible refine L0.at ?_ | with_reducible refine L1.at ?_ | wp_step))
  refine py Z X I ?_
  repeat (any_goals (first | assumption | wp_step))
theorem mi {A:Around} {E:Value→Shared→Prop} {nameV:Value} {Q:Unit→Shared→Prop} {s:Shared} (Z:ExCls K C) (X:K.In s.heap) (I:dP a C s.heap) (hq:Q () s):wpAny M A (checkBuiltinCall "BaseException.__getattribute__" ⟨[.ref a,nameV],[]⟩) Q E s:=by
  obtain ⟨hh,g,dr,t,os⟩:=s
  have L0:=gu (M:=M) I
  have L1:=looks_mroIn (M:=M) X Z.mb
  have hk:builtinKind "BaseException.__getattribute__"=some .slot:=by decide+kernel
  have hsplit:splitId "BaseException.__getattribute__"=some ("BaseException","__getattribute__"):=by decide+kernel
  have ha:=F.args_bexc_ga (.ref a) nameV
  simp only [checkBuiltinCall,hk,hsplit]
  refine wpAny_bind ?_
  unfold isInstance
  repeat (first | with_reducible refine L0.at ?_ | with_reducible refine L1.at ?_ | wp_step)
  exact hq
theorem rm {prog:Program} {w:World} {A:Around} {E:Value→Shared→Prop} {Q:Value→Shared→Prop} {s:Shared} {tk:Tok} {fill expr:Bool} (Z:ExCls K C) (X:K.In s.heap) (I:dP a C s.heap) (hq:Q (.ref C) s):
    wpAny (model prog w) A (getAttrBy (.ref a) (.str "__class__" tk) fill expr) Q E s:=by
  obtain ⟨hh,g,dr,t,os⟩:=s
  have L0:=gu (M:=model prog w) I
  have L1:=looks_findIn (M:=model prog w) X Z.ga
  have L2:=looks_findIn (M:=model prog w) X Z.gt
  have f3:=F.attr_ValueError.ga.bind (.ref a)
  have hx0:(expr&&onTheHeap (Value.builtin "BaseException.__getattribute__"))=false:=by cases expr <;> rfl
  have hx2:(Value.builtin "BaseException.__getattribute__" == Value.builtin "object.__getattribute__")=false:=by decide+kernel
  have hx1:(onTheHeap (Value.ref C)&&Value.builtin "BaseException.__getattribute__" == Value.builtin "object.__getattribute__")=false:=by rw [hx2];rfl
  repeat (any_goals (first | assumption | with_reducible refine L0.at ?_ | with_reducible refine L1.at ?_ | with_reducible refine L2.at ?_ | wp_step))
  refine codeAny_call_builtin F.attr_ValueError.ga.plain F.entry_bexc_ga (mi Z X I (mh Z X I ?_))
  repeat (any_goals (first | assumption | wp_step))
theorem n3 {prog:Program} {w:World} {A:Around} {E:Value→Shared→Prop} {Q:Option Value→Shared→Prop} {s:Shared} (Z:ExCls K C) (X:K.In s.heap) (I:dP a C s.heap) (hq:Q (some (.ref C)) {s with toks:=s.toks+1}):
    wpAny (model prog w) A (getAttr? (.ref a) "__class__") Q E s:=by
  obtain ⟨hh,g,dr,t,os⟩:=s
  unfold getAttr?
  repeat (any_goals (first | assumption | with_reducible apply rm (s:=⟨hh,g,dr,t+1,os⟩) Z X I | wp_step))
theorem n4 (Z:ExCls K C):KitX K (.ref a) (.ref C) (dP a C) where
  ty:=fun _ _ _ I=>gu I
  it:=fun _ _ X _=>by
    obtain ⟨cdD,hcD⟩:=Z.cls
    unfold clsIn at hcD
    split at hcD
    · rename_i c' d' cd' sl' ho
      intro A' Q' E' s' k q
      unfold isType loadHead
      exact wpAny_bind (wpAny_loadPart (k _ _ (X _ _ ho)) (wpAny_pure q))
    · cases hcD
  ne:=fun h tp dd its n sl X htp=>by
    obtain ⟨cdD,hcD⟩:=Z.cls
    refine Bool.eq_false_iff.mpr fun q=>?_
    have e:C=tp:=Value.ref.inj (beq_iff_eq.mp q)
    subst e
    unfold clsIn at hcD
    split at hcD
    · rename_i c' d' cd' sl' ho
      have z:=(X _ _ ho).symm.trans htp
      cases z
    · cases hcD
  ca:=fun X I k=>n3 Z X I k
end
end PL
namespace PL
open PySem PySem.Spec PyProof.Rows L2 Nh
structure UnB (fs:List Addr) (H H':Hp) (h B h':Heap):Prop where
  keep:∀b o,h.get? b=some o→H b=none→b∉fs→B.get? b=some o
  slot:∀b o,h.get? b=some o→H b=none→b∈fs→∃sl,h'.get? b=some {o with slots:=sl}
  free:∀b o,h.get? b=some o→H b=none→H' b=none
  there:∀b o,h.get? b=some o→b∉fs→∃o',B.get? b=some o'
  tups:∀b xs,H b=some (.tup xs)→H' b=some (.tup xs)
  frzs:∀b o u,H b=some (.frz o u)→H' b=some (.frz o u)
  tbls:∀b ps,H b=some (.tbl ps)→H' b=some (.tbl ps)
theorem UnB.un {fs:List Addr} {H H':Hp} {h B h':Heap} (u:UnB fs H H' h B h') (st:B.StaysIn h') (hf:∀b∈fs,H b=none):Un fs [] H H' h h':=
  ⟨fun b o e n hb _=>st b o (u.keep b o e n hb),fun b o e n hb _=>u.slot b o e n hb,fun b o e n _=>u.free b o e n,fun b o e _=>by
    by_cases hb:b∈fs
    · obtain ⟨sl,z⟩:=u.slot b o e (hf b hb) hb
      exact ⟨_,z⟩
    · obtain ⟨o',z⟩:=u.there b o e hb
      exact ⟨o',st b o' z⟩,u.tups,u.frzs,u.tbls⟩
theorem UnB.on {l:List Env} {H H':Hp} {h B h' h2:Heap} (u:UnB (gA l) H H' h B h') (ff:h'.FunFrames B l) (k:h'.UpToSlots h2):UnB (gA l) H H' h B h2:=
  ⟨u.keep,fun b o e n hb=>by
    obtain ⟨sl,z⟩:=u.slot b o e n hb
    obtain ⟨_,o',ho',hd⟩:=ff.mem hb
    rw [z] at ho'
    cases ho'
    obtain ⟨sl2,z2⟩:=k b _ z hd
    exact ⟨sl2,z2⟩,u.free,u.there,u.tups,u.frzs,u.tbls⟩
theorem UnB.out {X:Cx} {pins:List (Addr×Obj)} {σ:L2.St} {H H':Hp} {s:Shared} {B h':Heap} (I:Inv X pins σ H s) (hx:X.ex=[]) (u:UnB (gA X.stack) H H' s.heap B h'):UnB X.fs X.H₀ H' X.s₀.heap B h':=by
  have nx:∀b:Addr,b∉X.ex:=fun b z=>by rw [hx] at z;cases z
  have ne:∀b o,X.s₀.heap.get? b=some o→b≠X.env.locals:=fun b o e=>Nat.ne_of_lt (Nat.lt_of_lt_of_le (Heap.lt_size e) I.ok.above)
  have nf:∀b o,X.s₀.heap.get? b=some o→b∉X.fs→b∉gA X.stack:=fun b o e hb z=>(List.mem_cons.mp (I.stkSub b z)).elim (ne b o e) hb
  refine ⟨fun b o e n hb=>u.keep b o (I.base.keep b o e n hb (nx b)) (I.base.free b o e n (nx b)) (nf b o e hb),fun b o e n hb=>?_,fun b o e n=>?_,fun b o e hb=>?_,fun b xs e=>u.tups b xs (I.base.tups b xs e),fun b o v e=>u.frzs b o v (I.base.frzs b o v e),fun b ps e=>u.tbls b ps (I.base.tbls b ps e)⟩
  · obtain ⟨sl,z⟩:=I.base.slot b o e n hb (nx b)
    have hb':b∈gA X.stack:=by
      rcases I.ok.stk with q | ⟨q,hf⟩
      · rw [q];exact hb
      · rw [q];unfold gA;rw [List.filterMap_cons,hf];exact List.mem_cons_of_mem _ hb
    obtain ⟨sl2,z2⟩:=u.slot b _ z (I.base.free b o e n (nx b)) hb'
    exact ⟨sl2,z2⟩
  · obtain ⟨o',z⟩:=I.base.there b o e (nx b)
    exact u.free b o' z (I.base.free b o e n (nx b))
  · obtain ⟨o',z⟩:=I.base.there b o e (nx b)
    exact u.there b o' z (nf b o e hb)
theorem jW {P:Program} {w:World} {H:Hp} {h:Heap} {a:Addr} {o:HO} (x:ObjOk P w H h a o):∃u,h.get? a=some u:=by
  cases o with
  | lst xs=>obtain ⟨_,_,_,_,e⟩:=x;exact ⟨_,e⟩
  | tup xs=>obtain ⟨_,_,_,o,e,_⟩:=x;exact ⟨_,e⟩
  | dK kvs=>obtain ⟨_,_,_,_,o,_,_,e,_⟩:=x;exact ⟨_,e⟩
  | dT kvs=>obtain ⟨_,_,_,_,o,_,_,e,_⟩:=x;exact ⟨_,e⟩
  | set S n=>obtain ⟨o,_,_,_,e,_⟩:=x;exact ⟨_,e⟩
  | ins C dx fs=>obtain ⟨_,_,_,e,_⟩:=x;exact ⟨_,e⟩
  | own y=>obtain ⟨_,e⟩:=x;exact ⟨_,e⟩
  | xd fs=>obtain ⟨_,⟨_,_,_,e,_⟩,_⟩:=x;exact ⟨_,e⟩
  | rng lo hi=>obtain ⟨_,_,_,e⟩:=x;exact ⟨_,e⟩
  | frz ob u=>obtain ⟨e,_⟩:=x;exact ⟨_,e⟩
  | tbl q=>obtain ⟨_,e,_⟩:=x;exact ⟨_,e⟩
  | met f y=>exact ⟨_,(show h.get? a=some _ from x)⟩
  | ext φ=>obtain ⟨_,⟨_,e⟩,_⟩:=x;exact ⟨_,e⟩
def p3 (P:Program) (w:World):lQ:=fun outer H s E e s'=>∃H' ea C a0 B,e= .ref ea∧E (.ref C) none H'∧s'.os=s.os∧AllBare s'.gens∧Heap.FlyingW B outer ea (.ref C) a0 s'.heap∧HOk P w H' B∧UnB (gA outer) H H' s.heap B s'.heap
def n5 (X:Cx) (C:Addr) (pins:List (Addr×Obj)) (σ:L2.St) (H:Hp):Prop:=∀s h' ea vs,Inv X pins σ H s→Heap.MadeExcOf s.heap h' ea (.ref C) vs→X.xe (.ref ea) {s with heap:=h'}
def pz (X:Cx) (C:Addr) (pins:List (Addr×Obj)) (σ:L2.St) (H':Hp):Prop:=∀H s ea s' a0 B,Inv X pins σ H s→s'.os=s.os→AllBare s'.gens→Heap.FlyingW B X.stack ea (.ref C) a0 s'.heap→HOk X.prog X.w H' B→UnB (gA X.stack) H H' s.heap B s'.heap→X.xe (.ref ea) s'
def n6 (X:Cx) (C:Addr) (pins:List (Addr×Obj)) (σ:L2.St) (H':Hp):Prop:=∀H s ea s' a0 B,Inv X pins σ H s→s'.os=s.os→AllBare s'.gens→Heap.HeldW B X.stack ea (.ref C) a0 X.env.locals s'.heap→HOk X.prog X.w H' B→UnB (gA X.stack) H H' s.heap B s'.heap→X.xe (.ref ea) s'
theorem jX {M:Model} {A:Around} {E:Value→Shared→Prop} {s:Shared} {base:Heap} {env:Env} {outer:List Env} {L e:Addr} {cls a0:Value} {Q:Unit→Shared→Prop} (hf:env.frame=some L) (hh:Heap.HeldW base (env::outer) e cls a0 L s.heap)
    (hQ:∀h',Heap.FlyingW base outer e cls a0 h'→s.heap.UpToSlots h'→Q () {s with heap:=h'}):wpAny M A (leaving env (.ref e)) Q E s:=by
  unfold leaving
  refine wpAny_bind (wpAny_noteFrame_againW hf hh.2.2.2 ?_)
  refine wpAny_landsW hh fun h' hfl k=>?_
  obtain ⟨k1,k2,⟨_,_,k3⟩,k4⟩:=hfl
  exact hQ h' ⟨k1,k2,k3,k4⟩ k
section
variable {P:Program} {w:World} {K:PySem.W.Frag} {mg:Str→Option Value} {base:Heap} {N:List Str} {qual:Str} {scope:Scope} {f:Addr} {cd:Value} {A:Around} {outer:List Env} {s:Shared} {H H':Hp} {E:XK} {C:Addr} {pins:List (Addr×Obj)} {σ:L2.St}
theorem pA (hE:E (.ref C) none H'):n5 (eK (p3 P w) P w K mg base N qual scope f cd A outer s H E) C pins σ H':=by
  intro s1 h' ea vs I hx
  show wpAny (model P w) _ (leaving _ (.ref ea)) _ _ _
  have st:=I.stack
  have hin:∀env∈(eK (p3 P w) P w K mg base N qual scope f cd A outer s H E).stack,∀b,env.frame=some b→b∈gA (eK (p3 P w) P w K mg base N qual scope f cd A outer s H E).stack:=fun env he b hb=>List.mem_filterMap.mpr ⟨env,he,hb⟩
  refine wpAny_leaves_madeW (base:=PySem.W.hideAll s1.heap (gA (eK (p3 P w) P w K mg base N qual scope f cd A outer s H E).stack)) (h:=s1.heap) I.ok.frames rfl (fun b o q=>PySem.W.of_hideAll _ q) (PySem.W.funFrames_hide st hin) hx fun h2 t x1 x2 x3 x4=>?_
  refine ⟨H',ea,C,_,_,rfl,hE,I.os,I.bare,x1,fun a o e=>?_,?_⟩
  · refine (I.hok a o e).stay (fun b u hb q=>PySem.W.hideAll_get _ q fun z=>?_) (fun _ q=>q) fun _ _ q=>q
    have n:=I.stkFree b z
    rcases hb with rfl | hb
    · rw [n] at e;cases e
    · rw [n] at hb;cases hb
  · refine UnB.out I rfl ⟨fun b o e n hb=>PySem.W.hideAll_get _ e hb,fun b o e n hb=>?_,fun _ _ _ n=>n,fun b o e hb=>⟨o,PySem.W.hideAll_get _ e hb⟩,fun _ _ e=>e,fun _ _ _ e=>e,fun _ _ e=>e⟩
    obtain ⟨_,o',ho',hd⟩:=st.mem hb
    rw [e] at ho'
    cases ho'
    exact x4 b o (hx.keeps b o e) hd
theorem rn (hE:E (.ref C) none H'):pz (eK (p3 P w) P w K mg base N qual scope f cd A outer s H E) C pins σ H':=by
  intro H1 s1 ea s' a0 B I os bare fl hok u
  show wpAny (model P w) _ (leaving _ (.ref ea)) _ _ _
  refine wpAny_leaves_onW I.ok.frames rfl fl fun h2 x1 x2=>?_
  exact ⟨H',ea,C,a0,B,rfl,hE,os.trans I.os,bare,x1,hok,UnB.out I rfl (u.on fl.2.2.1 x2)⟩
theorem pB (hE:E (.ref C) none H'):n6 (eK (p3 P w) P w K mg base N qual scope f cd A outer s H E) C pins σ H':=by
  intro H1 s1 ea s' a0 B I os bare fl hok u
  show wpAny (model P w) _ (leaving _ (.ref ea)) _ _ _
  refine jX rfl fl fun h2 x1 x2=>?_
  exact ⟨H',ea,C,a0,B,rfl,hE,os.trans I.os,bare,x1,hok,UnB.out I rfl (u.on fl.2.2.1 x2)⟩
end
abbrev lB:=List Sl→Option (Str×List Sl)
def rW (X:Cx) (mk al:Bool) (body:List Stmt) (r:lB):Prop:=∀pins s σ H B E n E',Inv X pins σ H s→Frm X.K B σ H E [] []→r E=some (n,E')→
  (∀pins',(al=false→pins'=pins)→∀σ' C H',PySem.W.nsIn X.K mainGlobals n=some (some (.ref C))→Frm X.K B σ' H' E' [] []→(mk=true→n5 X C pins' σ' H')∧pz X C pins' σ' H'∧(al=true→n6 X C pins' σ' H'))→wpAny (model X.prog X.w) X.A (execs body X.env) (fun _ _=>False) X.xe s
def RX (X:Cx) (mk al:Bool) (st:Stmt) (r:lB):Prop:=∀pins s σ H B E n E',Inv X pins σ H s→Frm X.K B σ H E [] []→r E=some (n,E')→
  (∀pins',(al=false→pins'=pins)→∀σ' C H',PySem.W.nsIn X.K mainGlobals n=some (some (.ref C))→Frm X.K B σ' H' E' [] []→(mk=true→n5 X C pins' σ' H')∧pz X C pins' σ' H'∧(al=true→n6 X C pins' σ' H'))→wpAny (model X.prog X.w) X.A (exec st X.env) (fun _ _=>False) X.xe s
def n8 (g:cc) (r:lB):lB:=fun E=>match g E with
  | some (E', .nx)=>r E'
  | _=>none
def tW (t:ik) (r:lB):lB:=fun E=>match t E with
  | some (true,E')=>r E'
  | _=>none
def n_ (n:Str):lB:=fun E=>some (n,E)
section
variable {X:Cx} {mk al:Bool} {st:Stmt} {be a b:List Stmt} {g:cc} {r:lB} {c:Expr} {m:Bool} {t:ik} {pos:Pos}
theorem jm (h:RX X mk al st r):rW X mk al (st::be) r:=fun pins s σ H B E n E' I fr e k=>
  wpAny_execs_cons (wpAny_mono (h pins s σ H B E n E' I fr e k) (fun _ _ z=>z.elim) fun _ _ z=>z)
theorem oa (h1:SX X.nox st g) (h2:rW X mk al be r):rW X mk al (st::be) (n8 g r):=fun pins s σ H B E n E' I fr e k=>by
  unfold n8 at e
  split at e
  · rename_i E1 eg
    have q:=h1 pins s σ H {nx:=fun σ' H'=>Frm X.K B σ' H' E1 [] [],bk:=fun _ _=>False,ct:=fun _ _=>False,rt:=fun _ _=>False} (I.wish _) ⟨B,E,[],[],E1, .nx,fr,rfl,eg,fun σ' H' f=>f⟩
    refine wpAny_execs_cons (wpAny_mono q (fun f s1 z=>?_) fun _ _ z=>z.elim)
    cases f with
    | next=>obtain ⟨σ',H',I',fr'⟩:=z;exact h2 pins s1 σ' H' B E1 n E' I'.unwish fr' e k
    | brk=>obtain ⟨_,_,_,z⟩:=z;exact z.elim
    | cont=>obtain ⟨_,_,_,z⟩:=z;exact z.elim
    | ret u=>obtain ⟨_,_,_,_,_,z⟩:=z;exact z.elim
  · cases e
theorem tj (hc:TX X.nox c m t) (h:rW X mk al a r):RX X mk al (.If c a b pos) (tW t r):=fun pins s σ H B E n E' I fr e k=>by
  unfold tW at e
  split at e
  · rename_i E1 et
    have q:=hc pins s σ H (fun bb H1=>bb=true∧Frm X.K B σ H1 E1 [] []) (I.wish _) ⟨B,E,[],[],true,E1,fr,fun _=>Calm.nil rfl,et,fun H1 f=>⟨rfl,f⟩⟩
    refine wpAny_If (wpAny_mono q (fun bb s1 z=>?_) fun _ _ z=>z.elim)
    obtain ⟨H1,I1,rfl,fr1⟩:=z
    exact h pins s1 σ H1 B E1 n E' I1.unwish fr1 e k
  · cases e
end
end PL
namespace PL
open PySem PySem.Spec PyProof.Rows L2 Nh
abbrev u7:List Value:=[.type "ValueError", .type "Exception", .type "BaseException", .type "object"]
structure XC (K:PySem.W.Frag) (mg:Str→Option Value) (x:Str) (C:Addr):Prop where
  ns:PySem.W.nsIn K mainGlobals x=some (some (.ref C))
  mg:mg x=some (.ref C)
  ex:PySem.W.excIn K C u7 "ValueError.__new__"=true
  cls:ExCls K C
theorem rq {K:PySem.W.Frag} {h:Heap} {mg:Str→Option Value} {x:Str} {C:Addr} {bmB:List Value} {newId:String} (X:K.In h) (m:mg x=some (.ref C)) (q:PySem.W.excIn K C bmB newId=true):OwnCls x C bmB newId mg h:=by
  refine ⟨m,?_⟩
  unfold PySem.W.excIn at q
  split at q
  · rename_i dd cd sl ho
    split at q
    · rename_i C' bm k0 k1 k2 k3 n k5 hm hs
      simp only [Bool.and_eq_true,beq_iff_eq,Bool.not_eq_true'] at q
      obtain ⟨⟨⟨⟨⟨rfl,rfl⟩,hdel⟩,ht⟩,hok⟩,hni⟩:=q
      obtain ⟨nm,bs,mro,ns,qn,hd,sn,sub,ab,col,del⟩:=cd
      dsimp only at hm hdel hok hni
      subst hm hdel
      have hsl:sl=#[k0,k1,k2,k3,some (.builtin n),k5]:=by
        obtain ⟨l⟩:=sl
        simp only at hs
        rw [hs]
      subst hsl
      exact ⟨bm,ns,nm,qn,bs,hd,sn,sub,ab,col,dd,k0,k1,k2,k3,k5,_,X _ _ ho, .of_isNs (PySem.W.isNs_of_in X hok),PySem.W.nsMap_none_of_in X hok hni,PySem.W.tail_of_in X ht⟩
    · cases q
  · cases q
section
variable {X:Cx} {mk al:Bool} {x:Str} {C:Addr} {np p cpos pos:Pos}
theorem og {tx:Str} {j:Nat} (hcalm:X.calm=true) (hg:Gl X x) (Z:XC X.K X.mg x C) (hd:(x == ("__debug__":Str))=false:=by decide)
    (he:starEach [.Constant (.str tx) j p] X.env=[(false,eval (.Constant (.str tx) j p) X.env)]:=by rfl):
    RX X true al (.Raise (some (.Call (.Name x np) [.Constant (.str tx) j p] [] cpos)) none pos) (n_ x):=fun pins s σ H B E n E' I fr e k=>by
  cases e
  obtain ⟨tl,N,nm,q,bs,hdct,sn,sub,ab,col,dd,k0,k1,k2,k3,k5,mN,hC,hN,hni,T⟩:=(rq I.ok.mod.kin Z.mg Z.ex).obj
  refine wpAny_Raise_call_subT (C:=C) (nm:=nm) (q:=q) (N:=N) (bs:=bs) (bm:=tl) (hdct:=hdct) (sn:=sn) (sub:=sub) (ab:=ab) (col:=col) (dd:=dd) (k0:=k0) (k1:=k1) (k2:=k2) (k3:=k3) (k5:=k5)
    PySem.F.excBase_ValueError (mN:=mN) (T.hasType PySem.F.excBase_ValueError.hasBase) (I.ok.hd hcalm) (by rw [he];rfl) hni (eZ I hg Z.mg ⟨rfl,?_⟩ hd)
  have q1:=b6 (X:=X) (mz (x:=tx) (j:=j) (pos:=p)) d0 he cpos pins s σ H (fun vs H1=>vs=[.str tx]∧H1=H) I ⟨rfl,rfl⟩
  rw [he] at q1 ⊢
  refine Calls.evalArgs_plain (b5 q1 fun vs s2 ⟨us,H2,I2,r,eu,eH⟩=>?_)
  subst eu eH
  have fin:=(k pins (fun _=>rfl) σ C H2 Z.ns fr).1 rfl
  exact ⟨rfl,by rw [←r.length];exact Nat.le_of_ble_eq_true rfl,I2.bk _ _ hC,hN.keeps I2.bk,T.keeps I2.bk,fun h' ea hm=>fin s2 h' ea vs I2 hm⟩
end
def tm (K:PySem.W.Frag) (r:List PyData→Option Str):Sp:=fun vs H _ E=>∃ds n,r ds=some n∧RpA K H vs ds∧∀C H',PySem.W.nsIn K mainGlobals n=some (some (.ref C))→Same H H'→E (.ref C) none H'
structure OwnR (P:Program) (w:World) (K:PySem.W.Frag) (mg:Str→Option Value) (base:Heap) (k:Nat) (x:Str) (ps:List Str) (sp:Sp):Prop where
  ex:∃(f:Addr) (fd:FuncData),FnOk P w K mg base (p3 P w) k f fd ps sp∧Binds K fd ps []∧mg x=some (.ref f)∧PySem.W.keepIn K (.ref f)=true
def jY (r:List PyData→Option Str) (g:jc):lB:=fun E=>(g E).bind fun a=>(aG a.2 a.1).bind fun ds=>(r ds).map fun n=>(n,a.2)
section
variable {X:Cx} {k:Nat} {x:Str} {ps:List Str} {r:List PyData→Option Str} {p pos cpos:Pos} {e:Expr} {es:List Expr} {m:Bool} {g:jc}
theorem mj (D:OwnR X.prog X.w X.K X.mg X.base k x ps (tm X.K r)) (hr:Room k X.A) (hg:Gl X x) (ha:AX X.nox (e::es) m g) (hdb:(x == ("__debug__":Str))=false) (he:starEach (e::es) X.env=(false,eval e X.env)::starEach es X.env) (hpl:(backTo pos (starEach es X.env)).any (·.1)=false)
    {pins:List (Addr×Obj)} {s:Shared} {σ:L2.St} {H B:Hp} {E E':List Sl} {n:Str} (I:Inv X pins σ H s) (fr:Frm X.K B σ H E [] []) (ee:jY r g E=some (n,E')) (k:∀C H',PySem.W.nsIn X.K mainGlobals n=some (some (.ref C))→Frm X.K B σ H' E' [] []→pz X C pins σ H'):
    wpAny (model X.prog X.w) X.A (eval (.Call (.Name x p) (e::es) [] pos) X.env) (fun _ _=>False) X.xe s:=by
  obtain ⟨f,fd,F,b,mx,kp⟩:=D.ex
  obtain ⟨⟨rs,E1⟩,e1,ee⟩:=Option.bind_eq_some_iff.mp ee
  obtain ⟨ds,e2,ee⟩:=Option.bind_eq_some_iff.mp ee
  obtain ⟨n',e3,ee⟩:=Option.map_eq_some_iff.mp ee
  cases ee
  refine wpAny_Call_Name_kw (eZ I hg mx ?_ hdb)
  have q1:=ha pos pins s σ H (fun vs H1=>vs.length=rs.length∧Frm X.K B σ H1 E1 (vs.reverse++[]) (rs.reverse++[])) (I.wish _) ⟨B,E,[],[],rs,E1,fr,fun _=>Calm.nil rfl,e1,fun vs H1 hl f=>⟨hl,f⟩⟩
  refine PySem.W.callWith_K (h₀:=X.base) I.ok.mod.kin kp (wpAny_mono q1 (fun us s1 ⟨vs,H1,I1,rv,hl,F1,A1,fr1⟩=>⟨I1.kIn,?_⟩) fun _ _ z=>z.elim) he hpl
  have I1:=I1.unwish
  obtain ⟨r1,A',fr2⟩:=fr1.looks hl e2
  have hlen:(us++[]).length=ps.length:=by
    rw [List.append_nil,←rv.length]
    exact F.len vs H1 (fun _ _=>False) (fun _ _ _=>True) ⟨ds,n,e3,r1,fun _ _ _ _=>trivial⟩
  have bd:=b s1 us I1.kIn hlen
  rw [List.append_nil] at bd
  refine wpAny_call (codeAny_mono (F.run X.A X.stack s1 H1 ⟨us,[]⟩ us vs (fun _ _=>False) (fun c _ H'=>∃C,c= .ref C∧PySem.W.nsIn X.K mainGlobals n=some (some (.ref C))∧Same H1 H') hr I1.env0 bd rv ⟨ds,n,e3,r1,fun C H' z g=>⟨C,rfl,z,g⟩⟩) fun rr s' hq=>?_)
  cases rr with
  | error er=>
    obtain ⟨H',ea,C,a0,B',rfl,⟨C',eC,ns,g⟩,os,bare,fl,hok,u⟩:=hq
    cases eC
    exact k C H' ns ⟨_,_,fr2.grow g⟩ H1 s1 ea s' a0 B' I1 os bare fl hok u
  | ok fl=>
    cases fl with
    | ret u=>obtain ⟨_,_,_,_,_,_,_,z⟩:=hq;exact z
    | next=>exact False.elim hq
    | brk=>exact False.elim hq
    | cont=>exact False.elim hq
theorem pD (D:OwnR X.prog X.w X.K X.mg X.base k x ps (tm X.K r)) (hr:Room k X.A) (hg:Gl X x) (ha:AX X.nox (e::es) m g) (hs:swapsWith (.Call (.Name x p) (e::es) [] cpos) none pos.line X.env=pure false:=by rfl) (hdb:(x == ("__debug__":Str))=false:=by decide) (he:starEach (e::es) X.env=(false,eval e X.env)::starEach es X.env:=by rfl) (hpl:(backTo cpos (starEach es X.env)).any (·.1)=false:=by rfl) {mk al:Bool}:
    RX X mk al (.Expr (.Call (.Name x p) (e::es) [] cpos) pos) (jY r g):=fun pins s σ H B E n E' I fr ee k=>
  wpAny_Expr_any (b5 (mj D hr hg ha hdb he hpl I fr ee fun C H' z f=>(k pins (fun _=>rfl) σ C H' z f).2.1) fun _ _ z=>z.elim) I.quiet hs
end
def tu (k n:Nat) (r:lB):List PyData→Option Str:=fun ds=>if ds.length=k then (r (aM n ds)).map (·.1) else none
theorem uM {P:Program} {w:World} {K:PySem.W.Frag} {mg:Str→Option Value} {base:Heap} {x:Str} {st:Stmt} {N ps:List Str} {k a n:Nat} {r:lB} {mk al:Bool} (D:Def K mg x st ps) (S:FnScope N ps (ai st)) (hpa:ps.length=a) (hNn:N.length=n) (hps:a≤n)
    (hbody:∀(f:Addr) (cdv:Value) (A:Around) (outer:List Env) (s:Shared) (H:Hp) (E:XK),Room k (A.deeper (PyProof.Rows.envOfC x (ai st) s.heap.objs.size f cdv))→
      rW (eK (p3 P w) P w K mg base N x (ai st) f cdv A outer s H E) mk al (aE st) r):OwnR P w K mg base (k+1) x ps (tm K (tu a n r)):=by
  subst hpa hNn
  obtain ⟨f,fd,F,mx,b⟩:=D.ex
  have kp:=F.kp
  obtain ⟨oc,od,kV,doc,pm,an,cdv,ct,osl,rfl,lk,hcd⟩:=F.ex
  refine ⟨f,_,pR lk hcd S (fun vs H Q E h=>?_) fun A outer s H vs Q E hr h=>?_,b,mx,kp⟩
  · obtain ⟨ds,n,e,rp,_⟩:=h
    unfold tu at e
    split at e
    · rename_i hl
      rw [rp.len];exact hl
    · cases e
  obtain ⟨ds,n,e,rp,q⟩:=h
  unfold tu at e
  split at e
  · rename_i hl
    obtain ⟨⟨n',E'⟩,er,z⟩:=Option.map_eq_some_iff.mp e
    cases z
    refine ⟨fun D σ H'=>σ=de N vs∧H'=H,fun pins s1 σ H1 D I z=>?_,rfl,rfl⟩
    obtain ⟨rfl,rfl⟩:=z
    refine b5 (hbody f cdv A outer s H1 E hr pins s1 _ H1 H1 (aM N.length ds) n' E' I ⟨H1,[],gJ rp (by omega)⟩ er fun _ _ σ' C H' ns ⟨F',A',fr'⟩=>?_) fun _ _ z=>z.elim
    have hE:=q C H' ns (fr'.bf.trans fr'.fh)
    exact ⟨fun _=>pA hE,rn hE,fun _=>pB hE⟩
  · cases e
end PL
namespace PL
open PySem PySem.Spec PyProof.Rows L2 Nh
abbrev hX (X:Cx) (ea:Addr):Cx:={X with A:=X.A.mark (some (.ref ea)),calm:=false,xe:=fun _ _=>False}
section
variable {X:Cx} {pins:List (Addr×Obj)} {σ:L2.St} {H:Hp} {s:Shared} {ea:Addr}
theorem lC (I:Inv X pins σ H s):Inv (hX X ea) pins σ H s:=
  let ok:=I.ok
  ⟨⟨ok.mod,ok.kind,ok.glob,ok.blt,ok.above,ok.inj,ok.has,ok.cab,fun z=>(nomatch z),ok.frames,ok.stk,ok.exf,ok.bs,ok.bsz,ok.noex,ok.exfs,ok.funs,ok.frf,ok.tab⟩,I.os,I.bare,I.base,I.loc,I.cell,I.free,I.freeC,I.pin,I.hok,I.len⟩
theorem oh (I:Inv (hX X ea) pins σ H s) (ok:X.Ok):Inv X pins σ H s:=⟨ok,I.os,I.bare,I.base,I.loc,I.cell,I.free,I.freeC,I.pin,I.hok,I.len⟩
theorem ml {a:Addr} {o:HO} (I:Inv X pins σ H s) (hn:H a=none) (h0:X.s₀.heap.get? a=none) (hL:X.env.locals≠a) (hc:∀x c,X.env.cells.lookup x=some c→c≠a) (hp:∀p∈X.pn++pins,p.1≠a) (ok:ObjOk X.prog X.w (upd H a o) s.heap a o):Inv X pins σ (upd H a o) s:=by
  have ne:∀b u,H b=some u→b≠a:=fun b u e=>bK e hn
  refine ⟨I.ok,I.os,I.bare,⟨I.base.keep,I.base.slot,fun b u e n hx=>?_,I.base.there,fun b xs e=>?_,fun b u v e=>?_,fun b q e=>?_⟩,I.loc,I.cell,?_,fun x c e=>?_,fun p q=>?_,fun b u e=>?_,I.len⟩
  · rw [az (fun z=>by rw [z,h0] at e;cases e)];exact I.base.free b u e n hx
  · have z:=I.base.tups b xs e
    rw [az (ne _ _ z)];exact z
  · have z:=I.base.frzs b u v e
    rw [az (ne _ _ z)];exact z
  · have z:=I.base.tbls b q e
    rw [az (ne _ _ z)];exact z
  · rw [az hL];exact I.free
  · rw [az (hc x c e)];exact I.freeC x c e
  · obtain ⟨e1,e2,e3⟩:=I.pin p q
    exact ⟨e1,by rw [az (hp p q)];exact e2,e3⟩
  · by_cases hb:b=a
    · subst hb;rw [bi] at e;cases e;exact ok
    · rw [az hb] at e
      refine (I.hok b u e).stay (fun c w' _ q=>q) (fun c q=>?_) fun c xs q=>?_
      · rw [az (ne _ _ q)];exact q
      · rw [az (ne _ _ q)];exact q
theorem oi {M:Model} {A:Around} {E:Value→Shared→Prop} {i:Nat} {x:Str} {pos:Pos} {Q:Unit→Shared→Prop} (I:Inv X pins σ H s) (hN:X.N.Nodup) (hi:X.N[i]? =some x) (hk:X.env.scope.names.lookup x=some .local)
    (h:∀s',Inv X pins (σ.set i none) H s'→Q () s'):wpAny M A (do bindName X.env x .none;unbindBehindTheSuite X.env x pos) Q E s:=by
  obtain ⟨m,hn,hl⟩:=id I.loc
  have hcls:(X.env.scope.kind == .class||(X.env.scope.kind == .module&&X.env.locals != X.env.globals))=false:=by rw [I.ok.kind];rfl
  have hiσ:i < σ.length:=by rw [I.len];exact (List.getElem?_eq_some_iff.mp hi).1
  have cne:=I.cne
  refine wpAny_nameGoes_keeps hk hn hcls fun h' v hn' hs=>?_
  obtain ⟨oL,_,_,hoL,_⟩:=id hn
  refine h _ ⟨I.ok,I.os,I.bare,⟨fun b o e n hb hx=>?_,fun b o e n hb hx=>?_,I.base.free,fun b o e hx=>?_,I.base.tups,I.base.frzs,I.base.tbls⟩,⟨_,hn',fun j y v' e1 e2 e3=>?_⟩,fun y c e=>?_,I.free,I.freeC,fun p hp=>?_,fun b ob e=>?_,by simpa using I.len⟩
  · exact (hs.2 b (Nat.ne_of_lt (Nat.lt_of_lt_of_le (Heap.lt_size e) I.ok.above))).trans (I.base.keep b o e n hb hx)
  · obtain ⟨sl,e1⟩:=I.base.slot b o e n hb hx
    exact ⟨sl,(hs.2 b (Nat.ne_of_lt (Nat.lt_of_lt_of_le (Heap.lt_size e) I.ok.above))).trans e1⟩
  · obtain ⟨o',e1⟩:=I.base.there b o e hx
    exact ⟨o',(hs.2 b (Nat.ne_of_lt (Nat.lt_of_lt_of_le (Heap.lt_size e) I.ok.above))).trans e1⟩
  · by_cases hj:j=i
    · subst hj
      rw [List.getElem?_set_self hiσ] at e2
      cases e2
    · rw [List.getElem?_set_ne (Ne.symm hj)] at e2
      obtain ⟨u',r',q⟩:=hl j y v' e1 e2 e3
      refine ⟨u',r',?_⟩
      rcases q with ⟨k,e⟩ | ⟨k,c,e,z⟩
      · refine .inl ⟨k,?_⟩
        have:y≠x:=fun e=>hj (gQ hN e1 (e▸hi))
        simp [this,e]
      · exact .inr ⟨k,c,e,z.sameBut hs (cne y c e)⟩
  · obtain ⟨w',z⟩:=I.cell y c e
    exact ⟨w',z.sameBut hs (cne y c e)⟩
  · obtain ⟨e,n,ne,nf,d⟩:=I.pin p hp
    exact ⟨(hs.2 p.1 ne).trans e,n,ne,nf,d⟩
  · refine (I.hok b ob e).stay (fun c w' hc q=>(hs.2 c ?_).trans q) (fun _ q=>q) fun _ _ q=>q
    rintro rfl
    rcases hc with rfl | hc
    · rw [I.free] at e;cases e
    · rw [I.free] at hc;cases hc
end
abbrev mn (n:Str):PyData:= .dict [(.none, .str n)]
def pE (ok:List Str) (i:Nat) (r:lB) (g h:cc):cc:=fun E=>match r E with
  | none=>g E
  | some (n,E')=>if n∈ok∧i < E'.length then match h (E'.set i (.sh (mn n))) with
    | some (E2, .rt s)=>some (E2, .rt s)
    | _=>none
    else none
theorem pF {X:Cx} {body:List Stmt} {cn en:Str} {CH:Addr} {np hpos pos:Pos} {b₀:Stmt} {suite:List Stmt} {ok:List Str} {i:Nat} {r:lB} {g hs:cc} (hx:X.xe=fun _ _=>False) (hN:X.N.Nodup) (hex:X.ex=[]) (hst:X.stack=X.env::X.outer) (hfr:X.env.frame=some X.env.locals) (hg:Gl X cn) (hm:X.mg cn=some (.ref CH))
    (hok:∀n∈ok,∀C,PySem.W.nsIn X.K mainGlobals n=some (some (.ref C))→PySem.W.exmOne X.K (.ref C) (.ref CH)=some true) (hb:lh X body g) (hr:∀W,rW (X.wish W) false false body r) (hh:∀ea,lh (hX X ea) (b₀::suite) hs)
    (hi:X.N[i]? =some en:=by rfl) (hk:X.env.scope.names.lookup en=some .local:=by rfl) (hdb:(cn == ("__debug__":Str))=false:=by decide):
    SX X (.Try body [.ExceptHandler (some (.Name cn np)) (some en) (b₀::suite) hpos] [] [] pos) (pE ok i r g hs):=by
  intro pins s σ H D I hw
  obtain ⟨B,E,xs,Xs,E2,fl,fr,cl,e,q⟩:=hw
  subst cl
  have hxs:xs=[]:=by obtain ⟨_,_,f⟩:=fr;simpa using f.len
  subst hxs
  unfold pE at e
  split at e
  · have q:=hb pins s σ H D I ⟨B,E,[],[],E2,fl,fr,rfl,e,q⟩
    rw [hx] at q
    refine wpAny_Try_except (wpAny_mono q (fun f s1 z=>?_) fun _ _ z=>z.elim)
    cases f with
    | next=>exact wpAny_execs_nil z
    | brk=>exact z
    | cont=>exact z
    | ret u=>exact z
  · rename_i n E' er
    split at e
    rotate_left
    · cases e
    rename_i hc
    split at e
    rotate_left
    · cases e
    rename_i E3 sv eh
    cases e
    refine wpAny_Try_except (wpAny_mono (hr (fun e s₁=>wpAny (model X.prog X.w) X.A (noteFrame e X.env) (fun _ s₂=>wpAny (model X.prog X.w) X.A (setFlight e none) (fun _ s₃=>wpAny (model X.prog X.w) X.A (handleBy e X.env [.ExceptHandler (some (.Name cn np)) (some en) (b₀::suite) hpos]) (SP X pins D) X.xe s₃) X.xe s₂) X.xe s₁) pins s σ H B E n E' (I.wish _) fr er fun pp hp σ' C H' ns fr'=>⟨fun z=>(nomatch z),?_,fun z=>(nomatch z)⟩) (fun _ _ z=>z.elim) fun _ _ z=>z)
    cases hp rfl
    intro H1 s1 ea s' a0 Bb I1 os bare fly hokB u
    have I1:Inv X pins σ' H1 s1:=I1.unwish
    have ff:s'.heap.FunFrames Bb X.stack:=fly.2.2.1
    have fly':Heap.FlyingW Bb (X.env::X.outer) ea (.ref C) a0 s'.heap:=hst▸fly
    have invAt:∀h5,Bb.StaysIn h5→s'.heap.UpToSlots h5→Inv X pins σ' H' {s' with heap:=h5}:=fun h5 st k=>by
      have u2:UnB (gA X.stack) H1 H' s1.heap Bb h5:=u.on ff k
      exact I1.call' (s':={s' with heap:=h5}) os (u2.un st I1.stkFree) (hokB.kept fun b o e=>st b o e) bare fun b z=>(nomatch z)
    refine wpAny_looks_onW (by rw [I1.ok.frames,hst]) hfr fly' fun h4 held4 k4=>?_
    refine wpAny_landsW held4 fun h5 fly5 k5=>?_
    have I5:=invAt h5 fly5.1 (k4.trans k5)
    obtain ⟨ob,hob,hobc⟩:=fly5.there
    have Z5:dP ea C h5:=⟨ob,hob,hobc⟩
    refine wpAny_handleBy_cons (codeAny_handlers_test (eZ (X:=hX X ea) (lC I5) hg hm ?_ hdb)) (by intro q;cases q)
    refine (PySem.W.exm_one (I5.kIn) (gu Z5) (hok n hc.1 C ns)).here ?_
    refine codeAny_handlers_suite_as ?_
    refine lands_againW fly5 fun h6 fly6 k6=>?_
    have I6:=invAt h6 fly6.1 ((k4.trans k5).trans k6)
    obtain ⟨oe,vs,hoe,hoec,hoed,_⟩:=fly6.first
    have nB:Bb.get? ea=none:=fly6.2.1
    have old:∀b o,s1.heap.get? b=some o→b≠ea:=fun b o eb z=>by
      subst z
      by_cases hf:b∈gA X.stack
      · obtain ⟨_,o',ho',hd⟩:=(show h6.FunFrames Bb X.stack from hst▸fly6.2.2.1).mem hf
        rw [hoe] at ho'
        cases ho'
        exact hd vs hoed
      · obtain ⟨o',ho'⟩:=u.there b o eb hf
        rw [nB] at ho'
        cases ho'
    have hn6:H' ea=none:=by
      cases q:H' ea with
      | none=>rfl
      | some o=>
        obtain ⟨z,e⟩:=jW (hokB ea o q)
        rw [nB] at e
        cases e
    have I7:Inv X pins σ' (upd H' ea (.ext (dP ea C))) {s' with heap:=h6}:=by
      refine ml I6 hn6 ?_ ?_ (fun x c e=>?_) (fun p hp=>?_) ?_
      · cases q:X.s₀.heap.get? ea with
        | none=>rfl
        | some o=>
          obtain ⟨o',z⟩:=I1.base.there ea o q (by rw [hex];exact fun z=>(nomatch z))
          exact absurd rfl (old ea o' z)
      · obtain ⟨_,⟨o,_,_,ho,_⟩,_⟩:=I1.loc
        exact old _ o ho
      · obtain ⟨v,o,ho,_⟩:=I1.cell x c e
        exact old _ o ho
      · exact old _ _ (I1.pin p hp).1
      · exact ⟨⟨oe,hoe,hoec⟩,⟨oe,hoe⟩,fun h1 h2 ⟨o,z,c⟩ k=>⟨o,k o z,c⟩⟩
    refine gR (X:=X) I7 hN hi (.inl hk) (v:= .ref ea) rfl (fun s8 I8=>?_) (.inr hk)
    have g:Same H' (upd H' ea (.ext (dP ea C))):=fun b o e=>by rw [az (bK e hn6)];exact e
    obtain ⟨F',A',fr1⟩:=fr'
    have fr2:=fr1.grow g
    have nA:ea∉A':=fun z=>by
      rcases fr1.mutA ea z with ⟨_,w⟩ | ⟨_,w⟩ <;> rw [hn6] at w <;> cases w
    have fr3:=fr2.push (v:= .ref ea) (s:= .sh (mn n)) ⟨rfl,_,rfl, .exc (by show (if ea∈A' then none else _)=_;rw [if_neg nA];exact bi) ns⟩
    obtain ⟨A3,fr4⟩:=fr3.store rfl (fun _ z=>(nomatch z)) hc.2
    have q8:=hh ea pins s8 _ _ {nx:=fun _ _=>False,bk:=fun _ _=>False,ct:=fun _ _=>False,rt:=fun v H9=>∃σ9,Frm X.K B σ9 H9 E2 [v] [sv]} (lC I8) ⟨B,_,[],[],E2, .rt sv,⟨_,A3,fr4⟩,rfl,eh,fun σ9 v H9 f=>⟨σ9,f⟩⟩
    refine wpAny_mono q8 (fun f s9 z=>?_) fun _ _ z=>z.elim
    cases f with
    | next=>obtain ⟨_,_,_,z⟩:=z;exact z.elim
    | brk=>obtain ⟨_,_,_,z⟩:=z;exact z.elim
    | cont=>obtain ⟨_,_,_,z⟩:=z;exact z.elim
    | ret uu=>
      obtain ⟨v,σ9,H9,I9,rv,σx,fx⟩:=z
      have I9:Inv X pins σ9 H9 s9:=oh I9 I.ok
      exact oi I9 hN hi hk fun s10 I10=>⟨v,_,H9,I10,rv,q _ v H9 fx⟩
end PL
namespace PL
open PySem PySem.Spec PyProof.Rows L2 Nh
def XT (K:PySem.W.Frag) (c:Value) (tab:List (Str×Bool)):Prop:=∀n b C,tab.lookup n=some b→PySem.W.nsIn K mainGlobals n=some (some (.ref C))→ExCls K C∧PySem.W.kitOne K (.ref C) c=some b
theorem dB {K:PySem.W.Frag} {c:Value}:XT K c []:=fun _ _ _ e=>nomatch e
theorem cH {K:PySem.W.Frag} {c:Value} {n:Str} {C:Addr} {b:Bool} {tab:List (Str×Bool)} (ns:PySem.W.nsIn K mainGlobals n=some (some (.ref C))) (Z:ExCls K C) (k:PySem.W.kitOne K (.ref C) c=some b) (h:XT K c tab):XT K c ((n,b)::tab):=fun n' b' C' e ns'=>by
  rw [List.lookup_cons] at e
  split at e
  · rename_i q
    rw [beq_iff_eq] at q
    subst q
    rw [ns] at ns'
    cases ns'
    cases e
    exact ⟨Z,k⟩
  · exact h n' b' C' e ns'
def eO (tab:List (Str×Bool)):PyData→Option PyData
  | .dict [(.none, .str n)]=>(tab.lookup n).map .bool
  | _=>none
theorem rz {K:PySem.W.Frag} {H:Hp} {v:V} {n:Str} (r:Rp K H v (.dict [(.none, .str n)])):∃a C,v= .ref a∧H a=some (.ext (dP a C))∧PySem.W.nsIn K mainGlobals n=some (some (.ref C)):=by
  generalize e:PyData.dict [(PyData.none,PyData.str n)]=d at r
  cases r with
  | exc h1 h2=>cases e;exact ⟨_,_,rfl,h1,h2⟩
  | dct h1 h2=>
    cases h2 with
    | nil=>cases e
    | @cons k x us d kvs a b=>cases k <;> cases e
  | _=>cases e
section
variable {X:Cx} {e:Expr} {m1:Bool} {f:b7} {p p2 pos:Pos}
theorem mq {c:Value} {vc:V} {tab:List (Str×Bool)} (rc:∀u,RelV vc u→u=c) (T:XT X.K c tab):CallR X (.builtin "isinstance") (fun xs H Q=>∃x d r,xs=[x,vc]∧Rp X.K H x d∧eO tab d=some r∧∀b,r= .bool b→Q (.bl b) H):=by
  intro pins s σ H xs us Q I r h
  obtain ⟨x,d,r',rfl,rp,hd,q⟩:=h
  obtain ⟨u,w',rfl,ru,rw'⟩:=r.two
  cases rc w' rw'
  unfold eO at hd
  split at hd
  · rename_i n
    obtain ⟨b,eb,z⟩:=Option.map_eq_some_iff.mp hd
    obtain ⟨a,C,rfl,ha,ns⟩:=rz rp
    obtain ⟨Z,k⟩:=T n b C eb ns
    cases (show u=Value.ref a from ru)
    exact PySem.W.kia_one (n4 Z) I.kIn (show dP a C s.heap from (I.hok a _ ha).1) k (fun z=>nomatch z) fun tk=>⟨.bl b,H,I.tok _,rfl,q b z.symm⟩
  · cases hd
theorem lD {c:Value} {vc:V} {tab:List (Str×Bool)} (rc:∀u,RelV vc u→u=c) (T:XT X.K c tab) (hg:Gl X "isinstance") (hm:X.mg "isinstance"=none) (ha:EX X e m1 f) {x:Str} (h2:PE X (.Name x p2) (tC vc))
    (he:starEach [e, .Name x p2] X.env=(false,eval e X.env)::starEach [.Name x p2] X.env) (he2:starEach [.Name x p2] X.env=[(false,eval (.Name x p2) X.env)]) (hpl:(backTo pos (starEach [.Name x p2] X.env)).any (·.1)=false):
    EX X (.Call (.Name "isinstance" p) [e, .Name x p2] [] pos) m1 (cy (eO tab) f):=by
  refine bp (gW (mq rc T) hg hm PyProof.Rows.boot_isinstance (b6 ha (b6 h2 d0 he2) he) (by decide) (by decide) he hpl) fun σ H Q z=>?_
  obtain ⟨B,E,xs,Xs,res,E',fr,cl,e,q⟩:=z
  obtain ⟨⟨s,E1⟩,e1,e⟩:=Option.bind_eq_some_iff.mp e
  obtain ⟨d1,e2,e⟩:=Option.bind_eq_some_iff.mp e
  obtain ⟨d2,e3,e⟩:=Option.map_eq_some_iff.mp e
  cases e
  refine ⟨B,E,xs,Xs,s,E1,fr,cl,e1,fun v1 H1 ⟨F,A,fr1⟩=>?_⟩
  obtain ⟨A',fr2⟩:=fr1.pop
  exact ⟨v1,d1,d2,rfl,(fr1.look0 e2).1,e3,fun b z=>q _ _ ⟨F,A',fr2.push ⟨rfl,_,rfl,z▸ .bl b⟩⟩⟩
theorem cW {C:Addr} {tab:List (Str×Bool)} (hg:Gl X "isinstance") (hm:X.mg "isinstance"=none) (ha:EX X e m1 f) {x:Str} (hgx:Gl X x) (hmx:X.mg x=some (.ref C)) (T:XT X.K (.ref C) tab) (hdx:(x == ("__debug__":Str))=false:=by decide)
    (he:starEach [e, .Name x p2] X.env=(false,eval e X.env)::starEach [.Name x p2] X.env:=by rfl) (he2:starEach [.Name x p2] X.env=[(false,eval (.Name x p2) X.env)]:=by rfl) (hpl:(backTo pos (starEach [.Name x p2] X.env)).any (·.1)=false:=by rfl):
    EX X (.Call (.Name "isinstance" p) [e, .Name x p2] [] pos) m1 (cy (eO tab) f):=lD (vc:= .ref C) (fun _ z=>z) T hg hm ha (kN (v:= .ref C) hgx hmx rfl hdx) he he2 hpl
theorem pG {t:String} {tab:List (Str×Bool)} (hg:Gl X "isinstance") (hm:X.mg "isinstance"=none) (ha:EX X e m1 f) {x:Str} (hgx:Gl X x) (hmx:X.mg x=none) (hbx:bootBuiltins x=some (.type t)) (T:XT X.K (.type t) tab) (hnx:x≠"__name__":=by decide) (hdx:(x == ("__debug__":Str))=false:=by decide)
    (he:starEach [e, .Name x p2] X.env=(false,eval e X.env)::starEach [.Name x p2] X.env:=by rfl) (he2:starEach [.Name x p2] X.env=[(false,eval (.Name x p2) X.env)]:=by rfl) (hpl:(backTo pos (starEach [.Name x p2] X.env)).any (·.1)=false:=by rfl):
    EX X (.Call (.Name "isinstance" p) [e, .Name x p2] [] pos) m1 (cy (eO tab) f):=lD (vc:= .ty t) (fun _ z=>z) T hg hm ha (kO (v:= .ty t) hgx hmx hbx rfl hnx hdx) he he2 hpl
end
structure RoomH (k:Nat) (A:Around):Prop where
  dp:A.depth+3*k+5 < recursionLimit
  un:A.units+16*k+200 < cLine
theorem RoomH.mono {j k:Nat} {A:Around} (r:RoomH k A) (h:j≤k):RoomH j A:=⟨by have:=r.dp;omega,by have:=r.un;omega⟩
theorem RoomH.deeper {k:Nat} {A:Around} (r:RoomH (k+1) A) (env:Env):RoomH k (A.deeper env):=
  ⟨by have:=r.dp;show A.depth+1+3*k+5 < _;omega,by have:=r.un;show A.units+3+16*k+200 < _;omega⟩
theorem RoomH.depth {k:Nat} {A:Around} (r:RoomH k A):A.depth < recursionLimit:=by have:=r.dp;omega
theorem RoomH.units {k:Nat} {A:Around} (r:RoomH k A):A.units+64 < cLine:=by have:=r.un;omega
theorem Room.mark {k:Nat} {A:Around} (r:Room k A) (v:Option Value):RoomH k (A.mark v):=⟨r.dp,r.un⟩
abbrev tX (P:Program) (w:World) (K:PySem.W.Frag) (mg:Str→Option Value) (base:Heap) (N:List Str) (qual:Str) (scope:Scope) (f:Addr) (cd:Value) (A:Around) (outer:List Env) (s:Shared) (H:Hp) (E:XK):Cx:={eK ku P w K mg base N qual scope f cd A outer s H E with calm:=false,xe:=fun _ _=>False}
structure FnOkH (P:Program) (w:World) (K:PySem.W.Frag) (mg:Str→Option Value) (base:Heap) (k:Nat) (f:Addr) (fd:FuncData) (ps:List Str) (sp:Sp):Prop where
  len:∀vs H Q E,sp vs H Q E→vs.length=ps.length
  run:∀(A:Around) (outer:List Env) (s:Shared) (H:Hp) (args:Args) (us:List Value) (vs:List V) (Q:VK) (E:XK),RoomH k A→Env0 P w K mg base A outer s H→BindsTo s fd args (ps.zip us)→Vals vs us→sp vs H Q E→
    codeAny (model P w) A (.call (.ref f) args) (CR ku outer P w H s Q E) s
structure OwnH (P:Program) (w:World) (K:PySem.W.Frag) (mg:Str→Option Value) (base:Heap) (k:Nat) (x:Str) (ps:List Str) (sp:Sp):Prop where
  ex:∃(f:Addr) (fd:FuncData),FnOkH P w K mg base k f fd ps sp∧Binds K fd ps []∧mg x=some (.ref f)∧PySem.W.keepIn K (.ref f)=true
theorem rA {P:Program} {w:World} {K:PySem.W.Frag} {mg:Str→Option Value} {base:Heap} {k:Nat} {f:Addr} {name qual:Str} {params:Arguments} {body:List Stmt} {scope:Scope} {dV kV doc pm cdv ct oc:Value} {an od:Option Addr}
    {osl:Array (Option Value)} {N ps:List Str} {sp:Sp} (lk:K.lookup f=some ⟨oc,od, .func (PySem.W.fnOf name qual params body scope dV kV doc pm an cdv ct),osl⟩) (hcd:PySem.W.codeIn K cdv qual=true) (S:FnScope N ps scope)
    (len:∀vs H Q E,sp vs H Q E→vs.length=ps.length)
    (hbody:∀(A:Around) (outer:List Env) (s:Shared) (H:Hp) (vs:List V) (Q:VK) (E:XK),RoomH k (A.deeper (envOfC qual scope s.heap.objs.size f cdv))→sp vs H Q E→
      ∃t,PSs (tX P w K mg base N qual scope f cdv A outer s H E) body t∧t {nx:=fun _ H'=>Q .non H',rt:=Q} (de N vs) H):
    FnOkH P w K mg base (k+1) f (PySem.W.fnOf name qual params body scope dV kV doc pm an cdv ct) ps sp:=by
  refine ⟨len,fun A outer s H args us vs Q E hr e0 hb r hsp=>?_⟩
  have hl:=len _ _ _ _ hsp
  have KX:K.In s.heap:=e0.mod.kin.keeps fun b o e=>(e0.bs b o e).1
  have lim:s.heap.NoLimit:=e0.mod.nolimit.keeps fun b o e=>(e0.bs b o e).1
  have hkind:∀y∈ps.zip us,scope.names.lookup y.1=some .local∨(scope.names.lookup y.1=some .cell∧((cellsFrom (s.heap.objs.size+1) scope.names []).lookup y.1).isSome=true):=fun ⟨n,v⟩ hy=>by
    rcases S.par n (List.of_mem_zip hy).1 with q | q
    · exact .inl q
    · exact .inr ⟨q,PySem.W.cellsFrom_some _ _ _ (.inl q)⟩
  refine codeAny_call_function hr.depth (KX _ _ lk) rfl S.co S.gen rfl (PySem.W.codeRec_of KX hcd) (hb _ _ _ _ ?_)
  refine wpAny_newFunctionEnv_cells S.kind hkind fun env he s1 x=>?_
  subst he
  refine ⟨lim.keeps x.toInCall.keep,codeAny_func ?_⟩
  obtain ⟨t,ht,hq⟩:=hbody A outer s H vs Q E (hr.deeper _) hsp
  have I0:Inv (eK ku P w K mg base N qual scope f cdv {A with handled:=none} outer s H E) [] (de N vs) H s1:=iH S rfl ⟨e0.frames,e0.mod,e0.bs,e0.bsz,e0.funs,e0.frf,e0.hok,e0.bare,e0.tab⟩ hl r x
  have I:Inv (tX P w K mg base N qual scope f cdv A outer s H E) [] (de N vs) H s1:=
    let ok:=I0.ok
    ⟨⟨ok.mod,ok.kind,ok.glob,ok.blt,ok.above,ok.inj,ok.has,ok.cab,fun z=>(nomatch z),Around.frames_deeper e0.frames,ok.stk,ok.exf,ok.bs,ok.bsz,ok.noex,ok.exfs,ok.funs,ok.frf,ok.tab⟩,I0.os,I0.bare,I0.base,I0.loc,I0.cell,I0.free,I0.freeC,I0.pin,I0.hok,I0.len⟩
  refine wpAny_mono (ht [] s1 (de N vs) H _ I hq) (fun fl s' hs=>?_) fun e s' hs=>hs.elim
  have fin:∀{σ':L2.St} {H':Hp} {v:V} {u:Value},Inv (tX P w K mg base N qual scope f cdv A outer s H E) [] σ' H' s'→RelV v u→Q v H'→CE outer P w H s Q u s':=
    fun {σ' H' v u} J rv q=>⟨v,H',J.os,J.bare,J.base,J.hok,rv,q⟩
  cases fl with
  | ret u=>
    obtain ⟨v,σ',H',J,rv,q⟩:=hs
    exact fin J rv q
  | next=>
    obtain ⟨σ',H',J,q⟩:=hs
    exact fin (v:=V.non) (u:=Value.none) J rfl q
  | brk=>
    obtain ⟨_,_,_,q⟩:=hs
    exact False.elim q
  | cont=>
    obtain ⟨_,_,_,q⟩:=hs
    exact False.elim q
theorem uN {P:Program} {w:World} {K:PySem.W.Frag} {mg:Str→Option Value} {base:Heap} {x:Str} {st:Stmt} {N ps:List Str} {k a n:Nat} {g:cc} (D:Def K mg x st ps) (S:FnScope N ps (ai st)) (hpa:ps.length=a) (hNn:N.length=n) (hps:a≤n)
    (hbody:∀(f:Addr) (cdv:Value) (A:Around) (outer:List Env) (s:Shared) (H:Hp) (E:XK),RoomH k (A.deeper (PyProof.Rows.envOfC x (ai st) s.heap.objs.size f cdv))→
      lh (tX P w K mg base N x (ai st) f cdv A outer s H E) (aE st) g):OwnH P w K mg base (k+1) x ps (dv K (dA a n g)):=by
  subst hpa hNn
  obtain ⟨f,fd,F,mx,b⟩:=D.ex
  have kp:=F.kp
  obtain ⟨oc,od,kV,doc,pm,an,cdv,ct,osl,rfl,lk,hcd⟩:=F.ex
  refine ⟨f,_,rA lk hcd S (fun vs H Q E h=>?_) fun A outer s H vs Q E hr h=>?_,b,mx,kp⟩
  · obtain ⟨ds,r,e,rp,_⟩:=h
    unfold dA at e
    split at e
    · rename_i hl
      rw [rp.len];exact hl
    · cases e
  obtain ⟨ds,r,e,rp,q⟩:=h
  unfold dA at e
  split at e
  · rename_i hl
    refine ⟨_,hbody f cdv A outer s H E hr,?_⟩
    obtain ⟨⟨E',fl⟩,e1,e⟩:=Option.bind_eq_some_iff.mp e
    refine ⟨H,aM N.length ds,[],[],E',fl,⟨H,[],gJ rp (by omega)⟩,rfl,e1,?_⟩
    cases fl with
    | nx=>
      cases e
      rintro σ' H' ⟨F',A',fr'⟩
      exact q _ _ (fr'.bf.trans fr'.fh) .non
    | bk=>cases e
    | ct=>cases e
    | rt r'=>
      rintro σ' v H' ⟨F',A',fr'⟩
      obtain ⟨s1,s2⟩:=fr'.resultO e
      exact q v H' s1 s2
  · cases e
theorem pH {X:Cx} {k:Nat} {x:Str} {ps:List Str} {c:List PyData→Option Sl} {p pos:Pos} {e:Expr} {es:List Expr} {m:Bool} {g:jc} (D:OwnH X.prog X.w X.K X.mg X.base k x ps (dv X.K c)) (hr:RoomH k X.A) (hg:Gl X x) (ha:AX X (e::es) m g)
    (hdb:(x == ("__debug__":Str))=false:=by decide) (he:starEach (e::es) X.env=(false,eval e X.env)::starEach es X.env:=by rfl) (hpl:(backTo pos (starEach es X.env)).any (·.1)=false:=by rfl):
    EX X (.Call (.Name x p) (e::es) [] pos) m (am c g):=by
  obtain ⟨f,fd,F,b,mx,kp⟩:=D.ex
  have hc:PE X (.Call (.Name x p) (e::es) [] pos) (mQ (dv X.K c) [] E0 (ra X.K m g)):=by
    intro pins s σ H Q I h
    refine wpAny_Call_Name_kw (eZ I hg mx ?_ hdb)
    refine PySem.W.callWith_K (h₀:=X.base) I.ok.mod.kin kp (b5 (ha pos pins s σ H _ I h) fun us s1 ⟨vs,H1,I1,r,q⟩=>⟨I1.kIn,?_⟩) he hpl
    have q:dv X.K c (vs++[]) H1 Q E0:=q
    rw [List.append_nil] at q
    have hlen:(us++[]).length=ps.length:=by rw [List.append_nil,←r.length];exact F.len _ _ _ _ q
    have bd:=b s1 us I1.kIn hlen
    rw [List.append_nil] at bd
    refine wpAny_call (codeAny_mono (F.run X.A X.stack s1 H1 ⟨us,[]⟩ us vs Q E0 hr I1.env0 bd r q) fun rr s' hq=>?_)
    cases rr with
    | error e=>exact False.elim hq
    | ok fl=>
      cases fl with
      | ret u=>exact I1.after hq
      | next=>exact False.elim hq
      | brk=>exact False.elim hq
      | cont=>exact False.elim hq
  refine bp hc fun σ H Q z=>?_
  obtain ⟨B,E,xs,Xs,res,E',fr,cl,e,q⟩:=z
  obtain ⟨⟨rs,E1⟩,e1,e⟩:=Option.bind_eq_some_iff.mp e
  obtain ⟨ds,e2,e⟩:=Option.bind_eq_some_iff.mp e
  obtain ⟨r,e3,e⟩:=Option.map_eq_some_iff.mp e
  cases e
  refine ⟨B,E,xs,Xs,rs,E1,fr,cl,e1,fun vs H1 hl ⟨F,A,fr1⟩=>?_⟩
  obtain ⟨r1,A',fr2⟩:=fr1.looks hl e2
  exact ⟨ds,res,e3,by rw [List.append_nil];exact r1,fun v H' g q'=>q v H' (fr2.told g q')⟩
end PL
namespace PL
open PySem PySem.Spec PyProof.Rows L2 Nh
theorem mr (x:Bool) (xs:List Bool):tS (.bl x) (xs.map .bl)=xs.contains x:=by
  induction xs with
  | nil=>rfl
  | cons y xs ih=>
    rw [List.contains_cons,←ih]
    show (oT (.bl y) (.bl x)||tS (.bl x) (xs.map .bl))=_
    congr 1
    cases x <;> cases y <;> rfl
def oj (neg:Bool):PyData→PyData→Option PyData
  | .bool x, .list ds=>(fV ds).map fun xs=> .bool (if neg then !xs.contains x else xs.contains x)
  | _,_=>none
section
variable {X:Cx} {a b:Expr} {m1 m2:Bool} {f g:b7} {pos:Pos}
theorem pI (neg:Bool):eG X.K (u3 X.K neg) (cm (oj neg)):=by
  refine hV fun d1 d2 d v1 v2 H Q e r1 r2=>?_
  unfold oj at e
  split at e
  · obtain ⟨xs,ex,rfl⟩:=Option.map_eq_some_iff.mp e
    cases r1
    cases r2 with
    | lst h1 h2=>
      have z:=jT h2 ex
      subst z
      exact ⟨_,rfl,fun q=>⟨_,_,rfl, .inl h1,rfl,by simp [List.all_eq_true,fP],by rw [mr];exact q⟩⟩
  · cases e
theorem pJ (ha:EX X a m1 f) (hb:EX X b m2 g) (hm:behindInMarks .NotIn b=false:=by with_unfolding_all rfl):EX X (.Compare a [.NotIn] [b] pos) (m1||m2) (ag (cm (oj true)) m2 f g):=qK i5 (pI true) ha hb hm
end
end PL
namespace Nhk25
open PySem L2 Nh PL
def fG:List (Str×Bool):=[("TooLong",false)]
def eT:List (Str×Bool):=[("TooLong",false)]
def fH:List (Str×Bool):=[("TooLong",false)]
def fI:List (Str×Bool):=[("TooLong",false)]
def fJ:List (Str×Bool):=[("TooLong",false)]
def fK:List (Str×Bool):=[("TooLong",false)]
def fL:List (Str×Bool):=[("TooLong",false)]
def ek:List (Str×Bool):=[("TooLong",false)]
def eU:List (Str×Bool):=[("TooLong",false)]
def eV:List (Str×Bool):=[("TooLong",true)]
def dC:List (Str×Bool):=[("TooLong",true)]
def aI:gD:=(dy 2 (bE (aU 2) (bE (aU 3) dw)))
def aJ:cc:=(au (aB 4 (ae 3))
  (au (aV (cz (cL (ae 1)) (cu (ag iq false (ag df false (ag df false (ae 1) (cy bM (pC (.int 1)))) (pC (.int 0))) (ae 2))))
  (aB 4 (ag aX false (ag df false (fm 1) (pC (.int 1))) (ae 3)))
  ay)
  (aV (cu (ag gp false (ae 4) (pC (.int 0))))
  (bX (aW 1 (bS (aj (ae 2) (aj (ae 4) aH)))))
  ay)))
def dh:cc:=(au (aB 1 (bH aH))
  (au (dN (eN (ae 0)) aI
  aJ)
  (aP (ae 1))))
def aA:List PyData→Option Sl:=dA 1 5 dh
def cX:gD:=(dy 2 (bE (aU 0) (bE (aU 1) dw)))
def cg:b7:=(bS (aj (ae 0) (aj (cy bM (ae 1)) aH)))
def em:cc:=(aP (ft [none,none] (jO (ae 0)) cX eR cg))
def cC:List PyData→Option Sl:=dA 1 1 em
def dD:cc:=(aP (ag bC false (tT (cu (ag (cm (bO .lt)) false (ae 1) (pC (.int 0)))) (am cC (ad false (ae 0) ap)) (ae 0)) (bj d9 (ad false (ae 1) ap))))
def bw:List PyData→Option Sl:=dA 2 2 dD
def cQ:gD:=(dy 2 (bE (aU 0) (bE (aU 1) dw)))
def cr:b7:=(bS (aj (ae 0) (aj (ag bC false (ae 1) (ae 2)) aH)))
def fj:cc:=(au (aB 2 (am aA (ad false (ae 0) ap)))
  (au (aV (cu (ag (cm (bO .lt)) false (bj bW (ad false (ae 2) ap)) (pC (.int 2))))
  (aP (am aA (ad false (ft [none,none,some 1] (eN (ae 2)) cQ eR cr) ap)))
  ay)
  (au (aV (cu (ag (cm (bO .gt)) false (ag bC false (bj d9 (ad false (ae 1) ap)) (bj bW (ad false (ae 2) ap))) (pC (.int 4000))))
  re
  ay)
  (aP (am aA (ad false (am bw (ad false (ae 2) (ad false (ae 1) ap))) ap))))))
def aD:List PyData→Option Sl:=dA 2 3 fj
def gM:lB:=(n8 (aB 2 (am aA (ad false (ae 0) ap)))
  (n8 (aV (cu (ag (cm (bO .lt)) false (bj bW (ad false (ae 2) ap)) (pC (.int 2))))
  (aP (am aA (ad false (ft [none,none,some 1] (eN (ae 2)) cQ eR cr) ap)))
  ay)
  (tW (cu (ag (cm (bO .gt)) false (ag bC false (bj d9 (ad false (ae 1) ap)) (bj bW (ad false (ae 2) ap))) (pC (.int 4000)))) (n_ "TooLong"))))
def cI:List PyData→Option Str:=tu 2 3 gM
def f_:cc:=(au (aV (cu (ag (cm (bO .lt)) false (ae 1) (bj bW (ad false (ae 0) ap))))
  (aP (ag df false (ae 0) (ae 1)))
  ay)
  (aP (pC (.int 0))))
def av:List PyData→Option Sl:=dA 2 2 f_
def fk:cc:=(au (aB 2 (ag aX false (ag aX false (ag cf false (ae 0) (pC (.int 2305843009213693951))) (ag bC false (pC (.int 131)) (ae 1))) (pC (.int 17))))
  (au (aB 2 (ag cf false (ag bC false (ae 2) (ag aX false (pC (.int 2862933555777941757)) (ag bC false (ag bC false (pC (.int 2)) (ae 1)) (ae 1)))) (pC (.int 2305843009213693951))))
  (aP (ag cM false (ag cf false (ag bC false (ag aX false (ag cM false (ae 2) (pC (.int 8191))) (ag bC false (ae 1) (ae 1))) (pC (.int 3935559000370003845))) (pC (.int 2305843009213693921))) (pC (.int 7))))))
def bn:List PyData→Option Sl:=dA 2 3 fk
def aO:List PyData→List PyData→Option (Sl×List PyData):=fun ds0 ds=>match ds0,ds with
  | [.int r],[.int m]=>if cw m then some (.sh (.int (r % m)),[.int (r / m)]) else none
  | _,_=>none
theorem eB (ds0 ds:List PyData) (r:Sl×List PyData) (h:aO ds0 ds=some r):∃d,r.1= .sh d:=by
  unfold aO at h
  split at h
  · split at h
    · cases h;exact ⟨_,rfl⟩
    · cases h
  · cases h
def dH:cc:=(au (aB 1 (pC (.str "abcdefghijklmnopqrstuvwxyz")))
  (au (aB 2 (ag df false (bH (nI [2,3,2,26,5,1])) (ag cf false (ae 0) (pC (.int 6)))))
  (au (aB 3 (ag cf false (ag cM false (ae 0) (pC (.int 6))) (pC (.int 26))))
  (aP (rh false (ag aX false (ae 1) (ae 1)) (ln (ae 3)) (ln (ag aX false (ae 3) (ae 2))))))))
def bx:List PyData→Option Sl:=dA 1 4 dH
def eD:cc:=(aP (ag df false (bH (aj (pC (.int 1)) (aj (pC (.int 2)) (aj (pC (.int 3)) (aj (ag cY false (ag eL false (pC (.int 10)) (pC (.int 30))) (pC (.int 1))) aH))))) (ag cf false (ae 0) (pC (.int 4)))))
def bJ:List PyData→Option Sl:=dA 1 1 eD
def ci:gD:=(aU 6)
def cj:cc:=(au (aB 7 (ag df true (ae 1) (dg 5 aO (ad false (bj bW (ad false (ae 1) ap)) ap))))
  (bX (aW 4 (bS (aj (ae 7) (aj (ag cY false (dg 5 aO (ad false (ag aX false (ag bC false (pC (.int 2)) (ae 2)) (pC (.int 1))) ap)) (ae 2)) aH))))))
def bP:gD:=(aU 6)
def bQ:cc:=(au (aB 7 (ag df false (ae 1) (ag cf false (am bn (ad false (ae 0) (ad false (ag aX false (ag bC false (pC (.int 2)) (ae 6)) (pC (.int 1))) ap))) (bj bW (ad false (ae 1) ap)))))
  (bX (aW 4 (bS (aj (ae 7) (aj (ag cY false (ag cf false (am bn (ad false (ae 0) (ad false (ag aX false (ag bC false (pC (.int 2)) (ae 6)) (pC (.int 2))) ap))) (ag aX false (ag bC false (pC (.int 2)) (ae 2)) (pC (.int 1)))) (ae 2)) aH))))))
def cR:cc:=(au (aB 4 (bH aH))
  (au (aV (bU (cu (fD (bO .lt) (bO .lt) false false (cy bM (ag eL false (pC (.int 10)) (pC (.int 18)))) (ae 0) (ag eL false (pC (.int 10)) (pC (.int 18))))))
  (au (aB 5 (bH (aj (ae 0) aH)))
  (au (dN (gq (ad false (dg 5 aO (ad false (ag aX false (ae 3) (pC (.int 1))) ap)) ap)) ci
  cj)
  (aP (ae 4))))
  ay)
  (au (dN (gq (ad false (ag cf false (am bn (ad false (ae 0) (ad false (pC (.int 0)) ap))) (ag aX false (ae 3) (pC (.int 1)))) ap)) bP
  bQ)
  (aP (ae 4)))))
def bh:List PyData→Option Sl:=dA 4 8 cR
def bV:gD:=(dy 2 (bE (aU 0) (bE (aU 1) dw)))
def bz:b7:=(bS (aj (ae 0) (aj (cy bM (ae 1)) aH)))
def cJ:cc:=(aP (ft [none,none] (jO (ae 0)) bV eR bz))
def aK:List PyData→Option Sl:=dA 1 1 cJ
def bY:gD:=(dy 2 (bE (aU 2) (bE (aU 3) dw)))
def aN:cc:=(au (aV (cz (cu (ag (cm (bO .gt)) false (bj bW (ad false (ae 1) ap)) (pC (.int 0)))) (cu (ag iq false (ag df false (ag df false (ae 1) (cy bM (pC (.int 1)))) (pC (.int 0))) (ae 2))))
  (au (aB 3 (ag aX false (ae 3) (ag df false (ag df false (ae 1) (cy bM (pC (.int 1)))) (pC (.int 1)))))
  (bX (fm 1)))
  ay)
  (aV (cu (ag gp false (ae 3) (pC (.int 0))))
  (bX (aW 1 (bS (aj (ae 2) (aj (ae 3) aH)))))
  ay))
def dI:cc:=(au (aB 1 (bH aH))
  (au (dN (eN (ae 0)) bY
  aN)
  (aP (ae 1))))
def aZ:List PyData→Option Sl:=dA 1 4 dI
def bZ:gD:=(dy 2 (bE (aU 2) (bE (aU 3) dw)))
def b4:cc:=(au (aV (ir (bU (cL (cy (iu .tuple) (ae 2)))) (ir (cu (ag gp false (bj bW (ad false (ae 2) ap)) (pC (.int 2)))) (bU (cL (cy (iu .str) (ag df false (ae 2) (pC (.int 0))))))))
  (aP (pC (.bool false)))
  ay)
  (aV (ir (bU (cL (cy (iu .int) (ag df false (ae 2) (pC (.int 1)))))) (ir (cL (cy (iu .bool) (ag df false (ae 2) (pC (.int 1))))) (cu (ag gp false (ae 2) (ae 3)))))
  (aP (pC (.bool false)))
  ay))
def dJ:cc:=(au (aV (ir (bU (cL (cy (iu .list) (ae 0)))) (cu (ag gp false (bj bW (ad false (ae 0) ap)) (bj bW (ad false (ae 1) ap)))))
  (aP (pC (.bool false)))
  ay)
  (au (dN (nN (ae 0) (ae 1)) bZ
  b4)
  (aP (pC (.bool true)))))
def ax:List PyData→Option Sl:=dA 2 4 dJ
def di:cc:=(au (aB 1 (bH (aj (cy (eO fG) (ae 0)) (aj (cy (eO fK) (ae 0)) (aj (cy (eO fJ) (ae 0)) (aj (cy (eO eT) (ae 0)) aH))))))
  (au (aB 1 (ag aX false (ae 1) (bH (aj (cy (eO fL) (ae 0)) (aj (cy (eO ek) (ae 0)) (aj (cy (eO fH) (ae 0)) (aj (cy (eO fI) (ae 0)) aH)))))))
  (aP (ag aX false (ae 1) (bH (aj (cy (eO eU) (ae 0)) aH))))))
def bR:List PyData→Option Sl:=dA 1 2 di
def cK:cc:=(au (pE ["TooLong"] 2 (jY cI (ad false (ae 0) (ad false (ae 1) ap))) (bX (am aD (ad false (ae 0) (ad false (ae 1) ap)))) (aP (lm (cy (eO eV) (ae 2)) (lm (cy (eO dC) (ae 2)) (ag (cm (oj true)) false (pC (.bool true)) (am bR (ad false (ae 2) ap)))))))
  (aP (pC (.bool false))))
def aw:List PyData→Option Sl:=dA 2 3 cK
def dS:cc:=(au (aV (cu (ag (cm (bO .lt)) false (ae 1) (pC (.int 0))))
  (aB 0 (am aK (ad false (ae 0) ap)))
  ay)
  (aP (am aZ (ad false (ag bC false (ae 0) (bj d9 (ad false (ae 1) ap))) ap))))
def ba:List PyData→Option Sl:=dA 2 2 dS
def dU:gD:=(aU 5)
def dW:cc:=(au (aB 6 (kC (ae 3)))
  (au (aB 7 (am aD (ad false (ae 6) (ad false (ae 5) ap))))
  (au (aV (ir (bU (cL (am ax (ad false (ae 7) (ad false (am ba (ad false (ae 3) (ad false (ae 5) ap))) ap))))) (cu (ag gp false (ae 6) (ae 3))))
  (aP (pC (.bool false)))
  ay)
  (au (bX (aW 7 (bS (aj (pC (.str "a")) (aj (pC (.int 1)) aH)))))
  (aV (bU (cL (am ax (ad false (am aD (ad false (ae 6) (ad false (ae 5) ap))) (ad false (am ba (ad false (ae 3) (ad false (ae 5) ap))) ap)))))
  (aP (pC (.bool false)))
  ay)))))
def c0:gD:=(aU 5)
def c_:cc:=(aV (bU (cL (am aw (ad false (ae 3) (ad false (ae 5) ap)))))
  (aP (pC (.bool false)))
  ay)
def jZ:cc:=(au (aB 1 (am bx (ad false (am av (ad false (ae 0) (ad false (pC (.int 0)) ap))) ap)))
  (au (aB 2 (am bJ (ad false (ag cM false (am av (ad false (ae 0) (ad false (pC (.int 0)) ap))) (pC (.int 7))) ap)))
  (au (aB 3 (am bh (ad false (am av (ad false (ae 0) (ad false (pC (.int 2)) ap))) (ad false (ae 1) (ad false (ae 2) (ad false (pC (.int 10)) ap))))))
  (au (aB 4 (am aZ (ad false (ae 3) ap)))
  (au (dN (eN (bH (aj (ag cY false (ag cf false (ag cM false (am av (ad false (ae 0) (ad false (pC (.int 1)) ap))) (pC (.int 2))) (pC (.int 13))) (pC (.int 6))) (aj (pC (.int 0)) (aj (pC (.int 1)) (aj (cy bM (pC (.int 1))) aH)))))) dU
  dW)
  (au (aB 8 (ag aX false (ag cY false (ag cf false (am av (ad false (ae 0) (ad false (pC (.int 3)) ap))) (ag cY false (ag bC false (pC (.int 2)) (ag eL false (pC (.int 10)) (pC (.int 30)))) (pC (.int 1)))) (ag eL false (pC (.int 10)) (pC (.int 30)))) (pC (.int 1))))
  (au (aV (cu (ag (cm (bO .gt)) false (bj bW (ad false (ae 4) ap)) (pC (.int 1))))
  (au (aB 9 (ag cM false (pC (.int 4000)) (bj bW (ad false (ae 4) ap))))
  (au (dN (eN (bH (aj (ag aX false (ae 9) (pC (.int 1))) (aj (ag cY false (cy bM (pC (.int 1))) (ae 9)) (aj (ag aX false (ag aX false (ae 9) (pC (.int 1))) (bj d9 (ad false (ae 8) ap))) aH))))) c0
  c_)
  (aV (cz (cu (ag iq false (ag cf false (am av (ad false (ae 0) (ad false (pC (.int 3)) ap))) (pC (.int 16))) (pC (.int 5)))) (bU (cL (am ax (ad false (am aD (ad false (ae 3) (ad false (cy bM (ae 9)) ap))) (ad false (am ba (ad false (ae 4) (ad false (cy bM (ae 9)) ap))) ap))))))
  (aP (pC (.bool false)))
  ay)))
  ay)
  (au (aB 10 (bS (aj (ag df false (ae 1) (pC (.int 0))) (aj (ag aX false (ag cY false (ag cf false (am av (ad false (ae 0) (ad false (pC (.int 4)) ap))) (ag cY false (ag bC false (pC (.int 2)) (ag eL false (pC (.int 10)) (pC (.int 30)))) (pC (.int 1)))) (ag eL false (pC (.int 10)) (pC (.int 30)))) (pC (.int 1))) aH))))
  (au (aB 11 (bH aH))
  (au (aV (cu (ag gp false (ag bC false (ag df false (ae 10) (pC (.int 1))) (ae 8)) (pC (.int 0))))
  (aB 11 (bH (aj (bS (aj (ag df false (ae 10) (pC (.int 0))) (aj (ag bC false (ag df false (ae 10) (pC (.int 1))) (ae 8)) aH))) aH)))
  ay)
  (au (aV (bU (cL (am ax (ad false (am aD (ad false (bH (aj (ae 10) (aj (bS (aj (ag df false (ae 1) (pC (.int 0))) (aj (pC (.int 0)) aH))) aH))) (ad false (ae 8) ap))) (ad false (ae 11) ap)))))
  (aP (pC (.bool false)))
  ay)
  (aP (am ax (ad false (am aD (ad false (ag aX false (ae 3) (am aK (ad false (ae 3) ap))) (ad false (ae 8) ap))) (ad false (bH aH) ap)))))))))))))))
def fM:List PyData→Option Sl:=dA 1 12 jZ
end Nhk25
namespace Nhk25
open PySem L2 Nh PL
def j0 (i:Nat):Stmt:=PySem.Challenge.pw_nailhang_k25_powers.main.body.getD i (.Pass ⟨0,0,0,0⟩)
structure XF (K:PySem.W.Frag) (mg:Str→Option Value):Prop where
  c_NoCord:∃C,mg "NoCord"=some (.ref C)∧XT K (.ref C) fG
  c_NoNails:∃C,mg "NoNails"=some (.ref C)∧XT K (.ref C) eT
  c_NoRule:∃C,mg "NoRule"=some (.ref C)∧XT K (.ref C) fH
  c_NoText:∃C,mg "NoText"=some (.ref C)∧XT K (.ref C) fI
  c_NoMove:∃C,mg "NoMove"=some (.ref C)∧XT K (.ref C) fJ
  c_NoLine:∃C,mg "NoLine"=some (.ref C)∧XT K (.ref C) fK
  c_NoName:∃C,mg "NoName"=some (.ref C)∧XT K (.ref C) fL
  c_NoNumber:∃C,mg "NoNumber"=some (.ref C)∧XT K (.ref C) ek
  c_TooMany:∃C,mg "TooMany"=some (.ref C)∧XT K (.ref C) eU
  c_TooLong:∃C,mg "TooLong"=some (.ref C)∧XT K (.ref C) eV∧XC K mg "TooLong" C
  v_ValueError:mg "ValueError"=none∧XT K (.type "ValueError") dC
  e_HangError:∃C,mg "HangError"=some (.ref C)∧∀n∈[("TooLong":Str)],∀D,PySem.W.nsIn K mainGlobals n=some (some (.ref D))→PySem.W.exmOne K (.ref D) (.ref C)=some true
section
variable {P:Program} {w:World} {K:PySem.W.Frag} {mg:Str→Option Value} {base:Heap}
abbrev b8:Stmt:=j0 14
theorem sc_short_form:FnScope ["cord","runs","nail","turns","total"] ["cord"] (ai b8):=⟨rfl,rfl,rfl,by decide+kernel,rfl,by decide+kernel,by decide+kernel⟩
theorem iw (D:Def K mg "short_form" b8 ["cord"]) (B:Bn mg):Own P w K mg base 1 "short_form" ["cord"] (dv K aA):=by
  delta aA
  refine fR (g:=dh) D sc_short_form rfl rfl (by decide) fun f cdv A outer s H E hr=>?_
  delta dh
  exact (ak (aR 1 sc_short_form.nd (cq aY))
  (ak (fF PassesOwn.never (by rfl) (gr (aa 0)) (by delta aI;exact (fE (by rfl) (bu (bo 2 sc_short_form.nd) (bu (bo 3 sc_short_form.nd) ef))))
  (by delta aJ;exact (ak (aR 4 sc_short_form.nd (aa 3))
  (ak (cB (kB (kA (du (aa 1)) (jh (nt hr.units (cA (cA (aa 1) (dL ah)) ah) (aa 2)))))
  (ar (aR 4 sc_short_form.nd (bq (cA (nz 1) ah) (aa 3))))
  a_)
  (ar (cB (hW hr.units (aa 4) ah)
  (ar (d_ (dQ 1 (db (aq (aa 2) (aq (aa 4) aY))))))
  a_))))))
  (ar (aT (aa 1)))))
abbrev cS:Stmt:=j0 15
theorem j1:FnScope ["cord"] ["cord"] (ai cS):=⟨rfl,rfl,rfl,by decide+kernel,rfl,by decide+kernel,by decide+kernel⟩
theorem j2 (D:Def K mg "contrary" cS ["cord"]) (B:Bn mg):Own P w K mg base 1 "contrary" ["cord"] (dv K cC):=by
  delta cC
  refine fR (g:=em) D j1 rfl rfl (by decide) fun f cdv A outer s H E hr=>?_
  delta em
  exact (ar (aT (fS (N:=["nail","turns"]) (js:=[none,none]) g_ (by rfl) (nG (by rfl) (by exact B.reversed) (aa 0)) (fun _ _ _ _=>(by delta cX;exact (fE (by rfl) (bu (bo 0 (show (["nail","turns"]:List Str).Nodup by decide+kernel)) (bu (bo 1 (show (["nail","turns"]:List Str).Nodup by decide+kernel)) ef))))) (fun _ _ _ _=>(by delta cg;exact (db (aq (aa 0) (aq (dL (aa 1)) aY))))))))
abbrev cT:Stmt:=j0 16
theorem j3:FnScope ["cord","times"] ["cord","times"] (ai cT):=⟨rfl,rfl,rfl,by decide+kernel,rfl,by decide+kernel,by decide+kernel⟩
theorem j4 (D:Def K mg "repeated" cT ["cord","times"]) (B:Bn mg) (D_contrary:Own P w K mg base 1 "contrary" ["cord"] (dv K cC)):Own P w K mg base 2 "repeated" ["cord","times"] (dv K bw):=by
  delta bw
  refine fR (g:=dD) D j3 rfl rfl (by decide) fun f cdv A outer s H E hr=>?_
  delta dD
  exact (ar (aT (bD (sU (fU .lt (aa 1) ah) (aC D_contrary (hr.mono (by decide)) (by rfl) (af (aa 0) ao)) (aa 0)) (h8 (by rfl) (by exact B.abs) (af (aa 1) ao)))))
abbrev eF:Stmt:=j0 18
theorem sc_power:FnScope ["cord","times","runs"] ["cord","times"] (ai eF):=⟨rfl,rfl,rfl,by decide+kernel,rfl,by decide+kernel,by decide+kernel⟩
theorem om (D:Def K mg "power" eF ["cord","times"]) (B:Bn mg) {t_LONGEST:Tok} (G_LONGEST:mg "LONGEST"=some (.int 4000 t_LONGEST)) (D_short_form:Own P w K mg base 1 "short_form" ["cord"] (dv K aA)) (D_repeated:Own P w K mg base 2 "repeated" ["cord","times"] (dv K bw)) (XX:XF K mg):Own P w K mg base 3 "power" ["cord","times"] (dv K aD):=by
  obtain ⟨C_TooLong,m_TooLong,t_TooLong,z_TooLong⟩:=XX.c_TooLong
  delta aD
  refine fR (g:=fj) D sc_power rfl rfl (by decide) fun f cdv A outer s H E hr=>?_
  delta fj
  exact (ak (aR 2 sc_power.nd (aC D_short_form (hr.mono (by decide)) (by rfl) (af (aa 0) ao)))
  (ak (cB (fU .lt (cP (by rfl) (by exact B.len) (af (aa 2) ao)) ah)
  (ar (aT (aC D_short_form (hr.mono (by decide)) (by rfl) (af (fS (N:=["nail","turns","times"]) (js:=[none,none,some 1]) jS (by rfl) (gr (aa 2)) (fun _ _ _ _=>(by delta cQ;exact (fE (by rfl) (bu (bo 0 (show (["nail","turns","times"]:List Str).Nodup by decide+kernel)) (bu (bo 1 (show (["nail","turns","times"]:List Str).Nodup by decide+kernel)) ef))))) (fun _ _ _ _=>(by delta cr;exact (db (aq (aa 0) (aq (bD (aa 1) (aa 2)) aY)))))) ao))))
  a_)
  (ak (cB (fU .gt (bD (h8 (by rfl) (by exact B.abs) (af (aa 1) ao)) (cP (by rfl) (by exact B.len) (af (aa 2) ao))) (ly (by rfl) (by exact G_LONGEST)))
  (ar nT)
  a_)
  (ar (aT (aC D_short_form (hr.mono (by decide)) (by rfl) (af (aC D_repeated (hr.mono (by decide)) (by rfl) (af (aa 2) (af (aa 1) ao))) ao)))))))
theorem mt (D:Def K mg "power" eF ["cord","times"]) (B:Bn mg) {t_LONGEST:Tok} (G_LONGEST:mg "LONGEST"=some (.int 4000 t_LONGEST)) (D_short_form:Own P w K mg base 1 "short_form" ["cord"] (dv K aA)) (D_repeated:Own P w K mg base 2 "repeated" ["cord","times"] (dv K bw)) (XX:XF K mg):OwnR P w K mg base 3 "power" ["cord","times"] (tm K cI):=by
  obtain ⟨C_TooLong,m_TooLong,t_TooLong,z_TooLong⟩:=XX.c_TooLong
  delta cI
  refine uM (mk:=true) (al:=true) (r:=gM) D sc_power rfl rfl (by decide) fun f cdv A outer s H E hr=>?_
  delta gM
  exact (oa (aR 2 sc_power.nd (aC D_short_form (hr.mono (by decide)) (by rfl) (af (aa 0) ao)))
  (oa (cB (fU .lt (cP (by rfl) (by exact B.len) (af (aa 2) ao)) ah)
  (ar (aT (aC D_short_form (hr.mono (by decide)) (by rfl) (af (fS (N:=["nail","turns","times"]) (js:=[none,none,some 1]) jS (by rfl) (gr (aa 2)) (fun _ _ _ _=>(by delta cQ;exact (fE (by rfl) (bu (bo 0 (show (["nail","turns","times"]:List Str).Nodup by decide+kernel)) (bu (bo 1 (show (["nail","turns","times"]:List Str).Nodup by decide+kernel)) ef))))) (fun _ _ _ _=>(by delta cr;exact (db (aq (aa 0) (aq (bD (aa 1) (aa 2)) aY)))))) ao))))
  a_)
  (jm (tj (fU .gt (bD (h8 (by rfl) (by exact B.abs) (af (aa 1) ao)) (cP (by rfl) (by exact B.len) (af (aa 2) ao))) (ly (by rfl) (by exact G_LONGEST))) (jm (og (by rfl) (by rfl) z_TooLong))))))
abbrev dX:Stmt:=j0 20
theorem mv:FnScope ["_law_script","_law_k"] ["_law_script","_law_k"] (ai dX):=⟨rfl,rfl,rfl,by decide+kernel,rfl,by decide+kernel,by decide+kernel⟩
theorem mw (D:Def K mg "_law_at" dX ["_law_script","_law_k"]) (B:Bn mg):Own P w K mg base 1 "_law_at" ["_law_script","_law_k"] (dv K av):=by
  delta av
  refine fR (g:=f_) D mv rfl rfl (by decide) fun f cdv A outer s H E hr=>?_
  delta f_
  exact (ak (cB (fU .lt (aa 1) (cP (by rfl) (by exact B.len) (af (aa 0) ao)))
  (ar (aT (cA (aa 0) (aa 1))))
  a_)
  (ar (aT ah)))
abbrev dq:Stmt:=j0 21
theorem sc_law_mix:FnScope ["_law_cell","_law_k","_law_value"] ["_law_cell","_law_k"] (ai dq):=⟨rfl,rfl,rfl,by decide+kernel,rfl,by decide+kernel,by decide+kernel⟩
theorem kJ (D:Def K mg "_law_mix" dq ["_law_cell","_law_k"]) (B:Bn mg):Own P w K mg base 1 "_law_mix" ["_law_cell","_law_k"] (dv K bn):=by
  delta bn
  refine fR (g:=fk) D sc_law_mix rfl rfl (by decide) fun f cdv A outer s H E hr=>?_
  delta fk
  exact (ak (aR 2 sc_law_mix.nd (bq (bq (cO (aa 0) ah) (bD ah (aa 1))) ah))
  (ak (aR 2 sc_law_mix.nd (cO (bD (aa 2) (bq ah (bD (bD ah (aa 1)) (aa 1)))) ah))
  (ar (aT (fb (cO (bD (bq (fb (aa 2) ah) (bD (aa 1) (aa 1))) ah) ah) ah)))))
abbrev cD:Stmt:=j0 22
theorem sc_law_digit:FnScope ["_law_rest","_law_m","_law_digit_here"] ["_law_rest","_law_m"] (ai cD):=⟨rfl,rfl,rfl,by decide+kernel,rfl,by decide+kernel,by decide+kernel⟩
theorem jn (D:Def K mg "_law_digit" cD ["_law_rest","_law_m"]) (B:Bn mg):Own P w K mg base 1 "_law_digit" ["_law_rest","_law_m"] (rk K aO):=by
  refine D.own sc_law_digit (fun vs H Q E h=>?_) (fun f cdv A outer s H vs Q E hr h=>?_)
  · obtain ⟨l,us,ds0,be,ds,r,ds',rfl,_,_,rd,e,_⟩:=h
    unfold aO at e
    split at e
    · rw [List.length_cons,rd.len];rfl
    · cases e
  obtain ⟨l,us,ds0,be,ds,r,ds',rfl,hl,r0,rd,e,q⟩:=h
  unfold aO at e
  split at e
  · split at e
    · rename_i z m hm
      cases e
      obtain ⟨v,rfl,rv⟩:=r0.one
      cases rv
      obtain ⟨u,rfl,ru⟩:=rd.one
      cases ru
      have h1:=(of_decide_eq_true hm).1
      refine ⟨_,(gT (mF (i:=2) sc_law_digit.nd rfl (Or.inl rfl) (mH mI (mS ix_list (pv 0) iY (fun _ _=>rfl)) (pv 1))) (gT (qj (mH jI (mS ix_list (pv 0) iY (fun _ _=>rfl)) (pv 1)) (qi (pv 0) iY mT)) (kP (mC (pv 2))))),?_⟩
      refine ⟨_,rfl,l,[.int z],_, .int z,rfl,rfl,SqL.of hl,rfl,_,rfl,_,_,rfl,rfl,h1,?_⟩
      refine ⟨_,rfl,l,[.int z],_, .int z,rfl,rfl,SqL.of hl,rfl,_,rfl,_,_,rfl,rfl,hm,?_⟩
      refine ⟨_,rfl,l,[.int z],_,0,rfl,rfl,hl,rfl,?_⟩
      refine ⟨_,rfl,?_⟩
      exact q _ _ [.int (z / m)] (SameBut.upd _) bi (.cons (.int _) .nil) (.int _)
    · cases e
  · cases e
abbrev cE:Stmt:=j0 23
theorem sc_law_nails:FnScope ["_law_cell","_law_some","_law_many","_law_at_here"] ["_law_cell"] (ai cE):=⟨rfl,rfl,rfl,by decide+kernel,rfl,by decide+kernel,by decide+kernel⟩
theorem jp (D:Def K mg "_law_nails" cE ["_law_cell"]) (B:Bn mg):Own P w K mg base 1 "_law_nails" ["_law_cell"] (dv K bx):=by
  delta bx
  refine fR (g:=dH) D sc_law_nails rfl rfl (by decide) fun f cdv A outer s H E hr=>?_
  refine kE 1 [2,3,2,26,5,1] rfl rfl fun es hes=>?_
  delta dH
  exact (ak (aR 1 sc_law_nails.nd ni)
  (ak (aR 2 sc_law_nails.nd (cA (cq (ls hes)) (cO (aa 0) ah)))
  (ak (aR 3 sc_law_nails.nd (cO (fb (aa 0) ah) ah))
  (ar (aT (rj (bq (aa 1) (aa 1)) (lq (aa 3)) (lq (bq (aa 3) (aa 2)))))))))
abbrev cU:Stmt:=j0 24
theorem j5:FnScope ["_law_cell"] ["_law_cell"] (ai cU):=⟨rfl,rfl,rfl,by decide+kernel,rfl,by decide+kernel,by decide+kernel⟩
theorem j6 (D:Def K mg "_law_wide" cU ["_law_cell"]) (B:Bn mg):Own P w K mg base 1 "_law_wide" ["_law_cell"] (dv K bJ):=by
  delta bJ
  refine fR (g:=eD) D j5 rfl rfl (by decide) fun f cdv A outer s H E hr=>?_
  delta eD
  exact (ar (aT (cA (cq (aq ah (aq ah (aq ah (aq (d8 (fB ah ah) ah) aY))))) (cO (aa 0) ah))))
abbrev cV:Stmt:=j0 25
theorem sc_law_cord:FnScope ["_law_cell","_law_nails_here","_law_wide_here","_law_most","_law_cord_here","_law_rest","_law_k","_law_nail"] ["_law_cell","_law_nails_here","_law_wide_here","_law_most"] (ai cV):=⟨rfl,rfl,rfl,by decide+kernel,rfl,by decide+kernel,by decide+kernel⟩
theorem j7 (D:Def K mg "_law_cord" cV ["_law_cell","_law_nails_here","_law_wide_here","_law_most"]) (B:Bn mg) (D_law_digit:Own P w K mg base 1 "_law_digit" ["_law_rest","_law_m"] (rk K aO)) (D_law_mix:Own P w K mg base 1 "_law_mix" ["_law_cell","_law_k"] (dv K bn)):Own P w K mg base 2 "_law_cord" ["_law_cell","_law_nails_here","_law_wide_here","_law_most"] (dv K bh):=by
  delta bh
  refine fR (g:=cR) D sc_law_cord rfl rfl (by decide) fun f cdv A outer s H E hr=>?_
  delta cR
  exact (ak (aR 4 sc_law_cord.nd (cq aY))
  (ak (cB (dM (s0 .lt .lt (dL (fB ah ah)) (aa 0) (fB ah ah)))
  (ak (aR 5 sc_law_cord.nd (cq (aq (aa 0) aY)))
  (ak (fF PassesOwn.never (by rfl) (iR (by rfl) (by exact B.range) (af (nU 5 D_law_digit eB (hr.mono (by decide)) (by rfl) (af (bq (aa 3) ah) ao)) ao)) (by delta ci;exact (bo 6 sc_law_cord.nd))
  (by delta cj;exact (ak (aR 7 sc_law_cord.nd (cA (aa 1) (nU 5 D_law_digit eB (hr.mono (by decide)) (by rfl) (af (cP (by rfl) (by exact B.len) (af (aa 1) ao)) ao))))
  (ar (d_ (dQ 4 (db (aq (aa 7) (aq (d8 (nU 5 D_law_digit eB (hr.mono (by decide)) (by rfl) (af (bq (bD ah (aa 2)) ah) ao)) (aa 2)) aY)))))))))
  (ar (aT (aa 4)))))
  a_)
  (ak (fF PassesOwn.never (by rfl) (iR (by rfl) (by exact B.range) (af (cO (aC D_law_mix (hr.mono (by decide)) (by rfl) (af (aa 0) (af ah ao))) (bq (aa 3) ah)) ao)) (by delta bP;exact (bo 6 sc_law_cord.nd))
  (by delta bQ;exact (ak (aR 7 sc_law_cord.nd (cA (aa 1) (cO (aC D_law_mix (hr.mono (by decide)) (by rfl) (af (aa 0) (af (bq (bD ah (aa 6)) ah) ao))) (cP (by rfl) (by exact B.len) (af (aa 1) ao)))))
  (ar (d_ (dQ 4 (db (aq (aa 7) (aq (d8 (cO (aC D_law_mix (hr.mono (by decide)) (by rfl) (af (aa 0) (af (bq (bD ah (aa 6)) ah) ao))) (bq (bD ah (aa 2)) ah)) (aa 2)) aY)))))))))
  (ar (aT (aa 4))))))
abbrev bF:Stmt:=j0 26
theorem gE:FnScope ["_law_cord_here"] ["_law_cord_here"] (ai bF):=⟨rfl,rfl,rfl,by decide+kernel,rfl,by decide+kernel,by decide+kernel⟩
theorem gG (D:Def K mg "_law_contrary" bF ["_law_cord_here"]) (B:Bn mg):Own P w K mg base 1 "_law_contrary" ["_law_cord_here"] (dv K aK):=by
  delta aK
  refine fR (g:=cJ) D gE rfl rfl (by decide) fun f cdv A outer s H E hr=>?_
  delta cJ
  exact (ar (aT (fS (N:=["_law_nail","_law_turns"]) (js:=[none,none]) g_ (by rfl) (nG (by rfl) (by exact B.reversed) (aa 0)) (fun _ _ _ _=>(by delta bV;exact (fE (by rfl) (bu (bo 0 (show (["_law_nail","_law_turns"]:List Str).Nodup by decide+kernel)) (bu (bo 1 (show (["_law_nail","_law_turns"]:List Str).Nodup by decide+kernel)) ef))))) (fun _ _ _ _=>(by delta bz;exact (db (aq (aa 0) (aq (dL (aa 1)) aY))))))))
abbrev cF:Stmt:=j0 27
theorem sc_law_short:FnScope ["_law_cord_here","_law_runs","_law_nail","_law_turns"] ["_law_cord_here"] (ai cF):=⟨rfl,rfl,rfl,by decide+kernel,rfl,by decide+kernel,by decide+kernel⟩
theorem jq (D:Def K mg "_law_short" cF ["_law_cord_here"]) (B:Bn mg):Own P w K mg base 1 "_law_short" ["_law_cord_here"] (dv K aZ):=by
  delta aZ
  refine fR (g:=dI) D sc_law_short rfl rfl (by decide) fun f cdv A outer s H E hr=>?_
  delta dI
  exact (ak (aR 1 sc_law_short.nd (cq aY))
  (ak (fF PassesOwn.never (by rfl) (gr (aa 0)) (by delta bY;exact (fE (by rfl) (bu (bo 2 sc_law_short.nd) (bu (bo 3 sc_law_short.nd) ef))))
  (by delta aN;exact (ak (cB (kB (kA (fU .gt (cP (by rfl) (by exact B.len) (af (aa 1) ao)) ah) (jh (nt hr.units (cA (cA (aa 1) (dL ah)) ah) (aa 2)))))
  (ak (aR 3 sc_law_short.nd (bq (aa 3) (cA (cA (aa 1) (dL ah)) ah)))
  (ar (d_ (nz 1))))
  a_)
  (ar (cB (hW hr.units (aa 3) ah)
  (ar (d_ (dQ 1 (db (aq (aa 2) (aq (aa 3) aY))))))
  a_)))))
  (ar (aT (aa 1)))))
abbrev cG:Stmt:=j0 28
theorem sc_law_right:FnScope ["_law_found","_law_due_here","_law_one","_law_other"] ["_law_found","_law_due_here"] (ai cG):=⟨rfl,rfl,rfl,by decide+kernel,rfl,by decide+kernel,by decide+kernel⟩
theorem jr (D:Def K mg "_law_right" cG ["_law_found","_law_due_here"]) (B:Bn mg):Own P w K mg base 1 "_law_right" ["_law_found","_law_due_here"] (dv K ax):=by
  delta ax
  refine fR (g:=dJ) D sc_law_right rfl rfl (by decide) fun f cdv A outer s H E hr=>?_
  delta dJ
  exact (ak (cB (kB (iP (dM (du (h9 .list (by rfl) (by exact B.isinstance) (aa 0) (by rfl) (by exact B.list) PyProof.Rows.boot_list))) (ji (hW hr.units (cP (by rfl) (by exact B.len) (af (aa 0) ao)) (cP (by rfl) (by exact B.len) (af (aa 1) ao))))))
  (ar (aT eP))
  a_)
  (ak (fF PassesOwn.never (by rfl) (q_ (by rfl) (by exact B.zip) (aa 0) (aa 1)) (by delta bZ;exact (fE (by rfl) (bu (bo 2 sc_law_right.nd) (bu (bo 3 sc_law_right.nd) ef))))
  (by delta b4;exact (ak (cB (kB (iP (dM (du (h9 .tuple (by rfl) (by exact B.isinstance) (aa 2) (by rfl) (by exact B.tuple) PyProof.Rows.boot_tuple))) (iP (hW hr.units (cP (by rfl) (by exact B.len) (af (aa 2) ao)) ah) (ji (dM (du (h9 .str (by rfl) (by exact B.isinstance) (cA (aa 2) ah) (by rfl) (by exact B.str) PyProof.Rows.boot_str)))))))
  (ar (aT eP))
  a_)
  (ar (cB (kB (iP (dM (du (h9 .int (by rfl) (by exact B.isinstance) (cA (aa 2) ah) (by rfl) (by exact B.int) PyProof.Rows.boot_int))) (iP (du (h9 .bool (by rfl) (by exact B.isinstance) (cA (aa 2) ah) (by rfl) (by exact B.bool) PyProof.Rows.boot_bool)) (ji (hW hr.units (aa 2) (aa 3))))))
  (ar (aT eP))
  a_)))))
  (ar (aT eP))))
abbrev b9:Stmt:=j0 30
theorem sc_law_others:FnScope ["_law_e","_law_some"] ["_law_e"] (ai b9):=⟨rfl,rfl,rfl,by decide+kernel,rfl,by decide+kernel,by decide+kernel⟩
theorem ix (D:Def K mg "_law_others" b9 ["_law_e"]) (B:Bn mg) (XX:XF K mg):OwnH P w K mg base 1 "_law_others" ["_law_e"] (dv K bR):=by
  obtain ⟨C_NoCord,m_NoCord,t_NoCord⟩:=XX.c_NoCord
  obtain ⟨C_NoLine,m_NoLine,t_NoLine⟩:=XX.c_NoLine
  obtain ⟨C_NoMove,m_NoMove,t_NoMove⟩:=XX.c_NoMove
  obtain ⟨C_NoNails,m_NoNails,t_NoNails⟩:=XX.c_NoNails
  obtain ⟨C_NoName,m_NoName,t_NoName⟩:=XX.c_NoName
  obtain ⟨C_NoNumber,m_NoNumber,t_NoNumber⟩:=XX.c_NoNumber
  obtain ⟨C_NoRule,m_NoRule,t_NoRule⟩:=XX.c_NoRule
  obtain ⟨C_NoText,m_NoText,t_NoText⟩:=XX.c_NoText
  obtain ⟨C_TooMany,m_TooMany,t_TooMany⟩:=XX.c_TooMany
  delta bR
  refine uN (g:=di) D sc_law_others rfl rfl (by decide) fun f cdv A outer s H E hr=>?_
  delta di
  exact (ak (aR 1 sc_law_others.nd (cq (aq (cW (by rfl) (by exact B.isinstance) (aa 0) (by rfl) (by exact m_NoCord) t_NoCord) (aq (cW (by rfl) (by exact B.isinstance) (aa 0) (by rfl) (by exact m_NoLine) t_NoLine) (aq (cW (by rfl) (by exact B.isinstance) (aa 0) (by rfl) (by exact m_NoMove) t_NoMove) (aq (cW (by rfl) (by exact B.isinstance) (aa 0) (by rfl) (by exact m_NoNails) t_NoNails) aY))))))
  (ak (aR 1 sc_law_others.nd (bq (aa 1) (cq (aq (cW (by rfl) (by exact B.isinstance) (aa 0) (by rfl) (by exact m_NoName) t_NoName) (aq (cW (by rfl) (by exact B.isinstance) (aa 0) (by rfl) (by exact m_NoNumber) t_NoNumber) (aq (cW (by rfl) (by exact B.isinstance) (aa 0) (by rfl) (by exact m_NoRule) t_NoRule) (aq (cW (by rfl) (by exact B.isinstance) (aa 0) (by rfl) (by exact m_NoText) t_NoText) aY)))))))
  (ar (aT (bq (aa 1) (cq (aq (cW (by rfl) (by exact B.isinstance) (aa 0) (by rfl) (by exact m_TooMany) t_TooMany) aY)))))))
abbrev bG:Stmt:=j0 31
theorem sc_law_too_long:FnScope ["_law_cord_here","_law_times","_law_e"] ["_law_cord_here","_law_times"] (ai bG):=⟨rfl,rfl,rfl,by decide+kernel,rfl,by decide+kernel,by decide+kernel⟩
theorem gH (D:Def K mg "_law_too_long" bG ["_law_cord_here","_law_times"]) (B:Bn mg) (D_power:Own P w K mg base 3 "power" ["cord","times"] (dv K aD)) (R_power:OwnR P w K mg base 3 "power" ["cord","times"] (tm K cI)) (D_law_others:OwnH P w K mg base 1 "_law_others" ["_law_e"] (dv K bR)) (XX:XF K mg):Own P w K mg base 4 "_law_too_long" ["_law_cord_here","_law_times"] (dv K aw):=by
  obtain ⟨C_HangError,m_HangError,e_HangError⟩:=XX.e_HangError
  obtain ⟨C_TooLong,m_TooLong,t_TooLong,z_TooLong⟩:=XX.c_TooLong
  obtain ⟨v_ValueError,t_ValueError⟩:=XX.v_ValueError
  delta aw
  refine fR (g:=cK) D sc_law_too_long rfl rfl (by decide) fun f cdv A outer s H E hr=>?_
  delta cK
  exact (ak (pF rfl sc_law_too_long.nd rfl rfl rfl (by rfl) (by exact m_HangError) e_HangError (ar (d_ (aC D_power (hr.mono (by decide)) (by rfl) (af (aa 0) (af (aa 1) ao))))) (fun W=>(jm (pD R_power (hr.mono (by decide)) (by rfl) (af (aa 0) (af (aa 1) ao))))) (fun ea=>(ar (aT (nv (cW (by rfl) (by exact B.isinstance) (aa 2) (by rfl) (by exact m_TooLong) t_TooLong) (nv (pG (by rfl) (by exact B.isinstance) (aa 2) (by rfl) (by exact v_ValueError) PyProof.Rows.Boot.«ValueError» t_ValueError) (qN (pJ eP (pH D_law_others ((Room.mark hr _).mono (by decide)) (by rfl) (af (aa 2) ao))))))))))
  (ar (aT eP)))
abbrev dt:Stmt:=j0 32
theorem sc_law_due:FnScope ["_law_cord_here","_law_times"] ["_law_cord_here","_law_times"] (ai dt):=⟨rfl,rfl,rfl,by decide+kernel,rfl,by decide+kernel,by decide+kernel⟩
theorem kK (D:Def K mg "_law_due" dt ["_law_cord_here","_law_times"]) (B:Bn mg) (D_law_contrary:Own P w K mg base 1 "_law_contrary" ["_law_cord_here"] (dv K aK)) (D_law_short:Own P w K mg base 1 "_law_short" ["_law_cord_here"] (dv K aZ)):Own P w K mg base 2 "_law_due" ["_law_cord_here","_law_times"] (dv K ba):=by
  delta ba
  refine fR (g:=dS) D sc_law_due rfl rfl (by decide) fun f cdv A outer s H E hr=>?_
  delta dS
  exact (ak (cB (fU .lt (aa 1) ah)
  (ar (aR 0 sc_law_due.nd (aC D_law_contrary (hr.mono (by decide)) (by rfl) (af (aa 0) ao))))
  a_)
  (ar (aT (aC D_law_short (hr.mono (by decide)) (by rfl) (af (bD (aa 0) (h8 (by rfl) (by exact B.abs) (af (aa 1) ao))) ao)))))
abbrev gb:Stmt:=j0 33
theorem sc_law:FnScope ["_law_script","_law_nails_here","_law_wide_here","_law_cord_here","_law_runs","_law_times","_law_handed","_law_found","_law_far","_law_most","_law_single","_law_due_here"] ["_law_script"] (ai gb):=⟨rfl,rfl,rfl,by decide+kernel,rfl,by decide+kernel,by decide+kernel⟩
theorem rB {f0:Addr} {fd:FuncData} (D:Fun K "law" "law" gb f0 fd) (B:Bn mg) (D_law_at:Own P w K mg base 1 "_law_at" ["_law_script","_law_k"] (dv K av)) (D_law_nails:Own P w K mg base 1 "_law_nails" ["_law_cell"] (dv K bx)) (D_law_wide:Own P w K mg base 1 "_law_wide" ["_law_cell"] (dv K bJ)) (D_law_cord:Own P w K mg base 2 "_law_cord" ["_law_cell","_law_nails_here","_law_wide_here","_law_most"] (dv K bh)) (D_law_short:Own P w K mg base 1 "_law_short" ["_law_cord_here"] (dv K aZ)) (D_power:Own P w K mg base 3 "power" ["cord","times"] (dv K aD)) (D_law_due:Own P w K mg base 2 "_law_due" ["_law_cord_here","_law_times"] (dv K ba)) (D_law_right:Own P w K mg base 1 "_law_right" ["_law_found","_law_due_here"] (dv K ax)) (D_law_too_long:Own P w K mg base 4 "_law_too_long" ["_law_cord_here","_law_times"] (dv K aw)) (D_law_contrary:Own P w K mg base 1 "_law_contrary" ["_law_cord_here"] (dv K aK)):FnOk P w K mg base ku 5 f0 fd ["_law_script"] (dv K fM):=by
  delta fM
  refine vh (g:=jZ) D sc_law rfl rfl (by decide) fun cdv A outer s H E hr=>?_
  delta jZ
  exact (ak (aR 1 sc_law.nd (aC D_law_nails (hr.mono (by decide)) (by rfl) (af (aC D_law_at (hr.mono (by decide)) (by rfl) (af (aa 0) (af ah ao))) ao)))
  (ak (aR 2 sc_law.nd (aC D_law_wide (hr.mono (by decide)) (by rfl) (af (fb (aC D_law_at (hr.mono (by decide)) (by rfl) (af (aa 0) (af ah ao))) ah) ao)))
  (ak (aR 3 sc_law.nd (aC D_law_cord (hr.mono (by decide)) (by rfl) (af (aC D_law_at (hr.mono (by decide)) (by rfl) (af (aa 0) (af ah ao))) (af (aa 1) (af (aa 2) (af ah ao))))))
  (ak (aR 4 sc_law.nd (aC D_law_short (hr.mono (by decide)) (by rfl) (af (aa 3) ao)))
  (ak (fF PassesOwn.never (by rfl) (gr (cq (aq (d8 (cO (fb (aC D_law_at (hr.mono (by decide)) (by rfl) (af (aa 0) (af ah ao))) ah) ah) ah) (aq ah (aq ah (aq (dL ah) aY)))))) (by delta dU;exact (bo 5 sc_law.nd))
  (by delta dW;exact (ak (aR 6 sc_law.nd (ph (by rfl) (by exact B.list) (aa 3)))
  (ak (aR 7 sc_law.nd (aC D_power (hr.mono (by decide)) (by rfl) (af (aa 6) (af (aa 5) ao))))
  (ak (cB (kB (iP (dM (du (aC D_law_right (hr.mono (by decide)) (by rfl) (af (aa 7) (af (aC D_law_due (hr.mono (by decide)) (by rfl) (af (aa 3) (af (aa 5) ao))) ao))))) (ji (hW hr.units (aa 6) (aa 3)))))
  (ar (aT eP))
  a_)
  (ak (d_ (dQ 7 (db (aq ni (aq ah aY)))))
  (ar (cB (dM (du (aC D_law_right (hr.mono (by decide)) (by rfl) (af (aC D_power (hr.mono (by decide)) (by rfl) (af (aa 6) (af (aa 5) ao))) (af (aC D_law_due (hr.mono (by decide)) (by rfl) (af (aa 3) (af (aa 5) ao))) ao)))))
  (ar (aT eP))
  a_))))))))
  (ak (aR 8 sc_law.nd (bq (d8 (cO (aC D_law_at (hr.mono (by decide)) (by rfl) (af (aa 0) (af ah ao))) (d8 (bD ah (fB ah ah)) ah)) (fB ah ah)) ah))
  (ak (cB (fU .gt (cP (by rfl) (by exact B.len) (af (aa 4) ao)) ah)
  (ak (aR 9 sc_law.nd (fb ah (cP (by rfl) (by exact B.len) (af (aa 4) ao))))
  (ak (fF PassesOwn.never (by rfl) (gr (cq (aq (bq (aa 9) ah) (aq (d8 (dL ah) (aa 9)) (aq (bq (bq (aa 9) ah) (h8 (by rfl) (by exact B.abs) (af (aa 8) ao))) aY))))) (by delta c0;exact (bo 5 sc_law.nd))
  (by delta c_;exact (ar (cB (dM (du (aC D_law_too_long (hr.mono (by decide)) (by rfl) (af (aa 3) (af (aa 5) ao)))))
  (ar (aT eP))
  a_))))
  (ar (cB (kB (kA (nt hr.units (cO (aC D_law_at (hr.mono (by decide)) (by rfl) (af (aa 0) (af ah ao))) ah) ah) (jh (dM (du (aC D_law_right (hr.mono (by decide)) (by rfl) (af (aC D_power (hr.mono (by decide)) (by rfl) (af (aa 3) (af (dL (aa 9)) ao))) (af (aC D_law_due (hr.mono (by decide)) (by rfl) (af (aa 4) (af (dL (aa 9)) ao))) ao))))))))
  (ar (aT eP))
  a_))))
  a_)
  (ak (aR 10 sc_law.nd (db (aq (cA (aa 1) ah) (aq (bq (d8 (cO (aC D_law_at (hr.mono (by decide)) (by rfl) (af (aa 0) (af ah ao))) (d8 (bD ah (fB ah ah)) ah)) (fB ah ah)) ah) aY))))
  (ak (aR 11 sc_law.nd (cq aY))
  (ak (cB (hW hr.units (bD (cA (aa 10) ah) (aa 8)) ah)
  (ar (aR 11 sc_law.nd (cq (aq (db (aq (cA (aa 10) ah) (aq (bD (cA (aa 10) ah) (aa 8)) aY))) aY))))
  a_)
  (ak (cB (dM (du (aC D_law_right (hr.mono (by decide)) (by rfl) (af (aC D_power (hr.mono (by decide)) (by rfl) (af (cq (aq (aa 10) (aq (db (aq (cA (aa 1) ah) (aq ah aY))) aY))) (af (aa 8) ao))) (af (aa 11) ao)))))
  (ar (aT eP))
  a_)
  (ar (aT (aC D_law_right (hr.mono (by decide)) (by rfl) (af (aC D_power (hr.mono (by decide)) (by rfl) (af (bq (aa 3) (aC D_law_contrary (hr.mono (by decide)) (by rfl) (af (aa 3) ao))) (af (aa 8) ao))) (af (cq aY) ao))))))))))))))))
end
end Nhk25
namespace Nhk25
open PySem L2 Nh PL
theorem gN (w:List Nat):(⟨w.toArray⟩:Str).length=w.length:=by show w.toArray.size=_;simp
theorem dY (ns:List Int) (k:Nat):av [.list (ns.map .int), .int k]=some (.sh (.int (ns.getD k 0))):=by
  simp only [av,dA,List.length_cons,List.length_nil,Nat.zero_add,Nat.reduceAdd,dz,f_,au,aV,cu,ag,ae,aM,List.map_cons,List.map_nil,Nat.sub_self,List.replicate,List.cons_append,List.nil_append,List.getElem?_cons_succ,List.getElem?_cons_zero,Sl.isBr,Bool.false_and,Bool.false_eq_true,bj,ad,ap,Option.map_some,if_false,bW,cm,look,Sl.val,bO,Cm.i,Cm.s,Option.bind_some,aG,aP,df,ck,bg,ay,pC,dc,bI,if_true]
  by_cases h:k < ns.length
  · simp [h,dR,cb]
  · simp [h,List.getElem?_eq_none (Nat.le_of_not_lt h),cb]
theorem rC (cell k:Int) (a:∀i:Int,bB i k=true) (b:∀i j:Int,bB (i % 2305843009213693951 / 8191+k*k) j=true) (c:∀j:Int,bB (cell % 2305843009213693951+131*k+17) j=true):∃z:Int,bn [.int cell, .int k]=some (.sh (.int z)):=by
  have d1:cw 8191=true∧cw 7=true:=by decide
  simp only [bn,dA,List.length_cons,List.length_nil,Nat.zero_add,Nat.reduceAdd,dz,fk,au,aB,ag,ae,aM,List.map_cons,List.map_nil,Nat.reduceSub,List.replicate,List.cons_append,List.nil_append,List.getElem?_cons_zero,Sl.isBr,Bool.false_and,Bool.false_eq_true,pC,cf,cm,look,Sl.val,ip,Option.bind_some,if_false,Int.reduceLT,decide_true,if_true,Option.map_some,bC,ck,bg,Bool.not_false,Bool.true_or,Bool.and_true,aX,List.getElem?_cons_succ,a,PL.settle,frz,frzAll,Nat.reduceLT,List.set_cons_succ,List.set_cons_zero,aP,cM,c,d1.1,b,d1.2,dc,bI,cb]
  exact ⟨_,rfl⟩
theorem fN (cell:Int) (k:Nat) (h:k≤100000):∃z:Int,bn [.int cell, .int k]=some (.sh (.int z)):=by
  refine rC cell k (fun i=>fW (by omega) (by omega)) (fun i j=>?_) fun j=>?_
  · have h1:=Int.emod_nonneg i (show (2305843009213693951:Int)≠0 by omega)
    have h2:=Int.emod_lt_of_pos i (show (0:Int) < 2305843009213693951 by omega)
    have kk:(k:Int)*k≤100000*100000:=Int.mul_le_mul (by omega) (by omega) (by omega) (by omega)
    have kn:0≤(k:Int)*k:=Int.mul_nonneg (by omega) (by omega)
    generalize i % 2305843009213693951=z at h1 h2
    exact fg (by omega) (by omega)
  · have h1:=Int.emod_nonneg cell (show (2305843009213693951:Int)≠0 by omega)
    have h2:=Int.emod_lt_of_pos cell (show (0:Int) < 2305843009213693951 by omega)
    generalize cell % 2305843009213693951=z at h1 h2
    exact fg (by omega) (by omega)
theorem my:∀i,i < 6→∀j,j < 26→0 < (Txt.slice (Str.ofString "abcdefghijklmnopqrstuvwxyz"++Str.ofString "abcdefghijklmnopqrstuvwxyz") (some ((j:Nat):Int)) (some (((j:Nat):Int)+[2,3,2,26,5,1].getD i 0))).cps.toList.length∧(Txt.slice (Str.ofString "abcdefghijklmnopqrstuvwxyz"++Str.ofString "abcdefghijklmnopqrstuvwxyz") (some ((j:Nat):Int)) (some (((j:Nat):Int)+[2,3,2,26,5,1].getD i 0))).cps.toList.length≤26∧(Txt.slice (Str.ofString "abcdefghijklmnopqrstuvwxyz"++Str.ofString "abcdefghijklmnopqrstuvwxyz") (some ((j:Nat):Int)) (some (((j:Nat):Int)+[2,3,2,26,5,1].getD i 0))).cps.toList.all (fun a=>decide (a < 128))=true:=by decide+kernel
theorem rD:∀i,i < 6→[PyData.int 2, .int 3, .int 2, .int 26, .int 5, .int 1][i]? =some (.int ([2,3,2,26,5,1].getD i 0))
  | 0,_=>rfl
  | 1,_=>rfl
  | 2,_=>rfl
  | 3,_=>rfl
  | 4,_=>rfl
  | 5,_=>rfl
theorem pK:(Str.ofString "abcdefghijklmnopqrstuvwxyz").length+(Str.ofString "abcdefghijklmnopqrstuvwxyz").length≤1000000:=by decide+kernel
theorem oo:(Str.ofString "abcdefghijklmnopqrstuvwxyz"++Str.ofString "abcdefghijklmnopqrstuvwxyz").length≤1000000:=by decide+kernel
theorem jt (z:Int):∃w:List Nat,bx [.int z]=some (.sh (.str ⟨w.toArray⟩))∧0 < w.length∧w.length≤26∧∀a∈w,a < 128:=by
  have m0:=Int.emod_nonneg z (show (6:Int)≠0 by decide)
  have m1:=Int.emod_lt_of_pos z (show (0:Int) < 6 by decide)
  have n0:=Int.emod_nonneg (z / 6) (show (26:Int)≠0 by decide)
  have n1:=Int.emod_lt_of_pos (z / 6) (show (0:Int) < 26 by decide)
  obtain ⟨i,hi⟩:∃i:Nat,z % 6=i:=⟨(z % 6).toNat,by omega⟩
  obtain ⟨j,hj⟩:∃j:Nat,z / 6 % 26=j:=⟨(z / 6 % 26).toNat,by omega⟩
  obtain ⟨l0,l1,l2⟩:=my i (by omega) j (by omega)
  have dd:cw 6=true∧cw 26=true:=by decide
  have s6:=rD i (by omega)
  refine ⟨(Txt.slice (Str.ofString "abcdefghijklmnopqrstuvwxyz"++Str.ofString "abcdefghijklmnopqrstuvwxyz") (some ((j:Nat):Int)) (some (((j:Nat):Int)+[2,3,2,26,5,1].getD i 0))).cps.toList,?_,l0,l1,fun a ha=>by simpa using List.all_eq_true.mp l2 a ha⟩
  have fin:∀s:Str,(⟨s.cps.toList.toArray⟩:Str)=s:=fun s=>by cases s;simp
  rw [fin]
  simp only [bx,dA,List.length_cons,List.length_nil,Nat.zero_add,dz,dH,au,aB,pC,aM,List.map_cons,List.map_nil,Nat.reduceSub,List.replicate,List.cons_append,List.nil_append,PL.settle,frz,frzAll,Option.bind_some,Nat.reduceAdd,Nat.reduceLT,List.set_cons_succ,List.set_cons_zero,if_true,ag,bH,nI,Nat.reduceLeDiff,Sl.isBr,Bool.false_and,Bool.false_eq_true,ae,cf,cm,look,Sl.val,ip,if_false,df,ck,bg,cM,aP,rh,aX,ln,List.getElem?_cons_zero,Int.reduceLT,decide_true,hi,Option.map_some,dR,s6,dd.1,hj,List.getElem?_cons_succ,Bool.not_false,Bool.true_or,Bool.and_true,pK,oo,dc,bI,cb]
theorem pL:∀i,i < 4→∃v:Int,[PyData.int 1, .int 2, .int 3, .int 999999999999999999999999999999][i]? =some (.int v)∧1≤v∧v < 2 ^ 100 - 1
  | 0,_=>⟨1,rfl,by decide,by decide⟩
  | 1,_=>⟨2,rfl,by decide,by decide⟩
  | 2,_=>⟨3,rfl,by decide,by decide⟩
  | 3,_=>⟨_,rfl,by decide,by decide⟩
theorem j8 (z:Int):∃v:Int,bJ [.int z]=some (.sh (.int v))∧1≤v∧v < 2 ^ 100 - 1:=by
  have m0:=Int.emod_nonneg z (show (4:Int)≠0 by decide)
  have m1:=Int.emod_lt_of_pos z (show (0:Int) < 4 by decide)
  obtain ⟨i,hi⟩:∃i:Nat,z % 4=i:=⟨(z % 4).toNat,by omega⟩
  obtain ⟨v,e,v1,v2⟩:=pL i (by omega)
  have dd:cw 4=true:=by decide
  refine ⟨v,?_,v1,v2⟩
  simp only [bJ,dA,List.length_cons,List.length_nil,Nat.zero_add,dz,eD,aP,ag,bH,aj,pC,aM,List.map_cons,List.map_nil,Nat.sub_self,List.replicate,List.cons_append,List.nil_append,frz,Sl.isBr,Bool.false_and,Bool.false_eq_true,eL,cm,look,Sl.val,ip,Int.reducePow,Int.reduceNeg,Option.bind_some,if_false,Int.reduceLE,Int.reduceLT,and_self,decide_true,Int.reduceToNat,if_true,Option.map_some,cY,Int.reduceSub,aH,Nat.reduceAdd,Nat.reduceLeDiff,ae,cf,df,ck,bg,List.getElem?_cons_zero,hi,dR,e,dc,bI,cb]
theorem kL {w:List Nat} (h:0 < w.length) (z:Int):∃y,y∈w∧atI w (z % (w.length:Int))=some y:=by
  have m0:=Int.emod_nonneg z (show (w.length:Int)≠0 by omega)
  have m1:=Int.emod_lt_of_pos z (show (0:Int) < w.length by omega)
  obtain ⟨i,hi⟩:∃i:Nat,z % (w.length:Int)=i:=⟨(z % (w.length:Int)).toNat,by omega⟩
  refine ⟨w[i]'(by omega),List.getElem_mem _,?_⟩
  rw [hi,dR,List.getElem?_eq_getElem]
theorem lE {W z:Int} (h1:1≤W) (h2:W < 2 ^ 100 - 1):(z % (2*W+1) - W).natAbs < 2 ^ 100:=by
  have m0:=Int.emod_nonneg z (show 2*W+1≠0 by omega)
  have m1:=Int.emod_lt_of_pos z (show 0 < 2*W+1 by omega)
  generalize z % (2*W+1)=y at m0 m1
  omega
section
variable (w:List Nat) (W:Int) (hw:0 < w.length) (hw2:w.length≤26) (hn:∀a∈w,a < 128) (h1:1≤W) (h2:W < 2 ^ 100 - 1)
include hw hw2 hn h1 h2
theorem eX (x0 x3:Sl):∀(n lo:Nat) (be:Int) (c:List Pc) (a b:Sl),c.length+n≤1000→CordOk c→
    ∃(rest':Int) (c':List Pc) (a' b':Sl),bN ci cj (ia lo n) [x0, .sh (.str ⟨w.toArray⟩), .sh (.int W),x3, .ow (c.map aF), .ow [.int be],a,b]=some ([x0, .sh (.str ⟨w.toArray⟩), .sh (.int W),x3, .ow (c'.map aF), .ow [.int rest'],a',b'], .nx)∧c'.length=c.length+n∧CordOk c'
  | 0,lo,be,c,a,b,_,hc=>⟨be,c,a,b,rfl,rfl,hc⟩
  | n+1,lo,be,c,a,b,hl,hc=>by
    obtain ⟨y,hy,ey⟩:=kL hw be
    have d1:cw (w.length:Int)=true:=fX (by omega) (by omega)
    have d2:cw (2*W+1)=true:=fX (by omega) (by omega)
    have m2:bB 2 W=true:=fg (by decide) (by decide)
    have lw:w.length≤1000000:=by omega
    have lb:c.length < 1000000:=by omega
    have tt:=lE (z:=be / (w.length:Int)) h1 h2
    have step:(ci (.int lo) [x0, .sh (.str ⟨w.toArray⟩), .sh (.int W),x3, .ow (c.map aF), .ow [.int be],a,b]).bind cj=some ([x0, .sh (.str ⟨w.toArray⟩), .sh (.int W),x3, .ow ((c++[((y,be / (w.length:Int) % (2*W+1) - W):Pc)]).map aF), .ow [.int (be / (w.length:Int) / (2*W+1))], .sh (.int lo), .sh (.str ⟨#[y]⟩)], .nx):=by
      simp only [ci,aU,List.length_cons,List.length_nil,Nat.zero_add,Nat.reduceAdd,Nat.reduceLT,List.set_cons_succ,List.set_cons_zero,if_true,cj,cY,Option.bind_some,au,aB,ag,ae,List.getElem?_cons_succ,List.getElem?_cons_zero,Sl.isBr,Bool.true_and,dg,ad,bj,Bool.false_and,Bool.false_eq_true,ap,Option.map_some,if_false,bW,aO,df,look,Sl.val,ck,bg,aG,gN,lw,aS,cb,Bool.and_true,d1,ey,PL.settle,frz,frzAll,bX,aW,bS,aj,pC,bC,Int.reduceNeg,Bool.not_false,Bool.true_or,aX,cm,ip,aH,m2,d2,Nat.reduceLeDiff,List.length_map,lb,List.map_append,List.map_cons,aF,List.map_nil]
    obtain ⟨r',c',a',b',e,l,k⟩:=eX x0 x3 n (lo+1) (be / (w.length:Int) / (2*W+1)) (c++[((y,be / (w.length:Int) % (2*W+1) - W):Pc)]) (.sh (.int lo)) (.sh (.str ⟨#[y]⟩)) (by simp;omega) (hc.append fun q hq=>by rw [List.mem_singleton.mp hq];exact ⟨hn y hy,tt⟩)
    refine ⟨r',c',a',b',?_,by rw [l];simp;omega,k⟩
    rw [iV,bN,step]
    exact e
end
theorem ib (w:List Nat) (cell W K Ln z1 z2:Int) (y:Nat) (c:List Pc) (x3 x5 a b:Sl) (hLn:(w.length:Int)=Ln) (p1:0 < Ln) (p2:0 < 2*W+1) (lw:w.length≤1000000) (lb:c.length < 1000000) (m2:bB 2 W=true) (m3:bB 2 K=true) (ey:atI w (z1 % Ln)=some y)
    (e1:bn [.int cell, .int (2*K+1)]=some (.sh (.int z1))) (e2:bn [.int cell, .int (2*K+2)]=some (.sh (.int z2))):
    (bP (.int K) [.sh (.int cell), .sh (.str ⟨w.toArray⟩), .sh (.int W),x3, .ow (c.map aF),x5,a,b]).bind bQ=some ([.sh (.int cell), .sh (.str ⟨w.toArray⟩), .sh (.int W),x3, .ow ((c++[((y,z2 % (2*W+1) - W):Pc)]).map aF),x5, .sh (.int K), .sh (.str ⟨#[y]⟩)], .nx):=by
  simp only [bP,aU,List.length_cons,List.length_nil,Nat.zero_add,Nat.reduceAdd,Nat.reduceLT,List.set_cons_succ,List.set_cons_zero,if_true,bQ,cf,cY,Option.bind_some,au,aB,ag,ae,List.getElem?_cons_succ,List.getElem?_cons_zero,Sl.isBr,Bool.false_and,Bool.false_eq_true,am,ad,pC,bC,look,Sl.val,Int.reduceNeg,ck,bg,if_false,Bool.not_false,Bool.true_or,Bool.and_true,aX,ap,Option.map_some,bj,bW,cm,ip,df,m3,aG,e1,gN,lw,hLn,p1,decide_true,ey,PL.settle,frz,frzAll,bX,aW,bS,aj,aH,e2,m2,p2,Nat.reduceLeDiff,List.length_map,lb,List.map_append,List.map_cons,aF,List.map_nil]
section
variable (w:List Nat) (W:Int) (hw:0 < w.length) (hw2:w.length≤26) (hn:∀a∈w,a < 128) (h1:1≤W) (h2:W < 2 ^ 100 - 1)
include hw hw2 hn h1 h2
theorem eY (cell:Int) (x3 x5:Sl):∀(n lo:Nat) (c:List Pc) (a b:Sl),lo+n≤1000→c.length+n≤1000→CordOk c→
    ∃(c':List Pc) (a' b':Sl),bN bP bQ (ia lo n) [.sh (.int cell), .sh (.str ⟨w.toArray⟩), .sh (.int W),x3, .ow (c.map aF),x5,a,b]=some ([.sh (.int cell), .sh (.str ⟨w.toArray⟩), .sh (.int W),x3, .ow (c'.map aF),x5,a',b'], .nx)∧c'.length=c.length+n∧CordOk c'
  | 0,lo,c,a,b,_,_,hc=>⟨c,a,b,rfl,rfl,hc⟩
  | n+1,lo,c,a,b,hlo,hl,hc=>by
    obtain ⟨z1,e1⟩:=fN cell (2*lo+1) (by omega)
    obtain ⟨z2,e2⟩:=fN cell (2*lo+2) (by omega)
    rw [show ((2*lo+1:Nat):Int)=2*(lo:Int)+1 by omega] at e1
    rw [show ((2*lo+2:Nat):Int)=2*(lo:Int)+2 by omega] at e2
    generalize hL:(lo:Int)=K at e1 e2
    obtain ⟨y,hy,ey⟩:=kL hw z1
    obtain ⟨Ln,hLn⟩:∃Ln:Int,(w.length:Int)=Ln:=⟨_,rfl⟩
    have p1:0 < Ln:=by omega
    rw [hLn] at ey
    have p2:0 < 2*W+1:=by omega
    have m2:bB 2 W=true:=fg (by decide) (by decide)
    have m3:bB 2 K=true:=fg (by decide) (by decide)
    have lw:w.length≤1000000:=by omega
    have lb:c.length < 1000000:=by omega
    have tt:=lE (z:=z2) h1 h2
    have step:=ib w cell W K Ln z1 z2 y c x3 x5 a b hLn p1 p2 lw lb m2 m3 ey e1 e2
    obtain ⟨c',a',b',e,l,k⟩:=eY cell x3 x5 n (lo+1) (c++[((y,z2 % (2*W+1) - W):Pc)]) (.sh (.int K)) (.sh (.str ⟨#[y]⟩)) (by omega) (by simp;omega) (hc.append fun q hq=>by rw [List.mem_singleton.mp hq];exact ⟨hn y hy,tt⟩)
    refine ⟨c',a',b',?_,by rw [l];simp;omega,k⟩
    rw [iV,bN,step]
    show bN bP bQ (ia (K+1) n) _=_
    rw [←hL] at e ⊢
    exact e
end
section
variable (w:List Nat) (W:Int) (hw:0 < w.length) (hw2:w.length≤26) (hn:∀a∈w,a < 128) (h1:1≤W) (h2:W < 2 ^ 100 - 1)
include hw hw2 hn h1 h2
theorem j9 (cell:Int) (most:Nat) (hm:most≤100):∃c:List Pc,bh [.int cell, .str ⟨w.toArray⟩, .int W, .int most]=some (.ow (c.map aF))∧c.length≤most∧CordOk c:=by
  have dm:cw ((most:Int)+1)=true:=fX (by omega) (by omega)
  have pm:0 < (most:Int)+1:=by omega
  by_cases big: -1000000000000000000 < cell∧cell < 1000000000000000000
  · obtain ⟨z,ez⟩:=fN cell 0 (by omega)
    simp only [Int.natCast_zero] at ez
    have m0:=Int.emod_nonneg z (show (most:Int)+1≠0 by omega)
    have m1:=Int.emod_lt_of_pos z pm
    obtain ⟨n,hn'⟩:∃n:Nat,z % ((most:Int)+1)=n:=⟨(z % ((most:Int)+1)).toNat,by omega⟩
    obtain ⟨c',a',b',e,l,k⟩:=eY w W hw hw2 hn h1 h2 cell (.sh (.int most)) .no n 0 [] .no .no (by omega) (by simp;omega) jV
    refine ⟨c',?_,by rw [l];simp;omega,k⟩
    have ob: -1000000≤(n:Int)∧(n:Int)≤1000000:=by omega
    simp only [List.map_nil,Int.natCast_zero] at e
    simp only [bh,dA,List.length_cons,List.length_nil,Nat.zero_add,Nat.reduceAdd,dz,cR,au,aB,bH,aH,aM,List.map_cons,List.map_nil,Nat.reduceSub,List.replicate,List.cons_append,List.nil_append,Option.bind_some,Nat.reduceLeDiff,if_true,PL.settle,frz,frzAll,Nat.reduceLT,List.set_cons_succ,List.set_cons_zero,aV,bU,cu,fD,cy,ag,pC,Sl.isBr,Bool.false_and,Bool.false_eq_true,eL,cm,look,Sl.val,ip,Int.reducePow,Int.reduceNeg,if_false,Int.reduceLE,Int.reduceLT,and_self,decide_true,Int.reduceToNat,Option.map_some,bM,Bool.or_false,ae,bO,Cm.i,Cm.s,aj,dN,gq,ad,dg,aX,ck,bg,Bool.not_false,Bool.true_or,Bool.and_true,ap,aP,ay,am,cf,List.getElem?_cons_zero,big.2,big.1,Bool.not_true,List.getElem?_cons_succ,aS,cb,aG,ez,pm,hn',ob,Int.toNat_natCast,e,dc,bI,bc]
  · have m0:=Int.emod_nonneg cell (show (most:Int)+1≠0 by omega)
    have m1:=Int.emod_lt_of_pos cell pm
    obtain ⟨n,hn'⟩:∃n:Nat,cell % ((most:Int)+1)=n:=⟨(cell % ((most:Int)+1)).toNat,by omega⟩
    obtain ⟨r',c',a',b',e,l,k⟩:=eX w W hw hw2 hn h1 h2 (.sh (.int cell)) (.sh (.int most)) n 0 (cell / ((most:Int)+1)) [] .no .no (by simp;omega) jV
    refine ⟨c',?_,by rw [l];simp;omega,k⟩
    have ob: -1000000≤(n:Int)∧(n:Int)≤1000000:=by omega
    simp only [List.map_nil,Int.natCast_zero] at e
    by_cases b1: -1000000000000000000 < cell
    · have b2:¬cell < 1000000000000000000:=fun z=>big ⟨b1,z⟩
      simp only [bh,dA,List.length_cons,List.length_nil,Nat.zero_add,Nat.reduceAdd,dz,cR,au,aB,bH,aH,aM,List.map_cons,List.map_nil,Nat.reduceSub,List.replicate,List.cons_append,List.nil_append,Option.bind_some,Nat.reduceLeDiff,if_true,PL.settle,frz,frzAll,Nat.reduceLT,List.set_cons_succ,List.set_cons_zero,aV,bU,cu,fD,cy,ag,pC,Sl.isBr,Bool.false_and,Bool.false_eq_true,eL,cm,look,Sl.val,ip,Int.reducePow,Int.reduceNeg,if_false,Int.reduceLE,Int.reduceLT,and_self,decide_true,Int.reduceToNat,Option.map_some,bM,Bool.or_false,ae,bO,Cm.i,Cm.s,aj,dN,gq,ad,dg,aX,ck,bg,Bool.not_false,Bool.true_or,Bool.and_true,ap,aO,aP,ay,am,cf,List.getElem?_cons_zero,b2,decide_false,b1,List.getElem?_cons_succ,aS,cb,aG,dm,hn',ob,Int.toNat_natCast,e,dc,bI,bc]
    · simp only [bh,dA,List.length_cons,List.length_nil,Nat.zero_add,Nat.reduceAdd,dz,cR,au,aB,bH,aH,aM,List.map_cons,List.map_nil,Nat.reduceSub,List.replicate,List.cons_append,List.nil_append,Option.bind_some,Nat.reduceLeDiff,if_true,PL.settle,frz,frzAll,Nat.reduceLT,List.set_cons_succ,List.set_cons_zero,aV,bU,cu,fD,cy,ag,pC,Sl.isBr,Bool.false_and,Bool.false_eq_true,eL,cm,look,Sl.val,ip,Int.reducePow,Int.reduceNeg,if_false,Int.reduceLE,Int.reduceLT,and_self,decide_true,Int.reduceToNat,Option.map_some,bM,Bool.or_false,ae,bO,Cm.i,Cm.s,aj,dN,gq,ad,dg,aX,ck,bg,Bool.not_false,Bool.true_or,Bool.and_true,ap,aO,aP,ay,am,cf,List.getElem?_cons_zero,b1,decide_false,List.getElem?_cons_succ,aS,cb,aG,dm,hn',ob,Int.toNat_natCast,e,dc,bI,bc]
end
theorem ju (x0 a b:Sl) (p:Pc) (st:List Pc) (lb:st.length+1≤300001):∃a' b',(bY (aF p) [x0, .ow (st.reverse.map aF),a,b]).bind aN=some ([x0, .ow ((NH.stp st p).reverse.map aF),a',b'], .nx):=by
  have et:∀ds,bY (aF p) [x0, .ow ds,a,b]=some [x0, .ow ds, .sh (.str ⟨#[p.1]⟩), .sh (.int p.2)]:=fun _=>rfl
  rw [et,Option.bind_some]
  cases st with
  | nil=>
    by_cases z:p.2=0
    · simp only [aN,au,aV,cz,cu,ag,bj,ad,ae,List.reverse_nil,List.map_nil,z,List.getElem?_cons_succ,List.getElem?_cons_zero,Sl.isBr,Bool.false_and,Bool.false_eq_true,ap,Option.map_some,if_false,Option.bind_some,bW,aG,look,Sl.val,List.length_nil,Int.cast_ofNat_Int,pC,cm,bO,Cm.i,Cm.s,Int.reduceLT,decide_false,cy,bM,Int.reduceNeg,df,ck,bg,iq,Option.any_some,aB,aX,PL.settle,frz,frzAll,bX,fm,ay,Bool.not_false,Bool.true_or,Bool.and_true,gp,aW,bS,aj,aH,bv,decide_true,Bool.not_true,List.length_cons,Nat.zero_add,Nat.reduceAdd,Nat.reduceLeDiff,if_true,Nat.reduceLT,List.nil_append,List.set_cons_succ,List.set_cons_zero,NH.stp]
      exact ⟨_,_,rfl⟩
    · simp only [aN,au,aV,cz,cu,ag,bj,ad,ae,List.reverse_nil,List.map_nil,List.getElem?_cons_succ,List.getElem?_cons_zero,Sl.isBr,Bool.false_and,Bool.false_eq_true,ap,Option.map_some,if_false,Option.bind_some,bW,aG,look,Sl.val,List.length_nil,Int.cast_ofNat_Int,pC,cm,bO,Cm.i,Cm.s,Int.reduceLT,decide_false,cy,bM,Int.reduceNeg,df,ck,bg,iq,Option.any_some,aB,aX,PL.settle,frz,frzAll,bX,fm,ay,Bool.not_false,Bool.true_or,Bool.and_true,gp,aW,bS,aj,aH,bv,z,List.length_cons,Nat.zero_add,Nat.reduceAdd,Nat.reduceLeDiff,if_true,Nat.reduceLT,List.nil_append,List.set_cons_succ,List.set_cons_zero,NH.stp]
      exact ⟨_,_,rfl⟩
  | cons q st=>
    have lb1:st.length < 1000000∧st.length+1 < 1000000∧st.length+1≤1000000:=by simp at lb;omega
    have gt:((st.length+1:Nat):Int) > 0:=by omega
    have gt2:0 < ((st.length+1:Nat):Int):=by omega
    by_cases e:q.1=p.1
    · by_cases z:q.2+p.2=0
      · simp only [aN,au,aV,cz,cu,ag,bj,ad,ae,List.reverse_cons,List.map_append,List.map_cons,List.map_nil,List.getElem?_cons_succ,List.getElem?_cons_zero,Sl.isBr,Bool.false_and,Bool.false_eq_true,ap,Option.map_some,if_false,Option.bind_some,bW,aG,look,Sl.val,List.length_append,List.length_map,List.length_reverse,List.length_cons,List.length_nil,Nat.zero_add,pC,cm,bO,Cm.i,Cm.s,gt,decide_true,cy,bM,Int.reduceNeg,df,ck,bg,iq,Option.any_some,cp,if_true,aB,aX,PL.settle,frz,frzAll,bX,fm,ay,gp,aW,bS,aj,aH,NH.stp]
        simp only [aF,e,eS,Option.map_some,Option.bind_some,List.getElem?_cons_succ,List.getElem?_cons_zero,dG,decide_true,Int.reduceNeg,Sl.val,Option.any_some,bg,Bool.false_and,Bool.false_eq_true,if_false,cp,fu,Bool.not_false,Bool.true_or,Bool.and_true,Int.add_comm p.2 q.2,z,List.length_cons,List.length_nil,Nat.zero_add,Nat.reduceAdd,Nat.reduceLT,List.set_cons_succ,List.set_cons_zero,if_true,List.dropLast_concat,fe,bv,Bool.not_true,Nat.reduceLeDiff]
        simp [aF]
      · simp only [aN,au,aV,cz,cu,ag,bj,ad,ae,List.reverse_cons,List.map_append,List.map_cons,List.map_nil,List.getElem?_cons_succ,List.getElem?_cons_zero,Sl.isBr,Bool.false_and,Bool.false_eq_true,ap,Option.map_some,if_false,Option.bind_some,bW,aG,look,Sl.val,List.length_append,List.length_map,List.length_reverse,List.length_cons,List.length_nil,Nat.zero_add,pC,cm,bO,Cm.i,Cm.s,gt,decide_true,cy,bM,Int.reduceNeg,df,ck,bg,iq,Option.any_some,cp,if_true,aB,aX,PL.settle,frz,frzAll,bX,fm,ay,gp,aW,bS,aj,aH,NH.stp]
        simp only [aF,e,eS,Option.map_some,Option.bind_some,List.getElem?_cons_succ,List.getElem?_cons_zero,dG,decide_true,Int.reduceNeg,Sl.val,Option.any_some,bg,Bool.false_and,Bool.false_eq_true,if_false,cp,fu,Bool.not_false,Bool.true_or,Bool.and_true,Int.add_comm p.2 q.2,List.length_cons,List.length_nil,Nat.zero_add,Nat.reduceAdd,Nat.reduceLT,List.set_cons_succ,List.set_cons_zero,if_true,List.dropLast_concat,fe,bv,z,decide_false,Nat.reduceLeDiff,List.length_map,List.length_reverse,lb1]
        simp [aF]
    · by_cases z:p.2=0
      · simp only [aN,au,aV,cz,cu,ag,bj,ad,ae,List.reverse_cons,List.map_append,List.map_cons,List.map_nil,List.getElem?_cons_succ,List.getElem?_cons_zero,Sl.isBr,Bool.false_and,Bool.false_eq_true,ap,Option.map_some,if_false,Option.bind_some,bW,aG,look,Sl.val,List.length_append,List.length_map,List.length_reverse,List.length_cons,List.length_nil,Nat.zero_add,pC,cm,bO,Cm.i,Cm.s,gt,decide_true,cy,bM,Int.reduceNeg,df,ck,bg,iq,Option.any_some,cp,if_true,aB,aX,PL.settle,frz,frzAll,bX,fm,ay,gp,aW,bS,aj,aH,NH.stp]
        simp only [aF,z,eS,Option.map_some,Option.bind_some,List.getElem?_cons_succ,List.getElem?_cons_zero,dG,gL,e,decide_false,Int.reduceNeg,Bool.false_eq_true,Sl.val,Option.any_some,bg,Bool.false_and,if_false,cp,fu,Bool.not_false,Bool.true_or,Bool.and_true,List.length_cons,List.length_nil,Nat.zero_add,Nat.reduceAdd,Nat.reduceLT,List.set_cons_succ,List.set_cons_zero,if_true,List.dropLast_concat,fe,bv,decide_true,Bool.not_true,Nat.reduceLeDiff]
        simp [aF]
      · simp only [aN,au,aV,cz,cu,ag,bj,ad,ae,List.reverse_cons,List.map_append,List.map_cons,List.map_nil,List.getElem?_cons_succ,List.getElem?_cons_zero,Sl.isBr,Bool.false_and,Bool.false_eq_true,ap,Option.map_some,if_false,Option.bind_some,bW,aG,look,Sl.val,List.length_append,List.length_map,List.length_reverse,List.length_cons,List.length_nil,Nat.zero_add,pC,cm,bO,Cm.i,Cm.s,gt,decide_true,cy,bM,Int.reduceNeg,df,ck,bg,iq,Option.any_some,cp,if_true,aB,aX,PL.settle,frz,frzAll,bX,fm,ay,gp,aW,bS,aj,aH,NH.stp]
        simp only [aF,eS,Option.map_some,Option.bind_some,List.getElem?_cons_succ,List.getElem?_cons_zero,dG,gL,e,decide_false,Int.reduceNeg,Bool.false_eq_true,Sl.val,Option.any_some,bg,Bool.false_and,if_false,cp,fu,Bool.not_false,Bool.true_or,Bool.and_true,List.length_cons,List.length_nil,Nat.zero_add,Nat.reduceAdd,Nat.reduceLT,List.set_cons_succ,List.set_cons_zero,if_true,List.dropLast_concat,List.length_append,List.length_map,List.length_reverse,bv,z,Nat.reduceLeDiff,lb1]
        simp [aF]
theorem gc (x0:Sl):∀(c:List Pc) (st:List Pc) (a b:Sl),st.length+c.length≤300000→∃a' b',bN bY aN (c.map aF) [x0, .ow (st.reverse.map aF),a,b]=some ([x0, .ow ((c.foldl NH.stp st).reverse.map aF),a',b'], .nx)
  | [],st,a,b,_=>⟨a,b,rfl⟩
  | p::c,st,a,b,h=>by
    obtain ⟨a',b',e⟩:=ju x0 a b p st (by simp at h;omega)
    obtain ⟨a2,b2,e2⟩:=gc x0 c (NH.stp st p) a' b' (by have:=NH.i9 st p;simp at h;omega)
    refine ⟨a2,b2,?_⟩
    rw [List.map_cons,bN,e]
    exact e2
theorem gd (c:List Pc) (h:c.length≤300000):aZ [.list (c.map aF)]=some (.ow ((NH.short c).map aF)):=by
  obtain ⟨a,b,e⟩:=gc (.sh (.list (c.map aF))) c [] .no .no (by simpa using h)
  simp only [List.reverse_nil,List.map_nil] at e
  simp only [aZ,dA,List.length_cons,List.length_nil,Nat.zero_add,dz,dI,au,aB,bH,aH,aM,List.map_cons,List.map_nil,Nat.reduceSub,List.replicate,List.cons_append,List.nil_append,Option.bind_some,Nat.reduceLeDiff,if_true,PL.settle,frz,frzAll,Nat.reduceAdd,Nat.reduceLT,List.set_cons_succ,List.set_cons_zero,dN,eN,ae,aP,List.getElem?_cons_zero,e,List.getElem?_cons_succ,Option.map_some,dc,bI,bc,Option.some.injEq]
  rfl
theorem eI:∀(d:List Pc) (x0 x1:Sl),dF bV eR bz (d.map aF) [x0,x1]=some ((d.map fun p=>((p.1,-p.2):Pc)).map aF)
  | [],x0,x1=>rfl
  | p::d,x0,x1=>by
    have e:(bV (aF p) [x0,x1])=some [.sh (.str ⟨#[p.1]⟩), .sh (.int p.2)]:=rfl
    have e2:bz [.sh (.str ⟨#[p.1]⟩), .sh (.int p.2)]=some (.sh (aF (p.1,-p.2)),[.sh (.str ⟨#[p.1]⟩), .sh (.int p.2)]):=by
      simp only [bz,bS,aj,ae,List.getElem?_cons_zero,frz,cy,look,Sl.val,bM,aH,Option.map_some,Option.bind_some,List.getElem?_cons_succ,List.length_cons,List.length_nil,Nat.zero_add,Nat.reduceAdd,Nat.reduceLeDiff,if_true,aF]
    rw [List.map_cons,dF,e,Option.bind_some]
    simp only [eR,frz,Option.bind_some,e2,eI d,Option.map_some,if_true,List.map_cons]
theorem eJ (c:List Pc) (h:c.length≤1000000):aK [.list (c.map aF)]=some (.ow ((NH.contr c).map aF)):=by
  have hl:(NH.contr c).length=c.length:=NH.bL c
  have e:(c.reverse.map fun p=>((p.1,-p.2):Pc))=NH.contr c:=rfl
  have k:=eI c.reverse .no .no
  rw [e,List.map_reverse] at k
  simp only [aK,dA,List.length_cons,List.length_nil,Nat.zero_add,dz,cJ,aP,ft,jO,ae,aM,List.map_cons,List.map_nil,Nat.sub_self,List.replicate,List.cons_append,List.nil_append,List.getElem?_cons_zero,frz,Option.bind_some,eQ,iT,k,bc,List.length_map,hl,h,decide_true,Bool.and_true,if_true,dc,bI]
theorem fv (x0:Sl):∀(c:List Pc) (st:List Pc) (a b d:Sl),st.length+c.length≤100000→∃a' b' d',bN aI aJ (c.map aF) [x0, .ow (st.reverse.map aF),a,b,d]=some ([x0, .ow ((c.foldl NH.stp st).reverse.map aF),a',b',d'], .nx)
  | [],st,a,b,d,_=>⟨a,b,d,rfl⟩
  | p::c,st,a,b,d,h=>by
    have step:∃a' b' d',(aI (aF p) [x0, .ow (st.reverse.map aF),a,b,d]).bind aJ=some ([x0, .ow ((NH.stp st p).reverse.map aF),a',b',d'], .nx):=by
      cases st with
      | nil=>
        by_cases z:p.2=0
        · simp only [aI,dy,aF,z,List.length_cons,List.length_nil,Nat.zero_add,Nat.reduceAdd,bE,aU,List.reverse_nil,List.map_nil,Nat.reduceLT,List.set_cons_succ,List.set_cons_zero,if_true,Option.bind_some,dw,List.isEmpty_nil,aJ,iq,gp,au,aB,ae,List.getElem?_cons_succ,List.getElem?_cons_zero,PL.settle,frz,frzAll,aV,cz,cL,Sl.val,cu,ag,Sl.isBr,Bool.false_and,Bool.false_eq_true,cy,pC,look,bM,Option.map_some,df,ck,bg,if_false,cm,fm,aX,ay,bX,aW,bS,aj,aH,eM,Bool.not_true,Option.any_some,Nat.reduceSub,bv,decide_true,Nat.reduceLeDiff,List.nil_append,NH.stp]
          exact ⟨_,_,_,rfl⟩
        · simp only [aI,dy,aF,List.length_cons,List.length_nil,Nat.zero_add,Nat.reduceAdd,bE,aU,List.reverse_nil,List.map_nil,Nat.reduceLT,List.set_cons_succ,List.set_cons_zero,if_true,Option.bind_some,dw,List.isEmpty_nil,aJ,iq,gp,au,aB,ae,List.getElem?_cons_succ,List.getElem?_cons_zero,PL.settle,frz,frzAll,aV,cz,cL,Sl.val,cu,ag,Sl.isBr,Bool.false_and,Bool.false_eq_true,cy,pC,look,bM,Option.map_some,df,ck,bg,if_false,cm,fm,aX,ay,bX,aW,bS,aj,aH,eM,Bool.not_true,Option.any_some,Nat.reduceSub,bv,z,decide_false,Bool.not_false,Nat.reduceLeDiff,List.nil_append,NH.stp]
          exact ⟨_,_,_,rfl⟩
      | cons q st=>
        have lb:st.length < 1000000∧st.length+1 < 1000000:=by simp at h;omega
        by_cases e:q.1=p.1
        · by_cases z:q.2+p.2=0
          · simp only [aI,dy,bE,aU,List.reverse_cons,List.map_append,List.map_cons,List.map_nil,List.length_cons,List.length_nil,Nat.zero_add,Nat.reduceAdd,Nat.reduceLT,List.set_cons_succ,List.set_cons_zero,if_true,Option.bind_some,dw,aJ,iq,gp,NH.stp]
            simp only [aF,List.length_cons,List.length_nil,Nat.zero_add,Nat.reduceAdd,List.isEmpty_nil,e,if_true,Option.bind_some,au,aB,ae,List.getElem?_cons_succ,List.getElem?_cons_zero,PL.settle,frz,frzAll,Nat.reduceLT,List.set_cons_succ,List.set_cons_zero,aV,cz,cL,Sl.val,cu,ag,Sl.isBr,Bool.false_and,Bool.false_eq_true,cy,pC,look,bM,Option.map_some,df,ck,bg,if_false,cm,fm,aX,ay,bX,aW,bS,aj,aH,eM,gK,Bool.not_false,Option.any_some,cp,eS,dG,decide_true,List.dropLast_concat,fe,fu,Bool.true_or,Bool.and_true,z,bv,Bool.not_true,Nat.reduceLeDiff]
            simp [aF]
          · simp only [aI,dy,bE,aU,List.reverse_cons,List.map_append,List.map_cons,List.map_nil,List.length_cons,List.length_nil,Nat.zero_add,Nat.reduceAdd,Nat.reduceLT,List.set_cons_succ,List.set_cons_zero,if_true,Option.bind_some,dw,aJ,iq,gp,NH.stp]
            simp only [aF,List.length_cons,List.length_nil,Nat.zero_add,Nat.reduceAdd,List.isEmpty_nil,e,if_true,Option.bind_some,au,aB,ae,List.getElem?_cons_succ,List.getElem?_cons_zero,PL.settle,frz,frzAll,Nat.reduceLT,List.set_cons_succ,List.set_cons_zero,aV,cz,cL,Sl.val,cu,ag,Sl.isBr,Bool.false_and,Bool.false_eq_true,cy,pC,look,bM,Option.map_some,df,ck,bg,if_false,cm,fm,aX,ay,bX,aW,bS,aj,aH,eM,gK,Bool.not_false,Option.any_some,cp,eS,dG,decide_true,List.dropLast_concat,fe,fu,Bool.true_or,Bool.and_true,bv,z,decide_false,Nat.reduceLeDiff,List.length_map,List.length_reverse,lb]
            simp [aF]
        · by_cases z:p.2=0
          · simp only [aI,dy,bE,aU,List.reverse_cons,List.map_append,List.map_cons,List.map_nil,List.length_cons,List.length_nil,Nat.zero_add,Nat.reduceAdd,Nat.reduceLT,List.set_cons_succ,List.set_cons_zero,if_true,Option.bind_some,dw,aJ,iq,gp,NH.stp]
            simp only [aF,z,List.length_cons,List.length_nil,Nat.zero_add,Nat.reduceAdd,List.isEmpty_nil,if_true,Option.bind_some,au,aB,ae,List.getElem?_cons_succ,List.getElem?_cons_zero,PL.settle,frz,frzAll,Nat.reduceLT,List.set_cons_succ,List.set_cons_zero,aV,cz,cL,Sl.val,cu,ag,Sl.isBr,Bool.false_and,Bool.false_eq_true,cy,pC,look,bM,Option.map_some,df,ck,bg,if_false,cm,fm,aX,ay,bX,aW,bS,aj,aH,eM,gK,Bool.not_false,Option.any_some,cp,eS,dG,gL,e,decide_false,List.dropLast_concat,fe,fu,Bool.true_or,Bool.and_true,bv,decide_true,Bool.not_true,Nat.reduceLeDiff]
            simp [aF]
          · simp only [aI,dy,bE,aU,List.reverse_cons,List.map_append,List.map_cons,List.map_nil,List.length_cons,List.length_nil,Nat.zero_add,Nat.reduceAdd,Nat.reduceLT,List.set_cons_succ,List.set_cons_zero,if_true,Option.bind_some,dw,aJ,iq,gp,NH.stp]
            simp only [aF,List.length_cons,List.length_nil,Nat.zero_add,Nat.reduceAdd,List.isEmpty_nil,if_true,Option.bind_some,au,aB,ae,List.getElem?_cons_succ,List.getElem?_cons_zero,PL.settle,frz,frzAll,Nat.reduceLT,List.set_cons_succ,List.set_cons_zero,aV,cz,cL,Sl.val,cu,ag,Sl.isBr,Bool.false_and,Bool.false_eq_true,cy,pC,look,bM,Option.map_some,df,ck,bg,if_false,cm,fm,aX,ay,bX,aW,bS,aj,aH,eM,gK,Bool.not_false,Option.any_some,cp,eS,dG,gL,e,decide_false,List.dropLast_concat,List.length_append,List.length_map,List.length_reverse,bv,z,Nat.reduceLeDiff,lb]
            simp [aF]
    obtain ⟨a',b',d',e⟩:=step
    have ih:=fv x0 c (NH.stp st p) a' b' d' (by have:=NH.i9 st p;simp at h;omega)
    obtain ⟨a2,b2,d2,e2⟩:=ih
    refine ⟨a2,b2,d2,?_⟩
    rw [List.map_cons,bN,e]
    exact e2
theorem bA (c:List Pc) (h:c.length≤100000):aA [.list (c.map aF)]=some (.ow ((NH.short c).map aF)):=by
  obtain ⟨a,b,d,e⟩:=fv (.sh (.list (c.map aF))) c [] .no .no .no (by simpa using h)
  simp only [List.reverse_nil,List.map_nil] at e
  simp only [aA,dA,List.length_cons,List.length_nil,Nat.zero_add,dz,dh,au,aB,bH,aH,aM,List.map_cons,List.map_nil,Nat.reduceSub,List.replicate,List.cons_append,List.nil_append,Option.bind_some,Nat.reduceLeDiff,if_true,PL.settle,frz,frzAll,Nat.reduceAdd,Nat.reduceLT,List.set_cons_succ,List.set_cons_zero,dN,eN,ae,aP,List.getElem?_cons_zero,e,List.getElem?_cons_succ,Option.map_some,dc,bI,bc,Option.some.injEq]
  rfl
theorem gz:∀(d:List Pc) (x0 x1:Sl),dF cX eR cg (d.map aF) [x0,x1]=some ((d.map fun p=>((p.1,-p.2):Pc)).map aF)
  | [],x0,x1=>rfl
  | p::d,x0,x1=>by
    have e:(cX (aF p) [x0,x1])=some [.sh (.str ⟨#[p.1]⟩), .sh (.int p.2)]:=rfl
    have e2:cg [.sh (.str ⟨#[p.1]⟩), .sh (.int p.2)]=some (.sh (aF (p.1,-p.2)),[.sh (.str ⟨#[p.1]⟩), .sh (.int p.2)]):=by
      simp only [cg,bS,aj,ae,List.getElem?_cons_zero,frz,cy,look,Sl.val,bM,aH,Option.map_some,Option.bind_some,List.getElem?_cons_succ,List.length_cons,List.length_nil,Nat.zero_add,Nat.reduceAdd,Nat.reduceLeDiff,if_true,aF]
    rw [List.map_cons,dF,e,Option.bind_some]
    simp only [eR,frz,Option.bind_some,e2,gz d,Option.map_some,if_true,List.map_cons]
theorem j_ (c:List Pc) (h:c.length≤1000000):cC [.list (c.map aF)]=some (.ow ((NH.contr c).map aF)):=by
  have hl:(NH.contr c).length=c.length:=NH.bL c
  have e:(c.reverse.map fun p=>((p.1,-p.2):Pc))=NH.contr c:=rfl
  have k:=gz c.reverse .no .no
  rw [e,List.map_reverse] at k
  simp only [cC,dA,List.length_cons,List.length_nil,Nat.zero_add,dz,em,aP,ft,jO,ae,aM,List.map_cons,List.map_nil,Nat.sub_self,List.replicate,List.cons_append,List.nil_append,List.getElem?_cons_zero,frz,Option.bind_some,eQ,iT,k,bc,List.length_map,hl,h,decide_true,Bool.and_true,if_true,dc,bI]
theorem gf (x0 x1:Sl):∀(W:List Pc) (a b:Sl),NailsOk W→∃a' b',bN bZ b4 (fT (W.map aF) (W.map aF)) [x0,x1,a,b]=some ([x0,x1,a',b'], .nx)
  | [],a,b,_=>⟨a,b,rfl⟩
  | p::W,a,b,h=>by
    have q:=rl (h p (List.mem_cons_self ..)) (h p (List.mem_cons_self ..))
    rw [decide_eq_true rfl] at q
    have q2:lj (.tuple [.str ⟨#[p.1]⟩, .int p.2]) (.tuple [.str ⟨#[p.1]⟩, .int p.2])=some true:=q
    have e:(bZ (.tuple [aF p,aF p]) [x0,x1,a,b]).bind b4=some ([x0,x1, .sh (aF p), .sh (aF p)], .nx):=by
      simp only [bZ,dy,aF,List.length_cons,List.length_nil,Nat.zero_add,Nat.reduceAdd,bE,aU,Nat.reduceLT,List.set_cons_succ,List.set_cons_zero,if_true,Option.bind_some,dw,List.isEmpty_nil,b4,gp,au,aV,ir,bU,cL,cy,ae,List.getElem?_cons_succ,List.getElem?_cons_zero,look,Sl.val,iu,Ty.is,rT,Option.map_some,eM,Bool.not_true,cu,ag,bj,ad,Sl.isBr,Bool.false_and,Bool.false_eq_true,ap,if_false,bW,pC,cm,df,ck,bg,aG,Int.cast_ofNat_Int,bv,decide_true,eS,aP,ay,fu,q2]
    obtain ⟨a',b',ih⟩:=gf x0 x1 W (.sh (aF p)) (.sh (aF p)) fun r hr=>h r (List.mem_cons_of_mem _ hr)
    refine ⟨a',b',?_⟩
    rw [List.map_cons,fT,bN,e]
    exact ih
theorem dk (W:List Pc) (h:NailsOk W) (hl:W.length≤100000):ax [.list (W.map aF), .list (W.map aF)]=some (.sh (.bool true)):=by
  obtain ⟨a,b,e⟩:=gf (.sh (.list (W.map aF))) (.sh (.list (W.map aF))) W .no .no h
  have lb:W.length≤1000000:=by omega
  simp only [ax,dA,List.length_cons,List.length_nil,Nat.zero_add,Nat.reduceAdd,dz,dJ,au,aV,ir,bU,cL,cy,ae,aM,List.map_cons,List.map_nil,Nat.reduceSub,List.replicate,List.cons_append,List.nil_append,List.getElem?_cons_zero,look,Sl.val,iu,Ty.is,rT,Option.bind_some,Option.map_some,eM,Bool.not_true,cu,ag,bj,ad,Sl.isBr,Bool.false_and,Bool.false_eq_true,ap,if_false,bW,gp,cm,aG,List.length_map,List.getElem?_cons_succ,bv,decide_true,aP,pC,ay,dN,nN,frz,e,dc,bI,cb,if_true]
theorem ie {c d:List Pc} (h:NH.short c=NH.short d) (z:Int):NH.short (NH.fo z c)=NH.short (NH.fo z d):=by
  unfold NH.fo
  split
  · exact NH.jl (NH.mf h) _
  · exact NH.jl h _
theorem ig (n:Nat) (a z:Int):NH.short (NH.fo z [((n,a):Pc)])=NH.short [((n,a*z):Pc)]:=by
  unfold NH.fo
  split
  · rename_i hz
    have e:NH.contr [((n,a):Pc)]=[((n,-a):Pc)]:=rfl
    rw [e,NH.kI]
    have e2: -a*(z.natAbs:Int)=a*z:=by
      rw [Int.ofNat_natAbs_of_nonpos (by omega),Int.neg_mul_neg]
    rw [e2]
  · rename_i hz
    rw [NH.kI]
    have e2:(z.natAbs:Int)=z:=Int.natAbs_of_nonneg (by omega)
    rw [e2]
theorem gg (z:Int) (v:List Pc):(NH.fo z v).length=z.natAbs*v.length:=by
  unfold NH.fo
  split
  · rw [NH.nZ,NH.bL]
  · rw [NH.nZ]
theorem iW {z:Int} {v:List Pc} (h:NailsOk v):NailsOk (NH.fo z v):=by
  have pwn:∀(t:Nat) (u:List Pc),NailsOk u→NailsOk (NH.pw t u):=fun t u hu=>by
    induction t with
    | zero=>exact gs
    | succ t ih=>
      rw [NH.fZ]
      exact fun p hp=>(List.mem_append.mp hp).elim (hu p) (ih p)
  unfold NH.fo
  split
  · exact pwn _ _ fun p hp=>by
      obtain ⟨q,hq,rfl⟩:=List.mem_map.mp hp
      exact h q (List.mem_reverse.mp hq)
  · exact pwn _ _ h
theorem lG (z:Int):NH.fo z ([]:List Pc)=[]:=List.length_eq_zero_iff.mp (by rw [gg];simp)
theorem lH (c:List Pc) {T:Int} (h:T < 0):(List.replicate (-T).toNat ((NH.contr c).map aF)).flatten=(NH.fo T c).map aF:=by
  rw [lx]
  unfold NH.fo NH.pw
  rw [if_pos h]
  congr 3
  omega
theorem lI (c:List Pc) {T:Int} (h:¬T < 0):(List.replicate T.toNat (c.map aF)).flatten=(NH.fo T c).map aF:=by
  rw [lx]
  unfold NH.fo NH.pw
  rw [if_neg h]
  congr 3
  omega
theorem ka (c:List Pc) (T:Int) (h:c.length*T.natAbs≤100000) (hT:T.natAbs≤100000) (hl:c.length≤100000):bw [.list (c.map aF), .int T]=some (.ow ((NH.fo T c).map aF)):=by
  have ec:=j_ c (by omega)
  have cl:(NH.contr c).length=c.length:=NH.bL c
  by_cases n:T < 0
  · have a:(T.natAbs:Int)= -T:=by omega
    have e:=lH c n
    have l1:c.length*(-T).toNat≤1000000:=by
      have:(-T).toNat=T.natAbs:=by omega
      rw [this];omega
    have l2: -1000000≤ -T:=by omega
    have l3: -T≤1000000:=by omega
    simp only [bw,dA,List.length_cons,List.length_nil,Nat.zero_add,Nat.reduceAdd,dz,dD,aP,ag,tT,cu,ae,aM,List.map_cons,List.map_nil,Nat.sub_self,List.replicate,List.cons_append,List.nil_append,List.getElem?_cons_succ,List.getElem?_cons_zero,Sl.isBr,Bool.false_and,Bool.false_eq_true,pC,cm,look,Sl.val,bO,Cm.i,Cm.s,Option.bind_some,if_false,n,decide_true,Option.map_some,am,ad,ap,aG,ec,if_true,bj,d9,bC,ck,bg,Bool.not_false,Bool.true_or,Bool.and_true,List.length_map,cl,l1,l2,l3,and_self,e,dc,bI,bc]
  · have a:(T.natAbs:Int)=T:=by omega
    have e:=lI c n
    have l1:c.length*T.toNat≤1000000:=by
      have:T.toNat=T.natAbs:=by omega
      rw [this];omega
    have l2: -1000000≤T:=by omega
    have l3:T≤1000000:=by omega
    simp only [bw,dA,List.length_cons,List.length_nil,Nat.zero_add,Nat.reduceAdd,dz,dD,aP,ag,tT,cu,ae,aM,List.map_cons,List.map_nil,Nat.sub_self,List.replicate,List.cons_append,List.nil_append,List.getElem?_cons_succ,List.getElem?_cons_zero,Sl.isBr,Bool.false_and,Bool.false_eq_true,pC,cm,look,Sl.val,bO,Cm.i,Cm.s,Option.bind_some,if_false,n,decide_false,Option.map_some,am,ad,ap,aG,bj,d9,bC,ck,bg,Bool.not_false,Bool.true_or,Bool.and_true,List.length_map,l1,l2,l3,and_self,decide_true,e,if_true,dc,bI,bc]
theorem ii (c:List Pc) (T:Int) (h:c.length*T.natAbs≤100000) (hT:T.natAbs≤100000) (hl:c.length≤100000):ba [.list (c.map aF), .int T]=some (.ow ((NH.short (NH.fo T c)).map aF)):=by
  have ec:=eJ c (by omega)
  have cl:(NH.contr c).length=c.length:=NH.bL c
  have es:=gd (NH.fo T c) (by rw [gg,Nat.mul_comm];omega)
  by_cases n:T < 0
  · have a:(T.natAbs:Int)= -T:=by omega
    have e:=lH c n
    have l1:c.length*(-T).toNat≤1000000:=by
      have:(-T).toNat=T.natAbs:=by omega
      rw [this];omega
    have l2: -1000000≤ -T:=by omega
    have l3: -T≤1000000:=by omega
    simp only [ba,dA,List.length_cons,List.length_nil,Nat.zero_add,Nat.reduceAdd,dz,dS,au,aV,cu,ag,ae,aM,List.map_cons,List.map_nil,Nat.sub_self,List.replicate,List.cons_append,List.nil_append,List.getElem?_cons_succ,List.getElem?_cons_zero,Sl.isBr,Bool.false_and,Bool.false_eq_true,pC,cm,look,Sl.val,bO,Cm.i,Cm.s,Option.bind_some,if_false,n,decide_true,Option.map_some,aB,am,ad,ap,PL.settle,frz,frzAll,ay,aG,ec,Nat.reduceLT,List.set_cons_zero,if_true,aP,bj,d9,bC,ck,bg,Option.any_some,Bool.not_false,Bool.true_or,Bool.and_true,List.length_map,cl,l1,l2,l3,and_self,e,es,dc,bI,bc]
  · have a:(T.natAbs:Int)=T:=by omega
    have e:=lI c n
    have l1:c.length*T.toNat≤1000000:=by
      have:T.toNat=T.natAbs:=by omega
      rw [this];omega
    have l2: -1000000≤T:=by omega
    have l3:T≤1000000:=by omega
    simp only [ba,dA,List.length_cons,List.length_nil,Nat.zero_add,Nat.reduceAdd,dz,dS,au,aV,cu,ag,ae,aM,List.map_cons,List.map_nil,Nat.sub_self,List.replicate,List.cons_append,List.nil_append,List.getElem?_cons_succ,List.getElem?_cons_zero,Sl.isBr,Bool.false_and,Bool.false_eq_true,pC,cm,look,Sl.val,bO,Cm.i,Cm.s,Option.bind_some,if_false,n,decide_false,Option.map_some,aB,am,ad,ap,PL.settle,frz,frzAll,ay,aG,aP,bj,d9,bC,ck,bg,Bool.not_false,Bool.true_or,Bool.and_true,List.length_map,l1,l2,l3,and_self,decide_true,e,if_true,es,dc,bI,bc]
theorem dl (c:List Pc) (T:Int):NH.short (NH.fo T (NH.short c))=NH.short (NH.fo T c):=ie (NH.jE c) T
theorem jv (c:List Pc) (T:Int) (hl:c.length≤5000) (h:NH.short c=[]):aD [.list (c.map aF), .int T]=some (.ow ((NH.short (NH.fo T c)).map aF)):=by
  have e:=bA c (by omega)
  have e0:=bA [] (by simp)
  have r:NH.short (NH.fo T c)=[]:=by rw [←dl,h,lG];rfl
  rw [h] at e
  rw [r]
  have z:NH.short ([]:List Pc)=[]:=rfl
  rw [z] at e0
  simp only [List.map_nil] at e e0
  simp only [aD,dA,List.length_cons,List.length_nil,Nat.zero_add,Nat.reduceAdd,dz,fj,au,aB,am,ad,ae,aM,List.map_cons,List.map_nil,Nat.reduceSub,List.replicate,List.cons_append,List.nil_append,List.getElem?_cons_zero,Sl.isBr,Bool.false_and,Bool.false_eq_true,ap,Option.map_some,if_false,Option.bind_some,aG,look,Sl.val,e,PL.settle,frz,frzAll,Nat.reduceLT,List.set_cons_succ,List.set_cons_zero,if_true,aV,cu,ag,bj,bW,pC,cm,bO,Cm.i,Cm.s,aP,ft,eN,eQ,iT,ay,d9,bC,ck,bg,List.getElem?_cons_succ,Int.cast_ofNat_Int,Int.reduceLT,decide_true,dF,aS,Nat.reduceLeDiff,Bool.and_true,e0,dc,bI]
theorem kd (p:Pc) (T:Int) (hm:bB p.2 T=true):dF cQ eR cr [aF p] [.no, .no, .sh (.int T)]=some [aF (p.1,p.2*T)]:=by
  have e:cQ (aF p) [.no, .no, .sh (.int T)]=some [.sh (.str ⟨#[p.1]⟩), .sh (.int p.2), .sh (.int T)]:=rfl
  have e2:cr [.sh (.str ⟨#[p.1]⟩), .sh (.int p.2), .sh (.int T)]=some (.sh (aF (p.1,p.2*T)),[.sh (.str ⟨#[p.1]⟩), .sh (.int p.2), .sh (.int T)]):=by
    simp only [cr,bS,aj,ae,List.getElem?_cons_zero,frz,ag,Sl.isBr,Bool.false_and,Bool.false_eq_true,bC,look,Sl.val,ck,bg,if_false,aH,Option.map_some,Option.bind_some,List.getElem?_cons_succ,Bool.not_false,Bool.true_or,Bool.and_true,hm,if_true,List.length_cons,List.length_nil,Nat.zero_add,Nat.reduceAdd,Nat.reduceLeDiff,aF]
  rw [dF,e,Option.bind_some]
  simp only [eR,frz,dF,Option.map_some,Option.bind_some,e2,if_true]
theorem jw (c:List Pc) (p:Pc) (T:Int) (hl:c.length≤5000) (h:NH.short c=[p]) (hm:bB p.2 T=true):aD [.list (c.map aF), .int T]=some (.ow ((NH.short (NH.fo T c)).map aF)):=by
  have e:=bA c (by omega)
  have e0:=bA [((p.1,p.2*T):Pc)] (by simp)
  have r:NH.short (NH.fo T c)=NH.short [((p.1,p.2*T):Pc)]:=by
    rw [←dl,h]
    exact ig p.1 p.2 T
  rw [h] at e
  rw [r]
  have k:=kd p T hm
  simp only [List.map_cons,List.map_nil] at e e0
  simp only [aD,dA,List.length_cons,List.length_nil,Nat.zero_add,Nat.reduceAdd,dz,fj,au,aB,am,ad,ae,aM,List.map_cons,List.map_nil,Nat.reduceSub,List.replicate,List.cons_append,List.nil_append,List.getElem?_cons_zero,Sl.isBr,Bool.false_and,Bool.false_eq_true,ap,Option.map_some,if_false,Option.bind_some,aG,look,Sl.val,e,PL.settle,frz,frzAll,Nat.reduceLT,List.set_cons_succ,List.set_cons_zero,if_true,aV,cu,ag,bj,bW,pC,cm,bO,Cm.i,Cm.s,aP,ft,eN,eQ,iT,ay,d9,bC,ck,bg,List.getElem?_cons_succ,Int.cast_ofNat_Int,Int.reduceLT,decide_true,k,aS,lv,Bool.and_true,Nat.reduceLeDiff,e0,dc,bI,bc]
theorem iy (c R Z S:List PyData) (T A L:Int) (e:aA [.list c]=some (.ow R)) (hL:(R.length:Int)=L) (g1:¬L < 2) (ab:(if T < 0 then -T else T)=A) (ok:bB A L=true) (g2:¬4000 < A*L) (e1:bw [.list R, .int T]=some (.ow Z)) (e2:aA [.list Z]=some (.ow S)) (hf:aS S=true):aD [.list c, .int T]=some (.ow S):=by
  simp only [aD,dA,List.length_cons,List.length_nil,Nat.zero_add,Nat.reduceAdd,dz,fj,au,aB,am,ad,ae,aM,List.map_cons,List.map_nil,Nat.reduceSub,List.replicate,List.cons_append,List.nil_append,List.getElem?_cons_zero,Sl.isBr,Bool.false_and,Bool.false_eq_true,ap,Option.map_some,if_false,Option.bind_some,aG,look,Sl.val,e,PL.settle,frz,frzAll,Nat.reduceLT,List.set_cons_succ,List.set_cons_zero,if_true,aV,cu,ag,bj,bW,pC,cm,bO,Cm.i,Cm.s,aP,ay,d9,bC,ck,bg,List.getElem?_cons_succ,hL,g1,decide_false,ab,Bool.not_false,Bool.true_or,Bool.and_true,ok,g2,e1,e2,dc,bI,hf]
theorem iz (c R:List PyData) (T A L:Int) (e:aA [.list c]=some (.ow R)) (hL:(R.length:Int)=L) (g1:¬L < 2) (ab:(if T < 0 then -T else T)=A) (ok:bB A L=true) (g2:4000 < A*L):cI [.list c, .int T]=some ("TooLong":Str):=by
  simp only [cI,tu,List.length_cons,List.length_nil,Nat.zero_add,Nat.reduceAdd,gM,n8,aB,am,ad,ae,aM,List.map_cons,List.map_nil,Nat.reduceSub,List.replicate,List.cons_append,List.nil_append,List.getElem?_cons_zero,Sl.isBr,Bool.false_and,Bool.false_eq_true,ap,Option.map_some,if_false,Option.bind_some,aG,look,Sl.val,e,PL.settle,frz,frzAll,Nat.reduceLT,List.set_cons_succ,List.set_cons_zero,if_true,aV,cu,ag,bj,List.getElem?_cons_succ,bW,hL,pC,cm,bO,Cm.i,Cm.s,g1,decide_false,aP,ay,tW,d9,ab,bC,ck,bg,Bool.not_false,Bool.true_or,Bool.and_true,ok,g2,decide_true,n_]
theorem iA (c:List Pc) (T:Int) (hl:c.length≤5000) (h:2≤(NH.short c).length) (hT:T.natAbs*(NH.short c).length≤4000):aD [.list (c.map aF), .int T]=some (.ow ((NH.short (NH.fo T c)).map aF)):=by
  have sl:=NH.dn c
  have t1:T.natAbs≤4000:=Nat.le_trans (Nat.le_mul_of_pos_right _ (by omega)) hT
  have e2:=bA (NH.fo T (NH.short c)) (by rw [gg];omega)
  rw [dl] at e2
  exact iy _ _ _ _ T T.natAbs (NH.short c).length (bA c (by omega)) (by rw [List.length_map]) (by omega) (by split <;> omega) (fW (by omega) (by omega)) (by rw [←Int.natCast_mul];omega)
    (ka (NH.short c) T (by rw [Nat.mul_comm];omega) (by omega) (by omega)) e2 (bc _)
theorem iB (c:List Pc) (T:Int) (hl:c.length≤5000) (h:2≤(NH.short c).length) (hT:4000 < T.natAbs*(NH.short c).length):cI [.list (c.map aF), .int T]=some ("TooLong":Str):=by
  have sl:=NH.dn c
  exact iz _ _ T T.natAbs (NH.short c).length (bA c (by omega)) (by rw [List.length_map]) (by omega) (by split <;> omega) (fW (by omega) (by omega)) (by rw [←Int.natCast_mul];omega)
theorem tw:List.lookup ("TooLong":Str) [(("TooLong":Str),false)]=some false:=by decide+kernel
theorem rE:List.lookup ("TooLong":Str) [(("TooLong":Str),true)]=some true:=by decide+kernel
theorem iC:bR [mn "TooLong"]=some (.ow [.bool false, .bool false, .bool false, .bool false, .bool false, .bool false, .bool false, .bool false, .bool false]):=by
  simp only [bR,dA,mn,List.length_cons,List.length_nil,Nat.zero_add,dz,di,au,aB,bH,aj,cy,ae,aM,List.map_cons,List.map_nil,Nat.reduceSub,List.replicate,List.cons_append,List.nil_append,List.getElem?_cons_zero,look,Sl.val,eO,fG,Option.bind_some,tw,Option.map_some,frz,fK,fJ,eT,aH,Nat.reduceAdd,Nat.reduceLeDiff,if_true,PL.settle,frzAll,Nat.reduceLT,List.set_cons_succ,List.set_cons_zero,ag,Sl.isBr,Bool.false_and,Bool.false_eq_true,fL,ek,fH,fI,aX,ck,bg,if_false,aP,eU,List.getElem?_cons_succ,Option.any_some,Bool.not_false,Bool.true_or,Bool.and_true,decide_true,dc,bI,aS,cb]
theorem ke (c:PyData) (T:Int) (e:cI [c, .int T]=some ("TooLong":Str)):aw [c, .int T]=some (.sh (.bool true)):=by
  have r:jY cI (ad false (ae 0) (ad false (ae 1) ap)) [.sh c, .sh (.int T), .no]=some (("TooLong":Str),([.sh c, .sh (.int T), .no]:List Sl)):=by
    simp only [jY,ad,ae,List.getElem?_cons_zero,Sl.isBr,Bool.false_and,Bool.false_eq_true,ap,Option.map_some,if_false,Option.bind_some,List.getElem?_cons_succ,aG,look,Sl.val,e]
  have o:=iC
  simp only [mn] at o
  simp only [aw,dA,List.length_cons,List.length_nil,Nat.zero_add,Nat.reduceAdd,dz,cK,au,pE,aM,List.map_cons,List.map_nil,Nat.reduceSub,List.replicate,List.cons_append,List.nil_append,r,List.mem_cons,List.not_mem_nil,or_false,Nat.reduceLT,true_and,aP,lm,cy,ae,mn,List.set_cons_succ,List.set_cons_zero,List.getElem?_cons_succ,List.getElem?_cons_zero,look,Sl.val,eO,eV,Option.bind_some,rE,Option.map_some,dC,ag,pC,Sl.isBr,Bool.false_and,Bool.false_eq_true,am,ad,ap,if_false,cm,oj,if_true,aG,o,fV,List.contains_cons,List.contains_nil,Bool.or_false,dc,bI,cb]
  rfl
def uO:cc:=(aB 1 (am bx (ad false (am av (ad false (ae 0) (ad false (pC (.int 0)) ap))) ap)))
def uP:cc:=(aB 2 (am bJ (ad false (ag cM false (am av (ad false (ae 0) (ad false (pC (.int 0)) ap))) (pC (.int 7))) ap)))
def uQ:cc:=(aB 3 (am bh (ad false (am av (ad false (ae 0) (ad false (pC (.int 2)) ap))) (ad false (ae 1) (ad false (ae 2) (ad false (pC (.int 10)) ap))))))
def uR:cc:=(aB 4 (am aZ (ad false (ae 3) ap)))
def u8:cc:=(dN (eN (bH (aj (ag cY false (ag cf false (ag cM false (am av (ad false (ae 0) (ad false (pC (.int 1)) ap))) (pC (.int 2))) (pC (.int 13))) (pC (.int 6))) (aj (pC (.int 0)) (aj (pC (.int 1)) (aj (cy bM (pC (.int 1))) aH)))))) dU
  dW)
def uS:cc:=(aB 8 (ag aX false (ag cY false (ag cf false (am av (ad false (ae 0) (ad false (pC (.int 3)) ap))) (ag cY false (ag bC false (pC (.int 2)) (ag eL false (pC (.int 10)) (pC (.int 30)))) (pC (.int 1)))) (ag eL false (pC (.int 10)) (pC (.int 30)))) (pC (.int 1))))
def rF:cc:=(aV (cu (ag (cm (bO .gt)) false (bj bW (ad false (ae 4) ap)) (pC (.int 1))))
  (au (aB 9 (ag cM false (pC (.int 4000)) (bj bW (ad false (ae 4) ap))))
  (au (dN (eN (bH (aj (ag aX false (ae 9) (pC (.int 1))) (aj (ag cY false (cy bM (pC (.int 1))) (ae 9)) (aj (ag aX false (ag aX false (ae 9) (pC (.int 1))) (bj d9 (ad false (ae 8) ap))) aH))))) c0
  c_)
  (aV (cz (cu (ag iq false (ag cf false (am av (ad false (ae 0) (ad false (pC (.int 3)) ap))) (pC (.int 16))) (pC (.int 5)))) (bU (cL (am ax (ad false (am aD (ad false (ae 3) (ad false (cy bM (ae 9)) ap))) (ad false (am ba (ad false (ae 4) (ad false (cy bM (ae 9)) ap))) ap))))))
  (aP (pC (.bool false)))
  ay)))
  ay)
def uT:cc:=(aB 10 (bS (aj (ag df false (ae 1) (pC (.int 0))) (aj (ag aX false (ag cY false (ag cf false (am av (ad false (ae 0) (ad false (pC (.int 4)) ap))) (ag cY false (ag bC false (pC (.int 2)) (ag eL false (pC (.int 10)) (pC (.int 30)))) (pC (.int 1)))) (ag eL false (pC (.int 10)) (pC (.int 30)))) (pC (.int 1))) aH))))
def uU:cc:=(aB 11 (bH aH))
def tY:cc:=(aV (cu (ag gp false (ag bC false (ag df false (ae 10) (pC (.int 1))) (ae 8)) (pC (.int 0))))
  (aB 11 (bH (aj (bS (aj (ag df false (ae 10) (pC (.int 0))) (aj (ag bC false (ag df false (ae 10) (pC (.int 1))) (ae 8)) aH))) aH)))
  ay)
def rG:cc:=(aV (bU (cL (am ax (ad false (am aD (ad false (bH (aj (ae 10) (aj (bS (aj (ag df false (ae 1) (pC (.int 0))) (aj (pC (.int 0)) aH))) aH))) (ad false (ae 8) ap))) (ad false (ae 11) ap)))))
  (aP (pC (.bool false)))
  ay)
def rH:cc:=(aP (am ax (ad false (am aD (ad false (ag aX false (ae 3) (am aK (ad false (ae 3) ap))) (ad false (ae 8) ap))) (ad false (bH aH) ap))))
theorem oq:jZ=(au uO (au uP (au uQ (au uR (au u8 (au uS (au rF (au uT (au uU (au tY (au rG rH))))))))))):=rfl
theorem gh (c:List Pc) (T:Int) (hl:c.length≤5000) (hm:∀p,NH.short c=[p]→bB p.2 T=true) (hT:2≤(NH.short c).length→T.natAbs*(NH.short c).length≤4000):aD [.list (c.map aF), .int T]=some (.ow ((NH.short (NH.fo T c)).map aF)):=by
  match e:NH.short c with
  | []=>exact jv c T hl e
  | [p]=>exact jw c p T hl e (hm p e)
  | p::q::r=>
    have h2:2≤(NH.short c).length:=by rw [e];simp
    exact iA c T hl h2 (hT h2)
theorem tz (x0 x1 x2 x4 x8 x9 x10 x11 a5 a6 a7:Sl) (C S:List PyData) (T:Int) (l:C.length≤1000000) (hS:S.length < 1000000) (p:aD [.list C, .int T]=some (.ow S)) (d:ba [.list C, .int T]=some (.ow S)) (r:ax [.list S, .list S]=some (.sh (.bool true))) (q:lj (.list C) (.list C)=some true) (hC:aS C=true):
    (dU (.int T) [x0,x1,x2, .ow C,x4,a5,a6,a7,x8,x9,x10,x11]).bind dW=some ([x0,x1,x2, .ow C,x4, .sh (.int T), .ow C, .ow (S++[.tuple [.str "a", .int 1]]),x8,x9,x10,x11], .nx):=by
  simp only [dU,aU,List.length_cons,List.length_nil,Nat.zero_add,Nat.reduceAdd,Nat.reduceLT,List.set_cons_succ,List.set_cons_zero,if_true,dW,gp,Option.bind_some,au,aB,kC,ae,List.getElem?_cons_succ,List.getElem?_cons_zero,look,Sl.val,ck,bg,Option.any_some,Bool.not_false,hC,Bool.or_true,PL.settle,frz,frzAll,am,ad,Sl.isBr,Bool.false_and,Bool.false_eq_true,ap,Option.map_some,if_false,aV,ir,bU,cL,cu,ag,cm,aP,pC,ay,bX,aW,bS,aj,aH,Nat.reduceLeDiff,aG,p,d,r,eM,Bool.not_true,q,hS]
theorem tB (x0 x1 x2 x4 x8 x9 x10 x11:Sl) (c:List Pc) (hl:c.length≤10) (hc:NailsOk c):∀(Ts:List Int) (a5 a6 a7:Sl),(∀T∈Ts,T.natAbs≤6)→∃a5' a6' a7',bN dU dW (Ts.map .int) [x0,x1,x2, .ow (c.map aF),x4,a5,a6,a7,x8,x9,x10,x11]=some ([x0,x1,x2, .ow (c.map aF),x4,a5',a6',a7',x8,x9,x10,x11], .nx):=by
  intro Ts
  induction Ts with
  | nil=>exact fun a5 a6 a7 _=>⟨a5,a6,a7,rfl⟩
  | cons T Ts ih=>
    intro a5 a6 a7 h
    have hT:=h T (List.mem_cons_self ..)
    have sl:=NH.dn c
    have zl:(NH.fo T c).length≤60:=by rw [gg];exact Nat.mul_le_mul hT hl
    have wl:=NH.dn (NH.fo T c)
    have p:=gh c T (by omega) (fun p _=>fW (by omega) (by omega)) fun _=>Nat.le_trans (Nat.mul_le_mul hT (Nat.le_trans sl hl)) (by decide)
    have d:=ii c T (by rw [Nat.mul_comm];exact Nat.le_trans (Nat.mul_le_mul hT hl) (by decide)) (by omega) (by omega)
    have r:=dk (NH.short (NH.fo T c)) (iW hc).short (by omega)
    have q:=nV hc hc
    rw [decide_eq_true rfl] at q
    have e:=tz x0 x1 x2 x4 x8 x9 x10 x11 a5 a6 a7 _ _ T (by rw [List.length_map];omega) (by rw [List.length_map];omega) p d r q (bc c)
    obtain ⟨a5',a6',a7',k⟩:=ih (.sh (.int T)) (.ow (c.map aF)) _ fun U hU=>h U (List.mem_cons_of_mem _ hU)
    refine ⟨a5',a6',a7',?_⟩
    rw [List.map_cons,bN,e]
    exact k
theorem ot (x0 x1 x2 x4 x6 x7 x8 x9 x10 x11 a5:Sl) (C:List PyData) (T:Int) (p:aw [.list C, .int T]=some (.sh (.bool true))):
    (c0 (.int T) [x0,x1,x2, .ow C,x4,a5,x6,x7,x8,x9,x10,x11]).bind c_=some ([x0,x1,x2, .ow C,x4, .sh (.int T),x6,x7,x8,x9,x10,x11], .nx):=by
  simp only [c0,aU,List.length_cons,List.length_nil,Nat.zero_add,Nat.reduceAdd,Nat.reduceLT,List.set_cons_succ,List.set_cons_zero,if_true,c_,Option.bind_some,aV,bU,cL,am,ad,ae,List.getElem?_cons_succ,List.getElem?_cons_zero,Sl.isBr,Bool.false_and,Bool.false_eq_true,ap,Option.map_some,if_false,aG,look,Sl.val,p,eM,Bool.not_true,aP,pC,ay]
theorem tD (x0 x1 x2 x4 x6 x7 x8 x9 x10 x11 a5:Sl) (C:List PyData) (T U V:Int) (p:aw [.list C, .int T]=some (.sh (.bool true))) (q:aw [.list C, .int U]=some (.sh (.bool true))) (r:aw [.list C, .int V]=some (.sh (.bool true))):
    bN c0 c_ [.int T, .int U, .int V] [x0,x1,x2, .ow C,x4,a5,x6,x7,x8,x9,x10,x11]=some ([x0,x1,x2, .ow C,x4, .sh (.int V),x6,x7,x8,x9,x10,x11], .nx):=by
  have k3:bN c0 c_ [.int V] [x0,x1,x2, .ow C,x4, .sh (.int U),x6,x7,x8,x9,x10,x11]=some ([x0,x1,x2, .ow C,x4, .sh (.int V),x6,x7,x8,x9,x10,x11], .nx):=by
    rw [bN,ot x0 x1 x2 x4 x6 x7 x8 x9 x10 x11 _ C V r]
    rfl
  have k2:bN c0 c_ [.int U, .int V] [x0,x1,x2, .ow C,x4, .sh (.int T),x6,x7,x8,x9,x10,x11]=some ([x0,x1,x2, .ow C,x4, .sh (.int V),x6,x7,x8,x9,x10,x11], .nx):=by
    rw [bN,ot x0 x1 x2 x4 x6 x7 x8 x9 x10 x11 _ C U q]
    exact k3
  rw [bN,ot x0 x1 x2 x4 x6 x7 x8 x9 x10 x11 a5 C T p]
  exact k2
section
variable (SC x5 x6 x7 x9 x10 x11:Sl) (sc:PyData) (w:List Nat) (W z0 z1 z2 z3 z4 far:Int) (C R:List PyData)
theorem tE (a:av [sc, .int 0]=some (.sh (.int z0))) (e:bx [.int z0]=some (.sh (.str ⟨w.toArray⟩))):uO [.sh sc, .no, .no, .no, .no, .no, .no, .no, .no, .no, .no, .no]=some ([.sh sc, .sh (.str ⟨w.toArray⟩), .no, .no, .no, .no, .no, .no, .no, .no, .no, .no], .nx):=by
  simp only [uO,aB,am,ad,ae,List.getElem?_cons_zero,Sl.isBr,Bool.false_and,Bool.false_eq_true,pC,ap,Option.map_some,if_false,Option.bind_some,aG,look,Sl.val,a,e,PL.settle,frz,frzAll,List.length_cons,List.length_nil,Nat.zero_add,Nat.reduceAdd,Nat.reduceLT,List.set_cons_succ,List.set_cons_zero,if_true]
theorem tF (x1:Sl) (a:av [sc, .int 0]=some (.sh (.int z0))) (d:cw 7=true) (e:bJ [.int (z0 / 7)]=some (.sh (.int W))):uP [.sh sc,x1, .no, .no, .no, .no, .no, .no, .no, .no, .no, .no]=some ([.sh sc,x1, .sh (.int W), .no, .no, .no, .no, .no, .no, .no, .no, .no], .nx):=by
  simp only [uP,aB,am,ad,ag,ae,List.getElem?_cons_zero,Sl.isBr,Bool.false_and,Bool.false_eq_true,pC,ap,Option.map_some,if_false,Option.bind_some,aG,look,Sl.val,a,cM,cm,ip,d,if_true,e,PL.settle,frz,frzAll,List.length_cons,List.length_nil,Nat.zero_add,Nat.reduceAdd,Nat.reduceLT,List.set_cons_succ,List.set_cons_zero]
theorem tH (a:av [sc, .int 2]=some (.sh (.int z2))) (e:bh [.int z2, .str ⟨w.toArray⟩, .int W, .int 10]=some (.ow C)):uQ [.sh sc, .sh (.str ⟨w.toArray⟩), .sh (.int W), .no, .no, .no, .no, .no, .no, .no, .no, .no]=some ([.sh sc, .sh (.str ⟨w.toArray⟩), .sh (.int W), .ow C, .no, .no, .no, .no, .no, .no, .no, .no], .nx):=by
  simp only [uQ,aB,am,ad,ae,List.getElem?_cons_zero,Sl.isBr,Bool.false_and,Bool.false_eq_true,pC,ap,Option.map_some,if_false,Option.bind_some,aG,look,Sl.val,a,List.getElem?_cons_succ,e,PL.settle,frz,frzAll,List.length_cons,List.length_nil,Nat.zero_add,Nat.reduceAdd,Nat.reduceLT,List.set_cons_succ,List.set_cons_zero,if_true]
theorem tI (x1 x2:Sl) (e:aZ [.list C]=some (.ow R)):uR [.sh sc,x1,x2, .ow C, .no, .no, .no, .no, .no, .no, .no, .no]=some ([.sh sc,x1,x2, .ow C, .ow R, .no, .no, .no, .no, .no, .no, .no], .nx):=by
  simp only [uR,aB,am,ad,ae,List.getElem?_cons_succ,List.getElem?_cons_zero,Sl.isBr,Bool.false_and,Bool.false_eq_true,ap,Option.map_some,if_false,Option.bind_some,aG,look,Sl.val,e,PL.settle,frz,frzAll,List.length_cons,List.length_nil,Nat.zero_add,Nat.reduceAdd,Nat.reduceLT,List.set_cons_succ,List.set_cons_zero,if_true]
theorem tJ (x1 x2 x3 x4:Sl) (a:av [sc, .int 1]=some (.sh (.int z1))) (d:cw 2=true∧cw 13=true):eN (bH (aj (ag cY false (ag cf false (ag cM false (am av (ad false (ae 0) (ad false (pC (.int 1)) ap))) (pC (.int 2))) (pC (.int 13))) (pC (.int 6))) (aj (pC (.int 0)) (aj (pC (.int 1)) (aj (cy bM (pC (.int 1))) aH))))) [.sh sc,x1,x2,x3,x4, .no, .no, .no, .no, .no, .no, .no]=some ([z1 / 2 % 13 - 6,0,1,-1].map PyData.int,[.sh sc,x1,x2,x3,x4, .no, .no, .no, .no, .no, .no, .no]):=by
  simp only [eN,bH,aj,ag,am,ad,ae,List.getElem?_cons_zero,Sl.isBr,Bool.false_and,Bool.false_eq_true,pC,ap,Option.map_some,if_false,Option.bind_some,aG,look,Sl.val,a,cM,cm,ip,d.1,if_true,cf,Int.reduceLT,decide_true,cY,frz,cy,bM,Int.reduceNeg,aH,List.length_cons,List.length_nil,Nat.zero_add,Nat.reduceAdd,Nat.reduceLeDiff,List.map_cons,List.map_nil]
theorem tK (x1 x2 x3 x4:Sl) (a:av [sc, .int 3]=some (.sh (.int z3))) (mm:bB 2 1000000000000000000000000000000=true) (d:cw 1999999999999999999999999999999=true) (hf:z3 % 1999999999999999999999999999999 - 1000000000000000000000000000000+1=far):uS [.sh sc,x1,x2,x3,x4,x5,x6,x7, .no, .no, .no, .no]=some ([.sh sc,x1,x2,x3,x4,x5,x6,x7, .sh (.int far), .no, .no, .no], .nx):=by
  simp only [uS,aB,ag,am,ad,ae,List.getElem?_cons_zero,Sl.isBr,Bool.false_and,Bool.false_eq_true,pC,ap,Option.map_some,if_false,Option.bind_some,aG,look,Sl.val,a,eL,cm,ip,Int.reducePow,Int.reduceNeg,Int.reduceLE,Int.reduceLT,and_self,decide_true,Int.reduceToNat,if_true,bC,ck,bg,Bool.not_false,Bool.true_or,Bool.and_true,mm,Int.reduceMul,cY,Int.reduceSub,cf,aX,hf,PL.settle,frz,frzAll,List.length_cons,List.length_nil,Nat.zero_add,Nat.reduceAdd,Nat.reduceLT,List.set_cons_succ,List.set_cons_zero]
theorem rJ (x1 x2 x3 x8:Sl) (h:¬(R.length:Int) > 1):rF [.sh sc,x1,x2,x3, .ow R,x5,x6,x7,x8, .no, .no, .no]=some ([.sh sc,x1,x2,x3, .ow R,x5,x6,x7,x8, .no, .no, .no], .nx):=by
  simp only [rF,aV,cu,ag,bj,ad,ae,List.getElem?_cons_succ,List.getElem?_cons_zero,Sl.isBr,Bool.false_and,Bool.false_eq_true,ap,Option.map_some,if_false,Option.bind_some,bW,aG,look,Sl.val,pC,cm,bO,Cm.i,Cm.s,h,decide_false,au,aB,cM,ip,PL.settle,frz,frzAll,dN,eN,bH,aj,aX,ck,bg,Bool.not_false,Bool.true_or,Bool.and_true,cy,bM,cY,if_true,d9,aH,cz,am,cf,iq,bU,cL,aP,ay]
theorem rK (x1 x2:Sl) (L M:Int) (S:List PyData) (hL:(R.length:Int)=L) (h:L > 1) (d:cw L=true) (hM:4000 / L=M) (p:aw [.list C, .int (M+1)]=some (.sh (.bool true))) (q:aw [.list C, .int (-1 - M)]=some (.sh (.bool true))) (r:aw [.list C, .int (M+1+if far < 0 then -far else far)]=some (.sh (.bool true)))
    (a:av [sc, .int 3]=some (.sh (.int z3))) (d16:cw 16=true) (e1:aD [.list C, .int (-M)]=some (.ow S)) (e2:ba [.list R, .int (-M)]=some (.ow S)) (e3:ax [.list S, .list S]=some (.sh (.bool true))) (q5:∀z:Int,lj (.int z) (.int 5)=some (decide (z=5))):∃x5' x9',rF [.sh sc,x1,x2, .ow C, .ow R,x5,x6,x7, .sh (.int far), .no, .no, .no]=some ([.sh sc,x1,x2, .ow C, .ow R,x5',x6,x7, .sh (.int far),x9', .no, .no], .nx):=by
  have k:=tD (.sh sc) x1 x2 (.ow R) x6 x7 (.sh (.int far)) (.sh (.int M)) .no .no x5 C _ _ _ p q r
  refine ⟨.sh (.int (M+1+if far < 0 then -far else far)), .sh (.int M),?_⟩
  by_cases h5:z3 % 16=5
  · simp only [rF,aV,cu,ag,bj,ad,ae,List.getElem?_cons_succ,List.getElem?_cons_zero,Sl.isBr,Bool.false_and,Bool.false_eq_true,ap,Option.map_some,if_false,Option.bind_some,bW,aG,look,Sl.val,hL,pC,cm,bO,Cm.i,Cm.s,h,decide_true,au,aB,cM,ip,PL.settle,frz,frzAll,dN,eN,bH,aj,aX,ck,bg,Bool.not_false,Bool.true_or,Bool.and_true,cy,bM,Int.reduceNeg,cY,if_true,d9,aH,cz,am,cf,iq,bU,cL,aP,ay,d,hM,List.length_cons,List.length_nil,Nat.zero_add,Nat.reduceAdd,Nat.reduceLT,List.set_cons_succ,List.set_cons_zero,Nat.reduceLeDiff,k,a,Int.reduceLT,h5,q5,e1,e2,e3,eM,Bool.not_true]
  · simp only [rF,aV,cu,ag,bj,ad,ae,List.getElem?_cons_succ,List.getElem?_cons_zero,Sl.isBr,Bool.false_and,Bool.false_eq_true,ap,Option.map_some,if_false,Option.bind_some,bW,aG,look,Sl.val,hL,pC,cm,bO,Cm.i,Cm.s,h,decide_true,au,aB,cM,ip,PL.settle,frz,frzAll,dN,eN,bH,aj,aX,ck,bg,Bool.not_false,Bool.true_or,Bool.and_true,cy,bM,Int.reduceNeg,cY,if_true,d9,aH,cz,am,cf,iq,bU,cL,aP,ay,d,hM,List.length_cons,List.length_nil,Nat.zero_add,Nat.reduceAdd,Nat.reduceLT,List.set_cons_succ,List.set_cons_zero,Nat.reduceLeDiff,k,a,Int.reduceLT,q5,h5,decide_false]
end
theorem dE {f g:cc} {E E1:List Sl} (h:f E=some (E1, .nx)):au f g E=g E1:=by
  unfold au
  rw [h]
  rfl
theorem rL {it:io} {tg:gD} {body:cc} {E E1 E2:List Sl} {ds:List PyData} (h:it E=some (ds,E1)) (l:bN tg body ds E1=some (E2, .nx)):dN it tg body E=some (E2, .nx):=by
  unfold dN
  rw [h,Option.bind_some,l]
section
variable (SC x2 x3 x4 x5 x6 x7 x8 x9:Sl) (sc:PyData) (w:List Nat) (y:Nat) (z4 far b m:Int) (C R S:List PyData)
theorem tL (lw:w.length≤1000000) (ey:atI w 0=some y) (a:av [sc, .int 4]=some (.sh (.int z4))) (mm:bB 2 1000000000000000000000000000000=true) (d:cw 1999999999999999999999999999999=true) (hb:z4 % 1999999999999999999999999999999 - 1000000000000000000000000000000+1=b):uT [.sh sc, .sh (.str ⟨w.toArray⟩),x2,x3,x4,x5,x6,x7,x8,x9, .no, .no]=some ([.sh sc, .sh (.str ⟨w.toArray⟩),x2,x3,x4,x5,x6,x7,x8,x9, .sh (.tuple [.str ⟨#[y]⟩, .int b]), .no], .nx):=by
  simp only [uT,aB,bS,aj,ag,ae,List.getElem?_cons_succ,List.getElem?_cons_zero,Sl.isBr,Bool.false_and,Bool.false_eq_true,pC,df,look,Sl.val,ck,bg,Option.bind_some,if_false,gN,lw,ey,Option.map_some,if_true,frz,am,ad,ap,eL,cm,ip,Int.reducePow,Int.reduceNeg,Int.reduceLE,Int.reduceLT,and_self,decide_true,Int.reduceToNat,bC,Bool.not_false,Bool.true_or,Bool.and_true,mm,Int.reduceMul,cY,Int.reduceSub,cf,aX,aH,aG,a,hb,List.length_cons,List.length_nil,Nat.zero_add,Nat.reduceAdd,Nat.reduceLeDiff,PL.settle,frzAll,Nat.reduceLT,List.set_cons_succ,List.set_cons_zero]
theorem tM (x0 x1 x10:Sl):uU [x0,x1,x2,x3,x4,x5,x6,x7,x8,x9,x10, .no]=some ([x0,x1,x2,x3,x4,x5,x6,x7,x8,x9,x10, .ow []], .nx):=by
  simp only [uU,aB,bH,aH,Option.bind_some,List.length_nil,Nat.reduceLeDiff,if_true,PL.settle,frz,frzAll,List.length_cons,Nat.zero_add,Nat.reduceAdd,Nat.reduceLT,List.set_cons_succ,List.set_cons_zero]
theorem tN (x0 x1:Sl) (ok:bB b far=true) (hm:b*far=m) (q:lj (.int m) (.int 0)=some (decide (m=0))):tY [x0,x1,x2,x3,x4,x5,x6,x7, .sh (.int far),x9, .sh (.tuple [.str ⟨#[y]⟩, .int b]), .ow []]=some ([x0,x1,x2,x3,x4,x5,x6,x7, .sh (.int far),x9, .sh (.tuple [.str ⟨#[y]⟩, .int b]), .ow (if m=0 then [] else [.tuple [.str ⟨#[y]⟩, .int m]])], .nx):=by
  by_cases h:m=0
  · simp only [tY,aV,cu,ag,ae,List.getElem?_cons_succ,List.getElem?_cons_zero,Sl.isBr,Bool.false_and,Bool.false_eq_true,pC,df,look,Sl.val,ck,bg,Option.bind_some,if_false,fu,Option.map_some,bC,Bool.not_false,Bool.true_or,Bool.and_true,ok,hm,h,if_true,gp,cm,bv,decide_true,Bool.not_true,aB,bH,aj,bS,frz,aH,PL.settle,frzAll,ay,eS,List.length_cons,List.length_nil,Nat.zero_add,Nat.reduceAdd,Nat.reduceLeDiff,Nat.reduceLT,List.set_cons_succ,List.set_cons_zero]
  · simp only [tY,aV,cu,ag,ae,List.getElem?_cons_succ,List.getElem?_cons_zero,Sl.isBr,Bool.false_and,Bool.false_eq_true,pC,df,look,Sl.val,ck,bg,Option.bind_some,if_false,fu,Option.map_some,bC,Bool.not_false,Bool.true_or,Bool.and_true,ok,hm,if_true,gp,cm,q,h,decide_false,aB,bH,aj,bS,frz,aH,PL.settle,frzAll,ay,eS,List.length_cons,List.length_nil,Nat.zero_add,Nat.reduceAdd,Nat.reduceLeDiff,Nat.reduceLT,List.set_cons_succ,List.set_cons_zero]
theorem rM (D:List PyData) (lw:w.length≤1000000) (ey:atI w 0=some y) (p:aD [.list [.tuple [.str ⟨#[y]⟩, .int b], .tuple [.str ⟨#[y]⟩, .int 0]], .int far]=some (.ow D)) (r:ax [.list D, .list D]=some (.sh (.bool true))):rG [.sh sc, .sh (.str ⟨w.toArray⟩),x2,x3,x4,x5,x6,x7, .sh (.int far),x9, .sh (.tuple [.str ⟨#[y]⟩, .int b]), .ow D]=some ([.sh sc, .sh (.str ⟨w.toArray⟩),x2,x3,x4,x5,x6,x7, .sh (.int far),x9, .sh (.tuple [.str ⟨#[y]⟩, .int b]), .ow D], .nx):=by
  simp only [rG,aV,bU,cL,am,ad,bH,aj,ae,List.getElem?_cons_succ,List.getElem?_cons_zero,frz,bS,ag,Sl.isBr,Bool.false_and,Bool.false_eq_true,pC,df,look,Sl.val,ck,bg,Option.bind_some,if_false,aH,Option.map_some,gN,lw,ey,if_true,List.length_cons,List.length_nil,Nat.zero_add,Nat.reduceAdd,Nat.reduceLeDiff,ap,aG,p,r,eM,Bool.not_true,aP,ay]
theorem rN (x0 x1 x10 x11:Sl) (B:List PyData) (e:aK [.list C]=some (.ow B)) (l:C.length+B.length≤1000000) (hC:aS C=true) (hB:aS B=true) (p:aD [.list (C++B), .int far]=some (.ow [])) (r:ax [.list [], .list []]=some (.sh (.bool true))):rH [x0,x1,x2, .ow C,x4,x5,x6,x7, .sh (.int far),x9,x10,x11]=some ([x0,x1,x2, .ow C,x4,x5,x6,x7, .sh (.int far),x9,x10,x11], .rt (.sh (.bool true))):=by
  simp only [rH,aP,am,ad,ag,ae,List.getElem?_cons_succ,List.getElem?_cons_zero,Sl.isBr,Bool.false_and,Bool.false_eq_true,ap,Option.map_some,if_false,aX,look,Sl.val,ck,bg,Option.bind_some,aG,e,Option.any_some,Bool.not_false,Bool.true_or,Bool.and_true,l,decide_true,if_true,p,bH,aH,List.length_nil,Nat.reduceLeDiff,r]
end
theorem ou (z:Int):(z % 1999999999999999999999999999999 - 1000000000000000000000000000000+1).natAbs < 2 ^ 100:=by
  have h1:=Int.emod_nonneg z (show (1999999999999999999999999999999:Int)≠0 by decide)
  have h2:=Int.emod_lt_of_pos z (show (0:Int) < 1999999999999999999999999999999 by decide)
  have h3:(2:Nat) ^ 100=1267650600228229401496703205376:=by decide
  rw [h3]
  omega
theorem ox:(2:Nat) ^ 100≤2 ^ 20000:=Nat.pow_le_pow_right (by decide) (by decide)
theorem iX {i j:Int} (h1:i.natAbs < 2 ^ 100) (h2:j.natAbs < 2 ^ 100):bB i j=true:=pk (Nat.lt_of_lt_of_le h1 ox) (Nat.lt_of_lt_of_le h2 ox)
theorem fO (y:Nat) (b:Int):NH.short [((y,b):Pc),(y,0)]=if b=0 then [] else [(y,b)]:=by
  by_cases h:b=0
  · subst h
    simp [NH.short,NH.stk,NH.stp]
  · simp [NH.short,NH.stk,NH.stp,h]
theorem ij (y:Nat) (b:Int):NH.short [((y,b):Pc)]=if b=0 then [] else [(y,b)]:=by
  by_cases h:b=0
  · subst h
    simp [NH.short,NH.stk,NH.stp]
  · simp [NH.short,NH.stk,NH.stp,h]
theorem oy (y:Nat) (b far:Int):NH.short (NH.fo far [((y,b):Pc),(y,0)])=if b*far=0 then [] else [(y,b*far)]:=by
  have e:NH.short [((y,b):Pc),(y,0)]=NH.short [((y,b):Pc)]:=by rw [fO,ij]
  rw [ie e far,ig,ij]
theorem oz (c:List Pc) (far:Int):NH.short (NH.fo far (c++NH.contr c))=[]:=by
  have e:NH.short (c++NH.contr c)=NH.short ([]:List Pc):=by rw [NH.fz];rfl
  rw [ie e far,lG]
  rfl
theorem rO (ns:List Int) (hl:ns.length≤63):fM [.list (ns.map .int)]=some (.sh (.bool true)):=by
  obtain ⟨w,ew,w1,w2,w3⟩:=jt (ns.getD 0 0)
  obtain ⟨W,eW,W1,W2⟩:=j8 (ns.getD 0 0 / 7)
  obtain ⟨c,ec,lc,kc⟩:=j9 w W w1 w2 w3 W1 W2 (ns.getD 2 0) 10 (by decide)
  have nc:NailsOk c:=kc.n
  have es:=gd c (by omega)
  have a0:=dY ns 0
  have a1:=dY ns 1
  have a2:=dY ns 2
  have a3:=dY ns 3
  have a4:=dY ns 4
  rw [show ((10:Nat):Int)=10 from rfl] at ec
  simp only [Int.natCast_zero,Int.natCast_one] at a0 a1
  rw [show ((2:Nat):Int)=2 from rfl] at a2
  rw [show ((3:Nat):Int)=3 from rfl] at a3
  rw [show ((4:Nat):Int)=4 from rfl] at a4
  have mm:bB 2 1000000000000000000000000000000=true:=fg (by decide) (by decide)
  have dd:cw 1999999999999999999999999999999=true:=by decide
  obtain ⟨y,hy,ey⟩:∃y,y∈w∧atI w 0=some y:=by
    have:=kL w1 0
    rwa [Int.zero_emod] at this
  generalize hfar:ns.getD 3 0 % 1999999999999999999999999999999 - 1000000000000000000000000000000+1=far
  generalize hb:ns.getD 4 0 % 1999999999999999999999999999999 - 1000000000000000000000000000000+1=b
  have kf:far.natAbs < 2 ^ 100:=hfar▸ou _
  have kb:b.natAbs < 2 ^ 100:=hb▸ou _
  have sl:=NH.dn c
  have g0:=tE (.list (ns.map .int)) w _ a0 ew
  have g1:=tF (.list (ns.map .int)) W _ (.sh (.str ⟨w.toArray⟩)) a0 (by decide) eW
  have g2:=tH (.list (ns.map .int)) w W _ (c.map aF) a2 ec
  have g3:=tI (.list (ns.map .int)) (c.map aF) _ (.sh (.str ⟨w.toArray⟩)) (.sh (.int W)) es
  have i4:=tJ (.list (ns.map .int)) (ns.getD 1 0) (.sh (.str ⟨w.toArray⟩)) (.sh (.int W)) (.ow (c.map aF)) (.ow ((NH.short c).map aF)) a1 (by decide)
  have t6:∀T∈[ns.getD 1 0 / 2 % 13 - 6,0,1,-1],T.natAbs≤6:=by
    have m0:=Int.emod_nonneg (ns.getD 1 0 / 2) (show (13:Int)≠0 by decide)
    have m1:=Int.emod_lt_of_pos (ns.getD 1 0 / 2) (show (0:Int) < 13 by decide)
    intro T hT
    simp only [List.mem_cons,List.not_mem_nil,or_false] at hT
    rcases hT with rfl | rfl | rfl | rfl <;> omega
  obtain ⟨x5,x6,x7,l4⟩:=tB (.sh (.list (ns.map .int))) (.sh (.str ⟨w.toArray⟩)) (.sh (.int W)) (.ow ((NH.short c).map aF)) .no .no .no .no c lc nc _ .no .no .no t6
  have g4:u8 _=_:=rL i4 l4
  have g5:=tK x5 x6 x7 (.list (ns.map .int)) _ far (.sh (.str ⟨w.toArray⟩)) (.sh (.int W)) (.ow (c.map aF)) (.ow ((NH.short c).map aF)) a3 mm dd hfar
  obtain ⟨x5',x9,g6⟩:∃x5' x9,rF [.sh (.list (ns.map .int)), .sh (.str ⟨w.toArray⟩), .sh (.int W), .ow (c.map aF), .ow ((NH.short c).map aF),x5,x6,x7, .sh (.int far), .no, .no, .no]=some ([.sh (.list (ns.map .int)), .sh (.str ⟨w.toArray⟩), .sh (.int W), .ow (c.map aF), .ow ((NH.short c).map aF),x5',x6,x7, .sh (.int far),x9, .no, .no], .nx):=by
    by_cases h2:2≤(NH.short c).length
    · generalize hM:(4000:Int) / ((NH.short c).length:Int)=M
      have p1:M*((NH.short c).length:Int)≤4000:=hM▸Int.ediv_mul_le _ (by omega)
      have p2:4000 < (M+1)*((NH.short c).length:Int):=hM▸Int.lt_ediv_add_one_mul_self _ (by omega)
      have p0:0≤M:=hM▸Int.ediv_nonneg (by decide) (by omega)
      have m4:M.natAbs*(NH.short c).length≤4000:=by
        have:((M.natAbs*(NH.short c).length:Nat):Int)≤4000:=by rw [Int.natCast_mul,Int.natAbs_of_nonneg p0];exact p1
        omega
      have m5:M.natAbs≤4000:=Nat.le_trans (Nat.le_mul_of_pos_right _ (by omega)) m4
      have lng:∀T:Int,M+1≤(T.natAbs:Int)→aw [.list (c.map aF), .int T]=some (.sh (.bool true)):=fun T hT=>by
        refine ke _ T (iB c T (by omega) h2 ?_)
        have:(4000:Int) < ((T.natAbs*(NH.short c).length:Nat):Int):=by
          rw [Int.natCast_mul]
          exact Int.lt_of_lt_of_le p2 (Int.mul_le_mul_of_nonneg_right hT (by omega))
        omega
      have e1:=gh c (-M) (by omega) (fun p _=>fW (by omega) (by omega)) fun _=>by rw [Int.natAbs_neg];exact m4
      have e2:=ii (NH.short c) (-M) (by rw [Int.natAbs_neg,Nat.mul_comm];omega) (by rw [Int.natAbs_neg];omega) (by omega)
      rw [dl] at e2
      have wl:=NH.dn (NH.fo (-M) c)
      rw [gg,Int.natAbs_neg] at wl
      have wl2:M.natAbs*c.length≤4000*10:=Nat.mul_le_mul m5 lc
      have e3:=dk (NH.short (NH.fo (-M) c)) (iW nc).short (by omega)
      exact rK x5 x6 x7 (.list (ns.map .int)) _ far (c.map aF) _ (.sh (.str ⟨w.toArray⟩)) (.sh (.int W)) _ M _ (by rw [List.length_map]) (by omega) (fX (by omega) (by omega)) hM (lng _ (by omega)) (lng _ (by omega)) (lng _ (by split <;> omega)) a3 (by decide) e1 e2 e3 fun z=>bv z 5
    · exact ⟨x5, .no,rJ x5 x6 x7 (.list (ns.map .int)) _ (.sh (.str ⟨w.toArray⟩)) (.sh (.int W)) (.ow (c.map aF)) (.sh (.int far)) (by rw [List.length_map];omega)⟩
  have g7:=tL (.sh (.int W)) (.ow (c.map aF)) (.ow ((NH.short c).map aF)) x5' x6 x7 (.sh (.int far)) x9 (.list (ns.map .int)) w y _ b (by omega) ey a4 mm dd hb
  have g8:=tM (.sh (.int W)) (.ow (c.map aF)) (.ow ((NH.short c).map aF)) x5' x6 x7 (.sh (.int far)) x9 (.sh (.list (ns.map .int))) (.sh (.str ⟨w.toArray⟩)) (.sh (.tuple [.str ⟨#[y]⟩, .int b]))
  have g9:=tN (.sh (.int W)) (.ow (c.map aF)) (.ow ((NH.short c).map aF)) x5' x6 x7 x9 y far b _ (.sh (.list (ns.map .int))) (.sh (.str ⟨w.toArray⟩)) (iX kb kf) rfl (bv _ 0)
  have ny:y < 128:=w3 y hy
  have nd:NailsOk [((y,b):Pc),(y,0)]:=fun p hp=>by
    simp only [List.mem_cons,List.not_mem_nil,or_false] at hp
    rcases hp with rfl | rfl <;> exact ny
  have pp:=gh [((y,b):Pc),(y,0)] far (by simp) (fun p hp=>by
    rw [fO] at hp
    split at hp
    · cases hp
    · cases hp
      exact iX kb kf) (fun h=>by
    rw [fO] at h
    split at h <;> simp at h)
  rw [oy] at pp
  have pr:=dk (if b*far=0 then [] else [((y,b*far):Pc)]) (by
    split
    · exact gs
    · exact fun p hp=>by cases List.mem_singleton.mp hp;exact ny) (by split <;> simp)
  have ei:(if b*far=0 then ([]:List Pc) else [(y,b*far)]).map aF=if b*far=0 then [] else [.tuple [.str ⟨#[y]⟩, .int (b*far)]]:=by split <;> rfl
  rw [ei] at pp pr
  have g10:=rM (.sh (.int W)) (.ow (c.map aF)) (.ow ((NH.short c).map aF)) x5' x6 x7 x9 (.list (ns.map .int)) w y far b _ (by omega) ey pp pr
  have qq:=gh (c++NH.contr c) far (by rw [List.length_append,NH.bL];omega) (fun p hp=>by rw [NH.fz] at hp;cases hp) (fun h=>by rw [NH.fz] at h;simp at h)
  rw [oz,List.map_append] at qq
  have g11:=rN (.sh (.int W)) (.ow ((NH.short c).map aF)) x5' x6 x7 x9 far (c.map aF) (.sh (.list (ns.map .int))) (.sh (.str ⟨w.toArray⟩)) (.sh (.tuple [.str ⟨#[y]⟩, .int b])) (.ow (if b*far=0 then [] else [.tuple [.str ⟨#[y]⟩, .int (b*far)]])) _ (eJ c (by omega)) (by rw [List.length_map,List.length_map,NH.bL];omega) (bc _) (bc _) qq (dk [] gs (by simp))
  have all:∃E,jZ [.sh (.list (ns.map .int)), .no, .no, .no, .no, .no, .no, .no, .no, .no, .no, .no]=some (E, .rt (.sh (.bool true))):=by
    rw [oq,dE g0,dE g1,dE g2,dE g3,dE g4,dE g5,dE g6,dE g7,dE g8,dE g9,dE g10]
    exact ⟨_,g11⟩
  obtain ⟨E,all⟩:=all
  simp only [fM,dA,List.length_cons,List.length_nil,Nat.zero_add,dz,aM,List.map_cons,List.map_nil,Nat.reduceSub,List.replicate,List.cons_append,List.nil_append,all,dc,bI,Option.bind_some,cb,if_true]
end Nhk25
namespace Nhk25
open PySem L2 Nh PL
theorem kM {fd:FuncData} {xs:List Str} (h:∀a0,bindArgs fd ⟨[a0],[]⟩=pure (xs.zip [a0])):∀us:List Value,us.length=1→bindArgs fd ⟨us,[]⟩=pure (xs.zip us)
  | [a0],_=>h a0
theorem kg {fd:FuncData} {xs:List Str} (h:∀a0 a1,bindArgs fd ⟨[a0,a1],[]⟩=pure (xs.zip [a0,a1])):∀us:List Value,us.length=2→bindArgs fd ⟨us,[]⟩=pure (xs.zip us)
  | [a0,a1],_=>h a0 a1
theorem uV {fd:FuncData} {xs:List Str} (h:∀a0 a1 a2 a3,bindArgs fd ⟨[a0,a1,a2,a3],[]⟩=pure (xs.zip [a0,a1,a2,a3])):∀us:List Value,us.length=4→bindArgs fd ⟨us,[]⟩=pure (xs.zip us)
  | [a0,a1,a2,a3],_=>h a0 a1 a2 a3
theorem rP {l:PySem.W.OpenLaw} {w:World} {K:PySem.W.Frag} {h:Heap} {mg:Str→Option Value} {fa f1 f2 f3 f4 f5 f6 f7 f8 f9 f10 f11 f12 f13 f14 f15 f16 f17:Addr} (X:K.In h) (G:h.Ns mainGlobals mg) (hfa:mg "law"=some (.ref fa))
    {od1 od2 od3 od4 od5 od6 od7 od8 od9 od10 od11 od12 od13 od14 od15 od16 od17 an1 an2 an3 an4 an5 an6 an7 an8 an9 an10 an11 an12 an13 an14 an15 an16 an17:Option Addr} {sl1 sl2 sl3 sl4 sl5 sl6 sl7 sl8 sl9 sl10 sl11 sl12 sl13 sl14 sl15 sl16 sl17:Array (Option Value)} {oc1 kV1 dc1 pm1 cd1 ct1 oc2 kV2 dc2 pm2 cd2 ct2 oc3 kV3 dc3 pm3 cd3 ct3 oc4 kV4 dc4 pm4 cd4 ct4 oc5 kV5 dc5 pm5 cd5 ct5 oc6 kV6 dc6 pm6 cd6 ct6 oc7 kV7 dc7 pm7 cd7 ct7 oc8 kV8 dc8 pm8 cd8 ct8 oc9 kV9 dc9 pm9 cd9 ct9 oc10 kV10 dc10 pm10 cd10 ct10 oc11 kV11 dc11 pm11 cd11 ct11 oc12 kV12 dc12 pm12 cd12 ct12 oc13 kV13 dc13 pm13 cd13 ct13 oc14 kV14 dc14 pm14 cd14 ct14 oc15 kV15 dc15 pm15 cd15 ct15 oc16 kV16 dc16 pm16 cd16 ct16 oc17 kV17 dc17 pm17 cd17 ct17:Value}
    (a1:PySem.W.nsIn K mainGlobals "short_form"=some (some (.ref f1))) (l1:K.lookup f1=some ⟨oc1,od1, .func (PySem.W.fnOf "short_form" "short_form" (aQ b8) (aE b8) (ai b8) .none kV1 dc1 pm1 an1 cd1 ct1),sl1⟩) (c1:PySem.W.codeIn K cd1 "short_form"=true) (k1:PySem.W.keepIn K (.ref f1)=true)
    (a2:PySem.W.nsIn K mainGlobals "contrary"=some (some (.ref f2))) (l2:K.lookup f2=some ⟨oc2,od2, .func (PySem.W.fnOf "contrary" "contrary" (aQ cS) (aE cS) (ai cS) .none kV2 dc2 pm2 an2 cd2 ct2),sl2⟩) (c2:PySem.W.codeIn K cd2 "contrary"=true) (k2:PySem.W.keepIn K (.ref f2)=true)
    (a3:PySem.W.nsIn K mainGlobals "repeated"=some (some (.ref f3))) (l3:K.lookup f3=some ⟨oc3,od3, .func (PySem.W.fnOf "repeated" "repeated" (aQ cT) (aE cT) (ai cT) .none kV3 dc3 pm3 an3 cd3 ct3),sl3⟩) (c3:PySem.W.codeIn K cd3 "repeated"=true) (k3:PySem.W.keepIn K (.ref f3)=true)
    (a4:PySem.W.nsIn K mainGlobals "power"=some (some (.ref f4))) (l4:K.lookup f4=some ⟨oc4,od4, .func (PySem.W.fnOf "power" "power" (aQ eF) (aE eF) (ai eF) .none kV4 dc4 pm4 an4 cd4 ct4),sl4⟩) (c4:PySem.W.codeIn K cd4 "power"=true) (k4:PySem.W.keepIn K (.ref f4)=true)
    (a5:PySem.W.nsIn K mainGlobals "_law_at"=some (some (.ref f5))) (l5:K.lookup f5=some ⟨oc5,od5, .func (PySem.W.fnOf "_law_at" "_law_at" (aQ dX) (aE dX) (ai dX) .none kV5 dc5 pm5 an5 cd5 ct5),sl5⟩) (c5:PySem.W.codeIn K cd5 "_law_at"=true) (k5:PySem.W.keepIn K (.ref f5)=true)
    (a6:PySem.W.nsIn K mainGlobals "_law_mix"=some (some (.ref f6))) (l6:K.lookup f6=some ⟨oc6,od6, .func (PySem.W.fnOf "_law_mix" "_law_mix" (aQ dq) (aE dq) (ai dq) .none kV6 dc6 pm6 an6 cd6 ct6),sl6⟩) (c6:PySem.W.codeIn K cd6 "_law_mix"=true) (k6:PySem.W.keepIn K (.ref f6)=true)
    (a7:PySem.W.nsIn K mainGlobals "_law_digit"=some (some (.ref f7))) (l7:K.lookup f7=some ⟨oc7,od7, .func (PySem.W.fnOf "_law_digit" "_law_digit" (aQ cD) (aE cD) (ai cD) .none kV7 dc7 pm7 an7 cd7 ct7),sl7⟩) (c7:PySem.W.codeIn K cd7 "_law_digit"=true) (k7:PySem.W.keepIn K (.ref f7)=true)
    (a8:PySem.W.nsIn K mainGlobals "_law_nails"=some (some (.ref f8))) (l8:K.lookup f8=some ⟨oc8,od8, .func (PySem.W.fnOf "_law_nails" "_law_nails" (aQ cE) (aE cE) (ai cE) .none kV8 dc8 pm8 an8 cd8 ct8),sl8⟩) (c8:PySem.W.codeIn K cd8 "_law_nails"=true) (k8:PySem.W.keepIn K (.ref f8)=true)
    (a9:PySem.W.nsIn K mainGlobals "_law_wide"=some (some (.ref f9))) (l9:K.lookup f9=some ⟨oc9,od9, .func (PySem.W.fnOf "_law_wide" "_law_wide" (aQ cU) (aE cU) (ai cU) .none kV9 dc9 pm9 an9 cd9 ct9),sl9⟩) (c9:PySem.W.codeIn K cd9 "_law_wide"=true) (k9:PySem.W.keepIn K (.ref f9)=true)
    (a10:PySem.W.nsIn K mainGlobals "_law_cord"=some (some (.ref f10))) (l10:K.lookup f10=some ⟨oc10,od10, .func (PySem.W.fnOf "_law_cord" "_law_cord" (aQ cV) (aE cV) (ai cV) .none kV10 dc10 pm10 an10 cd10 ct10),sl10⟩) (c10:PySem.W.codeIn K cd10 "_law_cord"=true) (k10:PySem.W.keepIn K (.ref f10)=true)
    (a11:PySem.W.nsIn K mainGlobals "_law_contrary"=some (some (.ref f11))) (l11:K.lookup f11=some ⟨oc11,od11, .func (PySem.W.fnOf "_law_contrary" "_law_contrary" (aQ bF) (aE bF) (ai bF) .none kV11 dc11 pm11 an11 cd11 ct11),sl11⟩) (c11:PySem.W.codeIn K cd11 "_law_contrary"=true) (k11:PySem.W.keepIn K (.ref f11)=true)
    (a12:PySem.W.nsIn K mainGlobals "_law_short"=some (some (.ref f12))) (l12:K.lookup f12=some ⟨oc12,od12, .func (PySem.W.fnOf "_law_short" "_law_short" (aQ cF) (aE cF) (ai cF) .none kV12 dc12 pm12 an12 cd12 ct12),sl12⟩) (c12:PySem.W.codeIn K cd12 "_law_short"=true) (k12:PySem.W.keepIn K (.ref f12)=true)
    (a13:PySem.W.nsIn K mainGlobals "_law_right"=some (some (.ref f13))) (l13:K.lookup f13=some ⟨oc13,od13, .func (PySem.W.fnOf "_law_right" "_law_right" (aQ cG) (aE cG) (ai cG) .none kV13 dc13 pm13 an13 cd13 ct13),sl13⟩) (c13:PySem.W.codeIn K cd13 "_law_right"=true) (k13:PySem.W.keepIn K (.ref f13)=true)
    (a14:PySem.W.nsIn K mainGlobals "_law_others"=some (some (.ref f14))) (l14:K.lookup f14=some ⟨oc14,od14, .func (PySem.W.fnOf "_law_others" "_law_others" (aQ b9) (aE b9) (ai b9) .none kV14 dc14 pm14 an14 cd14 ct14),sl14⟩) (c14:PySem.W.codeIn K cd14 "_law_others"=true) (k14:PySem.W.keepIn K (.ref f14)=true)
    (a15:PySem.W.nsIn K mainGlobals "_law_too_long"=some (some (.ref f15))) (l15:K.lookup f15=some ⟨oc15,od15, .func (PySem.W.fnOf "_law_too_long" "_law_too_long" (aQ bG) (aE bG) (ai bG) .none kV15 dc15 pm15 an15 cd15 ct15),sl15⟩) (c15:PySem.W.codeIn K cd15 "_law_too_long"=true) (k15:PySem.W.keepIn K (.ref f15)=true)
    (a16:PySem.W.nsIn K mainGlobals "_law_due"=some (some (.ref f16))) (l16:K.lookup f16=some ⟨oc16,od16, .func (PySem.W.fnOf "_law_due" "_law_due" (aQ dt) (aE dt) (ai dt) .none kV16 dc16 pm16 an16 cd16 ct16),sl16⟩) (c16:PySem.W.codeIn K cd16 "_law_due"=true) (k16:PySem.W.keepIn K (.ref f16)=true)
    (a17:PySem.W.nsIn K mainGlobals "law"=some (some (.ref f17))) (l17:K.lookup f17=some ⟨oc17,od17, .func (PySem.W.fnOf "law" "law" (aQ gb) (aE gb) (ai gb) .none kV17 dc17 pm17 an17 cd17 ct17),sl17⟩) (c17:PySem.W.codeIn K cd17 "law"=true) (k17:PySem.W.keepIn K (.ref f17)=true)
    {t_LONGEST:Tok} (g_LONGEST:PySem.W.nsIn K mainGlobals "LONGEST"=some (some (.int 4000 t_LONGEST)))
    {ec_NoCord ec_NoNails ec_NoRule ec_NoText ec_NoMove ec_NoLine ec_NoName ec_NoNumber ec_TooMany ec_TooLong ec_HangError:Addr}
    (qc_NoCord:PySem.W.nsIn K mainGlobals "NoCord"=some (some (.ref ec_NoCord)))
    (qc_NoNails:PySem.W.nsIn K mainGlobals "NoNails"=some (some (.ref ec_NoNails)))
    (qc_NoRule:PySem.W.nsIn K mainGlobals "NoRule"=some (some (.ref ec_NoRule)))
    (qc_NoText:PySem.W.nsIn K mainGlobals "NoText"=some (some (.ref ec_NoText)))
    (qc_NoMove:PySem.W.nsIn K mainGlobals "NoMove"=some (some (.ref ec_NoMove)))
    (qc_NoLine:PySem.W.nsIn K mainGlobals "NoLine"=some (some (.ref ec_NoLine)))
    (qc_NoName:PySem.W.nsIn K mainGlobals "NoName"=some (some (.ref ec_NoName)))
    (qc_NoNumber:PySem.W.nsIn K mainGlobals "NoNumber"=some (some (.ref ec_NoNumber)))
    (qc_TooMany:PySem.W.nsIn K mainGlobals "TooMany"=some (some (.ref ec_TooMany)))
    (qc_TooLong:PySem.W.nsIn K mainGlobals "TooLong"=some (some (.ref ec_TooLong)))
    (qc_ValueError:PySem.W.nsIn K mainGlobals "ValueError"=some none)
    (qc_HangError:PySem.W.nsIn K mainGlobals "HangError"=some (some (.ref ec_HangError)))
    (w1_TooLong:PySem.W.excIn K ec_TooLong u7 "ValueError.__new__"=true)
    (w2_TooLong:(PySem.W.clsIn K ec_TooLong).isSome=true)
    (w3_TooLong:PySem.W.findIn K (.ref ec_TooLong) "__getattribute__"=some (some (.builtin "BaseException.__getattribute__")))
    (w4_TooLong:PySem.W.findIn K (.ref ec_TooLong) "__getattr__"=some none)
    (w5_TooLong:PySem.W.findIn K (.ref ec_TooLong) "__class__"=some (some (.builtin "object.__class__")))
    (w6_TooLong:PySem.W.mroIn K ec_TooLong (.type "BaseException")=some true)
    (w7_TooLong:PySem.W.mroIn K ec_TooLong (.type "object")=some true)
    (y_TooLong_NoCord:PySem.W.kitOne K (.ref ec_TooLong) (.ref ec_NoCord)=some false)
    (y_TooLong_NoNails:PySem.W.kitOne K (.ref ec_TooLong) (.ref ec_NoNails)=some false)
    (y_TooLong_NoRule:PySem.W.kitOne K (.ref ec_TooLong) (.ref ec_NoRule)=some false)
    (y_TooLong_NoText:PySem.W.kitOne K (.ref ec_TooLong) (.ref ec_NoText)=some false)
    (y_TooLong_NoMove:PySem.W.kitOne K (.ref ec_TooLong) (.ref ec_NoMove)=some false)
    (y_TooLong_NoLine:PySem.W.kitOne K (.ref ec_TooLong) (.ref ec_NoLine)=some false)
    (y_TooLong_NoName:PySem.W.kitOne K (.ref ec_TooLong) (.ref ec_NoName)=some false)
    (y_TooLong_NoNumber:PySem.W.kitOne K (.ref ec_TooLong) (.ref ec_NoNumber)=some false)
    (y_TooLong_TooMany:PySem.W.kitOne K (.ref ec_TooLong) (.ref ec_TooMany)=some false)
    (y_TooLong_TooLong:PySem.W.kitOne K (.ref ec_TooLong) (.ref ec_TooLong)=some true)
    (y_TooLong_ValueError:PySem.W.kitOne K (.ref ec_TooLong) (.type "ValueError")=some true)
    (y_TooLong_HangError:PySem.W.exmOne K (.ref ec_TooLong) (.ref ec_HangError)=some true)
    (z1:PySem.W.nsIn K mainGlobals "len"=some none)
    (z2:PySem.W.nsIn K mainGlobals "range"=some none)
    (z3:PySem.W.nsIn K mainGlobals "abs"=some none)
    (z4:PySem.W.nsIn K mainGlobals "min"=some none)
    (z5:PySem.W.nsIn K mainGlobals "max"=some none)
    (z6:PySem.W.nsIn K mainGlobals "reversed"=some none)
    (z7:PySem.W.nsIn K mainGlobals "enumerate"=some none)
    (z8:PySem.W.nsIn K mainGlobals "isinstance"=some none)
    (z9:PySem.W.nsIn K mainGlobals "list"=some none)
    (z10:PySem.W.nsIn K mainGlobals "tuple"=some none)
    (z11:PySem.W.nsIn K mainGlobals "str"=some none)
    (z12:PySem.W.nsIn K mainGlobals "int"=some none)
    (z13:PySem.W.nsIn K mainGlobals "bool"=some none)
    (z14:PySem.W.nsIn K mainGlobals "sorted"=some none)
    (z15:PySem.W.nsIn K mainGlobals "zip"=some none)
    (z16:PySem.W.nsIn K mainGlobals "sum"=some none)
    (z17:PySem.W.nsIn K mainGlobals "any"=some none)
    (z18:PySem.W.nsIn K mainGlobals "all"=some none)
    (z19:PySem.W.nsIn K mainGlobals "set"=some none)
    (z20:PySem.W.nsIn K mainGlobals "dict"=some none):
    ∃fd:FuncData,(∀(s:Shared) (v:Value),BindsTo s fd ⟨[v],[]⟩ [("_law_script",v)])∧∀base:Heap,K.In base→base.Ns mainGlobals mg→FnOk l.prog w K mg base ku 5 fa fd ["_law_script"] (dv K fM):=by
  have e:=hfa.symm.trans (PySem.W.mg_of X G a17)
  cases e
  have F0:=kw (st:=gb) l17 c17 k17
  have B:Bn mg:=s_ X G z1 z2 z3 z4 z5 z6 z7 z8 z9 z10 z11 z12 z13 z14 z15 z16 z17 z18 z19 z20
  have G_LONGEST:=PySem.W.mg_of X G g_LONGEST
  have Z_TooLong:ExCls K ec_TooLong:=⟨Option.isSome_iff_exists.mp w2_TooLong,w3_TooLong,w4_TooLong,w5_TooLong,w6_TooLong,w7_TooLong⟩
  have XX:XF K mg:=⟨⟨ec_NoCord,PySem.W.mg_of X G qc_NoCord,(cH qc_TooLong Z_TooLong y_TooLong_NoCord dB)⟩,⟨ec_NoNails,PySem.W.mg_of X G qc_NoNails,(cH qc_TooLong Z_TooLong y_TooLong_NoNails dB)⟩,⟨ec_NoRule,PySem.W.mg_of X G qc_NoRule,(cH qc_TooLong Z_TooLong y_TooLong_NoRule dB)⟩,⟨ec_NoText,PySem.W.mg_of X G qc_NoText,(cH qc_TooLong Z_TooLong y_TooLong_NoText dB)⟩,⟨ec_NoMove,PySem.W.mg_of X G qc_NoMove,(cH qc_TooLong Z_TooLong y_TooLong_NoMove dB)⟩,⟨ec_NoLine,PySem.W.mg_of X G qc_NoLine,(cH qc_TooLong Z_TooLong y_TooLong_NoLine dB)⟩,⟨ec_NoName,PySem.W.mg_of X G qc_NoName,(cH qc_TooLong Z_TooLong y_TooLong_NoName dB)⟩,⟨ec_NoNumber,PySem.W.mg_of X G qc_NoNumber,(cH qc_TooLong Z_TooLong y_TooLong_NoNumber dB)⟩,⟨ec_TooMany,PySem.W.mg_of X G qc_TooMany,(cH qc_TooLong Z_TooLong y_TooLong_TooMany dB)⟩,⟨ec_TooLong,PySem.W.mg_of X G qc_TooLong,(cH qc_TooLong Z_TooLong y_TooLong_TooLong dB),⟨qc_TooLong,PySem.W.mg_of X G qc_TooLong,w1_TooLong,Z_TooLong⟩⟩,⟨PySem.W.mg_none_of X G qc_ValueError,(cH qc_TooLong Z_TooLong y_TooLong_ValueError dB)⟩,⟨ec_HangError,PySem.W.mg_of X G qc_HangError,fun n hn D hD=>by
    simp only [List.mem_cons,List.not_mem_nil,or_false] at hn
    rcases hn with rfl
    · rw [qc_TooLong] at hD;cases hD;exact y_TooLong_HangError⟩⟩
  have e_short_form:Def K mg "short_form" b8 ["cord"]:=b_ X G a1 l1 c1 k1 fun _ _ _ _ _ _=>fun us hl=>kM (fun _=>rfl) us hl
  have e_contrary:Def K mg "contrary" cS ["cord"]:=b_ X G a2 l2 c2 k2 fun _ _ _ _ _ _=>fun us hl=>kM (fun _=>rfl) us hl
  have e_repeated:Def K mg "repeated" cT ["cord","times"]:=b_ X G a3 l3 c3 k3 fun _ _ _ _ _ _=>fun us hl=>kg (fun _ _=>rfl) us hl
  have e_power:Def K mg "power" eF ["cord","times"]:=b_ X G a4 l4 c4 k4 fun _ _ _ _ _ _=>fun us hl=>kg (fun _ _=>rfl) us hl
  have e_law_at:Def K mg "_law_at" dX ["_law_script","_law_k"]:=b_ X G a5 l5 c5 k5 fun _ _ _ _ _ _=>fun us hl=>kg (fun _ _=>rfl) us hl
  have e_law_mix:Def K mg "_law_mix" dq ["_law_cell","_law_k"]:=b_ X G a6 l6 c6 k6 fun _ _ _ _ _ _=>fun us hl=>kg (fun _ _=>rfl) us hl
  have e_law_digit:Def K mg "_law_digit" cD ["_law_rest","_law_m"]:=b_ X G a7 l7 c7 k7 fun _ _ _ _ _ _=>fun us hl=>kg (fun _ _=>rfl) us hl
  have e_law_nails:Def K mg "_law_nails" cE ["_law_cell"]:=b_ X G a8 l8 c8 k8 fun _ _ _ _ _ _=>fun us hl=>kM (fun _=>rfl) us hl
  have e_law_wide:Def K mg "_law_wide" cU ["_law_cell"]:=b_ X G a9 l9 c9 k9 fun _ _ _ _ _ _=>fun us hl=>kM (fun _=>rfl) us hl
  have e_law_cord:Def K mg "_law_cord" cV ["_law_cell","_law_nails_here","_law_wide_here","_law_most"]:=b_ X G a10 l10 c10 k10 fun _ _ _ _ _ _=>fun us hl=>uV (fun _ _ _ _=>rfl) us hl
  have e_law_contrary:Def K mg "_law_contrary" bF ["_law_cord_here"]:=b_ X G a11 l11 c11 k11 fun _ _ _ _ _ _=>fun us hl=>kM (fun _=>rfl) us hl
  have e_law_short:Def K mg "_law_short" cF ["_law_cord_here"]:=b_ X G a12 l12 c12 k12 fun _ _ _ _ _ _=>fun us hl=>kM (fun _=>rfl) us hl
  have e_law_right:Def K mg "_law_right" cG ["_law_found","_law_due_here"]:=b_ X G a13 l13 c13 k13 fun _ _ _ _ _ _=>fun us hl=>kg (fun _ _=>rfl) us hl
  have e_law_others:Def K mg "_law_others" b9 ["_law_e"]:=b_ X G a14 l14 c14 k14 fun _ _ _ _ _ _=>fun us hl=>kM (fun _=>rfl) us hl
  have e_law_too_long:Def K mg "_law_too_long" bG ["_law_cord_here","_law_times"]:=b_ X G a15 l15 c15 k15 fun _ _ _ _ _ _=>fun us hl=>kg (fun _ _=>rfl) us hl
  have e_law_due:Def K mg "_law_due" dt ["_law_cord_here","_law_times"]:=b_ X G a16 l16 c16 k16 fun _ _ _ _ _ _=>fun us hl=>kg (fun _ _=>rfl) us hl
  refine ⟨PySem.W.fnOf "law" "law" (aQ gb) (aE gb) (ai gb) .none kV17 dc17 pm17 an17 cd17 ct17,fun s v=> .of_eq rfl,fun base _ _=>?_⟩
  have D_short_form:=iw (P:=l.prog) (w:=w) (base:=base) e_short_form B
  have D_contrary:=j2 (P:=l.prog) (w:=w) (base:=base) e_contrary B
  have D_repeated:=j4 (P:=l.prog) (w:=w) (base:=base) e_repeated B D_contrary
  have D_power:=om (P:=l.prog) (w:=w) (base:=base) e_power B G_LONGEST D_short_form D_repeated XX
  have R_power:=mt (P:=l.prog) (w:=w) (base:=base) e_power B G_LONGEST D_short_form D_repeated XX
  have D_law_at:=mw (P:=l.prog) (w:=w) (base:=base) e_law_at B
  have D_law_mix:=kJ (P:=l.prog) (w:=w) (base:=base) e_law_mix B
  have D_law_digit:=jn (P:=l.prog) (w:=w) (base:=base) e_law_digit B
  have D_law_nails:=jp (P:=l.prog) (w:=w) (base:=base) e_law_nails B
  have D_law_wide:=j6 (P:=l.prog) (w:=w) (base:=base) e_law_wide B
  have D_law_cord:=j7 (P:=l.prog) (w:=w) (base:=base) e_law_cord B D_law_digit D_law_mix
  have D_law_contrary:=gG (P:=l.prog) (w:=w) (base:=base) e_law_contrary B
  have D_law_short:=jq (P:=l.prog) (w:=w) (base:=base) e_law_short B
  have D_law_right:=jr (P:=l.prog) (w:=w) (base:=base) e_law_right B
  have D_law_others:=ix (P:=l.prog) (w:=w) (base:=base) e_law_others B XX
  have D_law_too_long:=gH (P:=l.prog) (w:=w) (base:=base) e_law_too_long B D_power R_power D_law_others XX
  have D_law_due:=kK (P:=l.prog) (w:=w) (base:=base) e_law_due B D_law_contrary D_law_short
  exact rB F0 B D_law_at D_law_nails D_law_wide D_law_cord D_law_short D_power D_law_due D_law_right D_law_too_long D_law_contrary
theorem uW {l:PySem.W.OpenLaw} {q:Program} {loose:List Str} {XP:(Str→Option Value)→Heap→Prop} {YP:World→Heap→Prop} {d:DefRec} {K:Params→PySem.W.Frag} (hn:l.most=some 63) (hdf:d.params.defaults=[])
    (hY:∀(w:World) (h:Heap),YP w h→(K w.params).In h∧lz (K w.params) h)
    (F:∀(w:World) (mg:Str→Option Value) (fa:Addr) (h:Heap),(K w.params).In h→h.Ns mainGlobals mg→mg d.name=some (.ref fa)→
      ∃fd:FuncData,(∀(s:Shared) (u:Value),BindsTo s fd ⟨[u],[]⟩ [("_law_script",u)])∧∀base:Heap,(K w.params).In base→base.Ns mainGlobals mg→FnOk l.prog w (K w.params) mg base ku 5 fa fd ["_law_script"] (dv (K w.params) fM)):
    PySem.W.WalkO q loose XP YP l.row.toRowW d [] (fun f vs=>PySem.call f vs):=
  L2.nW (n:=63) (k:=5) (x:="_law_script") (CX:=fun _=>ku) (sp:=fun w=>dv (K w.params) fM) hn (by decide) hdf ⟨rfl,by decide,by decide⟩ hY F (fun _ _ a ns hl hS=>qV (rO ns hl) hS) fun _ _ _ _ _ z=>z
end Nhk25
open PySem PySem.W PyProof.Rows
theorem PySem.W.Fast.te4283790860813640094 : True := trivial
set_option maxRecDepth 100000 in
set_option maxHeartbeats 0 in
theorem PySem.Challenge.cw_nailhang_k25_powers_holds : PySem.Challenge.rw_nailhang_k25_powers.Holds := by
  w_on;o_law;k_head;(case hw=>w_witness2)
  k_fill
  refine Nhk25.uW (l:=PySem.Challenge.rw_nailhang_k25_powers) rfl rfl (fun w h Y=>⟨PySem.W.kIn_of Y,L2.kH (by k_is)⟩) ?F
  case F=>
    intro w mg fa h KX G hmg
    refine' Nhk25.rP KX G hmg ?a1 ?l1 ?c1 ?k1 ?a2 ?l2 ?c2 ?k2 ?a3 ?l3 ?c3 ?k3 ?a4 ?l4 ?c4 ?k4 ?a5 ?l5 ?c5 ?k5 ?a6 ?l6 ?c6 ?k6 ?a7 ?l7 ?c7 ?k7 ?a8 ?l8 ?c8 ?k8 ?a9 ?l9 ?c9 ?k9 ?a10 ?l10 ?c10 ?k10 ?a11 ?l11 ?c11 ?k11 ?a12 ?l12 ?c12 ?k12 ?a13 ?l13 ?c13 ?k13 ?a14 ?l14 ?c14 ?k14 ?a15 ?l15 ?c15 ?k15 ?a16 ?l16 ?c16 ?k16 ?a17 ?l17 ?c17 ?k17 ?g_LONGEST ?qc_NoCord ?qc_NoNails ?qc_NoRule ?qc_NoText ?qc_NoMove ?qc_NoLine ?qc_NoName ?qc_NoNumber ?qc_TooMany ?qc_TooLong ?qc_ValueError ?qc_HangError ?w1_TooLong ?w2_TooLong ?w3_TooLong ?w4_TooLong ?w5_TooLong ?w6_TooLong ?w7_TooLong ?y_TooLong_NoCord ?y_TooLong_NoNails ?y_TooLong_NoRule ?y_TooLong_NoText ?y_TooLong_NoMove ?y_TooLong_NoLine ?y_TooLong_NoName ?y_TooLong_NoNumber ?y_TooLong_TooMany ?y_TooLong_TooLong ?y_TooLong_ValueError ?y_TooLong_HangError ?z1 ?z2 ?z3 ?z4 ?z5 ?z6 ?z7 ?z8 ?z9 ?z10 ?z11 ?z12 ?z13 ?z14 ?z15 ?z16 ?z17 ?z18 ?z19 ?z20
    (case a1=>k_is)
    (case l1=>k_is)
    (case c1=>k_is)
    (case k1=>k_is)
    (case a2=>k_is)
    (case l2=>k_is)
    (case c2=>k_is)
    (case k2=>k_is)
    (case a3=>k_is)
    (case l3=>k_is)
    (case c3=>k_is)
    (case k3=>k_is)
    (case a4=>k_is)
    (case l4=>k_is)
    (case c4=>k_is)
    (case k4=>k_is)
    (case a5=>k_is)
    (case l5=>k_is)
    (case c5=>k_is)
    (case k5=>k_is)
    (case a6=>k_is)
    (case l6=>k_is)
    (case c6=>k_is)
    (case k6=>k_is)
    (case a7=>k_is)
    (case l7=>k_is)
    (case c7=>k_is)
    (case k7=>k_is)
    (case a8=>k_is)
    (case l8=>k_is)
    (case c8=>k_is)
    (case k8=>k_is)
    (case a9=>k_is)
    (case l9=>k_is)
    (case c9=>k_is)
    (case k9=>k_is)
    (case a10=>k_is)
    (case l10=>k_is)
    (case c10=>k_is)
    (case k10=>k_is)
    (case a11=>k_is)
    (case l11=>k_is)
    (case c11=>k_is)
    (case k11=>k_is)
    (case a12=>k_is)
    (case l12=>k_is)
    (case c12=>k_is)
    (case k12=>k_is)
    (case a13=>k_is)
    (case l13=>k_is)
    (case c13=>k_is)
    (case k13=>k_is)
    (case a14=>k_is)
    (case l14=>k_is)
    (case c14=>k_is)
    (case k14=>k_is)
    (case a15=>k_is)
    (case l15=>k_is)
    (case c15=>k_is)
    (case k15=>k_is)
    (case a16=>k_is)
    (case l16=>k_is)
    (case c16=>k_is)
    (case k16=>k_is)
    (case a17=>k_is)
    (case l17=>k_is)
    (case c17=>k_is)
    (case k17=>k_is)
    (case g_LONGEST=>k_is)
    (case qc_NoCord=>k_is)
    (case qc_NoNails=>k_is)
    (case qc_NoRule=>k_is)
    (case qc_NoText=>k_is)
    (case qc_NoMove=>k_is)
    (case qc_NoLine=>k_is)
    (case qc_NoName=>k_is)
    (case qc_NoNumber=>k_is)
    (case qc_TooMany=>k_is)
    (case qc_TooLong=>k_is)
    (case qc_ValueError=>k_is)
    (case qc_HangError=>k_is)
    (case w1_TooLong=>k_exc)
    (case w2_TooLong=>kernel_rfl)
    (case w3_TooLong=>k_is)
    (case w4_TooLong=>k_is)
    (case w5_TooLong=>k_is)
    (case w6_TooLong=>k_is)
    (case w7_TooLong=>k_is)
    (case y_TooLong_NoCord=>kit_is)
    (case y_TooLong_NoNails=>kit_is)
    (case y_TooLong_NoRule=>kit_is)
    (case y_TooLong_NoText=>kit_is)
    (case y_TooLong_NoMove=>kit_is)
    (case y_TooLong_NoLine=>kit_is)
    (case y_TooLong_NoName=>kit_is)
    (case y_TooLong_NoNumber=>kit_is)
    (case y_TooLong_TooMany=>kit_is)
    (case y_TooLong_TooLong=>kit_is)
    (case y_TooLong_ValueError=>kit_is)
    (case y_TooLong_HangError=>kts_exm)
    (case z1=>k_is)
    (case z2=>k_is)
    (case z3=>k_is)
    (case z4=>k_is)
    (case z5=>k_is)
    (case z6=>k_is)
    (case z7=>k_is)
    (case z8=>k_is)
    (case z9=>k_is)
    (case z10=>k_is)
    (case z11=>k_is)
    (case z12=>k_is)
    (case z13=>k_is)
    (case z14=>k_is)
    (case z15=>k_is)
    (case z16=>k_is)
    (case z17=>k_is)
    (case z18=>k_is)
    (case z19=>k_is)
    (case z20=>k_is)
