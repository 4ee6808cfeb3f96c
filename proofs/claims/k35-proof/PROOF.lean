import PyProof.Rows.All
import KE.KLam
import KE.KNestM
import PyProof.OldK
import Wide.All
import OpenK.AllK
import Wide.FinOn
import Lean
import PyProof.EqAt
import PyProof.EqKinds
import PyProof.TupleCall
import KE.KRevIter
import PyProof.Rows.SeqMore
import PyProof.Rows.ListMulArg
import PyProof.ZipIter
import PyProof.Rows.ZipGen
import PyProof.EnumMake
import PyProof.StrWalks
import PyProof.SliceStr2
import PyProof.StrBlockH
import PyProof.FString5
import PyProof.Rows.StrJoin2
import PyProof.Rows.Range3
import KE.KDictLaws
import PyProof.ConsumeWalk
import PyProof.SumWalkG
import PyProof.Rows.SeqCalls
import PyProof.Rows.SeqGen
import PyProof.Rows.MinMaxN
import PyProof.Rows.CallKwBuiltin
import PyProof.Rows.SortStr
import PyProof.StrOps2
import PyProof.Rows.StrMul
import PyProof.IsRules
import PyProof.Rows.SetFrom
import PyProof.CollectStr
import PyProof.Rows.SortRuns
import PyProof.Rows.SortKey
import KE.KSortTup
import PyProof.StrOps
import PyProof.StrLawsIn
import PySem.Challenge.RW_nailhang_k35_falling_sets_tried
set_option Elab.async false
set_option linter.all false
set_option maxRecDepth 100000
set_option maxHeartbeats 4000000
noncomputable section
namespace L2
open PySem PySem.Spec PyProof.Rows
abbrev ip:=Sum Int Str
def xU:ip→Value→Bool
  | .inl k,v=>Value.isInt k v
  | .inr x,v=>Value.isStrOf x v
def Bs (w:World):ip→Int
  | .inl k=>hashInt k
  | .inr x=>hashStr w x
theorem cw:∀{k:ip} {v:Value},xU k v=true→(∃i t,k=Sum.inl i∧v=Value.int i t)∨(∃x t,k=Sum.inr x∧v=Value.str x t)
  | .inl i,v,h=>by
    obtain ⟨t,e⟩:=Value.isInt_shape (k:=i) (v:=v) h
    exact .inl ⟨i,t,rfl,e⟩
  | .inr x,v,h=>by
    obtain ⟨t,e⟩:=Value.isStrOf_shape (x:=x) (v:=v) h
    exact .inr ⟨x,t,rfl,e⟩
theorem yn (a b:Int):decide ((Sum.inl a:ip)=Sum.inl b)=(a == b):=by
  by_cases e:a=b
  · subst e;simp
  · have h:¬(Sum.inl a:ip)=Sum.inl b:=fun q=>e (Sum.inl.inj q)
    rw [decide_eq_false h]
    exact (beq_eq_false_iff_ne.mpr e).symm
theorem yo (a b:Str):decide ((Sum.inr a:ip)=Sum.inr b)=decide (a=b):=by
  by_cases e:a=b
  · subst e;simp
  · have h:¬(Sum.inr a:ip)=Sum.inr b:=fun q=>e (Sum.inr.inj q)
    rw [decide_eq_false h,decide_eq_false e]
theorem yp (a:Int) (b:Str):decide ((Sum.inl a:ip)=Sum.inr b)=false:=decide_eq_false (fun q=>nomatch q)
theorem yq (a:Str) (b:Int):decide ((Sum.inr a:ip)=Sum.inl b)=false:=decide_eq_false (fun q=>nomatch q)
def kK (prog:Program) (w:World):PySem.KeyKind prog w ip where
  is:=xU
  hash:=Bs w
  inj:=fun v a b ha hb=>by
    rcases cw ha with ⟨i,t,rfl,rfl⟩ | ⟨x,t,rfl,rfl⟩
    · rcases cw hb with ⟨j,u,rfl,e⟩ | ⟨y,u,rfl,e⟩
      · injection e with e1 _;rw [e1]
      · exact nomatch e
    · rcases cw hb with ⟨j,u,rfl,e⟩ | ⟨y,u,rfl,e⟩
      · exact nomatch e
      · injection e with e1 _;rw [e1]
  byValue:=fun k v h=>by
    rcases cw h with ⟨i,t,rfl,rfl⟩ | ⟨x,t,rfl,rfl⟩ <;> rfl
  pyHash:=fun hv h=>by
    rcases cw hv with ⟨i,t,rfl,rfl⟩ | ⟨x,t,rfl,rfl⟩
    · exact wpAny_pyHash_int h
    · exact wpAny_pyHash_str h
  eqBool:=fun hu hv h=>by
    rcases cw hu with ⟨i,t,rfl,rfl⟩ | ⟨x,t,rfl,rfl⟩
    · rcases cw hv with ⟨j,u,rfl,rfl⟩ | ⟨y,u,rfl,rfl⟩
      · rw [yn] at h;exact wpAny_eqBool_int h
      · rw [yp] at h;exact SeqAt.EqAt.int_str i t y u _ _ _ _ h
    · rcases cw hv with ⟨j,u,rfl,rfl⟩ | ⟨y,u,rfl,rfl⟩
      · rw [yq] at h;exact SeqAt.EqAt.str_int x t j u _ _ _ _ h
      · rw [yo] at h;exact wpAny_eqBool_str h
  «strs»:=fun k x t v h=>by
    rcases cw h with ⟨i,u,rfl,e⟩ | ⟨y,u,rfl,e⟩
    · exact nomatch e
    · injection e with e1 _
      subst e1
      cases v <;> rfl
end L2
namespace L2
open PySem PySem.Spec PyProof.Rows
inductive V where
  | non | bl (b:Bool) | int (i:Int) | str (x:Str) | byt (b:Array UInt8) | flt (b:UInt64) | ref (a:Addr) | ty (n:String)
  deriving DecidableEq
def RelV:V→Value→Prop
  | .non,u=>u=Value.none
  | .bl b,u=>u=Value.bool b
  | .int i,u=>∃t,u=Value.int i t
  | .str x,u=>∃t,u=Value.str x t
  | .byt b,u=>∃t,u=Value.bytes b t
  | .flt b,u=>∃t,u=Value.float b t
  | .ref a,u=>u=Value.ref a
  | .ty n,u=>u=Value.type n
abbrev Vals:List V→List Value→Prop:=Paired RelV
theorem Vals.length {xs:List V} {us:List Value} (r:Vals xs us):xs.length=us.length:=Paired.length r
theorem Vals.get:∀{xs:List V} {us:List Value} {i:Nat} {x:V},Vals xs us→xs[i]? =some x→∃u,us[i]? =some u∧RelV x u
  | _,_,_,_, .nil,e=>by simp at e
  | _,_,0,_, .cons r _,e=>by simp at e;subst e;exact ⟨_,rfl,r⟩
  | _,_,i+1,x, .cons _ t,e=>by
    obtain ⟨u,h1,h2⟩:=Vals.get (i:=i) (x:=x) t (by simpa using e)
    exact ⟨u,by simpa using h1,h2⟩
theorem Vals.append:∀{xs ys:List V} {us ws:List Value},Vals xs us→Vals ys ws→Vals (xs++ys) (us++ws)
  | _,_,_,_, .nil,s=>s
  | _,_,_,_, .cons r t,s=> .cons r (Vals.append t s)
theorem Vals.take:∀{xs:List V} {us:List Value} (n:Nat),Vals xs us→Vals (xs.take n) (us.take n)
  | _,_,0,_=> .nil
  | _,_,_+1, .nil=> .nil
  | _,_,n+1, .cons r t=> .cons r (Vals.take n t)
theorem Vals.drop:∀{xs:List V} {us:List Value} (n:Nat),Vals xs us→Vals (xs.drop n) (us.drop n)
  | _,_,0,r=>r
  | _,_,_+1, .nil=> .nil
  | _,_,n+1, .cons _ t=>Vals.drop n t
def yr:Option V→Option Value→Prop
  | some v,some u=>RelV v u
  | none,none=>True
  | _,_=>False
def KV {κ:Type}:List (κ×V)→List (κ×Value)→Prop:=Paired fun (p:κ×V) (q:κ×Value)=>p.1=q.1∧RelV p.2 q.2
def kV:ip→V
  | .inl i=> .int i
  | .inr x=> .str x
inductive HO where
  /-- a list -/
  | lst (xs:List V)
  /-- a tuple (never changes) -/
  | tup (xs:List V)
  /-- a dict whose keys are ints and texts;one whose keys are tuples of ints and texts (the empty one is both) -/
  | dK (kvs:List (ip×V)) | dT (kvs:List (List ip×V))
  /-- a set of ints:its members,its size -/
  | set (S:Int→Bool) (n:Nat)
  /-- an instance of the class at C,its dict at dx,its attributes -/
  | ins (C dx:Addr) (fs:List (Str×V))
  /-- the dict of the instance at x -/
  | own (x:Addr)
  /-- the dict of an exception -/
  | xd (fs:List (Str×V))
  /-- a bound method,f of x -/
  | met (f x:Addr)
  /-- a range object lo,lo+1, .. below hi -/
  | rng (lo hi:Int)
  /-- a thing that is known to the object (the script;a dict while a loop walks it):read,never written while it is so -/
  | frz (o:Obj) (u:HO)
  /-- a code object's table -/
  | tbl (q:Str)
  /-- any other thing,by what is true of its one object (a def of one's own:SetO a S n:=HO.ext fun h=> ..) -/
  | ext (φ:Heap→Prop)
abbrev Hp:=Addr→Option HO
def dg (H:Hp) (a:Addr) (o:HO):Hp:=fun b=>if b=a then some o else H b
theorem bR {H:Hp} {a:Addr} {o:HO}:dg H a o a=some o:=by unfold dg;rw [if_pos rfl]
theorem aK {H:Hp} {a b:Addr} {o:HO} (h:b≠a):dg H a o b=H b:=by unfold dg;rw [if_neg h]
theorem bX {H:Hp} {a b:Addr} {o:HO} (h:H a=some o) (h':H b=none):a≠b:=by
  intro e;subst e;rw [h] at h';cases h'
section
variable (P:Program) (w:World)
def ObjOk (H:Hp) (h:Heap) (a:Addr):HO→Prop
  | .lst xs=>xs.length≤sizeLine∧∃(its:List Value) (n:Nat),Vals xs its∧h.get? a=some {cls:= .type "list",data:= .seq its.toArray n}
  | .tup xs=>xs.length≤sizeLine∧∃its:List Value,Vals xs its∧IsTup h a its.toArray
  | .dK kvs=>kvs.length≤sizeLine∧(a == sysModules)=false∧∃vs,KV kvs vs∧h.DictOf (kK P w) a vs
  | .dT kvs=>kvs.length≤sizeLine∧(a == sysModules)=false∧∃xs:List (List ip×Addr×Value),
      Paired (fun (p:List ip×V) (q:List ip×Addr×Value)=>p.1=q.1∧H q.2.1=some (.tup (p.1.map kV))∧RelV p.2 q.2.2) kvs xs∧
      ∃o es ep,h.get? a=some o∧o.ExactDict∧o.data= .dict es ep∧es.toList=xs.map (entryOfKey (tupleKind (kK P w)))∧(xs.map (·.1)).Nodup
  | .set S n=>h.SetOf (intKind P w) a S n
  | .ins C dx fs=>H dx=some (.own a)∧fs.length≤1000∧dx≠a∧h.get? a=some (PySem.W.instObj C dx)∧
      ∃mA,h.Ns1 dx mA∧(∀f,yr (fs.lookup f) (mA f))∧PySem.Within mA (fs.map (·.1))
  | .own _=>∃o,h.get? a=some o
  | .xd fs=>∃mA,h.Ns1 a mA∧∀f,yr (fs.lookup f) (mA f)
  | .rng lo hi=>∃t u v,h.get? a=some {cls:= .type "range",data:= .fields #[.int lo t, .int hi u, .int 1 v]}
  | .frz o u=>h.get? a=some o∧ObjOk H h a u
  | .tbl q=>∃ps:Array Value,h.get? a=some (PySem.W.tabObj ps)∧TriplesOk ps.toList∧∀pos cv,codeAmong pos ps.toList=some cv→∃c,cv=Value.ref c∧H c=some (.own a)∧h.CodeRec cv q
  | .met f x=>h.get? a=some (PySem.W.methodObj (.ref f) (.ref x))
  | .ext φ=>φ h∧(∃o,h.get? a=some o)∧∀h1 h2:Heap,φ h1→(∀o,h1.get? a=some o→h2.get? a=some o)→φ h2
def HOk (H:Hp) (h:Heap):Prop:=∀a o,H a=some o→ObjOk P w H h a o
end
section
variable {P:Program} {w:World} {H H':Hp} {h h':Heap} {a:Addr} {o:HO}
theorem ObjOk.lt (x:ObjOk P w H h a o):a < h.objs.size:=by
  cases o with
  | lst xs=>obtain ⟨_,_,_,_,e⟩:=x;exact Heap.lt_size e
  | tup xs=>obtain ⟨_,_,_,p⟩:=x;exact p.lt
  | dK kvs=>obtain ⟨_,_,_,_,o,_,_,e,_⟩:=x;exact Heap.lt_size e
  | dT kvs=>obtain ⟨_,_,_,_,o,_,_,e,_⟩:=x;exact Heap.lt_size e
  | set S n=>obtain ⟨o,_,_,_,e,_⟩:=x;exact Heap.lt_size e
  | ins C dx fs=>obtain ⟨_,_,_,e,_⟩:=x;exact Heap.lt_size e
  | own y=>obtain ⟨_,e⟩:=x;exact Heap.lt_size e
  | xd fs=>obtain ⟨_,⟨_,_,_,e,_⟩,_⟩:=x;exact Heap.lt_size e
  | rng lo hi=>obtain ⟨_,_,_,e⟩:=x;exact Heap.lt_size e
  | frz ob u=>obtain ⟨e,_⟩:=x;exact Heap.lt_size e
  | tbl q=>obtain ⟨_,e,_⟩:=x;exact Heap.lt_size e
  | met f y=>exact Heap.lt_size (show h.get? a=some _ from x)
  | ext φ=>obtain ⟨_,⟨_,e⟩,_⟩:=x;exact Heap.lt_size e
theorem Paired.mapP {α β:Type} {F G:α→β→Prop} {l₁:List α} {l₂:List β} (h:Paired F l₁ l₂) (f:∀a b,F a b→G a b):Paired G l₁ l₂:=by
  induction h with
  | nil=>exact .nil
  | cons r _ t=>exact .cons (f _ _ r) t
theorem ObjOk.stay (x:ObjOk P w H h a o) (k:∀b u,(b=a∨H b=some (.own a))→h.get? b=some u→h'.get? b=some u)
    (ho:∀b,H b=some (.own a)→H' b=some (.own a)) (ht:∀b xs,H b=some (.tup xs)→H' b=some (.tup xs)):ObjOk P w H' h' a o:=by
  induction o with
  | lst xs=>obtain ⟨z,its,n,r,e⟩:=x;exact ⟨z,its,n,r,k _ _ (.inl rfl) e⟩
  | tup xs=>obtain ⟨z,its,r,ob,e,c⟩:=x;exact ⟨z,its,r,ob,k _ _ (.inl rfl) e,c⟩
  | dK kvs=>obtain ⟨z,y,vs,r,ob,es,ep,e,c⟩:=x;exact ⟨z,y,vs,r,ob,es,ep,k _ _ (.inl rfl) e,c⟩
  | dT kvs=>
    obtain ⟨z,y,xs,r,ob,es,ep,e,c⟩:=x
    exact ⟨z,y,xs,Paired.mapP r fun p q z=>⟨z.1,ht _ _ z.2.1,z.2.2⟩,ob,es,ep,k _ _ (.inl rfl) e,c⟩
  | set S n=>obtain ⟨ob,es,ep,t,e,c⟩:=x;exact ⟨ob,es,ep,t,k _ _ (.inl rfl) e,c⟩
  | ins C dx fs=>
    obtain ⟨d,z,ne,e,mA,⟨od,es,ep,e2,c⟩,r⟩:=x
    exact ⟨ho _ d,z,ne,k _ _ (.inl rfl) e,mA,⟨od,es,ep,k _ _ (.inr d) e2,c⟩,r⟩
  | own y=>obtain ⟨ob,e⟩:=x;exact ⟨ob,k _ _ (.inl rfl) e⟩
  | xd fs=>obtain ⟨mA,⟨od,es,ep,e,c⟩,r⟩:=x;exact ⟨mA,⟨od,es,ep,k _ _ (.inl rfl) e,c⟩,r⟩
  | rng lo hi=>obtain ⟨t,u,v,e⟩:=x;exact ⟨t,u,v,k _ _ (.inl rfl) e⟩
  | frz ob u ih=>obtain ⟨e,q⟩:=x;exact ⟨k _ _ (.inl rfl) e,ih q⟩
  | tbl q=>
    obtain ⟨ps,e,t,r⟩:=x
    refine ⟨ps,k _ _ (.inl rfl) e,t,fun pos cv z=>?_⟩
    obtain ⟨c,ec,ho',c2,oc,vs,tq,hc,hoc,hd⟩:=r pos cv z
    subst ec
    cases hc
    exact ⟨c,rfl,ho _ ho',c,oc,vs,tq,rfl,k _ _ (.inr ho') hoc,hd⟩
  | met f y=>
    have e:h.get? a=some (PySem.W.methodObj (.ref f) (.ref y)):=x
    show h'.get? a=some (PySem.W.methodObj (.ref f) (.ref y))
    exact k a _ (.inl rfl) e
  | ext φ=>obtain ⟨p,⟨o,e⟩,st⟩:=x;exact ⟨st _ _ p fun o q=>k _ _ (.inl rfl) q,⟨o,k _ _ (.inl rfl) e⟩,st⟩
theorem HOk.lt (x:HOk P w H h) (e:H a=some o):a < h.objs.size:=(x a o e).lt
theorem HOk.fresh (x:HOk P w H h) (e:h.objs.size≤a):H a=none:=by
  cases q:H a with
  | none=>rfl
  | some u=>exact absurd (Nat.lt_of_lt_of_le (x.lt q) e) (Nat.lt_irrefl _)
theorem HOk.kept (x:HOk P w H h) (k:∀b u,h.get? b=some u→h'.get? b=some u):HOk P w H h':=fun a o e=>
  (x a o e).stay (fun b u _ q=>k b u q) (fun _ q=>q) fun _ _ q=>q
theorem HOk.laid (x:HOk P w H h) (k:∀b u,h.get? b=some u→h'.get? b=some u) (hp:h.objs.size≤a) (new:ObjOk P w (dg H a o) h' a o):HOk P w (dg H a o) h':=fun b u e=>by
  have hn:=x.fresh hp
  by_cases hb:b=a
  · subst hb;rw [bR] at e;cases e;exact new
  · rw [aK hb] at e
    exact (x b u e).stay (fun c v _ q=>k c v q) (fun c q=>by rw [aK (bX q hn)];exact q) fun c xs q=>by rw [aK (bX q hn)];exact q
end
def Rd (H:Hp) (a:Addr) (u:HO):Prop:=H a=some u∨∃o,H a=some (.frz o u)
theorem Rd.ok {P:Program} {w:World} {H:Hp} {h:Heap} {a:Addr} {u:HO} (r:Rd H a u) (x:HOk P w H h):ObjOk P w H h a u:=by
  rcases r with r | ⟨o,r⟩
  · exact x a u r
  · obtain ⟨_,q⟩:=x a _ r
    exact q
def Bm:Option HO→Prop
  | some (.lst _)=>True
  | some (.dK _)=>True
  | some (.dT _)=>True
  | some (.set _ _)=>True
  | some (.ins _ _ _)=>True
  | some (.ext _)=>True
  | _=>False
section
variable {P:Program} {w:World} {H:Hp} {h h':Heap} {x e:Addr} {o':HO}
theorem HOk.write (ok:HOk P w H h) (mu:Bm (H x)) (he:e=x∨H e=some (.own x)) (k:∀b u,b≠e→h.get? b=some u→h'.get? b=some u) (heo:∃u,h'.get? e=some u)
    (new:ObjOk P w (dg H x o') h' x o'):HOk P w (dg H x o') h':=fun b u q=>by
  have nown:∀c y,H c=some (.own y)→c≠x:=fun c y r z=>by subst z;rw [r] at mu;exact mu
  have ntup:∀c xs,H c=some (.tup xs)→c≠x:=fun c xs r z=>by subst z;rw [r] at mu;exact mu
  by_cases hb:b=x
  · subst hb;rw [bR] at q;cases q;exact new
  · rw [aK hb] at q
    by_cases hbe:b=e
    · have q':H b=some (.own x):=by
        rcases he with z | z
        · exact absurd (hbe.trans z) hb
        · rw [hbe];exact z
      rw [q] at q';cases q'
      obtain ⟨v,hv⟩:=heo
      exact ⟨v,by rw [hbe];exact hv⟩
    · refine (ok b u q).stay (fun c v hc r=>k c v ?_ r) (fun c r=>by rw [aK (nown c b r)];exact r) fun c xs r=>by rw [aK (ntup c xs r)];exact r
      rcases hc with rfl | hc
      · exact hbe
      · rintro rfl
        rcases he with z | z
        · exact nown c b hc z
        · rw [hc] at z;cases z;exact hb rfl
end
structure Un (fs ex:List Addr) (H H':Hp) (h h':Heap):Prop where
  keep:∀b o,h.get? b=some o→H b=none→b∉fs→b∉ex→h'.get? b=some o
  slot:∀b o,h.get? b=some o→H b=none→b∈fs→b∉ex→∃sl,h'.get? b=some {o with slots:=sl}
  free:∀b o,h.get? b=some o→H b=none→b∉ex→H' b=none
  there:∀b o,h.get? b=some o→b∉ex→∃o',h'.get? b=some o'
  tups:∀b xs,H b=some (.tup xs)→H' b=some (.tup xs)
  frzs:∀b o u,H b=some (.frz o u)→H' b=some (.frz o u)
  tbls:∀b ps,H b=some (.tbl ps)→H' b=some (.tbl ps)
section
variable {fs fs' ex ex':List Addr} {H H1 H2:Hp} {h h1 h2 h':Heap} {a x e:Addr} {o:HO}
theorem Un.any (u:Un fs ex H H1 h h1) {b:Addr} {ob:Obj} (q:h.get? b=some ob) (n:H b=none) (hx:b∉ex):∃sl,h1.get? b=some {ob with slots:=sl}:=by
  by_cases hb:b∈fs
  · exact u.slot b ob q n hb hx
  · exact ⟨ob.slots,u.keep b ob q n hb hx⟩
theorem Un.kept (k:∀b u,h.get? b=some u→h'.get? b=some u):Un fs ex H H h h':=
  ⟨fun b ob q _ _ _=>k b ob q,fun b ob q _ _ _=>⟨ob.slots,k b ob q⟩,fun _ _ _ n _=>n,fun b ob q _=>⟨ob,k b ob q⟩,fun _ _ q=>q,fun _ _ _ q=>q,fun _ _ q=>q⟩
theorem Un.refl:Un fs ex H H h h:=Un.kept fun _ _ q=>q
theorem Un.laid (k:∀b u,h.get? b=some u→h'.get? b=some u) (hp:h.objs.size≤a) (hn:H a=none):Un fs ex H (dg H a o) h h' where
  keep:=fun b u q _ _ _=>k b u q
  slot:=fun b u q _ _ _=>⟨u.slots,k b u q⟩
  free:=fun b u q n _=>by rw [aK (Nat.ne_of_lt (Nat.lt_of_lt_of_le (Heap.lt_size q) hp))];exact n
  there:=fun b u q _=>⟨u,k b u q⟩
  tups:=fun b xs q=>by rw [aK (bX q hn)];exact q
  frzs:=fun b u xs q=>by rw [aK (bX q hn)];exact q
  tbls:=fun b ps q=>by rw [aK (bX q hn)];exact q
theorem Un.write (mu:Bm (H x)) (he:e=x∨H e=some (.own x)) (k:∀b u,b≠e→h.get? b=some u→h'.get? b=some u) (heo:∃u,h'.get? e=some u):Un fs ex H (dg H x o) h h':=by
  have hx:∀b,H b=none→b≠x:=fun b n z=>by subst z;rw [n] at mu;exact mu
  have hb:∀b,H b=none→b≠e:=fun b n z=>by
    subst z
    rcases he with r | r
    · exact hx b n r
    · rw [n] at r;cases r
  have hm:∀b u,H b=some u→¬Bm (some u)→b≠x:=fun b u q nm z=>by subst z;rw [q] at mu;exact nm mu
  refine ⟨fun b u q n _ _=>k b u (hb b n) q,fun b u q n _ _=>⟨u.slots,k b u (hb b n) q⟩,fun b u q n _=>by rw [aK (hx b n)];exact n,fun b u q _=>?_,
    fun b xs q=>by rw [aK (hm b _ q fun z=>z)];exact q,fun b u xs q=>by rw [aK (hm b _ q fun z=>z)];exact q,fun b ps q=>by rw [aK (hm b _ q fun z=>z)];exact q⟩
  by_cases hbe:b=e
  · subst hbe;exact heo
  · exact ⟨u,k b u hbe q⟩
end
def Bo (h:Heap) (H:Hp):List Addr:=(List.range h.objs.size).filter fun a=>(H a).isSome
def oS (h:Heap) (H:Hp):Heap:=PySem.W.hideAll h (Bo h H)
theorem ti (h:Heap) (H:Hp):(oS h H).objs.size=h.objs.size:=PySem.W.hideAll_size _ _
theorem kU {h:Heap} {H:Hp} {b:Addr} {o:Obj} (e:h.get? b=some o) (n:H b=none):(oS h H).get? b=some o:=
  PySem.W.hideAll_get _ e fun hm=>by
    have q:(H b).isSome=true:=(List.mem_filter.mp hm).2
    rw [n] at q;simp at q
theorem wq {h:Heap} {H:Hp} {b:Addr} {o:Obj} (e:(oS h H).get? b=some o):h.get? b=some o∧H b=none:=by
  have e':h.get? b=some o:=PySem.W.of_hideAll (Bo h H) e
  refine ⟨e',?_⟩
  cases q:H b with
  | none=>rfl
  | some x=>
    have hm:b∈Bo h H:=List.mem_filter.mpr ⟨List.mem_range.mpr (Heap.lt_size e'),by simp [q]⟩
    have z:(oS h H).get? b=none:=PySem.W.hideAll_none (Bo h H) hm
    rw [z] at e;cases e
def wt (g h:Heap) (L:Addr):List (Addr×Obj):=(List.range h.objs.size).filterMap fun a=>if a=L∨(g.get? a).isSome=true then none else (h.get? a).map fun o=>(a,o)
def bv (g h:Heap) (L d:Addr):List (Addr×Obj):=(wt g h L).filter fun p=>decide (p.1≠d)
end L2
namespace L2
open PySem PySem.Spec PyProof.Rows
def uL (K:PySem.W.Frag):Option Addr:=match PySem.W.nsIn K mainGlobals "in_told_order" with
  | some (some (.ref f))=>match K.lookup f with
    | some ⟨_,_, .func fd,_⟩=>match fd.code with
      | .ref c=>match K.lookup c with
        | some ⟨_,_, .fields vs,_⟩=>match (vs[11]? :Option Value) with
          | some (.ref P)=>some P
          | _=>none
        | _=>none
      | _=>none
    | _=>none
  | _=>none
def kG (K:PySem.W.Frag) (b:Addr):Option Str:=if uL K=some b then some (Str.ofString "in_told_order.<locals>.<lambda>") else none
structure Mod (K:PySem.W.Frag) (mg:Str→Option Value) (base:Heap):Prop where
  kin:K.In base
  glob:base.Ns mainGlobals mg
  blt:∃mb,base.Ns builtinsNs mb∧∀x:Str,x≠"__name__"→mb x=bootBuiltins x
  nolimit:base.NoLimit
  bmain:∃bm ob,mg "__builtins__"=some (.ref bm)∧bm≠builtinsNs∧base.get? bm=some ob∧ob.cls= .type "module"∧ob.dict=some builtinsNs∧ob.data= .plain
structure Cx where
  prog:Program
  w:World
  K:PySem.W.Frag
  mg:Str→Option Value
  base:Heap
  A:Around
  N:List Str
  s₀:Shared
  H₀:Hp
  env:Env
  outer:List Env
  stack:List Env
  ex:List Addr
  fn:Str→Bool
  calm:Bool
  pn:List (Addr×Obj)
  xe:Value→Shared→Prop
def uI (l:List Env):List Addr:=l.filterMap (·.frame)
abbrev Cx.fs (X:Cx):List Addr:=uI X.outer
def zZ (sc:Scope) (x:Str):Prop:=sc.names.lookup x=some .local∨sc.names.lookup x=some .cell∨sc.names.lookup x=some .free
def yt (sc:Scope) (x:Str):Prop:=sc.names.lookup x=some .local∨sc.names.lookup x=some .cell
def Bt (env:Env) (h:Heap) (m:Str→Option Value) (x:Str) (u:Value):Prop:=
  (env.kindOf x=some .local∧m x=some u)∨((env.kindOf x=some .cell∨env.kindOf x=some .free)∧∃c,env.cells.lookup x=some c∧h.IsCell c (some u))
structure Cx.Ok (X:Cx):Prop where
  mod:Mod X.K X.mg X.base
  kind:X.env.scope.kind= .function
  glob:X.env.globals=mainGlobals
  blt:X.env.builtins=builtinsNs
  above:X.s₀.heap.objs.size≤X.env.locals
  inj:∀x y c,X.env.cells.lookup x=some c→X.env.cells.lookup y=some c→x=y
  has:∀x,(X.env.kindOf x=some .cell∨X.env.kindOf x=some .free)→∃c,X.env.cells.lookup x=some c
  cab:∀x c,X.fn x=true→X.env.cells.lookup x=some c→X.s₀.heap.objs.size≤c
  hd:X.calm=true→X.A.handled=none
  frames:X.A.frames=some X.stack
  stk:X.stack=X.outer∨(X.stack=X.env::X.outer∧X.env.frame=some X.env.locals)
  exf:∀b∈X.ex,b≠X.env.locals∧∀x c,X.env.cells.lookup x=some c→c≠b
  bs:∀b o,X.base.get? b=some o→X.s₀.heap.get? b=some o∧X.H₀ b=none
  bsz:X.base.objs.size≤X.s₀.heap.objs.size
  noex:∀b o,X.base.get? b=some o→b∉X.ex
  exfs:∀b∈X.ex,b∉X.fs
  funs:X.s₀.heap.FunFrames X.base X.outer
  frf:∀b∈X.fs,X.H₀ b=none
  tab:∀b q,kG X.K b=some q→X.H₀ b=some (.tbl q)
structure Inv (X:Cx) (pins:List (Addr×Obj)) (σ:List (Option V)) (H:Hp) (s:Shared):Prop where
  ok:X.Ok
  os:s.os=X.s₀.os
  bare:AllBare s.gens
  base:Un X.fs X.ex X.H₀ H X.s₀.heap s.heap
  loc:∃m,s.heap.Ns X.env.locals m∧∀(i:Nat) (x:Str) (v:V),X.N[i]? =some x→σ[i]? =some (some v)→zZ X.env.scope x→∃u,RelV v u∧Bt X.env s.heap m x u
  cell:∀x c,X.env.cells.lookup x=some c→∃v,s.heap.IsCell c v
  free:H X.env.locals=none
  freeC:∀x c,X.env.cells.lookup x=some c→H c=none
  pin:∀p∈X.pn++pins,s.heap.get? p.1=some p.2∧H p.1=none∧p.1≠X.env.locals∧p.1∉X.fs∧∀v,p.2.data≠ .cell v
  hok:HOk X.prog X.w H s.heap
  len:σ.length=X.N.length
section
variable {X:Cx} {pins:List (Addr×Obj)} {σ:List (Option V)} {H H':Hp} {s:Shared} {h':Heap}
theorem Cx.Ok.nofr (ok:X.Ok) {b:Addr} {o:Obj} (e:X.base.get? b=some o):b∉X.fs:=fun hb=>by
  have:=(ok.funs.mem hb).1
  rw [e] at this;cases this
theorem Inv.bs (I:Inv X pins σ H s):∀b o,X.base.get? b=some o→s.heap.get? b=some o∧H b=none:=fun b o e=>
  ⟨I.base.keep b o (I.ok.bs b o e).1 (I.ok.bs b o e).2 (I.ok.nofr e) (I.ok.noex b o e),I.base.free b o (I.ok.bs b o e).1 (I.ok.bs b o e).2 (I.ok.noex b o e)⟩
theorem Inv.bk (I:Inv X pins σ H s):∀b o,X.base.get? b=some o→s.heap.get? b=some o:=fun b o e=>(I.bs b o e).1
theorem Inv.mod (I:Inv X pins σ H s):Mod X.K X.mg X.base:=I.ok.mod
theorem Inv.tab (I:Inv X pins σ H s):∀b q,kG X.K b=some q→H b=some (.tbl q):=fun b q e=>I.base.tbls b q (I.ok.tab b q e)
theorem Inv.kIn (I:Inv X pins σ H s):X.K.In s.heap:=I.ok.mod.kin.keeps I.bk
theorem Inv.nolimit (I:Inv X pins σ H s):s.heap.NoLimit:=I.ok.mod.nolimit.keeps I.bk
theorem Inv.lt (I:Inv X pins σ H s):X.env.locals < s.heap.objs.size:=let ⟨_,hn,_⟩:=I.loc;hn.lt
theorem Inv.sz (I:Inv X pins σ H s):X.s₀.heap.objs.size≤s.heap.objs.size:=Nat.le_trans I.ok.above (Nat.le_of_lt I.lt)
theorem Inv.nofs (I:Inv X pins σ H s) {a:Addr} (h:s.heap.objs.size≤a):a∉X.fs:=fun hb=>by
  obtain ⟨_,o,ho,_⟩:=I.ok.funs.mem hb
  exact absurd (Nat.lt_of_lt_of_le (Heap.lt_size ho) (Nat.le_trans I.sz h)) (Nat.lt_irrefl _)
theorem Inv.cne (I:Inv X pins σ H s):∀x c,X.env.cells.lookup x=some c→c≠X.env.locals:=fun x c e z=>by
  obtain ⟨v,o,ho,hd⟩:=I.cell x c e
  obtain ⟨m,⟨o',es,ep,ho',hd',_⟩,_⟩:=I.loc
  rw [z,ho'] at ho;cases ho;rw [hd'] at hd;cases hd
theorem Inv.funs (I:Inv X pins σ H s):s.heap.FunFrames X.base X.outer:=by
  have all:∀(l:List Env),(∀b∈uI l,b∈X.fs)→X.s₀.heap.FunFrames X.base l→s.heap.FunFrames X.base l:=by
    intro l
    induction l with
    | nil=>intro _ _;trivial
    | cons env r ih=>
      intro hs hl
      obtain ⟨hk,⟨L,o,hf,hn,ho,hd⟩,hr⟩:=hl
      have hL:L∈X.fs:=hs L (by unfold uI;rw [List.filterMap_cons,hf];exact List.mem_cons_self)
      obtain ⟨sl,e⟩:=I.base.slot L o ho (I.ok.frf L hL) hL fun z=>I.ok.exfs L z hL
      exact ⟨hk,⟨L,_,hf,hn,e,hd⟩,ih (fun b hb=>hs b (by unfold uI;rw [List.filterMap_cons,hf];exact List.mem_cons_of_mem _ hb)) hr⟩
  exact all X.outer (fun _ hb=>hb) I.ok.funs
theorem Inv.stack (I:Inv X pins σ H s):s.heap.FunFrames X.base X.stack:=by
  rcases I.ok.stk with e | ⟨e,hf⟩
  · rw [e];exact I.funs
  · rw [e]
    obtain ⟨m,hn,_⟩:=I.loc
    refine .cons (by rw [I.ok.kind];decide) hf hn ?_ I.funs
    exact Heap.get?_none_of_le (Nat.le_trans I.ok.bsz I.ok.above)
theorem Inv.stkSub (I:Inv X pins σ H s):∀b∈uI X.stack,b∈X.env.locals::X.fs:=fun b hb=>by
  rcases I.ok.stk with e | ⟨e,hf⟩
  · rw [e] at hb;exact List.mem_cons_of_mem _ hb
  · rw [e] at hb
    unfold uI at hb
    rw [List.filterMap_cons,hf] at hb
    exact hb
theorem Inv.stkFree (I:Inv X pins σ H s):∀b∈uI X.stack,H b=none:=fun b hb=>by
  rcases List.mem_cons.mp (I.stkSub b hb) with e | hb
  · rw [e];exact I.free
  · obtain ⟨_,o,ho,_⟩:=I.ok.funs.mem hb
    exact I.base.free b o ho (I.ok.frf b hb) fun z=>I.ok.exfs b z hb
theorem Inv.step {g':Array GenState} {t':Nat} {d':Drawn} {ch:List Addr} (I:Inv X pins σ H s)
    (hch:∀b∈ch,(b∈X.ex∨X.s₀.heap.objs.size≤b)∧b≠X.env.locals∧(∀x c,X.env.cells.lookup x=some c→c≠b)∧∀p∈X.pn++pins,p.1≠b)
    (keep:∀b o,b≠X.env.locals→b∉X.fs→b∉ch→s.heap.get? b=some o→H b=none→h'.get? b=some o)
    (slot:∀b o,b≠X.env.locals→b∈X.fs→b∉ch→s.heap.get? b=some o→H b=none→∃sl,h'.get? b=some {o with slots:=sl}) (free:∀b o,b∉ch→s.heap.get? b=some o→H b=none→H' b=none)
    (there:∀b o,b∉ch→s.heap.get? b=some o→∃o',h'.get? b=some o')
    (tups:∀b xs,H b=some (.tup xs)→H' b=some (.tup xs)) (frzs:∀b o u,H b=some (.frz o u)→H' b=some (.frz o u)) (tbls:∀b ps,H b=some (.tbl ps)→H' b=some (.tbl ps))
    (ns:∀m,s.heap.Ns X.env.locals m→h'.Ns X.env.locals m) (hok:HOk X.prog X.w H' h') (hg:AllBare g'):
    Inv X pins σ H' {s with heap:=h',gens:=g',drawn:=d',toks:=t'}:=by
  have neL:∀b o,X.s₀.heap.get? b=some o→b≠X.env.locals:=fun b o e=>Nat.ne_of_lt (Nat.lt_of_lt_of_le (Heap.lt_size e) I.ok.above)
  have neC:∀b o,X.s₀.heap.get? b=some o→b∉X.ex→b∉ch:=fun b o e hx hb=>by
    rcases (hch b hb).1 with z | z
    · exact hx z
    · exact absurd (Nat.lt_of_lt_of_le (Heap.lt_size e) z) (Nat.lt_irrefl _)
  have cellK:∀x c,X.env.cells.lookup x=some c→∀v,s.heap.IsCell c v→h'.IsCell c v:=fun x c e v ⟨o,ho,hd⟩=>by
    have nch:c∉ch:=fun z=>(hch c z).2.2.1 x c e rfl
    by_cases hc:c∈X.fs
    · obtain ⟨sl,q⟩:=slot c o (I.cne x c e) hc nch ho (I.freeC x c e)
      exact ⟨_,q,hd⟩
    · exact ⟨o,keep c o (I.cne x c e) hc nch ho (I.freeC x c e),hd⟩
  refine ⟨I.ok,I.os,hg,⟨fun b o e n hb hx=>?_,fun b o e n hb hx=>?_,fun b o e n hx=>?_,fun b o e hx=>?_,fun b xs e=>tups b xs (I.base.tups b xs e),fun b o xs e=>frzs b o xs (I.base.frzs b o xs e),fun b ps e=>?_⟩,?_,fun x c e=>?_,?_,fun x c e=>?_,fun p hp=>?_,hok,I.len⟩
  · exact keep b o (neL b o e) hb (neC b o e hx) (I.base.keep b o e n hb hx) (I.base.free b o e n hx)
  · obtain ⟨sl,e1⟩:=I.base.slot b o e n hb hx
    obtain ⟨sl',e2⟩:=slot b _ (neL b o e) hb (neC b o e hx) e1 (I.base.free b o e n hx)
    exact ⟨sl',e2⟩
  · obtain ⟨o',e1⟩:=I.base.there b o e hx
    exact free b o' (neC b o e hx) e1 (I.base.free b o e n hx)
  · obtain ⟨o',e1⟩:=I.base.there b o e hx
    exact there b o' (neC b o e hx) e1
  · exact tbls b _ (I.base.tbls b ps e)
  · obtain ⟨m,hn,hl⟩:=I.loc
    refine ⟨m,ns m hn,fun i x v e1 e2 e3=>?_⟩
    obtain ⟨u,r,l⟩:=hl i x v e1 e2 e3
    refine ⟨u,r,?_⟩
    rcases l with l | ⟨k,c,e,z⟩
    · exact .inl l
    · exact .inr ⟨k,c,e,cellK x c e _ z⟩
  · obtain ⟨v,z⟩:=I.cell x c e
    exact ⟨v,cellK x c e v z⟩
  · obtain ⟨m,⟨o,_,_,ho,_⟩,_⟩:=I.loc
    exact free _ o (fun z=>(hch _ z).2.1 rfl) ho I.free
  · obtain ⟨v,o,ho,hd⟩:=I.cell x c e
    exact free c o (fun z=>(hch c z).2.2.1 x c e rfl) ho (I.freeC x c e)
  · obtain ⟨e,n,ne,nf,d⟩:=I.pin p hp
    have nch:p.1∉ch:=fun z=>(hch p.1 z).2.2.2 p hp rfl
    exact ⟨keep p.1 p.2 ne nf nch e n,free p.1 p.2 nch e n,ne,nf,d⟩
theorem Inv.un {t':Nat} (I:Inv X pins σ H s) (u:Un X.fs [] H H' s.heap h') (hok:HOk X.prog X.w H' h'):Inv X pins σ H' {s with heap:=h',toks:=t'}:=by
  obtain ⟨m,⟨o,es,ep,ho,r⟩,_⟩:=id I.loc
  obtain ⟨sl,hL⟩:=u.any ho I.free (by simp)
  exact I.step (g':=s.gens) (d':=s.drawn) (ch:=[]) (fun _ z=>nomatch z) (fun b o _ hb _ e n=>u.keep b o e n hb (by simp)) (fun b o _ hb _ e n=>u.slot b o e n hb (by simp)) (fun b o _ e n=>u.free b o e n (by simp)) (fun b o _ e=>u.there b o e (by simp)) u.tups u.frzs u.tbls (fun m' hm=>by
    obtain ⟨o',es',ep',ho',r'⟩:=hm
    rw [ho] at ho';cases ho'
    exact ⟨_,es',ep',hL,r'⟩) hok I.bare
theorem Inv.call {g':Array GenState} {t':Nat} {d':Drawn} {ch:List Addr} (I:Inv X pins σ H s) (u:Un (uI X.stack) ch H H' s.heap h') (hok:HOk X.prog X.w H' h') (hg:AllBare g')
    (hch:∀b∈ch,(b∈X.ex∨X.s₀.heap.objs.size≤b)∧b≠X.env.locals∧(∀x c,X.env.cells.lookup x=some c→c≠b)∧∀p∈X.pn++pins,p.1≠b):
    Inv X pins σ H' {s with heap:=h',gens:=g',drawn:=d',toks:=t'}:=by
  obtain ⟨m,⟨o,es,ep,ho,r⟩,_⟩:=id I.loc
  obtain ⟨sl,hL⟩:=u.any ho I.free fun z=>(hch _ z).2.1 rfl
  exact I.step (ch:=ch) hch (fun b o hL hb hc e n=>u.keep b o e n (fun z=>(List.mem_cons.mp (I.stkSub b z)).elim hL hb) hc) (fun b o _ _ hc e n=>u.any e n hc) (fun b o hc e n=>u.free b o e n hc) (fun b o hc e=>u.there b o e hc) u.tups u.frzs u.tbls (fun m' hm=>by
    obtain ⟨o',es',ep',ho',r'⟩:=hm
    rw [ho] at ho';cases ho'
    exact ⟨_,es',ep',hL,r'⟩) hok hg
theorem Inv.turned {t':Nat} {it:Addr} (I:Inv X pins σ H s) (k:∀b o,b≠it→s.heap.get? b=some o→h'.get? b=some o) (hn:H it=none) (hL:it≠X.env.locals)
    (h1:it∈X.ex∨X.s₀.heap.objs.size≤it) (h2:∀x c,X.env.cells.lookup x=some c→c≠it) (h3:∀p∈X.pn++pins,p.1≠it):Inv X pins σ H {s with heap:=h',toks:=t'}:=by
  have nit:∀b u,H b=some u→b≠it:=fun b u e z=>by rw [z,hn] at e;cases e
  refine I.step (g':=s.gens) (d':=s.drawn) (ch:=[it]) (fun b hb=>?_) (fun b o _ _ hc e _=>k b o (fun z=>hc (by simp [z])) e) (fun b o _ _ hc e _=>⟨o.slots,k b o (fun z=>hc (by simp [z])) e⟩) (fun _ _ _ _ n=>n)
    (fun b o hc e=>⟨o,k b o (fun z=>hc (by simp [z])) e⟩) (fun _ _ e=>e) (fun _ _ _ e=>e) (fun _ _ e=>e) (fun m hm=>?_) (fun b u e=>?_) I.bare
  · have e:b=it:=by simpa using hb
    subst e
    exact ⟨h1,hL,h2,h3⟩
  · obtain ⟨o,es,ep,ho,r⟩:=hm
    exact ⟨o,es,ep,k _ o (Ne.symm hL) ho,r⟩
  · refine (I.hok b u e).stay (fun c v hc q=>k c v ?_ q) (fun _ q=>q) fun _ _ q=>q
    rcases hc with z | z
    · rw [z];exact nit b u e
    · exact nit c _ z
theorem Inv.tok (I:Inv X pins σ H s) (t:Nat):Inv X pins σ H {s with toks:=t}:=I.un (h':=s.heap) (t':=t) Un.refl I.hok
theorem Inv.kept {t':Nat} (I:Inv X pins σ H s) (k:∀b u,s.heap.get? b=some u→h'.get? b=some u):Inv X pins σ H {s with heap:=h',toks:=t'}:=I.un (Un.kept k) (I.hok.kept k)
theorem Inv.laid {a:Addr} {o:HO} {t':Nat} (I:Inv X pins σ H s) (k:∀b u,s.heap.get? b=some u→h'.get? b=some u) (hp:s.heap.objs.size≤a) (new:ObjOk X.prog X.w (dg H a o) h' a o):
    Inv X pins σ (dg H a o) {s with heap:=h',toks:=t'}:=I.un (Un.laid k hp (I.hok.fresh hp)) (I.hok.laid k hp new)
theorem Inv.write {x e:Addr} {o:HO} {t':Nat} (I:Inv X pins σ H s) (mu:Bm (H x)) (he:e=x∨H e=some (.own x)) (k:∀b u,b≠e→s.heap.get? b=some u→h'.get? b=some u) (heo:∃u,h'.get? e=some u)
    (new:ObjOk X.prog X.w (dg H x o) h' x o):Inv X pins σ (dg H x o) {s with heap:=h',toks:=t'}:=I.un (Un.write mu he k heo) (I.hok.write mu he k heo new)
theorem Inv.pins_of {pins':List (Addr×Obj)} (I:Inv X pins σ H s) (h:∀p∈pins',s.heap.get? p.1=some p.2∧H p.1=none∧p.1≠X.env.locals∧p.1∉X.fs∧∀v,p.2.data≠ .cell v):Inv X pins' σ H s:=
  ⟨I.ok,I.os,I.bare,I.base,I.loc,I.cell,I.free,I.freeC,fun p hp=>(List.mem_append.mp hp).elim (fun z=>I.pin p (List.mem_append_left _ z)) (h p),I.hok,I.len⟩
theorem oT {N:List Str} (hN:N.Nodup) {i j:Nat} {x:Str} (a:N[i]? =some x) (b:N[j]? =some x):i=j:=by
  obtain ⟨h1,e1⟩:=List.getElem?_eq_some_iff.mp a
  obtain ⟨h2,e2⟩:=List.getElem?_eq_some_iff.mp b
  exact (List.getElem_inj hN).mp (e1.trans e2.symm)
theorem tj {M:Model} {A:Around} {E:Value→Shared→Prop} {i:Nat} {x:Str} {v:V} {u:Value} {Q:Unit→Shared→Prop} (I:Inv X pins σ H s) (hN:X.N.Nodup) (hi:X.N[i]? =some x) (hx:yt X.env.scope x) (r:RelV v u)
    (h:∀s',Inv X pins (σ.set i (some v)) H s'→(∃a,Heap.SameBut a s.heap s'.heap∧(a=X.env.locals∨X.env.cells.lookup x=some a))→Q () s') (hf:X.fn x=true∨X.env.scope.names.lookup x=some .local:=by first | exact .inl rfl | exact .inr rfl | assumption):wpAny M A (storeName X.env x u) Q E s:=by
  obtain ⟨m,hn,hl⟩:=id I.loc
  have hcls:(X.env.scope.kind == .class||(X.env.scope.kind == .module&&X.env.locals != X.env.globals))=false:=by rw [I.ok.kind];rfl
  have hiσ:i < σ.length:=by rw [I.len];exact (List.getElem?_eq_some_iff.mp hi).1
  have cne:=I.cne
  have tracked:∀{a:Addr} {h':Heap},(∃o,s.heap.get? a=some o∧H a=none)→Heap.SameBut a s.heap h'→HOk X.prog X.w H h':=fun {a h'} ha hs b ob e=>by
    obtain ⟨_,_,hfree⟩:=ha
    refine (I.hok b ob e).stay (fun c w' hc q=>(hs.2 c ?_).trans q) (fun _ q=>q) fun _ _ q=>q
    rintro rfl
    rcases hc with rfl | hc
    · rw [hfree] at e;cases e
    · rw [hfree] at hc;cases hc
  rcases hx with hk | hk
  · refine wpAny_storeName_local hk hn (fun h' hn' hs=>?_) hcls
    obtain ⟨oL,_,_,hoL,_⟩:=id hn
    refine h _ ⟨I.ok,I.os,I.bare,⟨fun b o e n hb hx=>?_,fun b o e n hb hx=>?_,I.base.free,fun b o e hx=>?_,I.base.tups,I.base.frzs,I.base.tbls⟩,⟨_,hn',fun j y v' e1 e2 e3=>?_⟩,fun y c e=>?_,I.free,I.freeC,fun p hp=>?_,tracked ⟨oL,hoL,I.free⟩ hs,by simpa using I.len⟩ ⟨_,hs, .inl rfl⟩
    · exact (hs.2 b (Nat.ne_of_lt (Nat.lt_of_lt_of_le (Heap.lt_size e) I.ok.above))).trans (I.base.keep b o e n hb hx)
    · obtain ⟨sl,e1⟩:=I.base.slot b o e n hb hx
      exact ⟨sl,(hs.2 b (Nat.ne_of_lt (Nat.lt_of_lt_of_le (Heap.lt_size e) I.ok.above))).trans e1⟩
    · obtain ⟨o',e1⟩:=I.base.there b o e hx
      exact ⟨o',(hs.2 b (Nat.ne_of_lt (Nat.lt_of_lt_of_le (Heap.lt_size e) I.ok.above))).trans e1⟩
    · by_cases hj:j=i
      · subst hj
        rw [hi] at e1;cases e1
        rw [List.getElem?_set_self hiσ] at e2
        cases e2
        exact ⟨u,r, .inl ⟨hk,by simp⟩⟩
      · rw [List.getElem?_set_ne (Ne.symm hj)] at e2
        obtain ⟨u',r',q⟩:=hl j y v' e1 e2 e3
        refine ⟨u',r',?_⟩
        rcases q with ⟨k,e⟩ | ⟨k,c,e,z⟩
        · refine .inl ⟨k,?_⟩
          have:y≠x:=fun e=>hj (oT hN e1 (e▸hi))
          simp [this,e]
        · exact .inr ⟨k,c,e,z.sameBut hs (cne y c e)⟩
    · obtain ⟨w',z⟩:=I.cell y c e
      exact ⟨w',z.sameBut hs (cne y c e)⟩
    · obtain ⟨e,n,ne,nf,d⟩:=I.pin p hp
      exact ⟨(hs.2 p.1 ne).trans e,n,ne,nf,d⟩
  · have hfn:X.fn x=true:=by
      rcases hf with z | z
      · exact z
      · rw [z] at hk;cases hk
    obtain ⟨c,hc⟩:=I.ok.has x (.inl hk)
    obtain ⟨w',z⟩:=I.cell x c hc
    refine wpAny_storeName_cell I.ok.kind hk hc z (fun h' hc' hs=>?_)
    obtain ⟨oc,hoc,hocd⟩:=id z
    refine h {s with heap:=h'} ⟨I.ok,I.os,I.bare,⟨fun b o e n hb hx=>?_,fun b o e n hb hx=>?_,I.base.free,fun b o e hx=>?_,I.base.tups,I.base.frzs,I.base.tbls⟩,⟨m,hn.sameBut hs (Ne.symm (cne x c hc)),fun j y v' e1 e2 e3=>?_⟩,fun y c' e=>?_,I.free,I.freeC,fun p hp=>?_,tracked ⟨oc,hoc,I.freeC x c hc⟩ hs,by simpa using I.len⟩ ⟨c,hs, .inr hc⟩
    · exact (hs.2 b (Nat.ne_of_lt (Nat.lt_of_lt_of_le (Heap.lt_size e) (I.ok.cab x c hfn hc)))).trans (I.base.keep b o e n hb hx)
    · obtain ⟨sl,e1⟩:=I.base.slot b o e n hb hx
      exact ⟨sl,(hs.2 b (Nat.ne_of_lt (Nat.lt_of_lt_of_le (Heap.lt_size e) (I.ok.cab x c hfn hc)))).trans e1⟩
    · obtain ⟨o',e1⟩:=I.base.there b o e hx
      exact ⟨o',(hs.2 b (Nat.ne_of_lt (Nat.lt_of_lt_of_le (Heap.lt_size e) (I.ok.cab x c hfn hc)))).trans e1⟩
    · by_cases hj:j=i
      · subst hj
        rw [hi] at e1;cases e1
        rw [List.getElem?_set_self hiσ] at e2
        cases e2
        exact ⟨u,r, .inr ⟨.inl hk,c,hc,hc'⟩⟩
      · rw [List.getElem?_set_ne (Ne.symm hj)] at e2
        obtain ⟨u',r',q⟩:=hl j y v' e1 e2 e3
        refine ⟨u',r',?_⟩
        rcases q with q | ⟨k,c',e,z'⟩
        · exact .inl q
        · refine .inr ⟨k,c',e,z'.sameBut hs ?_⟩
          rintro rfl
          exact hj (oT hN e1 (I.ok.inj _ _ _ e hc▸hi))
    · by_cases hcc:c'=c
      · subst hcc;exact ⟨_,hc'⟩
      · obtain ⟨w2,z2⟩:=I.cell y c' e
        exact ⟨w2,z2.sameBut hs hcc⟩
    · obtain ⟨e,n,ne,nf,d⟩:=I.pin p hp
      refine ⟨(hs.2 p.1 ?_).trans e,n,ne,nf,d⟩
      intro q
      rw [q,hoc] at e
      have q':oc=p.2:=Option.some.inj e
      exact d w' (by rw [←q'];exact hocd)
theorem oU {M:Model} {A:Around} {E:Value→Shared→Prop} {i:Nat} {x:Str} {v:V} {u:Value} {Q:Unit→Shared→Prop} (I:Inv X pins σ H s) (hN:X.N.Nodup) (hi:X.N[i]? =some x) (hx:yt X.env.scope x) (r:RelV v u)
    (h:∀s',Inv X pins (σ.set i (some v)) H s'→Q () s') (hf:X.fn x=true∨X.env.scope.names.lookup x=some .local:=by first | exact .inl rfl | exact .inr rfl | assumption):wpAny M A (storeName X.env x u) Q E s:=
  tj I hN hi hx r (fun s' I' _=>h s' I') hf
theorem Inv.call' {s':Shared} {ch:List Addr} (I:Inv X pins σ H s) (ho:s'.os=s.os) (u:Un (uI X.stack) ch H H' s.heap s'.heap) (hok:HOk X.prog X.w H' s'.heap) (hg:AllBare s'.gens)
    (hch:∀b∈ch,(b∈X.ex∨X.s₀.heap.objs.size≤b)∧b≠X.env.locals∧(∀x c,X.env.cells.lookup x=some c→c≠b)∧∀p∈X.pn++pins,p.1≠b):Inv X pins σ H' s':=by
  obtain ⟨h',g',d',t',o'⟩:=s'
  have e:o'=s.os:=ho
  subst e
  exact I.call (g':=g') (t':=t') (d':=d') u hok hg hch
end
abbrev XK:=Value→Option Addr→Hp→Prop
abbrev St:=List (Option V)
abbrev VK:=V→Hp→Prop
abbrev TE:=St→Hp→VK→Prop
abbrev TT:=St→Hp→(Bool→Hp→Prop)→Prop
abbrev TA:=St→Hp→(List V→Hp→Prop)→Prop
structure Ends where
  nx:St→Hp→Prop
  rt:VK
  bk:St→Hp→Prop:=fun _ _=>False
  ct:St→Hp→Prop:=fun _ _=>False
abbrev TS:=Ends→St→Hp→Prop
def EP (X:Cx) (pins:List (Addr×Obj)) (σ:St) (Q:VK) (u:Value) (s':Shared):Prop:=∃v H',Inv X pins σ H' s'∧RelV v u∧Q v H'
def TP (X:Cx) (pins:List (Addr×Obj)) (σ:St) (Q:Bool→Hp→Prop) (b:Bool) (s':Shared):Prop:=∃H',Inv X pins σ H' s'∧Q b H'
def AP (X:Cx) (pins:List (Addr×Obj)) (σ:St) (Q:List V→Hp→Prop) (us:List Value) (s':Shared):Prop:=∃vs H',Inv X pins σ H' s'∧Vals vs us∧Q vs H'
def SP (X:Cx) (pins:List (Addr×Obj)) (D:Ends) (f:Flow) (s':Shared):Prop:=
  match f with
  | .next=>∃σ' H',Inv X pins σ' H' s'∧D.nx σ' H'
  | .brk=>∃σ' H',Inv X pins σ' H' s'∧D.bk σ' H'
  | .cont=>∃σ' H',Inv X pins σ' H' s'∧D.ct σ' H'
  | .ret u=>∃v σ' H',Inv X pins σ' H' s'∧RelV v u∧D.rt v H'
def PE (X:Cx) (e:Expr) (t:TE):Prop:=
  ∀(pins:List (Addr×Obj)) (s:Shared) (σ:St) (H:Hp) (Q:VK),Inv X pins σ H s→t σ H Q→wpAny (model X.prog X.w) X.A (eval e X.env) (EP X pins σ Q) X.xe s
def PT (X:Cx) (e:Expr) (t:TT):Prop:=
  ∀(pins:List (Addr×Obj)) (s:Shared) (σ:St) (H:Hp) (Q:Bool→Hp→Prop),Inv X pins σ H s→t σ H Q→wpAny (model X.prog X.w) X.A (isTrue e X.env (eval e X.env)) (TP X pins σ Q) X.xe s
def PW (X:Cx) (e:Expr) (t:TT):Prop:=
  ∀(whole:Sem Value) (pins:List (Addr×Obj)) (s:Shared) (σ:St) (H:Hp) (Q:Bool→Hp→Prop),Inv X pins σ H s→t σ H Q→wpAny (model X.prog X.w) X.A (isTrue e X.env whole) (TP X pins σ Q) X.xe s
theorem PW.pt {X:Cx} {e:Expr} {t:TT} (h:PW X e t):PT X e t:=h _
def PA (X:Cx) (es:List Expr) (t:TA):Prop:=
  ∀(pos:Pos) (pins:List (Addr×Obj)) (s:Shared) (σ:St) (H:Hp) (Q:List V→Hp→Prop),Inv X pins σ H s→t σ H Q→wpAny (model X.prog X.w) X.A (spliced (backTo pos (starEach es X.env))) (AP X pins σ Q) X.xe s
def PS (X:Cx) (st:Stmt) (t:TS):Prop:=
  ∀(pins:List (Addr×Obj)) (s:Shared) (σ:St) (H:Hp) (D:Ends),Inv X pins σ H s→t D σ H→wpAny (model X.prog X.w) X.A (exec st X.env) (SP X pins D) X.xe s
def PSs (X:Cx) (st:List Stmt) (t:TS):Prop:=
  ∀(pins:List (Addr×Obj)) (s:Shared) (σ:St) (H:Hp) (D:Ends),Inv X pins σ H s→t D σ H→wpAny (model X.prog X.w) X.A (execs st X.env) (SP X pins D) X.xe s
theorem d_ {α:Type} {t:Sem α} {Q Q':α→Shared→Prop} {M:Model} {A:Around} {E:Value→Shared→Prop} {s:Shared} (h:wpAny M A t Q E s) (hQ:∀a s,Q a s→Q' a s):wpAny M A t Q' E s:=wpAny_mono h hQ fun _ _ x=>x
end L2
namespace L2
open PySem PySem.Spec PyProof.Rows
section
variable {X:Cx}
def Bu (i:Nat):TE:=fun σ H Q=>∃v,σ[i]? =some (some v)∧Q v H
def tC (v:V):TE:=fun _ H Q=>Q v H
theorem nv {i:Nat} {x:Str} {pos:Pos} (hN:X.N[i]? =some x) (hv:zZ X.env.scope x) (hd:(x == ("__debug__":Str))=false:=by decide) (hcd:(x == ("__classdict__":Str))=false:=by decide):PE X (.Name x pos) (Bu i):=by
  intro pins s σ H Q I h
  obtain ⟨v,e,h⟩:=h
  obtain ⟨m,hn,hl⟩:=I.loc
  obtain ⟨u,r,l⟩:=hl i x v hN e hv
  have fin:EP X pins σ Q u s:=⟨v,H,I,r,h⟩
  rcases l with ⟨hk,hm⟩ | ⟨hk,c,hc,hcell⟩
  · exact wpAny_Name (wpAny_loadName_local I.ok.kind hk hn hm fin) hd
  · rcases hk with hk | hk
    · exact wpAny_Name (wpAny_loadName_cell I.ok.kind hk hc hcell fin) hd
    · exact wpAny_Name (wpAny_loadName_free I.ok.kind hk hc hcell fin hcd) hd
theorem yu {i j pos}:PE X (.Constant (.int i) j pos) (tC (.int i)):=fun _ _ _ H _ I h=>wpAny_Constant_int ⟨.int i,H,I.tok _,⟨_,rfl⟩,h⟩
theorem Ac {b j pos}:PE X (.Constant (.bool b) j pos) (tC (.bl b)):=fun _ _ _ H _ I h=>Constant_bool ⟨.bl b,H,I,rfl,h⟩
theorem uM {x j pos}:PE X (.Constant (.str x) j pos) (tC (.str x)):=fun _ _ _ H _ I h=>Calls.Constant_str ⟨.str x,H,I.tok _,⟨_,rfl⟩,h⟩
def Gl (X:Cx) (x:Str):Prop:=X.env.kindOf x=some .globalImplicit
theorem nw {E:Value→Shared→Prop} {pins:List (Addr×Obj)} {s:Shared} {σ:St} {H:Hp} {x:Str} {u:Value} {pos:Pos} {Q:Value→Shared→Prop} (I:Inv X pins σ H s) (hg:Gl X x) (hm:X.mg x=some u) (h:Q u s)
    (hd:(x == ("__debug__":Str))=false:=by decide):wpAny (model X.prog X.w) X.A (eval (.Name x pos) X.env) Q E s:=
  Calls.Name_function_global I.ok.kind hg (Calls.loadGlobal_global (by rw [I.ok.glob];exact I.mod.glob.keeps I.bk) hm h) hd
theorem iq {E:Value→Shared→Prop} {pins:List (Addr×Obj)} {s:Shared} {σ:St} {H:Hp} {x:Str} {u:Value} {pos:Pos} {Q:Value→Shared→Prop} (I:Inv X pins σ H s) (hg:Gl X x) (hm:X.mg x=none) (hv:bootBuiltins x=some u) (h:Q u s)
    (hn:x≠"__name__":=by decide) (hd:(x == ("__debug__":Str))=false:=by decide):wpAny (model X.prog X.w) X.A (eval (.Name x pos) X.env) Q E s:=by
  obtain ⟨mb,h1,h2⟩:=I.mod.blt
  exact Calls.Name_function_global I.ok.kind hg (Calls.loadGlobal_builtin (by rw [I.ok.glob];exact I.mod.glob.keeps I.bk) hm (by rw [I.ok.blt];exact h1.keeps I.bk) ((h2 x hn).trans hv) h) hd
theorem rS {x:Str} {v:V} {u:Value} {pos:Pos} (hg:Gl X x) (hm:X.mg x=some u) (r:RelV v u) (hd:(x == ("__debug__":Str))=false:=by decide):PE X (.Name x pos) (tC v):=
  fun _ _ _ H _ I h=>nw I hg hm ⟨v,H,I,r,h⟩ hd
theorem wu {x:Str} {v:V} {u:Value} {pos:Pos} (hg:Gl X x) (hm:X.mg x=none) (hv:bootBuiltins x=some u) (r:RelV v u) (hn:x≠"__name__":=by decide) (hd:(x == ("__debug__":Str))=false:=by decide):PE X (.Name x pos) (tC v):=
  fun _ _ _ H _ I h=>iq I hg hm hv ⟨v,H,I,r,h⟩ hn hd
variable {a b:Expr} {ta tb:TE} {pos:Pos}
variable {tA tB':TT} {bv:List Expr}
def Bv (t u:TT):TT:=fun σ H Q=>t σ H fun c H1=>if c=true then u σ H1 Q else Q false H1
def Cn (t u:TT):TT:=fun σ H Q=>t σ H fun c H1=>if c=true then Q true H1 else u σ H1 Q
def Bw (t:TT):TT:=fun σ H Q=>t σ H fun c H1=>Q (!c) H1
theorem wv (ha:PT X a tA):PW X (.BoolOp .And [a] pos) tA:=by
  intro wh pins s σ H Q I h
  refine isTrue_and (d_ (ha pins s σ H Q I h) fun c s1 e=>?_)
  cases c with
  | true=>exact isTrue_and_nil e
  | false=>exact e
theorem yw (ha:PT X a tA):PW X (.BoolOp .Or [a] pos) tA:=by
  intro wh pins s σ H Q I h
  refine isTrue_or (d_ (ha pins s σ H Q I h) fun c s1 e=>?_)
  cases c with
  | false=>exact isTrue_or_nil e
  | true=>exact e
theorem yx (ha:PT X a tA) (hb:PW X (.BoolOp .And (b::bv) pos) tB'):PW X (.BoolOp .And (a::b::bv) pos) (Bv tA tB'):=by
  intro wh pins s σ H Q I h
  refine isTrue_and (d_ (ha pins s σ H _ I h) fun c s1 ⟨H1,I1,q1⟩=>?_)
  cases c with
  | true=>exact hb wh pins s1 σ H1 Q I1 q1
  | false=>exact ⟨H1,I1,q1⟩
theorem Ad (ha:PT X a tA) (hb:PW X (.BoolOp .Or (b::bv) pos) tB'):PW X (.BoolOp .Or (a::b::bv) pos) (Cn tA tB'):=by
  intro wh pins s σ H Q I h
  refine isTrue_or (d_ (ha pins s σ H _ I h) fun c s1 ⟨H1,I1,q1⟩=>?_)
  cases c with
  | true=>exact ⟨H1,I1,q1⟩
  | false=>exact hb wh pins s1 σ H1 Q I1 q1
theorem yy (ha:PT X a tA):PT X (.UnaryOp .Not a pos) (Bw tA):=by
  intro pins s σ H Q I h
  exact isTrue_not (ha pins s σ H (fun c H1=>Q (!c) H1) I h)
def Ae (ta tb:TE):TE:=fun σ H Q=>ta σ H fun x H1=>∃c,x= .bl c∧if c=true then tb σ H1 Q else Q (.bl false) H1
theorem yz {op} {t:TE} (h:PE X a t):PE X (.BoolOp op [a] pos) t:=fun pins s σ H Q I hw=>BoolOp_one (h pins s σ H Q I hw)
theorem yA (ha:PE X a ta) (hb:PE X (.BoolOp .And (b::bv) pos) tb):PE X (.BoolOp .And (a::b::bv) pos) (Ae ta tb):=by
  intro pins s σ H Q I h
  refine BoolOp_and (d_ (ha pins s σ H _ I h) fun v s1 ⟨x,H1,I1,r1,q1⟩=>?_)
  obtain ⟨c,rfl,q1⟩:=q1
  cases r1
  refine wpAny_truthy_bool ?_
  cases c with
  | true=>exact hb pins s1 σ H1 Q I1 q1
  | false=>exact ⟨.bl false,H1,I1,rfl,q1⟩
end
end L2
namespace L2
open PySem PySem.Spec PyProof.Rows
def SqL (K:PySem.W.Frag) (H:Hp) (a:Addr) (xs:List V):Prop:=
  Rd H a (.lst xs)∨
    ∃(o:Obj) (its:Array Value) (n:Nat),K.lookup a=some o∧o.cls= .type "list"∧o.dict=none∧o.data= .seq its n∧its.size≤sizeLine∧Vals xs its.toList
def SqT (K:PySem.W.Frag) (H:Hp) (a:Addr) (xs:List V):Prop:=
  Rd H a (.tup xs)∨
    ∃(o:Obj) (its:Array Value) (n:Nat),K.lookup a=some o∧o.cls= .type "tuple"∧o.data= .seq its n∧its.size≤sizeLine∧Vals xs its.toList
def Bx:Value→Option V
  | .none=>some .non
  | .bool b=>some (.bl b)
  | .int i _=>some (.int i)
  | .str x _=>some (.str x)
  | .bytes b _=>some (.byt b)
  | .float b _=>some (.flt b)
  | .ref a=>some (.ref a)
  | .type n=>some (.ty n)
  | _=>none
theorem RelV.abs {x:V} {u:Value} (r:RelV x u):Bx u=some x:=by
  cases x with
  | non=>cases r;rfl
  | bl _=>cases r;rfl
  | int _=>obtain ⟨t,rfl⟩:=r;rfl
  | str _=>obtain ⟨t,rfl⟩:=r;rfl
  | byt _=>obtain ⟨t,rfl⟩:=r;rfl
  | flt _=>obtain ⟨t,rfl⟩:=r;rfl
  | ref _=>cases r;rfl
  | ty _=>cases r;rfl
theorem RelV.inj {x y:V} {u:Value} (r:RelV x u) (q:RelV y u):x=y:=Option.some.inj (r.abs.symm.trans q.abs)
theorem Vals.inj {xs ys:List V} {us:List Value} (h:Vals xs us) (k:Vals ys us):xs=ys:=by
  induction h generalizing ys with
  | nil=>cases k;rfl
  | cons r _ ih=>cases k with | cons r' t'=>rw [r.inj r',ih t']
section
variable {X:Cx} {pins:List (Addr×Obj)} {σ:St} {H:Hp} {s:Shared} {a:Addr} {xs ys:List V}
theorem SqL.of {K:PySem.W.Frag} (h:H a=some (.lst xs)):SqL K H a xs:= .inl (.inl h)
theorem SqT.of {K:PySem.W.Frag} (h:H a=some (.tup xs)):SqT K H a xs:= .inl (.inl h)
theorem Inv.list (I:Inv X pins σ H s) (h:SqL X.K H a xs):∃its:List Value,Vals xs its∧PlainL s.heap a its.toArray∧xs.length≤sizeLine:=by
  rcases h with h | ⟨o,its,n,hk,hc,hd,hs,hz,r⟩
  · obtain ⟨z,its,n,r,e⟩:=h.ok I.hok
    exact ⟨its,r,⟨_,n,e,rfl,rfl,rfl⟩,z⟩
  · refine ⟨its.toList,r,⟨o,n,I.kIn a o hk,hc,hd,by simpa using hs⟩,?_⟩
    have e:=r.length
    simp only [Array.length_toList] at e
    lia
theorem Inv.tuple (I:Inv X pins σ H s) (h:SqT X.K H a xs):∃its:List Value,Vals xs its∧IsTup s.heap a its.toArray∧xs.length≤sizeLine:=by
  rcases h with h | ⟨o,its,n,hk,hc,hs,hz,r⟩
  · obtain ⟨z,its,r,p⟩:=h.ok I.hok
    exact ⟨its,r,p,z⟩
  · refine ⟨its.toList,r,⟨o,I.kIn a o hk,hc,n,by simpa using hs⟩,?_⟩
    have e:=r.length
    simp only [Array.length_toList] at e
    lia
theorem Inv.list_inj (I:Inv X pins σ H s) (h:SqL X.K H a xs) (h':SqL X.K H a ys):xs=ys:=by
  obtain ⟨its,r,⟨o,n,e,_,_,d⟩,_⟩:=I.list h
  obtain ⟨its',r',⟨o',n',e',_,_,d'⟩,_⟩:=I.list h'
  rw [e] at e';cases e'
  rw [d] at d'
  injection d' with d1 _
  have:its=its':=by simpa using congrArg Array.toList d1
  subst this
  exact r.inj r'
theorem Inv.tuple_inj (I:Inv X pins σ H s) (h:SqT X.K H a xs) (h':SqT X.K H a ys):xs=ys:=by
  obtain ⟨its,r,⟨o,e,_,n,d⟩,_⟩:=I.tuple h
  obtain ⟨its',r',⟨o',e',_,n',d'⟩,_⟩:=I.tuple h'
  rw [e] at e';cases e'
  rw [d] at d'
  injection d' with d1 _
  have:its=its':=by simpa using congrArg Array.toList d1
  subst this
  exact r.inj r'
end
abbrev Cx.wish (X:Cx) (E:Value→Shared→Prop):Cx:={X with xe:=E}
abbrev Cx.nox (X:Cx):Cx:=X.wish fun _ _=>False
theorem Cx.Ok.wish {X:Cx} (ok:X.Ok) (E:Value→Shared→Prop):(X.wish E).Ok:=
  ⟨ok.mod,ok.kind,ok.glob,ok.blt,ok.above,ok.inj,ok.has,ok.cab,ok.hd,ok.frames,ok.stk,ok.exf,ok.bs,ok.bsz,ok.noex,ok.exfs,ok.funs,ok.frf,ok.tab⟩
theorem Cx.Ok.unwish {X:Cx} {E:Value→Shared→Prop} (ok:(X.wish E).Ok):X.Ok:=
  ⟨ok.mod,ok.kind,ok.glob,ok.blt,ok.above,ok.inj,ok.has,ok.cab,ok.hd,ok.frames,ok.stk,ok.exf,ok.bs,ok.bsz,ok.noex,ok.exfs,ok.funs,ok.frf,ok.tab⟩
section
variable {X:Cx} {pins:List (Addr×Obj)} {σ:St} {H:Hp} {s:Shared} {E:Value→Shared→Prop}
theorem Inv.wish (I:Inv X pins σ H s) (E:Value→Shared→Prop):Inv (X.wish E) pins σ H s:=⟨I.ok.wish E,I.os,I.bare,I.base,I.loc,I.cell,I.free,I.freeC,I.pin,I.hok,I.len⟩
theorem Inv.unwish (I:Inv (X.wish E) pins σ H s):Inv X pins σ H s:=⟨I.ok.unwish,I.os,I.bare,I.base,I.loc,I.cell,I.free,I.freeC,I.pin,I.hok,I.len⟩
theorem SP.unwish {D:Ends} {f:Flow} {s':Shared} (h:SP (X.wish E) pins D f s'):SP X pins D f s':=by
  cases f with
  | next=>obtain ⟨σ',H',I,q⟩:=h;exact ⟨σ',H',I.unwish,q⟩
  | brk=>obtain ⟨σ',H',I,q⟩:=h;exact ⟨σ',H',I.unwish,q⟩
  | cont=>obtain ⟨σ',H',I,q⟩:=h;exact ⟨σ',H',I.unwish,q⟩
  | ret u=>obtain ⟨v,σ',H',I,r,q⟩:=h;exact ⟨v,σ',H',I.unwish,r,q⟩
theorem PSs.nox {st:List Stmt} {t:TS} (h:PSs X.nox st t):PSs X st t:=fun pins s σ H D I hw=>
  wpAny_mono (h pins s σ H D (I.wish _) hw) (fun _ _ q=>q.unwish) fun _ _ z=>False.elim z
end
section
variable {X:Cx} {st:Stmt} {bv:List Stmt} {t u:TS} {e:Expr} {te:TE} {pos:Pos}
def Af:TS:=fun D σ H=>D.nx σ H
def By (t u:TS):TS:=fun D σ H=>t {D with nx:=u D} σ H
theorem ww:PSs X [] Af:=fun _ _ σ H _ I h=>wpAny_execs_nil ⟨σ,H,I,h⟩
theorem uN (h1:PS X st t) (h2:PSs X bv u):PSs X (st::bv) (By t u):=by
  intro pins s σ H D I h
  refine wpAny_execs_cons (d_ (h1 pins s σ H {D with nx:=u D} I h) fun f s1 q=>?_)
  cases f with
  | next=>
    obtain ⟨σ',H',I',q⟩:=q
    exact h2 pins s1 σ' H' D I' q
  | ret v=>exact q
  | brk=>exact q
  | cont=>exact q
theorem wx (h1:PS X st t):PSs X [st] t:=by
  intro pins s σ H D I h
  refine wpAny_execs_cons (d_ (h1 pins s σ H D I h) fun f s1 q=>?_)
  cases f with
  | next=>exact wpAny_execs_nil q
  | ret v=>exact q
  | brk=>exact q
  | cont=>exact q
theorem Inv.quiet {pins:List (Addr×Obj)} {σ:St} {H:Hp} {s:Shared} (I:Inv X pins σ H s):interactive X.env=false:=by simp [interactive,I.ok.kind]
def Ag (te:TE):TS:=fun D σ H=>te σ H fun _ H1=>D.nx σ H1
theorem wz (he:PE X e te) (hs:swapsWith e none pos.line X.env=pure false:=by rfl):PS X (.Expr e pos) (Ag te):=by
  intro pins s σ H D I h
  exact wpAny_Expr_any (d_ (he pins s σ H _ I h) fun v s1 ⟨x,H1,I1,r1,q1⟩=>⟨σ,H1,I1,q1⟩) I.quiet hs
def Bz (te:TE):TS:=fun D σ H=>te σ H D.rt
theorem yB (he:PE X e te):PS X (.Return (some e) pos) (Bz te):=by
  intro pins s σ H D I h
  exact wpAny_Return_some (d_ (he pins s σ H _ I h) fun v s1 ⟨x,H1,I1,r1,q1⟩=>⟨x,σ,H1,I1,r1,q1⟩)
def BA (c:TT) (t u:TS):TS:=fun D σ H=>c σ H fun b H1=>if b=true then t D σ H1 else u D σ H1
theorem Ah {c:Expr} {a b:List Stmt} {tc:TT} (hc:PT X c tc) (ha:PSs X a t) (hb:PSs X b u):PS X (.If c a b pos) (BA tc t u):=by
  intro pins s σ H D I h
  refine wpAny_If (d_ (hc pins s σ H _ I h) fun d s1 ⟨H1,I1,q1⟩=>?_)
  cases d with
  | true=>exact ha pins s1 σ H1 D I1 q1
  | false=>exact hb pins s1 σ H1 D I1 q1
def yC:TS:=fun _ _ _=>False
theorem uO:PS X st yC:=fun _ _ _ _ _ _ h=>h.elim
end
abbrev TG:=V→St→Hp→(St→Hp→Prop)→Prop
abbrev wA:=List V→St→Hp→(St→Hp→Prop)→Prop
def PG (X:Cx) (target:Expr) (t:TG):Prop:=
  ∀(pins:List (Addr×Obj)) (s:Shared) (σ:St) (H:Hp) (v:V) (u:Value) (Q:St→Hp→Prop),Inv X pins σ H s→RelV v u→t v σ H Q→
    wpAny (model X.prog X.w) X.A (assign target X.env u) (fun _ s'=>∃σ' H',Inv X pins σ' H' s'∧Q σ' H') X.xe s
def yD (X:Cx) (ts:List Expr) (t:wA):Prop:=
  ∀(pins:List (Addr×Obj)) (s:Shared) (σ:St) (H:Hp) (vs:List V) (us:List Value) (Q:St→Hp→Prop),Inv X pins σ H s→Vals vs us→t vs σ H Q→
    wpAny (model X.prog X.w) X.A (assignInOrder ((assignEach ts X.env).map (·.2)) us) (fun _ s'=>∃σ' H',Inv X pins σ' H' s'∧Q σ' H') X.xe s
section
variable {X:Cx} {pos:Pos}
def uP (i:Nat):TG:=fun v σ H Q=>Q (σ.set i (some v)) H
theorem rT {i:Nat} {x:Str} (hN:X.N.Nodup) (hi:X.N[i]? =some x) (hx:yt X.env.scope x) (hf:X.fn x=true∨X.env.scope.names.lookup x=some .local:=by first | exact .inl rfl | exact .inr rfl | assumption):PG X (.Name x pos) (uP i):=by
  intro pins s σ H v u Q I r h
  exact wpAny_assign_Name (oU I hN hi hx r (fun s' I'=>⟨_,H,I',h⟩) hf)
def BB:wA:=fun vs σ H Q=>vs=[]∧Q σ H
def Ai (t:TG) (u:wA):wA:=fun vs σ H Q=>∃v r,vs=v::r∧t v σ H fun σ' H'=>u r σ' H' Q
theorem wB:yD X [] BB:=by
  intro pins s σ H vs us Q I r h
  obtain ⟨e,h⟩:=h
  subst e
  cases r
  exact assignInOrder_nil ⟨σ,H,I,h⟩
theorem uQ {e:Expr} {es:List Expr} {t:TG} {u:wA} (h1:PG X e t) (h2:yD X es u)
    (hs:(assignEach (e::es) X.env).map (·.2)=assign e X.env::(assignEach es X.env).map (·.2):=by rfl):yD X (e::es) (Ai t u):=by
  intro pins s σ H vs us Q I r h
  obtain ⟨v,vr,e1,h⟩:=h
  subst e1
  cases r with
  | cons r rr=>
    rw [hs]
    refine assignInOrder_cons (d_ (h1 pins s σ H _ _ _ I r h) fun _ s1 ⟨σ1,H1,I1,q1⟩=>?_)
    exact h2 pins s1 σ1 H1 _ _ Q I1 rr q1
def BC (K:PySem.W.Frag) (n:Nat) (t:wA):TG:=fun v σ H Q=>∃a xs,v= .ref a∧SqT K H a xs∧xs.length=n∧t xs σ H Q
theorem yE {es:List Expr} {k:Nat} {t:wA} {n:Nat} (hc:X.calm=true) (h:yD X es t)
    (hn:(assignEach es X.env).length=n:=by rfl) (hst:(assignEach es X.env).findIdx? (·.1)=none:=by rfl):PG X (.Tuple es k pos) (BC X.K n t):=by
  intro pins s σ H v u Q I r hw
  obtain ⟨a,xs,e1,hq,hl,hw⟩:=hw
  subst e1
  cases r
  obtain ⟨its,rv,ht,hz⟩:=I.tuple hq
  refine assign_Tuple_tuple (I.ok.hd hc) ht (by simp [hn,←hl,rv.length]) hst fun h' hx=>?_
  have I1:Inv X pins σ H {s with heap:=h'}:=I.kept (t':=s.toks) fun b o e=>hx b o (Nat.ne_of_lt (Heap.lt_size e)) e
  exact h pins _ σ H xs _ Q I1 (by simpa using rv) hw
def Aj (te:TE) (g:TG):TS:=fun D σ H=>te σ H fun x H1=>g x σ H1 D.nx
theorem yF {i:Nat} {x:Str} {e:Expr} {te:TE} {pos':Pos} (hN:X.N.Nodup) (hi:X.N[i]? =some x) (hx:yt X.env.scope x) (he:PE X e te) (hs:swapsWith e (some (.Name x pos')) pos.line X.env=pure false:=by rfl) (hf:X.fn x=true∨X.env.scope.names.lookup x=some .local:=by first | exact .inl rfl | exact .inr rfl | assumption):
    PS X (.Assign [.Name x pos'] e pos) (Aj te (uP i)):=by
  intro pins s σ H D I h
  refine wpAny_Assign_Name (d_ (he pins s σ H _ I h) fun v s1 ⟨y,H1,I1,r1,q1⟩=>?_) hs
  exact oU I1 hN hi hx r1 (fun s2 I2=>⟨_,H1,I2,q1⟩) hf
end
structure It where
  go:Nat→Hp→Prop
  yld:Nat→Hp→V→Hp→Prop
  stop:Nat→Hp→Prop
def md (X:Cx) (pins:List (Addr×Obj)) (H:Hp) (b:Addr):Prop:=
  H b=none∧b≠X.env.locals∧b∉X.fs∧(b∈X.ex∨X.s₀.heap.objs.size≤b)∧(∀x c,X.env.cells.lookup x=some c→c≠b)∧∀p∈X.pn++pins,p.1≠b
theorem Inv.fpOk {X:Cx} {pins:List (Addr×Obj)} {σ:St} {H H':Hp} {s:Shared} {b:Addr} (I:Inv X pins σ H s) (hb:s.heap.objs.size≤b) (hn:H' b=none):md X pins H' b:=by
  refine ⟨hn,Nat.ne_of_gt (Nat.lt_of_lt_of_le I.lt hb),I.nofs hb, .inr (Nat.le_trans I.sz hb),fun x c e z=>?_,fun p hp z=>?_⟩
  · obtain ⟨v,q⟩:=I.cell x c e
    exact absurd (Nat.lt_of_lt_of_le q.lt (by rw [z];exact hb)) (Nat.lt_irrefl _)
  · exact absurd (Nat.lt_of_lt_of_le (Heap.lt_size (I.pin p hp).1) (by rw [z];exact hb)) (Nat.lt_irrefl _)
structure Turn (P:Program) (w:World) (K:PySem.W.Frag) (tg:Expr) (J:It) (fp:List Addr) (it:Addr) (tn:Nat→Heap→Prop):Prop where
  mem:it∈fp
  obj:∀i h,tn i h→∀b∈fp,∃o,h.get? b=some o∧∀v,o.data≠ .cell v
  keep:∀i h h',tn i h→(∀b∈fp,∀o,h.get? b=some o→h'.get? b=some o)→tn i h'
  item:∀(X:Cx),X.prog=P→X.w=w→X.K=K→X.calm=true→∀(i:Nat) (pins:List (Addr×Obj)) (s:Shared) (σ:St) (H:Hp) (E:Value→Shared→Prop),Inv X pins σ H s→(∀b∈fp,md X pins H b)→tn i s.heap→J.go i H→
    wpAny (model P w) X.A (pyNext (.ref it)) (fun r s1=>∃u,r=some u∧
      wpAny (model P w) X.A (letOwnedTupleGo tg (.ref it) u) (fun _ s2=>∃x H',Inv X pins σ H' s2∧RelV x u∧J.yld i H x H'∧tn (i+1) s2.heap∧∀b∈fp,H' b=none) E s1) E s
  done:∀(X:Cx),X.prog=P→X.w=w→X.K=K→X.calm=true→∀(i:Nat) (pins:List (Addr×Obj)) (s:Shared) (σ:St) (H:Hp) (E:Value→Shared→Prop),Inv X pins σ H s→(∀b∈fp,md X pins H b)→tn i s.heap→J.stop i H→
    wpAny (model P w) X.A (pyNext (.ref it)) (fun r s1=>r=none∧Inv X pins σ H s1) E s
  self:∀(A:Around) (i:Nat) (s:Shared) (Q:Value→Shared→Prop) (E:Value→Shared→Prop),tn i s.heap→Q (.ref it) s→wpAny (model P w) A (pyIter (.ref it)) Q E s
abbrev TI:=St→Hp→(It→Hp→Prop)→Prop
def Cf (X:Cx) (pins:List (Addr×Obj)) (σ:St) (tg:Expr) (R:It→Hp→Prop) (itv:Value) (s2:Shared):Prop:=
  ∃(it:Addr) (fp:List Addr) (tn:Nat→Heap→Prop) (J:It) (H':Hp),itv= .ref it∧Inv X pins σ H' s2∧Turn X.prog X.w X.K tg J fp it tn∧tn 0 s2.heap∧(∀b∈fp,md X pins H' b)∧R J H'
def PI (X:Cx) (tg iter:Expr) (wi:TI):Prop:=
  ∀(pins:List (Addr×Obj)) (s:Shared) (σ:St) (H:Hp) (R:It→Hp→Prop),Inv X pins σ H s→wi σ H R→
    wpAny (model X.prog X.w) X.A (eval iter X.env) (fun v s1=>wpAny (model X.prog X.w) X.A (pyIter v) (Cf X pins σ tg R) X.xe s1) X.xe s
theorem rV {M:Model} {A:Around} {E:Value→Shared→Prop} {s:Shared} {tg:Expr} {it:Addr} {u:Value} {o:Obj} {n:String} {vs:Array Value} {Q:Unit→Shared→Prop} (ho:s.heap.get? it=some o) (hc:o.cls= .type n) (hd:o.data= .fields vs)
    (hn:["enumerate","zip","dict_itemiterator","dict_reverseitemiterator","odict_iterator","itertools.zip_longest","itertools.pairwise"].contains n=false) (hQ:Q () s):wpAny M A (letOwnedTupleGo tg (.ref it) u) Q E s:=by
  unfold letOwnedTupleGo
  cases tg <;> first
    | exact wpAny_pure hQ
    | (cases u <;> first
        | exact wpAny_pure hQ
        | (refine wpAny_bind (wpAny_load ho ?_)
           rw [hc,hd]
           show wpAny M A (if (["enumerate","zip","dict_itemiterator","dict_reverseitemiterator","odict_iterator","itertools.zip_longest","itertools.pairwise"].contains n&&vs[0]? == some (rawInt _))=true then _ else _) Q E s
           rw [if_neg (by intro h;rw [hn,Bool.false_and] at h;cases h)]
           exact wpAny_pure hQ))
def BD (K:PySem.W.Frag) (a:Addr):It:=
  ⟨fun i H=>∃xs x,SqL K H a xs∧xs[i]? =some x,fun i H x H'=>H'=H∧∀xs,SqL K H a xs→xs[i]? =some x,fun i H=>∃xs,SqL K H a xs∧xs.length≤i⟩
def BE (K:PySem.W.Frag) (a:Addr):It:=
  ⟨fun i H=>∃xs x,SqT K H a xs∧xs[i]? =some x,fun i H x H'=>H'=H∧∀xs,SqT K H a xs→xs[i]? =some x,fun i H=>∃xs,SqT K H a xs∧xs.length≤i⟩
def Ak (lo:Int) (n:Nat):It:=⟨fun i _=>i < n,fun i H x H'=>H'=H∧x= .int (lo+i),fun i _=>n≤i⟩
theorem tm {P:Program} {w:World} {K:PySem.W.Frag} {tg:Expr} (a it:Addr):Turn P w K tg (BD K a) [it] it (fun i h=>h.IsListIter it a i) where
  mem:=by simp
  obj:=fun i h st b hb=>by
    have e:b=it:=by simpa using hb
    subst e
    obtain ⟨o,e,c,d⟩:=st
    exact ⟨o,e,fun v z=>by rw [d] at z;cases z⟩
  keep:=fun i h h' st k=>st.at fun o e=>k it (by simp) o e
  item:=by
    intro X hP hw hK hc i pins s σ H E I hf st hg
    subst hP hw hK
    obtain ⟨xs,x,hq,hx⟩:=hg
    obtain ⟨its,rv,p,hz⟩:=I.list hq
    obtain ⟨u,hu,ru⟩:=rv.get hx
    obtain ⟨f0,f1,f2,f3,f4,f5⟩:=hf it (by simp)
    refine wpAny_pyNext_list_item st p.isList (x:=u) (by simpa using hu) fun h' st' sb=>?_
    have I1:Inv X pins σ H {s with heap:=h'}:=I.turned (t':=s.toks) (fun b o hb e=>(sb.2 b hb).trans e) f0 f1 f3 f4 f5
    obtain ⟨o,e,c,d⟩:=id st'
    exact ⟨u,rfl,rV (s:={s with heap:=h'}) e c d (by decide) ⟨x,H,I1,ru,⟨rfl,fun ys hy=>by rw [I.list_inj hy hq];exact hx⟩,st',fun b hb=>(hf b hb).1⟩⟩
  done:=by
    intro X hP hw hK hc i pins s σ H E I hf st hg
    subst hP hw hK
    obtain ⟨xs,hq,hx⟩:=hg
    obtain ⟨its,rv,p,hz⟩:=I.list hq
    obtain ⟨f0,f1,f2,f3,f4,f5⟩:=hf it (by simp)
    have hl:=rv.length
    exact wpAny_pyNext_list_end (I.ok.hd hc) st p.isList (by simp;lia) fun h' eb=>⟨rfl,I.turned (t':=s.toks) (fun b o hb e=>eb b o hb e) f0 f1 f3 f4 f5⟩
  self:=fun _ _ _ _ _ st h=>wpAny_pyIter_listiter st h
theorem qB {P:Program} {w:World} {K:PySem.W.Frag} {tg:Expr} (a it:Addr):Turn P w K tg (BE K a) [it] it (fun i h=>h.IsTupleIter it a i) where
  mem:=by simp
  obj:=fun i h st b hb=>by
    have e:b=it:=by simpa using hb
    subst e
    obtain ⟨o,e,c,d⟩:=st
    exact ⟨o,e,fun v z=>by rw [d] at z;cases z⟩
  keep:=fun i h h' st k=>st.at fun o e=>k it (by simp) o e
  item:=by
    intro X hP hw hK hc i pins s σ H E I hf st hg
    subst hP hw hK
    obtain ⟨xs,x,hq,hx⟩:=hg
    obtain ⟨its,rv,p,hz⟩:=I.tuple hq
    obtain ⟨u,hu,ru⟩:=rv.get hx
    obtain ⟨f0,f1,f2,f3,f4,f5⟩:=hf it (by simp)
    refine wpAny_pyNext_tuple_item st (show s.heap.IsTuple a its.toArray from p) (x:=u) (by simpa using hu) fun h' st' sb=>?_
    have I1:Inv X pins σ H {s with heap:=h'}:=I.turned (t':=s.toks) (fun b o hb e=>(sb.2 b hb).trans e) f0 f1 f3 f4 f5
    obtain ⟨o,e,c,d⟩:=id st'
    exact ⟨u,rfl,rV (s:={s with heap:=h'}) e c d (by decide) ⟨x,H,I1,ru,⟨rfl,fun ys hy=>by rw [I.tuple_inj hy hq];exact hx⟩,st',fun b hb=>(hf b hb).1⟩⟩
  done:=by
    intro X hP hw hK hc i pins s σ H E I hf st hg
    subst hP hw hK
    obtain ⟨xs,hq,hx⟩:=hg
    obtain ⟨its,rv,p,hz⟩:=I.tuple hq
    obtain ⟨f0,f1,f2,f3,f4,f5⟩:=hf it (by simp)
    have hl:=rv.length
    exact wpAny_pyNext_tuple_end (I.ok.hd hc) st (show s.heap.IsTuple a its.toArray from p) (by simp;lia) fun h' eb=>⟨rfl,I.turned (t':=s.toks) (fun b o hb e=>eb b o hb e) f0 f1 f3 f4 f5⟩
  self:=fun _ _ _ _ _ st h=>wpAny_pyIter_tupleiter st h
theorem qC {P:Program} {w:World} {K:PySem.W.Frag} {tg:Expr} (it:Addr) (lo:Int) (n:Nat):Turn P w K tg (Ak lo n) [it] it (fun i h=>IsRangeIter h it (lo+(i:Nat)*1) ((n:Int) - (i:Nat)) 1) where
  mem:=by simp
  obj:=fun i h st b hb=>by
    have e:b=it:=by simpa using hb
    subst e
    exact ⟨_,st,fun v z=>by
      have z':Data.fields _=Data.cell v:=z
      cases z'⟩
  keep:=fun i h h' st k=>k it (by simp) _ st
  item:=by
    intro X hP hw hK hc i pins s σ H E I hf st hg
    subst hP hw hK
    obtain ⟨f0,f1,f2,f3,f4,f5⟩:=hf it (by simp)
    have W:=Walks.range (prog:=X.prog) (w:=X.w) (I.ok.hd hc) it lo 1 n
    refine W.item i s _ _ hg st fun v h' tk hv st' kk=>?_
    obtain ⟨t,rfl⟩:=hv
    have I1:Inv X pins σ H {s with heap:=h',toks:=tk}:=I.turned (fun b o hb e=>kk b o (by simpa using hb) e) f0 f1 f3 f4 f5
    refine ⟨_,rfl,rV (s:={s with heap:=h',toks:=tk}) (n:="range_iterator") st' rfl rfl (by decide) ⟨.int (lo+i),H,I1,⟨t,?_⟩,⟨rfl,rfl⟩,st',fun b hb=>(hf b hb).1⟩⟩
    rw [Int.mul_one]
  done:=by
    intro X hP hw hK hc i pins s σ H E I hf st hg
    subst hP hw hK
    obtain ⟨f0,f1,f2,f3,f4,f5⟩:=hf it (by simp)
    exact wpAny_pyNext_range_end (I.ok.hd hc) st (by have:n≤i:=hg;lia) fun h' eb=>⟨rfl,I.turned (t':=s.toks) (fun b o hb e=>eb b o hb e) f0 f1 f3 f4 f5⟩
  self:=fun _ _ _ _ _ st h=>wpAny_pyIter_rangeiter st h
end L2
namespace L2
open PySem PySem.Spec PyProof.Rows
section
variable {X:Cx} {tg:Expr}
def Al (K:PySem.W.Frag) (tl:TE):TI:=fun σ H R=>tl σ H fun x H1=>∃a,x= .ref a∧(∃xs,SqL K H1 a xs)∧R (BD K a) H1
def BF (K:PySem.W.Frag) (tl:TE):TI:=fun σ H R=>tl σ H fun x H1=>∃a,x= .ref a∧(∃xs,SqT K H1 a xs)∧R (BE K a) H1
theorem rW {l:Expr} {tl:TE} (hl:PE X l tl):PI X tg l (Al X.K tl):=by
  intro pins s σ H R I h
  refine d_ (hl pins s σ H _ I h) fun v s1 ⟨x,H1,I1,r1,q1⟩=>?_
  obtain ⟨a,e,⟨xs,hq⟩,q⟩:=q1
  subst e
  cases r1
  obtain ⟨its,rv,p,hz⟩:=I1.list hq
  refine wpAny_pyIter_list p.isList ?_
  refine ⟨s1.heap.objs.size,[s1.heap.objs.size],_,_,H1,rfl,I1.kept (t':=s1.toks) fun b o e=>Heap.get?_push_of_some _ e,tm a _,⟨_,Heap.get?_push_size _ rfl,rfl,rfl⟩,fun b hb=>?_,q⟩
  have e:b=s1.heap.objs.size:=by simpa using hb
  subst e
  exact I1.fpOk (Nat.le_refl _) (I1.hok.fresh (Nat.le_refl _))
theorem yG {l:Expr} {tl:TE} (hl:PE X l tl):PI X tg l (BF X.K tl):=by
  intro pins s σ H R I h
  refine d_ (hl pins s σ H _ I h) fun v s1 ⟨x,H1,I1,r1,q1⟩=>?_
  obtain ⟨a,e,⟨xs,hq⟩,q⟩:=q1
  subst e
  cases r1
  obtain ⟨its,rv,p,hz⟩:=I1.tuple hq
  refine wpAny_pyIter_tuple (show s1.heap.IsTuple a its.toArray from p) ?_
  refine ⟨s1.heap.objs.size,[s1.heap.objs.size],_,_,H1,rfl,I1.kept (t':=s1.toks) fun b o e=>Heap.get?_push_of_some _ e,qB a _,⟨_,Heap.get?_push_size _ rfl,rfl,rfl⟩,fun b hb=>?_,q⟩
  have e:b=s1.heap.objs.size:=by simpa using hb
  subst e
  exact I1.fpOk (Nat.le_refl _) (I1.hok.fresh (Nat.le_refl _))
theorem oV {pins:List (Addr×Obj)} {σ:St} {H:Hp} {s:Shared} {R:It→Hp→Prop} {E:Value→Shared→Prop} {lo hi:Int} {t u v:Tok} {tk:Nat} (I:Inv X pins σ H s) (h1: -(2 ^ 62)≤lo) (h2:lo < 2 ^ 62) (h3: -(2 ^ 62)≤hi) (h4:hi < 2 ^ 62)
    (q:R (Ak lo (hi - lo).toNat) H):wpAny (model X.prog X.w) X.A (pyIter (.ref s.heap.objs.size)) (Cf X pins σ tg R) E {s with heap:=s.heap.push {cls:= .type "range",data:= .fields #[.int lo t, .int hi u, .int 1 v]},toks:=tk}:=by
  refine wpAny_pyIter_range (IsRange.new ..) (small_one h1 h2 h3 h4) ?_
  have I1:Inv X pins σ H {s with heap:=s.heap.push {cls:= .type "range",data:= .fields #[.int lo t, .int hi u, .int 1 v]},toks:=tk}:=I.kept fun b o e=>Heap.get?_push_of_some _ e
  refine ⟨(s.heap.push {cls:= .type "range",data:= .fields #[.int lo t, .int hi u, .int 1 v]}).objs.size,[(s.heap.push {cls:= .type "range",data:= .fields #[.int lo t, .int hi u, .int 1 v]}).objs.size],_,_,H,rfl,
    I1.kept (t':=tk) fun b o e=>Heap.get?_push_of_some _ e,qC _ lo (hi - lo).toNat,?_,fun b hb=>?_,q⟩
  · have e1:lo+((0:Nat):Int)*1=lo:=by simp
    have e2:(((hi - lo).toNat:Nat):Int) - ((0:Nat):Int)=Builtin.Range.rangeSize lo hi 1:=by rw [rangeSize_one];split <;> (first | omega | lia)
    show IsRangeIter _ _ (lo+((0:Nat):Int)*1) ((((hi - lo).toNat:Nat):Int) - ((0:Nat):Int)) 1
    rw [e1,e2]
    exact Heap.get?_push_size _ rfl
  · have e:b=(s.heap.push {cls:= .type "range",data:= .fields #[.int lo t, .int hi u, .int 1 v]}).objs.size:=by simpa using hb
    subst e
    exact I1.fpOk (Nat.le_refl _) (I1.hok.fresh (Nat.le_refl _))
def Am (ta:TA):TI:=fun σ H R=>ta σ H fun vs H1=>∃j:Int,vs=[.int j]∧ -(2 ^ 62)≤j∧j < 2 ^ 62∧R (Ak 0 j.toNat) H1
def An (ta:TA):TI:=fun σ H R=>ta σ H fun vs H1=>∃i j:Int,vs=[.int i, .int j]∧(-(2 ^ 62)≤i∧i < 2 ^ 62∧ -(2 ^ 62)≤j∧j < 2 ^ 62)∧R (Ak i (j - i).toNat) H1
theorem tu {a:Expr} {ta:TA} {p pos:Pos} (hg:Gl X "range") (hm:X.mg "range"=none) (ha:PA X [a] ta) (hs:starEach [a] X.env=[(false,eval a X.env)]:=by rfl):PI X tg (.Call (.Name "range" p) [a] [] pos) (Am ta):=by
  intro pins s σ H R I h
  refine Call_ (iq I hg hm boot_range (PyProof.Rows.callWith_type1 (d_ (ha pos pins s σ H _ I h) fun us s1 ⟨vs,H1,I1,r1,q1⟩=>?_) hs rfl))
  obtain ⟨j,e,q1,q2,q⟩:=q1
  subst e
  cases r1 with
  | cons r rr=>
    cases rr
    obtain ⟨t,rfl⟩:=r
    exact call_range_1 (oV I1 (by (solve_by_elim (maxDepth:=2) only [*,Nat.le_trans,Nat.lt_of_lt_of_le,Nat.lt_of_le_of_lt,Nat.le_of_lt])) (by (solve_by_elim (maxDepth:=2) only [*,Nat.le_trans,Nat.lt_of_lt_of_le,Nat.lt_of_le_of_lt,Nat.le_of_lt])) q1 q2 (by simpa using q))
theorem tv {a b:Expr} {ta:TA} {p pos:Pos} (hg:Gl X "range") (hm:X.mg "range"=none) (ha:PA X [a,b] ta) (hs:starEach [a,b] X.env=[(false,eval a X.env),(false,eval b X.env)]:=by rfl) (hs2:starEach [b] X.env=[(false,eval b X.env)]:=by rfl):
    PI X tg (.Call (.Name "range" p) [a,b] [] pos) (An ta):=by
  intro pins s σ H R I h
  refine Call_ (iq I hg hm boot_range (PyProof.Rows.callWith_type1 (d_ (ha pos pins s σ H _ I h) fun us s1 ⟨vs,H1,I1,r1,q1⟩=>?_) (by rw [hs,hs2]) (by rw [hs2];rfl)))
  obtain ⟨i,j,e,⟨q1,q2,q3,q4⟩,q⟩:=q1
  subst e
  cases r1 with
  | cons r rr=>
    cases rr with
    | cons r' rr=>
      cases rr
      obtain ⟨t,rfl⟩:=r
      obtain ⟨t',rfl⟩:=r'
      exact call_range_2 (oV I1 q1 q2 q3 q4 q)
def BG (wi:TI) (g:TG) (tb:TS):TS:=fun D σ H=>wi σ H fun J H1=>∃W:Nat→Nat→St→Hp→Prop,(∃m,W 0 m σ H1)∧∀i m σ H,W i m σ H→
  (J.stop i H∧D.nx σ H)∨(J.go i H∧∃N:St→Hp→Prop,(∀σ' H',N σ' H'→∃m',m' < m∧W (i+1) m' σ' H')∧∀x H',J.yld i H x H'→g x σ H' fun σ2 H2=>tb {D with nx:=N,ct:=N,bk:=D.nx} σ2 H2)
def kW (fp:List Addr) (h:Heap):List (Addr×Obj):=fp.filterMap fun b=>(h.get? b).map fun o=>(b,o)
theorem hM {fp:List Addr} {h:Heap} {b:Addr} {o:Obj} (hb:b∈fp) (e:h.get? b=some o):(b,o)∈kW fp h:=List.mem_filterMap.mpr ⟨b,hb,by rw [e];rfl⟩
theorem tw {fp:List Addr} {h:Heap} {p:Addr×Obj} (hp:p∈kW fp h):p.1∈fp∧h.get? p.1=some p.2:=by
  obtain ⟨b,hb,e⟩:=List.mem_filterMap.mp hp
  cases q:h.get? b with
  | none=>rw [q] at e;cases e
  | some o=>
    rw [q] at e
    have e':(b,o)=p:=Option.some.inj e
    subst e'
    exact ⟨hb,q⟩
theorem Inv.pinned {pins:List (Addr×Obj)} {σ:St} {H:Hp} {s:Shared} {fp:List Addr} (I:Inv X pins σ H s) (hf:∀b∈fp,md X pins H b) (ho:∀b∈fp,∃o,s.heap.get? b=some o∧∀v,o.data≠ .cell v):Inv X (pins++kW fp s.heap) σ H s:=
  I.pins_of fun p hp=>(List.mem_append.mp hp).elim (fun z=>I.pin p (List.mem_append_right _ z)) fun z=>by
    obtain ⟨hb,e⟩:=tw z
    obtain ⟨f0,f1,f2,_⟩:=hf p.1 hb
    obtain ⟨o,e',d⟩:=ho p.1 hb
    rw [e] at e';cases e'
    exact ⟨e,f0,f1,f2,d⟩
theorem Inv.unpinned {pins pl:List (Addr×Obj)} {σ:St} {H:Hp} {s:Shared} (I:Inv X (pins++pl) σ H s):Inv X pins σ H s:=I.pins_of fun p hp=>I.pin p (List.mem_append_right _ (List.mem_append_left _ hp))
theorem yH {iter:Expr} {body:List Stmt} {wi:TI} {g:TG} {tb:TS} {pos:Pos} (hp:PassesOwn (model X.prog X.w) X.A X.env X.xe) (hc:X.calm=true) (hi:PI X tg iter wi) (hg:PG X tg g) (hb:PSs X body tb)
    (hs:∀x,foldedSetIterable iter X.env x=pure x:=by intro _;rfl):PS X (.For tg iter body [] pos) (BG wi g tb):=by
  intro pins s σ H D I h
  refine wpAny_For (d_ (hi pins s σ H _ I h) fun v s1 h1=>d_ h1 fun itv s2 h2=>?_) hs
  obtain ⟨it,fp,tn,J,H2,e,I2,T,st2,f2,W,⟨m0,w0⟩,turn⟩:=h2
  subst e
  -- what stays true of the iterator's objects through the loop
  have stat:∀{H':Hp},(∀b∈fp,H' b=none)→∀b∈fp,md X pins H' b:=fun hn b hb=>⟨hn b hb,(f2 b hb).2⟩
  refine codeAny_forLoop_any (fun n s'=>∃i σ' H',Inv X pins σ' H' s'∧tn i s'.heap∧(∀b∈fp,H' b=none)∧W i n σ' H') ?_ m0 ⟨0,σ,H2,I2,st2,fun b hb=>(f2 b hb).1,w0⟩
  rintro n s3 ⟨i,σ3,H3,I3,st3,fr3,w3⟩
  rcases turn i n σ3 H3 w3 with ⟨stop,qn⟩ | ⟨go,N,hN,step⟩
  · refine wpAny_passesOwn hp (d_ (T.done X rfl rfl rfl hc i pins s3 σ3 H3 X.xe I3 (stat fr3) st3 stop) fun r s4 ⟨hr,I4⟩=>?_)
    subst hr
    exact wpAny_execs_nil ⟨σ3,H3,I4,qn⟩
  · refine wpAny_passesOwn hp (d_ (T.item X rfl rfl rfl hc i pins s3 σ3 H3 X.xe I3 (stat fr3) st3 go) fun r s4 ⟨u,hr,h4⟩=>?_)
    subst hr
    refine wpAny_passesOwn hp (d_ h4 fun _ s5 ⟨x,H5,I5,r5,y5,st5,fr5⟩=>?_)
    have I5':=I5.pinned (stat fr5) (T.obj _ _ st5)
    refine wpAny_passesOwn hp (d_ (hg _ s5 σ3 H5 x u _ I5' r5 (step x H5 y5)) fun _ s6 ⟨σ6,H6,I6,q6⟩=>?_)
    refine wpAny_passesOwn hp (d_ (hb _ s6 σ6 H6 _ I6 q6) fun f s7 q7=>?_)
    have again:∀{σ7:St} {H7:Hp},Inv X (pins++kW fp s5.heap) σ7 H7 s7→N σ7 H7→∃m,m < n∧∃i σ' H',Inv X pins σ' H' s7∧tn i s7.heap∧(∀b∈fp,H' b=none)∧W i m σ' H':=fun {σ7 H7} I7 n7=>by
      obtain ⟨m',hm,w7⟩:=hN σ7 H7 n7
      refine ⟨m',hm,i+1,σ7,H7,I7.unpinned,T.keep _ _ _ st5 fun b hb o e=>(I7.pin (b,o) (List.mem_append_right _ (List.mem_append_right _ (hM hb e)))).1,fun b hb=>?_,w7⟩
      obtain ⟨o,e,d⟩:=T.obj _ _ st5 b hb
      exact (I7.pin (b,o) (List.mem_append_right _ (List.mem_append_right _ (hM hb e)))).2.1
    cases f with
    | next=>obtain ⟨σ7,H7,I7,n7⟩:=q7;exact again I7 n7
    | cont=>obtain ⟨σ7,H7,I7,n7⟩:=q7;exact again I7 n7
    | brk=>obtain ⟨σ7,H7,I7,q7⟩:=q7;exact ⟨σ7,H7,I7.unpinned,q7⟩
    | ret v=>obtain ⟨x7,σ7,H7,I7,r7,q7⟩:=q7;exact ⟨x7,σ7,H7,I7.unpinned,r7,q7⟩
end
end L2
namespace L2
open PySem PySem.Spec PyProof.Rows
abbrev R2:=V→V→Hp→VK→Prop
def OpR (X:Cx) (f:Value→Value→Sem Value) (r:R2):Prop:=
  ∀(pins:List (Addr×Obj)) (s:Shared) (σ:St) (H:Hp) (x y:V) (v u:Value) (Q:VK),Inv X pins σ H s→RelV x v→RelV y u→r x y H Q→
    wpAny (model X.prog X.w) X.A (f v u) (EP X pins σ Q) X.xe s
def BH (X:Cx) (f:Value→Sem Value) (r:V→Hp→VK→Prop):Prop:=
  ∀(pins:List (Addr×Obj)) (s:Shared) (σ:St) (H:Hp) (x:V) (v:Value) (Q:VK),Inv X pins σ H s→RelV x v→r x H Q→
    wpAny (model X.prog X.w) X.A (f v) (EP X pins σ Q) X.xe s
def CallR (X:Cx) (f:Value) (r:List V→Hp→VK→Prop):Prop:=
  ∀(pins:List (Addr×Obj)) (s:Shared) (σ:St) (H:Hp) (xs:List V) (us:List Value) (Q:VK),Inv X pins σ H s→Vals xs us→r xs H Q→
    wpAny (model X.prog X.w) X.A (call f us) (EP X pins σ Q) X.xe s
def BI (X:Cx) (r:V→Hp→(Bool→Hp→Prop)→Prop):Prop:=
  ∀(pins:List (Addr×Obj)) (s:Shared) (σ:St) (H:Hp) (x:V) (v:Value) (Q:Bool→Hp→Prop),Inv X pins σ H s→RelV x v→r x H Q→
    wpAny (model X.prog X.w) X.A (truthy v) (TP X pins σ Q) X.xe s
def Ao (r:R2) (ta tb:TE):TE:=fun σ H Q=>ta σ H fun x H1=>tb σ H1 fun y H2=>r x y H2 Q
def Co (r:V→Hp→VK→Prop) (ta:TE):TE:=fun σ H Q=>ta σ H fun x H1=>r x H1 Q
def rI (C:Int→Int→Prop) (g:Int→Int→V):R2:=fun x y H Q=>∃i j,x= .int i∧y= .int j∧C i j∧Q (g i j) H
def wC (g:Int→Int→V):R2:=fun x y H Q=>∃i j,x= .int i∧y= .int j∧Q (g i j) H
def rU (g:Int→V):V→Hp→VK→Prop:=fun x H Q=>∃i,x= .int i∧Q (g i) H
section
variable {X:Cx} {a b c:Expr} {ta tb tc:TE} {pos:Pos}
theorem yI (ha:PE X a ta) (hb:PE X b tb) {pins:List (Addr×Obj)} {s:Shared} {σ:St} {H:Hp} {R:V→V→Hp→Prop} (I:Inv X pins σ H s)
    (h:ta σ H fun x H1=>tb σ H1 fun y H2=>R x y H2) {Q:Value→Shared→Prop} {f:Value→Value→Sem Value}
    (hf:∀v u s2 x y H2,Inv X pins σ H2 s2→RelV x v→RelV y u→R x y H2→wpAny (model X.prog X.w) X.A (f v u) Q X.xe s2):
    wpAny (model X.prog X.w) X.A (eval a X.env) (fun v s₁=>wpAny (model X.prog X.w) X.A (eval b X.env) (fun u s₂=>wpAny (model X.prog X.w) X.A (f v u) Q X.xe s₂) X.xe s₁) X.xe s:=by
  refine d_ (ha pins s σ H _ I h) fun v s1 ⟨x,H1,I1,r1,q1⟩=>?_
  refine d_ (hb pins s1 σ H1 _ I1 q1) fun u s2 ⟨y,H2,I2,r2,q2⟩=>?_
  exact hf v u s2 x y H2 I2 r1 r2 q2
theorem Ap {op:Operator} {r:R2} (ho:OpR X (binaryOp op) r) (ha:PE X a ta) (hb:PE X b tb):PE X (.BinOp a op b pos) (Ao r ta tb):=by
  intro pins s σ H Q I h
  exact wpAny_BinOp (yI ha hb I h fun v u s2 x y H2 I2 rx ry q=>ho pins s2 σ H2 x y v u Q I2 rx ry q)
theorem Aq {op:UnaryOp} {r:V→Hp→VK→Prop} (ho:BH X (unaryOp op) r) (ha:PE X a ta):PE X (.UnaryOp op a pos) (Co r ta):=by
  intro pins s σ H Q I h
  exact UnaryOp_ (d_ (ha pins s σ H _ I h) fun v s1 ⟨x,H1,I1,r1,q1⟩=>ho pins s1 σ H1 x v Q I1 r1 q1)
theorem Bp {f:Value→Value→Sem Value} {C:Int→Int→Prop} {g:Int→Int→Int}
    (rule:∀(i j:Int) (t u:Tok) (s:Shared) (Q:Value→Shared→Prop) (E:Value→Shared→Prop),C i j→Q (.int (g i j) s.toks) {s with toks:=s.toks+1}→wpAny (model X.prog X.w) X.A (f (.int i t) (.int j u)) Q E s):
    OpR X f (rI C fun i j=> .int (g i j)):=by
  intro pins s σ H x y v u Q I rx ry h
  obtain ⟨i,j,rfl,rfl,hc,q⟩:=h
  obtain ⟨t,rfl⟩:=rx
  obtain ⟨t',rfl⟩:=ry
  exact rule i j t t' s _ _ hc ⟨.int (g i j),H,I.tok _,⟨_,rfl⟩,q⟩
theorem yJ {f:Value→Value→Sem Value} {g:Int→Int→Int}
    (rule:∀(i j:Int) (t u:Tok) (s:Shared) (Q:Value→Shared→Prop) (E:Value→Shared→Prop),Q (.int (g i j) s.toks) {s with toks:=s.toks+1}→wpAny (model X.prog X.w) X.A (f (.int i t) (.int j u)) Q E s):
    OpR X f (wC fun i j=> .int (g i j)):=by
  intro pins s σ H x y v u Q I rx ry h
  obtain ⟨i,j,rfl,rfl,q⟩:=h
  obtain ⟨t,rfl⟩:=rx
  obtain ⟨t',rfl⟩:=ry
  exact rule i j t t' s _ _ ⟨.int (g i j),H,I.tok _,⟨_,rfl⟩,q⟩
theorem wD {f:Value→Value→Sem Value} {g:Int→Int→Bool}
    (rule:∀(i j:Int) (t u:Tok) (s:Shared) (Q:Value→Shared→Prop) (E:Value→Shared→Prop),Q (.bool (g i j)) s→wpAny (model X.prog X.w) X.A (f (.int i t) (.int j u)) Q E s):
    OpR X f (wC fun i j=> .bl (g i j)):=by
  intro pins s σ H x y v u Q I rx ry h
  obtain ⟨i,j,rfl,rfl,q⟩:=h
  obtain ⟨t,rfl⟩:=rx
  obtain ⟨t',rfl⟩:=ry
  exact rule i j t t' s _ _ ⟨.bl (g i j),H,I,rfl,q⟩
def Ar (i j:Int):Prop:=0≤j∧j≤1000000∧i.natAbs < 2 ^ 64
def CMul (i j:Int):Prop:=(-(2 ^ 64) < i∧i < 2 ^ 64)∨(-(2 ^ 64) < j∧j < 2 ^ 64)
theorem CMul.ok {i j:Int} (h:CMul i j):IntMulOk i j:=by
  rcases h with ⟨h1,h2⟩ | ⟨h1,h2⟩
  · exact .of_left (intBits_le_64 h1 h2)
  · exact .of_right (intBits_le_64 h1 h2)
theorem yK:OpR X (binaryOp .Add) (wC fun i j=> .int (i+j)):=yJ fun _ _ _ _ _ _ _ q=>add_int q
theorem yL:OpR X (binaryOp .Sub) (wC fun i j=> .int (i - j)):=yJ fun _ _ _ _ _ _ _ q=>sub_int q
theorem yM:OpR X (binaryOp .Mod) (rI (fun _ j=>0 < j) fun i j=> .int (i % j)):=Bp fun i j _ _ _ _ _ hc q=>by
  have h1:(0:Int) < j:=hc
  exact mod_int' (by lia) (by rw [Int.fmod_eq_emod_of_nonneg i (by lia)];exact q)
theorem yN:OpR X (binaryOp .Pow) (rI Ar fun i j=> .int (i ^ j.toNat)):=Bp fun _ _ _ _ _ _ _ hc q=>pow_int_small hc.1 hc.2.1 hc.2.2 q
theorem yO:OpR X (binaryOp .BitAnd) (wC fun i j=> .int (Builtin.bitAnd i j)):=yJ fun _ _ _ _ _ _ _ q=>and_int q
theorem Cp {f:Value→Sem Value} {g:Int→Int}
    (rule:∀(i:Int) (t:Tok) (s:Shared) (Q:Value→Shared→Prop) (E:Value→Shared→Prop),Q (.int (g i) s.toks) {s with toks:=s.toks+1}→wpAny (model X.prog X.w) X.A (f (.int i t)) Q E s):
    BH X f (rU fun i=> .int (g i)):=by
  intro pins s σ H x v Q I rx h
  obtain ⟨i,rfl,q⟩:=h
  obtain ⟨t,rfl⟩:=rx
  exact rule i t s _ _ ⟨.int (g i),H,I.tok _,⟨_,rfl⟩,q⟩
theorem yP:BH X (unaryOp .USub) (rU fun i=> .int (-i)):=Cp fun _ _ _ _ _ q=>neg_int q
end
def yQ:V→V→Bool
  | .non, .non=>true | .non, .int _=>true | .int _, .non=>true | .non, .bl _=>true | .bl _, .non=>true | .non, .str _=>true | .str _, .non=>true
  | .int _, .int _=>true | .bl _, .bl _=>true | .str _, .str _=>true | .byt _, .byt _=>true
  | .int _, .str _=>true | .str _, .int _=>true | .bl _, .str _=>true | .str _, .bl _=>true
  | _,_=>false
def Cg:R2:=fun x y H Q=>yQ x y=true∧Q (.bl (decide (x=y))) H
def Ci:R2:=fun x y H Q=>yQ x y=true∧Q (.bl (!decide (x=y))) H
theorem rX {i j:Int}:decide (V.int i=V.int j)=(i == j):=by
  rw [Bool.eq_iff_iff]
  simp
theorem uR {i j:Bool}:decide (V.bl i=V.bl j)=(i == j):=by
  rw [Bool.eq_iff_iff]
  simp
theorem rY {i j:Str}:decide (V.str i=V.str j)=(i == j):=by
  rw [Bool.eq_iff_iff]
  simp
theorem rZ {i j:Array UInt8}:decide (V.byt i=V.byt j)=(i.toList == j.toList):=by
  rw [Bool.eq_iff_iff]
  cases i
  cases j
  simp
section
variable {X:Cx} {a b c:Expr} {ta tb tc:TE} {pos:Pos}
theorem aU {pins:List (Addr×Obj)} {σ:St} {H:Hp} {s:Shared} {Q:VK} {k k':Bool} (I:Inv X pins σ H s) (q:Q (.bl k) H) (e:k=k'):EP X pins σ Q (.bool k') s:=by
  subst e
  exact ⟨.bl k,H,I,rfl,q⟩
theorem xV:OpR X (compareOp .Eq) Cg:=by
  intro pins s σ H x y v u Q I rx ry h
  obtain ⟨hs,q⟩:=h
  cases x with
  | non=>
    cases rx
    cases y with
    | non=>cases ry;exact PySem.EqNone.eq_none_none (aU I q (by simp))
    | bl j=>cases ry;exact PySem.EqNone.eq_none_bool (aU I q (by simp))
    | int j=>obtain ⟨t',rfl⟩:=ry;exact PySem.EqNone.eq_none_int (aU I q (by simp))
    | str j=>obtain ⟨t',rfl⟩:=ry;exact PySem.EqNone.eq_none_str (aU I q (by simp))
    | _=>exact absurd (show false=true from hs) Bool.false_ne_true
  | bl i=>
    cases rx
    cases y with
    | non=>cases ry;exact PySem.EqNone.eq_bool_none (aU I q (by simp))
    | bl j=>cases ry;exact eq_bool (aU I q uR)
    | str j=>obtain ⟨t',rfl⟩:=ry;exact PySem.EqMixed.eq_bool_str (aU I q (by simp))
    | _=>exact absurd (show false=true from hs) Bool.false_ne_true
  | int i=>
    obtain ⟨t,rfl⟩:=rx
    cases y with
    | non=>cases ry;exact PySem.EqNone.eq_int_none (aU I q (by simp))
    | int j=>obtain ⟨t',rfl⟩:=ry;exact eq_int (aU I q rX)
    | str j=>obtain ⟨t',rfl⟩:=ry;exact PySem.EqMixed.eq_int_str (aU I q (by simp))
    | _=>exact absurd (show false=true from hs) Bool.false_ne_true
  | str i=>
    obtain ⟨t,rfl⟩:=rx
    cases y with
    | non=>cases ry;exact PySem.EqNone.eq_str_none (aU I q (by simp))
    | bl j=>cases ry;exact PySem.EqMixed.eq_str_bool (aU I q (by simp))
    | int j=>obtain ⟨t',rfl⟩:=ry;exact PySem.EqMixed.eq_str_int (aU I q (by simp))
    | str j=>obtain ⟨t',rfl⟩:=ry;exact eq_str (aU I q rY)
    | _=>exact absurd (show false=true from hs) Bool.false_ne_true
  | byt i=>
    obtain ⟨t,rfl⟩:=rx
    cases y with
    | byt j=>obtain ⟨t',rfl⟩:=ry;exact PySem.W.eq_bytes (aU I q rZ)
    | _=>exact absurd (show false=true from hs) Bool.false_ne_true
  | _=>cases y <;> exact absurd (show false=true from hs) Bool.false_ne_true
theorem As:OpR X (compareOp .NotEq) Ci:=by
  intro pins s σ H x y v u Q I rx ry h
  obtain ⟨hs,q⟩:=h
  cases x with
  | non=>
    cases rx
    cases y with
    | non=>cases ry;exact PySem.EqNone.ne_none_none (aU I q (by simp))
    | bl j=>cases ry;exact PySem.EqNone.ne_none_bool (aU I q (by simp))
    | int j=>obtain ⟨t',rfl⟩:=ry;exact PySem.EqNone.ne_none_int (aU I q (by simp))
    | str j=>obtain ⟨t',rfl⟩:=ry;exact PySem.EqNone.ne_none_str (aU I q (by simp))
    | _=>exact absurd (show false=true from hs) Bool.false_ne_true
  | bl i=>
    cases rx
    cases y with
    | non=>cases ry;exact PySem.EqNone.ne_bool_none (aU I q (by simp))
    | bl j=>cases ry;exact ne_bool (aU I q (congrArg not uR))
    | str j=>obtain ⟨t',rfl⟩:=ry;exact PySem.EqMixed.ne_bool_str (aU I q (by simp))
    | _=>exact absurd (show false=true from hs) Bool.false_ne_true
  | int i=>
    obtain ⟨t,rfl⟩:=rx
    cases y with
    | non=>cases ry;exact PySem.EqNone.ne_int_none (aU I q (by simp))
    | int j=>obtain ⟨t',rfl⟩:=ry;exact ne_int (aU I q (congrArg not rX))
    | str j=>obtain ⟨t',rfl⟩:=ry;exact PySem.EqMixed.ne_int_str (aU I q (by simp))
    | _=>exact absurd (show false=true from hs) Bool.false_ne_true
  | str i=>
    obtain ⟨t,rfl⟩:=rx
    cases y with
    | non=>cases ry;exact PySem.EqNone.ne_str_none (aU I q (by simp))
    | bl j=>cases ry;exact PySem.EqMixed.ne_str_bool (aU I q (by simp))
    | int j=>obtain ⟨t',rfl⟩:=ry;exact PySem.EqMixed.ne_str_int (aU I q (by simp))
    | str j=>obtain ⟨t',rfl⟩:=ry;exact ne_str (aU I q (congrArg not rY))
    | _=>exact absurd (show false=true from hs) Bool.false_ne_true
  | byt i=>
    obtain ⟨t,rfl⟩:=rx
    cases y with
    | byt j=>obtain ⟨t',rfl⟩:=ry;exact PySem.W.ne_bytes (aU I q (congrArg not rZ))
    | _=>exact absurd (show false=true from hs) Bool.false_ne_true
  | _=>cases y <;> exact absurd (show false=true from hs) Bool.false_ne_true
theorem At:OpR X (compareOp .Lt) (wC fun i j=> .bl (decide (i < j))):=wD fun _ _ _ _ _ _ _ q=>lt_int q
theorem Au:OpR X (compareOp .LtE) (wC fun i j=> .bl (decide (i≤j))):=wD fun _ _ _ _ _ _ _ q=>le_int q
theorem Av:OpR X (compareOp .Gt) (wC fun i j=> .bl (decide (j < i))):=wD fun _ _ _ _ _ _ _ q=>gt_int q
theorem Aw:OpR X (compareOp .GtE) (wC fun i j=> .bl (decide (j≤i))):=wD fun _ _ _ _ _ _ _ q=>ge_int q
theorem tz:OpR X (compareOp .Lt) (fun x y H Q=>∃i j,x= .str i∧y= .str j∧Q (.bl (decide (i.cps.toList < j.cps.toList))) H):=by
  intro pins s σ H x y v u Q I rx ry h
  obtain ⟨i,j,rfl,rfl,q⟩:=h
  obtain ⟨t,rfl⟩:=rx
  obtain ⟨t',rfl⟩:=ry
  exact lt_str (aU I q rfl)
theorem tB:OpR X (compareOp .In) (fun x y H Q=>∃i j,x= .str i∧y= .str j∧Q (.bl (!(Builtin.Str.occurrences j i 0 j.length 1).isEmpty)) H):=by
  intro pins s σ H x y v u Q I rx ry h
  obtain ⟨i,j,rfl,rfl,q⟩:=h
  obtain ⟨t,rfl⟩:=rx
  obtain ⟨t',rfl⟩:=ry
  exact in_str (aU I q rfl)
theorem OpR.or {f:Value→Value→Sem Value} {r r':R2} (h:OpR X f r) (h':OpR X f r'):OpR X f (fun x y H Q=>r x y H Q∨r' x y H Q):=by
  intro pins s σ H x y v u Q I rx ry q
  rcases q with q | q
  · exact h pins s σ H x y v u Q I rx ry q
  · exact h' pins s σ H x y v u Q I rx ry q
theorem ny (b:Expr) {op:CmpOp} (h:op≠ .In:=by decide) (h2:op≠ .NotIn:=by decide):behindInMarks op b=false:=by
  have e1:(op == CmpOp.In)=false:=by cases op <;> first | rfl | exact absurd rfl h
  have e2:(op == CmpOp.NotIn)=false:=by cases op <;> first | rfl | exact absurd rfl h2
  cases b <;> simp [behindInMarks,e1,e2]
theorem wE {op:CmpOp} {r:R2} (ho:OpR X (compareOp op) r) (ha:PE X a ta) (hb:PE X b tb) (hm:behindInMarks op b=false):PE X (.Compare a [op] [b] pos) (Ao r ta tb):=by
  intro pins s σ H Q I h
  exact wpAny_Compare1 (yI ha hb I h fun v u s2 x y H2 I2 rx ry q=>ho pins s2 σ H2 x y v u Q I2 rx ry q) hm
def xW (t:TE):TT:=fun σ H Q=>t σ H fun x H'=>∃k,x= .bl k∧Q k H'
theorem wF {op:CmpOp} {r:R2} (ho:OpR X (compareOp op) r) (ha:PE X a ta) (hb:PE X b tb) (hm:behindInMarks op b=false):PT X (.Compare a [op] [b] pos) (xW (Ao r ta tb)):=by
  intro pins s σ H Q I h
  refine wpAny_isTrue_Compare1 (d_ (ha pins s σ H _ I h) fun v s1 ⟨x,H1,I1,r1,q1⟩=>d_ (hb pins s1 σ H1 _ I1 q1) fun u s2 ⟨y,H2,I2,r2,q2⟩=>
    d_ (ho pins s2 σ H2 x y v u _ I2 r1 r2 q2) fun c s3 ⟨z,H3,I3,r3,k,e,q3⟩=>?_) hm
  subst e
  cases r3
  exact wpAny_truthy_bool ⟨H3,I3,q3⟩
def qD (r r':R2) (ta tb tc:TE):TE:=fun σ H Q=>ta σ H fun x H1=>tb σ H1 fun y H2=>r x y H2 fun z H3=>∃k,z= .bl k∧
  (if k=true then tc σ H3 fun w' H4=>r' y w' H4 Q else Q (.bl false) H3)
theorem uS {op op':CmpOp} {r r':R2} (ho:OpR X (compareOp op) r) (ho':OpR X (compareOp op') r') (ha:PE X a ta) (hb:PE X b tb) (hc:PE X c tc)
    (hm:lastMarks [op,op'] [b,c]=false:=by with_unfolding_all rfl):PE X (.Compare a [op,op'] [b,c] pos) (qD r r' ta tb tc):=by
  intro pins s σ H Q I h
  refine Compare_chain (d_ (ha pins s σ H _ I h) fun v s1 ⟨x,H1,I1,r1,q1⟩=>chain_link (d_ (hb pins s1 σ H1 _ I1 q1) fun u s2 ⟨y,H2,I2,r2,q2⟩=>
    d_ (ho pins s2 σ H2 x y v u _ I2 r1 r2 q2) fun d s3 ⟨z,H3,I3,r3,k,e,q3⟩=>?_)) hm
  subst e
  cases r3
  refine wpAny_truthy_bool ?_
  cases k with
  | false=>exact ite_ff ⟨.bl false,H3,I3,rfl,q3⟩
  | true=>exact ite_tt (chain_last (d_ (hc pins s3 σ H3 _ I3 q3) fun w' s4 ⟨z',H4,I4,r4,q4⟩=>ho' pins s4 σ H4 y z' u w' Q I4 r2 r4 q4))
theorem uT {op op':CmpOp} {r r':R2} (ho:OpR X (compareOp op) r) (ho':OpR X (compareOp op') r') (ha:PE X a ta) (hb:PE X b tb) (hc:PE X c tc)
    (hm:lastMarks [op,op'] [b,c]=false:=by with_unfolding_all rfl):PT X (.Compare a [op,op'] [b,c] pos) (xW (qD r r' ta tb tc)):=by
  intro pins s σ H Q I h
  refine isTrue_chain (d_ (ha pins s σ H _ I h) fun v s1 ⟨x,H1,I1,r1,q1⟩=>test_link (d_ (hb pins s1 σ H1 _ I1 q1) fun u s2 ⟨y,H2,I2,r2,q2⟩=>
    d_ (ho pins s2 σ H2 x y v u _ I2 r1 r2 q2) fun d s3 ⟨z,H3,I3,r3,k,e,q3⟩=>?_)) hm
  subst e
  cases r3
  refine wpAny_truthy_bool ?_
  cases k with
  | false=>
    obtain ⟨k',e',q'⟩:=q3
    cases e'
    exact ite_ff ⟨H3,I3,q'⟩
  | true=>
    refine ite_tt (test_last (d_ (hc pins s3 σ H3 _ I3 q3) fun w' s4 ⟨z',H4,I4,r4,q4⟩=>d_ (ho' pins s4 σ H4 y z' u w' _ I4 r2 r4 q4) fun d' s5 ⟨z2,H5,I5,r5,k2,e2,q5⟩=>?_))
    subst e2
    cases r5
    exact wpAny_truthy_bool ⟨H5,I5,q5⟩
def uU (K:PySem.W.Frag) (x:V) (H:Hp) (k:Bool):Prop:=
  match x with
  | .non=>k=false
  | .bl b=>k=b
  | .int i=>k=(i != 0)
  | .str y=>y.length≤sizeLine∧k=((y.length:Int) != 0)
  | .byt y=>y.size≤sizeLine∧k=((y.size:Int) != 0)
  | .ref p=>(∃xs,SqL K H p xs∧k= !xs.isEmpty)∨(∃xs,SqT K H p xs∧k= !xs.isEmpty)∨∃kvs,H p=some (.dK kvs)∧k= !kvs.isEmpty
  | _=>False
theorem qE {κ:Type} {kvs:List (κ×V)} {vs:List (κ×Value)} (r:KV kvs vs):(!vs.isEmpty)= !kvs.isEmpty:=by
  cases r <;> rfl
theorem kX {xs:List V} {its:List Value} (r:Vals xs its):(!its.toArray.isEmpty)= !xs.isEmpty:=by
  cases r <;> simp
theorem jR:(sizeLine:Nat) < 2 ^ 63:=by rw [sizeLine_eq];decide
theorem yR:BI X (fun x H Q=>∃k,uU X.K x H k∧Q k H):=by
  intro pins s σ H x v Q I rx h
  obtain ⟨k,e,q⟩:=h
  have hl:=jR
  have hs:sizeLine=16777216:=sizeLine_eq
  cases x with
  | non=>
    cases rx
    have e':k=false:=e
    subst e'
    exact truthy_none ⟨H,I,q⟩
  | bl b=>
    cases rx
    have e':k=b:=e
    subst e'
    exact wpAny_truthy_bool ⟨H,I,q⟩
  | int i=>
    obtain ⟨t,rfl⟩:=rx
    have e':k=(i != 0):=e
    subst e'
    exact PySem.P.truthy_int ⟨H,I,q⟩
  | str y=>
    obtain ⟨t,rfl⟩:=rx
    obtain ⟨hy,e'⟩:y.length≤sizeLine∧k=((y.length:Int) != 0):=e
    subst e'
    exact PySem.P.truthy_str (by lia) ⟨H,I.tok _,q⟩
  | byt y=>
    obtain ⟨t,rfl⟩:=rx
    obtain ⟨hy,e'⟩:y.size≤sizeLine∧k=((y.size:Int) != 0):=e
    subst e'
    exact PySem.W.truthy_bytes (by lia) ⟨H,I.tok _,q⟩
  | ref p=>
    cases rx
    have e':(∃xs,SqL X.K H p xs∧k= !xs.isEmpty)∨(∃xs,SqT X.K H p xs∧k= !xs.isEmpty)∨∃kvs,H p=some (.dK kvs)∧k= !kvs.isEmpty:=e
    rcases e' with ⟨xs,hx,e'⟩ | ⟨xs,hx,e'⟩ | ⟨kvs,hx,e'⟩
    · subst e'
      obtain ⟨its,r,pl,hz⟩:=I.list hx
      have hlen:=r.length
      exact wpAny_truthy_list pl.isList (by simp only [List.size_toArray];omega) ⟨H,I.tok _,by rw [kX r];exact q⟩
    · subst e'
      obtain ⟨its,r,pl,hz⟩:=I.tuple hx
      have hlen:=r.length
      exact truthy_tuple pl (by simp only [List.size_toArray];omega) ⟨H,I.tok _,by rw [kX r];exact q⟩
    · subst e'
      obtain ⟨hz,hS,vs,r,m⟩:kvs.length≤sizeLine∧(p == sysModules)=false∧∃vs,KV kvs vs∧s.heap.DictOf (kK X.prog X.w) p vs:=I.hok p _ hx
      have hlen:kvs.length=vs.length:=Paired.length r
      exact wpAny_truthy_dict hS m (by omega) ⟨H,I.tok _,by rw [qE r];exact q⟩
  | _=>exact (show False from e).elim
theorem uV (ha:PE X a ta) (he:∀whole,isTrue a X.env whole=(do let v ←whole;standAt a.pos;holding [v] (truthy v))):
    PT X a (fun σ H Q=>ta σ H fun x H'=>∃k,uU X.K x H' k∧Q k H'):=by
  intro pins s σ H Q I h
  exact isTrue_plain (d_ (ha pins s σ H _ I h) fun v s1 ⟨x,H1,I1,r1,q1⟩=>yR pins s1 σ H1 x v Q I1 r1 q1) (he _)
theorem qF:OpR X (binaryOp .Add) (fun x y H Q=>∃i j,x= .str i∧y= .str j∧i.length+j.length≤sizeLine∧Q (.str (i++j)) H):=by
  intro pins s σ H x y v u Q I rx ry h
  obtain ⟨i,j,rfl,rfl,hz,q⟩:=h
  obtain ⟨t,rfl⟩:=rx
  obtain ⟨t',rfl⟩:=ry
  exact add_str (fun t' tk=>⟨.str (i++j),H,I.tok _,⟨_,rfl⟩,q⟩) hz
theorem oW {x:V} {us:List Value} (r:Vals [x] us):∃u,us=[u]∧RelV x u:=by
  cases r with
  | cons r1 r2=>cases r2;exact ⟨_,rfl,r1⟩
theorem tD:CallR X (.type "int") (fun xs H Q=>(∃i,xs=[.int i]∧Q (.int i) H)∨∃k,xs=[.bl k]∧Q (.int (if k then 1 else 0)) H):=by
  intro pins s σ H xs us Q I r h
  rcases h with ⟨i,rfl,q⟩ | ⟨k,rfl,q⟩
  · obtain ⟨u,rfl,t,rfl⟩:=oW r
    exact call_int_int ⟨.int i,H,I,⟨_,rfl⟩,q⟩
  · obtain ⟨u,rfl,r1⟩:=oW r
    cases r1
    exact call_int_bool ⟨.int (if k then 1 else 0),H,I.tok _,⟨_,rfl⟩,q⟩
end
end L2
namespace L2
open PySem PySem.Spec PyProof.Rows
structure ObjM (h:Heap) (x dx C:Addr) (mA:Str→Option Value):Prop where
  obj:h.get? x=some (PySem.W.instObj C dx)
  ns:h.Ns1 dx mA
  ne:dx≠x
theorem tE {h:Heap} {dx:Addr} {mA:Str→Option Value} (n:h.Ns1 dx mA):∃od,h.get? dx=some od∧∀name,PySem.W.lookIn name od=some (mA name):=by
  obtain ⟨o,es,ep,ho,hd,hk,_,hm⟩:=n
  refine ⟨o,ho,fun name=>?_⟩
  have e:=hm name
  unfold nsFind findBy at e
  rw [←Array.find?_toList] at e
  unfold PySem.W.lookIn
  rw [hd]
  dsimp only
  split
  · rename_i y q
    rw [q] at e
    exact congrArg some e
  · rename_i q
    rw [q] at e
    have a:es.toList.any (·.refKey)=false:=by
      rw [List.any_eq_false]
      intro y hy
      obtain ⟨z,t,hkey⟩:=hk y (Array.mem_toList_iff.mp hy)
      simp [DictEntry.refKey,hkey]
    have a':¬es.toList.any (·.refKey)=true:=by rw [a];exact Bool.false_ne_true
    rw [if_neg a']
    exact congrArg some e
theorem ObjM.look {h:Heap} {x dx C:Addr} {mA:Str→Option Value} (I:ObjM h x dx C mA):∃od,PySem.W.InstAt h x (PySem.W.instObj C dx) C (some od)∧∀name,PySem.W.lookIn name od=some (mA name):=
  let ⟨od,ho,hl⟩:=tE I.ns
  ⟨od,⟨I.obj,rfl,rfl,ho⟩,hl⟩
section
variable {P:Program} {w:World} {H H':Hp} {h h':Heap} {a C dx:Addr} {fs fs':List (Str×V)}
theorem wG (hok:HOk P w H h) (e:H a=some (.ins C dx fs)):∃mA,ObjM h a dx C mA∧(∀f,yr (fs.lookup f) (mA f))∧PySem.Within mA (fs.map (·.1))∧fs.length≤1000∧H dx=some (.own a):=by
  obtain ⟨d,z,ne,ob,mA,n,r,q⟩:=(show ObjOk P w H h a (.ins C dx fs) from hok a _ e)
  exact ⟨mA,⟨ob,n,ne⟩,r,q,z,d⟩
end
structure Cls (K:PySem.W.Frag) (C:Addr):Prop where
  pg:PySem.W.plainGet K C Str.empty=true
  hd:PySem.W.hasDictIn K C=true
  po:PySem.W.plainOver K C=true
  sa:PySem.W.findIn K (.ref C) "__setattr__"=some (some (.builtin "object.__setattr__"))
theorem Cls.get {K:PySem.W.Frag} {C:Addr} (c:Cls K C) (f:Str):PySem.W.plainGet K C f=true:=c.pg
section
variable {X:Cx} {pins:List (Addr×Obj)} {σ:St} {H:Hp} {s:Shared} {a C dx:Addr} {fs:List (Str×V)} {f:Str} {v:V} {A:Around} {E:Value→Shared→Prop}
end
section
variable {X:Cx} {pins:List (Addr×Obj)} {σ:St} {H:Hp} {s:Shared} {A:Around} {E:Value→Shared→Prop} {Q:Value→Shared→Prop} {c:Value} {b:Bool}
inductive TyOf (K:PySem.W.Frag) (H:Hp):V→Value→Prop where
  | non:TyOf K H .non (.type "NoneType")
  | bl (x:Bool):TyOf K H (.bl x) (.type "bool")
  | int (i:Int):TyOf K H (.int i) (.type "int")
  | str (x:Str):TyOf K H (.str x) (.type "str")
  | flt (x:UInt64):TyOf K H (.flt x) (.type "float")
  | lst {a:Addr} {xs:List V} (e:H a=some (.lst xs)):TyOf K H (.ref a) (.type "list")
  | frz {a:Addr} {o:Obj} {xs:List V} (e:H a=some (.frz o (.lst xs))):TyOf K H (.ref a) (.type "list")
  | tup {a:Addr} {xs:List V} (e:H a=some (.tup xs)):TyOf K H (.ref a) (.type "tuple")
  | dK {a:Addr} {kvs:List (ip×V)} (e:H a=some (.dK kvs)):TyOf K H (.ref a) (.type "dict")
  | dT {a:Addr} {kvs:List (List ip×V)} (e:H a=some (.dT kvs)):TyOf K H (.ref a) (.type "dict")
  | ins {a C dx:Addr} {fs:List (Str×V)} (e:H a=some (.ins C dx fs)) (cl:Cls K C) (ha:PySem.W.findIn K (.ref C) "__class__"=some (some (.builtin "object.__class__")))
      (hn:PySem.W.specialIn K (.builtin "object.__class__") "__get__"=some (some (.builtin "getset_descriptor.__get__"))) (htk:PySem.W.takesIn K (.builtin "object.__class__")=some true)
      (hm:PySem.W.mroIn K C (.type "object")=some true):TyOf K H (.ref a) (.ref C)
theorem iK {x:V} {u t:Value} (I:Inv X pins σ H s) (rx:RelV x u) (ty:TyOf X.K H x t) (e:PySem.W.kitOne X.K t c=some b) (h:∀tk,Q (.bool b) {s with toks:=tk}):
    wpAny (model X.prog X.w) A (call (.builtin "isinstance") [u,c]) Q E s:=by
  cases ty with
  | non=>cases (show u=Value.none from rx);exact PySem.W.kia_one PySem.W.kitx_none I.kIn True.intro e (fun z=>nomatch z) h
  | bl y=>cases (show u=Value.bool y from rx);exact PySem.W.kia_one PySem.W.kitx_bool I.kIn True.intro e (fun z=>nomatch z) h
  | int i=>obtain ⟨t,q⟩:=(show ∃t,u=Value.int i t from rx);cases q;exact PySem.W.kia_one PySem.W.kitx_int I.kIn True.intro e (fun z=>nomatch z) h
  | str y=>obtain ⟨t,q⟩:=(show ∃t,u=Value.str y t from rx);cases q;exact PySem.W.kia_one PySem.W.kitx_str I.kIn True.intro e (fun z=>nomatch z) h
  | flt y=>obtain ⟨t,q⟩:=(show ∃t,u=Value.float y t from rx);cases q;exact PySem.W.kia_one PySem.W.kitx_float I.kIn True.intro e (fun z=>nomatch z) h
  | @lst a xs ea=>
    cases (show u=Value.ref a from rx)
    obtain ⟨_,_,n,_,h1⟩:=(show ObjOk X.prog X.w H s.heap a (.lst xs) from I.hok a _ ea)
    exact PySem.W.kia_one PySem.W.kitx_list I.kIn ⟨_,h1,rfl⟩ e (fun z=>nomatch z) h
  | @frz a ob xs ea=>
    cases (show u=Value.ref a from rx)
    obtain ⟨_,_,_,n,_,h1⟩:=(show ObjOk X.prog X.w H s.heap a (.frz ob (.lst xs)) from I.hok a _ ea)
    exact PySem.W.kia_one PySem.W.kitx_list I.kIn ⟨_,h1,rfl⟩ e (fun z=>nomatch z) h
  | @tup a xs ea=>
    cases (show u=Value.ref a from rx)
    obtain ⟨_,_,_,p⟩:=(show ObjOk X.prog X.w H s.heap a (.tup xs) from I.hok a _ ea)
    obtain ⟨o,h1,h2,_⟩:=p
    exact PySem.W.kia_one PySem.W.kitx_tuple I.kIn ⟨o,h1,h2⟩ e (fun z=>nomatch z) h
  | @dK a kvs ea=>
    cases (show u=Value.ref a from rx)
    obtain ⟨_,_,vs,_,p⟩:=(show ObjOk X.prog X.w H s.heap a (.dK kvs) from I.hok a _ ea)
    obtain ⟨o,es,ep,h1,h2,_⟩:=p
    exact PySem.W.kia_one PySem.W.kitx_dict I.kIn ⟨o,h1,h2.1⟩ e (fun z=>nomatch z) h
  | @dT a kvs ea=>
    cases (show u=Value.ref a from rx)
    obtain ⟨_,_,xs,_,o,es,ep,h1,h2,_⟩:=(show ObjOk X.prog X.w H s.heap a (.dT kvs) from I.hok a _ ea)
    exact PySem.W.kia_one PySem.W.kitx_dict I.kIn ⟨o,h1,h2.1⟩ e (fun z=>nomatch z) h
  | @ins a C dx fs ea cl ha hn htk hm=>
    cases (show u=Value.ref a from rx)
    obtain ⟨mA,O,_⟩:=wG I.hok ea
    obtain ⟨od,J,_⟩:=O.look
    exact PySem.W.kia_one (PySem.W.kitx_own (cl.get _) cl.hd ha hn htk hm) I.kIn J e (fun z=>nomatch z) h
end
end L2
namespace L2
open PySem PySem.Spec PyProof.Rows
structure Room (k:Nat) (A:Around):Prop where
  hd:A.handled=none
  dp:A.depth+3*k+5 < recursionLimit
  un:A.units+16*k+200 < cLine
theorem Room.mono {j k:Nat} {A:Around} (r:Room k A) (h:j≤k):Room j A:=⟨r.hd,by have:=r.dp;lia,by have:=r.un;lia⟩
theorem Room.deeper {k:Nat} {A:Around} (r:Room (k+1) A) (env:Env):Room k (A.deeper env):=
  ⟨r.hd,by have:=r.dp;show A.depth+1+3*k+5 < _;lia,by have:=r.un;show A.units+3+16*k+200 < _;lia⟩
theorem Room.depth {k:Nat} {A:Around} (r:Room k A):A.depth < recursionLimit:=by have:=r.dp;lia
theorem Room.units {k:Nat} {A:Around} (r:Room k A):A.units+64 < cLine:=by have:=r.un;lia
def BJ:TA:=fun _ H Q=>Q [] H
def Ax (ta:TE) (tr:TA):TA:=fun σ H Q=>ta σ H fun x H1=>tr σ H1 fun xs H2=>Q (x::xs) H2
section
variable {X:Cx} {e:Expr} {es:List Expr} {te:TE} {t:TA} {pos:Pos}
theorem fX:PA X [] BJ:=fun _ _ _ _ H Q I h=>Calls.spliced_nil ⟨[],H,I, .nil,h⟩
theorem dE (ha:PE X e te) (hr:PA X es t) (hs:starEach (e::es) X.env=(false,eval e X.env)::starEach es X.env:=by rfl):PA X (e::es) (Ax te t):=by
  intro pos pins s σ H Q I h
  rw [hs]
  show wpAny _ _ (spliced ((false,eval e X.env)::backTo pos (starEach es X.env))) _ _ s
  refine Calls.spliced_cons (d_ (ha pins s σ H _ I h) fun u s1 ⟨x,H1,I1,r1,q1⟩=>?_)
  exact d_ (hr pos pins s1 σ H1 _ I1 q1) fun us s2 ⟨xs,H2,I2,r2,q2⟩=>⟨x::xs,H2,I2, .cons r1 r2,q2⟩
def BK (t:TA):TE:=fun σ H Q=>t σ H fun xs H1=>xs.length≤sizeLine∧∀p,H1 p=none→Q (.ref p) (dg H1 p (.tup xs))
def BL (t:TA):TE:=fun σ H Q=>t σ H fun xs H1=>xs.length≤sizeLine∧∀p,H1 p=none→Q (.ref p) (dg H1 p (.lst xs))
theorem uW {x1} (h:PA X es t):PE X (.Tuple es x1 pos) (BK t):=by
  intro pins s σ H Q I hq
  refine wpAny_Tuple_spliced (d_ (h pos pins s σ H _ I hq) fun us s1 ⟨xs,H1,I1,r,z,q⟩=>⟨by rw [←r.length];exact z,?_⟩)
  have hf:H1 s1.heap.objs.size=none:=I1.hok.fresh (Nat.le_refl _)
  refine ⟨.ref s1.heap.objs.size,dg H1 s1.heap.objs.size (.tup xs),I1.laid (t':=s1.toks) (fun b u e=>Heap.get?_push_of_some _ e) (Nat.le_refl _) ?_,rfl,q _ hf⟩
  exact ⟨z,us,r,⟨_,Heap.get?_push_size _ rfl,rfl,_,rfl⟩⟩
theorem yS (h:PA X es t):PE X (.List es pos) (BL t):=by
  intro pins s σ H Q I hq
  refine wpAny_List_spliced (d_ (h pos pins s σ H _ I hq) fun us s1 ⟨xs,H1,I1,r,z,q⟩=>⟨by rw [←r.length];exact z,?_⟩)
  have hf:H1 s1.heap.objs.size=none:=I1.hok.fresh (Nat.le_refl _)
  refine ⟨.ref s1.heap.objs.size,dg H1 s1.heap.objs.size (.lst xs),I1.laid (t':=s1.toks) (fun b u e=>Heap.get?_push_of_some _ e) (Nat.le_refl _) ?_,rfl,q _ hf⟩
  exact ⟨z,us,0,r,Heap.get?_push_size _ rfl⟩
end
abbrev Sp:=List V→Hp→VK→XK→Prop
abbrev wl:=List Env→Hp→Shared→XK→Value→Shared→Prop
structure Env0 (P:Program) (w:World) (K:PySem.W.Frag) (mg:Str→Option Value) (base:Heap) (A:Around) (outer:List Env) (s:Shared) (H:Hp):Prop where
  frames:A.frames=some outer
  mod:Mod K mg base
  bs:∀b o,base.get? b=some o→s.heap.get? b=some o∧H b=none
  bsz:base.objs.size≤s.heap.objs.size
  funs:s.heap.FunFrames base outer
  frf:∀b∈uI outer,H b=none
  hok:HOk P w H s.heap
  bare:AllBare s.gens
  tab:∀b q,kG K b=some q→H b=some (.tbl q)
def CE (outer:List Env) (P:Program) (w:World) (H:Hp) (s:Shared) (Q:VK) (u:Value) (s':Shared):Prop:=
  ∃v H',s'.os=s.os∧AllBare s'.gens∧Un (uI outer) [] H H' s.heap s'.heap∧HOk P w H' s'.heap∧RelV v u∧Q v H'
def CR (CX:wl) (outer:List Env) (P:Program) (w:World) (H:Hp) (s:Shared) (Q:VK) (E:XK) (r:Result) (s':Shared):Prop:=
  match r with
  | .ok (.ret u)=>CE outer P w H s Q u s'
  | .ok _=>False
  | .error e=>CX outer H s E e s'
structure FnOk (P:Program) (w:World) (K:PySem.W.Frag) (mg:Str→Option Value) (base:Heap) (CX:wl) (k:Nat) (f:Addr) (fd:FuncData) (ps:List Str) (sp:Sp):Prop where
  len:∀vs H Q E,sp vs H Q E→vs.length=ps.length
  run:∀(A:Around) (outer:List Env) (s:Shared) (H:Hp) (args:Args) (us:List Value) (vs:List V) (Q:VK) (E:XK),Room k A→Env0 P w K mg base A outer s H→BindsTo s fd args (ps.zip us)→Vals vs us→sp vs H Q E→
    codeAny (model P w) A (.call (.ref f) args) (CR CX outer P w H s Q E) s
section
variable {X:Cx} {pins:List (Addr×Obj)} {σ:St} {H:Hp} {s s':Shared}
theorem Inv.env0 (I:Inv X pins σ H s):Env0 X.prog X.w X.K X.mg X.base X.A X.stack s H:=
  ⟨I.ok.frames,I.ok.mod,I.bs,Nat.le_trans I.ok.bsz I.sz,I.stack,I.stkFree,I.hok,I.bare,I.tab⟩
theorem Inv.after {Q:VK} {u:Value} (I:Inv X pins σ H s) (h:CE X.stack X.prog X.w H s Q u s'):EP X pins σ Q u s':=by
  obtain ⟨v,H',os,bare,un,hok,r,q⟩:=h
  obtain ⟨hh,g,d,t,os'⟩:=s'
  obtain rfl:os'=s.os:=os
  exact ⟨v,H',I.call (h':=hh) (g':=g) (d':=d) (t':=t) (ch:=[]) un hok bare (fun b z=>absurd z (by simp)),r,q⟩
end
def xX (sp:Sp) (dvs:List V) (E:XK) (t:TA):TE:=fun σ H Q=>t σ H fun vs H1=>sp (vs++dvs) H1 Q E
def Binds (K:PySem.W.Frag) (fd:FuncData) (ps:List Str) (ds:List Value):Prop:=
  ∀(s:Shared) (us:List Value),K.In s.heap→(us++ds).length=ps.length→BindsTo s fd ⟨us,[]⟩ (ps.zip (us++ds))
theorem Binds.all {K:PySem.W.Frag} {fd:FuncData} {ps:List Str} (h:∀us:List Value,us.length=ps.length→bindArgs fd ⟨us,[]⟩=pure (ps.zip us)):Binds K fd ps []:=fun s us _ hl=>by
  rw [List.append_nil] at hl ⊢
  exact .of_eq (h us hl)
def qG (CX:wl) (X:Cx) (E:XK):Prop:=∀(pins:List (Addr×Obj)) (σ:St) (H:Hp) (s:Shared) (e:Value) (s':Shared),Inv X pins σ H s→CX X.stack H s E e s'→X.xe e s'
section
variable {X:Cx} {CX:wl} {k:Nat} {f C:Addr} {fd:FuncData} {ps:List Str} {sp:Sp} {dvs:List V} {ds:List Value} {E:XK} {x m:Str} {p pos apos:Pos} {e o:Expr} {es:List Expr} {ta:TE} {t:TA}
theorem yT {pins:List (Addr×Obj)} {σ:St} {H:Hp} {s:Shared} {Q:VK} {us:List Value} {vs:List V} (F:FnOk X.prog X.w X.K X.mg X.base CX k f fd ps sp) (hr:Room k X.A) (hb:Binds X.K fd ps ds) (hd:Vals dvs ds) (hx:qG CX X E)
    (I:Inv X pins σ H s) (r:Vals vs us) (h:sp (vs++dvs) H Q E):wpAny (model X.prog X.w) X.A (call (.ref f) us) (EP X pins σ Q) X.xe s:=by
  have r2:Vals (vs++dvs) (us++ds):=r.append hd
  have hl:(us++ds).length=ps.length:=by rw [←r2.length];exact F.len _ _ _ _ h
  refine wpAny_call (codeAny_mono (F.run X.A X.stack s H ⟨us,[]⟩ (us++ds) (vs++dvs) Q E hr I.env0 (hb s us I.kIn hl) r2 h) fun r s' hq=>?_)
  cases r with
  | error e=>exact hx pins σ H s e s' I hq
  | ok fl=>
    cases fl with
    | ret u=>exact I.after hq
    | next=>exact False.elim hq
    | brk=>exact False.elim hq
    | cont=>exact False.elim hq
theorem wH (F:FnOk X.prog X.w X.K X.mg X.base CX k f fd ps sp) (hr:Room k X.A) (hg:Gl X x) (hm:X.mg x=some (.ref f)) (hk:PySem.W.keepIn X.K (.ref f)=true) (hb:Binds X.K fd ps ds) (hd:Vals dvs ds) (hx:qG CX X E)
    (ha:PA X (e::es) t) (hdb:(x == ("__debug__":Str))=false:=by decide) (he:starEach (e::es) X.env=(false,eval e X.env)::starEach es X.env:=by rfl) (hpl:(backTo pos (starEach es X.env)).any (·.1)=false:=by rfl):
    PE X (.Call (.Name x p) (e::es) [] pos) (xX sp dvs E t):=by
  intro pins s σ H Q I h
  refine wpAny_Call_Name_kw (nw I hg hm ?_ hdb)
  refine PySem.W.callWith_K (h₀:=X.base) I.ok.mod.kin hk (d_ (ha pos pins s σ H _ I h) fun us s1 ⟨vs,H1,I1,r,q⟩=>⟨I1.kIn,?_⟩) he hpl
  exact yT F hr hb hd hx I1 r q
end
structure FnScope (N P:List Str) (sc:Scope):Prop where
  kind:sc.kind= .function
  co:sc.isCoroutine=false
  gen:sc.isGenerator=false
  nd:N.Nodup
  pre:N.take P.length=P
  par:∀x∈P,sc.names.lookup x=some .local∨sc.names.lookup x=some .cell
  nofree:∀y∈sc.names,y.2≠ .free
theorem mw {kindOf:Str→Option NameKind} {x:Str}:∀{binds:List (Str×Value)} {m:Str→Option Value},(∀v,(x,v)∉binds)→bindL kindOf binds m x=m x
  | [],_,_=>rfl
  | (n,v)::r,m,h=>by
    unfold bindL
    rw [mw fun w hw=>h w (List.mem_cons_of_mem _ hw)]
    split
    · have:x≠n:=by rintro rfl;exact h v List.mem_cons_self
      simp [this]
    · rfl
theorem mz {kindOf:Str→Option NameKind} {x:Str}:∀{binds:List (Str×Value)} {m:Str→Option Value},(∀v,(x,v)∉binds)→bindC kindOf binds m x=m x
  | [],_,_=>rfl
  | (n,v)::r,m,h=>by
    unfold bindC
    rw [mz fun w hw=>h w (List.mem_cons_of_mem _ hw)]
    split
    · rfl
    · have:x≠n:=by rintro rfl;exact h v List.mem_cons_self
      simp [this]
theorem mB {kindOf:Str→Option NameKind} {x:Str} {v:Value}:∀{P:List Str} {vs:List Value} {i:Nat} {m:Str→Option Value},P.Nodup→P[i]? =some x→vs[i]? =some v→kindOf x=some .local→
    bindL kindOf (P.zip vs) m x=some v
  | [],_,_,_,_,h,_,_=>by simp at h
  | _::_,[],_,_,_,_,h,_=>by simp at h
  | p::P,w::vs,0,m,nd,h1,h2,hk=>by
    simp at h1 h2;subst h1;subst h2
    show bindL kindOf ((p,w)::P.zip vs) m p=_
    unfold bindL
    rw [mw fun v hv=>(List.nodup_cons.mp nd).1 (List.of_mem_zip hv).1,if_pos hk]
    simp
  | p::P,w::vs,i+1,m,nd,h1,h2,hk=>by
    show bindL kindOf ((p,w)::P.zip vs) m x=_
    unfold bindL
    exact mB (i:=i) (List.nodup_cons.mp nd).2 (by simpa using h1) (by simpa using h2) hk
theorem mC {kindOf:Str→Option NameKind} {x:Str} {v:Value}:∀{P:List Str} {vs:List Value} {i:Nat} {m:Str→Option Value},P.Nodup→P[i]? =some x→vs[i]? =some v→kindOf x≠some .local→
    bindC kindOf (P.zip vs) m x=some v
  | [],_,_,_,_,h,_,_=>by simp at h
  | _::_,[],_,_,_,_,h,_=>by simp at h
  | p::P,w::vs,0,m,nd,h1,h2,hk=>by
    simp at h1 h2;subst h1;subst h2
    show bindC kindOf ((p,w)::P.zip vs) m p=_
    unfold bindC
    rw [mz fun v hv=>(List.nodup_cons.mp nd).1 (List.of_mem_zip hv).1,if_neg hk]
    simp
  | p::P,w::vs,i+1,m,nd,h1,h2,hk=>by
    show bindC kindOf ((p,w)::P.zip vs) m x=_
    unfold bindC
    exact mC (i:=i) (List.nodup_cons.mp nd).2 (by simpa using h1) (by simpa using h2) hk
def ir (N:List Str) (vs:List V):St:=vs.map some++List.replicate (N.length - vs.length) none
def me (CX:wl) (P:Program) (w:World) (K:PySem.W.Frag) (mg:Str→Option Value) (base:Heap) (N:List Str) (qual:Str) (scope:Scope) (f:Addr) (cd:Value) (A:Around) (outer:List Env) (s:Shared) (H:Hp) (E:XK):Cx where
  prog:=P
  w:=w
  K:=K
  mg:=mg
  base:=base
  A:=A.deeper (envOfC qual scope s.heap.objs.size f cd)
  N:=N
  s₀:=s
  H₀:=H
  env:=envOfC qual scope s.heap.objs.size f cd
  outer:=outer
  stack:=envOfC qual scope s.heap.objs.size f cd::outer
  ex:=[]
  calm:=true
  fn:=fun _=>true
  pn:=[]
  xe:=fun e s'=>wpAny (model P w) (A.deeper (envOfC qual scope s.heap.objs.size f cd)) (leaving (envOfC qual scope s.heap.objs.size f cd) e) (fun _ s''=>CX outer H s E e s'') (fun e' s''=>CX outer H s E e' s'') s'
theorem oX {sc:Scope} {n:Nat} {x:Str} (h:sc.names.lookup x=some .cell):∃c,(cellsFrom n sc.names []).lookup x=some c:=by
  have q:=PySem.W.cellsFrom_some sc.names n [] (.inl h)
  exact Option.isSome_iff_exists.mp q
theorem tF {CX:wl} {P:Program} {w:World} {K:PySem.W.Frag} {mg:Str→Option Value} {base:Heap} {N ps:List Str} {qual:Str} {scope:Scope} {f:Addr} {cd:Value} {A:Around} {outer:List Env} {s s1:Shared} {H:Hp} {E:XK} {us:List Value} {vs:List V}
    (S:FnScope N ps scope) (hd:A.handled=none) (e0:Env0 P w K mg base A outer s H) (hl:vs.length=ps.length) (r:Vals vs us)
    (x:InCallC s s.heap.objs.size (bindL (envOfC qual scope s.heap.objs.size f cd).kindOf (ps.zip us) fun _=>none) (cellsFrom (s.heap.objs.size+1) scope.names []) (bindC (envOfC qual scope s.heap.objs.size f cd).kindOf (ps.zip us) fun _=>none) s1):
    Inv (me CX P w K mg base N qual scope f cd A outer s H E) [] (ir N vs) H s1:=by
  have hpl:ps.length≤N.length:=by have:=congrArg List.length S.pre;rw [List.length_take] at this;lia
  obtain ⟨h1,tk,rfl,hk⟩:=x.done
  have noA:∀b:Addr,b∉(me CX P w K mg base N qual scope f cd A outer s H E).ex:=fun b z=>absurd (show b∈([]:List Addr) from z) (by simp)
  refine ⟨⟨e0.mod,S.kind,rfl,rfl,Nat.le_refl _,fun y z c h1 h2=>?_,fun y hy=>?_,fun y c _ h=>?_,fun _=>hd,Around.frames_deeper e0.frames, .inr ⟨rfl,rfl⟩,fun b z=>absurd z (noA b),e0.bs,e0.bsz,fun b _ _=>noA b,fun b z=>absurd z (noA b),e0.funs,e0.frf,e0.tab⟩,
    rfl,e0.bare,Un.kept hk,⟨_,x.toInCall.ns,fun i y v h1 h2 h3=>?_⟩,fun y c h=>⟨_,x.cell y c h⟩,e0.hok.fresh (Nat.le_refl _),fun y c h=>?_,fun p hp=>absurd (show p∈([]:List (Addr×Obj)) from hp) (by simp),e0.hok.kept hk,?_⟩
  · exact name_of_addr x.apart (PySem.mem_of_lookup h1) (PySem.mem_of_lookup h2)
  · have hy:scope.names.lookup y=some .cell∨scope.names.lookup y=some .free:=hy
    rcases hy with hy | hy
    · exact oX hy
    · exact absurd rfl (S.nofree _ (PySem.mem_of_lookup hy))
  · exact Nat.le_of_lt (x.above y c (PySem.mem_of_lookup h))
  · have hi:i < vs.length:=by
      unfold ir at h2
      by_cases hi:i < vs.length
      · exact hi
      · rw [List.getElem?_append_right (by simpa using hi)] at h2
        rw [List.getElem?_replicate] at h2
        split at h2 <;> cases h2
    have ha:vs[i]? =some v:=by
      unfold ir at h2
      rw [List.getElem?_append_left (by simpa using hi),List.getElem?_map] at h2
      cases e:vs[i]? with
      | none=>rw [e] at h2;cases h2
      | some a=>rw [e] at h2;cases h2;rfl
    obtain ⟨u,hu,rv⟩:=r.get ha
    have hp:ps[i]? =some y:=by
      rw [←S.pre,List.getElem?_take_of_lt (by exact Nat.lt_of_lt_of_eq ‹_› ‹_›)];exact h1
    have ndP:ps.Nodup:=by rw [←S.pre];exact S.nd.sublist (List.take_sublist _ _)
    refine ⟨u,rv,?_⟩
    rcases S.par y (List.mem_of_getElem? hp) with k | k
    · exact .inl ⟨k,mB ndP hp hu k⟩
    · obtain ⟨c,e⟩:=oX (n:=s.heap.objs.size+1) k
      refine .inr ⟨.inl k,c,e,?_⟩
      have q:=x.cell y c e
      rw [mC ndP hp hu (by show scope.names.lookup y≠_;rw [k];decide)] at q
      exact q
  · exact e0.hok.fresh (Nat.le_of_lt (x.above y c (PySem.mem_of_lookup h)))
  · unfold ir
    show _=N.length
    rw [List.length_append,List.length_map,List.length_replicate]
    lia
theorem xY {CX:wl} {P:Program} {w:World} {K:PySem.W.Frag} {mg:Str→Option Value} {base:Heap} {k:Nat} {f:Addr} {name qual:Str} {params:Arguments} {body:List Stmt} {scope:Scope} {dV kV doc pm cdv ct oc:Value} {an od:Option Addr}
    {osl:Array (Option Value)} {N ps:List Str} {sp:Sp} (lk:K.lookup f=some ⟨oc,od, .func (PySem.W.fnOf name qual params body scope dV kV doc pm an cdv ct),osl⟩) (hcd:PySem.W.codeIn K cdv qual=true) (S:FnScope N ps scope)
    (len:∀vs H Q E,sp vs H Q E→vs.length=ps.length)
    (hbody:∀(A:Around) (outer:List Env) (s:Shared) (H:Hp) (vs:List V) (Q:VK) (E:XK),Room k (A.deeper (envOfC qual scope s.heap.objs.size f cdv))→sp vs H Q E→
      ∃t,PSs (me CX P w K mg base N qual scope f cdv A outer s H E) body t∧t {nx:=fun _ H'=>Q .non H',rt:=Q} (ir N vs) H):
    FnOk P w K mg base CX (k+1) f (PySem.W.fnOf name qual params body scope dV kV doc pm an cdv ct) ps sp:=by
  refine ⟨len,fun A outer s H args us vs Q E hr e0 hb r hsp=>?_⟩
  have hl:=len _ _ _ _ hsp
  have KX:K.In s.heap:=e0.mod.kin.keeps fun b o e=>(e0.bs b o e).1
  have lim:s.heap.NoLimit:=e0.mod.nolimit.keeps fun b o e=>(e0.bs b o e).1
  have hkind:∀y∈ps.zip us,scope.names.lookup y.1=some .local∨(scope.names.lookup y.1=some .cell∧((cellsFrom (s.heap.objs.size+1) scope.names []).lookup y.1).isSome=true):=fun ⟨n,v⟩ hy=>by
    rcases S.par n (List.of_mem_zip hy).1 with q | q
    · exact .inl q
    · exact .inr ⟨q,PySem.W.cellsFrom_some _ _ _ (.inl q)⟩
  refine codeAny_call_function hr.depth (KX _ _ lk) rfl S.co S.gen rfl (PySem.W.codeRec_of KX hcd) (hb _ _ _ _ ?_)
  refine wpAny_newFunctionEnv_cells S.kind hkind fun env he s1 x=>?_
  subst he
  refine ⟨lim.keeps x.toInCall.keep,codeAny_func ?_⟩
  obtain ⟨t,ht,hq⟩:=hbody A outer s H vs Q E (hr.deeper _) hsp
  have I:Inv (me CX P w K mg base N qual scope f cdv A outer s H E) [] (ir N vs) H s1:=tF S hr.hd e0 hl r x
  refine wpAny_mono (ht [] s1 (ir N vs) H _ I hq) (fun fl s' hs=>?_) fun e s' hs=>hs
  have fin:∀{σ':St} {H':Hp} {v:V} {u:Value},Inv (me CX P w K mg base N qual scope f cdv A outer s H E) [] σ' H' s'→RelV v u→Q v H'→CE outer P w H s Q u s':=
    fun {σ' H' v u} J rv q=>⟨v,H',J.os,J.bare,J.base,J.hok,rv,q⟩
  cases fl with
  | ret u=>
    obtain ⟨v,σ',H',J,rv,q⟩:=hs
    exact fin J rv q
  | next=>
    obtain ⟨σ',H',J,q⟩:=hs
    exact fin (v:=V.non) (u:=Value.none) J rfl q
  | brk=>
    obtain ⟨_,_,_,q⟩:=hs
    exact False.elim q
  | cont=>
    obtain ⟨_,_,_,q⟩:=hs
    exact False.elim q
end L2
namespace L2
open PySem PySem.Spec PyProof.Rows
section
variable {X:Cx} {x:Str} {p pos:Pos} {e:Expr} {es:List Expr} {t:TA} {id T:String} {r:List V→Hp→VK→Prop}
def BM (r:List V→Hp→VK→Prop) (t:TA):TE:=fun σ H Q=>t σ H fun vs H1=>r vs H1 Q
theorem kY (hc:CallR X (.builtin id) r) (hg:Gl X x) (hm:X.mg x=none) (hv:bootBuiltins x=some (.builtin id)) (ha:PA X (e::es) t) (hn:x≠"__name__":=by decide) (hdb:(x == ("__debug__":Str))=false:=by decide)
    (he:starEach (e::es) X.env=(false,eval e X.env)::starEach es X.env:=by rfl) (hpl:(backTo pos (starEach es X.env)).any (·.1)=false:=by rfl):PE X (.Call (.Name x p) (e::es) [] pos) (BM r t):=by
  intro pins s σ H Q I h
  refine wpAny_Call_Name_kw (iq I hg hm hv ?_ hn hdb)
  exact PyProof.Rows.callWith_builtin1 (d_ (ha pos pins s σ H _ I h) fun us s1 ⟨vs,H1,I1,r1,q1⟩=>hc pins s1 σ H1 vs us Q I1 r1 q1) he hpl
theorem jS (hc:CallR X (.type T) r) (hg:Gl X x) (hm:X.mg x=none) (hv:bootBuiltins x=some (.type T)) (ha:PA X (e::es) t) (hn:x≠"__name__":=by decide) (hdb:(x == ("__debug__":Str))=false:=by decide)
    (he:starEach (e::es) X.env=(false,eval e X.env)::starEach es X.env:=by rfl) (hpl:(backTo pos (starEach es X.env)).any (·.1)=false:=by rfl):PE X (.Call (.Name x p) (e::es) [] pos) (BM r t):=by
  intro pins s σ H Q I h
  refine wpAny_Call_Name_kw (iq I hg hm hv ?_ hn hdb)
  exact PyProof.Rows.callWith_type1 (d_ (ha pos pins s σ H _ I h) fun us s1 ⟨vs,H1,I1,r1,q1⟩=>hc pins s1 σ H1 vs us Q I1 r1 q1) he hpl
end
end L2
namespace HT
open PySem PyProof.Rows
section
open PySem.SeqAt
open PySem.AutoSeq1 (wpAny_loadPart')
open PySem.MeetsSeq PySem.MeetsSeq2 PySem.MeetsSeq3
end
section
variable {prog:Program} {w:World} {A:Around} {E:Value→Shared→Prop} {s:Shared}
def kZ (n d:Nat):Option Int→Nat
  | none=>d
  | some v=>if v < 0 then (v+(n:Int)).toNat else min v.toNat n
theorem wI (n d k:Nat):kZ n d (some (k:Int))=min k n:=by
  show (if (k:Int) < 0 then ((k:Int)+(n:Int)).toNat else min (k:Int).toNat n)=min k n
  rw [if_neg (by lia),Int.toNat_natCast]
end
end HT
namespace L2
open PySem PySem.Spec PyProof.Rows
abbrev TO:=St→Hp→(Option Int→Hp→Prop)→Prop
def PO (X:Cx) (e:Option Expr) (t:TO):Prop:=
  ∀(pins:List (Addr×Obj)) (s:Shared) (σ:St) (H:Hp) (Q:Option Int→Hp→Prop),Inv X pins σ H s→t σ H Q→
    wpAny (model X.prog X.w) X.A (evalPart e X.env) (fun u s'=>∃o H',Inv X pins σ H' s'∧IsPart u o∧Q o H') X.xe s
def wJ:TO:=fun _ H Q=>Q none H
def Ay (t:TE):TO:=fun σ H Q=>t σ H fun x H1=>∃i,x= .int i∧Q (some i) H1
section
variable {X:Cx} {e:Expr} {te:TE} {lo hi:Option Expr} {tl th:TO} {pos p2:Pos}
theorem wK:PO X none wJ:=by
  intro pins s σ H Q I h
  rw [evalPart_none]
  exact wpAny_pure ⟨none,H,I, .none,h⟩
theorem wL (h:PE X e te):PO X (some e) (Ay te):=by
  intro pins s σ H Q I hw
  rw [evalPart_some]
  refine d_ (h pins s σ H _ I hw) fun u s1 ⟨x,H1,I1,r1,q1⟩=>?_
  obtain ⟨i,rfl,q⟩:=q1
  obtain ⟨t,rfl⟩:=r1
  exact ⟨some i,H1,I1, .int i t,q⟩
def SlR (X:Cx) (r:V→Option Int→Option Int→Hp→VK→Prop):Prop:=
  ∀(pins:List (Addr×Obj)) (s:Shared) (σ:St) (H:Hp) (x:V) (v vl vu:Value) (lo hi:Option Int) (sl:Addr) (Q:VK),Inv X pins σ H s→RelV x v→s.heap.IsSliceOf sl vl vu .none→IsPart vl lo→IsPart vu hi→r x lo hi H Q→
    ∃T id,typeLookup (.type T) "__getitem__"=pure (some (.builtin id))∧s.TypeIs v T∧wpAny (model X.prog X.w) X.A (getItem v (.ref sl)) (EP X pins σ Q) X.xe s
theorem SlR.or {r r':V→Option Int→Option Int→Hp→VK→Prop} (h:SlR X r) (h':SlR X r'):SlR X (fun x lo hi H Q=>r x lo hi H Q∨r' x lo hi H Q):=by
  intro pins s σ H x v vl vu lo hi sl Q I rx hs pl pu q
  rcases q with q | q
  · exact h pins s σ H x v vl vu lo hi sl Q I rx hs pl pu q
  · exact h' pins s σ H x v vl vu lo hi sl Q I rx hs pl pu q
def Cq (r:V→Option Int→Option Int→Hp→VK→Prop) (te:TE) (tl th:TO):TE:=fun σ H Q=>te σ H fun x H1=>tl σ H1 fun l H2=>th σ H2 fun u H3=>r x l u H3 Q
theorem uX {r:V→Option Int→Option Int→Hp→VK→Prop} (hr:SlR X r) (he:PE X e te) (hl:PO X lo tl) (hu:PO X hi th):PE X (.Subscript e (.Slice lo hi none p2) pos) (Cq r te tl th):=by
  intro pins s σ H Q I h
  refine Subscript_ (d_ (he pins s σ H _ I h) fun v s1 ⟨x,H1,I1,r1,q1⟩=>?_)
  refine wpAny_Slice (d_ (hl pins s1 σ H1 _ I1 q1) fun vl s2 ⟨l,H2,I2,pl,q2⟩=>d_ (hu pins s2 σ H2 _ I2 q2) fun vu s3 ⟨u,H3,I3,pu,q3⟩=>?_)
  rw [evalPart_none]
  refine wpAny_pure ?_
  have I4:Inv X pins σ H3 {s3 with heap:=s3.heap.push {cls:= .type "slice",data:= .fields #[vl,vu, .none]}}:=I3.kept (t':=s3.toks) fun b ob q=>Heap.get?_push_of_some _ q
  obtain ⟨T,id,hT,ht,hg⟩:=hr pins {s3 with heap:=s3.heap.push {cls:= .type "slice",data:= .fields #[vl,vu, .none]}} σ H3 x v vl vu l u s3.heap.objs.size Q I4 r1 (Heap.IsSliceOf.new ..) pl pu q3
  show wpAny (model X.prog X.w) X.A (subscriptTail e (.Slice lo hi none p2) v (.ref s3.heap.objs.size)) (EP X pins σ Q) X.xe {s3 with heap:=s3.heap.push {cls:= .type "slice",data:= .fields #[vl,vu, .none]}}
  exact tail_any (ops:=[.ref s3.heap.objs.size,v]) ht hT hg (by with_unfolding_all rfl)
def tH (xs:List V) (lo hi:Option Int):List V:=(xs.drop (HT.kZ xs.length 0 lo)).take (HT.kZ xs.length xs.length hi - HT.kZ xs.length 0 lo)
theorem oY (xs:List V) (lo hi:Option Int):(tH xs lo hi).length≤xs.length:=by
  unfold tH
  rw [List.length_take,List.length_drop]
  lia
end
end L2
namespace L2
open PySem PySem.Spec PyProof.Rows
def z_ (n:Nat) (i:Int):Option Nat:=if 0≤i then (if i < n then some i.toNat else none) else if -(n:Int)≤i then some (i+n).toNat else none
def atI {α:Type} (xs:List α) (i:Int):Option α:=(z_ xs.length i).bind fun j=>xs[j]?
theorem wM {n:Nat} {i:Int} {j:Nat} (h:z_ n i=some j):seqIndex? i n=some j∧j < n∧ -(n:Int)≤i∧i < n:=by
  unfold z_ at h
  by_cases h0:0≤i
  · rw [if_pos h0] at h
    by_cases h1:i < n
    · rw [if_pos h1] at h
      have e:i.toNat=j:=Option.some.inj h
      exact ⟨by rw [seqIndex_of h0 h1,e],by lia,by lia,h1⟩
    · rw [if_neg h1] at h;cases h
  · rw [if_neg h0] at h
    by_cases h1: -(n:Int)≤i
    · rw [if_pos h1] at h
      have e:(i+n).toNat=j:=Option.some.inj h
      exact ⟨by rw [seqIndex_neg (by lia) h1,e],by lia,h1,by lia⟩
    · rw [if_neg h1] at h;cases h
theorem nz {α:Type} {xs:List α} {i:Int} {v:α} (h:atI xs i=some v):∃j,seqIndex? i xs.length=some j∧xs[j]? =some v∧j < xs.length∧ -(xs.length:Int)≤i∧i < xs.length:=by
  unfold atI at h
  cases e:z_ xs.length i with
  | none=>rw [e] at h;cases h
  | some j=>
    rw [e] at h
    obtain ⟨h1,h2,h3,h4⟩:=wM e
    exact ⟨j,h1,h,h2,h3,h4⟩
def r8 (b:Expr):Prop:=∀o i,subscripted b false o i=operate [o,i] (getItem o i)
def IxR (X:Cx) (r:R2):Prop:=
  ∀(value slice:Expr) (pins:List (Addr×Obj)) (s:Shared) (σ:St) (H:Hp) (x y:V) (v u:Value) (Q:VK),Inv X pins σ H s→RelV x v→RelV y u→r x y H Q→
    subscripted slice false v u=operate [v,u] (getItem v u)→wpAny (model X.prog X.w) X.A (subscriptTail value slice v u) (EP X pins σ Q) X.xe s
def BN (X:Cx) (id:String) (r:V→List V→Hp→VK→Prop):Prop:=
  ∀(pins:List (Addr×Obj)) (s:Shared) (σ:St) (H:Hp) (x:V) (xs:List V) (v:Value) (us:List Value) (Q:VK),Inv X pins σ H s→RelV x v→Vals xs us→r x xs H Q→
    wpAny (model X.prog X.w) X.A (call (.builtin id) (v::us)) (EP X pins σ Q) X.xe s
section
variable {X:Cx} {a b:Expr} {ta tb:TE} {pos:Pos}
theorem IxR.or {r r':R2} (h:IxR X r) (h':IxR X r'):IxR X (fun x y H Q=>r x y H Q∨r' x y H Q):=by
  intro value slice pins s σ H x y v u Q I rx ry q hs
  rcases q with q | q
  · exact h value slice pins s σ H x y v u Q I rx ry q hs
  · exact h' value slice pins s σ H x y v u Q I rx ry q hs
theorem Az {r:R2} (hr:IxR X r) (ha:PE X a ta) (hb:PE X b tb) (hs:r8 b):PE X (.Subscript a b pos) (Ao r ta tb):=by
  intro pins s σ H Q I h
  exact Subscript_ (yI ha hb I h fun v u s2 x y H2 I2 rx ry q=>hr a b pins s2 σ H2 x y v u Q I2 rx ry q (hs _ _))
def AA (K:PySem.W.Frag):R2:=fun x y H Q=>∃p xs i v,x= .ref p∧y= .int i∧SqL K H p xs∧atI xs i=some v∧Q v H
def AB (K:PySem.W.Frag):R2:=fun x y H Q=>∃p xs i v,x= .ref p∧y= .int i∧SqT K H p xs∧atI xs i=some v∧Q v H
def AC:R2:=fun x y H Q=>∃z i c,x= .str z∧y= .int i∧z.length≤sizeLine∧atI z.cps.toList i=some c∧Q (.str ⟨#[c]⟩) H
theorem ix_list:IxR X (AA X.K):=by
  intro value slice pins s σ H x y v u Q I rx ry h hs
  obtain ⟨p,xs,i,z,rfl,rfl,hq,he,q⟩:=h
  cases rx
  obtain ⟨t,rfl⟩:=ry
  obtain ⟨its,r,pl,hz⟩:=I.list hq
  obtain ⟨j,h1,h2,h3,h4,h5⟩:=nz he
  obtain ⟨w,ew,rw'⟩:=r.get h2
  have hl:=r.length
  have hn:=jR
  have fin:EP X pins σ Q w s:=⟨z,H,I,rw',q⟩
  by_cases h0:0≤i
  · have hj:i.toNat=j:=by
      rw [seqIndex_of h0 h5] at h1
      exact Option.some.inj h1
    exact item_listR pl.isList h0 (by lia) (by rw [hj];simpa using ew) fin hs
  · have hj:(i+(its.toArray.size:Int)).toNat=j:=by
      rw [seqIndex_neg (by lia) h4] at h1
      rw [List.size_toArray,←hl]
      exact Option.some.inj h1
    exact subscriptTail_builtinR (x:=w) pl.isList.typeIs slot_list_getitem.lookup
      (wpAny_getItem_list_neg (Q:=fun r s'=>r=w∧EP X pins σ Q r s') pl.isList (by lia) (by rw [List.size_toArray] <;> lia) (by lia) (by rw [hj];simpa using ew) ⟨rfl,fin⟩) hs
theorem ix_tup:IxR X (AB X.K):=by
  intro value slice pins s σ H x y v u Q I rx ry h hs
  obtain ⟨p,xs,i,z,rfl,rfl,hq,he,q⟩:=h
  cases rx
  obtain ⟨t,rfl⟩:=ry
  obtain ⟨its,r,pl,hz⟩:=I.tuple hq
  obtain ⟨j,h1,h2,h3,h4,h5⟩:=nz he
  obtain ⟨w,ew,rw'⟩:=r.get h2
  have hl:=r.length
  have hn:=jR
  have fin:EP X pins σ Q w s:=⟨z,H,I,rw',q⟩
  exact subscriptTail_builtinR (x:=w) pl.typeIs slot_tuple_getitem.lookup
    (getItem_tuple (j:=j) (Q:=fun r s'=>r=w∧EP X pins σ Q r s') pl (by lia) (by lia) (by rw [List.size_toArray,←hl];exact h1) (by simpa using ew) ⟨rfl,fin⟩) hs
theorem yU:IxR X AC:=by
  intro value slice pins s σ H x y v u Q I rx ry h hs
  obtain ⟨z,i,c,rfl,rfl,hz,he,q⟩:=h
  obtain ⟨t,rfl⟩:=rx
  obtain ⟨t',rfl⟩:=ry
  obtain ⟨j,h1,h2,h3,h4,h5⟩:=nz he
  have hl:z.cps.toList.length=z.length:=by simp [Str.length]
  rw [hl] at h1 h4 h5
  have hn:=jR
  exact tail_any (typeIs_str s z t) slot_str_getitem.lookup (getItem_str (c:=c) (by
    have e1:decide (i < -(2 ^ 63:Int))=false:=decide_eq_false (by lia)
    have e2:decide (i≥2 ^ 63)=false:=decide_eq_false (by lia)
    rw [e1,e2,Bool.or_false]) (by rw [h1];simpa using h2) ⟨.str ⟨#[c]⟩,H,I.tok _,⟨_,rfl⟩,q⟩) hs
def Cj (K:PySem.W.Frag):R2:=fun x y H Q=>AA K x y H Q∨AB K x y H Q∨AC x y H Q
theorem yV:IxR X (Cj X.K):=ix_list.or (ix_tup.or yU)
theorem nC (lo hi:Option Int) (n:Nat):(sliceBounds lo hi none n).1=((HT.kZ n 0 lo:Nat):Int)∧(sliceBounds lo hi none n).2.1=((HT.kZ n n hi:Nat):Int)∧(sliceBounds lo hi none n).2.2=1:=by
  refine ⟨?_,?_,rfl⟩
  · cases lo with
    | none=>simp [sliceBounds,HT.kZ]
    | some i=>
      simp only [sliceBounds,HT.kZ,Option.getD_none,show (1:Int) > 0 by decide,if_true]
      by_cases h:i < 0
      · simp only [h,if_true] <;> lia
      · simp only [h,if_false] <;> lia
  · cases hi with
    | none=>simp [sliceBounds,HT.kZ]
    | some i=>
      simp only [sliceBounds,HT.kZ,Option.getD_none,show (1:Int) > 0 by decide,if_true]
      by_cases h:i < 0
      · simp only [h,if_true] <;> lia
      · simp only [h,if_false] <;> lia
theorem mf (its:List Value) (lo hi:Option Int):slicePick its.toArray lo hi none=((its.drop (HT.kZ its.length 0 lo)).take (HT.kZ its.length its.length hi - HT.kZ its.length 0 lo)).toArray:=by
  obtain ⟨h1,h2,h3⟩:=nC lo hi its.toArray.size
  unfold slicePick
  rw [h1,h2,h3]
  simp only [sliceRange_one,pick_run,List.size_toArray] <;> rfl
def BO (K:PySem.W.Frag):V→Option Int→Option Int→Hp→VK→Prop:=fun x lo hi H Q=>∃a xs,x= .ref a∧SqL K H a xs∧∀p,H p=none→Q (.ref p) (dg H p (.lst (tH xs lo hi)))
theorem wN:SlR X (BO X.K):=by
  intro pins s σ H x v vl vu lo hi sl Q I rx hs pl pu h
  obtain ⟨a,xs,rfl,hx,q⟩:=h
  cases rx
  obtain ⟨its,r,ht,hz⟩:=I.list hx
  have hlen:=r.length
  refine ⟨"list",_,slot_list_getitem.lookup,ht.isList.typeIs,?_⟩
  refine wpAny_getItem_list_slice ht.isList hs pl pu .none (by simp) ?_ (by rw [List.size_toArray] <;> lia)
  rw [mf,←hlen]
  refine ⟨.ref s.heap.objs.size,_,I.laid (t':=s.toks) (o:= .lst (tH xs lo hi)) (fun b ob q=>Heap.get?_push_of_some _ q) (Nat.le_refl _) ?_,rfl,q _ (I.hok.fresh (Nat.le_refl _))⟩
  exact ⟨Nat.le_trans (oY xs lo hi) hz,_,0,(r.drop (HT.kZ xs.length 0 lo)).take (HT.kZ xs.length xs.length hi - HT.kZ xs.length 0 lo),Heap.get?_push_size _ rfl⟩
def ie:V→Bool
  | .non=>true
  | .bl _=>true
  | .int _=>true
  | .str _=>true
  | _=>false
def wm:V→V→Bool
  | .non, .non=>true
  | .bl a, .bl b=>a == b
  | .bl a, .int b=>(if a then 1 else 0) == b
  | .int a, .bl b=>a == (if b then 1 else 0)
  | .int a, .int b=>a == b
  | .str a, .str b=>a == b
  | _,_=>false
theorem yW {A:Around} {s:Shared} {y x:V} {u v:Value} (ry:RelV y u) (rx:RelV x v) (fy:ie y=true) (fx:ie x=true):SeqAt.EqAt A s u v (wm y x):=by
  cases y with
  | non=>
    cases ry
    cases x with
    | non=>cases rx;exact SeqAt.EqAt.same _
    | bl b=>cases rx;exact SeqAt.EqAt.none_bool b
    | int b=>obtain ⟨t,rfl⟩:=rx;exact SeqAt.EqAt.none_int b t
    | str b=>obtain ⟨t,rfl⟩:=rx;exact SeqAt.EqAt.none_str b t
    | _=>exact absurd (show false=true from fx) Bool.false_ne_true
  | bl a=>
    cases ry
    cases x with
    | non=>cases rx;exact SeqAt.EqAt.bool_none a
    | bl b=>cases rx;exact SeqAt.EqAt.bool_bool a b
    | int b=>obtain ⟨t,rfl⟩:=rx;exact SeqAt.EqAt.bool_int a b t
    | str b=>obtain ⟨t,rfl⟩:=rx;exact SeqAt.EqAt.bool_str a b t
    | _=>exact absurd (show false=true from fx) Bool.false_ne_true
  | int a=>
    obtain ⟨t',rfl⟩:=ry
    cases x with
    | non=>cases rx;exact SeqAt.EqAt.int_none a t'
    | bl b=>cases rx;exact SeqAt.EqAt.int_bool a t' b
    | int b=>obtain ⟨t,rfl⟩:=rx;exact SeqAt.EqAt.int_int a t' b t
    | str b=>obtain ⟨t,rfl⟩:=rx;exact SeqAt.EqAt.int_str a t' b t
    | _=>exact absurd (show false=true from fx) Bool.false_ne_true
  | str a=>
    obtain ⟨t',rfl⟩:=ry
    cases x with
    | non=>cases rx;exact SeqAt.EqAt.str_none a t'
    | bl b=>cases rx;exact SeqAt.EqAt.str_bool a t' b
    | int b=>obtain ⟨t,rfl⟩:=rx;exact SeqAt.EqAt.str_int a t' b t
    | str b=>obtain ⟨t,rfl⟩:=rx;exact SeqAt.EqAt.str_str a t' b t
    | _=>exact absurd (show false=true from fx) Bool.false_ne_true
  | _=>exact absurd (show false=true from fy) Bool.false_ne_true
def qH (x:V) (u:Value):Bool:=match u with
  | .none=>wm .non x
  | .bool b=>wm (.bl b) x
  | .int i _=>wm (.int i) x
  | .str z _=>wm (.str z) x
  | _=>false
theorem uY {x y:V} {u:Value} (r:RelV y u) (f:ie y=true):qH x u=wm y x:=by
  cases y with
  | non=>cases r;rfl
  | bl b=>cases r;rfl
  | int i=>obtain ⟨t,rfl⟩:=r;rfl
  | str z=>obtain ⟨t,rfl⟩:=r;rfl
  | _=>exact absurd (show false=true from f) Bool.false_ne_true
theorem ji {x:V}:∀{xs:List V} {us:List Value},Vals xs us→xs.all ie=true→us.any (qH x)=xs.any fun y=>wm y x
  | _,_, .nil,_=>rfl
  | y::xs,u::us, .cons r t,f=>by
    rw [List.all_cons,Bool.and_eq_true] at f
    rw [List.any_cons,List.any_cons,uY r f.1,ji t f.2]
theorem iu {A:Around} {s:Shared} {x:V} {v:Value} (rx:RelV x v) (fx:ie x=true):∀{xs:List V} {us:List Value},Vals xs us→xs.all ie=true→∀u∈us,SeqAt.EqAt A s u v (qH x u)
  | _,_, .nil,_=>fun u hu=>by cases hu
  | y::xs,u::us, .cons r t,f=>fun u' hu=>by
    rw [List.all_cons,Bool.and_eq_true] at f
    rcases List.mem_cons.mp hu with rfl | hu
    · rw [uY r f.1];exact yW r rx f.1 fx
    · exact iu rx fx t f.2 u' hu
def Aa (x:V) (xs:List V):Bool:=xs.any fun y=>wm y x
def BP (K:PySem.W.Frag) (neg:Bool):R2:=fun x y H Q=>∃p xs,y= .ref p∧(SqL K H p xs∨SqT K H p xs)∧ie x=true∧xs.all ie=true∧Q (.bl (if neg then !Aa x xs else Aa x xs)) H
theorem tI:OpR X (compareOp .In) (BP X.K false):=by
  intro pins s σ H x y v u Q I rx ry h
  obtain ⟨p,xs,rfl,hq,fx,fs,q⟩:=h
  cases ry
  rcases hq with hq | hq
  · obtain ⟨its,r,pl,hz⟩:=I.list hq
    refine SeqAt.in_listAt (qH x) pl.isList (fun w hw=>iu rx fx r fs w (by simpa using hw)) ⟨.bl _,H,I,rfl,?_⟩
    rw [show its.toArray.any (qH x)=its.any (qH x) by simp,ji r fs]
    exact q
  · obtain ⟨its,r,pl,hz⟩:=I.tuple hq
    refine SeqAt.in_tupleAt (qH x) pl (fun w hw=>iu rx fx r fs w (by simpa using hw)) ⟨.bl _,H,I,rfl,?_⟩
    rw [show its.toArray.any (qH x)=its.any (qH x) by simp,ji r fs]
    exact q
theorem nD:OpR X (compareOp .NotIn) (BP X.K true):=by
  intro pins s σ H x y v u Q I rx ry h
  obtain ⟨p,xs,rfl,hq,fx,fs,q⟩:=h
  cases ry
  rcases hq with hq | hq
  · obtain ⟨its,r,pl,hz⟩:=I.list hq
    refine SeqAt.notIn_listAt (qH x) pl.isList (fun w hw=>iu rx fx r fs w (by simpa using hw)) ⟨.bl _,H,I,rfl,?_⟩
    rw [show its.toArray.any (qH x)=its.any (qH x) by simp,ji r fs]
    exact q
  · obtain ⟨its,r,pl,hz⟩:=I.tuple hq
    refine SeqAt.notIn_tupleAt (qH x) pl (fun w hw=>iu rx fx r fs w (by simpa using hw)) ⟨.bl _,H,I,rfl,?_⟩
    rw [show its.toArray.any (qH x)=its.any (qH x) by simp,ji r fs]
    exact q
theorem nE:OpR X (compareOp .NotIn) (fun x y H Q=>∃i j,x= .str i∧y= .str j∧Q (.bl (!(!(Builtin.Str.occurrences j i 0 j.length 1).isEmpty))) H):=by
  intro pins s σ H x y v u Q I rx ry h
  obtain ⟨i,j,rfl,rfl,q⟩:=h
  obtain ⟨t,rfl⟩:=rx
  obtain ⟨t',rfl⟩:=ry
  exact notIn_str ⟨.bl _,H,I,rfl,q⟩
theorem nG:CallR X (.builtin "len") (fun xs H Q=>∃p ys,xs=[.ref p]∧(SqL X.K H p ys∨SqT X.K H p ys)∧Q (.int ys.length) H):=by
  intro pins s σ H xs us Q I r h
  obtain ⟨p,ys,rfl,hq,q⟩:=h
  obtain ⟨u,rfl,rx⟩:=oW r
  cases rx
  have hn:=jR
  rcases hq with hq | hq
  · obtain ⟨its,r',pl,hz⟩:=I.list hq
    have hlen:=r'.length
    exact Calls.call_len_list pl.isList (by simp only [List.size_toArray] <;> omega) ⟨.int ys.length,H,I.tok _,⟨s.toks+1,by rw [List.size_toArray,hlen]⟩,q⟩
  · obtain ⟨its,r',pl,hz⟩:=I.tuple hq
    have hlen:=r'.length
    exact len_tuple pl (by simp only [List.size_toArray] <;> omega) ⟨.int ys.length,H,I.tok _,⟨s.toks+1,by rw [List.size_toArray,hlen]⟩,q⟩
theorem nH:CallR X (.builtin "len") (fun xs H Q=>∃z,xs=[.str z]∧z.length≤sizeLine∧Q (.int z.length) H):=by
  intro pins s σ H xs us Q I r h
  obtain ⟨z,rfl,hz,q⟩:=h
  obtain ⟨u,rfl,t,rfl⟩:=oW r
  have hn:=jR
  exact len_str (by lia) ⟨.int z.length,H,I.tok _,⟨_,rfl⟩,q⟩
theorem CallR.or {f:Value} {r r':List V→Hp→VK→Prop} (h:CallR X f r) (h':CallR X f r'):CallR X f (fun xs H Q=>r xs H Q∨r' xs H Q):=by
  intro pins s σ H xs us Q I rs q
  rcases q with q | q
  · exact h pins s σ H xs us Q I rs q
  · exact h' pins s σ H xs us Q I rs q
theorem nI:CallR X (.type "list") (fun xs H Q=>∃p ys,xs=[.ref p]∧(SqL X.K H p ys∨SqT X.K H p ys)∧∀l,H l=none→Q (.ref l) (dg H l (.lst ys))):=by
  intro pins s σ H xs us Q I r h
  obtain ⟨p,ys,rfl,hq,q⟩:=h
  obtain ⟨u,rfl,rx⟩:=oW r
  cases rx
  have fin:∀(its:List Value),Vals ys its→ys.length≤sizeLine→∀(h':Heap) (c':Nat),(∀b o',s.heap.get? b=some o'→h'.get? b=some o')→
      h'.get? s.heap.objs.size=some {cls:= .type "list",dict:=none,data:= .seq its.toArray c',slots:=#[]}→EP X pins σ Q (.ref s.heap.objs.size) {s with heap:=h'}:=fun its r' hz h' c' kp e=>
    ⟨.ref s.heap.objs.size,_,I.laid (t':=s.toks) kp (Nat.le_refl _) (show ObjOk X.prog X.w _ h' _ (.lst ys) from ⟨hz,its,c',r',e⟩),rfl,q _ (I.hok.fresh (Nat.le_refl _))⟩
  rcases hq with hq | hq
  · obtain ⟨its,r',pl,hz⟩:=I.list hq
    have hlen:=r'.length
    obtain ⟨o,ho,hc,n,hd⟩:=pl.isList
    exact call_list_seq p (.inl rfl) ho hc hd (fun h' c' kp e=>fin its r' hz h' c' kp e) (by simp only [List.size_toArray] <;> lia)
  · obtain ⟨its,r',pl,hz⟩:=I.tuple hq
    have hlen:=r'.length
    obtain ⟨o,ho,hc,n,hd⟩:=pl
    exact call_list_seq p (.inr rfl) ho hc hd (fun h' c' kp e=>fin its r' hz h' c' kp e) (by simp only [List.size_toArray] <;> lia)
def BQ (K:PySem.W.Frag) (T:String) (x:V) (H:Hp):Prop:=match x with
  | .str _=>T="str"
  | .int _=>T="int"
  | .ref p=>(T="list"∧∃xs,SqL K H p xs)∨(T="tuple"∧∃o,K.lookup p=some o∧o.cls= .type "tuple"∧o.dict=none)∨
      (T="dict"∧((∃kvs,H p=some (.dK kvs))∨∃kvs,H p=some (.dT kvs)))∨(T="set"∧∃S n,H p=some (.set S n))
  | _=>False
theorem uZ {pins:List (Addr×Obj)} {σ:St} {H:Hp} {s:Shared} {T:String} {x:V} {v:Value} (I:Inv X pins σ H s) (r:RelV x v) (ty:BQ X.K T x H):
    s.TypeIs v T∧∀a,v= .ref a→∃ob,s.heap.get? a=some ob∧ob.dict=none:=by
  cases x with
  | str z=>
    obtain ⟨t,rfl⟩:=r
    cases (show T="str" from ty)
    exact ⟨typeIs_str s z t,fun _ e=>nomatch e⟩
  | int i=>
    obtain ⟨t,rfl⟩:=r
    cases (show T="int" from ty)
    exact ⟨typeIs_int s i t,fun _ e=>nomatch e⟩
  | ref p=>
    cases r
    rcases ty with ⟨rfl,xs,hq⟩ | ⟨rfl,o,hk,hc,hd⟩ | ⟨rfl,hk⟩ | ⟨rfl,S,n,hk⟩
    · obtain ⟨its,_,pl,_⟩:=I.list hq
      refine ⟨pl.isList.typeIs,fun a e=>?_⟩
      cases e
      obtain ⟨o,n,e,c,hd,_⟩:=pl
      exact ⟨o,e,hd⟩
    · refine ⟨⟨o,I.kIn p o hk,hc⟩,fun a e=>?_⟩
      cases e
      exact ⟨o,I.kIn _ o hk,hd⟩
    · have z:∃o,s.heap.get? p=some o∧o.ExactDict:=by
        rcases hk with ⟨kvs,hk⟩ | ⟨kvs,hk⟩
        · obtain ⟨_,_,_,_,o,_,_,e,ex,_⟩:=I.hok p _ hk
          exact ⟨o,e,ex⟩
        · obtain ⟨_,_,_,_,o,_,_,e,ex,_⟩:=I.hok p _ hk
          exact ⟨o,e,ex⟩
      obtain ⟨o,e,ex⟩:=z
      refine ⟨⟨o,e,ex.1⟩,fun a e2=>?_⟩
      cases e2
      exact ⟨o,e,ex.2.1⟩
    · obtain ⟨o,_,_,_,e,ex,_⟩:=I.hok p _ hk
      refine ⟨⟨o,e,ex.1⟩,fun a e2=>?_⟩
      cases e2
      exact ⟨o,e,ex.2.1⟩
  | _=>exact False.elim ty
def BR (K:PySem.W.Frag) (T:String) (r:V→List V→Hp→VK→Prop) (to:TE):TE:=fun σ H Q=>to σ H fun x H1=>BQ K T x H1∧r x [] H1 Q
def Cr (K:PySem.W.Frag) (T:String) (r:V→List V→Hp→VK→Prop) (to:TE) (t:TA):TE:=fun σ H Q=>to σ H fun x H1=>BQ K T x H1∧t σ H1 fun xs H2=>r x xs H2 Q
variable {o e:Expr} {es:List Expr} {to:TE} {t:TA} {name:Str} {apos cpos:Pos} {T id:String} {r:V→List V→Hp→VK→Prop}
theorem u0 (pa:PlainAttrs T) (slot:Slot T name id) (hty:typeOf (.builtin id)=pure (.type "method_descriptor")) (hm:BN X id r) (ho:PE X o to)
    (hbase:attributeBase o name X.env (eval o X.env)=eval o X.env:=by rfl) (hline:(apos.endLine == cpos.line)=true:=by rfl):PE X (.Call (.Attribute o name apos) [] [] cpos) (BR X.K T r to):=by
  intro pins s σ H Q I h
  refine wpAny_Call_method0_late hbase hline (d_ (ho pins s σ H _ I h) fun v s1 ⟨x,H1,I1,r1,ty,q1⟩=>?_)
  obtain ⟨h1,h2⟩:=uZ I1 r1 ty
  exact ⟨T,id,pa,slot,hty,h1,h2,Calls.callWith_builtin rfl (PySem.evalArgs_none (hm pins s1 σ H1 x [] v [] Q I1 r1 .nil q1))⟩
theorem xZ (pa:PlainAttrs T) (slot:Slot T name id) (hty:typeOf (.builtin id)=pure (.type "method_descriptor")) (hm:BN X id r) (ho:PE X o to) (ha:PA X (e::es) t)
    (hbase:attributeBase o name X.env (eval o X.env)=eval o X.env:=by rfl)
    (hfew:((backTo cpos (starEach (e::es) X.env)).all (fun x=> !x.1)&&(backToKw cpos (keywordEach [] X.env)).all (fun x=>x.1.isSome)
      &&decide ((e::es).length+([]:List Keyword).length+(if ([]:List Keyword).isEmpty then 0 else 1) < 30))=true:=by rfl)
    (hline:(apos.endLine == cpos.line)=true:=by rfl) (hs:starEach (e::es) X.env=(false,eval e X.env)::starEach es X.env:=by rfl) (hplain:(backTo cpos (starEach es X.env)).any (·.1)=false:=by rfl):
    PE X (.Call (.Attribute o name apos) (e::es) [] cpos) (Cr X.K T r to t):=by
  intro pins s σ H Q I h
  refine wpAny_Call_method_late hbase hfew hline rfl (d_ (ho pins s σ H _ I h) fun v s1 ⟨x,H1,I1,r1,ty,q1⟩=>?_)
  obtain ⟨h1,h2⟩:=uZ I1 r1 ty
  refine ⟨T,id,pa,slot,hty,h1,h2,?_⟩
  have hA:=ha cpos pins s1 σ H1 _ I1 q1
  rw [hs] at hA ⊢
  refine Calls.callWith_builtin (by show (false||(backTo cpos (starEach es X.env)).any (·.1))=false;rw [hplain] <;> rfl) (Calls.evalArgs_plain ?_)
  exact d_ hA fun us s2 ⟨vs,H2,I2,r2,q2⟩=>hm pins s2 σ H2 x vs v us Q I2 r1 r2 q2
end
end L2
namespace L2
open PySem PySem.Spec PyProof.Rows
def BS (X:Cx) (id:String) (r:V→List V→Hp→VK→Prop):Prop:=
  ∀(pins:List (Addr×Obj)) (s:Shared) (σ:St) (H:Hp) (x:V) (xs:List V) (v:Value) (us:List Value) (Q:VK),Inv X pins σ H s→RelV x v→Vals xs us→r x xs H Q→
    wpAny (model X.prog X.w) X.A (call (.builtin id) (v::us)) (EP X pins σ Q) X.xe s
theorem Vals.one {x:V} {us:List Value} (h:Vals [x] us):∃u,us=[u]∧RelV x u:=by
  cases h with
  | cons r t=>cases t;exact ⟨_,rfl,r⟩
theorem Vals.two {x y:V} {us:List Value} (h:Vals [x,y] us):∃u v,us=[u,v]∧RelV x u∧RelV y v:=by
  cases h with
  | cons r t=>
    obtain ⟨v,rfl,q⟩:=Vals.one t
    exact ⟨_,_,rfl,r,q⟩
theorem Vals.zero:∀{us:List Value},Vals [] us→us=[]
  | _, .nil=>rfl
theorem Vals.dropLast {xs:List V} {us:List Value} (h:Vals xs us):Vals xs.dropLast us.dropLast:=by
  induction h with
  | nil=>exact .nil
  | cons r t ih=>
    cases t with
    | nil=>exact .nil
    | cons q t'=>exact .cons r ih
theorem Vals.reverse {xs:List V} {us:List Value} (h:Vals xs us):Vals xs.reverse us.reverse:=by
  induction h with
  | nil=>exact .nil
  | cons r t ih=>rw [List.reverse_cons,List.reverse_cons];exact Vals.append ih (.cons r .nil)
theorem Vals.rep {xs:List V} {us:List Value} (h:Vals xs us):∀k:Nat,Vals (List.replicate k xs).flatten (List.replicate k us).flatten
  | 0=> .nil
  | k+1=>by
    rw [List.replicate_succ,List.replicate_succ,List.flatten_cons,List.flatten_cons]
    exact Vals.append h (Vals.rep h k)
theorem qI {α:Type} (l:List α):l.eraseIdx (l.length - 1)=l.dropLast:=by
  induction l with
  | nil=>rfl
  | cons a r ih=>
    cases r with
    | nil=>rfl
    | cons b r=>
      have e:(a::b::r).length - 1=((b::r).length - 1)+1:=by
        have h1:(a::b::r).length=r.length+2:=rfl
        have h2:(b::r).length=r.length+1:=rfl
        assumption
      rw [e,List.eraseIdx_cons_succ,ih]
      all_goals rfl
section
variable {X:Cx} {pins:List (Addr×Obj)} {σ:St} {H:Hp} {s:Shared} {l b:Addr} {xs ys zs:List V}
theorem Inv.lset {its its':List Value} {n:Nat} {f:Array Value→Array Value} {t':Nat} (I:Inv X pins σ H s) (hH:H l=some (.lst xs))
    (e:s.heap.get? l=some {cls:= .type "list",data:= .seq its.toArray n}) (hf:f its.toArray=its'.toArray) (hv:Vals ys its') (hz:ys.length≤sizeLine):
    Inv X pins σ (dg H l (.lst ys)) {s with heap:=s.heap.update l (Obj.mapSeq f),toks:=t'}:=by
  have q:=PySem.IsL.update e f
  rw [hf] at q
  refine I.write (x:=l) (e:=l) (by rw [hH];exact trivial) (.inl rfl) (fun b' u hb hu=>(Heap.get?_update_other s.heap (Obj.mapSeq f) (Ne.symm hb)).trans hu) ⟨_,q⟩ ?_
  exact ⟨hz,its',_,hv,q⟩
theorem Inv.lnew {its:List Value} {t':Nat} (I:Inv X pins σ H s) (hv:Vals ys its) (hz:ys.length≤sizeLine):
    Inv X pins σ (dg H s.heap.objs.size (.lst ys)) {s with heap:=s.heap.push {cls:= .type "list",data:= .seq its.toArray},toks:=t'}:=
  I.laid (fun _ _ q=>Heap.get?_push_of_some _ q) (Nat.le_refl _) ⟨hz,its,0,hv,Heap.get?_push_size _ rfl⟩
theorem Inv.fresh (I:Inv X pins σ H s):H s.heap.objs.size=none:=I.hok.fresh (Nat.le_refl _)
theorem Inv.lstM (I:Inv X pins σ H s) (hH:H l=some (.lst xs)):xs.length≤sizeLine∧∃(its:List Value) (n:Nat),Vals xs its∧xs.length=its.length∧s.heap.get? l=some {cls:= .type "list",data:= .seq its.toArray n}:=by
  obtain ⟨z,its,n,r,e⟩:=I.hok l _ hH
  exact ⟨z,its,n,r,r.length,e⟩
end
section
variable {X:Cx}
def wO:V→List V→Hp→VK→Prop:=fun x vs H Q=>∃l xs y,x= .ref l∧vs=[y]∧H l=some (.lst xs)∧xs.length < sizeLine∧Q .non (dg H l (.lst (xs++[y])))
theorem mD:BS X "list.append" wO:=by
  intro pins s σ H x vs v us Q I rx rv h
  obtain ⟨l,xs,y,rfl,rfl,hH,hz,q⟩:=h
  cases rx
  obtain ⟨u,rfl,ru⟩:=rv.one
  obtain ⟨z,its,n,r,hl,e⟩:=I.lstM hH
  refine call_meets F.slot_list_append ⟨_,e,rfl⟩ F.entry_list_append (F.args_list_append_2 _ _) (PySem.list_append l its.toArray n u (by rw [List.size_toArray];lia)) ⟨e,?_⟩
  refine ⟨.non,_,I.lset (its':=its++[u]) hH e (by simp) (r.append (.cons ru .nil)) ?_,rfl,q⟩
  rw [List.length_append,List.length_singleton]
  assumption
def BT:V→List V→Hp→VK→Prop:=fun x vs H Q=>∃l xs y,x= .ref l∧vs=[]∧H l=some (.lst xs)∧xs[xs.length - 1]? =some y∧Q y (dg H l (.lst xs.dropLast))
theorem yX:BS X "list.pop" BT:=by
  intro pins s σ H x vs v us Q I rx rv h
  obtain ⟨l,xs,y,rfl,rfl,hH,hy,q⟩:=h
  cases rx
  have hus:=rv.zero
  subst hus
  obtain ⟨z,its,n,r,hl,e⟩:=I.lstM hH
  obtain ⟨u,hu,ru⟩:=r.get hy
  have hy':its.toArray[its.toArray.size - 1]? =some u:=by
    show its.toArray[its.length - 1]? =some u
    rw [←Array.getElem?_toList,←hl]
    exact hu
  refine call_meets F.slot_list_pop ⟨_,e,rfl⟩ F.entry_list_pop (F.args_list_pop_1 _) (MeetsSeq.list_pop_last l its.toArray n u hy' (by rw [List.size_toArray];lia)) ⟨e,?_⟩
  refine ⟨y,_,I.lset (its':=its.dropLast) hH e ?_ r.dropLast ?_,ru,q⟩
  · show its.toArray.eraseIdxIfInBounds (its.toArray.size - 1)=its.dropLast.toArray
    rw [List.size_toArray,List.eraseIdxIfInBounds_toArray,qI]
  · rw [List.length_dropLast]
    exact Nat.le_trans (Nat.sub_le _ _) ‹_›
def u4:V→List V→Hp→VK→Prop:=fun x vs H Q=>∃l xs,x= .ref l∧vs=[]∧H l=some (.lst xs)∧Q .non (dg H l (.lst xs.reverse))
theorem qJ:BS X "list.reverse" u4:=by
  intro pins s σ H x vs v us Q I rx rv h
  obtain ⟨l,xs,rfl,rfl,hH,q⟩:=h
  cases rx
  have hus:=rv.zero
  subst hus
  obtain ⟨z,its,n,r,hl,e⟩:=I.lstM hH
  refine call_meets F.slot_list_reverse ⟨_,e,rfl⟩ F.entry_list_reverse (F.args_list_reverse_1 _) (AutoSeq1.list_reverse_list_0 l its.toArray n (by rw [List.size_toArray];lia)) ⟨e,?_⟩
  refine ⟨.non,_,I.lset (its':=its.reverse) hH e (by simp) r.reverse ?_,rfl,q⟩
  rw [List.length_reverse]
  assumption
theorem wP {α:Type} (xs:List α) (k:Nat):(List.replicate k xs).flatten.length=k*xs.length:=by
  induction k with
  | zero=>simp
  | succ k ih=>rw [List.replicate_succ,List.flatten_cons,List.length_append,ih,Nat.succ_mul,Nat.add_comm]
end
end L2
namespace Att
open PySem PySem.W PySem.Calls PyProof.Rows
theorem kH {P:Params} {h:Heap}:∀(ns:List Int) (vs:List Value),WellAll P h vs (ns.map WData.int)→IntsAre vs ns:=by
  intro ns
  induction ns with
  | nil=>
    intro vs w
    rw [List.map_nil] at w
    cases w
    exact .nil
  | cons n ns ih=>
    intro vs w
    rw [List.map_cons] at w
    cases w with
    | cons a b=>
      cases a
      exact .cons _ _ (ih _ b)
theorem tJ {l:OpenLaw} {n:Nat} (hn:l.most=some n) {P:Params} {h:Heap} {args:List WData} {vals:List Value}
    (hpre:l.row.toRowW.claim.pre args=true) (hwl:WellAll P h vals args):
    ∃a vs ns,vals=[Value.ref a]∧args=[WData.list (ns.map WData.int)]∧h.get? a=some {cls:= .type "list",data:= .seq vs.toArray}∧IntsAre vs ns∧ns.length≤n:=by
  have hsh:WShape.hasAll [] args [.list .int]=true:=(pre_splitW hpre).1
  have hc:l.pre.holds [] {args:=args}=true:=(pre_splitW hpre).2
  obtain ⟨d,r,rfl,h1,h2⟩:=hasAllW_cons hsh
  obtain rfl:=hasAllW_nil h2
  obtain ⟨xs,rfl,h3⟩:=hasW_list h1
  obtain ⟨ns,rfl⟩:=items_int h3
  have hlen:ns.length≤n:=by
    unfold OpenLaw.pre at hc
    have h4:(WTm.not (.lt (.lit (.int (n:Int))) (.len (.arg 0)))).holds [] {args:=[.list (ns.map .int)]}=true:=by
      have h4:=(holds_andW hc).1
      rw [hn] at h4
      exact h4
    have h5:=condW_of h4 (w_not (w_lt w_lit (w_len_list (w_arg rfl))))
    rw [List.length_map] at h5
    refine Nat.le_of_not_lt fun q=>?_
    have q':(n:Int) < ((ns.length:Nat):Int):=by omega
    first
      | (rw [decide_eq_true q'] at h5;exact absurd h5 (by decide))
      | (simp at h5;omega)
  cases hwl with
  | cons w1 w2=>
    cases w2
    cases w1 with
    | list ho hall=>exact ⟨_,_,ns,rfl,rfl,ho,kH ns _ hall,hlen⟩
theorem tK (l:OpenLaw) (args:List WData):l.row.toRowW.claim.post args (.bool true) args=true:=
  postW_of (r:=l.row.toRowW) (X:=(true == true))
    (show WShape.has [] (.bool true) .bool=true by first | rfl | decide | simp [WShape.has,WShape.arms,WShape.armsAll])
    (show (WTm.eq .res (.lit (.bool true))).value [] {args:=args,res:=some (.bool true),after:=args}=some (.bool (true == true)) from w_eq_bool (w_res rfl) w_lit) rfl
theorem oZ {l:OpenLaw} {n:Nat} {q:Program} {loose:List Str} {XP:(Str→Option Value)→Heap→Prop} {YP:World→Heap→Prop} {d:DefRec}
    (hn:l.most=some n) (hdf:d.params.defaults=[])
    (call:∀(w:World) (s₀ s₁:Shared) (mg mb:Str→Option Value) (fa:Addr) (o:Obj) (pm cd doc:Value) (a:Addr) (vs:List Value) (ns:List Int),
      Ground q loose [] XP w s₀ mg mb s₁.heap→YP w s₁.heap→
      s₁.heap.get? fa=some o→o.data= .func (docDef d.name d.params d.body d.scope pm cd doc)→s₁.heap.CodeRec cd d.name→mg d.name=some (.ref fa)→
      s₁.heap.get? a=some {cls:= .type "list",data:= .seq vs.toArray}→IntsAre vs ns→ns.length≤n→s₁.gens=#[]→
      codeAny (model l.prog w) callerA (.call (.ref fa) ⟨[.ref a],[]⟩) (fun r s'=>r= .ok (.ret (.bool true))∧OldK s₁.heap s'.heap∧s'.os=s₁.os∧AllBare s'.gens) s₁):
    WalkO q loose XP YP l.row.toRowW d [] (fun f vs=>PySem.call f vs):=by
  intro w s₀ s₁ mg mb G Y fa o pm cd doc dV kV ho hd hcd hD hmg hg args vals as hpre hlay hrd hwl hlo
  obtain rfl:dV= .none:=Dflts.none hD hdf
  obtain rfl:kV= .none:=Dflts.noKw hD
  obtain ⟨a,vs,ns,rfl,rfl,hobj,hints,hlen⟩:=tJ hn hpre hwl
  refine enter_call (codeAny_mono (call w s₀ s₁ mg mb fa o pm cd doc a vs ns G Y ho (fd_plain hd) hcd hmg hobj hints hlen hg) fun r s' hq=>?_)
  obtain ⟨rfl,h2,h3,h4⟩:=hq
  exact ⟨.inl ⟨.bool true, .bool true,[],rfl,fun _=>rfl, .bool true,tK l _,fun _=>⟨List.Pairwise.nil,fun _ hm=>(nomatch hm)⟩⟩,h2,h3,h4⟩
end Att
namespace L2
open PySem PySem.Spec PyProof.Rows
theorem iL:∀{vs:List Value} {ns:List Int},IntsAre vs ns→Vals (ns.map V.int) vs
  | _,_, .nil=> .nil
  | _,_, .cons n t h=> .cons ⟨t,rfl⟩ (iL h)
theorem ObjOk.tbl0 {P:Program} {w:World} {H:Hp} {h:Heap} {b:Addr} {q:Str} (e:h.get? b=some (PySem.W.tabObj #[])):ObjOk P w H h b (.tbl q):=⟨#[],e,trivial,fun pos cv z=>by cases z⟩
end L2
namespace L2
open PySem PySem.Spec PyProof.Rows
def aE (s:Stmt):Arguments:=match s with
  | .FunctionDef _ a _ _ _ _ _ _ _ _=>a
  | _=>{posonlyargs:=[],args:=[],vararg:=none,kwonlyargs:=[],kw_defaults:=[],kwarg:=none,defaults:=[]}
def aB (s:Stmt):List Stmt:=match s with
  | .FunctionDef _ _ b _ _ _ _ _ _ _=>b
  | _=>[]
def af (s:Stmt):Scope:=match s with
  | .FunctionDef _ _ _ _ _ _ sc _ _ _=>sc
  | _=>{kind:= .function,names:=[],isGenerator:=false,isCoroutine:=false}
abbrev tL:wl:=fun _ _ _ _ _ _=>False
abbrev E0:XK:=fun _ _ _=>False
theorem AD {X:Cx}:qG tL X E0:=fun _ _ _ _ _ _ _ h=>h.elim
structure Fun (K:PySem.W.Frag) (x qual:Str) (st:Stmt) (f:Addr) (fd:FuncData):Prop where
  ex:∃(oc:Value) (od:Option Addr) (kV doc pm:Value) (an:Option Addr) (cdv ct:Value) (osl:Array (Option Value)),
    fd=PySem.W.fnOf x qual (aE st) (aB st) (af st) .none kV doc pm an cdv ct∧K.lookup f=some ⟨oc,od, .func fd,osl⟩∧PySem.W.codeIn K cdv qual=true
  kp:PySem.W.keepIn K (.ref f)=true
section
variable {P:Program} {w:World} {K:PySem.W.Frag} {mg:Str→Option Value} {base:Heap}
theorem Fun.ok {x qual:Str} {st:Stmt} {f:Addr} {fd:FuncData} {N ps:List Str} {k:Nat} {sp:Sp} (F:Fun K x qual st f fd) (S:FnScope N ps (af st)) (len:∀vs H Q E,sp vs H Q E→vs.length=ps.length)
    (hbody:∀(cdv:Value) (A:Around) (outer:List Env) (s:Shared) (H:Hp) (vs:List V) (Q:VK) (E:XK),Room k (A.deeper (envOfC qual (af st) s.heap.objs.size f cdv))→sp vs H Q E→
      ∃t,PSs (me tL P w K mg base N qual (af st) f cdv A outer s H E).nox (aB st) t∧t {nx:=fun _ H'=>Q .non H',rt:=Q} (ir N vs) H):FnOk P w K mg base tL (k+1) f fd ps sp:=by
  obtain ⟨oc,od,kV,doc,pm,an,cdv,ct,osl,rfl,lk,hcd⟩:=F.ex
  refine xY lk hcd S len fun A outer s H vs Q E hr hsp=>?_
  obtain ⟨t,h,q⟩:=hbody cdv A outer s H vs Q E hr hsp
  exact ⟨t,h.nox,q⟩
theorem Fun.binds {x qual:Str} {st:Stmt} {f:Addr} {fd:FuncData} {ps:List Str} (F:Fun K x qual st f fd)
    (h:∀(kV doc pm:Value) (an:Option Addr) (cdv ct:Value) (us:List Value),us.length=ps.length→bindArgs (PySem.W.fnOf x qual (aE st) (aB st) (af st) .none kV doc pm an cdv ct) ⟨us,[]⟩=pure (ps.zip us)):Binds K fd ps []:=by
  obtain ⟨oc,od,kV,doc,pm,an,cdv,ct,osl,rfl,lk,hcd⟩:=F.ex
  exact .all (h kV doc pm an cdv ct)
theorem qK {x qual:Str} {st:Stmt} {f:Addr} {oc:Value} {od an:Option Addr} {osl:Array (Option Value)} {kV doc pm cdv ct:Value} (l:K.lookup f=some ⟨oc,od, .func (PySem.W.fnOf x qual (aE st) (aB st) (af st) .none kV doc pm an cdv ct),osl⟩)
    (c:PySem.W.codeIn K cdv qual=true) (k:PySem.W.keepIn K (.ref f)=true):Fun K x qual st f (PySem.W.fnOf x qual (aE st) (aB st) (af st) .none kV doc pm an cdv ct):=⟨⟨oc,od,kV,doc,pm,an,cdv,ct,osl,rfl,l,c⟩,k⟩
end
def Same (H H':Hp):Prop:=∀b o,H b=some o→H' b=some o
theorem Same.refl (H:Hp):Same H H:=fun _ _ h=>h
theorem Same.trans {H H1 H2:Hp} (a:Same H H1) (b:Same H1 H2):Same H H2:=fun c o h=>b c o (a c o h)
theorem Same.free {H H':Hp} (e:Same H H') {l:Addr} (h:H' l=Option.none):H l=Option.none:=by
  cases q:H l with
  | none=>rfl
  | some o=>
    rw [e l o q] at h
    cases h
theorem Same.seq {K:PySem.W.Frag} {H H':Hp} {a:Addr} {xs:List V} (e:Same H H') (h:SqL K H a xs):SqL K H' a xs:=by
  rcases h with (h | ⟨o,h⟩) | h
  · exact .inl (.inl (e _ _ h))
  · exact .inl (.inr ⟨o,e _ _ h⟩)
  · exact .inr h
end L2
namespace NH
section
variable {α:Type} [DecidableEq α]
def stp (r:List (α×Int)) (p:α×Int):List (α×Int):=
  match r with
  | []=>if p.2=0 then [] else [p]
  | q::r'=>if q.1=p.1 then (if q.2+p.2=0 then r' else (p.1,q.2+p.2)::r') else (if p.2=0 then q::r' else p::q::r')
def stk (c:List (α×Int)):List (α×Int):=c.foldl stp []
def short (c:List (α×Int)):List (α×Int):=(stk c).reverse
def Cs (c:List (α×Int)):List (α×Int):=c.foldr (fun p r=>stp r p) []
def Red:List (α×Int)→Prop
  | []=>True
  | [p]=>p.2≠0
  | p::q::r=>p.2≠0∧p.1≠q.1∧Red (q::r)
theorem Red.tail {p:α×Int} {r:List (α×Int)} (h:Red (p::r)):Red r:=by
  cases r with
  | nil=>trivial
  | cons q r=>exact h.2.2
theorem Red.head {p:α×Int} {r:List (α×Int)} (h:Red (p::r)):p.2≠0:=by
  cases r with
  | nil=>exact h
  | cons q r=>exact h.1
theorem Red.cons {p:α×Int} {r:List (α×Int)} (h0:p.2≠0) (h1:∀q∈r.head?,p.1≠q.1) (h:Red r):Red (p::r):=by
  cases r with
  | nil=>exact h0
  | cons q r=>exact ⟨h0,h1 q rfl,h⟩
theorem Red.next {p:α×Int} {r:List (α×Int)} (h:Red (p::r)):∀q∈r.head?,p.1≠q.1:=by
  cases r with
  | nil=>intro q hq;cases hq
  | cons q r=>intro q' hq;cases hq;exact h.2.1
theorem wQ {r:List (α×Int)} (h:Red r) (p:α×Int):Red (stp r p):=by
  cases r with
  | nil=>
    unfold stp
    by_cases h0:p.2=0
    · simp [h0,Red]
    · simp [h0,Red]
  | cons q r=>
    show Red (if q.1=p.1 then (if q.2+p.2=0 then r else (p.1,q.2+p.2)::r) else (if p.2=0 then q::r else p::q::r))
    by_cases e:q.1=p.1
    · rw [if_pos e]
      by_cases z:q.2+p.2=0
      · rw [if_pos z];exact h.tail
      · rw [if_neg z]
        refine Red.cons z (fun s hs=>?_) h.tail
        rw [←e];exact h.next s hs
    · rw [if_neg e]
      by_cases z:p.2=0
      · rw [if_pos z];exact h
      · rw [if_neg z];exact ⟨z,fun t=>e t.symm,h⟩
theorem mE:∀(c:List (α×Int)) {r:List (α×Int)},Red r→Red (c.foldl stp r)
  | [],_,h=>h
  | p::c,_,h=>mE c (wQ h p)
theorem wR (c:List (α×Int)):Red (stk c):=mE c trivial
theorem o3 {r:List (α×Int)} (h:Red r) (n:α):stp r (n,0)=r:=by
  cases r with
  | nil=>simp [stp]
  | cons q r=>
    have:=h.head
    unfold stp
    by_cases e:q.1=n
    · obtain ⟨a,b⟩:=q
      simp at e this
      subst e
      simp [this]
    · simp [e]
theorem wS {r:List (α×Int)} (h:Red r) (n:α) (a b:Int):stp (stp r (n,a)) (n,b)=stp r (n,a+b):=by
  cases r with
  | nil=>
    by_cases ha:a=0
    · subst ha;simp [stp]
    · simp [stp,ha]
  | cons q r=>
    obtain ⟨m,u⟩:=q
    have hu:u≠0:=h.head
    by_cases e:m=n
    · subst e
      by_cases z:u+a=0
      · have e1:stp ((m,u)::r) (m,a)=r:=by simp [stp,z]
        rw [e1]
        have ez:u+(a+b)=b:=by lia
        have hn:=h.next
        cases r with
        | nil=>
          by_cases hb:b=0
          · subst hb;simp [stp];assumption
          · simp [stp,ez,hb]
        | cons s r=>
          have e2:¬s.1=m:=fun t=>hn s rfl t.symm
          by_cases hb:b=0
          · subst hb;simp [stp,e2];assumption
          · simp [stp,ez,hb,e2]
      · have e1:stp ((m,u)::r) (m,a)=(m,u+a)::r:=by simp [stp,z]
        rw [e1]
        simp only [stp,if_true]
        rw [Int.add_assoc]
    · by_cases ha:a=0
      · subst ha;simp [stp,e]
      · simp [stp,e,ha]
def contr (c:List (α×Int)):List (α×Int):=c.reverse.map fun p=>(p.1,-p.2)
theorem eV (c:List (α×Int)):(contr c).length=c.length:=by simp [contr]
def sn (w:List (α×Int)) (p:α×Int):List (α×Int):=(stp w.reverse p).reverse
def uJ (p x:α×Int):List (α×Int):=if x.1=p.1 then (if x.2+p.2=0 then [] else [(p.1,x.2+p.2)]) else (if p.2=0 then [x] else [p,x])
theorem gU (p x:α×Int) (r:List (α×Int)):stp (x::r) p=uJ p x++r:=by
  show (if x.1=p.1 then (if x.2+p.2=0 then r else (p.1,x.2+p.2)::r) else (if p.2=0 then x::r else p::x::r))=uJ p x++r
  unfold uJ
  by_cases e:x.1=p.1
  · rw [if_pos e,if_pos e];split <;> rfl
  · rw [if_neg e,if_neg e];split <;> rfl
def BU (x p:α×Int):List (α×Int):=(uJ p x).reverse
theorem r_ (p x:α×Int) (r:List (α×Int)):sn (r++[x]) p=r++BU x p:=by
  unfold sn BU
  rw [List.reverse_append,List.reverse_singleton,List.singleton_append,gU,List.reverse_append,List.reverse_reverse]
theorem AE (p q:α×Int) (x:α×Int) (hx:x.2≠0):stp (sn [x] q) p=sn (stp [x] p) q:=by
  obtain ⟨n,a⟩:=p
  obtain ⟨k,b⟩:=q
  obtain ⟨m,u⟩:=x
  simp at hx
  by_cases e1:m=n
  · subst e1
    by_cases e2:m=k
    · subst e2
      by_cases z1:u+a=0 <;> by_cases z2:u+b=0
      · simp [stp,sn,z1,z2]
        have:a=b:=by lia
        have ha:a≠0:=by lia
        have hb:b≠0:=by lia
        simp [ha,hb,this]
      · have hb:u+b+a=b:=by lia
        by_cases b0:b=0
        · subst b0;simp [stp,sn,z1,hx]
        · simp [stp,sn,z1,z2,hb,b0]
      · have hb:u+a+b=a:=by lia
        by_cases a0:a=0
        · subst a0;simp [stp,sn,z2,hx]
        · simp [stp,sn,z1,z2,hb,a0]
      · have hb:u+b+a=u+a+b:=by lia
        by_cases z3:u+a+b=0
        · simp [stp,sn,z1,z2,hb,z3]
        · simp [stp,sn,z1,z2,hb,z3]
    · by_cases z1:u+a=0 <;> by_cases z2:b=0 <;> simp [stp,sn,e2,z1,z2]
  · by_cases e2:m=k
    · subst e2
      by_cases z1:u+b=0 <;> by_cases z2:a=0 <;> simp [stp,sn,e1,z1,z2]
    · by_cases z1:a=0 <;> by_cases z2:b=0 <;> simp [stp,sn,e1,e2,z1,z2]
theorem AF (p q:α×Int):stp (sn [] q) p=sn (stp [] p) q:=by
  obtain ⟨n,a⟩:=p
  obtain ⟨k,b⟩:=q
  by_cases z1:a=0 <;> by_cases z2:b=0
  · simp [stp,sn,z1,z2]
  · by_cases e:k=n <;> simp [stp,sn,z1,z2,e]
  · by_cases e:n=k <;> simp [stp,sn,z1,z2,e]
  · by_cases e:k=n
    · subst e
      by_cases z:a+b=0
      · have z':b+a=0:=by lia
        simp [stp,sn,z1,z2,z,z']
      · have z':¬b+a=0:=by lia
        simp [stp,sn,z1,z2,z,z']
        lia
    · have e':¬n=k:=fun t=>e t.symm
      simp [stp,sn,z1,z2,e,e']
theorem comm (p q:α×Int) {w:List (α×Int)} (h:Red w):stp (sn w q) p=sn (stp w p) q:=by
  cases w with
  | nil=>exact AF p q
  | cons x r=>
    rcases List.eq_nil_or_concat r with rfl | ⟨m,y,e⟩
    · exact AE p q x h
    · have e':r=m++[y]:=by rw [e] <;> simp
      subst e'
      have e1:x::(m++[y])=(x::m)++[y]:=rfl
      have e2:sn (x::(m++[y])) q=x::(m++BU y q):=by rw [e1,r_];rfl
      rw [e2,gU,gU,←List.append_assoc,←List.append_assoc,r_]
theorem fY:∀{m:List (α×Int)} {y z:α×Int},Red (m++[y])→z.2≠0→y.1≠z.1→Red (m++[y]++[z])
  | [],y,z,h,h0,h1=>⟨h,h1,h0⟩
  | [x],y,z,h,h0,h1=>⟨h.1,h.2.1,fY (m:=[]) h.2.2 h0 h1⟩
  | x::x'::m,y,z,h,h0,h1=>⟨h.1,h.2.1,fY (m:=x'::m) h.2.2 h0 h1⟩
theorem kl:∀{w:List (α×Int)},Red w→Red w.reverse
  | [],_=>trivial
  | [p],h=>h
  | p::q::r,h=>by
    have ih:=kl (w:=q::r) h.2.2
    rw [List.reverse_cons,List.reverse_cons]
    rw [List.reverse_cons] at ih
    exact fY ih h.1 fun t=>h.2.1 t.symm
theorem gV (c:List (α×Int)):Red (short c):=kl (wR c)
theorem k_ (c:List (α×Int)) (p:α×Int):short (c++[p])=sn (short c) p:=by
  unfold short stk sn
  rw [List.foldl_append,List.reverse_reverse]
  rfl
theorem gr (p:α×Int):∀c:List (α×Int),short (p::c)=stp (short c) p:=by
  intro c
  induction hn:c.length generalizing c with
  | zero=>
    have:c=[]:=List.length_eq_zero_iff.mp hn
    subst this
    simp [short,stk,stp]
    by_cases z:p.2=0 <;> simp [z]
  | succ n ih=>
    rcases List.eq_nil_or_concat c with rfl | ⟨m,y,e⟩
    · simp at hn
    · have e':c=m++[y]:=by rw [e] <;> simp
      subst e'
      have hm:m.length=n:=by simp at hn;exact hn
      have e1:p::(m++[y])=(p::m)++[y]:=rfl
      rw [e1,k_,ih m hm,k_,comm p y (gV m)]
theorem nJ (r:List (α×Int)) (p:α×Int):(stp r p).length≤r.length+1:=by
  cases r with
  | nil=>by_cases z:p.2=0 <;> simp [stp,z]
  | cons q r=>rw [gU];unfold uJ;split <;> split <;> simp <;> (solve_by_elim (maxDepth:=3) only [*,Nat.le_trans,Nat.lt_of_lt_of_le,Nat.lt_of_le_of_lt,Nat.le_of_lt,Nat.add_le_add_left,Nat.add_lt_add_left,Nat.le_add_right,Nat.lt_of_succ_lt])
theorem mF:∀(c:List (α×Int)) (r:List (α×Int)),(c.foldl stp r).length≤r.length+c.length
  | [],r=>by simp
  | p::c,r=>by
    have h1:=mF c (stp r p)
    have h2:=nJ r p
    simp only [List.foldl_cons,List.length_cons]
    lia
theorem tM (c:List (α×Int)):(short c).length≤c.length:=by
  have:=mF c []
  simpa [short,stk] using this
end
end NH
namespace L2
open PySem PySem.Spec PyProof.Rows
theorem fM {H:Hp} {p:Addr} (h:H p=none) (o:HO):Same H (dg H p o):=fun b u q=>by rw [aK (bX q h)];exact q
theorem Same.tup {K:PySem.W.Frag} {H H':Hp} {a:Addr} {xs:List V} (e:Same H H') (h:SqT K H a xs):SqT K H' a xs:=by
  rcases h with (h | ⟨o,h⟩) | h
  · exact .inl (.inl (e _ _ h))
  · exact .inl (.inr ⟨o,e _ _ h⟩)
  · exact .inr h
mutual
inductive DOf (K:PySem.W.Frag) (H:Hp):V→PyData→Prop
  | non:DOf K H .non .none
  | bl (b:Bool):DOf K H (.bl b) (.bool b)
  | int (i:Int):DOf K H (.int i) (.int i)
  | str (x:Str):DOf K H (.str x) (.str x)
  | lst {a:Addr} {xs:List V} {ds:List PyData}:SqL K H a xs→DAll K H xs ds→DOf K H (.ref a) (.list ds)
  | tup {a:Addr} {xs:List V} {ds:List PyData}:SqT K H a xs→DAll K H xs ds→DOf K H (.ref a) (.tuple ds)
inductive DAll (K:PySem.W.Frag) (H:Hp):List V→List PyData→Prop
  | nil:DAll K H [] []
  | cons {x:V} {xs:List V} {d:PyData} {ds:List PyData}:DOf K H x d→DAll K H xs ds→DAll K H (x::xs) (d::ds)
end
section
variable {X:Cx} {pins:List (Addr×Obj)} {σ:St} {H:Hp} {s:Shared}
theorem DOf.reads (I:Inv X pins σ H s) {x:V} {d:PyData} {u:Value} (h:DOf X.K H x d) (r:RelV x u):∃as,Reads s.heap u d as:=DOf.rec (motive_1:=fun x d _=>∀{u:Value},RelV x u→∃as,Reads s.heap u d as) (motive_2:=fun xs ds _=>∀{us:List Value},Vals xs us→∃as,ReadsAll s.heap us ds as)
    (fun r=>by cases r;exact ⟨_,Reads.none⟩) (fun b _ r=>by cases r;exact ⟨_,Reads.bool b⟩) (fun i _ r=>by obtain ⟨t,rfl⟩:=r;exact ⟨_,Reads.int i t⟩) (fun x _ r=>by obtain ⟨t,rfl⟩:=r;exact ⟨_,Reads.str x t⟩)
    (fun hq _ ih _ r=>by
      cases r
      obtain ⟨its,rv,⟨o,n,e,c,_,d⟩,_⟩:=I.list hq
      obtain ⟨as,q⟩:=ih rv
      exact ⟨_,reads_list_at e c d (by simpa using q)⟩)
    (fun hq _ ih _ r=>by
      cases r
      obtain ⟨its,rv,⟨o,e,c,n,d⟩,_⟩:=I.tuple hq
      obtain ⟨as,q⟩:=ih rv
      exact ⟨_,reads_tuple_at e c d (by simpa using q)⟩)
    (fun r=>by cases r;exact ⟨_,ReadsAll.nil⟩)
    (fun _ _ a b _ r=>by
      cases r with
      | cons r rt=>
        obtain ⟨as,q⟩:=a r
        obtain ⟨bs,p⟩:=b rt
        exact ⟨_,ReadsAll.cons q p⟩) h r
end
def AG (K:PySem.W.Frag):R2:=fun x y H Q=>∃d e,DOf K H x d∧DOf K H y e∧SeqAt.shaped d=true∧SeqAt.shaped e=true∧Q (.bl (PyData.eqv d e)) H
def AH (K:PySem.W.Frag):R2:=fun x y H Q=>∃d e,DOf K H x d∧DOf K H y e∧SeqAt.shaped d=true∧SeqAt.shaped e=true∧Q (.bl (!PyData.eqv d e)) H
theorem u5 {X:Cx} (hu:X.A.units+64 < cLine):OpR X (compareOp .Eq) (AG X.K):=by
  intro pins s σ H x y v u Q I rx ry h
  obtain ⟨d,e,hd,he,s1,s2,q⟩:=h
  obtain ⟨as,ra⟩:=hd.reads I rx
  obtain ⟨bs,rb⟩:=he.reads I ry
  exact eq_dataH ra rb s1 s2 hu ⟨.bl _,H,I,rfl,q⟩
theorem yY {X:Cx} (hu:X.A.units+64 < cLine):OpR X (compareOp .NotEq) (AH X.K):=by
  intro pins s σ H x y v u Q I rx ry h
  obtain ⟨d,e,hd,he,s1,s2,q⟩:=h
  obtain ⟨as,ra⟩:=hd.reads I rx
  obtain ⟨bs,rb⟩:=he.reads I ry
  exact ne_dataH ra rb s1 s2 hu ⟨.bl _,H,I,rfl,q⟩
end L2
namespace L2
open PySem PySem.Spec PyProof.Rows
section
variable {prog:Program} {w:World} {A:Around} {R:Result→Shared→Prop} {s:Shared}
theorem nK {elt target iter:Expr} {ifs:List Expr} {scope:Scope} {pos:Pos} {it acc:Value} {env:Env} (I:Nat→Shared→Prop)
    (turn:∀n s,I n s→wpAny (model prog w) A (pyNext it) (fun r s₁=>match r with
      | none=>R (.ok .next) s₁
      | some v=>wpAny (model prog w) A (letOwnedTupleGo target it v) (fun _ s₁'=>wpAny (model prog w) A (assign target env v) (fun _ s₂=>
          wpAny (model prog w) A (forIn ifs true fun c r=>if r=true then do let ok ←isTrue c env (eval c env);pure (ForInStep.yield ok) else pure (ForInStep.yield r)) (fun ok s₃=>
            if ok=true then wpAny (model prog w) A (eval elt env) (fun x s₄=>
              wpAny (model prog w) A (call (.builtin "list.append") [acc,x]) (fun _ s₅=>∃m,m < n∧I m s₅) (fun _ _=>False) s₄) (fun _ _=>False) s₃
            else ∃m,m < n∧I m s₃) (fun _ _=>False) s₂) (fun _ _=>False) s₁') (fun _ _=>False) s₁) (fun _ _=>False) s)
    (n:Nat) (h:I n s):
    codeAny (model prog w) A (.compLoop (.ListComp elt [⟨target,iter,ifs,0⟩] scope pos) 0 it acc env) R s:=by
  refine codeAny_loop rfl I (fun n s hI=>?_) n h
  show wpAny _ A ((compTurn (.ListComp elt [⟨target,iter,ifs,0⟩] scope pos) 0 it acc env).onRaise (fun x=>do noteFrame x env;theTreesLotGoes x)) _ _ s
  refine wpAny_noted ?_
  rw [compTurn_list]
  refine wpAny_bind (wpAny_standAt (wpAny_bind (wpAny_mono (turn n s hI) (fun r s₁ h₁=>?_) fun _ _ h'=>h'.elim)))
  cases r with
  | none=>exact wpAny_pure h₁
  | some v=>
    refine wpAny_bind (wpAny_mono h₁ (fun _ s₁' h₁'=>?_) fun _ _ h'=>h'.elim)
    refine wpAny_bind (wpAny_mono h₁' (fun _ s₂ h₂=>wpAny_bind (wpAny_mono h₂ (fun ok s₃ h₃=>?_) fun _ _ h'=>h'.elim)) fun _ _ h'=>h'.elim)
    cases ok with
    | false=>exact wpAny_pure ⟨rfl,h₃⟩
    | true=>
      exact wpAny_bind (wpAny_bind (wpAny_mono h₃ (fun x s₄ h₄=>wpAny_bind (wpAny_mono h₄ (fun _ s₅ h₅=>wpAny_pure (wpAny_pure ⟨rfl,h₅⟩)) fun _ _ h'=>h'.elim)) fun _ _ h'=>h'.elim))
end
def Cx.comp (X:Cx) (sc:Scope) (cl:List (Str×Addr)) (N:List Str) (C:Addr) (s₀:Shared) (H₀:Hp) (fp:List Addr):Cx:=
  ⟨X.prog,X.w,X.K,X.mg,X.base,X.A,N,s₀,H₀,⟨sc,C,X.env.globals,cl,X.env.qual,none,X.env.code,X.env.frame,X.env.builtins⟩,X.stack,X.stack,fp,fun _=>false,X.calm,[],fun _ _=>False⟩
def AI (X:Cx) (ifs:List Expr) (t:TT):Prop:=
  ∀(pins:List (Addr×Obj)) (s:Shared) (σ:St) (H:Hp) (Q:Bool→Hp→Prop),Inv X pins σ H s→t σ H Q→
    wpAny (model X.prog X.w) X.A (forIn ifs true fun c r=>if r=true then do let ok ←isTrue c X.env (eval c X.env);pure (ForInStep.yield ok) else pure (ForInStep.yield r)) (TP X pins σ Q) X.xe s
def BV:TT:=fun _ H Q=>Q true H
theorem nM {X:Cx}:AI X [] BV:=fun _ _ _ H _ I h=>wpAny_tests_nil ⟨H,I,h⟩
theorem se {X:Cx} {c:Expr} {t:TT} (h:PT X c t):AI X [c] t:=fun pins s σ H Q I q=>wpAny_tests_one (h pins s σ H Q I q)
def slots (js:List (Option Nat)) (σ:St):St:=js.map fun j=>j.bind fun j=>(σ[j]?).join
def o6 (js:List (Option Nat)) (wi:TI) (g:TG) (tt:TT) (te:TE):TE:=fun σ H Q=>wi σ H fun J H1=>∀l,H1 l=none→∃W:Nat→Nat→St→Hp→Prop,(∃m,W 0 m (slots js σ) (dg H1 l (.lst [])))∧
  ∀i m σ' H',W i m σ' H'→(J.stop i H'∧Q (.ref l) H')∨(J.go i H'∧∃N:St→Hp→Prop,(∀σ' H',N σ' H'→∃m',m' < m∧W (i+1) m' σ' H')∧∀x H2,J.yld i H' x H2→g x σ' H2 fun σ3 H3=>tt σ3 H3 fun b H4=>
    if b=true then te σ3 H4 fun y H5=>∃ys,H5 l=some (.lst ys)∧ys.length < sizeLine∧N σ3 (dg H5 l (.lst (ys++[y]))) else N σ3 H4)
section
variable {X:Cx} {elt target iter:Expr} {ifs:List Expr} {scope sc:Scope} {cl:List (Str×Addr)} {N:List Str} {pos:Pos} {wi:TI} {g:TG} {tt:TT} {te:TE} {js:List (Option Nat)}
structure CompOk (X:Cx) (scope sc:Scope) (cl:List (Str×Addr)) (N:List Str) (js:List (Option Nat)):Prop where
  clos:closureFor scope X.env=pure cl
  rel:relabel scope X.env=sc
  nocell:∀y∈scope.names,y.2≠ .cell
  kind:scope.kind= .function
  names:∀y∈scope.names,y.2= .local→scope.names.lookup y.1=some .local
  same:∀x c,cl.lookup x=some c→X.env.cells.lookup x=some c
  has:∀x,(sc.names.lookup x=some .cell∨sc.names.lookup x=some .free)→∃c,cl.lookup x=some c
  len:js.length=N.length
  from_:∀(i j:Nat),js[i]? =some (some j)→∃x,N[i]? =some x∧X.N[j]? =some x∧(sc.names.lookup x=some .cell∨sc.names.lookup x=some .free)∧(X.env.kindOf x=some .cell∨X.env.kindOf x=some .free)
theorem o7 {use:Option (Value→Sem Unit)} {Qv:Value→Shared→Prop} (K:CompOk X scope sc cl N js) (hc:X.calm=true) (hi:PI X target iter wi)
    (hgg:∀C s₀ H₀ fp,PG (X.comp sc cl N C s₀ H₀ fp) target g) (htt:∀C s₀ H₀ fp,AI (X.comp sc cl N C s₀ H₀ fp) ifs tt) (hee:∀C s₀ H₀ fp,PE (X.comp sc cl N C s₀ H₀ fp) elt te)
    (hs:∀x,foldedSetIterable iter X.env x=pure x) (pins:List (Addr×Obj)) (s:Shared) (σ:St) (H:Hp) (Q:VK) (I:Inv X pins σ H s) (h:o6 js wi g tt te σ H Q)
    (hend:∀(D C:Addr) (H4:Hp) (s5:Shared) (m:Str→Option Value),Inv X pins σ H4 s5→s5.heap.Ns C m→H4 C=none→C≠X.env.locals→C∉X.fs→X.s₀.heap.objs.size≤C→(∀x c,X.env.cells.lookup x=some c→c≠C)→(∀p∈X.pn++pins,p.1≠C)→Q (.ref D) H4→
      compPost (model X.prog X.w) X.A X.xe use Qv (.ref D) C (.ok .next) s5):
    wpAny (model X.prog X.w) X.A (comprehension (.ListComp elt [⟨target,iter,ifs,0⟩] scope pos) scope X.env (firstIterPos [⟨target,iter,ifs,0⟩] pos) (newList []) false (firstIter [⟨target,iter,ifs,0⟩] X.env) use) Qv X.xe s:=by
  refine wpAny_comprehension_free (use:=use) rfl hs K.clos K.kind K.names (d_ (hi pins s σ H _ I h) fun v s1 h1=>d_ h1 fun itv s2 h2=>?_)
  obtain ⟨it,fp,tn,J,H2,e,I2,T,st2,f2,R⟩:=h2
  subst e
  refine wpAny_newObj_type (wpAny_newFunctionEnv K.nocell (by intro y hy;simp at hy) (fun h₁ hns₁ hsb₁=>?_) K.kind)
  dsimp only at hns₁ hsb₁ ⊢
  have I3:Inv X pins σ (dg H2 s2.heap.objs.size (.lst [])) {s2 with heap:=s2.heap.push {cls:= .type "list",dict:=none,data:= .seq ([]:List Value).toArray}}:=
    I2.lnew (t':=s2.toks) (its:=[]) .nil (Nat.zero_le _)
  obtain ⟨W,⟨m0,w0⟩,turn⟩:=R s2.heap.objs.size (I2.hok.fresh (Nat.le_refl _))
  generalize hP:s2.heap.push {cls:= .type "list",dict:=none,data:= .seq ([]:List Value).toArray}=h3 at hns₁ hsb₁ I3 ⊢
  generalize hD:s2.heap.objs.size=D at w0 turn I3 ⊢
  have hsz3:h3.objs.size=D+1:=by rw [←hP,Heap.size_push,hD]
  have old3:∀b o,s2.heap.get? b=some o→h3.get? b=some o:=fun b o e=>by rw [←hP];exact Heap.get?_push_of_some _ e
  have old:∀b o,h3.get? b=some o→h₁.get? b=some o:=fun b o e=>hsb₁.extBut b o (Nat.ne_of_lt (Heap.lt_size e)) (Heap.get?_push_of_some _ e)
  have fpD:∀b∈fp,b < D:=fun b hb=>by
    obtain ⟨o,e,_⟩:=T.obj _ _ st2 b hb
    rw [←hD];exact Heap.lt_size e
  have frD:∀b∈fp,(dg H2 D (.lst [])) b=none:=fun b hb=>by rw [aK (Nat.ne_of_lt (fpD b hb))];exact (f2 b hb).1
  have f3:∀b∈fp,md X pins (dg H2 D (.lst [])) b:=fun b hb=>⟨frD b hb,(f2 b hb).2⟩
  have Hfresh:∀a,h3.objs.size≤a→(dg H2 D (.lst [])) a=none:=fun a ha=>I3.hok.fresh ha
  have cellC:∀x c,X.env.cells.lookup x=some c→c < h3.objs.size:=fun x c e=>by
    obtain ⟨v,q⟩:=I3.cell x c e
    exact q.lt
  have YOk:(X.comp sc cl N h3.objs.size {s2 with heap:=h3} (dg H2 D (.lst [])) fp).Ok:=by
    refine ⟨I3.ok.mod,?_,I3.ok.glob,I3.ok.blt,Nat.le_refl _,fun x y c e1 e2=>I3.ok.inj x y c (K.same x c e1) (K.same y c e2),fun x hx=>K.has x hx,fun x c hf _=>absurd hf (by intro z;cases z),I3.ok.hd,I3.ok.frames, .inl rfl,fun b hb=>⟨?_,fun x c e=>(f2 b hb).2.2.2.2.1 x c (K.same x c e)⟩,
      I3.bs,Nat.le_trans I3.ok.bsz I3.sz,fun b o e hb=>?_,fun b hb hm=>?_,I3.stack,I3.stkFree,I3.tab⟩
    · rw [←K.rel];exact K.kind
    · exact Nat.ne_of_lt (by rw [hsz3];exact Nat.lt_succ_of_lt (fpD b hb))
    · rcases (f2 b hb).2.2.2.1 with z | z
      · exact I3.ok.noex b o e z
      · exact absurd (Nat.lt_of_lt_of_le (Heap.lt_size (I3.ok.bs b o e).1) z) (Nat.lt_irrefl _)
    · rcases List.mem_cons.mp (I3.stkSub b hm) with z | z
      · exact (f2 b hb).2.1 z
      · exact (f2 b hb).2.2.1 z
  have IY:Inv (X.comp sc cl N h3.objs.size {s2 with heap:=h3} (dg H2 D (.lst [])) fp) [] (slots js σ) (dg H2 D (.lst [])) {s2 with heap:=h₁,toks:=s2.toks+([]:List (Str×Value)).length}:=by
    refine ⟨YOk,rfl,I3.bare,Un.kept old,⟨_,hns₁,fun i x v e1 e2 e3=>?_⟩,fun x c e=>?_,Hfresh _ (Nat.le_refl _),fun x c e=>I3.freeC x c (K.same x c e),fun p hp=>absurd (show p∈([]:List (Addr×Obj)) from hp) (by simp),I3.hok.kept old,?_⟩
    · unfold slots at e2
      rw [List.getElem?_map] at e2
      cases ej:js[i]? with
      | none=>rw [ej] at e2;cases e2
      | some jo=>
        rw [ej] at e2
        cases jo with
        | none=>cases e2
        | some j=>
          obtain ⟨y,n1,n2,k1,k2⟩:=K.from_ i j ej
          have exy:y=x:=Option.some.inj (n1.symm.trans e1)
          subst exy
          have e2':(σ[j]?).join=some v:=Option.some.inj e2
          have e4:σ[j]? =some (some v):=by
            cases es:σ[j]? with
            | none=>rw [es] at e2';cases e2'
            | some w=>rw [es] at e2';exact congrArg some e2'
          obtain ⟨m,_,hl⟩:=I3.loc
          obtain ⟨u,ru,lk⟩:=hl j y v n2 e4 (by
            rcases k2 with z | z
            · exact .inr (.inl z)
            · exact .inr (.inr z))
          refine ⟨u,ru, .inr ⟨k1,?_⟩⟩
          obtain ⟨c,hcl⟩:=K.has y k1
          refine ⟨c,hcl,?_⟩
          rcases lk with ⟨z,_⟩ | ⟨_,c',e5,ic⟩
          · rcases k2 with q | q
            · rw [q] at z;cases z
            · rw [q] at z;cases z
          · have:c'=c:=Option.some.inj (e5.symm.trans (K.same y c hcl))
            subst this
            obtain ⟨o,ho,hd⟩:=ic
            exact ⟨o,old _ _ ho,hd⟩
    · obtain ⟨v,o,ho,hd⟩:=I3.cell x c (K.same x c e)
      exact ⟨v,o,old _ _ ho,hd⟩
    · unfold slots;rw [List.length_map];exact K.len
  have loop:∀s₃:Shared,s₃={s2 with heap:=h₁,toks:=s2.toks+([]:List (Str×Value)).length}→
      codeAny (model X.prog X.w) X.A (.compLoop (.ListComp elt [⟨target,iter,ifs,0⟩] scope pos) 0 (.ref it) (.ref D) (X.comp sc cl N h3.objs.size {s2 with heap:=h3} (dg H2 D (.lst [])) fp).env)
        (compPost (model X.prog X.w) X.A X.xe use Qv (.ref D) h3.objs.size) s₃:=by
    rintro s₃ rfl
    refine nK (fun n s'=>∃i σ' H',Inv (X.comp sc cl N h3.objs.size {s2 with heap:=h3} (dg H2 D (.lst [])) fp) [] σ' H' s'∧tn i s'.heap∧(∀b∈fp,H' b=none)∧W i n σ' H') ?_ m0
      ⟨0,_,_,IY,T.keep _ _ _ st2 (fun b hb o e=>old b o (old3 b o e)),frD,w0⟩
    rintro n s4 ⟨i,σ4,H4,I4,st4,fr4,w4⟩
    have ff:∀{H':Hp},(∀b∈fp,H' b=none)→∀b∈fp,md (X.comp sc cl N h3.objs.size {s2 with heap:=h3} (dg H2 D (.lst [])) fp) [] H' b:=fun hn b hb=>
      ⟨hn b hb,(YOk.exf b hb).1,YOk.exfs b hb, .inl hb,(YOk.exf b hb).2,fun p hp=>absurd (show p∈([]:List (Addr×Obj)) from hp) (by simp)⟩
    have hg:=hgg h3.objs.size {s2 with heap:=h3} (dg H2 D (.lst [])) fp
    have ht:=htt h3.objs.size {s2 with heap:=h3} (dg H2 D (.lst [])) fp
    have he:=hee h3.objs.size {s2 with heap:=h3} (dg H2 D (.lst [])) fp
    rcases turn i n σ4 H4 w4 with ⟨stop,qn⟩ | ⟨go,Nx,hN,step⟩
    · refine d_ (T.done (X.comp sc cl N h3.objs.size {s2 with heap:=h3} (dg H2 D (.lst [])) fp) rfl rfl rfl hc i [] s4 σ4 H4 _ I4 (ff fr4) st4 stop) fun r s5 ⟨hr,I5⟩=>?_
      subst hr
      obtain ⟨m,hn,_⟩:=I5.loc
      have IX:Inv X pins σ H4 s5:=I3.call' (ch:=fp) I5.os I5.base I5.hok I5.bare fun b hb=>⟨(f3 b hb).2.2.2.1,(f3 b hb).2.1,(f3 b hb).2.2.2.2.1,(f3 b hb).2.2.2.2.2⟩
      exact hend D h3.objs.size H4 s5 m IX hn I5.free (Ne.symm (Nat.ne_of_lt I3.lt)) (I3.nofs (Nat.le_refl _)) I3.sz (fun x c e=>Nat.ne_of_lt (cellC x c e)) (fun p hp=>Nat.ne_of_lt (Heap.lt_size (I3.pin p hp).1)) qn
    · refine d_ (T.item (X.comp sc cl N h3.objs.size {s2 with heap:=h3} (dg H2 D (.lst [])) fp) rfl rfl rfl hc i [] s4 σ4 H4 _ I4 (ff fr4) st4 go) fun r s5 ⟨u,hr,h5⟩=>?_
      subst hr
      refine d_ h5 fun _ s6 ⟨x,H6,I6,r6,y6,st6,fr6⟩=>?_
      have I6':=I6.pinned (ff fr6) (T.obj _ _ st6)
      have back:∀{σ7:St} {H7:Hp} {s7:Shared},Inv (X.comp sc cl N h3.objs.size {s2 with heap:=h3} (dg H2 D (.lst [])) fp) ([]++kW fp s6.heap) σ7 H7 s7→
          Inv (X.comp sc cl N h3.objs.size {s2 with heap:=h3} (dg H2 D (.lst [])) fp) [] σ7 H7 s7∧tn (i+1) s7.heap∧∀b∈fp,H7 b=none:=fun {σ7 H7 s7} I7=>
        ⟨I7.unpinned,T.keep _ _ _ st6 fun b hb o e=>(I7.pin (b,o) (List.mem_append_right _ (List.mem_append_right _ (hM hb e)))).1,fun b hb=>by
          obtain ⟨o,e,d⟩:=T.obj _ _ st6 b hb
          exact (I7.pin (b,o) (List.mem_append_right _ (List.mem_append_right _ (hM hb e)))).2.1⟩
      refine d_ (hg _ s6 σ4 H6 x u _ I6' r6 (step x H6 y6)) fun _ s7 ⟨σ7,H7,I7,q7⟩=>?_
      refine d_ (ht _ s7 σ7 H7 _ I7 q7) fun b s8 ⟨H8,I8,q8⟩=>?_
      cases b with
      | false=>
        obtain ⟨m',hm,w8⟩:=hN σ7 H8 q8
        obtain ⟨J1,J2,J3⟩:=back I8
        exact ⟨m',hm,i+1,σ7,H8,J1,J2,J3,w8⟩
      | true=>
        refine d_ (he _ s8 σ7 H8 _ I8 q8) fun yv s9 ⟨y,H9,I9,r9,ys,hl,hz,n9⟩=>?_
        obtain ⟨m',hm,w9⟩:=hN _ _ n9
        refine d_ (mD _ s9 σ7 H9 (.ref D) [y] (.ref D) [yv] (fun v H'=>v= .non∧H'=dg H9 D (.lst (ys++[y]))) I9 rfl (.cons r9 .nil) ⟨D,ys,y,rfl,rfl,hl,hz,rfl,rfl⟩) fun _ sA ⟨_,HA,IA,_,_,eA⟩=>?_
        subst eA
        obtain ⟨J1,J2,J3⟩:=back IA
        exact ⟨m',hm,i+1,σ7,_,J1,J2,J3,w9⟩
  rw [K.rel]
  exact codeAny_compStart_list (loop _ rfl) (T.self _ 0 _ _ _ (T.keep _ _ _ st2 (fun b hb o e=>old b o (old3 b o e))) (loop _ rfl))
theorem kM (K:CompOk X scope sc cl N js) (hc:X.calm=true) (hi:PI X target iter wi)
    (hgg:∀C s₀ H₀ fp,PG (X.comp sc cl N C s₀ H₀ fp) target g) (htt:∀C s₀ H₀ fp,AI (X.comp sc cl N C s₀ H₀ fp) ifs tt) (hee:∀C s₀ H₀ fp,PE (X.comp sc cl N C s₀ H₀ fp) elt te)
    (hs:∀x,foldedSetIterable iter X.env x=pure x:=by intro _;rfl):PE X (.ListComp elt [⟨target,iter,ifs,0⟩] scope pos) (o6 js wi g tt te):=by
  intro pins s σ H Q I h
  rw [eval_ListComp]
  refine o7 (use:=none) K hc hi hgg htt hee hs pins s σ H Q I h fun D C H4 s5 m IX hn fC nL _ sz nc np qn=>?_
  exact ⟨m,hn,fun h' hs'=>⟨.ref D,H4,IX.turned (t':=s5.toks) (it:=C) (fun b o hb e=>(hs'.2 b hb).trans e) fC nL (.inr sz) nc np,rfl,qn⟩⟩
theorem wT {x:Str} {px spos:Pos} {gx:TG} (K:CompOk X scope sc cl N js) (hc:X.calm=true) (hx:PG X (.Name x px) gx) (hi:PI X target iter wi)
    (hgg:∀C s₀ H₀ fp,PG (X.comp sc cl N C s₀ H₀ fp) target g) (htt:∀C s₀ H₀ fp,AI (X.comp sc cl N C s₀ H₀ fp) ifs tt) (hee:∀C s₀ H₀ fp,PE (X.comp sc cl N C s₀ H₀ fp) elt te)
    (hs:∀x,foldedSetIterable iter X.env x=pure x:=by intro _;rfl) (hsw:swapsWith (.ListComp elt [⟨target,iter,ifs,0⟩] scope pos) (some (.Name x px)) spos.line X.env=pure true:=by rfl):
    PS X (.Assign [.Name x px] (.ListComp elt [⟨target,iter,ifs,0⟩] scope pos) spos) (Aj (o6 js wi g tt te) gx):=by
  intro pins s σ H D I h
  rw [exec_Assign_Name_used _ _ _ _ hsw]
  refine wpAny_bind (wpAny_standAt (wpAny_bind ?_))
  show wpAny _ _ (comprehension (.ListComp elt [⟨target,iter,ifs,0⟩] scope pos) scope X.env (firstIterPos [⟨target,iter,ifs,0⟩] pos) (newList []) false (firstIter [⟨target,iter,ifs,0⟩] X.env) (some (assign (.Name x px) X.env)) >>= fun _=>pure ()) _ _ _
  refine wpAny_bind (wpAny_mono (o7 (use:=some (assign (.Name x px) X.env)) (Qv:=fun _ s'=>∃σ' H',Inv X pins σ' H' s'∧D.nx σ' H') K hc hi hgg htt hee hs pins s σ H _ I h fun Dd C H4 s5 m IX hn fC nL nF sz nc np qn=>?_) (fun _ s' ⟨σ',H',I',q'⟩=>wpAny_pure (wpAny_pure ⟨σ',H',I',q'⟩)) fun _ _ e=>e)
  obtain ⟨o,es,ep,ho,hd,r⟩:=hn
  have IP:Inv X ((C,o)::pins) σ H4 s5:=IX.pins_of fun p hp=>(List.mem_cons.mp hp).elim (fun z=>by subst z;exact ⟨ho,fC,nL,nF,fun v z=>by rw [hd] at z;cases z⟩) fun z=>IX.pin p (List.mem_append_right _ z)
  refine wpAny_mono (hx ((C,o)::pins) s5 σ H4 (.ref Dd) (.ref Dd) D.nx IP rfl qn) (fun _ s6 ⟨σ6,H6,I6,q6⟩=>?_) fun _ _ e=>e
  obtain ⟨p1,p2,_⟩:=I6.pin (C,o) (List.mem_append_right _ (List.mem_cons_self ..))
  have I7:Inv X pins σ6 H6 s6:=I6.pins_of fun p hp=>I6.pin p (List.mem_append_right _ (List.mem_cons_of_mem _ hp))
  exact ⟨m,⟨o,es,ep,p1,hd,r⟩,fun h' hs'=>⟨σ6,H6,I7.turned (t':=s6.toks) (it:=C) (fun b o hb e=>(hs'.2 b hb).trans e) p2 nL (.inr sz) nc np,q6⟩⟩
end
end L2
namespace L2
open PySem PySem.Spec PyProof.Rows
theorem i5 {X:Cx} {scope:Scope} {N:List Str} {js:List (Option Nat)} (hf:∀x∈scope.names,x.2≠ .free:=by decide+kernel) (hcell:∀x∈scope.names,x.2≠ .cell:=by decide+kernel)
    (hk:scope.kind= .function:=by rfl) (hn:∀y∈scope.names,y.2= .local→scope.names.lookup y.1=some .local:=by decide+kernel) (hl:js.length=N.length:=by rfl) (hj:∀j∈js,j=none:=by decide):CompOk X scope scope [] N js where
  clos:=closureFor_none hf
  rel:=by
    unfold relabel
    have e:(scope.names.map fun (x:Str×NameKind)=>match x with | (n,k)=>if (k == .free&&X.env.scope.kind == .function&&X.env.kindOf n == some .cell) then (n,NameKind.cell) else (n,k))=scope.names:=by
      refine map_eq_self fun x hx=>?_
      obtain ⟨n,k⟩:=x
      have:(k == NameKind.free)=false:=by simpa using hf _ hx
      simp [this]
    rw [e]
  nocell:=hcell
  kind:=hk
  names:=hn
  same:=fun x c e=>by simp at e
  has:=fun x h=>by
    rcases h with h | h
    · exact absurd rfl (hcell _ (PySem.mem_of_lookup h))
    · exact absurd rfl (hf _ (PySem.mem_of_lookup h))
  len:=hl
  from_:=fun i j h=>by
    have:=hj _ (List.mem_of_getElem? h)
    cases this
structure Own (P:Program) (w:World) (K:PySem.W.Frag) (mg:Str→Option Value) (base:Heap) (k:Nat) (x:Str) (ps:List Str) (sp:Sp):Prop where
  ex:∃(f:Addr) (fd:FuncData),FnOk P w K mg base tL k f fd ps sp∧Binds K fd ps []∧mg x=some (.ref f)∧PySem.W.keepIn K (.ref f)=true
theorem yZ {X:Cx} {k:Nat} {x:Str} {ps:List Str} {sp:Sp} {p pos:Pos} {e:Expr} {es:List Expr} {t:TA} (D:Own X.prog X.w X.K X.mg X.base k x ps sp) (hr:Room k X.A) (hg:Gl X x) (ha:PA X (e::es) t)
    (hdb:(x == ("__debug__":Str))=false:=by decide) (he:starEach (e::es) X.env=(false,eval e X.env)::starEach es X.env:=by rfl) (hpl:(backTo pos (starEach es X.env)).any (·.1)=false:=by rfl):
    PE X (.Call (.Name x p) (e::es) [] pos) (xX sp [] E0 t):=by
  obtain ⟨f,fd,F,b,m,kp⟩:=D.ex
  exact wH F hr hg m kp b .nil AD ha hdb he hpl
structure Def (K:PySem.W.Frag) (mg:Str→Option Value) (x:Str) (st:Stmt) (ps:List Str):Prop where
  ex:∃(f:Addr) (fd:FuncData),Fun K x x st f fd∧mg x=some (.ref f)∧Binds K fd ps []
theorem Def.own {P:Program} {w:World} {K:PySem.W.Frag} {mg:Str→Option Value} {base:Heap} {x:Str} {st:Stmt} {N ps:List Str} {k:Nat} {sp:Sp} (D:Def K mg x st ps) (S:FnScope N ps (af st))
    (len:∀vs H Q E,sp vs H Q E→vs.length=ps.length)
    (hbody:∀(f:Addr) (cdv:Value) (A:Around) (outer:List Env) (s:Shared) (H:Hp) (vs:List V) (Q:VK) (E:XK),Room k (A.deeper (envOfC x (af st) s.heap.objs.size f cdv))→sp vs H Q E→
      ∃t,PSs (me tL P w K mg base N x (af st) f cdv A outer s H E).nox (aB st) t∧t {nx:=fun _ H'=>Q .non H',rt:=Q} (ir N vs) H):Own P w K mg base (k+1) x ps sp:=by
  obtain ⟨f,fd,F,m,b⟩:=D.ex
  exact ⟨f,fd,F.ok S len (hbody f),b,m,F.kp⟩
theorem bK {K:PySem.W.Frag} {h:Heap} {mg:Str→Option Value} {x:Str} {st:Stmt} {ps:List Str} {f:Addr} {oc:Value} {od an:Option Addr} {osl:Array (Option Value)} {kV doc pm cdv ct:Value} (X:K.In h) (G:h.Ns mainGlobals mg)
    (a:PySem.W.nsIn K mainGlobals x=some (some (.ref f))) (l:K.lookup f=some ⟨oc,od, .func (PySem.W.fnOf x x (aE st) (aB st) (af st) .none kV doc pm an cdv ct),osl⟩)
    (c:PySem.W.codeIn K cdv x=true) (k:PySem.W.keepIn K (.ref f)=true)
    (b:∀(kV doc pm:Value) (an:Option Addr) (cdv ct:Value) (us:List Value),us.length=ps.length→bindArgs (PySem.W.fnOf x x (aE st) (aB st) (af st) .none kV doc pm an cdv ct) ⟨us,[]⟩=pure (ps.zip us)):Def K mg x st ps:=
  ⟨f,_,qK l c k,PySem.W.mg_of X G a,(qK (st:=st) l c k).binds b⟩
end L2
namespace Nh
open PySem L2
section
variable {α β:Type} {F:α→β→Prop}
theorem iM:∀{a:List α} {b:List β} {c:List α} {d:List β},Paired F a b→Paired F c d→Paired F (a++c) (b++d)
  | _,_,_,_, .nil,s=>s
  | _,_,_,_, .cons r t,s=> .cons r (iM t s)
theorem sf:∀{a:List α} {b:List β} (n:Nat),Paired F a b→Paired F (a.take n) (b.take n)
  | _,_,0,_=> .nil
  | _,_,_+1, .nil=> .nil
  | _,_,n+1, .cons r t=> .cons r (sf n t)
theorem sj:∀{a:List α} {b:List β} (n:Nat),Paired F a b→Paired F (a.drop n) (b.drop n)
  | _,_,0,r=>r
  | _,_,_+1, .nil=> .nil
  | _,_,n+1, .cons _ t=>sj n t
theorem i6:∀{a:List α} {b:List β},Paired F a b→Paired F a.reverse b.reverse
  | _,_, .nil=> .nil
  | _,_, .cons r t=>by
    rw [List.reverse_cons,List.reverse_cons]
    exact iM (i6 t) (.cons r .nil)
theorem sk:∀{a:List α} {b:List β} {i:Nat} {y:β},Paired F a b→b[i]? =some y→∃x,a[i]? =some x∧F x y
  | _,_,_,_, .nil,e=>by simp at e
  | _,_,0,_, .cons r _,e=>by simp at e;subst e;exact ⟨_,rfl,r⟩
  | _,_,i+1,x, .cons _ t,e=>by
    obtain ⟨u,h1,h2⟩:=sk (i:=i) (y:=x) t (by simpa using e)
    exact ⟨u,by simpa using h1,h2⟩
theorem u6 {a:List α} {b:List β} (h:Paired F a b):∀k:Nat,Paired F (List.replicate k a).flatten (List.replicate k b).flatten
  | 0=> .nil
  | k+1=>by
    rw [List.replicate_succ,List.replicate_succ,List.flatten_cons,List.flatten_cons]
    exact iM h (u6 h k)
end
abbrev Pc:=Nat×Int
section
variable {H H':Hp} {l:Addr} {xs ys:List V} {c:List Pc}
end
section
variable {H H':Hp} {a:Addr} {c d:List Pc}
end
def aq (p:Pc):PyData:= .tuple [.str ⟨#[p.1]⟩, .int p.2]
def jj (c:List Pc):PyData:= .list (c.map aq)
def NailsOk (c:List Pc):Prop:=∀p∈c,p.1 < 128
theorem AJ {p:Pc} (h:p.1 < 128):(aq p).canLay0=true:=by
  have:p.1 < 1114112:=by lia
  simp [aq,PyData.canLay0,PyData.canLayAll0,PyData.strOk,this]
theorem o8:∀{c:List Pc},NailsOk c→PyData.canLayAll0 (c.map aq)=true∧PyData.depthAll (c.map aq)≤1
  | [],_=>by simp [PyData.canLayAll0,PyData.depthAll]
  | p::c,h=>by
    have ih:=o8 (c:=c) fun q hq=>h q (List.mem_cons_of_mem _ hq)
    have h1:=AJ (h p (List.mem_cons_self ..))
    have h2:=ih.2
    simp only [List.map_cons,PyData.canLayAll0,PyData.depthAll,h1,ih.1,Bool.and_self,true_and]
    have h3:(aq p).depth=1:=by simp [aq,PyData.depth,PyData.depthAll]
    lia
theorem km {c:List Pc} (h:NailsOk c):SeqAt.shaped (jj c)=true:=by
  have q:=o8 h
  have q2:=q.2
  unfold SeqAt.shaped
  simp only [jj,PyData.canLay0,PyData.depth,q.1,Bool.true_and]
  exact decide_eq_true (by lia)
theorem y0 (p q:Pc):PyData.eqv (aq p) (aq q)=decide (p=q):=by
  obtain ⟨n,a⟩:=p
  obtain ⟨m,b⟩:=q
  simp only [aq,PyData.eqv,PyData.eqvAll,Bool.and_true]
  rw [Bool.eq_iff_iff]
  simp
theorem mG:∀c d:List Pc,PyData.eqvAll (c.map aq) (d.map aq)=decide (c=d)
  | [],[]=>by simp [PyData.eqvAll]
  | [],_::_=>by simp [PyData.eqvAll]
  | _::_,[]=>by simp [PyData.eqvAll]
  | p::c,q::d=>by
    simp only [List.map_cons,PyData.eqvAll,y0,mG c d]
    rw [Bool.eq_iff_iff]
    simp
theorem u7 (c d:List Pc):PyData.eqv (jj c) (jj d)=decide (c=d):=by
  simp only [jj,PyData.eqv,mG]
end Nh
namespace PL
open PySem PySem.Spec PyProof.Rows L2 Nh
def BW:ip→PyData
  | .inl i=> .int i
  | .inr x=> .str x
mutual
inductive Rp (K:PySem.W.Frag) (H:Hp):V→PyData→Prop
  | non:Rp K H .non .none
  | bl (b:Bool):Rp K H (.bl b) (.bool b)
  | int (i:Int):Rp K H (.int i) (.int i)
  | str (x:Str):Rp K H (.str x) (.str x)
  | lst {a:Addr} {xs:List V} {ds:List PyData}:SqL K H a xs→RpA K H xs ds→Rp K H (.ref a) (.list ds)
  | tup {a:Addr} {xs:List V} {ds:List PyData}:SqT K H a xs→RpA K H xs ds→Rp K H (.ref a) (.tuple ds)
  | dct {a:Addr} {us:List (ip×V)} {kvs:List (PyData×PyData)}:Rd H a (.dK us)→RpK K H us kvs→Rp K H (.ref a) (.dict kvs)
inductive RpA (K:PySem.W.Frag) (H:Hp):List V→List PyData→Prop
  | nil:RpA K H [] []
  | cons {x:V} {xs:List V} {d:PyData} {ds:List PyData}:Rp K H x d→RpA K H xs ds→RpA K H (x::xs) (d::ds)
inductive RpK (K:PySem.W.Frag) (H:Hp):List (ip×V)→List (PyData×PyData)→Prop
  | nil:RpK K H [] []
  | cons {k:ip} {x:V} {us:List (ip×V)} {d:PyData} {kvs:List (PyData×PyData)}:Rp K H x d→RpK K H us kvs→RpK K H ((k,x)::us) ((BW k,d)::kvs)
end
mutual
def cY:PyData→Bool
  | .none=>true
  | .bool _=>true
  | .int _=>true
  | .str _=>true
  | .list _=>false
  | .tuple xs=>bx xs
  | .dict _=>false
def bx:List PyData→Bool
  | []=>true
  | d::ds=>cY d&&bx ds
end
def x6:HO→Bool
  | .tup _=>true
  | .frz _ _=>true
  | _=>false
def tups (H:Hp):Hp:=fun b=>(H b).filter x6
theorem jT (H:Hp):Same (tups H) H:=fun b o h=>(Option.filter_eq_some_iff.mp h).1
theorem iN {H:Hp} {b:Addr} {o:HO} (h:H b=some o) (c:x6 o=true):tups H b=some o:=Option.filter_eq_some_iff.mpr ⟨h,c⟩
theorem o9 {H:Hp} {l:Addr} {xs ys:List V} (h:H l=some (.lst xs)):tups (dg H l (.lst ys))=tups H:=by
  funext b
  unfold tups
  by_cases e:b=l
  · subst e
    rw [bR,h]
    rfl
  · rw [aK e]
section
variable {K:PySem.W.Frag} {H H':Hp}
theorem o_ {a:Addr} {xs:List V} (h:SqT K H a xs):SqT K (tups H) a xs:=by
  rcases h with (h | ⟨o,h⟩) | h
  · exact .inl (.inl (iN h rfl))
  · exact .inl (.inr ⟨o,iN h rfl⟩)
  · exact .inr h
theorem nN {a:Addr} {u:HO} (s:Same H H') (h:Rd H a u):Rd H' a u:=by
  rcases h with h | ⟨o,h⟩
  · exact .inl (s _ _ h)
  · exact .inr ⟨o,s _ _ h⟩
theorem Rp.same (s:Same H H') {v:V} {d:PyData} (h:Rp K H v d):Rp K H' v d:=Rp.rec (motive_1:=fun v d _=>Rp K H' v d) (motive_2:=fun v d _=>RpA K H' v d) (motive_3:=fun v d _=>RpK K H' v d) .non .bl .int .str (fun h _ r=> .lst (s.seq h) r) (fun h _ r=> .tup (s.tup h) r) (fun h _ r=> .dct (nN s h) r) .nil (fun _ _ a b=> .cons a b) .nil (fun _ _ a b=> .cons a b) h
theorem RpA.same (s:Same H H') {v:List V} {d:List PyData} (h:RpA K H v d):RpA K H' v d:=RpA.rec (motive_1:=fun v d _=>Rp K H' v d) (motive_2:=fun v d _=>RpA K H' v d) (motive_3:=fun v d _=>RpK K H' v d) .non .bl .int .str (fun h _ r=> .lst (s.seq h) r) (fun h _ r=> .tup (s.tup h) r) (fun h _ r=> .dct (nN s h) r) .nil (fun _ _ a b=> .cons a b) .nil (fun _ _ a b=> .cons a b) h
theorem RpK.same (s:Same H H') {v:List (ip×V)} {d:List (PyData×PyData)} (h:RpK K H v d):RpK K H' v d:=RpK.rec (motive_1:=fun v d _=>Rp K H' v d) (motive_2:=fun v d _=>RpA K H' v d) (motive_3:=fun v d _=>RpK K H' v d) .non .bl .int .str (fun h _ r=> .lst (s.seq h) r) (fun h _ r=> .tup (s.tup h) r) (fun h _ r=> .dct (nN s h) r) .nil (fun _ _ a b=> .cons a b) .nil (fun _ _ a b=> .cons a b) h
theorem Rp.cold {v:V} {d:PyData} (h:Rp K H v d) (e:cY d=true):Rp K (tups H) v d:=Rp.rec (motive_1:=fun v d _=>cY d=true→Rp K (tups H) v d) (motive_2:=fun v d _=>bx d=true→RpA K (tups H) v d) (motive_3:=fun _ _ _=>True) (fun _=> .non) (fun b _=> .bl b) (fun i _=> .int i) (fun x _=> .str x) (fun _ _ _ e=>nomatch e) (fun h _ r e=> .tup (o_ h) (r e)) (fun _ _ _ e=>nomatch e) (fun _=> .nil) (fun _ _ a b e=> .cons (a (Bool.and_eq_true_iff.mp e).1) (b (Bool.and_eq_true_iff.mp e).2)) trivial (fun _ _ _ _=>trivial) h e
theorem RpA.cold {v:List V} {d:List PyData} (h:RpA K H v d) (e:bx d=true):RpA K (tups H) v d:=RpA.rec (motive_1:=fun v d _=>cY d=true→Rp K (tups H) v d) (motive_2:=fun v d _=>bx d=true→RpA K (tups H) v d) (motive_3:=fun _ _ _=>True) (fun _=> .non) (fun b _=> .bl b) (fun i _=> .int i) (fun x _=> .str x) (fun _ _ _ e=>nomatch e) (fun h _ r e=> .tup (o_ h) (r e)) (fun _ _ _ e=>nomatch e) (fun _=> .nil) (fun _ _ a b e=> .cons (a (Bool.and_eq_true_iff.mp e).1) (b (Bool.and_eq_true_iff.mp e).2)) trivial (fun _ _ _ _=>trivial) h e
theorem Rp.dof' {v:V} {d:PyData} (h:Rp K H v d) (e:d.canLay0=true):DOf K H v d:=Rp.rec (motive_1:=fun v d _=>d.canLay0=true→DOf K H v d) (motive_2:=fun v d _=>PyData.canLayAll0 d=true→DAll K H v d) (motive_3:=fun _ _ _=>True) (fun _=> .non) (fun b _=> .bl b) (fun i _=> .int i) (fun x _=> .str x) (fun h _ r e=> .lst h (r e)) (fun h _ r e=> .tup h (r e)) (fun _ _ _ e=>nomatch e) (fun _=> .nil) (fun _ _ a b e=> .cons (a (Bool.and_eq_true_iff.mp e).1) (b (Bool.and_eq_true_iff.mp e).2)) trivial (fun _ _ _ _=>trivial) h e
theorem Rp.dof {v:V} {d:PyData} (h:Rp K H v d) (e:SeqAt.shaped d=true):DOf K H v d:=h.dof' (SeqAt.canLay_of_shaped e)
theorem RpA.pr {vs:List V} {ds:List PyData} (h:RpA K H vs ds):Paired (Rp K H) vs ds:=RpA.rec (motive_1:=fun _ _ _=>True) (motive_2:=fun v d _=>Paired (Rp K H) v d) (motive_3:=fun _ _ _=>True) trivial (fun _=>trivial) (fun _=>trivial) (fun _=>trivial) (fun _ _ _=>trivial) (fun _ _ _=>trivial) (fun _ _ _=>trivial) .nil (fun h _ _ b=> .cons h b) trivial (fun _ _ _ _=>trivial) h
theorem RpA.of {vs:List V} {ds:List PyData} (h:Paired (Rp K H) vs ds):RpA K H vs ds:=by
  induction h with
  | nil=>exact .nil
  | cons a _ b=>exact .cons a b
theorem RpA.len {vs:List V} {ds:List PyData} (h:RpA K H vs ds):vs.length=ds.length:=Paired.length h.pr
theorem RpA.append {vs us:List V} {ds es:List PyData} (h:RpA K H vs ds) (k:RpA K H us es):RpA K H (vs++us) (ds++es):= .of (iM h.pr k.pr)
theorem RpA.take {vs:List V} {ds:List PyData} (n:Nat) (h:RpA K H vs ds):RpA K H (vs.take n) (ds.take n):= .of (sf n h.pr)
theorem RpA.drop {vs:List V} {ds:List PyData} (n:Nat) (h:RpA K H vs ds):RpA K H (vs.drop n) (ds.drop n):= .of (sj n h.pr)
theorem RpA.rev {vs:List V} {ds:List PyData} (h:RpA K H vs ds):RpA K H vs.reverse ds.reverse:= .of (i6 h.pr)
theorem RpA.rep {vs:List V} {ds:List PyData} (n:Nat) (h:RpA K H vs ds):RpA K H (List.replicate n vs).flatten (List.replicate n ds).flatten:= .of (u6 h.pr n)
theorem RpA.get {vs:List V} {ds:List PyData} {i:Nat} {d:PyData} (h:RpA K H vs ds) (e:ds[i]? =some d):∃v,vs[i]? =some v∧Rp K H v d:=sk h.pr e
theorem RpA.dropLast {vs:List V} {ds:List PyData} (h:RpA K H vs ds):RpA K H vs.dropLast ds.dropLast:=by
  rw [List.dropLast_eq_take,List.dropLast_eq_take,h.len]
  exact h.take _
theorem RpA.snoc {vs:List V} {ds:List PyData} {v:V} {d:PyData} (h:RpA K H vs ds) (k:Rp K H v d):RpA K H (vs++[v]) (ds++[d]):=h.append (.cons k .nil)
end
inductive Pt where
  | fl (d:PyData) | ol (ds:List PyData)
def Pt.val:Pt→PyData
  | .fl d=>d
  | .ol ds=> .list ds
inductive Sl where
  /-- nothing is known -/
  | no
  /-- never written again -/
  | sh (d:PyData)
  /-- a list of one's own -/
  | ow (ds:List PyData)
  /-- a dict of one's own,its values lists of one's own -/
  | od (kvs:List (ip×List PyData))
  /-- a tuple with lists of one's own -/
  | tx (ps:List Pt)
  /-- (a part of an expression) the value of a name -/
  | al (i:Nat)
  /-- (a part of an expression) as it stands just now -/
  | br (d:PyData)
def PtsOk (K:PySem.W.Frag) (F H:Hp):List V→List Pt→List Addr→Prop
  | [],[],A=>A=[]
  | v::vs, .fl d::ps,A=>Rp K F v d∧PtsOk K F H vs ps A
  | v::vs, .ol ds::ps,A=>∃l us A',v= .ref l∧A=l::A'∧H l=some (.lst us)∧RpA K F us ds∧PtsOk K F H vs ps A'
  | _,_,_=>False
def DlOk (K:PySem.W.Frag) (F H:Hp):List (ip×V)→List (ip×List PyData)→List Addr→Prop
  | [],[],A=>A=[]
  | p::us,q::kvs,A=>∃l vs A',p=(q.1, .ref l)∧A=l::A'∧H l=some (.lst vs)∧RpA K F vs q.2∧DlOk K F H us kvs A'
  | _,_,_=>False
def SlOk (K:PySem.W.Frag) (F H:Hp) (σ:L2.St) (o:Option V):Sl→List Addr→Prop
  | .no,A=>A=[]
  | .sh d,A=>A=[]∧∃v,o=some v∧Rp K F v d
  | .ow ds,A=>∃l vs,o=some (.ref l)∧A=[l]∧H l=some (.lst vs)∧RpA K F vs ds
  | .od kvs,A=>∃l us A',o=some (.ref l)∧A=l::A'∧H l=some (.dK us)∧DlOk K F H us kvs A'
  | .tx ps,A=>∃t vs,o=some (.ref t)∧F t=some (.tup vs)∧PtsOk K F H vs ps A
  | .al i,A=>A=[]∧∃v,o=some v∧σ[i]? =some (some v)
  | .br d,A=>A=[]∧∃v,o=some v∧Rp K H v d
def Sl.isBr:Sl→Bool
  | .br _=>true
  | _=>false
def Sl.isAl:Sl→Bool
  | .al _=>true
  | .br _=>true
  | _=>false
section
variable {K:PySem.W.Frag} {F F' H H':Hp} {σ σ':L2.St}
theorem PtsOk.stay (s:Same F F'):∀{vs:List V} {ps:List Pt} {A:List Addr},(∀b∈A,H' b=H b)→PtsOk K F H vs ps A→PtsOk K F' H' vs ps A
  | [],[],A,_,h=>h
  | v::vs, .fl d::ps,A,e,h=>⟨h.1.same s,PtsOk.stay s e h.2⟩
  | v::vs, .ol ds::ps,A,e,h=>by
    obtain ⟨l,us,A',rfl,rfl,hl,hr,q⟩:=h
    exact ⟨l,us,A',rfl,rfl,(e l (List.mem_cons_self ..)).trans hl,hr.same s,q.stay s fun b hb=>e b (List.mem_cons_of_mem _ hb)⟩
  | [],_::_,_,_,h=>False.elim h
  | _::_,[],_,_,h=>False.elim h
theorem DlOk.stay (s:Same F F'):∀{us:List (ip×V)} {kvs:List (ip×List PyData)} {A:List Addr},(∀b∈A,H' b=H b)→DlOk K F H us kvs A→DlOk K F' H' us kvs A
  | [],[],A,_,h=>h
  | p::us,q::kvs,A,e,h=>by
    obtain ⟨l,vs,A',rfl,rfl,hl,hr,k⟩:=h
    exact ⟨l,vs,A',rfl,rfl,(e l (List.mem_cons_self ..)).trans hl,hr.same s,k.stay s fun b hb=>e b (List.mem_cons_of_mem _ hb)⟩
  | [],_::_,_,_,h=>False.elim h
  | _::_,[],_,_,h=>False.elim h
theorem DlOk.some:∀{us:List (ip×V)} {kvs:List (ip×List PyData)} {A:List Addr},DlOk K F H us kvs A→∀a∈A,∃vs,H a=some (.lst vs)
  | [],[],A,h,a,ha=>by rw [show A=[] from h] at ha;cases ha
  | p::us,q::kvs,A,h,a,ha=>by
    obtain ⟨l,vs,A',rfl,rfl,hl,hr,k⟩:=h
    rcases List.mem_cons.mp ha with e | e
    · subst e;exact ⟨vs,hl⟩
    · exact k.some a e
  | [],_::_,_,h,_,_=>False.elim h
  | _::_,[],_,h,_,_=>False.elim h
theorem PtsOk.some:∀{vs:List V} {ps:List Pt} {A:List Addr},PtsOk K F H vs ps A→∀a∈A,∃us,H a=some (.lst us)
  | [],[],A,h,a,ha=>by rw [show A=[] from h] at ha;cases ha
  | v::vs, .fl d::ps,A,h,a,ha=>PtsOk.some h.2 a ha
  | v::vs, .ol ds::ps,A,h,a,ha=>by
    obtain ⟨l,us,A',rfl,rfl,hl,hr,q⟩:=h
    rcases List.mem_cons.mp ha with e | e
    · subst e;exact ⟨us,hl⟩
    · exact q.some a e
  | [],_::_,_,h,_,_=>False.elim h
  | _::_,[],_,h,_,_=>False.elim h
theorem PtsOk.rp (s:Same F H):∀{vs:List V} {ps:List Pt} {A:List Addr},PtsOk K F H vs ps A→RpA K H vs (ps.map Pt.val)
  | [],[],A,_=> .nil
  | v::vs, .fl d::ps,A,h=> .cons (h.1.same s) (PtsOk.rp s h.2)
  | v::vs, .ol ds::ps,A,h=>by
    obtain ⟨l,us,A',rfl,rfl,hl,hr,q⟩:=h
    exact .cons (.lst (SqL.of hl) (hr.same s)) (q.rp s)
  | [],_::_,_,h=>False.elim h
  | _::_,[],_,h=>False.elim h
theorem SlOk.stay {o:Option V} {s:Sl} {A:List Addr} (hF:Same F F') (e:∀b∈A,H' b=H b) (hb:s.isBr=true→Same H H') (h:SlOk K F H σ o s A):SlOk K F' H' σ o s A:=by
  cases s with
  | no=>exact h
  | sh d=>obtain ⟨rfl,v,rfl,r⟩:=h;exact ⟨rfl,v,rfl,r.same hF⟩
  | ow ds=>obtain ⟨l,vs,rfl,rfl,hl,r⟩:=h;exact ⟨l,vs,rfl,rfl,(e l (by simp)).trans hl,r.same hF⟩
  | od kvs=>obtain ⟨l,us,A',rfl,rfl,hl,r⟩:=h;exact ⟨l,us,A',rfl,rfl,(e l (by simp)).trans hl,r.stay hF fun b hb=>e b (List.mem_cons_of_mem _ hb)⟩
  | tx ps=>obtain ⟨t,vs,rfl,ht,r⟩:=h;exact ⟨t,vs,rfl,hF _ _ ht,r.stay hF e⟩
  | al i=>exact h
  | br d=>obtain ⟨rfl,v,rfl,r⟩:=h;exact ⟨rfl,v,rfl,r.same (hb rfl)⟩
theorem SlOk.mut {o:Option V} {s:Sl} {A:List Addr} (h:SlOk K F H σ o s A):∀a∈A,(∃us,H a=some (.lst us))∨∃us,H a=some (.dK us):=by
  cases s with
  | no=>intro a ha;rw [show A=[] from h] at ha;cases ha
  | sh d=>obtain ⟨rfl,_⟩:=h;intro a ha;cases ha
  | ow ds=>obtain ⟨l,vs,rfl,rfl,hl,r⟩:=h;intro a ha;rw [List.mem_singleton.mp ha];exact .inl ⟨_,hl⟩
  | od kvs=>
    obtain ⟨l,vs,A',rfl,rfl,hl,r⟩:=h
    intro a ha
    rcases List.mem_cons.mp ha with z | z
    · rw [z];exact .inr ⟨_,hl⟩
    · exact .inl (r.some a z)
  | tx ps=>obtain ⟨t,vs,rfl,ht,r⟩:=h;exact fun a ha=> .inl (r.some a ha)
  | al i=>obtain ⟨rfl,_⟩:=h;intro a ha;cases ha
  | br d=>obtain ⟨rfl,_⟩:=h;intro a ha;cases ha
end
inductive SAll (P:Option V→Sl→List Addr→Prop):List (Option V)→List Sl→List Addr→Prop
  | nil:SAll P [] [] []
  | cons {o:Option V} {s:Sl} {A:List Addr} {os:List (Option V)} {ss:List Sl} {B:List Addr}:P o s A→SAll P os ss B→SAll P (o::os) (s::ss) (A++B)
section
variable {P P':Option V→Sl→List Addr→Prop}
theorem SAll.len {os:List (Option V)} {ss:List Sl} {A:List Addr} (h:SAll P os ss A):os.length=ss.length:=by
  induction h with
  | nil=>rfl
  | cons _ _ b=>exact congrArg (· +1) b
theorem SAll.mono {os:List (Option V)} {ss:List Sl} {A:List Addr} (h:SAll P os ss A):(∀o s B,s∈ss→(∀b∈B,b∈A)→P o s B→P' o s B)→SAll P' os ss A:=by
  induction h with
  | nil=>exact fun _=> .nil
  | cons h _ r=>exact fun f=> .cons (f _ _ _ (List.mem_cons_self ..) (fun b hb=>List.mem_append_left _ hb) h) (r fun o s B hs hB q=>f o s B (List.mem_cons_of_mem _ hs) (fun b hb=>List.mem_append_right _ (hB b hb)) q)
theorem SAll.all {R:Addr→Prop} (hR:∀o s B,P o s B→∀b∈B,R b) {os:List (Option V)} {ss:List Sl} {A:List Addr} (h:SAll P os ss A):∀a∈A,R a:=by
  induction h with
  | nil=>exact fun _ ha=>nomatch ha
  | cons h _ r=>exact fun a ha=>(List.mem_append.mp ha).elim (hR _ _ _ h a) (r a)
theorem SAll.at:∀{os:List (Option V)} {ss:List Sl} {A:List Addr} {k:Nat} {s:Sl},SAll P os ss A→ss[k]? =some s→
    ∃o A0 A1 A2,A=A0++(A1++A2)∧os[k]? =some o∧P o s A1∧∀(P':Option V→Sl→List Addr→Prop) (o':Option V) (s':Sl) (A1':List Addr),P' o' s' A1'→
      (∀o s B,s∈ss→(∀b∈B,b∈A0∨b∈A2)→P o s B→P' o s B)→SAll P' (os.set k o') (ss.set k s') (A0++(A1'++A2))
  | _,_,_,_,_, .nil,e=>by simp at e
  | _,_,_,0,s, .cons (o:=o) (A:=A) (B:=B) h r,e=>by
    simp at e;subst e
    refine ⟨o,[],A,B,by simp,rfl,h,fun P' o' s' A1' h' f=>?_⟩
    have z:SAll P' _ _ (A1'++B):= .cons h' (r.mono (P':=P') fun o s B hs hB q=>f o s B (List.mem_cons_of_mem _ hs) (fun b hb=> .inr (hB b hb)) q)
    exact z
  | _,_,_,k+1,s, .cons (o:=o) (A:=A) (B:=B) h r,e=>by
    obtain ⟨o2,A0,A1,A2,eA,eo,hp,f⟩:=r.at (k:=k) (s:=s) (by simpa using e)
    subst eA
    refine ⟨o2,A++A0,A1,A2,by simp,by simpa using eo,hp,fun P' o' s' A1' h' g=>?_⟩
    have z:=f P' o' s' A1' h' fun o s B hs hB q=>g o s B (List.mem_cons_of_mem _ hs) (fun b hb=>(hB b hb).imp (fun x=>List.mem_append_right _ x) id) q
    rw [List.append_assoc]
    exact .cons (g _ _ _ (List.mem_cons_self ..) (fun b hb=> .inl (List.mem_append_left _ hb)) h) z
end
end PL
namespace PL
open PySem L2 Nh
abbrev Sg:=L2.St
structure FrF (K:PySem.W.Frag) (B F:Hp) (A:List Addr) (σ:Sg) (H:Hp) (E:List Sl) (xs:List V) (Xs:List Sl):Prop where
  bf:Same B F
  fh:Same F H
  tf:Same (tups H) F
  sl:SAll (SlOk K F H σ) (xs.map some++σ) (Xs++E) A
  nd:A.Nodup
  fr:∀a∈A,F a=none
  len:xs.length=Xs.length
  pl:∀s∈E,s.isAl=false
def Frm (K:PySem.W.Frag) (B:Hp) (σ:Sg) (H:Hp) (E:List Sl) (xs:List V) (Xs:List Sl):Prop:=∃F A,FrF K B F A σ H E xs Xs
def Sl.val:Sl→Option PyData
  | .sh d=>some d
  | .ow ds=>some (.list ds)
  | .tx ps=>some (.tuple (ps.map Pt.val))
  | .br d=>some d
  | _=>none
def look (E:List Sl):Sl→Option PyData
  | .al i=>(E[i]?).bind Sl.val
  | s=>s.val
def cb:Sl→Bool
  | .br _=>true
  | .tx _=>true
  | _=>false
def dZ (E:List Sl):Sl→Bool
  | .al i=>(E[i]?).any cb
  | s=>cb s
def RpF (K:PySem.W.Frag) (F H:Hp) (v:V):PyData→Prop
  | .list ds=>∃a vs,v= .ref a∧SqL K H a vs∧RpA K F vs ds
  | d=>Rp K F v d
def pc (F H:Hp) (A:List Addr):Hp:=fun b=>if b∈A then H b else F b
theorem nO {F H:Hp} {A:List Addr} {b:Addr} (h:b∈A):pc F H A b=H b:=if_pos h
theorem lg {F H:Hp} {A:List Addr} {b:Addr} (h:b∉A):pc F H A b=F b:=if_neg h
section
variable {K:PySem.W.Frag} {B F:Hp} {A:List Addr} {σ:Sg} {H:Hp} {E:List Sl} {xs:List V} {Xs:List Sl} {v:V} {s:Sl} {d:PyData}
theorem RpF.of (h:Rp K F v d) (s:Same F H):RpF K F H v d:=by
  cases h with
  | lst h r=>exact ⟨_,_,rfl,s.seq h,r⟩
  | non=>exact .non
  | bl b=>exact .bl b
  | int i=>exact .int i
  | str x=>exact .str x
  | tup h r=>exact .tup h r
  | dct h r=>exact .dct h r
theorem SlOk.val {o:Option V} {A1:List Addr} (h:SlOk K F H σ o s A1) (hF:Same F H) (e:s.val=some d):∃v,o=some v∧Rp K H v d∧(cb s=false→RpF K F H v d):=by
  cases s with
  | no=>cases e
  | sh d'=>
    obtain ⟨rfl,v,rfl,r⟩:=h
    cases e
    exact ⟨v,rfl,r.same hF,fun _=>RpF.of r hF⟩
  | ow ds=>
    obtain ⟨l,vs,rfl,rfl,hl,r⟩:=h
    cases e
    exact ⟨_,rfl, .lst (SqL.of hl) (r.same hF),fun _=>⟨_,_,rfl,SqL.of hl,r⟩⟩
  | od kvs=>cases e
  | tx ps=>
    obtain ⟨t,vs,rfl,ht,r⟩:=h
    cases e
    exact ⟨_,rfl, .tup (SqT.of (hF _ _ ht)) (r.rp hF),fun z=>by cases z⟩
  | al i=>cases e
  | br d'=>
    obtain ⟨rfl,v,rfl,r⟩:=h
    cases e
    exact ⟨v,rfl,r,fun z=>by cases z⟩
theorem FrF.slen (h:FrF K B F A σ H E xs Xs):σ.length=E.length:=by
  have e:=h.sl.len
  have:=h.len
  simp only [List.length_append,List.length_map] at e
  lia
theorem FrF.var {i:Nat} (h:FrF K B F A σ H E xs Xs) (e:E[i]? =some s):∃o A1,σ[i]? =some o∧SlOk K F H σ o s A1:=by
  obtain ⟨o,A0,A1,A2,eA,eo,hp,_⟩:=h.sl.at (k:=Xs.length+i) (s:=s) (by rw [List.getElem?_append_right (by exact Nat.le_add_right _ _)];simpa using e)
  rw [List.getElem?_append_right (by rw [List.length_map,h.len];exact Nat.le_add_right _ _),List.length_map,h.len,Nat.add_sub_cancel_left] at eo
  exact ⟨o,A1,eo,hp⟩
theorem FrF.ext {k:Nat} (h:FrF K B F A σ H E xs Xs) (e:Xs[k]? =some s):∃v A1,xs[k]? =some v∧SlOk K F H σ (some v) s A1:=by
  have hk:k < Xs.length:=(List.getElem?_eq_some_iff.mp e).1
  obtain ⟨o,A0,A1,A2,eA,eo,hp,_⟩:=h.sl.at (k:=k) (s:=s) (by rw [List.getElem?_append_left hk];exact e)
  rw [List.getElem?_append_left (by rw [List.length_map,h.len];assumption),List.getElem?_map] at eo
  cases q:xs[k]? with
  | none=>rw [q] at eo;cases eo
  | some v=>rw [q] at eo;cases eo;exact ⟨v,A1,rfl,hp⟩
theorem FrF.look {k:Nat} (h:FrF K B F A σ H E xs Xs) (e:Xs[k]? =some s) (q:look E s=some d):∃v,xs[k]? =some v∧Rp K H v d∧(dZ E s=false→RpF K F H v d):=by
  obtain ⟨v,A1,ev,hs⟩:=h.ext e
  cases s with
  | al i=>
    obtain ⟨rfl,w,ew,hw⟩:=hs
    cases ew
    cases ei:E[i]? with
    | none=>simp [PL.look,ei] at q
    | some t=>
      obtain ⟨o,A2,eo,ht⟩:=h.var ei
      rw [hw] at eo
      cases eo
      obtain ⟨v',e',r,c⟩:=ht.val h.fh (d:=d) (by simpa [PL.look,ei] using q)
      cases e'
      exact ⟨v,ev,r,fun z=>c (by simpa [dZ,ei] using z)⟩
  | no=>cases q
  | od kvs=>cases q
  | sh d'=>obtain ⟨v',e',r,c⟩:=hs.val h.fh q;cases e';exact ⟨v,ev,r,c⟩
  | ow ds=>obtain ⟨v',e',r,c⟩:=hs.val h.fh q;cases e';exact ⟨v,ev,r,c⟩
  | tx ps=>obtain ⟨v',e',r,c⟩:=hs.val h.fh q;cases e';exact ⟨v,ev,r,c⟩
  | br d'=>obtain ⟨v',e',r,c⟩:=hs.val h.fh q;cases e';exact ⟨v,ev,r,c⟩
theorem FrF.look0 (h:FrF K B F A σ H E (v::xs) (s::Xs)) (q:PL.look E s=some d):Rp K H v d∧(dZ E s=false→RpF K F H v d):=by
  obtain ⟨v',e,r⟩:=h.look (k:=0) rfl q
  cases e
  exact r
theorem FrF.look1 {w:V} {t:Sl} (h:FrF K B F A σ H E (w::v::xs) (t::s::Xs)) (q:PL.look E s=some d):Rp K H v d∧(dZ E s=false→RpF K F H v d):=by
  obtain ⟨v',e,r⟩:=h.look (k:=1) rfl q
  cases e
  exact r
theorem FrF.mutA (h:FrF K B F A σ H E xs Xs):∀a∈A,(∃us,H a=some (.lst us))∨∃us,H a=some (.dK us):=
  SAll.all (R:=fun a=>(∃us,H a=some (.lst us))∨∃us,H a=some (.dK us)) (fun _ _ _ q=>q.mut) h.sl
theorem FrF.newA {p:Addr} (h:FrF K B F A σ H E xs Xs) (hp:H p=none):p∉A:=fun hm=>by
  rcases h.mutA p hm with ⟨_,z⟩ | ⟨_,z⟩ <;> rw [hp] at z <;> cases z
theorem FrF.cold {u:V} {e:PyData} (h:FrF K B F A σ H E xs Xs) (r:Rp K H u e) (f:cY e=true):Rp K F u e:=(r.cold f).same h.tf
theorem FrF.coldA {us:List V} {es:List PyData} (h:FrF K B F A σ H E xs Xs) (r:RpA K H us es) (f:bx es=true):RpA K F us es:=(r.cold f).same h.tf
theorem FrF.push (h:FrF K B F A σ H E xs Xs) (q:SlOk K F H σ (some v) s []):FrF K B F A σ H E (v::xs) (s::Xs):=
  ⟨h.bf,h.fh,h.tf, .cons (A:=[]) q h.sl,h.nd,h.fr,by simp [h.len],h.pl⟩
theorem FrF.pop (h:FrF K B F A σ H E (v::xs) (s::Xs)):∃A',FrF K B F A' σ H E xs Xs:=by
  obtain ⟨bf,fh,tf,sl,nd,fr,len,pl⟩:=h
  generalize hT:List.map some (v::xs)++σ=T at sl
  generalize hS:(s::Xs)++E=S at sl
  cases sl with
  | nil=>cases hS
  | cons q r=>
    injection hT with _ hT
    injection hS with _ hS
    subst hT hS
    exact ⟨_,bf,fh,tf,r,(List.nodup_append.mp nd).2.1,fun a ha=>fr a (List.mem_append_right _ ha),by simpa using len,pl⟩
theorem FrF.grow {H':Hp} (h:FrF K B F A σ H E xs Xs) (g:Same H H'):FrF K B (fun b=>if b∈A then none else H' b) A σ H' E xs Xs:=by
  have nF:∀b o,F b=some o→b∉A:=fun b o e hb=>by rw [h.fr b hb] at e;cases e
  have FF:Same F (fun b=>if b∈A then none else H' b):=fun b o e=>by
    show (if b∈A then none else H' b)=some o
    rw [if_neg (nF b o e)]
    exact g _ _ (h.fh _ _ e)
  have hA:∀b∈A,H' b=H b:=fun b hb=>by
    rcases h.mutA b hb with ⟨_,z⟩ | ⟨_,z⟩ <;> rw [z,g _ _ z]
  refine ⟨h.bf.trans FF,fun b o e=>?_,fun b o e=>?_,h.sl.mono fun o s C _ hC q=>q.stay FF (fun b hb=>hA b (hC b hb)) fun _=>g,h.nd,fun a ha=>if_pos ha,h.len,h.pl⟩
  · by_cases hb:b∈A
    · rw [if_pos hb] at e;cases e
    · rw [if_neg hb] at e;exact e
  · obtain ⟨e1,e2⟩:=Option.filter_eq_some_iff.mp e
    show (if b∈A then none else H' b)=some o
    by_cases hb:b∈A
    · rw [hA b hb] at e1
      rcases h.mutA b hb with ⟨_,z⟩ | ⟨_,z⟩ <;> rw [z] at e1 <;> cases e1 <;> cases e2
    · rw [if_neg hb];exact e1
theorem FrF.newl {p:Addr} {vs:List V} {ds:List PyData} (h:FrF K B F A σ H E xs Xs) (r:RpA K F vs ds) (hp:H p=none):FrF K B F (p::A) σ (dg H p (.lst vs)) E (.ref p::xs) (.ow ds::Xs):=by
  have g:Same H (dg H p (.lst vs)):=fM hp _
  have nA:=h.newA hp
  refine ⟨h.bf,h.fh.trans g,fun b o e=>?_, .cons (A:=[p]) ⟨p,vs,rfl,rfl,bR,r⟩ (h.sl.mono fun o s C _ hC q=>q.stay (Same.refl _) (fun b hb=>aK fun z=>nA (z▸hC b hb)) fun _=>g),List.nodup_cons.mpr ⟨nA,h.nd⟩,fun a ha=>?_,by simp [h.len],h.pl⟩
  · obtain ⟨e1,e2⟩:=Option.filter_eq_some_iff.mp e
    by_cases hb:b=p
    · subst hb;rw [bR] at e1;cases e1;cases e2
    · rw [aK hb] at e1;exact h.tf b o (iN e1 e2)
  · rcases List.mem_cons.mp ha with z | z
    · subst z;exact h.fh.free hp
    · exact h.fr a z
theorem FrF.newt {p:Addr} {vs:List V} {ds:List PyData} (h:FrF K B F A σ H E xs Xs) (r:RpA K F vs ds) (hp:H p=none):FrF K B (dg F p (.tup vs)) A σ (dg H p (.tup vs)) E (.ref p::xs) (.sh (.tuple ds)::Xs):=by
  have g:Same H (dg H p (.tup vs)):=fM hp _
  have nA:=h.newA hp
  have gF:Same F (dg F p (.tup vs)):=fM (h.fh.free hp) _
  refine ⟨h.bf.trans gF,fun b o e=>?_,fun b o e=>?_, .cons (A:=[]) ⟨rfl,_,rfl, .tup (.inl (.inl bR)) (r.same gF)⟩ (h.sl.mono fun o s C _ hC q=>q.stay gF (fun b hb=>aK fun z=>nA (z▸hC b hb)) fun _=>g),h.nd,fun a ha=>?_,by simp [h.len],h.pl⟩
  · by_cases hb:b=p
    · subst hb;rw [bR] at e ⊢;exact e
    · rw [aK hb] at e ⊢;exact h.fh _ _ e
  · obtain ⟨e1,e2⟩:=Option.filter_eq_some_iff.mp e
    by_cases hb:b=p
    · subst hb;rw [bR] at e1 ⊢;exact e1
    · rw [aK hb] at e1 ⊢;exact h.tf b o (iN e1 e2)
  · have ne:a≠p:=fun z=>nA (z▸ha)
    rw [aK ne];exact h.fr a ha
theorem FrF.mut {i:Nat} {ds:List PyData} (h:FrF K B F A σ H E xs Xs) (e:E[i]? =some (.ow ds)) (c:∀s∈Xs,s.isBr=false):
    ∃l vs,σ[i]? =some (some (.ref l))∧H l=some (.lst vs)∧RpA K F vs ds∧∀vs' ds',RpA K F vs' ds'→FrF K B F A σ (dg H l (.lst vs')) (E.set i (.ow ds')) xs Xs:=by
  obtain ⟨o,A0,A1,A2,eA,eo,hp,put⟩:=h.sl.at (k:=Xs.length+i) (s:= .ow ds) (by rw [List.getElem?_append_right (by exact Nat.le_add_right _ _)];simpa using e)
  rw [List.getElem?_append_right (by rw [List.length_map,h.len];exact Nat.le_add_right _ _),List.length_map,h.len,Nat.add_sub_cancel_left] at eo
  obtain ⟨l,vs,rfl,rfl,hl,r⟩:=hp
  refine ⟨l,vs,eo,hl,r,fun vs' ds' r'=>?_⟩
  have hlA:l∈A:=by rw [eA];simp
  have nl:∀b,b∈A0∨b∈A2→b≠l:=fun b hb z=>by
    subst z
    have nd:=h.nd
    rw [eA] at nd
    rcases hb with hb | hb
    · exact (List.nodup_append.mp nd).2.2 b hb b (by simp) rfl
    · exact (List.nodup_append.mp (List.nodup_append.mp nd).2.1).2.2 b (by simp) b hb rfl
  have lF:F l=none:=h.fr l hlA
  have z:=put (SlOk K F (dg H l (.lst vs')) σ) (some (.ref l)) (.ow ds') [l] ⟨l,vs',rfl,rfl,bR,r'⟩ fun o s C hs hC q=>q.stay (Same.refl _) (fun b hb=>aK (nl b (hC b hb))) fun z=>by
    rcases List.mem_append.mp hs with hs | hs
    · rw [c s hs] at z;cases z
    · have:=h.pl s hs
      cases s <;> simp [Sl.isAl,Sl.isBr] at this z
  have e3:(Xs++E).set (Xs.length+i) (.ow ds')=Xs++E.set i (.ow ds'):=by
    rw [List.set_append_right _ _ (by exact Nat.le_add_right _ _),Nat.add_sub_cancel_left]
  have e2:(List.map some xs++σ).set (Xs.length+i) (some (V.ref l))=List.map some xs++σ:=by
    rw [←h.len,List.set_append_right _ _ (by rw [List.length_map];exact Nat.le_add_right _ _),List.length_map,Nat.add_sub_cancel_left]
    congr 1
    exact List.ext_getElem? fun j=>by
      by_cases hj:i=j
      · subst hj
        rw [List.getElem?_set_self',eo];rfl
      · rw [List.getElem?_set_ne hj]
  rw [e2,e3,←eA] at z
  refine ⟨h.bf,fun b o q=>?_,?_,z,h.nd,h.fr,h.len,fun s hs=>?_⟩
  · rw [aK (fun z=>by rw [z,lF] at q;cases q)]
    exact h.fh _ _ q
  · rw [o9 hl];exact h.tf
  · rcases List.mem_or_eq_of_mem_set hs with hs | hs
    · exact h.pl s hs
    · subst hs;rfl
theorem FrF.frzAt {k:Nat} (h:FrF K B F A σ H E xs Xs) (e:(Xs++E)[k]? =some s) (q:s.val=some d) (c:s.isAl=false):
    ∃F' A' v,(xs.map some++σ)[k]? =some (some v)∧Rp K F' v d∧Same B F'∧Same F' H∧Same (tups H) F'∧SAll (SlOk K F' H σ) (xs.map some++σ) ((Xs++E).set k (.sh d)) A'∧A'.Nodup∧∀a∈A',F' a=none:=by
  obtain ⟨o,A0,A1,A2,eA,eo,hp,put⟩:=h.sl.at e
  have nd:=h.nd
  rw [eA] at nd
  have nA1:∀b o,F b=some o→b∉A1:=fun b o e hb=>by
    have:=h.fr b (by rw [eA];simp [hb])
    rw [this] at e;cases e
  have FF:Same F (pc F H A1):=fun b o e=>by rw [lg (nA1 b o e)];exact e
  obtain ⟨v,rfl,r⟩:∃v,o=some v∧Rp K (pc F H A1) v d:=by
    cases s with
    | no=>cases q
    | od kvs=>cases q
    | al i=>cases c
    | br d'=>cases c
    | sh d'=>
      obtain ⟨rfl,v,rfl,r⟩:=hp
      cases q
      exact ⟨v,rfl,r.same FF⟩
    | ow ds=>
      obtain ⟨l,vs,rfl,rfl,hl,r⟩:=hp
      cases q
      exact ⟨_,rfl, .lst (SqL.of ((nO (by simp)).trans hl)) (r.same FF)⟩
    | tx ps=>
      obtain ⟨t,vs,rfl,ht,r⟩:=hp
      cases q
      refine ⟨_,rfl, .tup (SqT.of (FF _ _ ht)) ?_⟩
      have r':PtsOk K (pc F H A1) (pc F H A1) vs ps A1:=r.stay FF fun b hb=>nO hb
      exact r'.rp (Same.refl _)
  have e2:(List.map some xs++σ).set k (some v)=List.map some xs++σ:=List.ext_getElem? fun j=>by
    by_cases hj:k=j
    · subst hj
      rw [List.getElem?_set_self',eo];rfl
    · rw [List.getElem?_set_ne hj]
  have z:=put (SlOk K (pc F H A1) H σ) (some v) (.sh d) [] ⟨rfl,v,rfl,r⟩ fun o s C _ hC q=>q.stay FF (fun b _=>rfl) fun _=>Same.refl _
  rw [e2] at z
  refine ⟨pc F H A1,A0++A2,v,eo,r,h.bf.trans FF,fun b o e=>?_,fun b o e=>FF _ _ (h.tf _ _ e),by simpa using z,?_,fun a ha=>?_⟩
  · by_cases hb:b∈A1
    · rw [nO hb] at e;exact e
    · rw [lg hb] at e;exact h.fh _ _ e
  · exact List.Nodup.sublist (List.Sublist.append (List.Sublist.refl _) (List.sublist_append_right _ _)) nd
  · have hn:a∉A1:=fun hm=>by
      rcases List.mem_append.mp ha with z | z
      · exact (List.nodup_append.mp nd).2.2 a z a (by simp [hm]) rfl
      · exact (List.nodup_append.mp (List.nodup_append.mp nd).2.1).2.2 a hm a z rfl
    rw [lg hn]
    exact h.fr a (by rw [eA];rcases List.mem_append.mp ha with z | z <;> simp [z])
end
def frz (E:List Sl):Sl→Option (PyData×List Sl)
  | .sh d=>some (d,E)
  | .ow ds=>some (.list ds,E)
  | .tx ps=>some (.tuple (ps.map Pt.val),E)
  | .br d=>if cY d then some (d,E) else none
  | .al i=>match E[i]? with
    | some (.sh d)=>some (d,E)
    | some (.ow ds)=>some (.list ds,E.set i (.sh (.list ds)))
    | some (.tx ps)=>some (.tuple (ps.map Pt.val),E.set i (.sh (.tuple (ps.map Pt.val))))
    | _=>none
  | _=>none
section
variable {K:PySem.W.Frag} {B F:Hp} {A:List Addr} {σ:Sg} {H:Hp} {E E':List Sl} {xs:List V} {Xs:List Sl} {v:V} {s:Sl} {d:PyData}
theorem FrF.frzVar {i:Nat} (h:FrF K B F A σ H E xs Xs) (e:E[i]? =some s) (q:s.val=some d):∃F' A' v,σ[i]? =some (some v)∧Rp K F' v d∧FrF K B F' A' σ H (E.set i (.sh d)) xs Xs:=by
  obtain ⟨F',A',v,ev,r,b1,b2,b3,sl,nd,fr⟩:=h.frzAt (k:=Xs.length+i) (by rw [List.getElem?_append_right (by exact Nat.le_add_right _ _)];simpa using e) q (h.pl s (List.mem_of_getElem? e))
  rw [List.getElem?_append_right (by rw [List.length_map,h.len];exact Nat.le_add_right _ _),List.length_map,h.len,Nat.add_sub_cancel_left] at ev
  have e3:(Xs++E).set (Xs.length+i) (.sh d)=Xs++E.set i (.sh d):=by
    rw [List.set_append_right _ _ (by exact Nat.le_add_right _ _),Nat.add_sub_cancel_left]
  rw [e3] at sl
  refine ⟨F',A',v,ev,r,b1,b2,b3,sl,nd,fr,h.len,fun s hs=>?_⟩
  rcases List.mem_or_eq_of_mem_set hs with hs | hs
  · exact h.pl s hs
  · subst hs;rfl
theorem FrF.frz0 (h:FrF K B F A σ H E (v::xs) (s::Xs)) (q:PL.frz E s=some (d,E')):∃F' A',FrF K B F' A' σ H E' (v::xs) (.sh d::Xs):=by
  have key:s.val=some d→s.isAl=false→E=E'→∃F' A',FrF K B F' A' σ H E' (v::xs) (.sh d::Xs):=fun q' c e=>by
    subst e
    obtain ⟨F',A',v',ev,r,b1,b2,b3,sl,nd,fr⟩:=h.frzAt (k:=0) rfl q' c
    exact ⟨F',A',b1,b2,b3,sl,nd,fr,by simpa using h.len,h.pl⟩
  have al:∀i t,s= .al i→E[i]? =some t→t.val=some d→E'=E.set i (.sh d)→∃F' A',FrF K B F' A' σ H E' (v::xs) (.sh d::Xs):=fun i t es ei qt eE=>by
    subst es eE
    obtain ⟨v',A1,ev,hs⟩:=h.ext (k:=0) rfl
    cases ev
    obtain ⟨rfl,w,ew,hw⟩:=hs
    cases ew
    obtain ⟨F',A',w,ew,r,h'⟩:=h.frzVar ei qt
    rw [hw] at ew
    cases ew
    obtain ⟨A2,h2⟩:=h'.pop
    exact ⟨F',A2,h2.push ⟨rfl,_,rfl,r⟩⟩
  cases s with
  | no=>cases q
  | od kvs=>cases q
  | sh d'=>cases q;exact key rfl rfl rfl
  | ow ds=>cases q;exact key rfl rfl rfl
  | tx ps=>cases q;exact key rfl rfl rfl
  | br d'=>
    simp only [PL.frz] at q
    split at q
    · rename_i hf
      cases q
      obtain ⟨r,_⟩:=h.look0 (d:=d) rfl
      obtain ⟨A2,h2⟩:=h.pop
      exact ⟨F,A2,h2.push ⟨rfl,_,rfl,h.cold r hf⟩⟩
    · cases q
  | al i=>
    simp only [PL.frz] at q
    split at q
    · rename_i d' ei
      cases q
      refine al i _ rfl ei rfl ?_
      exact List.ext_getElem? fun j=>by
        by_cases hj:i=j
        · subst hj;rw [List.getElem?_set_self',ei];rfl
        · rw [List.getElem?_set_ne hj]
    · rename_i ds ei
      cases q
      exact al i _ rfl ei rfl rfl
    · rename_i ps ei
      cases q
      exact al i _ rfl ei rfl rfl
    · cases q
theorem FrF.store {i:Nat} (h:FrF K B F A σ H E (v::xs) (s::Xs)) (c:s.isAl=false) (cx:∀s∈Xs,s.isAl=false) (hi:i < E.length):∃A',FrF K B F A' (σ.set i (some v)) H (E.set i s) xs Xs:=by
  have hlen:=h.len
  have hsl:=h.slen
  obtain ⟨bf,fh,tf,sl,nd,fr,len,pl⟩:=h
  generalize hT:List.map some (v::xs)++σ=T at sl
  generalize hS:(s::Xs)++E=S at sl
  cases sl with
  | nil=>cases hS
  | cons q r=>
    rename_i A1 _ _ A2
    injection hT with h1 hT
    injection hS with h2 hS
    subst h1 h2 hT hS
    have len':xs.length=Xs.length:=by simpa using len
    have r:SAll (SlOk K F H σ) (List.map some xs++σ) (Xs++E) A2:=r
    obtain ⟨t,et⟩:∃t,E[i]? =some t:=⟨E[i],List.getElem?_eq_getElem hi⟩
    obtain ⟨o,C0,C1,C2,eA,eo,hp,put⟩:=r.at (k:=Xs.length+i) (s:=t) (by rw [List.getElem?_append_right (by exact Nat.le_add_right _ _)];simpa using et)
    have all:∀s'∈Xs++E,s'.isAl=false:=fun s' hs=>(List.mem_append.mp hs).elim (cx s') (pl s')
    have chg:∀(o:Option V) (s':Sl) (C:List Addr),s'.isAl=false→SlOk K F H σ o s' C→SlOk K F H (σ.set i (some v)) o s' C:=fun o s' C hc z=>by
      cases s' <;> first | exact z | cases hc
    have z:=put (SlOk K F H (σ.set i (some v))) (some v) s A1 (chg _ _ _ c q) fun o s' C hs _ z=>chg o s' C (all s' hs) z
    have e3:(Xs++E).set (Xs.length+i) s=Xs++E.set i s:=by
      rw [List.set_append_right _ _ (by exact Nat.le_add_right _ _),Nat.add_sub_cancel_left]
    have e2:(List.map some xs++σ).set (Xs.length+i) (some v)=List.map some xs++σ.set i (some v):=by
      rw [←len',List.set_append_right _ _ (by rw [List.length_map];exact Nat.le_add_right _ _),List.length_map,Nat.add_sub_cancel_left]
    rw [e2,e3] at z
    refine ⟨_,bf,fh,tf,z,?_,fun a ha=>fr a ?_,len',fun s' hs=>?_⟩
    · rw [eA] at nd
      have p:(C0++(A1++C2)).Perm (A1++(C0++C2)):=by
        rw [←List.append_assoc,←List.append_assoc]
        exact List.Perm.append_right _ List.perm_append_comm
      refine p.nodup_iff.mpr (List.Nodup.sublist ?_ nd)
      exact List.Sublist.append (List.Sublist.refl _) (List.Sublist.append (List.Sublist.refl _) (List.sublist_append_right _ _))
    · rw [eA]
      simp only [List.mem_append] at ha ⊢
      rcases ha with z | z | z
      · exact .inr (.inl z)
      · exact .inl z
      · exact .inr (.inr (.inr z))
    · rcases List.mem_or_eq_of_mem_set hs with hs | hs
      · exact pl s' hs
      · subst hs;exact c
end
end PL
namespace PL
open PySem L2 Nh
abbrev bE:=List Sl→Option (Sl×List Sl)
abbrev i7:=List Sl→Option (Bool×List Sl)
abbrev nP:=List Sl→Option (List Sl×List Sl)
abbrev jk:=List Sl→Option (List PyData×List Sl)
inductive Fl where
  | nx | bk | ct | rt (r:Sl)
abbrev dG:=List Sl→Option (List Sl×Fl)
abbrev Calm (Xs:List Sl):Prop:=∀s∈Xs,s.isBr=false
abbrev Still (Xs:List Sl):Prop:=∀s∈Xs,s.isAl=false
theorem Still.calm {Xs:List Sl} (h:Still Xs):Calm Xs:=fun s hs=>by
  have:=h s hs
  cases s <;> simp [Sl.isAl,Sl.isBr] at this ⊢
theorem Still.nil {Xs:List Sl} (h:Xs=[]):Still Xs:=fun s hs=>by subst h;cases hs
theorem Calm.nil {Xs:List Sl} (h:Xs=[]):Calm Xs:=(Still.nil h).calm
theorem Calm.cons {Xs:List Sl} {s:Sl} (h:Calm Xs) (hs:s.isBr=false):Calm (s::Xs):=fun t ht=>(List.mem_cons.mp ht).elim (fun e=>e▸hs) (h t)
def rd (K:PySem.W.Frag) (m:Bool) (f:bE):TE:=fun σ H Q=>∃B E xs Xs r E',Frm K B σ H E xs Xs∧(m=true→Calm Xs)∧f E=some (r,E')∧∀v H',Frm K B σ H' E' (v::xs) (r::Xs)→Q v H'
def rt (K:PySem.W.Frag) (m:Bool) (f:i7):TT:=fun σ H Q=>∃B E xs Xs b E',Frm K B σ H E xs Xs∧(m=true→Calm Xs)∧f E=some (b,E')∧∀H',Frm K B σ H' E' xs Xs→Q b H'
def ra (K:PySem.W.Frag) (m:Bool) (f:nP):TA:=fun σ H Q=>∃B E xs Xs rs E',Frm K B σ H E xs Xs∧(m=true→Calm Xs)∧f E=some (rs,E')∧∀vs H',vs.length=rs.length→Frm K B σ H' E' (vs.reverse++xs) (rs.reverse++Xs)→Q vs H'
def Ct (K:PySem.W.Frag) (m:Bool) (f:jk):TA:=fun σ H Q=>∃B E xs Xs ds E',Frm K B σ H E xs Xs∧(m=true→Calm Xs)∧f E=some (ds,E')∧∀vs H',vs.length=ds.length→Frm K B σ H' E' (vs.reverse++xs) (ds.reverse.map .sh++Xs)→Q vs H'
def rs (K:PySem.W.Frag) (g:dG):TS:=fun D σ H=>∃B E xs Xs E' fl,Frm K B σ H E xs Xs∧Xs=[]∧g E=some (E',fl)∧match fl with
  | .nx=>∀σ' H',Frm K B σ' H' E' xs Xs→D.nx σ' H'
  | .bk=>∀σ' H',Frm K B σ' H' E' xs Xs→D.bk σ' H'
  | .ct=>∀σ' H',Frm K B σ' H' E' xs Xs→D.ct σ' H'
  | .rt r=>∀σ' v H',Frm K B σ' H' E' (v::xs) (r::Xs)→D.rt v H'
def EX (X:Cx) (e:Expr) (m:Bool) (f:bE):Prop:=PE X e (rd X.K m f)
def TX (X:Cx) (e:Expr) (m:Bool) (f:i7):Prop:=PT X e (rt X.K m f)
def WX (X:Cx) (e:Expr) (m:Bool) (f:i7):Prop:=PW X e (rt X.K m f)
def AX (X:Cx) (es:List Expr) (m:Bool) (f:nP):Prop:=PA X es (ra X.K m f)
def DX (X:Cx) (es:List Expr) (m:Bool) (f:jk):Prop:=PA X es (Ct X.K m f)
def SX (X:Cx) (s:Stmt) (g:dG):Prop:=PS X s (rs X.K g)
def uK (X:Cx) (s:List Stmt) (g:dG):Prop:=PSs X s (rs X.K g)
section
variable {X:Cx}
theorem bA {e:Expr} {t t':TE} (h:PE X e t) (k:∀σ H Q,t' σ H Q→t σ H Q):PE X e t':=fun pins s σ H Q I q=>h pins s σ H Q I (k σ H Q q)
theorem nQ {e:Expr} {t t':TT} (h:PT X e t) (k:∀σ H Q,t' σ H Q→t σ H Q):PT X e t':=fun pins s σ H Q I q=>h pins s σ H Q I (k σ H Q q)
theorem u8 {e:Expr} {t t':TT} (h:PW X e t) (k:∀σ H Q,t' σ H Q→t σ H Q):PW X e t':=fun whole pins s σ H Q I q=>h whole pins s σ H Q I (k σ H Q q)
theorem jU {es:List Expr} {t t':TA} (h:PA X es t) (k:∀σ H Q,t' σ H Q→t σ H Q):PA X es t':=fun pos pins s σ H Q I q=>h pos pins s σ H Q I (k σ H Q q)
theorem i8 {st:Stmt} {t t':TS} (h:PS X st t) (k:∀D σ H,t' D σ H→t D σ H):PS X st t':=fun pins s σ H D I q=>h pins s σ H D I (k D σ H q)
theorem sm {st:List Stmt} {t t':TS} (h:PSs X st t) (k:∀D σ H,t' D σ H→t D σ H):PSs X st t':=fun pins s σ H D I q=>h pins s σ H D I (k D σ H q)
end
def x8:PyData→Option V
  | .none=>some .non
  | .bool b=>some (.bl b)
  | .int i=>some (.int i)
  | .str x=>some (.str x)
  | _=>none
theorem lh {K:PySem.W.Frag} {H:Hp} {d:PyData} {v:V} (h:x8 d=some v):Rp K H v d:=by
  cases d <;> simp [x8] at h <;> subst h <;> constructor
def aa (i:Nat):bE:=fun E=>match E[i]? with
  | some (.sh d)=>some (.sh d,E)
  | some (.ow _)=>some (.al i,E)
  | some (.od _)=>some (.al i,E)
  | some (.tx _)=>some (.al i,E)
  | _=>none
def pC (d:PyData):bE:=fun E=>some (.sh d,E)
section
variable {X:Cx} {K:PySem.W.Frag}
theorem ab (i:Nat) {x:Str} {pos:Pos} (hN:X.N[i]? =some x:=by rfl) (hv:zZ X.env.scope x:=by first | exact Or.inl rfl | exact Or.inr (Or.inl rfl) | exact Or.inr (Or.inr rfl)) (hd:(x == ("__debug__":Str))=false:=by decide)
    (hcd:(x == ("__classdict__":Str))=false:=by decide):EX X (.Name x pos) false (aa i):=by
  refine bA (nv hN hv hd hcd) fun σ H Q h=>?_
  obtain ⟨B,E,xs,Xs,r,E',⟨F,A,fr⟩,_,e,q⟩:=h
  unfold aa at e
  split at e
  · rename_i d ei
    cases e
    obtain ⟨o,A1,eo,rfl,v,rfl,rp⟩:=fr.var ei
    exact ⟨v,eo,q v H ⟨F,A,fr.push ⟨rfl,v,rfl,rp⟩⟩⟩
  · rename_i ds ei
    cases e
    obtain ⟨o,A1,eo,l,vs,rfl,_⟩:=fr.var ei
    exact ⟨_,eo,q _ H ⟨F,A,fr.push ⟨rfl,_,rfl,eo⟩⟩⟩
  · rename_i ds ei
    cases e
    obtain ⟨o,A1,eo,l,vs,A2,rfl,_⟩:=fr.var ei
    exact ⟨_,eo,q _ H ⟨F,A,fr.push ⟨rfl,_,rfl,eo⟩⟩⟩
  · rename_i ds ei
    cases e
    obtain ⟨o,A1,eo,l,vs,rfl,_⟩:=fr.var ei
    exact ⟨_,eo,q _ H ⟨F,A,fr.push ⟨rfl,_,rfl,eo⟩⟩⟩
  · cases e
theorem y9 {e:Expr} {v:V} (d:PyData) (h:PE X e (tC v)) (hd:x8 d=some v:=by rfl):EX X e false (pC d):=by
  refine bA h fun σ H Q h=>?_
  obtain ⟨B,E,xs,Xs,r,E',⟨F,A,fr⟩,_,e,q⟩:=h
  cases e
  exact q v H ⟨F,A,fr.push ⟨rfl,v,rfl,lh hd⟩⟩
theorem ah {i j pos}:EX X (.Constant (.int i) j pos) false (pC (.int i)):=y9 _ yu
theorem mH {b j pos}:EX X (.Constant (.bool b) j pos) false (pC (.bool b)):=y9 _ Ac
theorem jV {x j pos}:EX X (.Constant (.str x) j pos) false (pC (.str x)):=y9 _ uM
end
abbrev P2:=List Sl→Sl→Sl→Option (Sl×List Sl)
def iv (K:PySem.W.Frag) (r:R2) (p:P2):Prop:=∀{B F:Hp} {A:List Addr} {σ:Sg} {H:Hp} {E:List Sl} {xs:List V} {Xs:List Sl} {v1 v2:V} {s1 s2 res:Sl} {E':List Sl} {Q:VK},
  FrF K B F A σ H E (v2::v1::xs) (s2::s1::Xs)→p E s1 s2=some (res,E')→(∀v H',Frm K B σ H' E' (v::xs) (res::Xs)→Q v H')→r v1 v2 H Q
def ae (p:P2) (m2:Bool) (f g:bE):bE:=fun E=>(f E).bind fun a=>if m2&&a.1.isBr then none else (g a.2).bind fun b=>p b.2 a.1 b.1
theorem nR {K:PySem.W.Frag} {r:R2} {p:P2} (hp:iv K r p) {m1 m2:Bool} {f g:bE} {σ:Sg} {H:Hp} {Q:VK} (h:rd K (m1||m2) (ae p m2 f g) σ H Q):Ao r (rd K m1 f) (rd K m2 g) σ H Q:=by
  obtain ⟨B,E,xs,Xs,res,E',fr,c,e,q⟩:=h
  obtain ⟨⟨s1,E1⟩,e1,e⟩:=Option.bind_eq_some_iff.mp e
  by_cases hb:(m2&&s1.isBr)=true
  · rw [if_pos hb] at e;cases e
  rw [if_neg hb] at e
  obtain ⟨⟨s2,E2⟩,e2,e⟩:=Option.bind_eq_some_iff.mp e
  refine ⟨B,E,xs,Xs,s1,E1,fr,fun z=>c (by simp [z]),e1,fun v1 H1 fr1=>?_⟩
  refine ⟨B,E1,v1::xs,s1::Xs,s2,E2,fr1,fun z=>?_,e2,fun v2 H2 fr2=>?_⟩
  · refine Calm.cons (c (by simp [z])) ?_
    cases hs:s1.isBr with
    | false=>rfl
    | true=>exact absurd (by simp [z,hs]) hb
  · obtain ⟨F,A,fr2⟩:=fr2
    exact hp fr2 e q
def dh (op:PyData→PyData→Option PyData):P2:=fun E s1 s2=>(look E s1).bind fun d1=>(look E s2).bind fun d2=>(op d1 d2).map fun d=>(.sh d,E)
theorem FrF.res2 {K:PySem.W.Frag} {B F:Hp} {A:List Addr} {σ:Sg} {H:Hp} {E:List Sl} {xs:List V} {Xs:List Sl} {v1 v2 v:V} {s1 s2 s:Sl} (h:FrF K B F A σ H E (v2::v1::xs) (s2::s1::Xs)) (q:SlOk K F H σ (some v) s []):Frm K B σ H E (v::xs) (s::Xs):=by
  obtain ⟨A1,h⟩:=h.pop
  obtain ⟨A2,h⟩:=h.pop
  exact ⟨F,A2,h.push q⟩
theorem iw {K:PySem.W.Frag} {r:R2} {op:PyData→PyData→Option PyData} (h:∀(d1 d2 d:PyData) (v1 v2:V) (H:Hp) (Q:VK),op d1 d2=some d→Rp K H v1 d1→Rp K H v2 d2→∃v,x8 d=some v∧(Q v H→r v1 v2 H Q)):iv K r (dh op):=by
  intro B F A σ H E xs Xs v1 v2 s1 s2 res E' Q fr e q
  obtain ⟨d1,e1,e⟩:=Option.bind_eq_some_iff.mp e
  obtain ⟨d2,e2,e⟩:=Option.bind_eq_some_iff.mp e
  obtain ⟨d,e3,e⟩:=Option.map_eq_some_iff.mp e
  cases e
  obtain ⟨v,hv,k⟩:=h d1 d2 d v1 v2 H Q e3 (fr.look1 e1).1 (fr.look0 e2).1
  exact k (q v H (fr.res2 ⟨rfl,v,rfl,lh hv⟩))
section
variable {X:Cx} {a b:Expr} {m1 m2:Bool} {f g:bE} {pos:Pos}
theorem lj {op:Operator} {r:R2} {p:P2} (ho:OpR X (binaryOp op) r) (hp:iv X.K r p) (ha:EX X a m1 f) (hb:EX X b m2 g):EX X (.BinOp a op b pos) (m1||m2) (ae p m2 f g):=bA (Ap ho ha hb) fun _ _ _ h=>nR hp h
theorem qL {op:CmpOp} {r:R2} {p:P2} (ho:OpR X (compareOp op) r) (hp:iv X.K r p) (ha:EX X a m1 f) (hb:EX X b m2 g) (hm:behindInMarks op b=false):EX X (.Compare a [op] [b] pos) (m1||m2) (ae p m2 f g):=bA (wE ho ha hb hm) fun _ _ _ h=>nR hp h
def bY (f:bE):i7:=fun E=>(f E).bind fun a=>match a.1 with
  | .sh (.bool b)=>some (b,a.2)
  | _=>none
theorem u9 {K:PySem.W.Frag} {m:Bool} {f:bE} {σ:Sg} {H:Hp} {Q:Bool→Hp→Prop} (h:rt K m (bY f) σ H Q):rd K m f σ H (fun x H'=>∃k,x= .bl k∧Q k H'):=by
  obtain ⟨B,E,xs,Xs,b,E',fr,c,e,q⟩:=h
  obtain ⟨⟨s,E1⟩,e1,e⟩:=Option.bind_eq_some_iff.mp e
  refine ⟨B,E,xs,Xs,s,E1,fr,c,e1,fun v H' ⟨F,A,fr'⟩=>?_⟩
  simp only at e
  split at e
  · cases e
    obtain ⟨r,_⟩:=fr'.look0 (d:= .bool b) rfl
    cases r
    obtain ⟨A',fr2⟩:=fr'.pop
    exact ⟨b,rfl,q H' ⟨F,A',fr2⟩⟩
  · cases e
theorem lm {op:CmpOp} {r:R2} {p:P2} (ho:OpR X (compareOp op) r) (hp:iv X.K r p) (ha:EX X a m1 f) (hb:EX X b m2 g) (hm:behindInMarks op b=false):TX X (.Compare a [op] [b] pos) (m1||m2) (bY (ae p m2 f g)):=by
  refine nQ (wF ho ha hb hm) fun σ H Q h=>?_
  exact nR hp (u9 h)
end
def y_:Int:=2 ^ 20000
def fN (i j:Int):Bool:=decide (-(2 ^ 64) < i∧i < 2 ^ 64)||decide (-(2 ^ 64) < j∧j < 2 ^ 64)||decide (-y_ < i∧i < y_∧ -y_ < j∧j < y_)
def fb (j:Int):Bool:=decide (0 < j∧j < 2 ^ 200)
def ix (C:Int→Int→Bool) (g:Int→Int→PyData):PyData→PyData→Option PyData
  | .int i, .int j=>if C i j then some (g i j) else none
  | _,_=>none
abbrev za (C:Int→Int→Bool) (g:Int→Int→V):R2:=rI (fun i j=>C i j=true) g
theorem lq {K:PySem.W.Frag} {C:Int→Int→Bool} {g:Int→Int→PyData} {g':Int→Int→V} (hg:∀i j,x8 (g i j)=some (g' i j)):iv K (za C g') (dh (ix C g)):=by
  refine iw fun d1 d2 d v1 v2 H Q e r1 r2=>?_
  unfold ix at e
  split at e
  · split at e
    · cases e
      cases r1
      cases r2
      rename_i hC
      exact ⟨_,hg _ _,fun q=>⟨_,_,rfl,rfl,hC,q⟩⟩
    · cases e
  · cases e
section
variable {X:Cx}
theorem kn {i:Int} (h1: -y_ < i) (h2:i < y_):Builtin.Int.intBits i≤2 ^ 20:=by
  unfold y_ at h1 h2
  have h:i.natAbs < 2 ^ 20000:=by
    have e:((2 ^ 20000:Nat):Int)=2 ^ 20000:=Int.natCast_pow 2 20000
    generalize (2 ^ 20000:Int)=z at h1 h2 e
    generalize (2 ^ 20000:Nat)=y at e ⊢
    lia
  unfold Builtin.Int.intBits
  split
  · exact Nat.zero_le _
  · rename_i hz
    have hz':i≠0:=by simpa using hz
    have:i.natAbs.log2 < 20000:=(Nat.log2_lt (by lia)).mpr h
    lia
theorem u_ {i j:Int} (h:fN i j=true):PySem.IntMulOk i j:=by
  unfold fN at h
  simp only [Bool.or_eq_true,decide_eq_true_eq] at h
  rcases h with (h | h) | h
  · exact CMul.ok (.inl h)
  · exact CMul.ok (.inr h)
  · exact PySem.IntMulOk.of_bits (kn h.1 h.2.1) (kn h.2.2.1 h.2.2.2)
end
end PL
namespace PL
open PySem L2 Nh PyProof.Rows
abbrev jl:=L2.St
section
variable {X:Cx}
theorem OpR.or {f:Value→Value→Sem Value} {r r':R2} (h:OpR X f r) (h':OpR X f r'):OpR X f (fun x y H Q=>r x y H Q∨r' x y H Q):=by
  intro pins s σ H x y v u Q I rx ry q
  rcases q with q | q
  · exact h pins s σ H x y v u Q I rx ry q
  · exact h' pins s σ H x y v u Q I rx ry q
theorem OpR.imp {f:Value→Value→Sem Value} {r r':R2} (h:OpR X f r) (k:∀x y H Q,r' x y H Q→r x y H Q):OpR X f r':=fun pins s σ H x y v u Q I rx ry q=>h pins s σ H x y v u Q I rx ry (k _ _ _ _ q)
def x9 (K:PySem.W.Frag):R2:=fun x y H Q=>∃l b xs zs,x= .ref l∧y= .ref b∧SqL K H l xs∧SqL K H b zs∧xs.length+zs.length≤sizeLine∧∀p,H p=none→Q (.ref p) (dg H p (.lst (xs++zs)))
theorem wU:OpR X (binaryOp .Add) (x9 X.K):=by
  intro pins s σ H x y v u Q I rx ry h
  obtain ⟨l,b,xs,zs,rfl,rfl,hH,hB,hz,q⟩:=h
  cases rx
  cases ry
  obtain ⟨its,r,p1,z1⟩:=I.list hH
  obtain ⟨its2,r2,p2,z2⟩:=I.list hB
  obtain ⟨⟨cls,dd,data,sl⟩,ho,hc,n,hd⟩:=p1.isList
  obtain ⟨⟨cls2,dd2,data2,sl2⟩,ho2,hc2,n2,uJ⟩:=p2.isList
  simp only at hc hd hc2 uJ
  subst hc hd hc2 uJ
  have l1:=r.length
  have l2:=r2.length
  refine concat_meets ⟨_,ho,rfl⟩ ⟨_,ho2,rfl⟩ noFill_list_add seq_list_add PySem.F.slot_list_add PySem.F.entry_list_add (PySem.F.args_list_add_2 _ _) (list_addW l b its.toArray its2.toArray n n2 dd dd2 sl sl2 (by simp only [List.size_toArray];lia)) ⟨ho,ho2,?_⟩
  have ea:its.toArray++its2.toArray=(its++its2).toArray:=by simp
  rw [ea]
  exact ⟨.ref _,_,I.lnew (t':=s.toks) (r.append r2) (by rw [List.length_append];assumption),rfl,q _ I.fresh⟩
def x_ (K:PySem.W.Frag):R2:=fun x y H Q=>∃l k xs,x= .ref l∧y= .int k∧SqL K H l xs∧ -(2 ^ 63)≤k∧k < 2 ^ 63∧xs.length*k.toNat≤sizeLine∧
  ∀p,H p=none→Q (.ref p) (dg H p (.lst (List.replicate k.toNat xs).flatten))
theorem wV:OpR X (binaryOp .Mult) (x_ X.K):=by
  intro pins s σ H x y v u Q I rx ry h
  obtain ⟨l,k,xs,rfl,rfl,hH,h1,h2,hz,q⟩:=h
  cases rx
  obtain ⟨t,rfl⟩:=ry
  obtain ⟨its,r,p1,z1⟩:=I.list hH
  obtain ⟨⟨cls,d,data,sl⟩,ho,hcl,n,hd⟩:=p1.isList
  simp only at hcl hd
  subst hcl hd
  have l1:=r.length
  have hsz:its.toArray.size*k.toNat≤2 ^ 24:=by rw [List.size_toArray,←l1];exact hz
  refine wpAny_binaryOp_repeat_ref (T:="list") (U:="int") (by decide) ⟨_,ho,rfl⟩ (fun s'=>typeIs_int s' k t) noFill_list_mul F.fills_int_mul F.slot_int_rmul repeat_list F.slot_int_index.lookup
    (call_meets F.slot_int_rmul (typeIs_int s k t) F.entry_int_rmul (F.args_int_rmul_2 _ _) (lm_int_rmul_list_any k t l its.toArray n d sl)
      ⟨ho,rfl,⟨_,ho,rfl⟩,call_meets F.slot_list_mul ⟨_,ho,rfl⟩ F.entry_list_mul (F.args_list_mul_2 _ _)
        (lm_list_mul_any l its.toArray n d sl k t (by simp [Builtin.List.listFitsIndex];exact ⟨‹_›,‹_›⟩) (by lia) (by simp [Builtin.List.listTooLong,sizeLine];assumption))
        ⟨ho,?_⟩⟩)
  rw [listMul_foldl_if]
  exact ⟨.ref _,_,I.lnew (t':=s.toks) (r.rep k.toNat) (by rw [wP,Nat.mul_comm];exact hz),rfl,q _ I.fresh⟩
end
def aD:P2:=fun E s1 s2=>(look E s1).bind fun d1=>(look E s2).bind fun d2=>match d1,d2 with
  | .int i, .int j=>some (.sh (.int (i+j)),E)
  | .str a, .str b=>if a.length+b.length≤1000000 then some (.sh (.str (a++b)),E) else none
  | .list a, .list b=>if decide (a.length+b.length≤1000000)&&(!dZ E s1||bx a)&&(!dZ E s2||bx b) then some (.ow (a++b),E) else none
  | _,_=>none
theorem kq {n:Nat} (h:n≤1000000):n < sizeLine:=Nat.lt_of_le_of_lt h (by rw [sizeLine_eq];decide)
theorem gu {n:Nat} (h:n≤1000000):n≤sizeLine:=Nat.le_of_lt (kq h)
section
variable {K:PySem.W.Frag} {B F:Hp} {A:List Addr} {σ:jl} {H:Hp} {E:List Sl} {xs:List V} {Xs:List Sl} {v:V} {s:Sl} {ds:List PyData}
theorem FrF.items {k:Nat} (h:FrF K B F A σ H E xs Xs) (e:Xs[k]? =some s) (q:PL.look E s=some (.list ds)) (c:(!dZ E s||bx ds)=true):∃a vs,xs[k]? =some (.ref a)∧SqL K H a vs∧RpA K F vs ds:=by
  obtain ⟨v,ev,r,f⟩:=h.look e q
  cases hh:dZ E s with
  | false=>
    obtain ⟨a,vs,rfl,h1,h2⟩:=f hh
    exact ⟨a,vs,ev,h1,h2⟩
  | true=>
    rw [hh] at c
    cases r with
    | lst h1 h2=>exact ⟨_,_,ev,h1,h.coldA h2 (by simpa using c)⟩
theorem FrF.res2l {v1 v2:V} {s1 s2:Sl} {vs:List V} (h:FrF K B F A σ H E (v2::v1::xs) (s2::s1::Xs)) (r:RpA K F vs ds) {p:Addr} (hp:H p=none):Frm K B σ (dg H p (.lst vs)) E (.ref p::xs) (.ow ds::Xs):=by
  obtain ⟨A1,h⟩:=h.pop
  obtain ⟨A2,h⟩:=h.pop
  exact ⟨F,_,h.newl r hp⟩
end
abbrev ya (K:PySem.W.Frag):R2:=fun x y H Q=>(∃i j,x= .int i∧y= .int j∧Q (.int (i+j)) H)∨(∃i j,x= .str i∧y= .str j∧i.length+j.length≤sizeLine∧Q (.str (i++j)) H)∨x9 K x y H Q
theorem wW {X:Cx}:OpR X (binaryOp .Add) (ya X.K):=OpR.or yK (OpR.or qF wU)
theorem wX {K:PySem.W.Frag}:iv K (ya K) aD:=by
  intro B F A σ H E xs Xs v1 v2 s1 s2 res E' Q fr e q
  obtain ⟨d1,e1,e⟩:=Option.bind_eq_some_iff.mp e
  obtain ⟨d2,e2,e⟩:=Option.bind_eq_some_iff.mp e
  have r1:=(fr.look1 e1).1
  have r2:=(fr.look0 e2).1
  split at e
  · cases e;cases r1;cases r2
    exact .inl ⟨_,_,rfl,rfl,q _ _ (fr.res2 ⟨rfl,_,rfl, .int _⟩)⟩
  · split at e
    · rename_i hl
      cases e;cases r1;cases r2
      exact .inr (.inl ⟨_,_,rfl,rfl,gu hl,q _ _ (fr.res2 ⟨rfl,_,rfl, .str _⟩)⟩)
    · cases e
  · split at e
    · rename_i hc
      cases e
      simp only [Bool.and_eq_true,decide_eq_true_eq] at hc
      obtain ⟨a1,u1,x1,q1,i1⟩:=fr.items (k:=1) rfl e1 hc.1.2
      obtain ⟨a2,u2,x2,q2,i2⟩:=fr.items (k:=0) rfl e2 hc.2
      cases x1;cases x2
      have l1:=i1.len
      have l2:=i2.len
      exact .inr (.inr ⟨_,_,_,_,rfl,rfl,q1,q2,gu (by lia),fun p hp=>q _ _ (fr.res2l (i1.append i2) hp)⟩)
    · cases e
  · cases e
def il:P2:=dh (ix (fun _ _=>true) fun i j=> .int (i - j))
def aM:P2:=dh (ix (fun _ j=>fb j) fun i j=> .int (i / j))
def bw:P2:=dh (ix (fun _ j=>decide (0 < j)) fun i j=> .int (i % j))
def iy:P2:=dh (ix (fun i j=>decide (0≤j∧j≤1000000∧ -(2 ^ 64) < i∧i < 2 ^ 64)) fun i j=> .int (i ^ j.toNat))
section
variable {X:Cx}
theorem wY:OpR X (binaryOp .Sub) (za (fun _ _=>true) fun i j=> .int (i - j)):=OpR.imp yL fun x y H Q ⟨i,j,a,b,_,q⟩=>⟨i,j,a,b,q⟩
theorem va:OpR X (binaryOp .FloorDiv) (za (fun _ j=>fb j) fun i j=> .int (i / j)):=Bp fun i j _ _ _ _ _ hc q=>by
  obtain ⟨h1,h2⟩:=of_decide_eq_true hc
  have h3:j.natAbs.log2 < 9000:=by
    have:j.natAbs < 2 ^ 200:=by omega
    have:=(Nat.log2_lt (n:=j.natAbs) (k:=200) (by lia)).mpr this
    lia
  exact floordiv_int (by lia) (by rw [Int.fdiv_eq_ediv_of_nonneg i (by lia)];exact q) (.inl (PyProof.noPylong_of_log2 h3))
theorem wZ:OpR X (binaryOp .Mod) (za (fun _ j=>decide (0 < j)) fun i j=> .int (i % j)):=OpR.imp yM fun x y H Q ⟨i,j,a,b,c,q⟩=>⟨i,j,a,b,of_decide_eq_true c,q⟩
theorem w6 {i j:Int} (c:0≤j∧j≤1000000∧ -(2 ^ 64) < i∧i < 2 ^ 64):Ar i j:=⟨c.1,c.2.1,by omega⟩
theorem w_:OpR X (binaryOp .Pow) (za (fun i j=>decide (0≤j∧j≤1000000∧ -(2 ^ 64) < i∧i < 2 ^ 64)) fun i j=> .int (i ^ j.toNat)):=OpR.imp yN fun x y H Q ⟨i,j,a,b,c,q⟩=>⟨i,j,a,b,w6 (of_decide_eq_true c),q⟩
end
def gv:P2:=fun E s1 s2=>(look E s1).bind fun d1=>(look E s2).bind fun d2=>match d1,d2 with
  | .int i, .int j=>if fN i j then some (.sh (.int (i*j)),E) else none
  | .list a, .int k=>if decide (a.length*k.toNat≤1000000∧ -1000000≤k∧k≤1000000)&&(!dZ E s1||bx a) then some (.ow (List.replicate k.toNat a).flatten,E) else none
  | _,_=>none
abbrev yb (K:PySem.W.Frag):R2:=fun x y H Q=>za fN (fun i j=> .int (i*j)) x y H Q∨x_ K x y H Q
theorem xa {X:Cx}:OpR X (binaryOp .Mult) (yb X.K):=OpR.or (Bp fun _ _ _ _ _ _ _ hc q=>mul_int q (u_ hc)) wV
theorem xb {K:PySem.W.Frag}:iv K (yb K) gv:=by
  intro B F A σ H E xs Xs v1 v2 s1 s2 res E' Q fr e q
  obtain ⟨d1,e1,e⟩:=Option.bind_eq_some_iff.mp e
  obtain ⟨d2,e2,e⟩:=Option.bind_eq_some_iff.mp e
  have r1:=(fr.look1 e1).1
  have r2:=(fr.look0 e2).1
  split at e
  · split at e
    · rename_i hm
      cases e;cases r1;cases r2
      exact .inl ⟨_,_,rfl,rfl,hm,q _ _ (fr.res2 ⟨rfl,_,rfl, .int _⟩)⟩
    · cases e
  · split at e
    · rename_i hc
      cases e
      simp only [Bool.and_eq_true,decide_eq_true_eq] at hc
      obtain ⟨a1,u1,x1,q1,i1⟩:=fr.items (k:=1) rfl e1 hc.2
      cases x1;cases r2
      have l1:=i1.len
      exact .inr ⟨_,_,_,rfl,rfl,q1,by lia,by omega,gu (by rw [l1];exact hc.1.1),fun p hp=>q _ _ (fr.res2l (i1.rep _) hp)⟩
    · cases e
  · cases e
section
variable {X:Cx} {a b:Expr} {m1 m2:Bool} {f g:bE} {pos:Pos}
theorem aQ (ha:EX X a m1 f) (hb:EX X b m2 g):EX X (.BinOp a .Add b pos) (m1||m2) (ae aD m2 f g):=lj wW wX ha hb
theorem jW (ha:EX X a m1 f) (hb:EX X b m2 g):EX X (.BinOp a .Sub b pos) (m1||m2) (ae il m2 f g):=lj wY (lq fun _ _=>rfl) ha hb
theorem gP (ha:EX X a m1 f) (hb:EX X b m2 g):EX X (.BinOp a .Mult b pos) (m1||m2) (ae gv m2 f g):=lj xa xb ha hb
theorem cN (ha:EX X a m1 f) (hb:EX X b m2 g):EX X (.BinOp a .FloorDiv b pos) (m1||m2) (ae aM m2 f g):=lj va (lq fun _ _=>rfl) ha hb
theorem cg (ha:EX X a m1 f) (hb:EX X b m2 g):EX X (.BinOp a .Mod b pos) (m1||m2) (ae bw m2 f g):=lj wZ (lq fun _ _=>rfl) ha hb
theorem i9 (ha:EX X a m1 f) (hb:EX X b m2 g):EX X (.BinOp a .Pow b pos) (m1||m2) (ae iy m2 f g):=lj w_ (lq fun _ _=>rfl) ha hb
end
def BX (K:PySem.W.Frag) (r:V→Hp→VK→Prop) (op:PyData→Option PyData):Prop:=∀(d1 d:PyData) (v1:V) (H:Hp) (Q:VK),op d1=some d→Rp K H v1 d1→∃v,x8 d=some v∧(Q v H→r v1 H Q)
def ig (op:PyData→Option PyData) (f:bE):bE:=fun E=>(f E).bind fun a=>(look a.2 a.1).bind fun d1=>(op d1).map fun d=>(.sh d,a.2)
theorem AK {K:PySem.W.Frag} {r:V→Hp→VK→Prop} {op:PyData→Option PyData} (hp:BX K r op) {m:Bool} {f:bE} {σ:jl} {H:Hp} {Q:VK} (h:rd K m (ig op f) σ H Q):rd K m f σ H (fun x H1=>r x H1 Q):=by
  obtain ⟨B,E,xs,Xs,res,E',fr,c,e,q⟩:=h
  obtain ⟨⟨s1,E1⟩,e1,e⟩:=Option.bind_eq_some_iff.mp e
  obtain ⟨d1,e2,e⟩:=Option.bind_eq_some_iff.mp e
  obtain ⟨d,e3,e⟩:=Option.map_eq_some_iff.mp e
  cases e
  refine ⟨B,E,xs,Xs,s1,E1,fr,c,e1,fun v1 H1 ⟨F,A,fr1⟩=>?_⟩
  obtain ⟨v,hv,k⟩:=hp d1 d v1 H1 Q e3 (fr1.look0 e2).1
  obtain ⟨A',fr2⟩:=fr1.pop
  exact k (q v H1 ⟨F,A',fr2.push ⟨rfl,v,rfl,lh hv⟩⟩)
def fZ:PyData→Option PyData
  | .int i=>some (.int (-i))
  | _=>none
section
variable {X:Cx} {a b c:Expr} {m1 m2 m3:Bool} {f g h:bE} {pos:Pos}
theorem lv (ha:EX X a m1 f):EX X (.UnaryOp .USub a pos) m1 (ig fZ f):=bA (Aq yP ha) fun σ H Q h=>AK (r:=rU fun i=> .int (-i)) (fun d1 d v1 H Q e r=>by
  cases d1 <;> simp [fZ] at e
  cases e;cases r
  exact ⟨_,rfl,fun q=>⟨_,rfl,q⟩⟩) h
end
def wn (d1 d2:PyData):Option Bool:=match d1,d2 with
  | .int i, .int j=>some (decide (i=j))
  | .str a, .str b=>some (decide (a=b))
  | .bool a, .bool b=>some (decide (a=b))
  | .none, .none=>some true
  | .none, .str _=>some false
  | .str _, .none=>some false
  | d1,d2=>if SeqAt.shaped d1&&SeqAt.shaped d2 then some (PyData.eqv d1 d2) else none
def eM:P2:=dh fun d1 d2=>(wn d1 d2).map fun b=> .bool b
def jQ:P2:=dh fun d1 d2=>(wn d1 d2).map fun b=> .bool (!b)
abbrev BY (K:PySem.W.Frag):R2:=fun x y H Q=>Cg x y H Q∨AG K x y H Q
abbrev BZ (K:PySem.W.Frag):R2:=fun x y H Q=>Ci x y H Q∨AH K x y H Q
theorem vb {K:PySem.W.Frag} {H:Hp} {v1 v2:V} {d1 d2:PyData} {b:Bool} (e:wn d1 d2=some b) (r1:Rp K H v1 d1) (r2:Rp K H v2 d2):
    (yQ v1 v2=true∧decide (v1=v2)=b)∨(DOf K H v1 d1∧DOf K H v2 d2∧SeqAt.shaped d1=true∧SeqAt.shaped d2=true∧PyData.eqv d1 d2=b):=by
  unfold wn at e
  split at e
  · cases e;cases r1;cases r2;exact .inl ⟨rfl,by simp⟩
  · cases e;cases r1;cases r2;exact .inl ⟨rfl,by simp⟩
  · cases e;cases r1;cases r2;exact .inl ⟨rfl,by simp⟩
  · cases e;cases r1;cases r2;exact .inl ⟨rfl,rfl⟩
  · cases e;cases r1;cases r2;exact .inl ⟨rfl,rfl⟩
  · cases e;cases r1;cases r2;exact .inl ⟨rfl,rfl⟩
  · split at e
    · rename_i hs
      cases e
      simp only [Bool.and_eq_true] at hs
      exact .inr ⟨r1.dof hs.1,r2.dof hs.2,hs.1,hs.2,rfl⟩
    · cases e
theorem vc {K:PySem.W.Frag}:iv K (BY K) eM:=iw fun d1 d2 d v1 v2 H Q e r1 r2=>by
  obtain ⟨b,e',rfl⟩:=Option.map_eq_some_iff.mp e
  refine ⟨_,rfl,fun q=>?_⟩
  rcases vb e' r1 r2 with ⟨a,rfl⟩ | ⟨a1,a2,a3,a4,rfl⟩
  · exact .inl ⟨a,q⟩
  · exact .inr ⟨_,_,a1,a2,a3,a4,q⟩
theorem zb {K:PySem.W.Frag}:iv K (BZ K) jQ:=iw fun d1 d2 d v1 v2 H Q e r1 r2=>by
  obtain ⟨b,e',rfl⟩:=Option.map_eq_some_iff.mp e
  refine ⟨_,rfl,fun q=>?_⟩
  rcases vb e' r1 r2 with ⟨a,rfl⟩ | ⟨a1,a2,a3,a4,rfl⟩
  · exact .inl ⟨a,q⟩
  · exact .inr ⟨_,_,a1,a2,a3,a4,q⟩
def pe (K:PySem.W.Frag) (r:R2) (op:PyData→PyData→Option PyData):Prop:=∀(d1 d2 d:PyData) (v1 v2:V) (H:Hp) (Q:VK),op d1 d2=some d→Rp K H v1 d1→Rp K H v2 d2→∃v,x8 d=some v∧(Q v H→r v1 v2 H Q)
def gw (op op':PyData→PyData→Option PyData) (m2 m3:Bool) (f g h:bE):bE:=fun E=>(f E).bind fun a=>if (m2||m3)&&a.1.isBr then none else (g a.2).bind fun b=>if m3&&b.1.isBr then none else
  (look b.2 a.1).bind fun d1=>(look b.2 b.1).bind fun d2=>match op d1 d2 with
    | some (.bool true)=>(h b.2).bind fun c=>(look c.2 b.1).bind fun d2=>(look c.2 c.1).bind fun d3=>(op' d2 d3).map fun d=>(.sh d,c.2)
    | some (.bool false)=>some (.sh (.bool false),b.2)
    | _=>none
section
variable {X:Cx} {a b c:Expr} {m1 m2 m3:Bool} {f g h:bE} {pos:Pos}
theorem yc (hu:X.A.units+64 < cLine) (ha:EX X a m1 f) (hb:EX X b m2 g):EX X (.Compare a [.Eq] [b] pos) (m1||m2) (ae eM m2 f g):=qL (OpR.or xV (u5 hu)) vc ha hb (ny _)
theorem gy (hu:X.A.units+64 < cLine) (ha:EX X a m1 f) (hb:EX X b m2 g):TX X (.Compare a [.Eq] [b] pos) (m1||m2) (bY (ae eM m2 f g)):=lm (OpR.or xV (u5 hu)) vc ha hb (ny _)
theorem mI (hu:X.A.units+64 < cLine) (ha:EX X a m1 f) (hb:EX X b m2 g):TX X (.Compare a [.NotEq] [b] pos) (m1||m2) (bY (ae jQ m2 f g)):=lm (OpR.or As (yY hu)) zb ha hb (ny _)
theorem pf {K:PySem.W.Frag} {r r':R2} {op op':PyData→PyData→Option PyData} (k:pe K r op) (k':pe K r' op') {σ:jl} {H:Hp} {Q:VK} (z:rd K (m1||(m2||m3)) (gw op op' m2 m3 f g h) σ H Q):qD r r' (rd K m1 f) (rd K m2 g) (rd K m3 h) σ H Q:=by
  obtain ⟨B,E,xs,Xs,res,E',fr,cl,e,q⟩:=z
  obtain ⟨⟨s1,E1⟩,e1,e⟩:=Option.bind_eq_some_iff.mp e
  by_cases hb:((m2||m3)&&s1.isBr)=true
  · rw [if_pos hb] at e;cases e
  rw [if_neg hb] at e
  obtain ⟨⟨s2,E2⟩,e2,e⟩:=Option.bind_eq_some_iff.mp e
  by_cases hb2:(m3&&s2.isBr)=true
  · rw [if_pos hb2] at e;cases e
  rw [if_neg hb2] at e
  obtain ⟨d1,l1,e⟩:=Option.bind_eq_some_iff.mp e
  obtain ⟨d2,l2,e⟩:=Option.bind_eq_some_iff.mp e
  have n1:(m2||m3)=true→s1.isBr=false:=fun z=>by
    cases hs:s1.isBr with
    | false=>rfl
    | true=>exact absurd (by rw [z,hs];rfl) hb
  have n2:m3=true→s2.isBr=false:=fun z=>by
    cases hs:s2.isBr with
    | false=>rfl
    | true=>exact absurd (by rw [z,hs];rfl) hb2
  refine ⟨B,E,xs,Xs,s1,E1,fr,fun z=>cl (by simp [z]),e1,fun v1 H1 fr1=>?_⟩
  refine ⟨B,E1,v1::xs,s1::Xs,s2,E2,fr1,fun z=>Calm.cons (cl (by simp [z])) (n1 (by simp [z])),e2,fun v2 H2 ⟨F,A,fr2⟩=>?_⟩
  cases ho:op d1 d2 with
  | none=>rw [ho] at e;cases e
  | some d=>
    rw [ho] at e
    obtain ⟨v,hv,kk⟩:=k d1 d2 d v1 v2 H2 (fun z H3=>∃k,z= .bl k∧(if k=true then rd K m3 h σ H3 fun w' H4=>r' v2 w' H4 Q else Q (.bl false) H3)) ho (fr2.look1 l1).1 (fr2.look0 l2).1
    cases d with
    | bool t=>
      cases hv
      refine kk ⟨t,rfl,?_⟩
      cases t with
      | true=>
        rw [if_pos rfl]
        obtain ⟨⟨s3,E3⟩,e3,e⟩:=Option.bind_eq_some_iff.mp e
        obtain ⟨d2',l2',e⟩:=Option.bind_eq_some_iff.mp e
        obtain ⟨d3,l3,e⟩:=Option.bind_eq_some_iff.mp e
        obtain ⟨d,ho',e⟩:=Option.map_eq_some_iff.mp e
        cases e
        refine ⟨B,E2,v2::v1::xs,s2::s1::Xs,s3,E3,⟨F,A,fr2⟩,fun z=>Calm.cons (Calm.cons (cl (by simp [z])) (n1 (by simp [z]))) (n2 z),e3,fun v3 H3 ⟨F3,A3,fr3⟩=>?_⟩
        obtain ⟨v,hv,kk⟩:=k' d2' d3 d v2 v3 H3 Q ho' (fr3.look1 l2').1 (fr3.look0 l3).1
        obtain ⟨A4,fr4⟩:=fr3.pop
        exact kk (q v H3 (fr4.res2 ⟨rfl,v,rfl,lh hv⟩))
      | false=>
        rw [if_neg (by decide)]
        cases e
        exact q _ _ (fr2.res2 ⟨rfl,_,rfl, .bl _⟩)
    | none=>cases e
    | int i=>cases e
    | str x=>cases e
    | list xs=>cases e
    | tuple xs=>cases e
    | dict kvs=>cases e
theorem vd {o1 o2:CmpOp} {r r':R2} {op op':PyData→PyData→Option PyData} (ho:OpR X (compareOp o1) r) (ho':OpR X (compareOp o2) r') (k:pe X.K r op) (k':pe X.K r' op') (ha:EX X a m1 f) (hb:EX X b m2 g) (hc:EX X c m3 h)
    (hm:lastMarks [o1,o2] [b,c]=false:=by with_unfolding_all rfl):EX X (.Compare a [o1,o2] [b,c] pos) (m1||(m2||m3)) (gw op op' m2 m3 f g h):=bA (uS ho ho' ha hb hc hm) fun _ _ _ z=>pf k k' z
end
end PL
namespace PL
open PySem L2 Nh
def sq (f g:bE):bE:=fun E=>(f E).bind fun a=>match a.1 with
  | .sh (.bool true)=>g a.2
  | .sh (.bool false)=>some (.sh (.bool false),a.2)
  | _=>none
def eW (f g:i7):i7:=fun E=>(f E).bind fun a=>if a.1 then g a.2 else some (false,a.2)
def hU (f g:i7):i7:=fun E=>(f E).bind fun a=>if a.1 then some (true,a.2) else g a.2
def de (f:i7):i7:=fun E=>(f E).map fun a=>(!a.1,a.2)
def gW:PyData→Option Bool
  | .none=>some false
  | .bool b=>some b
  | .int i=>some (i != 0)
  | .str x=>if x.length≤1000000 then some ((x.length:Int) != 0) else none
  | .list xs=>some (!xs.isEmpty)
  | .tuple xs=>some (!xs.isEmpty)
  | .dict _=>none
def eU (f:bE):i7:=fun E=>(f E).bind fun a=>match a.1 with
  | .al i=>match a.2[i]? with
    | some (.od kvs)=>some (!kvs.isEmpty,a.2)
    | some s=>(s.val.bind gW).map fun b=>(b,a.2)
    | none=>none
  | s=>(s.val.bind gW).map fun b=>(b,a.2)
section
variable {X:Cx} {a b c:Expr} {bv:List Expr} {m1 m2 m3:Bool} {f g h:bE} {t u:i7} {pos:Pos} {K:PySem.W.Frag}
theorem zc {op} (h:EX X a m1 f):EX X (.BoolOp op [a] pos) m1 f:=yz h
theorem ve (ha:EX X a m1 f) (hb:EX X (.BoolOp .And (b::bv) pos) m2 g):EX X (.BoolOp .And (a::b::bv) pos) (m1||m2) (sq f g):=by
  refine bA (yA ha hb) fun σ H Q z=>?_
  obtain ⟨B,E,xs,Xs,res,E',fr,cl,e,q⟩:=z
  obtain ⟨⟨s1,E1⟩,e1,e⟩:=Option.bind_eq_some_iff.mp e
  refine ⟨B,E,xs,Xs,s1,E1,fr,fun z=>cl (by simp [z]),e1,fun v1 H1 ⟨F,A,fr1⟩=>?_⟩
  simp only at e
  split at e
  · obtain ⟨r,_⟩:=fr1.look0 (d:= .bool true) rfl
    cases r
    obtain ⟨A',fr2⟩:=fr1.pop
    exact ⟨true,rfl,(if_pos rfl).mpr ⟨B,E1,xs,Xs,res,E',⟨F,A',fr2⟩,fun z=>cl (by simp [z]),e,q⟩⟩
  · cases e
    obtain ⟨r,_⟩:=fr1.look0 (d:= .bool false) rfl
    cases r
    exact ⟨false,rfl,(if_neg (by decide)).mpr (q _ _ ⟨F,A,fr1⟩)⟩
  · cases e
theorem nS (ha:TX X a m1 t):WX X (.BoolOp .And [a] pos) m1 t:=wv ha
theorem nT (ha:TX X a m1 t):WX X (.BoolOp .Or [a] pos) m1 t:=yw ha
theorem qM (ha:TX X a m1 t) (hb:WX X (.BoolOp .And (b::bv) pos) m2 u):WX X (.BoolOp .And (a::b::bv) pos) (m1||m2) (eW t u):=by
  refine u8 (yx ha hb) fun σ H Q z=>?_
  obtain ⟨B,E,xs,Xs,res,E',fr,cl,e,q⟩:=z
  obtain ⟨⟨b1,E1⟩,e1,e⟩:=Option.bind_eq_some_iff.mp e
  refine ⟨B,E,xs,Xs,b1,E1,fr,fun z=>cl (by simp [z]),e1,fun H1 fr1=>?_⟩
  cases b1 with
  | true=>exact (if_pos rfl).mpr ⟨B,E1,xs,Xs,res,E',fr1,fun z=>cl (by simp [z]),e,q⟩
  | false=>cases e;exact (if_neg (by decide)).mpr (q _ fr1)
theorem sr (ha:TX X a m1 t) (hb:WX X (.BoolOp .Or (b::bv) pos) m2 u):WX X (.BoolOp .Or (a::b::bv) pos) (m1||m2) (hU t u):=by
  refine u8 (Ad ha hb) fun σ H Q z=>?_
  obtain ⟨B,E,xs,Xs,res,E',fr,cl,e,q⟩:=z
  obtain ⟨⟨b1,E1⟩,e1,e⟩:=Option.bind_eq_some_iff.mp e
  refine ⟨B,E,xs,Xs,b1,E1,fr,fun z=>cl (by simp [z]),e1,fun H1 fr1=>?_⟩
  cases b1 with
  | true=>cases e;exact (if_pos rfl).mpr (q _ fr1)
  | false=>exact (if_neg (by decide)).mpr ⟨B,E1,xs,Xs,res,E',fr1,fun z=>cl (by simp [z]),e,q⟩
theorem qN (h:WX X a m1 t):TX X a m1 t:=PW.pt h
theorem iz (ha:TX X a m1 t):TX X (.UnaryOp .Not a pos) m1 (de t):=by
  refine nQ (yy ha) fun σ H Q z=>?_
  obtain ⟨B,E,xs,Xs,res,E',fr,cl,e,q⟩:=z
  obtain ⟨⟨b1,E1⟩,e1,e⟩:=Option.map_eq_some_iff.mp e
  cases e
  exact ⟨B,E,xs,Xs,b1,E1,fr,cl,e1,fun H1 fr1=>q _ fr1⟩
theorem zd {H:Hp} {v:V} {d:PyData} {b:Bool} (r:Rp K H v d) (e:gW d=some b):uU K v H b:=by
  cases r with
  | non=>cases e;rfl
  | bl b=>cases e;rfl
  | int i=>cases e;rfl
  | str x=>
    simp only [gW] at e
    split at e
    · rename_i hl
      cases e
      exact ⟨gu hl,rfl⟩
    · cases e
  | lst h r=>cases e;exact .inl ⟨_,h,by cases r <;> rfl⟩
  | tup h r=>cases e;exact .inr (.inl ⟨_,h,by cases r <;> rfl⟩)
  | dct h r=>cases e
theorem hW (ha:EX X a m1 f) (he:∀whole,isTrue a X.env whole=(do let v ←whole;standAt a.pos;holding [v] (truthy v)):=by exact fun _=>rfl):TX X a m1 (eU f):=by
  refine nQ (uV ha he) fun σ H Q z=>?_
  obtain ⟨B,E,xs,Xs,res,E',fr,cl,e,q⟩:=z
  obtain ⟨⟨s,E1⟩,e1,e⟩:=Option.bind_eq_some_iff.mp e
  refine ⟨B,E,xs,Xs,s,E1,fr,cl,e1,fun v1 H1 ⟨F,A,fr1⟩=>?_⟩
  have key:∀d,look E1 s=some d→(gW d).map (fun b=>(b,E1))=some (res,E')→∃k,uU X.K v1 H1 k∧Q k H1:=fun d l e=>by
    obtain ⟨b,e',z⟩:=Option.map_eq_some_iff.mp e
    cases z
    obtain ⟨A',fr2⟩:=fr1.pop
    exact ⟨_,zd (fr1.look0 l).1 e',q _ ⟨F,A',fr2⟩⟩
  have kv:(s.val.bind gW).map (fun b=>(b,E1))=some (res,E')→(∀i,s≠ .al i)→∃k,uU X.K v1 H1 k∧Q k H1:=fun e na=>by
    obtain ⟨b,e',z⟩:=Option.map_eq_some_iff.mp e
    obtain ⟨d,e1,e2⟩:=Option.bind_eq_some_iff.mp e'
    refine key d ?_ (by rw [e2];exact congrArg some z)
    cases s <;> first | exact e1 | exact absurd rfl (na _)
  simp only at e
  split at e
  · rename_i i
    split at e
    · rename_i kvs ei
      cases e
      obtain ⟨v',A1,ev,rfl,w,ew,hw⟩:=fr1.ext (k:=0) rfl
      cases ev;cases ew
      obtain ⟨o,A1,eo,l,us,A2,rfl,_,hl,r⟩:=fr1.var ei
      rw [hw] at eo
      cases eo
      obtain ⟨A',fr2⟩:=fr1.pop
      exact ⟨_, .inr (.inr ⟨_,hl,by cases us <;> cases kvs <;> first | rfl | exact False.elim r⟩),q _ ⟨F,A',fr2⟩⟩
    · rename_i s' _ ei
      obtain ⟨b,e',z⟩:=Option.map_eq_some_iff.mp e
      obtain ⟨d,e1,e2⟩:=Option.bind_eq_some_iff.mp e'
      exact key d (by simp [look,ei,e1]) (by rw [e2];exact congrArg some z)
    · cases e
  · rename_i na
    exact kv e na
end
theorem vf {X:Cx} {a b c:Expr} {m1 m2 m3:Bool} {f g h:bE} {pos:Pos} {o1 o2:CmpOp} {r r':R2} {op op':PyData→PyData→Option PyData} (ho:OpR X (compareOp o1) r) (ho':OpR X (compareOp o2) r') (k:pe X.K r op) (k':pe X.K r' op') (ha:EX X a m1 f) (hb:EX X b m2 g) (hc:EX X c m3 h)
    (hm:lastMarks [o1,o2] [b,c]=false:=by with_unfolding_all rfl):TX X (.Compare a [o1,o2] [b,c] pos) (m1||(m2||m3)) (bY (gw op op' m2 m3 f g h)):=nQ (uT ho ho' ha hb hc hm) fun _ _ _ z=>pf k k' (u9 z)
def am:nP:=fun E=>some ([],E)
def ad (m2:Bool) (f:bE) (g:nP):nP:=fun E=>(f E).bind fun a=>if m2&&a.1.isBr then none else (g a.2).map fun b=>(a.1::b.1,b.2)
def aP:jk:=fun E=>some ([],E)
def aF (f:bE) (g:jk):jk:=fun E=>(f E).bind fun a=>(frz a.2 a.1).bind fun b=>(g b.2).map fun c=>(b.1::c.1,c.2)
def dC (f:jk):bE:=fun E=>(f E).bind fun a=>if a.1.length≤1000000 then some (.sh (.tuple a.1),a.2) else none
def bO (f:jk):bE:=fun E=>(f E).bind fun a=>if a.1.length≤1000000 then some (.ow a.1,a.2) else none
section
variable {X:Cx} {e:Expr} {es:List Expr} {m1 m2:Bool} {f:bE} {g:nP} {d:jk} {pos:Pos} {K:PySem.W.Frag}
theorem av:AX X [] false am:=by
  refine jU fX fun σ H Q z=>?_
  obtain ⟨B,E,xs,Xs,res,E',fr,cl,e,q⟩:=z
  cases e
  exact q [] H rfl fr
theorem ag (ha:EX X e m1 f) (hr:AX X es m2 g) (hs:starEach (e::es) X.env=(false,eval e X.env)::starEach es X.env:=by rfl):AX X (e::es) (m1||m2) (ad m2 f g):=by
  refine jU (dE ha hr hs) fun σ H Q z=>?_
  obtain ⟨B,E,xs,Xs,res,E',fr,cl,e,q⟩:=z
  obtain ⟨⟨s,E1⟩,e1,e⟩:=Option.bind_eq_some_iff.mp e
  by_cases hb:(m2&&s.isBr)=true
  · rw [if_pos hb] at e;cases e
  rw [if_neg hb] at e
  obtain ⟨⟨rs,E2⟩,e2,e⟩:=Option.map_eq_some_iff.mp e
  cases e
  refine ⟨B,E,xs,Xs,s,E1,fr,fun z=>cl (by simp [z]),e1,fun v1 H1 fr1=>?_⟩
  refine ⟨B,E1,v1::xs,s::Xs,rs,E2,fr1,fun z=>Calm.cons (cl (by simp [z])) ?_,e2,fun vs H2 hl fr2=>?_⟩
  · cases hs:s.isBr with
    | false=>rfl
    | true=>exact absurd (by simp [z,hs]) hb
  · exact q (v1::vs) H2 (by simp [hl]) (by simpa using fr2)
theorem cn:DX X [] false aP:=by
  refine jU fX fun σ H Q z=>?_
  obtain ⟨B,E,xs,Xs,res,E',fr,cl,e,q⟩:=z
  cases e
  exact q [] H rfl fr
theorem bU (ha:EX X e m1 f) (hr:DX X es m2 d) (hs:starEach (e::es) X.env=(false,eval e X.env)::starEach es X.env:=by rfl):DX X (e::es) (m1||m2) (aF f d):=by
  refine jU (dE ha hr hs) fun σ H Q z=>?_
  obtain ⟨B,E,xs,Xs,res,E',fr,cl,e,q⟩:=z
  obtain ⟨⟨s,E1⟩,e1,e⟩:=Option.bind_eq_some_iff.mp e
  obtain ⟨⟨d1,E2⟩,e2,e⟩:=Option.bind_eq_some_iff.mp e
  obtain ⟨⟨rs,E3⟩,e3,e⟩:=Option.map_eq_some_iff.mp e
  cases e
  refine ⟨B,E,xs,Xs,s,E1,fr,fun z=>cl (by simp [z]),e1,fun v1 H1 ⟨F,A,fr1⟩=>?_⟩
  obtain ⟨F2,A2,fr2⟩:=fr1.frz0 e2
  refine ⟨B,E2,v1::xs, .sh d1::Xs,rs,E3,⟨F2,A2,fr2⟩,fun z=>Calm.cons (cl (by simp [z])) rfl,e3,fun vs H2 hl fr2=>?_⟩
  exact q (v1::vs) H2 (by simp [hl]) (by simpa using fr2)
theorem FrF.shsR {B F:Hp} {σ:jl} {H:Hp} {E:List Sl} {xs:List V} {Xs:List Sl}:∀{us:List V} {es:List PyData} {A:List Addr},us.length=es.length→FrF K B F A σ H E (us++xs) (es.map .sh++Xs)→RpA K F us es∧∃A',FrF K B F A' σ H E xs Xs
  | [],[],A,_,h=>⟨.nil,A,h⟩
  | u::us,e::es,A,hl,h=>by
    obtain ⟨v,A1,ev,rfl,w,ew,r⟩:=h.ext (k:=0) rfl
    cases ev;cases ew
    obtain ⟨A',h'⟩:=FrF.pop (xs:=us++xs) (Xs:=es.map .sh++Xs) h
    obtain ⟨r',q⟩:=FrF.shsR (by simpa using hl) h'
    exact ⟨.cons r r',q⟩
  | [],_::_,_,e,_=>by cases e
  | _::_,[],_,e,_=>by cases e
theorem FrF.shs {B F:Hp} {σ:jl} {H:Hp} {E:List Sl} {xs:List V} {Xs:List Sl} {us:List V} {es:List PyData} {A:List Addr} (hl:us.length=es.length) (h:FrF K B F A σ H E (us.reverse++xs) (es.reverse.map .sh++Xs)):RpA K F us es∧∃A',FrF K B F A' σ H E xs Xs:=by
  obtain ⟨r,q⟩:=FrF.shsR (by simpa using hl) h
  have:=r.rev
  rw [List.reverse_reverse,List.reverse_reverse] at this
  exact ⟨this,q⟩
theorem i_ {x1} (h:DX X es m1 d):EX X (.Tuple es x1 pos) m1 (dC d):=by
  refine bA (uW h) fun σ H Q z=>?_
  obtain ⟨B,E,xs,Xs,res,E',fr,cl,e,q⟩:=z
  obtain ⟨⟨ds,E1⟩,e1,e⟩:=Option.bind_eq_some_iff.mp e
  simp only at e
  split at e
  · rename_i hl
    cases e
    refine ⟨B,E,xs,Xs,ds,_,fr,cl,e1,fun vs H1 hv ⟨F,A,fr1⟩=>?_⟩
    obtain ⟨r,A',fr2⟩:=fr1.shs hv
    exact ⟨gu (by lia),fun p hp=>q _ _ ⟨_,_,fr2.newt r hp⟩⟩
  · cases e
theorem eI (h:DX X es m1 d):EX X (.List es pos) m1 (bO d):=by
  refine bA (yS h) fun σ H Q z=>?_
  obtain ⟨B,E,xs,Xs,res,E',fr,cl,e,q⟩:=z
  obtain ⟨⟨ds,E1⟩,e1,e⟩:=Option.bind_eq_some_iff.mp e
  simp only at e
  split at e
  · rename_i hl
    cases e
    refine ⟨B,E,xs,Xs,ds,_,fr,cl,e1,fun vs H1 hv ⟨F,A,fr1⟩=>?_⟩
    obtain ⟨r,A',fr2⟩:=fr1.shs hv
    exact ⟨gu (by lia),fun p hp=>q _ _ ⟨_,_,fr2.newl r hp⟩⟩
  · cases e
end
def qO (ds:List PyData) (lo hi:Option Int):List PyData:=(ds.drop (HT.kZ ds.length 0 lo)).take (HT.kZ ds.length ds.length hi - HT.kZ ds.length 0 lo)
def fF:P2:=fun E s1 s2=>(look E s1).bind fun d1=>(look E s2).bind fun d2=>match d2 with
  | .int i=>match d1 with
    | .list ds=>(atI ds i).map fun d=>(if dZ E s1&& !cY d then .br d else .sh d,E)
    | .tuple ds=>(atI ds i).map fun d=>(if dZ E s1&& !cY d then .br d else .sh d,E)
    | .str z=>if z.length≤1000000 then (atI z.cps.toList i).map fun c=>(.sh (.str ⟨#[c]⟩),E) else none
    | _=>none
  | _=>none
section
variable {K:PySem.W.Frag} {H:Hp}
theorem RpA.atI {vs:List V} {ds:List PyData} {i:Int} {d:PyData} (h:RpA K H vs ds) (e:L2.atI ds i=some d):∃v,L2.atI vs i=some v∧Rp K H v d:=by
  unfold L2.atI at e ⊢
  obtain ⟨j,e1,e2⟩:=Option.bind_eq_some_iff.mp e
  obtain ⟨v,ev,r⟩:=h.get e2
  exact ⟨v,by rw [h.len,e1];exact ev,r⟩
theorem FrF.item {B F:Hp} {A:List Addr} {σ:jl} {E:List Sl} {xs:List V} {Xs:List Sl} {v1 v2 v:V} {s1 s2:Sl} {d:PyData} (fr:FrF K B F A σ H E (v2::v1::xs) (s2::s1::Xs)) (r:Rp K H v d) (f:dZ E s1=false→Rp K F v d):
    Frm K B σ H E (v::xs) ((if dZ E s1&& !cY d then .br d else .sh d)::Xs):=by
  by_cases hc:(dZ E s1&& !cY d)=true
  · rw [if_pos hc]
    exact fr.res2 ⟨rfl,v,rfl,r⟩
  · rw [if_neg hc]
    refine fr.res2 ⟨rfl,v,rfl,?_⟩
    cases hh:dZ E s1 with
    | false=>exact f hh
    | true=>
      rw [hh] at hc
      exact fr.cold r (by simpa using hc)
theorem ze:iv K (Cj K) fF:=by
  intro B F A σ H E xs Xs v1 v2 s1 s2 res E' Q fr e q
  obtain ⟨d1,e1,e⟩:=Option.bind_eq_some_iff.mp e
  obtain ⟨d2,e2,e⟩:=Option.bind_eq_some_iff.mp e
  obtain ⟨r1,f1⟩:=fr.look1 e1
  have r2:=(fr.look0 e2).1
  split at e
  · cases r2
    split at e
    · obtain ⟨d,ed,e⟩:=Option.map_eq_some_iff.mp e
      cases e
      cases hh:dZ E s1 with
      | false=>
        obtain ⟨a,vs,rfl,h1,h2⟩:=f1 hh
        obtain ⟨v,ev,rv⟩:=h2.atI ed
        have z:=fr.item (rv.same fr.fh) fun _=>rv
        rw [hh] at z q
        exact .inl ⟨_,_,_,v,rfl,rfl,h1,ev,q _ _ z⟩
      | true=>
        cases r1 with
        | lst h1 h2=>
          obtain ⟨v,ev,rv⟩:=h2.atI ed
          have z:=fr.item rv fun h=>absurd (hh.symm.trans h) (by decide)
          rw [hh] at z q
          exact .inl ⟨_,_,_,v,rfl,rfl,h1,ev,q _ _ z⟩
    · obtain ⟨d,ed,e⟩:=Option.map_eq_some_iff.mp e
      cases e
      cases hh:dZ E s1 with
      | false=>
        have h0:Rp K F v1 _:=f1 hh
        cases h0 with
        | tup h1 h2=>
          obtain ⟨v,ev,rv⟩:=h2.atI ed
          have z:=fr.item (rv.same fr.fh) fun _=>rv
          rw [hh] at z q
          exact .inr (.inl ⟨_,_,_,v,rfl,rfl,fr.fh.tup h1,ev,q _ _ z⟩)
      | true=>
        cases r1 with
        | tup h1 h2=>
          obtain ⟨v,ev,rv⟩:=h2.atI ed
          have z:=fr.item rv fun h=>absurd (hh.symm.trans h) (by decide)
          rw [hh] at z q
          exact .inr (.inl ⟨_,_,_,v,rfl,rfl,h1,ev,q _ _ z⟩)
    · split at e
      · rename_i hl
        obtain ⟨c,ec,e⟩:=Option.map_eq_some_iff.mp e
        cases e;cases r1
        exact .inr (.inr ⟨_,_,c,rfl,rfl,gu hl,ec,q _ _ (fr.res2 ⟨rfl,_,rfl, .str _⟩)⟩)
      · cases e
    · cases e
  · cases e
end
end PL
namespace L2
open PySem PySem.Spec PyProof.Rows
section
variable {κ:Type} [DecidableEq κ]
end
abbrev KT (H:Hp):List (List ip×V)→List (List ip×Addr×Value)→Prop:=Paired fun p q=>p.1=q.1∧H q.2.1=some (.tup (p.1.map kV))∧RelV p.2 q.2.2
section
variable {P:Program} {w:World} {H:Hp} {h:Heap} {a:Addr}
theorem AL {u:HO} (ok:HOk P w H h) (e:Rd H a u):ObjOk P w H h a u:=e.ok ok
theorem AM {kvs:List (ip×V)} (ok:HOk P w H h) (e:Rd H a (.dK kvs)):kvs.length≤sizeLine∧(a == sysModules)=false∧∃vs,KV kvs vs∧h.DictOf (kK P w) a vs:=
  show ObjOk P w H h a (.dK kvs) from AL ok e
end
section
variable {X:Cx} {pins:List (Addr×Obj)} {σ:St} {H:Hp} {s:Shared} {a:Addr} {y v:V} {u r:Value} {o:Option V} {A:Around} {E:Value→Shared→Prop}
end
structure M1 (X:Cx) (o:Expr) (m:Str) (apos:Pos) (e:Expr) (cpos:Pos):Prop where
  base:attributeBase o m X.env (eval o X.env)=eval o X.env
  few:((backTo cpos (starEach [e] X.env)).all (fun x=> !x.1)&&(backToKw cpos (keywordEach [] X.env)).all (fun x=>x.1.isSome)
    &&decide (([e]:List Expr).length+([]:List Keyword).length+(if ([]:List Keyword).isEmpty then 0 else 1) < 30))=true
  line:(apos.endLine == cpos.line)=true
  trees:backTo cpos (starEach [e] X.env)=[(false,eval e X.env)]
end L2
namespace PL
open PySem L2 Nh
theorem fO {X:Cx} {a b:Expr} {m1 m2:Bool} {f g:bE} {pos:Pos} (ha:EX X a m1 f) (hb:EX X b m2 g) (hs:r8 b:=by exact fun _ _=>rfl):EX X (.Subscript a b pos) (m1||m2) (ae fF m2 f g):=bA (Az yV ha hb hs) fun _ _ _ h=>nR ze h
abbrev zf:=List Sl→Option (Option Int×List Sl)
def ro (K:PySem.W.Frag) (m:Bool) (f:zf):TO:=fun σ H Q=>∃B E xs Xs o E',Frm K B σ H E xs Xs∧(m=true→Calm Xs)∧f E=some (o,E')∧∀H',Frm K B σ H' E' xs Xs→Q o H'
def OX (X:Cx) (e:Option Expr) (m:Bool) (f:zf):Prop:=PO X e (ro X.K m f)
def gz:zf:=fun E=>some (none,E)
def gA (f:bE):zf:=fun E=>(f E).bind fun a=>match look a.2 a.1 with
  | some (.int i)=>some (some i,a.2)
  | _=>none
section
variable {X:Cx} {e:Expr} {lo hi:Option Expr} {m1 m2 m3:Bool} {f:bE} {g h:zf} {pos p2:Pos} {K:PySem.W.Frag}
theorem vg {e:Option Expr} {t t':TO} (h:PO X e t) (k:∀σ H Q,t' σ H Q→t σ H Q):PO X e t':=fun pins s σ H Q I q=>h pins s σ H Q I (k σ H Q q)
theorem nU:OX X none false gz:=vg wK fun σ H Q z=>by
  obtain ⟨B,E,xs,Xs,res,E',fr,cl,e,q⟩:=z
  cases e
  exact q _ fr
theorem nV (he:EX X e m1 f):OX X (some e) m1 (gA f):=vg (wL he) fun σ H Q z=>by
  obtain ⟨B,E,xs,Xs,res,E',fr,cl,e,q⟩:=z
  obtain ⟨⟨s,E1⟩,e1,e⟩:=Option.bind_eq_some_iff.mp e
  refine ⟨B,E,xs,Xs,s,E1,fr,cl,e1,fun v1 H1 ⟨F,A,fr1⟩=>?_⟩
  simp only at e
  split at e
  · rename_i i l
    cases e
    have r:=(fr1.look0 l).1
    cases r
    obtain ⟨A',fr2⟩:=fr1.pop
    exact ⟨i,rfl,q _ ⟨F,A',fr2⟩⟩
  · cases e
theorem RpA.cut {F:Hp} {vs:List V} {ds:List PyData} (h:RpA K F vs ds) (lo hi:Option Int):RpA K F (tH vs lo hi) (qO ds lo hi):=by
  unfold tH qO
  rw [h.len]
  exact (h.drop _).take _
end
def bb (E:List Sl):List Sl→Option (List PyData)
  | []=>some []
  | s::ss=>(look E s).bind fun d=>(bb E ss).map fun ds=>d::ds
theorem lookA_iff {E:List Sl}:∀{ss:List Sl} {ds:List PyData},bb E ss=some ds↔Paired (fun s d=>look E s=some d) ss ds
  | [],ds=>⟨fun h=>by cases h;exact .nil,fun h=>by cases h;rfl⟩
  | s::ss,ds=>by
    constructor
    · intro h
      obtain ⟨d,h1,h⟩:=Option.bind_eq_some_iff.mp h
      obtain ⟨es,h2,h⟩:=Option.map_eq_some_iff.mp h
      cases h
      exact .cons h1 (lookA_iff.mp h2)
    · intro h
      cases h with
      | cons h1 h2=>simp [bb,h1,lookA_iff.mpr h2]
theorem tN {E:List Sl} {ss:List Sl} {ds:List PyData} (h:bb E ss=some ds):bb E ss.reverse=some ds.reverse:=lookA_iff.mpr (i6 (lookA_iff.mp h))
section
variable {X:Cx} {K:PySem.W.Frag} {B F:Hp} {σ:jl} {H:Hp} {E:List Sl} {xs:List V} {Xs:List Sl}
theorem FrF.looksR:∀{us:List V} {ts:List Sl} {es:List PyData} {A:List Addr},us.length=ts.length→FrF K B F A σ H E (us++xs) (ts++Xs)→bb E ts=some es→RpA K H us es∧∃A',FrF K B F A' σ H E xs Xs
  | [],[],es,A,_,h,e=>by cases e;exact ⟨.nil,A,h⟩
  | u::us,t::ts,es,A,hl,h,e=>by
    obtain ⟨d,h1,e⟩:=Option.bind_eq_some_iff.mp e
    obtain ⟨es',h2,e⟩:=Option.map_eq_some_iff.mp e
    cases e
    have r:=(FrF.look0 (xs:=us++xs) (Xs:=ts++Xs) h h1).1
    obtain ⟨A',h'⟩:=FrF.pop (xs:=us++xs) (Xs:=ts++Xs) h
    obtain ⟨r',q⟩:=FrF.looksR (by simpa using hl) h' h2
    exact ⟨.cons r r',q⟩
  | [],_::_,_,_,e,_,_=>by cases e
  | _::_,[],_,_,e,_,_=>by cases e
theorem FrF.looks {us:List V} {ts:List Sl} {es:List PyData} {A:List Addr} (hl:us.length=ts.length) (h:FrF K B F A σ H E (us.reverse++xs) (ts.reverse++Xs)) (e:bb E ts=some es):RpA K H us es∧∃A',FrF K B F A' σ H E xs Xs:=by
  obtain ⟨r,q⟩:=FrF.looksR (by simpa using hl) h (tN e)
  have:=r.rev
  rw [List.reverse_reverse,List.reverse_reverse] at this
  exact ⟨this,q⟩
end
def xc (K:PySem.W.Frag) (r:List V→Hp→VK→Prop) (op:List PyData→Option PyData):Prop:=∀(ds:List PyData) (d:PyData) (vs:List V) (H:Hp) (Q:VK),op ds=some d→RpA K H vs ds→∃v,x8 d=some v∧(Q v H→r vs H Q)
def bI (op:List PyData→Option PyData) (g:nP):bE:=fun E=>(g E).bind fun a=>(bb a.2 a.1).bind fun ds=>(op ds).map fun d=>(.sh d,a.2)
theorem vh {K:PySem.W.Frag} {r:List V→Hp→VK→Prop} {op:List PyData→Option PyData} (hp:xc K r op) {m:Bool} {g:nP} {σ:jl} {H:Hp} {Q:VK} (h:rd K m (bI op g) σ H Q):BM r (ra K m g) σ H Q:=by
  obtain ⟨B,E,xs,Xs,res,E',fr,cl,e,q⟩:=h
  obtain ⟨⟨rs,E1⟩,e1,e⟩:=Option.bind_eq_some_iff.mp e
  obtain ⟨ds,e2,e⟩:=Option.bind_eq_some_iff.mp e
  obtain ⟨d,e3,e⟩:=Option.map_eq_some_iff.mp e
  cases e
  refine ⟨B,E,xs,Xs,rs,E1,fr,cl,e1,fun vs H1 hl ⟨F,A,fr1⟩=>?_⟩
  obtain ⟨r1,A',fr2⟩:=fr1.looks hl e2
  obtain ⟨v,hv,k⟩:=hp ds d vs H1 Q e3 r1
  exact k (q v H1 ⟨F,A',fr2.push ⟨rfl,v,rfl,lh hv⟩⟩)
def cH:List PyData→Option PyData
  | [.list xs]=>some (.int xs.length)
  | [.tuple xs]=>some (.int xs.length)
  | [.str z]=>if z.length≤1000000 then some (.int z.length) else none
  | _=>none
theorem RpA.one {K:PySem.W.Frag} {H:Hp} {vs:List V} {d:PyData} (h:RpA K H vs [d]):∃v,vs=[v]∧Rp K H v d:=by
  cases h with
  | cons h t=>cases t;exact ⟨_,rfl,h⟩
theorem RpA.two {K:PySem.W.Frag} {H:Hp} {vs:List V} {d e:PyData} (h:RpA K H vs [d,e]):∃v u,vs=[v,u]∧Rp K H v d∧Rp K H u e:=by
  cases h with
  | cons h t=>
    obtain ⟨u,rfl,r⟩:=t.one
    exact ⟨_,_,rfl,h,r⟩
section
variable {X:Cx} {e:Expr} {es:List Expr} {m1:Bool} {g:nP} {p pos:Pos} {K:PySem.W.Frag}
abbrev AN (K:PySem.W.Frag):List V→Hp→VK→Prop:=fun xs H Q=>(∃p ys,xs=[.ref p]∧(SqL K H p ys∨SqT K H p ys)∧Q (.int ys.length) H)∨(∃z,xs=[.str z]∧z.length≤sizeLine∧Q (.int z.length) H)
theorem xg:xc K (AN K) cH:=fun ds d vs H Q e r=>by
  unfold cH at e
  split at e
  · cases e
    obtain ⟨v,rfl,r'⟩:=r.one
    cases r' with
    | lst h1 h2=>exact ⟨_,rfl,fun q=> .inl ⟨_,_,rfl, .inl h1,by rw [h2.len];exact q⟩⟩
  · cases e
    obtain ⟨v,rfl,r'⟩:=r.one
    cases r' with
    | tup h1 h2=>exact ⟨_,rfl,fun q=> .inl ⟨_,_,rfl, .inr h1,by rw [h2.len];exact q⟩⟩
  · split at e
    · rename_i hl
      cases e
      obtain ⟨v,rfl,r'⟩:=r.one
      cases r'
      exact ⟨_,rfl,fun q=> .inr ⟨_,rfl,gu hl,q⟩⟩
    · cases e
  · cases e
theorem ly {x:Str} {id:String} {r:List V→Hp→VK→Prop} {op:List PyData→Option PyData} (hp:xc X.K r op) (hc:CallR X (.builtin id) r) (hg:Gl X x) (hm:X.mg x=none) (hv:bootBuiltins x=some (.builtin id)) (ha:AX X (e::es) m1 g) (hn:x≠"__name__":=by decide) (hdb:(x == ("__debug__":Str))=false:=by decide)
    (he:starEach (e::es) X.env=(false,eval e X.env)::starEach es X.env:=by rfl) (hpl:(backTo pos (starEach es X.env)).any (·.1)=false:=by rfl):EX X (.Call (.Name x p) (e::es) [] pos) m1 (bI op g):=
  bA (kY hc hg hm hv ha hn hdb he hpl) fun _ _ _ h=>vh hp h
theorem fe (hg:Gl X "len") (hm:X.mg "len"=none) (ha:AX X [e] m1 g) (he:starEach [e] X.env=[(false,eval e X.env)]:=by rfl):EX X (.Call (.Name "len" p) [e] [] pos) m1 (bI cH g):=ly xg (CallR.or nG nH) hg hm PySem.boot_len ha (by decide) (by decide) he rfl
end
def nW (g:bE):bE:=fun E=>(g E).bind fun a=>match look a.2 a.1 with
  | some (.list ds)=>if !dZ a.2 a.1||bx ds then some (.ow ds,a.2) else none
  | some (.tuple ds)=>if !dZ a.2 a.1||bx ds then some (.ow ds,a.2) else none
  | _=>none
section
variable {X:Cx} {e:Expr} {m1:Bool} {f:bE} {p pos:Pos} {K:PySem.W.Frag}
theorem xh (hg:Gl X "list") (hm:X.mg "list"=none) (ha:EX X e m1 f) (he:starEach [e] X.env=[(false,eval e X.env)]:=by rfl):EX X (.Call (.Name "list" p) [e] [] pos) m1 (nW f):=by
  refine bA (jS nI hg hm PyProof.Rows.boot_list (dE ha fX he) (by decide) (by decide) he rfl) fun σ H Q z=>?_
  obtain ⟨B,E,xs,Xs,res,E',fr,cl,e,q⟩:=z
  obtain ⟨⟨s,E1⟩,e1,e⟩:=Option.bind_eq_some_iff.mp e
  refine ⟨B,E,xs,Xs,s,E1,fr,cl,e1,fun v1 H1 ⟨F,A,fr1⟩=>?_⟩
  obtain ⟨A',fr2⟩:=fr1.pop
  simp only at e
  split at e
  · rename_i ds ld
    split at e
    · rename_i hc
      cases e
      obtain ⟨a,vs,ev,h1,h2⟩:=fr1.items (k:=0) rfl ld hc
      cases ev
      exact ⟨a,vs,rfl, .inl h1,fun l hl=>q _ _ ⟨F,_,fr2.newl h2 hl⟩⟩
    · cases e
  · rename_i ds ld
    split at e
    · rename_i hc
      cases e
      obtain ⟨r,f0⟩:=fr1.look0 ld
      cases hh:dZ E' s with
      | false=>
        have h0:Rp X.K F v1 _:=f0 hh
        cases h0 with
        | tup h1 h2=>exact ⟨_,_,rfl, .inr (fr1.fh.tup h1),fun l hl=>q _ _ ⟨F,_,fr2.newl h2 hl⟩⟩
      | true=>
        rw [hh] at hc
        cases r with
        | tup h1 h2=>exact ⟨_,_,rfl, .inr h1,fun l hl=>q _ _ ⟨F,_,fr2.newl (fr1.coldA h2 (by simpa using hc)) hl⟩⟩
    · cases e
  · cases e
end
inductive Ty where
  | non | bool | int | str | list | tuple | dict
def Ty.name:Ty→String
  | .non=>"NoneType"
  | .bool=>"bool"
  | .int=>"int"
  | .str=>"str"
  | .list=>"list"
  | .tuple=>"tuple"
  | .dict=>"dict"
def Ty.is:Ty→Ty→Bool
  | .non, .non=>true
  | .bool, .bool=>true
  | .bool, .int=>true
  | .int, .int=>true
  | .str, .str=>true
  | .list, .list=>true
  | .tuple, .tuple=>true
  | .dict, .dict=>true
  | _,_=>false
def yd:PyData→Ty
  | .none=> .non
  | .bool _=> .bool
  | .int _=> .int
  | .str _=> .str
  | .list _=> .list
  | .tuple _=> .tuple
  | .dict _=> .dict
theorem zg (K:PySem.W.Frag) (t n:Ty):PySem.W.kitOne K (.type t.name) (.type n.name)=some (t.is n):=by cases t <;> cases n <;> rfl
def lz (n:Ty) (d:PyData):Option PyData:=some (.bool ((yd d).is n))
section
variable {X:Cx} {e:Expr} {m1:Bool} {f:bE} {p p2 pos:Pos}
theorem tO {pins:List (Addr×Obj)} {s:Shared} {σ:jl} {H:Hp} {x:V} {u:Value} {d:PyData} {n:Ty} {A:Around} {E:Value→Shared→Prop} {Q:Value→Shared→Prop} (I:Inv X pins σ H s) (rx:RelV x u) (rp:Rp X.K H x d) (h:∀tk,Q (.bool ((yd d).is n)) {s with toks:=tk}):
    wpAny (model X.prog X.w) A (call (.builtin "isinstance") [u, .type n.name]) Q E s:=by
  have e:=zg X.K (yd d) n
  cases rp with
  | non=>exact iK I rx .non e h
  | bl b=>exact iK I rx (.bl b) e h
  | int i=>exact iK I rx (.int i) e h
  | str y=>exact iK I rx (.str y) e h
  | lst h1 _=>
    cases rx
    obtain ⟨its,rv,⟨o,n',e1,c,_,d⟩,_⟩:=I.list h1
    exact PySem.W.kia_one PySem.W.kitx_list I.kIn ⟨_,e1,c⟩ e (fun z=>nomatch z) h
  | tup h1 _=>
    cases rx
    obtain ⟨its,rv,⟨o,e1,c,n',d⟩,_⟩:=I.tuple h1
    exact PySem.W.kia_one PySem.W.kitx_tuple I.kIn ⟨_,e1,c⟩ e (fun z=>nomatch z) h
  | dct h1 _=>
    cases rx
    obtain ⟨_,_,vs,_,ob,es,ep,e1,c,_⟩:=AM I.hok h1
    exact PySem.W.kia_one PySem.W.kitx_dict I.kIn ⟨_,e1,c.1⟩ e (fun z=>nomatch z) h
theorem tP (n:Ty):CallR X (.builtin "isinstance") (fun xs H Q=>∃x d,xs=[x, .ty n.name]∧Rp X.K H x d∧Q (.bl ((yd d).is n)) H):=by
  intro pins s σ H xs us Q I r h
  obtain ⟨x,d,rfl,rp,q⟩:=h
  obtain ⟨u,w',rfl,ru,rw'⟩:=r.two
  cases (show w'=Value.type n.name from rw')
  exact tO I ru rp fun tk=>⟨.bl _,H,I.tok _,rfl,q⟩
theorem nX (n:Ty) (hg:Gl X "isinstance") (hm:X.mg "isinstance"=none) (ha:EX X e m1 f) {x:Str} (hgx:Gl X x) (hmx:X.mg x=none) (hbx:bootBuiltins x=some (.type n.name)) (hnx:x≠"__name__":=by decide) (hdx:(x == ("__debug__":Str))=false:=by decide)
    (he:starEach [e, .Name x p2] X.env=(false,eval e X.env)::starEach [.Name x p2] X.env:=by rfl) (he2:starEach [.Name x p2] X.env=[(false,eval (.Name x p2) X.env)]:=by rfl) (hpl:(backTo pos (starEach [.Name x p2] X.env)).any (·.1)=false:=by rfl):
    EX X (.Call (.Name "isinstance" p) [e, .Name x p2] [] pos) m1 (ig (lz n) f):=by
  have h2:PE X (.Name x p2) (tC (.ty n.name)):=wu (v:= .ty n.name) hgx hmx hbx rfl hnx hdx
  refine bA (kY (tP n) hg hm PyProof.Rows.boot_isinstance (dE ha (dE h2 fX he2) he) (by decide) (by decide) he hpl) fun σ H Q z=>?_
  obtain ⟨B,E,xs,Xs,res,E',fr,cl,e,q⟩:=z
  obtain ⟨⟨s,E1⟩,e1,e⟩:=Option.bind_eq_some_iff.mp e
  obtain ⟨d1,e2,e⟩:=Option.bind_eq_some_iff.mp e
  cases e
  refine ⟨B,E,xs,Xs,s,E1,fr,cl,e1,fun v1 H1 ⟨F,A,fr1⟩=>?_⟩
  obtain ⟨A',fr2⟩:=fr1.pop
  exact ⟨v1,d1,rfl,(fr1.look0 e2).1,q _ _ ⟨F,A',fr2.push ⟨rfl,_,rfl, .bl _⟩⟩⟩
end
end PL
namespace PL
open PySem L2 Nh
def su (K:PySem.W.Frag) (H H':Hp) (v:V):Sl→Prop
  | .sh d=>Rp K (tups H') v d
  | .ow ds=>∃l vs,v= .ref l∧H l=none∧H' l=some (.lst vs)∧RpA K (tups H') vs ds
  | .tx ps=>∃t vs A,v= .ref t∧tups H' t=some (.tup vs)∧A.Nodup∧(∀a∈A,H a=none)∧PtsOk K (tups H') H' vs ps A
  | .od kvs=>∃l us A,v= .ref l∧(l::A).Nodup∧(∀a∈l::A,H a=none)∧H' l=some (.dK us)∧DlOk K (tups H') H' us kvs A
  | .br d=>Rp K H' v d
  | _=>False
def ee (K:PySem.W.Frag) (c:List PyData→Option Sl):Sp:=fun vs H Q _=>∃ds r,c ds=some r∧RpA K H vs ds∧∀v H',Same H H'→su K H H' v r→Q v H'
section
variable {K:PySem.W.Frag} {B F:Hp} {A N:List Addr} {σ:jl} {H H':Hp} {E:List Sl} {xs:List V} {Xs:List Sl} {v:V} {s:Sl}
theorem FrF.growN (h:FrF K B F A σ H E xs Xs) (g:Same H H') (hN:∀a∈N,H a=none∧((∃us,H' a=some (.lst us))∨∃us,H' a=some (.dK us))):FrF K B (fun b=>if b∈N then none else if b∈A then none else H' b) A σ H' E xs Xs:=by
  have h1:=h.grow g
  have nF:∀b o,F b=some o→b∉N:=fun b o e hb=>by
    have:=h.fh.free (hN b hb).1
    rw [this] at e;cases e
  have FF:Same F (fun b=>if b∈N then none else if b∈A then none else H' b):=fun b o e=>by
    have nA:b∉A:=fun hb=>by rw [h.fr b hb] at e;cases e
    show (if b∈N then none else if b∈A then none else H' b)=some o
    rw [if_neg (nF b o e),if_neg nA]
    exact g _ _ (h.fh _ _ e)
  have hA:∀b∈A,H' b=H b:=fun b hb=>by
    rcases h.mutA b hb with ⟨_,z⟩ | ⟨_,z⟩ <;> rw [z,g _ _ z]
  refine ⟨h.bf.trans FF,fun b o e=>?_,fun b o e=>?_,h.sl.mono fun o s C _ hC q=>q.stay FF (fun b hb=>hA b (hC b hb)) fun _=>g,h.nd,fun a ha=>?_,h.len,h.pl⟩
  · by_cases hb:b∈N
    · rw [if_pos hb] at e;cases e
    · rw [if_neg hb] at e;exact h1.fh _ _ e
  · show (if b∈N then none else if b∈A then none else H' b)=some o
    by_cases hb:b∈N
    · obtain ⟨e1,e2⟩:=Option.filter_eq_some_iff.mp e
      rcases (hN b hb).2 with ⟨us,z⟩ | ⟨us,z⟩ <;> rw [z] at e1 <;> cases e1 <;> cases e2
    · rw [if_neg hb];exact h1.tf _ _ e
  · show (if a∈N then none else if a∈A then none else H' a)=none
    by_cases hb:a∈N
    · rw [if_pos hb]
    · rw [if_neg hb,if_pos ha]
theorem FrF.pushR (h:FrF K B F A σ H E xs Xs) (q:SlOk K F H σ (some v) s N) (nd:N.Nodup) (dj:∀a∈N,a∉A) (fr:∀a∈N,F a=none):FrF K B F (N++A) σ H E (v::xs) (s::Xs):=
  ⟨h.bf,h.fh,h.tf, .cons q h.sl,List.nodup_append.mpr ⟨nd,h.nd,fun a ha b hb e=>dj a ha (e▸hb)⟩,fun a ha=>(List.mem_append.mp ha).elim (fr a) (h.fr a),by simp [h.len],h.pl⟩
theorem FrF.told (h:FrF K B F A σ H E xs Xs) (g:Same H H') (q:su K H H' v s):Frm K B σ H' E (v::xs) (s::Xs):=by
  cases s with
  | sh d=>
    have h1:=h.grow g
    exact ⟨_,_,h1.push ⟨rfl,v,rfl,Rp.same h1.tf q⟩⟩
  | ow ds=>
    obtain ⟨l,vs,rfl,hl,hl',r⟩:=q
    have h1:=h.growN (N:=[l]) g fun a ha=>by rw [List.mem_singleton.mp ha];exact ⟨hl, .inl ⟨vs,hl'⟩⟩
    exact ⟨_,_,h1.pushR (N:=[l]) ⟨l,vs,rfl,rfl,hl',r.same h1.tf⟩ (by simp) (fun a ha=>by rw [List.mem_singleton.mp ha];exact h.newA hl) fun a ha=>if_pos ha⟩
  | tx ps=>
    obtain ⟨t,vs,N,rfl,ht,nd,hN,r⟩:=q
    have h1:=h.growN (N:=N) g fun a ha=>⟨hN a ha, .inl (r.some a ha)⟩
    exact ⟨_,_,h1.pushR (N:=N) ⟨t,vs,rfl,h1.tf _ _ ht,r.stay h1.tf fun _ _=>rfl⟩ nd (fun a ha=>h.newA (hN a ha)) fun a ha=>if_pos ha⟩
  | no=>exact False.elim q
  | od kvs=>
    obtain ⟨l,us,N,rfl,nd,hN,hl,r⟩:=q
    have h1:=h.growN (N:=l::N) g fun a ha=>⟨hN a ha,(List.mem_cons.mp ha).elim (fun z=> .inr ⟨us,z▸hl⟩) fun z=> .inl (r.some a z)⟩
    exact ⟨_,_,h1.pushR (N:=l::N) ⟨l,us,N,rfl,rfl,hl,r.stay h1.tf fun _ _=>rfl⟩ nd (fun a ha=>h.newA (hN a ha)) fun a ha=>if_pos ha⟩
  | al i=>exact False.elim q
  | br d=>
    have h1:=h.grow g
    exact ⟨_,_,h1.push ⟨rfl,v,rfl,q⟩⟩
end
def aj (c:List PyData→Option Sl) (g:nP):bE:=fun E=>(g E).bind fun a=>(bb a.2 a.1).bind fun ds=>(c ds).map fun r=>(r,a.2)
theorem aJ {X:Cx} {k:Nat} {x:Str} {ps:List Str} {c:List PyData→Option Sl} {p pos:Pos} {e:Expr} {es:List Expr} {m:Bool} {g:nP} (D:Own X.prog X.w X.K X.mg X.base k x ps (ee X.K c)) (hr:Room k X.A) (hg:Gl X x) (ha:AX X (e::es) m g)
    (hdb:(x == ("__debug__":Str))=false:=by decide) (he:starEach (e::es) X.env=(false,eval e X.env)::starEach es X.env:=by rfl) (hpl:(backTo pos (starEach es X.env)).any (·.1)=false:=by rfl):
    EX X (.Call (.Name x p) (e::es) [] pos) m (aj c g):=by
  refine bA (yZ D hr hg ha hdb he hpl) fun σ H Q z=>?_
  obtain ⟨B,E,xs,Xs,res,E',fr,cl,e,q⟩:=z
  obtain ⟨⟨rs,E1⟩,e1,e⟩:=Option.bind_eq_some_iff.mp e
  obtain ⟨ds,e2,e⟩:=Option.bind_eq_some_iff.mp e
  obtain ⟨r,e3,e⟩:=Option.map_eq_some_iff.mp e
  cases e
  refine ⟨B,E,xs,Xs,rs,E1,fr,cl,e1,fun vs H1 hl ⟨F,A,fr1⟩=>?_⟩
  obtain ⟨r1,A',fr2⟩:=fr1.looks hl e2
  exact ⟨ds,res,e3,by rw [List.append_nil];exact r1,fun v H' g q'=>q v H' (fr2.told g q')⟩
def aO (i:Nat) (f:bE):bE:=fun E=>match E[i]? with
  | some (.ow _)=>(f E).bind fun a=>(frz a.2 a.1).bind fun b=>match b.2[i]? with
    | some (.ow ds)=>if ds.length < 1000000 then some (.sh .none,b.2.set i (.ow (ds++[b.1]))) else none
    | _=>none
  | _=>none
def iY (i:Nat):bE:=fun E=>match E[i]? with
  | some (.ow ds)=>(ds[ds.length - 1]?).map fun d=>(.sh d,E.set i (.ow ds.dropLast))
  | _=>none
section
variable {X:Cx} {e:Expr} {m1:Bool} {f:bE} {x:Str} {p apos cpos:Pos}
theorem fg (i:Nat) (he:EX X e m1 f) (hN:X.N[i]? =some x:=by rfl) (hv:zZ X.env.scope x:=by first | exact Or.inl rfl | exact Or.inr (Or.inl rfl) | exact Or.inr (Or.inr rfl)) (hd:(x == ("__debug__":Str))=false:=by decide) (hcd:(x == ("__classdict__":Str))=false:=by decide)
    (hs:starEach [e] X.env=[(false,eval e X.env)]:=by rfl) (hbase:attributeBase (.Name x p) "append" X.env (eval (.Name x p) X.env)=eval (.Name x p) X.env:=by rfl)
    (hfew:((backTo cpos (starEach [e] X.env)).all (fun x=> !x.1)&&(backToKw cpos (keywordEach [] X.env)).all (fun x=>x.1.isSome)
      &&decide (([e]:List Expr).length+([]:List Keyword).length+(if ([]:List Keyword).isEmpty then 0 else 1) < 30))=true:=by rfl) (hline:(apos.endLine == cpos.line)=true:=by rfl):
    EX X (.Call (.Attribute (.Name x p) "append" apos) [e] [] cpos) true (aO i f):=by
  refine bA (xZ PySem.F.plainAttrs_list PySem.F.slot_list_append PySem.F.type_list_append mD (nv hN hv hd hcd) (dE he fX hs) hbase hfew hline hs rfl) fun σ H Q z=>?_
  obtain ⟨B,E,xs,Xs,res,E',⟨F,A,fr⟩,cl,e,q⟩:=z
  unfold aO at e
  split at e
  · rename_i ds0 ei
    obtain ⟨⟨s,E1⟩,e1,e⟩:=Option.bind_eq_some_iff.mp e
    obtain ⟨⟨d,E2⟩,e2,e⟩:=Option.bind_eq_some_iff.mp e
    simp only at e
    split at e
    · rename_i ds ei2
      split at e
      · rename_i hl
        cases e
        obtain ⟨o,A1,eo,l,vs,rfl,rfl,hl0,_⟩:=fr.var ei
        refine ⟨_,eo, .inl ⟨rfl,_,SqL.of hl0⟩,B,E,xs,Xs,s,E1,⟨F,A,fr⟩,fun _=>cl rfl,e1,fun v H1 ⟨F1,A1,fr1⟩=>?_⟩
        obtain ⟨F2,A2,fr2⟩:=fr1.frz0 e2
        obtain ⟨v',A3,ev,rfl,w,ew,rv⟩:=fr2.ext (k:=0) rfl
        cases ev;cases ew
        obtain ⟨A4,fr3⟩:=fr2.pop
        obtain ⟨l',vs',eo',hl',r',put⟩:=fr3.mut ei2 (cl rfl)
        rw [eo] at eo'
        cases eo'
        have ll:=r'.len
        have fr4:=put (vs'++[v]) (ds++[d]) (r'.snoc rv)
        exact ⟨l,vs',v,rfl,rfl,hl',kq (by lia),q _ _ ⟨_,_,fr4.push ⟨rfl,_,rfl, .non⟩⟩⟩
      · cases e
    · cases e
  · cases e
theorem vi (i:Nat) (hN:X.N[i]? =some x:=by rfl) (hv:zZ X.env.scope x:=by first | exact Or.inl rfl | exact Or.inr (Or.inl rfl) | exact Or.inr (Or.inr rfl)) (hd:(x == ("__debug__":Str))=false:=by decide) (hcd:(x == ("__classdict__":Str))=false:=by decide)
    (hbase:attributeBase (.Name x p) "pop" X.env (eval (.Name x p) X.env)=eval (.Name x p) X.env:=by rfl) (hline:(apos.endLine == cpos.line)=true:=by rfl):
    EX X (.Call (.Attribute (.Name x p) "pop" apos) [] [] cpos) true (iY i):=by
  refine bA (u0 PySem.F.plainAttrs_list PySem.F.slot_list_pop PySem.F.type_list_pop yX (nv hN hv hd hcd) hbase hline) fun σ H Q z=>?_
  obtain ⟨B,E,xs,Xs,res,E',⟨F,A,fr⟩,cl,e,q⟩:=z
  unfold iY at e
  split at e
  · rename_i ds ei
    obtain ⟨d,ed,e⟩:=Option.map_eq_some_iff.mp e
    cases e
    obtain ⟨l,vs,eo,hl,r,put⟩:=fr.mut ei (cl rfl)
    obtain ⟨y,ey,ry⟩:=r.get ed
    have fr2:=put vs.dropLast ds.dropLast r.dropLast
    exact ⟨_,eo, .inl ⟨rfl,_,SqL.of hl⟩,l,vs,y,rfl,rfl,hl,by rw [r.len];exact ey,q _ _ ⟨_,_,fr2.push ⟨rfl,_,rfl,ry⟩⟩⟩
  · cases e
end
def vj (s:Sl):Sl:=match s.val with
  | some d=> .sh d
  | none=> .no
def frzAll (E:List Sl):List Sl:=E.map vj
def settle (E:List Sl):Sl→Option (Sl×List Sl)
  | .al i=>(frz E (.al i)).map fun a=>(.sh a.1,a.2)
  | .br d=>if cY d then some (.sh d,E) else some (.sh d,frzAll E)
  | s=>some (s,E)
def aA (g h:dG):dG:=fun E=>(g E).bind fun a=>match a.2 with
  | .nx=>h a.1
  | fl=>some (a.1,fl)
def aH:dG:=fun E=>some (E, .nx)
def bS (f:bE):dG:=fun E=>(f E).map fun a=>(a.2, .nx)
def aV (f:bE):dG:=fun E=>(f E).bind fun a=>match a.1 with
  | .al i=>(a.2[i]?).map fun s=>(a.2.set i .no, .rt s)
  | s=>some (a.2, .rt s)
def aN (c:i7) (g h:dG):dG:=fun E=>(c E).bind fun a=>if a.1 then g a.2 else h a.2
def ao (i:Nat) (f:bE):dG:=fun E=>(f E).bind fun a=>(settle a.2 a.1).bind fun b=>if i < b.2.length then some (b.2.set i b.1, .nx) else none
section
variable {K:PySem.W.Frag} {B F:Hp} {A:List Addr} {σ:jl} {H:Hp} {E E':List Sl} {xs:List V} {Xs:List Sl} {v:V} {s s':Sl} {d:PyData}
theorem FrF.frzAll (h:FrF K B F A σ H E xs Xs) (hX:Xs=[]):FrF K B H [] σ H (PL.frzAll E) [] []:=by
  subst hX
  have hx:xs=[]:=by simpa using h.len
  subst hx
  refine ⟨h.bf.trans h.fh,Same.refl _,jT H,?_,List.nodup_nil,fun a ha=>(by cases ha),rfl,fun s hs=>?_⟩
  · have key:∀{os:List (Option V)} {ss:List Sl} {C:List Addr},SAll (SlOk K F H σ) os ss C→SAll (SlOk K H H σ) os (PL.frzAll ss) []:=fun {os ss C} r=>by
      induction r with
      | nil=>exact .nil
      | cons q _ ih=>
        refine .cons (A:=[]) ?_ ih
        unfold vj
        split
        · rename_i d e
          obtain ⟨v,rfl,r,_⟩:=q.val h.fh e
          exact ⟨rfl,v,rfl,r⟩
        · exact rfl
    exact key h.sl
  · obtain ⟨t,_,rfl⟩:=List.mem_map.mp hs
    unfold vj
    split <;> rfl
theorem FrF.settle (h:FrF K B F A σ H E (v::xs) (s::Xs)) (hX:Xs=[]) (q:PL.settle E s=some (s',E')):s'.isAl=false∧Frm K B σ H E' (v::xs) (s'::Xs):=by
  cases s with
  | al i=>
    obtain ⟨⟨d,E2⟩,e,z⟩:=Option.map_eq_some_iff.mp (show (frz E (.al i)).map (fun a=>(Sl.sh a.1,a.2))=some (s',E') from q)
    cases z
    obtain ⟨F',A',h'⟩:=h.frz0 e
    exact ⟨rfl,F',A',h'⟩
  | br d=>
    have r:=(h.look0 (d:=d) rfl).1
    obtain ⟨A',h'⟩:=h.pop
    simp only [PL.settle] at q
    split at q
    · rename_i hf
      cases q
      exact ⟨rfl,F,A',h'.push ⟨rfl,v,rfl,h.cold r hf⟩⟩
    · cases q
      have h2:=h'.frzAll hX
      have hl:=h'.len
      subst hX
      have hx:xs=[]:=by simpa using hl
      subst hx
      exact ⟨rfl,H,[],h2.push ⟨rfl,v,rfl,r⟩⟩
  | no=>cases q;exact ⟨rfl,F,A,h⟩
  | sh d=>cases q;exact ⟨rfl,F,A,h⟩
  | ow ds=>cases q;exact ⟨rfl,F,A,h⟩
  | od kvs=>cases q;exact ⟨rfl,F,A,h⟩
  | tx ps=>cases q;exact ⟨rfl,F,A,h⟩
theorem FrF.move {i:Nat} (h:FrF K B F A σ H E (v::xs) (.al i::Xs)) (e:E[i]? =some s):Frm K B σ H (E.set i .no) (v::xs) (s::Xs):=by
  obtain ⟨v',A1,ev,rfl,w,ew,hw⟩:=h.ext (k:=0) rfl
  cases ev;cases ew
  obtain ⟨A',h'⟩:=h.pop
  obtain ⟨o,A0,A1,A2,eA,eo,hp,put⟩:=h'.sl.at (k:=Xs.length+i) (s:=s) (by rw [List.getElem?_append_right (by exact Nat.le_add_right _ _)];simpa using e)
  have z:=put (SlOk K F H σ) o .no [] rfl fun _ _ _ _ _ q=>q
  have e3:(Xs++E).set (Xs.length+i) .no=Xs++E.set i .no:=by
    rw [List.set_append_right _ _ (by exact Nat.le_add_right _ _),Nat.add_sub_cancel_left]
  have e2:(List.map some xs++σ).set (Xs.length+i) o=List.map some xs++σ:=List.ext_getElem? fun j=>by
    by_cases hj:Xs.length+i=j
    · subst hj
      rw [List.getElem?_set_self',eo];rfl
    · rw [List.getElem?_set_ne hj]
  rw [e2,e3] at z
  rw [List.getElem?_append_right (by rw [List.length_map,h'.len];exact Nat.le_add_right _ _),List.length_map,h'.len,Nat.add_sub_cancel_left,hw] at eo
  cases eo
  have nd:=h'.nd
  rw [eA] at nd
  refine ⟨F,A1++(A0++([]++A2)),h.bf,h.fh,h.tf, .cons hp z,?_,fun a ha=>h'.fr a ?_,h.len,fun s' hs=>?_⟩
  · have p:(A1++(A0++([]++A2))).Perm (A0++(A1++A2)):=by
      rw [List.nil_append,←List.append_assoc,←List.append_assoc]
      exact List.Perm.append_right _ List.perm_append_comm
    exact p.nodup_iff.mpr nd
  · rw [eA]
    simp only [List.mem_append,List.nil_append] at ha ⊢
    rcases ha with z | z | z
    · exact .inr (.inl z)
    · exact .inl z
    · exact .inr (.inr z)
  · rcases List.mem_or_eq_of_mem_set hs with hs | hs
    · exact h.pl s' hs
    · subst hs;rfl
end
section
variable {X:Cx} {st:Stmt} {bv a b:List Stmt} {g h:dG} {e c:Expr} {m:Bool} {f:bE} {t:i7} {pos:Pos}
theorem bH:uK X [] aH:=sm ww fun D σ H z=>by
  obtain ⟨B,E,xs,Xs,E',fl,fr,cl,e,q⟩:=z
  cases e
  exact q _ _ fr
theorem ak (h1:SX X st g):uK X [st] g:=wx h1
theorem zh {K:PySem.W.Frag} {D:Ends} {σ:jl} {H:Hp} (z:rs K (aA g h) D σ H):rs K g {D with nx:=rs K h D} σ H:=by
  obtain ⟨B,E,xs,Xs,E',fl,fr,cl,e,q⟩:=z
  obtain ⟨⟨E1,f1⟩,e1,e⟩:=Option.bind_eq_some_iff.mp e
  refine ⟨B,E,xs,Xs,E1,f1,fr,cl,e1,?_⟩
  cases f1 with
  | nx=>exact fun σ' H' fr'=>⟨B,E1,xs,Xs,E',fl,fr',cl,e,q⟩
  | bk=>cases e;exact q
  | ct=>cases e;exact q
  | rt r=>cases e;exact q
theorem ai (h1:SX X st g) (h2:uK X bv h):uK X (st::bv) (aA g h):=sm (uN h1 h2) fun D σ H z=>zh z
theorem gb (he:EX X e m f) (hs:swapsWith e none pos.line X.env=pure false:=by rfl):SX X (.Expr e pos) (bS f):=i8 (wz he hs) fun D σ H z=>by
  obtain ⟨B,E,xs,Xs,E',fl,fr,cl,e,q⟩:=z
  obtain ⟨⟨s,E1⟩,e1,e⟩:=Option.map_eq_some_iff.mp e
  cases e
  refine ⟨B,E,xs,Xs,s,E1,fr,fun _=>Calm.nil cl,e1,fun v H1 ⟨F,A,fr1⟩=>?_⟩
  obtain ⟨A',fr2⟩:=fr1.pop
  exact q _ _ ⟨F,A',fr2⟩
theorem aW (he:EX X e m f):SX X (.Return (some e) pos) (aV f):=i8 (yB he) fun D σ H z=>by
  obtain ⟨B,E,xs,Xs,E',fl,fr,cl,e,q⟩:=z
  obtain ⟨⟨s,E1⟩,e1,e⟩:=Option.bind_eq_some_iff.mp e
  refine ⟨B,E,xs,Xs,s,E1,fr,fun _=>Calm.nil cl,e1,fun v H1 ⟨F,A,fr1⟩=>?_⟩
  simp only at e
  split at e
  · obtain ⟨s',es,e⟩:=Option.map_eq_some_iff.mp e
    cases e
    exact q σ _ _ (fr1.move es)
  · cases e
    exact q σ _ _ ⟨F,A,fr1⟩
theorem cO (hc:TX X c m t) (ha:uK X a g) (hb:uK X b h):SX X (.If c a b pos) (aN t g h):=i8 (Ah hc ha hb) fun D σ H z=>by
  obtain ⟨B,E,xs,Xs,E',fl,fr,cl,e,q⟩:=z
  obtain ⟨⟨b1,E1⟩,e1,e⟩:=Option.bind_eq_some_iff.mp e
  refine ⟨B,E,xs,Xs,b1,E1,fr,fun _=>Calm.nil cl,e1,fun H1 fr1=>?_⟩
  cases b1 with
  | true=>exact (if_pos rfl).mpr ⟨B,E1,xs,Xs,E',fl,fr1,cl,e,q⟩
  | false=>exact (if_neg (by decide)).mpr ⟨B,E1,xs,Xs,E',fl,fr1,cl,e,q⟩
theorem aC (i:Nat) {x:Str} {pos':Pos} (hN:X.N.Nodup) (he:EX X e m f) (hi:X.N[i]? =some x:=by rfl) (hx:yt X.env.scope x:=by first | exact Or.inl rfl | exact Or.inr rfl) (hs:swapsWith e (some (.Name x pos')) pos.line X.env=pure false:=by rfl) (hf:X.fn x=true∨X.env.scope.names.lookup x=some .local:=by first | exact .inl rfl | exact .inr rfl | assumption):
    SX X (.Assign [.Name x pos'] e pos) (ao i f):=i8 (yF hN hi hx he hs hf) fun D σ H z=>by
  obtain ⟨B,E,xs,Xs,E',fl,fr,cl,e,q⟩:=z
  obtain ⟨⟨s,E1⟩,e1,e⟩:=Option.bind_eq_some_iff.mp e
  obtain ⟨⟨s',E2⟩,e2,e⟩:=Option.bind_eq_some_iff.mp e
  refine ⟨B,E,xs,Xs,s,E1,fr,fun _=>Calm.nil cl,e1,fun v H1 ⟨F,A,fr1⟩=>?_⟩
  obtain ⟨c1,F2,A2,fr2⟩:=fr1.settle cl e2
  simp only at e
  split at e
  · rename_i hi
    cases e
    obtain ⟨A3,fr3⟩:=fr2.store c1 (Still.nil cl) hi
    exact q _ _ ⟨F2,A3,fr3⟩
  · cases e
end
end PL
namespace PL
open PySem L2 Nh
abbrev gI:=PyData→List Sl→Option (List Sl)
abbrev ph:=List PyData→List Sl→Option (List Sl)
def rg (K:PySem.W.Frag) (h:gI):TG:=fun v σ H Q=>∃B E xs Xs d E',Frm K B σ H E (v::xs) (.sh d::Xs)∧Still Xs∧h d E=some E'∧∀σ' H',Frm K B σ' H' E' xs Xs→Q σ' H'
def Cu (K:PySem.W.Frag) (h:ph):wA:=fun vs σ H Q=>∃B E xs Xs ds E',vs.length=ds.length∧Frm K B σ H E (vs++xs) (ds.map .sh++Xs)∧Still Xs∧h ds E=some E'∧∀σ' H',Frm K B σ' H' E' xs Xs→Q σ' H'
def GX (X:Cx) (e:Expr) (h:gI):Prop:=PG X e (rg X.K h)
def Bq (X:Cx) (es:List Expr) (h:ph):Prop:=yD X es (Cu X.K h)
def aI (i:Nat):gI:=fun d E=>if i < E.length then some (E.set i (.sh d)) else none
def gB:ph:=fun ds E=>if ds.isEmpty then some E else none
def c0 (h:gI) (hs:ph):ph:=fun ds E=>match ds with
  | d::ds=>(h d E).bind (hs ds)
  | []=>none
def gC (n:Nat) (hs:ph):gI:=fun d E=>match d with
  | .tuple ds=>if ds.length=n then hs ds E else none
  | _=>none
section
variable {X:Cx}
theorem vk {e:Expr} {t t':TG} (h:PG X e t) (k:∀v σ H Q,t' v σ H Q→t v σ H Q):PG X e t':=fun pins s σ H v u Q I r q=>h pins s σ H v u Q I r (k v σ H Q q)
theorem sv {es:List Expr} {t t':wA} (h:yD X es t) (k:∀v σ H Q,t' v σ H Q→t v σ H Q):yD X es t':=fun pins s σ H v u Q I r q=>h pins s σ H v u Q I r (k v σ H Q q)
theorem aS (i:Nat) {x:Str} {pos:Pos} (hN:X.N.Nodup) (hi:X.N[i]? =some x:=by rfl) (hx:yt X.env.scope x:=by first | exact Or.inl rfl | exact Or.inr rfl) (hf:X.fn x=true∨X.env.scope.names.lookup x=some .local:=by first | exact .inl rfl | exact .inr rfl | assumption):GX X (.Name x pos) (aI i):=vk (rT hN hi hx hf) fun v σ H Q z=>by
  obtain ⟨B,E,xs,Xs,d,E',⟨F,A,fr⟩,cl,e,q⟩:=z
  unfold aI at e
  split at e
  · rename_i hi
    cases e
    obtain ⟨A',fr'⟩:=fr.store rfl cl hi
    exact q _ _ ⟨F,A',fr'⟩
  · cases e
theorem jm:Bq X [] gB:=sv wB fun v σ H Q z=>by
  obtain ⟨B,E,xs,Xs,ds,E',hl,fr,cl,e,q⟩:=z
  unfold gB at e
  split at e
  · rename_i hd
    cases e
    have:ds=[]:=by simpa using hd
    subst this
    have hv:v=[]:=by simpa using hl
    subst hv
    exact ⟨rfl,q _ _ fr⟩
  · cases e
theorem ef {e:Expr} {es:List Expr} {h:gI} {hs:ph} (h1:GX X e h) (h2:Bq X es hs) (hst:(assignEach (e::es) X.env).map (·.2)=assign e X.env::(assignEach es X.env).map (·.2):=by rfl):Bq X (e::es) (c0 h hs):=sv (uQ h1 h2 hst) fun v σ H Q z=>by
  obtain ⟨B,E,xs,Xs,ds,E',hl,fr,cl,e,q⟩:=z
  cases ds with
  | nil=>cases e
  | cons d ds=>
    cases v with
    | nil=>cases hl
    | cons v vs=>
      obtain ⟨E1,e1,e2⟩:=Option.bind_eq_some_iff.mp e
      refine ⟨v,vs,rfl,B,E,vs++xs,ds.map Sl.sh++Xs,d,E1,fr,fun s hs=>?_,e1,fun σ1 H1 fr1=>⟨B,E1,xs,Xs,ds,E',by simpa using hl,fr1,cl,e2,q⟩⟩
      rcases List.mem_append.mp hs with hs | hs
      · obtain ⟨d',_,rfl⟩:=List.mem_map.mp hs
        rfl
      · exact cl s hs
theorem lA {es:List Expr} {k:Nat} {pos:Pos} {hs:ph} {n:Nat} (hc:X.calm=true) (h:Bq X es hs) (hn:(assignEach es X.env).length=n:=by rfl) (hst:(assignEach es X.env).findIdx? (·.1)=none:=by rfl):GX X (.Tuple es k pos) (gC n hs):=vk (yE hc h hn hst) fun v σ H Q z=>by
  obtain ⟨B,E,xs,Xs,d,E',⟨F,A,fr⟩,cl,e,q⟩:=z
  unfold gC at e
  split at e
  · rename_i ds
    split at e
    · rename_i hl
      obtain ⟨v',A1,ev,rfl,w,ew,r⟩:=fr.ext (k:=0) rfl
      cases ev;cases ew
      cases r with
      | tup h1 h2=>
        obtain ⟨A',fr'⟩:=fr.pop
        have key:∀{us:List V} {es:List PyData},RpA X.K F us es→FrF X.K B F A' σ H E (us++xs) (es.map .sh++Xs):=fun {us es} r=>by
          induction us generalizing es with
          | nil=>cases r;exact fr'
          | cons u us ih=>
            cases r with
            | cons r1 r2=>exact (ih r2).push ⟨rfl,_,rfl,r1⟩
        exact ⟨_,_,rfl,fr.fh.tup h1,by rw [h2.len];exact hl,B,E,xs,Xs,ds,E',h2.len,⟨F,A',key h2⟩,cl,e,q⟩
    · cases e
  · cases e
end
def pi (K:PySem.W.Frag) (B0:Hp) (J:It) (ds:List PyData):Prop:=∀{B F:Hp} {A:List Addr} {σ:jl} {H:Hp} {E:List Sl} {xs:List V} {Xs:List Sl} (i:Nat),Same B0 B→FrF K B F A σ H E xs Xs→
  (∀d,ds[i]? =some d→J.go i H∧∀x H2,J.yld i H x H2→Frm K B σ H2 E (x::xs) (.sh d::Xs))∧(i=ds.length→J.stop i H)
def ri (K:PySem.W.Frag) (m:Bool) (f:jk):TI:=fun σ H R=>∃B E xs Xs ds E',Frm K B σ H E xs Xs∧(m=true→Calm Xs)∧f E=some (ds,E')∧∀B' J H',Same B B'→Frm K B' σ H' E' xs Xs→pi K B' J ds→R J H'
def IX (X:Cx) (tg e:Expr) (m:Bool) (f:jk):Prop:=PI X tg e (ri X.K m f)
theorem FrF.base {K:PySem.W.Frag} {B B' F:Hp} {A:List Addr} {σ:jl} {H:Hp} {E:List Sl} {xs:List V} {Xs:List Sl} (h:FrF K B' F A σ H E xs Xs) (s:Same B B'):FrF K B F A σ H E xs Xs:=⟨s.trans h.bf,h.fh,h.tf,h.sl,h.nd,h.fr,h.len,h.pl⟩
theorem Frm.base {K:PySem.W.Frag} {B B':Hp} {σ:jl} {H:Hp} {E:List Sl} {xs:List V} {Xs:List Sl} (h:Frm K B' σ H E xs Xs) (s:Same B B'):Frm K B σ H E xs Xs:=let ⟨F,A,h⟩:=h;⟨F,A,h.base s⟩
theorem FrF.raise {K:PySem.W.Frag} {B F:Hp} {A:List Addr} {σ:jl} {H:Hp} {E:List Sl} {xs:List V} {Xs:List Sl} (h:FrF K B F A σ H E xs Xs):FrF K F F A σ H E xs Xs:=⟨Same.refl _,h.fh,h.tf,h.sl,h.nd,h.fr,h.len,h.pl⟩
def iA (lo:Int) (n:Nat):List PyData:=(List.range n).map fun (k:Nat)=> .int (lo+(k:Int))
def lB (g:nP):jk:=fun E=>(g E).bind fun a=>match bb a.2 a.1 with
  | some [.int j]=>if -1000000≤j∧j≤1000000 then some (iA 0 j.toNat,a.2) else none
  | _=>none
def jX (g:nP):jk:=fun E=>(g E).bind fun a=>match bb a.2 a.1 with
  | some [.int i, .int j]=>if -1000000≤i∧i≤1000000∧ -1000000≤j∧j≤1000000 then some (iA i (j - i).toNat,a.2) else none
  | _=>none
section
variable {X:Cx} {tg e e2:Expr} {m:Bool} {f:bE} {g:nP} {p pos:Pos} {K:PySem.W.Frag} {B:Hp}
theorem lC {t t':TI} (h:PI X tg e t) (k:∀σ H Q,t' σ H Q→t σ H Q):PI X tg e t':=fun pins s σ H R I q=>h pins s σ H R I (k σ H R q)
theorem mJ {a:Addr} {vs:List V} {ds:List PyData} (h:SqL K B a vs) (r:RpA K B vs ds):pi K B (BD K a) ds:=fun {B' F A σ H E xs Xs} i sB fr=>by
  have hH:=fr.fh.seq (fr.bf.seq (sB.seq h))
  refine ⟨fun d ed=>?_,fun e=>⟨vs,hH,by rw [e,r.len];exact Nat.le_refl _⟩⟩
  obtain ⟨v,ev,rv⟩:=r.get ed
  refine ⟨⟨vs,v,hH,ev⟩,fun x H2 ⟨e2,y⟩=>?_⟩
  subst e2
  have:=y vs hH
  rw [ev] at this
  cases this
  exact ⟨F,A,fr.push ⟨rfl,_,rfl,rv.same (sB.trans fr.bf)⟩⟩
theorem lD {lo:Int} {n:Nat}:pi K B (Ak lo n) (iA lo n):=fun {B' F A σ H E xs Xs} i sB fr=>by
  have hl:(iA lo n).length=n:=by simp [iA]
  refine ⟨fun d ed=>?_,fun e=>?_⟩
  · have hi:i < n:=by have:=(List.getElem?_eq_some_iff.mp ed).1;exact Nat.lt_of_lt_of_eq ‹_› ‹_›
    refine ⟨hi,fun x H2 ⟨e2,y⟩=>?_⟩
    subst e2 y
    have:d= .int (lo+i):=by
      unfold iA at ed
      rw [List.getElem?_map,List.getElem?_range hi] at ed
      exact (Option.some.inj ed).symm
    subst this
    exact ⟨F,A,fr.push ⟨rfl,_,rfl, .int _⟩⟩
  · show n≤i
    lia
theorem mK (hg:Gl X "range") (hm:X.mg "range"=none) (ha:AX X [e] m g) (hs:starEach [e] X.env=[(false,eval e X.env)]:=by rfl):IX X tg (.Call (.Name "range" p) [e] [] pos) m (lB g):=lC (tu hg hm ha hs) fun σ H R z=>by
  obtain ⟨B,E,xs,Xs,ds,E',fr,cl,e,q⟩:=z
  obtain ⟨⟨rs,E1⟩,e1,e⟩:=Option.bind_eq_some_iff.mp e
  refine ⟨B,E,xs,Xs,rs,E1,fr,cl,e1,fun vs H1 hl ⟨F,A,fr1⟩=>?_⟩
  simp only at e
  split at e
  · rename_i j ld
    split at e
    · rename_i hj
      cases e
      obtain ⟨r,A',fr2⟩:=fr1.looks hl ld
      obtain ⟨v,rfl,r'⟩:=r.one
      cases r'
      exact ⟨j,rfl,by lia,by omega,q B _ _ (Same.refl _) ⟨F,A',fr2⟩ lD⟩
    · cases e
  · cases e
theorem tQ (hg:Gl X "range") (hm:X.mg "range"=none) (ha:AX X [e,e2] m g) (hs:starEach [e,e2] X.env=[(false,eval e X.env),(false,eval e2 X.env)]:=by rfl) (hs2:starEach [e2] X.env=[(false,eval e2 X.env)]:=by rfl):IX X tg (.Call (.Name "range" p) [e,e2] [] pos) m (jX g):=lC (tv hg hm ha hs hs2) fun σ H R z=>by
  obtain ⟨B,E,xs,Xs,ds,E',fr,cl,e,q⟩:=z
  obtain ⟨⟨rs,E1⟩,e1,e⟩:=Option.bind_eq_some_iff.mp e
  refine ⟨B,E,xs,Xs,rs,E1,fr,cl,e1,fun vs H1 hl ⟨F,A,fr1⟩=>?_⟩
  simp only at e
  split at e
  · rename_i i j ld
    split at e
    · rename_i hj
      cases e
      obtain ⟨r,A',fr2⟩:=fr1.looks hl ld
      obtain ⟨v,u,rfl,r1,r2⟩:=r.two
      cases r1;cases r2
      exact ⟨i,j,rfl,by omega,q B _ _ (Same.refl _) ⟨F,A',fr2⟩ lD⟩
    · cases e
  · cases e
end
def bT (tg:gI) (body:dG):List PyData→dG
  | [],E=>some (E, .nx)
  | d::ds,E=>((tg d E).bind body).bind fun a=>match a.2 with
    | .nx=>bT tg body ds a.1
    | .ct=>bT tg body ds a.1
    | .bk=>some (a.1, .nx)
    | .rt r=>some (a.1, .rt r)
def d0 (it:jk) (tg:gI) (body:dG):dG:=fun E=>(it E).bind fun a=>bT tg body a.1 a.2
theorem f_ {X:Cx} {tg iter:Expr} {body:List Stmt} {m:Bool} {it:jk} {g:gI} {b:dG} {pos:Pos} (hp:PassesOwn (model X.prog X.w) X.A X.env X.xe) (hc:X.calm=true) (hi:IX X tg iter m it) (hg:GX X tg g) (hb:uK X body b)
    (hs:∀x,foldedSetIterable iter X.env x=pure x:=by intro _;rfl):SX X (.For tg iter body [] pos) (d0 it g b):=i8 (yH hp hc hi hg hb hs) fun D σ H z=>by
  obtain ⟨B,E,xs,Xs,E',fl,fr,cl,e,q⟩:=z
  obtain ⟨⟨ds,E1⟩,e1,e⟩:=Option.bind_eq_some_iff.mp e
  refine ⟨B,E,xs,Xs,ds,E1,fr,fun _=>Calm.nil cl,e1,fun B' J H1 hB fr1 ok=>?_⟩
  refine ⟨fun i mm σ' H'=>mm=ds.length - i∧i≤ds.length∧∃Ei,bT g b (ds.drop i) Ei=some (E',fl)∧Frm X.K B' σ' H' Ei xs Xs,⟨ds.length,by simp,Nat.zero_le _,E1,by simpa using e,fr1⟩,?_⟩
  rintro i mm σ' H' ⟨rfl,hi,Ei,ei,F,A,fri⟩
  obtain ⟨go,stop⟩:=ok i (Same.refl _) fri
  by_cases hlt:i < ds.length
  · obtain ⟨d,ed⟩:∃d,ds[i]? =some d:=⟨ds[i],List.getElem?_eq_getElem hlt⟩
    obtain ⟨g1,yl⟩:=go d ed
    have edr:ds.drop i=d::ds.drop (i+1):=by
      rw [List.drop_eq_getElem_cons hlt]
      congr 1
      exact Option.some.inj ((List.getElem?_eq_getElem hlt).symm.trans ed)
    rw [edr] at ei
    obtain ⟨⟨E2,f2⟩,e2,ei⟩:=Option.bind_eq_some_iff.mp ei
    obtain ⟨E3,e3,e2⟩:=Option.bind_eq_some_iff.mp e2
    refine .inr ⟨g1,fun σ2 H2=>∃Ej,bT g b (ds.drop (i+1)) Ej=some (E',fl)∧Frm X.K B' σ2 H2 Ej xs Xs,fun σ2 H2 ⟨Ej,ej,frj⟩=>⟨ds.length - (i+1),by omega,rfl,hlt,Ej,ej,frj⟩,fun x H2 y=>?_⟩
    refine ⟨B',Ei,xs,Xs,d,E3,yl x H2 y,Still.nil cl,e3,fun σ3 H3 fr3=>?_⟩
    refine ⟨B',E3,xs,Xs,E2,f2,fr3,cl,e2,?_⟩
    cases f2 with
    | nx=>exact fun σ4 H4 fr4=>⟨E2,ei,fr4⟩
    | ct=>exact fun σ4 H4 fr4=>⟨E2,ei,fr4⟩
    | bk=>cases ei;exact fun σ4 H4 fr4=>q _ _ (fr4.base hB)
    | rt r=>cases ei;exact fun σ4 v H4 fr4=>q _ _ _ (fr4.base hB)
  · have e0:i=ds.length:=by exact Nat.le_antisymm ‹_› (Nat.le_of_not_lt ‹_›)
    refine .inl ⟨stop e0,?_⟩
    rw [e0,List.drop_length] at ei
    cases ei
    exact q _ _ (Frm.base ⟨F,A,fri⟩ hB)
def bN:Sl→Bool
  | .sh d=>cY d
  | .ow ds=>bx ds
  | .tx ps=>ps.all fun p=>match p with | .fl d=>cY d | .ol ds=>bx ds
  | .od kvs=>kvs.all fun p=>bx p.2
  | _=>false
def bj (n:Nat) (ds:List PyData):List Sl:=ds.map .sh++List.replicate (n - ds.length) .no
def cI (r:Sl):Option Sl:=if bN r then some r else match r with
  | .sh d=>some (.br d)
  | .ow ds=>some (.br (.list ds))
  | .tx ps=>some (.br (.tuple (ps.map Pt.val)))
  | .br d=>some (if cY d then .sh d else .br d)
  | _=>none
def fP (n:Nat) (g:dG):List PyData→Option Sl:=fun ds=>(g (bj n ds)).bind fun a=>match a.2 with
  | .rt r=>cI r
  | .nx=>some (.sh .none)
  | _=>none
section
variable {K:PySem.W.Frag} {B F:Hp} {A:List Addr} {σ:jl} {H:Hp} {E:List Sl} {v:V} {r:Sl}
theorem DlOk.cold {F H:Hp} (sF:Same F H):∀{us:List (ip×V)} {kvs:List (ip×List PyData)} {A:List Addr},(∀p∈kvs,bx p.2=true)→DlOk K F H us kvs A→DlOk K (tups H) H us kvs A
  | [],[],A,_,h=>h
  | p::us,q::kvs,A,c,h=>by
    obtain ⟨l,vs,A',rfl,rfl,hl,hr,k⟩:=h
    exact ⟨l,vs,A',rfl,rfl,hl,(hr.same sF).cold (c q (List.mem_cons_self ..)),DlOk.cold sF (fun p hp=>c p (List.mem_cons_of_mem _ hp)) k⟩
  | [],_::_,_,_,h=>False.elim h
  | _::_,[],_,_,h=>False.elim h
theorem PtsOk.cold {F H G:Hp} (sF:Same F H) (tG:∀{v:V} {d:PyData},Rp K F v d→cY d=true→Rp K G v d):∀{vs:List V} {ps:List Pt} {A:List Addr},(∀p∈ps,(match p with | .fl d=>cY d | .ol ds=>bx ds)=true)→PtsOk K F H vs ps A→PtsOk K G H vs ps A
  | [],[],A,_,h=>h
  | v::vs, .fl d::ps,A,c,h=>⟨tG h.1 (c (.fl d) (List.mem_cons_self ..)),PtsOk.cold sF tG (fun p hp=>c p (List.mem_cons_of_mem _ hp)) h.2⟩
  | v::vs, .ol ds::ps,A,c,h=>by
    obtain ⟨l,us,A',rfl,rfl,hl,hr,q⟩:=h
    refine ⟨l,us,A',rfl,rfl,hl,?_,q.cold sF tG fun p hp=>c p (List.mem_cons_of_mem _ hp)⟩
    have cd:bx ds=true:=c (.ol ds) (List.mem_cons_self ..)
    have key:∀{us:List V} {ds:List PyData},RpA K F us ds→bx ds=true→RpA K G us ds:=fun {us ds} r c=>by
      induction us generalizing ds with
      | nil=>cases r;exact .nil
      | cons u us ih=>
        cases r with
        | cons r1 r2=>
          simp only [bx,Bool.and_eq_true] at c
          exact .cons (tG r1 c.1) (ih r2 c.2)
    exact key hr cd
  | [],_::_,_,_,h=>False.elim h
  | _::_,[],_,_,h=>False.elim h
theorem FrF.result (h:FrF K B F A σ H E [v] [r]) (c:bN r=true):Same B H∧su K B H v r:=by
  refine ⟨h.bf.trans h.fh,?_⟩
  have nB:∀a,F a=none→B a=none:=fun a e=>h.bf.free e
  have cold:∀{v:V} {d:PyData},Rp K F v d→cY d=true→Rp K (tups H) v d:=fun r f=>(r.same h.fh).cold f
  obtain ⟨v',A1,ev,hs⟩:=h.ext (k:=0) rfl
  cases ev
  obtain ⟨o,C0,C1,C2,eA,eo,hp,_⟩:=h.sl.at (k:=0) (s:=r) rfl
  cases eo
  have sub:∀a∈C1,F a=none:=fun a ha=>h.fr a (by rw [eA];simp [ha])
  have nd:C1.Nodup:=by
    have:=h.nd
    rw [eA] at this
    exact (List.nodup_append.mp (List.nodup_append.mp this).2.1).1
  cases r with
  | sh d=>obtain ⟨_,w,ew,r⟩:=hp;cases ew;exact cold r c
  | ow ds=>
    obtain ⟨l,vs,el,rfl,hl,r⟩:=hp
    cases el
    exact ⟨l,vs,rfl,nB l (sub l (by simp)),hl,(r.same h.fh).cold c⟩
  | tx ps=>
    obtain ⟨t,vs,et,ht,r⟩:=hp
    cases et
    exact ⟨t,vs,C1,rfl,iN (h.fh _ _ ht) rfl,nd,fun a ha=>nB a (sub a ha),r.cold h.fh cold (by simpa [bN,List.all_eq_true] using c)⟩
  | no=>cases c
  | od kvs=>
    obtain ⟨l,us,A',el,rfl,hl,r⟩:=hp
    cases el
    exact ⟨l,us,A',rfl,nd,fun a ha=>nB a (sub a ha),hl,r.cold h.fh (by simpa [bN,List.all_eq_true] using c)⟩
  | al i=>cases c
  | br d=>cases c
theorem FrF.resultO {r':Sl} (h:FrF K B F A σ H E [v] [r]) (c:cI r=some r'):Same B H∧su K B H v r':=by
  unfold cI at c
  split at c
  · rename_i hc
    cases c
    exact h.result hc
  · refine ⟨h.bf.trans h.fh,?_⟩
    cases r with
    | sh d=>cases c;exact (h.look0 (d:=d) rfl).1
    | ow ds=>cases c;exact (h.look0 (d:= .list ds) rfl).1
    | tx ps=>cases c;exact (h.look0 (d:= .tuple (ps.map Pt.val)) rfl).1
    | br d=>
      have r:=(h.look0 (d:=d) rfl).1
      simp only at c
      split at c
      · rename_i hf
        cases c
        exact r.cold hf
      · cases c
        exact r
    | no=>cases c
    | od kvs=>cases c
    | al i=>cases c
theorem nY {N:List Str} {vs:List V} {ds:List PyData} (r:RpA K H vs ds) (hn:ds.length≤N.length):FrF K H H [] (L2.ir N vs) H (bj N.length ds) [] []:=by
  refine ⟨Same.refl _,Same.refl _,jT H,?_,List.nodup_nil,fun a ha=>(by cases ha),rfl,?_⟩
  · have l:=r.len
    unfold L2.ir bj
    rw [l]
    generalize N.length - ds.length=k
    have base:∀τ:jl,SAll (SlOk K H H τ) (List.replicate k none) (List.replicate k .no) []:=fun τ=>by
      induction k with
      | zero=>exact .nil
      | succ k ih=>exact .cons (A:=[]) rfl ih
    have key:∀(τ:jl) {us:List V} {es:List PyData},RpA K H us es→SAll (SlOk K H H τ) (us.map some++List.replicate k none) (es.map .sh++List.replicate k .no) []:=fun τ us es r=>by
      induction us generalizing es with
      | nil=>cases r;exact base τ
      | cons u us ih=>
        cases r with
        | cons r1 r2=>exact .cons (A:=[]) ⟨rfl,_,rfl,r1⟩ (ih _ r2)
    exact key _ r
  · intro s hs
    unfold bj at hs
    rcases List.mem_append.mp hs with hs | hs
    · obtain ⟨d,_,rfl⟩:=List.mem_map.mp hs
      rfl
    · rw [(List.mem_replicate.mp hs).2]
      rfl
end
def eJ (k n:Nat) (g:dG):List PyData→Option Sl:=fun ds=>if ds.length=k then fP n g ds else none
theorem fi {P:Program} {w:World} {K:PySem.W.Frag} {mg:Str→Option Value} {base:Heap} {x:Str} {st:Stmt} {N ps:List Str} {k a n:Nat} {g:dG} (D:Def K mg x st ps) (S:FnScope N ps (af st)) (hpa:ps.length=a) (hNn:N.length=n) (hps:a≤n)
    (hbody:∀(f:Addr) (cdv:Value) (A:Around) (outer:List Env) (s:Shared) (H:Hp) (E:XK),Room k (A.deeper (PyProof.Rows.envOfC x (af st) s.heap.objs.size f cdv))→
      uK (me tL P w K mg base N x (af st) f cdv A outer s H E).nox (aB st) g):Own P w K mg base (k+1) x ps (ee K (eJ a n g)):=by
  subst hpa hNn
  refine D.own S (fun vs H Q E h=>?_) (fun f cdv A outer s H vs Q E hr h=>?_)
  · obtain ⟨ds,r,e,rp,_⟩:=h
    unfold eJ at e
    split at e
    · rename_i hl
      rw [rp.len];exact hl
    · cases e
  obtain ⟨ds,r,e,rp,q⟩:=h
  unfold eJ at e
  split at e
  · rename_i hl
    refine ⟨_,hbody f cdv A outer s H E hr,?_⟩
    obtain ⟨⟨E',fl⟩,e1,e⟩:=Option.bind_eq_some_iff.mp e
    refine ⟨H,bj N.length ds,[],[],E',fl,⟨H,[],nY rp (by lia)⟩,rfl,e1,?_⟩
    cases fl with
    | nx=>
      cases e
      rintro σ' H' ⟨F',A',fr'⟩
      exact q _ _ (fr'.bf.trans fr'.fh) .non
    | bk=>cases e
    | ct=>cases e
    | rt r'=>
      rintro σ' v H' ⟨F',A',fr'⟩
      obtain ⟨s1,s2⟩:=fr'.resultO e
      exact q v H' s1 s2
  · cases e
theorem Cv {P:Program} {w:World} {K:PySem.W.Frag} {mg:Str→Option Value} {base:Heap} {x:Str} {st:Stmt} {N ps:List Str} {k a n:Nat} {g:dG} {f0:Addr} {fd:FuncData} (D:Fun K x x st f0 fd) (S:FnScope N ps (af st)) (hpa:ps.length=a) (hNn:N.length=n) (hps:a≤n)
    (hbody:∀(cdv:Value) (A:Around) (outer:List Env) (s:Shared) (H:Hp) (E:XK),Room k (A.deeper (PyProof.Rows.envOfC x (af st) s.heap.objs.size f0 cdv))→
      uK (me tL P w K mg base N x (af st) f0 cdv A outer s H E).nox (aB st) g):FnOk P w K mg base tL (k+1) f0 fd ps (ee K (eJ a n g)):=by
  subst hpa hNn
  refine D.ok S (fun vs H Q E h=>?_) (fun cdv A outer s H vs Q E hr h=>?_)
  · obtain ⟨ds,r,e,rp,_⟩:=h
    unfold eJ at e
    split at e
    · rename_i hl
      rw [rp.len];exact hl
    · cases e
  obtain ⟨ds,r,e,rp,q⟩:=h
  unfold eJ at e
  split at e
  · rename_i hl
    refine ⟨_,hbody cdv A outer s H E hr,?_⟩
    obtain ⟨⟨E',fl⟩,e1,e⟩:=Option.bind_eq_some_iff.mp e
    refine ⟨H,bj N.length ds,[],[],E',fl,⟨H,[],nY rp (by lia)⟩,rfl,e1,?_⟩
    cases fl with
    | nx=>
      cases e
      rintro σ' H' ⟨F',A',fr'⟩
      exact q _ _ (fr'.bf.trans fr'.fh) .non
    | bk=>cases e
    | ct=>cases e
    | rt r'=>
      rintro σ' v H' ⟨F',A',fr'⟩
      obtain ⟨s1,s2⟩:=fr'.resultO e
      exact q v H' s1 s2
  · cases e
theorem mL {K:PySem.W.Frag} {H:Hp}:∀ns:List Int,RpA K H (ns.map V.int) (ns.map PyData.int)
  | []=> .nil
  | n::ns=> .cons (.int n) (mL ns)
theorem zi {K:PySem.W.Frag} {H:Hp} {a:Addr} {ns:List Int} {c:List PyData→Option Sl} (e:c [.list (ns.map .int)]=some (.sh (.bool true))) (h:SqL K H a (ns.map V.int)):ee K c [.ref a] H (fun v _=>v= .bl true) fun _ _ _=>False:=
  ⟨_,_,e, .cons (.lst h (mL ns)) .nil,fun v H' _ r=>by
    have r':Rp K (tups H') v (.bool true):=r
    cases r'
    rfl⟩
end PL
namespace PL
open PySem L2 Nh
def ku (E:List Sl):Option Nat→Sl
  | none=> .no
  | some j=>match (E[j]?).bind Sl.val with
    | some d=> .sh d
    | none=> .no
def ga (js:List (Option Nat)) (E:List Sl):List Sl:=js.map (ku E)
def bV:i7:=fun E=>some (true,E)
def cm (tg:gI) (cond:i7) (elt:bE):List PyData→List Sl→Option (List PyData)
  | [],_=>some []
  | d::ds,E=>(tg d E).bind fun E1=>(cond E1).bind fun b=>if b.1 then (elt b.2).bind fun c=>(frz c.2 c.1).bind fun e=>(cm tg cond elt ds e.2).map fun r=>e.1::r else cm tg cond elt ds b.2
def bJ (js:List (Option Nat)) (it:jk) (tg:gI) (cond:i7) (elt:bE):bE:=fun E=>(it E).bind fun a=>(cm tg cond elt a.1 (ga js a.2)).bind fun ds=>if bx ds&&decide (ds.length≤1000000) then some (.ow ds,a.2) else none
section
variable {X:Cx} {elt target iter:Expr} {ifs:List Expr} {scope sc:Scope} {cl:List (Str×Addr)} {N:List Str} {pos:Pos} {js:List (Option Nat)} {K:PySem.W.Frag}
theorem vm {B F:Hp} {A:List Addr} {σ:jl} {H:Hp} {E:List Sl} {xs:List V} {Xs:List Sl} (fr:FrF K B F A σ H E xs Xs) (js:List (Option Nat)):FrF K H H [] (slots js σ) H (ga js E) [] []:=by
  refine ⟨Same.refl _,Same.refl _,jT H,?_,List.nodup_nil,fun a ha=>(by cases ha),rfl,fun s hs=>?_⟩
  · have key:∀(τ:jl) (ks:List (Option Nat)),SAll (SlOk K H H τ) (slots ks σ) (ga ks E) []:=fun τ ks=>by
      induction ks with
      | nil=>exact .nil
      | cons j ks ih=>
        refine .cons (A:=[]) ?_ ih
        cases j with
        | none=>exact rfl
        | some j=>
          show SlOk K H H τ _ (match (E[j]?).bind Sl.val with | some d=> .sh d | none=> .no) []
          cases ej:E[j]? with
          | none=>exact rfl
          | some s=>
            cases ev:s.val with
            | none=>simp only [Option.bind_some,ev];exact rfl
            | some d=>
              simp only [Option.bind_some,ev]
              obtain ⟨o,A1,eo,hs⟩:=fr.var ej
              obtain ⟨v,rfl,r,_⟩:=hs.val fr.fh ev
              refine ⟨rfl,v,?_,r⟩
              show (σ[j]?).join=some v
              rw [eo]
              rfl
    exact key _ js
  · obtain ⟨j,_,rfl⟩:=List.mem_map.mp hs
    cases j with
    | none=>rfl
    | some j=>
      simp only [ku]
      split <;> rfl
theorem mM {m2 m3:Bool} {tg:gI} {cond:i7} {el:bE} {tt:TT} (htt:∀σ H Q,rt K m2 cond σ H Q→tt σ H Q) {B B' F:Hp} {A:List Addr} {σ:jl} {H1:Hp} {E1:List Sl} {xs:List V} {Xs:List Sl} {ds rs:List PyData} {J:It} {Q:VK}
    (fr1:FrF K B F A σ H1 E1 xs Xs) (B2:Same B' H1) (ok:pi K B' J ds) (e2:cm tg cond el ds (ga js E1)=some rs) (hc:bx rs=true∧rs.length≤1000000) (q:∀v H',Frm K B σ H' E1 (v::xs) (.ow rs::Xs)→Q v H') (l:Addr) (hl:H1 l=none):
    ∃W:Nat→Nat→jl→Hp→Prop,(∃m,W 0 m (slots js σ) (dg H1 l (.lst [])))∧
  ∀i m σ' H',W i m σ' H'→(J.stop i H'∧Q (.ref l) H')∨(J.go i H'∧∃N:jl→Hp→Prop,(∀σ' H',N σ' H'→∃m',m' < m∧W (i+1) m' σ' H')∧∀x H2,J.yld i H' x H2→rg K tg x σ' H2 fun σ3 H3=>tt σ3 H3 fun b H4=>
    if b=true then rd K m3 el σ3 H4 fun y H5=>∃ys,H5 l=some (.lst ys)∧ys.length < sizeLine∧N σ3 (dg H5 l (.lst (ys++[y]))) else N σ3 H4):=by
  have fr0:=(vm fr1 js).newl (ds:=[]) .nil hl
  refine ⟨fun i mm σ' H'=>mm=ds.length - i∧i≤ds.length∧∃Ei acc bv,cm tg cond el (ds.drop i) Ei=some bv∧rs=acc++bv∧Frm K H1 σ' H' Ei [.ref l] [.ow acc],⟨ds.length,by simp,Nat.zero_le _,_,[],rs,by simpa using e2,rfl,⟨_,_,fr0⟩⟩,?_⟩
  rintro i mm σ' H' ⟨rfl,hi,Ei,acc,bv,ei,er,F',A',fri⟩
  obtain ⟨go,stop⟩:=ok i B2 fri
  by_cases hlt:i < ds.length
  · obtain ⟨d,ed⟩:∃d,ds[i]? =some d:=⟨ds[i],List.getElem?_eq_getElem hlt⟩
    obtain ⟨g1,yl⟩:=go d ed
    have edr:ds.drop i=d::ds.drop (i+1):=by
      rw [List.drop_eq_getElem_cons hlt]
      congr 1
      exact Option.some.inj ((List.getElem?_eq_getElem hlt).symm.trans ed)
    rw [edr] at ei
    obtain ⟨E3,e3,ei⟩:=Option.bind_eq_some_iff.mp ei
    obtain ⟨⟨b,E4⟩,e4,ei⟩:=Option.bind_eq_some_iff.mp ei
    refine .inr ⟨g1,fun σ2 H2=>∃Ej acc bv,cm tg cond el (ds.drop (i+1)) Ej=some bv∧rs=acc++bv∧Frm K H1 σ2 H2 Ej [.ref l] [.ow acc],fun σ2 H2 ⟨Ej,ac,rt,ej,er,frj⟩=>⟨ds.length - (i+1),by omega,rfl,hlt,Ej,ac,rt,ej,er,frj⟩,fun x H2 y=>?_⟩
    have clm:Calm [Sl.ow acc]:=Calm.cons (fun s hs=>absurd hs (by simp)) rfl
    refine ⟨H1,Ei,[.ref l],[.ow acc],d,E3,yl x H2 y,(fun s hs=>by rw [List.mem_singleton.mp hs];rfl),e3,fun σ3 H3 fr3=>htt _ _ _ ?_⟩
    refine ⟨H1,E3,[.ref l],[.ow acc],b,E4,fr3,fun _=>clm,e4,fun H4 fr4=>?_⟩
    cases b with
    | false=>
      rw [if_neg (by decide)]
      exact ⟨E4,acc,bv,ei,er,fr4⟩
    | true=>
      rw [if_pos rfl]
      obtain ⟨⟨s5,E5⟩,e5,ei⟩:=Option.bind_eq_some_iff.mp ei
      obtain ⟨⟨d6,E6⟩,e6,ei⟩:=Option.bind_eq_some_iff.mp ei
      obtain ⟨rest',e7,ei⟩:=Option.map_eq_some_iff.mp ei
      subst ei
      refine ⟨H1,E4,[.ref l],[.ow acc],s5,E5,fr4,fun _=>clm,e5,fun y5 H5 ⟨F5,A5,fr5⟩=>?_⟩
      obtain ⟨F6,A6,fr6⟩:=fr5.frz0 e6
      obtain ⟨v',C1,ev,rfl,w,ew,ry⟩:=fr6.ext (k:=0) rfl
      cases ev;cases ew
      obtain ⟨A7,fr7⟩:=fr6.pop
      -- the list under way is the one part that owns
      obtain ⟨bf,fh,tf,sl,nd,frn,len,pl⟩:=fr7
      generalize hT:List.map some [V.ref l]++σ3=T at sl
      generalize hS:[Sl.ow acc]++E6=S at sl
      cases sl with
      | nil=>cases hS
      | cons q0 r0=>
        injection hT with h1 hT
        injection hS with h2 hS
        subst h1 h2 hT hS
        obtain ⟨l',us,el,rfl,hl5,ru⟩:=q0
        cases el
        have lu:=ru.len
        refine ⟨us,hl5,kq (by rw [er] at hc;simp at hc;lia),E6,acc++[d6],rest',e7,by rw [er];simp,F6,_,bf,fun b o qb=>?_,?_, .cons (A:=[l]) ⟨l,us++[y5],rfl,rfl,bR,ru.snoc ry⟩ (r0.mono fun o s C hs hC qq=>qq.stay (Same.refl _) (fun b hb=>aK fun z=>?_) fun z=>?_),nd,frn,rfl,pl⟩
        · have lF:F6 l=none:=frn l (by simp)
          rw [aK (fun z=>by rw [z,lF] at qb;cases qb)]
          exact fh _ _ qb
        · rw [o9 hl5];exact tf
        · have:=hC b hb
          rw [z] at this
          exact (List.nodup_cons.mp nd).1 this
        · have:=pl s hs
          cases s <;> simp [Sl.isAl,Sl.isBr] at this z
  · have e0:i=ds.length:=by exact Nat.le_antisymm ‹_› (Nat.le_of_not_lt ‹_›)
    refine .inl ⟨stop e0,?_⟩
    rw [e0,List.drop_length] at ei
    cases ei
    rw [List.append_nil] at er
    subst er
    obtain ⟨g1,g2⟩:=fri.result hc.1
    exact q _ _ (fr1.told g1 g2)
theorem nZ {m m2 m3:Bool} {it:jk} {tg:gI} {cond:i7} {el:bE} {tt:TT} (htt:∀σ H Q,rt K m2 cond σ H Q→tt σ H Q) {σ:jl} {H:Hp} {Q:VK} (z:rd K m (bJ js it tg cond el) σ H Q):o6 js (ri K m it) (rg K tg) tt (rd K m3 el) σ H Q:=by
  obtain ⟨B,E,xs,Xs,res,E',fr,cl,e,q⟩:=z
  obtain ⟨⟨ds,E1⟩,e1,e⟩:=Option.bind_eq_some_iff.mp e
  obtain ⟨rs,e2,e⟩:=Option.bind_eq_some_iff.mp e
  simp only at e
  split at e
  · rename_i hc
    cases e
    simp only [Bool.and_eq_true,decide_eq_true_eq] at hc
    exact ⟨B,E,xs,Xs,ds,_,fr,cl,e1,fun B' J H1 hB ⟨F,A,fr1⟩ ok l hl=>mM htt (fr1.base hB) (fr1.bf.trans fr1.fh) ok e2 hc q l hl⟩
  · cases e
def Ck (K:PySem.W.Frag) (m:Bool) (f:jk):TI:=fun σ H R=>∃B E xs Xs ds E',Frm K B σ H E xs Xs∧(m=true→Calm Xs)∧f E=some (ds,E')∧∀J H',Frm K B σ H' E' xs Xs→pi K H' J ds→R J H'
def B3 (X:Cx) (tg e:Expr) (m:Bool) (f:jk):Prop:=PI X tg e (Ck X.K m f)
theorem pj {m m2 m3:Bool} {it:jk} {tg:gI} {cond:i7} {el:bE} {tt:TT} (htt:∀σ H Q,rt K m2 cond σ H Q→tt σ H Q) {σ:jl} {H:Hp} {Q:VK} (z:rd K m (bJ js it tg cond el) σ H Q):o6 js (Ck K m it) (rg K tg) tt (rd K m3 el) σ H Q:=by
  obtain ⟨B,E,xs,Xs,res,E',fr,cl,e,q⟩:=z
  obtain ⟨⟨ds,E1⟩,e1,e⟩:=Option.bind_eq_some_iff.mp e
  obtain ⟨rs,e2,e⟩:=Option.bind_eq_some_iff.mp e
  simp only at e
  split at e
  · rename_i hc
    cases e
    simp only [Bool.and_eq_true,decide_eq_true_eq] at hc
    exact ⟨B,E,xs,Xs,ds,_,fr,cl,e1,fun J H1 ⟨F,A,fr1⟩ ok l hl=>mM htt fr1 (Same.refl _) ok e2 hc q l hl⟩
  · cases e
theorem gX {m m3:Bool} {it:jk} {tg:gI} {el:bE} (C:CompOk X scope sc cl N js) (hc:X.calm=true) (hi:IX X target iter m it) (hg:∀C s₀ H₀ fp,GX (X.comp sc cl N C s₀ H₀ fp) target tg) (he:∀C s₀ H₀ fp,EX (X.comp sc cl N C s₀ H₀ fp) elt m3 el)
    (hs:∀x,foldedSetIterable iter X.env x=pure x:=by intro _;rfl):EX X (.ListComp elt [⟨target,iter,[],0⟩] scope pos) m (bJ js it tg bV el):=
  bA (kM (g:=rg X.K tg) (te:=rd X.K m3 el) C hc hi hg (fun _ _ _ _=>nM) he hs) fun σ H Q z=>nZ (m2:=false) (fun σ H Q z=>by
    obtain ⟨B,E,xs,Xs,b,E',fr,cl,e,q⟩:=z
    cases e
    exact q _ fr) z
theorem pk {c:Expr} {m m2 m3:Bool} {it:jk} {tg:gI} {cond:i7} {el:bE} (C:CompOk X scope sc cl N js) (hc:X.calm=true) (hi:IX X target iter m it) (hg:∀C s₀ H₀ fp,GX (X.comp sc cl N C s₀ H₀ fp) target tg) (ht:∀C s₀ H₀ fp,TX (X.comp sc cl N C s₀ H₀ fp) c m2 cond) (he:∀C s₀ H₀ fp,EX (X.comp sc cl N C s₀ H₀ fp) elt m3 el)
    (hs:∀x,foldedSetIterable iter X.env x=pure x:=by intro _;rfl):EX X (.ListComp elt [⟨target,iter,[c],0⟩] scope pos) m (bJ js it tg cond el):=
  bA (kM (g:=rg X.K tg) (te:=rd X.K m3 el) (tt:=rt X.K m2 cond) C hc hi hg (fun _ _ _ _=>se (ht _ _ _ _)) he hs) fun σ H Q z=>nZ (m2:=m2) (fun _ _ _ z=>z) z
def jn (f:bE):jk:=fun E=>(f E).bind fun a=>match look a.2 a.1 with
  | some (.list ds)=>some (ds,a.2)
  | _=>none
theorem sw {tg e:Expr} {m:Bool} {f:bE} (he:EX X e m f):B3 X tg e m (jn f):=lC (rW he) fun σ H R z=>by
  obtain ⟨B,E,xs,Xs,ds,E',fr,cl,e,q⟩:=z
  obtain ⟨⟨s,E1⟩,e1,e⟩:=Option.bind_eq_some_iff.mp e
  simp only at e
  split at e
  · rename_i ds' ld
    cases e
    refine ⟨B,E,xs,Xs,s,_,fr,cl,e1,fun v H1 ⟨F,A,fr1⟩=>?_⟩
    obtain ⟨r,_⟩:=fr1.look0 ld
    obtain ⟨A',fr2⟩:=fr1.pop
    cases r with
    | lst h1 h2=>exact ⟨_,rfl,⟨_,h1⟩,q _ _ ⟨F,A',fr2⟩ (mJ h1 h2)⟩
  · cases e
theorem tR {m m3:Bool} {it:jk} {tg:gI} {el:bE} (C:CompOk X scope sc cl N js) (hc:X.calm=true) (hi:B3 X target iter m it) (hg:∀C s₀ H₀ fp,GX (X.comp sc cl N C s₀ H₀ fp) target tg) (he:∀C s₀ H₀ fp,EX (X.comp sc cl N C s₀ H₀ fp) elt m3 el)
    (hs:∀x,foldedSetIterable iter X.env x=pure x:=by intro _;rfl):EX X (.ListComp elt [⟨target,iter,[],0⟩] scope pos) m (bJ js it tg bV el):=
  bA (kM (g:=rg X.K tg) (te:=rd X.K m3 el) C hc hi hg (fun _ _ _ _=>nM) he hs) fun σ H Q z=>pj (m2:=false) (fun σ H Q z=>by
    obtain ⟨B,E,xs,Xs,b,E',fr,cl,e,q⟩:=z
    cases e
    exact q _ fr) z
theorem tS {c:Expr} {m m2 m3:Bool} {it:jk} {tg:gI} {cond:i7} {el:bE} (C:CompOk X scope sc cl N js) (hc:X.calm=true) (hi:B3 X target iter m it) (hg:∀C s₀ H₀ fp,GX (X.comp sc cl N C s₀ H₀ fp) target tg) (ht:∀C s₀ H₀ fp,TX (X.comp sc cl N C s₀ H₀ fp) c m2 cond) (he:∀C s₀ H₀ fp,EX (X.comp sc cl N C s₀ H₀ fp) elt m3 el)
    (hs:∀x,foldedSetIterable iter X.env x=pure x:=by intro _;rfl):EX X (.ListComp elt [⟨target,iter,[c],0⟩] scope pos) m (bJ js it tg cond el):=
  bA (kM (g:=rg X.K tg) (te:=rd X.K m3 el) (tt:=rt X.K m2 cond) C hc hi hg (fun _ _ _ _=>se (ht _ _ _ _)) he hs) fun σ H Q z=>pj (m2:=m2) (fun _ _ _ z=>z) z
end
end PL
namespace PL
open PySem L2 Nh
theorem zj {K:PySem.W.Frag} {m:Bool} {i:Nat} {f:bE} {D:Ends} {σ:jl} {H:Hp} (z:rs K (ao i f) D σ H):rd K m f σ H fun v H1=>uP i v σ H1 D.nx:=by
  obtain ⟨B,E,xs,Xs,E',fl,fr,cl,e,q⟩:=z
  obtain ⟨⟨s,E1⟩,e1,e⟩:=Option.bind_eq_some_iff.mp e
  obtain ⟨⟨s',E2⟩,e2,e⟩:=Option.bind_eq_some_iff.mp e
  refine ⟨B,E,xs,Xs,s,E1,fr,fun _=>Calm.nil cl,e1,fun v H1 ⟨F,A,fr1⟩=>?_⟩
  obtain ⟨c1,F2,A2,fr2⟩:=fr1.settle cl e2
  simp only at e
  split at e
  · rename_i hi
    cases e
    obtain ⟨A3,fr3⟩:=fr2.store c1 (Still.nil cl) hi
    exact q _ _ ⟨F2,A3,fr3⟩
  · cases e
section
variable {X:Cx} {elt target iter:Expr} {scope sc:Scope} {cl:List (Str×Addr)} {N:List Str} {pos spos px:Pos} {js:List (Option Nat)} {x:Str}
theorem vn {m m3:Bool} {it:jk} {tg:gI} {el:bE} (i:Nat) (hN:X.N.Nodup) (C:CompOk X scope sc cl N js) (hc:X.calm=true) (h:IX X target iter m it) (hg:∀C s₀ H₀ fp,GX (X.comp sc cl N C s₀ H₀ fp) target tg) (he:∀C s₀ H₀ fp,EX (X.comp sc cl N C s₀ H₀ fp) elt m3 el)
    (hi:X.N[i]? =some x:=by rfl) (hx:yt X.env.scope x:=by first | exact Or.inl rfl | exact Or.inr rfl) (hf:X.fn x=true∨X.env.scope.names.lookup x=some .local:=by first | exact .inl rfl | exact .inr rfl | assumption)
    (hs:∀x,foldedSetIterable iter X.env x=pure x:=by intro _;rfl) (hsw:swapsWith (.ListComp elt [⟨target,iter,[],0⟩] scope pos) (some (.Name x px)) spos.line X.env=pure true:=by rfl):
    SX X (.Assign [.Name x px] (.ListComp elt [⟨target,iter,[],0⟩] scope pos) spos) (ao i (bJ js it tg bV el)):=
  i8 (wT (g:=rg X.K tg) (te:=rd X.K m3 el) C hc (rT hN hi hx hf) h hg (fun _ _ _ _=>nM) he hs hsw) fun D σ H z=>nZ (m2:=false) (fun σ H Q z=>by
    obtain ⟨B,E,xs,Xs,b,E',fr,cl,e,q⟩:=z
    cases e
    exact q _ fr) (zj z)
end
def AO:Const→Option Int
  | .int i=>some i
  | _=>none
def zk:Expr→Option Int
  | .Constant c _ _=>AO c
  | _=>none
def iO:List Expr→Option (List Int)
  | []=>some []
  | e::r=>(zk e).bind fun i=>(iO r).map (i:: ·)
def vo (ns:List Int):jk:=fun E=>some (ns.map .int,E)
theorem zl {e:Expr} {i:Int} (h:zk e=some i):∃k p,e= .Constant (.int i) k p:=by
  unfold zk at h
  split at h
  · unfold AO at h
    split at h
    · cases h;exact ⟨_,_,rfl⟩
    · cases h
  · cases h
theorem sx {X:Cx}:∀{es:List Expr} {ns:List Int},iO es=some ns→DX X es false (vo ns)
  | [],ns,h=>by cases h;exact cn
  | e::es,ns,h=>by
    obtain ⟨i,h0,h⟩:=Option.bind_eq_some_iff.mp h
    obtain ⟨ms,h1,h⟩:=Option.map_eq_some_iff.mp h
    subst h
    obtain ⟨k,p,rfl⟩:=zl h0
    exact bU (m1:=false) (m2:=false) ah (sx h1) rfl
def AQ (body:List Stmt) (k:Nat):List Expr:=match body[k]? with
  | some (.Assign _ (.Subscript (.List es _) _ _) _)=>es
  | _=>[]
def B4 (es:List Expr):Stmt→Stmt
  | .Assign t (.Subscript (.List _ p) i q) r=> .Assign t (.Subscript (.List es p) i q) r
  | s=>s
def zn (es:List Expr):Nat→List Stmt→List Stmt
  | _,[]=>[]
  | 0,s::r=>B4 es s::r
  | k+1,s::r=>s::zn es k r
theorem qP {X:Cx} {body:List Stmt} {g:dG} (k:Nat) (ns:List Int) (h:iO (AQ body k)=some ns) (hb:zn (AQ body k) k body=body) (key:∀es,iO es=some ns→uK X (zn es k body) g):uK X body g:=by
  have:=key _ h
  rw [hb] at this
  exact this
end PL
namespace PL
open PySem L2 Nh
theorem gY {α:Type} (xs:List α) (k:Nat):atI xs (k:Int)=xs[k]? :=by
  unfold atI z_
  rw [if_pos (by (solve_by_elim (maxDepth:=2) only [*,Nat.le_trans,Nat.lt_of_lt_of_le,Nat.lt_of_le_of_lt,Nat.le_of_lt]))]
  split
  · simp
  · rw [List.getElem?_eq_none (by lia)];rfl
theorem ii {α:Type} (a:α) (l:List α):atI (a::l) 0=some a:=gY (a::l) 0
theorem mN {α:Type} (a b:α) (l:List α):atI (a::b::l) 1=some b:=gY (a::b::l) 1
theorem gL {α:Type} (l:List α) (a:α):atI (l++[a]) (-1)=some a:=by
  unfold atI z_
  rw [if_neg (by lia),if_pos (by simp;lia)]
  have e:(-1+(((l++[a]).length:Nat):Int)).toNat=l.length:=by simp;lia
  rw [e]
  simp
theorem zo {α:Type} {xs:List α} {i:Int} (h:0≤i):atI xs i=xs[i.toNat]? :=by
  have e:i=((i.toNat:Nat):Int):=by lia
  rw [e,gY,Int.toNat_natCast]
theorem iP {α:Type} (l:List α) (a:α):(l++[a])[(l++[a]).length - 1]? =some a:=by simp
theorem kN {α:Type} (l:List α) (a:α):(l++[a]).isEmpty=false:=by cases l <;> rfl
theorem mO:∀{a:List PyData},(∀d∈a,cY d=true)→bx a=true
  | [],_=>rfl
  | x::a,h=>by simp [bx,h x (List.mem_cons_self ..),mO fun d hd=>h d (List.mem_cons_of_mem _ hd)]
theorem tT {α:Type} {f:α→PyData} (h:∀a,cY (f a)=true) (l:List α):bx (l.map f)=true:=mO fun d hd=>by
  obtain ⟨a,_,rfl⟩:=List.mem_map.mp hd
  exact h a
theorem xi (p:Pc):cY (aq p)=true:=rfl
theorem df (c:List Pc):bx (c.map aq)=true:=tT xi c
def cutL {α:Type} (l:List α) (lo hi:Option Int):List α:=(l.drop (HT.kZ l.length 0 lo)).take (HT.kZ l.length l.length hi - HT.kZ l.length 0 lo)
theorem pq {α:Type} (f:α→PyData) (l:List α) (lo hi:Option Int):qO (l.map f) lo hi=(cutL l lo hi).map f:=by
  unfold qO cutL
  rw [List.length_map,List.map_take,List.map_drop]
theorem jr {α:Type} (l:List α) (lo hi:Option Int):(cutL l lo hi).length≤l.length:=by
  unfold cutL
  rw [List.length_take,List.length_drop]
  lia
theorem tU {α:Type} (l:List α) {m:Int} (h:0≤m):((cutL l none (some m)).length:Int)≤m:=by
  unfold cutL
  have e:m=((m.toNat:Nat):Int):=by lia
  have z:HT.kZ l.length l.length (some m)≤m.toNat:=by
    rw [e,HT.wI,Int.toNat_natCast]
    exact Nat.min_le_left _ _
  rw [List.length_take,List.length_drop]
  lia
theorem vp {α:Type} {l:List α} {lo hi:Option Int} {x:α} (h:x∈cutL l lo hi):x∈l:=List.mem_of_mem_drop (List.mem_of_mem_take h)
theorem jY (lo:Int) (n:Nat):iA lo (n+1)= .int lo::iA (lo+1) n:=by
  unfold iA
  rw [List.range_succ_eq_map,List.map_cons,List.map_map]
  simp only [Int.natCast_zero,Int.add_zero]
  congr 1
  refine List.map_congr_left fun k _=>?_
  show PyData.int (lo+((k+1:Nat):Int))=PyData.int (lo+1+(k:Int))
  congr 1
  lia
end PL
namespace L2
open PySem PySem.Spec PyProof.Rows
section
variable {X:Cx} {pins:List (Addr×Obj)} {σ:L2.St} {H:Hp} {s:Shared} {h':Heap}
theorem Inv.turnedL {t':Nat} {fp:List Addr} (I:Inv X pins σ H s) (k:∀b o,b∉fp→s.heap.get? b=some o→h'.get? b=some o) (hf:∀b∈fp,md X pins H b):Inv X pins σ H {s with heap:=h',toks:=t'}:=by
  have nit:∀b u,H b=some u→b∉fp:=fun b u e z=>by rw [(hf b z).1] at e;cases e
  refine I.step (g':=s.gens) (d':=s.drawn) (ch:=fp) (fun b hb=>?_) (fun b o _ _ hc e _=>k b o hc e) (fun b o _ _ hc e _=>⟨o.slots,k b o hc e⟩) (fun _ _ _ _ n=>n)
    (fun b o hc e=>⟨o,k b o hc e⟩) (fun _ _ e=>e) (fun _ _ _ e=>e) (fun _ _ e=>e) (fun m hm=>?_) (fun b u e=>?_) I.bare
  · obtain ⟨f0,f1,f2,f3,f4,f5⟩:=hf b hb
    exact ⟨f3,f1,f4,f5⟩
  · obtain ⟨o,es,ep,ho,r⟩:=hm
    exact ⟨o,es,ep,k _ o (fun z=>(hf _ z).2.1 rfl) ho,r⟩
  · refine (I.hok b u e).stay (fun c v hc q=>k c v ?_ q) (fun _ q=>q) fun _ _ q=>q
    rcases hc with z | z
    · rw [z];exact nit b u e
    · exact nit c _ z
theorem qQ {h:Heap} {o o':Obj} {c:Addr} (hc:c≠h.objs.size) (e:(h.push o').get? c=some o):h.get? c=some o:=(Heap.get?_push_cases e).elim (fun z=>absurd z.1 hc) id
theorem vq {t':Nat} {us:List Value} {vs:List V} (I:Inv X pins σ H s) (r:Vals vs us) (hz:vs.length≤sizeLine):
    Inv X pins σ (dg H s.heap.objs.size (.tup vs)) {s with heap:=s.heap.push {cls:= .type "tuple",data:= .seq us.toArray},toks:=t'}:=
  I.laid (fun b u e=>Heap.get?_push_of_some _ e) (Nat.le_refl _) ⟨hz,us,r,⟨_,Heap.get?_push_size _ rfl,rfl,_,rfl⟩⟩
end
def B5 (K:PySem.W.Frag) (a b:Addr) (xs ys:List V):It:=
  ⟨fun i H=>SqL K H a xs∧SqL K H b ys∧i < xs.length∧i < ys.length,fun i H x H'=>∃T u v,H T=none∧xs[i]? =some u∧ys[i]? =some v∧x= .ref T∧H'=dg H T (.tup [u,v]),
   fun i H=>SqL K H a xs∧SqL K H b ys∧i=min xs.length ys.length⟩
theorem vt {P:Program} {w:World} {K:PySem.W.Frag} {elts:List Expr} {k:Nat} {pos:Pos} {z TI TO i1 i2 a b:Addr} (D:ZipApart z TI TO i1 i2 a b) (xs ys:List V):Turn P w K (.Tuple elts k pos) (B5 K a b xs ys) [z,TI,TO,i1,i2] z
    (fun i h=>IsZip h z TI TO .none∧IsPair h TI (.ref i1) (.ref i2)∧(∃a b,IsPair h TO a b)∧h.IsListIter i1 a i∧h.IsListIter i2 b i) where
  mem:=by simp
  obj:=fun i h st c hc=>by
    obtain ⟨h1,h2,⟨x,y,h3⟩,⟨o4,h4,_,d4⟩,⟨o5,h5,_,d5⟩⟩:=st
    simp only [List.mem_cons,List.not_mem_nil,or_false] at hc
    rcases hc with rfl | rfl | rfl | rfl | rfl
    · exact ⟨_,h1,fun v z=>by cases z⟩
    · exact ⟨_,h2,fun v z=>by cases z⟩
    · exact ⟨_,h3,fun v z=>by cases z⟩
    · exact ⟨_,h4,fun v z=>by rw [d4] at z;cases z⟩
    · exact ⟨_,h5,fun v z=>by rw [d5] at z;cases z⟩
  keep:=fun i h h' st kk=>by
    obtain ⟨h1,h2,⟨x,y,h3⟩,h4,h5⟩:=st
    exact ⟨kk z (by simp) _ h1,kk TI (by simp) _ h2,⟨x,y,kk TO (by simp) _ h3⟩,h4.at fun o e=>kk i1 (by simp) o e,h5.at fun o e=>kk i2 (by simp) o e⟩
  item:=by
    intro X hP hw hK hc i pins s σ H E I hf st hg
    subst hP hw hK
    obtain ⟨h1,h2,⟨x,y,h3⟩,h4,h5⟩:=st
    obtain ⟨q1,q2,l1,l2⟩:=hg
    obtain ⟨its,rv,p,hz⟩:=I.list q1
    obtain ⟨its2,rv2,p2,hz2⟩:=I.list q2
    obtain ⟨u,hu⟩:∃u,xs[i]? =some u:=⟨xs[i],List.getElem?_eq_getElem l1⟩
    obtain ⟨v,hv⟩:∃v,ys[i]? =some v:=⟨ys[i],List.getElem?_eq_getElem l2⟩
    obtain ⟨u',hu',ru⟩:=rv.get hu
    obtain ⟨v',hv',rv'⟩:=rv2.get hv
    refine wpAny_pyNext_zip_item D h1 h2 h3 h4 h5 p.isList p2.isList (by simpa using hu') (by simpa using hv') fun h' a1 a2 a3 a4 a5 a6 hk=>?_
    have I0:=vq (t':=s.toks) I (us:=[u',v']) (vs:=[u,v]) (.cons ru (.cons rv' .nil)) (by show 2≤sizeLine;decide)
    have hT:∀c∈[z,TI,TO,i1,i2],c≠s.heap.objs.size:=fun c hc ZE=>by
      have:c < s.heap.objs.size:=by
        simp only [List.mem_cons,List.not_mem_nil,or_false] at hc
        rcases hc with rfl | rfl | rfl | rfl | rfl
        · exact Heap.lt_size h1
        · exact Heap.lt_size h2
        · exact Heap.lt_size h3
        · obtain ⟨o,q,_⟩:=h4;exact Heap.lt_size q
        · obtain ⟨o,q,_⟩:=h5;exact Heap.lt_size q
      rw [ZE] at this;exact Nat.lt_irrefl _ this
    have hf2:∀c∈[z,TI,TO,i1,i2],md X pins (dg H s.heap.objs.size (.tup [u,v])) c:=fun c hc=>by
      obtain ⟨f0,f⟩:=hf c hc
      exact ⟨by rw [aK (hT c hc)];exact f0,f⟩
    have I1:=I0.turnedL (h':=h') (t':=s.toks) (fp:=[z,TI,TO,i1,i2]) (fun c o hc e=>by
      simp only [List.mem_cons,List.not_mem_nil,or_false,not_or] at hc
      by_cases ec:c=s.heap.objs.size
      · subst ec
        rw [Heap.get?_push_size _ rfl] at e
        cases e
        exact a5
      · have e':s.heap.get? c=some o:=by
          exact qQ ec e
        exact hk c o hc.1 hc.2.2.1 hc.2.2.2.1 hc.2.2.2.2 e') hf2
    refine ⟨_,rfl,wpAny_letOwnedTupleGo_zip (s:={s with heap:=h'}) a1 fun h'' z'' s''=>?_⟩
    have I2:=I1.turnedL (h':=h'') (t':=s.toks) (fp:=[z,TI,TO,i1,i2]) (fun c o hc e=>(s''.2 c fun e'=>hc (by simp [e'])).trans e) hf2
    refine ⟨.ref s.heap.objs.size,_,I2,rfl,⟨_,u,v,I.hok.fresh (Nat.le_refl _),hu,hv,rfl,rfl⟩,⟨z'',?_,⟨_,_,s''.extBut _ _ D.TOz a2⟩,a3.extBut s''.extBut D.i1z,a4.extBut s''.extBut D.i2z⟩,fun c hc=>(hf2 c hc).1⟩
    exact s''.extBut _ _ D.TIz (hk _ _ D.TIz D.TITO D.TIi1 D.TIi2 h2)
  done:=by
    intro X hP hw hK hc i pins s σ H E I hf st hg
    subst hP hw hK
    obtain ⟨h1,h2,⟨x,y,h3⟩,h4,h5⟩:=st
    obtain ⟨q1,q2,hi⟩:=hg
    obtain ⟨its,rv,p,hz⟩:=I.list q1
    obtain ⟨its2,rv2,p2,hz2⟩:=I.list q2
    have n1:=rv.length
    have n2:=rv2.length
    refine wpAny_pyNext_zip_end (I.ok.hd hc) D h1 h2 h3 h4 h5 p.isList p2.isList ?_ fun h' hk=>⟨rfl,I.turnedL (t':=s.toks) (fp:=[z,TI,TO,i1,i2]) (fun c o hc e=>?_) hf⟩
    · rcases Nat.le_total xs.length ys.length with h | h
      · exact .inl (Array.getElem?_eq_none (by rw [List.size_toArray];lia))
      · exact .inr (Array.getElem?_eq_none (by rw [List.size_toArray];lia))
    · simp only [List.mem_cons,List.not_mem_nil,or_false,not_or] at hc
      exact hk c o hc.1 hc.2.2.1 hc.2.2.2.1 hc.2.2.2.2 e
  self:=fun _ _ _ _ _ st h=>wpAny_pyIter_zip st.1 h
def B6 (K:PySem.W.Frag) (tl:TA):TI:=fun σ H R=>tl σ H fun vs H1=>∃a b xs ys,vs=[.ref a, .ref b]∧SqL K H1 a xs∧SqL K H1 b ys∧R (B5 K a b xs ys) H1
section
variable {X:Cx} {elts:List Expr} {kt:Nat} {pt:Pos}
theorem zp {l l2:Expr} {tl:TA} {p pos:Pos} (hg:Gl X "zip") (hm:X.mg "zip"=none) (ha:PA X [l,l2] tl) (hs:starEach [l,l2] X.env=(false,eval l X.env)::starEach [l2] X.env:=by rfl) (hs2:starEach [l2] X.env=[(false,eval l2 X.env)]:=by rfl):PI X (.Tuple elts kt pt) (.Call (.Name "zip" p) [l,l2] [] pos) (B6 X.K tl):=by
  intro pins s σ H R I h
  refine Call_ (iq I hg hm boot_zip (PyProof.Rows.callWith_type1 (d_ (ha pos pins s σ H _ I h) fun us s1 ⟨vs,H1,I1,r1,q1⟩=>?_) hs (by rw [hs2];rfl)))
  obtain ⟨a,b,xs,ys,e,hq,hq2,q⟩:=q1
  subst e
  obtain ⟨u,v,rfl,ru,rv⟩:=r1.two
  cases ru;cases rv
  obtain ⟨its,rva,p1,hz⟩:=I1.list hq
  obtain ⟨its2,rvb,p2,hz2⟩:=I1.list hq2
  have la:a < s1.heap.objs.size:=by obtain ⟨_,e,_⟩:=p1.isList;exact Heap.lt_size e
  have lb:b < s1.heap.objs.size:=by obtain ⟨_,e,_⟩:=p2.isList;exact Heap.lt_size e
  refine call_zip_2 p1.isList p2.isList fun h' z1 z2 z3 z4 z5 z6 hk=>?_
  have I2:Inv X pins σ H1 {s1 with heap:=h'}:=I1.kept (t':=s1.toks) hk
  refine wpAny_pyIter_zip (s:={s1 with heap:=h'}) z1 ⟨_,[_,_,_,_,_],_,_,H1,rfl,I2,vt (zipApart_new la lb) xs ys,⟨z1,z2,⟨_,_,z3⟩,z4,z5⟩,fun c hc=>?_,q⟩
  have le:s1.heap.objs.size≤c:=by
    simp only [List.mem_cons,List.not_mem_nil,or_false] at hc
    rcases hc with rfl | rfl | rfl | rfl | rfl
    · exact Nat.le_add_right _ 4
    · exact Nat.le_add_right _ 2
    · exact Nat.le_add_right _ 3
    · exact Nat.le_refl _
    · exact Nat.le_add_right _ 1
  exact I1.fpOk le (I1.hok.fresh le)
end
def Br (x:Str):It:=⟨fun i _=>i < x.cps.toList.length,fun i H v H'=>H'=H∧∃c,x.cps.toList[i]? =some c∧v= .str ⟨#[c]⟩,fun i _=>i=x.cps.toList.length⟩
theorem vv {P:Program} {w:World} {K:PySem.W.Frag} {tg:Expr} {it:Addr} {T:String} {x:Str} {t:Tok} (hT:T="str_ascii_iterator"∨T="str_iterator"):Turn P w K tg (Br x) [it] it (fun i h=>h.IsStrIter it T x t i) where
  mem:=by simp
  obj:=fun i h st b hb=>by
    have e:b=it:=by simpa using hb
    subst e
    obtain ⟨o,e,c,d⟩:=st
    exact ⟨o,e,fun v z=>by rw [d] at z;cases z⟩
  keep:=fun i h h' st k=>let ⟨o,ho,r⟩:=st;⟨o,k it (by simp) o ho,r⟩
  item:=by
    intro X hP hw hK hc i pins s σ H E I hf st hg
    subst hP hw hK
    obtain ⟨f0,f1,f2,f3,f4,f5⟩:=hf it (by simp)
    have hi:i < x.cps.toList.length:=hg
    have hx:x.cps[i]? =some (x.cps.toList[i]'hi):=by simp at hi;simp [hi]
    have fin:∀(h':Heap),h'.IsStrIter it T x t (i+1)→Heap.SameBut it s.heap h'→∃u,some (Value.str ⟨#[x.cps.toList[i]'hi]⟩ s.toks)=some u∧
        wpAny (model X.prog X.w) X.A (letOwnedTupleGo tg (.ref it) u) (fun _ s2=>∃v H',Inv X pins σ H' s2∧RelV v u∧(Br x).yld i H v H'∧s2.heap.IsStrIter it T x t (i+1)∧∀b∈[it],H' b=none) E {s with heap:=h',toks:=s.toks+1}:=fun h' st' sb=>by
      have I1:Inv X pins σ H {s with heap:=h',toks:=s.toks+1}:=I.turned (t':=s.toks+1) (fun b o hb e=>(sb.2 b hb).trans e) f0 f1 f3 f4 f5
      obtain ⟨o,e,c,d⟩:=id st'
      exact ⟨_,rfl,rV (s:={s with heap:=h',toks:=s.toks+1}) e c d (by rcases hT with rfl | rfl <;> decide) ⟨.str ⟨#[x.cps.toList[i]'hi]⟩,H,I1,⟨_,rfl⟩,⟨rfl,_,List.getElem?_eq_getElem hi,rfl⟩,st',fun b hb=>(hf b hb).1⟩⟩
    rcases hT with rfl | rfl
    · exact wpAny_pyNext_ascii_item st hx fun h' st' sb=>fin h' st' sb
    · exact wpAny_pyNext_wide_item st hx fun h' st' sb=>fin h' st' sb
  done:=by
    intro X hP hw hK hc i pins s σ H E I hf st hg
    subst hP hw hK
    obtain ⟨f0,f1,f2,f3,f4,f5⟩:=hf it (by simp)
    have hi:i=x.cps.toList.length:=hg
    have hx:x.cps[i]? =none:=by simp at hi;simp [hi]
    rcases hT with rfl | rfl
    · exact wpAny_pyNext_ascii_end (I.ok.hd hc) st hx fun h' eb=>⟨rfl,I.turned (t':=s.toks) (fun b o hb e=>eb b o hb e) f0 f1 f3 f4 f5⟩
    · exact wpAny_pyNext_wide_end (I.ok.hd hc) st hx fun h' eb=>⟨rfl,I.turned (t':=s.toks) (fun b o hb e=>eb b o hb e) f0 f1 f3 f4 f5⟩
  self:=fun _ _ _ _ _ st h=>by
    rcases hT with rfl | rfl
    · exact wpAny_pyIter_striter_ascii st h
    · exact wpAny_pyIter_striter_wide st h
def B7 (tl:TE):TI:=fun σ H R=>tl σ H fun v H1=>∃x,v= .str x∧R (Br x) H1
theorem zq {X:Cx} {tg l:Expr} {tl:TE} (hl:PE X l tl):PI X tg l (B7 tl):=by
  intro pins s σ H R I h
  refine d_ (hl pins s σ H _ I h) fun v s1 ⟨y,H1,I1,r1,q1⟩=>?_
  obtain ⟨x,e,q⟩:=q1
  subst e
  obtain ⟨t,rfl⟩:=r1
  refine wpAny_pyIter_strU ?_
  refine ⟨s1.heap.objs.size,[s1.heap.objs.size],fun i h=>h.IsStrIter s1.heap.objs.size (strIterType x) x t i,_,H1,rfl,I1.kept (t':=s1.toks) fun b o e=>Heap.get?_push_of_some _ e,vv (t:=t) ?_,⟨_,Heap.get?_push_size _ rfl,rfl,rfl⟩,fun b hb=>?_,q⟩
  · unfold strIterType
    split
    · exact .inl rfl
    · exact .inr rfl
  · have e:b=s1.heap.objs.size:=by simpa using hb
    subst e
    exact I1.fpOk (Nat.le_refl _) (I1.hok.fresh (Nat.le_refl _))
theorem PI.or {X:Cx} {tg l:Expr} {a b:TI} (h1:PI X tg l a) (h2:PI X tg l b):PI X tg l (fun σ H R=>a σ H R∨b σ H R):=by
  intro pins s σ H R I h
  rcases h with h | h
  · exact h1 pins s σ H R I h
  · exact h2 pins s σ H R I h
end L2
namespace PL
open PySem L2 Nh
def ja:List PyData→List PyData→List PyData
  | a::as,b::bs=> .tuple [a,b]::ja as bs
  | _,_=>[]
def pv (f g:bE):jk:=fun E=>(f E).bind fun a=>(frz a.2 a.1).bind fun b=>(g b.2).bind fun c=>(frz c.2 c.1).bind fun d=>match b.1,d.1 with
  | .list xs, .list ys=>some (ja xs ys,d.2)
  | _,_=>none
def gQ (x:Str):List PyData:=x.cps.toList.map fun c=> .str ⟨#[c]⟩
def bL (f:bE):jk:=fun E=>(f E).bind fun a=>(frz a.2 a.1).bind fun b=>match b.1 with
  | .list ds=>some (ds,b.2)
  | .tuple ds=>some (ds,b.2)
  | .str x=>some (gQ x,b.2)
  | _=>none
section
variable {X:Cx} {K:PySem.W.Frag} {B:Hp}
theorem pA:∀{as bs:List PyData} {i:Nat} {d:PyData},(ja as bs)[i]? =some d→∃a b,as[i]? =some a∧bs[i]? =some b∧d= .tuple [a,b]
  | a::as,b::bs,0,d,e=>by simp [ja] at e;exact ⟨a,b,rfl,rfl,e.symm⟩
  | a::as,b::bs,i+1,d,e=>by
    obtain ⟨x,y,h1,h2,h3⟩:=pA (as:=as) (bs:=bs) (i:=i) (by simpa [ja] using e)
    exact ⟨x,y,by simpa using h1,by simpa using h2,h3⟩
  | [],_,_,_,e=>by simp [ja] at e
  | _::_,[],_,_,e=>by simp [ja] at e
theorem pB:∀(as bs:List PyData),(ja as bs).length=min as.length bs.length
  | a::as,b::bs=>by simp [ja,pB as bs]
  | [],_=>by simp [ja]
  | _::_,[]=>by simp [ja]
theorem vw {a b:Addr} {vs us:List V} {ds es:List PyData} (h:SqL K B a vs) (r:RpA K B vs ds) (h2:SqL K B b us) (r2:RpA K B us es):pi K B (B5 K a b vs us) (ja ds es):=fun {B' F A σ H E xs Xs} i sB fr=>by
  have hH:=fr.fh.seq (fr.bf.seq (sB.seq h))
  have hH2:=fr.fh.seq (fr.bf.seq (sB.seq h2))
  refine ⟨fun d ed=>?_,fun e=>⟨hH,hH2,by rw [e,pB,r.len,r2.len]⟩⟩
  obtain ⟨x,y,ex,ey,rfl⟩:=pA ed
  obtain ⟨v,ev,rv⟩:=r.get ex
  obtain ⟨u,eu,ru⟩:=r2.get ey
  refine ⟨⟨hH,hH2,(List.getElem?_eq_some_iff.mp ev).1,(List.getElem?_eq_some_iff.mp eu).1⟩,fun z H2 ⟨T,v',u',hT,e1,e2,e3,e4⟩=>?_⟩
  rw [ev] at e1;cases e1
  rw [eu] at e2;cases e2
  subst e3 e4
  have s1:=sB.trans fr.bf
  exact ⟨_,_,fr.newt (.cons (rv.same s1) (.cons (ru.same s1) .nil)) hT⟩
theorem vx {x:Str}:pi K B (Br x) (gQ x):=fun {B' F A σ H E xs Xs} i sB fr=>by
  refine ⟨fun d ed=>?_,fun e=>by show i=x.cps.toList.length;rw [e];simp [gQ]⟩
  unfold gQ at ed
  rw [List.getElem?_map] at ed
  obtain ⟨c,ec,rfl⟩:=Option.map_eq_some_iff.mp ed
  refine ⟨(List.getElem?_eq_some_iff.mp ec).1,fun z H2 ⟨e1,c',e2,e3⟩=>?_⟩
  rw [ec] at e2;cases e2
  subst e1 e3
  exact ⟨F,A,fr.push ⟨rfl,_,rfl, .str _⟩⟩
theorem vy {a:Addr} {vs:List V} {ds:List PyData} (h:SqT K B a vs) (r:RpA K B vs ds):pi K B (BE K a) ds:=fun {B' F A σ H E xs Xs} i sB fr=>by
  have hH:=fr.fh.tup (fr.bf.tup (sB.tup h))
  refine ⟨fun d ed=>?_,fun e=>⟨vs,hH,by rw [e,r.len];exact Nat.le_refl _⟩⟩
  obtain ⟨v,ev,rv⟩:=r.get ed
  refine ⟨⟨vs,v,hH,ev⟩,fun x H2 ⟨e2,y⟩=>?_⟩
  subst e2
  have:=y vs hH
  rw [ev] at this
  cases this
  exact ⟨F,A,fr.push ⟨rfl,_,rfl,rv.same (sB.trans fr.bf)⟩⟩
theorem dH {tg e:Expr} {m:Bool} {f:bE} (he:EX X e m f):IX X tg e m (bL f):=lC (PI.or (rW he) (PI.or (yG he) (zq he))) fun σ H R z=>by
  obtain ⟨B,E,xs,Xs,ds,E',fr,cl,e,q⟩:=z
  obtain ⟨⟨s,E1⟩,e1,e⟩:=Option.bind_eq_some_iff.mp e
  obtain ⟨⟨d,E2⟩,e2,e⟩:=Option.bind_eq_some_iff.mp e
  have key:∀(v:V) (H1:Hp),Frm X.K B σ H1 E1 (v::xs) (s::Xs)→∃F2 A2 A3,Rp X.K F2 v d∧Same B F2∧FrF X.K F2 F2 A3 σ H1 E2 xs Xs∧FrF X.K B F2 A2 σ H1 E2 (v::xs) (.sh d::Xs):=fun v H1 ⟨F,A,fr1⟩=>by
    obtain ⟨F2,A2,fr2⟩:=fr1.frz0 e2
    obtain ⟨v',A1,ev,rfl,w,ew,r⟩:=fr2.ext (k:=0) rfl
    cases ev;cases ew
    obtain ⟨A3,fr3⟩:=fr2.pop
    exact ⟨F2,A2,A3,r,fr2.bf,fr3.raise,fr2⟩
  simp only at e
  split at e
  · cases e
    refine .inl ⟨B,E,xs,Xs,s,E1,fr,cl,e1,fun v H1 fr1=>?_⟩
    obtain ⟨F2,A2,A3,r,sb,fr3,fr2⟩:=key v H1 fr1
    cases r with
    | lst h1 h2=>exact ⟨_,rfl,⟨_,fr2.fh.seq h1⟩,q F2 _ _ sb ⟨F2,A3,fr3⟩ (mJ h1 h2)⟩
  · cases e
    refine .inr (.inl ⟨B,E,xs,Xs,s,E1,fr,cl,e1,fun v H1 fr1=>?_⟩)
    obtain ⟨F2,A2,A3,r,sb,fr3,fr2⟩:=key v H1 fr1
    cases r with
    | tup h1 h2=>exact ⟨_,rfl,⟨_,fr2.fh.tup h1⟩,q F2 _ _ sb ⟨F2,A3,fr3⟩ (vy h1 h2)⟩
  · cases e
    refine .inr (.inr ⟨B,E,xs,Xs,s,E1,fr,cl,e1,fun v H1 fr1=>?_⟩)
    obtain ⟨F2,A2,A3,r,sb,fr3,fr2⟩:=key v H1 fr1
    cases r
    exact ⟨_,rfl,q F2 _ _ sb ⟨F2,A3,fr3⟩ vx⟩
  · cases e
theorem zr {elts:List Expr} {kt:Nat} {pt p pos:Pos} {e e2:Expr} {m m2:Bool} {f g:bE} (hg:Gl X "zip") (hm:X.mg "zip"=none) (he:EX X e m f) (he2:EX X e2 m2 g) (hs:starEach [e,e2] X.env=(false,eval e X.env)::starEach [e2] X.env:=by rfl) (hs2:starEach [e2] X.env=[(false,eval e2 X.env)]:=by rfl):IX X (.Tuple elts kt pt) (.Call (.Name "zip" p) [e,e2] [] pos) (m||m2) (pv f g):=lC (zp hg hm (dE he (dE he2 fX hs2) hs) hs hs2) fun σ H R z=>by
  obtain ⟨B,E,xs,Xs,ds,E',fr,cl,e,q⟩:=z
  obtain ⟨⟨s,E1⟩,e1,e⟩:=Option.bind_eq_some_iff.mp e
  obtain ⟨⟨d,E2⟩,e2,e⟩:=Option.bind_eq_some_iff.mp e
  obtain ⟨⟨s3,E3⟩,e3,e⟩:=Option.bind_eq_some_iff.mp e
  obtain ⟨⟨d4,E4⟩,e4,e⟩:=Option.bind_eq_some_iff.mp e
  refine ⟨B,E,xs,Xs,s,E1,fr,fun z=>cl (by simp [z]),e1,fun v H1 ⟨F,A,fr1⟩=>?_⟩
  obtain ⟨F2,A2,fr2⟩:=fr1.frz0 e2
  refine ⟨B,E2,v::xs, .sh d::Xs,s3,E3,⟨F2,A2,fr2⟩,fun z=>Calm.cons (cl (by simp [z])) rfl,e3,fun v3 H3 ⟨F3,A3,fr3⟩=>?_⟩
  obtain ⟨F4,A4,fr4⟩:=fr3.frz0 e4
  simp only at e
  split at e
  · cases e
    obtain ⟨v',A1,ev,rfl,w,ew,r⟩:=fr4.ext (k:=0) rfl
    cases ev;cases ew
    obtain ⟨v',A1,ev,rfl,w,ew,r2⟩:=fr4.ext (k:=1) rfl
    cases ev;cases ew
    cases r with
    | lst h1 h2=>
      cases r2 with
      | lst h3 h4=>
        obtain ⟨A5,fr5⟩:=fr4.pop
        obtain ⟨A6,fr6⟩:=fr5.pop
        exact ⟨_,_,_,_,rfl,fr4.fh.seq h3,fr4.fh.seq h1,q F4 _ _ fr4.bf ⟨F4,A6,fr6.raise⟩ (vw h3 h4 h1 h2)⟩
  · cases e
end
end PL
namespace PL
open PySem L2 Nh
inductive Cm where
  | lt | le | gt | ge
def Cm.op:Cm→CmpOp
  | .lt=> .Lt
  | .le=> .LtE
  | .gt=> .Gt
  | .ge=> .GtE
def Cm.i:Cm→Int→Int→Bool
  | .lt,i,j=>decide (i < j)
  | .le,i,j=>decide (i≤j)
  | .gt,i,j=>decide (j < i)
  | .ge,i,j=>decide (j≤i)
def Cm.s:Cm→List Nat→List Nat→Bool
  | .lt,i,j=>decide (i < j)
  | .le,i,j=> !decide (j < i)
  | .gt,i,j=>decide (j < i)
  | .ge,i,j=> !decide (i < j)
def eX (c:Cm):PyData→PyData→Option PyData
  | .int i, .int j=>some (.bool (c.i i j))
  | .str x, .str y=>some (.bool (c.s x.cps.toList y.cps.toList))
  | _,_=>none
def Cl (c:Cm):R2:=fun x y H Q=>(∃i j,x= .int i∧y= .int j∧Q (.bl (c.i i j)) H)∨(∃i j,x= .str i∧y= .str j∧Q (.bl (c.s i.cps.toList j.cps.toList)) H)
section
variable {X:Cx} {a b c:Expr} {m1 m2 m3:Bool} {f g h:bE} {pos:Pos} {K:PySem.W.Frag}
theorem mP (c:Cm):OpR X (compareOp c.op) (Cl c):=by
  cases c with
  | lt=>exact OpR.or At tz
  | le=>exact OpR.or Au (fun pins s σ H x y v u Q I rx ry h=>by
      obtain ⟨i,j,rfl,rfl,q⟩:=h
      obtain ⟨t,rfl⟩:=rx
      obtain ⟨t',rfl⟩:=ry
      exact PySem.P.le_str (aU I q rfl))
  | gt=>exact OpR.or Av (fun pins s σ H x y v u Q I rx ry h=>by
      obtain ⟨i,j,rfl,rfl,q⟩:=h
      obtain ⟨t,rfl⟩:=rx
      obtain ⟨t',rfl⟩:=ry
      exact PySem.P.gt_str (aU I q rfl))
  | ge=>exact OpR.or Aw (fun pins s σ H x y v u Q I rx ry h=>by
      obtain ⟨i,j,rfl,rfl,q⟩:=h
      obtain ⟨t,rfl⟩:=rx
      obtain ⟨t',rfl⟩:=ry
      exact PySem.P.ge_str (aU I q rfl))
theorem mQ (c:Cm):pe K (Cl c) (eX c):=fun d1 d2 d v1 v2 H Q e r1 r2=>by
  unfold eX at e
  split at e
  · cases e;cases r1;cases r2
    exact ⟨_,rfl,fun q=> .inl ⟨_,_,rfl,rfl,q⟩⟩
  · cases e;cases r1;cases r2
    exact ⟨_,rfl,fun q=> .inr ⟨_,_,rfl,rfl,q⟩⟩
  · cases e
theorem mR (c:Cm) (b:Expr):behindInMarks c.op b=false:=by cases c <;> exact ny _
theorem AR (c:Cm) (ha:EX X a m1 f) (hb:EX X b m2 g):EX X (.Compare a [c.op] [b] pos) (m1||m2) (ae (dh (eX c)) m2 f g):=qL (mP c) (iw (mQ c)) ha hb (mR c b)
theorem vz (c:Cm) (ha:EX X a m1 f) (hb:EX X b m2 g):TX X (.Compare a [c.op] [b] pos) (m1||m2) (bY (ae (dh (eX c)) m2 f g)):=lm (mP c) (iw (mQ c)) ha hb (mR c b)
theorem AS (c1 c2:Cm) (ha:EX X a m1 f) (hb:EX X b m2 g) (hc:EX X c m3 h) (hm:lastMarks [c1.op,c2.op] [b,c]=false:=by with_unfolding_all rfl):EX X (.Compare a [c1.op,c2.op] [b,c] pos) (m1||(m2||m3)) (gw (eX c1) (eX c2) m2 m3 f g h):=vd (mP c1) (mP c2) (mQ c1) (mQ c2) ha hb hc hm
theorem AT (c1 c2:Cm) (ha:EX X a m1 f) (hb:EX X b m2 g) (hc:EX X c m3 h) (hm:lastMarks [c1.op,c2.op] [b,c]=false:=by with_unfolding_all rfl):TX X (.Compare a [c1.op,c2.op] [b,c] pos) (m1||(m2||m3)) (bY (gw (eX c1) (eX c2) m2 m3 f g h)):=vf (mP c1) (mP c2) (mQ c1) (mQ c2) ha hb hc hm
def vA:P2:=dh (ix (fun _ _=>true) fun i j=> .int (Builtin.bitAnd i j))
theorem xj (ha:EX X a m1 f) (hb:EX X b m2 g):EX X (.BinOp a .BitAnd b pos) (m1||m2) (ae vA m2 f g):=lj (r:=za (fun _ _=>true) fun i j=> .int (Builtin.bitAnd i j)) (OpR.imp yO fun x y H Q ⟨i,j,a,b,_,q⟩=>⟨i,j,a,b,q⟩) (lq fun _ _=>rfl) ha hb
def iB:List PyData→Option (List Str)
  | []=>some []
  | .str x::ds=>(iB ds).map fun xs=>x::xs
  | _::_=>none
def n3:List PyData→Option (List Int)
  | []=>some []
  | .int x::ds=>(n3 ds).map fun xs=>x::xs
  | _::_=>none
theorem gZ:∀{ds:List PyData} {xs:List Str},iB ds=some xs→ds=xs.map .str
  | [],xs,h=>by cases h;rfl
  | d::ds,xs,h=>by
    cases d with
    | str x=>
      obtain ⟨ys,e,rfl⟩:=Option.map_eq_some_iff.mp h
      rw [gZ e];rfl
    | _=>cases h
theorem jZ:∀{ds:List PyData} {xs:List Int},n3 ds=some xs→ds=xs.map .int
  | [],xs,h=>by cases h;rfl
  | d::ds,xs,h=>by
    cases d with
    | int x=>
      obtain ⟨ys,e,rfl⟩:=Option.map_eq_some_iff.mp h
      rw [jZ e];rfl
    | _=>cases h
theorem iC {H:Hp}:∀{vs:List V} {xs:List Str},RpA K H vs (xs.map .str)→vs=xs.map .str
  | [],[],_=>rfl
  | v::vs,x::xs, .cons h r=>by cases h;rw [iC r];rfl
theorem lE {H:Hp}:∀{vs:List V} {xs:List Int},RpA K H vs (xs.map .int)→vs=xs.map .int
  | [],[],_=>rfl
  | v::vs,x::xs, .cons h r=>by cases h;rw [lE r];rfl
def ye:PyData→PyData→Option Bool
  | .str x, .str y=>some (!(Builtin.Str.occurrences y x 0 y.length 1).isEmpty)
  | .str x, .list ds=>(iB ds).map fun xs=>xs.contains x
  | .str x, .tuple ds=>(iB ds).map fun xs=>xs.contains x
  | .int x, .list ds=>(n3 ds).map fun xs=>xs.contains x
  | .int x, .tuple ds=>(n3 ds).map fun xs=>xs.contains x
  | _,_=>none
def zt (K:PySem.W.Frag) (neg:Bool):R2:=fun x y H Q=>(∃i j,x= .str i∧y= .str j∧Q (.bl (if neg then !(!(Builtin.Str.occurrences j i 0 j.length 1).isEmpty) else !(Builtin.Str.occurrences j i 0 j.length 1).isEmpty)) H)∨BP K neg x y H Q
theorem pD (x:Str) (xs:List Str):Aa (.str x) (xs.map .str)=xs.contains x:=by
  induction xs with
  | nil=>rfl
  | cons y xs ih=>
    rw [List.contains_cons,←ih]
    show (wm (.str y) (.str x)||Aa (.str x) (xs.map .str))=_
    congr 1
    show (y == x)=(x == y)
    exact BEq.comm
theorem pE (x:Int) (xs:List Int):Aa (.int x) (xs.map .int)=xs.contains x:=by
  induction xs with
  | nil=>rfl
  | cons y xs ih=>
    rw [List.contains_cons,←ih]
    show (wm (.int y) (.int x)||Aa (.int x) (xs.map .int))=_
    congr 1
    show (y == x)=(x == y)
    exact BEq.comm
theorem qR (neg:Bool):pe K (zt K neg) (fun d1 d2=>(ye d1 d2).map fun b=> .bool (if neg then !b else b)):=fun d1 d2 d v1 v2 H Q e r1 r2=>by
  obtain ⟨b,e',rfl⟩:=Option.map_eq_some_iff.mp e
  clear e
  have e:=e'
  clear e'
  refine ⟨_,rfl,fun q=>?_⟩
  have hs:∀xs:List Str,(xs.map V.str).all ie=true:=fun xs=>by simp [List.all_eq_true,ie]
  have hi:∀xs:List Int,(xs.map V.int).all ie=true:=fun xs=>by simp [List.all_eq_true,ie]
  unfold ye at e
  split at e
  · cases e;cases r1;cases r2
    exact .inl ⟨_,_,rfl,rfl,q⟩
  · obtain ⟨xs,ex,rfl⟩:=Option.map_eq_some_iff.mp e
    cases r1
    cases r2 with
    | lst h1 h2=>
      rw [gZ ex] at h2
      rw [iC h2] at h1
      exact .inr ⟨_,_,rfl, .inl h1,rfl,hs _,by rw [pD];exact q⟩
  · obtain ⟨xs,ex,rfl⟩:=Option.map_eq_some_iff.mp e
    cases r1
    cases r2 with
    | tup h1 h2=>
      rw [gZ ex] at h2
      rw [iC h2] at h1
      exact .inr ⟨_,_,rfl, .inr h1,rfl,hs _,by rw [pD];exact q⟩
  · obtain ⟨xs,ex,rfl⟩:=Option.map_eq_some_iff.mp e
    cases r1
    cases r2 with
    | lst h1 h2=>
      rw [jZ ex] at h2
      rw [lE h2] at h1
      exact .inr ⟨_,_,rfl, .inl h1,rfl,hi _,by rw [pE];exact q⟩
  · obtain ⟨xs,ex,rfl⟩:=Option.map_eq_some_iff.mp e
    cases r1
    cases r2 with
    | tup h1 h2=>
      rw [jZ ex] at h2
      rw [lE h2] at h1
      exact .inr ⟨_,_,rfl, .inr h1,rfl,hi _,by rw [pE];exact q⟩
  · cases e
def tV (neg:Bool):P2:=dh fun d1 d2=>(ye d1 d2).map fun b=> .bool (if neg then !b else b)
theorem vB:OpR X (compareOp .In) (zt X.K false):=OpR.or tB tI
theorem tW:OpR X (compareOp .NotIn) (zt X.K true):=OpR.or nE nD
theorem AU (ha:EX X a m1 f) (hb:EX X b m2 g) (hm:behindInMarks .In b=false:=by with_unfolding_all rfl):EX X (.Compare a [.In] [b] pos) (m1||m2) (ae (tV false) m2 f g):=qL vB (iw (qR false)) ha hb hm
theorem AV (ha:EX X a m1 f) (hb:EX X b m2 g) (hm:behindInMarks .In b=false:=by with_unfolding_all rfl):TX X (.Compare a [.In] [b] pos) (m1||m2) (bY (ae (tV false) m2 f g)):=lm vB (iw (qR false)) ha hb hm
theorem vC (ha:EX X a m1 f) (hb:EX X b m2 g) (hm:behindInMarks .NotIn b=false:=by with_unfolding_all rfl):TX X (.Compare a [.NotIn] [b] pos) (m1||m2) (bY (ae (tV true) m2 f g)):=lm tW (iw (qR true)) ha hb hm
end
def tX:List PyData→Option PyData
  | [.int i]=>some (.int i)
  | [.bool b]=>some (.int (if b then 1 else 0))
  | _=>none
def sy (x:Str):PyData→Option PyData
  | .list ds=>(iB ds).bind fun ys=>if (ys.map (·.length)).sum+ys.length*x.length≤1000000 then some (.str (Txt.join x ys)) else none
  | .tuple ds=>(iB ds).bind fun ys=>if (ys.map (·.length)).sum+ys.length*x.length≤1000000 then some (.str (Txt.join x ys)) else none
  | _=>none
theorem mS {ys:List Str}:∀{us:List Value},Vals (ys.map V.str) us→PyProof.Rows.StrsAre us ys:=by
  induction ys with
  | nil=>intro us h;cases h;exact .nil
  | cons y ys ih=>
    intro us h
    cases h with
    | cons h r=>
      obtain ⟨t,rfl⟩:=h
      exact .cons y t (ih r)
def AW (K:PySem.W.Frag):V→List V→Hp→VK→Prop:=fun x vs H Q=>∃z p ys,x= .str z∧vs=[.ref p]∧(SqL K H p (ys.map .str)∨SqT K H p (ys.map .str))∧(ys.map (·.length)).sum+ys.length*z.length≤16777216∧Q (.str (Txt.join z ys)) H
theorem xk {X:Cx}:BN X "str.join" (AW X.K):=by
  intro pins s σ H x vs v us Q I rx rv h
  obtain ⟨z,p,ys,rfl,rfl,hq,hl,q⟩:=h
  obtain ⟨t,rfl⟩:=rx
  obtain ⟨u,rfl,ru⟩:=rv.one
  cases ru
  rcases hq with hq | hq
  · obtain ⟨its,r,pl,_⟩:=I.list hq
    exact PyProof.Rows.join_list pl.isList (by simpa using mS r) hl fun t' k=>⟨.str _,H,I.tok _,⟨_,rfl⟩,q⟩
  · obtain ⟨its,r,pl,_⟩:=I.tuple hq
    exact PyProof.Rows.join_tuple pl (by simpa using mS r) hl fun t' k=>⟨.str _,H,I.tok _,⟨_,rfl⟩,q⟩
section
variable {X:Cx} {e o:Expr} {m1 m2:Bool} {g:nP} {f h:bE} {p pos apos cpos:Pos} {K:PySem.W.Frag}
theorem xl (hg:Gl X "int") (hm:X.mg "int"=none) (ha:AX X [e] m1 g) (he:starEach [e] X.env=[(false,eval e X.env)]:=by rfl):EX X (.Call (.Name "int" p) [e] [] pos) m1 (bI tX g):=
  bA (jS tD hg hm PyProof.Rows.boot_int ha (by decide) (by decide) he rfl) fun _ _ _ z=>vh (fun ds d vs H Q e r=>by
    unfold tX at e
    split at e
    · cases e
      obtain ⟨v,rfl,r'⟩:=r.one
      cases r'
      exact ⟨_,rfl,fun q=> .inl ⟨_,rfl,q⟩⟩
    · cases e
      obtain ⟨v,rfl,r'⟩:=r.one
      cases r'
      exact ⟨_,rfl,fun q=> .inr ⟨_,rfl,q⟩⟩
    · cases e) z
def pF (x:Str) (f:bE):bE:=ig (sy x) f
theorem sC {x:Str} {j:Nat} {sp:Pos} (he:EX X e m1 f) (hs:starEach [e] X.env=[(false,eval e X.env)]:=by rfl) (hbase:attributeBase (.Constant (.str x) j sp) "join" X.env (eval (.Constant (.str x) j sp) X.env)=eval (.Constant (.str x) j sp) X.env:=by rfl)
    (hfew:((backTo cpos (starEach [e] X.env)).all (fun x=> !x.1)&&(backToKw cpos (keywordEach [] X.env)).all (fun x=>x.1.isSome)
      &&decide (([e]:List Expr).length+([]:List Keyword).length+(if ([]:List Keyword).isEmpty then 0 else 1) < 30))=true:=by rfl) (hline:(apos.endLine == cpos.line)=true:=by rfl):
    EX X (.Call (.Attribute (.Constant (.str x) j sp) "join" apos) [e] [] cpos) m1 (pF x f):=by
  refine bA (xZ PySem.F.plainAttrs_str PySem.F.slot_str_join PySem.F.type_str_join xk (uM) (dE he fX hs) hbase hfew hline hs rfl) fun σ H Q z=>?_
  obtain ⟨B,E,xs,Xs,res,E',fr,c,e,q⟩:=z
  obtain ⟨⟨s1,E1⟩,e1,e⟩:=Option.bind_eq_some_iff.mp e
  obtain ⟨d1,e2,e⟩:=Option.bind_eq_some_iff.mp e
  obtain ⟨d,e3,e⟩:=Option.map_eq_some_iff.mp e
  cases e
  refine ⟨rfl,B,E,xs,Xs,s1,E1,fr,c,e1,fun v1 H1 ⟨F,A,fr1⟩=>?_⟩
  have r:=(fr1.look0 e2).1
  obtain ⟨A',fr2⟩:=fr1.pop
  unfold sy at e3
  split at e3
  · obtain ⟨ys,ey,e3⟩:=Option.bind_eq_some_iff.mp e3
    split at e3
    · rename_i hl
      cases e3
      cases r with
      | lst h1 h2=>
        rw [gZ ey] at h2
        rw [iC h2] at h1
        exact ⟨x,_,ys,rfl,rfl, .inl h1,by lia,q _ _ ⟨F,A',fr2.push ⟨rfl,_,rfl, .str _⟩⟩⟩
    · cases e3
  · obtain ⟨ys,ey,e3⟩:=Option.bind_eq_some_iff.mp e3
    split at e3
    · rename_i hl
      cases e3
      cases r with
      | tup h1 h2=>
        rw [gZ ey] at h2
        rw [iC h2] at h1
        exact ⟨x,_,ys,rfl,rfl, .inr h1,by lia,q _ _ ⟨F,A',fr2.push ⟨rfl,_,rfl, .str _⟩⟩⟩
    · cases e3
  · cases e3
end
theorem lG {X:Cx} {st:Stmt}:SX X st (fun _=>none):=i8 uO fun D σ H z=>by
  obtain ⟨B,E,xs,Xs,E',fl,fr,cl,e,q⟩:=z
  cases e
def qS:dG:=fun _=>none
end PL
namespace PL
open PySem L2 Nh
theorem zu {X:Cx}:SlR X (fun x lo hi H Q=>∃z,x= .str z∧z.length≤sizeLine∧Q (.str (Txt.slice z lo hi)) H):=by
  intro pins s σ H x v vl vu lo hi sl Q I rx hs pl pu h
  obtain ⟨z,rfl,hz,q⟩:=h
  obtain ⟨t,rfl⟩:=rx
  cases pl with
  | none=>
    cases pu with
    | none=>exact ⟨"str",_,PySem.F.slot_str_getitem.lookup,typeIs_str _ _ _,wpAny_getItem_str_slice (l:=none) (u:=none) (st:=none) hs rfl (post_val_or_str ⟨Nat.le_trans (Txt.slice_le z _ _) hz,fun t' k=>⟨.str _,H,I.tok _,⟨_,rfl⟩,q⟩⟩)⟩
    | int j uj=>exact ⟨"str",_,PySem.F.slot_str_getitem.lookup,typeIs_str _ _ _,wpAny_getItem_str_slice (l:=none) (u:=some (j,uj)) (st:=none) hs rfl (post_val_or_str ⟨Nat.le_trans (Txt.slice_le z _ _) hz,fun t' k=>⟨.str _,H,I.tok _,⟨_,rfl⟩,q⟩⟩)⟩
  | int i ui=>
    cases pu with
    | none=>exact ⟨"str",_,PySem.F.slot_str_getitem.lookup,typeIs_str _ _ _,wpAny_getItem_str_slice (l:=some (i,ui)) (u:=none) (st:=none) hs rfl (post_val_or_str ⟨Nat.le_trans (Txt.slice_le z _ _) hz,fun t' k=>⟨.str _,H,I.tok _,⟨_,rfl⟩,q⟩⟩)⟩
    | int j uj=>exact ⟨"str",_,PySem.F.slot_str_getitem.lookup,typeIs_str _ _ _,wpAny_getItem_str_slice (l:=some (i,ui)) (u:=some (j,uj)) (st:=none) hs rfl (post_val_or_str ⟨Nat.le_trans (Txt.slice_le z _ _) hz,fun t' k=>⟨.str _,H,I.tok _,⟨_,rfl⟩,q⟩⟩)⟩
def jb (m2:Bool) (f:bE) (lo hi:zf):bE:=fun E=>(f E).bind fun a=>if m2&&a.1.isBr then none else (lo a.2).bind fun b=>(hi b.2).bind fun c=>match look c.2 a.1 with
  | some (.list ds)=>if !dZ c.2 a.1||bx (qO ds b.1 c.1) then some (.ow (qO ds b.1 c.1),c.2) else none
  | some (.str z)=>if z.length≤1000000 then some (.sh (.str (Txt.slice z b.1 c.1)),c.2) else none
  | _=>none
theorem qT {X:Cx} {e:Expr} {lo hi:Option Expr} {m1 m2 m3:Bool} {f:bE} {g h:zf} {pos p2:Pos} (he:EX X e m1 f) (hl:OX X lo m2 g) (hh:OX X hi m3 h):EX X (.Subscript e (.Slice lo hi none p2) pos) (m1||(m2||m3)) (jb (m2||m3) f g h):=by
  refine bA (uX (SlR.or wN zu) he hl hh) fun σ H Q z=>?_
  obtain ⟨B,E,xs,Xs,res,E',fr,cl,e,q⟩:=z
  obtain ⟨⟨s,E1⟩,e1,e⟩:=Option.bind_eq_some_iff.mp e
  by_cases hb:((m2||m3)&&s.isBr)=true
  · rw [if_pos hb] at e;cases e
  rw [if_neg hb] at e
  have n1:(m2||m3)=true→s.isBr=false:=fun z=>by
    cases hs:s.isBr with
    | false=>rfl
    | true=>exact absurd (by rw [z,hs];rfl) hb
  obtain ⟨⟨l,E2⟩,e2,e⟩:=Option.bind_eq_some_iff.mp e
  obtain ⟨⟨u,E3⟩,e3,e⟩:=Option.bind_eq_some_iff.mp e
  refine ⟨B,E,xs,Xs,s,E1,fr,fun z=>cl (by simp [z]),e1,fun v1 H1 fr1=>?_⟩
  refine ⟨B,E1,v1::xs,s::Xs,l,E2,fr1,fun z=>Calm.cons (cl (by simp [z])) (n1 (by simp [z])),e2,fun H2 fr2=>?_⟩
  refine ⟨B,E2,v1::xs,s::Xs,u,E3,fr2,fun z=>Calm.cons (cl (by simp [z])) (n1 (by simp [z])),e3,fun H3 ⟨F,A,fr3⟩=>?_⟩
  simp only at e
  split at e
  · rename_i ds ld
    split at e
    · rename_i hc
      cases e
      obtain ⟨v,ev,r,f0⟩:=fr3.look (k:=0) rfl ld
      cases ev
      obtain ⟨A',fr4⟩:=fr3.pop
      cases hh:dZ E' s with
      | false=>
        obtain ⟨a,vs,rfl,h1,h2⟩:=f0 hh
        exact .inl ⟨a,vs,rfl,h1,fun p hp=>q _ _ ⟨F,_,fr4.newl (h2.cut l u) hp⟩⟩
      | true=>
        rw [hh] at hc
        cases r with
        | lst h1 h2=>exact .inl ⟨_,_,rfl,h1,fun p hp=>q _ _ ⟨F,_,fr4.newl (fr3.coldA (h2.cut l u) (by simpa using hc)) hp⟩⟩
    · cases e
  · rename_i z ld
    split at e
    · rename_i hc
      cases e
      have r:=(fr3.look0 ld).1
      cases r
      obtain ⟨A',fr4⟩:=fr3.pop
      exact .inr ⟨_,rfl,gu hc,q _ _ ⟨F,A',fr4.push ⟨rfl,_,rfl, .str _⟩⟩⟩
    · cases e
  · cases e
def jt (i:Nat):bE:=fun E=>match E[i]? with
  | some (.ow ds)=>some (.sh .none,E.set i (.ow ds.reverse))
  | _=>none
section
variable {X:Cx} {e:Expr} {m1:Bool} {f:bE} {x:Str} {p apos cpos:Pos}
theorem qU (i:Nat) (hN:X.N[i]? =some x:=by rfl) (hv:zZ X.env.scope x:=by first | exact Or.inl rfl | exact Or.inr (Or.inl rfl) | exact Or.inr (Or.inr rfl)) (hd:(x == ("__debug__":Str))=false:=by decide) (hcd:(x == ("__classdict__":Str))=false:=by decide)
    (hbase:attributeBase (.Name x p) "reverse" X.env (eval (.Name x p) X.env)=eval (.Name x p) X.env:=by rfl) (hline:(apos.endLine == cpos.line)=true:=by rfl):
    EX X (.Call (.Attribute (.Name x p) "reverse" apos) [] [] cpos) true (jt i):=by
  refine bA (u0 PySem.F.plainAttrs_list PySem.F.slot_list_reverse PySem.F.type_list_reverse qJ (nv hN hv hd hcd) hbase hline) fun σ H Q z=>?_
  obtain ⟨B,E,xs,Xs,res,E',⟨F,A,fr⟩,cl,e,q⟩:=z
  unfold jt at e
  split at e
  · rename_i ds ei
    cases e
    obtain ⟨l,vs,eo,hl,r,put⟩:=fr.mut ei (cl rfl)
    have fr2:=put vs.reverse ds.reverse r.rev
    exact ⟨_,eo, .inl ⟨rfl,_,SqL.of hl⟩,l,vs,rfl,rfl,hl,q _ _ ⟨_,_,fr2.push ⟨rfl,_,rfl, .non⟩⟩⟩
  · cases e
end
def pG (scope:Scope) (env:Env):List (Str×Addr):=((scope.names.filter fun p=>p.2 == .free).map fun p=>(p.1,(env.cells.lookup p.1).getD 0)).reverse
theorem fQ {X:Cx} {scope:Scope} {N:List Str} {js:List (Option Nat)} (clos:closureFor scope X.env=pure (pG scope X.env):=by rfl) (nocell:∀y∈scope.names,y.2≠ .cell:=by decide+kernel) (kind:scope.kind= .function:=by rfl)
    (names:∀y∈scope.names,y.2= .local→scope.names.lookup y.1=some .local:=by decide+kernel) (same:(scope.names.filter fun p=>p.2 == .free).all (fun p=>(X.env.cells.lookup p.1).isSome)=true:=by rfl)
    (has:(relabel scope X.env).names.all (fun y=> !(y.2 == .cell||y.2 == .free)||((pG scope X.env).lookup y.1).isSome)=true:=by rfl) (len:js.length=N.length:=by rfl)
    (fr:(js.zip N).all (fun p=>match p.1 with | none=>true | some j=>X.N[j]? == some p.2&&((relabel scope X.env).names.lookup p.2 == some .cell||(relabel scope X.env).names.lookup p.2 == some .free)&&(X.env.kindOf p.2 == some .cell||X.env.kindOf p.2 == some .free))=true:=by rfl):
    CompOk X scope (relabel scope X.env) (pG scope X.env) N js where
  clos:=clos
  rel:=rfl
  nocell:=nocell
  kind:=kind
  names:=names
  same:=fun x c e=>by
    have hm:=PySem.mem_of_lookup e
    unfold pG at hm
    obtain ⟨p,hp,ep⟩:=List.mem_map.mp (List.mem_reverse.mp hm)
    have:=List.all_eq_true.mp same _ hp
    obtain ⟨c',ec⟩:=Option.isSome_iff_exists.mp this
    injection ep with e1 e2
    subst e1
    rw [ec] at e2 ⊢
    exact congrArg some e2
  has:=fun x h=>by
    have key:∀k,(relabel scope X.env).names.lookup x=some k→(k == NameKind.cell||k == NameKind.free)=true→∃c,(pG scope X.env).lookup x=some c:=fun k h hk=>by
      have:=List.all_eq_true.mp has _ (PySem.mem_of_lookup h)
      simp only [hk,Bool.not_true,Bool.false_or] at this
      exact Option.isSome_iff_exists.mp this
    rcases h with h | h
    · exact key _ h rfl
    · exact key _ h rfl
  len:=len
  from_:=fun i j h=>by
    have hi:i < js.length:=(List.getElem?_eq_some_iff.mp h).1
    obtain ⟨x,ex⟩:∃x,N[i]? =some x:=⟨N[i]'(by exact Nat.lt_of_lt_of_eq ‹_› ‹_›),List.getElem?_eq_getElem (by exact Nat.lt_of_lt_of_eq ‹_› ‹_›)⟩
    have hz:(js.zip N)[i]? =some (some j,x):=by rw [List.getElem?_zip_eq_some];exact ⟨h,ex⟩
    have:=List.all_eq_true.mp fr _ (List.mem_of_getElem? hz)
    simp only [Bool.and_eq_true,Bool.or_eq_true,beq_iff_eq] at this
    exact ⟨x,ex,this.1.1,this.1.2,this.2⟩
structure Bn (mg:Str→Option Value):Prop where
  len:mg "len"=none
  range:mg "range"=none
  abs:mg "abs"=none
  min:mg "min"=none
  max:mg "max"=none
  reversed:mg "reversed"=none
  enumerate:mg "enumerate"=none
  isinstance:mg "isinstance"=none
  list:mg "list"=none
  tuple:mg "tuple"=none
  str:mg "str"=none
  int:mg "int"=none
  bool:mg "bool"=none
  sorted:mg "sorted"=none
  zip:mg "zip"=none
  sum:mg "sum"=none
  any:mg "any"=none
  all:mg "all"=none
  set:mg "set"=none
  dict:mg "dict"=none
theorem AY {K:PySem.W.Frag} {h:Heap} {mg:Str→Option Value} (X:K.In h) (G:h.Ns mainGlobals mg)
    (z1:PySem.W.nsIn K mainGlobals "len"=some none) (z2:PySem.W.nsIn K mainGlobals "range"=some none) (z3:PySem.W.nsIn K mainGlobals "abs"=some none) (z4:PySem.W.nsIn K mainGlobals "min"=some none) (z5:PySem.W.nsIn K mainGlobals "max"=some none) (z6:PySem.W.nsIn K mainGlobals "reversed"=some none) (z7:PySem.W.nsIn K mainGlobals "enumerate"=some none) (z8:PySem.W.nsIn K mainGlobals "isinstance"=some none) (z9:PySem.W.nsIn K mainGlobals "list"=some none) (z10:PySem.W.nsIn K mainGlobals "tuple"=some none) (z11:PySem.W.nsIn K mainGlobals "str"=some none) (z12:PySem.W.nsIn K mainGlobals "int"=some none) (z13:PySem.W.nsIn K mainGlobals "bool"=some none) (z14:PySem.W.nsIn K mainGlobals "sorted"=some none) (z15:PySem.W.nsIn K mainGlobals "zip"=some none) (z16:PySem.W.nsIn K mainGlobals "sum"=some none) (z17:PySem.W.nsIn K mainGlobals "any"=some none) (z18:PySem.W.nsIn K mainGlobals "all"=some none) (z19:PySem.W.nsIn K mainGlobals "set"=some none) (z20:PySem.W.nsIn K mainGlobals "dict"=some none):Bn mg:=
  ⟨PySem.W.mg_none_of X G z1,PySem.W.mg_none_of X G z2,PySem.W.mg_none_of X G z3,PySem.W.mg_none_of X G z4,PySem.W.mg_none_of X G z5,PySem.W.mg_none_of X G z6,PySem.W.mg_none_of X G z7,PySem.W.mg_none_of X G z8,PySem.W.mg_none_of X G z9,PySem.W.mg_none_of X G z10,PySem.W.mg_none_of X G z11,PySem.W.mg_none_of X G z12,PySem.W.mg_none_of X G z13,PySem.W.mg_none_of X G z14,PySem.W.mg_none_of X G z15,PySem.W.mg_none_of X G z16,PySem.W.mg_none_of X G z17,PySem.W.mg_none_of X G z18,PySem.W.mg_none_of X G z19,PySem.W.mg_none_of X G z20⟩
end PL
namespace PL
open PySem L2 Nh
def qV:Pt→Sl
  | .fl d=> .sh d
  | .ol ds=> .ow ds
section
variable {K:PySem.W.Frag} {F H:Hp}
theorem PtsOk.append:∀{us:List V} {ts:List Pt} {A:List Addr} {us':List V} {ts':List Pt} {A':List Addr},PtsOk K F H us ts A→PtsOk K F H us' ts' A'→PtsOk K F H (us++us') (ts++ts') (A++A')
  | [],[],A,_,_,_,h,h'=>by rw [show A=[] from h];exact h'
  | v::vs, .fl d::ps,A,_,_,_,h,h'=>⟨h.1,PtsOk.append h.2 h'⟩
  | v::vs, .ol ds::ps,A,_,_,_,h,h'=>by
    obtain ⟨l,us,A1,rfl,rfl,hl,hr,q⟩:=h
    exact ⟨l,us,_,rfl,rfl,hl,hr,q.append h'⟩
  | [],_::_,_,_,_,_,h,_=>False.elim h
  | _::_,[],_,_,_,_,h,_=>False.elim h
theorem PtsOk.rev:∀{us:List V} {ts:List Pt} {A:List Addr},PtsOk K F H us ts A→PtsOk K F H us.reverse ts.reverse A.reverse
  | [],[],A,h=>by rw [show A=[] from h];exact rfl
  | v::vs, .fl d::ps,A,h=>by
    rw [List.reverse_cons,List.reverse_cons,←List.append_nil A.reverse]
    exact (PtsOk.rev h.2).append (us':=[v]) (ts':=[.fl d]) (A':=[]) ⟨h.1,rfl⟩
  | v::vs, .ol ds::ps,A,h=>by
    obtain ⟨l,us,A1,rfl,rfl,hl,hr,q⟩:=h
    rw [List.reverse_cons,List.reverse_cons,List.reverse_cons]
    exact q.rev.append (us':=[.ref l]) (ts':=[.ol ds]) (A':=[l]) ⟨l,us,[],rfl,rfl,hl,hr,rfl⟩
  | [],_::_,_,h=>False.elim h
  | _::_,[],_,h=>False.elim h
end
section
variable {K:PySem.W.Frag} {B F:Hp} {A:List Addr} {σ:jl} {H:Hp} {E:List Sl} {xs:List V} {Xs:List Sl}
theorem vD:∀{us:List V} {ts:List Pt} {os:List (Option V)} {ss:List Sl} {A:List Addr},us.length=ts.length→SAll (SlOk K F H σ) (us.map some++os) (ts.map qV++ss) A→∃A1 A2,A=A1++A2∧PtsOk K F H us ts A1∧SAll (SlOk K F H σ) os ss A2
  | [],[],os,ss,A,_,h=>⟨[],A,rfl,rfl,h⟩
  | u::us,t::ts,os,ss,A,hl,h=>by
    have h':SAll (SlOk K F H σ) (some u::(us.map some++os)) (qV t::(ts.map qV++ss)) A:=h
    cases h' with
    | cons q r=>
      obtain ⟨A1,A2,rfl,hp,hs⟩:=vD (by simpa using hl) r
      cases t with
      | fl d=>
        obtain ⟨rfl,w,ew,rw'⟩:=q
        cases ew
        exact ⟨A1,A2,rfl,⟨rw',hp⟩,hs⟩
      | ol ds=>
        obtain ⟨l,vs,el,rfl,hl',r'⟩:=q
        cases el
        exact ⟨l::A1,A2,rfl,⟨l,vs,A1,rfl,rfl,hl',r',hp⟩,hs⟩
  | [],_::_,_,_,_,e,_=>by cases e
  | _::_,[],_,_,_,e,_=>by cases e
theorem FrF.newx {p:Addr} {vs:List V} {ps:List Pt} (hl:vs.length=ps.length) (h:FrF K B F A σ H E (vs.reverse++xs) (ps.reverse.map qV++Xs)) (hp:H p=none):Frm K B σ (dg H p (.tup vs)) E (.ref p::xs) (.tx ps::Xs):=by
  have nA:=h.newA hp
  have sl:=h.sl
  rw [List.map_append,List.append_assoc,List.append_assoc] at sl
  obtain ⟨A1,A2,rfl,hpt,hs⟩:=vD (by simpa using hl) sl
  have g:Same H (dg H p (.tup vs)):=fM hp _
  have gF:Same F (dg F p (.tup vs)):=fM (h.fh.free hp) _
  have hr:=hpt.rev
  rw [List.reverse_reverse,List.reverse_reverse] at hr
  have n1:∀b∈A1,b≠p:=fun b hb z=>nA (by rw [←z];exact List.mem_append_left _ hb)
  have n2:∀b∈A2,b≠p:=fun b hb z=>nA (by rw [←z];exact List.mem_append_right _ hb)
  refine ⟨dg F p (.tup vs),A1.reverse++A2,h.bf.trans gF,fun b o e=>?_,fun b o e=>?_, .cons ⟨p,vs,rfl,bR,hr.stay gF fun b hb=>aK (n1 b (List.mem_reverse.mp hb))⟩ (hs.mono fun o s C _ hC q=>q.stay gF (fun b hb=>aK (n2 b (hC b hb))) fun _=>g),?_,fun a ha=>?_,?_,h.pl⟩
  · by_cases hb:b=p
    · subst hb;rw [bR] at e ⊢;exact e
    · rw [aK hb] at e ⊢;exact h.fh _ _ e
  · obtain ⟨e1,e2⟩:=Option.filter_eq_some_iff.mp e
    by_cases hb:b=p
    · subst hb;rw [bR] at e1 ⊢;exact e1
    · rw [aK hb] at e1 ⊢;exact h.tf b o (iN e1 e2)
  · exact (List.Perm.append_right _ (List.reverse_perm A1)).nodup_iff.mpr h.nd
  · have ne:a≠p:=(List.mem_append.mp ha).elim (fun z=>n1 a (List.mem_reverse.mp z)) (n2 a)
    rw [aK ne]
    exact h.fr a ((List.mem_append.mp ha).elim (fun z=>List.mem_append_left _ (List.mem_reverse.mp z)) (fun z=>List.mem_append_right _ z))
  · have:=h.len
    simp only [List.length_append,List.length_reverse,List.length_map] at this
    simp only [List.length_cons]
    lia
end
def takeP (E:List Sl):Sl→Option (Pt×List Sl)
  | .sh d=>some (.fl d,E)
  | .ow ds=>some (.ol ds,E)
  | .br d=>if cY d then some (.fl d,E) else none
  | .al i=>match E[i]? with
    | some (.ow ds)=>some (.ol ds,E.set i .no)
    | some (.sh d)=>some (.fl d,E)
    | _=>none
  | _=>none
abbrev zv:=List Sl→Option (List Pt×List Sl)
def Cw (K:PySem.W.Frag) (m:Bool) (f:zv):TA:=fun σ H Q=>∃B E xs Xs ps E',Frm K B σ H E xs Xs∧(m=true→Calm Xs)∧f E=some (ps,E')∧∀vs H',vs.length=ps.length→Frm K B σ H' E' (vs.reverse++xs) (ps.reverse.map qV++Xs)→Q vs H'
def MX (X:Cx) (es:List Expr) (m:Bool) (f:zv):Prop:=PA X es (Cw X.K m f)
def AZ:zv:=fun E=>some ([],E)
def vE (f:bE) (g:zv):zv:=fun E=>(f E).bind fun a=>(takeP a.2 a.1).bind fun b=>(g b.2).map fun c=>(b.1::c.1,c.2)
def yf (f:zv):bE:=fun E=>(f E).bind fun a=>if a.1.length≤1000000 then some (.tx a.1,a.2) else none
section
variable {X:Cx} {e:Expr} {es:List Expr} {m1 m2:Bool} {f:bE} {g:zv} {pos:Pos} {K:PySem.W.Frag}
theorem FrF.takeP {B F:Hp} {A:List Addr} {σ:jl} {H:Hp} {E E':List Sl} {xs:List V} {Xs:List Sl} {v:V} {s:Sl} {p:Pt} (h:FrF K B F A σ H E (v::xs) (s::Xs)) (q:PL.takeP E s=some (p,E')):Frm K B σ H E' (v::xs) (qV p::Xs):=by
  cases s with
  | sh d=>cases q;exact ⟨F,A,h⟩
  | ow ds=>cases q;exact ⟨F,A,h⟩
  | br d=>
    simp only [PL.takeP] at q
    split at q
    · rename_i hf
      cases q
      have r:=(h.look0 (d:=d) rfl).1
      obtain ⟨A',h'⟩:=h.pop
      exact ⟨F,A',h'.push ⟨rfl,v,rfl,h.cold r hf⟩⟩
    · cases q
  | al i=>
    simp only [PL.takeP] at q
    split at q
    · rename_i ds ei
      cases q
      exact h.move ei
    · rename_i d ei
      cases q
      obtain ⟨v',A1,ev,rfl,w,ew,hw⟩:=h.ext (k:=0) rfl
      cases ev;cases ew
      obtain ⟨o,A2,eo,rfl,w,ew,r⟩:=h.var ei
      rw [hw] at eo
      cases eo
      cases ew
      obtain ⟨A',h'⟩:=h.pop
      exact ⟨F,A',h'.push ⟨rfl,_,rfl,r⟩⟩
    · cases q
  | no=>cases q
  | od kvs=>cases q
  | tx ps=>cases q
theorem zw:MX X [] false AZ:=by
  refine jU fX fun σ H Q z=>?_
  obtain ⟨B,E,xs,Xs,res,E',fr,cl,e,q⟩:=z
  cases e
  exact q [] H rfl fr
theorem sD (ha:EX X e m1 f) (hr:MX X es m2 g) (hs:starEach (e::es) X.env=(false,eval e X.env)::starEach es X.env:=by rfl):MX X (e::es) (m1||m2) (vE f g):=by
  refine jU (dE ha hr hs) fun σ H Q z=>?_
  obtain ⟨B,E,xs,Xs,res,E',fr,cl,e,q⟩:=z
  obtain ⟨⟨s,E1⟩,e1,e⟩:=Option.bind_eq_some_iff.mp e
  obtain ⟨⟨p,E2⟩,e2,e⟩:=Option.bind_eq_some_iff.mp e
  obtain ⟨⟨rs,E3⟩,e3,e⟩:=Option.map_eq_some_iff.mp e
  cases e
  refine ⟨B,E,xs,Xs,s,E1,fr,fun z=>cl (by simp [z]),e1,fun v1 H1 ⟨F,A,fr1⟩=>?_⟩
  refine ⟨B,E2,v1::xs,qV p::Xs,rs,E3,fr1.takeP e2,fun z=>Calm.cons (cl (by simp [z])) (by cases p <;> rfl),e3,fun vs H2 hl fr2=>?_⟩
  exact q (v1::vs) H2 (by simp [hl]) (by simpa using fr2)
theorem xm {x1} (h:MX X es m1 g):EX X (.Tuple es x1 pos) m1 (yf g):=by
  refine bA (uW h) fun σ H Q z=>?_
  obtain ⟨B,E,xs,Xs,res,E',fr,cl,e,q⟩:=z
  obtain ⟨⟨ps,E1⟩,e1,e⟩:=Option.bind_eq_some_iff.mp e
  simp only at e
  split at e
  · rename_i hl
    cases e
    refine ⟨B,E,xs,Xs,ps,_,fr,cl,e1,fun vs H1 hv ⟨F,A,fr1⟩=>?_⟩
    exact ⟨gu (by lia),fun p hp=>q _ _ (fr1.newx hv hp)⟩
  · cases e
end
def B8:Pt→Bool
  | .fl _=>true
  | _=>false
def yg (f:bE):bE:=fun E=>(f E).bind fun a=>match a.1 with
  | .tx ps=>if ps.all B8 then some (.sh (.tuple (ps.map Pt.val)),a.2) else some a
  | _=>some a
theorem xn {X:Cx} {e:Expr} {m:Bool} {f:bE} (h:EX X e m f):EX X e m (yg f):=by
  refine bA h fun σ H Q z=>?_
  obtain ⟨B,E,xs,Xs,res,E',fr,cl,e,q⟩:=z
  obtain ⟨⟨s,E1⟩,e1,e⟩:=Option.bind_eq_some_iff.mp e
  refine ⟨B,E,xs,Xs,s,E1,fr,cl,e1,fun v H1 fr1=>?_⟩
  simp only at e
  split at e
  · split at e
    · cases e
      obtain ⟨F,A,fr1⟩:=fr1
      obtain ⟨F2,A2,fr2⟩:=fr1.frz0 (d:= .tuple _) rfl
      exact q _ _ ⟨F2,A2,fr2⟩
    · cases e
      exact q _ _ fr1
  · cases e
    exact q _ _ fr1
end PL
namespace PL
open PySem L2 Nh
def gM:List PyData→Option (List Bool)
  | []=>some []
  | .bool b::ds=>(gM ds).map (b:: ·)
  | _=>none
def xo:List PyData→Option PyData
  | [.list ds]=>(gM ds).map fun bs=> .bool (bs.any id)
  | _=>none
def xp:List PyData→Option PyData
  | [.list ds]=>(gM ds).map fun bs=> .bool (bs.all id)
  | _=>none
def lH (K:PySem.W.Frag) (f:List Bool→Bool):List V→Hp→VK→Prop:=fun xs H Q=>∃p bs,xs=[.ref p]∧SqL K H p (bs.map V.bl)∧Q (.bl (f bs)) H
theorem pH {K:PySem.W.Frag} {H:Hp}:∀{vs:List V} {ds:List PyData} {bs:List Bool},RpA K H vs ds→gM ds=some bs→vs=bs.map V.bl
  | _,_,bs, .nil,e=>by cases e;rfl
  | _,_,bs, .cons (d:=d) h t,e=>by
    cases d <;> simp [gM] at e
    obtain ⟨cs,e,rfl⟩:=e
    cases h
    rw [pH t e]
    rfl
theorem pI {K:PySem.W.Frag} {f:List Bool→Bool}:xc K (lH K f) (fun ds=>match ds with
  | [.list ds]=>(gM ds).map fun bs=> .bool (f bs)
  | _=>none):=fun ds d vs H Q e r=>by
  simp only at e
  split at e
  · obtain ⟨bs,eb,rfl⟩:=Option.map_eq_some_iff.mp e
    obtain ⟨v,rfl,r1⟩:=r.one
    cases r1 with
    | lst h1 h2=>
      have:=pH h2 eb
      subst this
      exact ⟨_,rfl,fun q=>⟨_,bs,rfl,h1,q⟩⟩
  · cases e
theorem mT:∀bs:List Bool,(List.range bs.length).any (fun i=>bs.getD i false)=bs.any id
  | []=>rfl
  | b::bs=>by
    rw [List.length_cons,List.range_succ_eq_map,List.any_cons,List.any_map,List.any_cons,←mT bs]
    rfl
theorem mU:∀bs:List Bool,(List.range bs.length).all (fun i=>bs.getD i false)=bs.all id
  | []=>rfl
  | b::bs=>by
    rw [List.length_cons,List.range_succ_eq_map,List.all_cons,List.all_map,List.all_cons,←mU bs]
    rfl
section
variable {X:Cx} {e:Expr} {es:List Expr} {m1:Bool} {g:nP} {p pos:Pos}
theorem jc:∀{bs:List Bool} {us:List Value},Vals (bs.map V.bl) us→us=bs.map Value.bool
  | [],_, .nil=>rfl
  | b::bs,_, .cons h t=>by cases h;rw [jc t];rfl
theorem sE {bs:List Bool} {i:Nat} {v:Value} (h:(bs.map Value.bool).toArray[i]? =some v):v= .bool (bs.getD i false):=by
  rw [List.getElem?_toArray,List.getElem?_map] at h
  obtain ⟨b,e,rfl⟩:=Option.map_eq_some_iff.mp h
  rw [List.getD_eq_getElem?_getD,e]
  rfl
theorem tY (hc:X.calm=true):CallR X (.builtin "any") (lH X.K fun bs=>bs.any id):=by
  intro pins s σ H xs us Q I r h
  obtain ⟨a,bs,rfl,hq,q⟩:=h
  cases r with
  | cons r rr=>
    cases rr
    cases r
    obtain ⟨its,rv,pl,hz⟩:=I.list hq
    have:=jc rv
    subst this
    obtain ⟨o,n,eo,_⟩:=id pl
    have hlt:a < s.heap.objs.size:=Heap.lt_size eo
    refine call_any_walk (wpAny_pyIter_list pl.isList ?_)
    refine ⟨s.heap.objs.size,_,_,_,_,_,fun i=>bs.getD i false,rfl,Walks.list (A:=X.A.in1) (I.ok.hd hc) s.heap.objs.size a (Nat.ne_of_lt hlt) (bs.map Value.bool).toArray,?_,?_,?_⟩
    · exact ⟨⟨_,Heap.get?_push_size _ rfl,rfl,rfl⟩,pl.isList.at fun o e=>Heap.get?_push_of_some _ e⟩
    · intro i v s Q E hv hQ
      rw [sE hv]
      exact wpAny_truthy_bool hQ
    · intro h' tk hk
      refine ⟨.bl _,H,I.kept (t':=tk) fun b o e=>hk b o (fun z=>?_) (Heap.get?_push_of_some _ e),rfl,?_⟩
      · have:b=s.heap.objs.size:=by simpa using z
        exact Nat.lt_irrefl _ (this▸Heap.lt_size e)
      · rw [show ((bs.map Value.bool).toArray).size=bs.length by simp,mT]
        exact q
theorem tZ (hc:X.calm=true):CallR X (.builtin "all") (lH X.K fun bs=>bs.all id):=by
  intro pins s σ H xs us Q I r h
  obtain ⟨a,bs,rfl,hq,q⟩:=h
  cases r with
  | cons r rr=>
    cases rr
    cases r
    obtain ⟨its,rv,pl,hz⟩:=I.list hq
    have:=jc rv
    subst this
    obtain ⟨o,n,eo,_⟩:=id pl
    have hlt:a < s.heap.objs.size:=Heap.lt_size eo
    refine call_all_walk (wpAny_pyIter_list pl.isList ?_)
    refine ⟨s.heap.objs.size,_,_,_,_,_,fun i=>bs.getD i false,rfl,Walks.list (A:=X.A.in1) (I.ok.hd hc) s.heap.objs.size a (Nat.ne_of_lt hlt) (bs.map Value.bool).toArray,?_,?_,?_⟩
    · exact ⟨⟨_,Heap.get?_push_size _ rfl,rfl,rfl⟩,pl.isList.at fun o e=>Heap.get?_push_of_some _ e⟩
    · intro i v s Q E hv hQ
      rw [sE hv]
      exact wpAny_truthy_bool hQ
    · intro h' tk hk
      refine ⟨.bl _,H,I.kept (t':=tk) fun b o e=>hk b o (fun z=>?_) (Heap.get?_push_of_some _ e),rfl,?_⟩
      · have:b=s.heap.objs.size:=by simpa using z
        exact Nat.lt_irrefl _ (this▸Heap.lt_size e)
      · rw [show ((bs.map Value.bool).toArray).size=bs.length by simp,mU]
        exact q
theorem zz (hc:X.calm=true) (hg:Gl X "any") (hm:X.mg "any"=none) (ha:AX X [e] m1 g) (he:starEach [e] X.env=[(false,eval e X.env)]:=by rfl):EX X (.Call (.Name "any" p) [e] [] pos) m1 (bI xo g):=ly (r:=lH X.K fun bs=>bs.any id) pI (tY hc) hg hm PyProof.Rows.boot_any ha (by decide) (by decide) he rfl
theorem zA (hc:X.calm=true) (hg:Gl X "all") (hm:X.mg "all"=none) (ha:AX X [e] m1 g) (he:starEach [e] X.env=[(false,eval e X.env)]:=by rfl):EX X (.Call (.Name "all" p) [e] [] pos) m1 (bI xp g):=ly (r:=lH X.K fun bs=>bs.all id) pI (tZ hc) hg hm PyProof.Rows.boot_all ha (by decide) (by decide) he rfl
theorem iL:∀{ns:List Int} {us:List Value},Vals (ns.map V.int) us→us.length=ns.length∧∀(i:Nat) (v:Value),us[i]? =some v→∃t,v=Value.int (ns.getD i 0) t
  | [],_, .nil=>⟨rfl,fun i v h=>by simp at h⟩
  | n::ns,_, .cons h t=>by
    obtain ⟨tk,rfl⟩:=h
    obtain ⟨h1,h2⟩:=iL t
    refine ⟨by simp [h1],fun i v h=>?_⟩
    cases i with
    | zero=>simp at h;subst h;exact ⟨tk,rfl⟩
    | succ i=>simpa using h2 i v (by simpa using h)
end
end PL
namespace PL
open PySem L2 Nh
def oQ (a b:Str):Bool:=decide (a.cps.toList≤b.cps.toList)
def kA (ss:List Str):List Str:=ss.mergeSort oQ
theorem j0 (a b c:Str) (h:oQ a b=true) (k:oQ b c=true):oQ a c=true:=decide_eq_true (List.le_trans (of_decide_eq_true h) (of_decide_eq_true k))
theorem mV (a b:Str):(oQ a b||oQ b a)=true:=by
  rcases List.le_total a.cps.toList b.cps.toList with h | h
  · simp [oQ,h]
  · simp [oQ,h]
theorem pJ {a b:Str} (h:oQ a b=true) (k:oQ b a=true):a=b:=by
  have e:=List.le_antisymm (of_decide_eq_true h) (of_decide_eq_true k)
  cases a;cases b
  simp only at e
  rw [Array.toList_inj.mp e]
theorem mW:∀(p:Str) (l:List Str),PyProof.Rows.risingS p l=true→(p::l).Pairwise (fun a b=>oQ a b=true)
  | p,[],_=>by simp
  | p,x::r,h=>by
    have h':(!PySem.Spec.ltCps x.cps.toList p.cps.toList&&PyProof.Rows.risingS x r)=true:=h
    rw [Bool.and_eq_true,PyProof.Rows.ltCps_eq] at h'
    have ih:=mW x r h'.2
    have hpx:oQ p x=true:=by
      have:=h'.1
      simp only [Bool.not_eq_true',decide_eq_false_iff_not] at this
      exact decide_eq_true this
    refine List.pairwise_cons.mpr ⟨fun y hy=>?_,ih⟩
    rcases List.mem_cons.mp hy with rfl | hy
    · exact hpx
    · exact j0 p x y hpx ((List.pairwise_cons.mp ih).1 y hy)
theorem t5:∀l:List Str,PyProof.Rows.sortedS l=true→l.Pairwise (fun a b=>oQ a b=true)
  | [],_=>List.Pairwise.nil
  | x::r,h=>mW x r h
theorem qW {a b:List Str} (p:a.Perm b) (h:PyProof.Rows.sortedS a=true):a=kA b:=
  List.Perm.eq_of_pairwise (fun _ _ _ _ h k=>pJ h k) (t5 a h) (List.pairwise_mergeSort j0 mV b) (p.trans (List.mergeSort_perm b oQ).symm)
theorem mX (ss:List Str):(kA ss).length=ss.length:=(List.mergeSort_perm ss oQ).length_eq
section
variable {X:Cx} {e:Expr} {m1:Bool} {f:bE} {p pos:Pos}
theorem pK:∀{ss:List Str} {us:List Value},Vals (ss.map V.str) us→PyProof.Rows.StrsAre us ss
  | [],_, .nil=> .nil
  | s::ss,_, .cons h t=>by obtain ⟨tk,rfl⟩:=h;exact .cons _ _ (pK t)
theorem pL:∀{ss:List Str} {us:List Value},PyProof.Rows.StrsAre us ss→Vals (ss.map V.str) us
  | [],_, .nil=> .nil
  | _::_,_, .cons y t h=> .cons ⟨t,rfl⟩ (pL h)
def ju:List PyData→Option (List Str)
  | []=>some []
  | .str x::ds=>(ju ds).map (x:: ·)
  | _=>none
theorem kO {K:PySem.W.Frag} {H:Hp}:∀{vs:List V} {ds:List PyData} {bs:List Str},RpA K H vs ds→ju ds=some bs→vs=bs.map V.str
  | _,_,bs, .nil,e=>by cases e;rfl
  | _,_,bs, .cons (d:=d) h t,e=>by
    cases d <;> simp [ju] at e
    obtain ⟨cs,e,rfl⟩:=e
    cases h
    rw [kO t e]
    rfl
theorem iD {K:PySem.W.Frag} {H:Hp}:∀ss:List Str,RpA K H (ss.map V.str) (ss.map PyData.str)
  | []=> .nil
  | s::ss=> .cons (.str s) (iD ss)
end
end PL
namespace PL
open PySem L2 Nh
def wo (ks:List Str) (x:Str):List Str:=if x∈ks then ks else ks++[x]
def io (ss:List Str):List Str:=ss.foldl wo []
def jv (x:Str):List Str:=x.cps.toList.map fun c=>⟨#[c]⟩
def dI (g:bE):bE:=fun E=>(g E).bind fun a=>match look a.2 a.1 with
  | some (.list ds)=>(ju ds).bind fun ss=>if ss.length < 4000∧(io ss).length < 64 then some (.ow ((kA (io ss)).map .str),a.2) else none
  | some (.str x)=>if (jv x).length < 4000∧(io (jv x)).length < 64 then some (.ow ((kA (io (jv x))).map .str),a.2) else none
  | _=>none
end PL
namespace NhSet
open PySem PyProof.Rows
structure SS (w:World) (b:Bool) (ks:List Str) (es:Array (Int×Value)) (t:SetTable):Prop where
  perm:(es.toList.map (fun e=>strOf e.2)).Perm ks
  elems:∀e∈es.toList,∃x tk,e=(hashStr w x,Value.str x tk)
  bound:es.size < scanBound
  fits:t.fits es.size=true
  led:t.led=b
  plain:es.size≠0→t.plain=false
abbrev cJ (es:Array (Int×Value)) (ep:Nat) (t:SetTable):Obj:={cls:= .type "set",dict:=none,data:= .set es ep t}
def StrSet (w:World) (h:Heap) (a:Addr) (b:Bool) (ks:List Str):Prop:=∃es ep t,h.get? a=some (cJ es ep t)∧SS w b ks es t
theorem StrSet.at' {w:World} {h h':Heap} {a:Addr} {b:Bool} {ks:List Str} (S:StrSet w h a b ks) (e:∀o,h.get? a=some o→h'.get? a=some o):StrSet w h' a b ks:=
  let ⟨es,ep,t,ho,r⟩:=S;⟨es,ep,t,e _ ho,r⟩
theorem StrSet.obj {w:World} {h:Heap} {a:Addr} {b:Bool} {ks:List Str} (S:StrSet w h a b ks):∃o,h.get? a=some o:=let ⟨_,_,_,ho,_⟩:=S;⟨_,ho⟩
theorem SS.elemsOf {prog:Program} {w:World} {b:Bool} {ks:List Str} {es:Array (Int×Value)} {t:SetTable} (S:SS w b ks es t):ElemsOf (strKind prog w) es.toList:=fun e he=>by
  obtain ⟨x,tk,rfl⟩:=S.elems e he
  exact ⟨⟨x,by simp [PySem.strKind,Value.isStrOf],rfl⟩,rfl⟩
theorem SS.len {w:World} {b:Bool} {ks:List Str} {es:Array (Int×Value)} {t:SetTable} (S:SS w b ks es t):es.size=ks.length:=by
  have:=S.perm.length_eq;simpa using this
theorem SS.mem {w:World} {b:Bool} {ks:List Str} {es:Array (Int×Value)} {t:SetTable} (S:SS w b ks es t) (x:Str):x∈ks↔∃e∈es.toList,Value.isStrOf x e.2=true:=by
  rw [←S.perm.mem_iff,List.mem_map]
  constructor
  · rintro ⟨e,he,rfl⟩
    obtain ⟨y,tk,rfl⟩:=S.elems e he
    exact ⟨_,he,by simp [Value.isStrOf,strOf]⟩
  · rintro ⟨e,he,hx⟩
    obtain ⟨y,tk,rfl⟩:=S.elems e he
    have:y=x:=by simpa [Value.isStrOf] using hx
    exact ⟨_,he,by simp [strOf,this]⟩
theorem SetTable.orStandIn_led (t:SetTable) (n:Nat):(t.orStandIn n).led=t.led:=by
  unfold SetTable.orStandIn;split <;> rfl
theorem qX (t:SetTable) (es:Array (Int×Value)) (h:Int) (x:Value):(layNew t es h x).2.1.led=t.led:=by
  unfold layNew
  split
  · exact SetTable.orStandIn_led _ _
  · rfl
theorem qY {mask finger moves:Nat} {led plain:Bool} {hashes:Array Int} {t':SetTable} {order:Array Nat} (h:SetTable.laid mask finger moves led plain hashes=some (t',order)):t'.led=led∧t'.plain=plain:=by
  unfold SetTable.laid at h
  cases hc:SetTable.layClean mask hashes with
  | none=>rw [hc] at h;simp at h
  | some ow=>rw [hc] at h;simp at h;rw [←h.1];exact ⟨rfl,rfl⟩
theorem lI (t:SetTable) (es:Array (Int×Value)) (wanted:Nat) (hp:t.plain=false):(relayAll t es wanted).2.1.led=t.led∧(relayAll t es wanted).2.1.plain=false:=by
  unfold relayAll
  split
  · rename_i t' order hr
    dsimp only
    split
    · have:=qY hr
      exact ⟨this.1,this.2.trans hp⟩
    · exact ⟨rfl,rfl⟩
  · exact ⟨rfl,rfl⟩
section
variable {prog:Program} {w:World} {A:Around} {E:Value→Shared→Prop} {s:Shared}
theorem mh (es es':Array (Int×Value)) (ep:Nat) (t t':SetTable):Obj.putSet es' t' (cJ es ep t)=cJ es' (ep+1) t':=rfl
theorem pM {h:Heap} {a:Addr} {es es':Array (Int×Value)} {ep:Nat} {t t':SetTable} (ho:h.get? a=some (cJ es ep t)):(h.update a (Obj.putSet es' t')).get? a=some (cJ es' (ep+1) t'):=
  Heap.get?_update_self (Obj.putSet es' t') ho (by rw [mh];rfl)
theorem sG {g:Bool→Sem Unit} (hg:∀(b:Bool) (s₁:Shared) (Q':Unit→Shared→Prop),Q' () s₁→wpAny (model prog w) A (g b) Q' E s₁)
    {a:Addr} {es:Array (Int×Value)} {ep:Nat} {t:SetTable} (ho:s.heap.get? a=some (cJ es ep t))
    {es1:Array (Int×Value)} {t2:SetTable} {b:Bool} {ks:List Str} (S:SS w b ks es1 t2) (hp:t2.plain=false) {wasDummy:Bool} {R:Option Bool→Shared→Prop}
    (h:∀h',Heap.SameBut a s.heap h'→StrSet w h' a b ks→R (some true) {s with heap:=h'}):
    wpAny (model prog w) A (do
        storeSet a es1 t2
        if (!wasDummy&&t2.tooFull)=true then do
            g (relayAll t2 es1 (SetTable.grown es1.size)).2.2
            storeSet a (relayAll t2 es1 (SetTable.grown es1.size)).1 (relayAll t2 es1 (SetTable.grown es1.size)).2.1
            pure (some true)
          else pure (some true)) R E s:=by
  refine wpAny_bind (wpAny_storeSet_of ho rfl ?_ (fits_of_scanBound S.bound))
  have ho1:=pM (es':=es1) (t':=t2) ho
  have hsb1:=Heap.SameBut.update s.heap a (Obj.putSet es1 t2)
  split
  · have hpm:=relayAll_perm t2 es1 (SetTable.grown es1.size)
    have hfr:=relayAll_fits t2 es1 (SetTable.grown es1.size)
    have hmk:=lI t2 es1 (SetTable.grown es1.size) hp
    generalize hRl:relayAll t2 es1 (SetTable.grown es1.size)=Rl at hpm hfr hmk ⊢
    obtain ⟨es2,t3,gave2⟩:=Rl
    dsimp only at hpm hfr hmk ⊢
    have hsz:es2.size=es1.size:=by rw [←Array.length_toList,hpm.length_eq,Array.length_toList]
    have hb2:es2.size < scanBound:=by rw [hsz];exact S.bound
    have S2:SS w b ks es2 t3:=⟨(hpm.map _).trans S.perm,fun e he=>S.elems e (hpm.mem_iff.mp he),hb2,hfr,hmk.1.trans S.led,fun _=>hmk.2⟩
    refine wpAny_bind (hg _ _ _ ?_)
    refine wpAny_bind (wpAny_storeSet_of ho1 rfl ?_ (fits_of_scanBound hb2))
    exact wpAny_pure (h _ (hsb1.trans (Heap.SameBut.update _ a _)) ⟨es2,_,t3,pM ho1,S2⟩)
  · exact wpAny_pure (h _ hsb1 ⟨es1,_,t2,ho1,S⟩)
def kI (ks:List Str) (x:Str):List Str:=if x∈ks then ks else ks++[x]
theorem j4 {a:Addr} {b:Bool} {ks:List Str} {x:Str} {tk:Tok} {Q:Bool→Shared→Prop} (hS:StrSet w s.heap a b ks) (hroom:ks.length+1 < scanBound)
    (h:∀(r:Bool) h',Heap.SameBut a s.heap h'→StrSet w h' a b (kI ks x)→Q r {s with heap:=h'}):
    wpAny (model prog w) A (setAddHashed a (.str x tk) (hashStr w x)) Q E s:=by
  obtain ⟨es,ep,t,ho,S⟩:=hS
  have hb1:es.size+1 < scanBound:=by rw [S.len];exact hroom
  have hel:=S.elemsOf (prog:=prog)
  have hkey:(strKind prog w).is x (.str x tk)=true:=by simp [PySem.strKind,Value.isStrOf]
  unfold setAddHashed setAddHashedIn
  refine wpAny_holding (wpAny_bind (wpAny_setState_of ho rfl S.fits ?_))
  dsimp only
  rw [byScan_of (knd:=strKind prog w) (x:= .str x tk) rfl S.bound hel]
  simp only [↓reduceIte]
  unfold setAddByScan
  refine wpAny_bind ?_
  refine wpAny_bind (wpAny_rule ?_)
  refine wpAny_bind (wpAny_setScan_of (knd:=strKind prog w) hkey ho rfl S.fits hel ?_)
  cases hr:List.findIdx? (fun e=>(strKind prog w).is x e.2) es.toList with
  | some j=>
    dsimp only
    obtain ⟨hj,hpj,_⟩:=List.findIdx?_eq_some_iff_getElem.mp hr
    have hk:x∈ks:=(S.mem x).mpr ⟨es.toList[j],List.getElem_mem hj,hpj⟩
    refine wpAny_pure (wpAny_pure ?_)
    have e:s={s with heap:=s.heap}:=by cases s;rfl
    rw [e]
    exact h _ s.heap (Heap.SameBut.refl a s.heap) (by rw [kI,if_pos hk];exact ⟨es,ep,t,ho,S⟩)
  | none=>
    dsimp only
    have hk:x∉ks:=fun hk=>by
      obtain ⟨e,he,hp⟩:=(S.mem x).mp hk
      have:=List.findIdx?_eq_none_iff.mp hr e he
      rw [show (strKind prog w).is x e.2=true from hp] at this;exact Bool.noConfusion this
    have hgw:∀(b:Bool) {s₁:Shared} {Q':Unit→Shared→Prop},Q' () s₁→wpAny (model prog w) A (match b with | true=>rule "set.scan.the-table-gave-way" | false=>pure ()) Q' E s₁:=
      fun b s₁ Q' hq=>by cases b <;> first | exact wpAny_pure hq | exact wpAny_rule hq
    have hperm:=layNew_perm t es (hashStr w x) (.str x tk)
    have hfits:=layNew_fits t es (hashStr w x) (.str x tk)
    have hled:=qX t es (hashStr w x) (.str x tk)
    generalize hL:layNew t es (hashStr w x) (.str x tk)=L at hperm hfits hled ⊢
    obtain ⟨es1,t1,wasDummy,gave⟩:=L
    dsimp only at hperm hfits hled ⊢
    rw [Array.toList_push] at hperm
    have hb1':es1.size < scanBound:=by rw [←Array.length_toList,hperm.length_eq,List.length_append,Array.length_toList];simpa using hb1
    have hpm:(es1.toList.map (fun e=>strOf e.2)).Perm (ks++[x]):=(hperm.map _).trans (by rw [List.map_append];exact S.perm.append_right _)
    have hel1:∀e∈es1.toList,∃x tk,e=(hashStr w x,Value.str x tk):=fun e he=>by
      rcases List.mem_append.mp (hperm.mem_iff.mp he) with z | z
      · exact S.elems e z
      · exact ⟨x,tk,List.mem_singleton.mp z⟩
    refine wpAny_bind (hgw _ ?_)
    split
    · refine wpAny_bind ?_
      rw [hashByValue_scannable 8 (x:= .str x tk) rfl]
      refine wpAny_pure ?_
      simp only [plainKind,Bool.false_eq_true,↓reduceIte]
      refine sG ?_ ho (t2:={t1 with plain:=false}) (ks:=kI ks x) (b:=b) ⟨by rw [kI,if_neg hk];exact hpm,hel1,hb1',SetTable.fits_plain_off hfits,hled.trans S.led,fun _=>rfl⟩ rfl ?_
      · intro b s₁ Q' hq;cases b <;> first | exact wpAny_pure hq | exact wpAny_rule hq
      · intro h' hsb hS';dsimp only;exact wpAny_pure (h _ h' hsb hS')
    · rename_i hpl
      refine wpAny_bind (wpAny_pure ?_)
      simp only [↓reduceIte]
      have hpl':t1.plain=false:=by simpa using hpl
      refine sG ?_ ho (ks:=kI ks x) (b:=b) ⟨by rw [kI,if_neg hk];exact hpm,hel1,hb1',hfits,hled.trans S.led,fun _=>hpl'⟩ hpl' ?_
      · intro b s₁ Q' hq;cases b <;> first | exact wpAny_pure hq | exact wpAny_rule hq
      · intro h' hsb hS';dsimp only;exact wpAny_pure (h _ h' hsb hS')
end
def jd (val:Nat→Str) (i:Nat):List Str:=((List.range i).map val).foldl kI []
theorem mY (val:Nat→Str) (i:Nat):jd val (i+1)=kI (jd val i) (val i):=by
  unfold jd;rw [List.range_succ,List.map_append,List.foldl_append];rfl
theorem vF (ks:List Str) (x:Str):(kI ks x).length≤ks.length+1:=by
  unfold kI;split
  · exact Nat.le_add_right _ _
  · simp
theorem pN (val:Nat→Str):∀i,(jd val i).length≤i
  | 0=>Nat.le_refl _
  | i+1=>by rw [mY];have:=pN val i;have:=vF (jd val i) (val i);lia
section
variable {prog:Program} {w:World} {A:Around} {R:Result→Shared→Prop} {I:Addr} {fp wr:List Addr} {G:Array GenState→Array GenState→Prop} {n:Nat} {P:Nat→Value→Prop} {St:Nat→Shared→Prop}
theorem kB (W:WalksS prog w A.in1 I fp wr G n P St) (S:Addr) (hSf:S∉fp) (b:Bool)
    (val:Nat→Str) (hval:∀i v,P i v→∃t,v= .str (val i) t) (hb:n+1 < scanBound):
    ∀(k i:Nat) (s:Shared),n - i=k→i≤n→St i s→StrSet w s.heap S b (jd val i)→
      (∀s',Moved (S::wr) G s s'→StrSet w s'.heap S b (jd val n)→R (.ok (.ret .none)) s')→
      codeAny (model prog w) A (.builtin "set.update.loop" ⟨[.ref S, .ref I],[]⟩) R s:=by
  have hSw:S∉wr:=fun h=>hSf (W.sub _ h)
  have hsub:∀b∈wr,b∈S::wr:=fun b hb=>List.mem_cons_of_mem _ hb
  intro k
  induction k with
  | zero=>
    intro i s hk hi hst hS hR
    have hin:i=n:=by lia
    subst hin
    refine codeAny_builtin PyProof.Rows.F.entry_set_update_loop ?_
    rw [Around.under_plainId PyProof.Rows.F.plain_set_update_loop _]
    show wpAny _ A.in1 (pyNext (.ref I) >>= _) _ _ s
    refine wpAny_bind (W.done s _ _ hst fun s' hm=>?_)
    show wpAny _ A.in1 (ret Value.none) _ _ s'
    exact wpAny_pure (hR s' (hm.mono hsub) (hS.at' fun o e=>hm.heap S o hSw e))
  | succ k ih=>
    intro i s hk hi hst hS hR
    have hlt:i < n:=by lia
    refine codeAny_builtin PyProof.Rows.F.entry_set_update_loop ?_
    rw [Around.under_plainId PyProof.Rows.F.plain_set_update_loop _]
    show wpAny _ A.in1 (pyNext (.ref I) >>= _) _ _ s
    refine wpAny_bind (W.item i s _ _ hlt hst fun v s' hP hst' hm=>?_)
    obtain ⟨t,rfl⟩:=hval i v hP
    have hS':StrSet w s'.heap S b (jd val i):=hS.at' fun o e=>hm.heap S o hSw e
    show wpAny _ A.in1 (holding [Value.str (val i) t] (setAdd S (.str (val i) t)) >>= _) _ _ s'
    refine wpAny_bind (wpAny_holding ?_)
    unfold setAdd
    refine wpAny_holding ?_
    refine wpAny_bind (wpAny_pyHash_str ?_)
    have hroom:(jd val i).length+1 < scanBound:=by have:=pN val i;lia
    refine j4 (s:={s' with toks:=s'.toks+1}) hS' hroom fun r h' hsb hS2=>?_
    refine wpAny_pure ⟨plainId_quiet PyProof.Rows.F.plain_set_update_loop _,ih (i+1) _ (by lia) hlt (W.frame _ s' _ _ hst' (Nat.le_succ _) fun b hb o e=>?_) (by rw [mY];exact hS2) fun s'' hm'' hS''=>?_⟩
    · rw [hsb.2 b (fun h:b=S=>hSf (by rw [←h];exact hb))];exact e
    · refine hR s'' (Moved.trans W.gtrans ((hm.mono hsub).then_heap (Nat.le_succ _) fun b o hb e=>?_) hm'') hS''
      rw [hsb.2 b (fun h:b=S=>hb (by rw [h];exact List.mem_cons_self))];exact e
end
theorem jw (w:World) (led:Bool):SS w led [] #[] (.fresh 0 0 led):=⟨by simp,fun e he=>by simp at he,by decide,by rfl,rfl,fun h=>absurd rfl h⟩
def iZ (w:World):Bool:= !w.params.followText "set-order"
section
variable {prog:Program} {w:World} {A:Around} {E:Value→Shared→Prop} {s:Shared}
theorem pO (a:Value) {Q₁:Value→Shared→Prop}
    (h:Q₁ (.ref s.heap.objs.size) {s with heap:=s.heap.push (cJ #[] 0 (.fresh 0 0 (iZ w)))}):
    codeAny (model prog w) A (.call (.builtin "set.__new__") ⟨[.type "set",a],[]⟩) (wants Q₁ E) s:=by
  refine codeAny_of_tree ?_
  show wpAny _ A.in1 (do checkBuiltinCall "set.__new__" ⟨[.type "set",a],[]⟩;again (.builtin "set.__new__" ⟨[.type "set",a],[]⟩)) _ _ s
  refine wpAny_bind (wpAny_of_eq (PySem.F.newCall_set_1 a) (wpAny_pure ⟨plainId_quiet PySem.F.plain_set_new _,codeAny_builtin PySem.F.entry_set_new ?_⟩))
  rw [Around.under_plainId PySem.F.plain_set_new _]
  unfold Builtin.«set.__new__» Builtin.Frozenset.newClass
  have hsub:=sub_set_self
  obtain ⟨hp,g,d,tk,os⟩:=s
  dsimp only
  wp_walk
  refine wpAny_askSetting (wpAny_pure ?_)
  dsimp only
  simp only [newObj]
  refine wpAny_bind (wpAny_alloc (wpAny_pure ?_))
  exact wpAny_pure h
end
end NhSet
namespace NhSet
open PySem PyProof.Rows
namespace F
theorem pP:isSubtype (.type "str") (.type "set")=pure false:=by rw [isSubtype_type];kernel_rfl
theorem jx:isSubtype (.type "str") (.type "frozenset")=pure false:=by rw [isSubtype_type];kernel_rfl
end F
section
variable {prog:Program} {w:World} {A:Around} {E:Value→Shared→Prop} {s:Shared}
theorem sH:∀{vs:List Value} {ns:List Str},StrsAre vs ns→∀(i:Nat) (v:Value),vs[i]? =some v→∃t,v= .str (ns.getD i ⟨#[]⟩) t
  | _,_, .nil,i,v,h=>by simp at h
  | _,_, .cons n t hr,0,v,h=>by simp at h;exact ⟨t,by rw [←h];rfl⟩
  | _,_, .cons n t hr,i+1,v,h=>by
    simp only [List.getElem?_cons_succ] at h
    obtain ⟨t',e⟩:=sH hr i v h
    exact ⟨t',by rw [e];rfl⟩
set_option maxHeartbeats 4000000 in
theorem t6 {l:Addr} {items:Array Value} {ns:List Str} {Q:Value→Shared→Prop}
    (hh:A.handled=none) (hl:s.heap.IsList l items) (hi:StrsAre items.toList ns) (hb:items.size+1 < scanBound)
    (h:∀(h':Heap) (tk:Nat),StrSet w h' s.heap.objs.size (iZ w) (jd (fun i=>ns.getD i ⟨#[]⟩) items.size)→
      (∀b o,b < s.heap.objs.size→s.heap.get? b=some o→h'.get? b=some o)→Q (.ref s.heap.objs.size) {s with heap:=h',toks:=tk}):
    wpAny (model prog w) A (call (.type "set") [.ref l]) Q E s:=by
  obtain ⟨c,tl,hmro⟩:=PySem.F.called_set.mro
  have hmade:=PySem.F.called_set.made
  have hsub:=PySem.F.called_set.sub
  refine wpAny_call (codeAny_of_tree ?_)
  show wpAny _ _ (callAny (.type "set") _) _ _ _
  refine wpAny_pure ⟨Code.quiet_builtin _ (by decide+kernel),codeAny_builtin PySem.F.entry_type_call ?_⟩
  rw [Around.under_plain (weight_type_call_type "set" [.ref l] []) rfl]
  have h1:=PySem.F.called_set.notType
  have h2:=PySem.F.called_set.canCreate
  have hct:=PySem.F.typeCall_set_1 (.ref l)
  repeat (any_goals (first | assumption | wp_step))
  generalize hled:iZ w=led at h
  refine codeAny_mono (pO (w:=w) (.ref l) (E:=E) (Q₁:=fun obj s₁=>obj= .ref s.heap.objs.size∧s₁={s with heap:=s.heap.push {cls:= .type "set",dict:=none,data:= .set #[] 0 (.fresh 0 0 led)}}) (by rw [hled];exact ⟨rfl,rfl⟩)) fun r s₁ hr=>?_
  cases r with
  | error e=>exact hr
  | ok fl=>
    cases fl with
    | ret obj=>
      obtain ⟨rfl,rfl⟩:=hr
      have hS:(s.heap.push {cls:= .type "set",dict:=none,data:= .set #[] 0 (.fresh 0 0 led)}).get? s.heap.objs.size=some {cls:= .type "set",dict:=none,data:= .set #[] 0 (.fresh 0 0 led)}:=Heap.get?_push_size _ rfl
      have hT:Shared.TypeIs {s with heap:=s.heap.push {cls:= .type "set",dict:=none,data:= .set #[] 0 (.fresh 0 0 led)}} (.ref s.heap.objs.size) "set":=⟨_,hS,rfl⟩
      have hli:=PySem.F.called_set.init.lookup
      have hbi:=PySem.F.called_set.init.bind (.ref s.heap.objs.size)
      repeat (any_goals (first | assumption | wp_step))
      refine codeAny_mono (codeAny_call_builtin (R:=wants (fun r s₂=>r= .none∧∃h' tk,s₂={s with heap:=h',toks:=tk}∧
          StrSet w h' s.heap.objs.size led (jd (fun i=>ns.getD i ⟨#[]⟩) items.size)∧
          (∀b o,b < s.heap.objs.size→s.heap.get? b=some o→h'.get? b=some o)) E) PySem.F.called_set.init.plain PySem.F.entry_set_init (check_set_init_1 hT ?_)) fun r₂ s₂ hr₂=>?_
      · obtain ⟨ol,hol,hcl,nl,hdl⟩:=hl
        obtain ⟨ocls,odict,odata,oslots⟩:=ol
        simp only at hcl hdl
        subst hcl;subst hdl
        have hol':(s.heap.push {cls:= .type "set",dict:=none,data:= .set #[] 0 (.fresh 0 0 led)}).get? l=some {cls:= .type "list",dict:=odict,data:= .seq items nl,slots:=oslots}:=Heap.get?_push_of_some _ hol
        have hsls:=PySem.F.sub_list_set
        have hslf:=PySem.F.sub_list_frozenset
        have hne:(Value.type "list" == Value.type "dict")=false:=by decide
        have hl1:(s.heap.push {cls:= .type "set",dict:=none,data:= .set #[] 0 (.fresh 0 0 led)}).IsList l items:=⟨_,hol',rfl,nl,rfl⟩
        unfold Builtin.«set.__init__» noKeywords Builtin.Frozenset.updateFrom
        generalize hPI:pyIter=PI
        wp_walk
        subst hPI
        refine wpAny_pyIter_list hl1 ?_
        refine wpAny_bind (wpAny_runValue ?_)
        have hlS:l < s.heap.objs.size:=Heap.lt_size hol
        have hh3:A.in1.in1.in1.handled=none:=by simp [hh]
        have hneI:l≠(s.heap.push {cls:= .type "set",dict:=none,data:= .set #[] 0 (.fresh 0 0 led)}).objs.size:=by
          rw [Heap.size_push];exact Nat.ne_of_lt (Nat.lt_succ_of_lt hlS)
        have hSf:s.heap.objs.size∉[(s.heap.push {cls:= .type "set",dict:=none,data:= .set #[] 0 (.fresh 0 0 led)}).objs.size,l]:=by
          rw [Heap.size_push];simp only [List.mem_cons,List.mem_singleton,List.not_mem_nil,or_false,not_or]
          exact ⟨Nat.ne_of_lt (Nat.lt_succ_self _),Nat.ne_of_gt hlS⟩
        have hval:∀(i:Nat) (v:Value),items[i]? =some v→∃t,v= .str ((fun i=>ns.getD i ⟨#[]⟩) i) t:=fun i v hv=>
          sH hi i v (by rw [Array.getElem?_toList];exact hv)
        refine kB ((Walks.list hh3 _ l hneI items).toS) s.heap.objs.size
          hSf led (fun i=>ns.getD i ⟨#[]⟩) hval hb (items.size - 0) 0 _ (by (solve_by_elim (maxDepth:=2) only [*,Nat.le_trans,Nat.lt_of_lt_of_le,Nat.lt_of_le_of_lt,Nat.le_of_lt])) (Nat.zero_le _)
          ⟨⟨_,Heap.get?_push_size _ rfl,rfl,rfl⟩,(hl1.push _)⟩ ?hS0 ?hR
        case hS0=>
          have hget:((s.heap.push {cls:= .type "set",dict:=none,data:= .set #[] 0 (.fresh 0 0 led)}).push {cls:= .type "list_iterator",data:= .fields #[.ref l, .int 0 0]}).get? s.heap.objs.size
              =some {cls:= .type "set",dict:=none,data:= .set #[] 0 (.fresh 0 0 led)}:=Heap.get?_push_of_some _ hS
          exact ⟨_,_,_,hget,jw w led⟩
        case hR=>
          intro s' hm hS'
          obtain ⟨h',g',d',tk',os'⟩:=s'
          have eg:g'=s.gens:=hm.gens
          have ed:d'=s.drawn:=hm.drawn
          have eo:os'=s.os:=hm.os
          subst eg;subst ed;subst eo
          show wpAny _ _ _ _ _ _
          refine wpAny_pure ?_
          show wpAny _ _ (ret Value.none) _ _ _
          refine wpAny_pure ⟨rfl,h',tk',rfl,hS',fun b o hb e=>?_⟩
          have hb1:b≠s.heap.objs.size:=Nat.ne_of_lt hb
          have hb2:b≠(s.heap.push {cls:= .type "set",dict:=none,data:= .set #[] 0 (.fresh 0 0 led)}).objs.size:=by
            rw [Heap.size_push];exact Nat.ne_of_lt (Nat.lt_succ_of_lt hb)
          exact hm.heap b o (by simp only [List.mem_cons,List.mem_singleton,List.not_mem_nil,or_false,not_or];exact ⟨hb1,hb2⟩) (Heap.get?_push_of_some _ (Heap.get?_push_of_some _ e))
      · cases r₂ with
        | error e=>exact hr₂
        | ok fl₂=>
          cases fl₂ with
          | ret r=>
            obtain ⟨rfl,h',tk,rfl,hS',hk'⟩:=hr₂
            repeat (any_goals (first | assumption | wp_step))
            exact h _ _ hS' hk'
          | _=>exact hr₂.elim
    | _=>exact hr.elim
def hZ (x:Str) (i:Nat):Str:=⟨#[x.cps.getD i 0]⟩
set_option maxHeartbeats 4000000 in
theorem vG {x:Str} {t:Tok} {Q:Value→Shared→Prop}
    (hh:A.handled=none) (hb:x.cps.size+1 < scanBound)
    (h:∀(h':Heap) (tk:Nat),StrSet w h' s.heap.objs.size (iZ w) (jd (hZ x) x.cps.size)→
      (∀b o,b < s.heap.objs.size→s.heap.get? b=some o→h'.get? b=some o)→Q (.ref s.heap.objs.size) {s with heap:=h',toks:=tk}):
    wpAny (model prog w) A (call (.type "set") [.str x t]) Q E s:=by
  obtain ⟨c,tl,hmro⟩:=PySem.F.called_set.mro
  have hmade:=PySem.F.called_set.made
  have hsub:=PySem.F.called_set.sub
  refine wpAny_call (codeAny_of_tree ?_)
  show wpAny _ _ (callAny (.type "set") _) _ _ _
  refine wpAny_pure ⟨Code.quiet_builtin _ (by decide+kernel),codeAny_builtin PySem.F.entry_type_call ?_⟩
  rw [Around.under_plain (weight_type_call_type "set" [.str x t] []) rfl]
  have h1:=PySem.F.called_set.notType
  have h2:=PySem.F.called_set.canCreate
  have hct:=PySem.F.typeCall_set_1 (.str x t)
  repeat (any_goals (first | assumption | wp_step))
  generalize hled:iZ w=led at h
  refine codeAny_mono (pO (w:=w) (.str x t) (E:=E) (Q₁:=fun obj s₁=>obj= .ref s.heap.objs.size∧s₁={s with heap:=s.heap.push {cls:= .type "set",dict:=none,data:= .set #[] 0 (.fresh 0 0 led)}}) (by rw [hled];exact ⟨rfl,rfl⟩)) fun r s₁ hr=>?_
  cases r with
  | error e=>exact hr
  | ok fl=>
    cases fl with
    | ret obj=>
      obtain ⟨rfl,rfl⟩:=hr
      have hS:(s.heap.push {cls:= .type "set",dict:=none,data:= .set #[] 0 (.fresh 0 0 led)}).get? s.heap.objs.size=some {cls:= .type "set",dict:=none,data:= .set #[] 0 (.fresh 0 0 led)}:=Heap.get?_push_size _ rfl
      have hT:Shared.TypeIs {s with heap:=s.heap.push {cls:= .type "set",dict:=none,data:= .set #[] 0 (.fresh 0 0 led)}} (.ref s.heap.objs.size) "set":=⟨_,hS,rfl⟩
      have hli:=PySem.F.called_set.init.lookup
      have hbi:=PySem.F.called_set.init.bind (.ref s.heap.objs.size)
      repeat (any_goals (first | assumption | wp_step))
      refine codeAny_mono (codeAny_call_builtin (R:=wants (fun r s₂=>r= .none∧∃h' tk,s₂={s with heap:=h',toks:=tk}∧
          StrSet w h' s.heap.objs.size led (jd (hZ x) x.cps.size)∧
          (∀b o,b < s.heap.objs.size→s.heap.get? b=some o→h'.get? b=some o)) E) PySem.F.called_set.init.plain PySem.F.entry_set_init (check_set_init_1 hT ?_)) fun r₂ s₂ hr₂=>?_
      · have hsls:=F.pP
        have hslf:=F.jx
        have hne:(Value.type "str" == Value.type "dict")=false:=by decide
        have hTx:Shared.TypeIs {s with heap:=s.heap.push {cls:= .type "set",dict:=none,data:= .set #[] 0 (.fresh 0 0 led)}} (.str x t) "str":=rfl
        unfold Builtin.«set.__init__» noKeywords Builtin.Frozenset.updateFrom
        generalize hPI:pyIter=PI
        wp_walk
        subst hPI
        refine wpAny_pyIter_str fun o St W hst=>?_
        refine wpAny_bind (wpAny_runValue ?_)
        have hh3:A.in1.in1.in1.handled=none:=by simp [hh]
        have hSf:s.heap.objs.size∉[(s.heap.push {cls:= .type "set",dict:=none,data:= .set #[] 0 (.fresh 0 0 led)}).objs.size]:=by
          rw [Heap.size_push];simp only [List.mem_cons,List.mem_singleton,List.not_mem_nil,or_false,not_or]
          exact Nat.ne_of_lt (Nat.lt_succ_self _)
        have hval:∀(i:Nat) (v:Value),SignAt x i v→∃t,v= .str (hZ x i) t:=fun i v ⟨c,u,hc,hv⟩=>⟨u,by rw [hv];simp [hZ,Array.getD_eq_getD_getElem?,hc]⟩
        refine kB ((W _ hh3).toS) s.heap.objs.size
          hSf led (hZ x) hval hb (x.cps.size - 0) 0 _ (by (solve_by_elim (maxDepth:=2) only [*,Nat.le_trans,Nat.lt_of_lt_of_le,Nat.lt_of_le_of_lt,Nat.le_of_lt])) (Nat.zero_le _) hst ?hS0 ?hR
        case hS0=>exact ⟨_,_,_,Heap.get?_push_of_some _ hS,jw w led⟩
        case hR=>
          intro s' hm hS'
          obtain ⟨h',g',d',tk',os'⟩:=s'
          have eg:g'=s.gens:=hm.gens
          have ed:d'=s.drawn:=hm.drawn
          have eo:os'=s.os:=hm.os
          subst eg;subst ed;subst eo
          show wpAny _ _ _ _ _ _
          refine wpAny_pure ?_
          show wpAny _ _ (ret Value.none) _ _ _
          refine wpAny_pure ⟨rfl,h',tk',rfl,hS',fun b o hb e=>?_⟩
          have hb1:b≠s.heap.objs.size:=Nat.ne_of_lt hb
          have hb2:b≠(s.heap.push {cls:= .type "set",dict:=none,data:= .set #[] 0 (.fresh 0 0 led)}).objs.size:=by
            rw [Heap.size_push];exact Nat.ne_of_lt (Nat.lt_succ_of_lt hb)
          exact hm.heap b o (by simp only [List.mem_cons,List.mem_singleton,List.not_mem_nil,or_false,not_or];exact ⟨hb1,hb2⟩) (Heap.get?_push_of_some _ (Heap.get?_push_of_some _ e))
      · cases r₂ with
        | error e=>exact hr₂
        | ok fl₂=>
          cases fl₂ with
          | ret r=>
            obtain ⟨rfl,h',tk,rfl,hS',hk'⟩:=hr₂
            repeat (any_goals (first | assumption | wp_step))
            exact h _ _ hS' hk'
          | _=>exact hr₂.elim
    | _=>exact hr.elim
end
end NhSet
namespace NhSet
open PySem PyProof.Rows
theorem je {α:Type}:∀{l:List α} {i:Nat} (h:i < l.length),(l[i]::l.eraseIdx i).Perm l
  | x::xs,0,h=>List.Perm.refl _
  | x::xs,i+1,h=>by
    have:=je (l:=xs) (i:=i) (by simpa using h)
    simp only [List.getElem_cons_succ,List.eraseIdx_cons_succ]
    exact (List.Perm.swap x _ _).trans (this.cons x)
theorem mZ {α:Type} (next:Nat→Nat):∀(fuel k:Nat) (left:List α) (out:Array α),left.length=fuel→(pickOrder.go next fuel k left out).toList.Perm (out.toList++left)
  | 0,k,left,out,h=>by
    have:left=[]:=List.length_eq_zero_iff.mp h
    subst this;simp [pickOrder.go]
  | fuel+1,k,left,out,h=>by
    unfold pickOrder.go
    have hlt:next k % left.length < left.length:=Nat.mod_lt _ (by lia)
    rw [List.getElem?_eq_getElem hlt]
    dsimp only
    refine (mZ next fuel (k+1) _ _ (by rw [List.length_eraseIdx_of_lt hlt];lia)).trans ?_
    rw [Array.toList_push,List.append_assoc]
    exact (je hlt).append_left _
theorem lJ {α:Type} (next:Nat→Nat) (xs:Array α):(pickOrder next xs).toList.Perm xs.toList:=by
  have:=mZ next xs.size 0 xs.toList #[] (by simp)
  simpa [pickOrder] using this
section
variable {M:Model} {A:Around} {E:Value→Shared→Prop}
theorem n4 {src:Source} {n:Nat} {s:Shared} {Q:Nat→Shared→Prop} (hn:n≠0) (h:∀i d,i < n→Q i {s with drawn:=d}):wpAny M A (choose src n) Q E s:=fun Γ p hΓ=>by
  show Sem.wp M Γ (.choose src n .pure) _ _ p s
  rw [Sem.wp_choose]
  exact ⟨hn,by rw [Sem.wp_pure];exact h _ _ (Nat.mod_lt _ (Nat.pos_of_ne_zero hn))⟩
theorem ij {α:Type}:∀(n:Nat) (xs:List α) (s:Shared) {Q:List α→Shared→Prop},xs.length=n→(∀ys d,ys.Perm xs→Q ys {s with drawn:=d})→wpAny M A (drawOrder n xs) Q E s
  | 0,xs,s,Q,hl,h=>by
    have:xs=[]:=List.length_eq_zero_iff.mp hl
    subst this
    exact wpAny_pure (h [] s.drawn (List.Perm.refl _))
  | n+1,[],s,Q,hl,h=>by simp at hl
  | n+1,x::xs,s,Q,hl,h=>by
    show wpAny M A (choose .order (x::xs).length >>= _) Q E s
    refine wpAny_bind (n4 (by simp) fun i d hi=>?_)
    rw [List.getElem?_eq_getElem hi]
    dsimp only
    refine wpAny_bind (ij n _ _ (by rw [List.length_eraseIdx_of_lt hi];simpa using hl) fun ys d' hp=>?_)
    exact wpAny_pure (h _ d' ((hp.cons _).trans (je hi)))
end
namespace F
theorem lL:entryFor table "set.__iter__"=some Builtin.«frozenset.__iter__»:=
  entryFor_alias (id':="frozenset.__iter__") (by kernel_rfl) rfl (by decide+kernel) (by kernel_rfl)
theorem slot_next:Slot "set_iterator" "__next__" "set_iterator.__next__":=
  .of (owner:="set_iterator") (n:="__next__") (by rw [typeLookup_type,builtinLookup_eq_fast];kernel_rfl) (by decide+kernel) (by decide+kernel) (by decide+kernel)
    (by first | exact .inl (by decide+kernel) | exact .inr (by decide+kernel)) (by rw [isSubtype_type];kernel_rfl)
theorem qZ:entryFor table "set_iterator.__next__"=some Builtin.«set_iterator.__next__»:=entryFor_of_fast (by kernel_rfl)
theorem t7 (a:Value):argsOk "set_iterator.__next__" ⟨[a],[]⟩:=by unfold argsOk;kernel_rfl
theorem m5:Slot "set_iterator" "__iter__" "set_iterator.__iter__":=
  .of (owner:="set_iterator") (n:="__iter__") (by rw [typeLookup_type,builtinLookup_eq_fast];kernel_rfl) (by decide+kernel) (by decide+kernel) (by decide+kernel)
    (by first | exact .inl (by decide+kernel) | exact .inr (by decide+kernel)) (by rw [isSubtype_type];kernel_rfl)
theorem q_:entryFor table "set_iterator.__iter__"=some Builtin.«dict_keyiterator.__iter__»:=
  entryFor_alias (id':="dict_keyiterator.__iter__") (by kernel_rfl) rfl (by decide+kernel) (by kernel_rfl)
theorem t8 (a:Value):argsOk "set_iterator.__iter__" ⟨[a],[]⟩:=by unfold argsOk;kernel_rfl
end F
abbrev pQ (first:Value) (i:Nat) (a:Addr) (n ep:Nat):Obj:={cls:= .type "set_iterator",data:= .fields #[first, .int i 0, .ref a, .int n 0, .int ep 0]}
section
variable {prog:Program} {w:World} {A:Around} {E:Value→Shared→Prop} {s:Shared}
theorem n5 {I:Addr} {first:Value} {i:Nat} {a:Addr} {n ep:Nat} {Q:Value→Shared→Prop} (ho:s.heap.get? I=some (pQ first i a n ep)) (h:Q (.ref I) s):wpAny (model prog w) A (pyIter (.ref I)) Q E s:=by
  have hT:s.TypeIs (.ref I) "set_iterator":=⟨_,ho,rfl⟩
  refine wpAny_pyIter_slot hT F.m5 (wpAny_call_entry F.m5 hT F.q_ ?_ (F.t8 _))
  show wpAny _ _ (ret (.ref I)) _ _ s
  exact wpAny_pure ⟨_,rfl,"set_iterator",_,hT,F.slot_next.lookup,h⟩
theorem pR {a:Addr} {es:Array (Int×Value)} {ep:Nat} {t:SetTable} {Q:Bool→Shared→Prop} (ho:s.heap.get? a=some (cJ es ep t)) (hf:t.fits es.size=true)
    (h:Q (!(w.params.followText "set-order")&&(!t.plain&&decide (es.size > 1))) s):wpAny (model prog w) A (setDrawn a) Q E s:=by
  unfold setDrawn setsByText
  refine wpAny_bind (wpAny_setState_of ho rfl hf ?_)
  dsimp only
  refine wpAny_bind (wpAny_bind (wpAny_askSetting (wpAny_pure ?_)))
  exact wpAny_pure h
theorem n6 {I:Addr} {Q:Option Value→Shared→Prop} (hh:A.handled=none) {o:Obj} (hQ:∀h',Heap.ExtBut I s.heap h'→Q none {s with heap:=h'}) {h1:Heap} (k:Heap.ExtBut I s.heap h1):
    wpAny (model prog w) A.in1 (newExc (.type "StopIteration") [] >>= fun e=>raiseNew e) (fun (fin:Fin) s'=>∃r,fin= .done (.ret r)∧wpAny (model prog w) A (pure (some r)) Q E s')
      (fun e s'=>wpAny (model prog w) A (isInstance e (.type "StopIteration") >>= fun b=>if b=true then pure none else throw e) Q E s') {s with heap:=h1}:=by
  refine wpAny_bind ?_
  simp only [newExc,newTuple]
  refine wpAny_bind (wpAny_newObj_type ?_ (by size_fits))
  refine wpAny_bind (m:=firstArgMember _ _) (wpAny_of_eq (a:=Value.none) (by first | rfl | (simp only [firstArgMember];rfl)) ?_)
  refine wpAny_newObj_type ?_ (by size_fits)
  simp only [raiseNew]
  refine wpAny_bind (wpAny_handled ?_)
  rw [show A.in1.handled=none from hh]
  refine wpAny_bind (wpAny_pure (wpAny_throw ?_))
  refine wpAny_bind (wpAny_isInstance (T:="StopIteration") (b:=true) ⟨_,Heap.get?_push_size _ rfl,rfl⟩ isSubtype_stop ?_)
  exact wpAny_pure (hQ _ ((k.push _).push _))
end
end NhSet
namespace NhSet
open PySem PyProof.Rows
section
variable {prog:Program} {w:World} {A:Around} {E:Value→Shared→Prop} {s:Shared}
theorem fj {I:Addr} {first:Value} {i:Nat} {a:Addr} {n ep:Nat} {Q:Option Value→Shared→Prop} (hI:s.heap.get? I=some (pQ first i a n ep)) {es:Array (Int×Value)} {t:SetTable} (ha:s.heap.get? a=some (cJ es ep t)) (hf:t.fits es.size=true) (hn:es.size=n)
    (h:wpAny (model prog w) A.in1 (if let .int slot _:=first then do
        match ←setNext a slot.toNat i ep with
        | some (x,next)=>do
          setField (.ref I) 0 (rawInt next)
          setField (.ref I) 1 (rawInt (i+1))
          ret x
        | none=>do setField (.ref I) 2 .none;raiseNew (←newExc (.type "StopIteration") [])
      else do
        let some places ←seqItems? first | unsupported "internal:set_iterator"
        match places[i]? with
        | some (.int place _)=>do
          let x ←setNextDrawn a place.toNat ep
          setField (.ref I) 1 (rawInt (i+1))
          ret x
        | some _=>unsupported "internal:set_iterator"
        | none=>do setField (.ref I) 0 (rawInt 0);setField (.ref I) 2 .none;raiseNew (←newExc (.type "StopIteration") []))
      (fun (fin:Fin) s'=>∃r,fin= .done (.ret r)∧wpAny (model prog w) A (pure (some r)) Q E s')
      (fun e s'=>wpAny (model prog w) A (isInstance e (.type "StopIteration") >>= fun b=>if b=true then pure none else throw e) Q E s') s):
    wpAny (model prog w) A (pyNext (.ref I)) Q E s:=by
  have hT':s.TypeIs (.ref I) "set_iterator":=⟨_,hI,rfl⟩
  unfold pyNext
  refine wpAny_bind (wpAny_attempt (wpAny_callSpecial?_slot (name:=Str.ofString "__next__") hT' F.slot_next (wpAny_call_entry F.slot_next hT' F.qZ ?_ (F.t7 _))))
  unfold Builtin.«set_iterator.__next__»
  refine wpAny_bind (m:=slotArgs _ _ _) (wpAny_pure ?_)
  refine wpAny_bind (wpAny_fieldsOf hI rfl ?_)
  dsimp only
  refine wpAny_bind (wpAny_setEntries_of ha rfl hf ?_)
  rw [if_neg (by simp [hn])]
  exact h
abbrev yh (es:Array (Int×Value)) (j:Nat):Value:=(es.getD j (0, .none)).2
theorem cy {I:Addr} {o:Obj} {vs:Array Value} {k:Nat} {x:Value} {Q:Unit→Shared→Prop} (ho:s.heap.get? I=some o) (hd:o.data= .fields vs) (hk:k < vs.size) (hQ:∀h',Heap.SameBut I s.heap h'→h'.get? I=some {o with data:= .fields (vs.setIfInBounds k x)}→Q () {s with heap:=h'}):wpAny (model prog w) A (setField (.ref I) k x) Q E s:=by
  refine wpAny_setField ho hd hk (hQ _ (Heap.SameBut.update ..) ?_)
  have:=Heap.get?_update_self (Obj.mapFields fun vs=>vs.setIfInBounds k x) ho (Obj.isFreed_of_fields (Obj.data_mapFields hd _))
  rw [this]
  obtain ⟨c,d,dt,sl⟩:=o
  simp only at hd
  subst hd
  rfl
theorem rc (hh:A.handled=none) {I T a:Addr} {es:Array (Int×Value)} {ep:Nat} {t:SetTable} (π:List Nat) (hp:∀j∈π,j < es.size) (hl:π.length=es.size) (hf:t.fits es.size=true) (hTI:T≠I) (haI:a≠I):
    Walks prog w A I [I,T,a] [I] (π.map (yh es)).length (fun i v=>(π.map (yh es))[i]? =some v)
      (fun i h=>h.get? I=some (pQ (.ref T) i a es.size ep)∧h.get? T=some {cls:= .type "tuple",data:= .seq (π.map fun (i:Nat)=>rawInt i).toArray}∧h.get? a=some (cJ es ep t)) where
  sub:=fun b hb=>by simp at hb;simp [hb]
  frame:=fun _ _ _ st hk=>⟨hk I (by simp) _ st.1,hk T (by simp) _ st.2.1,hk a (by simp) _ st.2.2⟩
  self:=fun _ _ _ _ st hQ=>n5 st.1 hQ
  item:=fun i s Q E hi st hQ=>by
    obtain ⟨hI,hT,ha⟩:=st
    rw [List.length_map] at hi
    refine fj hI ha hf rfl ?_
    dsimp only
    refine wpAny_bind (wpAny_seqItems hT rfl ?_)
    dsimp only
    have e:(π.map fun (i:Nat)=>rawInt i).toArray[i]? =some (.int (π[i]:Nat) 0):=by
      simp [hi,rawInt]
    rw [e]
    dsimp only
    have hj:=hp π[i] (List.getElem_mem hi)
    unfold setNextDrawn
    refine wpAny_bind (wpAny_bind (wpAny_setState_of ha rfl hf ?_))
    dsimp only
    rw [if_neg (by simp)]
    have e2:es[((π[i]:Nat):Int).toNat]? =some (es[π[i]]):=by simp [hj]
    rw [e2]
    refine wpAny_pure ?_
    refine wpAny_bind (cy hI rfl (by simp) fun h' hs' ho'=>?_)
    refine wpAny_pure ⟨_,rfl,wpAny_pure (hQ _ h' s.toks ?_ ⟨?_,?_,?_⟩ fun b o hb e=>hs'.extBut b o (fun z=>hb (by simp [z])) e)⟩
    · simp [hi,yh,hj]
    · rw [ho'];simp [rawInt]
    · exact hs'.extBut T _ hTI hT
    · exact hs'.extBut a _ haI ha
  done:=fun s Q E st hQ=>by
    obtain ⟨hI,hT,ha⟩:=st
    refine fj hI ha hf rfl ?_
    dsimp only
    refine wpAny_bind (wpAny_seqItems hT rfl ?_)
    dsimp only
    have e:(π.map fun (i:Nat)=>rawInt i).toArray[(π.map (yh es)).length]? =none:=by simp
    rw [e]
    dsimp only
    refine wpAny_bind (cy hI rfl (by simp) fun h' hs' ho'=>?_)
    refine wpAny_bind (cy (s:={s with heap:=h'}) ho' rfl (by simp) fun h2 hs2 _=>?_)
    exact n6 (I:=I) (o:=cJ es ep t) hh (fun h3 k=>hQ h3 s.toks fun b o hb e=>k b o (fun z=>hb (by simp [z])) e) (hs'.trans hs2).extBut
theorem jy {a:Addr} {es:Array (Int×Value)} {ep:Nat} {t:SetTable} {slot given:Nat} {Q:Option (Value×Nat)→Shared→Prop} (hb:w.params.followText "set-order"=true) (ha:s.heap.get? a=some (cJ es ep t)) (hf:t.fits es.size=true)
    (h:Q (((pickOrder (w.params.setOrder a ep) es)[given]?).map fun e=>(e.2,slot)) s):wpAny (model prog w) A (setNext a slot given ep) Q E s:=by
  unfold setNext setsByText
  refine wpAny_bind (wpAny_setState_of ha rfl hf ?_)
  dsimp only
  refine wpAny_bind (wpAny_bind (wpAny_askSetting (wpAny_pure ?_)))
  rw [if_pos (show (model prog w).w.params.followText "set-order"=true from hb)]
  rw [if_neg (by simp)]
  refine wpAny_bind ?_
  unfold setWalk setsByText
  refine wpAny_bind (wpAny_setState_of ha rfl hf ?_)
  dsimp only
  refine wpAny_bind (wpAny_bind (wpAny_askSetting (wpAny_pure ?_)))
  rw [if_pos (show (model prog w).w.params.followText "set-order"=true from hb)]
  refine wpAny_bind (wpAny_askSetting (wpAny_pure ?_))
  exact wpAny_pure h
theorem kC {a:Addr} {es:Array (Int×Value)} {ep:Nat} {t:SetTable} {slot given:Nat} {Q:Option (Value×Nat)→Shared→Prop} (hb:w.params.followText "set-order"=false) (hsz:es.size≤1) (hled:t.led=true) (ha:s.heap.get? a=some (cJ es ep t)) (hf:t.fits es.size=true)
    (h:Q (match es[SetTable.below t.place slot]?,t.place[SetTable.below t.place slot]? with | some (_,x),some j=>some (x,j+1) | _,_=>none) s):wpAny (model prog w) A (setNext a slot given ep) Q E s:=by
  unfold setNext setsByText
  refine wpAny_bind (wpAny_setState_of ha rfl hf ?_)
  dsimp only
  refine wpAny_bind (wpAny_bind (wpAny_askSetting (wpAny_pure ?_)))
  rw [if_neg (show ¬((model prog w).w.params.followText "set-order"=true) by show ¬(w.params.followText "set-order"=true);rw [hb];decide)]
  have hd:(!t.plain&&decide (es.size > 1))=false:=by rw [decide_eq_false (by exact Nat.not_lt.mpr ‹_›)];simp
  show wpAny _ _ (if (!t.plain&&decide (es.size > 1))=true then _ else _) _ _ _
  rw [hd,if_neg (by decide)]
  show wpAny _ _ ((if (!t.led&& !es.isEmpty)=true then unsupported "set:maker-not-led" else pure PUnit.unit) >>= _) _ _ _
  rw [hled,if_neg (by simp)]
  refine wpAny_bind (wpAny_pure ?_)
  exact wpAny_pure h
theorem t9 (hh:A.handled=none) {I a:Addr} {es:Array (Int×Value)} {ep:Nat} {t:SetTable} (hb:w.params.followText "set-order"=true) (hf:t.fits es.size=true) (haI:a≠I):
    Walks prog w A I [I,a] [I] ((pickOrder (w.params.setOrder a ep) es).toList.map (·.2)).length (fun i v=>((pickOrder (w.params.setOrder a ep) es).toList.map (·.2))[i]? =some v)
      (fun i h=>h.get? I=some (pQ (.int 0 0) i a es.size ep)∧h.get? a=some (cJ es ep t)) where
  sub:=fun b hb=>by simp at hb;simp [hb]
  frame:=fun _ _ _ st hk=>⟨hk I (by simp) _ st.1,hk a (by simp) _ st.2⟩
  self:=fun _ _ _ _ st hQ=>n5 st.1 hQ
  item:=fun i s Q E hi st hQ=>by
    obtain ⟨hI,ha⟩:=st
    have hi':i < (pickOrder (w.params.setOrder a ep) es).size:=by simpa using hi
    refine fj hI ha hf rfl ?_
    dsimp only
    refine wpAny_bind (jy hb ha hf ?_)
    rw [Array.getElem?_eq_getElem hi']
    dsimp only [Option.map_some]
    refine wpAny_bind (cy hI rfl (by simp) fun h' hs' ho'=>?_)
    refine wpAny_bind (cy (s:={s with heap:=h'}) ho' rfl (by simp) fun h2 hs2 ho2=>?_)
    refine wpAny_pure ⟨_,rfl,wpAny_pure (hQ _ h2 s.toks ?_ ⟨?_,?_⟩ fun b o hb e=>(hs'.trans hs2).extBut b o (fun z=>hb (by simp [z])) e)⟩
    · simp [hi']
    · rw [ho2];simp [rawInt]
    · exact (hs'.trans hs2).extBut a _ haI ha
  done:=fun s Q E st hQ=>by
    obtain ⟨hI,ha⟩:=st
    refine fj hI ha hf rfl ?_
    dsimp only
    refine wpAny_bind (jy hb ha hf ?_)
    rw [show (pickOrder (w.params.setOrder a ep) es)[((pickOrder (w.params.setOrder a ep) es).toList.map (·.2)).length]? =none by simp]
    dsimp only [Option.map_none]
    refine wpAny_bind (cy hI rfl (by simp) fun h' hs' ho'=>?_)
    exact n6 (I:=I) (o:=cJ es ep t) hh (fun h3 k=>hQ h3 s.toks fun b o hb e=>k b o (fun z=>hb (by simp [z])) e) hs'.extBut
theorem lM {xs:Array Nat} (h:xs.size≤1):SetTable.below xs 0=0:=by
  obtain ⟨l⟩:=xs
  match l,h with
  | [],_=>rfl
  | [p],_=>simp [SetTable.below,SetTable.below.go]
theorem re {p:Nat}:SetTable.below #[p] (p+1)=1:=by simp [SetTable.below,SetTable.below.go]
theorem vH (hh:A.handled=none) {I a:Addr} {es:Array (Int×Value)} {ep:Nat} {t:SetTable} (hb:w.params.followText "set-order"=false) (hsz:es.size≤1) (hled:t.led=true) (hf:t.fits es.size=true) (haI:a≠I):
    Walks prog w A I [I,a] [I] (es.toList.map (·.2)).length (fun i v=>(es.toList.map (·.2))[i]? =some v)
      (fun i h=>h.get? I=some (pQ (.int (if i=0 then 0 else (t.place.getD 0 0+1:Nat)) 0) i a es.size ep)∧h.get? a=some (cJ es ep t)) where
  sub:=fun b hb=>by simp at hb;simp [hb]
  frame:=fun _ _ _ st hk=>⟨hk I (by simp) _ st.1,hk a (by simp) _ st.2⟩
  self:=fun _ _ _ _ st hQ=>n5 st.1 hQ
  item:=fun i s Q E hi st hQ=>by
    obtain ⟨hI,ha⟩:=st
    have hi':i < es.size:=by simpa using hi
    have hi0:i=0:=by lia
    subst hi0
    rw [if_pos rfl] at hI
    have hps:t.place.size=es.size:=by
      have:=hf;simp only [SetTable.fits,Bool.and_eq_true,beq_iff_eq] at this;exact this.1
    refine fj hI ha hf rfl ?_
    dsimp only
    refine wpAny_bind (kC hb hsz hled ha hf ?_)
    rw [show ((0:Int)).toNat=0 from rfl,lM (by lia),Array.getElem?_eq_getElem hi',Array.getElem?_eq_getElem (show 0 < t.place.size by lia)]
    dsimp only
    refine wpAny_bind (cy hI rfl (by simp) fun h' hs' ho'=>?_)
    refine wpAny_bind (cy (s:={s with heap:=h'}) ho' rfl (by simp) fun h2 hs2 ho2=>?_)
    refine wpAny_pure ⟨_,rfl,wpAny_pure (hQ _ h2 s.toks ?_ ⟨?_,?_⟩ fun b o hb e=>(hs'.trans hs2).extBut b o (fun z=>hb (by simp [z])) e)⟩
    · simp [hi']
    · rw [ho2]
      have:t.place.getD 0 0=t.place[0]:=by simp [Array.getD,show 0 < t.place.size by lia]
      simp [rawInt,this]
    · exact (hs'.trans hs2).extBut a _ haI ha
  done:=fun s Q E st hQ=>by
    obtain ⟨hI,ha⟩:=st
    have hps:t.place.size=es.size:=by
      have:=hf;simp only [SetTable.fits,Bool.and_eq_true,beq_iff_eq] at this;exact this.1
    have hlen:(es.toList.map (·.2)).length=es.size:=by simp
    rw [hlen] at hI
    refine fj hI ha hf rfl ?_
    dsimp only
    refine wpAny_bind (kC hb hsz hled ha hf ?_)
    have hno:(match es[SetTable.below t.place (if es.size=0 then (0:Int) else ((t.place.getD 0 0+1:Nat):Int)).toNat]?,t.place[SetTable.below t.place (if es.size=0 then (0:Int) else ((t.place.getD 0 0+1:Nat):Int)).toNat]? with | some (_,x),some j=>some (x,j+1) | _,_=>(none:Option (Value×Nat)))=none:=by
      by_cases z:es.size=0
      · rw [if_pos z,show ((0:Int)).toNat=0 from rfl,lM (by lia),Array.getElem?_eq_none (by exact Nat.le_of_eq ‹_›)]
      · rw [if_neg z]
        obtain ⟨⟨p⟩,hp⟩:∃q:{p:Nat // t.place=#[p]},True:=by
          generalize t.place=pl at hps
          obtain ⟨l⟩:=pl
          match l,hps with
          | [],h=>simp at h;(solve_by_elim (maxDepth:=3) only [*,Nat.le_trans,Nat.lt_of_lt_of_le,Nat.lt_of_le_of_lt,Nat.le_of_lt])
          | [p],h=>exact ⟨⟨p,rfl⟩,trivial⟩
          | _::_::_,h=>simp at h;lia
        rename_i hpl
        rw [hpl]
        simp only [Int.toNat_natCast]
        have:(#[p]:Array Nat).getD 0 0=p:=rfl
        rw [this,re,Array.getElem?_eq_none (show es.size≤1 by assumption)]
    rw [hno]
    dsimp only
    refine wpAny_bind (cy hI rfl (by simp) fun h' hs' ho'=>?_)
    exact n6 (I:=I) (o:=cJ es ep t) hh (fun h3 k=>hQ h3 s.toks fun b o hb e=>k b o (fun z=>hb (by simp [z])) e) hs'.extBut
theorem vI {a:Addr} {es:Array (Int×Value)} {ep:Nat} {t:SetTable} {ks:List Str} {Q:Value→Shared→Prop} (ha:s.heap.get? a=some (cJ es ep t)) (S:SS w (iZ w) ks es t)
    (hQ:∀(s':Shared) (I:Addr) (fp:List Addr) (St:Nat→Heap→Prop) (items:List Value),(∀b o,s.heap.get? b=some o→s'.heap.get? b=some o)→s.heap.objs.size≤s'.heap.objs.size→s'.gens=s.gens→s'.os=s.os→s'.toks=s.toks→(∀b∈fp,b=a∨s.heap.objs.size≤b)→s.heap.objs.size≤I→
      (∀A':Around,A'.handled=none→Walks prog w A' I fp [I] items.length (fun i v=>items[i]? =some v) St)→St 0 s'.heap→items.Perm (es.toList.map (·.2))→Q (.ref I) s'):
    wpAny (model prog w) A (pyIter (.ref a)) Q E s:=by
  have hT:s.TypeIs (.ref a) "set":=⟨_,ha,rfl⟩
  have hlt:a < s.heap.objs.size:=Heap.lt_size ha
  refine wpAny_pyIter_slot hT PySem.F.slot_set_iter (wpAny_call_entry PySem.F.slot_set_iter hT F.lL ?_ (PySem.F.args_set_iter_1 _))
  unfold Builtin.«frozenset.__iter__» Builtin.Frozenset.slot0 slotArgs
  simp only [List.isEmpty_nil,Bool.not_true,Bool.false_eq_true,↓reduceIte,bind_assoc,List.length_nil,bne_self_eq_false]
  unfold Builtin.Frozenset.addrOf Builtin.Frozenset.sizeOf
  refine wpAny_bind (wpAny_pure ?_)
  try dsimp only
  refine wpAny_bind (wpAny_pure ?_)
  refine wpAny_bind (wpAny_bind (wpAny_setEntries_of ha rfl S.fits (wpAny_pure ?_)))
  refine wpAny_bind (pR ha S.fits ?_)
  cases hd:(!(w.params.followText "set-order")&&(!t.plain&&decide (es.size > 1))) with
  | true=>
    simp only [↓reduceIte]
    refine wpAny_bind (ij es.size (List.range es.size) s (by simp) fun π d hp=>?_)
    have hl:π.length=es.size:=by rw [hp.length_eq,List.length_range]
    have hm:∀j∈π,j < es.size:=fun j hj=>List.mem_range.mp (hp.mem_iff.mp hj)
    refine wpAny_bind (wpAny_newTuple (s:={s with drawn:=d}) ?_ (by rw [List.length_map,hl];exact fits_of_scanBound S.bound))
    have ha2:(s.heap.push {cls:= .type "tuple",data:= .seq (π.map fun (i:Nat)=>rawInt i).toArray}).get? a=some (cJ es ep t):=Heap.get?_push_of_some _ ha
    refine wpAny_bind (wpAny_setEpoch_of (s:={s with drawn:=d,heap:=s.heap.push {cls:= .type "tuple",data:= .seq (π.map fun (i:Nat)=>rawInt i).toArray}}) ha2 rfl S.fits ?_)
    refine wpAny_bind (wpAny_newObj_type ?_)
    have hs1:(s.heap.push {cls:= .type "tuple",data:= .seq (π.map fun (i:Nat)=>rawInt i).toArray}).objs.size=s.heap.objs.size+1:=by rw [Heap.size_push]
    refine wpAny_pure ⟨_,rfl,"set_iterator",_,⟨_,Heap.get?_push_size _ rfl,rfl⟩,F.slot_next.lookup,?_⟩
    refine hQ _ _ _ _ (π.map (yh es)) (fun b o e=>Heap.get?_push_of_some _ (Heap.get?_push_of_some _ e)) (by rw [Heap.size_push,Heap.size_push];(solve_by_elim (maxDepth:=3) only [*,Nat.le_trans,Nat.lt_of_lt_of_le,Nat.lt_of_le_of_lt,Nat.le_of_lt,Nat.add_le_add_left,Nat.add_lt_add_left,Nat.le_add_right,Nat.lt_of_succ_lt])) rfl rfl rfl ?_ (by dsimp only;rw [hs1];exact Nat.le_add_right _ _)
      (fun A' hA=>rc hA (T:=s.heap.objs.size) (a:=a) (ep:=ep) (t:=t) π hm hl S.fits (by dsimp only;rw [hs1];exact Nat.ne_of_lt (Nat.lt_succ_self _)) (by dsimp only;rw [hs1];exact Nat.ne_of_lt (Nat.lt_succ_of_lt hlt)))
      ⟨Heap.get?_push_size _ rfl,Heap.get?_push_of_some _ (Heap.get?_push_size _ rfl),Heap.get?_push_of_some _ ha2⟩ ?_
    · intro b hb
      rcases List.mem_cons.mp hb with rfl | hb
      · right;dsimp only;rw [hs1];exact Nat.le_add_right _ _
      rcases List.mem_cons.mp hb with rfl | hb
      · right;exact Nat.le_refl _
      · left;exact List.mem_singleton.mp hb
    · refine (hp.map (yh es)).trans ?_
      rw [show (List.range es.size).map (yh es)=es.toList.map (·.2) from ?_]
      refine List.ext_getElem (by simp) fun i h1 h2=>?_
      have hi:i < es.size:=by simpa using h1
      simp [yh,hi]
  | false=>
    simp only [Bool.false_eq_true,↓reduceIte]
    refine wpAny_bind (wpAny_pure ?_)
    refine wpAny_bind (wpAny_setEpoch_of ha rfl S.fits ?_)
    refine wpAny_bind (wpAny_newObj_type ?_)
    refine wpAny_pure ⟨_,rfl,"set_iterator",_,⟨_,Heap.get?_push_size _ rfl,rfl⟩,F.slot_next.lookup,?_⟩
    have hfp:∀b∈[s.heap.objs.size,a],b=a∨s.heap.objs.size≤b:=fun b hb=>by
      rcases List.mem_cons.mp hb with rfl | hb
      · right;exact Nat.le_refl _
      · left;exact List.mem_singleton.mp hb
    cases hb:w.params.followText "set-order" with
    | true=>
      exact hQ _ _ _ _ ((pickOrder (w.params.setOrder a ep) es).toList.map (·.2)) (fun b o e=>Heap.get?_push_of_some _ e) (by rw [Heap.size_push];exact Nat.le_add_right _ _) rfl rfl rfl hfp (Nat.le_refl _)
        (fun A' hA=>t9 hA (t:=t) hb S.fits (Nat.ne_of_lt hlt)) ⟨Heap.get?_push_size _ rfl,Heap.get?_push_of_some _ ha⟩ ((lJ _ es).map _)
    | false=>
      have hled:t.led=true:=by rw [S.led,iZ,hb];rfl
      have hsz:es.size≤1:=by
        rw [hb] at hd
        by_cases z:es.size=0
        · lia
        · rw [S.plain z] at hd
          simp at hd
          assumption
      exact hQ _ _ _ _ (es.toList.map (·.2)) (fun b o e=>Heap.get?_push_of_some _ e) (by rw [Heap.size_push];exact Nat.le_add_right _ _) rfl rfl rfl hfp (Nat.le_refl _)
        (fun A' hA=>vH hA (t:=t) hb hsz hled S.fits (Nat.ne_of_lt hlt)) ⟨Heap.get?_push_size _ rfl,Heap.get?_push_of_some _ ha⟩ (List.Perm.refl _)
end
end NhSet
namespace NhSet
open PySem PyProof.Rows
namespace F
theorem xq:typeLookup (.type "set") "__len__"=pure (some (.builtin "set.__len__")):=by rw [typeLookup_type,builtinLookup_eq_fast];kernel_rfl
end F
section
variable {prog:Program} {w:World} {A:Around} {E:Value→Shared→Prop} {s:Shared}
theorem pS {a:Addr} {es:Array (Int×Value)} {ep:Nat} {t:SetTable} {ks:List Str} {Q:List Value→Shared→Prop} (hh:A.handled=none) (ha:s.heap.get? a=some (cJ es ep t)) (S:SS w (iZ w) ks es t)
    (hQ:∀(s':Shared) (items:List Value),(∀b o,s.heap.get? b=some o→s'.heap.get? b=some o)→s'.gens=s.gens→s'.os=s.os→s.heap.objs.size≤s'.heap.objs.size→items.Perm (es.toList.map (·.2))→Q items s'):
    wpAny (model prog w) A (collect (.ref a)) Q E s:=by
  have hlt:a < s.heap.objs.size:=Heap.lt_size ha
  unfold collect
  refine wpAny_bind (wpAny_runValue (codeAny_builtin PySem.F.entry_proto_collect ?_))
  rw [Around.under_plainId PySem.F.plain_proto_collect _]
  show wpAny _ A.in1 (newList [] >>= fun l=>again (.builtin "list.__iadd__" ⟨[l, .ref a],[]⟩)) _ _ s
  refine wpAny_bind (wpAny_newObj_type ?_)
  refine wpAny_pure ⟨plainId_quiet PySem.F.plain_list_iadd _,codeAny_builtin PySem.F.entry_list_iadd ?_⟩
  rw [Around.under_plainId PySem.F.plain_list_iadd _]
  show wpAny _ A.in1 (Builtin.List.listExtendWith (.ref s.heap.objs.size) (.ref a) (.ref s.heap.objs.size)) _ _ _
  unfold Builtin.List.listExtendWith
  have ha1:(s.heap.push {cls:= .type "list",data:= .seq ([]:List Value).toArray}).get? a=some (cJ es ep t):=Heap.get?_push_of_some _ ha
  have hT1:Shared.TypeIs {s with heap:=s.heap.push {cls:= .type "list",data:= .seq ([]:List Value).toArray}} (.ref a) "set":=⟨_,ha1,rfl⟩
  refine wpAny_bind (wpAny_typeOf hT1 ?_)
  have h1:Builtin.List.listSameRef (.ref s.heap.objs.size) (.ref a)=false:=by simp [Builtin.List.listSameRef];exact Nat.ne_of_gt hlt
  have h2:(Value.type "set" == Value.type "list")=false:=by decide
  have h3:(Value.type "set" == Value.type "tuple")=false:=by decide
  simp only [h1,h2,h3,Bool.or_false,Bool.false_eq_true,if_false]
  refine wpAny_bind (vI ha1 S fun s2 I fp St items k2 z2 g2 o2 t2 hfp hI W hst hp=>?_)
  have hT2:s2.TypeIs (.ref a) "set":=⟨_,k2 a _ ha1,rfl⟩
  refine wpAny_bind (wpAny_holding ?_)
  unfold Builtin.List.listLengthHint
  refine wpAny_bind (wpAny_specialOf hT2 F.xq ?_)
  wp_delta
  refine wpAny_bind (wpAny_isInstance (T:="set") (b:=true) hT2 sub_set_self ?_)
  show wpAny _ A.in1 (typeOf (Value.ref a) >>= _) _ _ _
  refine wpAny_bind (wpAny_typeOf hT2 ?_)
  refine wpAny_pure ?_
  rw [if_pos (by decide)]
  refine wpAny_bind (wpAny_rule ?_)
  have hS0:s2.heap.get? s.heap.objs.size=some {cls:= .type "list",data:= .seq ([]:List Value).toArray}:=k2 _ _ (Heap.get?_push_size _ rfl)
  refine wpAny_bind ?_
  show wpAny _ A.in1 (updateSeq s.heap.objs.size (·.push .none) >>= fun _=>updateSeq s.heap.objs.size (·.pop)) _ _ _
  refine wpAny_bind (wpAny_updateSeq hS0 rfl ?_)
  have hS2:=Heap.get?_update_self (Obj.mapSeq (·.push Value.none)) hS0 rfl
  refine wpAny_updateSeq hS2 rfl ?_
  have hS3:=Heap.get?_update_self (Obj.mapSeq (·.pop)) hS2 rfl
  have oth:∀b o,b≠s.heap.objs.size→s2.heap.get? b=some o→
      ((s2.heap.update s.heap.objs.size (Obj.mapSeq (·.push Value.none))).update s.heap.objs.size (Obj.mapSeq (·.pop))).get? b=some o:=
    fun b o hb e=>(Heap.get?_update_other _ _ (Ne.symm hb)).trans ((Heap.get?_update_other _ _ (Ne.symm hb)).trans e)
  have hz1:(s.heap.push {cls:= .type "list",data:= .seq ([]:List Value).toArray}).objs.size=s.heap.objs.size+1:=by rw [Heap.size_push]
  have hnS:∀b,(s.heap.push {cls:= .type "list",data:= .seq ([]:List Value).toArray}).objs.size≤b→b≠s.heap.objs.size:=fun b hb e=>by
    rw [hz1,e] at hb;exact Nat.not_succ_le_self _ hb
  have hSf:s.heap.objs.size∉fp:=fun hm=>by
    rcases hfp _ hm with e | e
    · exact absurd e (Nat.ne_of_gt hlt)
    · exact hnS _ e rfl
  have hlen:items.length≤sizeLine:=by
    rw [hp.length_eq];simpa using fits_of_scanBound S.bound
  refine wpAny_pure ⟨plainId_quiet PySem.F.plain_extend_loop _,codeAny_extend_loopS (W A.in1 (by simp [hh])).toS hlen _ hSf _ items.length 0 _ _ _ rfl (Nat.zero_le _)
    ((W A.in1 (by simp [hh])).frame 0 s2.heap _ hst fun b hb o e=>oth b o (fun z=>hSf (z▸hb)) e) hS3 (ItemsOf.nil _) fun s' acc' c' hm hS' hacc=>?_⟩
  show wpAny _ A (load s.heap.objs.size >>= _) _ _ s'
  refine wpAny_bind (wpAny_load hS' ?_)
  have hacc':acc'.toList=items:=by
    refine List.ext_getElem? fun i=>?_
    rw [Array.getElem?_toList]
    by_cases hi:i < acc'.size
    · rw [Array.getElem?_eq_getElem hi]
      exact (hacc.2 i _ (Array.getElem?_eq_getElem hi)).symm
    · rw [Array.getElem?_eq_none (by exact Nat.le_of_not_lt ‹_›),List.getElem?_eq_none (by rw [←hacc.1];exact Nat.le_of_not_lt ‹_›)]
  refine wpAny_pure ?_
  rw [hacc']
  refine hQ s' items (fun b o e=>?_) (hm.gens.trans g2) (hm.os.trans o2) (Nat.le_of_lt (Heap.lt_size hS')) hp
  have hb:b < s.heap.objs.size:=Heap.lt_size e
  refine hm.heap b o (fun z=>?_) (oth b o (Nat.ne_of_lt hb) (k2 b o (Heap.get?_push_of_some _ e)))
  rcases List.mem_cons.mp z with z | z
  · exact absurd z (Nat.ne_of_lt hb)
  · rw [List.mem_singleton.mp z] at hb
    have hI':s.heap.objs.size+1≤I:=by rw [←hz1];exact hI
    exact absurd (Nat.lt_of_lt_of_le (Nat.lt_succ_self _) hI') (Nat.lt_asymm hb)
theorem rf {a:Addr} {ks:List Str} {Q:Value→Shared→Prop} (hh:A.handled=none) (hS:StrSet w s.heap a (iZ w) ks) (h64:ks.length < 64)
    (h:∀(s':Shared) (l:Addr) (out:Array Value) (e:Nat) (ss':List Str),(∀b o,s.heap.get? b=some o→s'.heap.get? b=some o)→s'.gens=s.gens→s'.os=s.os→s.heap.objs.size≤l→s'.heap.get? l=some (seqObj "list" out e)→StrsAre out.toList ss'→ss'.Perm ks→sortedS ss'=true→Q (.ref l) s'):
    wpAny (model prog w) A (call (.builtin "sorted") [.ref a]) Q E s:=by
  obtain ⟨es,ep,t,ha,S⟩:=hS
  refine Calls.call_function_entry kind_sorted plain_sorted entry_sorted (args_sorted1 _) ?_
  unfold Builtin.«sorted»
  refine wpAny_bind (m:=checkCount "sorted" 1 1 _) (wpAny_pure ?_)
  refine wpAny_bind (pS (by simp [hh]) ha S fun s1 items k1 g1 o1 hsz hp=>?_)
  have hpk:(items.map strOf).Perm ks:=(hp.map strOf).trans (by rw [List.map_map];exact S.perm)
  have hst:∀v∈items,∃x tk,v= .str x tk:=fun v hv=>by
    obtain ⟨e,he,rfl⟩:=List.mem_map.mp (hp.mem_iff.mp hv)
    obtain ⟨x,tk,rfl⟩:=S.elems e he
    exact ⟨x,tk,rfl⟩
  have hSA:=strsAre_map items hst
  have hl64:items.length < 64:=by have:=hpk.length_eq;rw [List.length_map] at this;lia
  refine wpAny_bind (wpAny_newList ?_)
  have hoL:(s1.heap.push (seqObj "list" items.toArray 0)).get? s1.heap.objs.size=some (seqObj "list" items.toArray 0):=Heap.get?_push_size _ rfl
  refine wpAny_bind (wpAny_holding (wpAny_call_entry slot_list_sort ⟨_,hoL,rfl⟩ entry_list_sort (list_sort_treeK (s:={s1 with heap:=s1.heap.push (seqObj "list" items.toArray 0)}) strKind_oneLt hoL hSA.keysOf (fun v₁ v₂ bv e=>keyKind_strs (by rw [←e];exact hSA)) hl64 fun st' a1 a2=>⟨_,rfl,?_⟩) (args_list_sort _)))
  obtain ⟨ss',b1,b2,b3⟩:=sorted_out_str hSA a1 a2
  obtain ⟨e,he⟩:=sortedHeap_at (out:=(arrOf st').map (·.2)) hoL
  refine wpAny_pure ⟨_,rfl,h _ s1.heap.objs.size _ e ss' (fun b o hb=>?_) g1 o1 hsz he b1 (b2.trans hpk) b3⟩
  have hb1:=k1 b o hb
  have hlt:=Heap.lt_size hb1
  dsimp only
  rw [sortedHeap_old (Nat.ne_of_lt hlt) (by rw [size_push'];exact Nat.lt_succ_of_lt hlt),Heap.get?_push_ne _ _ _ (Nat.ne_of_lt hlt)]
  exact hb1
end
end NhSet
namespace PL
open PySem L2 Nh
def t_ (w:World) (a:Addr) (ks:List Str):HO:= .ext fun h=>NhSet.StrSet w h a (NhSet.iZ w) ks
theorem vJ (ns:List Str) (n:Nat) (h:n=ns.length):NhSet.jd (fun i=>ns.getD i ⟨#[]⟩) n=io ns:=by
  have e:(List.range n).map (fun i=>ns.getD i ⟨#[]⟩)=ns:=by
    subst h
    refine List.ext_getElem (by simp) fun i h1 h2=>?_
    simp [h2]
  show ((List.range n).map (fun i=>ns.getD i ⟨#[]⟩)).foldl NhSet.kI []=ns.foldl wo []
  rw [e]
  rfl
theorem ua (x:Str):NhSet.jd (NhSet.hZ x) x.cps.size=io (jv x):=by
  have e:(List.range x.cps.size).map (NhSet.hZ x)=jv x:=by
    refine List.ext_getElem (by simp [jv]) fun i h1 h2=>?_
    have hi:i < x.cps.size:=by simpa using h1
    simp [jv,NhSet.hZ,hi]
  show ((List.range x.cps.size).map (NhSet.hZ x)).foldl NhSet.kI []=(jv x).foldl wo []
  rw [e]
  rfl
section
variable {X:Cx} {e:Expr} {m1:Bool} {f:bE} {p p2 pos pos2:Pos}
def B9 (K:PySem.W.Frag) (w:World):List V→Hp→VK→Prop:=fun xs H Q=>
  (∃(p:Addr) (ss:List Str),xs=[.ref p]∧SqL K H p (ss.map V.str)∧ss.length < 4000∧∀a,H a=none→Q (.ref a) (dg H a (t_ w a (io ss))))∨
  ∃x:Str,xs=[.str x]∧(jv x).length < 4000∧∀a,H a=none→Q (.ref a) (dg H a (t_ w a (io (jv x))))
theorem ub (hc:X.calm=true):CallR X (.type "set") (B9 X.K X.w):=by
  intro pins s σ H xs us Q I r h
  rcases h with ⟨p,ss,rfl,hq,hl,q⟩ | ⟨x,rfl,hl,q⟩
  · cases r with
    | cons r rr=>
      cases rr
      cases r
      obtain ⟨its,rv,pl,hz⟩:=I.list hq
      have hS:=pK rv
      have hlen:its.length=ss.length:=by have:=rv.length;simpa using this.symm
      refine NhSet.t6 (I.ok.hd hc) pl.isList (by simpa using hS) (by simp only [List.size_toArray,scanBound];lia) fun h' tk S k=>?_
      rw [vJ ss its.toArray.size (by simpa using hlen)] at S
      exact ⟨.ref s.heap.objs.size,_,I.laid (fun b o e=>k b o (Heap.lt_size e) e) (Nat.le_refl _) (show ObjOk X.prog X.w _ _ _ (t_ X.w s.heap.objs.size (io ss)) from ⟨S,S.obj,fun h1 h2 T kk=>T.at' kk⟩),rfl,q _ (I.hok.fresh (Nat.le_refl _))⟩
  · cases r with
    | cons r rr=>
      cases rr
      obtain ⟨t,rfl⟩:=r
      have hl2:x.cps.size < 4000:=by simpa [jv] using hl
      refine NhSet.vG (I.ok.hd hc) (by simp only [scanBound];lia) fun h' tk S k=>?_
      rw [ua] at S
      exact ⟨.ref s.heap.objs.size,_,I.laid (fun b o e=>k b o (Heap.lt_size e) e) (Nat.le_refl _) (show ObjOk X.prog X.w _ _ _ (t_ X.w s.heap.objs.size (io (jv x))) from ⟨S,S.obj,fun h1 h2 T kk=>T.at' kk⟩),rfl,q _ (I.hok.fresh (Nat.le_refl _))⟩
def vK (w:World):List V→Hp→VK→Prop:=fun xs H Q=>∃(a:Addr) (ks:List Str),xs=[.ref a]∧H a=some (t_ w a ks)∧ks.length < 64∧∀l,H l=none→Q (.ref l) (dg H l (.lst ((kA ks).map V.str)))
theorem n8 (hc:X.calm=true):CallR X (.builtin "sorted") (vK X.w):=by
  intro pins s σ H xs us Q I r h
  obtain ⟨a,ks,rfl,ha,h64,q⟩:=h
  cases r with
  | cons r rr=>
    cases rr
    cases r
    obtain ⟨S,_,_⟩:ObjOk X.prog X.w H s.heap a (t_ X.w a ks):=I.hok a _ ha
    refine NhSet.rf (I.ok.hd hc) S h64 fun s' l out e ss' k g o hl he b1 b2 b3=>?_
    have:=qW b2 b3
    subst this
    have new:ObjOk X.prog X.w (dg H l (.lst ((kA ks).map V.str))) s'.heap l (.lst ((kA ks).map V.str)):=⟨by rw [List.length_map,mX];exact gu (by lia),out.toList,e,pL b1,he⟩
    exact ⟨.ref l,_,I.call' (ch:=[]) o (Un.laid k hl (I.hok.fresh hl)) (I.hok.laid k hl new) (by rw [g];exact I.bare) (fun _ z=>nomatch z),rfl,q _ (I.hok.fresh hl)⟩
theorem jf (hc:X.calm=true) (hg:Gl X "sorted") (hm:X.mg "sorted"=none) (hg2:Gl X "set") (hm2:X.mg "set"=none) (ha:EX X e m1 f) (he:starEach [e] X.env=[(false,eval e X.env)]:=by rfl)
    (he2:starEach [.Call (.Name "set" p2) [e] [] pos2] X.env=[(false,eval (.Call (.Name "set" p2) [e] [] pos2) X.env)]:=by rfl):EX X (.Call (.Name "sorted" p) [.Call (.Name "set" p2) [e] [] pos2] [] pos) m1 (dI f):=by
  refine bA (kY (n8 hc) hg hm PyProof.Rows.boot_sorted (dE (jS (ub hc) hg2 hm2 PyProof.Rows.boot_set (dE ha fX he) (by decide) (by decide) he rfl) fX he2) (by decide) (by decide) he2 rfl) fun σ H Q z=>?_
  obtain ⟨B,E,xs,Xs,res,E',fr,cl,e,q⟩:=z
  obtain ⟨⟨s,E1⟩,e1,e⟩:=Option.bind_eq_some_iff.mp e
  refine ⟨B,E,xs,Xs,s,E1,fr,cl,e1,fun v1 H1 ⟨F,A,fr1⟩=>?_⟩
  obtain ⟨A',fr2⟩:=fr1.pop
  simp only at e
  split at e
  · rename_i ds ld
    obtain ⟨ss,es,e⟩:=Option.bind_eq_some_iff.mp e
    split at e
    · rename_i hc
      cases e
      have r:=(fr1.look0 ld).1
      cases r with
      | lst h1 h2=>
        have:=kO h2 es
        subst this
        exact .inl ⟨_,ss,rfl,h1,hc.1,fun a ha=>⟨a,_,rfl,bR,hc.2,fun l hl=>q _ _ ⟨_,_,(fr2.grow (fM ha _)).newl (iD _) hl⟩⟩⟩
    · cases e
  · rename_i x ld
    split at e
    · rename_i hc
      cases e
      have r:=(fr1.look0 ld).1
      cases r
      exact .inr ⟨x,rfl,hc.1,fun a ha=>⟨a,_,rfl,bR,hc.2,fun l hl=>q _ _ ⟨_,_,(fr2.grow (fM ha _)).newl (iD _) hl⟩⟩⟩
    · cases e
  · cases e
end
end PL
namespace PL
open PySem L2 Nh
theorem xr {X:Cx} {x:Str} {i:Int} {t:Tok} {pos:Pos} (hg:Gl X x) (hm:X.mg x=some (.int i t)) (hd:(x == ("__debug__":Str))=false:=by decide):EX X (.Name x pos) false (pC (.int i)):=by
  refine bA (rS (v:= .int i) hg hm ⟨t,rfl⟩ hd) fun σ H Q z=>?_
  obtain ⟨B,E,xs,Xs,res,E',⟨F,A,fr⟩,cl,e,q⟩:=z
  cases e
  exact q _ _ ⟨F,A,fr.push ⟨rfl,_,rfl, .int _⟩⟩
theorem xt {X:Cx} {x y:Str} {t:Tok} {pos:Pos} (hg:Gl X x) (hm:X.mg x=some (.str y t)) (hd:(x == ("__debug__":Str))=false:=by decide):EX X (.Name x pos) false (pC (.str y)):=by
  refine bA (rS (v:= .str y) hg hm ⟨t,rfl⟩ hd) fun σ H Q z=>?_
  obtain ⟨B,E,xs,Xs,res,E',⟨F,A,fr⟩,cl,e,q⟩:=z
  cases e
  exact q _ _ ⟨F,A,fr.push ⟨rfl,_,rfl, .str _⟩⟩
end PL
namespace Nh
open PySem L2
theorem NailsOk.stp {r:List Pc} {p:Pc} (h:NailsOk r) (hp:p.1 < 128):NailsOk (NH.stp r p):=by
  cases r with
  | nil=>
    show NailsOk (if p.2=0 then [] else [p])
    split
    · exact h
    · intro q hq;rw [List.mem_singleton.mp hq];exact hp
  | cons x r=>
    rw [NH.gU]
    intro q hq
    rcases List.mem_append.mp hq with h1 | h1
    · unfold NH.uJ at h1
      split at h1
      · split at h1
        · cases h1
        · rw [List.mem_singleton.mp h1];exact hp
      · split at h1
        · rw [List.mem_singleton.mp h1];exact h x (List.mem_cons_self ..)
        · rcases List.mem_cons.mp h1 with h2 | h2
          · rw [h2];exact hp
          · rw [List.mem_singleton.mp h2];exact h x (List.mem_cons_self ..)
    · exact h q (List.mem_cons_of_mem _ h1)
theorem NailsOk.foldl:∀(c:List Pc) {r:List Pc},NailsOk r→NailsOk c→NailsOk (c.foldl NH.stp r)
  | [],_,h,_=>h
  | p::c,_,h,hc=>NailsOk.foldl c (h.stp (hc p (List.mem_cons_self ..))) fun q hq=>hc q (List.mem_cons_of_mem _ hq)
theorem NailsOk.reverse {c:List Pc} (h:NailsOk c):NailsOk c.reverse:=fun p hp=>h p (List.mem_reverse.mp hp)
theorem NailsOk.short {c:List Pc} (h:NailsOk c):NailsOk (NH.short c):=(NailsOk.foldl c (fun _ z=>by cases z) h).reverse
theorem m6:NailsOk []:=fun _ z=>by cases z
end Nh
namespace Nh
open PySem L2 PL
def l4 (i:Int):Nat:=[97,98,99,122].getD i.toNat 97
theorem A8:∀j,j < 26→(Str.ofString "abcdefghijklmnopqrstuvwxyz").cps.toList[j]? =some (97+j):=by decide+kernel
theorem B_ (v:Int):atI (Str.ofString "abcdefghijklmnopqrstuvwxyz").cps.toList (v % 26)=some (97+(v % 26).toNat):=by
  have h0:=Int.emod_nonneg v (show (26:Int)≠0 by decide)
  have h1:=Int.emod_lt_of_pos v (show (0:Int) < 26 by decide)
  rw [zo h0]
  exact A8 _ (by lia)
theorem zB:(Str.ofString "abcdefghijklmnopqrstuvwxyz").length≤1000000:=by decide+kernel
theorem n_ {i j:Int} (h1: -(2 ^ 64) < j) (h2:j < 2 ^ 64):fN i j=true:=by
  simp only [fN,Bool.or_eq_true,decide_eq_true_eq]
  exact .inl (.inr ⟨h1,h2⟩)
theorem jz {i j:Int} (h1: -(2 ^ 64) < i) (h2:i < 2 ^ 64):fN i j=true:=by
  simp only [fN,Bool.or_eq_true,decide_eq_true_eq]
  exact .inl (.inl ⟨h1,h2⟩)
theorem pT {j:Int} (h1:0 < j) (h2:j < 2 ^ 200):fb j=true:=decide_eq_true ⟨h1,h2⟩
theorem aT (i j:Int):wn (.int i) (.int j)=some (decide (i=j)):=rfl
theorem gc (i j:Str):wn (.str i) (.str j)=some (decide (i=j)):=rfl
theorem pU {c d:List Pc} (hc:NailsOk c) (hd:NailsOk d):wn (.list (c.map aq)) (.list (d.map aq))=some (decide (c=d)):=by
  have e:wn (.list (c.map aq)) (.list (d.map aq))=(if SeqAt.shaped (jj c)&&SeqAt.shaped (jj d) then some (PyData.eqv (jj c) (jj d)) else none):=rfl
  rw [e,km hc,km hd,u7]
  rfl
theorem jA {c:List Pc} (hc:NailsOk c):wn (.list (c.map aq)) (.list [])=some (decide (c=[])):=pU hc m6
theorem kP (a b:Nat):((⟨#[a]⟩:Str)=⟨#[b]⟩)=(a=b):=propext ⟨fun h=>by
  injection h with h
  simpa using congrArg Array.toList h,fun h=>by rw [h]⟩
end Nh
namespace L2
open PySem PySem.Spec PyProof.Rows
def sI (K:PySem.W.Frag) (h:Heap):Prop:=∀b q,kG K b=some q→h.get? b=some (PySem.W.tabObj #[])∧(∃c,PySem.W.CodeHd h c b)∧K.lookup b=none
def dD (K:PySem.W.Frag) (a:Addr) (so:Option HO):Hp:=fun b=>match kG K b with
  | some q=>some (.tbl q)
  | none=>if b=a then so else none
theorem rh {K:PySem.W.Frag} {a b:Addr} {so:Option HO} {q:Str} (e:kG K b=some q):dD K a so b=some (.tbl q):=by unfold dD;rw [e]
theorem uc {K:PySem.W.Frag} {a:Addr} {so:Option HO} (e:kG K a=none):dD K a so a=so:=by unfold dD;rw [e];exact if_pos rfl
theorem fR {K:PySem.W.Frag} {a b:Addr} {so:Option HO} {u:HO} (e:dD K a so b=some u):(∃q,kG K b=some q∧u= .tbl q)∨(b=a∧so=some u):=by
  unfold dD at e
  split at e
  · rename_i q h;cases e;exact .inl ⟨q,h,rfl⟩
  · by_cases hb:b=a
    · rw [if_pos hb] at e;exact .inr ⟨hb,e⟩
    · rw [if_neg hb] at e;cases e
section
variable {P:Program} {w:World} {K:PySem.W.Frag} {mg mb:Str→Option Value} {CX:wl} {k:Nat} {fa a:Addr} {fd:FuncData} {x:Str} {sp:Sp} {s₁:Shared} {vs:List Value} {ns:List Int}
theorem xu (KX:K.In s₁.heap) (hns:s₁.heap.Ns mainGlobals mg) (hb:s₁.heap.Ns builtinsNs mb) (hbb:∀x:Str,x≠"__name__"→mb x=bootBuiltins x) (hlim:s₁.heap.NoLimit) (hg:s₁.gens=#[]) (hbm:∃bm ob,mg "__builtins__"=some (.ref bm)∧bm≠builtinsNs∧s₁.heap.get? bm=some ob∧ob.cls= .type "module"∧ob.dict=some builtinsNs∧ob.data= .plain) (hT:sI K s₁.heap)
    (ha:s₁.heap.get? a=some {cls:= .type "list",data:= .seq vs.toArray}) (hi:IntsAre vs ns) (hl:ns.length≤sizeLine) (hr:Room k callerA)
    (F:∀base:Heap,K.In base→base.Ns mainGlobals mg→FnOk P w K mg base CX k fa fd [x] sp) (hbind:∀(s:Shared) (u:Value),BindsTo s fd ⟨[u],[]⟩ [(x,u)])
    (hsp:∀H:Hp,SqL K H a (ns.map V.int)→sp [.ref a] H (fun v _=>v= .bl true) fun _ _ _=>False)
    (hCX:∀H e s',CX [] H s₁ (fun _ _ _=>False) e s'→False):
    codeAny (model P w) callerA (.call (.ref fa) ⟨[.ref a],[]⟩) (fun r s'=>r= .ok (.ret (.bool true))∧OldK s₁.heap s'.heap∧s'.os=s₁.os∧AllBare s'.gens) s₁:=by
  have rv:=iL hi
  have lenV:=hi.length
  have tabA:kG K a=none:=by
    cases q:kG K a with
    | none=>rfl
    | some z=>
      have e:=(hT a z q).1
      rw [ha] at e
      cases e
  have main:∀so:Option HO,(so=none∨(so=some (.frz {cls:= .type "list",data:= .seq vs.toArray} (.lst (ns.map V.int)))∧K.lookup a=none))→SqL K (dD K a so) a (ns.map V.int)→
      codeAny (model P w) callerA (.call (.ref fa) ⟨[.ref a],[]⟩) (fun r s'=>r= .ok (.ret (.bool true))∧OldK s₁.heap s'.heap∧s'.os=s₁.os∧AllBare s'.gens) s₁:=by
    intro so hso hS
    have hok:HOk P w (dD K a so) s₁.heap:=fun b u e=>by
      rcases fR e with ⟨q,e1,rfl⟩ | ⟨rfl,e1⟩
      · exact ObjOk.tbl0 (hT b q e1).1
      · rcases hso with z | ⟨z,_⟩
        · rw [z] at e1;cases e1
        · rw [z] at e1;cases e1
          exact ⟨ha,by rw [List.length_map];exact hl,vs,_,rv,ha⟩
    have free:∀{b:Addr} {o:Obj} {es:Array DictEntry} {ep:Nat},s₁.heap.get? b=some o→o.data= .dict es ep→dD K a so b=none:=fun {b o es ep} e d=>by
      cases q:dD K a so b with
      | none=>rfl
      | some u=>
        rcases fR q with ⟨z,e1,_⟩ | ⟨rfl,_⟩
        · rw [(hT b z e1).1] at e;cases e;cases d
        · rw [ha] at e;cases e;cases d
    have nsK:∀{b:Addr} {m:Str→Option Value},s₁.heap.Ns b m→(oS s₁.heap (dD K a so)).Ns b m:=fun {b m} ⟨o,es,ep,e,d,r⟩=>⟨o,es,ep,kU e (free e d),d,r⟩
    have kin:K.In (oS s₁.heap (dD K a so)):=fun b o e=>kU (KX b o e) (by
      cases q:dD K a so b with
      | none=>rfl
      | some u=>
        rcases fR q with ⟨z,e1,_⟩ | ⟨rfl,e1⟩
        · rw [(hT b z e1).2.2] at e;cases e
        · rcases hso with z | ⟨_,z⟩
          · rw [z] at e1;cases e1
          · rw [z] at e;cases e)
    have bmK:∃bm ob,mg "__builtins__"=some (.ref bm)∧bm≠builtinsNs∧(oS s₁.heap (dD K a so)).get? bm=some ob∧ob.cls= .type "module"∧ob.dict=some builtinsNs∧ob.data= .plain:=by
      obtain ⟨bm,ob,c1,c2,c3,c4,c5⟩:=hbm
      refine ⟨bm,ob,c1,c2,kU c3 ?_,c4,c5⟩
      cases q:dD K a so bm with
      | none=>rfl
      | some u=>
        rcases fR q with ⟨z,e1,_⟩ | ⟨rfl,_⟩
        · rw [(hT bm z e1).1] at c3;cases c3;cases c4
        · rw [ha] at c3
          cases c3
          injection c4 with c6
          exact absurd c6 (by decide)
    have e0:Env0 P w K mg (oS s₁.heap (dD K a so)) callerA [] s₁ (dD K a so):=
      ⟨rfl,⟨kin,nsK hns,⟨mb,nsK hb,hbb⟩,let ⟨mc,h1,h2⟩:=hlim;⟨mc,nsK h1,h2⟩,bmK⟩,fun b o e=>wq e,Nat.le_of_eq (ti _ _),trivial,fun b hb=>absurd (show b∈([]:List Addr) from hb) (by simp),hok, .of_eq hg,fun b q e=>rh e⟩
    refine codeAny_mono ((F _ kin (nsK hns)).run callerA [] s₁ _ ⟨[.ref a],[]⟩ [.ref a] [.ref a] _ _ hr e0 (hbind s₁ (.ref a)) (.cons rfl .nil) (hsp _ hS)) fun r s' h=>?_
    cases r with
    | error e=>exact (hCX _ e s' h).elim
    | ok fl=>
      cases fl with
      | next=>exact False.elim h
      | brk=>exact False.elim h
      | cont=>exact False.elim h
      | ret u=>
        obtain ⟨v,H',os,bare,un,hok',r',q⟩:=h
        have q':v= .bl true:=q
        subst q'
        obtain rfl:u=Value.bool true:=r'
        have nofs:∀b,b∉uI ([]:List Env):=fun b z=>absurd (show b∈([]:List Addr) from z) (by simp)
        have step:∀b o,s₁.heap.get? b=some o→asItWas s₁.heap s'.heap b o∧∃o',s'.heap.get? b=some o':=fun b o e=>by
          cases q:dD K a so b with
          | none=>exact ⟨.inl (un.keep b o e q (nofs b) (by simp)),_,un.keep b o e q (nofs b) (by simp)⟩
          | some u=>
            rcases fR q with ⟨z,e1,rfl⟩ | ⟨rfl,e1⟩
            · obtain ⟨t1,⟨c,t2⟩,_⟩:=hT b z e1
              obtain ⟨ps,p1,_⟩:=hok' b _ (un.tbls b z q)
              rw [t1] at e
              cases e
              exact ⟨.inr (.inl ⟨(t2.tab t1).isCodeTable,rfl,#[],ps,rfl,by simpa using p1⟩),_,p1⟩
            · rcases hso with z | ⟨z,_⟩
              · rw [z] at e1;cases e1
              · rw [z] at e1;cases e1
                have z2:=un.frzs b _ _ q
                obtain ⟨e2,_⟩:=hok' b _ z2
                rw [ha] at e;cases e
                exact ⟨.inl e2,_,e2⟩
        exact ⟨rfl,⟨fun b o e=>(step b o e).1,fun b o e=>(step b o e).2⟩,os,bare⟩
  cases hk:K.lookup a with
  | some o=>
    have e:=KX a o hk
    rw [ha] at e
    cases e
    exact main none (.inl rfl) (.inr ⟨_,vs.toArray,_,hk,rfl,rfl,rfl,by rw [List.size_toArray,lenV];exact hl,by simpa using rv⟩)
  | none=>exact main _ (.inr ⟨rfl,hk⟩) (.inl (.inr ⟨_,uc tabA⟩))
end
theorem vL {l:PySem.W.OpenLaw} {n k:Nat} {q:Program} {loose:List Str} {XP:(Str→Option Value)→Heap→Prop} {YP:World→Heap→Prop} {d:DefRec} {K:Params→PySem.W.Frag} {CX:World→wl} {sp:World→Sp} {x:Str}
    (hn:l.most=some n) (hn2:n≤sizeLine) (hdf:d.params.defaults=[]) (hr:Room k callerA)
    (hY:∀(w:World) (h:Heap),YP w h→(K w.params).In h∧sI (K w.params) h)
    (F:∀(w:World) (mg:Str→Option Value) (fa:Addr) (h:Heap),(K w.params).In h→h.Ns mainGlobals mg→mg d.name=some (.ref fa)→
      ∃fd:FuncData,(∀(s:Shared) (u:Value),BindsTo s fd ⟨[u],[]⟩ [(x,u)])∧
        ∀base:Heap,(K w.params).In base→base.Ns mainGlobals mg→FnOk l.prog w (K w.params) mg base (CX w) k fa fd [x] (sp w))
    (hsp:∀(w:World) (H:Hp) (a:Addr) (ns:List Int),ns.length≤n→SqL (K w.params) H a (ns.map V.int)→sp w [.ref a] H (fun v _=>v= .bl true) fun _ _ _=>False)
    (hCX:∀(w:World) (H:Hp) (s:Shared) (e:Value) (s':Shared),CX w [] H s (fun _ _ _=>False) e s'→False):
    PySem.W.WalkO q loose XP YP l.row.toRowW d [] (fun f vs=>PySem.call f vs):=by
  refine Att.oZ hn hdf fun w s₀ s₁ mg mb fa o pm cd doc a vs ns G Y ho hd hcd hmg hobj hints hlen hg=>?_
  obtain ⟨KX,KT⟩:=hY w _ Y
  obtain ⟨fd,hb,hF⟩:=F w mg fa _ KX G.T.g hmg
  exact xu KX G.T.g G.T.b G.T.builtins G.T.nolimit hg G.T.bmain KT hobj hints (Nat.le_trans hlen hn2) hr hF hb (fun H hS=>hsp w H a ns hlen hS) fun H e s'=>hCX w H s₁ e s'
end L2
namespace NH
variable {α:Type} [DecidableEq α]
end NH
namespace NH
section
variable {α:Type} [DecidableEq α]
def gJ (P:α→Bool) (c:List (α×Int)):List (α×Int):=c.filter fun p=>P p.1
theorem vM (P:α→Bool) (r:List (α×Int)) (h:Red r) (p:α×Int):short (gJ P (stp r p))=if P p.1 then stp (short (gJ P r)) p else short (gJ P r):=by
  cases r with
  | nil=>
    by_cases k:p.2=0
    · obtain ⟨n,a⟩:=p
      simp only at k
      subst k
      simp [stp,gJ,short,stk]
    · by_cases hp:P p.1=true <;> simp [stp,gJ,short,stk,k,hp]
  | cons x r=>
    rw [gU]
    by_cases e:x.1=p.1
    · have hx:gJ P (x::r)=if P p.1 then x::gJ P r else gJ P r:=by
        unfold gJ
        rw [List.filter_cons,e]
      by_cases hp:P p.1=true
      · rw [hx,if_pos hp,if_pos hp,gr]
        have s:=wS (gV (gJ P r)) p.1 x.2 p.2
        have ex:(p.1,x.2)=x:=by rw [←e]
        rw [ex] at s
        rw [s]
        unfold uJ
        rw [if_pos e]
        by_cases z:x.2+p.2=0
        · rw [if_pos z,z,o3 (gV _)]
          rfl
        · rw [if_neg z]
          show short (gJ P ((p.1,x.2+p.2)::r))=_
          unfold gJ
          rw [List.filter_cons,if_pos hp,gr]
      · rw [hx,if_neg hp,if_neg hp]
        unfold uJ
        rw [if_pos e]
        by_cases z:x.2+p.2=0
        · rw [if_pos z];rfl
        · rw [if_neg z]
          show short (gJ P ((p.1,x.2+p.2)::r))=_
          unfold gJ
          rw [List.filter_cons,if_neg hp]
    · unfold uJ
      rw [if_neg e]
      by_cases k:p.2=0
      · rw [if_pos k]
        by_cases hp:P p.1=true
        · rw [if_pos hp]
          obtain ⟨n,a⟩:=p
          simp only at k
          subst k
          rw [o3 (gV _)]
          rfl
        · rw [if_neg hp];rfl
      · rw [if_neg k]
        show short (gJ P (p::x::r))=_
        by_cases hp:P p.1=true
        · rw [if_pos hp,←gr]
          unfold gJ
          rw [List.filter_cons,if_pos hp]
        · rw [if_neg hp]
          unfold gJ
          rw [List.filter_cons,if_neg hp]
theorem lN (P:α→Bool):∀c:List (α×Int),short (gJ P (short c))=short (gJ P c)
  | []=>rfl
  | p::c=>by
    rw [gr,vM P _ (gV c),lN P c]
    by_cases hp:P p.1=true
    · rw [if_pos hp,←gr]
      unfold gJ
      rw [List.filter_cons,if_pos hp]
    · rw [if_neg hp]
      unfold gJ
      rw [List.filter_cons,if_neg hp]
end
end NH
namespace NH
variable {α:Type} [DecidableEq α]
end NH
namespace Nh
open PySem L2 PL
def CordOk (c:List Pc):Prop:=∀p∈c,p.1 < 128∧p.2.natAbs < 2 ^ 100
theorem CordOk.n {c:List Pc} (h:CordOk c):NailsOk c:=fun p hp=>(h p hp).1
end Nh
namespace NH
def c_ (w:List Nat):Nat→Nat
  | 0=>0
  | n+1=>c_ w n+if 97+n∈w then 2 ^ n else 0
theorem m7 (w:List Nat):∀n,c_ w n < 2 ^ n
  | 0=>by simp [c_]
  | n+1=>by
    have:=m7 w n
    rw [c_,Nat.pow_succ]
    split <;> lia
theorem iQ (w:List Nat):∀n i,(c_ w n).testBit i=(decide (i < n)&&decide (97+i∈w))
  | 0,i=>by simp [c_]
  | n+1,i=>by
    have ih:=iQ w n i
    have lt:=m7 w n
    rw [c_]
    by_cases h:97+n∈w
    · rw [if_pos h,Nat.add_comm]
      by_cases e:i=n
      · subst e
        rw [Nat.testBit_two_pow_add_eq,ih]
        simp [h]
      · by_cases l:i < n
        · rw [Nat.testBit_two_pow_add_gt l,ih]
          simp [l,show i < n+1 by exact Nat.lt_succ_of_lt ‹_›]
        · have big:2 ^ n+c_ w n < 2 ^ i:=by
            have:2 ^ (n+1)≤2 ^ i:=Nat.pow_le_pow_right (by decide) (by lia)
            rw [Nat.pow_succ] at this
            lia
          rw [Nat.testBit_lt_two_pow big]
          simp [show ¬i < n+1 by lia]
    · rw [if_neg h,Nat.add_zero,ih]
      by_cases e:i=n
      · subst e;simp [h]
      · by_cases l:i < n
        · simp [l,show i < n+1 by exact Nat.lt_succ_of_lt ‹_›]
        · simp [l,show ¬i < n+1 by lia]
def cP (w:List Nat):Nat:=c_ w 26
def ud (w:List Nat):Prop:=∀a∈w,97≤a∧a < 97+26
theorem ue {a b:List Nat} (ha:ud a):cP a &&& cP b=cP a↔∀x∈a,x∈b:=by
  unfold cP
  constructor
  · intro h x hx
    have l:=ha x hx
    have:=congrArg (fun n=>n.testBit (x - 97)) h
    simp only [Nat.testBit_and,iQ,show 97+(x - 97)=x by lia,show x - 97 < 26 by lia,hx] at this
    simpa using this
  · intro h
    refine Nat.eq_of_testBit_eq fun i=>?_
    rw [Nat.testBit_and,iQ,iQ]
    by_cases m:97+i∈a
    · simp [m,h _ m]
    · simp [m]
end NH
namespace NhLS
set_option autoImplicit false
open PySem PyProof.Rows
def xv:Bool→Keyed→Array Keyed→Nat→Nat→Nat→StateT SortSt Sem (Option Nat):=sortPriv% PySem.Builtin.gallop
def vN:Array Keyed→Array Keyed→StateT SortSt Sem (Array Keyed):=sortPriv% PySem.Builtin.mergeLo
def vO:Array Keyed→Array Keyed→StateT SortSt Sem (Array Keyed):=sortPriv% PySem.Builtin.mergeHi
def xw:Keyed:=(Value.none,Value.none)
def at' (a:Array Keyed) (i:Nat):Keyed:=a.getD i xw
theorem A9 {a:Array Keyed} {i:Nat} (h:i < a.size):a[i]? =some (at' a i):=by simp [at',Array.getD,h]
structure Cmp (prog:Program) (w:World) (A:Around) (s:Shared) (κ:SortKind) (O:KeyOrd) (key:Keyed→O.α) (dom:Keyed→Prop):Prop where
  ask:∀(E:Value→Shared→Prop) (x y:Keyed) (Q:Bool→Shared→Prop),dom x→dom y→Q (O.blt (key x) (key y)) s→wpAny (model prog w) A (keyLt' κ x.1 y.1) Q E s
section
variable {prog:Program} {w:World} {A:Around} {E:Value→Shared→Prop} {s:Shared} {κ:SortKind} {O:KeyOrd} {key:Keyed→O.α} {dom:Keyed→Prop} {st:SortSt}
theorem vP (C:Cmp prog w A s κ O key dom) {x y:Keyed} {Q:Option Bool→SortSt→Prop} (hk:kindOf st=κ) (dx:dom x) (dy:dom y) (h:Q (some (O.blt (key x) (key y))) st):wpS (model prog w) A E s (lt' x y) Q st:=by
  rw [lt'_eq]
  refine wpS_bind (wpS_get ?_)
  rw [hk]
  refine wpS_bind (wpS_lift (wpAny_attempt (C.ask _ _ _ _ dx dy ⟨rfl,?_⟩)))
  exact wpS_pure h
theorem gD {arr:Array Keyed} {i:Nat} {Q:Keyed→SortSt→Prop} (hi:i < arr.size) (h:Q (at' arr i) st):wpS (model prog w) A E s (elem' arr i) Q st:=by
  rw [elem'_eq,A9 hi]
  exact wpS_pure h
def gK (O:KeyOrd) (key:Keyed→O.α) (left:Bool) (k:Keyed) (arr:Array Keyed) (base i:Nat):Bool:=if left then O.blt (key (at' arr (base+i))) (key k) else !O.blt (key k) (key (at' arr (base+i)))
theorem g5 (C:Cmp prog w A s κ O key dom) {left:Bool} {k:Keyed} {arr:Array Keyed} {base n hint:Nat} {Q:Option Nat→SortSt→Prop} (hk:kindOf st=κ) (hh:hint < n) (hb:base+n≤arr.size) (dk:dom k) (da:∀i,i < arr.size→dom (at' arr i))
    (mono:∀i j,i < j→j < n→gK O key left k arr base j=true→gK O key left k arr base i=true)
    (h:∀m,m≤n→(∀i,i < m→gK O key left k arr base i=true)→(∀i,m≤i→i < n→gK O key left k arr base i=false)→Q (some m) st):wpS (model prog w) A E s (xv left k arr base n hint) Q st:=by
  have bey:∀{i:Nat} {Q':Option Bool→SortSt→Prop},i < n→Q' (some (gK O key left k arr base i)) st→wpS (model prog w) A E s (elem' arr (base+i) >>= fun x=>if left=true then lt' x k else (lt' k x >>= fun r=>pure (r.map (!·)))) Q' st:=by
    intro i Q' hi hq
    refine wpS_bind (gD (by lia) ?_)
    have dx:=da (base+i) (by lia)
    cases left with
    | true=>exact vP C hk dx dk hq
    | false=>exact wpS_bind (vP C hk dk dx (wpS_pure hq))
  refine wpS_bind (bey hh ?_)
  have up:∀i j,i≤j→j < n→gK O key left k arr base j=true→gK O key left k arr base i=true:=fun i j hij hj e=>by
    by_cases z:i=j
    · rw [z];exact e
    · exact mono i j (by exact Nat.lt_of_le_of_ne ‹_› ‹_›) hj e
  have dn:∀i j,i≤j→j < n→gK O key left k arr base i=false→gK O key left k arr base j=false:=fun i j hij hj e=>by
    cases z:gK O key left k arr base j with
    | false=>rfl
    | true=>rw [up i j hij hj z] at e;cases e
  have fin:∀{body:Nat→Option (Option Nat)×Nat×Nat→StateT SortSt Sem (ForInStep (Option (Option Nat)×Nat×Nat))} {cont:Option (Option Nat)×Nat×Nat→StateT SortSt Sem (Option Nat)},
      (∀lo,Q (some lo) st→wpS (model prog w) A E s (cont (none,lo,lo)) Q st)→
      (∀x lo hi (R:ForInStep (Option (Option Nat)×Nat×Nat)→SortSt→Prop),lo≥hi→R (.done (none,lo,hi)) st→wpS (model prog w) A E s (body x (none,lo,hi)) R st)→
      (∀x lo hi (R:ForInStep (Option (Option Nat)×Nat×Nat)→SortSt→Prop),lo < hi→hi≤n→R (.yield (if gK O key left k arr base (lo+(hi - lo) / 2)=true then (none,lo+(hi - lo) / 2+1,hi) else (none,lo,lo+(hi - lo) / 2))) st→wpS (model prog w) A E s (body x (none,lo,hi)) R st)→
      ∀lo hi,lo≤hi→hi≤n→(∀i,i < lo→gK O key left k arr base i=true)→(∀i,hi≤i→i < n→gK O key left k arr base i=false)→
      wpS (model prog w) A E s (forIn [0:n] (none,lo,hi) body >>= cont) Q st:=by
    intro body cont b3 b1 b2 lo hi f1 f2 f3 f4
    refine wpS_bind (wpS_mono (wpS_forRange (I:=fun x c st'=>st'=st∧∃lo hi,c=(none,lo,hi)∧lo≤hi∧hi≤n∧hi+x≤n+lo∧(∀i,i < lo→gK O key left k arr base i=true)∧(∀i,hi≤i→i < n→gK O key left k arr base i=false))
      (Q:=fun c st'=>st'=st∧∃lo,c=(none,lo,lo)∧lo≤n∧(∀i,i < lo→gK O key left k arr base i=true)∧(∀i,lo≤i→i < n→gK O key left k arr base i=false)) ?s1 ?s2 ⟨rfl,lo,hi,rfl,f1,f2,by exact Nat.le_add_right_of_le ‹_›,f3,f4⟩) ?s3)
    case s2=>
      rintro c st' ⟨rfl,l,o,rfl,h1,h2,h3,h4,h5⟩
      have:l=o:=by lia
      subst this
      exact ⟨rfl,l,rfl,h2,h4,h5⟩
    case s3=>
      rintro c st' ⟨rfl,l,rfl,h2,h4,h5⟩
      exact b3 l (h l h2 h4 h5)
    case s1=>
      rintro x c st' - hx ⟨rfl,l,o,rfl,h1,h2,h3,h4,h5⟩
      by_cases z:l≥o
      · have:l=o:=by exact Nat.le_antisymm ‹_› ‹_›
        subst this
        exact b1 x l l _ z ⟨rfl,l,rfl,h2,h4,h5⟩
      · refine b2 x l o _ (by exact Nat.lt_of_not_le ‹_›) h2 ?_
        cases e:gK O key left k arr base (l+(o - l) / 2) with
        | true=>exact ⟨rfl,_,_,rfl,by lia,by assumption,by lia,fun i hi=>up i _ (by exact Nat.le_of_lt_succ ‹_›) (by lia) e,h5⟩
        | false=>exact ⟨rfl,_,_,rfl,by exact Nat.le_add_right _ _,by lia,by lia,h4,fun i hi hn=>dn _ i hi hn e⟩
  cases eh:gK O key left k arr base hint with
  | true=>
    dsimp only
    rw [if_pos rfl]
    refine wpS_bind (wpS_mono (wpS_forRange (I:=fun x c st'=>st'=st∧∃l o,c=(none,l,o)∧l < o∧x < o∧hint+l < n∧gK O key left k arr base (hint+l)=true)
      (Q:=fun c st'=>st'=st∧∃l o,c=(none,l,o)∧l < o∧hint+l < n∧gK O key left k arr base (hint+l)=true∧(n - hint≤o∨gK O key left k arr base (hint+o)=false)) ?s1 ?s2 ⟨rfl,0,1,rfl,by exact Nat.lt_succ_self _,by exact Nat.lt_succ_self _,by assumption,eh⟩) ?s3)
    case s2=>
      rintro c st' ⟨rfl,l,o,rfl,h1,h2,h3,h4⟩
      exact ⟨rfl,l,o,rfl,h1,h3,h4, .inl (by lia)⟩
    case s1=>
      rintro x c st' - hx ⟨rfl,l,o,rfl,h1,h2,h3,h4⟩
      dsimp only
      by_cases z:o≥n - hint
      · rw [if_pos z]
        exact wpS_pure ⟨rfl,l,o,rfl,h1,h3,h4, .inl z⟩
      · rw [if_neg z]
        refine wpS_bind (bey (by lia) ?_)
        cases e:gK O key left k arr base (hint+o) with
        | true=>exact wpS_pure ⟨rfl,o,2*o+1,rfl,by lia,by lia,by lia,e⟩
        | false=>exact wpS_pure ⟨rfl,l,o,rfl,h1,h3,h4, .inr e⟩
    case s3=>
      rintro c st' ⟨rfl,l,o,rfl,h1,h3,h4,h5⟩
      dsimp only
      have f1:hint+l+1≤hint+min o (n - hint):=by lia
      have f2:hint+min o (n - hint)≤n:=by lia
      have f3:∀i,i < hint+l+1→gK O key left k arr base i=true:=fun i hi=>up i _ (by exact Nat.le_of_lt_succ ‹_›) h3 h4
      have f4:∀i,hint+min o (n - hint)≤i→i < n→gK O key left k arr base i=false:=fun i hi hn=>by
        rcases h5 with h5 | h5
        · lia
        · exact dn (hint+o) i (by lia) hn h5
      revert f1 f2 f3 f4
      generalize hint+l+1=lo
      generalize hint+min o (n - hint)=hi
      refine fin (fun lo hq=>wpS_pure hq) (fun x lo hi R hz hR=>?_) (fun x lo hi R hz hn hR=>?_) lo hi
      · dsimp only
        rw [if_pos hz]
        exact wpS_pure hR
      · dsimp only
        rw [if_neg (by exact Nat.not_le.mpr ‹_›)]
        refine wpS_bind (bey (by lia) ?_)
        cases e:gK O key left k arr base (lo+(hi - lo) / 2) with
        | true=>rw [e] at hR;exact wpS_pure hR
        | false=>rw [e] at hR;exact wpS_pure hR
  | false=>
    dsimp only
    rw [if_neg (by simp)]
    refine wpS_bind (wpS_mono (wpS_forRange (I:=fun x c st'=>st'=st∧∃l o,c=(none,l,o)∧l < o∧x < o∧l≤hint∧gK O key left k arr base (hint - l)=false)
      (Q:=fun c st'=>st'=st∧∃l o,c=(none,l,o)∧l < o∧l≤hint∧gK O key left k arr base (hint - l)=false∧(hint+1≤o∨gK O key left k arr base (hint - o)=true)) ?s1 ?s2 ⟨rfl,0,1,rfl,by exact Nat.lt_succ_self _,by exact Nat.lt_succ_self _,by exact Nat.zero_le _,eh⟩) ?s3)
    case s2=>
      rintro c st' ⟨rfl,l,o,rfl,h1,h2,h3,h4⟩
      exact ⟨rfl,l,o,rfl,h1,h3,h4, .inl (by lia)⟩
    case s1=>
      rintro x c st' - hx ⟨rfl,l,o,rfl,h1,h2,h3,h4⟩
      dsimp only
      by_cases z:o≥hint+1
      · rw [if_pos z]
        exact wpS_pure ⟨rfl,l,o,rfl,h1,h3,h4, .inl z⟩
      · rw [if_neg z]
        refine wpS_bind (bey (by exact Nat.lt_of_le_of_lt (Nat.sub_le _ _) ‹_›) ?_)
        cases e:gK O key left k arr base (hint - o) with
        | false=>exact wpS_pure ⟨rfl,o,2*o+1,rfl,by lia,by lia,by exact Nat.le_of_not_lt ‹_›,e⟩
        | true=>exact wpS_pure ⟨rfl,l,o,rfl,h1,h3,h4, .inr e⟩
    case s3=>
      rintro c st' ⟨rfl,l,o,rfl,h1,h3,h4,h5⟩
      dsimp only
      have f1:hint+1 - min o (hint+1)≤hint - l:=by omega
      have f2:hint - l≤n:=by lia
      have f3:∀i,i < hint+1 - min o (hint+1)→gK O key left k arr base i=true:=fun i hi=>by
        rcases h5 with h5 | h5
        · lia
        · exact up i (hint - o) (by lia) (by exact Nat.lt_of_le_of_lt (Nat.sub_le _ _) ‹_›) h5
      have f4:∀i,hint - l≤i→i < n→gK O key left k arr base i=false:=fun i hi hn=>dn _ i hi hn h4
      revert f1 f2 f3 f4
      generalize hint+1 - min o (hint+1)=lo
      generalize hint - l=hi
      refine fin (fun lo hq=>wpS_pure hq) (fun x lo hi R hz hR=>?_) (fun x lo hi R hz hn hR=>?_) lo hi
      · dsimp only
        rw [if_pos hz]
        exact wpS_pure hR
      · dsimp only
        rw [if_neg (by exact Nat.not_le.mpr ‹_›)]
        refine wpS_bind (bey (by lia) ?_)
        cases e:gK O key left k arr base (lo+(hi - lo) / 2) with
        | true=>rw [e] at hR;exact wpS_pure hR
        | false=>rw [e] at hR;exact wpS_pure hR
end
end NhLS
namespace NhLS
set_option autoImplicit false
open PySem PyProof.Rows
def Le (O:KeyOrd) (key:Keyed→O.α) (x y:Keyed):Prop:=O.blt (key y) (key x)=false
structure G (le:Keyed→Keyed→Prop) (T out ra rb:List Keyed):Prop where
  perm:(out++(ra++rb)).Perm T
  pa:(out++ra).Pairwise le
  pb:(out++rb).Pairwise le
def gR (le:Keyed→Keyed→Prop) (T l:List Keyed):Prop:=l.Perm T∧l.Pairwise le
section
variable {le:Keyed→Keyed→Prop} {T out ra rb p:List Keyed}
theorem G.takeA (g:G le T out (p++ra) rb) (h:∀x∈p,∀y∈rb,le x y):G le T (out++p) ra rb where
  perm:=by have:=g.perm;simpa [List.append_assoc] using this
  pa:=by have:=g.pa;simpa [List.append_assoc] using this
  pb:=by
    have h1:=g.pa
    have h2:=g.pb
    simp only [List.pairwise_append,List.mem_append] at h1 h2 ⊢
    refine ⟨⟨h1.1,h1.2.1.1,fun x hx y hy=>h1.2.2 x hx y (.inl hy)⟩,h2.2.1,fun x hx y hy=>?_⟩
    rcases hx with hx | hx
    · exact h2.2.2 x hx y hy
    · exact h x hx y hy
theorem G.takeB (g:G le T out ra (p++rb)) (h:∀x∈p,∀y∈ra,le x y):G le T (out++p) ra rb where
  perm:=by
    refine List.Perm.trans ?_ g.perm
    rw [List.append_assoc]
    refine List.Perm.append_left _ ?_
    rw [←List.append_assoc,←List.append_assoc]
    exact List.Perm.append_right _ List.perm_append_comm
  pb:=by have:=g.pb;simpa [List.append_assoc] using this
  pa:=by
    have h1:=g.pa
    have h2:=g.pb
    simp only [List.pairwise_append,List.mem_append] at h1 h2 ⊢
    refine ⟨⟨h2.1,h2.2.1.1,fun x hx y hy=>h2.2.2 x hx y (.inl hy)⟩,h1.2.1,fun x hx y hy=>?_⟩
    rcases hx with hx | hx
    · exact h1.2.2 x hx y hy
    · exact h x hx y hy
theorem G.endA (g:G le T out ra []):gR le T (out++ra):=⟨by have:=g.perm;simpa using this,g.pa⟩
theorem G.endB (g:G le T out [] rb):gR le T (out++rb):=⟨by have:=g.perm;simpa using this,g.pb⟩
end
section
variable {O:KeyOrd} {key:Keyed→O.α} {a b:Array Keyed} {T:List Keyed} {out:Array Keyed} {i j ia ib k:Nat} {x y z:Keyed}
theorem Le.refl (x:Keyed):Le O key x x:=O.irrefl _
theorem Le.trans (h1:Le O key x y) (h2:Le O key y z):Le O key x z:=KeyOrd.kle_trans (O:=O) (a:=key x) (b:=key y) (c:=key z) h1 h2
theorem Le.of (h:O.blt (key x) (key y)=true):Le O key x y:=KeyOrd.klt_asymm (O:=O) h
theorem g6 (h:i < a.toList.length):a.toList[i]=at' a i:=by
  have h':i < a.size:=by simpa using h
  simp [at',Array.getD,h']
theorem oa (h:y∈a.toList.drop i):∃j,i≤j∧j < a.size∧y=at' a j:=by
  obtain ⟨j,hj,e⟩:=List.mem_iff_getElem.mp h
  rw [List.length_drop,Array.length_toList] at hj
  refine ⟨i+j,by exact Nat.le_add_right _ _,by exact Nat.add_lt_of_lt_sub' ‹_›,?_⟩
  rw [List.getElem_drop] at e
  rw [←e,g6]
theorem jg (h:i < a.size):at' a i∈a.toList:=by
  rw [←g6 (by simpa using h)]
  exact List.getElem_mem _
theorem m8 (pa:a.toList.Pairwise (Le O key)) (h:i≤j) (hj:j < a.size):Le O key (at' a i) (at' a j):=by
  by_cases e:i=j
  · rw [e];exact Le.refl _
  · have:=List.pairwise_iff_getElem.mp pa i j (by simp;exact Nat.lt_of_le_of_lt ‹_› ‹_›) (by simpa using hj) (by exact Nat.lt_of_le_of_ne ‹_› ‹_›)
    rw [g6,g6] at this
    exact this
theorem pV (pa:a.toList.Pairwise (Le O key)) (h:y∈a.toList.drop i):Le O key (at' a i) y:=by
  obtain ⟨j,h1,h2,rfl⟩:=oa h
  exact m8 pa h1 h2
theorem sJ (h:i < a.size):a.toList.drop i=[at' a i]++a.toList.drop (i+1):=by
  rw [List.drop_eq_getElem_cons (by simpa using h),g6]
  rfl
theorem sK (k:Nat):a.toList.drop i=(a.extract i (i+k)).toList++a.toList.drop (i+k):=by
  rw [Array.toList_extract,List.extract_eq_take_drop,Nat.add_sub_cancel_left,←List.drop_drop,List.take_append_drop]
theorem j5:(a.extract i).toList=a.toList.drop i:=by
  rw [Array.toList_extract,List.extract_eq_take_drop]
  exact List.take_of_length_le (by simp)
theorem oe (h:a.size≤i):a.toList.drop i=[]:=List.drop_eq_nil_of_le (by simpa using h)
theorem vQ (h:x∈(a.extract i (i+k)).toList):∃j,j < k∧i+j < a.size∧x=at' a (i+j):=by
  rw [Array.toList_extract,List.extract_eq_take_drop,Nat.add_sub_cancel_left] at h
  obtain ⟨j,hj,e⟩:=List.mem_iff_getElem.mp h
  rw [List.length_take,List.length_drop,Array.length_toList] at hj
  refine ⟨j,by lia,by lia,?_⟩
  rw [List.getElem_take,List.getElem_drop] at e
  rw [←e,g6]
theorem G.pushA (g:G (Le O key) T out.toList (a.toList.drop ia) (b.toList.drop ib)) (h:ia < a.size) (hl:∀y∈b.toList.drop ib,Le O key (at' a ia) y):G (Le O key) T (out.push (at' a ia)).toList (a.toList.drop (ia+1)) (b.toList.drop ib):=by
  rw [sJ h] at g
  rw [Array.toList_push]
  exact g.takeA fun x hx y hy=>by rw [List.mem_singleton.mp hx];exact hl y hy
theorem G.pushB (g:G (Le O key) T out.toList (a.toList.drop ia) (b.toList.drop ib)) (h:ib < b.size) (hl:∀y∈a.toList.drop ia,Le O key (at' b ib) y):G (Le O key) T (out.push (at' b ib)).toList (a.toList.drop ia) (b.toList.drop (ib+1)):=by
  rw [sJ h] at g
  rw [Array.toList_push]
  exact g.takeB fun x hx y hy=>by rw [List.mem_singleton.mp hx];exact hl y hy
theorem G.blkA (g:G (Le O key) T out.toList (a.toList.drop ia) (b.toList.drop ib)) (k:Nat) (hl:∀j,j < k→ia+j < a.size→∀y∈b.toList.drop ib,Le O key (at' a (ia+j)) y):G (Le O key) T (out++a.extract ia (ia+k)).toList (a.toList.drop (ia+k)) (b.toList.drop ib):=by
  rw [sK k] at g
  rw [Array.toList_append]
  exact g.takeA fun x hx y hy=>by obtain ⟨j,h1,h2,rfl⟩:=vQ hx;exact hl j h1 h2 y hy
theorem G.blkB (g:G (Le O key) T out.toList (a.toList.drop ia) (b.toList.drop ib)) (k:Nat) (hl:∀j,j < k→ib+j < b.size→∀y∈a.toList.drop ia,Le O key (at' b (ib+j)) y):G (Le O key) T (out++b.extract ib (ib+k)).toList (a.toList.drop ia) (b.toList.drop (ib+k)):=by
  rw [sK (a:=b) k] at g
  rw [Array.toList_append]
  exact g.takeB fun x hx y hy=>by obtain ⟨j,h1,h2,rfl⟩:=vQ hx;exact hl j h1 h2 y hy
theorem G.doneB (g:G (Le O key) T out.toList (a.toList.drop ia) (b.toList.drop ib)) (h:b.size≤ib):gR (Le O key) T (out++a.extract ia++b.extract ib).toList:=by
  rw [Array.toList_append,Array.toList_append,j5,j5,oe h,List.append_nil]
  rw [oe h] at g
  exact g.endA
theorem G.doneA (g:G (Le O key) T out.toList (a.toList.drop ia) (b.toList.drop ib)) (h:a.size≤ia):gR (Le O key) T (out++a.extract ia++b.extract ib).toList:=by
  rw [Array.toList_append,Array.toList_append,j5,j5,oe h,List.append_nil]
  rw [oe h] at g
  exact g.endB
theorem G.lastA (g:G (Le O key) T out.toList (a.toList.drop ia) (b.toList.drop ib)) (h:ia+1=a.size) (h1:∀y∈b.toList,Le O key y (at' a (a.size - 1))):gR (Le O key) T (out++b.extract ib++a.extract ia).toList:=by
  rw [Array.toList_append,Array.toList_append,j5,j5]
  have g':G (Le O key) T out.toList (a.toList.drop ia) (b.toList.drop ib++[]):=by rw [List.append_nil];exact g
  refine (g'.takeB fun x hx y hy=>?_).endA
  obtain ⟨j,q1,q2,rfl⟩:=oa hy
  rw [show j=a.size - 1 by lia]
  exact h1 x (List.mem_of_mem_drop hx)
end
def SS (st st':SortSt):Prop:=∃g,st'=SortSt.mk' (kindOf st) (arrOf st) (pendingOf st) g (failedOf st)
theorem SS.refl (st:SortSt):SS st st:=⟨gallopOf st,rfl⟩
theorem SS.kind {st st':SortSt} (h:SS st st'):kindOf st'=kindOf st:=by obtain ⟨g,rfl⟩:=h;rfl
section
variable {prog:Program} {w:World} {A:Around} {E:Value→Shared→Prop} {s:Shared} {κ:SortKind} {O:KeyOrd} {key:Keyed→O.α} {dom:Keyed→Prop} {st:SortSt}
def A_:Nat→StateT SortSt Sem Unit:=sortPriv% PySem.Builtin.setMinGallop
theorem og {st':SortSt} {g:Nat} {Q:Unit→SortSt→Prop} (hs:SS st st') (h:∀st2,SS st st2→Q () st2):wpS (model prog w) A E s (A_ g) Q st':=
  wpS_modify (h _ (by obtain ⟨g',rfl⟩:=hs;exact ⟨g,rfl⟩))
theorem bh {α:Type} {c:Prop} [Decidable c] {x y:StateT SortSt Sem α} {Q:α→SortSt→Prop} (hc:c) (h:wpS (model prog w) A E s x Q st):wpS (model prog w) A E s (if c then x else y) Q st:=by rw [if_pos hc];exact h
theorem bd {α:Type} {c:Prop} [Decidable c] {x y:StateT SortSt Sem α} {Q:α→SortSt→Prop} (hc:¬c) (h:wpS (model prog w) A E s y Q st):wpS (model prog w) A E s (if c then x else y) Q st:=by rw [if_neg hc];exact h
theorem zC {α:Type} {m:StateT SortSt Sem α} {Q:α→SortSt→Prop} (h:∀R,R=Q→wpS (model prog w) A E s m R st):wpS (model prog w) A E s m Q st:=h Q rfl
theorem Ba {α:Type} {c:Prop} [Decidable c] (f:Nat→StateT SortSt Sem α) {x y:Nat} {Q:α→SortSt→Prop} (h:∀m,wpS (model prog w) A E s (f m) Q st):wpS (model prog w) A E s (if c then f x else f y) Q st:=by
  split <;> exact h _
theorem uf (C:Cmp prog w A s κ O key dom) {a b:Array Keyed} {Q:Array Keyed→SortSt→Prop} (hk:kindOf st=κ) (da:∀x∈a.toList,dom x) (db:∀x∈b.toList,dom x) (ha:0 < a.size) (hb:0 < b.size)
    (pa:a.toList.Pairwise (Le O key)) (pb:b.toList.Pairwise (Le O key)) (h0:O.blt (key (at' b 0)) (key (at' a 0))=true) (h1:∀y∈b.toList,Le O key y (at' a (a.size - 1)))
    (h:∀r st',SS st st'→gR (Le O key) (a.toList++b.toList) r.toList→Q r st'):wpS (model prog w) A E s (vN a b) Q st:=by
  refine wpS_bind (wpS_lift (wpAny_rule ⟨rfl,?_⟩))
  refine wpS_bind (gD hb ?_)
  obtain ⟨T,hT⟩:∃T,T=a.toList++b.toList:=⟨_,rfl⟩
  rw [←hT] at h
  have g0:G (Le O key) T (#[at' b 0]:Array Keyed).toList (a.toList.drop 0) (b.toList.drop 1):=by
    have q:G (Le O key) T (#[]:Array Keyed).toList (a.toList.drop 0) (b.toList.drop 0):=⟨by simp [hT],by simpa using pa,by simpa using pb⟩
    exact q.pushB hb fun y hy=>(Le.of h0).trans (pV pa hy)
  have dA:∀i,i < a.size→dom (at' a i):=fun i hi=>da _ (jg hi)
  have dB:∀i,i < b.size→dom (at' b i):=fun i hi=>db _ (jg hi)
  extract_lets o0 i0 i1
  by_cases e1:(1 == b.size)=true
  · refine bh e1 ?_
    exact wpS_pure (h _ st (SS.refl _) (g0.doneB (by simp at e1;exact Nat.le_of_eq (Eq.symm ‹_›))))
  refine bd e1 ?_
  by_cases e2:(0+1 == a.size)=true
  · refine bh e2 ?_
    exact wpS_pure (h _ st (SS.refl _) (g0.lastA (by simpa using e2) h1))
  refine bd e2 ?_
  refine wpS_bind (wpS_get ?_)
  refine wpS_bind (wpS_mono (wpS_forRange (I:=fun x c st'=>SS st st'∧∃out ia ib mg,c=(none,out,ia,ib,mg)∧ia+1 < a.size∧ib < b.size∧x < ia+ib∧G (Le O key) T out.toList (a.toList.drop ia) (b.toList.drop ib))
    (Q:=fun c st'=>SS st st'∧∃r o,c=(some r,o)∧gR (Le O key) T r.toList) ?s1 ?s2 ⟨SS.refl _,_,0,1,_,rfl,by simp at e2;exact Nat.lt_of_le_of_ne ‹_› ‹_›,by simp at e1;exact Nat.lt_of_le_of_ne ‹_› ‹_›,by exact Nat.lt_succ_self _,g0⟩) ?s3)
  case s3=>
    rintro c st' ⟨hs,r,o,rfl,hg⟩
    exact wpS_pure (h r st' hs hg)
  case s2=>
    rintro c st' ⟨hs,out,ia,ib,mg,rfl,q1,q2,q3,g⟩
    lia
  case s1=>
    rintro x c st1 - hx ⟨hs,out,ia,ib,mg,rfl,q1,q2,q3,g⟩
    refine wpS_bind (wpS_mono (wpS_forRange (I:=fun y c st'=>SS st st'∧∃out ia ib ac bc,c=(none,out,ia,ib,ac,bc)∧ia+1 < a.size∧ib < b.size∧x < ia+ib∧(y=0∨x+1 < ia+ib)∧G (Le O key) T out.toList (a.toList.drop ia) (b.toList.drop ib))
      (Q:=fun c st'=>SS st st'∧((∃r o,c=(some r,o)∧gR (Le O key) T r.toList)∨∃out ia ib ac bc,c=(none,out,ia,ib,ac,bc)∧ia+1 < a.size∧ib < b.size∧x+1 < ia+ib∧G (Le O key) T out.toList (a.toList.drop ia) (b.toList.drop ib))) ?t1 ?t2 ⟨hs,out,ia,ib,0,0,rfl,q1,q2,q3, .inl rfl,g⟩) ?t3)
    case t2=>
      rintro c st' ⟨hs,out,ia,ib,ac,bc,rfl,q1,q2,q3,q4,g⟩
      exact ⟨hs, .inr ⟨out,ia,ib,ac,bc,rfl,q1,q2,by lia,g⟩⟩
    case t1=>
      rintro y c st2 - hy ⟨hs,out,ia,ib,ac,bc,rfl,q1,q2,q3,q4,g⟩
      have q0:ia < a.size:=by exact Nat.lt_of_succ_lt ‹_›
      refine wpS_bind (gD q2 ?_)
      refine wpS_bind (gD q0 ?_)
      refine wpS_bind (vP C (hs.kind.trans hk) (dB _ q2) (dA _ q0) ?_)
      cases e:O.blt (key (at' b ib)) (key (at' a ia)) with
      | true=>
        refine wpS_bind (gD q2 ?_)
        have g':=g.pushB q2 (fun y hy=>(Le.of e).trans (pV pa hy))
        by_cases z:(ib+1 == b.size)=true
        · exact bh z (wpS_pure ⟨hs, .inl ⟨_,_,rfl,g'.doneB (by simp at z;exact Nat.le_of_eq (Eq.symm ‹_›))⟩⟩)
        · refine bd z ?_
          have z':ib+1 < b.size:=by simp at z;exact Nat.lt_of_le_of_ne ‹_› ‹_›
          dsimp only
          split
          · exact wpS_pure ⟨hs, .inr ⟨_,_,_,_,_,rfl,q1,z',by exact Nat.succ_lt_succ ‹_›,g'⟩⟩
          · exact wpS_pure ⟨hs,_,_,_,_,_,rfl,q1,z',by exact Nat.lt_succ_of_lt ‹_›, .inr (by exact Nat.succ_lt_succ ‹_›),g'⟩
      | false=>
        refine wpS_bind (gD q0 ?_)
        have g':=g.pushA (by assumption) (fun y hy=>Le.trans e (pV pb hy))
        by_cases z:(ia+1+1 == a.size)=true
        · exact bh z (wpS_pure ⟨hs, .inl ⟨_,_,rfl,g'.lastA (by simpa using z) h1⟩⟩)
        · refine bd z ?_
          have z':ia+1+1 < a.size:=by simp at z;exact Nat.lt_of_le_of_ne ‹_› ‹_›
          dsimp only
          split
          · exact wpS_pure ⟨hs, .inr ⟨_,_,_,_,_,rfl,z',q2,by lia,g'⟩⟩
          · exact wpS_pure ⟨hs,_,_,_,_,_,rfl,z',q2,by lia, .inr (by lia),g'⟩
    case t3=>
      rintro c st2 ⟨hs,⟨r,o,rfl,hg⟩ | ⟨out,ia,ib,ac,bc,rfl,q1,q2,q3,g⟩⟩
      · exact wpS_pure ⟨hs,r,_,rfl,hg⟩
      · refine wpS_bind (wpS_lift (wpAny_rule ⟨rfl,?_⟩))
        refine wpS_bind (wpS_mono (wpS_forRange (I:=fun y c st'=>SS st st'∧∃out ia ib mg ac bc,c=(none,out,ia,ib,mg,ac,bc)∧ia+1 < a.size∧ib < b.size∧x+1 < ia+ib∧G (Le O key) T out.toList (a.toList.drop ia) (b.toList.drop ib))
          (Q:=fun c st'=>SS st st'∧((∃r o,c=(some r,o)∧gR (Le O key) T r.toList)∨∃out ia ib mg ac bc,c=(none,out,ia,ib,mg,ac,bc)∧ia+1 < a.size∧ib < b.size∧x+1 < ia+ib∧G (Le O key) T out.toList (a.toList.drop ia) (b.toList.drop ib))) ?u1 ?u2 ⟨hs,out,ia,ib,_,ac,bc,rfl,q1,q2,q3,g⟩) ?u3)
        case u2=>
          rintro c st' ⟨hs,out,ia,ib,mg,ac,bc,rfl,q1,q2,q3,g⟩
          exact ⟨hs, .inr ⟨out,ia,ib,mg,ac,bc,rfl,q1,q2,by assumption,g⟩⟩
        case u3=>
          rintro c st3 ⟨hs,⟨r,o,rfl,hg⟩ | ⟨out,ia,ib,mg,ac,bc,rfl,q1,q2,q3,g⟩⟩
          · exact wpS_pure ⟨hs,r,_,rfl,hg⟩
          · exact wpS_bind (og hs fun st4 h4=>wpS_pure ⟨h4,out,ia,ib,_,rfl,q1,q2,q3,g⟩)
        case u1=>
          rintro y c st3 - hy ⟨hs,out,ia,ib,mg,ac,bc,rfl,q1,q2,q3,g⟩
          refine zC fun R hR=>?_
          have Rd:∀r o st',SS st st'→gR (Le O key) T r.toList→R (.done (some r,o)) st':=fun r o st' a1 a2=>by rw [hR];exact ⟨a1, .inl ⟨r,o,rfl,a2⟩⟩
          have Rn:∀out ia ib mg ac bc st',SS st st'→ia+1 < a.size→ib < b.size→x+1 < ia+ib→G (Le O key) T out.toList (a.toList.drop ia) (b.toList.drop ib)→R (.done (none,out,ia,ib,mg,ac,bc)) st':=
            fun out ia ib mg ac bc st' a1 a2 a3 a4 a5=>by rw [hR];exact ⟨a1, .inr ⟨_,_,_,_,_,_,rfl,a2,a3,a4,a5⟩⟩
          have Ry:∀out ia ib mg ac bc st',SS st st'→ia+1 < a.size→ib < b.size→x+1 < ia+ib→G (Le O key) T out.toList (a.toList.drop ia) (b.toList.drop ib)→R (.yield (none,out,ia,ib,mg,ac,bc)) st':=
            fun out ia ib mg ac bc st' a1 a2 a3 a4 a5=>by rw [hR];exact ⟨a1,_,_,_,_,_,_,rfl,a2,a3,a4,a5⟩
          clear hR
          extract_lets
          rename Unit→Nat→_=>jp
          refine Ba (jp ()) fun mg'=>?_
          refine wpS_bind (og hs fun st4 h4=>?_)
          refine wpS_bind (gD q2 ?_)
          refine wpS_bind (g5 C (base:=ia) (n:=a.size - ia) (hint:=0) (h4.kind.trans hk) (by exact Nat.sub_pos_of_lt (Nat.lt_of_succ_lt ‹_›)) (by exact Nat.le_of_eq (Nat.add_sub_of_le (Nat.le_of_lt (Nat.lt_of_succ_lt ‹_›)))) (dB _ q2) dA ?m1 fun k hk1 hk2 hk3=>?_)
          case m1=>
            intro i j hij hj e
            simp only [gK,Bool.false_eq_true,if_false,Bool.not_eq_true'] at e ⊢
            exact (m8 pa (by lia) (by exact Nat.add_lt_of_lt_sub' ‹_›):Le O key (at' a (ia+i)) (at' a (ia+j))).trans e
          simp only [gK,Bool.false_eq_true,if_false,Bool.not_eq_true',Bool.not_eq_false'] at hk2 hk3
          dsimp -zeta only
          extract_lets
          rename Unit→Array Keyed→Nat→_=>jp1
          have J1:∀(out:Array Keyed) (ia:Nat),ia+1 < a.size→x+1 < ia+ib→G (Le O key) T out.toList (a.toList.drop ia) (b.toList.drop ib)→(∀y∈a.toList.drop ia,Le O key (at' b ib) y)→wpS (model prog w) A E s (jp1 () out ia) R st4:=by
            intro out ia q1 q3 g hl
            have q0:ia < a.size:=by exact Nat.lt_of_succ_lt ‹_›
            refine wpS_bind (gD q2 ?_)
            have g':=g.pushB q2 hl
            by_cases z:(ib+1 == b.size)=true
            · exact bh z (wpS_pure (Rd _ _ _ h4 (g'.doneB (by simp at z;exact Nat.le_of_eq (Eq.symm ‹_›)))))
            refine bd z ?_
            have z':ib+1 < b.size:=by simp at z;exact Nat.lt_of_le_of_ne ‹_› ‹_›
            refine wpS_bind (gD q0 ?_)
            refine wpS_bind (g5 C (base:=ib+1) (n:=b.size - (ib+1)) (hint:=0) (h4.kind.trans hk) (by exact Nat.sub_pos_of_lt ‹_›) (by exact Nat.le_of_eq (Nat.add_sub_of_le ‹_›)) (dA _ q0) dB ?m2 fun k' hk1' hk2' hk3'=>?_)
            case m2=>
              intro i j hij hj e
              simp only [gK,if_true] at e ⊢
              exact KeyOrd.klt_of_kle_of_klt (O:=O) (m8 pb (by lia) (by exact Nat.add_lt_of_lt_sub' ‹_›):Le O key (at' b (ib+1+i)) (at' b (ib+1+j))) e
            simp only [gK,if_true] at hk2' hk3'
            dsimp -zeta only
            extract_lets
            rename Unit→Array Keyed→Nat→_=>jp2
            have J2:∀(out:Array Keyed) (ib':Nat),ib' < b.size→x+1 < ia+ib'→G (Le O key) T out.toList (a.toList.drop ia) (b.toList.drop ib')→(∀y∈b.toList.drop ib',Le O key (at' a ia) y)→wpS (model prog w) A E s (jp2 () out ib') R st4:=by
              intro out ib' p2 p3 g hl
              refine wpS_bind (gD q0 ?_)
              have g':=g.pushA q0 hl
              by_cases z:(ia+1+1 == a.size)=true
              · exact bh z (wpS_pure (Rd _ _ _ h4 (g'.lastA (by simpa using z) h1)))
              refine bd z ?_
              have z':ia+1+1 < a.size:=by simp at z;exact Nat.lt_of_le_of_ne ‹_› ‹_›
              by_cases z2:(decide (k < 7)&&decide (k' < 7))=true
              · exact bh z2 (wpS_pure (Rn _ _ _ _ _ _ _ h4 z' p2 (by lia) g'))
              · exact bd z2 (wpS_pure (Ry _ _ _ _ _ _ _ h4 z' p2 (by lia) g'))
            clear_value jp2
            have tl:∀y∈b.toList.drop (ib+1+k'),Le O key (at' a ia) y:=fun y hy=>by
              obtain ⟨j,r1,r2,rfl⟩:=oa hy
              have:=hk3' (j - (ib+1)) (by exact Nat.le_sub_of_add_le' ‹_›) (by exact Nat.sub_lt_sub_right (Nat.le_trans (Nat.le_add_right _ _) ‹_›) ‹_›)
              rwa [show ib+1+(j - (ib+1))=j by exact Nat.add_sub_of_le (Nat.le_trans (Nat.le_add_right _ _) ‹_›)] at this
            by_cases z2:k' > 0
            · refine bh z2 ?_
              have g2:=g'.blkB k' fun j j1 j2 y hy=>(Le.of (hk2' j j1)).trans (pV pa hy)
              by_cases z3:(ib+1+k' == b.size)=true
              · exact bh z3 (wpS_pure (Rd _ _ _ h4 (g2.doneB (by simp at z3;exact Nat.le_of_eq (Eq.symm ‹_›)))))
              · exact bd z3 (J2 _ (ib+1+k') (by simp at z3;lia) (by lia) g2 tl)
            · have k0:k'=0:=by exact Nat.eq_zero_of_not_pos ‹_›
              subst k0
              exact bd z2 (J2 _ (ib+1) z' (by exact Nat.lt_succ_of_lt ‹_›) g' tl)
          clear_value jp1
          have tl:∀y∈a.toList.drop (ia+k),Le O key (at' b ib) y:=fun y hy=>by
            obtain ⟨j,r1,r2,rfl⟩:=oa hy
            have:=hk3 (j - ia) (by exact Nat.le_sub_of_add_le' ‹_›) (by exact Nat.sub_lt_sub_right (Nat.le_trans (Nat.le_add_right _ _) ‹_›) ‹_›)
            rw [show ia+(j - ia)=j by exact Nat.add_sub_of_le (Nat.le_trans (Nat.le_add_right _ _) ‹_›)] at this
            exact Le.of this
          by_cases z2:k > 0
          · refine bh z2 ?_
            have g2:=g.blkA k fun j j1 j2 y hy=>Le.trans (hk2 j j1) (pV pb hy)
            by_cases z3:(ia+k+1 == a.size)=true
            · exact bh z3 (wpS_pure (Rd _ _ _ h4 (g2.lastA (by simpa using z3) h1)))
            refine bd z3 ?_
            by_cases z4:(ia+k == a.size)=true
            · exact bh z4 (wpS_pure (Rd _ _ _ h4 (g2.doneA (by simp at z4;exact Nat.le_of_eq (Eq.symm ‹_›)))))
            · exact bd z4 (J1 _ (ia+k) (by simp at z3 z4;lia) (by lia) g2 tl)
          · have k0:k=0:=by exact Nat.eq_zero_of_not_pos ‹_›
            subst k0
            exact bd z2 (J1 _ ia q1 q3 g tl)
end
end NhLS
namespace NhLS
set_option autoImplicit false
open PySem PyProof.Rows
structure H (le:Keyed→Keyed→Prop) (T ra rb out:List Keyed):Prop where
  perm:(ra++rb++out).Perm T
  pa:(ra++out).Pairwise le
  pb:(rb++out).Pairwise le
section
variable {le:Keyed→Keyed→Prop} {T out ra rb p:List Keyed}
theorem H.takeA (g:H le T (ra++p) rb out) (h:∀x∈p,∀y∈rb,le y x):H le T ra rb (p++out) where
  perm:=by
    refine List.Perm.trans ?_ g.perm
    rw [←List.append_assoc]
    refine List.Perm.append_right _ ?_
    rw [List.append_assoc,List.append_assoc]
    exact List.Perm.append_left _ List.perm_append_comm
  pa:=by have:=g.pa;simpa [List.append_assoc] using this
  pb:=by
    have h1:=g.pa
    have h2:=g.pb
    simp only [List.pairwise_append,List.mem_append] at h1 h2 ⊢
    refine ⟨h2.1,⟨h1.1.2.1,h1.2.1,fun x hx y hy=>h1.2.2 x (.inr hx) y hy⟩,fun x hx y hy=>?_⟩
    rcases hy with hy | hy
    · exact h y hy x hx
    · exact h2.2.2 x hx y hy
theorem H.takeB (g:H le T ra (rb++p) out) (h:∀x∈p,∀y∈ra,le y x):H le T ra rb (p++out) where
  perm:=by have:=g.perm;simpa [List.append_assoc] using this
  pb:=by have:=g.pb;simpa [List.append_assoc] using this
  pa:=by
    have h1:=g.pa
    have h2:=g.pb
    simp only [List.pairwise_append,List.mem_append] at h1 h2 ⊢
    refine ⟨h1.1,⟨h2.1.2.1,h2.2.1,fun x hx y hy=>h2.2.2 x (.inr hx) y hy⟩,fun x hx y hy=>?_⟩
    rcases hy with hy | hy
    · exact h y hy x hx
    · exact h1.2.2 x hx y hy
theorem H.endA (g:H le T ra [] out):gR le T (ra++out):=⟨by have:=g.perm;simpa using this,g.pa⟩
theorem H.endB (g:H le T [] rb out):gR le T (rb++out):=⟨by have:=g.perm;simpa using this,g.pb⟩
end
section
variable {O:KeyOrd} {key:Keyed→O.α} {a b:Array Keyed} {T:List Keyed} {out:Array Keyed} {i j na nb k:Nat} {x y z:Keyed}
theorem oh (h:y∈a.toList.take i):∃j,j < i∧j < a.size∧y=at' a j:=by
  obtain ⟨j,hj,e⟩:=List.mem_iff_getElem.mp h
  rw [List.length_take,Array.length_toList] at hj
  refine ⟨j,by lia,by lia,?_⟩
  rw [List.getElem_take] at e
  rw [←e,g6]
theorem sL (pa:a.toList.Pairwise (Le O key)) (hi:i < a.size) (h:y∈a.toList.take (i+1)):Le O key y (at' a i):=by
  obtain ⟨j,h1,h2,rfl⟩:=oh h
  exact m8 pa (by exact Nat.le_of_lt_succ ‹_›) hi
theorem sM (h:i < a.size):a.toList.take (i+1)=a.toList.take i++[at' a i]:=by
  rw [List.take_succ_eq_append_getElem (by simpa using h),g6]
theorem oi (h:i≤j):a.toList.take j=a.toList.take i++(a.extract i j).toList:=by
  rw [Array.toList_extract,List.extract_eq_take_drop,←List.take_add]
  congr 1
  lia
theorem j6:(a.extract 0 i).toList=a.toList.take i:=by
  rw [Array.toList_extract,List.extract_eq_take_drop]
  rfl
theorem oj (h:x∈(a.extract i j).toList):∃k,i≤k∧k < j∧k < a.size∧x=at' a k:=by
  rw [Array.toList_extract,List.extract_eq_take_drop] at h
  obtain ⟨k,hk,e⟩:=List.mem_iff_getElem.mp h
  rw [List.length_take,List.length_drop,Array.length_toList] at hk
  refine ⟨i+k,by exact Nat.le_add_right _ _,by lia,by lia,?_⟩
  rw [List.getElem_take,List.getElem_drop] at e
  rw [←e,g6]
theorem H.pushA (g:H (Le O key) T (a.toList.take (na+1)) (b.toList.take nb) out.toList.reverse) (h:na < a.size) (hl:∀y∈b.toList.take nb,Le O key y (at' a na)):H (Le O key) T (a.toList.take na) (b.toList.take nb) (out.push (at' a na)).toList.reverse:=by
  rw [sM h] at g
  rw [Array.toList_push,List.reverse_append]
  exact g.takeA fun x hx y hy=>by rw [List.mem_singleton.mp hx];exact hl y hy
theorem H.pushB (g:H (Le O key) T (a.toList.take na) (b.toList.take (nb+1)) out.toList.reverse) (h:nb < b.size) (hl:∀y∈a.toList.take na,Le O key y (at' b nb)):H (Le O key) T (a.toList.take na) (b.toList.take nb) (out.push (at' b nb)).toList.reverse:=by
  rw [sM h] at g
  rw [Array.toList_push,List.reverse_append]
  exact g.takeB fun x hx y hy=>by rw [List.mem_singleton.mp hx];exact hl y hy
theorem H.blkA (g:H (Le O key) T (a.toList.take na) (b.toList.take nb) out.toList.reverse) (h:i≤na) (hl:∀j,i≤j→j < na→j < a.size→∀y∈b.toList.take nb,Le O key y (at' a j)):H (Le O key) T (a.toList.take i) (b.toList.take nb) (out++(a.extract i na).reverse).toList.reverse:=by
  rw [oi h] at g
  rw [Array.toList_append,List.reverse_append,Array.toList_reverse,List.reverse_reverse]
  exact g.takeA fun x hx y hy=>by obtain ⟨j,h1,h2,h3,rfl⟩:=oj hx;exact hl j h1 h2 h3 y hy
theorem H.blkB (g:H (Le O key) T (a.toList.take na) (b.toList.take nb) out.toList.reverse) (h:i≤nb) (hl:∀j,i≤j→j < nb→j < b.size→∀y∈a.toList.take na,Le O key y (at' b j)):H (Le O key) T (a.toList.take na) (b.toList.take i) (out++(b.extract i nb).reverse).toList.reverse:=by
  rw [oi (a:=b) h] at g
  rw [Array.toList_append,List.reverse_append,Array.toList_reverse,List.reverse_reverse]
  exact g.takeB fun x hx y hy=>by obtain ⟨j,h1,h2,h3,rfl⟩:=oj hx;exact hl j h1 h2 h3 y hy
theorem H.doneA (g:H (Le O key) T (a.toList.take na) (b.toList.take nb) out.toList.reverse) (h:na=0):gR (Le O key) T (a.extract 0 na++b.extract 0 nb++out.reverse).toList:=by
  subst h
  rw [Array.toList_append,Array.toList_append,j6,j6,Array.toList_reverse]
  exact g.endB
theorem H.doneB (g:H (Le O key) T (a.toList.take na) (b.toList.take nb) out.toList.reverse) (h:nb=0):gR (Le O key) T (a.extract 0 na++b.extract 0 nb++out.reverse).toList:=by
  subst h
  rw [Array.toList_append,Array.toList_append,j6,j6,Array.toList_reverse,List.take_zero,List.append_nil]
  exact g.endA
theorem H.firstB (g:H (Le O key) T (a.toList.take na) (b.toList.take nb) out.toList.reverse) (h:nb=1) (h1:∀y∈a.toList,Le O key (at' b 0) y):gR (Le O key) T (b.extract 0 nb++a.extract 0 na++out.reverse).toList:=by
  rw [Array.toList_append,Array.toList_append,j6,j6,Array.toList_reverse,List.append_assoc]
  have g':H (Le O key) T ([]++a.toList.take na) (b.toList.take nb) out.toList.reverse:=g
  refine (g'.takeA fun x hx y hy=>?_).endB
  obtain ⟨j,q1,q2,rfl⟩:=oh hy
  rw [show j=0 by lia]
  exact h1 x (List.mem_of_mem_take hx)
end
section
variable {prog:Program} {w:World} {A:Around} {E:Value→Shared→Prop} {s:Shared} {κ:SortKind} {O:KeyOrd} {key:Keyed→O.α} {dom:Keyed→Prop} {st:SortSt}
theorem gS {α:Type} {c:Prop} [Decidable c] {x y:StateT SortSt Sem α} {Q:α→SortSt→Prop} (h1:c→wpS (model prog w) A E s x Q st) (h2:¬c→wpS (model prog w) A E s y Q st):wpS (model prog w) A E s (if c then x else y) Q st:=by
  split
  · rename_i z;exact h1 z
  · rename_i z;exact h2 z
theorem ug (C:Cmp prog w A s κ O key dom) {a b:Array Keyed} {Q:Array Keyed→SortSt→Prop} (hk:kindOf st=κ) (da:∀x∈a.toList,dom x) (db:∀x∈b.toList,dom x) (ha:0 < a.size) (hb:0 < b.size)
    (pa:a.toList.Pairwise (Le O key)) (pb:b.toList.Pairwise (Le O key)) (h0:∀y∈b.toList,Le O key y (at' a (a.size - 1))) (h1:∀y∈a.toList,Le O key (at' b 0) y)
    (h:∀r st',SS st st'→gR (Le O key) (a.toList++b.toList) r.toList→Q r st'):wpS (model prog w) A E s (vO a b) Q st:=by
  refine wpS_bind (wpS_lift (wpAny_rule ⟨rfl,?_⟩))
  have ha':a.size - 1 < a.size:=by exact Nat.sub_lt ‹_› Nat.one_pos
  refine wpS_bind (gD ha' ?_)
  obtain ⟨T,hT⟩:∃T,T=a.toList++b.toList:=⟨_,rfl⟩
  rw [←hT] at h
  have g0:H (Le O key) T (a.toList.take (a.size - 1)) (b.toList.take b.size) (#[at' a (a.size - 1)]:Array Keyed).toList.reverse:=by
    have q:H (Le O key) T (a.toList.take (a.size - 1+1)) (b.toList.take b.size) (#[]:Array Keyed).toList.reverse:=by
      have e1:a.toList.take (a.size - 1+1)=a.toList:=List.take_of_length_le (by simp;lia)
      have e2:b.toList.take b.size=b.toList:=List.take_of_length_le (by simp)
      rw [e1,e2]
      exact ⟨by simp [hT],by simpa using pa,by simpa using pb⟩
    exact q.pushA ha' fun y hy=>h0 y (List.mem_of_mem_take hy)
  have dA:∀i,i < a.size→dom (at' a i):=fun i hi=>da _ (jg hi)
  have dB:∀i,i < b.size→dom (at' b i):=fun i hi=>db _ (jg hi)
  by_cases e1:(a.size - 1 == 0)=true
  · refine bh e1 ?_
    exact wpS_pure (h _ st (SS.refl _) (g0.doneA (by simpa using e1)))
  refine bd e1 ?_
  by_cases e2:(b.size == 1)=true
  · refine bh e2 ?_
    exact wpS_pure (h _ st (SS.refl _) (g0.firstB (by simpa using e2) h1))
  refine bd e2 ?_
  refine wpS_bind (wpS_get ?_)
  refine wpS_bind (wpS_mono (wpS_forRange (I:=fun x c st'=>SS st st'∧∃na nb out mg,c=(none,na,nb,out,mg)∧na≤a.size∧1≤na∧nb≤b.size∧2≤nb∧na+nb+x < a.size+b.size∧H (Le O key) T (a.toList.take na) (b.toList.take nb) out.toList.reverse)
    (Q:=fun c st'=>SS st st'∧∃r o,c=(some r,o)∧gR (Le O key) T r.toList) ?s1 ?s2 ⟨SS.refl _,a.size - 1,b.size,_,_,rfl,by exact Nat.sub_le _ _,by simp at e1;exact Nat.pos_of_ne_zero ‹_›,by exact Nat.le_refl _,by simp at e2;lia,by lia,g0⟩) ?s3)
  case s3=>
    rintro c st' ⟨hs,r,o,rfl,hg⟩
    exact wpS_pure (h r st' hs hg)
  case s2=>
    rintro c st' ⟨hs,na,nb,out,mg,rfl,p1,q1,p2,q2,q3,g⟩
    lia
  case s1=>
    rintro x c st1 - hx ⟨hs,na,nb,out,mg,rfl,p1,q1,p2,q2,q3,g⟩
    refine wpS_bind (wpS_mono (wpS_forRange (I:=fun y c st'=>SS st st'∧∃na nb out ac bc,c=(none,na,nb,out,ac,bc)∧na≤a.size∧1≤na∧nb≤b.size∧2≤nb∧na+nb+x < a.size+b.size∧(y=0∨na+nb+(x+1) < a.size+b.size)∧H (Le O key) T (a.toList.take na) (b.toList.take nb) out.toList.reverse)
      (Q:=fun c st'=>SS st st'∧((∃r o,c=(some r,o)∧gR (Le O key) T r.toList)∨∃na nb out ac bc,c=(none,na,nb,out,ac,bc)∧na≤a.size∧1≤na∧nb≤b.size∧2≤nb∧na+nb+(x+1) < a.size+b.size∧H (Le O key) T (a.toList.take na) (b.toList.take nb) out.toList.reverse)) ?t1 ?t2 ⟨hs,na,nb,out,0,0,rfl,p1,q1,p2,q2,q3, .inl rfl,g⟩) ?t3)
    case t2=>
      rintro c st' ⟨hs,na,nb,out,ac,bc,rfl,p1,q1,p2,q2,q3,q4,g⟩
      exact ⟨hs, .inr ⟨na,nb,out,ac,bc,rfl,p1,q1,p2,q2,by lia,g⟩⟩
    case t1=>
      rintro y c st2 - hy ⟨hs,na,nb,out,ac,bc,rfl,p1,q1,p2,q2,q3,q4,g⟩
      obtain ⟨na,rfl⟩:∃n,na=n+1:=⟨na - 1,by exact (Nat.sub_add_cancel ‹_›).symm⟩
      obtain ⟨nb,rfl⟩:∃n,nb=n+1:=⟨nb - 1,by lia⟩
      have p1':na < a.size:=by assumption
      have p2':nb < b.size:=by assumption
      refine wpS_bind (gD p2' ?_)
      refine wpS_bind (gD p1' ?_)
      refine wpS_bind (vP C (hs.kind.trans hk) (dB _ p2') (dA _ p1') ?_)
      simp only [Nat.add_sub_cancel]
      cases e:O.blt (key (at' b nb)) (key (at' a na)) with
      | true=>
        refine wpS_bind (gD p1' ?_)
        have g':=g.pushA p1' (fun y hy=>(sL pb p2' hy).trans (Le.of e))
        by_cases z:(na == 0)=true
        · exact bh z (wpS_pure ⟨hs, .inl ⟨_,_,rfl,g'.doneA (by simpa using z)⟩⟩)
        · refine bd z ?_
          have z':1≤na:=by simp at z;exact Nat.pos_of_ne_zero ‹_›
          split
          · exact wpS_pure ⟨hs, .inr ⟨na,nb+1,_,_,_,rfl,by exact Nat.le_of_lt ‹_›,z',p2,q2,by lia,g'⟩⟩
          · exact wpS_pure ⟨hs,na,nb+1,_,_,_,rfl,by exact Nat.le_of_lt ‹_›,z',p2,q2,by lia, .inr (by lia),g'⟩
      | false=>
        refine wpS_bind (gD p2' ?_)
        have g':=g.pushB p2' (fun y hy=>(sL pa p1' hy).trans e)
        by_cases z:(nb == 1)=true
        · exact bh z (wpS_pure ⟨hs, .inl ⟨_,_,rfl,g'.firstB (by simpa using z) h1⟩⟩)
        · refine bd z ?_
          have z':2≤nb:=by simp at z;lia
          split
          · exact wpS_pure ⟨hs, .inr ⟨na+1,nb,_,_,_,rfl,p1,q1,by exact Nat.le_of_lt ‹_›,z',by lia,g'⟩⟩
          · exact wpS_pure ⟨hs,na+1,nb,_,_,_,rfl,p1,q1,by exact Nat.le_of_lt ‹_›,z',by lia, .inr (by lia),g'⟩
    case t3=>
      rintro c st2 ⟨hs,⟨r,o,rfl,hg⟩ | ⟨na,nb,out,ac,bc,rfl,p1,q1,p2,q2,q3,g⟩⟩
      · exact wpS_pure ⟨hs,r,_,rfl,hg⟩
      · refine wpS_bind (wpS_lift (wpAny_rule ⟨rfl,?_⟩))
        refine wpS_bind (wpS_mono (wpS_forRange (I:=fun y c st'=>SS st st'∧∃na nb out mg ac bc,c=(none,na,nb,out,mg,ac,bc)∧na≤a.size∧1≤na∧nb≤b.size∧2≤nb∧na+nb+(x+1) < a.size+b.size∧H (Le O key) T (a.toList.take na) (b.toList.take nb) out.toList.reverse)
          (Q:=fun c st'=>SS st st'∧((∃r o,c=(some r,o)∧gR (Le O key) T r.toList)∨∃na nb out mg ac bc,c=(none,na,nb,out,mg,ac,bc)∧na≤a.size∧1≤na∧nb≤b.size∧2≤nb∧na+nb+(x+1) < a.size+b.size∧H (Le O key) T (a.toList.take na) (b.toList.take nb) out.toList.reverse)) ?u1 ?u2 ⟨hs,na,nb,out,_,ac,bc,rfl,p1,q1,p2,q2,q3,g⟩) ?u3)
        case u2=>
          rintro c st' ⟨hs,na,nb,out,mg,ac,bc,rfl,p1,q1,p2,q2,q3,g⟩
          exact ⟨hs, .inr ⟨na,nb,out,mg,ac,bc,rfl,p1,q1,p2,q2,by assumption,g⟩⟩
        case u3=>
          rintro c st3 ⟨hs,⟨r,o,rfl,hg⟩ | ⟨na,nb,out,mg,ac,bc,rfl,p1,q1,p2,q2,q3,g⟩⟩
          · exact wpS_pure ⟨hs,r,_,rfl,hg⟩
          · exact wpS_bind (og hs fun st4 h4=>wpS_pure ⟨h4,na,nb,out,_,rfl,p1,q1,p2,q2,q3,g⟩)
        case u1=>
          rintro y c st3 - hy ⟨hs,na,nb,out,mg,ac,bc,rfl,p1,q1,p2,q2,q3,g⟩
          refine zC fun R hR=>?_
          have Rd:∀r o st',SS st st'→gR (Le O key) T r.toList→R (.done (some r,o)) st':=fun r o st' a1 a2=>by rw [hR];exact ⟨a1, .inl ⟨r,o,rfl,a2⟩⟩
          have Rn:∀na nb out mg ac bc st',SS st st'→na≤a.size→1≤na→nb≤b.size→2≤nb→na+nb+(x+1) < a.size+b.size→H (Le O key) T (a.toList.take na) (b.toList.take nb) out.toList.reverse→R (.done (none,na,nb,out,mg,ac,bc)) st':=
            fun na nb out mg ac bc st' a1 a2 a3 a4 a5 a6 a7=>by rw [hR];exact ⟨a1, .inr ⟨_,_,_,_,_,_,rfl,a2,a3,a4,a5,a6,a7⟩⟩
          have Ry:∀na nb out mg ac bc st',SS st st'→na≤a.size→1≤na→nb≤b.size→2≤nb→na+nb+(x+1) < a.size+b.size→H (Le O key) T (a.toList.take na) (b.toList.take nb) out.toList.reverse→R (.yield (none,na,nb,out,mg,ac,bc)) st':=
            fun na nb out mg ac bc st' a1 a2 a3 a4 a5 a6 a7=>by rw [hR];exact ⟨a1,_,_,_,_,_,_,rfl,a2,a3,a4,a5,a6,a7⟩
          clear hR
          obtain ⟨nb,rfl⟩:∃n,nb=n+1:=⟨nb - 1,by lia⟩
          have p2':nb < b.size:=by assumption
          have q2':1≤nb:=by exact Nat.le_of_lt_succ ‹_›
          extract_lets
          rename Unit→Nat→_=>jp
          refine Ba (jp ()) fun mg'=>?_
          refine wpS_bind (og hs fun st4 h4=>?_)
          refine wpS_bind (gD p2' ?_)
          refine wpS_bind (g5 C (k:=at' b nb) (base:=0) (n:=na) (hint:=na - 1) (h4.kind.trans hk) (by exact Nat.sub_lt ‹_› Nat.one_pos) (by lia) (dB _ p2') dA ?m1 fun k hk1 hk2 hk3=>?_)
          case m1=>
            intro i j hij hj e
            simp only [gK,Bool.false_eq_true,if_false,Bool.not_eq_true',Nat.zero_add] at e ⊢
            exact (m8 pa (by exact Nat.le_of_lt ‹_›) (by exact Nat.lt_of_lt_of_le ‹_› ‹_›):Le O key (at' a i) (at' a j)).trans e
          simp only [gK,Bool.false_eq_true,if_false,Bool.not_eq_true',Bool.not_eq_false',Nat.zero_add] at hk2 hk3
          dsimp -zeta only
          extract_lets
          rename Unit→Nat→Array Keyed→_=>jp1
          have J1:∀(na:Nat) (out:Array Keyed),na≤a.size→1≤na→na+(nb+1)+(x+1) < a.size+b.size→H (Le O key) T (a.toList.take na) (b.toList.take (nb+1)) out.toList.reverse→(∀y∈a.toList.take na,Le O key y (at' b nb))→wpS (model prog w) A E s (jp1 () na out) R st4:=by
            intro na out p1 q1 q3 g hl
            obtain ⟨na,rfl⟩:∃n,na=n+1:=⟨na - 1,by exact (Nat.sub_add_cancel ‹_›).symm⟩
            have p1':na < a.size:=by assumption
            refine wpS_bind (gD p2' ?_)
            have g':=g.pushB p2' hl
            by_cases z:(nb == 1)=true
            · exact bh z (wpS_pure (Rd _ _ _ h4 (g'.firstB (by simpa using z) h1)))
            refine bd z ?_
            have z':2≤nb:=by simp at z;lia
            refine wpS_bind (gD p1' ?_)
            refine wpS_bind (g5 C (k:=at' a na) (base:=0) (n:=nb) (hint:=nb - 1) (h4.kind.trans hk) (by exact Nat.sub_lt ‹_› Nat.one_pos) (by lia) (dA _ p1') dB ?m2 fun k' hk1' hk2' hk3'=>?_)
            case m2=>
              intro i j hij hj e
              simp only [gK,if_true,Nat.zero_add] at e ⊢
              exact KeyOrd.klt_of_kle_of_klt (O:=O) (m8 pb (by exact Nat.le_of_lt ‹_›) (by lia):Le O key (at' b i) (at' b j)) e
            simp only [gK,if_true,Nat.zero_add] at hk2' hk3'
            dsimp -zeta only
            extract_lets
            rename Unit→Nat→Array Keyed→_=>jp2
            have J2:∀(nb':Nat) (out:Array Keyed),nb'≤b.size→2≤nb'→na+1+nb'+(x+1) < a.size+b.size→H (Le O key) T (a.toList.take (na+1)) (b.toList.take nb') out.toList.reverse→(∀y∈b.toList.take nb',Le O key y (at' a na))→wpS (model prog w) A E s (jp2 () nb' out) R st4:=by
              intro nb' out r1 r2 r3 g hl
              refine wpS_bind (gD p1' ?_)
              have g':=g.pushA p1' hl
              by_cases z:(na == 0)=true
              · exact bh z (wpS_pure (Rd _ _ _ h4 (g'.doneA (by simpa using z))))
              refine bd z ?_
              have z':1≤na:=by simp at z;exact Nat.pos_of_ne_zero ‹_›
              refine gS (fun _=>?_) (fun _=>?_)
              · exact wpS_pure (Rn _ _ _ _ _ _ _ h4 (by exact Nat.le_of_lt ‹_›) z' r1 r2 (by lia) g')
              · exact wpS_pure (Ry _ _ _ _ _ _ _ h4 (by exact Nat.le_of_lt ‹_›) z' r1 r2 (by lia) g')
            clear_value jp2
            have tl:∀y∈b.toList.take k',Le O key y (at' a na):=fun y hy=>by
              obtain ⟨j,r1,r2,rfl⟩:=oh hy
              exact Le.of (hk2' j r1)
            by_cases z2:nb - k' > 0
            · refine bh z2 ?_
              have g2:=g'.blkB hk1' fun j j1 j2 j3 y hy=>(sL pa p1' hy).trans (hk3' j j1 j2)
              by_cases z3:(k' == 1)=true
              · exact bh z3 (wpS_pure (Rd _ _ _ h4 (g2.firstB (by simpa using z3) h1)))
              refine bd z3 ?_
              by_cases z4:(k' == 0)=true
              · exact bh z4 (wpS_pure (Rd _ _ _ h4 (g2.doneB (by simpa using z4))))
              · exact bd z4 (J2 k' _ (by lia) (by simp at z3 z4;lia) (by lia) g2 tl)
            · have k0:k'=nb:=by exact Nat.le_antisymm ‹_› (Nat.sub_eq_zero_iff_le.mp (Nat.eq_zero_of_not_pos ‹_›))
              subst k0
              exact bd z2 (J2 k' _ (by exact Nat.le_of_lt ‹_›) z' (by lia) g' tl)
          clear_value jp1
          have tl:∀y∈a.toList.take k,Le O key y (at' b nb):=fun y hy=>by
            obtain ⟨j,r1,r2,rfl⟩:=oh hy
            exact hk2 j r1
          by_cases z2:na - k > 0
          · refine bh z2 ?_
            have g2:=g.blkA hk1 fun j j1 j2 j3 y hy=>(sL pb p2' hy).trans (Le.of (hk3 j j1 j2))
            by_cases z3:(k == 0)=true
            · exact bh z3 (wpS_pure (Rd _ _ _ h4 (g2.doneA (by simpa using z3))))
            · exact bd z3 (J1 k _ (by exact Nat.le_trans ‹_› ‹_›) (by simp at z3;exact Nat.pos_of_ne_zero ‹_›) (by lia) g2 tl)
          · have k0:k=na:=by exact Nat.le_antisymm ‹_› (Nat.sub_eq_zero_iff_le.mp (Nat.eq_zero_of_not_pos ‹_›))
            subst k0
            exact bd z2 (J1 k _ p1 q1 q3 g tl)
end
end NhLS
namespace NhLS
set_option autoImplicit false
open PySem PyProof.Rows
def So (O:KeyOrd) (key:Keyed→O.α) (a:Array Keyed) (lo hi:Nat):Prop:=∀i j,lo≤i→i < j→j < hi→Le O key (at' a i) (at' a j)
section
variable {O:KeyOrd} {key:Keyed→O.α} {a b:Array Keyed} {i j lo hi p:Nat} {x y z:Keyed}
theorem So.le (h:So O key a lo hi) (h1:lo≤i) (h2:i≤j) (h3:j < hi):Le O key (at' a i) (at' a j):=by
  by_cases e:i=j
  · rw [e];exact Le.refl _
  · exact h i j h1 (by exact Nat.lt_of_le_of_ne ‹_› ‹_›) h3
theorem So.ext (h:So O key a lo hi) (q:∀j,lo≤j→j < hi→at' b j=at' a j):So O key b lo hi:=fun i j h1 h2 h3=>by
  rw [q i (by assumption) (by lia),q j (by lia) h3]
  exact h i j h1 h2 h3
theorem pW (h1:i+j < hi) (h2:hi≤a.size):at' (a.extract i hi) j=at' a (i+j):=by
  simp [at',Array.getD,show j < min hi a.size - i by lia,show i+j < a.size by exact Nat.lt_of_lt_of_le ‹_› ‹_›]
theorem yi (h1:lo≤hi) (h2:hi≤a.size):(a.extract lo hi).size=hi - lo:=by
  rw [Array.size_extract]
  lia
theorem yj (h:So O key a lo hi) (h2:hi≤a.size):(a.extract lo hi).toList.Pairwise (Le O key):=by
  rw [List.pairwise_iff_getElem]
  intro i j hi' hj hij
  rw [Array.length_toList,Array.size_extract] at hi' hj
  rw [g6,g6,pW (by lia) h2,pW (by lia) h2]
  exact h _ _ (by exact Nat.le_add_right _ _) (by exact Nat.add_lt_add_left ‹_› _) (by lia)
theorem zD (h:i < a.size) (j:Nat):at' (a.setIfInBounds i x) j=if i=j then x else at' a j:=by
  unfold at'
  rw [Array.getD_eq_getD_getElem?,Array.getD_eq_getD_getElem?,Array.getElem?_setIfInBounds]
  by_cases e:i=j
  · subst e;simp [h]
  · simp [e]
def wr (a:Array Keyed) (p:Nat) (M:List (Keyed×Nat)):Array Keyed:=M.foldl (fun a q=>a.setIfInBounds (p+q.2) q.1) a
theorem sN (p:Nat):∀(M:List (Keyed×Nat)) (a:Array Keyed),(wr a p M).size=a.size
  | [],a=>rfl
  | q::M,a=>(sN p M _).trans (Array.size_setIfInBounds ..)
theorem vR (p:Nat):∀(M:List Keyed) (n:Nat) (a:Array Keyed),p+n+M.length≤a.size→∀j,at' (wr a p (M.zipIdx n)) j=if p+n≤j∧j < p+n+M.length then M.getD (j - (p+n)) xw else at' a j
  | [],n,a,h,j=>by
    rw [if_neg (by simp)]
    rfl
  | x::M,n,a,h,j=>by
    rw [List.length_cons] at h
    show at' (wr (a.setIfInBounds (p+n) x) p (M.zipIdx (n+1))) j=_
    rw [vR p M (n+1) _ (by rw [Array.size_setIfInBounds];lia),zD (by lia),List.length_cons]
    by_cases e:p+n=j
    · subst e
      rw [if_neg (by lia),if_pos rfl,if_pos (by lia),Nat.sub_self]
      rfl
    · by_cases q:p+(n+1)≤j∧j < p+(n+1)+M.length
      · rw [if_pos q,if_pos (by lia),show j - (p+n)=(j - (p+(n+1)))+1 by lia]
        rfl
      · rw [if_neg q,if_neg e,if_neg (by lia)]
theorem xx (M:List Keyed) (a:Array Keyed) (h:p+M.length≤a.size):(wr a p M.zipIdx).toList=a.toList.take p++M++a.toList.drop (p+M.length):=by
  have hs:=sN p M.zipIdx a
  refine List.ext_getElem (by simp [hs];lia) fun i h1 h2=>?_
  rw [g6,show M.zipIdx=M.zipIdx 0 from rfl,vR p M 0 a (by assumption)]
  have h1':i < a.size:=by simpa [hs] using h1
  by_cases c1:i < p
  · rw [if_neg (by lia),List.getElem_append_left (by simp;lia),List.getElem_append_left (by simp;lia),List.getElem_take,g6]
  · by_cases c2:i < p+M.length
    · rw [if_pos (by lia),List.getElem_append_left (by simp;lia),List.getElem_append_right (by simp;lia)]
      have e:i - (a.toList.take p).length=i - (p+0):=by simp;lia
      simp only [e]
      simp [show i - p < M.length by lia]
    · rw [if_neg (by exact fun h=>‹¬_› h.2),List.getElem_append_right (by simp;lia),List.getElem_drop,g6]
      congr 1
      simp
      lia
end
section
variable {prog:Program} {w:World} {A:Around} {E:Value→Shared→Prop} {s:Shared} {κ:SortKind} {O:KeyOrd} {key:Keyed→O.α} {dom:Keyed→Prop}
theorem xy {st st':SortSt} {Q:PUnit→SortSt→Prop} (h:Q ⟨⟩ st'):wpS (model prog w) A E s (set st':StateT SortSt Sem PUnit) Q st:=by
  unfold wpS;rw [StateT.run_set];exact wpAny_pure ⟨rfl,h⟩
theorem uh (C:Cmp prog w A s κ O key dom) {a:Array Keyed} {pd:Array (Nat×Nat×Nat)} {g i sa na pw nb pw':Nat} {Q:Bool→SortSt→Prop} (da:∀i,i < a.size→dom (at' a i)) (hp1:pd[i]? =some (sa,na,pw)) (hp2:pd[i+1]? =some (sa+na,nb,pw'))
    (h1:1≤na) (h2:1≤nb) (hz:sa+na+nb≤a.size) (s1:So O key a sa (sa+na)) (s2:So O key a (sa+na) (sa+na+nb))
    (h:∀b g',b.toList.Perm a.toList→(∀j,j < sa∨sa+na+nb≤j→at' b j=at' a j)→So O key b sa (sa+na+nb)→Q true (SortSt.mk' κ b ((pd.setIfInBounds i (sa,na+nb,pw)).eraseIdxIfInBounds (i+1)) g' none)):
    wpS (model prog w) A E s (mergeAt' i) Q (SortSt.mk' κ a pd g none):=by
  refine wpS_bind (wpS_get ?_)
  simp only [hp1,hp2]
  refine wpS_bind (xy ?_)
  have b1:sa+na < a.size:=by lia
  refine wpS_bind (gD b1 ?_)
  refine wpS_bind (g5 C (k:=at' a (sa+na)) (arr:=a) (base:=sa) (n:=na) (hint:=0) rfl (by assumption) (by exact Nat.le_of_lt ‹_›) (da _ b1) da ?m1 fun k hk1 hk2 hk3=>?_)
  case m1=>
    intro i j hij hj e
    simp only [gK,Bool.false_eq_true,if_false,Bool.not_eq_true'] at e ⊢
    exact (s1.le (by exact Nat.le_add_right _ _) (by lia) (by exact Nat.add_lt_add_left ‹_› _):Le O key (at' a (sa+i)) (at' a (sa+j))).trans e
  simp only [gK,Bool.false_eq_true,if_false,Bool.not_eq_true',Bool.not_eq_false'] at hk2 hk3
  have lo:∀i,sa≤i→i < sa+k→∀j,sa+na≤j→j < sa+na+nb→Le O key (at' a i) (at' a j):=fun i r1 r2 j r3 r4=>by
    have:=hk2 (i - sa) (by exact Nat.sub_lt_left_of_lt_add ‹_› ‹_›)
    rw [show sa+(i - sa)=i by exact Nat.add_sub_of_le ‹_›] at this
    exact Le.trans this (s2.le (by (solve_by_elim (maxDepth:=3) only [*,Nat.le_trans,Nat.lt_of_lt_of_le,Nat.lt_of_le_of_lt,Nat.le_of_lt,Nat.add_le_add_left,Nat.add_lt_add_left,Nat.le_add_right,Nat.lt_of_succ_lt])) r3 r4)
  by_cases z:(na - k == 0)=true
  · refine bh z (wpS_pure (h a g (List.Perm.refl _) (fun _ _=>rfl) fun i j r1 r2 r3=>?_))
    have z':k=na:=by simp at z;lia
    by_cases c:j < sa+na
    · exact s1 i j r1 r2 c
    · by_cases c':i < sa+na
      · exact lo i r1 (by lia) j (by exact Nat.le_of_not_lt ‹_›) r3
      · exact s2 i j (by exact Nat.le_of_not_lt ‹_›) r2 r3
  refine bd z ?_
  have z':k < na:=by simp at z;lia
  have b2:sa+na - 1 < a.size:=by exact Nat.lt_of_le_of_lt (Nat.sub_le _ _) ‹_›
  rw [show sa+k+(na - k) - 1=sa+na - 1 by lia]
  refine wpS_bind (gD b2 ?_)
  refine wpS_bind (g5 C (k:=at' a (sa+na - 1)) (arr:=a) (base:=sa+na) (n:=nb) (hint:=nb - 1) rfl (by exact Nat.sub_lt ‹_› Nat.one_pos) (by assumption) (da _ b2) da ?m2 fun m hm1 hm2 hm3=>?_)
  case m2=>
    intro i j hij hj e
    simp only [gK,if_true] at e ⊢
    exact KeyOrd.klt_of_kle_of_klt (O:=O) (s2.le (by exact Nat.le_add_right _ _) (by lia) (by exact Nat.add_lt_add_left ‹_› _):Le O key (at' a (sa+na+i)) (at' a (sa+na+j))) e
  simp only [gK,if_true] at hm2 hm3
  have up:∀j,sa+na+m≤j→j < sa+na+nb→∀i,sa≤i→i < sa+na→Le O key (at' a i) (at' a j):=fun j r3 r4 i r1 r2=>by
    have:=hm3 (j - (sa+na)) (by exact Nat.le_sub_of_add_le' ‹_›) (by lia)
    rw [show sa+na+(j - (sa+na))=j by exact Nat.add_sub_of_le (Nat.le_trans (Nat.le_add_right _ _) ‹_›)] at this
    exact (s1.le r1 (by lia) (by lia):Le O key (at' a i) (at' a (sa+na - 1))).trans this
  by_cases y:(m == 0)=true
  · refine bh y (wpS_pure (h a g (List.Perm.refl _) (fun _ _=>rfl) fun i j r1 r2 r3=>?_))
    have y':m=0:=by simpa using y
    by_cases c:j < sa+na
    · exact s1 i j r1 r2 c
    · by_cases c':i < sa+na
      · exact up j (by lia) r3 i r1 c'
      · exact s2 i j (by exact Nat.le_of_not_lt ‹_›) r2 r3
  refine bd y ?_
  have y':0 < m:=by simp at y;exact Nat.pos_of_ne_zero ‹_›
  have zx:(a.extract (sa+k) (sa+na)).size=na - k:=by rw [yi (by exact Nat.add_le_add_left ‹_› _) (by exact Nat.le_of_lt ‹_›)];lia
  have zy:(a.extract (sa+na) (sa+na+m)).size=m:=by rw [yi (by exact Nat.le_add_right _ _) (by lia)];lia
  have mx:∀x∈(a.extract (sa+k) (sa+na)).toList,∃t,sa+k≤t∧t < sa+na∧x=at' a t:=fun x hx=>by
    obtain ⟨t,t1,t2,t3,t4⟩:=oj hx
    exact ⟨t,t1,t2,t4⟩
  have my:∀x∈(a.extract (sa+na) (sa+na+m)).toList,∃t,sa+na≤t∧t < sa+na+m∧x=at' a t:=fun x hx=>by
    obtain ⟨t,t1,t2,t3,t4⟩:=oj hx
    exact ⟨t,t1,t2,t4⟩
  have dx:∀x∈(a.extract (sa+k) (sa+na)).toList,dom x:=fun x hx=>by obtain ⟨t,t1,t2,rfl⟩:=mx x hx;exact da _ (by lia)
  have dy:∀x∈(a.extract (sa+na) (sa+na+m)).toList,dom x:=fun x hx=>by obtain ⟨t,t1,t2,rfl⟩:=my x hx;exact da _ (by lia)
  have px:=yj (hi:=sa+na) (lo:=sa+k) (a:=a) (fun i j r1 r2 r3=>s1 i j (by exact Nat.le_trans (Nat.le_add_right _ _) ‹_›) r2 r3) (by exact Nat.le_of_lt ‹_›)
  have py:=yj (hi:=sa+na+m) (lo:=sa+na) (a:=a) (fun i j r1 r2 r3=>s2 i j (by assumption) r2 (by lia)) (by lia)
  have fx:at' (a.extract (sa+k) (sa+na)) 0=at' a (sa+k):=pW (by exact Nat.add_lt_add_left ‹_› _) (by exact Nat.le_of_lt ‹_›)
  have lx:at' (a.extract (sa+k) (sa+na)) ((a.extract (sa+k) (sa+na)).size - 1)=at' a (sa+na - 1):=by
    rw [zx,pW (by lia) (by exact Nat.le_of_lt ‹_›)]
    congr 1
    lia
  have fy:at' (a.extract (sa+na) (sa+na+m)) 0=at' a (sa+na):=pW (by exact Nat.add_lt_add_left ‹_› _) (by lia)
  have h0:O.blt (key (at' a (sa+na))) (key (at' a (sa+k)))=true:=hk3 k (by exact Nat.le_refl _) z'
  have yl:∀y∈(a.extract (sa+na) (sa+na+m)).toList,Le O key y (at' a (sa+na - 1)):=fun y hy=>by
    obtain ⟨t,t1,t2,rfl⟩:=my y hy
    have:=hm2 (t - (sa+na)) (by exact Nat.sub_lt_left_of_lt_add ‹_› ‹_›)
    rw [show sa+na+(t - (sa+na))=t by exact Nat.add_sub_of_le ‹_›] at this
    exact Le.of this
  have xf:∀y∈(a.extract (sa+k) (sa+na)).toList,Le O key (at' a (sa+na)) y:=fun y hy=>by
    obtain ⟨t,t1,t2,rfl⟩:=mx y hy
    exact (Le.of h0).trans (s1.le (by exact Nat.le_add_right _ _) t1 t2)
  have fin:∀(r:Array Keyed) (g':Nat),gR (Le O key) ((a.extract (sa+k) (sa+na)).toList++(a.extract (sa+na) (sa+na+m)).toList) r.toList→
      Q true (SortSt.mk' κ (wr a (sa+k) r.toList.zipIdx) ((pd.setIfInBounds i (sa,na+nb,pw)).eraseIdxIfInBounds (i+1)) g' none):=by
    intro r g' ⟨gp,gs⟩
    have rl:r.toList.length=na - k+m:=by rw [gp.length_eq,List.length_append,Array.length_toList,Array.length_toList,zx,zy]
    have at1:=vR (sa+k) r.toList 0 a (by lia)
    have rm:∀x∈r.toList,∃t,sa+k≤t∧t < sa+na+m∧x=at' a t:=fun x hx=>by
      rcases List.mem_append.mp (gp.mem_iff.mp hx) with hx | hx
      · obtain ⟨t,t1,t2,e⟩:=mx x hx
        exact ⟨t,t1,by exact Nat.lt_add_right _ ‹_›,e⟩
      · obtain ⟨t,t1,t2,e⟩:=my x hx
        exact ⟨t,by lia,t2,e⟩
    have rg:∀n,n < r.toList.length→r.toList.getD n xw=at' r n:=fun n hn=>by
      have hn':n < r.size:=by simpa using hn
      rw [←g6 hn]
      simp [hn']
    have rt:∀n,n < r.toList.length→∃t,sa+k≤t∧t < sa+na+m∧at' r n=at' a t:=fun n hn=>rm _ (by rw [←g6 hn];exact List.getElem_mem _)
    refine h _ g' ?_ (fun j hj=>?_) fun i j r1 r2 r3=>?_
    · rw [xx _ _ (by lia)]
      have ea:a.toList=a.toList.take (sa+k)++((a.extract (sa+k) (sa+na)).toList++(a.extract (sa+na) (sa+na+m)).toList)++a.toList.drop (sa+k+r.toList.length):=by
        rw [←List.append_assoc,←oi (by exact Nat.add_le_add_left ‹_› _),←oi (by exact Nat.le_add_right _ _),rl,show sa+k+(na - k+m)=sa+na+m by lia,List.take_append_drop]
      refine List.Perm.trans ?_ (List.Perm.of_eq ea.symm)
      exact List.Perm.append_right _ (List.Perm.append_left _ gp)
    · show at' (wr a (sa+k) (r.toList.zipIdx 0)) j=_
      rw [at1,if_neg (by lia)]
    · show Le O key (at' (wr a (sa+k) (r.toList.zipIdx 0)) i) (at' (wr a (sa+k) (r.toList.zipIdx 0)) j)
      rw [at1,at1]
      by_cases ci:i < sa+k
      · rw [if_neg (by lia)]
        by_cases cj:j < sa+na+m
        · by_cases cj':j < sa+k
          · rw [if_neg (by lia)]
            exact s1 i j r1 r2 (by lia)
          · rw [if_pos (by lia),rg _ (by lia)]
            obtain ⟨t,t1,t2,e⟩:=rt (j - (sa+k+0)) (by lia)
            rw [e]
            by_cases ct:t < sa+na
            · exact s1 i t r1 (by exact Nat.lt_of_lt_of_le ‹_› ‹_›) ct
            · exact lo i r1 ci t (by exact Nat.le_of_not_lt ‹_›) (by lia)
        · rw [if_neg (by lia)]
          exact lo i r1 ci j (by lia) r3
      · by_cases ci':i < sa+na+m
        · rw [if_pos (by lia),rg _ (by lia)]
          by_cases cj:j < sa+na+m
          · rw [if_pos (by lia),rg _ (by lia)]
            have:=List.pairwise_iff_getElem.mp gs (i - (sa+k+0)) (j - (sa+k+0)) (by lia) (by lia) (by lia)
            rw [g6,g6] at this
            exact this
          · rw [if_neg (by lia)]
            obtain ⟨t,t1,t2,e⟩:=rt (i - (sa+k+0)) (by lia)
            rw [e]
            by_cases ct:t < sa+na
            · exact up j (by exact Nat.le_of_not_lt ‹_›) r3 t (by exact Nat.le_trans (Nat.le_add_right _ _) ‹_›) ct
            · exact s2 t j (by exact Nat.le_of_not_lt ‹_›) (by lia) r3
        · rw [if_neg (by lia),if_neg (by lia)]
          exact s2 i j (by lia) r2 r3
  refine gS (fun _=>?_) (fun _=>?_)
  · refine wpS_bind (uf C rfl dx dy (by lia) (by lia) px py (by rw [fx,fy];exact h0) (by rw [lx];exact yl) fun r st' hs hg=>?_)
    obtain ⟨g',rfl⟩:=hs
    exact wpS_bind (wpS_modify (wpS_bind (wpS_get (wpS_pure (fin r g' hg)))))
  · refine wpS_bind (ug C rfl dx dy (by lia) (by lia) px py (by rw [lx];exact yl) (by rw [fy];exact xf) fun r st' hs hg=>?_)
    obtain ⟨g',rfl⟩:=hs
    exact wpS_bind (wpS_modify (wpS_bind (wpS_get (wpS_pure (fin r g' hg)))))
end
end NhLS
namespace NhLS
set_option autoImplicit false
open PySem PyProof.Rows
structure Sx (a b:Array Keyed) (lo hi:Nat):Prop where
  perm:b.toList.Perm a.toList
  out:∀j,j < lo∨hi≤j→at' b j=at' a j
def Dn (O:KeyOrd) (key:Keyed→O.α) (a:Array Keyed) (lo hi:Nat):Prop:=∀i j,lo≤i→i < j→j < hi→Le O key (at' a j) (at' a i)
def Eqs (O:KeyOrd) (key:Keyed→O.α) (a:Array Keyed) (e q:Nat):Prop:=∀i,e - (q+1)≤i→i < e→Le O key (at' a i) (at' a (e - 1))∧Le O key (at' a (e - 1)) (at' a i)
section
variable {O:KeyOrd} {key:Keyed→O.α} {a b c:Array Keyed} {i j k lo hi n q:Nat}
theorem Sx.refl:Sx a a lo hi:=⟨List.Perm.refl _,fun _ _=>rfl⟩
theorem Sx.trans (h1:Sx a b lo hi) (h2:Sx b c lo hi):Sx a c lo hi:=⟨h2.perm.trans h1.perm,fun j hj=>(h2.out j hj).trans (h1.out j hj)⟩
theorem Sx.size (h:Sx a b lo hi):b.size=a.size:=by have:=h.perm.length_eq;simpa using this
theorem Sx.dom {dom:Keyed→Prop} (h:Sx a b lo hi) (da:∀x∈a.toList,dom x):∀x∈b.toList,dom x:=fun x hx=>da x (h.perm.mem_iff.mp hx)
theorem xz (a:Array Keyed) (i:Nat):at' a i=(a[i]?).getD xw:=Array.getD_eq_getD_getElem? ..
theorem h6 (hj:j≤a.size) (k:Nat):at' (mirror a i j ((j - i) / 2)) k=if i≤k∧k < j then at' a (i+j - 1 - k) else at' a k:=by
  rw [xz,getElem?_mirror_all hj]
  split <;> rw [xz]
theorem rj (hk:k < a.size) (hd:n≤k) (i:Nat):at' (bubble a k n) i=if i=k - n then at' a k else if k - n < i∧i≤k then at' a (i - 1) else at' a i:=by
  rw [xz,getElem?_bubble hk n hd]
  repeat' split
  all_goals rw [xz]
theorem Sx.rev (h1:lo≤i) (h2:j≤hi) (h3:j≤a.size):Sx a (mirror a i j ((j - i) / 2)) lo hi:=
  ⟨Array.perm_iff_toList_perm.mp (mirror_perm _ _ _ _),fun k hk=>by rw [h6 h3,if_neg (by lia)]⟩
theorem Sx.bub (h1:k < a.size) (h0:n≤k) (h2:lo≤k - n) (h3:k < hi):Sx a (bubble a k n) lo hi:=
  ⟨Array.perm_iff_toList_perm.mp (bubble_perm _ _ _),fun j hj=>by rw [rj h1 h0,if_neg (by lia),if_neg (by lia)]⟩
theorem So.step (h:So O key a lo hi) (hl:lo < hi) (e:Le O key (at' a (hi - 1)) (at' a hi)):So O key a lo (hi+1):=fun i j h1 h2 h3=>by
  by_cases c:j < hi
  · exact h i j h1 h2 c
  · rw [show j=hi by lia]
    exact (h.le h1 (by lia) (by lia):Le O key (at' a i) (at' a (hi - 1))).trans e
theorem Dn.le (h:Dn O key a lo hi) (h1:lo≤i) (h2:i≤j) (h3:j < hi):Le O key (at' a j) (at' a i):=by
  by_cases e:i=j
  · rw [e];exact Le.refl _
  · exact h i j h1 (by exact Nat.lt_of_le_of_ne ‹_› ‹_›) h3
theorem Dn.step (h:Dn O key a lo hi) (hl:lo < hi) (e:Le O key (at' a hi) (at' a (hi - 1))):Dn O key a lo (hi+1):=fun i j h1 h2 h3=>by
  by_cases c:j < hi
  · exact h i j h1 h2 c
  · rw [show j=hi by lia]
    exact Le.trans e (h.le h1 (by lia) (by lia))
theorem Dn.rev (h:Dn O key a lo hi) (e:Eqs O key a hi q) (hz:hi≤a.size) (hq:lo+(q+1)≤hi):Dn O key (mirror a (hi - (q+1)) hi ((hi - (hi - (q+1))) / 2)) lo hi:=fun i j h1 h2 h3=>by
  rw [h6 hz,h6 hz]
  by_cases c:hi - (q+1)≤i
  · rw [if_pos (by lia),if_pos (by lia)]
    exact (e _ (by lia) (by lia)).1.trans (e _ (by lia) (by lia)).2
  · rw [if_neg (show ¬(hi - (q+1)≤i∧i < hi) by exact fun h=>‹¬_› h.1)]
    by_cases c':hi - (q+1)≤j
    · rw [if_pos (by exact ⟨‹_›,‹_›⟩)]
      exact h _ _ h1 (by lia) (by lia)
    · rw [if_neg (by exact fun h=>‹¬_› h.1)]
      exact h _ _ h1 h2 h3
theorem Dn.flip (h:Dn O key a lo hi) (hz:hi≤a.size):So O key (mirror a lo hi ((hi - lo) / 2)) lo hi:=fun i j h1 h2 h3=>by
  rw [h6 hz,h6 hz,if_pos (by lia),if_pos (by lia)]
  exact h _ _ (by lia) (by lia) (by lia)
theorem Eqs.one:Eqs O key a (hi+1) 0:=fun i h1 h2=>by
  rw [show i=hi by lia]
  exact ⟨Le.refl _,Le.refl _⟩
end
section
variable {prog:Program} {w:World} {A:Around} {E:Value→Shared→Prop} {s:Shared} {κ:SortKind} {O:KeyOrd} {key:Keyed→O.α} {dom:Keyed→Prop} {a:Array Keyed} {pd:Array (Nat×Nat×Nat)} {g:Nat}
theorem j7 (C:Cmp prog w A s κ O key dom) {i j:Nat} {Q:Option Bool→SortSt→Prop} (da:∀x∈a.toList,dom x) (hi:i < a.size) (hj:j < a.size) (h:Q (some (O.blt (key (at' a i)) (key (at' a j)))) (SortSt.mk' κ a pd g none)):wpS (model prog w) A E s (ltAt' i j) Q (SortSt.mk' κ a pd g none):=
  wpS_bind (wpS_get (wpS_bind (gD hi (wpS_bind (gD hj (vP C rfl (da _ (jg hi)) (da _ (jg hj)) h))))))
theorem sO {i j:Nat} {Q:Unit→SortSt→Prop} (h:Q () (SortSt.mk' κ (mirror a i j ((j - i) / 2)) pd g none)):wpS (model prog w) A E s (reverseSlice' i j) Q (SortSt.mk' κ a pd g none):=wpS_modify h
theorem zE {k l:Nat} {Q:Unit→SortSt→Prop} (h:Q () (SortSt.mk' κ (bubble a k (k - l)) pd g none)):wpS (model prog w) A E s (moveDown' k l) Q (SortSt.mk' κ a pd g none):=wpS_modify h
theorem yk {lo n0 nrem:Nat} {β:Type} {body:Nat→Option β×Nat→StateT SortSt Sem (ForInStep (Option β×Nat))} {Q:Option β×Nat→SortSt→Prop} (h1:1≤n0) (h2:n0≤nrem) (hs:So O key a lo (lo+n0))
    (hb:∀x n (R:ForInStep (Option β×Nat)→SortSt→Prop),1≤n→n < nrem→R (if O.blt (key (at' a (lo+n))) (key (at' a (lo+n - 1)))=true then .done (none,n) else .yield (none,n+1)) (SortSt.mk' κ a pd g none)→wpS (model prog w) A E s (body x (none,n)) R (SortSt.mk' κ a pd g none))
    (h:∀n,n0≤n→n≤nrem→So O key a lo (lo+n)→(n < nrem→O.blt (key (at' a (lo+n))) (key (at' a (lo+n - 1)))=true)→Q (none,n) (SortSt.mk' κ a pd g none)):
    wpS (model prog w) A E s (forIn [n0:nrem] (none,n0) body) Q (SortSt.mk' κ a pd g none):=by
  refine wpS_forRange (I:=fun x c st'=>st'=SortSt.mk' κ a pd g none∧c=(none,x)∧n0≤x∧So O key a lo (lo+x)) ?_ ?_ ⟨rfl,rfl,Nat.le_refl _,hs⟩
  · rintro x c st' q1 q2 ⟨rfl,rfl,q3,q4⟩
    refine hb x x _ (by exact Nat.lt_of_lt_of_le ‹_› ‹_›) q2 ?_
    cases e:O.blt (key (at' a (lo+x))) (key (at' a (lo+x - 1))) with
    | true=>exact h x q3 (by exact Nat.le_of_lt ‹_›) q4 fun _=>e
    | false=>exact ⟨rfl,rfl,by (solve_by_elim (maxDepth:=3) only [*,Nat.le_trans,Nat.lt_of_lt_of_le,Nat.lt_of_le_of_lt,Nat.le_of_lt]),q4.step (by lia) e⟩
  · rintro c st' ⟨rfl,rfl,q3,q4⟩
    rw [show max n0 nrem=nrem by exact Nat.max_eq_right ‹_›] at q4 ⊢
    exact h nrem h2 (Nat.le_refl _) q4 fun z=>absurd z (Nat.lt_irrefl _)
theorem om (C:Cmp prog w A s κ O key dom) {lo n ok:Nat} {Q:Bool→SortSt→Prop} (da:∀x∈a.toList,dom x) (h1:1≤ok) (h2:ok≤n) (hz:lo+n≤a.size) (hs:So O key a lo (lo+ok))
    (h:∀b,Sx a b lo (lo+n)→So O key b lo (lo+n)→Q true (SortSt.mk' κ b pd g none)):wpS (model prog w) A E s (binarySort' lo n ok) Q (SortSt.mk' κ a pd g none):=by
  refine wpS_bind (wpS_mono (wpS_forRange (I:=fun k c st'=>c=(none,())∧∃b,st'=SortSt.mk' κ b pd g none∧Sx a b lo (lo+n)∧So O key b lo (lo+k)) (Q:=fun c st'=>c=(none,())∧∃b,st'=SortSt.mk' κ b pd g none∧Sx a b lo (lo+n)∧So O key b lo (lo+n)) ?s1 ?s2 ⟨rfl,a,rfl, .refl,by rw [show max ok 1=ok by exact Nat.max_eq_left ‹_›];exact hs⟩) ?s3)
  case s3=>
    rintro c st' ⟨rfl,b,rfl,sb,ss⟩
    exact wpS_pure (h b sb ss)
  case s2=>
    rintro c st' ⟨rfl,b,rfl,sb,ss⟩
    rw [show max (max ok 1) n=n by lia] at ss
    exact ⟨rfl,b,rfl,sb,ss⟩
  case s1=>
    rintro k c st' k1 k2 ⟨rfl,b,rfl,sb,ss⟩
    have bz:=sb.size
    have ik:lo+k < b.size:=by lia
    refine wpS_bind (wpS_mono (wpS_forRange (I:=fun x c st'=>st'=SortSt.mk' κ b pd g none∧∃l r,c=(none,l,r)∧l≤r∧r≤k∧r+x≤k+l∧(∀i,i < l→Le O key (at' b (lo+i)) (at' b (lo+k)))∧(∀i,r≤i→i < k→Le O key (at' b (lo+k)) (at' b (lo+i))))
      (Q:=fun c st'=>st'=SortSt.mk' κ b pd g none∧∃l,c=(none,l,l)∧l≤k∧(∀i,i < l→Le O key (at' b (lo+i)) (at' b (lo+k)))∧(∀i,l≤i→i < k→Le O key (at' b (lo+k)) (at' b (lo+i)))) ?t1 ?t2 ⟨rfl,0,k,rfl,by exact Nat.zero_le _,by exact Nat.le_refl _,by (solve_by_elim (maxDepth:=3) only [*,Nat.le_trans,Nat.lt_of_lt_of_le,Nat.lt_of_le_of_lt,Nat.le_of_lt,Nat.add_le_add_left,Nat.add_lt_add_left,Nat.le_add_right,Nat.lt_of_succ_lt]),fun i hi=>by lia,fun i h1 h2=>by lia⟩) ?t3)
    case t2=>
      rintro c st' ⟨rfl,l,r,rfl,p1,p2,p3,p4,p5⟩
      have:l=r:=by lia
      subst this
      exact ⟨rfl,l,rfl,p2,p4,p5⟩
    case t1=>
      rintro x c st' - x2 ⟨rfl,l,r,rfl,p1,p2,p3,p4,p5⟩
      dsimp only
      refine gS (fun z=>?_) (fun z=>?_)
      · have:l=r:=by exact Nat.le_antisymm ‹_› ‹_›
        subst this
        exact wpS_pure ⟨rfl,l,rfl,p2,p4,p5⟩
      · have im:lo+(l+r) / 2 < b.size:=by lia
        refine wpS_bind (j7 C (sb.dom da) ik im ?_)
        cases e:O.blt (key (at' b (lo+k))) (key (at' b (lo+(l+r) / 2))) with
        | true=>exact wpS_pure ⟨rfl,l,(l+r) / 2,rfl,by lia,by lia,by lia,p4,fun i r1 r2=>(Le.of e).trans (ss.le (by exact Nat.le_add_right _ _) (by exact Nat.add_le_add_left ‹_› _) (by exact Nat.add_lt_add_left ‹_› _))⟩
        | false=>exact wpS_pure ⟨rfl,(l+r) / 2+1,r,rfl,by lia,by assumption,by lia,fun i r1=>(ss.le (by exact Nat.le_add_right _ _) (by lia) (by lia):Le O key (at' b (lo+i)) (at' b (lo+(l+r) / 2))).trans e,p5⟩
    case t3=>
      rintro c st' ⟨rfl,l,rfl,p2,p4,p5⟩
      refine wpS_bind (zE (wpS_pure ⟨rfl,_,rfl,sb.trans (Sx.bub (k:=lo+k) (n:=lo+k - (lo+l)) ik (by exact Nat.sub_le _ _) (by lia) (by exact Nat.add_lt_add_left ‹_› _)),fun i j r1 r2 r3=>?_⟩))
      have q4:∀i,lo≤i→i < lo+l→Le O key (at' b i) (at' b (lo+k)):=fun i u1 u2=>by have:=p4 (i - lo) (by exact Nat.sub_lt_left_of_lt_add ‹_› ‹_›);rwa [show lo+(i - lo)=i by exact Nat.add_sub_of_le ‹_›] at this
      have q5:∀i,lo+l≤i→i < lo+k→Le O key (at' b (lo+k)) (at' b i):=fun i u1 u2=>by have:=p5 (i - lo) (by exact Nat.le_sub_of_add_le' ‹_›) (by lia);rwa [show lo+(i - lo)=i by exact Nat.add_sub_of_le (Nat.le_trans (Nat.le_add_right _ _) ‹_›)] at this
      show Le O key (at' (bubble b (lo+k) (lo+k - (lo+l))) i) (at' (bubble b (lo+k) (lo+k - (lo+l))) j)
      rw [rj ik (by exact Nat.sub_le _ _),rj ik (by exact Nat.sub_le _ _),show lo+k - (lo+k - (lo+l))=lo+l by lia]
      repeat' split
      all_goals first
        | (exfalso;lia)
        | exact q4 _ (by assumption) (by (first | exact Nat.lt_of_lt_of_eq ‹_› ‹_› | lia))
        | exact q5 _ (by (first | exact Nat.add_le_add_left ‹_› _ | lia)) (by lia)
        | exact ss _ _ (by (first | assumption | lia)) (by (first | assumption | lia)) (by lia)
theorem rk (C:Cmp prog w A s κ O key dom) {lo nrem:Nat} {Q:Option Nat→SortSt→Prop} (da:∀x∈a.toList,dom x) (h1:1≤nrem) (hz:lo+nrem≤a.size)
    (h:∀m b,1≤m→m≤nrem→Sx a b lo (lo+nrem)→So O key b lo (lo+m)→Q (some m) (SortSt.mk' κ b pd g none)):wpS (model prog w) A E s (countRun' lo nrem) Q (SortSt.mk' κ a pd g none):=by
  refine wpS_bind (yk (O:=O) (key:=key) (a:=a) (lo:=lo) (n0:=1) (nrem:=nrem) (Nat.le_refl _) h1 (fun i j r1 r2 r3=>by lia) (fun x n R n1 n2 hR=>?_) fun n q1 q2 q3 q4=>?_)
  · refine wpS_bind (j7 C da (show lo+n < a.size by lia) (show lo+n - 1 < a.size by lia) ?_)
    cases e:O.blt (key (at' a (lo+n))) (key (at' a (lo+n - 1))) with
    | true=>rw [e] at hR;exact wpS_pure hR
    | false=>rw [e] at hR;exact wpS_pure hR
  dsimp -zeta only
  by_cases z:(n == nrem)=true
  · exact bh z (wpS_pure (h n a q1 q2 .refl q3))
  refine bd z ?_
  have z':n < nrem:=by simp at z;exact Nat.lt_of_le_of_ne ‹_› ‹_›
  have sn:=q4 z'
  extract_lets
  rename Unit→_=>jp
  have J:∀b,Sx a b lo (lo+nrem)→Dn O key b lo (lo+n+1)→wpS (model prog w) A E s (jp ()) Q (SortSt.mk' κ b pd g none):=by
    intro b sb db
    refine wpS_bind (wpS_lift (wpAny_rule ⟨rfl,?_⟩))
    refine wpS_bind (wpS_mono (wpS_forRange (I:=fun x c st'=>∃b q,st'=SortSt.mk' κ b pd g none∧Sx a b lo (lo+nrem)∧c=(none,x,q)∧q+1≤x∧n+1≤x∧Dn O key b lo (lo+x)∧Eqs O key b (lo+x) q)
      (Q:=fun c st'=>∃b m q,st'=SortSt.mk' κ b pd g none∧Sx a b lo (lo+nrem)∧c=(none,m,q)∧q+1≤m∧m≤nrem∧Dn O key b lo (lo+m)∧Eqs O key b (lo+m) q) ?s1 ?s2 ⟨b,0,rfl,sb,rfl,by exact Nat.lt_succ_of_lt ‹_›,by exact Nat.lt_succ_self _,db,Eqs.one⟩) ?s3)
    case s2=>
      rintro c st' ⟨b,q,rfl,sb,rfl,p1,p2,p3,p4⟩
      rw [show max (n+1) nrem=nrem by exact Nat.max_eq_right ‹_›] at *
      exact ⟨b,nrem,q,rfl,sb,rfl,p1,Nat.le_refl _,p3,p4⟩
    case s1=>
      rintro x c st' x1 x2 ⟨b,q,rfl,sb,rfl,p1,p2,p3,p4⟩
      have bz:=sb.size
      have i1:lo+x < b.size:=by lia
      have i2:lo+x - 1 < b.size:=by exact Nat.lt_of_le_of_lt (Nat.sub_le _ _) ‹_›
      refine wpS_bind (j7 C (sb.dom da) i1 i2 ?_)
      cases e:O.blt (key (at' b (lo+x))) (key (at' b (lo+x - 1))) with
      | true=>
        dsimp only
        rw [if_pos rfl]
        refine gS (fun z=>?_) (fun z=>?_)
        · refine wpS_bind (sO (wpS_pure ⟨_,0,rfl,sb.trans (Sx.rev (by lia) (by lia) (by exact Nat.le_of_lt ‹_›)),rfl,by exact Nat.le_add_left _ _,by exact Nat.lt_succ_of_lt ‹_›,?_,Eqs.one⟩))
          refine (p3.rev p4 (by exact Nat.le_of_lt ‹_›) (by exact Nat.add_lt_add_left ‹_› _)).step (by lia) ?_
          rw [h6 (by exact Nat.le_of_lt ‹_›),h6 (by exact Nat.le_of_lt ‹_›),if_neg (by lia),if_pos (by lia)]
          exact (Le.of e).trans (p4 _ (by lia) (by lia)).2
        · exact wpS_pure ⟨b,0,rfl,sb,rfl,by exact Nat.le_add_left _ _,by exact Nat.lt_succ_of_lt ‹_›,p3.step (by lia) (Le.of e),Eqs.one⟩
      | false=>
        dsimp only
        rw [if_neg (by simp)]
        refine wpS_bind (j7 C (sb.dom da) i2 i1 ?_)
        cases e':O.blt (key (at' b (lo+x - 1))) (key (at' b (lo+x))) with
        | true=>exact wpS_pure ⟨b,x,q,rfl,sb,rfl,p1,by exact Nat.le_of_lt ‹_›,p3,p4⟩
        | false=>
          refine wpS_pure ⟨b,q+1,rfl,sb,rfl,by exact Nat.succ_lt_succ ‹_›,by exact Nat.lt_succ_of_lt ‹_›,p3.step (by lia) e',fun i r1 r2=>?_⟩
          show Le O key (at' b i) (at' b (lo+x))∧Le O key (at' b (lo+x)) (at' b i)
          by_cases c:i=lo+x
          · rw [c];exact ⟨Le.refl _,Le.refl _⟩
          · obtain ⟨u1,u2⟩:=p4 i (by lia) (by lia)
            exact ⟨u1.trans e,Le.trans e' u2⟩
    case s3=>
      rintro c st' ⟨b,m,q,rfl,sb,rfl,p1,p2,p3,p4⟩
      have bz:=sb.size
      dsimp -zeta only
      extract_lets
      rename Unit→_=>jp2
      have J2:∀b,Sx a b lo (lo+nrem)→Dn O key b lo (lo+m)→wpS (model prog w) A E s (jp2 ()) Q (SortSt.mk' κ b pd g none):=by
        intro b sb db
        have bz:=sb.size
        refine wpS_bind (sO ?_)
        have sc:=sb.trans (Sx.rev (a:=b) (i:=lo) (j:=lo+m) (Nat.le_refl lo) (show lo+m≤lo+nrem by exact Nat.add_le_add_left ‹_› _) (by lia))
        have cz:=sc.size
        have ss:=db.flip (by lia)
        revert sc cz ss
        generalize mirror b lo (lo+m) ((lo+m - lo) / 2)=c
        intro sc cz ss
        refine wpS_bind (yk (O:=O) (key:=key) (a:=c) (lo:=lo) (n0:=m) (nrem:=nrem) (by exact Nat.le_trans (Nat.le_add_left _ _) ‹_›) p2 ss (fun x n R n1 n2 hR=>?_) fun n q1 q2 q3 q4=>?_)
        · refine wpS_bind (j7 C (sc.dom da) (show lo+n < c.size by lia) (show lo+n - 1 < c.size by lia) ?_)
          cases e:O.blt (key (at' c (lo+n))) (key (at' c (lo+n - 1))) with
          | true=>rw [e] at hR;exact wpS_pure hR
          | false=>rw [e] at hR;exact wpS_pure hR
        · exact wpS_pure (h n c (by lia) q2 sc q3)
      clear_value jp2
      refine gS (fun z=>?_) (fun z=>?_)
      · exact wpS_bind (sO (J2 _ (sb.trans (Sx.rev (a:=b) (i:=lo+m - (q+1)) (j:=lo+m) (by lia) (by exact Nat.add_le_add_left ‹_› _) (by lia))) (Dn.rev (hi:=lo+m) (q:=q) p3 p4 (by lia) (by exact Nat.add_lt_add_left ‹_› _))))
      · exact J2 b sb p3
  clear_value jp
  refine gS (fun c=>?_) (fun c=>?_)
  · refine wpS_bind (j7 C da (show lo < a.size by lia) (show lo+n - 1 < a.size by lia) ?_)
    cases e:O.blt (key (at' a lo)) (key (at' a (lo+n - 1))) with
    | true=>exact wpS_pure (h n a q1 q2 .refl q3)
    | false=>
      refine wpS_bind (sO (J _ (Sx.rev (Nat.le_refl _) (by exact Nat.add_le_add_left ‹_› _) (by lia)) fun i j r1 r2 r3=>?_))
      have all:∀x y,lo≤x→x < lo+n→lo≤y→y < lo+n→Le O key (at' a x) (at' a y):=fun x y x1 x2 y1 y2=>
        ((q3.le x1 (by lia) (by lia):Le O key (at' a x) (at' a (lo+n - 1))).trans e).trans (q3.le (Nat.le_refl _) y1 y2)
      rw [h6 (by lia),h6 (by lia),if_pos (show lo≤i∧i < lo+n by lia)]
      by_cases c':j < lo+n
      · rw [if_pos (by lia)]
        exact all _ _ (by lia) (by lia) (by lia) (by lia)
      · rw [if_neg (by exact fun h=>‹¬_› h.2),show j=lo+n by lia]
        exact (Le.of sn).trans (all _ _ (by lia) (by lia) (by lia) (by lia))
  · refine J a .refl fun i j r1 r2 r3=>?_
    rw [show i=lo+n - 1 by lia,show j=lo+n by lia]
    exact Le.of sn
end
end NhLS
namespace NhLS
set_option autoImplicit false
open PySem PyProof.Rows
def Ch (O:KeyOrd) (key:Keyed→O.α) (a:Array Keyed):List (Nat×Nat×Nat)→Nat→Nat→Prop
  | [],p,e=>p=e
  | t::l,p,e=>t.1=p∧1≤t.2.1∧So O key a p (p+t.2.1)∧Ch O key a l (p+t.2.1) e
section
variable {O:KeyOrd} {key:Keyed→O.α} {a b:Array Keyed}
theorem Ch.app:∀{l l':List (Nat×Nat×Nat)} {p e:Nat},Ch O key a (l++l') p e→∃m,Ch O key a l p m∧Ch O key a l' m e
  | [],_,p,e,h=>⟨p,rfl,h⟩
  | t::l,_,p,e,h=>by
    obtain ⟨m,h1,h2⟩:=Ch.app h.2.2.2
    exact ⟨m,⟨h.1,h.2.1,h.2.2.1,h1⟩,h2⟩
theorem Ch.join:∀{l l':List (Nat×Nat×Nat)} {p m e:Nat},Ch O key a l p m→Ch O key a l' m e→Ch O key a (l++l') p e
  | [],_,p,m,e,h1,h2=>by rw [show p=m from h1];exact h2
  | t::l,_,p,m,e,h1,h2=>⟨h1.1,h1.2.1,h1.2.2.1,Ch.join h1.2.2.2 h2⟩
theorem Ch.le:∀{l:List (Nat×Nat×Nat)} {p e:Nat},Ch O key a l p e→p+l.length≤e
  | [],p,e,h=>by rw [show p=e from h];exact Nat.le_refl _
  | t::l,p,e,h=>by
    have:=Ch.le h.2.2.2
    have:=h.2.1
    rw [List.length_cons]
    lia
theorem Ch.ext:∀{l:List (Nat×Nat×Nat)} {p e:Nat},Ch O key a l p e→(∀j,p≤j→j < e→at' b j=at' a j)→Ch O key b l p e
  | [],p,e,h,_=>h
  | t::l,p,e,h,q=>by
    have:=Ch.le h.2.2.2
    exact ⟨h.1,h.2.1,h.2.2.1.ext fun j h1 h2=>q j h1 (by lia),Ch.ext h.2.2.2 fun j h1 h2=>q j (by exact Nat.le_trans (Nat.le_add_right _ _) ‹_›) h2⟩
theorem Ch.map:∀{l l':List (Nat×Nat×Nat)} {p e:Nat},Ch O key a l p e→l'.map (fun t=>(t.1,t.2.1))=l.map (fun t=>(t.1,t.2.1))→Ch O key a l' p e
  | [],l',p,e,h,q=>by
    cases l' with
    | nil=>exact h
    | cons _ _=>simp at q
  | t::l,l',p,e,h,q=>by
    cases l' with
    | nil=>simp at q
    | cons t' l'=>
      simp only [List.map_cons,List.cons.injEq,Prod.mk.injEq] at q
      refine ⟨q.1.1.trans h.1,by rw [q.1.2];exact h.2.1,by rw [q.1.2];exact h.2.2.1,?_⟩
      rw [q.1.2]
      exact Ch.map h.2.2.2 q.2
theorem xA (f:Nat×Nat×Nat→Nat×Nat×Nat) (hf:∀t,(f t).1=t.1∧(f t).2.1=t.2.1) (l:List (Nat×Nat×Nat)) (k:Nat):(l.modify k f).map (fun t=>(t.1,t.2.1))=l.map (fun t=>(t.1,t.2.1)):=by
  refine List.ext_getElem? fun j=>?_
  rw [List.getElem?_map,List.getElem?_map,List.getElem?_modify]
  cases l[j]? with
  | none=>rfl
  | some t=>
    by_cases e:k=j
    · simp [e,hf t]
    · simp [e]
theorem Ch.one {p n w:Nat} (h:So O key a p (p+n)) (h1:1≤n):Ch O key a [(p,n,w)] p (p+n):=⟨rfl,h1,h,rfl⟩
end
section
variable {prog:Program} {w:World} {A:Around} {E:Value→Shared→Prop} {s:Shared} {κ:SortKind} {O:KeyOrd} {key:Keyed→O.α} {dom:Keyed→Prop} {a:Array Keyed} {pd:Array (Nat×Nat×Nat)} {g:Nat}
theorem m9 (C:Cmp prog w A s κ O key dom) {i lo:Nat} {Q:Bool→SortSt→Prop} (da:∀x∈a.toList,dom x) (hi:i+1 < pd.size) (hz:lo≤a.size) (hc:Ch O key a pd.toList 0 lo)
    (h:∀b pd' g',b.toList.Perm a.toList→(∀j,lo≤j→at' b j=at' a j)→Ch O key b pd'.toList 0 lo→pd'.size+1=pd.size→Q true (SortSt.mk' κ b pd' g' none)):wpS (model prog w) A E s (mergeAt' i) Q (SortSt.mk' κ a pd g none):=by
  have el:pd.toList=pd.toList.take i++(pd[i]::pd[i+1]::pd.toList.drop (i+2)):=by
    conv=>lhs;rw [←List.take_append_drop i pd.toList]
    congr 1
    rw [List.drop_eq_getElem_cons (by simp;exact Nat.lt_of_succ_lt ‹_›),List.drop_eq_getElem_cons (by simp;assumption)]
    simp
  have e1:pd[i]? =some pd[i]:=getElem?_pos ..
  have e2:pd[i+1]? =some pd[i+1]:=getElem?_pos ..
  revert el e1 e2
  generalize pd[i]=t1
  generalize pd[i+1]=t2
  intro el e1 e2
  obtain ⟨sa,na,w1⟩:=t1
  obtain ⟨sb,nb,w2⟩:=t2
  have li:(pd.toList.take i).length=i:=by simp;lia
  revert el li
  generalize pd.toList.take i=pre
  generalize pd.toList.drop (i+2)=post
  intro el li
  rw [el] at hc
  obtain ⟨m,c1,c2⟩:=hc.app
  obtain ⟨u1,u2,u3,v1,v2,v3,c3⟩:=c2
  simp only at u1 u2 u3 v1 v2 v3 c3
  subst u1
  subst v1
  have le3:=c3.le
  refine uh C (fun i hi=>da _ (jg hi)) e1 e2 u2 v2 (by lia) u3 v3 fun b g' pb ob sb=>h b _ g' pb (fun j hj=>ob j (.inr (by lia))) ?_ ?_
  · have:((pd.setIfInBounds i (sa,na+nb,w1)).eraseIdxIfInBounds (i+1)).toList=pre++((sa,na+nb,w1)::post):=by
      have hs:i+1 < (pd.setIfInBounds i (sa,na+nb,w1)).size:=by simpa using hi
      rw [Array.eraseIdxIfInBounds,dif_pos hs,Array.toList_eraseIdx,Array.toList_setIfInBounds,el]
      subst li
      simp [List.eraseIdx_append_of_length_le]
    rw [this]
    refine (c1.ext fun j _ hj=>ob j (.inl hj)).join ⟨rfl,by show 1≤na+nb;exact Nat.lt_add_right _ ‹_›,by rw [←Nat.add_assoc];exact sb,?_⟩
    show Ch O key b post (sa+(na+nb)) lo
    rw [←Nat.add_assoc]
    exact c3.ext fun j hj _=>ob j (.inr hj)
  · have hs:i+1 < (pd.setIfInBounds i (sa,na+nb,w1)).size:=by simpa using hi
    rw [Array.eraseIdxIfInBounds,dif_pos hs,Array.size_eraseIdx]
    simp
    lia
theorem vS {c:Prop} [Decidable c] {x y:Nat} {Q:Bool→SortSt→Prop} {st:SortSt} (h:∀i,i=x∨i=y→wpS (model prog w) A E s (mergeAt' i) Q st):wpS (model prog w) A E s (mergeAt' (if c then x else y)) Q st:=by
  split
  · exact h _ (.inl rfl)
  · exact h _ (.inr rfl)
theorem rn (C:Cmp prog w A s κ O key dom) {Q:Unit→SortSt→Prop} (da:∀x∈a.toList,dom x) (h:∀b pd' g',b.toList.Perm a.toList→So O key b 0 a.size→Q () (SortSt.mk' κ b pd' g' none)):wpS (model prog w) A E s sortRuns' Q (SortSt.mk' κ a #[] g none):=by
  refine wpS_bind (wpS_get ?_)
  refine wpS_bind (wpS_mono (wpS_forRange (I:=fun x c st'=>∃b lo pd g,st'=SortSt.mk' κ b pd g none∧b.toList.Perm a.toList∧c=(none,lo)∧lo≤a.size∧(x≤lo∨lo=a.size)∧Ch O key b pd.toList 0 lo)
    (Q:=fun c st'=>∃b pd g,st'=SortSt.mk' κ b pd g none∧b.toList.Perm a.toList∧c=(none,a.size)∧Ch O key b pd.toList 0 a.size) ?s1 ?s2 ⟨a,0,#[],g,rfl,List.Perm.refl _,rfl,by exact Nat.zero_le _,by (solve_by_elim (maxDepth:=3) only [*,Nat.le_trans,Nat.lt_of_lt_of_le,Nat.lt_of_le_of_lt,Nat.le_of_lt]),rfl⟩) ?s3)
  case s2=>
    rintro c st' ⟨b,lo,pd,g,rfl,p1,rfl,p2,p3,p4⟩
    have:lo=a.size:=by
      rcases p3 with p3 | p3
      · have p3':max 0 a.size≤lo:=p3
        exact Nat.le_antisymm ‹_› ‹_›
      · exact p3
    subst this
    exact ⟨b,pd,g,rfl,p1,rfl,p4⟩
  case s1=>
    rintro x c st' - x2 ⟨b,lo,pd,g,rfl,p1,rfl,p2,p3,p4⟩
    have bz:b.size=a.size:=by have:=p1.length_eq;simpa using this
    refine zC fun R hR=>?_
    have Rd:∀b pd g,b.toList.Perm a.toList→Ch O key b pd.toList 0 a.size→R (.done (none,a.size)) (SortSt.mk' κ b pd g none):=fun b pd g q1 q2=>by rw [hR];exact ⟨b,pd,g,rfl,q1,rfl,q2⟩
    have Ry:∀b lo pd g,b.toList.Perm a.toList→lo≤a.size→(x+1≤lo∨lo=a.size)→Ch O key b pd.toList 0 lo→R (.yield (none,lo)) (SortSt.mk' κ b pd g none):=fun b lo pd g q1 q2 q3 q4=>by rw [hR];exact ⟨b,lo,pd,g,rfl,q1,rfl,q2,q3,q4⟩
    clear hR
    dsimp -zeta only
    extract_lets
    refine gS (fun z=>?_) (fun z=>?_)
    · have:lo=a.size:=by exact Nat.le_antisymm ‹_› ‹_›
      subst this
      exact wpS_pure (Rd b pd g p1 p4)
    have z':lo < a.size:=by exact Nat.lt_of_not_le ‹_›
    refine wpS_bind (rk C (fun x hx=>da x (p1.mem_iff.mp hx)) (lo:=lo) (nrem:=a.size - lo) (by exact Nat.sub_pos_of_lt ‹_›) (by lia) fun n c n1 n2 sc ss=>?_)
    dsimp -zeta only
    extract_lets
    rename Unit→Nat→_=>jp
    have J:∀(n:Nat) (c:Array Keyed),1≤n→n≤a.size - lo→Sx b c lo (lo+(a.size - lo))→So O key c lo (lo+n)→wpS (model prog w) A E s (jp () n) R (SortSt.mk' κ c pd g none):=by
      intro n c n1 n2 sc ss
      have cp:c.toList.Perm a.toList:=sc.perm.trans p1
      have ch:Ch O key c pd.toList 0 lo:=p4.ext fun j _ hj=>sc.out j (.inl hj)
      refine wpS_bind (wpS_get ?_)
      dsimp -zeta only
      extract_lets
      rename Unit→_=>jq
      have K:∀c pd g,c.toList.Perm a.toList→Ch O key c pd.toList 0 lo→So O key c lo (lo+n)→wpS (model prog w) A E s (jq ()) R (SortSt.mk' κ c pd g none):=by
        intro c pd g cp ch ss
        refine wpS_bind (wpS_modify (wpS_pure (Ry c (lo+n) (pd.push (lo,n,0)) g cp (by lia) (by lia) ?_)))
        rw [Array.toList_push]
        exact ch.join (Ch.one ss n1)
      clear_value jq
      cases eb:pd.back? with
      | none=>exact K c pd g cp ch ss
      | some t=>
        dsimp -zeta only
        refine wpS_bind (wpS_mono (wpS_forRange (I:=fun x r st'=>r=(none,())∧∃c pd g,st'=SortSt.mk' κ c pd g none∧c.toList.Perm a.toList∧Ch O key c pd.toList 0 lo∧So O key c lo (lo+n))
          (Q:=fun r st'=>r=(none,())∧∃c pd g,st'=SortSt.mk' κ c pd g none∧c.toList.Perm a.toList∧Ch O key c pd.toList 0 lo∧So O key c lo (lo+n)) ?t1 (fun _ _ q=>q) ⟨rfl,c,pd,g,rfl,cp,ch,ss⟩) ?t3)
        case t3=>
          rintro r st' ⟨rfl,c,pd,g,rfl,cp,ch,ss⟩
          refine wpS_bind (wpS_modify (K c _ g cp (ch.map ?_) ss))
          rw [Array.toList_modify]
          refine xA _ ?_ _ _
          exact fun _=>⟨rfl,rfl⟩
        case t1=>
          rintro y r st' - - ⟨rfl,c,pd,g,rfl,cp,ch,ss⟩
          refine wpS_bind (wpS_get ?_)
          dsimp only
          by_cases pz:pd.size > 1
          · rw [if_pos pz,getElem?_pos pd (pd.size - 2) (by lia)]
            refine gS (fun _=>?_) (fun _=>?_)
            · exact wpS_pure ⟨rfl,c,pd,g,rfl,cp,ch,ss⟩
            · have cz:c.size=a.size:=by have:=cp.length_eq;simpa using this
              refine wpS_bind (m9 C (fun x hx=>da x (cp.mem_iff.mp hx)) (i:=pd.size - 2) (lo:=lo) (by lia) (by lia) ch fun d pd' g' dp od dc _=>?_)
              exact wpS_pure ⟨rfl,d,pd',g',rfl,dp.trans cp,dc,ss.ext fun j j1 _=>od j j1⟩
          · rw [if_neg pz]
            exact wpS_pure ⟨rfl,c,pd,g,rfl,cp,ch,ss⟩
    clear_value jp
    refine gS (fun y=>?_) (fun y=>?_)
    · refine wpS_bind (wpS_lift (wpAny_rule ⟨rfl,?_⟩))
      have cz:=sc.size
      refine wpS_bind (om C (a:=c) (lo:=lo) (n:=min (a.size - lo) (minRun' a.size a.size 0)) (ok:=n) (fun x hx=>da x (p1.mem_iff.mp (sc.perm.mem_iff.mp hx))) n1 (by have y':n < minRun' a.size a.size 0:=y;lia) (by lia) ss fun d sd ds=>?_)
      refine bd (by simp) ?_
      exact J _ d (by have y':n < minRun' a.size a.size 0:=y;lia) (by lia) (sc.trans ⟨sd.perm,fun j hj=>sd.out j (by lia)⟩) ds
    · exact J n c n1 n2 sc ss
  case s3=>
    rintro c st' ⟨b,pd,g,rfl,p1,rfl,p2⟩
    refine wpS_bind (wpS_mono (wpS_forRange (I:=fun x r st'=>r=(none,())∧∃c pd g,st'=SortSt.mk' κ c pd g none∧c.toList.Perm a.toList∧Ch O key c pd.toList 0 a.size∧(pd.size+x≤a.size∨pd.size≤1))
      (Q:=fun r st'=>r=(none,())∧∃c pd g,st'=SortSt.mk' κ c pd g none∧c.toList.Perm a.toList∧Ch O key c pd.toList 0 a.size∧pd.size≤1) ?t1 ?t2 ⟨rfl,b,pd,g,rfl,p1,p2, .inl (by have:=p2.le;simp at this;assumption)⟩) ?t3)
    case t2=>
      rintro r st' ⟨rfl,c,pd,g,rfl,cp,ch,hz⟩
      refine ⟨rfl,c,pd,g,rfl,cp,ch,?_⟩
      rcases hz with hz | hz
      · have hz':pd.size+max 0 a.size≤a.size:=hz
        lia
      · exact hz
    case t1=>
      rintro y r st' - - ⟨rfl,c,pd,g,rfl,cp,ch,hz⟩
      refine wpS_bind (wpS_get ?_)
      refine gS (fun z=>?_) (fun z=>?_)
      · exact wpS_pure ⟨rfl,c,pd,g,rfl,cp,ch,z⟩
      · have z':1 < pd.size:=Nat.lt_of_not_le z
        have cz:c.size=a.size:=by have:=cp.length_eq;simpa using this
        extract_lets
        refine wpS_bind (vS fun i hi=>?_)
        refine m9 C (fun x hx=>da x (cp.mem_iff.mp hx)) (i:=i) (lo:=a.size) ?_ (by exact Nat.le_of_eq (Eq.symm ‹_›)) ch fun d pd' g' dp od dc dz=>?_
        · rcases hi with rfl | rfl
          · show pd.size - 2 - 1+1 < pd.size
            lia
          · show pd.size - 2+1 < pd.size
            lia
        · exact wpS_pure ⟨rfl,d,pd',g',rfl,dp.trans cp,dc,by lia⟩
    case t3=>
      rintro r st' ⟨rfl,c,pd,g,rfl,cp,ch,hz⟩
      refine wpS_pure (h c pd g cp ?_)
      obtain ⟨l⟩:=pd
      match l,hz,ch with
      | [],_,ch=>
        have:0=a.size:=ch
        rw [←this]
        exact fun i j _ _ q=>by lia
      | [t],_,ch=>
        obtain ⟨_,_,s1,e⟩:=ch
        have e':0+t.2.1=a.size:=e
        rw [e'] at s1
        exact s1
      | _::_::_,hz,_=>simp at hz
end
end NhLS
namespace NhSG
set_option autoImplicit false
open PySem PyProof PyProof.Rows PySem.W
abbrev Ky:=Int×List Nat
def gd (a b:Ky):Bool:=decide (a.1 < b.1)||(decide (a.1=b.1)&&decide (a.2 < b.2))
theorem jB {a b:Ky}:gd a b=true↔a.1 < b.1∨(a.1=b.1∧a.2 < b.2):=by simp [gd]
theorem on {a b:Ky}:gd a b=false↔¬(a.1 < b.1∨(a.1=b.1∧a.2 < b.2)):=by rw [←jB];simp
def mi (hp:Heap):Value→Option Ky
  | .ref a=>(hp.get? a).bind fun o=>match o.data with
    | .seq xs _=>match xs.toList with
      | [.int n _, .str z _]=>some (n,z.cps.toList)
      | _=>none
    | _=>none
  | _=>none
theorem xB {hp:Heap} {a:Addr} {o:Obj} {xs:Array Value} {k:Nat} {n:Int} {t u:Tok} {z:Str} (ho:hp.get? a=some o) (hd:o.data= .seq xs k) (hx:xs.toList=[.int n t, .str z u]):mi hp (.ref a)=some (n,z.cps.toList):=by
  simp [mi,ho,hd,hx]
theorem sP {hp:Heap} {v:Value} {y:Ky} (h:mi hp v=some y):∃a o xs k t z u,v= .ref a∧hp.get? a=some o∧o.data= .seq xs k∧xs.toList=[.int y.1 t, .str z u]∧y.2=z.cps.toList:=by
  unfold mi at h
  split at h
  · rename_i a
    obtain ⟨o,ho,h⟩:=Option.bind_eq_some_iff.mp h
    split at h
    · rename_i xs k hd
      split at h
      · rename_i n t z u hx
        cases h
        exact ⟨a,o,xs,k,t,z,u,rfl,ho,hd,hx,rfl⟩
      · cases h
    · cases h
  · cases h
@[reducible] def fG (hp:Heap):PyProof.Rows.KeyKind where
  α:=Ky
  blt:=gd
  irrefl a:=by
    rw [on]
    rintro (h | h)
    · lia
    · exact List.lt_irrefl _ h.2
  trans a b c h1 h2:=by
    rw [jB] at *
    rcases h1 with h1 | h1
    · rcases h2 with h2 | h2
      · exact .inl (by lia)
      · exact .inl (by lia)
    · rcases h2 with h2 | h2
      · exact .inl (by lia)
      · exact .inr ⟨by lia,List.lt_trans h1.2 h2.2⟩
  negTrans a b c h:=by
    rw [jB] at *
    rw [jB]
    by_cases hab:a.1 < b.1
    · exact .inl (.inl hab)
    · by_cases hbc:b.1 < c.1
      · exact .inr (.inl hbc)
      · have e:a.1=c.1∧a.2 < c.2:=by
          rcases h with h | h
          · omega
          · exact h
        by_cases hab2:a.2 < b.2
        · exact .inl (.inr ⟨by lia,hab2⟩)
        · exact .inr (.inr ⟨by lia,List.lt_of_le_of_lt (List.not_lt.mp hab2) e.2⟩)
  total a b h1 h2:=by
    rw [on] at *
    have e:a.1=b.1:=by
      have n1:¬a.1 < b.1:=fun z=>h1 (.inl z)
      have n2:¬b.1 < a.1:=fun z=>h2 (.inl z)
      lia
    have e2:a.2=b.2:=List.le_antisymm (List.not_lt.mp fun z=>h2 (.inr ⟨e.symm,z⟩)) (List.not_lt.mp fun z=>h1 (.inr ⟨e,z⟩))
    exact Prod.ext e e2
  keyOf:=mi hp
  dflt:=(0,[])
def Cy (prog:Program) (w:World) (A:Around) (κ:PyProof.Rows.KeyKind) (kd:SortKind) (s:Shared):Prop:=
  ∀(E:Value→Shared→Prop) (x y:Value) (a b:κ.α) {Q:Bool→Shared→Prop},κ.keyOf x=some a→κ.keyOf y=some b→Q (κ.blt a b) s→wpAny (model prog w) A (keyLt' kd x y) Q E s
theorem xC {prog:Program} {w:World} {A:Around} {s:Shared}:Cy prog w A (fG s.heap) (tuples' true) s:=fun E x y a b Q ha hb hq=>by
  obtain ⟨ax,ox,xs,kx,tx,zx,ux,rfl,hox,hdx,hxx,ea⟩:=sP ha
  obtain ⟨ay,oy,ys,ky,ty,zy,uy,rfl,hoy,hdy,hyy,eb⟩:=sP hb
  refine kat_lt hox hdx hoy hdy ?_
  have fin:decide (xs.size < ys.size)=false:=by
    have l1:xs.size=2:=by rw [←Array.length_toList,hxx];rfl
    have l2:ys.size=2:=by rw [←Array.length_toList,hyy];rfl
    rw [l1,l2]
    rfl
  rw [hxx,hyy,fin]
  show KatLex prog w A true false Q [(.int a.1 tx, .int b.1 ty),(.str zx ux, .str zy uy)] 0 s
  refine kat_cons (wpAny_eqBool_int (kat_go (fun e1=>kat_yes (kat_cons (wpAny_eqBool_str (kat_go (fun e2=>kat_yes (kat_nil ?_)) (fun e2=>kat_no ?_))))) (fun e1=>kat_no ?_)))
  · have e1:a.1=b.1:=by simpa using e1
    have e2:zx=zy:=by simpa using e2
    have:gd a b=false:=by
      rw [on,ea,eb,e2]
      rintro (z | z)
      · lia
      · exact List.lt_irrefl _ z.2
    rw [←this]
    exact hq
  · have e1:a.1=b.1:=by simpa using e1
    show wpAny (model prog w) A (oneLt' false (.str zx ux) (.str zy uy)) Q _ s
    refine kat_one _ _ (PySem.P.lt_str ?_)
    have:gd a b=decide (zx.cps.toList < zy.cps.toList):=by
      unfold gd
      rw [←ea,←eb]
      simp [e1]
    have hq':Q (gd a b) s:=hq
    rw [this] at hq'
    exact hq'
  · have e1:¬a.1=b.1:=by simpa using e1
    show wpAny (model prog w) A (oneLt' true (.int a.1 tx) (.int b.1 ty)) Q _ s
    refine oneLt_int ?_
    have:gd a b=decide (a.1 < b.1):=by
      unfold gd
      simp [e1]
    have hq':Q (gd a b) s:=hq
    rw [this] at hq'
    exact hq'
end NhSG
namespace NhSG
set_option autoImplicit false
open PySem PyProof PyProof.Rows PySem.W
def Keep (h h':Heap):Prop:=∀b o,h.get? b=some o→h'.get? b=some o
theorem Keep.trans {h h1 h2:Heap} (a:Keep h h1) (b:Keep h1 h2):Keep h h2:=fun c o e=>b c o (a c o e)
def IsKy (hp:Heap) (v:Value) (y:Ky):Prop:=∃c o xs k t z u,v= .ref c∧hp.get? c=some o∧o.cls= .type "tuple"∧o.data= .seq xs k∧xs.toList=[.int y.1 t, .str z u]∧y.2=z.cps.toList
theorem IsKy.keep {h h':Heap} {v:Value} {y:Ky} (a:IsKy h v y) (k:Keep h h'):IsKy h' v y:=by
  obtain ⟨c,o,xs,n,t,z,u,e,ho,r⟩:=a
  exact ⟨c,o,xs,n,t,z,u,e,k c o ho,r⟩
theorem IsKy.key {h:Heap} {v:Value} {y:Ky} (a:IsKy h v y):mi h v=some y:=by
  obtain ⟨c,o,xs,n,t,z,u,rfl,ho,hc,hd,hx,e⟩:=a
  rw [xB ho hd hx,←e]
def KA (hp:Heap):List Value→List Ky→Prop
  | [],[]=>True
  | v::vs,y::ys=>IsKy hp v y∧KA hp vs ys
  | _,_=>False
theorem KA.keep {h h':Heap} (k:Keep h h'):∀{vs:List Value} {ys:List Ky},KA h vs ys→KA h' vs ys
  | [],[],_=>trivial
  | v::vs,y::ys,a=>⟨a.1.keep k,KA.keep k a.2⟩
  | [],_::_,a=>a.elim
  | _::_,[],a=>a.elim
theorem KA.len {h:Heap}:∀{vs:List Value} {ys:List Ky},KA h vs ys→vs.length=ys.length
  | [],[],_=>rfl
  | v::vs,y::ys,a=>by simp [KA.len a.2]
  | [],_::_,a=>a.elim
  | _::_,[],a=>a.elim
theorem KA.snoc {h:Heap} {v:Value} {y:Ky} (b:IsKy h v y):∀{vs:List Value} {ys:List Ky},KA h vs ys→KA h (vs++[v]) (ys++[y])
  | [],[],_=>⟨b,trivial⟩
  | _::_,_::_,a=>⟨a.1,KA.snoc b a.2⟩
  | [],_::_,a=>a.elim
  | _::_,[],a=>a.elim
theorem KA.tups {h:Heap}:∀{vs:List Value} {ys:List Ky},KA h vs ys→∃fs,KatTups h vs fs∧(∀f∈fs,∃n t,f= .int n t)∧fs.length=vs.length
  | [],[],_=>⟨[],trivial,(fun _ z=>by cases z),rfl⟩
  | v::vs,y::ys,a=>by
    obtain ⟨fs,t,hf,hl⟩:=KA.tups a.2
    obtain ⟨c,o,xs,n,tk,z,u,rfl,ho,hc,hd,hx,e⟩:=a.1
    refine ⟨.int y.1 tk::fs,KatTups.cons ho hc hd ?_ t,fun f hm=>?_,by simp [hl]⟩
    · rw [←Array.getElem?_toList,hx]
      rfl
    · rcases List.mem_cons.mp hm with rfl | hm
      · exact ⟨_,_,rfl⟩
      · exact hf f hm
  | [],_::_,a=>a.elim
  | _::_,[],a=>a.elim
def uk (ys:List Ky) (vs out:List Value):Prop:=∃ps:List (Ky×Value),ps.Perm (ys.zip vs)∧ps.Pairwise (fun p q=>gd q.1 p.1=false)∧out=ps.map (·.2)
@[reducible] def pX (h:Heap) (p:Keyed):Ky:=(mi h p.1).getD (0,[])
theorem Ca {prog:Program} {w:World} {A:Around} {s:Shared}:NhLS.Cmp prog w A s (tuples' true) (fG s.heap).toKeyOrd (pX s.heap) (fun p=>∃y,mi s.heap p.1=some y):=
  ⟨fun E x y Q ⟨a,ha⟩ ⟨b,hb⟩ hq=>by
    have hq':Q (gd (pX s.heap x) (pX s.heap y)) s:=hq
    unfold pX at hq'
    rw [ha,hb] at hq'
    exact xC E x.1 y.1 a b ha hb hq'⟩
theorem KA.zip {h:Heap}:∀{ks:List Value} {ys:List Ky} {vs:List Value},KA h ks ys→(ks.zip vs).map (fun p=>(pX h p,p.2))=ys.zip vs
  | [],[],_,_=>by simp
  | k::ks,y::ys,[],_=>by simp
  | k::ks,y::ys,v::vs,a=>by
    simp only [List.zip_cons_cons,List.map_cons]
    rw [KA.zip a.2]
    congr 1
    show ((mi h k).getD (0,[]),v)=(y,v)
    rw [a.1.key]
    rfl
  | [],_::_,_,a=>a.elim
  | _::_,[],_,a=>a.elim
theorem KA.dom {h:Heap} {vs:List Value}:∀{ks:List Value} {ys:List Ky},KA h ks ys→∀p∈ks.zip vs,∃y,mi h p.1=some y:=fun {ks ys} a p hp=>by
  have hk:p.1∈ks:=(List.of_mem_zip hp).1
  clear hp
  induction ks generalizing ys with
  | nil=>cases hk
  | cons k ks ih=>cases ys with
    | nil=>exact a.elim
    | cons y ys=>
      rcases List.mem_cons.mp hk with e | hk
      · rw [e];exact ⟨y,a.1.key⟩
      · exact ih a.2 hk
theorem zF {h:Heap} {ks:List Value} {ys:List Ky} {vs:List Value} {b:Array Keyed} (hK:KA h ks ys) (hp:b.toList.Perm (ks.zip vs)) (hs:NhLS.So (fG h).toKeyOrd (pX h) b 0 b.size):uk ys vs (b.map (·.2)).toList:=by
  refine ⟨b.toList.map (fun p=>(pX h p,p.2)),?_,?_,?_⟩
  · rw [←hK.zip (vs:=vs)]
    exact hp.map _
  · rw [List.pairwise_map,List.pairwise_iff_getElem]
    intro i j hi hj hij
    rw [NhLS.g6,NhLS.g6]
    exact hs i j (Nat.zero_le _) hij (by simpa using hj)
  · rw [Array.toList_map,List.map_map]
    rfl
section
variable {prog:Program} {w:World} {A:Around} {E:Value→Shared→Prop} {s:Shared} {a kS:Addr} {ks vs:List Value} {ys:List Ky} {e e1:Nat} {P:PySem.Fin→Shared→Prop}
theorem sQ {st:SortSt} (hk:s.heap.get? kS=some (seqObj "list" ks.toArray e)) (ha:s.heap.get? a=some (seqObj "list" #[] e1)) (hka:kS≠a) (h64:vs.length < 65536) (hl:ks.length=vs.length) (hn:(arrOf st).size=vs.length) (hfl:failedOf st=none)
    (h:∀h' tk c,h'.get? a=some (seqObj "list" ((arrOf st).map (·.2)) c)→(∀b o,b≠a→b≠kS→s.heap.get? b=some o→h'.get? b=some o)→P (.done (.ret .none)) {s with heap:=h',toks:=tk}):
    wpAny (model prog w) A (ksk_tail a false e1 (.ref kS) st) P E s:=by
  have s1:=Heap.SameBut.update s.heap kS (Obj.mapSeq fun _=>(#[]:Array Value))
  have na1:(s.heap.update kS (Obj.mapSeq fun _=>(#[]:Array Value))).get? a=some (seqObj "list" #[] e1):=(s1.2 a hka.symm).trans ha
  have s2:=Heap.SameBut.update (s.heap.update kS (Obj.mapSeq fun _=>(#[]:Array Value))) a (Obj.mapSeq fun _=>(arrOf st).map (·.2))
  obtain ⟨c2,hc2⟩:∃c2,((s.heap.update kS (Obj.mapSeq fun _=>(#[]:Array Value))).update a (Obj.mapSeq fun _=>(arrOf st).map (·.2))).get? a=some (seqObj "list" ((arrOf st).map (·.2)) c2):=⟨_,get?_update_seq na1 fun _=>(arrOf st).map (·.2)⟩
  unfold ksk_tail
  try dsimp only
  refine wpAny_bind (listUpdate_at hk rfl ?_ (by rw [List.size_toArray,sizeLine_eq];lia) (Nat.zero_le _))
  refine wpAny_bind (wpAny_letGo ?_)
  refine wpAny_bind (seqEpoch_at na1 rfl ?_)
  simp only [Bool.false_eq_true,if_false]
  refine wpAny_bind (listUpdate_at na1 rfl ?_ (Nat.zero_le _) (by rw [Array.size_map,hn,sizeLine_eq];lia))
  rw [hfl]
  simp only [bne_self_eq_false,Bool.false_eq_true,if_false]
  exact wpAny_pure (h _ _ c2 hc2 fun b o h1 h2 q=>(s2.2 b h1).trans ((s1.2 b h2).trans q))
theorem zG (hK:KA s.heap ks ys) (hk:s.heap.get? kS=some (seqObj "list" ks.toArray e)) (ha:s.heap.get? a=some (seqObj "list" #[] e1)) (hka:kS≠a) (h64:vs.length < 65536) (hl:ks.length=vs.length)
    (h:∀h' tk out c,h'.get? a=some (seqObj "list" out c)→uk ys vs out.toList→(∀b o,b≠a→b≠kS→s.heap.get? b=some o→h'.get? b=some o)→P (.done (.ret .none)) {s with heap:=h',toks:=tk}):
    wpAny (model prog w) A (ksk_end a false vs.toArray e1 (.ref kS) ks.toArray) P E s:=by
  have hzs:(ks.toArray.zip vs.toArray).size=vs.length:=by rw [Array.size_zip,List.size_toArray,List.size_toArray,hl,Nat.min_self]
  unfold ksk_end
  try dsimp only
  simp only [Bool.false_eq_true,if_false]
  by_cases h2:vs.toArray.size < 2
  · rw [if_pos h2,if_pos h2]
    refine wpAny_bind (wpAny_pure ?_)
    rw [StateT.run_pure]
    refine wpAny_bind (wpAny_pure ?_)
    try dsimp only
    refine sQ (st:=SortSt.mk' general' (ks.toArray.zip vs.toArray) #[] 7 none) hk ha hka h64 hl hzs rfl fun h' tk c h1 h3=>h h' tk _ c h1 ⟨ys.zip vs,List.Perm.refl _,?_,?_⟩ h3
    · rw [List.size_toArray] at h2
      rw [List.pairwise_iff_getElem]
      intro i j hi hj hij
      simp at hj
      lia
    · have e1:(ys.zip vs).map (·.2)=vs:=by rw [List.map_snd_zip];have:=hK.len;lia
      have e2:((arrOf (SortSt.mk' general' (ks.toArray.zip vs.toArray) #[] 7 none)).map (·.2)).toList=(ks.zip vs).map (·.2):=by
        show ((ks.toArray.zip vs.toArray).map (·.2)).toList=_
        simp
      rw [e1,e2,List.map_snd_zip]
      exact Nat.le_of_eq (Eq.symm ‹_›)
  · rw [if_neg h2,if_neg h2]
    rw [List.size_toArray] at h2
    obtain ⟨fs,tt,hf,lf⟩:=hK.tups
    refine wpAny_bind (kat_kind (T:= .type "int") tt (by lia) (fun v hv=>?_) (by decide) ?_)
    · obtain ⟨n,t,rfl⟩:=hf v hv
      exact .now
    · have run:=NhLS.rn (E:=E) (a:=ks.toArray.zip vs.toArray) (g:=7) (Ca (prog:=prog) (w:=w) (A:=A) (s:=s)) (Q:=fun _ st'=>∃b pd g,st'=SortSt.mk' (tuples' true) b pd g none∧b.toList.Perm (ks.zip vs)∧NhLS.So (fG s.heap).toKeyOrd (pX s.heap) b 0 b.size)
        (by simpa using hK.dom) fun b pd g hp hs=>⟨b,pd,g,rfl,by simpa using hp,by have:=hp.length_eq;simp only [Array.length_toList] at this;rw [this];exact hs⟩
      refine wpAny_bind (wpAny_mono run ?_ fun _ _ e=>e)
      rintro ⟨⟨⟩,st'⟩ s' ⟨es,b,pd,g,e,hp,hs⟩
      subst es
      dsimp only at e
      subst e
      try dsimp only
      have hz:b.size=vs.length:=by have:=hp.length_eq;simpa [hl] using this
      exact sQ (st:=SortSt.mk' (tuples' true) b pd g none) hk ha hka h64 hl hz rfl fun h' tk c h1 h3=>h h' tk _ c h1 (zF hK hp hs) h3
def iR (prog:Program) (w:World) (A:Around) (f:Value) (s:Shared) (v:Value) (y:Ky):Prop:=∀(h:Heap) (tk:Nat),Keep s.heap h→
  wpAny (model prog w) A (call f [v]) (fun r s'=>∃h' tk',s'={s with heap:=h',toks:=tk'}∧Keep h h'∧IsKy h' r y) (fun _ _=>False) {s with heap:=h,toks:=tk}
theorem xD {f:Value} {s0:Shared} (hs0:Keep s0.heap s.heap) (hss:∃tk,s={s0 with heap:=s.heap,toks:=tk}) (h0a:s0.heap.get? a=none) (h0k:s0.heap.get? kS=none) (hk:s.heap.get? kS=some (seqObj "list" #[] 0)) (ha:s.heap.get? a=some (seqObj "list" #[] e1)) (hka:kS≠a) (h64:vs.length < 65536) (hl:ys.length=vs.length)
    (turn:∀(i:Nat) (v:Value) (y:Ky),vs[i]? =some v→ys[i]? =some y→iR prog w A f s0 v y)
    (h:∀h' tk out c,h'.get? a=some (seqObj "list" out c)→uk ys vs out.toList→Keep s0.heap h'→P (.done (.ret .none)) {s0 with heap:=h',toks:=tk}):
    wpAny (model prog w) A (ksk_rest a f false vs.toArray e1 (.ref kS)) P E s:=by
  unfold ksk_rest
  refine wpAny_bind (wpAny_rule ?_)
  first
    | rw [List.forIn_toArray]
    | (rw [←Array.forIn_toList];simp only [List.toList_toArray])
    | rw [←Array.forIn_toList]
  obtain ⟨tk0,es⟩:=hss
  refine wpAny_bind (ksk_fold (fun i s'=>∃h' tk kL e,s'={s0 with heap:=h',toks:=tk}∧Keep s0.heap h'∧h'.get? kS=some (seqObj "list" kL.toArray e)∧h'.get? a=some (seqObj "list" #[] e1)∧KA h' kL (ys.take i)) vs 0 s
    ⟨s.heap,tk0,[],0,es,hs0,hk,ha,by simp [KA]⟩ ?step ?done)
  case step=>
    rintro j x s' hx ⟨h',tk,kL,e,rfl,F',N1,N2,hK⟩
    simp only [Nat.zero_add] at hK ⊢
    have hj:j < vs.length:=(List.getElem?_eq_some_iff.mp hx).1
    obtain ⟨y,hyj⟩:∃y,ys[j]? =some y:=⟨_,List.getElem?_eq_getElem (by lia)⟩
    have hz:kL.length≤vs.length:=by
      have h1:=hK.len
      rw [List.length_take] at h1
      lia
    refine wpAny_bind (wpAny_attempt (wpAny_mono (turn j x y hx hyj h' tk F') (fun v s'' he=>?_) fun _ _ hF=>hF.elim))
    obtain ⟨g,tk2,rfl,kg,hy⟩:=he
    try dsimp only
    have nk:=kg _ _ N1
    have na:=kg _ _ N2
    have s1:=Heap.SameBut.update g kS (Obj.mapSeq (·.push v))
    obtain ⟨c2,hc2⟩:∃c2,(g.update kS (Obj.mapSeq (·.push v))).get? kS=some (seqObj "list" (kL.toArray.push v) c2):=⟨_,get?_update_seq nk (·.push v)⟩
    have ek:ys.take (j+1)=ys.take j++[y]:=by rw [List.take_add_one,hyj];simp
    have ea:kL.toArray.push v=(kL++[v]).toArray:=by simp
    have ng:∀{ks':List Value} {ys':List Ky},KA g ks' ys'→KA (g.update kS (Obj.mapSeq (·.push v))) ks' ys':=fun {ks'} {ys'} q=>by
      induction ks' generalizing ys' with
      | nil=>cases ys' with
        | nil=>trivial
        | cons _ _=>exact q.elim
      | cons k ks' ih=>cases ys' with
        | nil=>exact q.elim
        | cons y' ys'=>
          refine ⟨?_,ih q.2⟩
          obtain ⟨c,o,xs,n,t,z,u,ec,ho,hcl,r⟩:=q.1
          refine ⟨c,o,xs,n,t,z,u,ec,(s1.2 c ?_).trans ho,hcl,r⟩
          intro e3
          subst e3
          rw [nk] at ho
          cases ho
          have e4:Value.type "list"=Value.type "tuple":=hcl
          injection e4 with e5
          exact absurd e5 (by decide)
    refine wpAny_bind (listUpdate_at nk rfl ?_ (by rw [List.size_toArray,sizeLine_eq];lia) (Nat.le_trans (Nat.le_of_eq (Array.size_push ..)) (by rw [List.size_toArray,sizeLine_eq];lia)))
    refine wpAny_pure ⟨rfl,_,_,kL++[v],c2,rfl,fun b o q=>?_,by rw [←ea];exact hc2,(s1.2 a hka.symm).trans na,by rw [ek];exact ng (KA.snoc hy (hK.keep kg))⟩
    refine (s1.2 b fun e3=>?_).trans (kg _ _ (F' _ _ q))
    subst e3
    rw [h0k] at q
    cases q
  case done=>
    rintro s' ⟨h',tk,kL,e,rfl,F',N1,N2,hK⟩
    have e3:ys.take (0+vs.length)=ys:=List.take_of_length_le (by lia)
    rw [e3] at hK
    try dsimp only
    refine wpAny_bind (listItems_at N1 rfl ?_)
    refine zG (s:={s0 with heap:=h',toks:=tk}) hK N1 N2 hka h64 (by rw [hK.len,hl]) fun h3 tk3 out c g1 g2 g3=>h h3 tk3 out c g1 g2 fun b o q=>g3 b o ?_ ?_ (F' b o q)
    · intro z;subst z;rw [h0a] at q;cases q
    · intro z;subst z;rw [h0k] at q;cases q
theorem xE {f:Value} {n:Nat} {s0:Shared} (hs0:Keep s0.heap s.heap) (hss:∃tk,s={s0 with heap:=s.heap,toks:=tk}) (h0a:s0.heap.get? a=none) (hle:s0.heap.objs.size≤s.heap.objs.size) (ho:s.heap.get? a=some (seqObj "list" vs.toArray n)) (h64:vs.length < 65536) (hl:ys.length=vs.length)
    (turn:∀(i:Nat) (v:Value) (y:Ky),vs[i]? =some v→ys[i]? =some y→iR prog w A f s0 v y)
    (h:∀h' tk out c,h'.get? a=some (seqObj "list" out c)→uk ys vs out.toList→Keep s0.heap h'→P (.done (.ret .none)) {s0 with heap:=h',toks:=tk}):
    wpAny (model prog w) A (ksk_tree a f false) P E s:=by
  have ha:a < s.heap.objs.size:=Heap.lt_size ho
  have s1:=Heap.SameBut.update s.heap a (Obj.mapSeq fun _=>(#[]:Array Value))
  obtain ⟨e1,ho1⟩:∃e1,(s.heap.update a (Obj.mapSeq fun _=>(#[]:Array Value))).get? a=some (seqObj "list" #[] e1):=⟨_,get?_update_seq ho fun _=>#[]⟩
  have hkS:((s.heap.update a (Obj.mapSeq fun _=>(#[]:Array Value))).push (seqObj "tuple" vs.toArray 0)).objs.size=s.heap.objs.size+1:=by rw [size_push',Heap.size_update]
  obtain ⟨tk0,es⟩:=hss
  unfold ksk_tree
  refine wpAny_bind (listItems_at ho rfl ?_)
  refine wpAny_bind (listUpdate_at ho rfl ?_ (by rw [List.size_toArray,sizeLine_eq];lia) (Nat.zero_le _))
  refine wpAny_bind (seqEpoch_at ho1 rfl ?_)
  refine wpAny_bind (wpAny_newTuple ?_ (by show vs.length≤_;rw [sizeLine_eq];lia))
  refine wpAny_bind (wpAny_newList ?_ (Nat.zero_le _))
  refine wpAny_holding ?_
  refine xD (s:={s with heap:=((s.heap.update a (Obj.mapSeq fun _=>(#[]:Array Value))).push (seqObj "tuple" vs.toArray 0)).push (seqObj "list" #[] 0)}) (kS:=((s.heap.update a (Obj.mapSeq fun _=>(#[]:Array Value))).push (seqObj "tuple" vs.toArray 0)).objs.size) (s0:=s0)
    (fun b o q=>?_) ⟨tk0,by rw [es]⟩ h0a (Heap.get?_none_of_le (by rw [hkS];(solve_by_elim (maxDepth:=3) only [*,Nat.le_trans,Nat.lt_of_lt_of_le,Nat.lt_of_le_of_lt,Nat.le_of_lt]))) (Heap.get?_push_size _ rfl) (Heap.get?_push_of_some _ (Heap.get?_push_of_some _ ho1)) (by rw [hkS];exact Nat.ne_of_gt (Nat.lt_succ_of_lt ha)) h64 hl turn h
  refine Heap.get?_push_of_some _ (Heap.get?_push_of_some _ ((s1.2 b fun z=>?_).trans (hs0 b o q)))
  subst z
  rw [h0a] at q
  cases q
end
end NhSG
namespace NhSG
set_option autoImplicit false
open PySem PyProof PyProof.Rows PySem.W
section
variable {prog:Program} {w:World} {A:Around} {E:Value→Shared→Prop} {s:Shared} {l q:Addr} {vs:List Value} {ys:List Ky} {Q:Value→Shared→Prop}
theorem rq (hl:s.heap.IsList l vs.toArray) (hlen:ys.length=vs.length) (h64:vs.length < 65536)
    (turn:∀(i:Nat) (v:Value) (y:Ky),vs[i]? =some v→ys[i]? =some y→iR prog w A.in1.in1 (.ref q) s v y)
    (h:∀D h' tk out c,h'.get? D=some (seqObj "list" out c)→s.heap.objs.size≤D→uk ys vs out.toList→Keep s.heap h'→Q (.ref D) {s with heap:=h',toks:=tk}):
    wpAny (model prog w) A (call (.builtin "sorted") [.ref l] [(Str.ofString "key", .ref q)]) Q E s:=by
  refine call_function_entry_kw kind_sorted plain_sorted entry_sorted (ksk_s1 _ _) ?_
  unfold Builtin.«sorted»
  refine wpAny_bind (m:=checkCount "sorted" 1 1 _) (wpAny_pure ?_)
  refine wpAny_bind (collect_list hl ?_ (by rw [sizeLine_eq];lia))
  refine wpAny_bind (wpAny_newList ?_ (by rw [sizeLine_eq];lia))
  have hsz:((s.heap.push (seqObj "list" #[] 0)).update s.heap.objs.size (Obj.mapSeq (· ++vs.toArray))).objs.size=s.heap.objs.size+1:=by
    rw [Heap.size_update,size_push']
  have hoL:(((s.heap.push (seqObj "list" #[] 0)).update s.heap.objs.size (Obj.mapSeq (· ++vs.toArray))).push (seqObj "list" vs.toArray 0)).get? (s.heap.objs.size+1)=some (seqObj "list" vs.toArray 0):=by
    rw [←hsz];exact Heap.get?_push_size _ rfl
  have keep:Keep s.heap (((s.heap.push (seqObj "list" #[] 0)).update s.heap.objs.size (Obj.mapSeq (· ++vs.toArray))).push (seqObj "list" vs.toArray 0)):=fun b o q=>by
    have hlt:b < s.heap.objs.size:=Heap.lt_size q
    rw [Heap.get?_push_ne _ _ _ (by rw [hsz];exact Nat.ne_of_lt (Nat.lt_succ_of_lt hlt)),Heap.get?_update_ne _ _ _ _ (Nat.ne_of_lt hlt),Heap.get?_push_ne _ _ _ (Nat.ne_of_lt hlt)]
    exact q
  show wpAny _ _ _ _ _ {s with heap:=((s.heap.push (seqObj "list" #[] 0)).update s.heap.objs.size (Obj.mapSeq (· ++vs.toArray))).push (seqObj "list" vs.toArray 0)}
  rw [hsz]
  have h0:s.heap.get? (s.heap.objs.size+1)=none:=Heap.get?_none_of_le (Nat.le_succ _)
  refine wpAny_bind (wpAny_holding (wpAny_call_entry_kw slot_list_sort ⟨_,hoL,rfl⟩ entry_list_sort ?body (ksk_l1 _ _)))
  case body=>
    show wpAny (model prog w) A.in1.in1 (Builtin.«list.sort» ⟨[.ref (s.heap.objs.size+1)],[(Str.ofString "key", .ref q)]⟩) _ _ _
    rw [ksk_t1]
    refine xE (s:={s with heap:=((s.heap.push (seqObj "list" #[] 0)).update s.heap.objs.size (Obj.mapSeq (· ++vs.toArray))).push (seqObj "list" vs.toArray 0)}) (s0:=s) keep ⟨s.toks,rfl⟩ h0 (by rw [size_push',hsz];(solve_by_elim (maxDepth:=3) only [*,Nat.le_trans,Nat.lt_of_lt_of_le,Nat.lt_of_le_of_lt,Nat.le_of_lt,Nat.add_le_add_left,Nat.add_lt_add_left,Nat.le_add_right,Nat.lt_of_succ_lt])) hoL h64 hlen turn fun h' tk out c g1 g2 g3=>⟨_,rfl,?_⟩
    exact wpAny_pure ⟨_,rfl,h _ h' tk out c g1 (Nat.le_succ _) g2 g3⟩
end
end NhSG
namespace NhSG
set_option autoImplicit false
open PySem
def g7 (z:Str):Ky:=(z.length,z.cps.toList)
def oR (a b:Str):Bool:= !gd (g7 b) (g7 a)
def iE (ws:List Str):List Str:=ws.mergeSort oR
def qA:Value→Option Str
  | .str z _=>some z
  | _=>none
theorem vT {a b:Str} (h:g7 a=g7 b):a=b:=by
  have e:a.cps.toList=b.cps.toList:=congrArg Prod.snd h
  cases a;cases b
  congr
  exact Array.toList_inj.mp e
theorem ul (a b c:Str) (h1:oR a b=true) (h2:oR b c=true):oR a c=true:=by
  unfold oR at *
  simp only [Bool.not_eq_true'] at *
  exact (PyProof.Rows.KeyOrd.kle_trans (O:=(fG default).toKeyOrd) h1 h2)
theorem um (a b:Str):(oR a b||oR b a)=true:=by
  unfold oR
  by_cases h:gd (g7 b) (g7 a)=true
  · have:gd (g7 a) (g7 b)=false:=PyProof.Rows.KeyOrd.klt_asymm (O:=(fG default).toKeyOrd) h
    simp [this]
  · simp [Bool.not_eq_true _▸h]
theorem vU {a b:Str} (h1:oR a b=true) (h2:oR b a=true):a=b:=by
  unfold oR at *
  simp only [Bool.not_eq_true'] at *
  exact vT ((fG default).total _ _ h2 h1)
theorem m_ {qs ws:List Str} (hp:qs.Perm ws) (hs:qs.Pairwise fun a b=>oR a b=true):qs=iE ws:=by
  have h1:(iE ws).Pairwise fun a b=>oR a b=true:=List.pairwise_mergeSort ul um ws
  have h2:qs.Perm (iE ws):=hp.trans (List.mergeSort_perm ws oR).symm
  exact h2.eq_of_pairwise (fun a b _ _ x y=>vU x y) hs h1
theorem uo {ws:List Str} {vs out:List Value} (hv:vs.map qA=ws.map some) (h:uk (ws.map g7) vs out):out.map qA=(iE ws).map some:=by
  obtain ⟨ps,hp,hs,rfl⟩:=h
  have key:∀(ws:List Str) (vs:List Value),vs.map qA=ws.map some→∀p∈(ws.map g7).zip vs,∃z,p.1=g7 z∧qA p.2=some z:=fun ws=>by
    induction ws with
    | nil=>intro vs _ p hp;simp at hp
    | cons w ws ih=>
      intro vs hv p hp
      cases vs with
      | nil=>simp at hp
      | cons v vs=>
        simp only [List.map_cons,List.cons.injEq] at hv
        rw [List.map_cons,List.zip_cons_cons] at hp
        rcases List.mem_cons.mp hp with rfl | hp
        · exact ⟨w,rfl,hv.1⟩
        · exact ih vs hv.2 p hp
  have zm:∀(ws:List Str) (vs:List Value),vs.map qA=ws.map some→((ws.map g7).zip vs).map (fun p=>qA p.2)=ws.map some:=fun ws=>by
    induction ws with
    | nil=>intro vs _;simp
    | cons w ws ih=>
      intro vs hv
      cases vs with
      | nil=>simp at hv
      | cons v vs=>
        simp only [List.map_cons,List.cons.injEq] at hv
        simp only [List.map_cons,List.zip_cons_cons,hv.1,ih vs hv.2]
  have ex:∀ps:List (Ky×Value),(∀p∈ps,∃z,p.1=g7 z∧qA p.2=some z)→∃qs:List Str,ps.map (·.1)=qs.map g7∧ps.map (fun p=>qA p.2)=qs.map some:=fun ps=>by
    induction ps with
    | nil=>intro _;exact ⟨[],rfl,rfl⟩
    | cons p ps ih=>
      intro h
      obtain ⟨z,h1,h2⟩:=h p (List.mem_cons_self ..)
      obtain ⟨qs,e1,e2⟩:=ih fun q hq=>h q (List.mem_cons_of_mem _ hq)
      exact ⟨z::qs,by simp [h1,e1],by simp [h2,e2]⟩
  obtain ⟨qs,e1,e2⟩:=ex ps fun p hp'=>key ws vs hv p (hp.mem_iff.mp hp')
  have perm:qs.Perm ws:=by
    have h1:=hp.map (fun p=>qA p.2)
    rw [e2,zm ws vs hv] at h1
    have h2:=h1.filterMap id
    simpa using h2
  have srt:qs.Pairwise fun a b=>oR a b=true:=by
    have h1:(ps.map (·.1)).Pairwise fun a b=>gd b a=false:=List.pairwise_map.mpr hs
    rw [e1,List.pairwise_map] at h1
    exact h1.imp fun h=>by unfold oR;simp [h]
  rw [List.map_map]
  show ps.map (fun p=>qA p.2)=_
  rw [e2,m_ perm srt]
end NhSG
namespace NhSG
open PySem PySem.Spec PySem.Calls PyProof PyProof.Rows PySem.W
section
variable {prog:Program} {w:World} {A:Around} {E:Value→Shared→Prop} {s:Shared} {Q:Value→Shared→Prop}
theorem pY {env:Env} {x z:Str} {t:Tok} {m mg mb:Str→Option Value} {p1 p2 p3 p4 pos:Pos} {x1} (hk:env.scope.kind= .function) (hx:env.kindOf x=some .local) (hl:env.kindOf "len"=some .globalImplicit)
    (hn:s.heap.Ns env.locals m) (hm:m x=some (.str z t)) (hg:s.heap.Ns env.globals mg) (hlg:mg "len"=none) (hb:s.heap.Ns env.builtins mb) (hlb:mb "len"=some (.builtin "len")) (hz:z.length≤sizeLine)
    (h:∀h' tk r,Keep s.heap h'→IsKy h' r (g7 z)→Q r {s with heap:=h',toks:=tk})
    (hd:(x == ("__debug__":Str))=false:=by decide) (h1:starEach [Expr.Call (.Name "len" p1) [.Name x p2] [] p3, .Name x p4] env=(false,eval (.Call (.Name "len" p1) [.Name x p2] [] p3) env)::starEach [Expr.Name x p4] env:=by rfl)
    (h2:starEach [Expr.Name x p4] env=[(false,eval (.Name x p4) env)]:=by rfl) (h3:starEach [Expr.Name x p2] env=(false,eval (.Name x p2) env)::starEach [] env:=by rfl):
    wpAny (model prog w) A (eval (.Tuple [.Call (.Name "len" p1) [.Name x p2] [] p3, .Name x p4] x1 pos) env) Q E s:=by
  refine wpAny_Tuple_spliced ?_
  rw [h1,h2]
  show wpAny _ _ (spliced ((false,eval (.Call (.Name "len" p1) [.Name x p2] [] p3) env)::backTo pos [(false,eval (.Name x p4) env)])) _ _ s
  refine Calls.spliced_cons ?_
  refine wpAny_Call_Name_kw (Calls.Name_function_global hk hl (Calls.loadGlobal_builtin hg hlg hb hlb ?_) (by decide))
  refine PyProof.Rows.callWith_builtin1 ?_ h3 rfl
  rw [h3]
  show wpAny _ _ (spliced ((false,eval (.Name x p2) env)::backTo p3 (starEach [] env))) _ _ s
  refine Calls.spliced_cons (wpAny_Name (wpAny_loadName_local hk hx hn hm ?_) hd)
  show wpAny _ _ (spliced []) _ _ s
  refine Calls.spliced_nil ?_
  refine len_str (by have:=hz;rw [sizeLine_eq] at this;lia) ?_
  show wpAny _ _ (spliced [(false,standAt pos >>= fun _=>eval (.Name x p4) env)]) _ _ _
  refine Calls.spliced_cons (wpAny_bind (wpAny_standAt (wpAny_Name (wpAny_loadName_local hk hx hn hm ?_) hd)))
  refine Calls.spliced_nil ⟨by rw [sizeLine_eq];simp,?_⟩
  exact h _ _ _ (fun b o e=>Heap.get?_push_of_some _ e) ⟨_,_,_,_,_,z,t,rfl,Heap.get?_push_size _ rfl,rfl,rfl,rfl,rfl⟩
structure KMod (h:Heap):Prop where
  g:∃mg,h.Ns mainGlobals mg∧mg "len"=none
  b:∃mb,h.Ns builtinsNs mb∧mb "len"=some (.builtin "len")
  lim:h.NoLimit
theorem KMod.keeps {h h':Heap} (a:KMod h) (k:Keep h h'):KMod h':=
  ⟨let ⟨mg,e,r⟩:=a.g;⟨mg,e.keeps k,r⟩,let ⟨mb,e,r⟩:=a.b;⟨mb,e.keeps k,r⟩,a.lim.keeps k⟩
theorem pZ {f c':Addr} {name qual x z:Str} {t:Tok} {params:Arguments} {scope:Scope} {pm ctv:Value} {p1 p2 p3 p4 pos:Pos} {x1} (M:KMod s.heap) (hroom:A.depth < recursionLimit)
    (ho:s.heap.get? f=some (kla_obj name qual params (.Tuple [.Call (.Name "len" p1) [.Name x p2] [] p3, .Name x p4] x1 pos) scope [] pm c' ctv)) (hcd:s.heap.CodeRec (.ref c') qual) (hz:z.length≤sizeLine)
    (hbind:bindArgs (kla_fn name qual params (.Tuple [.Call (.Name "len" p1) [.Name x p2] [] p3, .Name x p4] x1 pos) scope [] pm (.ref c') ctv) ⟨[.str z t],[]⟩=pure [(x, .str z t)])
    (hx:scope.names.lookup x=some .local) (hlen:scope.names.lookup (Str.ofString "len")=some .globalImplicit) (hco:scope.isCoroutine=false) (hgen:scope.isGenerator=false) (hk:scope.kind= .function) (hcell:∀x∈scope.names,x.2≠ .cell)
    (hd:(x == ("__debug__":Str))=false):iR prog w A (.ref f) s (.str z t) (g7 z):=by
  intro h tk kp
  refine wpAny_call (kla_callFunE hroom (kp _ _ ho) rfl hco hgen rfl (hcd.keeps kp) ?_)
  rw [hbind]
  refine wpAny_pure (wpAny_newFunctionEnv hcell (fun y hy=>?_) (fun h₁ hns hsb=>⟨((M.keeps kp).lim).fresh _ hsb,?_⟩) hk)
  · rw [List.mem_singleton.mp hy];exact hx
  have hk₁:Keep h h₁:=fun b o e=>hsb.extBut b o (Nat.ne_of_lt (Heap.lt_size e)) (Heap.get?_push_of_some _ e)
  have M1:=(M.keeps kp).keeps hk₁
  obtain ⟨mg,g1,g2⟩:=M1.g
  obtain ⟨mb,b1,b2⟩:=M1.b
  refine kla_codeExpr (pY (t:=t) (z:=z) (m:=fun y=>List.lookup y [(x,Value.str z t)].reverse) hk hx hlen hns ?_ g1 g2 b1 b2 hz (fun h' tk' r k1 k2=>?_) hd)
  · simp
  · exact ⟨h',tk',rfl,hk₁.trans k1,k2⟩
theorem vV {f:Addr} {o:Obj} {fd:FuncData} {x z:Str} {t:Tok} {p1 p2 p3 p4 pos rp:Pos} {x1} (M:KMod s.heap) (hroom:A.depth < recursionLimit)
    (ho:s.heap.get? f=some o) (hfd:o.data= .func fd) (hbody:fd.body= .stmts [.Return (some (.Tuple [.Call (.Name "len" p1) [.Name x p2] [] p3, .Name x p4] x1 pos)) rp]) (hcd:s.heap.CodeRec fd.code fd.qualname) (hz:z.length≤sizeLine)
    (hbind:∀(h:Heap) (tk:Nat),Keep s.heap h→BindsTo {s with heap:=h,toks:=tk} fd ⟨[.str z t],[]⟩ [(x, .str z t)]) (hgl:fd.globals=mainGlobals) (hbl:fd.builtins=builtinsNs)
    (hx:fd.scope.names.lookup x=some .local) (hlen:fd.scope.names.lookup (Str.ofString "len")=some .globalImplicit) (hco:fd.scope.isCoroutine=false) (hgen:fd.scope.isGenerator=false) (hk:fd.scope.kind= .function) (hcell:∀x∈fd.scope.names,x.2≠ .cell)
    (hd:(x == ("__debug__":Str))=false):iR prog w A (.ref f) s (.str z t) (g7 z):=by
  intro h tk kp
  refine wpAny_call (codeAny_call_function hroom (kp _ _ ho) hfd hco hgen hbody (hcd.keeps kp) ?_)
  refine hbind h tk kp _ _ _ _ (wpAny_newFunctionEnv hcell (fun y hy=>?_) (fun h₁ hns hsb=>⟨((M.keeps kp).lim).fresh _ hsb,?_⟩) hk)
  · rw [List.mem_singleton.mp hy];exact hx
  have hk₁:Keep h h₁:=fun b o e=>hsb.extBut b o (Nat.ne_of_lt (Heap.lt_size e)) (Heap.get?_push_of_some _ e)
  have M1:=(M.keeps kp).keeps hk₁
  obtain ⟨mg,g1,g2⟩:=M1.g
  obtain ⟨mb,b1,b2⟩:=M1.b
  rw [←hgl] at g1
  rw [←hbl] at b1
  refine codeAny_func (wpAny_execs_cons (wpAny_Return_some (pY (t:=t) (z:=z) (m:=fun y=>List.lookup y [(x,Value.str z t)].reverse) hk hx hlen hns ?_ g1 g2 b1 b2 hz (fun h' tk' r k1 k2=>?_) hd)))
  · simp
  · exact ⟨h',tk',rfl,hk₁.trans k1,k2⟩
end
end NhSG
namespace PL
open PySem L2 Nh
def iF (f:bE):bE:=fun E=>(f E).bind fun a=>match look a.2 a.1 with
  | some (.list ds)=>(ju ds).bind fun ss=>if (decide (ss.length < 65536)&&ss.all fun z=>decide (z.length≤1000))=true then some (.ow ((NhSG.iE ss).map .str),a.2) else none
  | _=>none
theorem p6:∀{ws:List Str} {vs:List Value},Vals (ws.map V.str) vs→vs.map NhSG.qA=ws.map some
  | [],_, .nil=>rfl
  | w::ws,_, .cons r t=>by
    obtain ⟨u,rfl⟩:=r
    simp only [List.map_cons,p6 t]
    rfl
theorem p7:∀{ws:List Str} {vs:List Value},vs.map NhSG.qA=ws.map some→Vals (ws.map V.str) vs
  | [],[],_=> .nil
  | [],_::_,h=>by simp at h
  | _::_,[],h=>by simp at h
  | w::ws,v::vs,h=>by
    simp only [List.map_cons,List.cons.injEq] at h
    refine .cons ?_ (p7 h.2)
    have h1:=h.1
    unfold NhSG.qA at h1
    split at h1
    · cases h1;exact ⟨_,rfl⟩
    · cases h1
section
variable {X:Cx} {pins:List (Addr×Obj)} {σ:L2.St} {H:Hp} {s:Shared}
theorem zH (I:Inv X pins σ H s) (hl:X.mg "len"=none):NhSG.KMod s.heap:=
  ⟨⟨X.mg,I.mod.glob.keeps I.bk,hl⟩,let ⟨mb,h1,h2⟩:=I.mod.blt;⟨mb,h1.keeps I.bk,(h2 _ (by decide)).trans rfl⟩,I.nolimit⟩
theorem j8 {l q:Addr} {ss:List Str} {Q:VK} (I:Inv X pins σ H s) (hq:SqL X.K H l (ss.map V.str)) (h64:ss.length < 65536)
    (turn:∀z t,z∈ss→NhSG.iR X.prog X.w X.A.in1.in1 (.ref q) s (.str z t) (NhSG.g7 z))
    (h:∀D,H D=none→Q (.ref D) (dg H D (.lst ((NhSG.iE ss).map V.str)))):
    wpAny (model X.prog X.w) X.A (call (.builtin "sorted") [.ref l] [(Str.ofString "key", .ref q)]) (EP X pins σ Q) X.xe s:=by
  obtain ⟨its,rv,pl,hz⟩:=I.list hq
  have hv:=p6 rv
  have hlen:its.length=ss.length:=by have:=congrArg List.length hv;simpa using this
  refine NhSG.rq (ys:=ss.map NhSG.g7) pl.isList (by simp [hlen]) (by lia) (fun i v y hv' hy'=>?_) fun D h' tk out c g1 g2 g3 g4=>?_
  · rw [List.getElem?_map] at hy'
    obtain ⟨z,hz1,rfl⟩:=Option.map_eq_some_iff.mp hy'
    have e:(its.map NhSG.qA)[i]? =(ss.map some)[i]? :=by rw [hv]
    rw [List.getElem?_map,List.getElem?_map,hv',hz1] at e
    have e1:NhSG.qA v=some z:=by simpa using e
    unfold NhSG.qA at e1
    split at e1
    · cases e1;exact turn _ _ (List.mem_of_getElem? hz1)
    · cases e1
  · have ot:=NhSG.uo hv g3
    refine ⟨.ref D,_,I.laid (t':=tk) g4 g2 (show ObjOk X.prog X.w _ _ _ (.lst ((NhSG.iE ss).map V.str)) from ⟨?_,out.toList,c,p7 ot,by simpa using g1⟩),rfl,h D (I.hok.fresh g2)⟩
    rw [List.length_map]
    have:(NhSG.iE ss).length=ss.length:=(List.mergeSort_perm ss NhSG.oR).length_eq
    rw [this,sizeLine_eq]
    lia
end
theorem lO {z:Str} (h:z.length≤1000):z.length≤sizeLine:=by rw [sizeLine_eq];lia
section
variable {X:Cx} {e:Expr} {m:Bool} {f:bE} {p pos kp np:Pos} {x y:Str} {st:Stmt} {k:Nat} {p1 p2 p3 p4 tp rp:Pos} {x1:Nat}
theorem vW (D:Def X.K X.mg x st [y]) (hr:Room k X.A) (hg:Gl X "sorted") (hm:X.mg "sorted"=none) (hl:X.mg "len"=none) (hgx:Gl X x) (ha:EX X e m f)
    (hb:aB st=[.Return (some (.Tuple [.Call (.Name "len" p1) [.Name y p2] [] p3, .Name y p4] x1 tp)) rp]:=by rfl)
    (sc1:(af st).names.lookup y=some .local:=by rfl) (dh:(af st).names.lookup (Str.ofString "len")=some .globalImplicit:=by rfl) (sc3:(af st).isCoroutine=false:=by rfl) (sc4:(af st).isGenerator=false:=by rfl) (sc5:(af st).kind= .function:=by rfl)
    (sc6:∀x∈(af st).names,x.2≠ .cell:=by decide) (hdy:(y == ("__debug__":Str))=false:=by decide) (hdx:(x == ("__debug__":Str))=false:=by decide)
    (he:starEach [e] X.env=[(false,eval e X.env)]:=by rfl)
    (he':backTo pos (starEach [e] X.env)=(false,eval e X.env)::backTo pos (starEach [] X.env):=by rfl) (hpl:(backTo pos (starEach [e] X.env)).any (·.1)=false:=by rfl)
    (hall:(backToKw pos (keywordEach [⟨some "key", .Name x np,kp⟩] X.env)).all (·.1.isSome)=true:=by rfl) (hkw:(backToKw pos (keywordEach [⟨some "key", .Name x np,kp⟩] X.env)).any (·.1.isNone)=false:=by rfl)
    (hnm:(backToKw pos (keywordEach [⟨some "key", .Name x np,kp⟩] X.env)).filterMap (·.1)=[Str.ofString "key"]:=by rfl):
    EX X (.Call (.Name "sorted" p) [e] [⟨some "key", .Name x np,kp⟩] pos) m (iF f):=by
  intro pins s σ H Q I z
  obtain ⟨B,E,xs,Xs,res,E',fr,cl,e0,q⟩:=z
  obtain ⟨⟨r1,E1⟩,e1,e2⟩:=Option.bind_eq_some_iff.mp e0
  simp only at e2
  split at e2
  · rename_i ds ld
    obtain ⟨ss,en,e3⟩:=Option.bind_eq_some_iff.mp e2
    split at e3
    · rename_i hc
      cases e3
      simp only [Bool.and_eq_true,decide_eq_true_eq,List.all_eq_true] at hc
      refine wpAny_Call_Name_kw (iq I hg hm PyProof.Rows.boot_sorted ?_ (by decide) (by decide))
      refine PyProof.Rows.callWith_kw (d_ (dE ha fX he pos pins s σ H (fun vs H1=>∃p,vs=[.ref p]∧SqL X.K H1 p (ss.map V.str)∧∀D,H1 D=none→Q (.ref D) (dg H1 D (.lst ((NhSG.iE ss).map V.str)))) I ⟨B,E,xs,Xs,r1,_,fr,cl,e1,fun v1 H1 ⟨F,A,fr1⟩=>?_⟩) fun us s2 ⟨vs,H1,I1,r1,p0,ev,hq,q1⟩=>?_) he' hpl hall hkw
      · obtain ⟨A',fr2⟩:=fr1.pop
        have r:=(fr1.look0 ld).1
        cases r with
        | lst h1 h2=>
          have:=kO h2 en
          subst this
          exact ⟨_,rfl,h1,fun D hD=>q _ _ ⟨F,_,fr2.newl (iD _) hD⟩⟩
      · subst ev
        cases r1 with
        | cons r rr=>
          cases rr
          cases r
          obtain ⟨fa,fd,F,hmx,hbd⟩:=D.ex
          refine PyProof.Rows.kws_cons (nw I1 hgx hmx (PyProof.Rows.kws_nil ?_) hdx)
          rw [hnm]
          refine j8 I1 hq hc.1 (fun z t hz=>?_) q1
          obtain ⟨oc,od,kV,doc,pm,an,cdv,ct,osl,rfl,lk,hcd⟩:=F.ex
          exact NhSG.vV (zH I1 hl) (show X.A.depth < recursionLimit by have:=hr.dp;lia) (I1.kIn _ _ lk) rfl (by show FuncBody.stmts (aB st)=_;rw [hb]) (PySem.W.codeRec_of I1.kIn hcd) (lO (hc.2 z hz))
            (fun h tk kpp=>hbd {s2 with heap:=h,toks:=tk} [.str z t] (I1.kIn.keeps kpp) rfl) rfl rfl sc1 dh sc3 sc4 sc5 sc6 hdy
    · cases e3
  · cases e2
end
end PL
namespace PL
open PySem L2 Nh
theorem mj {pos:Pos} {a b:Int} {c cv:Value} (l:List Value) (h:TriplesOk l) (e:codeAmong pos (l++[rawInt a,rawInt b,c])=some cv):codeAmong pos l=some cv∨cv=c:=by
  fun_induction TriplesOk l with
  | case1=>
    simp only [List.nil_append,codeAmong,rawInt] at e
    split at e
    · cases e;exact .inr rfl
    · cases e
  | case2 a' t b' u x bv ih=>
    simp only [List.cons_append,codeAmong] at e ⊢
    split at e
    · rename_i hc;rw [if_pos hc];exact .inl e
    · rename_i hc;rw [if_neg hc];exact ih h e
  | case3 l h1 h2=>exact h.elim
section
variable {X:Cx} {pins:List (Addr×Obj)} {σ:L2.St} {H:Hp} {s:Shared}
theorem uq {P c':Addr} {q:Str} {ps:Array Value} {a b:Int} {h':Heap} {tk:Nat} (I:Inv X pins σ H s) (hT:H P=some (.tbl q)) (hps:s.heap.get? P=some (PySem.W.tabObj ps))
    (hx:∀b o,b≠P→s.heap.get? b=some o→h'.get? b=some o) (hc:s.heap.objs.size≤c') (hr:h'.CodeRec (.ref c') q) (hP:h'.get? P=some (PySem.W.tabObj (ps++#[rawInt a,rawInt b, .ref c']))):
    Inv X pins σ (dg H c' (.own P)) {s with heap:=h',toks:=tk}:=by
  have hn:H c'=none:=I.hok.fresh hc
  have neP:∀b,H b=none→b≠P:=fun b n z=>by subst z;rw [hT] at n;cases n
  obtain ⟨ps0,e0,t0,r0⟩:=I.hok P _ hT
  rw [hps] at e0
  cases e0
  refine I.un (h':=h') (t':=tk) ⟨fun b o e n _ _=>hx b o (neP b n) e,fun b o e n _ _=>⟨o.slots,hx b o (neP b n) e⟩,fun b o e n _=>?_,fun b o e _=>?_,fun b xs e=>?_,fun b o u e=>?_,fun b z e=>?_⟩ fun d o e=>?_
  · rw [aK (Nat.ne_of_lt (Nat.lt_of_lt_of_le (Heap.lt_size e) hc))];exact n
  · by_cases hb:b=P
    · subst hb;exact ⟨_,hP⟩
    · exact ⟨o,hx b o hb e⟩
  · rw [aK (bX e hn)];exact e
  · rw [aK (bX e hn)];exact e
  · rw [aK (bX e hn)];exact e
  · by_cases hd:d=c'
    · subst hd
      rw [bR] at e
      cases e
      obtain ⟨c2,oc,_,_,hc2,hoc,_⟩:=hr
      cases hc2
      exact ⟨oc,hoc⟩
    · rw [aK hd] at e
      by_cases hp:d=P
      · subst hp
        rw [hT] at e
        cases e
        refine ⟨_,hP,by simpa using TriplesOk_snoc a b (.ref c') _ t0,fun pos cv z=>?_⟩
        rcases mj (a:=a) (b:=b) (c:= .ref c') ps.toList t0 (by simpa using z) with z | z
        · obtain ⟨c,ec,ho,c2,oc,vs,tq,hc2,hoc,hr2⟩:=r0 pos cv z
          subst ec
          cases hc2
          refine ⟨c,rfl,by rw [aK (bX ho hn)];exact ho,c,oc,vs,tq,rfl,hx _ _ (fun z=>?_) hoc,hr2⟩
          subst z
          rw [hT] at ho
          cases ho
        · subst z
          exact ⟨c',rfl,bR,hr⟩
      · refine (I.hok d o e).stay (fun b u hb q=>hx b u ?_ q) (fun b hb=>by rw [aK (bX hb hn)];exact hb) fun b xs hb=>by rw [aK (bX hb hn)];exact hb
        rcases hb with rfl | hb
        · exact hp
        · intro z
          subst z
          rw [hT] at hb
          cases hb
theorem Bb {P:Addr} {ps:Array Value} (I:Inv X pins σ H s) (hps:s.heap.get? P=some (PySem.W.tabObj ps)):mainGlobals≠P∧s.heap.BuiltinsAt X.mg P:=by
  have hg:=I.mod.glob.keeps I.bk
  obtain ⟨bm,ob,b1,b2,b3,b4,b5,b6⟩:=I.mod.bmain
  have b3':=I.bk _ _ b3
  refine ⟨fun q=>?_,bm,ob,b1,b2,fun q=>?_,fun q=>?_,b3',b4,b5,b6⟩
  · obtain ⟨o,es,ep,e,hd,_⟩:=hg
    rw [q,hps] at e;cases e;cases hd
  · obtain ⟨o,es,ep,e,hd,_⟩:=hg
    rw [q,e] at b3';cases b3';rw [hd] at b6;cases b6
  · rw [q,hps] at b3';cases b3';cases b4
end
section
variable {X:Cx} {e:Expr} {m:Bool} {f:bE} {p pos kp lp:Pos} {y:Str} {k:Nat} {p1 p2 p3 p4 tp:Pos} {x1:Nat} {params:Arguments} {scope:Scope} {c P:Addr}
theorem vX (hcode:X.env.code= .ref c) (hP:uL X.K=some P) (hC:PySem.W.codeHdIn X.K c P=true) (hr:Room k X.A) (hg:Gl X "sorted") (hm:X.mg "sorted"=none) (hl:X.mg "len"=none) (ha:EX X e m f)
    (hq:X.env.qual++"<lambda>"=Str.ofString "in_told_order.<locals>.<lambda>") (hdef:defaultsOf params X.env=([],[]):=by rfl)
    (hbind:∀(name qual:Str) (pm cd ctv u:Value),bindArgs (PySem.W.kla_fn name qual params (.Tuple [.Call (.Name "len" p1) [.Name y p2] [] p3, .Name y p4] x1 tp) scope [] pm cd ctv) ⟨[u],[]⟩=pure [(y,u)]:=by intros;rfl)
    (sc1:scope.names.lookup y=some .local:=by rfl) (dh:scope.names.lookup (Str.ofString "len")=some .globalImplicit:=by rfl) (sc3:scope.isCoroutine=false:=by rfl) (sc4:scope.isGenerator=false:=by rfl) (sc5:scope.kind= .function:=by rfl)
    (sc6:∀x∈scope.names,x.2≠ .cell:=by decide) (sc7:∀x∈scope.names,x.2≠ .free:=by decide) (hdy:(y == ("__debug__":Str))=false:=by decide)
    (he:starEach [e] X.env=[(false,eval e X.env)]:=by rfl)
    (he':backTo pos (starEach [e] X.env)=(false,eval e X.env)::backTo pos (starEach [] X.env):=by rfl) (hpl:(backTo pos (starEach [e] X.env)).any (·.1)=false:=by rfl)
    (hall:(backToKw pos (keywordEach [⟨some "key", .Lambda params (.Tuple [.Call (.Name "len" p1) [.Name y p2] [] p3, .Name y p4] x1 tp) scope lp,kp⟩] X.env)).all (·.1.isSome)=true:=by rfl)
    (hkw:(backToKw pos (keywordEach [⟨some "key", .Lambda params (.Tuple [.Call (.Name "len" p1) [.Name y p2] [] p3, .Name y p4] x1 tp) scope lp,kp⟩] X.env)).any (·.1.isNone)=false:=by rfl)
    (hnm:(backToKw pos (keywordEach [⟨some "key", .Lambda params (.Tuple [.Call (.Name "len" p1) [.Name y p2] [] p3, .Name y p4] x1 tp) scope lp,kp⟩] X.env)).filterMap (·.1)=[Str.ofString "key"]:=by rfl):
    EX X (.Call (.Name "sorted" p) [e] [⟨some "key", .Lambda params (.Tuple [.Call (.Name "len" p1) [.Name y p2] [] p3, .Name y p4] x1 tp) scope lp,kp⟩] pos) m (iF f):=by
  intro pins s σ H Q I z
  obtain ⟨B,E,xs,Xs,res,E',fr,cl,e0,q⟩:=z
  obtain ⟨⟨r1,E1⟩,e1,e2⟩:=Option.bind_eq_some_iff.mp e0
  simp only at e2
  split at e2
  · rename_i ds ld
    obtain ⟨ss,en,e3⟩:=Option.bind_eq_some_iff.mp e2
    split at e3
    · rename_i hc
      cases e3
      simp only [Bool.and_eq_true,decide_eq_true_eq,List.all_eq_true] at hc
      refine wpAny_Call_Name_kw (iq I hg hm PyProof.Rows.boot_sorted ?_ (by decide) (by decide))
      refine PyProof.Rows.callWith_kw (d_ (dE ha fX he pos pins s σ H (fun vs H1=>∃p,vs=[.ref p]∧SqL X.K H1 p (ss.map V.str)∧∀H2,Same H1 H2→∀D,H2 D=none→Q (.ref D) (dg H2 D (.lst ((NhSG.iE ss).map V.str)))) I ⟨B,E,xs,Xs,r1,_,fr,cl,e1,fun v1 H1 ⟨F,A,fr1⟩=>?_⟩) fun us s2 ⟨vs,H1,I1,r1,p0,ev,hq1,q1⟩=>?_) he' hpl hall hkw
      · obtain ⟨A',fr2⟩:=fr1.pop
        have r:=(fr1.look0 ld).1
        cases r with
        | lst h1 h2=>
          have:=kO h2 en
          subst this
          exact ⟨_,rfl,h1,fun H2 g D hD=>q _ _ ⟨_,_,(fr2.grow g).newl (iD _) hD⟩⟩
      · subst ev
        cases r1 with
        | cons r rr=>
          cases rr
          cases r
          refine PyProof.Rows.kws_cons (PySem.W.kla_eval hdef ?_)
          have hT:H1 P=some (.tbl (Str.ofString "in_told_order.<locals>.<lambda>")):=I1.tab P _ (by unfold kG;rw [if_pos hP])
          obtain ⟨ps,hps,ht,hit⟩:=I1.hok P _ hT
          obtain ⟨hgP,hbA⟩:=Bb I1 hps
          have hcl:closureFor scope X.env=pure []:=closureFor_none sc7
          have C:=PySem.W.codeHd_of_K I1.kIn hC
          have hroom:X.A.in1.in1.depth < recursionLimit:=by have:=hr.dp;show X.A.depth < recursionLimit;lia
          cases hca:codeAmong lp ps.toList with
          | none=>
            refine PySem.W.kla_makeFunction hcl I1.ok.glob (I1.mod.glob.keeps I1.bk) hcode C hps ht hca hgP hbA fun c' ctv h' tk hx hge hlt hrec htb=>?_
            rw [hq] at hrec
            have I2:=uq (tk:=tk) I1 hT hps (fun b o hb e=>hx b o hb e) hge hrec htb
            have g:Same H1 (dg H1 c' (.own P)):=fM (I1.hok.fresh hge) _
            have I3:=I2.kept (t':=tk) (fun b o e=>Heap.get?_push_of_some (PySem.W.kla_obj "<lambda>" (X.env.qual++"<lambda>") params (.Tuple [.Call (.Name "len" p1) [.Name y p2] [] p3, .Name y p4] x1 tp) scope [] ((X.mg "__name__").getD .none) c' ctv) e)
            refine PyProof.Rows.kws_nil ?_
            rw [hnm]
            refine j8 I3 (g.seq hq1) hc.1 (fun z t hz=>?_) (q1 _ g)
            exact NhSG.pZ (zH I3 hl) hroom (Heap.get?_push_size _ rfl) (by rw [hq];exact hrec.keeps fun b o e=>Heap.get?_push_of_some _ e) (lO (hc.2 z hz)) (hbind _ _ _ _ _ _) sc1 dh sc3 sc4 sc5 sc6 hdy
          | some cv=>
            obtain ⟨c',rfl,ho,hrec⟩:=hit lp cv hca
            refine PySem.W.kla_makeFunctionHit hcl I1.ok.glob (I1.mod.glob.keeps I1.bk) hcode C hps ht hca hbA fun ctv h' tk hx hsz=>?_
            have I3:=I1.kept (t':=tk) (fun b o e=>Heap.get?_push_of_some (PySem.W.kla_obj "<lambda>" (X.env.qual++"<lambda>") params (.Tuple [.Call (.Name "len" p1) [.Name y p2] [] p3, .Name y p4] x1 tp) scope [] ((X.mg "__name__").getD .none) c' ctv) (hx b o e))
            refine PyProof.Rows.kws_nil ?_
            rw [hnm]
            refine j8 I3 hq1 hc.1 (fun z t hz=>?_) (q1 _ (Same.refl _))
            exact NhSG.pZ (zH I3 hl) hroom (Heap.get?_push_size _ rfl) (by rw [hq];exact hrec.keeps fun b o e=>Heap.get?_push_of_some _ (hx b o e)) (lO (hc.2 z hz)) (hbind _ _ _ _ _ _) sc1 dh sc3 sc4 sc5 sc6 hdy
    · cases e3
  · cases e2
end
structure DefT (K:PySem.W.Frag) (mg:Str→Option Value) (x:Str) (st:Stmt) (ps:List Str) (c P:Addr):Prop where
  ex:∃(f:Addr) (oc:Value) (od:Option Addr) (kV doc pm:Value) (an:Option Addr) (ct:Value) (osl:Array (Option Value)),
    K.lookup f=some ⟨oc,od, .func (PySem.W.fnOf x x (aE st) (aB st) (af st) .none kV doc pm an (.ref c) ct),osl⟩∧PySem.W.codeIn K (.ref c) x=true∧PySem.W.keepIn K (.ref f)=true∧mg x=some (.ref f)∧
      Binds K (PySem.W.fnOf x x (aE st) (aB st) (af st) .none kV doc pm an (.ref c) ct) ps []
  hd:PySem.W.codeHdIn K c P=true
  tp:uL K=some P
theorem Cb {P:Program} {w:World} {K:PySem.W.Frag} {mg:Str→Option Value} {base:Heap} {x:Str} {st:Stmt} {N ps:List Str} {k a n:Nat} {g:dG} {c T:Addr} (D:DefT K mg x st ps c T) (S:FnScope N ps (af st)) (hpa:ps.length=a) (hNn:N.length=n) (hps:a≤n)
    (hbody:∀(f:Addr) (A:Around) (outer:List Env) (s:Shared) (H:Hp) (E:XK),Room k (A.deeper (PyProof.Rows.envOfC x (af st) s.heap.objs.size f (.ref c)))→
      uK (me tL P w K mg base N x (af st) f (.ref c) A outer s H E).nox (aB st) g):Own P w K mg base (k+1) x ps (ee K (eJ a n g)):=by
  subst hpa hNn
  obtain ⟨f,oc,od,kV,doc,pm,an,ct,osl,lk,hcd,kp,hm,hb⟩:=D.ex
  refine ⟨f,_,xY lk hcd S (fun vs H Q E h=>?_) (fun A outer s H vs Q E hr h=>?_),hb,hm,kp⟩
  · obtain ⟨ds,r,e,rp,_⟩:=h
    unfold eJ at e
    split at e
    · rename_i hl
      rw [rp.len];exact hl
    · cases e
  obtain ⟨ds,r,e,rp,q⟩:=h
  unfold eJ at e
  split at e
  · rename_i hl
    refine ⟨_,(hbody f A outer s H E hr).nox,?_⟩
    obtain ⟨⟨E',fl⟩,e1,e⟩:=Option.bind_eq_some_iff.mp e
    refine ⟨H,bj N.length ds,[],[],E',fl,⟨H,[],nY rp (by lia)⟩,rfl,e1,?_⟩
    cases fl with
    | nx=>
      cases e
      rintro σ' H' ⟨F',A',fr'⟩
      exact q _ _ (fr'.bf.trans fr'.fh) .non
    | bk=>cases e
    | ct=>cases e
    | rt r'=>
      rintro σ' v H' ⟨F',A',fr'⟩
      obtain ⟨s1,s2⟩:=fr'.resultO e
      exact q v H' s1 s2
  · cases e
theorem vY {K:PySem.W.Frag} {f c P:Addr} {oc occ:Value} {od odc:Option Addr} {fd:FuncData} {sl slc:Array (Option Value)} {vs:Array Value} (a:PySem.W.nsIn K mainGlobals "in_told_order"=some (some (.ref f))) (l:K.lookup f=some ⟨oc,od, .func fd,sl⟩) (hc:fd.code= .ref c)
    (lc:K.lookup c=some ⟨occ,odc, .fields vs,slc⟩) (hv:(vs[11]? :Option Value)=some (.ref P)):uL K=some P:=by
  unfold uL
  rw [a]
  simp only [l,hc,lc,hv]
theorem vZ {K:PySem.W.Frag} {h:Heap} {f c P:Addr} {oc occ:Value} {od odc:Option Addr} {fd:FuncData} {sl slc:Array (Option Value)} {vs:Array Value} (X:K.In h) (a:PySem.W.nsIn K mainGlobals "in_told_order"=some (some (.ref f))) (l:K.lookup f=some ⟨oc,od, .func fd,sl⟩) (hc:fd.code= .ref c)
    (lc:K.lookup c=some ⟨occ,odc, .fields vs,slc⟩) (hv:(vs[11]? :Option Value)=some (.ref P)) (hd:PySem.W.codeHdIn K c P=true) (hn:K.lookup P=none) (ht:h.get? P=some (PySem.W.tabObj #[])):sI K h:=fun b q e=>by
  have tp:=vY a l hc lc hv
  unfold kG at e
  split at e
  · rename_i hb
    rw [tp] at hb
    cases hb
    exact ⟨ht,⟨c,PySem.W.codeHd_of_K X hd⟩,hn⟩
  · cases e
end PL
namespace NhFam
abbrev Tx:=List Nat
def Ab (w:Tx):Prop:=w.Pairwise (· < ·)
def le (v w:Tx):Prop:=∀x∈v,x∈w
instance (v w:Tx):Decidable (le v w):=inferInstanceAs (Decidable (∀x∈v,x∈w))
def Sub (U w:Tx):Prop:=Ab w∧le w U
theorem iS:∀{w v:Tx},Ab v→Ab w→le v w→v.Sublist w
  | [],v,_,_,h=>by
    cases v with
    | nil=>exact .slnil
    | cons x v=>cases h x (List.mem_cons_self ..)
  | y::w,v,hv,hw,h=>by
    cases v with
    | nil=>exact List.nil_sublist _
    | cons x v=>
      have hw':=List.pairwise_cons.mp hw
      have hv':=List.pairwise_cons.mp hv
      by_cases e:x=y
      · subst e
        refine (iS hv'.2 hw'.2 fun z hz=>?_).cons_cons _
        rcases List.mem_cons.mp (h z (List.mem_cons_of_mem _ hz)) with q | q
        · have:=hv'.1 z hz;lia
        · exact q
      · have hx:x∈w:=(List.mem_cons.mp (h x (List.mem_cons_self ..))).resolve_left e
        have lt:=hw'.1 x hx
        refine (iS hv hw'.2 fun z hz=>?_).cons _
        rcases List.mem_cons.mp (h z hz) with q | q
        · subst q
          rcases List.mem_cons.mp hz with q | q
          · (solve_by_elim (maxDepth:=3) only [*,Nat.le_trans,Nat.lt_of_lt_of_le,Nat.lt_of_le_of_lt,Nat.le_of_lt])
          · have:=hv'.1 z q;lia
        · exact q
def key (w:Tx):NhSG.Ky:=((w.length:Int),w)
def kQ (v w:Tx):Prop:=NhSG.gd (key v) (key w)=true
theorem rz (v:Tx):¬kQ v v:=fun h=>by
  have:=(NhSG.fG default).irrefl (key v)
  unfold kQ at h
  rw [show NhSG.gd (key v) (key v)=false from this] at h
  cases h
theorem nh {v w:Tx} (h1:¬kQ v w) (h2:¬kQ w v):v=w:=by
  have h:=(NhSG.fG default).total (key v) (key w) (by simpa [kQ] using h1) (by simpa [kQ] using h2)
  exact congrArg Prod.snd h
theorem ni {u v w:Tx} (a:kQ u v) (b:kQ v w):kQ u w:=(NhSG.fG default).trans _ _ _ a b
theorem ur {v w:Tx} (a:kQ v w):¬kQ w v:=fun b=>rz v (ni a b)
def up (F:List Tx) (w:Tx):Prop:=∃v∈F,le v w
def Cz (U:Tx) (f:Tx→Prop) (w:Tx):Prop:=Sub U w∧f w∧∀v,Sub U v→f v→le v w→v=w
structure Told (U:Tx) (L:List Tx) (f:Tx→Prop):Prop where
  srt:L.Pairwise kQ
  mem:∀w,w∈L↔Cz U f w
def i3 (K:List Tx):List Tx→List Tx
  | []=>K
  | w::r=>if K.any (fun k=>decide (le k w)) then i3 K r else i3 (K++[w]) r
def dF (F:List Tx):List Tx:=F.mergeSort fun a b=> !NhSG.gd (key b) (key a)
theorem sortT_mem {F:List Tx} {w:Tx}:w∈dF F↔w∈F:=(List.mergeSort_perm F _).mem_iff
theorem j9 (F:List Tx):(dF F).Pairwise fun a b=>¬kQ b a:=by
  have h:=List.pairwise_mergeSort (le:=fun a b=> !NhSG.gd (key b) (key a)) (fun a b c h1 h2=>by
    have h1':¬kQ b a:=by simpa [kQ] using h1
    have h2':¬kQ c b:=by simpa [kQ] using h2
    have:¬kQ c a:=fun z=>by
      by_cases q:kQ a b
      · exact h2' (ni z q)
      · rw [nh q h1'] at z;exact h2' z
    simpa [kQ] using this) (fun a b=>by
    by_cases q:NhSG.gd (key b) (key a)=true
    · have:¬kQ a b:=ur q
      have:NhSG.gd (key a) (key b)=false:=by simpa [kQ] using this
      simp [this]
    · simp [Bool.not_eq_true _▸q]) F
  exact h.imp fun {a b} h=>by simpa [kQ] using h
def lP (F:List Tx):List Tx:=i3 [] (dF F)
end NhFam
namespace NhFam
def eK (w:Tx):List Tx:=w.foldl (fun acc a=>acc++acc.map (· ++[a])) [[]]
theorem p8:∀(V:Tx) (acc:List Tx) (w:Tx),w∈V.foldl (fun acc a=>acc++acc.map (· ++[a])) acc↔∃u∈acc,∃t,t.Sublist V∧w=u++t
  | [],acc,w=>by
    constructor
    · intro h;exact ⟨w,h,[], .slnil,by simp⟩
    · rintro ⟨u,hu,t,ht,rfl⟩
      have:t=[]:=by simpa using ht
      subst this
      simpa using hu
  | a::V,acc,w=>by
    rw [List.foldl_cons,p8 V]
    constructor
    · rintro ⟨u,hu,t,ht,rfl⟩
      rcases List.mem_append.mp hu with q | q
      · exact ⟨u,q,t,ht.cons _,rfl⟩
      · obtain ⟨v,hv,rfl⟩:=List.mem_map.mp q
        exact ⟨v,hv,a::t,ht.cons_cons _,by simp⟩
    · rintro ⟨u,hu,t,ht,rfl⟩
      cases ht with
      | cons _ h=>exact ⟨u,by simp [hu],t,h,rfl⟩
      | cons_cons _ h=>exact ⟨u++[a],by simp [hu],_,h,by simp⟩
theorem v4 {V:Tx} (hV:Ab V) {w:Tx}:w∈eK V↔Sub V w:=by
  unfold eK
  rw [p8]
  constructor
  · rintro ⟨u,hu,t,ht,rfl⟩
    rw [List.mem_singleton.mp hu,List.nil_append]
    exact ⟨List.Pairwise.sublist ht hV,fun x hx=>ht.subset hx⟩
  · intro h
    exact ⟨[],by simp,w,iS h.1 hV h.2,rfl⟩
theorem v5 (V:Tx):(eK V).length=2 ^ V.length:=by
  have key:∀(V:Tx) (acc:List Tx),(V.foldl (fun acc a=>acc++acc.map (· ++[a])) acc).length=acc.length*2 ^ V.length:=fun V=>by
    induction V with
    | nil=>intro acc;simp
    | cons a V ih=>
      intro acc
      rw [List.foldl_cons,ih,List.length_append,List.length_map,List.length_cons,Nat.pow_succ,←Nat.two_mul,Nat.mul_comm 2,Nat.mul_assoc,Nat.mul_comm 2]
  unfold eK
  rw [key]
  simp
end NhFam
namespace Nhk35
open PySem L2 Nh PL
def iT:dG:=(aV (sq (ig (lz .str) (aa 0)) (sq (ae eM false (bI cH (ad false (aa 0) am)) (pC (.int 1))) (gw (eX .le) (eX .le) false false (pC (.str "a")) (aa 0) (pC (.str "z"))))))
def fk:List PyData→Option Sl:=eJ 1 1 iT
def aZ:gI:=(gC 2 (c0 (aI 2) (c0 (aI 3) gB)))
def a_:dG:=(aA (ao 4 (aa 3))
  (aA (aN (eW (eU (aa 1)) (bY (ae eM false (ae fF false (ae fF false (aa 1) (ig fZ (pC (.int 1)))) (pC (.int 0))) (aa 2))))
  (ao 4 (ae aD false (ae fF false (iY 1) (pC (.int 1))) (aa 3)))
  aH)
  (aN (bY (ae jQ false (aa 4) (pC (.int 0))))
  (bS (aO 1 (dC (aF (aa 2) (aF (aa 4) aP)))))
  aH)))
def gf:dG:=(aA (ao 1 (bO aP))
  (aA (d0 (bL (aa 0)) aZ
  a_)
  (aV (aa 1))))
def di:List PyData→Option Sl:=eJ 1 5 gf
def iU:dG:=(aV (ae eM false (bI cH (ad false (aj di (ad false (aa 0) am)) am)) (pC (.int 0))))
def fm:List PyData→Option Sl:=eJ 1 1 iU
def fS:gI:=(aI 1)
def fT:dG:=(aN (de (eU (aj fk (ad false (aa 1) am))))
  qS
  aH)
def jC:dG:=(aA (aN (de (eU (ig (lz .str) (aa 0))))
  qS
  aH)
  (aA (d0 (bL (aa 0)) fS
  fT)
  (aV (pF "" (dI (aa 0))))))
def eN:List PyData→Option Sl:=eJ 1 2 jC
def fH:gI:=(gC 2 (c0 (aI 0) (c0 (aI 1) gB)))
def fI:bE:=(aa 0)
def h7:dG:=(aV (pF "" (dI (bJ [none,none] (bL (aa 0)) fH bV fI))))
def cZ:List PyData→Option Sl:=eJ 1 1 h7
def gg:gI:=(aI 0)
def gh:bE:=(aa 0)
def dP:i7:=(bY (ae (tV true) false (ae fF false (aa 0) (pC (.int 0))) (aa 1)))
def iV:dG:=(aA (ao 2 (aj eN (ad false (aa 1) am)))
  (aV (bJ [none,some 2] (bL (aa 0)) gg dP gh)))
def ft:List PyData→Option Sl:=eJ 2 3 iV
def eF:dG:=(aV (aj fm (ad false (aj ft (ad false (aa 0) (ad false (aa 1) am))) am)))
def bM:List PyData→Option Sl:=eJ 2 2 eF
def eY:gI:=(aI 3)
def eZ:dG:=(aA (aN (bY (ae (tV false) false (aa 3) (aa 0)))
  (ao 1 (ae aD false (aa 1) (aa 2)))
  aH)
  (ao 2 (ae gv false (aa 2) (pC (.int 2)))))
def iW:dG:=(aA (ao 1 (pC (.int 0)))
  (aA (ao 2 (pC (.int 1)))
  (aA (d0 (bL (pC (.str "abcdefghijklmnopqrstuvwxyz"))) eY
  eZ)
  (aV (aa 1)))))
def dJ:List PyData→Option Sl:=eJ 1 4 iW
def eG:dG:=(aV (iF (aa 0)))
def be:List PyData→Option Sl:=eJ 1 1 eG
def bF:gI:=(aI 2)
def bg:dG:=(aN (bY (ae eM false (ae vA false (aa 2) (aa 0)) (aa 2)))
  (aV (pC (.bool true)))
  aH)
def cQ:dG:=(aA (d0 (bL (aa 1)) bF
  bg)
  (aV (pC (.bool false))))
def aL:List PyData→Option Sl:=eJ 2 3 cQ
def cK:gI:=(aI 3)
def ca:dG:=(aA (ao 4 (aj dJ (ad false (aa 3) am)))
  (aN (de (eU (aj aL (ad false (aa 4) (ad false (aa 2) am)))))
  (aA (bS (aO 2 (aa 4)))
  (bS (aO 1 (aa 3))))
  aH))
def gE:dG:=(aA (ao 1 (bO aP))
  (aA (ao 2 (bO aP))
  (aA (d0 (bL (aj be (ad false (aa 0) am))) cK
  ca)
  (aV (aa 1)))))
def dL:List PyData→Option Sl:=eJ 1 5 gE
def fJ:gI:=(aI 0)
def em:bE:=(ae aD false (aa 0) (aa 1))
def dl:gI:=(aI 2)
def dm:dG:=(ao 1 (ae aD false (aa 1) (bJ [none,some 2] (bL (aa 1)) fJ bV em)))
def gG:dG:=(aA (ao 1 (bO (aF (pC (.str "")) aP)))
  (aA (d0 (bL (aa 0)) dl
  dm)
  (aV (aa 1))))
def cA:List PyData→Option Sl:=eJ 1 3 gG
def gi:dG:=(aN (bY (ae (dh (eX .gt)) false (bI cH (ad false (aa 0) am)) (pC (.int 10))))
  qS
  aH)
def cL:List PyData→Option Sl:=eJ 1 1 gi
def cB:gI:=(aI 0)
def cC:bE:=(aa 0)
def bW:i7:=(eU (aj bM (ad false (aa 1) (ad false (aa 0) am))))
def dN:dG:=(aA (ao 1 (aj cZ (ad false (aa 0) am)))
  (aA (bS (aj cL (ad false (aa 1) am)))
  (aV (aj dL (ad false (bJ [none,some 0] (bL (aj cA (ad false (aa 1) am))) cB bW cC) am)))))
def ba:List PyData→Option Sl:=eJ 1 2 dN
def jD:dG:=(aA (aN (bY (ae (dh (eX .lt)) false (aa 1) (bI cH (ad false (aa 0) am))))
  (aV (ae fF false (aa 0) (aa 1)))
  aH)
  (aV (pC (.int 0))))
def ar:List PyData→Option Sl:=eJ 2 2 jD
def h8:dG:=(aA (ao 2 (ae bw false (ae aD false (ae aD false (ae aD false (ae bw false (aa 0) (pC (.int 2147483629))) (ae gv false (pC (.int 7919)) (aa 1))) (ae gv false (aa 1) (aa 1))) (pC (.int 11))) (pC (.int 2147483629))))
  (aA (ao 2 (ae bw false (ae gv false (aa 2) (aa 2)) (pC (.int 2147483587))))
  (aV (ae aM false (ae bw false (ae aD false (ae gv false (aa 2) (pC (.int 48271))) (ae gv false (pC (.int 31)) (aa 1))) (pC (.int 2147483563))) (pC (.int 13))))))
def bi:List PyData→Option Sl:=eJ 2 3 h8
def dO:gI:=(aI 0)
def cR:bE:=(ae fF false (aa 1) (ae bw false (ae aD false (aa 2) (ae gv false (aa 0) (aa 3))) (pC (.int 26))))
def gN:dG:=(aA (ao 2 (pC (.str "abcdefghijklmnopqrstuvwxyz")))
  (aA (ao 3 (ae fF false (bO (vo [1,3,5,7,9,11,15,17,19,21,23,25])) (ae bw false (ae aM false (aa 0) (pC (.int 26))) (pC (.int 12)))))
  (aV (bJ [none,some 2,some 0,some 3] (lB (ad false (aa 1) am)) dO bV cR))))
def bP:List PyData→Option Sl:=eJ 2 4 gN
def fK:gI:=(gC 2 (c0 (aI 0) (c0 (aI 1) gB)))
def eB:bE:=(dC (aF (aa 0) (aF (ae il false (pC (.int 0)) (aa 1)) aP)))
def h9:dG:=(aA (ao 1 (bJ [none,none] (bL (aa 0)) fK bV eB))
  (aA (bS (jt 1))
  (aV (aa 1))))
def aG:List PyData→Option Sl:=eJ 1 2 h9
def eO:dG:=(aA (aN (bY (ae eM false (ae bw false (aa 0) (pC (.int 9))) (pC (.int 8))))
  (aV (ae il false (ae bw false (ae aM false (aa 0) (pC (.int 9))) (ae gv false (pC (.int 2)) (ae iy false (pC (.int 10)) (pC (.int 30))))) (ae iy false (pC (.int 10)) (pC (.int 30)))))
  aH)
  (aV (ae aD false (ae il false (ae bw false (aa 0) (pC (.int 9))) (pC (.int 4))) (bI tX (ad false (ae (dh (eX .gt)) false (ae bw false (aa 0) (pC (.int 9))) (pC (.int 3))) am)))))
def bq:List PyData→Option Sl:=eJ 1 1 eO
def aX:gI:=(aI 5)
def aY:dG:=(aA (ao 6 (ae fF false (aa 1) (ae bw false (aa 4) (bI cH (ad false (aa 1) am)))))
  (aA (ao 4 (ae aM false (aa 4) (bI cH (ad false (aa 1) am))))
  (aA (ao 7 (ae il false (ae bw false (aa 4) (pC (.int 7))) (pC (.int 3))))
  (aA (ao 4 (ae aM false (aa 4) (pC (.int 7))))
  (aA (aN (eW (bY (ae eM false (aa 7) (ig fZ (pC (.int 3))))) (bY (ae eM false (ae bw false (aa 4) (pC (.int 2))) (pC (.int 1)))))
  (aA (ao 7 (ae il false (ae bw false (ae aM false (aa 4) (pC (.int 2))) (ae gv false (pC (.int 2)) (ae iy false (pC (.int 10)) (pC (.int 12))))) (ae iy false (pC (.int 10)) (pC (.int 12)))))
  (ao 4 (ae aM false (aa 4) (ae gv false (pC (.int 4)) (ae iy false (pC (.int 10)) (pC (.int 12)))))))
  (aN (bY (ae eM false (aa 7) (ig fZ (pC (.int 3)))))
  (ao 4 (ae aM false (aa 4) (pC (.int 2))))
  aH))
  (bS (aO 3 (dC (aF (aa 6) (aF (aa 7) aP))))))))))
def eH:dG:=(aA (ao 3 (bO aP))
  (aA (ao 4 (ae aM false (aa 0) (ae aD false (aa 2) (pC (.int 1)))))
  (aA (d0 (lB (ad false (ae bw false (aa 0) (ae aD false (aa 2) (pC (.int 1)))) am)) aX
  aY)
  (aV (aa 3)))))
def bu:List PyData→Option Sl:=eJ 3 8 eH
def bB:gI:=(aI 5)
def bC:dG:=(aA (ao 6 (aj bi (ad false (ae aD false (aj ar (ad false (aa 0) (ad false (aa 5) am))) (aa 5)) (ad false (aa 5) am))))
  (aA (ao 7 (bO (aF (dC (aF (ae fF false (aa 2) (ae bw false (ae aM false (aa 6) (pC (.int 7))) (bI cH (ad false (aa 2) am)))) (aF (aj bq (ad false (aj bi (ad false (aj ar (ad false (aa 0) (ad false (aa 5) am))) (ad false (ae aD false (pC (.int 50)) (aa 5)) am))) am)) aP))) aP)))
  (aA (ao 8 (bO (aF (dC (aF (ae fF false (aa 2) (ae bw false (ae aM false (aa 6) (pC (.int 53))) (bI cH (ad false (aa 2) am)))) (aF (ae aD false (pC (.int 1)) (ae bw false (ae aM false (aa 6) (pC (.int 401))) (pC (.int 3)))) aP))) aP)))
  (aA (ao 9 (ae bw false (aa 6) (pC (.int 7))))
  (aA (aN (bY (ae (dh (eX .gt)) false (bI cH (ad false (aa 4) am)) (ae il false (ae aM false (aa 3) (pC (.int 2))) (pC (.int 4)))))
  (ao 9 (pC (.int 0)))
  aH)
  (aN (hU (bY (ae eM false (aa 9) (pC (.int 1)))) (bY (ae eM false (aa 9) (pC (.int 2)))))
  (ao 4 (ae aD false (ae aD false (ae aD false (aa 4) (aa 7)) (aj aG (ad false (aa 4) am))) (aj aG (ad false (aa 7) am))))
  (aN (bY (ae eM false (aa 9) (pC (.int 3))))
  (ao 4 (ae aD false (ae aD false (aa 7) (aa 4)) (aj aG (ad false (aa 7) am))))
  (aN (bY (ae eM false (aa 9) (pC (.int 4))))
  (aA (ao 10 (ae bw false (ae aM false (aa 6) (pC (.int 3001))) (ae aD false (bI cH (ad false (aa 4) am)) (pC (.int 1)))))
  (ao 4 (ae aD false (ae aD false (ae aD false (ae aD false (jb false (aa 4) gz (gA (aa 10))) (aa 8)) (bO (aF (dC (aF (ae fF false (ae fF false (aa 7) (pC (.int 0))) (pC (.int 0))) (aF (pC (.int 0)) aP))) aP))) (aj aG (ad false (aa 8) am))) (jb false (aa 4) (gA (aa 10)) gz))))
  (aN (bY (ae eM false (aa 9) (pC (.int 5))))
  (ao 4 (ae aD false (ae aD false (ae aD false (ae aD false (aa 4) (aa 8)) (aa 7)) (aj aG (ad false (aa 8) am))) (aj aG (ad false (aa 7) am))))
  (ao 4 (ae aD false (aa 4) (aa 7))))))))))))
def fU:dG:=(aA (ao 4 (bO aP))
  (aA (d0 (jX (ad false (aa 1) (ad false (ae aD false (aa 1) (pC (.int 8))) am))) bB
  bC)
  (aV (jb false (aa 4) gz (gA (aa 3))))))
def cD:List PyData→Option Sl:=eJ 4 11 fU
def fu:dG:=(aA (ao 4 (aj ar (ad false (aa 0) (ad false (aa 1) am))))
  (aA (aN (de (bY (gw (eX .lt) (eX .lt) false false (ig fZ (ae iy false (pC (.int 10)) (pC (.int 18)))) (aa 4) (ae iy false (pC (.int 10)) (pC (.int 18))))))
  (aV (aj bu (ad false (aa 4) (ad false (aa 2) (ad false (aa 3) am)))))
  aH)
  (aV (aj cD (ad false (aa 0) (ad false (ae aD false (aa 1) (pC (.int 1))) (ad false (aa 2) (ad false (aa 3) am))))))))
def bG:List PyData→Option Sl:=eJ 4 5 fu
def ck:gI:=(gC 2 (c0 (aI 2) (c0 (aI 3) gB)))
def bn:dG:=(aA (aN (eW (bY (ae jQ false (aa 1) (bO aP))) (bY (ae eM false (ae fF false (ae fF false (aa 1) (ig fZ (pC (.int 1)))) (pC (.int 0))) (aa 2))))
  (ao 3 (ae aD true (aa 3) (ae fF false (iY 1) (pC (.int 1)))))
  aH)
  (aN (bY (ae jQ false (aa 3) (pC (.int 0))))
  (bS (aO 1 (dC (aF (aa 2) (aF (aa 3) aP)))))
  aH))
def gO:dG:=(aA (ao 1 (bO aP))
  (aA (d0 (bL (aa 0)) ck
  bn)
  (aV (aa 1))))
def bD:List PyData→Option Sl:=eJ 1 4 gO
def gT:dG:=(aV (yg (yf (vE (bI cH (ad false (aa 0) am)) (vE (aa 0) AZ)))))
def iG:List PyData→Option Sl:=eJ 1 1 gT
def fL:gI:=(aI 0)
def eC:bE:=(ae aD false (aa 0) (aa 1))
def dr:gI:=(aI 2)
def dv:dG:=(ao 1 (ae aD false (aa 1) (bJ [none,some 2] (bL (aa 1)) fL bV eC)))
def gH:dG:=(aA (ao 1 (bO (aF (pC (.str "")) aP)))
  (aA (d0 (bL (aa 0)) dr
  dv)
  (aV (iF (aa 1)))))
def cE:List PyData→Option Sl:=eJ 1 3 gH
def cS:gI:=(aI 0)
def cc:bE:=(ae (tV false) false (aa 0) (aa 1))
def eD:dG:=(aV (bI xp (ad false (bJ [none,some 1] (bL (aa 0)) cS bV cc) am)))
def cU:List PyData→Option Sl:=eJ 2 2 eD
def cF:gI:=(aI 0)
def bZ:bE:=(ae fF false (aa 0) (pC (.int 0)))
def e8:gI:=(aI 0)
def e9:bE:=(aj cU (ad false (aa 0) (ad false (aa 1) am)))
def dQ:gI:=(aI 0)
def dR:bE:=(aa 0)
def cG:i7:=(bY (ae (tV true) false (ae fF false (aa 0) (pC (.int 0))) (aa 1)))
def dS:gI:=(aI 3)
def dU:dG:=(aN (de (eU (bI xo (ad false (bJ [none,some 3] (jn (aa 2)) e8 bV e9) am))))
  (aN (bY (ae eM false (aj bD (ad false (bJ [none,some 3] (jn (aa 1)) dQ cG dR) am)) (bO aP)))
  (bS (aO 2 (aa 3)))
  aH)
  aH)
def g8:dG:=(aA (ao 1 (aj bD (ad false (aa 0) am)))
  (aA (ao 2 (bO aP))
  (aA (d0 (bL (aj cE (ad false (dI (bJ [none] (bL (aa 0)) cF bV bZ)) am))) dS
  dU)
  (aV (aa 2)))))
def eL:List PyData→Option Sl:=eJ 1 4 g8
def cV:gI:=(gC 2 (c0 (aI 2) (c0 (aI 3) gB)))
def cW:dG:=(aN (hU (de (eU (ig (lz .str) (aa 2)))) (bY (ae jQ false (aa 2) (aa 3))))
  (aV (pC (.bool false)))
  aH)
def fV:dG:=(aA (aN (hU (de (eU (ig (lz .list) (aa 0)))) (bY (ae jQ false (bI cH (ad false (aa 0) am)) (bI cH (ad false (aa 1) am)))))
  (aV (pC (.bool false)))
  aH)
  (aA (d0 (pv (aa 0) (aa 1)) cV
  cW)
  (aV (pC (.bool true)))))
def bQ:List PyData→Option Sl:=eJ 2 4 fV
def p9:dG:=(aA (ao 1 (ae aD false (pC (.int 1)) (ae bw false (aj ar (ad false (aa 0) (ad false (pC (.int 1)) am))) (pC (.int 5)))))
  (aA (aN (bY (ae eM false (ae bw false (ae aM false (aj ar (ad false (aa 0) (ad false (pC (.int 1)) am))) (pC (.int 5))) (pC (.int 8))) (pC (.int 3))))
  (ao 1 (pC (.int 6)))
  aH)
  (aA (aN (bY (ae eM false (ae bw false (ae aM false (aj ar (ad false (aa 0) (ad false (pC (.int 1)) am))) (pC (.int 40))) (pC (.int 16))) (pC (.int 5))))
  (ao 1 (pC (.int 8)))
  aH)
  (aA (ao 2 (aj bG (ad false (aa 0) (ad false (pC (.int 2)) (ad false (aj bP (ad false (aj ar (ad false (aa 0) (ad false (pC (.int 0)) am))) (ad false (aa 1) am))) (ad false (pC (.int 40)) am))))))
  (aA (ao 3 (aj eL (ad false (aa 2) am)))
  (aA (ao 4 (nW (aa 2)))
  (aA (ao 5 (aj ba (ad false (aa 4) am)))
  (aA (aN (hU (de (eU (aj bQ (ad false (aa 5) (ad false (aa 3) am))))) (bY (ae jQ false (aa 4) (aa 2))))
  (aV (pC (.bool false)))
  aH)
  (aA (bS (aO 5 (pC (.str ""))))
  (aV (aj bQ (ad false (aj ba (ad false (aa 4) am)) (ad false (aa 3) am)))))))))))))
def jh:List PyData→Option Sl:=eJ 1 6 p9
end Nhk35
namespace Nhk35
open PySem L2 Nh PL
def jE (i:Nat):Stmt:=PySem.Challenge.pw_nailhang_k35_falling_sets_tried.main.body.getD i (.Pass ⟨0,0,0,0⟩)
section
variable {P:Program} {w:World} {K:PySem.W.Frag} {mg:Str→Option Value} {base:Heap}
abbrev gj:Stmt:=jE 5
theorem rA:FnScope ["thing"] ["thing"] (af gj):=⟨rfl,rfl,rfl,by decide+kernel,rfl,by decide+kernel,by decide+kernel⟩
theorem rB (D:Def K mg "is_nail" gj ["thing"]) (B:Bn mg):Own P w K mg base 1 "is_nail" ["thing"] (ee K fk):=by
  delta fk
  refine fi (g:=iT) D rA rfl rfl (by decide) fun f cdv A outer s H E hr=>?_
  delta iT
  exact (ak (aW (ve (nX .str (by rfl) (by exact B.isinstance) (ab 0) (by rfl) (by exact B.str) PyProof.Rows.boot_str) (ve (yc hr.units (fe (by rfl) (by exact B.len) (ag (ab 0) av)) ah) (zc (AS .le .le jV (ab 0) jV))))))
abbrev dW:Stmt:=jE 6
theorem sc_short_form:FnScope ["cord","runs","nail","turns","total"] ["cord"] (af dW):=⟨rfl,rfl,rfl,by decide+kernel,rfl,by decide+kernel,by decide+kernel⟩
theorem ml (D:Def K mg "short_form" dW ["cord"]) (B:Bn mg):Own P w K mg base 1 "short_form" ["cord"] (ee K di):=by
  delta di
  refine fi (g:=gf) D sc_short_form rfl rfl (by decide) fun f cdv A outer s H E hr=>?_
  delta gf
  exact (ai (aC 1 sc_short_form.nd (eI cn))
  (ai (f_ PassesOwn.never (by rfl) (dH (ab 0)) (by delta aZ;exact (lA (by rfl) (ef (aS 2 sc_short_form.nd) (ef (aS 3 sc_short_form.nd) jm))))
  (by delta a_;exact (ai (aC 4 sc_short_form.nd (ab 3))
  (ai (cO (qN (qM (hW (ab 1)) (nS (gy hr.units (fO (fO (ab 1) (lv ah)) ah) (ab 2)))))
  (ak (aC 4 sc_short_form.nd (aQ (fO (vi 1) ah) (ab 3))))
  bH)
  (ak (cO (mI hr.units (ab 4) ah)
  (ak (gb (fg 1 (i_ (bU (ab 2) (bU (ab 4) cn))))))
  bH))))))
  (ak (aW (ab 1)))))
abbrev gk:Stmt:=jE 7
theorem rC:FnScope ["cord"] ["cord"] (af gk):=⟨rfl,rfl,rfl,by decide+kernel,rfl,by decide+kernel,by decide+kernel⟩
theorem rD (D:Def K mg "is_fall" gk ["cord"]) (B:Bn mg) (D_short_form:Own P w K mg base 1 "short_form" ["cord"] (ee K di)):Own P w K mg base 2 "is_fall" ["cord"] (ee K fm):=by
  delta fm
  refine fi (g:=iU) D rC rfl rfl (by decide) fun f cdv A outer s H E hr=>?_
  delta iU
  exact (ak (aW (yc hr.units (fe (by rfl) (by exact B.len) (ag (aJ D_short_form (hr.mono (by decide)) (by rfl) (ag (ab 0) av)) av)) ah)))
abbrev g9:Stmt:=jE 9
theorem sc_set_of:FnScope ["nails","sign"] ["nails"] (af g9):=⟨rfl,rfl,rfl,by decide+kernel,rfl,by decide+kernel,by decide+kernel⟩
theorem ut (D:Def K mg "set_of" g9 ["nails"]) (B:Bn mg) (D_is_nail:Own P w K mg base 1 "is_nail" ["thing"] (ee K fk)):Own P w K mg base 2 "set_of" ["nails"] (ee K eN):=by
  delta eN
  refine fi (g:=jC) D sc_set_of rfl rfl (by decide) fun f cdv A outer s H E hr=>?_
  delta jC
  exact (ai (cO (iz (hW (nX .str (by rfl) (by exact B.isinstance) (ab 0) (by rfl) (by exact B.str) PyProof.Rows.boot_str)))
  (ak lG)
  bH)
  (ai (f_ PassesOwn.never (by rfl) (dH (ab 0)) (by delta fS;exact (aS 1 sc_set_of.nd))
  (by delta fT;exact (ak (cO (iz (hW (aJ D_is_nail (hr.mono (by decide)) (by rfl) (ag (ab 1) av))))
  (ak lG)
  bH))))
  (ak (aW (sC (jf rfl (by rfl) (by exact B.sorted) (by rfl) (by exact B.set) (ab 0)))))))
abbrev fv:Stmt:=jE 10
theorem p_:FnScope ["cord"] ["cord"] (af fv):=⟨rfl,rfl,rfl,by decide+kernel,rfl,by decide+kernel,by decide+kernel⟩
theorem qa (D:Def K mg "nails_of" fv ["cord"]) (B:Bn mg):Own P w K mg base 1 "nails_of" ["cord"] (ee K cZ):=by
  delta cZ
  refine fi (g:=h7) D p_ rfl rfl (by decide) fun f cdv A outer s H E hr=>?_
  delta h7
  exact (ak (aW (sC (jf rfl (by rfl) (by exact B.sorted) (by rfl) (by exact B.set) (gX (N:=["nail","turns"]) (js:=[none,none]) i5 (by rfl) (dH (ab 0)) (fun _ _ _ _=>(by delta fH;exact (lA (by rfl) (ef (aS 0 (show (["nail","turns"]:List Str).Nodup by decide+kernel)) (ef (aS 1 (show (["nail","turns"]:List Str).Nodup by decide+kernel)) jm))))) (fun _ _ _ _=>(by delta fI;exact (ab 0))))))))
abbrev gm:Stmt:=jE 11
theorem sc_without:FnScope ["cord","nails","drawn"] ["cord","nails"] (af gm):=⟨rfl,rfl,rfl,by decide+kernel,rfl,by decide+kernel,by decide+kernel⟩
theorem rE (D:Def K mg "without" gm ["cord","nails"]) (B:Bn mg) (D_set_of:Own P w K mg base 2 "set_of" ["nails"] (ee K eN)):Own P w K mg base 3 "without" ["cord","nails"] (ee K ft):=by
  delta ft
  refine fi (g:=iV) D sc_without rfl rfl (by decide) fun f cdv A outer s H E hr=>?_
  delta iV
  exact (ai (aC 2 sc_without.nd (aJ D_set_of (hr.mono (by decide)) (by rfl) (ag (ab 1) av)))
  (ak (aW (pk (N:=["piece","drawn"]) (js:=[none,some 2]) fQ (by rfl) (dH (ab 0)) (fun _ _ _ _=>(by delta gg;exact (aS 0 (show (["piece","drawn"]:List Str).Nodup by decide+kernel)))) (fun _ _ _ _=>(by delta dP;exact (vC (fO (ab 0) ah) (ab 1)))) (fun _ _ _ _=>(by delta gh;exact (ab 0)))))))
abbrev cq:Stmt:=jE 12
theorem j_:FnScope ["cord","nails"] ["cord","nails"] (af cq):=⟨rfl,rfl,rfl,by decide+kernel,rfl,by decide+kernel,by decide+kernel⟩
theorem ka (D:Def K mg "falls_without" cq ["cord","nails"]) (B:Bn mg) (D_without:Own P w K mg base 3 "without" ["cord","nails"] (ee K ft)) (D_is_fall:Own P w K mg base 2 "is_fall" ["cord"] (ee K fm)):Own P w K mg base 4 "falls_without" ["cord","nails"] (ee K bM):=by
  delta bM
  refine fi (g:=eF) D j_ rfl rfl (by decide) fun f cdv A outer s H E hr=>?_
  delta eF
  exact (ak (aW (aJ D_is_fall (hr.mono (by decide)) (by rfl) (ag (aJ D_without (hr.mono (by decide)) (by rfl) (ag (ab 0) (ag (ab 1) av))) av))))
abbrev gn:Stmt:=jE 16
theorem sc_bits_of:FnScope ["nails","bits","bit","letter"] ["nails"] (af gn):=⟨rfl,rfl,rfl,by decide+kernel,rfl,by decide+kernel,by decide+kernel⟩
theorem rF (D:Def K mg "bits_of" gn ["nails"]) (B:Bn mg) {t_LETTERS:Tok} (G_LETTERS:mg "LETTERS"=some (.str "abcdefghijklmnopqrstuvwxyz" t_LETTERS)):Own P w K mg base 1 "bits_of" ["nails"] (ee K dJ):=by
  delta dJ
  refine fi (g:=iW) D sc_bits_of rfl rfl (by decide) fun f cdv A outer s H E hr=>?_
  delta iW
  exact (ai (aC 1 sc_bits_of.nd ah)
  (ai (aC 2 sc_bits_of.nd ah)
  (ai (f_ PassesOwn.never (by rfl) (dH (xt (by rfl) (by exact G_LETTERS))) (by delta eY;exact (aS 3 sc_bits_of.nd))
  (by delta eZ;exact (ai (cO (AV (ab 3) (ab 0))
  (ak (aC 1 sc_bits_of.nd (aQ (ab 1) (ab 2))))
  bH)
  (ak (aC 2 sc_bits_of.nd (gP (ab 2) ah))))))
  (ak (aW (ab 1))))))
abbrev cr:Stmt:=jE 17
theorem kb:FnScope ["sets"] ["sets"] (af cr):=⟨rfl,rfl,rfl,by decide+kernel,rfl,by decide+kernel,by decide+kernel⟩
theorem ke {c T:Addr} (D:DefT K mg "in_told_order" cr ["sets"] c T) (B:Bn mg):Own P w K mg base 1 "in_told_order" ["sets"] (ee K be):=by
  delta be
  refine Cb (g:=eG) D kb rfl rfl (by decide) fun f A outer s H E hr=>?_
  delta eG
  exact (ak (aW (vX rfl D.tp D.hd hr (by rfl) (by exact B.sorted) (by exact B.len) (ab 0) (by show (Str.ofString "in_told_order"++Str.ofString ".<locals>.")++Str.ofString "<lambda>"=_;decide+kernel))))
abbrev ce:Stmt:=jE 18
theorem sc_has_part_among:FnScope ["bits","parts","part"] ["bits","parts"] (af ce):=⟨rfl,rfl,rfl,by decide+kernel,rfl,by decide+kernel,by decide+kernel⟩
theorem jF (D:Def K mg "has_part_among" ce ["bits","parts"]) (B:Bn mg):Own P w K mg base 1 "has_part_among" ["bits","parts"] (ee K aL):=by
  delta aL
  refine fi (g:=cQ) D sc_has_part_among rfl rfl (by decide) fun f cdv A outer s H E hr=>?_
  delta cQ
  exact (ai (f_ PassesOwn.never (by rfl) (dH (ab 1)) (by delta bF;exact (aS 2 sc_has_part_among.nd))
  (by delta bg;exact (ak (cO (gy hr.units (xj (ab 2) (ab 0)) (ab 2))
  (ak (aW mH))
  bH))))
  (ak (aW mH)))
abbrev fw:Stmt:=jE 19
theorem sc_least_of:FnScope ["sets","told","kept","nails","bits"] ["sets"] (af fw):=⟨rfl,rfl,rfl,by decide+kernel,rfl,by decide+kernel,by decide+kernel⟩
theorem qc (D:Def K mg "least_of" fw ["sets"]) (B:Bn mg) (D_in_told_order:Own P w K mg base 1 "in_told_order" ["sets"] (ee K be)) (D_bits_of:Own P w K mg base 1 "bits_of" ["nails"] (ee K dJ)) (D_has_part_among:Own P w K mg base 1 "has_part_among" ["bits","parts"] (ee K aL)):Own P w K mg base 2 "least_of" ["sets"] (ee K dL):=by
  delta dL
  refine fi (g:=gE) D sc_least_of rfl rfl (by decide) fun f cdv A outer s H E hr=>?_
  delta gE
  exact (ai (aC 1 sc_least_of.nd (eI cn))
  (ai (aC 2 sc_least_of.nd (eI cn))
  (ai (f_ PassesOwn.never (by rfl) (dH (aJ D_in_told_order (hr.mono (by decide)) (by rfl) (ag (ab 0) av))) (by delta cK;exact (aS 3 sc_least_of.nd))
  (by delta ca;exact (ai (aC 4 sc_least_of.nd (aJ D_bits_of (hr.mono (by decide)) (by rfl) (ag (ab 3) av)))
  (ak (cO (iz (hW (aJ D_has_part_among (hr.mono (by decide)) (by rfl) (ag (ab 4) (ag (ab 2) av)))))
  (ai (gb (fg 2 (ab 4)))
  (ak (gb (fg 1 (ab 3)))))
  bH)))))
  (ak (aW (ab 1))))))
abbrev fz:Stmt:=jE 20
theorem sc_all_sets:FnScope ["nails","sets","nail"] ["nails"] (af fz):=⟨rfl,rfl,rfl,by decide+kernel,rfl,by decide+kernel,by decide+kernel⟩
theorem qd (D:Def K mg "all_sets" fz ["nails"]) (B:Bn mg):Own P w K mg base 1 "all_sets" ["nails"] (ee K cA):=by
  delta cA
  refine fi (g:=gG) D sc_all_sets rfl rfl (by decide) fun f cdv A outer s H E hr=>?_
  delta gG
  exact (ai (aC 1 sc_all_sets.nd (eI (bU jV cn)))
  (ai (f_ PassesOwn.never (by rfl) (dH (ab 0)) (by delta dl;exact (aS 2 sc_all_sets.nd))
  (by delta dm;exact (ak (aC 1 sc_all_sets.nd (aQ (ab 1) (gX (N:=["chosen","nail"]) (js:=[none,some 2]) fQ (by rfl) (dH (ab 1)) (fun _ _ _ _=>(by delta fJ;exact (aS 0 (show (["chosen","nail"]:List Str).Nodup by decide+kernel)))) (fun _ _ _ _=>(by delta em;exact (aQ (ab 0) (ab 1))))))))))
  (ak (aW (ab 1)))))
abbrev dX:Stmt:=jE 21
theorem mn:FnScope ["nails"] ["nails"] (af dX):=⟨rfl,rfl,rfl,by decide+kernel,rfl,by decide+kernel,by decide+kernel⟩
theorem mo (D:Def K mg "check_many" dX ["nails"]) (B:Bn mg) {t_MOST_NAILS:Tok} (G_MOST_NAILS:mg "MOST_NAILS"=some (.int 10 t_MOST_NAILS)):Own P w K mg base 1 "check_many" ["nails"] (ee K cL):=by
  delta cL
  refine fi (g:=gi) D mn rfl rfl (by decide) fun f cdv A outer s H E hr=>?_
  delta gi
  exact (ak (cO (vz .gt (fe (by rfl) (by exact B.len) (ag (ab 0) av)) (xr (by rfl) (by exact G_MOST_NAILS)))
  (ak lG)
  bH))
abbrev cX:Stmt:=jE 23
theorem sc_falling_sets:FnScope ["cord","nails"] ["cord"] (af cX):=⟨rfl,rfl,rfl,by decide+kernel,rfl,by decide+kernel,by decide+kernel⟩
theorem kJ (D:Def K mg "falling_sets" cX ["cord"]) (B:Bn mg) (D_nails_of:Own P w K mg base 1 "nails_of" ["cord"] (ee K cZ)) (D_check_many:Own P w K mg base 1 "check_many" ["nails"] (ee K cL)) (D_all_sets:Own P w K mg base 1 "all_sets" ["nails"] (ee K cA)) (D_falls_without:Own P w K mg base 4 "falls_without" ["cord","nails"] (ee K bM)) (D_least_of:Own P w K mg base 2 "least_of" ["sets"] (ee K dL)):Own P w K mg base 5 "falling_sets" ["cord"] (ee K ba):=by
  delta ba
  refine fi (g:=dN) D sc_falling_sets rfl rfl (by decide) fun f cdv A outer s H E hr=>?_
  delta dN
  exact (ai (aC 1 sc_falling_sets.nd (aJ D_nails_of (hr.mono (by decide)) (by rfl) (ag (ab 0) av)))
  (ai (gb (aJ D_check_many (hr.mono (by decide)) (by rfl) (ag (ab 1) av)))
  (ak (aW (aJ D_least_of (hr.mono (by decide)) (by rfl) (ag (pk (N:=["chosen","cord"]) (js:=[none,some 0]) fQ (by rfl) (dH (aJ D_all_sets (hr.mono (by decide)) (by rfl) (ag (ab 1) av))) (fun _ _ _ _=>(by delta cB;exact (aS 0 (show (["chosen","cord"]:List Str).Nodup by decide+kernel)))) (fun _ _ _ _=>(by delta bW;exact (hW (aJ D_falls_without (hr.mono (by decide)) (by rfl) (ag (ab 1) (ag (ab 0) av)))))) (fun _ _ _ _=>(by delta cC;exact (ab 0)))) av))))))
abbrev g_:Stmt:=jE 25
theorem uu:FnScope ["_law_script","_law_k"] ["_law_script","_law_k"] (af g_):=⟨rfl,rfl,rfl,by decide+kernel,rfl,by decide+kernel,by decide+kernel⟩
theorem uv (D:Def K mg "_law_at" g_ ["_law_script","_law_k"]) (B:Bn mg):Own P w K mg base 1 "_law_at" ["_law_script","_law_k"] (ee K ar):=by
  delta ar
  refine fi (g:=jD) D uu rfl rfl (by decide) fun f cdv A outer s H E hr=>?_
  delta jD
  exact (ai (cO (vz .lt (ab 1) (fe (by rfl) (by exact B.len) (ag (ab 0) av)))
  (ak (aW (fO (ab 0) (ab 1))))
  bH)
  (ak (aW ah)))
abbrev fA:Stmt:=jE 26
theorem sc_law_stir:FnScope ["_law_cell","_law_k","_law_value"] ["_law_cell","_law_k"] (af fA):=⟨rfl,rfl,rfl,by decide+kernel,rfl,by decide+kernel,by decide+kernel⟩
theorem qe (D:Def K mg "_law_stir" fA ["_law_cell","_law_k"]) (B:Bn mg):Own P w K mg base 1 "_law_stir" ["_law_cell","_law_k"] (ee K bi):=by
  delta bi
  refine fi (g:=h8) D sc_law_stir rfl rfl (by decide) fun f cdv A outer s H E hr=>?_
  delta h8
  exact (ai (aC 2 sc_law_stir.nd (cg (aQ (aQ (aQ (cg (ab 0) ah) (gP ah (ab 1))) (gP (ab 1) (ab 1))) ah) ah))
  (ai (aC 2 sc_law_stir.nd (cg (gP (ab 2) (ab 2)) ah))
  (ak (aW (cN (cg (aQ (gP (ab 2) ah) (gP ah (ab 1))) ah) ah)))))
abbrev eP:Stmt:=jE 27
theorem sc_law_nails:FnScope ["_law_cell","_law_many","_law_letters","_law_step"] ["_law_cell","_law_many"] (af eP):=⟨rfl,rfl,rfl,by decide+kernel,rfl,by decide+kernel,by decide+kernel⟩
theorem oo (D:Def K mg "_law_nails" eP ["_law_cell","_law_many"]) (B:Bn mg):Own P w K mg base 1 "_law_nails" ["_law_cell","_law_many"] (ee K bP):=by
  delta bP
  refine fi (g:=gN) D sc_law_nails rfl rfl (by decide) fun f cdv A outer s H E hr=>?_
  refine qP 1 [1,3,5,7,9,11,15,17,19,21,23,25] rfl rfl fun es hes=>?_
  delta gN
  exact (ai (aC 2 sc_law_nails.nd jV)
  (ai (aC 3 sc_law_nails.nd (fO (eI (sx hes)) (cg (cN (ab 0) ah) ah)))
  (ak (aW (gX (N:=["_law_k","_law_letters","_law_cell","_law_step"]) (js:=[none,some 2,some 0,some 3]) fQ (by rfl) (mK (by rfl) (by exact B.range) (ag (ab 1) av)) (fun _ _ _ _=>(by delta dO;exact (aS 0 (show (["_law_k","_law_letters","_law_cell","_law_step"]:List Str).Nodup by decide+kernel)))) (fun _ _ _ _=>(by delta cR;exact (fO (ab 1) (cg (aQ (ab 2) (gP (ab 0) (ab 3))) ah)))))))))
abbrev fB:Stmt:=jE 28
theorem sc_law_back:FnScope ["_law_cord_here","_law_found"] ["_law_cord_here"] (af fB):=⟨rfl,rfl,rfl,by decide+kernel,rfl,by decide+kernel,by decide+kernel⟩
theorem qf (D:Def K mg "_law_back" fB ["_law_cord_here"]) (B:Bn mg):Own P w K mg base 1 "_law_back" ["_law_cord_here"] (ee K aG):=by
  delta aG
  refine fi (g:=h9) D sc_law_back rfl rfl (by decide) fun f cdv A outer s H E hr=>?_
  delta h9
  exact (ai (vn 1 sc_law_back.nd (N:=["_law_nail","_law_turns_here"]) (js:=[none,none]) i5 (by rfl) (dH (ab 0)) (fun _ _ _ _=>(by delta fK;exact (lA (by rfl) (ef (aS 0 (show (["_law_nail","_law_turns_here"]:List Str).Nodup by decide+kernel)) (ef (aS 1 (show (["_law_nail","_law_turns_here"]:List Str).Nodup by decide+kernel)) jm))))) (fun _ _ _ _=>(by delta eB;exact (i_ (bU (ab 0) (bU (jW ah (ab 1)) cn))))))
  (ai (gb (qU 1))
  (ak (aW (ab 1)))))
abbrev eQ:Stmt:=jE 29
theorem oq:FnScope ["_law_cell"] ["_law_cell"] (af eQ):=⟨rfl,rfl,rfl,by decide+kernel,rfl,by decide+kernel,by decide+kernel⟩
theorem ou (D:Def K mg "_law_turns" eQ ["_law_cell"]) (B:Bn mg):Own P w K mg base 1 "_law_turns" ["_law_cell"] (ee K bq):=by
  delta bq
  refine fi (g:=eO) D oq rfl rfl (by decide) fun f cdv A outer s H E hr=>?_
  delta eO
  exact (ai (cO (gy hr.units (cg (ab 0) ah) ah)
  (ak (aW (jW (cg (cN (ab 0) ah) (gP ah (i9 ah ah))) (i9 ah ah))))
  bH)
  (ak (aW (aQ (jW (cg (ab 0) ah) ah) (xl (by rfl) (by exact B.int) (ag (AR .gt (cg (ab 0) ah) ah) av))))))
abbrev cu:Stmt:=jE 30
theorem sc_law_by_digits:FnScope ["_law_cell","_law_some","_law_most","_law_cord_here","_law_rest","_law_k","_law_nail","_law_turns_here"] ["_law_cell","_law_some","_law_most"] (af cu):=⟨rfl,rfl,rfl,by decide+kernel,rfl,by decide+kernel,by decide+kernel⟩
theorem kf (D:Def K mg "_law_by_digits" cu ["_law_cell","_law_some","_law_most"]) (B:Bn mg):Own P w K mg base 1 "_law_by_digits" ["_law_cell","_law_some","_law_most"] (ee K bu):=by
  delta bu
  refine fi (g:=eH) D sc_law_by_digits rfl rfl (by decide) fun f cdv A outer s H E hr=>?_
  delta eH
  exact (ai (aC 3 sc_law_by_digits.nd (eI cn))
  (ai (aC 4 sc_law_by_digits.nd (cN (ab 0) (aQ (ab 2) ah)))
  (ai (f_ PassesOwn.never (by rfl) (mK (by rfl) (by exact B.range) (ag (cg (ab 0) (aQ (ab 2) ah)) av)) (by delta aX;exact (aS 5 sc_law_by_digits.nd))
  (by delta aY;exact (ai (aC 6 sc_law_by_digits.nd (fO (ab 1) (cg (ab 4) (fe (by rfl) (by exact B.len) (ag (ab 1) av)))))
  (ai (aC 4 sc_law_by_digits.nd (cN (ab 4) (fe (by rfl) (by exact B.len) (ag (ab 1) av))))
  (ai (aC 7 sc_law_by_digits.nd (jW (cg (ab 4) ah) ah))
  (ai (aC 4 sc_law_by_digits.nd (cN (ab 4) ah))
  (ai (cO (qN (qM (gy hr.units (ab 7) (lv ah)) (nS (gy hr.units (cg (ab 4) ah) ah))))
  (ai (aC 7 sc_law_by_digits.nd (jW (cg (cN (ab 4) ah) (gP ah (i9 ah ah))) (i9 ah ah)))
  (ak (aC 4 sc_law_by_digits.nd (cN (ab 4) (gP ah (i9 ah ah))))))
  (ak (cO (gy hr.units (ab 7) (lv ah))
  (ak (aC 4 sc_law_by_digits.nd (cN (ab 4) ah)))
  bH)))
  (ak (gb (fg 3 (i_ (bU (ab 6) (bU (ab 7) cn)))))))))))))
  (ak (aW (ab 3))))))
abbrev eR:Stmt:=jE 31
theorem sc_law_built:FnScope ["_law_script","_law_first","_law_some","_law_most","_law_cord_here","_law_k","_law_cell","_law_piece","_law_other","_law_way","_law_at_here"] ["_law_script","_law_first","_law_some","_law_most"] (af eR):=⟨rfl,rfl,rfl,by decide+kernel,rfl,by decide+kernel,by decide+kernel⟩
theorem ov (D:Def K mg "_law_built" eR ["_law_script","_law_first","_law_some","_law_most"]) (B:Bn mg) (D_law_at:Own P w K mg base 1 "_law_at" ["_law_script","_law_k"] (ee K ar)) (D_law_stir:Own P w K mg base 1 "_law_stir" ["_law_cell","_law_k"] (ee K bi)) (D_law_turns:Own P w K mg base 1 "_law_turns" ["_law_cell"] (ee K bq)) (D_law_back:Own P w K mg base 1 "_law_back" ["_law_cord_here"] (ee K aG)):Own P w K mg base 2 "_law_built" ["_law_script","_law_first","_law_some","_law_most"] (ee K cD):=by
  delta cD
  refine fi (g:=fU) D sc_law_built rfl rfl (by decide) fun f cdv A outer s H E hr=>?_
  delta fU
  exact (ai (aC 4 sc_law_built.nd (eI cn))
  (ai (f_ PassesOwn.never (by rfl) (tQ (by rfl) (by exact B.range) (ag (ab 1) (ag (aQ (ab 1) ah) av))) (by delta bB;exact (aS 5 sc_law_built.nd))
  (by delta bC;exact (ai (aC 6 sc_law_built.nd (aJ D_law_stir (hr.mono (by decide)) (by rfl) (ag (aQ (aJ D_law_at (hr.mono (by decide)) (by rfl) (ag (ab 0) (ag (ab 5) av))) (ab 5)) (ag (ab 5) av))))
  (ai (aC 7 sc_law_built.nd (eI (bU (i_ (bU (fO (ab 2) (cg (cN (ab 6) ah) (fe (by rfl) (by exact B.len) (ag (ab 2) av)))) (bU (aJ D_law_turns (hr.mono (by decide)) (by rfl) (ag (aJ D_law_stir (hr.mono (by decide)) (by rfl) (ag (aJ D_law_at (hr.mono (by decide)) (by rfl) (ag (ab 0) (ag (ab 5) av))) (ag (aQ ah (ab 5)) av))) av)) cn))) cn)))
  (ai (aC 8 sc_law_built.nd (eI (bU (i_ (bU (fO (ab 2) (cg (cN (ab 6) ah) (fe (by rfl) (by exact B.len) (ag (ab 2) av)))) (bU (aQ ah (cg (cN (ab 6) ah) ah)) cn))) cn)))
  (ai (aC 9 sc_law_built.nd (cg (ab 6) ah))
  (ai (cO (vz .gt (fe (by rfl) (by exact B.len) (ag (ab 4) av)) (jW (cN (ab 3) ah) ah))
  (ak (aC 9 sc_law_built.nd ah))
  bH)
  (ak (cO (qN (sr (gy hr.units (ab 9) ah) (nT (gy hr.units (ab 9) ah))))
  (ak (aC 4 sc_law_built.nd (aQ (aQ (aQ (ab 4) (ab 7)) (aJ D_law_back (hr.mono (by decide)) (by rfl) (ag (ab 4) av))) (aJ D_law_back (hr.mono (by decide)) (by rfl) (ag (ab 7) av)))))
  (ak (cO (gy hr.units (ab 9) ah)
  (ak (aC 4 sc_law_built.nd (aQ (aQ (ab 7) (ab 4)) (aJ D_law_back (hr.mono (by decide)) (by rfl) (ag (ab 7) av)))))
  (ak (cO (gy hr.units (ab 9) ah)
  (ai (aC 10 sc_law_built.nd (cg (cN (ab 6) ah) (aQ (fe (by rfl) (by exact B.len) (ag (ab 4) av)) ah)))
  (ak (aC 4 sc_law_built.nd (aQ (aQ (aQ (aQ (qT (ab 4) nU (nV (ab 10))) (ab 8)) (eI (bU (i_ (bU (fO (fO (ab 7) ah) ah) (bU ah cn))) cn))) (aJ D_law_back (hr.mono (by decide)) (by rfl) (ag (ab 8) av))) (qT (ab 4) (nV (ab 10)) nU)))))
  (ak (cO (gy hr.units (ab 9) ah)
  (ak (aC 4 sc_law_built.nd (aQ (aQ (aQ (aQ (ab 4) (ab 8)) (ab 7)) (aJ D_law_back (hr.mono (by decide)) (by rfl) (ag (ab 8) av))) (aJ D_law_back (hr.mono (by decide)) (by rfl) (ag (ab 7) av)))))
  (ak (aC 4 sc_law_built.nd (aQ (ab 4) (ab 7)))))))))))))))))))
  (ak (aW (qT (ab 4) nU (nV (ab 3)))))))
abbrev fD:Stmt:=jE 32
theorem sc_law_cord:FnScope ["_law_script","_law_first","_law_some","_law_most","_law_cell"] ["_law_script","_law_first","_law_some","_law_most"] (af fD):=⟨rfl,rfl,rfl,by decide+kernel,rfl,by decide+kernel,by decide+kernel⟩
theorem qg (D:Def K mg "_law_cord" fD ["_law_script","_law_first","_law_some","_law_most"]) (B:Bn mg) (D_law_at:Own P w K mg base 1 "_law_at" ["_law_script","_law_k"] (ee K ar)) (D_law_by_digits:Own P w K mg base 1 "_law_by_digits" ["_law_cell","_law_some","_law_most"] (ee K bu)) (D_law_built:Own P w K mg base 2 "_law_built" ["_law_script","_law_first","_law_some","_law_most"] (ee K cD)):Own P w K mg base 3 "_law_cord" ["_law_script","_law_first","_law_some","_law_most"] (ee K bG):=by
  delta bG
  refine fi (g:=fu) D sc_law_cord rfl rfl (by decide) fun f cdv A outer s H E hr=>?_
  delta fu
  exact (ai (aC 4 sc_law_cord.nd (aJ D_law_at (hr.mono (by decide)) (by rfl) (ag (ab 0) (ag (ab 1) av))))
  (ai (cO (iz (AT .lt .lt (lv (i9 ah ah)) (ab 4) (i9 ah ah)))
  (ak (aW (aJ D_law_by_digits (hr.mono (by decide)) (by rfl) (ag (ab 4) (ag (ab 2) (ag (ab 3) av))))))
  bH)
  (ak (aW (aJ D_law_built (hr.mono (by decide)) (by rfl) (ag (ab 0) (ag (aQ (ab 1) ah) (ag (ab 2) (ag (ab 3) av)))))))))
abbrev eS:Stmt:=jE 33
theorem sc_law_short:FnScope ["_law_cord_here","_law_runs","_law_nail","_law_turns_here"] ["_law_cord_here"] (af eS):=⟨rfl,rfl,rfl,by decide+kernel,rfl,by decide+kernel,by decide+kernel⟩
theorem oz (D:Def K mg "_law_short" eS ["_law_cord_here"]) (B:Bn mg):Own P w K mg base 1 "_law_short" ["_law_cord_here"] (ee K bD):=by
  delta bD
  refine fi (g:=gO) D sc_law_short rfl rfl (by decide) fun f cdv A outer s H E hr=>?_
  delta gO
  exact (ai (aC 1 sc_law_short.nd (eI cn))
  (ai (f_ PassesOwn.never (by rfl) (dH (ab 0)) (by delta ck;exact (lA (by rfl) (ef (aS 2 sc_law_short.nd) (ef (aS 3 sc_law_short.nd) jm))))
  (by delta bn;exact (ai (cO (qN (qM (mI hr.units (ab 1) (eI cn)) (nS (gy hr.units (fO (fO (ab 1) (lv ah)) ah) (ab 2)))))
  (ak (aC 3 sc_law_short.nd (aQ (ab 3) (fO (vi 1) ah))))
  bH)
  (ak (cO (mI hr.units (ab 3) ah)
  (ak (gb (fg 1 (i_ (bU (ab 2) (bU (ab 3) cn))))))
  bH)))))
  (ak (aW (ab 1)))))
abbrev cM:Stmt:=jE 34
theorem lQ:FnScope ["_law_one"] ["_law_one"] (af cM):=⟨rfl,rfl,rfl,by decide+kernel,rfl,by decide+kernel,by decide+kernel⟩
theorem lR (D:Def K mg "_law_by_size" cM ["_law_one"]) (B:Bn mg):Own P w K mg base 1 "_law_by_size" ["_law_one"] (ee K iG):=by
  delta iG
  refine fi (g:=gT) D lQ rfl rfl (by decide) fun f cdv A outer s H E hr=>?_
  delta gT
  exact (ak (aW (xn (xm (sD (fe (by rfl) (by exact B.len) (ag (ab 0) av)) (sD (ab 0) zw))))))
abbrev fE:Stmt:=jE 35
theorem sc_law_sets:FnScope ["_law_names","_law_found","_law_nail"] ["_law_names"] (af fE):=⟨rfl,rfl,rfl,by decide+kernel,rfl,by decide+kernel,by decide+kernel⟩
theorem qh (D:Def K mg "_law_sets" fE ["_law_names"]) (B:Bn mg) (D_law_by_size:Def K mg "_law_by_size" cM ["_law_one"]):Own P w K mg base 2 "_law_sets" ["_law_names"] (ee K cE):=by
  delta cE
  refine fi (g:=gH) D sc_law_sets rfl rfl (by decide) fun f cdv A outer s H E hr=>?_
  delta gH
  exact (ai (aC 1 sc_law_sets.nd (eI (bU jV cn)))
  (ai (f_ PassesOwn.never (by rfl) (dH (ab 0)) (by delta dr;exact (aS 2 sc_law_sets.nd))
  (by delta dv;exact (ak (aC 1 sc_law_sets.nd (aQ (ab 1) (gX (N:=["_law_one","_law_nail"]) (js:=[none,some 2]) fQ (by rfl) (dH (ab 1)) (fun _ _ _ _=>(by delta fL;exact (aS 0 (show (["_law_one","_law_nail"]:List Str).Nodup by decide+kernel)))) (fun _ _ _ _=>(by delta eC;exact (aQ (ab 0) (ab 1))))))))))
  (ak (aW (vW D_law_by_size hr (by rfl) (by exact B.sorted) (by exact B.len) (by rfl) (ab 1))))))
abbrev dw:Stmt:=jE 36
theorem lS:FnScope ["_law_one","_law_other"] ["_law_one","_law_other"] (af dw):=⟨rfl,rfl,rfl,by decide+kernel,rfl,by decide+kernel,by decide+kernel⟩
theorem lT (D:Def K mg "_law_is_part" dw ["_law_one","_law_other"]) (B:Bn mg):Own P w K mg base 1 "_law_is_part" ["_law_one","_law_other"] (ee K cU):=by
  delta cU
  refine fi (g:=eD) D lS rfl rfl (by decide) fun f cdv A outer s H E hr=>?_
  delta eD
  exact (ak (aW (zA (by rfl) (by rfl) (by exact B.all) (ag (gX (N:=["_law_nail","_law_other"]) (js:=[none,some 1]) fQ (by rfl) (dH (ab 0)) (fun _ _ _ _=>(by delta cS;exact (aS 0 (show (["_law_nail","_law_other"]:List Str).Nodup by decide+kernel)))) (fun _ _ _ _=>(by delta cc;exact (AU (ab 0) (ab 1))))) av))))
abbrev gq:Stmt:=jE 37
theorem sc_law_due:FnScope ["_law_cord_here","_law_runs","_law_found","_law_out"] ["_law_cord_here"] (af gq):=⟨rfl,rfl,rfl,by decide+kernel,rfl,by decide+kernel,by decide+kernel⟩
theorem rG (D:Def K mg "_law_due" gq ["_law_cord_here"]) (B:Bn mg) (D_law_short:Own P w K mg base 1 "_law_short" ["_law_cord_here"] (ee K bD)) (D_law_sets:Own P w K mg base 2 "_law_sets" ["_law_names"] (ee K cE)) (D_law_is_part:Own P w K mg base 1 "_law_is_part" ["_law_one","_law_other"] (ee K cU)):Own P w K mg base 3 "_law_due" ["_law_cord_here"] (ee K eL):=by
  delta eL
  refine fi (g:=g8) D sc_law_due rfl rfl (by decide) fun f cdv A outer s H E hr=>?_
  delta g8
  exact (ai (aC 1 sc_law_due.nd (aJ D_law_short (hr.mono (by decide)) (by rfl) (ag (ab 0) av)))
  (ai (aC 2 sc_law_due.nd (eI cn))
  (ai (f_ PassesOwn.never (by rfl) (dH (aJ D_law_sets (hr.mono (by decide)) (by rfl) (ag (jf rfl (by rfl) (by exact B.sorted) (by rfl) (by exact B.set) (gX (N:=["_law_piece"]) (js:=[none]) i5 (by rfl) (dH (ab 0)) (fun _ _ _ _=>(by delta cF;exact (aS 0 (show (["_law_piece"]:List Str).Nodup by decide+kernel)))) (fun _ _ _ _=>(by delta bZ;exact (fO (ab 0) ah))))) av))) (by delta dS;exact (aS 3 sc_law_due.nd))
  (by delta dU;exact (ak (cO (iz (hW (zz (by rfl) (by rfl) (by exact B.any) (ag (tR (N:=["_law_one","_law_out"]) (js:=[none,some 3]) fQ (by rfl) (sw (ab 2)) (fun _ _ _ _=>(by delta e8;exact (aS 0 (show (["_law_one","_law_out"]:List Str).Nodup by decide+kernel)))) (fun _ _ _ _=>(by delta e9;exact (aJ D_law_is_part (hr.mono (by decide)) (by rfl) (ag (ab 0) (ag (ab 1) av)))))) av))))
  (ak (cO (gy hr.units (aJ D_law_short (hr.mono (by decide)) (by rfl) (ag (tS (N:=["_law_piece","_law_out"]) (js:=[none,some 3]) fQ (by rfl) (sw (ab 1)) (fun _ _ _ _=>(by delta dQ;exact (aS 0 (show (["_law_piece","_law_out"]:List Str).Nodup by decide+kernel)))) (fun _ _ _ _=>(by delta cG;exact (vC (fO (ab 0) ah) (ab 1)))) (fun _ _ _ _=>(by delta dR;exact (ab 0)))) av)) (eI cn))
  (ak (gb (fg 2 (ab 3))))
  bH))
  bH))))
  (ak (aW (ab 2))))))
abbrev eT:Stmt:=jE 38
theorem sc_law_right:FnScope ["_law_found","_law_due_here","_law_one","_law_other"] ["_law_found","_law_due_here"] (af eT):=⟨rfl,rfl,rfl,by decide+kernel,rfl,by decide+kernel,by decide+kernel⟩
theorem oA (D:Def K mg "_law_right" eT ["_law_found","_law_due_here"]) (B:Bn mg):Own P w K mg base 1 "_law_right" ["_law_found","_law_due_here"] (ee K bQ):=by
  delta bQ
  refine fi (g:=fV) D sc_law_right rfl rfl (by decide) fun f cdv A outer s H E hr=>?_
  delta fV
  exact (ai (cO (qN (sr (iz (hW (nX .list (by rfl) (by exact B.isinstance) (ab 0) (by rfl) (by exact B.list) PyProof.Rows.boot_list))) (nT (mI hr.units (fe (by rfl) (by exact B.len) (ag (ab 0) av)) (fe (by rfl) (by exact B.len) (ag (ab 1) av))))))
  (ak (aW mH))
  bH)
  (ai (f_ PassesOwn.never (by rfl) (zr (by rfl) (by exact B.zip) (ab 0) (ab 1)) (by delta cV;exact (lA (by rfl) (ef (aS 2 sc_law_right.nd) (ef (aS 3 sc_law_right.nd) jm))))
  (by delta cW;exact (ak (cO (qN (sr (iz (hW (nX .str (by rfl) (by exact B.isinstance) (ab 2) (by rfl) (by exact B.str) PyProof.Rows.boot_str))) (nT (mI hr.units (ab 2) (ab 3)))))
  (ak (aW mH))
  bH))))
  (ak (aW mH))))
abbrev jG:Stmt:=jE 39
theorem sc_law:FnScope ["_law_script","_law_many","_law_cord_here","_law_due_here","_law_handed","_law_found"] ["_law_script"] (af jG):=⟨rfl,rfl,rfl,by decide+kernel,rfl,by decide+kernel,by decide+kernel⟩
theorem zI {f0:Addr} {fd:FuncData} (D:Fun K "law" "law" jG f0 fd) (B:Bn mg) (D_law_at:Own P w K mg base 1 "_law_at" ["_law_script","_law_k"] (ee K ar)) (D_law_nails:Own P w K mg base 1 "_law_nails" ["_law_cell","_law_many"] (ee K bP)) (D_law_cord:Own P w K mg base 3 "_law_cord" ["_law_script","_law_first","_law_some","_law_most"] (ee K bG)) (D_law_due:Own P w K mg base 3 "_law_due" ["_law_cord_here"] (ee K eL)) (D_falling_sets:Own P w K mg base 5 "falling_sets" ["cord"] (ee K ba)) (D_law_right:Own P w K mg base 1 "_law_right" ["_law_found","_law_due_here"] (ee K bQ)):FnOk P w K mg base tL 6 f0 fd ["_law_script"] (ee K jh):=by
  delta jh
  refine Cv (g:=p9) D sc_law rfl rfl (by decide) fun cdv A outer s H E hr=>?_
  delta p9
  exact (ai (aC 1 sc_law.nd (aQ ah (cg (aJ D_law_at (hr.mono (by decide)) (by rfl) (ag (ab 0) (ag ah av))) ah)))
  (ai (cO (gy hr.units (cg (cN (aJ D_law_at (hr.mono (by decide)) (by rfl) (ag (ab 0) (ag ah av))) ah) ah) ah)
  (ak (aC 1 sc_law.nd ah))
  bH)
  (ai (cO (gy hr.units (cg (cN (aJ D_law_at (hr.mono (by decide)) (by rfl) (ag (ab 0) (ag ah av))) ah) ah) ah)
  (ak (aC 1 sc_law.nd ah))
  bH)
  (ai (aC 2 sc_law.nd (aJ D_law_cord (hr.mono (by decide)) (by rfl) (ag (ab 0) (ag ah (ag (aJ D_law_nails (hr.mono (by decide)) (by rfl) (ag (aJ D_law_at (hr.mono (by decide)) (by rfl) (ag (ab 0) (ag ah av))) (ag (ab 1) av))) (ag ah av))))))
  (ai (aC 3 sc_law.nd (aJ D_law_due (hr.mono (by decide)) (by rfl) (ag (ab 2) av)))
  (ai (aC 4 sc_law.nd (xh (by rfl) (by exact B.list) (ab 2)))
  (ai (aC 5 sc_law.nd (aJ D_falling_sets (hr.mono (by decide)) (by rfl) (ag (ab 4) av)))
  (ai (cO (qN (sr (iz (hW (aJ D_law_right (hr.mono (by decide)) (by rfl) (ag (ab 5) (ag (ab 3) av))))) (nT (mI hr.units (ab 4) (ab 2)))))
  (ak (aW mH))
  bH)
  (ai (gb (fg 5 jV))
  (ak (aW (aJ D_law_right (hr.mono (by decide)) (by rfl) (ag (aJ D_falling_sets (hr.mono (by decide)) (by rfl) (ag (ab 4) av)) (ag (ab 3) av))))))))))))))
end
end Nhk35
namespace Nhk35
open PySem L2 Nh PL
theorem iX (ns:List Int) (k:Nat):ar [.list (ns.map .int), .int k]=some (.sh (.int (ns.getD k 0))):=by
  simp only [ar,eJ,List.length_cons,List.length_nil,Nat.zero_add,Nat.reduceAdd,fP,jD,aA,aN,bY,ae,aa,bj,List.map_cons,List.map_nil,Nat.sub_self,List.replicate,List.cons_append,List.nil_append,List.getElem?_cons_succ,List.getElem?_cons_zero,Sl.isBr,Bool.false_and,Bool.false_eq_true,bI,ad,am,Option.map_some,if_false,cH,dh,look,Sl.val,eX,Cm.i,Cm.s,Option.bind_some,bb,aV,fF,dZ,cb,aH,pC,cI,bN,if_true]
  by_cases h:k < ns.length
  · simp [h,gY,cY]
  · simp [h,List.getElem?_eq_none (Nat.le_of_not_lt h),cY]
theorem aR {f g:dG} {E E1:List Sl} (h:f E=some (E1, .nx)):aA f g E=g E1:=by
  unfold aA
  rw [h]
  rfl
theorem jH {c:i7} {a b:dG} {E E1:List Sl} {r:Option (List Sl×Fl)} (h:c E=some (false,E1)) (k:b E1=r):aN c a b E=r:=by
  unfold aN
  rw [h,←k]
  rfl
theorem kh {c:i7} {a b:dG} {E E1:List Sl} {r:Option (List Sl×Fl)} (h:c E=some (true,E1)) (k:a E1=r):aN c a b E=r:=by
  unfold aN
  rw [h,←k]
  rfl
theorem kR {tg:gI} {elt:bE} {d r:PyData} {ds rs:List PyData} {E E1:List Sl} (t:tg d E=some E1) (el:elt E1=some (.sh r,E1)) (h:cm tg bV elt ds E1=some rs):cm tg bV elt (d::ds) E=some (r::rs):=by
  rw [cm,t,Option.bind_some]
  simp only [bV,Option.bind_some,el,frz,h,Option.map_some,if_true]
theorem xF (cell k:Int) (a:∀i:Int,fN i k=true) (b:∀i j:Int,fN (i % 2147483629) j=true) (c:∀i j:Int,fN (i % 2147483587) j=true):∃z:Int,bi [.int cell, .int k]=some (.sh (.int z)):=by
  have d1:fb 13=true:=by decide
  simp only [bi,eJ,List.length_cons,List.length_nil,Nat.zero_add,Nat.reduceAdd,fP,h8,aA,ao,ae,aa,bj,List.map_cons,List.map_nil,Nat.reduceSub,List.replicate,List.cons_append,List.nil_append,List.getElem?_cons_zero,Sl.isBr,Bool.false_and,Bool.false_eq_true,pC,bw,dh,look,Sl.val,ix,Option.bind_some,if_false,Int.reduceLT,decide_true,if_true,Option.map_some,gv,dZ,cb,Bool.not_false,Bool.true_or,Bool.and_true,aD,List.getElem?_cons_succ,a,PL.settle,frz,frzAll,Nat.reduceLT,List.set_cons_succ,List.set_cons_zero,aV,aM,b,c,d1,cI,bN,cY]
  exact ⟨_,rfl⟩
theorem kD (cell k:Int) (h1: -100000≤k) (h2:k≤100000):∃z:Int,bi [.int cell, .int k]=some (.sh (.int z)):=by
  refine xF cell k (fun i=>n_ (by lia) (by lia)) (fun i j=>?_) (fun i j=>?_)
  · have m0:=Int.emod_nonneg i (show (2147483629:Int)≠0 by decide)
    have m1:=Int.emod_lt_of_pos i (show (0:Int) < 2147483629 by decide)
    exact jz (by lia) (by lia)
  · have m0:=Int.emod_nonneg i (show (2147483587:Int)≠0 by decide)
    have m1:=Int.emod_lt_of_pos i (show (0:Int) < 2147483587 by decide)
    exact jz (by lia) (by lia)
def fc (a:Nat):PyData:= .str ⟨#[a]⟩
theorem jI:∀w:List Nat,bx (w.map fc)=true
  | []=>rfl
  | a::w=>by simp [bx,cY,jI w,fc]
theorem v6 (cell step k:Int) (m:fN k step=true):cR [.sh (.int k), .sh (.str "abcdefghijklmnopqrstuvwxyz"), .sh (.int cell), .sh (.int step)]=some (.sh (fc (97+((cell+k*step) % 26).toNat)),[.sh (.int k), .sh (.str "abcdefghijklmnopqrstuvwxyz"), .sh (.int cell), .sh (.int step)]):=by
  simp only [cR,ae,aa,List.getElem?_cons_succ,List.getElem?_cons_zero,Sl.isBr,Bool.false_and,Bool.false_eq_true,gv,look,Sl.val,dZ,cb,if_false,aD,pC,bw,dh,ix,Option.bind_some,fF,Bool.not_false,Bool.true_or,Bool.and_true,m,if_true,Int.reduceLT,decide_true,Option.map_some,zB,B_,fc]
theorem xG:∀i,i < 12→∃v:Int,[PyData.int 1, .int 3, .int 5, .int 7, .int 9, .int 11, .int 15, .int 17, .int 19, .int 21, .int 23, .int 25][i]? =some (.int v)∧0≤v∧v≤100
  | 0,_=>⟨1,rfl,by decide,by decide⟩
  | 1,_=>⟨3,rfl,by decide,by decide⟩
  | 2,_=>⟨5,rfl,by decide,by decide⟩
  | 3,_=>⟨7,rfl,by decide,by decide⟩
  | 4,_=>⟨9,rfl,by decide,by decide⟩
  | 5,_=>⟨11,rfl,by decide,by decide⟩
  | 6,_=>⟨15,rfl,by decide,by decide⟩
  | 7,_=>⟨17,rfl,by decide,by decide⟩
  | 8,_=>⟨19,rfl,by decide,by decide⟩
  | 9,_=>⟨21,rfl,by decide,by decide⟩
  | 10,_=>⟨23,rfl,by decide,by decide⟩
  | 11,_=>⟨25,rfl,by decide,by decide⟩
theorem uw (cell many step i:Int) (n:Nat) (ws:List PyData) (dd:fb 26=true) (hi:cell / 26 % 12=i) (hs:atI [PyData.int 1, .int 3, .int 5, .int 7, .int 9, .int 11, .int 15, .int 17, .int 19, .int 21, .int 23, .int 25] i=some (.int step)) (o1: -1000000≤many) (o2:many≤1000000) (hn:many.toNat=n) (e:cm dO bV cR (iA 0 n) [.no, .sh (.str "abcdefghijklmnopqrstuvwxyz"), .sh (.int cell), .sh (.int step)]=some ws) (fl:bx ws=true) (ll:ws.length≤1000000):bP [.int cell, .int many]=some (.ow ws):=by
  simp only [bP,eJ,List.length_cons,List.length_nil,Nat.zero_add,Nat.reduceAdd,fP,gN,aA,ao,pC,bj,List.map_cons,List.map_nil,Nat.reduceSub,List.replicate,List.cons_append,List.nil_append,PL.settle,frz,frzAll,Option.bind_some,Nat.reduceLT,List.set_cons_succ,List.set_cons_zero,if_true,ae,bO,vo,Nat.reduceLeDiff,Sl.isBr,Bool.false_and,Bool.false_eq_true,aa,aM,dh,look,Sl.val,ix,if_false,bw,fF,dZ,cb,aV,bJ,lB,ad,am,Option.map_some,ga,ku,List.getElem?_cons_zero,dd,Int.reduceLT,decide_true,hi,hs,List.getElem?_cons_succ,bb,o1,o2,and_self,hn,e,fl,ll,Bool.and_true,cI,bN]
theorem sR:∀(d:List Pc) (x0 x1:Sl),cm fK bV eB (d.map aq) [x0,x1]=some ((d.map fun p=>((p.1,-p.2):Pc)).map aq)
  | [],x0,x1=>rfl
  | p::d,x0,x1=>by
    have e:(fK (aq p) [x0,x1])=some [.sh (.str ⟨#[p.1]⟩), .sh (.int p.2)]:=rfl
    have e2:eB [.sh (.str ⟨#[p.1]⟩), .sh (.int p.2)]=some (.sh (aq (p.1,-p.2)),[.sh (.str ⟨#[p.1]⟩), .sh (.int p.2)]):=by
      simp only [eB,dC,aF,aa,List.getElem?_cons_zero,frz,ae,pC,Sl.isBr,Bool.false_and,Bool.false_eq_true,il,dh,look,Sl.val,ix,if_true,if_false,Option.bind_some,aP,Option.map_some,List.getElem?_cons_succ,Int.zero_sub,List.length_cons,List.length_nil,Nat.zero_add,Nat.reduceAdd,Nat.reduceLeDiff,aq]
    rw [List.map_cons,cm,e,Option.bind_some]
    simp only [bV,frz,Option.bind_some,e2,sR d,Option.map_some,if_true,List.map_cons]
theorem iH (c:List Pc) (h:c.length≤1000000):aG [.list (c.map aq)]=some (.ow ((NH.contr c).map aq)):=by
  have k:=sR c .no .no
  have r:((c.map fun p=>((p.1,-p.2):Pc)).map aq).reverse=(NH.contr c).map aq:=by
    unfold NH.contr
    rw [←List.map_reverse,←List.map_reverse]
  have fl:bx ((c.map fun p=>((p.1,-p.2):Pc)).map aq)=true:=df _
  have fl2:bx ((NH.contr c).map aq)=true:=df _
  have ll:((c.map fun p=>((p.1,-p.2):Pc)).map aq).length≤1000000:=by simpa using h
  generalize (c.map fun p=>((p.1,-p.2):Pc)).map aq=W at k r fl ll
  simp only [aG,eJ,List.length_cons,List.length_nil,Nat.zero_add,fP,h9,aA,ao,bJ,bL,aa,bj,List.map_cons,List.map_nil,Nat.reduceSub,List.replicate,List.cons_append,List.nil_append,List.getElem?_cons_zero,frz,Option.bind_some,ga,ku,k,fl,ll,decide_true,Bool.and_true,if_true,PL.settle,frzAll,Nat.reduceAdd,Nat.reduceLT,List.set_cons_succ,List.set_cons_zero,bS,jt,aV,List.getElem?_cons_succ,r,Option.map_some,cI,bN,fl2]
theorem v7 (cell r:Int) (dd:fb 9=true) (hr:cell % 9=r) (mm:fN 2 1000000000000000000000000000000=true):bq [.int cell]=some (.sh (.int (if r=8 then cell / 9 % 2000000000000000000000000000000 - 1000000000000000000000000000000 else r - 4+(if 3 < r then 1 else 0)))):=by
  by_cases h:r=8
  · simp only [bq,eJ,List.length_cons,List.length_nil,Nat.zero_add,fP,eO,aA,aN,bY,ae,aa,bj,List.map_cons,List.map_nil,Nat.sub_self,List.replicate,List.cons_append,List.nil_append,List.getElem?_cons_zero,Sl.isBr,Bool.false_and,Bool.false_eq_true,pC,bw,dh,look,Sl.val,ix,Option.bind_some,if_false,Int.reduceLT,decide_true,hr,if_true,Option.map_some,eM,aT,eq_true h,aV,aM,iy,Int.reducePow,Int.reduceNeg,Int.reduceLE,and_self,Int.reduceToNat,gv,dZ,cb,Bool.not_false,Bool.true_or,Bool.and_true,mm,Int.reduceMul,il,aH,dd,bI,ad,eX,Cm.i,Cm.s,am,tX,aD,cI,bN,cY]
  · by_cases h3:3 < r
    · simp only [bq,eJ,List.length_cons,List.length_nil,Nat.zero_add,fP,eO,aA,aN,bY,ae,aa,bj,List.map_cons,List.map_nil,Nat.sub_self,List.replicate,List.cons_append,List.nil_append,List.getElem?_cons_zero,Sl.isBr,Bool.false_and,Bool.false_eq_true,pC,bw,dh,look,Sl.val,ix,Option.bind_some,if_false,Int.reduceLT,decide_true,hr,if_true,Option.map_some,eM,aT,h,decide_false,aV,aM,iy,Int.reducePow,Int.reduceNeg,Int.reduceLE,and_self,Int.reduceToNat,gv,dZ,cb,Bool.not_false,Bool.true_or,Bool.and_true,Int.reduceMul,il,aH,bI,ad,eX,Cm.i,Cm.s,am,tX,aD,h3,bb,cI,bN,cY]
    · simp only [bq,eJ,List.length_cons,List.length_nil,Nat.zero_add,fP,eO,aA,aN,bY,ae,aa,bj,List.map_cons,List.map_nil,Nat.sub_self,List.replicate,List.cons_append,List.nil_append,List.getElem?_cons_zero,Sl.isBr,Bool.false_and,Bool.false_eq_true,pC,bw,dh,look,Sl.val,ix,Option.bind_some,if_false,Int.reduceLT,decide_true,hr,if_true,Option.map_some,eM,aT,h,decide_false,aV,aM,iy,Int.reducePow,Int.reduceNeg,Int.reduceLE,and_self,Int.reduceToNat,gv,dZ,cb,Bool.not_false,Bool.true_or,Bool.and_true,Int.reduceMul,il,aH,bI,ad,eX,Cm.i,Cm.s,am,tX,aD,h3,bb,cI,bN,cY]
theorem oB (cell:Int):∃z:Int,bq [.int cell]=some (.sh (.int z))∧z.natAbs < 2 ^ 100:=by
  have m0:=Int.emod_nonneg cell (show (9:Int)≠0 by decide)
  have m1:=Int.emod_lt_of_pos cell (show (0:Int) < 9 by decide)
  have n0:=Int.emod_nonneg (cell / 9) (show (2000000000000000000000000000000:Int)≠0 by decide)
  have n1:=Int.emod_lt_of_pos (cell / 9) (show (0:Int) < 2000000000000000000000000000000 by decide)
  refine ⟨_,v7 cell _ (by decide) rfl (jz (by decide) (by decide)),?_⟩
  generalize cell / 9 % 2000000000000000000000000000000=y at n0 n1
  generalize cell % 9=r at m0 m1
  split
  · lia
  · split <;> omega
theorem jJ (x0:Sl):∀(c:List Pc) (st:List Pc) (a b:Sl),st.length+c.length≤100000→NailsOk st→NailsOk c→∃a' b',bT ck bn (c.map aq) [x0, .ow (st.reverse.map aq),a,b]=some ([x0, .ow ((c.foldl NH.stp st).reverse.map aq),a',b'], .nx)
  | [],st,a,b,_,_,_=>⟨a,b,rfl⟩
  | p::c,st,a,b,h,hs,hc=>by
    have step:∃a' b',(ck (aq p) [x0, .ow (st.reverse.map aq),a,b]).bind bn=some ([x0, .ow ((NH.stp st p).reverse.map aq),a',b'], .nx):=by
      have e0:=jA hs.reverse
      cases st with
      | nil=>
        simp only [List.reverse_nil,List.map_nil] at e0
        by_cases z:p.2=0
        · simp only [ck,gC,aq,z,List.length_cons,List.length_nil,Nat.zero_add,Nat.reduceAdd,c0,aI,List.reverse_nil,List.map_nil,Nat.reduceLT,List.set_cons_succ,List.set_cons_zero,if_true,Option.bind_some,gB,List.isEmpty_nil,bn,jQ,eM,aA,aN,eW,bY,ae,aa,List.getElem?_cons_succ,List.getElem?_cons_zero,Sl.isBr,Bool.false_and,Bool.false_eq_true,bO,aP,Nat.reduceLeDiff,dh,look,Sl.val,if_false,e0,decide_true,Option.map_some,Bool.not_true,ig,pC,fZ,fF,dZ,cb,Option.any_some,ao,Bool.true_and,iY,aD,PL.settle,frz,frzAll,aH,Nat.reduceSub,Bool.not_false,Bool.true_or,Bool.and_true,bS,aO,dC,aF,aT,List.nil_append,NH.stp]
          exact ⟨_,_,rfl⟩
        · simp only [ck,gC,aq,List.length_cons,List.length_nil,Nat.zero_add,Nat.reduceAdd,c0,aI,List.reverse_nil,List.map_nil,Nat.reduceLT,List.set_cons_succ,List.set_cons_zero,if_true,Option.bind_some,gB,List.isEmpty_nil,bn,jQ,eM,aA,aN,eW,bY,ae,aa,List.getElem?_cons_succ,List.getElem?_cons_zero,Sl.isBr,Bool.false_and,Bool.false_eq_true,bO,aP,Nat.reduceLeDiff,dh,look,Sl.val,if_false,e0,decide_true,Option.map_some,Bool.not_true,ig,pC,fZ,fF,dZ,cb,Option.any_some,ao,Bool.true_and,iY,aD,PL.settle,frz,frzAll,aH,Nat.reduceSub,Bool.not_false,Bool.true_or,Bool.and_true,bS,aO,dC,aF,aT,z,decide_false,List.nil_append,NH.stp]
          exact ⟨_,_,rfl⟩
      | cons q st=>
        have lb:st.length < 1000000∧st.length+1 < 1000000:=by simp at h;lia
        simp only [List.reverse_cons,List.map_append,List.map_cons,List.map_nil] at e0
        have et:∀ds,ck (aq p) [x0, .ow ds,a,b]=some [x0, .ow ds, .sh (.str ⟨#[p.1]⟩), .sh (.int p.2)]:=fun _=>rfl
        rw [et,Option.bind_some]
        by_cases e:q.1=p.1
        · by_cases z:q.2+p.2=0
          · simp only [bn,aA,aN,eW,bY,ae,aa,List.reverse_cons,List.map_append,List.map_cons,List.map_nil,List.getElem?_cons_succ,List.getElem?_cons_zero,Sl.isBr,Bool.false_and,Bool.false_eq_true,bO,aP,Option.bind_some,List.length_nil,Nat.reduceLeDiff,if_true,jQ,dh,look,Sl.val,if_false,e0,List.append_eq_nil_iff,reduceCtorEq,and_false,decide_false,Option.map_some,Bool.not_false,ig,pC,fZ,fF,dZ,cb,eM,Option.any_some,gL,ao,Bool.true_and,iY,aD,PL.settle,frz,frzAll,aH,bS,aO,dC,aF,NH.stp]
            simp only [aq,e,ii,Option.map_some,Option.bind_some,List.getElem?_cons_succ,List.getElem?_cons_zero,gc,decide_true,Bool.false_eq_true,List.dropLast_concat,List.set_cons_succ,List.set_cons_zero,iP,Bool.false_and,if_false,mN,Bool.not_false,Bool.true_or,Bool.and_true,Int.add_comm p.2 q.2,z,List.length_cons,List.length_nil,Nat.zero_add,Nat.reduceAdd,Nat.reduceLT,if_true,aT,Bool.not_true,Nat.reduceLeDiff]
            simp [aq]
          · simp only [bn,aA,aN,eW,bY,ae,aa,List.reverse_cons,List.map_append,List.map_cons,List.map_nil,List.getElem?_cons_succ,List.getElem?_cons_zero,Sl.isBr,Bool.false_and,Bool.false_eq_true,bO,aP,Option.bind_some,List.length_nil,Nat.reduceLeDiff,if_true,jQ,dh,look,Sl.val,if_false,e0,List.append_eq_nil_iff,reduceCtorEq,and_false,decide_false,Option.map_some,Bool.not_false,ig,pC,fZ,fF,dZ,cb,eM,Option.any_some,gL,ao,Bool.true_and,iY,aD,PL.settle,frz,frzAll,aH,bS,aO,dC,aF,NH.stp]
            simp only [aq,e,ii,Option.map_some,Option.bind_some,List.getElem?_cons_succ,List.getElem?_cons_zero,gc,decide_true,Bool.false_eq_true,List.dropLast_concat,List.set_cons_succ,List.set_cons_zero,iP,Bool.false_and,if_false,mN,Bool.not_false,Bool.true_or,Bool.and_true,Int.add_comm p.2 q.2,List.length_cons,List.length_nil,Nat.zero_add,Nat.reduceAdd,Nat.reduceLT,if_true,aT,z,decide_false,Nat.reduceLeDiff,List.length_map,List.length_reverse,lb]
            simp [aq]
        · by_cases z:p.2=0
          · simp only [bn,aA,aN,eW,bY,ae,aa,List.reverse_cons,List.map_append,List.map_cons,List.map_nil,List.getElem?_cons_succ,List.getElem?_cons_zero,Sl.isBr,Bool.false_and,Bool.false_eq_true,bO,aP,Option.bind_some,List.length_nil,Nat.reduceLeDiff,if_true,jQ,dh,look,Sl.val,if_false,e0,List.append_eq_nil_iff,reduceCtorEq,and_false,decide_false,Option.map_some,Bool.not_false,ig,pC,fZ,fF,dZ,cb,eM,Option.any_some,gL,ao,Bool.true_and,iY,aD,PL.settle,frz,frzAll,aH,bS,aO,dC,aF,NH.stp]
            simp only [aq,z,ii,Option.map_some,Option.bind_some,List.getElem?_cons_succ,List.getElem?_cons_zero,gc,kP,e,decide_false,Bool.false_eq_true,List.dropLast_concat,List.set_cons_succ,List.set_cons_zero,iP,Bool.false_and,if_false,mN,Bool.not_false,Bool.true_or,Bool.and_true,List.length_cons,List.length_nil,Nat.zero_add,Nat.reduceAdd,Nat.reduceLT,if_true,aT,decide_true,Bool.not_true,Nat.reduceLeDiff]
            simp [aq]
          · simp only [bn,aA,aN,eW,bY,ae,aa,List.reverse_cons,List.map_append,List.map_cons,List.map_nil,List.getElem?_cons_succ,List.getElem?_cons_zero,Sl.isBr,Bool.false_and,Bool.false_eq_true,bO,aP,Option.bind_some,List.length_nil,Nat.reduceLeDiff,if_true,jQ,dh,look,Sl.val,if_false,e0,List.append_eq_nil_iff,reduceCtorEq,and_false,decide_false,Option.map_some,Bool.not_false,ig,pC,fZ,fF,dZ,cb,eM,Option.any_some,gL,ao,Bool.true_and,iY,aD,PL.settle,frz,frzAll,aH,bS,aO,dC,aF,NH.stp]
            simp only [aq,ii,Option.map_some,Option.bind_some,List.getElem?_cons_succ,List.getElem?_cons_zero,gc,kP,e,decide_false,Bool.false_eq_true,List.dropLast_concat,List.set_cons_succ,List.set_cons_zero,List.length_append,List.length_map,List.length_reverse,List.length_cons,List.length_nil,Nat.zero_add,Bool.not_false,Bool.true_or,Bool.and_true,if_false,aT,z,Nat.reduceAdd,Nat.reduceLeDiff,if_true,lb]
            simp [aq]
    obtain ⟨a',b',e⟩:=step
    have ih:=jJ x0 c (NH.stp st p) a' b' (by have:=NH.nJ st p;simp at h;lia) (hs.stp (hc p (List.mem_cons_self ..))) fun q hq=>hc q (List.mem_cons_of_mem _ hq)
    obtain ⟨a2,b2,e2⟩:=ih
    refine ⟨a2,b2,?_⟩
    rw [List.map_cons,bT,e]
    exact e2
theorem jK (c:List Pc) (h:c.length≤100000) (hN:NailsOk c):bD [.list (c.map aq)]=some (.ow ((NH.short c).map aq)):=by
  obtain ⟨a,b,e⟩:=jJ (.sh (.list (c.map aq))) c [] .no .no (by simpa using h) m6 hN
  simp only [List.reverse_nil,List.map_nil] at e
  simp only [bD,eJ,List.length_cons,List.length_nil,Nat.zero_add,fP,gO,aA,ao,bO,aP,bj,List.map_cons,List.map_nil,Nat.reduceSub,List.replicate,List.cons_append,List.nil_append,Option.bind_some,Nat.reduceLeDiff,if_true,PL.settle,frz,frzAll,Nat.reduceAdd,Nat.reduceLT,List.set_cons_succ,List.set_cons_zero,d0,bL,aa,aV,List.getElem?_cons_zero,e,List.getElem?_cons_succ,Option.map_some,cI,bN,df,Option.some.injEq]
  rfl
def fW (a:Nat):Str:=⟨#[a]⟩
theorem v8 {a b:Nat} (h:fW a=fW b):a=b:=by
  simp [fW] at h;exact h
theorem xH {a b:Nat} (h:a≤b):oQ (fW a) (fW b)=true:=by
  have:[a]≤[b]:=by
    rcases Nat.lt_or_ge a b with k | k
    · exact List.le_of_lt (List.Lex.rel k)
    · rw [Nat.le_antisymm h k];exact List.le_refl _
  exact decide_eq_true this
theorem xI (ks:List Str) (x y:Str):y∈wo ks x↔y∈ks∨y=x:=by
  unfold wo
  split
  · rename_i h
    exact ⟨.inl,fun z=>z.elim id fun e=>e▸h⟩
  · simp
theorem uz {ks:List Str} (h:ks.Nodup) (x:Str):(wo ks x).Nodup:=by
  unfold wo
  split
  · exact h
  · rename_i k
    rw [List.nodup_append]
    refine ⟨h,by simp,fun a ha b hb=>?_⟩
    rw [List.mem_singleton.mp hb]
    exact fun e=>k (e▸ha)
theorem oC:∀(ss ks:List Str),ks.Nodup→(ss.foldl wo ks).Nodup∧∀y,y∈ss.foldl wo ks↔y∈ks∨y∈ss
  | [],ks,h=>⟨h,fun y=>by simp⟩
  | s::ss,ks,h=>by
    obtain ⟨a,b⟩:=oC ss (wo ks s) (uz h s)
    refine ⟨a,fun y=>?_⟩
    rw [List.foldl_cons,b y,xI,List.mem_cons,or_assoc]
theorem uA (ss:List Str):(io ss).Nodup:=(oC ss [] List.nodup_nil).1
theorem xJ (ss:List Str) (y:Str):y∈io ss↔y∈ss:=by
  rw [io,(oC ss [] List.nodup_nil).2 y];simp
def dY (w:List Nat):List Nat:=(List.range' 97 26).filter fun a=>decide (a∈w)
theorem inOrd_mem {w:List Nat} {a:Nat}:a∈dY w↔a∈List.range' 97 26∧a∈w:=by simp [dY]
theorem lU {α:Type} [DecidableEq α]:∀{l m:List α},l.Nodup→m.Nodup→(∀a,a∈l↔a∈m)→l.Perm m
  | [],m,_,_,h=>by
    have:m=[]:=by
      cases m with
      | nil=>rfl
      | cons b m=>exact absurd ((h b).mpr (by simp)) (by simp)
    rw [this]
  | a::l,m,hl,hm,h=>by
    have ha:a∈m:=(h a).mp (by simp)
    have hl':=List.nodup_cons.mp hl
    have p:=List.perm_cons_erase ha
    refine ((lU hl'.2 (hm.erase a) fun b=>?_).cons a).trans p.symm
    rw [List.Nodup.mem_erase_iff hm,←h b,List.mem_cons]
    exact ⟨fun k=>⟨fun e=>hl'.1 (e▸k), .inr k⟩,fun k=>k.2.resolve_left k.1⟩
theorem rH {w:List Nat} (h:w.Nodup):(w.map fW).Nodup:=by
  rw [List.Nodup,List.pairwise_map]
  exact h.imp fun k e=>k (v8 e)
theorem kE (w:List Nat):(dY w).Nodup:=List.Nodup.sublist List.filter_sublist (List.nodup_range' ..)
theorem oD (w:List Nat):((dY w).map fW).Pairwise fun a b=>oQ a b=true:=by
  rw [List.pairwise_map]
  have h:(List.range' 97 26).Pairwise (· < ·):=List.pairwise_lt_range'
  exact (h.sublist List.filter_sublist).imp fun k=>xH (Nat.le_of_lt k)
theorem jL {w:List Nat} (hw:∀a∈w,a∈List.range' 97 26):kA (io (w.map fW))=(dY w).map fW:=by
  refine (List.Perm.eq_of_pairwise (fun _ _ _ _ h k=>pJ h k) (oD w) (List.pairwise_mergeSort j0 mV _) ?_).symm
  refine List.Perm.trans ?_ (List.mergeSort_perm _ oQ).symm
  refine lU (rH (kE w)) (uA _) fun y=>?_
  rw [xJ,List.mem_map,List.mem_map]
  constructor
  · rintro ⟨a,ha,rfl⟩
    exact ⟨a,(inOrd_mem.mp ha).2,rfl⟩
  · rintro ⟨a,ha,rfl⟩
    exact ⟨a,inOrd_mem.mpr ⟨hw a ha,ha⟩,rfl⟩
theorem oE {w:List Nat} (hw:∀a∈w,a∈List.range' 97 26):(io (w.map fW)).length≤26:=by
  rw [←mX,jL hw,List.length_map]
  refine Nat.le_trans (List.length_filter_le _ _) (by simp)
def az (a:Nat):Prop:=97≤a∧a < 123
theorem lV {a:Nat} (h:az a):a∈List.range' 97 26:=List.mem_range'_1.mpr ⟨h.1,h.2⟩
def CordL (c:List Pc):Prop:=∀p∈c,az p.1∧p.2.natAbs < 2 ^ 100
theorem CordL.ok {c:List Pc} (h:CordL c):CordOk c:=fun p hp=>⟨by have:=(h p hp).1.2;lia,(h p hp).2⟩
theorem CordL.n {c:List Pc} (h:CordL c):NailsOk c:=h.ok.n
theorem CordL.contr {c:List Pc} (h:CordL c):CordL (NH.contr c):=fun p hp=>by
  simp only [NH.contr,List.mem_map,List.mem_reverse] at hp
  obtain ⟨q,hq,rfl⟩:=hp
  exact ⟨(h q hq).1,by simpa using (h q hq).2⟩
theorem CordL.az {c:List Pc} (h:CordL c):∀a∈c.map (·.1),az a:=fun a ha=>by
  obtain ⟨p,hp,rfl⟩:=List.mem_map.mp ha
  exact (h p hp).1
def oF (cell step:Int) (k:Nat):Nat:=97+((cell+(k:Int)*step) % 26).toNat
theorem uB (cell step:Int) (k:Nat):az (oF cell step k):=by
  unfold oF az
  have m0:=Int.emod_nonneg (cell+(k:Int)*step) (show (26:Int)≠0 by decide)
  have m1:=Int.emod_lt_of_pos (cell+(k:Int)*step) (show (0:Int) < 26 by decide)
  generalize (cell+(k:Int)*step) % 26=z at m0 m1
  lia
theorem nj (cell step:Int) (h1:0≤step) (h2:step≤100):∀(n lo:Nat) (x:Sl),cm dO bV cR (iA lo n) [x, .sh (.str "abcdefghijklmnopqrstuvwxyz"), .sh (.int cell), .sh (.int step)]=some (((List.range' lo n).map (oF cell step)).map fc)
  | 0,lo,x=>rfl
  | n+1,lo,x=>by
    have e:=nj cell step h1 h2 n (lo+1) (.sh (.int lo))
    have s:=v6 cell step lo (n_ (by lia) (by lia))
    have t:dO (.int lo) [x, .sh (.str "abcdefghijklmnopqrstuvwxyz"), .sh (.int cell), .sh (.int step)]=some [.sh (.int lo), .sh (.str "abcdefghijklmnopqrstuvwxyz"), .sh (.int cell), .sh (.int step)]:=rfl
    rw [show ((lo+1:Nat):Int)=(lo:Int)+1 by omega] at e
    rw [jY,List.range'_succ,List.map_cons,List.map_cons]
    exact kR t s e
theorem mq (cell:Int) (many:Nat) (hm:many≤1000):∃w:List Nat,bP [.int cell, .int many]=some (.ow (w.map fc))∧w.length=many∧∀a∈w,az a:=by
  have m0:=Int.emod_nonneg (cell / 26) (show (12:Int)≠0 by decide)
  have m1:=Int.emod_lt_of_pos (cell / 26) (show (0:Int) < 12 by decide)
  obtain ⟨i,hi⟩:∃i:Nat,cell / 26 % 12=i:=⟨(cell / 26 % 12).toNat,by lia⟩
  obtain ⟨v,ev,v0,v1⟩:=xG i (by lia)
  have e:=nj cell v v0 v1 many 0 .no
  simp only [Int.natCast_zero] at e
  refine ⟨(List.range' 0 many).map (oF cell v),uw cell many v i many _ (by decide) hi (by rw [gY,ev]) (by (solve_by_elim (maxDepth:=2) only [*,Nat.le_trans,Nat.lt_of_lt_of_le,Nat.lt_of_le_of_lt,Nat.le_of_lt])) (by lia) (by simp) e (jI _) (by simp;lia),by simp,fun a ha=>?_⟩
  obtain ⟨k,_,rfl⟩:=List.mem_map.mp ha
  exact uB cell v k
def CordW (w:List Nat) (c:List Pc):Prop:=∀p∈c,p.1∈w∧p.2.natAbs < 2 ^ 100
theorem CordW.append {w:List Nat} {c d:List Pc} (h:CordW w c) (h':CordW w d):CordW w (c++d):=fun p hp=>(List.mem_append.mp hp).elim (h p) (h' p)
theorem CordW.contr {w:List Nat} {c:List Pc} (h:CordW w c):CordW w (NH.contr c):=fun p hp=>by
  simp only [NH.contr,List.mem_map,List.mem_reverse] at hp
  obtain ⟨q,hq,rfl⟩:=hp
  exact ⟨(h q hq).1,by simpa using (h q hq).2⟩
theorem CordW.cutL {w:List Nat} {c:List Pc} (h:CordW w c) (lo hi:Option Int):CordW w (cutL c lo hi):=fun p hp=>h p (vp hp)
theorem nn {w:List Nat}:CordW w []:=fun _ z=>by cases z
theorem CordW.L {w:List Nat} {c:List Pc} (h:CordW w c) (a:∀y∈w,az y):CordL c:=fun p hp=>⟨a _ (h p hp).1,(h p hp).2⟩
theorem oG {w:List Nat} (h:0 < w.length) (z:Int):∃y,y∈w∧atI (w.map fc) (z % (w.length:Int))=some (.str ⟨#[y]⟩):=by
  have m0:=Int.emod_nonneg z (show (w.length:Int)≠0 by lia)
  have m1:=Int.emod_lt_of_pos z (show (0:Int) < w.length by lia)
  obtain ⟨i,hi⟩:∃i:Nat,z % (w.length:Int)=i:=⟨(z % (w.length:Int)).toNat,by lia⟩
  refine ⟨w[i]'(by lia),List.getElem_mem _,?_⟩
  rw [hi,gY,List.getElem?_map,List.getElem?_eq_getElem (by lia)]
  rfl
theorem zJ (x0 x2 a6 a7 a5:Sl) (ws:List PyData) (c:List Pc) (bv n k:Int) (y:Nat) (r1 t r2 t' r3:Int) (hn:(ws.length:Int)=n) (hl:ws.length≤1000000) (n0:0 < n) (dn:fb n=true) (ey:atI ws (bv % n)=some (.str ⟨#[y]⟩)) (h1:bv / n=r1) (ht:r1 % 7 - 3=t) (h2:r1 / 7=r2) (d7:fb 7=true) (d2:fb 2=true) (d4:fb 4000000000000=true) (m2:fN 2 1000000000000=true) (m4:fN 4 1000000000000=true) (lb:c.length < 1000000)
    (hw:(t= -3∧r2 % 2=1∧t'=r2 / 2 % 2000000000000 - 1000000000000∧r3=r2 / 4000000000000)∨(t= -3∧r2 % 2≠1∧t'=t∧r3=r2 / 2)∨(t≠ -3∧t'=t∧r3=r2)):
    (aX (.int k) [x0, .sh (.list ws),x2, .ow (c.map aq), .sh (.int bv),a5,a6,a7]).bind aY=some ([x0, .sh (.list ws),x2, .ow ((c++[((y,t'):Pc)]).map aq), .sh (.int r3), .sh (.int k), .sh (.str ⟨#[y]⟩), .sh (.int t')], .nx):=by
  have m:(c++[((y,t'):Pc)]).map aq=c.map aq++[PyData.tuple [.str ⟨#[y]⟩, .int t']]:=by simp [aq]
  rw [m]
  rcases hw with ⟨h3,h4,rfl,rfl⟩ | ⟨h3,h4,rfl,rfl⟩ | ⟨h3,rfl,rfl⟩
  · simp only [aX,aI,List.length_cons,List.length_nil,Nat.zero_add,Nat.reduceAdd,Nat.reduceLT,List.set_cons_succ,List.set_cons_zero,if_true,aY,bw,aM,il,eM,iy,Int.reducePow,Int.reduceNeg,Option.bind_some,aA,ao,ae,aa,List.getElem?_cons_succ,List.getElem?_cons_zero,Sl.isBr,Bool.false_and,Bool.false_eq_true,bI,ad,am,Option.map_some,if_false,cH,dh,look,Sl.val,ix,fF,dZ,cb,bb,hn,n0,decide_true,ey,PL.settle,frz,frzAll,pC,aN,eW,bY,ig,fZ,Int.reduceLE,Int.reduceLT,and_self,Int.reduceToNat,gv,Bool.not_false,Bool.true_or,Bool.and_true,m2,Int.reduceMul,m4,aH,bS,aO,dC,aF,aP,dn,h1,ht,d7,h2,aT,eq_true h3,eq_true h4,d2,d4,Nat.reduceLeDiff,List.length_map,lb]
  · simp only [aX,aI,List.length_cons,List.length_nil,Nat.zero_add,Nat.reduceAdd,Nat.reduceLT,List.set_cons_succ,List.set_cons_zero,if_true,aY,bw,aM,il,eM,iy,Int.reducePow,Int.reduceNeg,Option.bind_some,aA,ao,ae,aa,List.getElem?_cons_succ,List.getElem?_cons_zero,Sl.isBr,Bool.false_and,Bool.false_eq_true,bI,ad,am,Option.map_some,if_false,cH,dh,look,Sl.val,ix,fF,dZ,cb,bb,hn,n0,decide_true,ey,PL.settle,frz,frzAll,pC,aN,eW,bY,ig,fZ,Int.reduceLE,Int.reduceLT,and_self,Int.reduceToNat,gv,Bool.not_false,Bool.true_or,Bool.and_true,Int.reduceMul,aH,bS,aO,dC,aF,aP,dn,h1,ht,d7,h2,aT,eq_true h3,h4,decide_false,d2,Nat.reduceLeDiff,List.length_map,lb]
  · simp only [aX,aI,List.length_cons,List.length_nil,Nat.zero_add,Nat.reduceAdd,Nat.reduceLT,List.set_cons_succ,List.set_cons_zero,if_true,aY,bw,aM,il,eM,iy,Int.reducePow,Int.reduceNeg,Option.bind_some,aA,ao,ae,aa,List.getElem?_cons_succ,List.getElem?_cons_zero,Sl.isBr,Bool.false_and,Bool.false_eq_true,bI,ad,am,Option.map_some,if_false,cH,dh,look,Sl.val,ix,fF,dZ,cb,bb,hn,n0,decide_true,ey,PL.settle,frz,frzAll,pC,aN,eW,bY,ig,fZ,Int.reduceLE,Int.reduceLT,and_self,Int.reduceToNat,gv,Bool.not_false,Bool.true_or,Bool.and_true,Int.reduceMul,aH,bS,aO,dC,aF,aP,dn,h1,ht,d7,h2,aT,h3,decide_false,Nat.reduceLeDiff,List.length_map,lb]
theorem jM (w:List Nat) (hw:0 < w.length) (hw2:w.length≤1000) (hn:∀a∈w,az a) (x0 x2:Sl):∀(k lo:Nat) (bv:Int) (c:List Pc) (a5 a6 a7:Sl),c.length+k≤1000→CordW w c→
    ∃(rest':Int) (c':List Pc) (a5' a6' a7':Sl),bT aX aY (iA lo k) [x0, .sh (.list (w.map fc)),x2, .ow (c.map aq), .sh (.int bv),a5,a6,a7]=some ([x0, .sh (.list (w.map fc)),x2, .ow (c'.map aq), .sh (.int rest'),a5',a6',a7'], .nx)∧c'.length=c.length+k∧CordW w c'
  | 0,lo,bv,c,a5,a6,a7,_,hc=>⟨bv,c,a5,a6,a7,rfl,rfl,hc⟩
  | k+1,lo,bv,c,a5,a6,a7,hl,hc=>by
    obtain ⟨y,hy,ey⟩:=oG hw bv
    have m0:=Int.emod_nonneg (bv / (w.length:Int)) (show (7:Int)≠0 by decide)
    have m1:=Int.emod_lt_of_pos (bv / (w.length:Int)) (show (0:Int) < 7 by decide)
    obtain ⟨t',r3,hd,hb⟩:∃t' r3:Int,((bv / (w.length:Int) % 7 - 3= -3∧bv / (w.length:Int) / 7 % 2=1∧t'=bv / (w.length:Int) / 7 / 2 % 2000000000000 - 1000000000000∧r3=bv / (w.length:Int) / 7 / 4000000000000)∨(bv / (w.length:Int) % 7 - 3= -3∧bv / (w.length:Int) / 7 % 2≠1∧t'=bv / (w.length:Int) % 7 - 3∧r3=bv / (w.length:Int) / 7 / 2)∨(bv / (w.length:Int) % 7 - 3≠ -3∧t'=bv / (w.length:Int) % 7 - 3∧r3=bv / (w.length:Int) / 7))∧t'.natAbs < 2 ^ 100:=by
      by_cases h3:bv / (w.length:Int) % 7 - 3= -3
      · by_cases h4:bv / (w.length:Int) / 7 % 2=1
        · refine ⟨_,_,Or.inl ⟨h3,h4,rfl,rfl⟩,?_⟩
          have n0:=Int.emod_nonneg (bv / (w.length:Int) / 7 / 2) (show (2000000000000:Int)≠0 by decide)
          have n1:=Int.emod_lt_of_pos (bv / (w.length:Int) / 7 / 2) (show (0:Int) < 2000000000000 by decide)
          generalize bv / (w.length:Int) / 7 / 2 % 2000000000000=z at n0 n1
          lia
        · refine ⟨_,_,Or.inr (Or.inl ⟨h3,h4,rfl,rfl⟩),?_⟩
          generalize bv / (w.length:Int) % 7=z at m0 m1
          lia
      · refine ⟨_,_,Or.inr (Or.inr ⟨h3,rfl,rfl⟩),?_⟩
        generalize bv / (w.length:Int) % 7=z at m0 m1
        lia
    have step:=zJ x0 x2 a6 a7 a5 (w.map fc) c bv w.length lo y _ _ _ t' r3 (by simp) (by rw [List.length_map];lia) (by lia) (pT (by lia) (by omega)) ey rfl rfl rfl (by decide) (by decide) (by decide) (jz (by decide) (by decide)) (jz (by decide) (by decide)) (by lia) hd
    obtain ⟨r',c',b5,b6,b7,e,l,kk⟩:=jM w hw hw2 hn x0 x2 k (lo+1) r3 (c++[((y,t'):Pc)]) (.sh (.int lo)) (.sh (.str ⟨#[y]⟩)) (.sh (.int t')) (by simp;lia) (hc.append fun q hq=>by rw [List.mem_singleton.mp hq];exact ⟨hy,hb⟩)
    refine ⟨r',c',b5,b6,b7,?_,by rw [l];simp;lia,kk⟩
    rw [jY,bT,step]
    exact e
theorem Bc (cell M q r:Int) (ws C:List PyData) (n:Nat) (b4 b5 b6 b7:Sl) (m1:M+1≠0) (p1:0 < M+1) (dM:fb (M+1)=true) (hq:cell / (M+1)=q) (hr:cell % (M+1)=r) (o1: -1000000≤r) (o2:r≤1000000) (hn:r.toNat=n) (e:bT aX aY (iA 0 n) [.sh (.int cell), .sh (.list ws), .sh (.int M), .ow [], .sh (.int q), .no, .no, .no]=some ([.sh (.int cell), .sh (.list ws), .sh (.int M), .ow C,b4,b5,b6,b7], .nx)) (fC:bx C=true):bu [.int cell, .list ws, .int M]=some (.ow C):=by
  simp only [bu,eJ,List.length_cons,List.length_nil,Nat.zero_add,Nat.reduceAdd,fP,eH,aA,ao,bO,aP,bj,List.map_cons,List.map_nil,Nat.reduceSub,List.replicate,List.cons_append,List.nil_append,Option.bind_some,Nat.reduceLeDiff,if_true,PL.settle,frz,frzAll,Nat.reduceLT,List.set_cons_succ,List.set_cons_zero,ae,aa,Sl.isBr,Bool.false_and,Bool.false_eq_true,pC,aD,look,Sl.val,dZ,cb,Bool.not_false,Bool.true_or,Bool.and_true,if_false,aM,dh,ix,d0,lB,ad,bw,am,Option.map_some,aV,List.getElem?_cons_zero,List.getElem?_cons_succ,dM,hq,p1,decide_true,hr,bb,o1,o2,and_self,hn,e,cI,bN,fC]
theorem oH (w:List Nat) (hw:0 < w.length) (hw2:w.length≤1000) (hn:∀a∈w,az a) (cell:Int) (most:Nat) (hm:most≤100):∃c:List Pc,bu [.int cell, .list (w.map fc), .int most]=some (.ow (c.map aq))∧c.length≤most∧CordW w c:=by
  have m0:=Int.emod_nonneg cell (show (most:Int)+1≠0 by lia)
  have m1:=Int.emod_lt_of_pos cell (show (0:Int) < (most:Int)+1 by lia)
  obtain ⟨n,hn'⟩:∃n:Nat,cell % ((most:Int)+1)=n:=⟨(cell % ((most:Int)+1)).toNat,by lia⟩
  obtain ⟨r',c',b5,b6,b7,e,l,k⟩:=jM w hw hw2 hn (.sh (.int cell)) (.sh (.int most)) n 0 (cell / ((most:Int)+1)) [] .no .no .no (by simp;lia) nn
  simp only [List.map_nil,Int.natCast_zero] at e
  exact ⟨c',Bc cell most _ n _ _ n _ _ _ _ (by lia) (by lia) (pT (by lia) (by omega)) rfl hn' (by (solve_by_elim (maxDepth:=2) only [*,Nat.le_trans,Nat.lt_of_lt_of_le,Nat.lt_of_le_of_lt,Nat.le_of_lt])) (by lia) (by simp) e (df _),by rw [l];simp;lia,k⟩
def cf:dG:=(aN (hU (bY (ae eM false (aa 9) (pC (.int 1)))) (bY (ae eM false (aa 9) (pC (.int 2)))))
  (ao 4 (ae aD false (ae aD false (ae aD false (aa 4) (aa 7)) (aj aG (ad false (aa 4) am))) (aj aG (ad false (aa 7) am))))
  (aN (bY (ae eM false (aa 9) (pC (.int 3))))
  (ao 4 (ae aD false (ae aD false (aa 7) (aa 4)) (aj aG (ad false (aa 7) am))))
  (aN (bY (ae eM false (aa 9) (pC (.int 4))))
  (aA (ao 10 (ae bw false (ae aM false (aa 6) (pC (.int 3001))) (ae aD false (bI cH (ad false (aa 4) am)) (pC (.int 1)))))
  (ao 4 (ae aD false (ae aD false (ae aD false (ae aD false (jb false (aa 4) gz (gA (aa 10))) (aa 8)) (bO (aF (dC (aF (ae fF false (ae fF false (aa 7) (pC (.int 0))) (pC (.int 0))) (aF (pC (.int 0)) aP))) aP))) (aj aG (ad false (aa 8) am))) (jb false (aa 4) (gA (aa 10)) gz))))
  (aN (bY (ae eM false (aa 9) (pC (.int 5))))
  (ao 4 (ae aD false (ae aD false (ae aD false (ae aD false (aa 4) (aa 8)) (aa 7)) (aj aG (ad false (aa 8) am))) (aj aG (ad false (aa 7) am))))
  (ao 4 (ae aD false (aa 4) (aa 7)))))))
section
variable (x0 x1 x2 x3 x5 x10:Sl) (cell way:Int) (c:List Pc) (p o:Pc) (bc bp bo:List Pc) (hl:c.length≤10000) (hbc:bc.length≤10000) (hbp:bp.length≤1) (hbo:bo.length≤1) (e1:aG [.list (c.map aq)]=some (.ow (bc.map aq))) (e2:aG [.list ([p].map aq)]=some (.ow (bp.map aq))) (e3:aG [.list ([o].map aq)]=some (.ow (bo.map aq)))
include hl hbc hbp hbo e1 e2 e3
theorem xK (h:way=1∨way=2):cf [x0,x1,x2,x3, .ow (c.map aq),x5, .sh (.int cell), .ow ([p].map aq), .ow ([o].map aq), .sh (.int way),x10]=some ([x0,x1,x2,x3, .ow ((c++[p]++bc++bp).map aq),x5, .sh (.int cell), .ow ([p].map aq), .ow ([o].map aq), .sh (.int way),x10], .nx):=by
  have l1:c.length+[p].length≤1000000:=by simp;lia
  have l2:(c++[p]).length+bc.length≤1000000:=by simp;lia
  have l3:(c++[p]++bc).length+bp.length≤1000000:=by simp;lia
  generalize hP:[p]=P at *
  rcases h with h | h
  · subst h
    simp only [cf,aN,hU,bY,ae,aa,List.map_cons,List.map_nil,List.getElem?_cons_succ,List.getElem?_cons_zero,Sl.isBr,Bool.false_and,Bool.false_eq_true,pC,eM,dh,look,Sl.val,Option.bind_some,if_false,aT,decide_true,Option.map_some,Int.reduceEq,decide_false,if_true,ao,aD,dZ,cb,aj,ad,am,PL.settle,frz,frzAll,aA,aM,ix,bI,cH,Bool.not_false,Bool.true_or,Bool.and_true,bw,jb,gz,gA,bO,aF,dC,fF,aP,Option.any_some,List.length_map,l1,←List.map_append,bb,e1,l2,e2,l3,List.length_cons,List.length_nil,Nat.zero_add,Nat.reduceAdd,Nat.reduceLT,List.set_cons_succ,List.set_cons_zero,Nat.reduceLeDiff]
  · subst h
    simp only [cf,aN,hU,bY,ae,aa,List.map_cons,List.map_nil,List.getElem?_cons_succ,List.getElem?_cons_zero,Sl.isBr,Bool.false_and,Bool.false_eq_true,pC,eM,dh,look,Sl.val,Option.bind_some,if_false,aT,Int.reduceEq,decide_false,Option.map_some,decide_true,ao,aD,dZ,cb,aj,ad,am,PL.settle,frz,frzAll,aA,aM,ix,bI,cH,Bool.not_false,Bool.true_or,Bool.and_true,bw,jb,gz,gA,bO,aF,dC,fF,aP,Option.any_some,List.length_map,l1,←List.map_append,if_true,bb,e1,l2,e2,l3,List.length_cons,List.length_nil,Nat.zero_add,Nat.reduceAdd,Nat.reduceLT,List.set_cons_succ,List.set_cons_zero,Nat.reduceLeDiff]
theorem zK (h:way=3):cf [x0,x1,x2,x3, .ow (c.map aq),x5, .sh (.int cell), .ow ([p].map aq), .ow ([o].map aq), .sh (.int way),x10]=some ([x0,x1,x2,x3, .ow (([p]++c++bp).map aq),x5, .sh (.int cell), .ow ([p].map aq), .ow ([o].map aq), .sh (.int way),x10], .nx):=by
  have l1:[p].length+c.length≤1000000:=by simp;lia
  have l2:([p]++c).length+bp.length≤1000000:=by simp;lia
  generalize hP:[p]=P at *
  subst h
  simp only [cf,aN,hU,bY,ae,aa,List.map_cons,List.map_nil,List.getElem?_cons_succ,List.getElem?_cons_zero,Sl.isBr,Bool.false_and,Bool.false_eq_true,pC,eM,dh,look,Sl.val,Option.bind_some,if_false,aT,Int.reduceEq,decide_false,Option.map_some,ao,aD,dZ,cb,aj,ad,am,PL.settle,frz,frzAll,aA,aM,ix,bI,cH,Bool.not_false,Bool.true_or,Bool.and_true,bw,jb,gz,gA,bO,aF,dC,fF,aP,Option.any_some,List.length_map,←List.map_append,decide_true,l1,if_true,bb,e2,l2,List.length_cons,List.length_nil,Nat.zero_add,Nat.reduceAdd,Nat.reduceLT,List.set_cons_succ,List.set_cons_zero,Nat.reduceLeDiff]
theorem zL (h:way=5):cf [x0,x1,x2,x3, .ow (c.map aq),x5, .sh (.int cell), .ow ([p].map aq), .ow ([o].map aq), .sh (.int way),x10]=some ([x0,x1,x2,x3, .ow ((c++[o]++[p]++bo++bp).map aq),x5, .sh (.int cell), .ow ([p].map aq), .ow ([o].map aq), .sh (.int way),x10], .nx):=by
  have l1:c.length+[o].length≤1000000:=by simp;lia
  have l2:(c++[o]).length+[p].length≤1000000:=by simp;lia
  have l3:(c++[o]++[p]).length+bo.length≤1000000:=by simp;lia
  have l4:(c++[o]++[p]++bo).length+bp.length≤1000000:=by simp;lia
  generalize hP:[p]=P at *
  generalize hO:[o]=O at *
  subst h
  simp only [cf,aN,hU,bY,ae,aa,List.getElem?_cons_succ,List.getElem?_cons_zero,Sl.isBr,Bool.false_and,Bool.false_eq_true,pC,eM,dh,look,Sl.val,Option.bind_some,if_false,aT,Int.reduceEq,decide_false,Option.map_some,ao,aD,dZ,cb,aj,ad,am,PL.settle,frz,frzAll,aA,aM,ix,bI,cH,Bool.not_false,Bool.true_or,Bool.and_true,bw,jb,gz,gA,bO,aF,dC,fF,aP,Option.any_some,List.length_map,←List.map_append,decide_true,l1,if_true,l2,bb,e3,l3,e2,l4,List.length_cons,List.length_nil,Nat.zero_add,Nat.reduceAdd,Nat.reduceLT,List.set_cons_succ,List.set_cons_zero]
theorem zM (h1:way≠1) (h2:way≠2) (h3:way≠3) (h4:way≠4) (h5:way≠5):cf [x0,x1,x2,x3, .ow (c.map aq),x5, .sh (.int cell), .ow ([p].map aq), .ow ([o].map aq), .sh (.int way),x10]=some ([x0,x1,x2,x3, .ow ((c++[p]).map aq),x5, .sh (.int cell), .ow ([p].map aq), .ow ([o].map aq), .sh (.int way),x10], .nx):=by
  have l1:c.length+[p].length≤1000000:=by simp;lia
  generalize hP:[p]=P at *
  simp only [cf,aN,hU,bY,ae,aa,List.map_cons,List.map_nil,List.getElem?_cons_succ,List.getElem?_cons_zero,Sl.isBr,Bool.false_and,Bool.false_eq_true,pC,eM,dh,look,Sl.val,Option.bind_some,if_false,aT,h1,decide_false,Option.map_some,h2,ao,aD,dZ,cb,aj,ad,am,PL.settle,frz,frzAll,aA,aM,ix,bI,cH,Bool.not_false,Bool.true_or,Bool.and_true,bw,jb,gz,gA,bO,aF,dC,fF,aP,Option.any_some,List.length_map,l1,decide_true,←List.map_append,if_true,bb,h3,h4,h5,List.length_cons,List.length_nil,Nat.zero_add,Nat.reduceLeDiff,Nat.reduceAdd,Nat.reduceLT,List.set_cons_succ,List.set_cons_zero]
theorem zN (q n:Int) (d:fb 3001=true) (hn:(c.length:Int)+1=n) (n0:0 < n) (hq:cell / 3001 % n=q) (h:way=4):∃s10,cf [x0,x1,x2,x3, .ow (c.map aq),x5, .sh (.int cell), .ow ([p].map aq), .ow ([o].map aq), .sh (.int way),x10]=some ([x0,x1,x2,x3, .ow ((cutL c none (some q)++[o]++[((p.1,0):Pc)]++bo++cutL c (some q) none).map aq),x5, .sh (.int cell), .ow ([p].map aq), .ow ([o].map aq), .sh (.int way),s10], .nx):=by
  have k1:=jr c none (some q)
  have k2:=jr c (some q) none
  have lc:c.length≤1000000:=by lia
  have l1:(cutL c none (some q)).length+[o].length≤1000000:=by simp;lia
  have l2:(cutL c none (some q)++[o]).length+1≤1000000:=by simp;lia
  have l3:(cutL c none (some q)++[o]++[((p.1,0):Pc)]).length+bo.length≤1000000:=by simp;lia
  have l4:(cutL c none (some q)++[o]++[((p.1,0):Pc)]++bo).length+(cutL c (some q) none).length≤1000000:=by simp;lia
  have m:∀X:List Pc,X.map aq++[PyData.tuple [.str ⟨#[p.1]⟩, .int 0]]=(X++[((p.1,0):Pc)]).map aq:=fun X=>by simp [aq]
  have hp:[p].map aq=[PyData.tuple [.str ⟨#[p.1]⟩, .int p.2]]:=rfl
  generalize hO:[o]=O at *
  rw [hp] at e2 ⊢
  subst h
  refine ⟨.sh (.int q),?_⟩
  simp only [cf,aN,hU,bY,ae,aa,List.getElem?_cons_succ,List.getElem?_cons_zero,Sl.isBr,Bool.false_and,Bool.false_eq_true,pC,eM,dh,look,Sl.val,Option.bind_some,if_false,aT,Int.reduceEq,decide_false,Option.map_some,ao,aD,dZ,cb,aj,ad,am,PL.settle,frz,frzAll,aA,aM,ix,bI,cH,Bool.not_false,Bool.true_or,Bool.and_true,bw,jb,gz,gA,bO,aF,dC,fF,aP,Option.any_some,List.length_map,List.length_cons,List.length_nil,Nat.zero_add,Nat.reduceLeDiff,List.cons_append,List.nil_append,decide_true,d,if_true,bb,hn,n0,hq,Nat.reduceAdd,Nat.reduceLT,List.set_cons_succ,List.set_cons_zero,pq,df,Bool.or_true,l1,←List.map_append,ii,l2,m,e3,l3,l4]
end
theorem Bd (x1:Sl) (sc ws:List PyData) (most k z cell u t n wy:Int) (y1 y2:Nat) (c:List Pc) (a5 a6 a7 a8 a9 a10:Sl) (ea:ar [.list sc, .int k]=some (.sh (.int z))) (es:bi [.int (z+k), .int k]=some (.sh (.int cell))) (eu:bi [.int z, .int (50+k)]=some (.sh (.int u))) (et:bq [.int u]=some (.sh (.int t))) (hn:(ws.length:Int)=n) (hl:ws.length≤1000000) (n0:0 < n) (d7:fb 7=true) (d53:fb 53=true) (d401:fb 401=true) (d2:fb 2=true) (i1:atI ws (cell / 7 % n)=some (.str ⟨#[y1]⟩)) (i2:atI ws (cell / 53 % n)=some (.str ⟨#[y2]⟩)) (lc:c.length≤1000000) (L:Int) (hL:(c.length:Int)=L) (hw:(most / 2 - 4 < L∧wy=0)∨(¬most / 2 - 4 < L∧wy=cell % 7)):
    (bB (.int k) [.sh (.list sc),x1, .sh (.list ws), .sh (.int most), .ow (c.map aq),a5,a6,a7,a8,a9,a10]).bind bC=cf [.sh (.list sc),x1, .sh (.list ws), .sh (.int most), .ow (c.map aq), .sh (.int k), .sh (.int cell), .ow ([((y1,t):Pc)].map aq), .ow ([((y2,1+cell / 401 % 3):Pc)].map aq), .sh (.int wy),a10]:=by
  have gl:bC=aA (ao 6 (aj bi (ad false (ae aD false (aj ar (ad false (aa 0) (ad false (aa 5) am))) (aa 5)) (ad false (aa 5) am))))
    (aA (ao 7 (bO (aF (dC (aF (ae fF false (aa 2) (ae bw false (ae aM false (aa 6) (pC (.int 7))) (bI cH (ad false (aa 2) am)))) (aF (aj bq (ad false (aj bi (ad false (aj ar (ad false (aa 0) (ad false (aa 5) am))) (ad false (ae aD false (pC (.int 50)) (aa 5)) am))) am)) aP))) aP)))
    (aA (ao 8 (bO (aF (dC (aF (ae fF false (aa 2) (ae bw false (ae aM false (aa 6) (pC (.int 53))) (bI cH (ad false (aa 2) am)))) (aF (ae aD false (pC (.int 1)) (ae bw false (ae aM false (aa 6) (pC (.int 401))) (pC (.int 3)))) aP))) aP)))
    (aA (ao 9 (ae bw false (aa 6) (pC (.int 7))))
    (aA (aN (bY (ae (dh (eX .gt)) false (bI cH (ad false (aa 4) am)) (ae il false (ae aM false (aa 3) (pC (.int 2))) (pC (.int 4))))) (ao 9 (pC (.int 0))) aH) cf)))):=rfl
  have tt:bB (.int k) [.sh (.list sc),x1, .sh (.list ws), .sh (.int most), .ow (c.map aq),a5,a6,a7,a8,a9,a10]=some [.sh (.list sc),x1, .sh (.list ws), .sh (.int most), .ow (c.map aq), .sh (.int k),a6,a7,a8,a9,a10]:=rfl
  have s6:ao 6 (aj bi (ad false (ae aD false (aj ar (ad false (aa 0) (ad false (aa 5) am))) (aa 5)) (ad false (aa 5) am))) [.sh (.list sc),x1, .sh (.list ws), .sh (.int most), .ow (c.map aq), .sh (.int k),a6,a7,a8,a9,a10]=some ([.sh (.list sc),x1, .sh (.list ws), .sh (.int most), .ow (c.map aq), .sh (.int k), .sh (.int cell),a7,a8,a9,a10], .nx):=by
    simp only [ao,aj,ad,ae,aa,List.getElem?_cons_zero,Sl.isBr,Bool.false_and,Bool.false_eq_true,am,Option.map_some,if_false,Option.bind_some,List.getElem?_cons_succ,bb,look,Sl.val,ea,aD,dZ,cb,Bool.not_false,Bool.true_or,Bool.and_true,es,PL.settle,frz,frzAll,List.length_cons,List.length_nil,Nat.zero_add,Nat.reduceAdd,Nat.reduceLT,List.set_cons_succ,List.set_cons_zero,if_true]
  have s7:ao 7 (bO (aF (dC (aF (ae fF false (aa 2) (ae bw false (ae aM false (aa 6) (pC (.int 7))) (bI cH (ad false (aa 2) am)))) (aF (aj bq (ad false (aj bi (ad false (aj ar (ad false (aa 0) (ad false (aa 5) am))) (ad false (ae aD false (pC (.int 50)) (aa 5)) am))) am)) aP))) aP)) [.sh (.list sc),x1, .sh (.list ws), .sh (.int most), .ow (c.map aq), .sh (.int k), .sh (.int cell),a7,a8,a9,a10]=some ([.sh (.list sc),x1, .sh (.list ws), .sh (.int most), .ow (c.map aq), .sh (.int k), .sh (.int cell), .ow ([((y1,t):Pc)].map aq),a8,a9,a10], .nx):=by
    simp only [ao,bO,aF,dC,ae,aa,List.getElem?_cons_succ,List.getElem?_cons_zero,Sl.isBr,Bool.false_and,Bool.false_eq_true,pC,aM,dh,look,Sl.val,ix,Option.bind_some,if_false,bI,ad,am,Option.map_some,cH,bw,fF,dZ,cb,d7,if_true,bb,hn,n0,decide_true,i1,frz,aj,aD,Bool.not_false,Bool.true_or,Bool.and_true,aP,ea,eu,et,List.length_cons,List.length_nil,Nat.zero_add,Nat.reduceAdd,Nat.reduceLeDiff,PL.settle,frzAll,Nat.reduceLT,List.set_cons_succ,List.set_cons_zero,List.map_cons,aq,List.map_nil]
  have s8:ao 8 (bO (aF (dC (aF (ae fF false (aa 2) (ae bw false (ae aM false (aa 6) (pC (.int 53))) (bI cH (ad false (aa 2) am)))) (aF (ae aD false (pC (.int 1)) (ae bw false (ae aM false (aa 6) (pC (.int 401))) (pC (.int 3)))) aP))) aP)) [.sh (.list sc),x1, .sh (.list ws), .sh (.int most), .ow (c.map aq), .sh (.int k), .sh (.int cell), .ow ([((y1,t):Pc)].map aq),a8,a9,a10]=some ([.sh (.list sc),x1, .sh (.list ws), .sh (.int most), .ow (c.map aq), .sh (.int k), .sh (.int cell), .ow ([((y1,t):Pc)].map aq), .ow ([((y2,1+cell / 401 % 3):Pc)].map aq),a9,a10], .nx):=by
    simp only [ao,bO,aF,dC,ae,aa,List.map_cons,aq,List.map_nil,List.getElem?_cons_succ,List.getElem?_cons_zero,Sl.isBr,Bool.false_and,Bool.false_eq_true,pC,aM,dh,look,Sl.val,ix,Option.bind_some,if_false,bI,ad,am,Option.map_some,cH,bw,fF,dZ,cb,d53,if_true,bb,hn,n0,decide_true,i2,frz,aD,Bool.not_false,Bool.true_or,Bool.and_true,aP,d401,Int.reduceLT,List.length_cons,List.length_nil,Nat.zero_add,Nat.reduceAdd,Nat.reduceLeDiff,PL.settle,frzAll,Nat.reduceLT,List.set_cons_succ,List.set_cons_zero]
  have s9:ao 9 (ae bw false (aa 6) (pC (.int 7))) [.sh (.list sc),x1, .sh (.list ws), .sh (.int most), .ow (c.map aq), .sh (.int k), .sh (.int cell), .ow ([((y1,t):Pc)].map aq), .ow ([((y2,1+cell / 401 % 3):Pc)].map aq),a9,a10]=some ([.sh (.list sc),x1, .sh (.list ws), .sh (.int most), .ow (c.map aq), .sh (.int k), .sh (.int cell), .ow ([((y1,t):Pc)].map aq), .ow ([((y2,1+cell / 401 % 3):Pc)].map aq), .sh (.int (cell % 7)),a10], .nx):=by
    simp only [ao,ae,aa,List.map_cons,List.map_nil,List.getElem?_cons_succ,List.getElem?_cons_zero,Sl.isBr,Bool.false_and,Bool.false_eq_true,pC,bw,dh,look,Sl.val,ix,Option.bind_some,if_false,Int.reduceLT,decide_true,if_true,Option.map_some,PL.settle,frz,frzAll,List.length_cons,List.length_nil,Nat.zero_add,Nat.reduceAdd,Nat.reduceLT,List.set_cons_succ,List.set_cons_zero]
  have si:(aN (bY (ae (dh (eX .gt)) false (bI cH (ad false (aa 4) am)) (ae il false (ae aM false (aa 3) (pC (.int 2))) (pC (.int 4))))) (ao 9 (pC (.int 0))) aH) [.sh (.list sc),x1, .sh (.list ws), .sh (.int most), .ow (c.map aq), .sh (.int k), .sh (.int cell), .ow ([((y1,t):Pc)].map aq), .ow ([((y2,1+cell / 401 % 3):Pc)].map aq), .sh (.int (cell % 7)),a10]=some ([.sh (.list sc),x1, .sh (.list ws), .sh (.int most), .ow (c.map aq), .sh (.int k), .sh (.int cell), .ow ([((y1,t):Pc)].map aq), .ow ([((y2,1+cell / 401 % 3):Pc)].map aq), .sh (.int wy),a10], .nx):=by
    rcases hw with ⟨h,rfl⟩ | ⟨h,rfl⟩
    · simp only [aN,bY,ae,bI,ad,aa,List.map_cons,List.map_nil,List.getElem?_cons_succ,List.getElem?_cons_zero,Sl.isBr,Bool.false_and,Bool.false_eq_true,am,Option.map_some,if_false,Option.bind_some,cH,bb,look,Sl.val,List.length_map,hL,pC,aM,dh,ix,il,if_true,eX,Cm.i,Cm.s,d2,h,decide_true,ao,PL.settle,frz,frzAll,aH,List.length_cons,List.length_nil,Nat.zero_add,Nat.reduceAdd,Nat.reduceLT,List.set_cons_succ,List.set_cons_zero]
    · simp only [aN,bY,ae,bI,ad,aa,List.map_cons,List.map_nil,List.getElem?_cons_succ,List.getElem?_cons_zero,Sl.isBr,Bool.false_and,Bool.false_eq_true,am,Option.map_some,if_false,Option.bind_some,cH,bb,look,Sl.val,List.length_map,hL,pC,aM,dh,ix,il,if_true,eX,Cm.i,Cm.s,d2,h,decide_false,ao,PL.settle,frz,frzAll,aH,List.length_cons,List.length_nil,Nat.zero_add,Nat.reduceAdd,Nat.reduceLT,List.set_cons_succ,List.set_cons_zero]
  rw [tt,Option.bind_some,gl,aR s6,aR s7,aR s8,aR s9,aR si]
theorem qi (ns:List Int) (x1:Sl) (w:List Nat) (hw:0 < w.length) (hw2:w.length≤1000) (hn:∀a∈w,az a) (most:Nat) (hm:most≤100):∀(k lo:Nat) (c:List Pc) (a5 a6 a7 a8 a9 a10:Sl),lo+k≤1000→k≤50→c.length+k≤most+100→CordW w c→
    ∃(c':List Pc) (b5 b6 b7 b8 b9 b10:Sl),bT bB bC (iA lo k) [.sh (.list (ns.map .int)),x1, .sh (.list (w.map fc)), .sh (.int most), .ow (c.map aq),a5,a6,a7,a8,a9,a10]=some ([.sh (.list (ns.map .int)),x1, .sh (.list (w.map fc)), .sh (.int most), .ow (c'.map aq),b5,b6,b7,b8,b9,b10], .nx)∧c'.length≤most+100∧CordW w c'
  | 0,lo,c,a5,a6,a7,a8,a9,a10,_,_,hc,kc=>⟨c,a5,a6,a7,a8,a9,a10,rfl,by assumption,kc⟩
  | k+1,lo,c,a5,a6,a7,a8,a9,a10,hlo,hk,hc,kc=>by
    have ea:=iX ns lo
    obtain ⟨cell,es⟩:=kD (ns.getD lo 0+lo) lo (by (solve_by_elim (maxDepth:=2) only [*,Nat.le_trans,Nat.lt_of_lt_of_le,Nat.lt_of_le_of_lt,Nat.le_of_lt])) (by lia)
    obtain ⟨u,eu⟩:=kD (ns.getD lo 0) (50+lo) (by omega) (by omega)
    obtain ⟨t,et,tb⟩:=oB u
    obtain ⟨y1,h1,i1⟩:=oG hw (cell / 7)
    obtain ⟨y2,h2,i2⟩:=oG hw (cell / 53)
    have e3m:=Int.emod_nonneg (cell / 401) (show (3:Int)≠0 by decide)
    have e3n:=Int.emod_lt_of_pos (cell / 401) (show (0:Int) < 3 by decide)
    have kp:CordW w [((y1,t):Pc)]:=fun q hq=>by rw [List.mem_singleton.mp hq];exact ⟨h1,tb⟩
    have kz:CordW w [((y1,0):Pc)]:=fun q hq=>by rw [List.mem_singleton.mp hq];exact ⟨h1,by show (0:Int).natAbs < 2 ^ 100;decide⟩
    have ko:CordW w [((y2,1+cell / 401 % 3):Pc)]:=fun q hq=>by
      rw [List.mem_singleton.mp hq]
      refine ⟨h2,?_⟩
      show (1+cell / 401 % 3).natAbs < 2 ^ 100
      generalize cell / 401 % 3=z at e3m e3n
      omega
    have bc:=iH c (by omega)
    have bp:=iH [((y1,t):Pc)] (by simp)
    have bo:=iH [((y2,1+cell / 401 % 3):Pc)] (by simp)
    have lbc:=NH.eV c
    have step:∃(c1:List Pc) (b6 b7 b8 b9 b10:Sl),(bB (.int lo) [.sh (.list (ns.map .int)),x1, .sh (.list (w.map fc)), .sh (.int most), .ow (c.map aq),a5,a6,a7,a8,a9,a10]).bind bC=some ([.sh (.list (ns.map .int)),x1, .sh (.list (w.map fc)), .sh (.int most), .ow (c1.map aq), .sh (.int lo),b6,b7,b8,b9,b10], .nx)∧c1.length+k≤most+100∧CordW w c1:=by
      obtain ⟨wy,hwy,kq⟩:∃wy:Int,(((most:Int) / 2 - 4 < (c.length:Int)∧wy=0)∨(¬(most:Int) / 2 - 4 < (c.length:Int)∧wy=cell % 7))∧(wy≠0→2*c.length+8≤most):=by
        by_cases b:(most:Int) / 2 - 4 < (c.length:Int)
        · exact ⟨0,Or.inl ⟨b,rfl⟩,fun z=>absurd rfl z⟩
        · exact ⟨_,Or.inr ⟨b,rfl⟩,fun _=>by omega⟩
      have sa:=Bd x1 (ns.map .int) (w.map fc) most lo (ns.getD lo 0) cell u t w.length wy y1 y2 c a5 a6 a7 a8 a9 a10 ea es eu et (by simp) (by rw [List.length_map];omega) (by omega) (by decide) (by decide) (by decide) (by decide) i1 i2 (by omega) c.length rfl hwy
      rw [sa]
      by_cases w12:wy=1∨wy=2
      · have:=kq (by omega)
        exact ⟨_,_,_,_,_,_,xK _ _ _ _ _ _ cell wy c _ _ _ _ _ (by omega) (by omega) (by simp [NH.contr]) (by simp [NH.contr]) bc bp bo w12,by simp [NH.eV];omega,((kc.append kp).append kc.contr).append kp.contr⟩
      · by_cases w3:wy=3
        · have:=kq (by omega)
          exact ⟨_,_,_,_,_,_,zK _ _ _ _ _ _ cell wy c _ _ _ _ _ (by omega) (by omega) (by simp [NH.contr]) (by simp [NH.contr]) bc bp bo w3,by simp [NH.eV];omega,(kp.append kc).append kp.contr⟩
        · by_cases w4:wy=4
          · have:=kq (by omega)
            obtain ⟨s10,e4⟩:=zN (.sh (.list (ns.map .int))) x1 (.sh (.list (w.map fc))) (.sh (.int most)) (.sh (.int lo)) a10 cell wy c (y1,t) (y2,1+cell / 401 % 3) _ _ _ (by omega) (by omega) (by simp [NH.contr]) (by simp [NH.contr]) bc bp bo _ _ (by decide) rfl (by omega) rfl w4
            have k1:=jr c none (some (cell / 3001 % ((c.length:Int)+1)))
            have k2:=jr c (some (cell / 3001 % ((c.length:Int)+1))) none
            exact ⟨_,_,_,_,_,_,e4,by simp [NH.eV];omega,((((kc.cutL _ _).append ko).append kz).append ko.contr).append (kc.cutL _ _)⟩
          · by_cases w5:wy=5
            · have:=kq (by omega)
              exact ⟨_,_,_,_,_,_,zL _ _ _ _ _ _ cell wy c _ _ _ _ _ (by omega) (by omega) (by simp [NH.contr]) (by simp [NH.contr]) bc bp bo w5,by simp [NH.eV];omega,(((kc.append ko).append kp).append ko.contr).append kp.contr⟩
            · exact ⟨_,_,_,_,_,_,zM _ _ _ _ _ _ cell wy c _ _ _ _ _ (by omega) (by omega) (by simp [NH.contr]) (by simp [NH.contr]) bc bp bo (by omega) (by omega) w3 w4 w5,by simp;omega,kc.append kp⟩
    obtain ⟨c1,b6,b7,b8,b9,b10,e,l1,k1⟩:=step
    obtain ⟨c',d5,d6,d7,d8,d9,d10,e2,l2,k2⟩:=qi ns x1 w hw hw2 hn most hm k (lo+1) c1 (.sh (.int lo)) b6 b7 b8 b9 b10 (by omega) (by omega) l1 k1
    refine ⟨c',d5,d6,d7,d8,d9,d10,?_,l2,k2⟩
    rw [jY,bT,e]
    exact e2
theorem v9 (x0 x2 x3 x4:Sl) (f:Int) (ob1: -1000000≤f) (ob2:f+8≤1000000):jX (ad false (aa 1) (ad false (ae aD false (aa 1) (pC (.int 8))) am)) [x0, .sh (.int f),x2,x3,x4, .no, .no, .no, .no, .no, .no]=some (iA f 8,[x0, .sh (.int f),x2,x3,x4, .no, .no, .no, .no, .no, .no]):=by
  have l:(ad false (aa 1) (ad false (ae aD false (aa 1) (pC (.int 8))) am)) [x0, .sh (.int f),x2,x3,x4, .no, .no, .no, .no, .no, .no]=some ([.sh (.int f), .sh (.int (f+8))],[x0, .sh (.int f),x2,x3,x4, .no, .no, .no, .no, .no, .no]):=by
    simp only [ad,aa,List.getElem?_cons_succ,List.getElem?_cons_zero,Sl.isBr,Bool.false_and,Bool.false_eq_true,ae,pC,aD,look,Sl.val,dZ,cb,Option.bind_some,Bool.not_false,Bool.true_or,Bool.and_true,if_false,am,Option.map_some]
  unfold jX
  rw [l,Option.bind_some]
  show (if -1000000≤f∧f≤1000000∧ -1000000≤f+8∧f+8≤1000000 then some (iA f (f+8 - f).toNat,[x0, .sh (.int f),x2,x3,x4, .no, .no, .no, .no, .no, .no]) else none)=_
  rw [if_pos ⟨ob1,by lia,by lia,ob2⟩,show (f+8 - f).toNat=8 by lia]
theorem Be (x0:PyData) (f M:Int) (ws C C2:List PyData) (b5 b6 b7 b8 b9 b10:Sl) (ob1: -1000000≤f) (ob2:f+8≤1000000) (lp:bT bB bC (iA f 8) [.sh x0, .sh (.int f), .sh (.list ws), .sh (.int M), .ow [], .no, .no, .no, .no, .no, .no]=some ([.sh x0, .sh (.int f), .sh (.list ws), .sh (.int M), .ow C,b5,b6,b7,b8,b9,b10], .nx)) (hc:qO C none (some M)=C2) (fC:bx C2=true):cD [x0, .int f, .list ws, .int M]=some (.ow C2):=by
  have gl:fU=aA (ao 4 (bO aP)) (aA (d0 (jX (ad false (aa 1) (ad false (ae aD false (aa 1) (pC (.int 8))) am))) bB bC) (aV (jb false (aa 4) gz (gA (aa 3))))):=rfl
  have s4:ao 4 (bO aP) [.sh x0, .sh (.int f), .sh (.list ws), .sh (.int M), .no, .no, .no, .no, .no, .no, .no]=some ([.sh x0, .sh (.int f), .sh (.list ws), .sh (.int M), .ow [], .no, .no, .no, .no, .no, .no], .nx):=by
    simp only [ao,bO,aP,Option.bind_some,List.length_nil,Nat.reduceLeDiff,if_true,PL.settle,frz,frzAll,List.length_cons,Nat.zero_add,Nat.reduceAdd,Nat.reduceLT,List.set_cons_succ,List.set_cons_zero]
  have fo:d0 (jX (ad false (aa 1) (ad false (ae aD false (aa 1) (pC (.int 8))) am))) bB bC [.sh x0, .sh (.int f), .sh (.list ws), .sh (.int M), .ow [], .no, .no, .no, .no, .no, .no]=some ([.sh x0, .sh (.int f), .sh (.list ws), .sh (.int M), .ow C,b5,b6,b7,b8,b9,b10], .nx):=by
    delta d0
    show Option.bind _ _=_
    rw [v9 _ _ _ _ f ob1 ob2]
    exact lp
  have rt:aV (jb false (aa 4) gz (gA (aa 3))) [.sh x0, .sh (.int f), .sh (.list ws), .sh (.int M), .ow C,b5,b6,b7,b8,b9,b10]=some ([.sh x0, .sh (.int f), .sh (.list ws), .sh (.int M), .ow C,b5,b6,b7,b8,b9,b10], .rt (.ow C2)):=by
    simp only [aV,jb,aa,List.getElem?_cons_succ,List.getElem?_cons_zero,Sl.isBr,Bool.false_and,Bool.false_eq_true,gz,gA,look,Sl.val,dZ,cb,Option.bind_some,if_false,Option.any_some,Bool.not_false,hc,Bool.true_or,if_true]
  have g:fU [.sh x0, .sh (.int f), .sh (.list ws), .sh (.int M), .no, .no, .no, .no, .no, .no, .no]=some ([.sh x0, .sh (.int f), .sh (.list ws), .sh (.int M), .ow C,b5,b6,b7,b8,b9,b10], .rt (.ow C2)):=by
    rw [gl,aR s4,aR fo]
    exact rt
  simp only [cD,eJ,fP,bj,List.length_cons,List.length_nil,List.map_cons,List.map_nil,List.replicate,List.cons_append,List.nil_append,Nat.reduceAdd,Nat.reduceSub,g,Option.bind_some,cI,bN,fC,if_true,reduceIte]
theorem oI (ns:List Int) (w:List Nat) (hw:0 < w.length) (hw2:w.length≤1000) (hn:∀a∈w,az a) (first most:Nat) (hf:first≤100) (hm:most≤100):∃c:List Pc,cD [.list (ns.map .int), .int first, .list (w.map fc), .int most]=some (.ow (c.map aq))∧c.length≤most∧CordW w c:=by
  obtain ⟨c,b5,b6,b7,b8,b9,b10,e,l,k⟩:=qi ns (.sh (.int first)) w hw hw2 hn most hm 8 first [] .no .no .no .no .no .no (by lia) (by exact Nat.le_add_left _ _) (by simp) nn
  simp only [List.map_nil] at e
  refine ⟨cutL c none (some (most:Int)),Be _ _ _ _ _ _ _ _ _ _ _ _ (by (solve_by_elim (maxDepth:=2) only [*,Nat.le_trans,Nat.lt_of_lt_of_le,Nat.lt_of_le_of_lt,Nat.le_of_lt])) (by omega) e (by rw [pq]) (df _),?_,k.cutL _ _⟩
  have:=tU c (show (0:Int)≤(most:Int) by (solve_by_elim (maxDepth:=2) only [*,Nat.le_trans,Nat.lt_of_lt_of_le,Nat.lt_of_le_of_lt,Nat.le_of_lt]))
  lia
theorem xL (x0:PyData) (f z M:Int) (ws C:List PyData) (ea:ar [x0, .int f]=some (.sh (.int z))) (h:¬(-1000000000000000000 < z∧z < 1000000000000000000)) (e:bu [.int z, .list ws, .int M]=some (.ow C)) (fC:bx C=true):bG [x0, .int f, .list ws, .int M]=some (.ow C):=by
  by_cases b1: -1000000000000000000 < z
  · have b2:¬z < 1000000000000000000:=fun q=>h ⟨b1,q⟩
    simp only [bG,eJ,List.length_cons,List.length_nil,Nat.zero_add,Nat.reduceAdd,fP,fu,aA,ao,aj,ad,aa,bj,List.map_cons,List.map_nil,Nat.reduceSub,List.replicate,List.cons_append,List.nil_append,List.getElem?_cons_zero,Sl.isBr,Bool.false_and,Bool.false_eq_true,am,Option.map_some,if_false,Option.bind_some,List.getElem?_cons_succ,bb,look,Sl.val,ea,PL.settle,frz,frzAll,Nat.reduceLT,List.set_cons_succ,List.set_cons_zero,if_true,aN,de,bY,gw,ig,ae,pC,iy,dh,ix,Int.reducePow,Int.reduceNeg,Int.reduceLE,Int.reduceLT,and_self,decide_true,Int.reduceToNat,fZ,Bool.or_false,eX,Cm.i,Cm.s,aV,aH,aD,dZ,cb,Bool.not_false,Bool.true_or,Bool.and_true,b2,decide_false,b1,e,cI,bN,fC]
  · simp only [bG,eJ,List.length_cons,List.length_nil,Nat.zero_add,Nat.reduceAdd,fP,fu,aA,ao,aj,ad,aa,bj,List.map_cons,List.map_nil,Nat.reduceSub,List.replicate,List.cons_append,List.nil_append,List.getElem?_cons_zero,Sl.isBr,Bool.false_and,Bool.false_eq_true,am,Option.map_some,if_false,Option.bind_some,List.getElem?_cons_succ,bb,look,Sl.val,ea,PL.settle,frz,frzAll,Nat.reduceLT,List.set_cons_succ,List.set_cons_zero,if_true,aN,de,bY,gw,ig,ae,pC,iy,dh,ix,Int.reducePow,Int.reduceNeg,Int.reduceLE,Int.reduceLT,and_self,decide_true,Int.reduceToNat,fZ,Bool.or_false,eX,Cm.i,Cm.s,aV,aH,aD,dZ,cb,Bool.not_false,Bool.true_or,Bool.and_true,b1,decide_false,e,cI,bN,fC]
theorem xM (x0:PyData) (f z M:Int) (ws C:List PyData) (ea:ar [x0, .int f]=some (.sh (.int z))) (h1: -1000000000000000000 < z) (h2:z < 1000000000000000000) (e:cD [x0, .int (f+1), .list ws, .int M]=some (.ow C)) (fC:bx C=true):bG [x0, .int f, .list ws, .int M]=some (.ow C):=by
  simp only [bG,eJ,List.length_cons,List.length_nil,Nat.zero_add,Nat.reduceAdd,fP,fu,aA,ao,aj,ad,aa,bj,List.map_cons,List.map_nil,Nat.reduceSub,List.replicate,List.cons_append,List.nil_append,List.getElem?_cons_zero,Sl.isBr,Bool.false_and,Bool.false_eq_true,am,Option.map_some,if_false,Option.bind_some,List.getElem?_cons_succ,bb,look,Sl.val,ea,PL.settle,frz,frzAll,Nat.reduceLT,List.set_cons_succ,List.set_cons_zero,if_true,aN,de,bY,gw,ig,ae,pC,iy,dh,ix,Int.reducePow,Int.reduceNeg,Int.reduceLE,Int.reduceLT,and_self,decide_true,Int.reduceToNat,fZ,Bool.or_false,eX,Cm.i,Cm.s,aV,aH,aD,dZ,cb,Bool.not_false,Bool.true_or,Bool.and_true,h2,h1,Bool.not_true,e,cI,bN,fC]
theorem qj (ns:List Int) (w:List Nat) (hw:0 < w.length) (hw2:w.length≤1000) (hn:∀a∈w,az a) (first most:Nat) (hf:first≤90) (hm:most≤100):∃c:List Pc,bG [.list (ns.map .int), .int first, .list (w.map fc), .int most]=some (.ow (c.map aq))∧c.length≤most∧CordW w c:=by
  have ea:=iX ns first
  by_cases h: -1000000000000000000 < ns.getD first 0∧ns.getD first 0 < 1000000000000000000
  · obtain ⟨c,e,l,k⟩:=oI ns w hw hw2 hn (first+1) most (by lia) hm
    rw [show ((first+1:Nat):Int)=(first:Int)+1 by omega] at e
    exact ⟨c,xM _ _ _ _ _ _ ea h.1 h.2 e (df _),l,k⟩
  · obtain ⟨c,e,l,k⟩:=oH w hw hw2 hn (ns.getD first 0) most hm
    exact ⟨c,xL _ _ _ _ _ _ ea h e (df _),l,k⟩
theorem i4 (x0:Sl):∀(c:List Pc) (st:List Pc) (a b d:Sl),st.length+c.length≤100000→∃a' b' d',bT aZ a_ (c.map aq) [x0, .ow (st.reverse.map aq),a,b,d]=some ([x0, .ow ((c.foldl NH.stp st).reverse.map aq),a',b',d'], .nx)
  | [],st,a,b,d,_=>⟨a,b,d,rfl⟩
  | p::c,st,a,b,d,h=>by
    have step:∃a' b' d',(aZ (aq p) [x0, .ow (st.reverse.map aq),a,b,d]).bind a_=some ([x0, .ow ((NH.stp st p).reverse.map aq),a',b',d'], .nx):=by
      cases st with
      | nil=>
        by_cases z:p.2=0
        · simp only [aZ,gC,aq,z,List.length_cons,List.length_nil,Nat.zero_add,Nat.reduceAdd,c0,aI,List.reverse_nil,List.map_nil,Nat.reduceLT,List.set_cons_succ,List.set_cons_zero,if_true,Option.bind_some,gB,List.isEmpty_nil,a_,eM,jQ,aA,ao,aa,List.getElem?_cons_succ,List.getElem?_cons_zero,PL.settle,frz,frzAll,aN,eW,eU,Sl.val,bY,ae,Sl.isBr,Bool.false_and,Bool.false_eq_true,ig,pC,look,fZ,Option.map_some,fF,dZ,cb,if_false,dh,iY,aD,aH,bS,aO,dC,aF,aP,gW,Bool.not_true,Option.any_some,Nat.reduceSub,aT,decide_true,Nat.reduceLeDiff,List.nil_append,NH.stp]
          exact ⟨_,_,_,rfl⟩
        · simp only [aZ,gC,aq,List.length_cons,List.length_nil,Nat.zero_add,Nat.reduceAdd,c0,aI,List.reverse_nil,List.map_nil,Nat.reduceLT,List.set_cons_succ,List.set_cons_zero,if_true,Option.bind_some,gB,List.isEmpty_nil,a_,eM,jQ,aA,ao,aa,List.getElem?_cons_succ,List.getElem?_cons_zero,PL.settle,frz,frzAll,aN,eW,eU,Sl.val,bY,ae,Sl.isBr,Bool.false_and,Bool.false_eq_true,ig,pC,look,fZ,Option.map_some,fF,dZ,cb,if_false,dh,iY,aD,aH,bS,aO,dC,aF,aP,gW,Bool.not_true,Option.any_some,Nat.reduceSub,aT,z,decide_false,Bool.not_false,Nat.reduceLeDiff,List.nil_append,NH.stp]
          exact ⟨_,_,_,rfl⟩
      | cons q st=>
        have lb:st.length < 1000000∧st.length+1 < 1000000:=by simp at h;lia
        by_cases e:q.1=p.1
        · by_cases z:q.2+p.2=0
          · simp only [aZ,gC,c0,aI,List.reverse_cons,List.map_append,List.map_cons,List.map_nil,List.length_cons,List.length_nil,Nat.zero_add,Nat.reduceAdd,Nat.reduceLT,List.set_cons_succ,List.set_cons_zero,if_true,Option.bind_some,gB,a_,eM,jQ,NH.stp]
            simp only [aq,List.length_cons,List.length_nil,Nat.zero_add,Nat.reduceAdd,List.isEmpty_nil,e,if_true,Option.bind_some,aA,ao,aa,List.getElem?_cons_succ,List.getElem?_cons_zero,PL.settle,frz,frzAll,Nat.reduceLT,List.set_cons_succ,List.set_cons_zero,aN,eW,eU,Sl.val,bY,ae,Sl.isBr,Bool.false_and,Bool.false_eq_true,ig,pC,look,fZ,Option.map_some,fF,dZ,cb,if_false,dh,iY,aD,aH,bS,aO,dC,aF,aP,gW,kN,Bool.not_false,Option.any_some,gL,ii,gc,decide_true,List.dropLast_concat,iP,mN,Bool.true_or,Bool.and_true,z,aT,Bool.not_true,Nat.reduceLeDiff]
            simp [aq]
          · simp only [aZ,gC,c0,aI,List.reverse_cons,List.map_append,List.map_cons,List.map_nil,List.length_cons,List.length_nil,Nat.zero_add,Nat.reduceAdd,Nat.reduceLT,List.set_cons_succ,List.set_cons_zero,if_true,Option.bind_some,gB,a_,eM,jQ,NH.stp]
            simp only [aq,List.length_cons,List.length_nil,Nat.zero_add,Nat.reduceAdd,List.isEmpty_nil,e,if_true,Option.bind_some,aA,ao,aa,List.getElem?_cons_succ,List.getElem?_cons_zero,PL.settle,frz,frzAll,Nat.reduceLT,List.set_cons_succ,List.set_cons_zero,aN,eW,eU,Sl.val,bY,ae,Sl.isBr,Bool.false_and,Bool.false_eq_true,ig,pC,look,fZ,Option.map_some,fF,dZ,cb,if_false,dh,iY,aD,aH,bS,aO,dC,aF,aP,gW,kN,Bool.not_false,Option.any_some,gL,ii,gc,decide_true,List.dropLast_concat,iP,mN,Bool.true_or,Bool.and_true,aT,z,decide_false,Nat.reduceLeDiff,List.length_map,List.length_reverse,lb]
            simp [aq]
        · by_cases z:p.2=0
          · simp only [aZ,gC,c0,aI,List.reverse_cons,List.map_append,List.map_cons,List.map_nil,List.length_cons,List.length_nil,Nat.zero_add,Nat.reduceAdd,Nat.reduceLT,List.set_cons_succ,List.set_cons_zero,if_true,Option.bind_some,gB,a_,eM,jQ,NH.stp]
            simp only [aq,z,List.length_cons,List.length_nil,Nat.zero_add,Nat.reduceAdd,List.isEmpty_nil,if_true,Option.bind_some,aA,ao,aa,List.getElem?_cons_succ,List.getElem?_cons_zero,PL.settle,frz,frzAll,Nat.reduceLT,List.set_cons_succ,List.set_cons_zero,aN,eW,eU,Sl.val,bY,ae,Sl.isBr,Bool.false_and,Bool.false_eq_true,ig,pC,look,fZ,Option.map_some,fF,dZ,cb,if_false,dh,iY,aD,aH,bS,aO,dC,aF,aP,gW,kN,Bool.not_false,Option.any_some,gL,ii,gc,kP,e,decide_false,List.dropLast_concat,iP,mN,Bool.true_or,Bool.and_true,aT,decide_true,Bool.not_true,Nat.reduceLeDiff]
            simp [aq]
          · simp only [aZ,gC,c0,aI,List.reverse_cons,List.map_append,List.map_cons,List.map_nil,List.length_cons,List.length_nil,Nat.zero_add,Nat.reduceAdd,Nat.reduceLT,List.set_cons_succ,List.set_cons_zero,if_true,Option.bind_some,gB,a_,eM,jQ,NH.stp]
            simp only [aq,List.length_cons,List.length_nil,Nat.zero_add,Nat.reduceAdd,List.isEmpty_nil,if_true,Option.bind_some,aA,ao,aa,List.getElem?_cons_succ,List.getElem?_cons_zero,PL.settle,frz,frzAll,Nat.reduceLT,List.set_cons_succ,List.set_cons_zero,aN,eW,eU,Sl.val,bY,ae,Sl.isBr,Bool.false_and,Bool.false_eq_true,ig,pC,look,fZ,Option.map_some,fF,dZ,cb,if_false,dh,iY,aD,aH,bS,aO,dC,aF,aP,gW,kN,Bool.not_false,Option.any_some,gL,ii,gc,kP,e,decide_false,List.dropLast_concat,List.length_append,List.length_map,List.length_reverse,aT,z,Nat.reduceLeDiff,lb]
            simp [aq]
    obtain ⟨a',b',d',e⟩:=step
    have ih:=i4 x0 c (NH.stp st p) a' b' d' (by have:=NH.nJ st p;simp at h;lia)
    obtain ⟨a2,b2,d2,e2⟩:=ih
    refine ⟨a2,b2,d2,?_⟩
    rw [List.map_cons,bT,e]
    exact e2
theorem mr (c:List Pc) (h:c.length≤100000):di [.list (c.map aq)]=some (.ow ((NH.short c).map aq)):=by
  obtain ⟨a,b,d,e⟩:=i4 (.sh (.list (c.map aq))) c [] .no .no .no (by simpa using h)
  simp only [List.reverse_nil,List.map_nil] at e
  simp only [di,eJ,List.length_cons,List.length_nil,Nat.zero_add,fP,gf,aA,ao,bO,aP,bj,List.map_cons,List.map_nil,Nat.reduceSub,List.replicate,List.cons_append,List.nil_append,Option.bind_some,Nat.reduceLeDiff,if_true,PL.settle,frz,frzAll,Nat.reduceAdd,Nat.reduceLT,List.set_cons_succ,List.set_cons_zero,d0,bL,aa,aV,List.getElem?_cons_zero,e,List.getElem?_cons_succ,Option.map_some,cI,bN,df,Option.some.injEq]
  rfl
theorem rJ (c:List Pc) (h:c.length≤100000):fm [.list (c.map aq)]=some (.sh (.bool (decide (NH.short c=[])))):=by
  have e:decide (((NH.short c).length:Int)=0)=decide (NH.short c=[]):=by
    rw [Bool.eq_iff_iff]
    simp only [decide_eq_true_eq]
    rw [←List.length_eq_zero_iff]
    lia
  simp only [fm,eJ,List.length_cons,List.length_nil,Nat.zero_add,fP,iU,aV,ae,bI,ad,aj,aa,bj,List.map_cons,List.map_nil,Nat.sub_self,List.replicate,List.cons_append,List.nil_append,List.getElem?_cons_zero,Sl.isBr,Bool.false_and,Bool.false_eq_true,am,Option.map_some,if_false,Option.bind_some,bb,look,Sl.val,mr c h,cH,List.length_map,pC,eM,dh,aT,e,cI,bN,cY,if_true]
theorem kT (w:List Nat) (a:Nat):(Builtin.Str.occurrences ⟨w.toArray⟩ ⟨#[a]⟩ 0 (⟨w.toArray⟩:Str).length 1).isEmpty= !decide (a∈w):=by
  have h:=PySem.StrLaws.found_one ⟨w.toArray⟩ a
  rw [List.toList_toArray] at h
  rw [←h,Bool.not_not]
theorem xN {a:Nat} (h:az a):decide ([a] < (Str.ofString "a").cps.toList)=false:=by
  have e:(Str.ofString "a").cps.toList=[97]:=by decide+kernel
  rw [e]
  refine decide_eq_false fun k=>?_
  have:a < 97:=by
    cases k with
    | rel k=>exact k
    | cons k=>cases k
  exact absurd this (Nat.not_lt.mpr h.1)
theorem xO {a:Nat} (h:az a):decide ((Str.ofString "z").cps.toList < [a])=false:=by
  have e:(Str.ofString "z").cps.toList=[122]:=by decide+kernel
  rw [e]
  refine decide_eq_false fun k=>?_
  have:122 < a:=by
    cases k with
    | rel k=>exact k
    | cons k=>cases k
  exact absurd this (Nat.not_lt.mpr (Nat.le_of_lt_succ h.2))
theorem rK {a:Nat} (h:az a):fk [.str ⟨#[a]⟩]=some (.sh (.bool true)):=by
  have l:(⟨#[a]⟩:Str).length=1:=rfl
  have t:(#[a]:Array Nat).toList=[a]:=rfl
  have lo:=xN h
  have hi:=xO h
  simp only [fk,eJ,List.length_cons,List.length_nil,Nat.zero_add,fP,iT,aV,sq,ig,aa,bj,List.map_cons,List.map_nil,Nat.sub_self,List.replicate,List.cons_append,List.nil_append,List.getElem?_cons_zero,look,Sl.val,lz,Ty.is,yd,Option.map_some,Option.bind_some,ae,bI,ad,Sl.isBr,Bool.false_and,Bool.false_eq_true,am,if_false,cH,pC,eM,dh,gw,Bool.or_false,eX,Cm.i,Cm.s,bb,l,Nat.reduceLeDiff,Int.cast_ofNat_Int,if_true,aT,decide_true,hi,Bool.not_false,lo,cI,bN,cY]
theorem nq (x0:Sl):∀(w:List Nat) (a:Sl),(∀y∈w,az y)→∃a',bT fS fT (w.map fc) [x0,a]=some ([x0,a'], .nx)
  | [],a,_=>⟨a,rfl⟩
  | y::w,a,h=>by
    have n:=rK (h y (List.mem_cons_self ..))
    have e:(fS (fc y) [x0,a]).bind fT=some ([x0, .sh (fc y)], .nx):=by
      simp only [fS,aI,List.length_cons,List.length_nil,Nat.zero_add,Nat.reduceAdd,Nat.reduceLT,fc,List.set_cons_succ,List.set_cons_zero,if_true,fT,Option.bind_some,aN,de,eU,aj,ad,aa,List.getElem?_cons_succ,List.getElem?_cons_zero,Sl.isBr,Bool.false_and,Bool.false_eq_true,am,Option.map_some,if_false,bb,look,Sl.val,n,gW,Bool.not_true,aH]
    obtain ⟨a',ih⟩:=nq x0 w (.sh (fc y)) fun z hz=>h z (List.mem_cons_of_mem _ hz)
    refine ⟨a',?_⟩
    rw [List.map_cons,bT,e]
    exact ih
theorem sS (w:List Nat):gQ ⟨w.toArray⟩=w.map fc:=by simp [gQ,fc]
theorem Bf (w:List Nat):jv ⟨w.toArray⟩=w.map fW:=by simp [jv,fW]
theorem lW:∀(w:List Nat),ju (w.map fc)=some (w.map fW)
  | []=>rfl
  | a::w=>by simp only [List.map_cons,fc,ju];rw [lW w];rfl
theorem lX (w:List Nat):iB ((w.map fW).map PyData.str)=some (w.map fW):=by
  induction w with
  | nil=>rfl
  | cons a w ih=>simp only [List.map_cons,iB,ih,Option.map_some]
theorem sT (w:List Nat):((w.map fW).map (·.length)).sum+(w.map fW).length*(Str.ofString "").length=w.length:=by
  have:(Str.ofString "").length=0:=rfl
  rw [this,Nat.mul_zero,Nat.add_zero]
  induction w with
  | nil=>rfl
  | cons a w ih=>simp only [List.map_cons,List.sum_cons,ih,List.length_cons];show 1+_=_;lia
theorem qk:∀(w:List Nat),Txt.join "" (w.map fW)=⟨w.toArray⟩:=by
  intro w
  show Builtin.Str.glued "" _=_
  rw [StrLaws.glued_eq_join]
  induction w with
  | nil=>rfl
  | cons a w ih=>
    cases w with
    | nil=>rfl
    | cons b w=>
      have e:Str.join "" ((a::b::w).map fW)=(⟨#[a]⟩:Str)++""++Str.join "" ((b::w).map fW):=rfl
      rw [e,ih]
      show (⟨(#[a]++(Str.ofString "").cps)++(b::w).toArray⟩:Str)=_
      rw [show (Str.ofString "").cps=#[] by decide+kernel]
      simp
theorem nr (w:List Nat):(dY w).length≤1000000:=Nat.le_trans (List.length_filter_le _ _) (by simp)
theorem uC {w:List Nat} (h:∀y∈w,az y) (hl:w.length≤1000):eN [.str ⟨w.toArray⟩]=some (.sh (.str ⟨(dY w).toArray⟩)):=by
  obtain ⟨a,e⟩:=nq (.sh (.str ⟨w.toArray⟩)) w .no h
  have d:=jL fun y hy=>lV (h y hy)
  have d2:(w.map fW).length < 4000∧(io (w.map fW)).length < 64:=⟨by rw [List.length_map];lia,Nat.lt_of_le_of_lt (oE fun y hy=>lV (h y hy)) (by decide)⟩
  have l:=sT (dY w)
  have l2:=nr w
  simp only [eN,eJ,List.length_cons,List.length_nil,Nat.zero_add,fP,jC,aA,aN,de,eU,ig,aa,bj,List.map_cons,List.map_nil,Nat.reduceSub,List.replicate,List.cons_append,List.nil_append,List.getElem?_cons_zero,look,Sl.val,lz,Ty.is,yd,Option.map_some,Option.bind_some,gW,Bool.not_true,aH,Bool.false_eq_true,if_false,d0,bL,frz,aV,pF,dI,sy,sS,e,Bf,d2,and_self,d,if_true,lX,l,l2,qk,cI,bN,cY]
theorem kF:∀(c:List Pc) (x0 x1:Sl),cm fH bV fI (c.map aq) [x0,x1]=some ((c.map (·.1)).map fc)
  | [],x0,x1=>rfl
  | p::c,x0,x1=>by
    have e:(fH (aq p) [x0,x1])=some [.sh (.str ⟨#[p.1]⟩), .sh (.int p.2)]:=rfl
    have e2:fI [.sh (.str ⟨#[p.1]⟩), .sh (.int p.2)]=some (.sh (.str ⟨#[p.1]⟩),[.sh (.str ⟨#[p.1]⟩), .sh (.int p.2)]):=rfl
    rw [List.map_cons,cm,e,Option.bind_some]
    simp only [bV,frz,Option.bind_some,e2,kF c,Option.map_some,if_true,List.map_cons,fc]
theorem ql {c:List Pc} (h:CordL c) (hl:c.length≤1000):cZ [.list (c.map aq)]=some (.sh (.str ⟨(dY (c.map (·.1))).toArray⟩)):=by
  have k:=kF c .no .no
  have az:=fun y hy=>lV (h.az y hy)
  have d:=jL az
  have d2:((c.map (·.1)).map fW).length < 4000∧(io ((c.map (·.1)).map fW)).length < 64:=⟨by simp;lia,Nat.lt_of_le_of_lt (oE az) (by decide)⟩
  have l:=sT (dY (c.map (·.1)))
  have l2:=nr (c.map (·.1))
  have l3:((c.map (·.1)).map fc).length≤1000000:=by simp;lia
  simp only [cZ,eJ,List.length_cons,List.length_nil,Nat.zero_add,fP,h7,aV,pF,ig,dI,bJ,bL,aa,bj,List.map_cons,List.map_nil,Nat.sub_self,List.replicate,List.cons_append,List.nil_append,List.getElem?_cons_zero,frz,Option.bind_some,ga,ku,k,jI,l3,decide_true,Bool.and_true,if_true,look,Sl.val,lW,d2,and_self,d,sy,lX,l,l2,qk,Option.map_some,cI,bN,cY]
def stay (w:List Nat) (c:List Pc):List Pc:=c.filter fun p=> !decide (p.1∈w)
theorem oJ {tg:gI} {cd:i7} {el:bE} {u:Sl} (w:List Nat) (ht:∀d x,tg d [x,u]=some [.sh d,u]) (hc:∀p:Pc,cd [.sh (aq p),u]=some (!decide (p.1∈w),[.sh (aq p),u])) (hel:∀d,el [.sh d,u]=some (.sh d,[.sh d,u])):∀(c:List Pc) (x:Sl),cm tg cd el (c.map aq) [x,u]=some ((stay w c).map aq)
  | [],x=>rfl
  | p::c,x=>by
    rw [List.map_cons,cm,ht,Option.bind_some,hc,Option.bind_some]
    have ih:=oJ w ht hc hel c (.sh (aq p))
    by_cases k:p.1∈w
    · rw [stay,List.filter_cons_of_neg (by simpa using k)]
      simp only [k,decide_true,Bool.not_true,Bool.false_eq_true,if_false]
      exact ih
    · rw [stay,List.filter_cons_of_pos (by simpa using k)]
      simp only [k,decide_false,Bool.not_false,if_true,hel,Option.bind_some,frz,ih,Option.map_some,List.map_cons]
      rfl
theorem v_ {w:List Nat} (h:∀y∈w,az y) {a:Nat}:a∈dY w↔a∈w:=by
  rw [inOrd_mem]
  exact ⟨fun z=>z.2,fun z=>⟨lV (h a z),z⟩⟩
theorem rL {w:List Nat} (h:∀y∈w,az y) (c:List Pc):stay (dY w) c=stay w c:=by
  unfold stay
  congr 1
  funext p
  rw [decide_eq_decide.mpr (v_ h)]
theorem uD (w:List Nat) (p:Pc):dP [.sh (aq p), .sh (.str ⟨w.toArray⟩)]=some (!decide (p.1∈w),[.sh (aq p), .sh (.str ⟨w.toArray⟩)]):=by
  have o:=kT w p.1
  simp only [dP,bY,ae,aa,aq,List.getElem?_cons_zero,Sl.isBr,Bool.false_and,Bool.false_eq_true,pC,fF,look,Sl.val,dZ,cb,Option.bind_some,if_false,ii,Option.map_some,tV,dh,if_true,ye,List.getElem?_cons_succ,o,Bool.not_not]
theorem lY (w:List Nat) (c:List Pc):(stay w c).length≤c.length:=List.length_filter_le _ _
theorem rM {w:List Nat} (h:∀y∈w,az y) (hl:w.length≤1000) (c:List Pc) (hc:c.length≤1000):ft [.list (c.map aq), .str ⟨w.toArray⟩]=some (.ow ((stay w c).map aq)):=by
  have s:=uC h hl
  have k:=oJ (tg:=gg) (cd:=dP) (el:=gh) (u:= .sh (.str ⟨(dY w).toArray⟩)) (dY w) (fun _ _=>rfl) (uD (dY w)) (fun _=>rfl) c .no
  rw [rL h] at k
  have l3:((stay w c).map aq).length≤1000000:=by have:=lY w c;simp;lia
  have s2:ao 2 (aj eN (ad false (aa 1) am)) [.sh (.list (c.map aq)), .sh (.str ⟨w.toArray⟩), .no]=some ([.sh (.list (c.map aq)), .sh (.str ⟨w.toArray⟩), .sh (.str ⟨(dY w).toArray⟩)], .nx):=by
    simp only [ao,aj,ad,aa,List.getElem?_cons_succ,List.getElem?_cons_zero,Sl.isBr,Bool.false_and,Bool.false_eq_true,am,Option.map_some,if_false,Option.bind_some,bb,look,Sl.val,s,PL.settle,frz,frzAll,List.length_cons,List.length_nil,Nat.zero_add,Nat.reduceAdd,Nat.reduceLT,List.set_cons_succ,List.set_cons_zero,if_true]
  have g:iV=aA (ao 2 (aj eN (ad false (aa 1) am))) (aV (bJ [none,some 2] (bL (aa 0)) gg dP gh)):=rfl
  simp only [ft,eJ,fP,bj,g,List.map_cons,List.map_nil,List.length_cons,List.length_nil,Nat.reduceSub,Nat.reduceAdd,Nat.zero_add,List.replicate,List.cons_append,List.nil_append,aR s2]
  simp only [aV,bJ,bL,aa,List.getElem?_cons_zero,frz,Option.bind_some,ga,List.map_cons,ku,List.map_nil,List.getElem?_cons_succ,Sl.val,k,df,l3,decide_true,Bool.and_true,if_true,cI,bN]
theorem ki {w:List Nat} (h:∀y∈w,az y) (hl:w.length≤1000) (c:List Pc) (hc:c.length≤1000):bM [.list (c.map aq), .str ⟨w.toArray⟩]=some (.sh (.bool (decide (NH.short (stay w c)=[])))):=by
  have k:=rM h hl c hc
  have f:=rJ (stay w c) (by have:=lY w c;lia)
  simp only [bM,eJ,List.length_cons,List.length_nil,Nat.zero_add,Nat.reduceAdd,fP,eF,aV,aj,ad,aa,bj,List.map_cons,List.map_nil,Nat.sub_self,List.replicate,List.cons_append,List.nil_append,List.getElem?_cons_zero,Sl.isBr,Bool.false_and,Bool.false_eq_true,am,Option.map_some,if_false,Option.bind_some,List.getElem?_cons_succ,bb,look,Sl.val,k,f,cI,bN,cY,if_true]
theorem b_ {c:List PyData→Option Sl} {g:nP} {E E1:List Sl} {ss:List Sl} {ds:List PyData} {r:Sl} (h:g E=some (ss,E1)) (hl:bb E1 ss=some ds) (hc:c ds=some r):aj c g E=some (r,E1):=by
  unfold aj
  rw [h,Option.bind_some]
  show (bb E1 ss).bind _=_
  rw [hl,Option.bind_some,hc]
  rfl
theorem qm {x:Int} {f:bE} {E:List Sl} {y:Int} {g:bE} (hf:g E=some (.sh (.int x),E)) (h:f E=some (.sh (.int y),E)):ae aD false g f E=some (.sh (.int (x+y)),E):=by
  simp only [ae,aD,hf,h,Option.bind_some,look,Sl.val,Bool.false_and,Bool.false_eq_true,if_false]
theorem wa {x:Int} {f:bE} {E:List Sl} {y:Int} {g:bE} (hf:g E=some (.sh (.int x),E)) (h:f E=some (.sh (.int y),E)) (ok:fN x y=true):ae gv false g f E=some (.sh (.int (x*y)),E):=by
  simp only [ae,gv,hf,h,Option.bind_some,look,Sl.val,ok,Bool.false_and,Bool.false_eq_true,if_false,if_true]
theorem lZ {f:bE} {E E1:List Sl} {d:PyData} {i:Nat} (h:f E=some (.sh d,E1)) (hi:i < E1.length):ao i f E=some (E1.set i (.sh d), .nx):=by
  unfold ao
  rw [h]
  simp only [Option.bind_some,PL.settle,hi,if_true]
theorem Bg {a b:i7} {E E1:List Sl} {r:Option (Bool×List Sl)} (h:a E=some (false,E1)) (k:b E1=r):hU a b E=r:=by
  unfold hU
  rw [h,Option.bind_some]
  exact k
theorem Cc {f g:bE} {E:List Sl} {s1 s2:Sl} (hf:f E=some (s1,E)) (hg:g E=some (s2,E)):ad false f (ad false g am) E=some ([s1,s2],E):=by
  simp only [ad,am,hf,hg,Option.bind_some,Option.map_some,Bool.false_and,Bool.false_eq_true,if_false]
theorem wb {E:List Sl} {f g:bE} {x y:Int} (hf:f E=some (.sh (.int x),E)) (hg:g E=some (.sh (.int y),E)) (h:0 < y):ae bw false f g E=some (.sh (.int (x % y)),E):=by
  simp only [ae,hf,hg,Option.bind_some,Bool.false_and,Bool.false_eq_true,if_false,bw,dh,ix,look,Sl.val,h,decide_true,if_true,Option.map_some]
theorem xP {E:List Sl} {f g:bE} {x y:Int} (hf:f E=some (.sh (.int x),E)) (hg:g E=some (.sh (.int y),E)) (h:fb y=true):ae aM false f g E=some (.sh (.int (x / y)),E):=by
  simp only [ae,hf,hg,Option.bind_some,Bool.false_and,Bool.false_eq_true,if_false,aM,dh,ix,look,Sl.val,h,if_true,Option.map_some]
theorem uE:(Str.ofString "abcdefghijklmnopqrstuvwxyz")=(⟨(List.range' 97 26).toArray⟩:Str):=by decide+kernel
theorem zO (w:List Nat) (a:Nat):ye (.str ⟨#[a]⟩) (.str ⟨w.toArray⟩)=some (decide (a∈w)):=by
  show some (!(Builtin.Str.occurrences ⟨w.toArray⟩ ⟨#[a]⟩ 0 (⟨w.toArray⟩:Str).length 1).isEmpty)=_
  rw [kT,Bool.not_not]
theorem Bh {E:List Sl} {f g:bE} {d1 d2:PyData} {b:Bool} (hf:f E=some (.sh d1,E)) (hg:g E=some (.sh d2,E)) (hd:ye d1 d2=some b):bY (ae (tV false) false f g) E=some (b,E):=by
  simp only [bY,ae,tV,dh,hf,hg,hd,Option.bind_some,look,Sl.val,Option.map_some,Bool.false_and,Bool.false_eq_true,if_false]
theorem xQ (w:List Nat) (n:Nat) (c:Nat) (hc:c=97+n) (p:Int) (hp:p=2 ^ n) (a:Sl):(eY (.str ⟨#[c]⟩) [.sh (.str ⟨w.toArray⟩), .sh (.int (NH.c_ w n)), .sh (.int p),a]).bind eZ=some ([.sh (.str ⟨w.toArray⟩), .sh (.int (NH.c_ w (n+1))), .sh (.int (p*2)), .sh (.str ⟨#[c]⟩)], .nx):=by
  have i1:=zO w c
  have ok:fN p 2=true:=n_ (by decide) (by decide)
  have b:(NH.c_ w (n+1):Int)=if c∈w then (NH.c_ w n:Int)+p else (NH.c_ w n:Int):=by
    rw [NH.c_,hc,hp]
    split
    · push_cast;rfl
    · simp
  generalize (NH.c_ w (n+1):Int)=B1 at b ⊢
  generalize (NH.c_ w n:Int)=B0 at b ⊢
  have tg:eY (.str ⟨#[c]⟩) [.sh (.str ⟨w.toArray⟩), .sh (.int B0), .sh (.int p),a]=some [.sh (.str ⟨w.toArray⟩), .sh (.int B0), .sh (.int p), .sh (.str ⟨#[c]⟩)]:=rfl
  have t1:bY (ae (tV false) false (aa 3) (aa 0)) [.sh (.str ⟨w.toArray⟩), .sh (.int B0), .sh (.int p), .sh (.str ⟨#[c]⟩)]=some (decide (c∈w),[.sh (.str ⟨w.toArray⟩), .sh (.int B0), .sh (.int p), .sh (.str ⟨#[c]⟩)]):=Bh rfl rfl i1
  have s2:∀x:Int,ao 2 (ae gv false (aa 2) (pC (.int 2))) [.sh (.str ⟨w.toArray⟩), .sh (.int x), .sh (.int p), .sh (.str ⟨#[c]⟩)]=some ([.sh (.str ⟨w.toArray⟩), .sh (.int x), .sh (.int (p*2)), .sh (.str ⟨#[c]⟩)], .nx):=fun x=>lZ (wa (g:=aa 2) (f:=pC (.int 2)) rfl rfl ok) (show 2 < 4 by decide)
  rw [tg,Option.bind_some,eZ]
  by_cases h:c∈w
  · rw [if_pos h] at b
    rw [decide_eq_true h] at t1
    have s1:ao 1 (ae aD false (aa 1) (aa 2)) [.sh (.str ⟨w.toArray⟩), .sh (.int B0), .sh (.int p), .sh (.str ⟨#[c]⟩)]=some ([.sh (.str ⟨w.toArray⟩), .sh (.int B1), .sh (.int p), .sh (.str ⟨#[c]⟩)], .nx):=by
      rw [b]
      exact lZ (qm (g:=aa 1) (f:=aa 2) rfl rfl) (show 1 < 4 by decide)
    rw [aR (kh t1 s1)]
    exact s2 B1
  · rw [if_neg h] at b
    rw [decide_eq_false h] at t1
    rw [aR (jH (b:=aH) t1 rfl),b]
    exact s2 B0
theorem sU (w:List Nat):∀(k n:Nat) (a:Sl),n+k=26→∃a' b',bT eY eZ ((List.range' (97+n) k).map fun c=> .str ⟨#[c]⟩) [.sh (.str ⟨w.toArray⟩), .sh (.int (NH.c_ w n)), .sh (.int (2 ^ n)),a]=some ([.sh (.str ⟨w.toArray⟩), .sh (.int (NH.cP w)),b',a'], .nx)
  | 0,n,a,h=>⟨a, .sh (.int (2 ^ n)),by rw [show n=26 by assumption];rfl⟩
  | k+1,n,a,h=>by
    have s:=xQ w n (97+n) rfl (2 ^ n) rfl a
    rw [(Int.pow_succ 2 n).symm] at s
    obtain ⟨a',b',e⟩:=sU w k (n+1) (.sh (.str ⟨#[97+n]⟩)) (by lia)
    refine ⟨a',b',?_⟩
    rw [List.range'_succ,List.map_cons,bT,s]
    exact e
theorem rN (w:List Nat):dJ [.str ⟨w.toArray⟩]=some (.sh (.int (NH.cP w))):=by
  obtain ⟨a,b,e⟩:=sU w 26 0 .no rfl
  have z0:((NH.c_ w 0:Nat):Int)=0:=rfl
  have z1:(2:Int) ^ 0=1:=rfl
  rw [z0,z1,Nat.add_zero] at e
  have sg:gQ (⟨(List.range' 97 26).toArray⟩:Str)=(List.range' 97 26).map fun c=> .str ⟨#[c]⟩:=by simp [gQ]
  simp only [dJ,eJ,List.length_cons,List.length_nil,Nat.zero_add,fP,iW,aA,ao,pC,bj,List.map_cons,List.map_nil,Nat.reduceSub,List.replicate,List.cons_append,List.nil_append,PL.settle,frz,frzAll,Option.bind_some,Nat.reduceAdd,Nat.reduceLT,List.set_cons_succ,List.set_cons_zero,if_true,d0,bL,uE,sg,aV,aa,e,List.getElem?_cons_succ,List.getElem?_cons_zero,cI,bN,cY]
theorem rO (a b:Nat):Builtin.bitAnd (a:Int) (b:Int)=((a &&& b:Nat):Int):=by
  simp [Builtin.bitAnd]
theorem zP {E:List Sl} {f g:bE} {x y:Nat} (hf:f E=some (.sh (.int x),E)) (hg:g E=some (.sh (.int y),E)):ae vA false f g E=some (.sh (.int ((x &&& y:Nat):Int)),E):=by
  simp only [ae,vA,dh,ix,hf,hg,Option.bind_some,look,Sl.val,Option.map_some,Bool.false_and,Bool.false_eq_true,if_false,if_true,rO]
theorem ym {E:List Sl} {f g:bE} {x y:Int} (hf:f E=some (.sh (.int x),E)) (hg:g E=some (.sh (.int y),E)):bY (ae eM false f g) E=some (decide (x=y),E):=by
  simp only [bY,ae,eM,dh,hf,hg,Option.bind_some,look,Sl.val,Option.map_some,Bool.false_and,Bool.false_eq_true,if_false,aT]
def qo (n:Nat):PyData:= .int n
theorem sV (x1:Sl) (b:Nat):∀(ps:List Nat) (a:Sl),∃E,bT bF bg (ps.map qo) [.sh (.int b),x1,a]=some (E,if ps.any (fun p=>decide (p &&& b=p)) then .rt (.sh (.bool true)) else .nx)
  | [],a=>⟨_,rfl⟩
  | p::ps,a=>by
    have t1:bY (ae eM false (ae vA false (aa 2) (aa 0)) (aa 2)) [.sh (.int b),x1, .sh (.int p)]=some (decide (((p &&& b:Nat):Int)=(p:Int)),[.sh (.int b),x1, .sh (.int p)]):=ym (zP (f:=aa 2) (g:=aa 0) (x:=p) (y:=b) rfl rfl) rfl
    have tg:bF (qo p) [.sh (.int b),x1,a]=some [.sh (.int b),x1, .sh (.int p)]:=rfl
    by_cases h:p &&& b=p
    · rw [decide_eq_true (by rw [h])] at t1
      refine ⟨[.sh (.int b),x1, .sh (.int p)],?_⟩
      have st:(bF (qo p) [.sh (.int b),x1,a]).bind bg=some ([.sh (.int b),x1, .sh (.int p)], .rt (.sh (.bool true))):=by
        rw [tg,Option.bind_some,bg]
        exact kh t1 rfl
      rw [List.map_cons,bT,st,List.any_cons,decide_eq_true h]
      rfl
    · rw [decide_eq_false (by lia)] at t1
      obtain ⟨E,ih⟩:=sV x1 b ps (.sh (.int p))
      refine ⟨E,?_⟩
      have st:(bF (qo p) [.sh (.int b),x1,a]).bind bg=some ([.sh (.int b),x1, .sh (.int p)], .nx):=by
        rw [tg,Option.bind_some,bg]
        exact jH t1 rfl
      rw [List.map_cons,bT,st,List.any_cons,decide_eq_false h,Bool.false_or]
      exact ih
theorem xR (b:Nat) (ps:List Nat):aL [.int b, .list (ps.map qo)]=some (.sh (.bool (ps.any fun p=>decide (p &&& b=p)))):=by
  obtain ⟨E,e⟩:=sV (.sh (.list (ps.map qo))) b ps .no
  cases h:ps.any (fun p=>decide (p &&& b=p)) with
  | true=>
    rw [h] at e
    simp only [if_true] at e
    simp only [aL,eJ,List.length_cons,List.length_nil,Nat.zero_add,Nat.reduceAdd,fP,cQ,aA,d0,bL,aa,bj,List.map_cons,List.map_nil,Nat.reduceSub,List.replicate,List.cons_append,List.nil_append,List.getElem?_cons_succ,List.getElem?_cons_zero,frz,Option.bind_some,e,aV,pC,cI,bN,cY,if_true]
  | false=>
    rw [h] at e
    simp only [Bool.false_eq_true,if_false] at e
    simp only [aL,eJ,List.length_cons,List.length_nil,Nat.zero_add,Nat.reduceAdd,fP,cQ,aA,d0,bL,aa,bj,List.map_cons,List.map_nil,Nat.reduceSub,List.replicate,List.cons_append,List.nil_append,List.getElem?_cons_succ,List.getElem?_cons_zero,frz,Option.bind_some,e,aV,pC,cI,bN,cY,if_true]
def au (w:List Nat):PyData:= .str ⟨w.toArray⟩
def zQ (w:List Nat):List (List Nat):=w.foldl (fun acc a=>acc++acc.map (· ++[a])) [[]]
theorem e_ (l:List (List Nat)):bx (l.map au)=true:=by
  induction l with
  | nil=>rfl
  | cons a l ih=>show (cY (au a)&&bx (l.map au))=true;rw [ih];rfl
theorem wc (u v:List Nat):(⟨u.toArray⟩:Str)++(⟨v.toArray⟩:Str)=⟨(u++v).toArray⟩:=by
  show (⟨u.toArray++v.toArray⟩:Str)=_
  simp
theorem l0 (w:List Nat):(⟨w.toArray⟩:Str).length=w.length:=by show w.toArray.size=_;simp
theorem wd (a:Nat):∀(l:List (List Nat)) (x0:Sl),(∀u∈l,u.length≤1000)→cm fJ bV em (l.map au) [x0, .sh (.str ⟨#[a]⟩)]=some ((l.map (· ++[a])).map au)
  | [],x0,_=>rfl
  | u::l,x0,h=>by
    have hu:=h u (List.mem_cons_self ..)
    have ap:(⟨u.toArray⟩:Str)++(⟨#[a]⟩:Str)=⟨(u++[a]).toArray⟩:=wc u [a]
    have l1:(⟨#[a]⟩:Str).length=1:=rfl
    have lb:u.length+1≤1000000:=by lia
    have e:fJ (au u) [x0, .sh (.str ⟨#[a]⟩)]=some [.sh (.str ⟨u.toArray⟩), .sh (.str ⟨#[a]⟩)]:=rfl
    have e2:em [.sh (.str ⟨u.toArray⟩), .sh (.str ⟨#[a]⟩)]=some (.sh (.str ⟨(u++[a]).toArray⟩),[.sh (.str ⟨u.toArray⟩), .sh (.str ⟨#[a]⟩)]):=by
      simp only [em,ae,aa,List.getElem?_cons_zero,Sl.isBr,Bool.false_and,Bool.false_eq_true,aD,look,Sl.val,dZ,cb,if_false,Option.bind_some,List.getElem?_cons_succ,Bool.not_false,Bool.true_or,Bool.and_true,l0,l1,lb,ap,if_true]
    rw [List.map_cons,cm,e,Option.bind_some]
    simp only [bV,frz,Option.bind_some,e2,wd a l _ fun v hv=>h v (List.mem_cons_of_mem _ hv),Option.map_some,if_true,List.map_cons]
    rfl
theorem we (x0:Sl):∀(w:List Nat) (l:List (List Nat)) (n:Nat) (a:Sl),l.length*2 ^ w.length≤100000→n+w.length≤1000→(∀u∈l,u.length≤n)→∃a',bT dl dm (w.map fun c=> .str ⟨#[c]⟩) [x0, .ow (l.map au),a]=some ([x0, .ow ((w.foldl (fun acc a=>acc++acc.map (· ++[a])) l).map au),a'], .nx)
  | [],l,n,a,_,_,_=>⟨a,rfl⟩
  | c::w,l,n,a,hb,hn,hl=>by
    have p1:1≤2 ^ w.length:=Nat.one_le_two_pow
    have lle:l.length≤100000:=by
      rw [List.length_cons,Nat.pow_succ] at hb
      have:l.length*1≤l.length*(2 ^ w.length*2):=Nat.mul_le_mul_left _ (by lia)
      lia
    have k:=wd c l .no fun u hu=>by have:=hl u hu;simp at hn;lia
    have lb:(l.map (· ++[c])).length≤1000000:=by simp;lia
    have lb2:l.length+(l.map (· ++[c])).length≤1000000:=by simp;lia
    have fl:=e_ (l.map (· ++[c]))
    have lb3:l.length≤1000000:=by lia
    have lb4:l.length+l.length≤1000000:=by lia
    have st:(dl (.str ⟨#[c]⟩) [x0, .ow (l.map au),a]).bind dm=some ([x0, .ow ((l++l.map (· ++[c])).map au), .sh (.str ⟨#[c]⟩)], .nx):=by
      simp only [dl,aI,List.length_cons,List.length_nil,Nat.zero_add,Nat.reduceAdd,Nat.reduceLT,List.set_cons_succ,List.set_cons_zero,if_true,dm,Option.bind_some,ao,ae,aa,List.getElem?_cons_succ,List.getElem?_cons_zero,Sl.isBr,Bool.false_and,Bool.false_eq_true,bJ,bL,frz,ga,List.map_cons,ku,List.map_nil,aD,look,Sl.val,dZ,cb,if_false,k,fl,List.length_map,lb3,decide_true,Bool.and_true,Option.any_some,Bool.not_false,Bool.true_or,lb4,←List.map_append,PL.settle,frzAll]
    obtain ⟨a',e⟩:=we x0 w (l++l.map (· ++[c])) (n+1) (.sh (.str ⟨#[c]⟩)) (by
      rw [List.length_append,List.length_map,←Nat.two_mul,Nat.mul_assoc]
      rw [List.length_cons,Nat.pow_succ] at hb
      have e1:2*(l.length*2 ^ w.length)=l.length*(2 ^ w.length*2):=by rw [Nat.mul_comm 2,Nat.mul_assoc]
      lia) (by simp at hn;lia) (fun u hu=>by
        rcases List.mem_append.mp hu with q | q
        · have:=hl u q;(solve_by_elim (maxDepth:=3) only [*,Nat.le_trans,Nat.lt_of_lt_of_le,Nat.lt_of_le_of_lt,Nat.le_of_lt])
        · obtain ⟨v,hv,rfl⟩:=List.mem_map.mp q
          have:=hl v hv
          simp;assumption)
    refine ⟨a',?_⟩
    rw [List.map_cons,bT,st]
    exact e
theorem zR (w:List Nat) (hw:w.length≤10):cA [.str ⟨w.toArray⟩]=some (.ow ((zQ w).map au)):=by
  have p:2 ^ w.length≤2 ^ 10:=Nat.pow_le_pow_right (by decide) hw
  obtain ⟨a,e⟩:=we (.sh (.str ⟨w.toArray⟩)) w [[]] 0 .no (by simp;lia) (by lia) (fun u hu=>by rw [List.mem_singleton.mp hu];simp)
  have e0:[PyData.str ""]=([[]]:List (List Nat)).map au:=rfl
  have sg:gQ (⟨w.toArray⟩:Str)=w.map fun c=> .str ⟨#[c]⟩:=by simp [gQ]
  have fl:=e_ (zQ w)
  unfold zQ at fl ⊢
  have s1:ao 1 (bO (aF (pC (.str "")) aP)) [.sh (.str ⟨w.toArray⟩), .no, .no]=some ([.sh (.str ⟨w.toArray⟩), .ow (([[]]:List (List Nat)).map au), .no], .nx):=by
    rw [←e0]
    simp only [ao,bO,aF,pC,frz,aP,Option.map_some,Option.bind_some,List.length_cons,List.length_nil,Nat.zero_add,Nat.reduceLeDiff,if_true,PL.settle,frzAll,Nat.reduceAdd,Nat.reduceLT,List.set_cons_succ,List.set_cons_zero]
  have it:∀y:Sl,bL (aa 0) [.sh (.str ⟨w.toArray⟩),y, .no]=some (w.map fun c=> .str ⟨#[c]⟩,[.sh (.str ⟨w.toArray⟩),y, .no]):=fun y=>by
    simp only [bL,aa,List.getElem?_cons_zero,frz,Option.bind_some,sg]
  have fo:d0 (bL (aa 0)) dl dm [.sh (.str ⟨w.toArray⟩), .ow (([[]]:List (List Nat)).map au), .no]=some ([.sh (.str ⟨w.toArray⟩), .ow ((w.foldl (fun acc a=>acc++acc.map (· ++[a])) [[]]).map au),a], .nx):=by
    unfold d0
    rw [it,Option.bind_some]
    exact e
  have g:cA [.str ⟨w.toArray⟩]=(gG [.sh (.str ⟨w.toArray⟩), .no, .no]).bind fun a=>match a.2 with | .rt r=>cI r | .nx=>some (.sh .none) | _=>none:=rfl
  rw [g,gG,aR s1,aR fo]
  simp only [aV,aa,List.getElem?_cons_succ,List.getElem?_cons_zero,Option.bind_some,List.set_cons_succ,List.set_cons_zero,Option.map_some,cI,bN,fl,if_true]
open NhFam in
theorem sW (w:List Nat):NhSG.g7 ⟨w.toArray⟩=key w:=by
  show (((⟨w.toArray⟩:Str).length:Int),w.toArray.toList)=((w.length:Int),w)
  rw [l0]
theorem l_:∀F:List (List Nat),ju (F.map au)=some (F.map fun w=>(⟨w.toArray⟩:Str))
  | []=>rfl
  | w::F=>by
    show (ju (F.map au)).map ((⟨w.toArray⟩:Str):: ·)=_
    rw [l_ F]
    rfl
theorem qp (F:List (List Nat)):NhSG.iE (F.map fun w=>(⟨w.toArray⟩:Str))=(NhFam.dF F).map fun w=>(⟨w.toArray⟩:Str):=by
  refine (NhSG.m_ ((List.mergeSort_perm F _).map _) ?_).symm
  rw [List.pairwise_map]
  exact (NhFam.j9 F).imp fun {a b} h=>by
    unfold NhSG.oR
    rw [sW,sW]
    have:NhSG.gd (NhFam.key b) (NhFam.key a)=false:=by simpa [NhFam.kQ] using h
    rw [this];rfl
theorem sX (F:List (List Nat)):(F.map fun w=>(⟨w.toArray⟩:Str)).map PyData.str=F.map au:=by rw [List.map_map];rfl
def Fit (F:List (List Nat)):Prop:=F.length < 1100∧∀w∈F,NH.ud w∧w.length≤1000
theorem Fit.chk {F:List (List Nat)} (h:Fit F):(decide ((F.map fun w=>(⟨w.toArray⟩:Str)).length < 65536)&&(F.map fun w=>(⟨w.toArray⟩:Str)).all fun z=>decide (z.length≤1000))=true:=by
  simp only [Bool.and_eq_true,decide_eq_true_eq,List.all_eq_true,List.length_map]
  refine ⟨Nat.lt_trans h.1 (by decide),fun z hz=>?_⟩
  obtain ⟨w,hw,rfl⟩:=List.mem_map.mp hz
  rw [l0]
  exact (h.2 w hw).2
theorem mt {F:List (List Nat)} (h:Fit F):be [.list (F.map au)]=some (.ow ((NhFam.dF F).map au)):=by
  have a:iF (aa 0) [.sh (.list (F.map au))]=some (.ow ((NhFam.dF F).map au),[.sh (.list (F.map au))]):=by
    unfold iF
    simp only [aa,List.getElem?_cons_zero,Option.bind_some,look,Sl.val,l_,h.chk,if_true,qp,sX]
  have fl:=e_ (NhFam.dF F)
  simp only [be,eG,eJ,fP,bj,aV,a,Option.bind_some,Option.map_some,cI,bN,fl,if_true,List.length_cons,List.length_nil,Nat.sub_self,List.replicate,List.map_cons,List.map_nil,List.append_nil,Nat.zero_add,Nat.reduceAdd]
def hG (w:List Nat):PyData:=qo (NH.cP w)
theorem wf (K:List (List Nat)):K.map hG=(K.map NH.cP).map qo:=by rw [List.map_map];rfl
theorem wg {K:List (List Nat)} (h:∀k∈K,NH.ud k) (w:List Nat):(K.map NH.cP).any (fun p=>decide (p &&& NH.cP w=p))=K.any (fun k=>decide (NhFam.le k w)):=by
  induction K with
  | nil=>rfl
  | cons k K ih=>
    rw [List.map_cons,List.any_cons,List.any_cons,ih fun k hk=>h k (List.mem_cons_of_mem _ hk)]
    congr 1
    exact decide_eq_decide.mpr (NH.ue (h k (List.mem_cons_self ..)))
theorem ma (x0:Sl):∀(S K:List (List Nat)) (a b:Sl),(∀w∈S,NH.ud w)→(∀w∈K,NH.ud w)→K.length+S.length≤2000→∃y a' b',bT cK ca (S.map au) [x0, .ow (K.map au), .ow (K.map hG),a,b]=some ([x0, .ow ((NhFam.i3 K S).map au),y,a',b'], .nx)
  | [],K,a,b,_,_,_=>⟨_,a,b,rfl⟩
  | w::S,K,a,b,hS,hK,hl=>by
    have tg:cK (au w) [x0, .ow (K.map au), .ow (K.map hG),a,b]=some [x0, .ow (K.map au), .ow (K.map hG), .sh (au w),b]:=rfl
    have c1:aj dJ (ad false (aa 3) am) [x0, .ow (K.map au), .ow (K.map hG), .sh (au w),b]=some (.sh (.int (NH.cP w)),[x0, .ow (K.map au), .ow (K.map hG), .sh (au w),b]):=b_ (ss:=[.sh (au w)]) rfl rfl (rN w)
    have s1:ao 4 (aj dJ (ad false (aa 3) am)) [x0, .ow (K.map au), .ow (K.map hG), .sh (au w),b]=some ([x0, .ow (K.map au), .ow (K.map hG), .sh (au w), .sh (.int (NH.cP w))], .nx):=lZ c1 (show 4 < 5 by decide)
    have pp:=xR (NH.cP w) (K.map NH.cP)
    rw [←wf,wg hK w] at pp
    have c2:eU (aj aL (ad false (aa 4) (ad false (aa 2) am))) [x0, .ow (K.map au), .ow (K.map hG), .sh (au w), .sh (.int (NH.cP w))]=some (K.any (fun k=>decide (NhFam.le k w)),[x0, .ow (K.map au), .ow (K.map hG), .sh (au w), .sh (.int (NH.cP w))]):=by
      have c3:aj aL (ad false (aa 4) (ad false (aa 2) am)) [x0, .ow (K.map au), .ow (K.map hG), .sh (au w), .sh (.int (NH.cP w))]=some (.sh (.bool (K.any (fun k=>decide (NhFam.le k w)))),[x0, .ow (K.map au), .ow (K.map hG), .sh (au w), .sh (.int (NH.cP w))]):=b_ (ss:=[.sh (.int (NH.cP w)), .al 2]) rfl rfl pp
      simp only [eU,c3,Option.bind_some,look,Sl.val,gW,Option.map_some]
    by_cases h:K.any (fun k=>decide (NhFam.le k w))=true
    · rw [h] at c2
      have st:(cK (au w) [x0, .ow (K.map au), .ow (K.map hG),a,b]).bind ca=some ([x0, .ow (K.map au), .ow (K.map hG), .sh (au w), .sh (.int (NH.cP w))], .nx):=by
        rw [tg,Option.bind_some,ca,aR s1]
        refine jH ?_ rfl
        simp only [de,c2,Option.map_some,Bool.not_true]
      obtain ⟨y,a',b',e⟩:=ma x0 S K (.sh (au w)) (.sh (.int (NH.cP w))) (fun v hv=>hS v (List.mem_cons_of_mem _ hv)) hK (by simp at hl;exact Nat.le_of_lt ‹_›)
      refine ⟨y,a',b',?_⟩
      rw [List.map_cons,bT,st,NhFam.i3,if_pos h]
      exact e
    · have h':K.any (fun k=>decide (NhFam.le k w))=false:=by simpa using h
      rw [h'] at c2
      have b1:K.length < 1000000:=by simp at hl;lia
      have st:(cK (au w) [x0, .ow (K.map au), .ow (K.map hG),a,b]).bind ca=some ([x0, .ow ((K++[w]).map au), .ow ((K++[w]).map hG), .sh (au w), .sh (.int (NH.cP w))], .nx):=by
        rw [tg,Option.bind_some,ca,aR s1]
        have n2:de (eU (aj aL (ad false (aa 4) (ad false (aa 2) am)))) [x0, .ow (K.map au), .ow (K.map hG), .sh (au w), .sh (.int (NH.cP w))]=some (true,[x0, .ow (K.map au), .ow (K.map hG), .sh (au w), .sh (.int (NH.cP w))]):=by
          simp only [de,c2,Option.map_some,Bool.not_false]
        refine kh n2 ?_
        have a1:bS (aO 2 (aa 4)) [x0, .ow (K.map au), .ow (K.map hG), .sh (au w), .sh (.int (NH.cP w))]=some ([x0, .ow (K.map au), .ow ((K++[w]).map hG), .sh (au w), .sh (.int (NH.cP w))], .nx):=by
          simp only [bS,aO,List.getElem?_cons_succ,List.getElem?_cons_zero,aa,frz,Option.bind_some,List.length_map,b1,List.set_cons_succ,List.set_cons_zero,if_true,Option.map_some,List.map_append,List.map_cons,List.map_nil]
          rfl
        rw [aR a1]
        simp only [bS,aO,List.map_append,List.map_cons,List.map_nil,List.getElem?_cons_succ,List.getElem?_cons_zero,aa,frz,Option.bind_some,List.length_map,b1,List.set_cons_succ,List.set_cons_zero,if_true,Option.map_some]
      obtain ⟨y,a',b',e⟩:=ma x0 S (K++[w]) (.sh (au w)) (.sh (.int (NH.cP w))) (fun v hv=>hS v (List.mem_cons_of_mem _ hv)) (fun v hv=>by
        rcases List.mem_append.mp hv with q | q
        · exact hK v q
        · rw [List.mem_singleton.mp q];exact hS w (List.mem_cons_self ..)) (by simp at hl ⊢;lia)
      refine ⟨y,a',b',?_⟩
      rw [List.map_cons,bT,st,NhFam.i3,if_neg h]
      exact e
theorem qr {F:List (List Nat)} (h:Fit F):dL [.list (F.map au)]=some (.ow ((NhFam.lP F).map au)):=by
  obtain ⟨y,a,b,e⟩:=ma (.sh (.list (F.map au))) (NhFam.dF F) [] .no .no (fun w hw=>(h.2 w (NhFam.sortT_mem.mp hw)).1) (fun w hw=>by cases hw) (by
    have:(NhFam.dF F).length=F.length:=(List.mergeSort_perm F _).length_eq
    have:=h.1
    simp;lia)
  have it:bL (aj be (ad false (aa 0) am)) [.sh (.list (F.map au)), .ow [], .ow [], .no, .no]=some ((NhFam.dF F).map au,[.sh (.list (F.map au)), .ow [], .ow [], .no, .no]):=by
    have c:aj be (ad false (aa 0) am) [.sh (.list (F.map au)), .ow [], .ow [], .no, .no]=some (.ow ((NhFam.dF F).map au),[.sh (.list (F.map au)), .ow [], .ow [], .no, .no]):=b_ (ss:=[.sh (.list (F.map au))]) rfl rfl (mt h)
    unfold bL
    rw [c]
    rfl
  have fo:d0 (bL (aj be (ad false (aa 0) am))) cK ca [.sh (.list (F.map au)), .ow [], .ow [], .no, .no]=some ([.sh (.list (F.map au)), .ow ((NhFam.lP F).map au),y,a,b], .nx):=by
    unfold d0
    rw [it,Option.bind_some]
    exact e
  have g:dL [.list (F.map au)]=(gE [.sh (.list (F.map au)), .no, .no, .no, .no]).bind fun a=>match a.2 with | .rt r=>cI r | .nx=>some (.sh .none) | _=>none:=rfl
  have s1:ao 1 (bO aP) [.sh (.list (F.map au)), .no, .no, .no, .no]=some ([.sh (.list (F.map au)), .ow [], .no, .no, .no], .nx):=by simp only [ao,bO,aP,Option.bind_some,List.length_nil,Nat.reduceLeDiff,if_true,PL.settle,frz,frzAll,List.length_cons,Nat.zero_add,Nat.reduceAdd,Nat.reduceLT,List.set_cons_succ,List.set_cons_zero]
  have s2:ao 2 (bO aP) [.sh (.list (F.map au)), .ow [], .no, .no, .no]=some ([.sh (.list (F.map au)), .ow [], .ow [], .no, .no], .nx):=by simp only [ao,bO,aP,Option.bind_some,List.length_nil,Nat.reduceLeDiff,if_true,PL.settle,frz,frzAll,List.length_cons,Nat.zero_add,Nat.reduceAdd,Nat.reduceLT,List.set_cons_succ,List.set_cons_zero]
  have fl:=e_ (NhFam.lP F)
  rw [g,gE,aR s1,aR s2,aR fo]
  simp only [aV,aa,List.getElem?_cons_succ,List.getElem?_cons_zero,Option.bind_some,List.set_cons_succ,List.set_cons_zero,Option.map_some,cI,bN,fl,if_true]
theorem mv {w:List Nat} (h:w.length≤10):cL [au w]=some (.sh .none):=by
  have l:=l0 w
  have lt:¬((w.length:Int) > 10):=by lia
  have lb:w.length≤1000000:=by lia
  simp only [cL,eJ,au,List.length_cons,List.length_nil,Nat.zero_add,fP,gi,aN,bY,ae,bI,ad,aa,bj,List.map_cons,List.map_nil,Nat.sub_self,List.replicate,List.cons_append,List.nil_append,List.getElem?_cons_zero,Sl.isBr,Bool.false_and,Bool.false_eq_true,am,Option.map_some,if_false,Option.bind_some,cH,bb,look,Sl.val,l,lb,if_true,pC,dh,eX,Cm.i,Cm.s,lt,decide_false,aH,cI,bN]
theorem jN {js:List (Option Nat)} {it:jk} {tg:gI} {c:i7} {el:bE} {E E1:List Sl} {ds rs:List PyData} (hi:it E=some (ds,E1)) (hl:cm tg c el ds (ga js E1)=some rs) (fl:bx rs=true) (ll:rs.length≤1000000):bJ js it tg c el E=some (.ow rs,E1):=by
  simp only [bJ,hi,Option.bind_some,hl,fl,ll,if_true,and_self,Option.map_some,decide_true,Bool.and_self,Bool.true_and,Bool.and_true]
theorem Bi {tg:gI} {cond:i7} {elt:bE} {d r:PyData} {ds rs:List PyData} {E E1:List Sl} {b:Bool} (t:tg d E=some E1) (c:cond E1=some (b,E1)) (el:elt E1=some (.sh r,E1)) (h:cm tg cond elt ds E1=some rs):cm tg cond elt (d::ds) E=some (if b then r::rs else rs):=by
  cases b with
  | true=>simp only [cm,t,c,el,h,Option.bind_some,Option.map_some,if_true,frz]
  | false=>simp only [cm,t,c,h,Option.bind_some,Bool.false_eq_true,if_false]
theorem xS {f:bE} {E E1:List Sl} {r:Sl} (h:f E=some (r,E1)):bS f E=some (E1, .nx):=by
  simp only [bS,h,Option.map_some]
theorem zS {f:bE} {E E1:List Sl} {ds:List PyData} {i:Nat} (h:f E=some (.ow ds,E1)) (hi:i < E1.length):ao i f E=some (E1.set i (.ow ds), .nx):=by
  simp only [ao,h,Option.bind_some,PL.settle,Sl.isAl,Bool.false_eq_true,if_false,hi,if_true,Option.map_some]
theorem uF (w:List Nat):NhFam.Ab (dY w):=List.Pairwise.sublist List.filter_sublist (List.pairwise_lt_range' ..)
theorem zT {c:List PyData→Option Sl} {g:nP} {E E2:List Sl} {ss:List Sl} {ds:List PyData} {d:PyData} {i:Nat} (h:g E=some (ss,E)) (hl:bb E ss=some ds) (hc:c ds=some (.sh d)) (hi:i < E.length) (hE:E.set i (.sh d)=E2):ao i (aj c g) E=some (E2, .nx):=by
  rw [←hE]
  exact lZ (b_ h hl hc) hi
theorem oK {c:List PyData→Option Sl} {g:nP} {E E2:List Sl} {ss:List Sl} {ds es:List PyData} {i:Nat} (h:g E=some (ss,E)) (hl:bb E ss=some ds) (hc:c ds=some (.ow es)) (hi:i < E.length) (hE:E.set i (.ow es)=E2):ao i (aj c g) E=some (E2, .nx):=by
  rw [←hE]
  exact zS (b_ h hl hc) hi
theorem zU {c:List Pc} (hc:c.length≤1000) {w:List Nat} (h:∀y∈w,az y) (hl:w.length≤1000):bW [.sh (au w), .sh (.list (c.map aq))]=some (decide (NH.short (stay w c)=[]),[.sh (au w), .sh (.list (c.map aq))]):=by
  have k:aj bM (ad false (aa 1) (ad false (aa 0) am)) [.sh (au w), .sh (.list (c.map aq))]=some (.sh (.bool (decide (NH.short (stay w c)=[]))),[.sh (au w), .sh (.list (c.map aq))]):=b_ (ss:=[.sh (.list (c.map aq)), .sh (au w)]) rfl rfl (ki h hl c hc)
  unfold bW
  simp only [eU,k,Option.bind_some,look,Sl.val,gW,Option.map_some]
theorem sY {c:List Pc} (hc:c.length≤1000):∀(F:List (List Nat)) (x:Sl),(∀w∈F,(∀y∈w,az y)∧w.length≤1000)→cm cB bW cC (F.map au) [x, .sh (.list (c.map aq))]=some ((F.filter fun w=>decide (NH.short (stay w c)=[])).map au)
  | [],x,_=>rfl
  | w::F,x,h=>by
    have hw:=h w (List.mem_cons_self ..)
    have t:cB (au w) [x, .sh (.list (c.map aq))]=some [.sh (au w), .sh (.list (c.map aq))]:=rfl
    have el:cC [.sh (au w), .sh (.list (c.map aq))]=some (.sh (au w),[.sh (au w), .sh (.list (c.map aq))]):=rfl
    rw [List.map_cons,Bi t (zU hc hw.1 hw.2) el (sY hc F _ fun v hv=>h v (List.mem_cons_of_mem _ hv)),List.filter_cons]
    split <;> rfl
structure Few (V:List Nat):Prop where
  srt:NhFam.Ab V
  az:∀y∈V,az y
  len:V.length≤10
theorem Few.sets {V:List Nat} (h:Few V):∀w∈NhFam.eK V,(∀y∈w,Nhk35.az y)∧w.length≤1000:=fun w hw=>by
  obtain ⟨s,l⟩:=(NhFam.v4 h.srt).mp hw
  have:=(NhFam.iS s h.srt l).length_le
  have:=h.len
  exact ⟨fun y hy=>h.az y (l y hy),by lia⟩
theorem Few.ltrs {V:List Nat} (h:Few V):∀w∈NhFam.eK V,NH.ud w:=fun w hw a ha=>by
  have:=(h.sets w hw).1 a ha
  exact ⟨this.1,this.2⟩
theorem Few.num {V:List Nat} (h:Few V):(NhFam.eK V).length≤1024:=by
  rw [NhFam.v5]
  have:2 ^ V.length≤2 ^ 10:=Nat.pow_le_pow_right (by decide) h.len
  assumption
theorem Few.fit {V:List Nat} (h:Few V) (p:List Nat→Bool):Fit ((NhFam.eK V).filter p):=
  ⟨by have:=List.length_filter_le p (NhFam.eK V);have:=h.num;lia,fun w hw=>⟨h.ltrs w (List.mem_filter.mp hw).1,(h.sets w (List.mem_filter.mp hw).1).2⟩⟩
def hJ (c:List Pc) (w:List Nat):Bool:=decide (NH.short (stay w c)=[])
def bt (c:List Pc) (V:List Nat):List (List Nat):=NhFam.lP ((NhFam.eK V).filter (hJ c))
theorem rP {c:List Pc} (kc:CordL c) (hc:c.length≤1000) {V:List Nat} (hV:V=dY (c.map (·.1))) (f:Few V):ba [.list (c.map aq)]=some (.ow ((bt c V).map au)):=by
  have en:cZ [.list (c.map aq)]=some (.sh (au V)):=by rw [hV];exact ql kc hc
  have k1:ao 1 (aj cZ (ad false (aa 0) am)) [.sh (.list (c.map aq)), .no]=some ([.sh (.list (c.map aq)), .sh (au V)], .nx):=zT (ss:=[.sh (.list (c.map aq))]) rfl rfl en (show 1 < 2 by decide) rfl
  have k2:bS (aj cL (ad false (aa 1) am)) [.sh (.list (c.map aq)), .sh (au V)]=some ([.sh (.list (c.map aq)), .sh (au V)], .nx):=xS (b_ (ss:=[.sh (au V)]) rfl rfl (mv f.len))
  have it:bL (aj cA (ad false (aa 1) am)) [.sh (.list (c.map aq)), .sh (au V)]=some ((NhFam.eK V).map au,[.sh (.list (c.map aq)), .sh (au V)]):=by
    have k:aj cA (ad false (aa 1) am) [.sh (.list (c.map aq)), .sh (au V)]=some (.ow ((NhFam.eK V).map au),[.sh (.list (c.map aq)), .sh (au V)]):=b_ (ss:=[.sh (au V)]) rfl rfl (zR V f.len)
    unfold bL
    rw [k]
    rfl
  have lp:=sY hc (NhFam.eK V) .no f.sets
  have k3:=jN (js:=[none,some 0]) it lp (e_ _) (by
    have:=List.length_filter_le (fun w=>decide (NH.short (stay w c)=[])) (NhFam.eK V)
    have:=f.num
    rw [List.length_map]
    lia)
  have lo:=qr (f.fit (hJ c))
  have k4:aj dL (ad false (bJ [none,some 0] (bL (aj cA (ad false (aa 1) am))) cB bW cC) am) [.sh (.list (c.map aq)), .sh (au V)]=some (.ow ((bt c V).map au),[.sh (.list (c.map aq)), .sh (au V)]):=by
    refine b_ (ss:=[.ow (((NhFam.eK V).filter (hJ c)).map au)]) ?_ rfl lo
    simp only [ad,am,k3,Option.bind_some,Option.map_some,Bool.false_and,Bool.false_eq_true,if_false]
    rfl
  have g:ba [.list (c.map aq)]=(dN [.sh (.list (c.map aq)), .no]).bind fun a=>match a.2 with | .rt r=>cI r | .nx=>some (.sh .none) | _=>none:=rfl
  have fl:=e_ (bt c V)
  rw [g,dN,aR k1,aR k2]
  simp only [aV,k4,Option.bind_some,Option.map_some,cI,bN,fl,if_true]
theorem qu (a:Nat):∀(l:List (List Nat)) (x0:Sl),(∀u∈l,u.length≤1000)→cm fL bV eC (l.map au) [x0, .sh (.str ⟨#[a]⟩)]=some ((l.map (· ++[a])).map au)
  | [],x0,_=>rfl
  | u::l,x0,h=>by
    have hu:=h u (List.mem_cons_self ..)
    have ap:(⟨u.toArray⟩:Str)++(⟨#[a]⟩:Str)=⟨(u++[a]).toArray⟩:=wc u [a]
    have l1:(⟨#[a]⟩:Str).length=1:=rfl
    have lb:u.length+1≤1000000:=by lia
    have e:fL (au u) [x0, .sh (.str ⟨#[a]⟩)]=some [.sh (.str ⟨u.toArray⟩), .sh (.str ⟨#[a]⟩)]:=rfl
    have e2:eC [.sh (.str ⟨u.toArray⟩), .sh (.str ⟨#[a]⟩)]=some (.sh (.str ⟨(u++[a]).toArray⟩),[.sh (.str ⟨u.toArray⟩), .sh (.str ⟨#[a]⟩)]):=by
      simp only [eC,ae,aa,List.getElem?_cons_zero,Sl.isBr,Bool.false_and,Bool.false_eq_true,aD,look,Sl.val,dZ,cb,if_false,Option.bind_some,List.getElem?_cons_succ,Bool.not_false,Bool.true_or,Bool.and_true,l0,l1,lb,ap,if_true]
    rw [List.map_cons,cm,e,Option.bind_some]
    simp only [bV,frz,Option.bind_some,e2,qu a l _ fun v hv=>h v (List.mem_cons_of_mem _ hv),Option.map_some,if_true,List.map_cons]
    rfl
theorem qv (x0:Sl):∀(w:List Nat) (l:List (List Nat)) (n:Nat) (a:Sl),l.length*2 ^ w.length≤100000→n+w.length≤1000→(∀u∈l,u.length≤n)→∃a',bT dr dv (w.map fun c=> .str ⟨#[c]⟩) [x0, .ow (l.map au),a]=some ([x0, .ow ((w.foldl (fun acc a=>acc++acc.map (· ++[a])) l).map au),a'], .nx)
  | [],l,n,a,_,_,_=>⟨a,rfl⟩
  | c::w,l,n,a,hb,hn,hl=>by
    have p1:1≤2 ^ w.length:=Nat.one_le_two_pow
    have lle:l.length≤100000:=by
      rw [List.length_cons,Nat.pow_succ] at hb
      have:l.length*1≤l.length*(2 ^ w.length*2):=Nat.mul_le_mul_left _ (by lia)
      lia
    have k:=qu c l .no fun u hu=>by have:=hl u hu;simp at hn;lia
    have lb:(l.map (· ++[c])).length≤1000000:=by simp;lia
    have lb2:l.length+(l.map (· ++[c])).length≤1000000:=by simp;lia
    have fl:=e_ (l.map (· ++[c]))
    have lb3:l.length≤1000000:=by lia
    have lb4:l.length+l.length≤1000000:=by lia
    have st:(dr (.str ⟨#[c]⟩) [x0, .ow (l.map au),a]).bind dv=some ([x0, .ow ((l++l.map (· ++[c])).map au), .sh (.str ⟨#[c]⟩)], .nx):=by
      simp only [dr,aI,List.length_cons,List.length_nil,Nat.zero_add,Nat.reduceAdd,Nat.reduceLT,List.set_cons_succ,List.set_cons_zero,if_true,dv,Option.bind_some,ao,ae,aa,List.getElem?_cons_succ,List.getElem?_cons_zero,Sl.isBr,Bool.false_and,Bool.false_eq_true,bJ,bL,frz,ga,List.map_cons,ku,List.map_nil,aD,look,Sl.val,dZ,cb,if_false,k,fl,List.length_map,lb3,decide_true,Bool.and_true,Option.any_some,Bool.not_false,Bool.true_or,lb4,←List.map_append,PL.settle,frzAll]
    obtain ⟨a',e⟩:=qv x0 w (l++l.map (· ++[c])) (n+1) (.sh (.str ⟨#[c]⟩)) (by
      rw [List.length_append,List.length_map,←Nat.two_mul,Nat.mul_assoc]
      rw [List.length_cons,Nat.pow_succ] at hb
      have e1:2*(l.length*2 ^ w.length)=l.length*(2 ^ w.length*2):=by rw [Nat.mul_comm 2,Nat.mul_assoc]
      lia) (by simp at hn;lia) (fun u hu=>by
        rcases List.mem_append.mp hu with q | q
        · have:=hl u q;(solve_by_elim (maxDepth:=3) only [*,Nat.le_trans,Nat.lt_of_lt_of_le,Nat.lt_of_le_of_lt,Nat.le_of_lt])
        · obtain ⟨v,hv,rfl⟩:=List.mem_map.mp q
          have:=hl v hv
          simp;assumption)
    refine ⟨a',?_⟩
    rw [List.map_cons,bT,st]
    exact e
theorem qw {V:List Nat} (f:Few V):cE [.list (V.map fc)]=some (.ow ((NhFam.dF (NhFam.eK V)).map au)):=by
  have p:2 ^ V.length≤2 ^ 10:=Nat.pow_le_pow_right (by decide) f.len
  obtain ⟨a,e⟩:=qv (.sh (.list (V.map fc))) V [[]] 0 .no (by simp;lia) (by have:=f.len;lia) (fun u hu=>by rw [List.mem_singleton.mp hu];simp)
  have e0:[PyData.str ""]=([[]]:List (List Nat)).map au:=rfl
  have s1:ao 1 (bO (aF (pC (.str "")) aP)) [.sh (.list (V.map fc)), .no, .no]=some ([.sh (.list (V.map fc)), .ow (([[]]:List (List Nat)).map au), .no], .nx):=by
    rw [←e0]
    simp only [ao,bO,aF,pC,frz,aP,Option.map_some,Option.bind_some,List.length_cons,List.length_nil,Nat.zero_add,Nat.reduceLeDiff,if_true,PL.settle,frzAll,Nat.reduceAdd,Nat.reduceLT,List.set_cons_succ,List.set_cons_zero]
  have it:∀y:Sl,bL (aa 0) [.sh (.list (V.map fc)),y, .no]=some (V.map fc,[.sh (.list (V.map fc)),y, .no]):=fun y=>by
    simp only [bL,aa,List.getElem?_cons_zero,frz,Option.bind_some]
  have fo:d0 (bL (aa 0)) dr dv [.sh (.list (V.map fc)), .ow (([[]]:List (List Nat)).map au), .no]=some ([.sh (.list (V.map fc)), .ow ((NhFam.eK V).map au),a], .nx):=by
    unfold d0
    rw [it,Option.bind_some]
    exact e
  have F:Fit (NhFam.eK V):=⟨by have:=f.num;lia,fun w hw=>⟨f.ltrs w hw,(f.sets w hw).2⟩⟩
  have so:iF (aa 1) [.sh (.list (V.map fc)), .ow ((NhFam.eK V).map au),a]=some (.ow ((NhFam.dF (NhFam.eK V)).map au),[.sh (.list (V.map fc)), .ow ((NhFam.eK V).map au),a]):=by
    unfold iF
    simp only [aa,List.getElem?_cons_succ,List.getElem?_cons_zero,Option.bind_some,look,Sl.val,l_,F.chk,if_true,qp,sX]
  have g:cE [.list (V.map fc)]=(gH [.sh (.list (V.map fc)), .no, .no]).bind fun a=>match a.2 with | .rt r=>cI r | .nx=>some (.sh .none) | _=>none:=rfl
  have fl:=e_ (NhFam.dF (NhFam.eK V))
  rw [g,gH,aR s1,aR fo]
  simp only [aV,so,Option.bind_some,Option.map_some,cI,bN,fl,if_true]
theorem wj (w:List Nat) (a:Nat):cc [.sh (.str ⟨#[a]⟩), .sh (au w)]=some (.sh (.bool (decide (a∈w))),[.sh (.str ⟨#[a]⟩), .sh (au w)]):=by
  have o:=kT w a
  simp only [cc,ae,aa,au,List.getElem?_cons_zero,Sl.isBr,Bool.false_and,Bool.false_eq_true,tV,dh,look,Sl.val,if_false,ye,Option.bind_some,List.getElem?_cons_succ,o,Bool.not_not,Option.map_some]
theorem nt (w:List Nat):∀(v:List Nat) (x:Sl),cm cS bV cc (v.map fc) [x, .sh (au w)]=some (v.map fun a=>PyData.bool (decide (a∈w)))
  | [],x=>rfl
  | a::v,x=>by
    have t:cS (fc a) [x, .sh (au w)]=some [.sh (fc a), .sh (au w)]:=rfl
    exact kR t (wj w a) (nt w v _)
theorem iI {α:Type} (f:α→Bool):∀l:List α,gM (l.map fun a=>PyData.bool (f a))=some (l.map f)
  | []=>rfl
  | a::l=>by
    show (gM (l.map fun a=>PyData.bool (f a))).map (f a:: ·)=_
    rw [iI f l]
    rfl
theorem kj {α:Type} (f:α→Bool):∀l:List α,bx (l.map fun a=>PyData.bool (f a))=true
  | []=>rfl
  | a::l=>by show (cY (.bool (f a))&&_)=true;rw [kj f l];rfl
theorem rQ (v w:List Nat) (hv:v.length≤1000):cU [au v,au w]=some (.sh (.bool (decide (NhFam.le v w)))):=by
  have it:bL (aa 0) [.sh (au v), .sh (au w)]=some (v.map fc,[.sh (au v), .sh (au w)]):=by
    simp only [bL,aa,au,List.getElem?_cons_zero,frz,Option.bind_some,sS]
  have k:=jN (js:=[none,some 1]) it (nt w v .no) (kj _ v) (by rw [List.length_map];lia)
  have bo:=iI (fun a=>decide (a∈w)) v
  have al:(v.map fun a=>decide (a∈w)).all id=decide (NhFam.le v w):=by
    rw [List.all_map]
    exact Bool.eq_iff_iff.mpr (by rw [decide_eq_true_iff];simp [NhFam.le])
  have lb:v.length≤1000000:=by lia
  have c:bI xp (ad false (bJ [none,some 1] (bL (aa 0)) cS bV cc) am) [.sh (au v), .sh (au w)]=some (.sh (.bool (decide (NhFam.le v w))),[.sh (au v), .sh (au w)]):=by
    simp only [bI,ad,k,Sl.isBr,Bool.false_and,Bool.false_eq_true,am,Option.map_some,if_false,Option.bind_some,xp,bb,look,Sl.val,bo,al]
  have g:cU [au v,au w]=(eD [.sh (au v), .sh (au w)]).bind fun a=>match a.2 with | .rt r=>cI r | .nx=>some (.sh .none) | _=>none:=rfl
  rw [g,eD]
  simp only [aV,c,Option.bind_some,Option.map_some,cI,bN,cY,if_true]
theorem Bj {f:bE} {E:List Sl} {ds:List PyData} (h:f E=some (.ow ds,E)):bL f E=some (ds,E):=by
  unfold bL
  rw [h]
  rfl
theorem qx:∀(c:List Pc) (x:Sl),cm cF bV bZ (c.map aq) [x]=some ((c.map (·.1)).map fc)
  | [],x=>rfl
  | p::c,x=>by
    have t:cF (aq p) [x]=some [.sh (aq p)]:=rfl
    have e:bZ [.sh (aq p)]=some (.sh (fc p.1),[.sh (aq p)]):=by
      simp only [bZ,ae,aa,aq,List.getElem?_cons_zero,Sl.isBr,Bool.false_and,Bool.false_eq_true,pC,fF,look,Sl.val,dZ,cb,Option.bind_some,if_false,ii,Option.map_some,fc]
    exact kR t e (qx c _)
theorem uG {c:List Pc} (h:CordL c) (hl:c.length≤1000) {V:List Nat} (hV:V=dY (c.map (·.1))) (y1 y2 y3:Sl):dI (bJ [none] (bL (aa 0)) cF bV bZ) [.sh (.list (c.map aq)),y1,y2,y3]=some (.ow (V.map fc),[.sh (.list (c.map aq)),y1,y2,y3]):=by
  have az:=fun y hy=>lV (h.az y hy)
  have d:=jL az
  have d2:((c.map (·.1)).map fW).length < 4000∧(io ((c.map (·.1)).map fW)).length < 64:=⟨by simp;lia,Nat.lt_of_le_of_lt (oE az) (by decide)⟩
  have it:bL (aa 0) [.sh (.list (c.map aq)),y1,y2,y3]=some (c.map aq,[.sh (.list (c.map aq)),y1,y2,y3]):=by simp only [bL,aa,List.getElem?_cons_zero,frz,Option.bind_some]
  have k:=jN (js:=[none]) it (qx c .no) (jI _) (by simp;lia)
  unfold dI
  rw [k,hV]
  simp only [Option.bind_some,look,Sl.val,lW,d2,and_self,if_true,d]
  rw [List.map_map]
  rfl
theorem sZ (w:List Nat):∀(K:List (List Nat)) (x:Sl),(∀k∈K,k.length≤1000)→cm e8 bV e9 (K.map au) [x, .sh (au w)]=some (K.map fun k=>PyData.bool (decide (NhFam.le k w)))
  | [],x,_=>rfl
  | k::K,x,h=>by
    have t:e8 (au k) [x, .sh (au w)]=some [.sh (au k), .sh (au w)]:=rfl
    have e:e9 [.sh (au k), .sh (au w)]=some (.sh (.bool (decide (NhFam.le k w))),[.sh (au k), .sh (au w)]):=b_ (ss:=[.sh (au k), .sh (au w)]) rfl rfl (rQ k w (h k (List.mem_cons_self ..)))
    exact kR t e (sZ w K _ fun v hv=>h v (List.mem_cons_of_mem _ hv))
theorem Bk (w:List Nat) (p:Pc):cG [.sh (aq p), .sh (.str ⟨w.toArray⟩)]=some (!decide (p.1∈w),[.sh (aq p), .sh (.str ⟨w.toArray⟩)]):=by
  have o:=kT w p.1
  simp only [cG,bY,ae,aa,aq,List.getElem?_cons_zero,Sl.isBr,Bool.false_and,Bool.false_eq_true,pC,fF,look,Sl.val,dZ,cb,Option.bind_some,if_false,ii,Option.map_some,tV,dh,if_true,ye,List.getElem?_cons_succ,o,Bool.not_not]
def jO (p:List Nat→Bool) (K:List (List Nat)):List (List Nat)→List (List Nat)
  | []=>K
  | w::r=>if K.any (fun k=>decide (NhFam.le k w)) then jO p K r else if p w then jO p (K++[w]) r else jO p K r
theorem jP (p:List Nat→Bool):∀(S K:List (List Nat)),jO p K S=NhFam.i3 K (S.filter p)
  | [],K=>rfl
  | w::S,K=>by
    rw [jO,List.filter_cons]
    by_cases h:p w=true
    · rw [if_pos h,if_pos h,NhFam.i3,jP p S K,jP p S (K++[w])]
    · rw [if_neg h,if_neg h,jP p S K]
      split <;> rfl
theorem oM (p:List Nat→Bool) (F:List (List Nat)):NhFam.dF (F.filter p)=(NhFam.dF F).filter p:=by
  have h:(NhFam.dF (F.filter p)).Perm ((NhFam.dF F).filter p):=(List.mergeSort_perm _ _).trans ((List.mergeSort_perm F _).symm.filter p)
  exact h.eq_of_pairwise (fun a b _ _ x y=>NhFam.nh y x) (NhFam.j9 _) ((NhFam.j9 F).sublist List.filter_sublist)
theorem wk {w:List Nat} {c:List Pc} (h:NailsOk c):NailsOk (stay w c):=fun p hp=>h p (List.mem_filter.mp hp).1
theorem nu (w:List Nat) (c:List Pc):stay w c=NH.gJ (fun n=> !decide (n∈w)) c:=rfl
theorem zV (x0:Sl) {r:List Pc} (kr:NailsOk r) (hr:r.length≤1000) {K:List (List Nat)} (hK:∀k∈K,k.length≤1000) (lK:K.length≤5000) (w:List Nat) (a:Sl):(dS (au w) [x0, .ow (r.map aq), .ow (K.map au),a]).bind dU=
    some ([x0, .ow (r.map aq), .ow ((if K.any (fun k=>decide (NhFam.le k w)) then K else if decide (NH.short (stay w r)=[]) then K++[w] else K).map au), .sh (au w)], .nx):=by
  have tg:dS (au w) [x0, .ow (r.map aq), .ow (K.map au),a]=some [x0, .ow (r.map aq), .ow (K.map au), .sh (au w)]:=rfl
  generalize hE:[x0,Sl.ow (r.map aq),Sl.ow (K.map au),Sl.sh (au w)]=E at tg
  have v1:jn (aa 1) E=some (r.map aq,E):=by subst hE;rfl
  have v2:jn (aa 2) E=some (K.map au,E):=by subst hE;rfl
  have sl:ga [none,some 3] E=[.no, .sh (au w)]:=by subst hE;rfl
  have k1:=jN (js:=[none,some 3]) (c:=bV) v2 (by rw [sl];exact sZ w K .no hK) (kj _ K) (by rw [List.length_map];lia)
  have c1:eU (bI xo (ad false (bJ [none,some 3] (jn (aa 2)) e8 bV e9) am)) E=some (K.any (fun k=>decide (NhFam.le k w)),E):=by
    have bo:=iI (fun k=>decide (NhFam.le k w)) K
    have al:(K.map fun k=>decide (NhFam.le k w)).any id=K.any (fun k=>decide (NhFam.le k w)):=by rw [List.any_map];rfl
    have lb:K.length≤1000000:=by lia
    simp only [eU,bI,ad,k1,Sl.isBr,Bool.false_and,Bool.false_eq_true,am,Option.map_some,if_false,Option.bind_some,xo,bb,look,Sl.val,bo,al,gW]
  have ls:=lY w r
  have k2:=jN (js:=[none,some 3]) v1 (by rw [sl];exact oJ (tg:=dQ) (cd:=cG) (el:=dR) (u:= .sh (au w)) w (fun _ _=>rfl) (Bk w) (fun _=>rfl) r .no) (df _) (by rw [List.length_map];lia)
  have sh:=jK (stay w r) (by lia) (wk kr)
  have c2:aj bD (ad false (bJ [none,some 3] (jn (aa 1)) dQ cG dR) am) E=some (.ow ((NH.short (stay w r)).map aq),E):=by
    refine b_ (ss:=[.ow ((stay w r).map aq)]) ?_ rfl sh
    simp only [ad,am,k2,Option.bind_some,Option.map_some,Bool.false_and,Bool.false_eq_true,if_false]
  have en:=jA (wk (w:=w) kr).short
  have c3:bY (ae eM false (aj bD (ad false (bJ [none,some 3] (jn (aa 1)) dQ cG dR) am)) (bO aP)) E=some (decide (NH.short (stay w r)=[]),E):=by
    generalize aj bD (ad false (bJ [none,some 3] (jn (aa 1)) dQ cG dR) am)=f at c2 ⊢
    simp only [bY,ae,c2,Sl.isBr,Bool.false_and,Bool.false_eq_true,bO,aP,Option.bind_some,List.length_nil,Nat.reduceLeDiff,if_true,eM,dh,look,Sl.val,if_false,en,Option.map_some]
  rw [tg,Option.bind_some,dU]
  by_cases h:K.any (fun k=>decide (NhFam.le k w))=true
  · rw [if_pos h]
    rw [h] at c1
    refine jH (E1:=E) ?_ (by subst hE;rfl)
    simp only [de,c1,Option.map_some,Bool.not_true]
  · rw [if_neg h]
    have h':K.any (fun k=>decide (NhFam.le k w))=false:=by simpa using h
    rw [h'] at c1
    refine kh (E1:=E) (by simp only [de,c1,Option.map_some,Bool.not_false]) ?_
    by_cases q:NH.short (stay w r)=[]
    · rw [decide_eq_true q] at c3 ⊢
      rw [if_pos rfl]
      refine kh c3 ?_
      subst hE
      have b1:K.length < 1000000:=by lia
      simp only [bS,aO,List.getElem?_cons_succ,List.getElem?_cons_zero,aa,frz,Option.bind_some,List.length_map,b1,List.set_cons_succ,List.set_cons_zero,if_true,Option.map_some,List.map_append,List.map_cons,List.map_nil]
    · rw [decide_eq_false q] at c3 ⊢
      refine jH c3 ?_
      subst hE
      rfl
theorem oN (x0:Sl) {r:List Pc} (kr:NailsOk r) (hr:r.length≤1000):∀(S K:List (List Nat)) (a:Sl),(∀k∈K,k.length≤1000)→(∀k∈S,k.length≤1000)→K.length+S.length≤5000→
    ∃a',bT dS dU (S.map au) [x0, .ow (r.map aq), .ow (K.map au),a]=some ([x0, .ow (r.map aq), .ow ((jO (hJ r) K S).map au),a'], .nx)
  | [],K,a,_,_,_=>⟨a,rfl⟩
  | w::S,K,a,hK,hS,hl=>by
    have st:=zV x0 kr hr hK (by simp at hl;exact Nat.le_trans (Nat.le_add_right _ _) ‹_›) w a
    have hS':∀k∈S,k.length≤1000:=fun k hk=>hS k (List.mem_cons_of_mem _ hk)
    rw [List.length_cons] at hl
    by_cases h:K.any (fun k=>decide (NhFam.le k w))=true
    · rw [if_pos h] at st
      obtain ⟨a',e⟩:=oN x0 kr hr S K (.sh (au w)) hK hS' (by exact Nat.le_of_lt ‹_›)
      refine ⟨a',?_⟩
      rw [List.map_cons,bT,st,jO,if_pos h]
      exact e
    · rw [if_neg h] at st
      by_cases q:hJ r w=true
      · rw [show decide (NH.short (stay w r)=[])=true from q,if_pos rfl] at st
        obtain ⟨a',e⟩:=oN x0 kr hr S (K++[w]) (.sh (au w)) (fun k hk=>by
          rcases List.mem_append.mp hk with z | z
          · exact hK k z
          · rw [List.mem_singleton.mp z];exact hS w (List.mem_cons_self ..)) hS' (by simp;lia)
        refine ⟨a',?_⟩
        rw [List.map_cons,bT,st,jO,if_neg h,if_pos q]
        exact e
      · have q':hJ r w=false:=by simpa using q
        rw [show decide (NH.short (stay w r)=[])=false from q'] at st
        obtain ⟨a',e⟩:=oN x0 kr hr S K (.sh (au w)) hK hS' (by exact Nat.le_of_lt ‹_›)
        refine ⟨a',?_⟩
        rw [List.map_cons,bT,st,jO,if_neg h,if_neg q]
        exact e
theorem qy (c:List Pc):hJ (NH.short c)=hJ c:=by
  funext w
  unfold hJ
  rw [nu,nu,NH.lN]
theorem rR {c:List Pc} (kc:CordL c) (hc:c.length≤1000) {V:List Nat} (hV:V=dY (c.map (·.1))) (f:Few V):eL [.list (c.map aq)]=some (.ow ((bt c V).map au)):=by
  have sh:=jK c (by lia) kc.n
  have kr:NailsOk (NH.short c):=kc.n.short
  have lr:(NH.short c).length≤c.length:=NH.tM c
  have k1:ao 1 (aj bD (ad false (aa 0) am)) [.sh (.list (c.map aq)), .no, .no, .no]=some ([.sh (.list (c.map aq)), .ow ((NH.short c).map aq), .no, .no], .nx):=oK (ss:=[.sh (.list (c.map aq))]) rfl rfl sh (show 1 < 4 by decide) rfl
  have k2:ao 2 (bO aP) [.sh (.list (c.map aq)), .ow ((NH.short c).map aq), .no, .no]=some ([.sh (.list (c.map aq)), .ow ((NH.short c).map aq), .ow (([]:List (List Nat)).map au), .no], .nx):=by simp only [ao,bO,aP,Option.bind_some,List.length_nil,Nat.reduceLeDiff,if_true,PL.settle,frz,frzAll,List.length_cons,Nat.zero_add,Nat.reduceAdd,Nat.reduceLT,List.set_cons_succ,List.set_cons_zero,List.map_nil]
  have so:=uG kc hc hV (.ow ((NH.short c).map aq)) (.ow (([]:List (List Nat)).map au)) .no
  have it:bL (aj cE (ad false (dI (bJ [none] (bL (aa 0)) cF bV bZ)) am)) [.sh (.list (c.map aq)), .ow ((NH.short c).map aq), .ow (([]:List (List Nat)).map au), .no]=some ((NhFam.dF (NhFam.eK V)).map au,[.sh (.list (c.map aq)), .ow ((NH.short c).map aq), .ow (([]:List (List Nat)).map au), .no]):=by
    have k:aj cE (ad false (dI (bJ [none] (bL (aa 0)) cF bV bZ)) am) [.sh (.list (c.map aq)), .ow ((NH.short c).map aq), .ow (([]:List (List Nat)).map au), .no]=some (.ow ((NhFam.dF (NhFam.eK V)).map au),[.sh (.list (c.map aq)), .ow ((NH.short c).map aq), .ow (([]:List (List Nat)).map au), .no]):=by
      refine b_ (ss:=[.ow (V.map fc)]) ?_ rfl (qw f)
      simp only [ad,am,so,Option.bind_some,Option.map_some,Bool.false_and,Bool.false_eq_true,if_false]
    exact Bj k
  have ln:(NhFam.dF (NhFam.eK V)).length=(NhFam.eK V).length:=(List.mergeSort_perm _ _).length_eq
  obtain ⟨a,e⟩:=oN (.sh (.list (c.map aq))) kr (by exact Nat.le_trans ‹_› ‹_›) (NhFam.dF (NhFam.eK V)) [] .no (fun k hk=>by cases hk) (fun k hk=>(f.sets k (NhFam.sortT_mem.mp hk)).2) (by have:=f.num;simp;lia)
  rw [qy,jP,←oM] at e
  have fo:d0 (bL (aj cE (ad false (dI (bJ [none] (bL (aa 0)) cF bV bZ)) am))) dS dU [.sh (.list (c.map aq)), .ow ((NH.short c).map aq), .ow (([]:List (List Nat)).map au), .no]=some ([.sh (.list (c.map aq)), .ow ((NH.short c).map aq), .ow ((bt c V).map au),a], .nx):=by
    unfold d0
    rw [it,Option.bind_some]
    exact e
  have g:eL [.list (c.map aq)]=(g8 [.sh (.list (c.map aq)), .no, .no, .no]).bind fun a=>match a.2 with | .rt r=>cI r | .nx=>some (.sh .none) | _=>none:=rfl
  have fl:=e_ (bt c V)
  rw [g,g8,aR k1,aR k2,aR fo]
  simp only [aV,aa,List.getElem?_cons_succ,List.getElem?_cons_zero,Option.bind_some,List.set_cons_succ,List.set_cons_zero,Option.map_some,cI,bN,fl,if_true]
theorem s_ (x0 x1:Sl):∀(L:List (List Nat)) (a b:Sl),∃a' b',bT cV cW (ja (L.map au) (L.map au)) [x0,x1,a,b]=some ([x0,x1,a',b'], .nx)
  | [],a,b=>⟨a,b,rfl⟩
  | w::L,a,b=>by
    have tg:cV (.tuple [au w,au w]) [x0,x1,a,b]=some [x0,x1, .sh (au w), .sh (au w)]:=rfl
    have c:hU (de (eU (ig (lz .str) (aa 2)))) (bY (ae jQ false (aa 2) (aa 3))) [x0,x1, .sh (au w), .sh (au w)]=some (false,[x0,x1, .sh (au w), .sh (au w)]):=by
      simp only [hU,de,eU,ig,aa,au,List.getElem?_cons_succ,List.getElem?_cons_zero,look,Sl.val,lz,Ty.is,yd,Option.map_some,Option.bind_some,gW,Bool.not_true,bY,ae,Sl.isBr,Bool.false_and,Bool.false_eq_true,jQ,dh,if_false,gc,decide_true]
    have st:(cV (.tuple [au w,au w]) [x0,x1,a,b]).bind cW=some ([x0,x1, .sh (au w), .sh (au w)], .nx):=by
      rw [tg,Option.bind_some,cW]
      exact jH c rfl
    obtain ⟨a',b',e⟩:=s_ x0 x1 L (.sh (au w)) (.sh (au w))
    refine ⟨a',b',?_⟩
    rw [List.map_cons,ja,bT,st]
    exact e
theorem oO (L:List (List Nat)) (hl:L.length≤100000):bQ [.list (L.map au), .list (L.map au)]=some (.sh (.bool true)):=by
  obtain ⟨a,b,e⟩:=s_ (.sh (.list (L.map au))) (.sh (.list (L.map au))) L .no .no
  have lb:L.length≤1000000:=by lia
  have c:hU (de (eU (ig (lz .list) (aa 0)))) (bY (ae jQ false (bI cH (ad false (aa 0) am)) (bI cH (ad false (aa 1) am)))) [.sh (.list (L.map au)), .sh (.list (L.map au)), .no, .no]=some (false,[.sh (.list (L.map au)), .sh (.list (L.map au)), .no, .no]):=by
    simp only [hU,de,eU,ig,aa,List.getElem?_cons_zero,look,Sl.val,lz,Ty.is,yd,Option.map_some,Option.bind_some,gW,Bool.not_true,bY,ae,bI,ad,Sl.isBr,Bool.false_and,Bool.false_eq_true,am,if_false,cH,jQ,dh,bb,List.length_map,List.getElem?_cons_succ,aT,decide_true]
  have it:pv (aa 0) (aa 1) [.sh (.list (L.map au)), .sh (.list (L.map au)), .no, .no]=some (ja (L.map au) (L.map au),[.sh (.list (L.map au)), .sh (.list (L.map au)), .no, .no]):=by
    simp only [pv,aa,List.getElem?_cons_zero,frz,Option.bind_some,List.getElem?_cons_succ]
  have fo:d0 (pv (aa 0) (aa 1)) cV cW [.sh (.list (L.map au)), .sh (.list (L.map au)), .no, .no]=some ([.sh (.list (L.map au)), .sh (.list (L.map au)),a,b], .nx):=by
    unfold d0
    rw [it,Option.bind_some]
    exact e
  have g:bQ [.list (L.map au), .list (L.map au)]=(fV [.sh (.list (L.map au)), .sh (.list (L.map au)), .no, .no]).bind fun a=>match a.2 with | .rt r=>cI r | .nx=>some (.sh .none) | _=>none:=rfl
  rw [g,fV,aR (jH (b:=aH) c rfl),aR fo]
  rfl
theorem zW {w:List Nat} {c:List Pc} (k:CordW w c) (a:∀y∈w,az y) (hl:w.length≤10):Few (dY (c.map (·.1))) where
  srt:=uF _
  az:=fun y hy=>(k.L a).az y (inOrd_mem.mp hy).2
  len:=by
    refine Nat.le_trans ?_ hl
    refine List.Nodup.length_le_of_subset (kE _) fun y hy=>?_
    obtain ⟨p,hp,rfl⟩:=List.mem_map.mp (inOrd_mem.mp hy).2
    exact (k p hp).1
theorem uH {c:List Pc} {V:List Nat} (f:Few V):(bt c V).length≤1024:=by
  have h:∀(S K:List (List Nat)),(NhFam.i3 K S).length≤K.length+S.length:=fun S=>by
    induction S with
    | nil=>intro K;exact Nat.le_refl _
    | cons w S ih=>
      intro K
      rw [NhFam.i3]
      split
      · have:=ih K;simp;exact Nat.le_succ_of_le ‹_›
      · have:=ih (K++[w]);simp at this ⊢;lia
  have h1:=h (NhFam.dF ((NhFam.eK V).filter (hJ c))) []
  have h2:(NhFam.dF ((NhFam.eK V).filter (hJ c))).length=((NhFam.eK V).filter (hJ c)).length:=(List.mergeSort_perm _ _).length_eq
  have h3:=List.length_filter_le (hJ c) (NhFam.eK V)
  have h4:=f.num
  unfold bt NhFam.lP
  simp at h1
  lia
theorem xT {E:List Sl} {ds:List PyData} {f g:bE} {s1 s2:Sl} (hf:f E=some (s1,E)) (hg:g E=some (s2,E)) (l1:look E s1=some (.list ds)) (l2:look E s2=some (.list ds)) (h:wn (.list ds) (.list ds)=some true):bY (ae jQ false f g) E=some (false,E):=by
  simp only [bY,ae,jQ,dh,hf,hg,Option.bind_some,l1,l2,h,Bool.false_and,Bool.false_eq_true,if_false,Option.map_some,Bool.not_true]
theorem oP {ns:List Int} {E:List Sl} {i:Int} {z d m:Int} (h:ar [.list (ns.map .int), .int i]=some (.sh (.int z))) (hE:E[0]? =some (.sh (.list (ns.map .int)))) (hd:fb d=true) (hm:0 < m):ae bw false (ae aM false (aj ar (ad false (aa 0) (ad false (pC (.int i)) am))) (pC (.int d))) (pC (.int m)) E=some (.sh (.int (z / d % m)),E):=by
  have c:aj ar (ad false (aa 0) (ad false (pC (.int i)) am)) E=some (.sh (.int z),E):=b_ (ss:=[.sh (.list (ns.map .int)), .sh (.int i)]) (Cc (by simp only [aa,hE,Option.map_some]) rfl) rfl h
  exact wb (xP c rfl hd) rfl hm
theorem td {f:bE} {E:List Sl} {x k:Int} {a b:dG} {r:Option (List Sl×Fl)} (hf:f E=some (.sh (.int x),E)) (h:(x=k∧a E=r)∨(x≠k∧b E=r)):aN (bY (ae eM false f (pC (.int k)))) a b E=r:=by
  have c:bY (ae eM false f (pC (.int k))) E=some (decide (x=k),E):=ym hf rfl
  rcases h with ⟨h,k⟩ | ⟨h,k⟩
  · rw [decide_eq_true h] at c;exact kh c k
  · rw [decide_eq_false h] at c;exact jH c k
theorem zX (ns:List Int) (hl:ns.length≤63):jh [.list (ns.map .int)]=some (.sh (.bool true)):=by
  have a0:=iX ns 0
  have a1:=iX ns 1
  simp only [Int.natCast_zero] at a0
  have a1:ar [.list (ns.map .int), .int 1]=some (.sh (.int (ns.getD 1 0))):=a1
  generalize hz:ns.getD 1 0=z at a1
  have m0:=Int.emod_nonneg z (show (5:Int)≠0 by decide)
  have m1:=Int.emod_lt_of_pos z (show (0:Int) < 5 by decide)
  generalize hsc:PyData.list (ns.map .int)=sc
  have E0:∀(y1 y2 y3 y4 y5:Sl),([Sl.sh sc,y1,y2,y3,y4,y5]:List Sl)[0]? =some (.sh (.list (ns.map .int))):=fun _ _ _ _ _=>by rw [hsc];rfl
  have k1:ao 1 (ae aD false (pC (.int 1)) (ae bw false (aj ar (ad false (aa 0) (ad false (pC (.int 1)) am))) (pC (.int 5)))) [.sh sc, .no, .no, .no, .no, .no]=some ([.sh sc, .sh (.int (1+z % 5)), .no, .no, .no, .no], .nx):=by
    have c:aj ar (ad false (aa 0) (ad false (pC (.int 1)) am)) [.sh sc, .no, .no, .no, .no, .no]=some (.sh (.int z),[.sh sc, .no, .no, .no, .no, .no]):=b_ (ss:=[.sh (.list (ns.map .int)), .sh (.int 1)]) (by rw [hsc];rfl) rfl a1
    have c2:ae aD false (pC (.int 1)) (ae bw false (aj ar (ad false (aa 0) (ad false (pC (.int 1)) am))) (pC (.int 5))) [.sh sc, .no, .no, .no, .no, .no]=some (.sh (.int (1+z % 5)),[.sh sc, .no, .no, .no, .no, .no]):=qm rfl (wb c rfl (by decide))
    exact lZ c2 (show 1 < 6 by decide)
  obtain ⟨many,k23,n1,n2⟩:∃many:Nat,(∀P:dG,(aA (aN (bY (ae eM false (ae bw false (ae aM false (aj ar (ad false (aa 0) (ad false (pC (.int 1)) am))) (pC (.int 5))) (pC (.int 8))) (pC (.int 3))))
      (ao 1 (pC (.int 6))) aH) (aA (aN (bY (ae eM false (ae bw false (ae aM false (aj ar (ad false (aa 0) (ad false (pC (.int 1)) am))) (pC (.int 40))) (pC (.int 16))) (pC (.int 5))))
      (ao 1 (pC (.int 8))) aH) P)) [.sh sc, .sh (.int (1+z % 5)), .no, .no, .no, .no]=P [.sh sc, .sh (.int many), .no, .no, .no, .no])∧1≤many∧many≤8:=by
    have s1:∃m:Nat,aN (bY (ae eM false (ae bw false (ae aM false (aj ar (ad false (aa 0) (ad false (pC (.int 1)) am))) (pC (.int 5))) (pC (.int 8))) (pC (.int 3)))) (ao 1 (pC (.int 6))) aH [.sh sc, .sh (.int (1+z % 5)), .no, .no, .no, .no]=some ([.sh sc, .sh (.int m), .no, .no, .no, .no], .nx)∧1≤m∧m≤8:=by
      by_cases h:z / 5 % 8=3
      · exact ⟨6,td (oP a1 (E0 _ _ _ _ _) (by decide) (by decide)) (.inl ⟨h,rfl⟩),by decide,by decide⟩
      · exact ⟨(1+z % 5).toNat,td (oP a1 (E0 _ _ _ _ _) (by decide) (by decide)) (.inr ⟨h,by rw [show (((1+z % 5).toNat:Nat):Int)=1+z % 5 by lia];rfl⟩),by lia,by lia⟩
    obtain ⟨m,e1,b1,b2⟩:=s1
    have s2:∃n:Nat,aN (bY (ae eM false (ae bw false (ae aM false (aj ar (ad false (aa 0) (ad false (pC (.int 1)) am))) (pC (.int 40))) (pC (.int 16))) (pC (.int 5)))) (ao 1 (pC (.int 8))) aH [.sh sc, .sh (.int m), .no, .no, .no, .no]=some ([.sh sc, .sh (.int n), .no, .no, .no, .no], .nx)∧1≤n∧n≤8:=by
      by_cases h:z / 40 % 16=5
      · exact ⟨8,td (oP a1 (E0 _ _ _ _ _) (by decide) (by decide)) (.inl ⟨h,rfl⟩),by decide,by decide⟩
      · exact ⟨m,td (oP a1 (E0 _ _ _ _ _) (by decide) (by decide)) (.inr ⟨h,rfl⟩),b1,b2⟩
    obtain ⟨n,e2,d1,d2⟩:=s2
    exact ⟨n,fun P=>by rw [aR e1,aR e2],d1,d2⟩
  obtain ⟨w,ew,lw,aw⟩:=mq (ns.getD 0 0) many (by lia)
  obtain ⟨c,ec,lc,kw⟩:=qj ns w (by lia) (by lia) aw 2 40 (by exact Nat.le_add_left _ _) (by exact Nat.le_add_left _ _)
  have kc:=kw.L aw
  have f:=zW kw aw (by lia)
  generalize hV:dY (c.map (·.1))=V at f
  have du:=rR kc (by lia) hV.symm f
  have fs:=rP kc (by lia) hV.symm f
  have fl:=uH (c:=c) f
  have rt:=oO (bt c V) (by lia)
  have dq:=pU kc.n kc.n
  rw [decide_eq_true rfl] at dq
  have lc':(c.map aq).length≤1000000:=by rw [List.length_map];lia
  have ec':bG [sc, .int 2, .list (w.map fc), .int 40]=some (.ow (c.map aq)):=by rw [←hsc];exact ec
  have a0':ar [sc, .int 0]=some (.sh (.int (ns.getD 0 0))):=by rw [←hsc];exact a0
  have k4:ao 2 (aj bG (ad false (aa 0) (ad false (pC (.int 2)) (ad false (aj bP (ad false (aj ar (ad false (aa 0) (ad false (pC (.int 0)) am))) (ad false (aa 1) am))) (ad false (pC (.int 40)) am))))) [.sh sc, .sh (.int many), .no, .no, .no, .no]=some ([.sh sc, .sh (.int many), .ow (c.map aq), .no, .no, .no], .nx):=by
    have q1:aj ar (ad false (aa 0) (ad false (pC (.int 0)) am)) [.sh sc, .sh (.int many), .no, .no, .no, .no]=some (.sh (.int (ns.getD 0 0)),[.sh sc, .sh (.int many), .no, .no, .no, .no]):=b_ (ss:=[.sh sc, .sh (.int 0)]) rfl rfl a0'
    have q2:aj bP (ad false (aj ar (ad false (aa 0) (ad false (pC (.int 0)) am))) (ad false (aa 1) am)) [.sh sc, .sh (.int many), .no, .no, .no, .no]=some (.ow (w.map fc),[.sh sc, .sh (.int many), .no, .no, .no, .no]):=b_ (ss:=[.sh (.int (ns.getD 0 0)), .sh (.int many)]) (Cc q1 rfl) rfl ew
    refine oK (ss:=[.sh sc, .sh (.int 2), .ow (w.map fc), .sh (.int 40)]) ?_ rfl ec' (show 2 < 6 by decide) rfl
    generalize aj bP (ad false (aj ar (ad false (aa 0) (ad false (pC (.int 0)) am))) (ad false (aa 1) am))=fq at q2 ⊢
    simp only [ad,am,aa,pC,q2,Option.bind_some,Option.map_some,Bool.false_and,Bool.false_eq_true,if_false,List.getElem?_cons_zero]
  have k5:ao 3 (aj eL (ad false (aa 2) am)) [.sh sc, .sh (.int many), .ow (c.map aq), .no, .no, .no]=some ([.sh sc, .sh (.int many), .ow (c.map aq), .ow ((bt c V).map au), .no, .no], .nx):=oK (ss:=[.al 2]) rfl rfl du (show 3 < 6 by decide) rfl
  have k6:ao 4 (nW (aa 2)) [.sh sc, .sh (.int many), .ow (c.map aq), .ow ((bt c V).map au), .no, .no]=some ([.sh sc, .sh (.int many), .ow (c.map aq), .ow ((bt c V).map au), .ow (c.map aq), .no], .nx):=by
    simp only [ao,nW,aa,List.getElem?_cons_succ,List.getElem?_cons_zero,look,Sl.val,dZ,cb,Option.bind_some,Option.any_some,Bool.not_false,df,Bool.or_true,if_true,PL.settle,frz,frzAll,List.length_cons,List.length_nil,Nat.zero_add,Nat.reduceAdd,Nat.reduceLT,List.set_cons_succ,List.set_cons_zero]
  have k7:ao 5 (aj ba (ad false (aa 4) am)) [.sh sc, .sh (.int many), .ow (c.map aq), .ow ((bt c V).map au), .ow (c.map aq), .no]=some ([.sh sc, .sh (.int many), .ow (c.map aq), .ow ((bt c V).map au), .ow (c.map aq), .ow ((bt c V).map au)], .nx):=oK (ss:=[.al 4]) rfl rfl fs (show 5 < 6 by decide) rfl
  have k8:aN (hU (de (eU (aj bQ (ad false (aa 5) (ad false (aa 3) am))))) (bY (ae jQ false (aa 4) (aa 2)))) (aV (pC (.bool false))) aH [.sh sc, .sh (.int many), .ow (c.map aq), .ow ((bt c V).map au), .ow (c.map aq), .ow ((bt c V).map au)]=some ([.sh sc, .sh (.int many), .ow (c.map aq), .ow ((bt c V).map au), .ow (c.map aq), .ow ((bt c V).map au)], .nx):=by
    have q1:aj bQ (ad false (aa 5) (ad false (aa 3) am)) [.sh sc, .sh (.int many), .ow (c.map aq), .ow ((bt c V).map au), .ow (c.map aq), .ow ((bt c V).map au)]=some (.sh (.bool true),[.sh sc, .sh (.int many), .ow (c.map aq), .ow ((bt c V).map au), .ow (c.map aq), .ow ((bt c V).map au)]):=b_ (ss:=[.al 5, .al 3]) rfl rfl rt
    have q2:bY (ae jQ false (aa 4) (aa 2)) [.sh sc, .sh (.int many), .ow (c.map aq), .ow ((bt c V).map au), .ow (c.map aq), .ow ((bt c V).map au)]=some (false,[.sh sc, .sh (.int many), .ow (c.map aq), .ow ((bt c V).map au), .ow (c.map aq), .ow ((bt c V).map au)]):=xT (s1:= .al 4) (s2:= .al 2) rfl rfl rfl rfl dq
    refine jH (Bg ?_ q2) rfl
    simp only [de,eU,q1,Option.bind_some,look,Sl.val,gW,Option.map_some,Bool.not_true]
  have lb:(bt c V).length < 1000000:=by lia
  have k9:bS (aO 5 (pC (.str ""))) [.sh sc, .sh (.int many), .ow (c.map aq), .ow ((bt c V).map au), .ow (c.map aq), .ow ((bt c V).map au)]=some ([.sh sc, .sh (.int many), .ow (c.map aq), .ow ((bt c V).map au), .ow (c.map aq), .ow ((bt c V).map au++[.str ""])], .nx):=by
    simp only [bS,aO,List.getElem?_cons_succ,List.getElem?_cons_zero,pC,frz,Option.bind_some,List.length_map,lb,List.set_cons_succ,List.set_cons_zero,if_true,Option.map_some]
  have q9:aj ba (ad false (aa 4) am) [.sh sc, .sh (.int many), .ow (c.map aq), .ow ((bt c V).map au), .ow (c.map aq), .ow ((bt c V).map au++[.str ""])]=some (.ow ((bt c V).map au),[.sh sc, .sh (.int many), .ow (c.map aq), .ow ((bt c V).map au), .ow (c.map aq), .ow ((bt c V).map au++[.str ""])]):=b_ (ss:=[.al 4]) rfl rfl fs
  have k10:aj bQ (ad false (aj ba (ad false (aa 4) am)) (ad false (aa 3) am)) [.sh sc, .sh (.int many), .ow (c.map aq), .ow ((bt c V).map au), .ow (c.map aq), .ow ((bt c V).map au++[.str ""])]=some (.sh (.bool true),[.sh sc, .sh (.int many), .ow (c.map aq), .ow ((bt c V).map au), .ow (c.map aq), .ow ((bt c V).map au++[.str ""])]):=
    b_ (ss:=[.ow ((bt c V).map au), .al 3]) (Cc q9 rfl) rfl rt
  have g:jh [sc]=(p9 [.sh sc, .no, .no, .no, .no, .no]).bind fun a=>match a.2 with | .rt r=>cI r | .nx=>some (.sh .none) | _=>none:=rfl
  rw [g,p9,aR k1,k23,aR k4,aR k5,aR k6,aR k7,aR k8,aR k9]
  simp only [aV,k10,Option.bind_some,Option.map_some,cI,bN,cY,if_true]
end Nhk35
namespace Nhk35
open PySem L2 Nh PL
theorem iJ {fd:FuncData} {xs:List Str} (h:∀a0,bindArgs fd ⟨[a0],[]⟩=pure (xs.zip [a0])):∀us:List Value,us.length=1→bindArgs fd ⟨us,[]⟩=pure (xs.zip us)
  | [a0],_=>h a0
theorem qz {fd:FuncData} {xs:List Str} (h:∀a0 a1,bindArgs fd ⟨[a0,a1],[]⟩=pure (xs.zip [a0,a1])):∀us:List Value,us.length=2→bindArgs fd ⟨us,[]⟩=pure (xs.zip us)
  | [a0,a1],_=>h a0 a1
theorem Cd {fd:FuncData} {xs:List Str} (h:∀a0 a1 a2,bindArgs fd ⟨[a0,a1,a2],[]⟩=pure (xs.zip [a0,a1,a2])):∀us:List Value,us.length=3→bindArgs fd ⟨us,[]⟩=pure (xs.zip us)
  | [a0,a1,a2],_=>h a0 a1 a2
theorem Bl {fd:FuncData} {xs:List Str} (h:∀a0 a1 a2 a3,bindArgs fd ⟨[a0,a1,a2,a3],[]⟩=pure (xs.zip [a0,a1,a2,a3])):∀us:List Value,us.length=4→bindArgs fd ⟨us,[]⟩=pure (xs.zip us)
  | [a0,a1,a2,a3],_=>h a0 a1 a2 a3
theorem zY {l:PySem.W.OpenLaw} {w:World} {K:PySem.W.Frag} {h:Heap} {mg:Str→Option Value} {fa f1 f2 f3 f4 f5 f6 f7 f8 f9 f10 f11 f12 f13 f14 f15 f16 f17 f18 f19 f20 f21 f22 f23 f24 f25 f26 f27 f28 f29:Addr} (X:K.In h) (G:h.Ns mainGlobals mg) (hfa:mg "law"=some (.ref fa))
    {od1 od2 od3 od4 od5 od6 od7 od8 od9 od10 od11 od12 od13 od14 od15 od16 od17 od18 od19 od20 od21 od22 od23 od24 od25 od26 od27 od28 od29 an1 an2 an3 an4 an5 an6 an7 an8 an9 an10 an11 an12 an13 an14 an15 an16 an17 an18 an19 an20 an21 an22 an23 an24 an25 an26 an27 an28 an29:Option Addr} {sl1 sl2 sl3 sl4 sl5 sl6 sl7 sl8 sl9 sl10 sl11 sl12 sl13 sl14 sl15 sl16 sl17 sl18 sl19 sl20 sl21 sl22 sl23 sl24 sl25 sl26 sl27 sl28 sl29:Array (Option Value)} {oc1 kV1 dc1 pm1 cd1 ct1 oc2 kV2 dc2 pm2 cd2 ct2 oc3 kV3 dc3 pm3 cd3 ct3 oc4 kV4 dc4 pm4 cd4 ct4 oc5 kV5 dc5 pm5 cd5 ct5 oc6 kV6 dc6 pm6 cd6 ct6 oc7 kV7 dc7 pm7 cd7 ct7 oc8 kV8 dc8 pm8 cd8 ct8 oc9 kV9 dc9 pm9 ct9 oc10 kV10 dc10 pm10 cd10 ct10 oc11 kV11 dc11 pm11 cd11 ct11 oc12 kV12 dc12 pm12 cd12 ct12 oc13 kV13 dc13 pm13 cd13 ct13 oc14 kV14 dc14 pm14 cd14 ct14 oc15 kV15 dc15 pm15 cd15 ct15 oc16 kV16 dc16 pm16 cd16 ct16 oc17 kV17 dc17 pm17 cd17 ct17 oc18 kV18 dc18 pm18 cd18 ct18 oc19 kV19 dc19 pm19 cd19 ct19 oc20 kV20 dc20 pm20 cd20 ct20 oc21 kV21 dc21 pm21 cd21 ct21 oc22 kV22 dc22 pm22 cd22 ct22 oc23 kV23 dc23 pm23 cd23 ct23 oc24 kV24 dc24 pm24 cd24 ct24 oc25 kV25 dc25 pm25 cd25 ct25 oc26 kV26 dc26 pm26 cd26 ct26 oc27 kV27 dc27 pm27 cd27 ct27 oc28 kV28 dc28 pm28 cd28 ct28 oc29 kV29 dc29 pm29 cd29 ct29:Value}
    (a1:PySem.W.nsIn K mainGlobals "is_nail"=some (some (.ref f1))) (l1:K.lookup f1=some ⟨oc1,od1, .func (PySem.W.fnOf "is_nail" "is_nail" (aE gj) (aB gj) (af gj) .none kV1 dc1 pm1 an1 cd1 ct1),sl1⟩) (c1:PySem.W.codeIn K cd1 "is_nail"=true) (k1:PySem.W.keepIn K (.ref f1)=true)
    (a2:PySem.W.nsIn K mainGlobals "short_form"=some (some (.ref f2))) (l2:K.lookup f2=some ⟨oc2,od2, .func (PySem.W.fnOf "short_form" "short_form" (aE dW) (aB dW) (af dW) .none kV2 dc2 pm2 an2 cd2 ct2),sl2⟩) (c2:PySem.W.codeIn K cd2 "short_form"=true) (k2:PySem.W.keepIn K (.ref f2)=true)
    (a3:PySem.W.nsIn K mainGlobals "is_fall"=some (some (.ref f3))) (l3:K.lookup f3=some ⟨oc3,od3, .func (PySem.W.fnOf "is_fall" "is_fall" (aE gk) (aB gk) (af gk) .none kV3 dc3 pm3 an3 cd3 ct3),sl3⟩) (c3:PySem.W.codeIn K cd3 "is_fall"=true) (k3:PySem.W.keepIn K (.ref f3)=true)
    (a4:PySem.W.nsIn K mainGlobals "set_of"=some (some (.ref f4))) (l4:K.lookup f4=some ⟨oc4,od4, .func (PySem.W.fnOf "set_of" "set_of" (aE g9) (aB g9) (af g9) .none kV4 dc4 pm4 an4 cd4 ct4),sl4⟩) (c4:PySem.W.codeIn K cd4 "set_of"=true) (k4:PySem.W.keepIn K (.ref f4)=true)
    (a5:PySem.W.nsIn K mainGlobals "nails_of"=some (some (.ref f5))) (l5:K.lookup f5=some ⟨oc5,od5, .func (PySem.W.fnOf "nails_of" "nails_of" (aE fv) (aB fv) (af fv) .none kV5 dc5 pm5 an5 cd5 ct5),sl5⟩) (c5:PySem.W.codeIn K cd5 "nails_of"=true) (k5:PySem.W.keepIn K (.ref f5)=true)
    (a6:PySem.W.nsIn K mainGlobals "without"=some (some (.ref f6))) (l6:K.lookup f6=some ⟨oc6,od6, .func (PySem.W.fnOf "without" "without" (aE gm) (aB gm) (af gm) .none kV6 dc6 pm6 an6 cd6 ct6),sl6⟩) (c6:PySem.W.codeIn K cd6 "without"=true) (k6:PySem.W.keepIn K (.ref f6)=true)
    (a7:PySem.W.nsIn K mainGlobals "falls_without"=some (some (.ref f7))) (l7:K.lookup f7=some ⟨oc7,od7, .func (PySem.W.fnOf "falls_without" "falls_without" (aE cq) (aB cq) (af cq) .none kV7 dc7 pm7 an7 cd7 ct7),sl7⟩) (c7:PySem.W.codeIn K cd7 "falls_without"=true) (k7:PySem.W.keepIn K (.ref f7)=true)
    (a8:PySem.W.nsIn K mainGlobals "bits_of"=some (some (.ref f8))) (l8:K.lookup f8=some ⟨oc8,od8, .func (PySem.W.fnOf "bits_of" "bits_of" (aE gn) (aB gn) (af gn) .none kV8 dc8 pm8 an8 cd8 ct8),sl8⟩) (c8:PySem.W.codeIn K cd8 "bits_of"=true) (k8:PySem.W.keepIn K (.ref f8)=true)
    {cT PT:Addr} {vsT:Array Value} {ocT:Value} {odT:Option Addr} {slT:Array (Option Value)} (a9:PySem.W.nsIn K mainGlobals "in_told_order"=some (some (.ref f9))) (l9:K.lookup f9=some ⟨oc9,od9, .func (PySem.W.fnOf "in_told_order" "in_told_order" (aE cr) (aB cr) (af cr) .none kV9 dc9 pm9 an9 (.ref cT) ct9),sl9⟩) (c9:PySem.W.codeIn K (.ref cT) "in_told_order"=true) (k9:PySem.W.keepIn K (.ref f9)=true)
    (t1:K.lookup cT=some ⟨ocT,odT, .fields vsT,slT⟩) (t2:(vsT[11]? :Option Value)=some (.ref PT)) (t3:PySem.W.codeHdIn K cT PT=true)
    (a10:PySem.W.nsIn K mainGlobals "has_part_among"=some (some (.ref f10))) (l10:K.lookup f10=some ⟨oc10,od10, .func (PySem.W.fnOf "has_part_among" "has_part_among" (aE ce) (aB ce) (af ce) .none kV10 dc10 pm10 an10 cd10 ct10),sl10⟩) (c10:PySem.W.codeIn K cd10 "has_part_among"=true) (k10:PySem.W.keepIn K (.ref f10)=true)
    (a11:PySem.W.nsIn K mainGlobals "least_of"=some (some (.ref f11))) (l11:K.lookup f11=some ⟨oc11,od11, .func (PySem.W.fnOf "least_of" "least_of" (aE fw) (aB fw) (af fw) .none kV11 dc11 pm11 an11 cd11 ct11),sl11⟩) (c11:PySem.W.codeIn K cd11 "least_of"=true) (k11:PySem.W.keepIn K (.ref f11)=true)
    (a12:PySem.W.nsIn K mainGlobals "all_sets"=some (some (.ref f12))) (l12:K.lookup f12=some ⟨oc12,od12, .func (PySem.W.fnOf "all_sets" "all_sets" (aE fz) (aB fz) (af fz) .none kV12 dc12 pm12 an12 cd12 ct12),sl12⟩) (c12:PySem.W.codeIn K cd12 "all_sets"=true) (k12:PySem.W.keepIn K (.ref f12)=true)
    (a13:PySem.W.nsIn K mainGlobals "check_many"=some (some (.ref f13))) (l13:K.lookup f13=some ⟨oc13,od13, .func (PySem.W.fnOf "check_many" "check_many" (aE dX) (aB dX) (af dX) .none kV13 dc13 pm13 an13 cd13 ct13),sl13⟩) (c13:PySem.W.codeIn K cd13 "check_many"=true) (k13:PySem.W.keepIn K (.ref f13)=true)
    (a14:PySem.W.nsIn K mainGlobals "falling_sets"=some (some (.ref f14))) (l14:K.lookup f14=some ⟨oc14,od14, .func (PySem.W.fnOf "falling_sets" "falling_sets" (aE cX) (aB cX) (af cX) .none kV14 dc14 pm14 an14 cd14 ct14),sl14⟩) (c14:PySem.W.codeIn K cd14 "falling_sets"=true) (k14:PySem.W.keepIn K (.ref f14)=true)
    (a15:PySem.W.nsIn K mainGlobals "_law_at"=some (some (.ref f15))) (l15:K.lookup f15=some ⟨oc15,od15, .func (PySem.W.fnOf "_law_at" "_law_at" (aE g_) (aB g_) (af g_) .none kV15 dc15 pm15 an15 cd15 ct15),sl15⟩) (c15:PySem.W.codeIn K cd15 "_law_at"=true) (k15:PySem.W.keepIn K (.ref f15)=true)
    (a16:PySem.W.nsIn K mainGlobals "_law_stir"=some (some (.ref f16))) (l16:K.lookup f16=some ⟨oc16,od16, .func (PySem.W.fnOf "_law_stir" "_law_stir" (aE fA) (aB fA) (af fA) .none kV16 dc16 pm16 an16 cd16 ct16),sl16⟩) (c16:PySem.W.codeIn K cd16 "_law_stir"=true) (k16:PySem.W.keepIn K (.ref f16)=true)
    (a17:PySem.W.nsIn K mainGlobals "_law_nails"=some (some (.ref f17))) (l17:K.lookup f17=some ⟨oc17,od17, .func (PySem.W.fnOf "_law_nails" "_law_nails" (aE eP) (aB eP) (af eP) .none kV17 dc17 pm17 an17 cd17 ct17),sl17⟩) (c17:PySem.W.codeIn K cd17 "_law_nails"=true) (k17:PySem.W.keepIn K (.ref f17)=true)
    (a18:PySem.W.nsIn K mainGlobals "_law_back"=some (some (.ref f18))) (l18:K.lookup f18=some ⟨oc18,od18, .func (PySem.W.fnOf "_law_back" "_law_back" (aE fB) (aB fB) (af fB) .none kV18 dc18 pm18 an18 cd18 ct18),sl18⟩) (c18:PySem.W.codeIn K cd18 "_law_back"=true) (k18:PySem.W.keepIn K (.ref f18)=true)
    (a19:PySem.W.nsIn K mainGlobals "_law_turns"=some (some (.ref f19))) (l19:K.lookup f19=some ⟨oc19,od19, .func (PySem.W.fnOf "_law_turns" "_law_turns" (aE eQ) (aB eQ) (af eQ) .none kV19 dc19 pm19 an19 cd19 ct19),sl19⟩) (c19:PySem.W.codeIn K cd19 "_law_turns"=true) (k19:PySem.W.keepIn K (.ref f19)=true)
    (a20:PySem.W.nsIn K mainGlobals "_law_by_digits"=some (some (.ref f20))) (l20:K.lookup f20=some ⟨oc20,od20, .func (PySem.W.fnOf "_law_by_digits" "_law_by_digits" (aE cu) (aB cu) (af cu) .none kV20 dc20 pm20 an20 cd20 ct20),sl20⟩) (c20:PySem.W.codeIn K cd20 "_law_by_digits"=true) (k20:PySem.W.keepIn K (.ref f20)=true)
    (a21:PySem.W.nsIn K mainGlobals "_law_built"=some (some (.ref f21))) (l21:K.lookup f21=some ⟨oc21,od21, .func (PySem.W.fnOf "_law_built" "_law_built" (aE eR) (aB eR) (af eR) .none kV21 dc21 pm21 an21 cd21 ct21),sl21⟩) (c21:PySem.W.codeIn K cd21 "_law_built"=true) (k21:PySem.W.keepIn K (.ref f21)=true)
    (a22:PySem.W.nsIn K mainGlobals "_law_cord"=some (some (.ref f22))) (l22:K.lookup f22=some ⟨oc22,od22, .func (PySem.W.fnOf "_law_cord" "_law_cord" (aE fD) (aB fD) (af fD) .none kV22 dc22 pm22 an22 cd22 ct22),sl22⟩) (c22:PySem.W.codeIn K cd22 "_law_cord"=true) (k22:PySem.W.keepIn K (.ref f22)=true)
    (a23:PySem.W.nsIn K mainGlobals "_law_short"=some (some (.ref f23))) (l23:K.lookup f23=some ⟨oc23,od23, .func (PySem.W.fnOf "_law_short" "_law_short" (aE eS) (aB eS) (af eS) .none kV23 dc23 pm23 an23 cd23 ct23),sl23⟩) (c23:PySem.W.codeIn K cd23 "_law_short"=true) (k23:PySem.W.keepIn K (.ref f23)=true)
    (a24:PySem.W.nsIn K mainGlobals "_law_by_size"=some (some (.ref f24))) (l24:K.lookup f24=some ⟨oc24,od24, .func (PySem.W.fnOf "_law_by_size" "_law_by_size" (aE cM) (aB cM) (af cM) .none kV24 dc24 pm24 an24 cd24 ct24),sl24⟩) (c24:PySem.W.codeIn K cd24 "_law_by_size"=true) (k24:PySem.W.keepIn K (.ref f24)=true)
    (a25:PySem.W.nsIn K mainGlobals "_law_sets"=some (some (.ref f25))) (l25:K.lookup f25=some ⟨oc25,od25, .func (PySem.W.fnOf "_law_sets" "_law_sets" (aE fE) (aB fE) (af fE) .none kV25 dc25 pm25 an25 cd25 ct25),sl25⟩) (c25:PySem.W.codeIn K cd25 "_law_sets"=true) (k25:PySem.W.keepIn K (.ref f25)=true)
    (a26:PySem.W.nsIn K mainGlobals "_law_is_part"=some (some (.ref f26))) (l26:K.lookup f26=some ⟨oc26,od26, .func (PySem.W.fnOf "_law_is_part" "_law_is_part" (aE dw) (aB dw) (af dw) .none kV26 dc26 pm26 an26 cd26 ct26),sl26⟩) (c26:PySem.W.codeIn K cd26 "_law_is_part"=true) (k26:PySem.W.keepIn K (.ref f26)=true)
    (a27:PySem.W.nsIn K mainGlobals "_law_due"=some (some (.ref f27))) (l27:K.lookup f27=some ⟨oc27,od27, .func (PySem.W.fnOf "_law_due" "_law_due" (aE gq) (aB gq) (af gq) .none kV27 dc27 pm27 an27 cd27 ct27),sl27⟩) (c27:PySem.W.codeIn K cd27 "_law_due"=true) (k27:PySem.W.keepIn K (.ref f27)=true)
    (a28:PySem.W.nsIn K mainGlobals "_law_right"=some (some (.ref f28))) (l28:K.lookup f28=some ⟨oc28,od28, .func (PySem.W.fnOf "_law_right" "_law_right" (aE eT) (aB eT) (af eT) .none kV28 dc28 pm28 an28 cd28 ct28),sl28⟩) (c28:PySem.W.codeIn K cd28 "_law_right"=true) (k28:PySem.W.keepIn K (.ref f28)=true)
    (a29:PySem.W.nsIn K mainGlobals "law"=some (some (.ref f29))) (l29:K.lookup f29=some ⟨oc29,od29, .func (PySem.W.fnOf "law" "law" (aE jG) (aB jG) (af jG) .none kV29 dc29 pm29 an29 cd29 ct29),sl29⟩) (c29:PySem.W.codeIn K cd29 "law"=true) (k29:PySem.W.keepIn K (.ref f29)=true)
    {t_LETTERS:Tok} (g_LETTERS:PySem.W.nsIn K mainGlobals "LETTERS"=some (some (.str "abcdefghijklmnopqrstuvwxyz" t_LETTERS)))
    {t_MOST_NAILS:Tok} (g_MOST_NAILS:PySem.W.nsIn K mainGlobals "MOST_NAILS"=some (some (.int 10 t_MOST_NAILS)))
    (z1:PySem.W.nsIn K mainGlobals "len"=some none)
    (z2:PySem.W.nsIn K mainGlobals "range"=some none)
    (z3:PySem.W.nsIn K mainGlobals "abs"=some none)
    (z4:PySem.W.nsIn K mainGlobals "min"=some none)
    (z5:PySem.W.nsIn K mainGlobals "max"=some none)
    (z6:PySem.W.nsIn K mainGlobals "reversed"=some none)
    (z7:PySem.W.nsIn K mainGlobals "enumerate"=some none)
    (z8:PySem.W.nsIn K mainGlobals "isinstance"=some none)
    (z9:PySem.W.nsIn K mainGlobals "list"=some none)
    (z10:PySem.W.nsIn K mainGlobals "tuple"=some none)
    (z11:PySem.W.nsIn K mainGlobals "str"=some none)
    (z12:PySem.W.nsIn K mainGlobals "int"=some none)
    (z13:PySem.W.nsIn K mainGlobals "bool"=some none)
    (z14:PySem.W.nsIn K mainGlobals "sorted"=some none)
    (z15:PySem.W.nsIn K mainGlobals "zip"=some none)
    (z16:PySem.W.nsIn K mainGlobals "sum"=some none)
    (z17:PySem.W.nsIn K mainGlobals "any"=some none)
    (z18:PySem.W.nsIn K mainGlobals "all"=some none)
    (z19:PySem.W.nsIn K mainGlobals "set"=some none)
    (z20:PySem.W.nsIn K mainGlobals "dict"=some none):
    ∃fd:FuncData,(∀(s:Shared) (v:Value),BindsTo s fd ⟨[v],[]⟩ [("_law_script",v)])∧∀base:Heap,K.In base→base.Ns mainGlobals mg→FnOk l.prog w K mg base tL 6 fa fd ["_law_script"] (ee K jh):=by
  have e:=hfa.symm.trans (PySem.W.mg_of X G a29)
  cases e
  have F0:=qK (st:=jG) l29 c29 k29
  have B:Bn mg:=AY X G z1 z2 z3 z4 z5 z6 z7 z8 z9 z10 z11 z12 z13 z14 z15 z16 z17 z18 z19 z20
  have G_LETTERS:=PySem.W.mg_of X G g_LETTERS
  have G_MOST_NAILS:=PySem.W.mg_of X G g_MOST_NAILS
  have e_is_nail:Def K mg "is_nail" gj ["thing"]:=bK X G a1 l1 c1 k1 fun _ _ _ _ _ _=>fun us hl=>iJ (fun _=>rfl) us hl
  have e_short_form:Def K mg "short_form" dW ["cord"]:=bK X G a2 l2 c2 k2 fun _ _ _ _ _ _=>fun us hl=>iJ (fun _=>rfl) us hl
  have e_is_fall:Def K mg "is_fall" gk ["cord"]:=bK X G a3 l3 c3 k3 fun _ _ _ _ _ _=>fun us hl=>iJ (fun _=>rfl) us hl
  have e_set_of:Def K mg "set_of" g9 ["nails"]:=bK X G a4 l4 c4 k4 fun _ _ _ _ _ _=>fun us hl=>iJ (fun _=>rfl) us hl
  have e_nails_of:Def K mg "nails_of" fv ["cord"]:=bK X G a5 l5 c5 k5 fun _ _ _ _ _ _=>fun us hl=>iJ (fun _=>rfl) us hl
  have e_without:Def K mg "without" gm ["cord","nails"]:=bK X G a6 l6 c6 k6 fun _ _ _ _ _ _=>fun us hl=>qz (fun _ _=>rfl) us hl
  have e_falls_without:Def K mg "falls_without" cq ["cord","nails"]:=bK X G a7 l7 c7 k7 fun _ _ _ _ _ _=>fun us hl=>qz (fun _ _=>rfl) us hl
  have e_bits_of:Def K mg "bits_of" gn ["nails"]:=bK X G a8 l8 c8 k8 fun _ _ _ _ _ _=>fun us hl=>iJ (fun _=>rfl) us hl
  have e_in_told_order:DefT K mg "in_told_order" cr ["sets"] cT PT:=⟨⟨f9,_,_,_,_,_,_,_,_,l9,c9,k9,PySem.W.mg_of X G a9, .all (fun us hl=>iJ (fun _=>rfl) us hl)⟩,t3,vY a9 l9 rfl t1 t2⟩
  have e_has_part_among:Def K mg "has_part_among" ce ["bits","parts"]:=bK X G a10 l10 c10 k10 fun _ _ _ _ _ _=>fun us hl=>qz (fun _ _=>rfl) us hl
  have e_least_of:Def K mg "least_of" fw ["sets"]:=bK X G a11 l11 c11 k11 fun _ _ _ _ _ _=>fun us hl=>iJ (fun _=>rfl) us hl
  have e_all_sets:Def K mg "all_sets" fz ["nails"]:=bK X G a12 l12 c12 k12 fun _ _ _ _ _ _=>fun us hl=>iJ (fun _=>rfl) us hl
  have e_check_many:Def K mg "check_many" dX ["nails"]:=bK X G a13 l13 c13 k13 fun _ _ _ _ _ _=>fun us hl=>iJ (fun _=>rfl) us hl
  have e_falling_sets:Def K mg "falling_sets" cX ["cord"]:=bK X G a14 l14 c14 k14 fun _ _ _ _ _ _=>fun us hl=>iJ (fun _=>rfl) us hl
  have e_law_at:Def K mg "_law_at" g_ ["_law_script","_law_k"]:=bK X G a15 l15 c15 k15 fun _ _ _ _ _ _=>fun us hl=>qz (fun _ _=>rfl) us hl
  have e_law_stir:Def K mg "_law_stir" fA ["_law_cell","_law_k"]:=bK X G a16 l16 c16 k16 fun _ _ _ _ _ _=>fun us hl=>qz (fun _ _=>rfl) us hl
  have e_law_nails:Def K mg "_law_nails" eP ["_law_cell","_law_many"]:=bK X G a17 l17 c17 k17 fun _ _ _ _ _ _=>fun us hl=>qz (fun _ _=>rfl) us hl
  have e_law_back:Def K mg "_law_back" fB ["_law_cord_here"]:=bK X G a18 l18 c18 k18 fun _ _ _ _ _ _=>fun us hl=>iJ (fun _=>rfl) us hl
  have e_law_turns:Def K mg "_law_turns" eQ ["_law_cell"]:=bK X G a19 l19 c19 k19 fun _ _ _ _ _ _=>fun us hl=>iJ (fun _=>rfl) us hl
  have e_law_by_digits:Def K mg "_law_by_digits" cu ["_law_cell","_law_some","_law_most"]:=bK X G a20 l20 c20 k20 fun _ _ _ _ _ _=>fun us hl=>Cd (fun _ _ _=>rfl) us hl
  have e_law_built:Def K mg "_law_built" eR ["_law_script","_law_first","_law_some","_law_most"]:=bK X G a21 l21 c21 k21 fun _ _ _ _ _ _=>fun us hl=>Bl (fun _ _ _ _=>rfl) us hl
  have e_law_cord:Def K mg "_law_cord" fD ["_law_script","_law_first","_law_some","_law_most"]:=bK X G a22 l22 c22 k22 fun _ _ _ _ _ _=>fun us hl=>Bl (fun _ _ _ _=>rfl) us hl
  have e_law_short:Def K mg "_law_short" eS ["_law_cord_here"]:=bK X G a23 l23 c23 k23 fun _ _ _ _ _ _=>fun us hl=>iJ (fun _=>rfl) us hl
  have e_law_by_size:Def K mg "_law_by_size" cM ["_law_one"]:=bK X G a24 l24 c24 k24 fun _ _ _ _ _ _=>fun us hl=>iJ (fun _=>rfl) us hl
  have e_law_sets:Def K mg "_law_sets" fE ["_law_names"]:=bK X G a25 l25 c25 k25 fun _ _ _ _ _ _=>fun us hl=>iJ (fun _=>rfl) us hl
  have e_law_is_part:Def K mg "_law_is_part" dw ["_law_one","_law_other"]:=bK X G a26 l26 c26 k26 fun _ _ _ _ _ _=>fun us hl=>qz (fun _ _=>rfl) us hl
  have e_law_due:Def K mg "_law_due" gq ["_law_cord_here"]:=bK X G a27 l27 c27 k27 fun _ _ _ _ _ _=>fun us hl=>iJ (fun _=>rfl) us hl
  have e_law_right:Def K mg "_law_right" eT ["_law_found","_law_due_here"]:=bK X G a28 l28 c28 k28 fun _ _ _ _ _ _=>fun us hl=>qz (fun _ _=>rfl) us hl
  refine ⟨PySem.W.fnOf "law" "law" (aE jG) (aB jG) (af jG) .none kV29 dc29 pm29 an29 cd29 ct29,fun s v=> .of_eq rfl,fun base _ _=>?_⟩
  have D_is_nail:=rB (P:=l.prog) (w:=w) (base:=base) e_is_nail B
  have D_short_form:=ml (P:=l.prog) (w:=w) (base:=base) e_short_form B
  have D_is_fall:=rD (P:=l.prog) (w:=w) (base:=base) e_is_fall B D_short_form
  have D_set_of:=ut (P:=l.prog) (w:=w) (base:=base) e_set_of B D_is_nail
  have D_nails_of:=qa (P:=l.prog) (w:=w) (base:=base) e_nails_of B
  have D_without:=rE (P:=l.prog) (w:=w) (base:=base) e_without B D_set_of
  have D_falls_without:=ka (P:=l.prog) (w:=w) (base:=base) e_falls_without B D_without D_is_fall
  have D_bits_of:=rF (P:=l.prog) (w:=w) (base:=base) e_bits_of B G_LETTERS
  have D_in_told_order:=ke (P:=l.prog) (w:=w) (base:=base) e_in_told_order B
  have D_has_part_among:=jF (P:=l.prog) (w:=w) (base:=base) e_has_part_among B
  have D_least_of:=qc (P:=l.prog) (w:=w) (base:=base) e_least_of B D_in_told_order D_bits_of D_has_part_among
  have D_all_sets:=qd (P:=l.prog) (w:=w) (base:=base) e_all_sets B
  have D_check_many:=mo (P:=l.prog) (w:=w) (base:=base) e_check_many B G_MOST_NAILS
  have D_falling_sets:=kJ (P:=l.prog) (w:=w) (base:=base) e_falling_sets B D_nails_of D_check_many D_all_sets D_falls_without D_least_of
  have D_law_at:=uv (P:=l.prog) (w:=w) (base:=base) e_law_at B
  have D_law_stir:=qe (P:=l.prog) (w:=w) (base:=base) e_law_stir B
  have D_law_nails:=oo (P:=l.prog) (w:=w) (base:=base) e_law_nails B
  have D_law_back:=qf (P:=l.prog) (w:=w) (base:=base) e_law_back B
  have D_law_turns:=ou (P:=l.prog) (w:=w) (base:=base) e_law_turns B
  have D_law_by_digits:=kf (P:=l.prog) (w:=w) (base:=base) e_law_by_digits B
  have D_law_built:=ov (P:=l.prog) (w:=w) (base:=base) e_law_built B D_law_at D_law_stir D_law_turns D_law_back
  have D_law_cord:=qg (P:=l.prog) (w:=w) (base:=base) e_law_cord B D_law_at D_law_by_digits D_law_built
  have D_law_short:=oz (P:=l.prog) (w:=w) (base:=base) e_law_short B
  have D_law_by_size:=lR (P:=l.prog) (w:=w) (base:=base) e_law_by_size B
  have D_law_sets:=qh (P:=l.prog) (w:=w) (base:=base) e_law_sets B e_law_by_size
  have D_law_is_part:=lT (P:=l.prog) (w:=w) (base:=base) e_law_is_part B
  have D_law_due:=rG (P:=l.prog) (w:=w) (base:=base) e_law_due B D_law_short D_law_sets D_law_is_part
  have D_law_right:=oA (P:=l.prog) (w:=w) (base:=base) e_law_right B
  exact zI F0 B D_law_at D_law_nails D_law_cord D_law_due D_falling_sets D_law_right
theorem Ce {l:PySem.W.OpenLaw} {q:Program} {loose:List Str} {XP:(Str→Option Value)→Heap→Prop} {YP:World→Heap→Prop} {d:DefRec} {K:Params→PySem.W.Frag} (hn:l.most=some 63) (hdf:d.params.defaults=[])
    (hY:∀(w:World) (h:Heap),YP w h→(K w.params).In h∧sI (K w.params) h)
    (F:∀(w:World) (mg:Str→Option Value) (fa:Addr) (h:Heap),(K w.params).In h→h.Ns mainGlobals mg→mg d.name=some (.ref fa)→
      ∃fd:FuncData,(∀(s:Shared) (u:Value),BindsTo s fd ⟨[u],[]⟩ [("_law_script",u)])∧∀base:Heap,(K w.params).In base→base.Ns mainGlobals mg→FnOk l.prog w (K w.params) mg base tL 6 fa fd ["_law_script"] (ee (K w.params) jh)):
    PySem.W.WalkO q loose XP YP l.row.toRowW d [] (fun f vs=>PySem.call f vs):=
  L2.vL (n:=63) (k:=6) (x:="_law_script") (CX:=fun _=>tL) (sp:=fun w=>ee (K w.params) jh) hn (by decide) hdf ⟨rfl,by decide,by decide⟩ hY F (fun _ _ a ns hl hS=>zi (zX ns hl) hS) fun _ _ _ _ _ z=>z
end Nhk35
open PySem PySem.W PyProof.Rows
theorem PySem.W.Fast.te7576712190885472675 : True := trivial
set_option maxRecDepth 100000 in
set_option maxHeartbeats 0 in
theorem PySem.Challenge.cw_nailhang_k35_falling_sets_tried_holds : PySem.Challenge.rw_nailhang_k35_falling_sets_tried.Holds := by
  w_on;o_law;k_head;(case hw=>w_witness2)
  k_fill
  refine Nhk35.Ce (l:=PySem.Challenge.rw_nailhang_k35_falling_sets_tried) rfl rfl (fun w h Y=>⟨PySem.W.km_in_of Y,by
    refine' PL.vZ (PySem.W.km_in_of Y) ?y1 ?y2 ?y3 ?y4 ?y5 ?y6 ?y7 (PySem.W.km_tabs_of Y _ ?y8)
    (case y1=>k_is)
    (case y2=>k_is)
    (case y3=>exact rfl)
    (case y4=>k_is)
    (case y5=>exact rfl)
    (case y6=>kernel_rfl)
    (case y7=>kernel_rfl)
    (case y8=>k_mem)⟩) ?F
  case F=>
    intro w mg fa h KX G hmg
    refine' Nhk35.zY KX G hmg ?a1 ?l1 ?c1 ?k1 ?a2 ?l2 ?c2 ?k2 ?a3 ?l3 ?c3 ?k3 ?a4 ?l4 ?c4 ?k4 ?a5 ?l5 ?c5 ?k5 ?a6 ?l6 ?c6 ?k6 ?a7 ?l7 ?c7 ?k7 ?a8 ?l8 ?c8 ?k8 ?a9 ?l9 ?c9 ?k9 ?t1 ?t2 ?t3 ?a10 ?l10 ?c10 ?k10 ?a11 ?l11 ?c11 ?k11 ?a12 ?l12 ?c12 ?k12 ?a13 ?l13 ?c13 ?k13 ?a14 ?l14 ?c14 ?k14 ?a15 ?l15 ?c15 ?k15 ?a16 ?l16 ?c16 ?k16 ?a17 ?l17 ?c17 ?k17 ?a18 ?l18 ?c18 ?k18 ?a19 ?l19 ?c19 ?k19 ?a20 ?l20 ?c20 ?k20 ?a21 ?l21 ?c21 ?k21 ?a22 ?l22 ?c22 ?k22 ?a23 ?l23 ?c23 ?k23 ?a24 ?l24 ?c24 ?k24 ?a25 ?l25 ?c25 ?k25 ?a26 ?l26 ?c26 ?k26 ?a27 ?l27 ?c27 ?k27 ?a28 ?l28 ?c28 ?k28 ?a29 ?l29 ?c29 ?k29 ?g_LETTERS ?g_MOST_NAILS ?z1 ?z2 ?z3 ?z4 ?z5 ?z6 ?z7 ?z8 ?z9 ?z10 ?z11 ?z12 ?z13 ?z14 ?z15 ?z16 ?z17 ?z18 ?z19 ?z20
    (case a1=>k_is)
    (case l1=>k_is)
    (case c1=>k_is)
    (case k1=>k_is)
    (case a2=>k_is)
    (case l2=>k_is)
    (case c2=>k_is)
    (case k2=>k_is)
    (case a3=>k_is)
    (case l3=>k_is)
    (case c3=>k_is)
    (case k3=>k_is)
    (case a4=>k_is)
    (case l4=>k_is)
    (case c4=>k_is)
    (case k4=>k_is)
    (case a5=>k_is)
    (case l5=>k_is)
    (case c5=>k_is)
    (case k5=>k_is)
    (case a6=>k_is)
    (case l6=>k_is)
    (case c6=>k_is)
    (case k6=>k_is)
    (case a7=>k_is)
    (case l7=>k_is)
    (case c7=>k_is)
    (case k7=>k_is)
    (case a8=>k_is)
    (case l8=>k_is)
    (case c8=>k_is)
    (case k8=>k_is)
    (case a9=>k_is)
    (case l9=>k_is)
    (case c9=>k_is)
    (case k9=>k_is)
    (case t1=>k_is)
    (case t2=>exact rfl)
    (case t3=>kernel_rfl)
    (case a10=>k_is)
    (case l10=>k_is)
    (case c10=>k_is)
    (case k10=>k_is)
    (case a11=>k_is)
    (case l11=>k_is)
    (case c11=>k_is)
    (case k11=>k_is)
    (case a12=>k_is)
    (case l12=>k_is)
    (case c12=>k_is)
    (case k12=>k_is)
    (case a13=>k_is)
    (case l13=>k_is)
    (case c13=>k_is)
    (case k13=>k_is)
    (case a14=>k_is)
    (case l14=>k_is)
    (case c14=>k_is)
    (case k14=>k_is)
    (case a15=>k_is)
    (case l15=>k_is)
    (case c15=>k_is)
    (case k15=>k_is)
    (case a16=>k_is)
    (case l16=>k_is)
    (case c16=>k_is)
    (case k16=>k_is)
    (case a17=>k_is)
    (case l17=>k_is)
    (case c17=>k_is)
    (case k17=>k_is)
    (case a18=>k_is)
    (case l18=>k_is)
    (case c18=>k_is)
    (case k18=>k_is)
    (case a19=>k_is)
    (case l19=>k_is)
    (case c19=>k_is)
    (case k19=>k_is)
    (case a20=>k_is)
    (case l20=>k_is)
    (case c20=>k_is)
    (case k20=>k_is)
    (case a21=>k_is)
    (case l21=>k_is)
    (case c21=>k_is)
    (case k21=>k_is)
    (case a22=>k_is)
    (case l22=>k_is)
    (case c22=>k_is)
    (case k22=>k_is)
    (case a23=>k_is)
    (case l23=>k_is)
    (case c23=>k_is)
    (case k23=>k_is)
    (case a24=>k_is)
    (case l24=>k_is)
    (case c24=>k_is)
    (case k24=>k_is)
    (case a25=>k_is)
    (case l25=>k_is)
    (case c25=>k_is)
    (case k25=>k_is)
    (case a26=>k_is)
    (case l26=>k_is)
    (case c26=>k_is)
    (case k26=>k_is)
    (case a27=>k_is)
    (case l27=>k_is)
    (case c27=>k_is)
    (case k27=>k_is)
    (case a28=>k_is)
    (case l28=>k_is)
    (case c28=>k_is)
    (case k28=>k_is)
    (case a29=>k_is)
    (case l29=>k_is)
    (case c29=>k_is)
    (case k29=>k_is)
    (case g_LETTERS=>k_is)
    (case g_MOST_NAILS=>k_is)
    (case z1=>k_is)
    (case z2=>k_is)
    (case z3=>k_is)
    (case z4=>k_is)
    (case z5=>k_is)
    (case z6=>k_is)
    (case z7=>k_is)
    (case z8=>k_is)
    (case z9=>k_is)
    (case z10=>k_is)
    (case z11=>k_is)
    (case z12=>k_is)
    (case z13=>k_is)
    (case z14=>k_is)
    (case z15=>k_is)
    (case z16=>k_is)
    (case z17=>k_is)
    (case z18=>k_is)
    (case z19=>k_is)
    (case z20=>k_is)
