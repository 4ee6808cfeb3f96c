import PyProof.Rows.All
import KE.KLam
import KE.KNestM
import PyProof.OldK
import Wide.All
import OpenK.AllK
import Wide.FinOn
import Lean
import PyProof.EqAt
import PyProof.EqKinds
import PyProof.TupleCall
import KE.KRevIter
import PyProof.Rows.SeqMore
import PyProof.Rows.ListMulArg
import PyProof.ZipIter
import PyProof.Rows.ZipGen
import PyProof.EnumMake
import PyProof.StrWalks
import PyProof.SliceStr2
import PyProof.StrBlockH
import PyProof.FString5
import PyProof.Rows.StrJoin2
import PyProof.Rows.Range3
import KE.KDictLaws
import PyProof.ConsumeWalk
import PyProof.SumWalkG
import PyProof.Rows.SeqCalls
import PyProof.Rows.SeqGen
import PyProof.Rows.MinMaxN
import PyProof.Rows.CallKwBuiltin
import PyProof.Rows.SortStr
import PyProof.StrOps2
import PyProof.Rows.StrMul
import PyProof.IsRules
import PyProof.Rows.SetFrom
import PyProof.CollectStr
import PyProof.Rows.SortRuns
import PyProof.Rows.SortKey
import KE.KSortTup
import PyProof.StrOps
import PyProof.StrCalls
import PyProof.StrLawsIn
import PyProof.StrLawsNeg
import PySem.Challenge.RW_nailhang_k56_rows_have_holding_sets
set_option Elab.async false
set_option linter.all false
set_option maxRecDepth 100000
set_option maxHeartbeats 4000000
local macro_rules | `(tactic|omega) => `(tactic|lia)
noncomputable section
theorem Z0{α β:Type}(a:α)(f:α→Option β):(some a).bind f=f a:=rfl
theorem Z1{α β:Type}{x:α}{f:α→β}:(some x).map f=some (f x):=rfl
theorem Z2{α:Type}{a:α}{l:List α}:(a::l)[0]? =some a:=rfl
theorem Z3{α:Type}{a:α}{l:List α}{i}:(a::l)[i+1]? =l[i]? :=rfl
theorem Z4{α:Type}{a:α}{l:List α}:(a::l).length=l.length+1:=rfl
theorem Z5{α:Type}:([]:List α).length=0:=rfl
theorem Z6{α:Type}{a b:α}{l:List α}:(a::l).set 0 b=b::l:=rfl
theorem Z7{α:Type}{a b:α}{l:List α}{n}:(a::l).set (n+1) b=a::l.set n b:=rfl
theorem Z8{α:Type}{l:List α}:[]++l=l:=rfl
theorem Z9{α:Type}{a:α}{l m:List α}:a::l++m=a::(l++m):=rfl
def aU:=@And.intro _ _ @Bool.false_and <|And.intro @Bool.false_eq_true <|And.intro @if_true.{1} <|And.intro @if_false.{1} <|And.intro @Nat.zero_add <|And.intro @Bool.not_false <|And.intro @Bool.and_true <|And.intro @decide_true <|And.intro @decide_false <|And.intro @Bool.true_or <|And.intro @Bool.true_and @Bool.not_true
def Za:=@Option.bind_eq_some_iff
def bE:=@List.map_cons
def gq:=@List.mem_cons_of_mem
def iB:=@PySem.Heap.get?_push_of_some
def fw:=@List.length_map
def gJ:=@List.mem_cons_self
def Zaf:=@Option.map_eq_some_iff
def Zag:=@List.mem_singleton
def f6:=@List.map_nil
def gi:=@Nat.le_refl
def Zaj:=@List.mem_append
def l_:=@PySem.Heap.get?_push_size
def Zal:=@List.mem_cons
def lS:=@List.size_toArray
def jf:=@PySem.Heap.lt_size
def mL:=@List.getElem?_map
def lO:=@List.map_append
def jn:=@Nat.le_trans
def oV:=@Nat.lt_of_lt_of_le
def oW:=@Nat.lt_of_le_of_lt
def uH:=@List.getElem?_eq_getElem
def jT:=@Nat.ne_of_lt
def Zav:=@List.nodup_append
def rn:=@List.mem_append_right
def pI:=@List.length_append
def pk:=@List.append_assoc
def oX:=@Option.any_some
def Zb:=@Bool.false_ne_true
def qN:=@Nat.le_add_right
def ma:=@Nat.le_of_lt
def Zbc:=@List.mem_map
def wI:=@Array.toList_append
def wJ:=@Array.length_toList
def uK:=@List.reverse_cons
def Bo:=@Nat.add_sub_cancel_left
def Zbh:=@List.getElem?_eq_some_iff
def wK:=@Nat.lt_succ_of_lt
def D2:=@List.getElem?_append_right
def wL:=@Bool.and_eq_true
def Bp:=@List.reverse_reverse
def Zbm:=@List.nodup_cons
def Zbn:=@List.mem_filter
def Zbo:=@Option.filter_eq_some_iff
open PySem.W (instObj tabObj methodObj Frag nsIn lookIn kia_one kitx_list kitx_dict keepIn fnOf codeIn mg_of mg_none_of OpenLaw codeHdIn)
local macro_rules | `(tactic|and_intros)=>`(tactic|exact⟨rfl,rfl,rfl,by decide+kernel,rfl,by decide+kernel,by decide+kernel⟩)
namespace L2
open PySem PySem.Spec PyProof.Rows
abbrev bM:=Sum Int Str
def rz:bM→Value→Bool
 |.inl k,v=>Value.isInt k v
 |.inr x,v=>Value.isStrOf x v
def JI(w:World):bM→Int
 |.inl k=>hashInt k
 |.inr x=>hashStr w x
theorem dD:∀{k:bM} {v:Value},rz k v=true→(∃i t,k=Sum.inl i∧v=Value.int i t)∨(∃x t,k=Sum.inr x∧v=Value.str x t)
 |.inl i,v,h=>by
  obtain⟨t,e⟩:=Value.isInt_shape (k:=i) (v:=v) h
  exact .inl ⟨i,t,rfl,e⟩
 |.inr x,v,h=>by
  obtain⟨t,e⟩:=Value.isStrOf_shape (x:=x) (v:=v) h
  exact .inr ⟨x,t,rfl,e⟩
theorem zF(i:Int)(t:Tok):rz (.inl i) (.int i t)=true:=by simp[rz,Value.isInt]
theorem zG(x:Str)(t:Tok):rz (.inr x) (.str x t)=true:=by simp[rz,Value.isStrOf]
theorem Gq(a b:Int):decide ((Sum.inl a:bM)=Sum.inl b)=(a == b):=by
 by_cases e:a=b
 ·subst e;simp
 ·have h:¬(Sum.inl a:bM)=Sum.inl b:=fun q=>e (Sum.inl.inj q)
  rw[decide_eq_false h]
  exact(beq_eq_false_iff_ne.mpr e).symm
theorem Gr(a b:Str):decide ((Sum.inr a:bM)=Sum.inr b)=decide (a=b):=by
 by_cases e:a=b
 ·subst e;simp
 ·have h:¬(Sum.inr a:bM)=Sum.inr b:=fun q=>e (Sum.inr.inj q)
  rw[decide_eq_false h,decide_eq_false e]
theorem Gs(a:Int)(b:Str):decide ((Sum.inl a:bM)=Sum.inr b)=false:=decide_eq_false (fun q=>nomatch q)
theorem Gu(a:Str)(b:Int):decide ((Sum.inr a:bM)=Sum.inl b)=false:=decide_eq_false (fun q=>nomatch q)
def fb(prog:Program)(w:World):PySem.KeyKind prog w bM where
 is:=rz
 hash:=JI w
 inj:=fun v a b ha hb=>by
  rcases dD ha with⟨i,t,rfl,rfl⟩ |⟨x,t,rfl,rfl⟩
  ·rcases dD hb with⟨j,u,rfl,e⟩ |⟨y,u,rfl,e⟩
   ·injection e with e1 _;rw[e1]
   ·exact nomatch e
  ·rcases dD hb with⟨j,u,rfl,e⟩ |⟨y,u,rfl,e⟩
   ·exact nomatch e
   ·injection e with e1 _;rw[e1]
 byValue:=fun k v h=>by
  rcases dD h with⟨i,t,rfl,rfl⟩ |⟨x,t,rfl,rfl⟩ <;> rfl
 pyHash:=fun hv h=>by
  rcases dD hv with⟨i,t,rfl,rfl⟩ |⟨x,t,rfl,rfl⟩
  ·exact wpAny_pyHash_int h
  ·exact wpAny_pyHash_str h
 eqBool:=fun hu hv h=>by
  rcases dD hu with⟨i,t,rfl,rfl⟩ |⟨x,t,rfl,rfl⟩
  ·rcases dD hv with⟨j,u,rfl,rfl⟩ |⟨y,u,rfl,rfl⟩
   ·rw[Gq]at h;exact wpAny_eqBool_int h
   ·rw[Gs]at h;exact SeqAt.EqAt.int_str i t y u _ _ _ _ h
  ·rcases dD hv with⟨j,u,rfl,rfl⟩ |⟨y,u,rfl,rfl⟩
   ·rw[Gu]at h;exact SeqAt.EqAt.str_int x t j u _ _ _ _ h
   ·rw[Gr]at h;exact wpAny_eqBool_str h
 «strs»:=fun k x t v h=>by
  rcases dD h with⟨i,u,rfl,e⟩ |⟨y,u,rfl,e⟩
  ·exact nomatch e
  ·injection e with e1 _
   subst e1
   cases v <;> rfl
theorem uL(prog:Program)(w:World)(i:Int)(t:Tok):(fb prog w).is (.inl i) (.int i t)=true:=zF i t
theorem uM(prog:Program)(w:World)(x:Str)(t:Tok):(fb prog w).is (.inr x) (.str x t)=true:=zG x t
end L2
namespace L2
open PySem PySem.Spec PyProof.Rows
inductive V where
 |non |bl (b:Bool) |int (i:Int) |str (x:Str) |byt (b:Array UInt8) |flt (b:UInt64) |ref (a:Addr) |ty (n:String)
 deriving DecidableEq
def RelV:V→Value→Prop
 |.non,u=>u=Value.none
 |.bl b,u=>u=Value.bool b
 |.int i,u=>∃t,u=Value.int i t
 |.str x,u=>∃t,u=Value.str x t
 |.byt b,u=>∃t,u=Value.bytes b t
 |.flt b,u=>∃t,u=Value.float b t
 |.ref a,u=>u=Value.ref a
 |.ty n,u=>u=Value.type n
abbrev Vals:List V→List Value→Prop:=Paired RelV
theorem Vals.length{xs:List V}{us:List Value}(r:Vals xs us):xs.length=us.length:=Paired.length r
theorem Vals.get:∀{xs:List V} {us:List Value} {i:Nat} {x:V},Vals xs us→xs[i]? =some x→∃u,us[i]? =some u∧RelV x u
 |_,_,_,_,.nil,e=>by simp at e
 |_,_,0,_,.cons r _,e=>by simp at e;subst e;exact⟨_,rfl,r⟩
 |_,_,i+1,x,.cons _ t,e=>by
  obtain⟨u,h1,h2⟩:=Vals.get (i:=i) (x:=x) t (by simpa using e)
  exact⟨u,by simpa using h1,h2⟩
theorem Vals.set{x:V}{u:Value}(r:RelV x u):∀{xs:List V} {us:List Value} (i:Nat),Vals xs us→Vals (xs.set i x) (us.set i u)
 |_,_,_,.nil=>.nil
 |_,_,0,.cons _ t=>.cons r t
 |_,_,i+1,.cons q t=>.cons q (Vals.set r i t)
theorem Vals.append:∀{xs ys:List V} {us ws:List Value},Vals xs us→Vals ys ws→Vals (xs++ys) (us++ws)
 |_,_,_,_,.nil,s=>s
 |_,_,_,_,.cons r t,s=>.cons r (Vals.append t s)
theorem Vals.take:∀{xs:List V} {us:List Value} (n:Nat),Vals xs us→Vals (xs.take n) (us.take n)
 |_,_,0,_=>.nil
 |_,_,_+1,.nil=>.nil
 |_,_,n+1,.cons r t=>.cons r (Vals.take n t)
theorem Vals.drop:∀{xs:List V} {us:List Value} (n:Nat),Vals xs us→Vals (xs.drop n) (us.drop n)
 |_,_,0,r=>r
 |_,_,_+1,.nil=>.nil
 |_,_,n+1,.cons _ t=>Vals.drop n t
def RelO:Option V→Option Value→Prop
 |some v,some u=>RelV v u
 |none,none=>True
 |_,_=>False
def KV{κ:Type}:List (κ×V)→List (κ×Value)→Prop:=Paired fun(p:κ×V) (q:κ×Value)=>p.1=q.1∧RelV p.2 q.2
def kV:bM→V
 |.inl i=>.int i
 |.inr x=>.str x
inductive HO where
 /-- a list -/
 |lst (xs:List V)
 /-- a tuple (never changes) -/
 |tup (xs:List V)
 /-- a dict whose keys are ints and texts;one whose keys are tuples of ints and texts (the empty one is both) -/
 |dK (kvs:List (bM×V)) |dT (kvs:List (List bM×V))
 /-- a set of ints:its members,its size -/
 |set (S:Int→Bool) (n:Nat)
 /-- an instance of the class at C,its dict at dx,its attributes -/
 |ins (C dx:Addr) (fs:List (Str×V))
 /-- the dict of the instance at x -/
 |own (x:Addr)
 /-- the dict of an exception -/
 |xd (fs:List (Str×V))
 /-- a bound method,f of x -/
 |met (f x:Addr)
 /-- a range object lo,lo+1,.. below hi -/
 |rng (lo hi:Int)
 /-- a thing that is known to the object (the script;a dict while a zH walks it):read,never written while it is so -/
 |frz (o:Obj) (u:HO)
 /-- a code object's table -/
 |tbl (q:Str)
 /-- any other thing,by what is true of its one object (a def of one's own:SetO a S n:=HO.ext fun h=> ..) -/
 |ext (φ:Heap→Prop)
abbrev Hp:=Addr→Option HO
def upd(H:Hp)(a:Addr)(o:HO):Hp:=fun b=>if b=a then some o else H b
theorem aS{H:Hp}{a:Addr}{o:HO}:upd H a o a=some o:=by unfold upd;rw[if_pos rfl]
theorem aG{H:Hp}{a b:Addr}{o:HO}(h:b≠a):upd H a o b=H b:=by unfold upd;rw[if_neg h]
theorem D6{H:Hp}{a:Addr}{o u:HO}:upd (upd H a o) a u=upd H a u:=by
 funext b;unfold upd;split <;> rfl
theorem Bt{H:Hp}{a b:Addr}{o u:HO}(h:H a=some o)(h':H b=some u)(d:o≠u):a≠b:=by
 intro e;subst e;rw[h]at h';exact d (Option.some.inj h')
theorem b8{H:Hp}{a b:Addr}{o:HO}(h:H a=some o)(h':H b=none):a≠b:=by
 intro e;subst e;rw[h]at h';cases h'
section
variable (P:Program) (w:World)
def ObjOk(H:Hp)(h:Heap)(a:Addr):HO→Prop
 |.lst xs=>xs.length≤sizeLine∧∃(its:List Value) (n:Nat),Vals xs its∧h.get? a=some {cls:=.type "list",data:=.seq its.toArray n}
 |.tup xs=>xs.length≤sizeLine∧∃its:List Value,Vals xs its∧IsTup h a its.toArray
 |.dK kvs=>kvs.length≤sizeLine∧(a == sysModules)=false∧∃vs,KV kvs vs∧h.DictOf (fb P w) a vs
 |.dT kvs=>kvs.length≤sizeLine∧(a == sysModules)=false∧∃xs:List (List bM×Addr×Value),
   Paired (fun(p:List bM×V) (q:List bM×Addr×Value)=>p.1=q.1∧H q.2.1=some (.tup (p.1.map kV))∧RelV p.2 q.2.2) kvs xs∧
   ∃o es ep,h.get? a=some o∧o.ExactDict∧o.data=.dict es ep∧es.toList=xs.map (entryOfKey (tupleKind (fb P w)))∧(xs.map (·.1)).Nodup
 |.set S n=>h.SetOf (intKind P w) a S n
 |.ins C dx fs=>H dx=some (.own a)∧fs.length≤1000∧dx≠a∧h.get? a=some (instObj C dx)∧
   ∃mA,h.Ns1 dx mA∧(∀f,RelO (fs.lookup f) (mA f))∧PySem.Within mA (fs.map (·.1))
 |.own _=>∃o,h.get? a=some o
 |.xd fs=>∃mA,h.Ns1 a mA∧∀f,RelO (fs.lookup f) (mA f)
 |.rng lo hi=>∃t u v,h.get? a=some {cls:=.type "range",data:=.fields #[.int lo t,.int hi u,.int 1 v]}
 |.frz o u=>h.get? a=some o∧ObjOk H h a u
 |.tbl q=>∃ps:Array Value,h.get? a=some (tabObj ps)∧TriplesOk ps.toList∧∀pos cv,codeAmong pos ps.toList=some cv→∃c,cv=Value.ref c∧H c=some (.own a)∧h.CodeRec cv q
 |.met f x=>h.get? a=some (methodObj (.ref f) (.ref x))
 |.ext φ=>φ h∧(∃o,h.get? a=some o)∧∀h1 h2:Heap,φ h1→(∀o,h1.get? a=some o→h2.get? a=some o)→φ h2
def HOk(H:Hp)(h:Heap):Prop:=∀a o,H a=some o→ObjOk P w H h a o
end
section
variable {P:Program} {w:World} {H H':Hp} {h h':Heap} {a:Addr} {o:HO}
theorem ObjOk.lt(x:ObjOk P w H h a o):a < h.objs.size:=by
 cases o with
 |lst xs=>obtain⟨_,_,_,_,e⟩:=x;exact jf e
 |tup xs=>obtain⟨_,_,_,p⟩:=x;exact p.lt
 |dK kvs=>obtain⟨_,_,_,_,o,_,_,e,_⟩:=x;exact jf e
 |dT kvs=>obtain⟨_,_,_,_,o,_,_,e,_⟩:=x;exact jf e
 |set S n=>obtain⟨o,_,_,_,e,_⟩:=x;exact jf e
 |ins C dx fs=>obtain⟨_,_,_,e,_⟩:=x;exact jf e
 |own y=>obtain⟨_,e⟩:=x;exact jf e
 |xd fs=>obtain⟨_,⟨_,_,_,e,_⟩,_⟩:=x;exact jf e
 |rng lo hi=>obtain⟨_,_,_,e⟩:=x;exact jf e
 |frz ob u=>obtain⟨e,_⟩:=x;exact jf e
 |tbl q=>obtain⟨_,e,_⟩:=x;exact jf e
 |met f y=>exact jf (show h.get? a=some _ from x)
 |ext φ=>obtain⟨_,⟨_,e⟩,_⟩:=x;exact jf e
theorem Paired.mapP{α β:Type}{F G:α→β→Prop}{l₁:List α}{l₂:List β}(h:Paired F l₁ l₂)(f:∀a b,F a b→G a b):Paired G l₁ l₂:=by
 induction h with
 |nil=>exact .nil
 |cons r _ t=>exact .cons (f _ _ r) t
theorem ObjOk.stay(x:ObjOk P w H h a o)(k:∀b u,(b=a∨H b=some (.own a))→h.get? b=some u→h'.get? b=some u)
  (ho:∀b,H b=some (.own a)→H' b=some (.own a)) (ht:∀b xs,H b=some (.tup xs)→H' b=some (.tup xs)):ObjOk P w H' h' a o:=by
 induction o with
 |lst xs=>obtain⟨z,its,n,r,e⟩:=x;exact⟨z,its,n,r,k _ _ (.inl rfl) e⟩
 |tup xs=>obtain⟨z,its,r,ob,e,c⟩:=x;exact⟨z,its,r,ob,k _ _ (.inl rfl) e,c⟩
 |dK kvs=>obtain⟨z,y,vs,r,ob,es,ep,e,c⟩:=x;exact⟨z,y,vs,r,ob,es,ep,k _ _ (.inl rfl) e,c⟩
 |dT kvs=>
  obtain⟨z,y,xs,r,ob,es,ep,e,c⟩:=x
  exact⟨z,y,xs,Paired.mapP r fun p q z=>⟨z.1,ht _ _ z.2.1,z.2.2⟩,ob,es,ep,k _ _ (.inl rfl) e,c⟩
 |set S n=>obtain⟨ob,es,ep,t,e,c⟩:=x;exact⟨ob,es,ep,t,k _ _ (.inl rfl) e,c⟩
 |ins C dx fs=>
  obtain⟨d,z,ne,e,mA,⟨od,es,ep,e2,c⟩,r⟩:=x
  exact⟨ho _ d,z,ne,k _ _ (.inl rfl) e,mA,⟨od,es,ep,k _ _ (.inr d) e2,c⟩,r⟩
 |own y=>obtain⟨ob,e⟩:=x;exact⟨ob,k _ _ (.inl rfl) e⟩
 |xd fs=>obtain⟨mA,⟨od,es,ep,e,c⟩,r⟩:=x;exact⟨mA,⟨od,es,ep,k _ _ (.inl rfl) e,c⟩,r⟩
 |rng lo hi=>obtain⟨t,u,v,e⟩:=x;exact⟨t,u,v,k _ _ (.inl rfl) e⟩
 |frz ob u ih=>obtain⟨e,q⟩:=x;exact⟨k _ _ (.inl rfl) e,ih q⟩
 |tbl q=>
  obtain⟨ps,e,t,r⟩:=x
  refine⟨ps,k _ _ (.inl rfl) e,t,fun pos cv z=>?_⟩
  obtain⟨c,ec,ho',c2,oc,vs,tq,hc,hoc,hd⟩:=r pos cv z
  subst ec
  cases hc
  exact⟨c,rfl,ho _ ho',c,oc,vs,tq,rfl,k _ _ (.inr ho') hoc,hd⟩
 |met f y=>
  have e:h.get? a=some (methodObj (.ref f) (.ref y)):=x
  show h'.get? a=some (methodObj (.ref f) (.ref y))
  exact k a _ (.inl rfl) e
 |ext φ=>obtain⟨p,⟨o,e⟩,st⟩:=x;exact⟨st _ _ p fun o q=>k _ _ (.inl rfl) q,⟨o,k _ _ (.inl rfl) e⟩,st⟩
theorem HOk.lt(x:HOk P w H h)(e:H a=some o):a < h.objs.size:=(x a o e).lt
theorem HOk.fresh(x:HOk P w H h)(e:h.objs.size≤a):H a=none:=by
 cases q:H a with
 |none=>rfl
 |some u=>exact absurd (oV (x.lt q) e) (Nat.lt_irrefl _)
theorem HOk.kept(x:HOk P w H h)(k:∀b u,h.get? b=some u→h'.get? b=some u):HOk P w H h':=fun a o e=>
 (x a o e).stay (fun b u _ q=>k b u q) (fun _ q=>q) fun _ _ q=>q
theorem HOk.laid(x:HOk P w H h)(k:∀b u,h.get? b=some u→h'.get? b=some u)(hp:h.objs.size≤a)(new:ObjOk P w (upd H a o) h' a o):HOk P w (upd H a o) h':=fun b u e=>by
 have hn:=x.fresh hp
 by_cases hb:b=a
 ·subst hb;rw[aS]at e;cases e;exact new
 ·rw[aG hb]at e
  exact(x b u e).stay (fun c v _ q=>k c v q) (fun c q=>by rw[aG (b8 q hn)];exact q) fun c xs q=>by rw[aG (b8 q hn)];exact q
end
def Rd(H:Hp)(a:Addr)(u:HO):Prop:=H a=some u∨∃o,H a=some (.frz o u)
theorem Rd.of{H:Hp}{a:Addr}{u:HO}(h:H a=some u):Rd H a u:=.inl h
theorem Rd.ok{P:Program}{w:World}{H:Hp}{h:Heap}{a:Addr}{u:HO}(r:Rd H a u)(x:HOk P w H h):ObjOk P w H h a u:=by
 rcases r with r |⟨o,r⟩
 ·exact x a u r
 ·obtain⟨_,q⟩:=x a _ r
  exact q
def Io:Option HO→Prop
 |some (.lst _)=>True
 |some (.dK _)=>True
 |some (.dT _)=>True
 |some (.set _ _)=>True
 |some (.ins _ _ _)=>True
 |some (.ext _)=>True
 |_=>False
section
variable {P:Program} {w:World} {H:Hp} {h h':Heap} {x e:Addr} {o':HO}
theorem HOk.write(ok:HOk P w H h)(mu:Io (H x))(he:e=x∨H e=some (.own x))(k:∀b u,b≠e→h.get? b=some u→h'.get? b=some u)(heo:∃u,h'.get? e=some u)
  (new:ObjOk P w (upd H x o') h' x o'):HOk P w (upd H x o') h':=fun b u q=>by
 have nown:∀c y,H c=some (.own y)→c≠x:=fun c y r z=>by subst z;rw[r]at mu;exact mu
 have ntup:∀c xs,H c=some (.tup xs)→c≠x:=fun c xs r z=>by subst z;rw[r]at mu;exact mu
 by_cases hb:b=x
 ·subst hb;rw[aS]at q;cases q;exact new
 ·rw[aG hb]at q
  by_cases hbe:b=e
  ·have q':H b=some (.own x):=by
    rcases he with z |z
    ·exact absurd (hbe.trans z) hb
    ·rw[hbe];exact z
   rw[q]at q';cases q'
   obtain⟨v,hv⟩:=heo
   exact⟨v,by rw[hbe];exact hv⟩
  ·refine(ok b u q).stay (fun c v hc r=>k c v ?_ r) (fun c r=>by rw[aG (nown c b r)];exact r) fun c xs r=>by rw[aG (ntup c xs r)];exact r
   rcases hc with rfl |hc
   ·exact hbe
   ·rintro rfl
    rcases he with z |z
    ·exact nown c b hc z
    ·rw[hc]at z;cases z;exact hb rfl
end
structure Un (fs ex:List Addr) (H H':Hp) (h h':Heap):Prop where
 keep:∀b o,h.get? b=some o→H b=none→b∉fs→b∉ex→h'.get? b=some o
 slot:∀b o,h.get? b=some o→H b=none→b∈fs→b∉ex→∃sl,h'.get? b=some {o with slots:=sl}
 free:∀b o,h.get? b=some o→H b=none→b∉ex→H' b=none
 there:∀b o,h.get? b=some o→b∉ex→∃o',h'.get? b=some o'
 tups:∀b xs,H b=some (.tup xs)→H' b=some (.tup xs)
 frzs:∀b o u,H b=some (.frz o u)→H' b=some (.frz o u)
 tbls:∀b ps,H b=some (.tbl ps)→H' b=some (.tbl ps)
section
variable {fs fs' ex ex':List Addr} {H H1 H2:Hp} {h h1 h2 h':Heap} {a x e:Addr} {o:HO}
theorem Un.any(u:Un fs ex H H1 h h1){b:Addr}{ob:Obj}(q:h.get? b=some ob)(n:H b=none)(hx:b∉ex):∃sl,h1.get? b=some {ob with slots:=sl}:=by
 by_cases hb:b∈fs
 ·exact u.slot b ob q n hb hx
 ·exact⟨ob.slots,u.keep b ob q n hb hx⟩
theorem Un.kept(k:∀b u,h.get? b=some u→h'.get? b=some u):Un fs ex H H h h':=
 ⟨fun b ob q _ _ _=>k b ob q,fun b ob q _ _ _=>⟨ob.slots,k b ob q⟩,fun _ _ _ n _=>n,fun b ob q _=>⟨ob,k b ob q⟩,fun _ _ q=>q,fun _ _ _ q=>q,fun _ _ q=>q⟩
theorem Un.refl:Un fs ex H H h h:=Un.kept fun _ _ q=>q
theorem Un.laid(k:∀b u,h.get? b=some u→h'.get? b=some u)(hp:h.objs.size≤a)(hn:H a=none):Un fs ex H (upd H a o) h h' where
 keep:=fun b u q _ _ _=>k b u q
 slot:=fun b u q _ _ _=>⟨u.slots,k b u q⟩
 free:=fun b u q n _=>by rw[aG (jT (oV (jf q) hp))];exact n
 there:=fun b u q _=>⟨u,k b u q⟩
 tups:=fun b xs q=>by rw[aG (b8 q hn)];exact q
 frzs:=fun b u xs q=>by rw[aG (b8 q hn)];exact q
 tbls:=fun b ps q=>by rw[aG (b8 q hn)];exact q
theorem Un.write(mu:Io (H x))(he:e=x∨H e=some (.own x))(k:∀b u,b≠e→h.get? b=some u→h'.get? b=some u)(heo:∃u,h'.get? e=some u):Un fs ex H (upd H x o) h h':=by
 have hx:∀b,H b=none→b≠x:=fun b n z=>by subst z;rw[n]at mu;exact mu
 have hb:∀b,H b=none→b≠e:=fun b n z=>by
  subst z
  rcases he with r |r
  ·exact hx b n r
  ·rw[n]at r;cases r
 have hm:∀b u,H b=some u→¬Io (some u)→b≠x:=fun b u q nm z=>by subst z;rw[q]at mu;exact nm mu
 refine⟨fun b u q n _ _=>k b u (hb b n) q,fun b u q n _ _=>⟨u.slots,k b u (hb b n) q⟩,fun b u q n _=>by rw[aG (hx b n)];exact n,fun b u q _=>?_,
  fun b xs q=>by rw[aG (hm b _ q fun z=>z)];exact q,fun b u xs q=>by rw[aG (hm b _ q fun z=>z)];exact q,fun b ps q=>by rw[aG (hm b _ q fun z=>z)];exact q⟩
 by_cases hbe:b=e
 ·subst hbe;exact heo
 ·exact⟨u,k b u hbe q⟩
end
def JA(h:Heap)(H:Hp):List Addr:=(List.range h.objs.size).filter fun a=>(H a).isSome
def uN(h:Heap)(H:Hp):Heap:=PySem.W.hideAll h (JA h H)
theorem zI(h:Heap)(H:Hp):(uN h H).objs.size=h.objs.size:=PySem.W.hideAll_size _ _
theorem pJ{h:Heap}{H:Hp}{b:Addr}{o:Obj}(e:h.get? b=some o)(n:H b=none):(uN h H).get? b=some o:=
 PySem.W.hideAll_get _ e fun hm=>by
  have q:(H b).isSome=true:=(Zbn.mp hm).2
  rw[n]at q;simp at q
theorem D7{h:Heap}{H:Hp}{b:Addr}{o:Obj}(e:(uN h H).get? b=some o):h.get? b=some o∧H b=none:=by
 have e':h.get? b=some o:=PySem.W.of_hideAll (JA h H) e
 refine⟨e',?_⟩
 cases q:H b with
 |none=>rfl
 |some x=>
  have hm:b∈JA h H:=Zbn.mpr ⟨List.mem_range.mpr (jf e'),by simp[q]⟩
  have z:(uN h H).get? b=none:=PySem.W.hideAll_none (JA h H) hm
  rw[z]at e;cases e
def D8(g h:Heap)(L:Addr):List (Addr×Obj):=(List.range h.objs.size).filterMap fun a=>if a=L∨(g.get? a).isSome=true then none else (h.get? a).map fun o=>(a,o)
def aX(g h:Heap)(L d:Addr):List (Addr×Obj):=(D8 g h L).filter fun p=>decide (p.1≠d)
end L2
namespace L2
open PySem PySem.Spec PyProof.Rows
def Bu(K:Frag):Option Addr:=match nsIn K mainGlobals "in_told_order" with
 |some (some (.ref f))=>match K.lookup f with
  |some ⟨_,_,.func fd,_⟩=>match fd.code with
   |.ref c=>match K.lookup c with
    |some ⟨_,_,.fields vs,_⟩=>match (vs[11]? :Option Value)with
     |some (.ref P)=>some P
     |_=>none
    |_=>none
   |_=>none
  |_=>none
 |_=>none
def oY(K:Frag)(b:Addr):Option Str:=if Bu K=some b then some (Str.ofString "in_told_order.<locals>.<lambda>")else none
structure Mod (K:Frag) (mg:Str→Option Value) (base:Heap):Prop where
 kin:K.In base
 glob:base.Ns mainGlobals mg
 blt:∃mb,base.Ns builtinsNs mb∧∀x:Str,x≠"__name__"→mb x=bootBuiltins x
 nolimit:base.NoLimit
 bmain:∃bm ob,mg "__builtins__"=some (.ref bm)∧bm≠builtinsNs∧base.get? bm=some ob∧ob.cls=.type "module"∧ob.dict=some builtinsNs∧ob.data=.plain
structure Cx where
 prog:Program
 w:World
 K:Frag
 mg:Str→Option Value
 base:Heap
 A:Around
 N:List Str
 s₀:Shared
 H₀:Hp
 env:Env
 outer:List Env
 stack:List Env
 ex:List Addr
 fn:Str→Bool
 calm:Bool
 pn:List (Addr×Obj)
 xe:Value→Shared→Prop
def Bq(l:List Env):List Addr:=l.filterMap (·.frame)
abbrev Cx.fs(X:Cx):List Addr:=Bq X.outer
def Br(sc:Scope)(x:Str):Prop:=sc.names.lookup x=some .local∨sc.names.lookup x=some .cell∨sc.names.lookup x=some .free
def Ih(sc:Scope)(x:Str):Prop:=sc.names.lookup x=some .local∨sc.names.lookup x=some .cell
def JJ(env:Env)(h:Heap)(m:Str→Option Value)(x:Str)(u:Value):Prop:=
 (env.kindOf x=some .local∧m x=some u)∨((env.kindOf x=some .cell∨env.kindOf x=some .free)∧∃c,env.cells.lookup x=some c∧h.IsCell c (some u))
structure Cx.Ok (X:Cx):Prop where
 mod:Mod X.K X.mg X.base
 kind:X.env.scope.kind=.function
 glob:X.env.globals=mainGlobals
 blt:X.env.builtins=builtinsNs
 above:X.s₀.heap.objs.size≤X.env.locals
 inj:∀x y c,X.env.cells.lookup x=some c→X.env.cells.lookup y=some c→x=y
 has:∀x,(X.env.kindOf x=some .cell∨X.env.kindOf x=some .free)→∃c,X.env.cells.lookup x=some c
 cab:∀x c,X.fn x=true→X.env.cells.lookup x=some c→X.s₀.heap.objs.size≤c
 hd:X.calm=true→X.A.handled=none
 frames:X.A.frames=some X.stack
 stk:X.stack=X.outer∨(X.stack=X.env::X.outer∧X.env.frame=some X.env.locals)
 exf:∀b∈X.ex,b≠X.env.locals∧∀x c,X.env.cells.lookup x=some c→c≠b
 bs:∀b o,X.base.get? b=some o→X.s₀.heap.get? b=some o∧X.H₀ b=none
 bsz:X.base.objs.size≤X.s₀.heap.objs.size
 noex:∀b o,X.base.get? b=some o→b∉X.ex
 exfs:∀b∈X.ex,b∉X.fs
 funs:X.s₀.heap.FunFrames X.base X.outer
 frf:∀b∈X.fs,X.H₀ b=none
 tab:∀b q,oY X.K b=some q→X.H₀ b=some (.tbl q)
structure Inv (X:Cx) (pins:List (Addr×Obj)) (σ:List (Option V)) (H:Hp) (s:Shared):Prop where
 ok:X.Ok
 os:s.os=X.s₀.os
 bare:AllBare s.gens
 base:Un X.fs X.ex X.H₀ H X.s₀.heap s.heap
 loc:∃m,s.heap.Ns X.env.locals m∧∀(i:Nat) (x:Str) (v:V),X.N[i]? =some x→σ[i]? =some (some v)→Br X.env.scope x→∃u,RelV v u∧JJ X.env s.heap m x u
 cell:∀x c,X.env.cells.lookup x=some c→∃v,s.heap.IsCell c v
 free:H X.env.locals=none
 freeC:∀x c,X.env.cells.lookup x=some c→H c=none
 pin:∀p∈X.pn++pins,s.heap.get? p.1=some p.2∧H p.1=none∧p.1≠X.env.locals∧p.1∉X.fs∧∀v,p.2.data≠ .cell v
 hok:HOk X.prog X.w H s.heap
 len:σ.length=X.N.length
section
variable {X:Cx} {pins:List (Addr×Obj)} {σ:List (Option V)} {H H':Hp} {s:Shared} {h':Heap}
theorem Cx.Ok.nofr(ok:X.Ok){b:Addr}{o:Obj}(e:X.base.get? b=some o):b∉X.fs:=fun hb=>by
 have:=(ok.funs.mem hb).1
 rw[e]at this;cases this
theorem Inv.bs(I:Inv X pins σ H s):∀b o,X.base.get? b=some o→s.heap.get? b=some o∧H b=none:=fun b o e=>
 ⟨I.base.keep b o (I.ok.bs b o e).1 (I.ok.bs b o e).2 (I.ok.nofr e) (I.ok.noex b o e),I.base.free b o (I.ok.bs b o e).1 (I.ok.bs b o e).2 (I.ok.noex b o e)⟩
theorem Inv.bk(I:Inv X pins σ H s):∀b o,X.base.get? b=some o→s.heap.get? b=some o:=fun b o e=>(I.bs b o e).1
theorem Inv.mod(I:Inv X pins σ H s):Mod X.K X.mg X.base:=I.ok.mod
theorem Inv.tab(I:Inv X pins σ H s):∀b q,oY X.K b=some q→H b=some (.tbl q):=fun b q e=>I.base.tbls b q (I.ok.tab b q e)
theorem Inv.kIn(I:Inv X pins σ H s):X.K.In s.heap:=I.ok.mod.kin.keeps I.bk
theorem Inv.nolimit(I:Inv X pins σ H s):s.heap.NoLimit:=I.ok.mod.nolimit.keeps I.bk
theorem Inv.fr(I:Inv X pins σ H s):∃m,Fr X.base X.env.locals s.heap m:=
 let ⟨m,hn,_⟩:=I.loc
 ⟨m,hn,I.bk,jn I.ok.bsz I.ok.above⟩
theorem Inv.lt(I:Inv X pins σ H s):X.env.locals < s.heap.objs.size:=let ⟨_,hn,_⟩:=I.loc;hn.lt
theorem Inv.sz(I:Inv X pins σ H s):X.s₀.heap.objs.size≤s.heap.objs.size:=jn I.ok.above (ma I.lt)
theorem Inv.nofs(I:Inv X pins σ H s){a:Addr}(h:s.heap.objs.size≤a):a∉X.fs:=fun hb=>by
 obtain⟨_,o,ho,_⟩:=I.ok.funs.mem hb
 exact absurd (oV (jf ho) (jn I.sz h)) (Nat.lt_irrefl _)
theorem Inv.cne(I:Inv X pins σ H s):∀x c,X.env.cells.lookup x=some c→c≠X.env.locals:=fun x c e z=>by
 obtain⟨v,o,ho,hd⟩:=I.cell x c e
 obtain⟨m,⟨o',es,ep,ho',hd',_⟩,_⟩:=I.loc
 rw[z,ho']at ho;cases ho;rw[hd']at hd;cases hd
theorem Inv.funs(I:Inv X pins σ H s):s.heap.FunFrames X.base X.outer:=by
 have all:∀(l:List Env),(∀b∈Bq l,b∈X.fs)→X.s₀.heap.FunFrames X.base l→s.heap.FunFrames X.base l:=by
  intro l
  induction l with
  |nil=>intro _ _;trivial
  |cons env r ih=>
   intro hs hl
   obtain⟨hk,⟨L,o,hf,hn,ho,hd⟩,hr⟩:=hl
   have hL:L∈X.fs:=hs L (by unfold Bq;rw[List.filterMap_cons,hf];exact gJ)
   obtain⟨sl,e⟩:=I.base.slot L o ho (I.ok.frf L hL) hL fun z=>I.ok.exfs L z hL
   exact⟨hk,⟨L,_,hf,hn,e,hd⟩,ih (fun b hb=>hs b (by unfold Bq;rw[List.filterMap_cons,hf];exact gq _ hb)) hr⟩
 exact all X.outer (fun _ hb=>hb) I.ok.funs
theorem Inv.stack(I:Inv X pins σ H s):s.heap.FunFrames X.base X.stack:=by
 rcases I.ok.stk with e |⟨e,hf⟩
 ·rw[e];exact I.funs
 ·rw[e]
  obtain⟨m,hn,_⟩:=I.loc
  refine .cons (by rw[I.ok.kind];decide) hf hn ?_ I.funs
  exact Heap.get?_none_of_le (jn I.ok.bsz I.ok.above)
theorem Inv.stkSub(I:Inv X pins σ H s):∀b∈Bq X.stack,b∈X.env.locals::X.fs:=fun b hb=>by
 rcases I.ok.stk with e |⟨e,hf⟩
 ·rw[e]at hb;exact gq _ hb
 ·rw[e]at hb
  unfold Bq at hb
  rw[List.filterMap_cons,hf]at hb
  exact hb
theorem Inv.stkFree(I:Inv X pins σ H s):∀b∈Bq X.stack,H b=none:=fun b hb=>by
 rcases Zal.mp (I.stkSub b hb)with e |hb
 ·rw[e];exact I.free
 ·obtain⟨_,o,ho,_⟩:=I.ok.funs.mem hb
  exact I.base.free b o ho (I.ok.frf b hb) fun z=>I.ok.exfs b z hb
theorem Inv.step{g':Array GenState}{t':Nat}{d':Drawn}{ch:List Addr}(I:Inv X pins σ H s)
  (hch:∀b∈ch,(b∈X.ex∨X.s₀.heap.objs.size≤b)∧b≠X.env.locals∧(∀x c,X.env.cells.lookup x=some c→c≠b)∧∀p∈X.pn++pins,p.1≠b)
  (keep:∀b o,b≠X.env.locals→b∉X.fs→b∉ch→s.heap.get? b=some o→H b=none→h'.get? b=some o)
  (slot:∀b o,b≠X.env.locals→b∈X.fs→b∉ch→s.heap.get? b=some o→H b=none→∃sl,h'.get? b=some {o with slots:=sl}) (free:∀b o,b∉ch→s.heap.get? b=some o→H b=none→H' b=none)
  (there:∀b o,b∉ch→s.heap.get? b=some o→∃o',h'.get? b=some o')
  (tups:∀b xs,H b=some (.tup xs)→H' b=some (.tup xs)) (frzs:∀b o u,H b=some (.frz o u)→H' b=some (.frz o u)) (tbls:∀b ps,H b=some (.tbl ps)→H' b=some (.tbl ps))
  (ns:∀m,s.heap.Ns X.env.locals m→h'.Ns X.env.locals m) (hok:HOk X.prog X.w H' h') (hg:AllBare g'):
  Inv X pins σ H' {s with heap:=h',gens:=g',drawn:=d',toks:=t'}:=by
 have neL:∀b o,X.s₀.heap.get? b=some o→b≠X.env.locals:=fun b o e=>jT (oV (jf e) I.ok.above)
 have neC:∀b o,X.s₀.heap.get? b=some o→b∉X.ex→b∉ch:=fun b o e hx hb=>by
  rcases(hch b hb).1 with z |z
  ·exact hx z
  ·exact absurd (oV (jf e) z) (Nat.lt_irrefl _)
 have cellK:∀x c,X.env.cells.lookup x=some c→∀v,s.heap.IsCell c v→h'.IsCell c v:=fun x c e v ⟨o,ho,hd⟩=>by
  have nch:c∉ch:=fun z=>(hch c z).2.2.1 x c e rfl
  by_cases hc:c∈X.fs
  ·obtain⟨sl,q⟩:=slot c o (I.cne x c e) hc nch ho (I.freeC x c e)
   exact⟨_,q,hd⟩
  ·exact⟨o,keep c o (I.cne x c e) hc nch ho (I.freeC x c e),hd⟩
 refine⟨I.ok,I.os,hg,⟨fun b o e n hb hx=>?_,fun b o e n hb hx=>?_,fun b o e n hx=>?_,fun b o e hx=>?_,fun b xs e=>tups b xs (I.base.tups b xs e),fun b o xs e=>frzs b o xs (I.base.frzs b o xs e),fun b ps e=>?_⟩,?_,fun x c e=>?_,?_,fun x c e=>?_,fun p hp=>?_,hok,I.len⟩
 ·exact keep b o (neL b o e) hb (neC b o e hx) (I.base.keep b o e n hb hx) (I.base.free b o e n hx)
 ·obtain⟨sl,e1⟩:=I.base.slot b o e n hb hx
  obtain⟨sl',e2⟩:=slot b _ (neL b o e) hb (neC b o e hx) e1 (I.base.free b o e n hx)
  exact⟨sl',e2⟩
 ·obtain⟨o',e1⟩:=I.base.there b o e hx
  exact free b o' (neC b o e hx) e1 (I.base.free b o e n hx)
 ·obtain⟨o',e1⟩:=I.base.there b o e hx
  exact there b o' (neC b o e hx) e1
 ·exact tbls b _ (I.base.tbls b ps e)
 ·obtain⟨m,hn,hl⟩:=I.loc
  refine⟨m,ns m hn,fun i x v e1 e2 e3=>?_⟩
  obtain⟨u,r,l⟩:=hl i x v e1 e2 e3
  refine⟨u,r,?_⟩
  rcases l with l |⟨k,c,e,z⟩
  ·exact .inl l
  ·exact .inr ⟨k,c,e,cellK x c e _ z⟩
 ·obtain⟨v,z⟩:=I.cell x c e
  exact⟨v,cellK x c e v z⟩
 ·obtain⟨m,⟨o,_,_,ho,_⟩,_⟩:=I.loc
  exact free _ o (fun z=>(hch _ z).2.1 rfl) ho I.free
 ·obtain⟨v,o,ho,hd⟩:=I.cell x c e
  exact free c o (fun z=>(hch c z).2.2.1 x c e rfl) ho (I.freeC x c e)
 ·obtain⟨e,n,ne,nf,d⟩:=I.pin p hp
  have nch:p.1∉ch:=fun z=>(hch p.1 z).2.2.2 p hp rfl
  exact⟨keep p.1 p.2 ne nf nch e n,free p.1 p.2 nch e n,ne,nf,d⟩
theorem Inv.un{t':Nat}(I:Inv X pins σ H s)(u:Un X.fs [] H H' s.heap h')(hok:HOk X.prog X.w H' h'):Inv X pins σ H' {s with heap:=h',toks:=t'}:=by
 obtain⟨m,⟨o,es,ep,ho,r⟩,_⟩:=id I.loc
 obtain⟨sl,hL⟩:=u.any ho I.free (by simp)
 exact I.step (g':=s.gens) (d':=s.drawn) (ch:=[]) (fun _ z=>nomatch z) (fun b o _ hb _ e n=>u.keep b o e n hb (by simp)) (fun b o _ hb _ e n=>u.slot b o e n hb (by simp)) (fun b o _ e n=>u.free b o e n (by simp)) (fun b o _ e=>u.there b o e (by simp)) u.tups u.frzs u.tbls (fun m' hm=>by
  obtain⟨o',es',ep',ho',r'⟩:=hm
  rw[ho]at ho';cases ho'
  exact⟨_,es',ep',hL,r'⟩) hok I.bare
theorem Inv.call{g':Array GenState}{t':Nat}{d':Drawn}{ch:List Addr}(I:Inv X pins σ H s)(u:Un (Bq X.stack) ch H H' s.heap h')(hok:HOk X.prog X.w H' h')(hg:AllBare g')
  (hch:∀b∈ch,(b∈X.ex∨X.s₀.heap.objs.size≤b)∧b≠X.env.locals∧(∀x c,X.env.cells.lookup x=some c→c≠b)∧∀p∈X.pn++pins,p.1≠b):
  Inv X pins σ H' {s with heap:=h',gens:=g',drawn:=d',toks:=t'}:=by
 obtain⟨m,⟨o,es,ep,ho,r⟩,_⟩:=id I.loc
 obtain⟨sl,hL⟩:=u.any ho I.free fun z=>(hch _ z).2.1 rfl
 exact I.step (ch:=ch) hch (fun b o hL hb hc e n=>u.keep b o e n (fun z=>(Zal.mp (I.stkSub b z)).elim hL hb) hc) (fun b o _ _ hc e n=>u.any e n hc) (fun b o hc e n=>u.free b o e n hc) (fun b o hc e=>u.there b o e hc) u.tups u.frzs u.tbls (fun m' hm=>by
  obtain⟨o',es',ep',ho',r'⟩:=hm
  rw[ho]at ho';cases ho'
  exact⟨_,es',ep',hL,r'⟩) hok hg
theorem Inv.turned{t':Nat}{it:Addr}(I:Inv X pins σ H s)(k:∀b o,b≠it→s.heap.get? b=some o→h'.get? b=some o)(hn:H it=none)(hL:it≠X.env.locals)
  (h1:it∈X.ex∨X.s₀.heap.objs.size≤it) (h2:∀x c,X.env.cells.lookup x=some c→c≠it) (h3:∀p∈X.pn++pins,p.1≠it):Inv X pins σ H {s with heap:=h',toks:=t'}:=by
 have nit:∀b u,H b=some u→b≠it:=fun b u e z=>by rw[z,hn]at e;cases e
 refine I.step (g':=s.gens) (d':=s.drawn) (ch:=[it]) (fun b hb=>?_) (fun b o _ _ hc e _=>k b o (fun z=>hc (by simp[z])) e) (fun b o _ _ hc e _=>⟨o.slots,k b o (fun z=>hc (by simp[z])) e⟩) (fun _ _ _ _ n=>n)
  (fun b o hc e=>⟨o,k b o (fun z=>hc (by simp[z])) e⟩) (fun _ _ e=>e) (fun _ _ _ e=>e) (fun _ _ e=>e) (fun m hm=>?_) (fun b u e=>?_) I.bare
 ·have e:b=it:=by simpa using hb
  subst e
  exact⟨h1,hL,h2,h3⟩
 ·obtain⟨o,es,ep,ho,r⟩:=hm
  exact⟨o,es,ep,k _ o (Ne.symm hL) ho,r⟩
 ·refine(I.hok b u e).stay (fun c v hc q=>k c v ?_ q) (fun _ q=>q) fun _ _ q=>q
  rcases hc with z |z
  ·rw[z];exact nit b u e
  ·exact nit c _ z
theorem Inv.tok(I:Inv X pins σ H s)(t:Nat):Inv X pins σ H {s with toks:=t}:=I.un (h':=s.heap) (t':=t) Un.refl I.hok
theorem Inv.kept{t':Nat}(I:Inv X pins σ H s)(k:∀b u,s.heap.get? b=some u→h'.get? b=some u):Inv X pins σ H {s with heap:=h',toks:=t'}:=I.un (Un.kept k) (I.hok.kept k)
theorem Inv.laid{a:Addr}{o:HO}{t':Nat}(I:Inv X pins σ H s)(k:∀b u,s.heap.get? b=some u→h'.get? b=some u)(hp:s.heap.objs.size≤a)(new:ObjOk X.prog X.w (upd H a o) h' a o):
  Inv X pins σ (upd H a o) {s with heap:=h',toks:=t'}:=I.un (Un.laid k hp (I.hok.fresh hp)) (I.hok.laid k hp new)
theorem Inv.write{x e:Addr}{o:HO}{t':Nat}(I:Inv X pins σ H s)(mu:Io (H x))(he:e=x∨H e=some (.own x))(k:∀b u,b≠e→s.heap.get? b=some u→h'.get? b=some u)(heo:∃u,h'.get? e=some u)
  (new:ObjOk X.prog X.w (upd H x o) h' x o):Inv X pins σ (upd H x o) {s with heap:=h',toks:=t'}:=I.un (Un.write mu he k heo) (I.hok.write mu he k heo new)
theorem Inv.pins_of{pins':List (Addr×Obj)}(I:Inv X pins σ H s)(h:∀p∈pins',s.heap.get? p.1=some p.2∧H p.1=none∧p.1≠X.env.locals∧p.1∉X.fs∧∀v,p.2.data≠ .cell v):Inv X pins' σ H s:=
 ⟨I.ok,I.os,I.bare,I.base,I.loc,I.cell,I.free,I.freeC,fun p hp=>(Zaj.mp hp).elim (fun z=>I.pin p (List.mem_append_left _ z)) (h p),I.hok,I.len⟩
theorem uO{N:List Str}(hN:N.Nodup){i j:Nat}{x:Str}(a:N[i]? =some x)(b:N[j]? =some x):i=j:=by
 obtain⟨h1,e1⟩:=Zbh.mp a
 obtain⟨h2,e2⟩:=Zbh.mp b
 exact(List.getElem_inj hN).mp (e1.trans e2.symm)
theorem zJ{M:Model}{A:Around}{E:Value→Shared→Prop}{i:Nat}{x:Str}{v:V}{u:Value}{Q:Unit→Shared→Prop}(I:Inv X pins σ H s)(hN:X.N.Nodup)(hi:X.N[i]? =some x)(hx:Ih X.env.scope x)(r:RelV v u)
  (h:∀s',Inv X pins (σ.set i (some v)) H s'→(∃a,Heap.SameBut a s.heap s'.heap∧(a=X.env.locals∨X.env.cells.lookup x=some a))→Q () s') (hf:X.fn x=true∨X.env.scope.names.lookup x=some .local:=by first |exact .inl rfl |exact .inr rfl |assumption):wpAny M A (storeName X.env x u) Q E s:=by
 obtain⟨m,hn,hl⟩:=id I.loc
 have hcls:(X.env.scope.kind ==.class||(X.env.scope.kind ==.module&&X.env.locals != X.env.globals))=false:=by rw[I.ok.kind];rfl
 have hiσ:i < σ.length:=by rw[I.len];exact(Zbh.mp hi).1
 have cne:=I.cne
 have tracked:∀{a:Addr} {h':Heap},(∃o,s.heap.get? a=some o∧H a=none)→Heap.SameBut a s.heap h'→HOk X.prog X.w H h':=fun {a h'} ha hs b ob e=>by
  obtain⟨_,_,hfree⟩:=ha
  refine(I.hok b ob e).stay (fun c w' hc q=>(hs.2 c ?_).trans q) (fun _ q=>q) fun _ _ q=>q
  rintro rfl
  rcases hc with rfl |hc
  ·rw[hfree]at e;cases e
  ·rw[hfree]at hc;cases hc
 rcases hx with hk |hk
 ·refine wpAny_storeName_local hk hn (fun h' hn' hs=>?_) hcls
  obtain⟨oL,_,_,hoL,_⟩:=id hn
  refine h _ ⟨I.ok,I.os,I.bare,⟨fun b o e n hb hx=>?_,fun b o e n hb hx=>?_,I.base.free,fun b o e hx=>?_,I.base.tups,I.base.frzs,I.base.tbls⟩,⟨_,hn',fun j y v' e1 e2 e3=>?_⟩,fun y c e=>?_,I.free,I.freeC,fun p hp=>?_,tracked ⟨oL,hoL,I.free⟩ hs,by simpa using I.len⟩ ⟨_,hs,.inl rfl⟩
  ·exact(hs.2 b (jT (oV (jf e) I.ok.above))).trans (I.base.keep b o e n hb hx)
  ·obtain⟨sl,e1⟩:=I.base.slot b o e n hb hx
   exact⟨sl,(hs.2 b (jT (oV (jf e) I.ok.above))).trans e1⟩
  ·obtain⟨o',e1⟩:=I.base.there b o e hx
   exact⟨o',(hs.2 b (jT (oV (jf e) I.ok.above))).trans e1⟩
  ·by_cases hj:j=i
   ·subst hj
    rw[hi]at e1;cases e1
    rw[List.getElem?_set_self hiσ]at e2
    cases e2
    exact⟨u,r,.inl ⟨hk,by simp⟩⟩
   ·rw[List.getElem?_set_ne (Ne.symm hj)]at e2
    obtain⟨u',r',q⟩:=hl j y v' e1 e2 e3
    refine⟨u',r',?_⟩
    rcases q with⟨k,e⟩ |⟨k,c,e,z⟩
    ·refine .inl ⟨k,?_⟩
     have:y≠x:=fun e=>hj (uO hN e1 (e▸hi))
     simp[this,e]
    ·exact .inr ⟨k,c,e,z.sameBut hs (cne y c e)⟩
  ·obtain⟨w',z⟩:=I.cell y c e
   exact⟨w',z.sameBut hs (cne y c e)⟩
  ·obtain⟨e,n,ne,nf,d⟩:=I.pin p hp
   exact⟨(hs.2 p.1 ne).trans e,n,ne,nf,d⟩
 ·have hfn:X.fn x=true:=by
   rcases hf with z |z
   ·exact z
   ·rw[z]at hk;cases hk
  obtain⟨c,hc⟩:=I.ok.has x (.inl hk)
  obtain⟨w',z⟩:=I.cell x c hc
  refine wpAny_storeName_cell I.ok.kind hk hc z (fun h' hc' hs=>?_)
  obtain⟨oc,hoc,hocd⟩:=id z
  refine h {s with heap:=h'} ⟨I.ok,I.os,I.bare,⟨fun b o e n hb hx=>?_,fun b o e n hb hx=>?_,I.base.free,fun b o e hx=>?_,I.base.tups,I.base.frzs,I.base.tbls⟩,⟨m,hn.sameBut hs (Ne.symm (cne x c hc)),fun j y v' e1 e2 e3=>?_⟩,fun y c' e=>?_,I.free,I.freeC,fun p hp=>?_,tracked ⟨oc,hoc,I.freeC x c hc⟩ hs,by simpa using I.len⟩ ⟨c,hs,.inr hc⟩
  ·exact(hs.2 b (jT (oV (jf e) (I.ok.cab x c hfn hc)))).trans (I.base.keep b o e n hb hx)
  ·obtain⟨sl,e1⟩:=I.base.slot b o e n hb hx
   exact⟨sl,(hs.2 b (jT (oV (jf e) (I.ok.cab x c hfn hc)))).trans e1⟩
  ·obtain⟨o',e1⟩:=I.base.there b o e hx
   exact⟨o',(hs.2 b (jT (oV (jf e) (I.ok.cab x c hfn hc)))).trans e1⟩
  ·by_cases hj:j=i
   ·subst hj
    rw[hi]at e1;cases e1
    rw[List.getElem?_set_self hiσ]at e2
    cases e2
    exact⟨u,r,.inr ⟨.inl hk,c,hc,hc'⟩⟩
   ·rw[List.getElem?_set_ne (Ne.symm hj)]at e2
    obtain⟨u',r',q⟩:=hl j y v' e1 e2 e3
    refine⟨u',r',?_⟩
    rcases q with q |⟨k,c',e,z'⟩
    ·exact .inl q
    ·refine .inr ⟨k,c',e,z'.sameBut hs ?_⟩
     rintro rfl
     exact hj (uO hN e1 (I.ok.inj _ _ _ e hc▸hi))
  ·by_cases hcc:c'=c
   ·subst hcc;exact⟨_,hc'⟩
   ·obtain⟨w2,z2⟩:=I.cell y c' e
    exact⟨w2,z2.sameBut hs hcc⟩
  ·obtain⟨e,n,ne,nf,d⟩:=I.pin p hp
   refine⟨(hs.2 p.1 ?_).trans e,n,ne,nf,d⟩
   intro q
   rw[q,hoc]at e
   have q':oc=p.2:=Option.some.inj e
   exact d w' (by rw[←q'];exact hocd)
theorem uP{M:Model}{A:Around}{E:Value→Shared→Prop}{i:Nat}{x:Str}{v:V}{u:Value}{Q:Unit→Shared→Prop}(I:Inv X pins σ H s)(hN:X.N.Nodup)(hi:X.N[i]? =some x)(hx:Ih X.env.scope x)(r:RelV v u)
  (h:∀s',Inv X pins (σ.set i (some v)) H s'→Q () s') (hf:X.fn x=true∨X.env.scope.names.lookup x=some .local:=by first |exact .inl rfl |exact .inr rfl |assumption):wpAny M A (storeName X.env x u) Q E s:=
 zJ I hN hi hx r (fun s' I' _=>h s' I') hf
theorem Inv.call'{s':Shared}{ch:List Addr}(I:Inv X pins σ H s)(ho:s'.os=s.os)(u:Un (Bq X.stack) ch H H' s.heap s'.heap)(hok:HOk X.prog X.w H' s'.heap)(hg:AllBare s'.gens)
  (hch:∀b∈ch,(b∈X.ex∨X.s₀.heap.objs.size≤b)∧b≠X.env.locals∧(∀x c,X.env.cells.lookup x=some c→c≠b)∧∀p∈X.pn++pins,p.1≠b):Inv X pins σ H' s':=by
 obtain⟨h',g',d',t',o'⟩:=s'
 have e:o'=s.os:=ho
 subst e
 exact I.call (g':=g') (t':=t') (d':=d') u hok hg hch
end
abbrev XK:=Value→Option Addr→Hp→Prop
abbrev St:=List (Option V)
abbrev VK:=V→Hp→Prop
abbrev TE:=St→Hp→VK→Prop
abbrev TT:=St→Hp→(Bool→Hp→Prop)→Prop
abbrev TA:=St→Hp→(List V→Hp→Prop)→Prop
structure Ends where
 nx:St→Hp→Prop
 rt:VK
 bk:St→Hp→Prop:=fun _ _=>False
 ct:St→Hp→Prop:=fun _ _=>False
abbrev TS:=Ends→St→Hp→Prop
def EP(X:Cx)(pins:List (Addr×Obj))(σ:St)(Q:VK)(u:Value)(s':Shared):Prop:=∃v H',Inv X pins σ H' s'∧RelV v u∧Q v H'
def TP(X:Cx)(pins:List (Addr×Obj))(σ:St)(Q:Bool→Hp→Prop)(b:Bool)(s':Shared):Prop:=∃H',Inv X pins σ H' s'∧Q b H'
def AP(X:Cx)(pins:List (Addr×Obj))(σ:St)(Q:List V→Hp→Prop)(us:List Value)(s':Shared):Prop:=∃vs H',Inv X pins σ H' s'∧Vals vs us∧Q vs H'
def SP(X:Cx)(pins:List (Addr×Obj))(D:Ends)(f:Flow)(s':Shared):Prop:=
 match f with
 |.next=>∃σ' H',Inv X pins σ' H' s'∧D.nx σ' H'
 |.brk=>∃σ' H',Inv X pins σ' H' s'∧D.bk σ' H'
 |.cont=>∃σ' H',Inv X pins σ' H' s'∧D.ct σ' H'
 |.ret u=>∃v σ' H',Inv X pins σ' H' s'∧RelV v u∧D.rt v H'
def PE(X:Cx)(e:Expr)(t:TE):Prop:=
 ∀(pins:List (Addr×Obj)) (s:Shared) (σ:St) (H:Hp) (Q:VK),Inv X pins σ H s→t σ H Q→wpAny (model X.prog X.w) X.A (eval e X.env) (EP X pins σ Q) X.xe s
def PT(X:Cx)(e:Expr)(t:TT):Prop:=
 ∀(pins:List (Addr×Obj)) (s:Shared) (σ:St) (H:Hp) (Q:Bool→Hp→Prop),Inv X pins σ H s→t σ H Q→wpAny (model X.prog X.w) X.A (isTrue e X.env (eval e X.env)) (TP X pins σ Q) X.xe s
def PW(X:Cx)(e:Expr)(t:TT):Prop:=
 ∀(whole:Sem Value) (pins:List (Addr×Obj)) (s:Shared) (σ:St) (H:Hp) (Q:Bool→Hp→Prop),Inv X pins σ H s→t σ H Q→wpAny (model X.prog X.w) X.A (isTrue e X.env whole) (TP X pins σ Q) X.xe s
theorem PW.pt{X:Cx}{e:Expr}{t:TT}(h:PW X e t):PT X e t:=h _
def PA(X:Cx)(es:List Expr)(t:TA):Prop:=
 ∀(pos:Pos) (pins:List (Addr×Obj)) (s:Shared) (σ:St) (H:Hp) (Q:List V→Hp→Prop),Inv X pins σ H s→t σ H Q→wpAny (model X.prog X.w) X.A (spliced (backTo pos (starEach es X.env))) (AP X pins σ Q) X.xe s
def PS(X:Cx)(st:Stmt)(t:TS):Prop:=
 ∀(pins:List (Addr×Obj)) (s:Shared) (σ:St) (H:Hp) (D:Ends),Inv X pins σ H s→t D σ H→wpAny (model X.prog X.w) X.A (exec st X.env) (SP X pins D) X.xe s
def PSs(X:Cx)(st:List Stmt)(t:TS):Prop:=
 ∀(pins:List (Addr×Obj)) (s:Shared) (σ:St) (H:Hp) (D:Ends),Inv X pins σ H s→t D σ H→wpAny (model X.prog X.w) X.A (execs st X.env) (SP X pins D) X.xe s
theorem fc{α:Type}{t:Sem α}{Q Q':α→Shared→Prop}{M:Model}{A:Around}{E:Value→Shared→Prop}{s:Shared}(h:wpAny M A t Q E s)(hQ:∀a s,Q a s→Q' a s):wpAny M A t Q' E s:=wpAny_mono h hQ fun _ _ x=>x
end L2
namespace L2
open PySem PySem.Spec PyProof.Rows
section
variable {X:Cx}
def jg(i:Nat):TE:=fun σ H Q=>∃v,σ[i]? =some (some v)∧Q v H
def tC(v:V):TE:=fun _ H Q=>Q v H
theorem jr {i:Nat} {x:Str} {pos:Pos} (hN:X.N[i]? =some x) (hv:Br X.env.scope x) (hd:(x == ("__debug__":Str))=false:=by decide) (hcd:(x == ("__classdict__":Str))=false:=by decide):PE X (.Name x pos) (jg i):=by
 intro pins s σ H Q I h
 obtain⟨v,e,h⟩:=h
 obtain⟨m,hn,hl⟩:=I.loc
 obtain⟨u,r,l⟩:=hl i x v hN e hv
 have fin:EP X pins σ Q u s:=⟨v,H,I,r,h⟩
 rcases l with⟨hk,hm⟩ |⟨hk,c,hc,hcell⟩
 ·exact wpAny_Name (wpAny_loadName_local I.ok.kind hk hn hm fin) hd
 ·rcases hk with hk |hk
  ·exact wpAny_Name (wpAny_loadName_cell I.ok.kind hk hc hcell fin) hd
  ·exact wpAny_Name (wpAny_loadName_free I.ok.kind hk hc hcell fin hcd) hd
theorem Gv{i j pos}:PE X (.Constant (.int i) j pos) (tC (.int i)):=fun _ _ _ H _ I h=>wpAny_Constant_int ⟨.int i,H,I.tok _,⟨_,rfl⟩,h⟩
theorem Ip{b j pos}:PE X (.Constant (.bool b) j pos) (tC (.bl b)):=fun _ _ _ H _ I h=>Constant_bool ⟨.bl b,H,I,rfl,h⟩
theorem Bv{x j pos}:PE X (.Constant (.str x) j pos) (tC (.str x)):=fun _ _ _ H _ I h=>Calls.Constant_str ⟨.str x,H,I.tok _,⟨_,rfl⟩,h⟩
def Gl(X:Cx)(x:Str):Prop:=X.env.kindOf x=some .globalImplicit
theorem yc{E:Value→Shared→Prop}{pins:List (Addr×Obj)}{s:Shared}{σ:St}{H:Hp}{x:Str}{u:Value}{pos:Pos}{Q:Value→Shared→Prop}(I:Inv X pins σ H s)(hg:Gl X x)(hm:X.mg x=some u)(h:Q u s)
  (hd:(x == ("__debug__":Str))=false:=by decide):wpAny (model X.prog X.w) X.A (eval (.Name x pos) X.env) Q E s:=
 Calls.Name_function_global I.ok.kind hg (Calls.loadGlobal_global (by rw[I.ok.glob];exact I.mod.glob.keeps I.bk) hm h) hd
theorem jU{E:Value→Shared→Prop}{pins:List (Addr×Obj)}{s:Shared}{σ:St}{H:Hp}{x:Str}{u:Value}{pos:Pos}{Q:Value→Shared→Prop}(I:Inv X pins σ H s)(hg:Gl X x)(hm:X.mg x=none)(hv:bootBuiltins x=some u)(h:Q u s)
  (hn:x≠"__name__":=by decide) (hd:(x == ("__debug__":Str))=false:=by decide):wpAny (model X.prog X.w) X.A (eval (.Name x pos) X.env) Q E s:=by
 obtain⟨mb,h1,h2⟩:=I.mod.blt
 exact Calls.Name_function_global I.ok.kind hg (Calls.loadGlobal_builtin (by rw[I.ok.glob];exact I.mod.glob.keeps I.bk) hm (by rw[I.ok.blt];exact h1.keeps I.bk) ((h2 x hn).trans hv) h) hd
theorem yd {x:Str} {v:V} {u:Value} {pos:Pos} (hg:Gl X x) (hm:X.mg x=some u) (r:RelV v u) (hd:(x == ("__debug__":Str))=false:=by decide):PE X (.Name x pos) (tC v):=
 fun _ _ _ H _ I h=>yc I hg hm ⟨v,H,I,r,h⟩ hd
theorem D9 {x:Str} {v:V} {u:Value} {pos:Pos} (hg:Gl X x) (hm:X.mg x=none) (hv:bootBuiltins x=some u) (r:RelV v u) (hn:x≠"__name__":=by decide) (hd:(x == ("__debug__":Str))=false:=by decide):PE X (.Name x pos) (tC v):=
 fun _ _ _ H _ I h=>jU I hg hm hv ⟨v,H,I,r,h⟩ hn hd
variable {a b:Expr} {ta tb:TE} {pos:Pos}
variable {tA tB':TT} {aX:List Expr}
def JK(t u:TT):TT:=fun σ H Q=>t σ H fun c H1=>if c=true then u σ H1 Q else Q false H1
def Ku(t u:TT):TT:=fun σ H Q=>t σ H fun c H1=>if c=true then Q true H1 else u σ H1 Q
def JL(t:TT):TT:=fun σ H Q=>t σ H fun c H1=>Q (!c) H1
theorem D_(ha:PT X a tA):PW X (.BoolOp .And [a] pos) tA:=by
 intro wh pins s σ H Q I h
 refine isTrue_and (fc (ha pins s σ H Q I h) fun c s1 e=>?_)
 cases c with
 |true=>exact isTrue_and_nil e
 |false=>exact e
theorem Gw(ha:PT X a tA):PW X (.BoolOp .Or [a] pos) tA:=by
 intro wh pins s σ H Q I h
 refine isTrue_or (fc (ha pins s σ H Q I h) fun c s1 e=>?_)
 cases c with
 |false=>exact isTrue_or_nil e
 |true=>exact e
theorem Gx(ha:PT X a tA)(hb:PW X (.BoolOp .And (b::aX) pos) tB'):PW X (.BoolOp .And (a::b::aX) pos) (JK tA tB'):=by
 intro wh pins s σ H Q I h
 refine isTrue_and (fc (ha pins s σ H _ I h) fun c s1 ⟨H1,I1,q1⟩=>?_)
 cases c with
 |true=>exact hb wh pins s1 σ H1 Q I1 q1
 |false=>exact⟨H1,I1,q1⟩
theorem Iq(ha:PT X a tA)(hb:PW X (.BoolOp .Or (b::aX) pos) tB'):PW X (.BoolOp .Or (a::b::aX) pos) (Ku tA tB'):=by
 intro wh pins s σ H Q I h
 refine isTrue_or (fc (ha pins s σ H _ I h) fun c s1 ⟨H1,I1,q1⟩=>?_)
 cases c with
 |true=>exact⟨H1,I1,q1⟩
 |false=>exact hb wh pins s1 σ H1 Q I1 q1
theorem Gy(ha:PT X a tA):PT X (.UnaryOp .Not a pos) (JL tA):=by
 intro pins s σ H Q I h
 exact isTrue_not (ha pins s σ H (fun c H1=>Q (!c) H1) I h)
def Ir(ta tb:TE):TE:=fun σ H Q=>ta σ H fun x H1=>∃c,x=.bl c∧if c=true then tb σ H1 Q else Q (.bl false) H1
theorem Gz{op}{t:TE}(h:PE X a t):PE X (.BoolOp op [a] pos) t:=fun pins s σ H Q I hw=>BoolOp_one (h pins s σ H Q I hw)
theorem GA(ha:PE X a ta)(hb:PE X (.BoolOp .And (b::aX) pos) tb):PE X (.BoolOp .And (a::b::aX) pos) (Ir ta tb):=by
 intro pins s σ H Q I h
 refine BoolOp_and (fc (ha pins s σ H _ I h) fun v s1 ⟨x,H1,I1,r1,q1⟩=>?_)
 obtain⟨c,rfl,q1⟩:=q1
 cases r1
 refine wpAny_truthy_bool ?_
 cases c with
 |true=>exact hb pins s1 σ H1 Q I1 q1
 |false=>exact⟨.bl false,H1,I1,rfl,q1⟩
end
end L2
namespace L2
open PySem PySem.Spec PyProof.Rows
def SqL(K:Frag)(H:Hp)(a:Addr)(xs:List V):Prop:=
 Rd H a (.lst xs)∨
  ∃(o:Obj) (its:Array Value) (n:Nat),K.lookup a=some o∧o.cls=.type "list"∧o.dict=none∧o.data=.seq its n∧its.size≤sizeLine∧Vals xs its.toList
def SqT(K:Frag)(H:Hp)(a:Addr)(xs:List V):Prop:=
 Rd H a (.tup xs)∨
  ∃(o:Obj) (its:Array Value) (n:Nat),K.lookup a=some o∧o.cls=.type "tuple"∧o.data=.seq its n∧its.size≤sizeLine∧Vals xs its.toList
def JM:Value→Option V
 |.none=>some .non
 |.bool b=>some (.bl b)
 |.int i _=>some (.int i)
 |.str x _=>some (.str x)
 |.bytes b _=>some (.byt b)
 |.float b _=>some (.flt b)
 |.ref a=>some (.ref a)
 |.type n=>some (.ty n)
 |_=>none
theorem RelV.abs{x:V}{u:Value}(r:RelV x u):JM u=some x:=by
 cases x with
 |non=>cases r;rfl
 |bl _=>cases r;rfl
 |int _=>obtain⟨t,rfl⟩:=r;rfl
 |str _=>obtain⟨t,rfl⟩:=r;rfl
 |byt _=>obtain⟨t,rfl⟩:=r;rfl
 |flt _=>obtain⟨t,rfl⟩:=r;rfl
 |ref _=>cases r;rfl
 |ty _=>cases r;rfl
theorem RelV.inj{x y:V}{u:Value}(r:RelV x u)(q:RelV y u):x=y:=Option.some.inj (r.abs.symm.trans q.abs)
theorem Vals.inj{xs ys:List V}{us:List Value}(h:Vals xs us)(k:Vals ys us):xs=ys:=by
 induction h generalizing ys with
 |nil=>cases k;rfl
 |cons r _ ih=>cases k with |cons r' t'=>rw[r.inj r',ih t']
section
variable {X:Cx} {pins:List (Addr×Obj)} {σ:St} {H:Hp} {s:Shared} {a:Addr} {xs ys:List V}
theorem SqL.of{K:Frag}(h:H a=some (.lst xs)):SqL K H a xs:=.inl (.inl h)
theorem SqT.of{K:Frag}(h:H a=some (.tup xs)):SqT K H a xs:=.inl (.inl h)
theorem Inv.list(I:Inv X pins σ H s)(h:SqL X.K H a xs):∃its:List Value,Vals xs its∧PlainL s.heap a its.toArray∧xs.length≤sizeLine:=by
 rcases h with h |⟨o,its,n,hk,hc,hd,hs,hz,r⟩
 ·obtain⟨z,its,n,r,e⟩:=h.ok I.hok
  exact⟨its,r,⟨_,n,e,rfl,rfl,rfl⟩,z⟩
 ·refine⟨its.toList,r,⟨o,n,I.kIn a o hk,hc,hd,by simpa using hs⟩,?_⟩
  have e:=r.length
  simp only[wJ]at e
  omega
theorem Inv.tuple(I:Inv X pins σ H s)(h:SqT X.K H a xs):∃its:List Value,Vals xs its∧IsTup s.heap a its.toArray∧xs.length≤sizeLine:=by
 rcases h with h |⟨o,its,n,hk,hc,hs,hz,r⟩
 ·obtain⟨z,its,r,p⟩:=h.ok I.hok
  exact⟨its,r,p,z⟩
 ·refine⟨its.toList,r,⟨o,I.kIn a o hk,hc,n,by simpa using hs⟩,?_⟩
  have e:=r.length
  simp only[wJ]at e
  omega
theorem Inv.list_inj(I:Inv X pins σ H s)(h:SqL X.K H a xs)(h':SqL X.K H a ys):xs=ys:=by
 obtain⟨its,r,⟨o,n,e,_,_,d⟩,_⟩:=I.list h
 obtain⟨its',r',⟨o',n',e',_,_,d'⟩,_⟩:=I.list h'
 rw[e]at e';cases e'
 rw[d]at d'
 injection d' with d1 _
 have:its=its':=by simpa using congrArg Array.toList d1
 subst this
 exact r.inj r'
theorem Inv.tuple_inj(I:Inv X pins σ H s)(h:SqT X.K H a xs)(h':SqT X.K H a ys):xs=ys:=by
 obtain⟨its,r,⟨o,e,_,n,d⟩,_⟩:=I.tuple h
 obtain⟨its',r',⟨o',e',_,n',d'⟩,_⟩:=I.tuple h'
 rw[e]at e';cases e'
 rw[d]at d'
 injection d' with d1 _
 have:its=its':=by simpa using congrArg Array.toList d1
 subst this
 exact r.inj r'
end
abbrev Cx.wish(X:Cx)(E:Value→Shared→Prop):Cx:={X with xe:=E}
abbrev Cx.nox(X:Cx):Cx:=X.wish fun _ _=>False
theorem Cx.Ok.wish{X:Cx}(ok:X.Ok)(E:Value→Shared→Prop):(X.wish E).Ok:=
 ⟨ok.mod,ok.kind,ok.glob,ok.blt,ok.above,ok.inj,ok.has,ok.cab,ok.hd,ok.frames,ok.stk,ok.exf,ok.bs,ok.bsz,ok.noex,ok.exfs,ok.funs,ok.frf,ok.tab⟩
theorem Cx.Ok.unwish{X:Cx}{E:Value→Shared→Prop}(ok:(X.wish E).Ok):X.Ok:=
 ⟨ok.mod,ok.kind,ok.glob,ok.blt,ok.above,ok.inj,ok.has,ok.cab,ok.hd,ok.frames,ok.stk,ok.exf,ok.bs,ok.bsz,ok.noex,ok.exfs,ok.funs,ok.frf,ok.tab⟩
section
variable {X:Cx} {pins:List (Addr×Obj)} {σ:St} {H:Hp} {s:Shared} {E:Value→Shared→Prop}
theorem Inv.wish(I:Inv X pins σ H s)(E:Value→Shared→Prop):Inv (X.wish E) pins σ H s:=⟨I.ok.wish E,I.os,I.bare,I.base,I.loc,I.cell,I.free,I.freeC,I.pin,I.hok,I.len⟩
theorem Inv.unwish(I:Inv (X.wish E) pins σ H s):Inv X pins σ H s:=⟨I.ok.unwish,I.os,I.bare,I.base,I.loc,I.cell,I.free,I.freeC,I.pin,I.hok,I.len⟩
theorem SP.unwish{D:Ends}{f:Flow}{s':Shared}(h:SP (X.wish E) pins D f s'):SP X pins D f s':=by
 cases f with
 |next=>obtain⟨σ',H',I,q⟩:=h;exact⟨σ',H',I.unwish,q⟩
 |brk=>obtain⟨σ',H',I,q⟩:=h;exact⟨σ',H',I.unwish,q⟩
 |cont=>obtain⟨σ',H',I,q⟩:=h;exact⟨σ',H',I.unwish,q⟩
 |ret u=>obtain⟨v,σ',H',I,r,q⟩:=h;exact⟨v,σ',H',I.unwish,r,q⟩
theorem PE.nox{e:Expr}{t:TE}(h:PE X.nox e t):PE X e t:=fun pins s σ H Q I hw=>
 wpAny_mono (h pins s σ H Q (I.wish _) hw) (fun _ _ ⟨v,H',I',r,q⟩=>⟨v,H',I'.unwish,r,q⟩) fun _ _ z=>False.elim z
theorem PT.nox{e:Expr}{t:TT}(h:PT X.nox e t):PT X e t:=fun pins s σ H Q I hw=>
 wpAny_mono (h pins s σ H Q (I.wish _) hw) (fun _ _ ⟨H',I',q⟩=>⟨H',I'.unwish,q⟩) fun _ _ z=>False.elim z
theorem PSs.nox{st:List Stmt}{t:TS}(h:PSs X.nox st t):PSs X st t:=fun pins s σ H D I hw=>
 wpAny_mono (h pins s σ H D (I.wish _) hw) (fun _ _ q=>q.unwish) fun _ _ z=>False.elim z
end
section
variable {X:Cx} {st:Stmt} {aX:List Stmt} {t u:TS} {e:Expr} {te:TE} {pos:Pos}
def Is:TS:=fun D σ H=>D.nx σ H
def JN(t u:TS):TS:=fun D σ H=>t {D with nx:=u D} σ H
theorem Ea:PSs X [] Is:=fun _ _ σ H _ I h=>wpAny_execs_nil ⟨σ,H,I,h⟩
theorem Bw(h1:PS X st t)(h2:PSs X aX u):PSs X (st::aX) (JN t u):=by
 intro pins s σ H D I h
 refine wpAny_execs_cons (fc (h1 pins s σ H {D with nx:=u D} I h) fun f s1 q=>?_)
 cases f with
 |next=>
  obtain⟨σ',H',I',q⟩:=q
  exact h2 pins s1 σ' H' D I' q
 |ret v=>exact q
 |brk=>exact q
 |cont=>exact q
theorem sS(h1:PS X st t):PSs X [st] t:=by
 intro pins s σ H D I h
 refine wpAny_execs_cons (fc (h1 pins s σ H D I h) fun f s1 q=>?_)
 cases f with
 |next=>exact wpAny_execs_nil q
 |ret v=>exact q
 |brk=>exact q
 |cont=>exact q
theorem Inv.quiet{pins:List (Addr×Obj)}{σ:St}{H:Hp}{s:Shared}(I:Inv X pins σ H s):interactive X.env=false:=by simp[interactive,I.ok.kind]
def Iu(te:TE):TS:=fun D σ H=>te σ H fun _ H1=>D.nx σ H1
theorem sT(he:PE X e te)(hs:swapsWith e none pos.line X.env=pure false:=by rfl):PS X (.Expr e pos) (Iu te):=by
 intro pins s σ H D I h
 exact wpAny_Expr_any (fc (he pins s σ H _ I h) fun v s1 ⟨x,H1,I1,r1,q1⟩=>⟨σ,H1,I1,q1⟩) I.quiet hs
def JO(te:TE):TS:=fun D σ H=>te σ H D.rt
theorem GB(he:PE X e te):PS X (.Return (some e) pos) (JO te):=by
 intro pins s σ H D I h
 exact wpAny_Return_some (fc (he pins s σ H _ I h) fun v s1 ⟨x,H1,I1,r1,q1⟩=>⟨x,σ,H1,I1,r1,q1⟩)
def JP(c:TT)(t u:TS):TS:=fun D σ H=>c σ H fun b H1=>if b=true then t D σ H1 else u D σ H1
theorem Iv{c:Expr}{a b:List Stmt}{tc:TT}(hc:PT X c tc)(ha:PSs X a t)(hb:PSs X b u):PS X (.If c a b pos) (JP tc t u):=by
 intro pins s σ H D I h
 refine wpAny_If (fc (hc pins s σ H _ I h) fun d s1 ⟨H1,I1,q1⟩=>?_)
 cases d with
 |true=>exact ha pins s1 σ H1 D I1 q1
 |false=>exact hb pins s1 σ H1 D I1 q1
def GC:TS:=fun _ _ _=>False
theorem Bx:PS X st GC:=fun _ _ _ _ _ _ h=>h.elim
end
abbrev TG:=V→St→Hp→(St→Hp→Prop)→Prop
abbrev Eb:=List V→St→Hp→(St→Hp→Prop)→Prop
def PG(X:Cx)(target:Expr)(t:TG):Prop:=
 ∀(pins:List (Addr×Obj)) (s:Shared) (σ:St) (H:Hp) (v:V) (u:Value) (Q:St→Hp→Prop),Inv X pins σ H s→RelV v u→t v σ H Q→
  wpAny (model X.prog X.w) X.A (assign target X.env u) (fun _ s'=>∃σ' H',Inv X pins σ' H' s'∧Q σ' H') X.xe s
def GD(X:Cx)(ts:List Expr)(t:Eb):Prop:=
 ∀(pins:List (Addr×Obj)) (s:Shared) (σ:St) (H:Hp) (vs:List V) (us:List Value) (Q:St→Hp→Prop),Inv X pins σ H s→Vals vs us→t vs σ H Q→
  wpAny (model X.prog X.w) X.A (assignInOrder ((assignEach ts X.env).map (·.2)) us) (fun _ s'=>∃σ' H',Inv X pins σ' H' s'∧Q σ' H') X.xe s
abbrev GE:=V→V→V→Hp→(Hp→Prop)→Prop
def Iw(X:Cx)(t:GE):Prop:=
 ∀(pins:List (Addr×Obj)) (s:Shared) (σ:St) (H:Hp) (o i v:V) (ov iv u:Value) (Q:Hp→Prop),Inv X pins σ H s→RelV o ov→RelV i iv→RelV v u→t o i v H Q→
  wpAny (model X.prog X.w) X.A (setItem ov iv u) (fun _ s'=>∃H',Inv X pins σ H' s'∧Q H') X.xe s
section
variable {X:Cx} {pos:Pos}
def rA(i:Nat):TG:=fun v σ H Q=>Q (σ.set i (some v)) H
theorem sU{i:Nat}{x:Str}(hN:X.N.Nodup)(hi:X.N[i]? =some x)(hx:Ih X.env.scope x)(hf:X.fn x=true∨X.env.scope.names.lookup x=some .local:=by first |exact .inl rfl |exact .inr rfl |assumption):PG X (.Name x pos) (rA i):=by
 intro pins s σ H v u Q I r h
 exact wpAny_assign_Name (uP I hN hi hx r (fun s' I'=>⟨_,H,I',h⟩) hf)
def GF:Eb:=fun vs σ H Q=>vs=[]∧Q σ H
def uQ(t:TG)(u:Eb):Eb:=fun vs σ H Q=>∃v r,vs=v::r∧t v σ H fun σ' H'=>u r σ' H' Q
theorem ye:GD X [] GF:=by
 intro pins s σ H vs us Q I r h
 obtain⟨e,h⟩:=h
 subst e
 cases r
 exact assignInOrder_nil ⟨σ,H,I,h⟩
theorem pK{e:Expr}{es:List Expr}{t:TG}{u:Eb}(h1:PG X e t)(h2:GD X es u)
  (hs:(assignEach (e::es) X.env).map (·.2)=assign e X.env::(assignEach es X.env).map (·.2):=by rfl):GD X (e::es) (uQ t u):=by
 intro pins s σ H vs us Q I r h
 obtain⟨v,vr,e1,h⟩:=h
 subst e1
 cases r with
 |cons r rr=>
  rw[hs]
  refine assignInOrder_cons (fc (h1 pins s σ H _ _ _ I r h) fun _ s1 ⟨σ1,H1,I1,q1⟩=>?_)
  exact h2 pins s1 σ1 H1 _ _ Q I1 rr q1
def GG(K:Frag)(n:Nat)(t:Eb):TG:=fun v σ H Q=>∃a xs,v=.ref a∧SqT K H a xs∧xs.length=n∧t xs σ H Q
theorem By{es:List Expr}{k:Nat}{t:Eb}{n:Nat}(hc:X.calm=true)(h:GD X es t)
  (hn:(assignEach es X.env).length=n:=by rfl) (hst:(assignEach es X.env).findIdx? (·.1)=none:=by rfl):PG X (.Tuple es k pos) (GG X.K n t):=by
 intro pins s σ H v u Q I r hw
 obtain⟨a,xs,e1,hq,hl,hw⟩:=hw
 subst e1
 cases r
 obtain⟨its,rv,ht,hz⟩:=I.tuple hq
 refine assign_Tuple_tuple (I.ok.hd hc) ht (by simp[hn,←hl,rv.length]) hst fun h' hx=>?_
 have I1:Inv X pins σ H {s with heap:=h'}:=I.kept (t':=s.toks) fun b o e=>hx b o (jT (jf e)) e
 exact h pins _ σ H xs _ Q I1 (by simpa using rv) hw
def GH(to ti:TE)(t:GE):TG:=fun v σ H Q=>to σ H fun o H1=>ti σ H1 fun i H2=>t o i v H2 fun H3=>Q σ H3
theorem Bz{o i:Expr}{to ti:TE}{t:GE}(ho:PE X o to)(hi:PE X i ti)(hs:Iw X t)
  (ha:∀v,assign (.Subscript o i pos) X.env v=(do
   let ov ←holding [v] (eval o X.env)
   let iv ←holding [v,ov] (eval i X.env)
   standAt pos
   holding [v,ov,iv] (setItem ov iv v)
   release [v,ov,iv] []):=by intro _;rfl):PG X (.Subscript o i pos) (GH to ti t):=by
 intro pins s σ H v u Q I r h
 rw[ha]
 refine wpAny_bind (wpAny_holding (fc (ho pins s σ H _ I h) fun ov s1 ⟨x,H1,I1,r1,q1⟩=>?_))
 refine wpAny_bind (wpAny_holding (fc (hi pins s1 σ H1 _ I1 q1) fun iv s2 ⟨y,H2,I2,r2,q2⟩=>?_))
 refine wpAny_bind (wpAny_standAt (wpAny_bind (wpAny_holding (fc (hs pins s2 σ H2 x y v ov iv u _ I2 r1 r2 r q2) fun _ s3 ⟨H3,I3,q3⟩=>?_))))
 exact wpAny_release ⟨σ,H3,I3,q3⟩
def Ec(te:TE)(g:TG):TS:=fun D σ H=>te σ H fun x H1=>g x σ H1 D.nx
theorem BA{tg e:Expr}{te:TE}{g:TG}(he:PE X e te)(hg:PG X tg g)(hs:swapsWithSole [tg] e pos.line X.env=pure false:=by rfl)(hw:swappedStores [tg] e X.env=pure none:=by rfl)
  (h1:(assignEach [tg] X.env).map (·.2)=[assign tg X.env]:=by rfl):PS X (.Assign [tg] e pos) (Ec te g):=by
 intro pins s σ H D I h
 refine wpAny_Assign_stores (fc (he pins s σ H _ I h) fun v s1 ⟨x,H1,I1,r1,q1⟩=>?_) hs hw
 rw[h1]
 exact fc (hg pins s1 σ H1 x v _ I1 r1 q1) fun _ s2 q=>q
theorem GI{i:Nat}{x:Str}{e:Expr}{te:TE}{pos':Pos}(hN:X.N.Nodup)(hi:X.N[i]? =some x)(hx:Ih X.env.scope x)(he:PE X e te)(hs:swapsWith e (some (.Name x pos')) pos.line X.env=pure false:=by rfl)(hf:X.fn x=true∨X.env.scope.names.lookup x=some .local:=by first |exact .inl rfl |exact .inr rfl |assumption):
  PS X (.Assign [.Name x pos'] e pos) (Ec te (rA i)):=by
 intro pins s σ H D I h
 refine wpAny_Assign_Name (fc (he pins s σ H _ I h) fun v s1 ⟨y,H1,I1,r1,q1⟩=>?_) hs
 exact uP I1 hN hi hx r1 (fun s2 I2=>⟨_,H1,I2,q1⟩) hf
end
section
variable {X:Cx} {pos:Pos}
def GJ(c:TT)(tb:TS):TS:=fun D σ H=>∃W:Nat→St→Hp→Prop,(∃m,W m σ H)∧∀m σ H,W m σ H→
 c σ H fun b H1=>if b=true then ∃N:St→Hp→Prop,(∀σ' H',N σ' H'→∃m',m' < m∧W m' σ' H')∧tb {D with nx:=N,ct:=N,bk:=D.nx} σ H1 else D.nx σ H1
theorem BB{c:Expr}{body:List Stmt}{tc:TT}{tb:TS}(hp:PassesOwn (model X.prog X.w) X.A X.env X.xe)(hc:PT X c tc)(hb:PSs X body tb):PS X (.While c body [] pos) (GJ tc tb):=by
 intro pins s σ H D I h
 obtain⟨W,⟨m0,w0⟩,turn⟩:=h
 refine wpAny_While (codeAny_whileLoop (fun n s'=>∃σ' H',Inv X pins σ' H' s'∧W n σ' H') ?_ m0 ⟨σ,H,I,w0⟩)
 rintro n s1 ⟨σ1,H1,I1,w1⟩
 refine wpAny_passesOwn hp (fc (hc pins s1 σ1 H1 _ I1 (turn n σ1 H1 w1)) fun b s2 ⟨H2,I2,q2⟩=>?_)
 cases b with
 |true=>
  obtain⟨N,hN,q2⟩:=q2
  rw[if_pos rfl]
  refine wpAny_passesOwn hp (fc (hb pins s2 σ1 H2 _ I2 q2) fun f s3 q3=>?_)
  cases f with
  |next=>
   obtain⟨σ3,H3,I3,n3⟩:=q3
   obtain⟨m',hm,w3⟩:=hN σ3 H3 n3
   exact⟨m',hm,σ3,H3,I3,w3⟩
  |cont=>
   obtain⟨σ3,H3,I3,n3⟩:=q3
   obtain⟨m',hm,w3⟩:=hN σ3 H3 n3
   exact⟨m',hm,σ3,H3,I3,w3⟩
  |brk=>exact q3
  |ret v=>exact q3
 |false=>
  rw[if_neg Zb]
  exact wpAny_execs_nil ⟨σ1,H2,I2,q2⟩
end
structure It where
 go:Nat→Hp→Prop
 yld:Nat→Hp→V→Hp→Prop
 stop:Nat→Hp→Prop
def uR(X:Cx)(pins:List (Addr×Obj))(H:Hp)(b:Addr):Prop:=
 H b=none∧b≠X.env.locals∧b∉X.fs∧(b∈X.ex∨X.s₀.heap.objs.size≤b)∧(∀x c,X.env.cells.lookup x=some c→c≠b)∧∀p∈X.pn++pins,p.1≠b
theorem Inv.fpOk{X:Cx}{pins:List (Addr×Obj)}{σ:St}{H H':Hp}{s:Shared}{b:Addr}(I:Inv X pins σ H s)(hb:s.heap.objs.size≤b)(hn:H' b=none):uR X pins H' b:=by
 refine⟨hn,Nat.ne_of_gt (oV I.lt hb),I.nofs hb,.inr (jn I.sz hb),fun x c e z=>?_,fun p hp z=>?_⟩
 ·obtain⟨v,q⟩:=I.cell x c e
  exact absurd (oV q.lt (by rw[z];exact hb)) (Nat.lt_irrefl _)
 ·exact absurd (oV (jf (I.pin p hp).1) (by rw[z];exact hb)) (Nat.lt_irrefl _)
structure Turn (P:Program) (w:World) (K:Frag) (tg:Expr) (J:It) (fp:List Addr) (it:Addr) (tn:Nat→Heap→Prop):Prop where
 mem:it∈fp
 obj:∀i h,tn i h→∀b∈fp,∃o,h.get? b=some o∧∀v,o.data≠ .cell v
 keep:∀i h h',tn i h→(∀b∈fp,∀o,h.get? b=some o→h'.get? b=some o)→tn i h'
 item:∀(X:Cx),X.prog=P→X.w=w→X.K=K→X.calm=true→∀(i:Nat) (pins:List (Addr×Obj)) (s:Shared) (σ:St) (H:Hp) (E:Value→Shared→Prop),Inv X pins σ H s→(∀b∈fp,uR X pins H b)→tn i s.heap→J.go i H→
  wpAny (model P w) X.A (pyNext (.ref it)) (fun r s1=>∃u,r=some u∧
   wpAny (model P w) X.A (letOwnedTupleGo tg (.ref it) u) (fun _ s2=>∃x H',Inv X pins σ H' s2∧RelV x u∧J.yld i H x H'∧tn (i+1) s2.heap∧∀b∈fp,H' b=none) E s1) E s
 done:∀(X:Cx),X.prog=P→X.w=w→X.K=K→X.calm=true→∀(i:Nat) (pins:List (Addr×Obj)) (s:Shared) (σ:St) (H:Hp) (E:Value→Shared→Prop),Inv X pins σ H s→(∀b∈fp,uR X pins H b)→tn i s.heap→J.stop i H→
  wpAny (model P w) X.A (pyNext (.ref it)) (fun r s1=>r=none∧Inv X pins σ H s1) E s
 self:∀(A:Around) (i:Nat) (s:Shared) (Q:Value→Shared→Prop) (E:Value→Shared→Prop),tn i s.heap→Q (.ref it) s→wpAny (model P w) A (pyIter (.ref it)) Q E s
abbrev TI:=St→Hp→(It→Hp→Prop)→Prop
def JQ(X:Cx)(pins:List (Addr×Obj))(σ:St)(tg:Expr)(R:It→Hp→Prop)(itv:Value)(s2:Shared):Prop:=
 ∃(it:Addr) (fp:List Addr) (tn:Nat→Heap→Prop) (J:It) (H':Hp),itv=.ref it∧Inv X pins σ H' s2∧Turn X.prog X.w X.K tg J fp it tn∧tn 0 s2.heap∧(∀b∈fp,uR X pins H' b)∧R J H'
def PI(X:Cx)(tg iter:Expr)(wi:TI):Prop:=
 ∀(pins:List (Addr×Obj)) (s:Shared) (σ:St) (H:Hp) (R:It→Hp→Prop),Inv X pins σ H s→wi σ H R→
  wpAny (model X.prog X.w) X.A (eval iter X.env) (fun v s1=>wpAny (model X.prog X.w) X.A (pyIter v) (JQ X pins σ tg R) X.xe s1) X.xe s
theorem rB{M:Model}{A:Around}{E:Value→Shared→Prop}{s:Shared}{tg:Expr}{it:Addr}{u:Value}{o:Obj}{n:String}{vs:Array Value}{Q:Unit→Shared→Prop}(ho:s.heap.get? it=some o)(hc:o.cls=.type n)(hd:o.data=.fields vs)
  (hn:["enumerate","zip","dict_itemiterator","dict_reverseitemiterator","odict_iterator","itertools.zip_longest","itertools.pairwise"].contains n=false) (hQ:Q () s):wpAny M A (letOwnedTupleGo tg (.ref it) u) Q E s:=by
 unfold letOwnedTupleGo
 cases tg <;> first
  |exact wpAny_pure hQ
  |(cases u <;> first
    |exact wpAny_pure hQ
    |(refine wpAny_bind (wpAny_load ho ?_)
      rw[hc,hd]
      show wpAny M A (if (["enumerate","zip","dict_itemiterator","dict_reverseitemiterator","odict_iterator","itertools.zip_longest","itertools.pairwise"].contains n&&vs[0]? == some (rawInt _))=true then _ else _) Q E s
      rw[if_neg (by intro h;rw[hn,Bool.false_and]at h;cases h)]
      exact wpAny_pure hQ))
def Ii(K:Frag)(a:Addr):It:=
 ⟨fun i H=>∃xs x,SqL K H a xs∧xs[i]? =some x,fun i H x H'=>H'=H∧∀xs,SqL K H a xs→xs[i]? =some x,fun i H=>∃xs,SqL K H a xs∧xs.length≤i⟩
def JR(K:Frag)(a:Addr):It:=
 ⟨fun i H=>∃xs x,SqT K H a xs∧xs[i]? =some x,fun i H x H'=>H'=H∧∀xs,SqT K H a xs→xs[i]? =some x,fun i H=>∃xs,SqT K H a xs∧xs.length≤i⟩
def Ix(lo:Int)(n:Nat):It:=⟨fun i _=>i < n,fun i H x H'=>H'=H∧x=.int (lo+i),fun i _=>n≤i⟩
theorem zK{P:Program}{w:World}{K:Frag}{tg:Expr}(a it:Addr):Turn P w K tg (Ii K a) [it] it (fun i h=>h.IsListIter it a i) where
 mem:=by simp
 obj:=fun i h st b hb=>by
  have e:b=it:=by simpa using hb
  subst e
  obtain⟨o,e,c,d⟩:=st
  exact⟨o,e,fun v z=>by rw[d]at z;cases z⟩
 keep:=fun i h h' st k=>st.at fun o e=>k it (by simp) o e
 item:=by
  intro X hP hw hK hc i pins s σ H E I hf st hg
  subst hP hw hK
  obtain⟨xs,x,hq,hx⟩:=hg
  obtain⟨its,rv,p,hz⟩:=I.list hq
  obtain⟨u,hu,ru⟩:=rv.get hx
  obtain⟨f0,f1,f2,f3,f4,f5⟩:=hf it (by simp)
  refine wpAny_pyNext_list_item st p.isList (x:=u) (by simpa using hu) fun h' st' sb=>?_
  have I1:Inv X pins σ H {s with heap:=h'}:=I.turned (t':=s.toks) (fun b o hb e=>(sb.2 b hb).trans e) f0 f1 f3 f4 f5
  obtain⟨o,e,c,d⟩:=id st'
  exact⟨u,rfl,rB (s:={s with heap:=h'}) e c d (by decide) ⟨x,H,I1,ru,⟨rfl,fun ys hy=>by rw[I.list_inj hy hq];exact hx⟩,st',fun b hb=>(hf b hb).1⟩⟩
 done:=by
  intro X hP hw hK hc i pins s σ H E I hf st hg
  subst hP hw hK
  obtain⟨xs,hq,hx⟩:=hg
  obtain⟨its,rv,p,hz⟩:=I.list hq
  obtain⟨f0,f1,f2,f3,f4,f5⟩:=hf it (by simp)
  have hl:=rv.length
  exact wpAny_pyNext_list_end (I.ok.hd hc) st p.isList (by simp;omega) fun h' eb=>⟨rfl,I.turned (t':=s.toks) (fun b o hb e=>eb b o hb e) f0 f1 f3 f4 f5⟩
 self:=fun _ _ _ _ _ st h=>wpAny_pyIter_listiter st h
theorem wN{P:Program}{w:World}{K:Frag}{tg:Expr}(a it:Addr):Turn P w K tg (JR K a) [it] it (fun i h=>h.IsTupleIter it a i) where
 mem:=by simp
 obj:=fun i h st b hb=>by
  have e:b=it:=by simpa using hb
  subst e
  obtain⟨o,e,c,d⟩:=st
  exact⟨o,e,fun v z=>by rw[d]at z;cases z⟩
 keep:=fun i h h' st k=>st.at fun o e=>k it (by simp) o e
 item:=by
  intro X hP hw hK hc i pins s σ H E I hf st hg
  subst hP hw hK
  obtain⟨xs,x,hq,hx⟩:=hg
  obtain⟨its,rv,p,hz⟩:=I.tuple hq
  obtain⟨u,hu,ru⟩:=rv.get hx
  obtain⟨f0,f1,f2,f3,f4,f5⟩:=hf it (by simp)
  refine wpAny_pyNext_tuple_item st (show s.heap.IsTuple a its.toArray from p) (x:=u) (by simpa using hu) fun h' st' sb=>?_
  have I1:Inv X pins σ H {s with heap:=h'}:=I.turned (t':=s.toks) (fun b o hb e=>(sb.2 b hb).trans e) f0 f1 f3 f4 f5
  obtain⟨o,e,c,d⟩:=id st'
  exact⟨u,rfl,rB (s:={s with heap:=h'}) e c d (by decide) ⟨x,H,I1,ru,⟨rfl,fun ys hy=>by rw[I.tuple_inj hy hq];exact hx⟩,st',fun b hb=>(hf b hb).1⟩⟩
 done:=by
  intro X hP hw hK hc i pins s σ H E I hf st hg
  subst hP hw hK
  obtain⟨xs,hq,hx⟩:=hg
  obtain⟨its,rv,p,hz⟩:=I.tuple hq
  obtain⟨f0,f1,f2,f3,f4,f5⟩:=hf it (by simp)
  have hl:=rv.length
  exact wpAny_pyNext_tuple_end (I.ok.hd hc) st (show s.heap.IsTuple a its.toArray from p) (by simp;omega) fun h' eb=>⟨rfl,I.turned (t':=s.toks) (fun b o hb e=>eb b o hb e) f0 f1 f3 f4 f5⟩
 self:=fun _ _ _ _ _ st h=>wpAny_pyIter_tupleiter st h
theorem wO{P:Program}{w:World}{K:Frag}{tg:Expr}(it:Addr)(lo:Int)(n:Nat):Turn P w K tg (Ix lo n) [it] it (fun i h=>IsRangeIter h it (lo+(i:Nat)*1) ((n:Int) - (i:Nat)) 1) where
 mem:=by simp
 obj:=fun i h st b hb=>by
  have e:b=it:=by simpa using hb
  subst e
  exact⟨_,st,fun v z=>by
   have z':Data.fields _=Data.cell v:=z
   cases z'⟩
 keep:=fun i h h' st k=>k it (by simp) _ st
 item:=by
  intro X hP hw hK hc i pins s σ H E I hf st hg
  subst hP hw hK
  obtain⟨f0,f1,f2,f3,f4,f5⟩:=hf it (by simp)
  have W:=Walks.range (prog:=X.prog) (w:=X.w) (I.ok.hd hc) it lo 1 n
  refine W.item i s _ _ hg st fun v h' tk hv st' kk=>?_
  obtain⟨t,rfl⟩:=hv
  have I1:Inv X pins σ H {s with heap:=h',toks:=tk}:=I.turned (fun b o hb e=>kk b o (by simpa using hb) e) f0 f1 f3 f4 f5
  refine⟨_,rfl,rB (s:={s with heap:=h',toks:=tk}) (n:="range_iterator") st' rfl rfl (by decide) ⟨.int (lo+i),H,I1,⟨t,?_⟩,⟨rfl,rfl⟩,st',fun b hb=>(hf b hb).1⟩⟩
  rw[Int.mul_one]
 done:=by
  intro X hP hw hK hc i pins s σ H E I hf st hg
  subst hP hw hK
  obtain⟨f0,f1,f2,f3,f4,f5⟩:=hf it (by simp)
  exact wpAny_pyNext_range_end (I.ok.hd hc) st (by have:n≤i:=hg;omega) fun h' eb=>⟨rfl,I.turned (t':=s.toks) (fun b o hb e=>eb b o hb e) f0 f1 f3 f4 f5⟩
 self:=fun _ _ _ _ _ st h=>wpAny_pyIter_rangeiter st h
end L2
namespace L2
open PySem PySem.Spec PyProof.Rows
section
variable {X:Cx} {tg:Expr}
def BC(K:Frag)(tl:TE):TI:=fun σ H R=>tl σ H fun x H1=>∃a,x=.ref a∧(∃xs,SqL K H1 a xs)∧R (Ii K a) H1
def JS(K:Frag)(tl:TE):TI:=fun σ H R=>tl σ H fun x H1=>∃a,x=.ref a∧(∃xs,SqT K H1 a xs)∧R (JR K a) H1
theorem yf{l:Expr}{tl:TE}(hl:PE X l tl):PI X tg l (BC X.K tl):=by
 intro pins s σ H R I h
 refine fc (hl pins s σ H _ I h) fun v s1 ⟨x,H1,I1,r1,q1⟩=>?_
 obtain⟨a,e,⟨xs,hq⟩,q⟩:=q1
 subst e
 cases r1
 obtain⟨its,rv,p,hz⟩:=I1.list hq
 refine wpAny_pyIter_list p.isList ?_
 refine⟨s1.heap.objs.size,[s1.heap.objs.size],_,_,H1,rfl,I1.kept (t':=s1.toks) fun b o e=>iB _ e,zK a _,⟨_,l_ _ rfl,rfl,rfl⟩,fun b hb=>?_,q⟩
 have e:b=s1.heap.objs.size:=by simpa using hb
 subst e
 exact I1.fpOk (gi _) (I1.hok.fresh (gi _))
theorem GK{l:Expr}{tl:TE}(hl:PE X l tl):PI X tg l (JS X.K tl):=by
 intro pins s σ H R I h
 refine fc (hl pins s σ H _ I h) fun v s1 ⟨x,H1,I1,r1,q1⟩=>?_
 obtain⟨a,e,⟨xs,hq⟩,q⟩:=q1
 subst e
 cases r1
 obtain⟨its,rv,p,hz⟩:=I1.tuple hq
 refine wpAny_pyIter_tuple (show s1.heap.IsTuple a its.toArray from p) ?_
 refine⟨s1.heap.objs.size,[s1.heap.objs.size],_,_,H1,rfl,I1.kept (t':=s1.toks) fun b o e=>iB _ e,wN a _,⟨_,l_ _ rfl,rfl,rfl⟩,fun b hb=>?_,q⟩
 have e:b=s1.heap.objs.size:=by simpa using hb
 subst e
 exact I1.fpOk (gi _) (I1.hok.fresh (gi _))
theorem uS{pins:List (Addr×Obj)}{σ:St}{H:Hp}{s:Shared}{R:It→Hp→Prop}{E:Value→Shared→Prop}{lo hi:Int}{t u v:Tok}{tk:Nat}(I:Inv X pins σ H s)(h1: -(2 ^ 62)≤lo)(h2:lo < 2 ^ 62)(h3: -(2 ^ 62)≤hi)(h4:hi < 2 ^ 62)
  (q:R (Ix lo (hi - lo).toNat) H):wpAny (model X.prog X.w) X.A (pyIter (.ref s.heap.objs.size)) (JQ X pins σ tg R) E {s with heap:=s.heap.push {cls:=.type "range",data:=.fields #[.int lo t,.int hi u,.int 1 v]},toks:=tk}:=by
 refine wpAny_pyIter_range (IsRange.new ..) (small_one h1 h2 h3 h4) ?_
 have I1:Inv X pins σ H {s with heap:=s.heap.push {cls:=.type "range",data:=.fields #[.int lo t,.int hi u,.int 1 v]},toks:=tk}:=I.kept fun b o e=>iB _ e
 refine⟨(s.heap.push {cls:=.type "range",data:=.fields #[.int lo t,.int hi u,.int 1 v]}).objs.size,[(s.heap.push {cls:=.type "range",data:=.fields #[.int lo t,.int hi u,.int 1 v]}).objs.size],_,_,H,rfl,
  I1.kept (t':=tk) fun b o e=>iB _ e,wO _ lo (hi - lo).toNat,?_,fun b hb=>?_,q⟩
 ·have e1:lo+((0:Nat):Int)*1=lo:=by simp
  have e2:(((hi - lo).toNat:Nat):Int) - ((0:Nat):Int)=Builtin.Range.rangeSize lo hi 1:=by rw[rangeSize_one];split <;> omega
  show IsRangeIter _ _ (lo+((0:Nat):Int)*1) ((((hi - lo).toNat:Nat):Int) - ((0:Nat):Int)) 1
  rw[e1,e2]
  exact l_ _ rfl
 ·have e:b=(s.heap.push {cls:=.type "range",data:=.fields #[.int lo t,.int hi u,.int 1 v]}).objs.size:=by simpa using hb
  subst e
  exact I1.fpOk (gi _) (I1.hok.fresh (gi _))
def Iy(ta:TA):TI:=fun σ H R=>ta σ H fun vs H1=>∃j:Int,vs=[.int j]∧ -(2 ^ 62)≤j∧j < 2 ^ 62∧R (Ix 0 j.toNat) H1
def Iz(ta:TA):TI:=fun σ H R=>ta σ H fun vs H1=>∃i j:Int,vs=[.int i,.int j]∧(-(2 ^ 62)≤i∧i < 2 ^ 62∧ -(2 ^ 62)≤j∧j < 2 ^ 62)∧R (Ix i (j - i).toNat) H1
theorem zL {a:Expr} {ta:TA} {p pos:Pos} (hg:Gl X "range") (hm:X.mg "range"=none) (ha:PA X [a] ta) (hs:starEach [a] X.env=[(false,eval a X.env)]:=by rfl):PI X tg (.Call (.Name "range" p) [a] [] pos) (Iy ta):=by
 intro pins s σ H R I h
 refine Call_ (jU I hg hm boot_range (PyProof.Rows.callWith_type1 (fc (ha pos pins s σ H _ I h) fun us s1 ⟨vs,H1,I1,r1,q1⟩=>?_) hs rfl))
 obtain⟨j,e,q1,q2,q⟩:=q1
 subst e
 cases r1 with
 |cons r rr=>
  cases rr
  obtain⟨t,rfl⟩:=r
  exact call_range_1 (uS I1 (by omega) (by omega) q1 q2 (by simpa using q))
theorem zM {a b:Expr} {ta:TA} {p pos:Pos} (hg:Gl X "range") (hm:X.mg "range"=none) (ha:PA X [a,b] ta) (hs:starEach [a,b] X.env=[(false,eval a X.env),(false,eval b X.env)]:=by rfl) (hs2:starEach [b] X.env=[(false,eval b X.env)]:=by rfl):
  PI X tg (.Call (.Name "range" p) [a,b] [] pos) (Iz ta):=by
 intro pins s σ H R I h
 refine Call_ (jU I hg hm boot_range (PyProof.Rows.callWith_type1 (fc (ha pos pins s σ H _ I h) fun us s1 ⟨vs,H1,I1,r1,q1⟩=>?_) (by rw[hs,hs2]) (by rw[hs2];rfl)))
 obtain⟨i,j,e,⟨q1,q2,q3,q4⟩,q⟩:=q1
 subst e
 cases r1 with
 |cons r rr=>
  cases rr with
  |cons r' rr=>
   cases rr
   obtain⟨t,rfl⟩:=r
   obtain⟨t',rfl⟩:=r'
   exact call_range_2 (uS I1 q1 q2 q3 q4 q)
def GL(wi:TI)(g:TG)(tb:TS):TS:=fun D σ H=>wi σ H fun J H1=>∃W:Nat→Nat→St→Hp→Prop,(∃m,W 0 m σ H1)∧∀i m σ H,W i m σ H→
 (J.stop i H∧D.nx σ H)∨(J.go i H∧∃N:St→Hp→Prop,(∀σ' H',N σ' H'→∃m',m' < m∧W (i+1) m' σ' H')∧∀x H',J.yld i H x H'→g x σ H' fun σ2 H2=>tb {D with nx:=N,ct:=N,bk:=D.nx} σ2 H2)
def pL(fp:List Addr)(h:Heap):List (Addr×Obj):=fp.filterMap fun b=>(h.get? b).map fun o=>(b,o)
theorem jV{fp:List Addr}{h:Heap}{b:Addr}{o:Obj}(hb:b∈fp)(e:h.get? b=some o):(b,o)∈pL fp h:=List.mem_filterMap.mpr ⟨b,hb,by rw[e];rfl⟩
theorem zN{fp:List Addr}{h:Heap}{p:Addr×Obj}(hp:p∈pL fp h):p.1∈fp∧h.get? p.1=some p.2:=by
 obtain⟨b,hb,e⟩:=List.mem_filterMap.mp hp
 cases q:h.get? b with
 |none=>rw[q]at e;cases e
 |some o=>
  rw[q]at e
  have e':(b,o)=p:=Option.some.inj e
  subst e'
  exact⟨hb,q⟩
theorem Inv.pinned{pins:List (Addr×Obj)}{σ:St}{H:Hp}{s:Shared}{fp:List Addr}(I:Inv X pins σ H s)(hf:∀b∈fp,uR X pins H b)(ho:∀b∈fp,∃o,s.heap.get? b=some o∧∀v,o.data≠ .cell v):Inv X (pins++pL fp s.heap) σ H s:=
 I.pins_of fun p hp=>(Zaj.mp hp).elim (fun z=>I.pin p (rn _ z)) fun z=>by
  obtain⟨hb,e⟩:=zN z
  obtain⟨f0,f1,f2,_⟩:=hf p.1 hb
  obtain⟨o,e',d⟩:=ho p.1 hb
  rw[e]at e';cases e'
  exact⟨e,f0,f1,f2,d⟩
theorem Inv.unpinned{pins pl:List (Addr×Obj)}{σ:St}{H:Hp}{s:Shared}(I:Inv X (pins++pl) σ H s):Inv X pins σ H s:=I.pins_of fun p hp=>I.pin p (rn _ (List.mem_append_left _ hp))
theorem BD{iter:Expr}{body:List Stmt}{wi:TI}{g:TG}{tb:TS}{pos:Pos}(hp:PassesOwn (model X.prog X.w) X.A X.env X.xe)(hc:X.calm=true)(hi:PI X tg iter wi)(hg:PG X tg g)(hb:PSs X body tb)
  (hs:∀x,foldedSetIterable iter X.env x=pure x:=by intro _;rfl):PS X (.For tg iter body [] pos) (GL wi g tb):=by
 intro pins s σ H D I h
 refine wpAny_For (fc (hi pins s σ H _ I h) fun v s1 h1=>fc h1 fun itv s2 h2=>?_) hs
 obtain⟨it,fp,tn,J,H2,e,I2,T,st2,f2,W,⟨m0,w0⟩,turn⟩:=h2
 subst e
 -- what stays true of the iterator's objects through the zH
 have stat:∀{H':Hp},(∀b∈fp,H' b=none)→∀b∈fp,uR X pins H' b:=fun hn b hb=>⟨hn b hb,(f2 b hb).2⟩
 refine codeAny_forLoop_any (fun n s'=>∃i σ' H',Inv X pins σ' H' s'∧tn i s'.heap∧(∀b∈fp,H' b=none)∧W i n σ' H') ?_ m0 ⟨0,σ,H2,I2,st2,fun b hb=>(f2 b hb).1,w0⟩
 rintro n s3 ⟨i,σ3,H3,I3,st3,fr3,w3⟩
 rcases turn i n σ3 H3 w3 with⟨stop,qn⟩ |⟨go,N,hN,step⟩
 ·refine wpAny_passesOwn hp (fc (T.done X rfl rfl rfl hc i pins s3 σ3 H3 X.xe I3 (stat fr3) st3 stop) fun r s4 ⟨hr,I4⟩=>?_)
  subst hr
  exact wpAny_execs_nil ⟨σ3,H3,I4,qn⟩
 ·refine wpAny_passesOwn hp (fc (T.item X rfl rfl rfl hc i pins s3 σ3 H3 X.xe I3 (stat fr3) st3 go) fun r s4 ⟨u,hr,h4⟩=>?_)
  subst hr
  refine wpAny_passesOwn hp (fc h4 fun _ s5 ⟨x,H5,I5,r5,y5,st5,fr5⟩=>?_)
  have I5':=I5.pinned (stat fr5) (T.obj _ _ st5)
  refine wpAny_passesOwn hp (fc (hg _ s5 σ3 H5 x u _ I5' r5 (step x H5 y5)) fun _ s6 ⟨σ6,H6,I6,q6⟩=>?_)
  refine wpAny_passesOwn hp (fc (hb _ s6 σ6 H6 _ I6 q6) fun f s7 q7=>?_)
  have again:∀{σ7:St} {H7:Hp},Inv X (pins++pL fp s5.heap) σ7 H7 s7→N σ7 H7→∃m,m < n∧∃i σ' H',Inv X pins σ' H' s7∧tn i s7.heap∧(∀b∈fp,H' b=none)∧W i m σ' H':=fun {σ7 H7} I7 n7=>by
   obtain⟨m',hm,w7⟩:=hN σ7 H7 n7
   refine⟨m',hm,i+1,σ7,H7,I7.unpinned,T.keep _ _ _ st5 fun b hb o e=>(I7.pin (b,o) (rn _ (rn _ (jV hb e)))).1,fun b hb=>?_,w7⟩
   obtain⟨o,e,d⟩:=T.obj _ _ st5 b hb
   exact(I7.pin (b,o) (rn _ (rn _ (jV hb e)))).2.1
  cases f with
  |next=>obtain⟨σ7,H7,I7,n7⟩:=q7;exact again I7 n7
  |cont=>obtain⟨σ7,H7,I7,n7⟩:=q7;exact again I7 n7
  |brk=>obtain⟨σ7,H7,I7,q7⟩:=q7;exact⟨σ7,H7,I7.unpinned,q7⟩
  |ret v=>obtain⟨x7,σ7,H7,I7,r7,q7⟩:=q7;exact⟨x7,σ7,H7,I7.unpinned,r7,q7⟩
end
theorem BE{K:Frag}{a:Addr}{xs:List V}{g:TG}{tb:TS}{D:Ends}{σ:St}{H:Hp}(Pv:Nat→St→Hp→Prop)(h0:Pv 0 σ H)(hl:∀i σ H,i≤xs.length→Pv i σ H→SqL K H a xs)
  (hs:∀i x σ H,xs[i]? =some x→Pv i σ H→g x σ H fun σ2 H2=>tb {D with nx:=Pv (i+1),ct:=Pv (i+1),bk:=D.nx} σ2 H2) (hd:∀σ H,Pv xs.length σ H→D.nx σ H):
  ∃W:Nat→Nat→St→Hp→Prop,(∃m,W 0 m σ H)∧∀i m σ H,W i m σ H→
   ((Ii K a).stop i H∧D.nx σ H)∨((Ii K a).go i H∧∃N:St→Hp→Prop,(∀σ' H',N σ' H'→∃m',m' < m∧W (i+1) m' σ' H')∧∀x H',(Ii K a).yld i H x H'→g x σ H' fun σ2 H2=>tb {D with nx:=N,ct:=N,bk:=D.nx} σ2 H2):=by
 refine⟨fun i m σ H=>m=xs.length - i∧i≤xs.length∧Pv i σ H,⟨xs.length,by simp,Nat.zero_le _,h0⟩,?_⟩
 rintro i m σ H ⟨rfl,hi,p⟩
 have q:=hl i σ H hi p
 by_cases hlt:i < xs.length
 ·refine .inr ⟨⟨xs,xs[i],q,by simp[hlt]⟩,Pv (i+1),fun σ' H' p'=>⟨xs.length - (i+1),by omega,rfl,hlt,p'⟩,fun x H' y=>?_⟩
  obtain⟨e,y⟩:=y
  subst e
  exact hs i x σ _ (y xs q) p
 ·have e:i=xs.length:=by omega
  subst e
  exact .inl ⟨⟨xs,q,gi _⟩,hd σ H p⟩
end L2
namespace L2
open PySem PySem.Spec PyProof.Rows
abbrev R2:=V→V→Hp→VK→Prop
def OpR(X:Cx)(f:Value→Value→Sem Value)(r:R2):Prop:=
 ∀(pins:List (Addr×Obj)) (s:Shared) (σ:St) (H:Hp) (x y:V) (v u:Value) (Q:VK),Inv X pins σ H s→RelV x v→RelV y u→r x y H Q→
  wpAny (model X.prog X.w) X.A (f v u) (EP X pins σ Q) X.xe s
def JT(X:Cx)(f:Value→Sem Value)(r:V→Hp→VK→Prop):Prop:=
 ∀(pins:List (Addr×Obj)) (s:Shared) (σ:St) (H:Hp) (x:V) (v:Value) (Q:VK),Inv X pins σ H s→RelV x v→r x H Q→
  wpAny (model X.prog X.w) X.A (f v) (EP X pins σ Q) X.xe s
def CallR(X:Cx)(f:Value)(r:List V→Hp→VK→Prop):Prop:=
 ∀(pins:List (Addr×Obj)) (s:Shared) (σ:St) (H:Hp) (xs:List V) (us:List Value) (Q:VK),Inv X pins σ H s→Vals xs us→r xs H Q→
  wpAny (model X.prog X.w) X.A (call f us) (EP X pins σ Q) X.xe s
def JU(X:Cx)(r:V→Hp→(Bool→Hp→Prop)→Prop):Prop:=
 ∀(pins:List (Addr×Obj)) (s:Shared) (σ:St) (H:Hp) (x:V) (v:Value) (Q:Bool→Hp→Prop),Inv X pins σ H s→RelV x v→r x H Q→
  wpAny (model X.prog X.w) X.A (truthy v) (TP X pins σ Q) X.xe s
def uT(r:R2)(ta tb:TE):TE:=fun σ H Q=>ta σ H fun x H1=>tb σ H1 fun y H2=>r x y H2 Q
def Kv(r:V→Hp→VK→Prop)(ta:TE):TE:=fun σ H Q=>ta σ H fun x H1=>r x H1 Q
def rI(C:Int→Int→Prop)(g:Int→Int→V):R2:=fun x y H Q=>∃i j,x=.int i∧y=.int j∧C i j∧Q (g i j) H
def Ed(g:Int→Int→V):R2:=fun x y H Q=>∃i j,x=.int i∧y=.int j∧Q (g i j) H
def rU(g:Int→V):V→Hp→VK→Prop:=fun x H Q=>∃i,x=.int i∧Q (g i) H
section
variable {X:Cx} {a b c:Expr} {ta tb tc:TE} {pos:Pos}
theorem GM(ha:PE X a ta)(hb:PE X b tb){pins:List (Addr×Obj)}{s:Shared}{σ:St}{H:Hp}{R:V→V→Hp→Prop}(I:Inv X pins σ H s)
  (h:ta σ H fun x H1=>tb σ H1 fun y H2=>R x y H2) {Q:Value→Shared→Prop} {f:Value→Value→Sem Value}
  (hf:∀v u s2 x y H2,Inv X pins σ H2 s2→RelV x v→RelV y u→R x y H2→wpAny (model X.prog X.w) X.A (f v u) Q X.xe s2):
  wpAny (model X.prog X.w) X.A (eval a X.env) (fun v s₁=>wpAny (model X.prog X.w) X.A (eval b X.env) (fun u s₂=>wpAny (model X.prog X.w) X.A (f v u) Q X.xe s₂) X.xe s₁) X.xe s:=by
 refine fc (ha pins s σ H _ I h) fun v s1 ⟨x,H1,I1,r1,q1⟩=>?_
 refine fc (hb pins s1 σ H1 _ I1 q1) fun u s2 ⟨y,H2,I2,r2,q2⟩=>?_
 exact hf v u s2 x y H2 I2 r1 r2 q2
theorem yg{op:Operator}{r:R2}(ho:OpR X (binaryOp op) r)(ha:PE X a ta)(hb:PE X b tb):PE X (.BinOp a op b pos) (uT r ta tb):=by
 intro pins s σ H Q I h
 exact wpAny_BinOp (GM ha hb I h fun v u s2 x y H2 I2 rx ry q=>ho pins s2 σ H2 x y v u Q I2 rx ry q)
theorem IB{op:UnaryOp}{r:V→Hp→VK→Prop}(ho:JT X (unaryOp op) r)(ha:PE X a ta):PE X (.UnaryOp op a pos) (Kv r ta):=by
 intro pins s σ H Q I h
 exact UnaryOp_ (fc (ha pins s σ H _ I h) fun v s1 ⟨x,H1,I1,r1,q1⟩=>ho pins s1 σ H1 x v Q I1 r1 q1)
theorem JB{f:Value→Value→Sem Value}{C:Int→Int→Prop}{g:Int→Int→Int}
  (rule:∀(i j:Int) (t u:Tok) (s:Shared) (Q:Value→Shared→Prop) (E:Value→Shared→Prop),C i j→Q (.int (g i j) s.toks) {s with toks:=s.toks+1}→wpAny (model X.prog X.w) X.A (f (.int i t) (.int j u)) Q E s):
  OpR X f (rI C fun i j=>.int (g i j)):=by
 intro pins s σ H x y v u Q I rx ry h
 obtain⟨i,j,rfl,rfl,hc,q⟩:=h
 obtain⟨t,rfl⟩:=rx
 obtain⟨t',rfl⟩:=ry
 exact rule i j t t' s _ _ hc ⟨.int (g i j),H,I.tok _,⟨_,rfl⟩,q⟩
theorem GN{f:Value→Value→Sem Value}{g:Int→Int→Int}
  (rule:∀(i j:Int) (t u:Tok) (s:Shared) (Q:Value→Shared→Prop) (E:Value→Shared→Prop),Q (.int (g i j) s.toks) {s with toks:=s.toks+1}→wpAny (model X.prog X.w) X.A (f (.int i t) (.int j u)) Q E s):
  OpR X f (Ed fun i j=>.int (g i j)):=by
 intro pins s σ H x y v u Q I rx ry h
 obtain⟨i,j,rfl,rfl,q⟩:=h
 obtain⟨t,rfl⟩:=rx
 obtain⟨t',rfl⟩:=ry
 exact rule i j t t' s _ _ ⟨.int (g i j),H,I.tok _,⟨_,rfl⟩,q⟩
theorem Ee{f:Value→Value→Sem Value}{g:Int→Int→Bool}
  (rule:∀(i j:Int) (t u:Tok) (s:Shared) (Q:Value→Shared→Prop) (E:Value→Shared→Prop),Q (.bool (g i j)) s→wpAny (model X.prog X.w) X.A (f (.int i t) (.int j u)) Q E s):
  OpR X f (Ed fun i j=>.bl (g i j)):=by
 intro pins s σ H x y v u Q I rx ry h
 obtain⟨i,j,rfl,rfl,q⟩:=h
 obtain⟨t,rfl⟩:=rx
 obtain⟨t',rfl⟩:=ry
 exact rule i j t t' s _ _ ⟨.bl (g i j),H,I,rfl,q⟩
def IC(i j:Int):Prop:=0≤j∧j≤1000000∧i.natAbs < 2 ^ 64
def CMul(i j:Int):Prop:=(-(2 ^ 64) < i∧i < 2 ^ 64)∨(-(2 ^ 64) < j∧j < 2 ^ 64)
theorem CMul.ok{i j:Int}(h:CMul i j):IntMulOk i j:=by
 rcases h with⟨h1,h2⟩ |⟨h1,h2⟩
 ·exact .of_left (intBits_le_64 h1 h2)
 ·exact .of_right (intBits_le_64 h1 h2)
theorem GO:OpR X (binaryOp .Add) (Ed fun i j=>.int (i+j)):=GN fun _ _ _ _ _ _ _ q=>add_int q
theorem GP:OpR X (binaryOp .Sub) (Ed fun i j=>.int (i - j)):=GN fun _ _ _ _ _ _ _ q=>sub_int q
theorem GQ:OpR X (binaryOp .Mod) (rI (fun _ j=>0 < j) fun i j=>.int (i % j)):=JB fun i j _ _ _ _ _ hc q=>by
 have h1:(0:Int) < j:=hc
 exact mod_int' (by omega) (by rw[Int.fmod_eq_emod_of_nonneg i (by omega)];exact q)
theorem GR:OpR X (binaryOp .Pow) (rI IC fun i j=>.int (i ^ j.toNat)):=JB fun _ _ _ _ _ _ _ hc q=>pow_int_small hc.1 hc.2.1 hc.2.2 q
theorem GS:OpR X (binaryOp .BitAnd) (Ed fun i j=>.int (Builtin.bitAnd i j)):=GN fun _ _ _ _ _ _ _ q=>and_int q
theorem Kw{f:Value→Sem Value}{g:Int→Int}
  (rule:∀(i:Int) (t:Tok) (s:Shared) (Q:Value→Shared→Prop) (E:Value→Shared→Prop),Q (.int (g i) s.toks) {s with toks:=s.toks+1}→wpAny (model X.prog X.w) X.A (f (.int i t)) Q E s):
  JT X f (rU fun i=>.int (g i)):=by
 intro pins s σ H x v Q I rx h
 obtain⟨i,rfl,q⟩:=h
 obtain⟨t,rfl⟩:=rx
 exact rule i t s _ _ ⟨.int (g i),H,I.tok _,⟨_,rfl⟩,q⟩
theorem GT:JT X (unaryOp .USub) (rU fun i=>.int (-i)):=Kw fun _ _ _ _ _ q=>neg_int q
end
def GU:V→V→Bool
 |.non,.non=>true |.non,.int _=>true |.int _,.non=>true |.non,.bl _=>true |.bl _,.non=>true |.non,.str _=>true |.str _,.non=>true
 |.int _,.int _=>true |.bl _,.bl _=>true |.str _,.str _=>true |.byt _,.byt _=>true
 |.int _,.str _=>true |.str _,.int _=>true |.bl _,.str _=>true |.str _,.bl _=>true
 |_,_=>false
def Kp:R2:=fun x y H Q=>GU x y=true∧Q (.bl (decide (x=y))) H
def Kq:R2:=fun x y H Q=>GU x y=true∧Q (.bl (!decide (x=y))) H
theorem yh{i j:Int}:decide (V.int i=V.int j)=(i == j):=by
 rw[Bool.eq_iff_iff]
 simp
theorem BF{i j:Bool}:decide (V.bl i=V.bl j)=(i == j):=by
 rw[Bool.eq_iff_iff]
 simp
theorem yi{i j:Str}:decide (V.str i=V.str j)=(i == j):=by
 rw[Bool.eq_iff_iff]
 simp
theorem yj{i j:Array UInt8}:decide (V.byt i=V.byt j)=(i.toList == j.toList):=by
 rw[Bool.eq_iff_iff]
 cases i
 cases j
 simp
section
variable {X:Cx} {a b c:Expr} {ta tb tc:TE} {pos:Pos}
theorem a9{pins:List (Addr×Obj)}{σ:St}{H:Hp}{s:Shared}{Q:VK}{k k':Bool}(I:Inv X pins σ H s)(q:Q (.bl k) H)(e:k=k'):EP X pins σ Q (.bool k') s:=by
 subst e
 exact⟨.bl k,H,I,rfl,q⟩
theorem FU:OpR X (compareOp .Eq) Kp:=by
 intro pins s σ H x y v u Q I rx ry h
 obtain⟨hs,q⟩:=h
 cases x with
 |non=>
  cases rx
  cases y with
  |non=>cases ry;exact PySem.EqNone.eq_none_none (a9 I q (by simp))
  |bl j=>cases ry;exact PySem.EqNone.eq_none_bool (a9 I q (by simp))
  |int j=>obtain⟨t',rfl⟩:=ry;exact PySem.EqNone.eq_none_int (a9 I q (by simp))
  |str j=>obtain⟨t',rfl⟩:=ry;exact PySem.EqNone.eq_none_str (a9 I q (by simp))
  |_=>exact absurd (show false=true from hs) Zb
 |bl i=>
  cases rx
  cases y with
  |non=>cases ry;exact PySem.EqNone.eq_bool_none (a9 I q (by simp))
  |bl j=>cases ry;exact eq_bool (a9 I q BF)
  |str j=>obtain⟨t',rfl⟩:=ry;exact PySem.EqMixed.eq_bool_str (a9 I q (by simp))
  |_=>exact absurd (show false=true from hs) Zb
 |int i=>
  obtain⟨t,rfl⟩:=rx
  cases y with
  |non=>cases ry;exact PySem.EqNone.eq_int_none (a9 I q (by simp))
  |int j=>obtain⟨t',rfl⟩:=ry;exact eq_int (a9 I q yh)
  |str j=>obtain⟨t',rfl⟩:=ry;exact PySem.EqMixed.eq_int_str (a9 I q (by simp))
  |_=>exact absurd (show false=true from hs) Zb
 |str i=>
  obtain⟨t,rfl⟩:=rx
  cases y with
  |non=>cases ry;exact PySem.EqNone.eq_str_none (a9 I q (by simp))
  |bl j=>cases ry;exact PySem.EqMixed.eq_str_bool (a9 I q (by simp))
  |int j=>obtain⟨t',rfl⟩:=ry;exact PySem.EqMixed.eq_str_int (a9 I q (by simp))
  |str j=>obtain⟨t',rfl⟩:=ry;exact eq_str (a9 I q yi)
  |_=>exact absurd (show false=true from hs) Zb
 |byt i=>
  obtain⟨t,rfl⟩:=rx
  cases y with
  |byt j=>obtain⟨t',rfl⟩:=ry;exact PySem.W.eq_bytes (a9 I q yj)
  |_=>exact absurd (show false=true from hs) Zb
 |_=>cases y <;> exact absurd (show false=true from hs) Zb
theorem ID:OpR X (compareOp .NotEq) Kq:=by
 intro pins s σ H x y v u Q I rx ry h
 obtain⟨hs,q⟩:=h
 cases x with
 |non=>
  cases rx
  cases y with
  |non=>cases ry;exact PySem.EqNone.ne_none_none (a9 I q (by simp))
  |bl j=>cases ry;exact PySem.EqNone.ne_none_bool (a9 I q (by simp))
  |int j=>obtain⟨t',rfl⟩:=ry;exact PySem.EqNone.ne_none_int (a9 I q (by simp))
  |str j=>obtain⟨t',rfl⟩:=ry;exact PySem.EqNone.ne_none_str (a9 I q (by simp))
  |_=>exact absurd (show false=true from hs) Zb
 |bl i=>
  cases rx
  cases y with
  |non=>cases ry;exact PySem.EqNone.ne_bool_none (a9 I q (by simp))
  |bl j=>cases ry;exact ne_bool (a9 I q (congrArg not BF))
  |str j=>obtain⟨t',rfl⟩:=ry;exact PySem.EqMixed.ne_bool_str (a9 I q (by simp))
  |_=>exact absurd (show false=true from hs) Zb
 |int i=>
  obtain⟨t,rfl⟩:=rx
  cases y with
  |non=>cases ry;exact PySem.EqNone.ne_int_none (a9 I q (by simp))
  |int j=>obtain⟨t',rfl⟩:=ry;exact ne_int (a9 I q (congrArg not yh))
  |str j=>obtain⟨t',rfl⟩:=ry;exact PySem.EqMixed.ne_int_str (a9 I q (by simp))
  |_=>exact absurd (show false=true from hs) Zb
 |str i=>
  obtain⟨t,rfl⟩:=rx
  cases y with
  |non=>cases ry;exact PySem.EqNone.ne_str_none (a9 I q (by simp))
  |bl j=>cases ry;exact PySem.EqMixed.ne_str_bool (a9 I q (by simp))
  |int j=>obtain⟨t',rfl⟩:=ry;exact PySem.EqMixed.ne_str_int (a9 I q (by simp))
  |str j=>obtain⟨t',rfl⟩:=ry;exact ne_str (a9 I q (congrArg not yi))
  |_=>exact absurd (show false=true from hs) Zb
 |byt i=>
  obtain⟨t,rfl⟩:=rx
  cases y with
  |byt j=>obtain⟨t',rfl⟩:=ry;exact PySem.W.ne_bytes (a9 I q (congrArg not yj))
  |_=>exact absurd (show false=true from hs) Zb
 |_=>cases y <;> exact absurd (show false=true from hs) Zb
theorem IE:OpR X (compareOp .Lt) (Ed fun i j=>.bl (decide (i < j))):=Ee fun _ _ _ _ _ _ _ q=>lt_int q
theorem IF:OpR X (compareOp .LtE) (Ed fun i j=>.bl (decide (i≤j))):=Ee fun _ _ _ _ _ _ _ q=>le_int q
theorem IG:OpR X (compareOp .Gt) (Ed fun i j=>.bl (decide (j < i))):=Ee fun _ _ _ _ _ _ _ q=>gt_int q
theorem IH:OpR X (compareOp .GtE) (Ed fun i j=>.bl (decide (j≤i))):=Ee fun _ _ _ _ _ _ _ q=>ge_int q
theorem zO:OpR X (compareOp .Lt) (fun x y H Q=>∃i j,x=.str i∧y=.str j∧Q (.bl (decide (i.cps.toList < j.cps.toList))) H):=by
 intro pins s σ H x y v u Q I rx ry h
 obtain⟨i,j,rfl,rfl,q⟩:=h
 obtain⟨t,rfl⟩:=rx
 obtain⟨t',rfl⟩:=ry
 exact lt_str (a9 I q rfl)
theorem zP:OpR X (compareOp .In) (fun x y H Q=>∃i j,x=.str i∧y=.str j∧Q (.bl (!(Builtin.Str.occurrences j i 0 j.length 1).isEmpty)) H):=by
 intro pins s σ H x y v u Q I rx ry h
 obtain⟨i,j,rfl,rfl,q⟩:=h
 obtain⟨t,rfl⟩:=rx
 obtain⟨t',rfl⟩:=ry
 exact in_str (a9 I q rfl)
theorem OpR.or{f:Value→Value→Sem Value}{r r':R2}(h:OpR X f r)(h':OpR X f r'):OpR X f (fun x y H Q=>r x y H Q∨r' x y H Q):=by
 intro pins s σ H x y v u Q I rx ry q
 rcases q with q |q
 ·exact h pins s σ H x y v u Q I rx ry q
 ·exact h' pins s σ H x y v u Q I rx ry q
theorem sW(b:Expr){op:CmpOp}(h:op≠ .In:=by decide)(h2:op≠ .NotIn:=by decide):behindInMarks op b=false:=by
 have e1:(op == CmpOp.In)=false:=by cases op <;> first |rfl |exact absurd rfl h
 have e2:(op == CmpOp.NotIn)=false:=by cases op <;> first |rfl |exact absurd rfl h2
 cases b <;> simp[behindInMarks,e1,e2]
theorem Ef{op:CmpOp}{r:R2}(ho:OpR X (compareOp op) r)(ha:PE X a ta)(hb:PE X b tb)(hm:behindInMarks op b=false):PE X (.Compare a [op] [b] pos) (uT r ta tb):=by
 intro pins s σ H Q I h
 exact wpAny_Compare1 (GM ha hb I h fun v u s2 x y H2 I2 rx ry q=>ho pins s2 σ H2 x y v u Q I2 rx ry q) hm
def FV(t:TE):TT:=fun σ H Q=>t σ H fun x H'=>∃k,x=.bl k∧Q k H'
theorem yk{op:CmpOp}{r:R2}(ho:OpR X (compareOp op) r)(ha:PE X a ta)(hb:PE X b tb)(hm:behindInMarks op b=false):PT X (.Compare a [op] [b] pos) (FV (uT r ta tb)):=by
 intro pins s σ H Q I h
 refine wpAny_isTrue_Compare1 (fc (ha pins s σ H _ I h) fun v s1 ⟨x,H1,I1,r1,q1⟩=>fc (hb pins s1 σ H1 _ I1 q1) fun u s2 ⟨y,H2,I2,r2,q2⟩=>
  fc (ho pins s2 σ H2 x y v u _ I2 r1 r2 q2) fun c s3 ⟨z,H3,I3,r3,k,e,q3⟩=>?_) hm
 subst e
 cases r3
 exact wpAny_truthy_bool ⟨H3,I3,q3⟩
def wP(r r':R2)(ta tb tc:TE):TE:=fun σ H Q=>ta σ H fun x H1=>tb σ H1 fun y H2=>r x y H2 fun z H3=>∃k,z=.bl k∧
 (if k=true then tc σ H3 fun w' H4=>r' y w' H4 Q else Q (.bl false) H3)
theorem BG{op op':CmpOp}{r r':R2}(ho:OpR X (compareOp op) r)(ho':OpR X (compareOp op') r')(ha:PE X a ta)(hb:PE X b tb)(hc:PE X c tc)
  (hm:lastMarks [op,op'] [b,c]=false:=by with_unfolding_all rfl):PE X (.Compare a [op,op'] [b,c] pos) (wP r r' ta tb tc):=by
 intro pins s σ H Q I h
 refine Compare_chain (fc (ha pins s σ H _ I h) fun v s1 ⟨x,H1,I1,r1,q1⟩=>chain_link (fc (hb pins s1 σ H1 _ I1 q1) fun u s2 ⟨y,H2,I2,r2,q2⟩=>
  fc (ho pins s2 σ H2 x y v u _ I2 r1 r2 q2) fun d s3 ⟨z,H3,I3,r3,k,e,q3⟩=>?_)) hm
 subst e
 cases r3
 refine wpAny_truthy_bool ?_
 cases k with
 |false=>exact ite_ff ⟨.bl false,H3,I3,rfl,q3⟩
 |true=>exact ite_tt (chain_last (fc (hc pins s3 σ H3 _ I3 q3) fun w' s4 ⟨z',H4,I4,r4,q4⟩=>ho' pins s4 σ H4 y z' u w' Q I4 r2 r4 q4))
theorem BH{op op':CmpOp}{r r':R2}(ho:OpR X (compareOp op) r)(ho':OpR X (compareOp op') r')(ha:PE X a ta)(hb:PE X b tb)(hc:PE X c tc)
  (hm:lastMarks [op,op'] [b,c]=false:=by with_unfolding_all rfl):PT X (.Compare a [op,op'] [b,c] pos) (FV (wP r r' ta tb tc)):=by
 intro pins s σ H Q I h
 refine isTrue_chain (fc (ha pins s σ H _ I h) fun v s1 ⟨x,H1,I1,r1,q1⟩=>test_link (fc (hb pins s1 σ H1 _ I1 q1) fun u s2 ⟨y,H2,I2,r2,q2⟩=>
  fc (ho pins s2 σ H2 x y v u _ I2 r1 r2 q2) fun d s3 ⟨z,H3,I3,r3,k,e,q3⟩=>?_)) hm
 subst e
 cases r3
 refine wpAny_truthy_bool ?_
 cases k with
 |false=>
  obtain⟨k',e',q'⟩:=q3
  cases e'
  exact ite_ff ⟨H3,I3,q'⟩
 |true=>
  refine ite_tt (test_last (fc (hc pins s3 σ H3 _ I3 q3) fun w' s4 ⟨z',H4,I4,r4,q4⟩=>fc (ho' pins s4 σ H4 y z' u w' _ I4 r2 r4 q4) fun d' s5 ⟨z2,H5,I5,r5,k2,e2,q5⟩=>?_))
  subst e2
  cases r5
  exact wpAny_truthy_bool ⟨H5,I5,q5⟩
def BI(K:Frag)(x:V)(H:Hp)(k:Bool):Prop:=
 match x with
 |.non=>k=false
 |.bl b=>k=b
 |.int i=>k=(i != 0)
 |.str y=>y.length≤sizeLine∧k=((y.length:Int) != 0)
 |.byt y=>y.size≤sizeLine∧k=((y.size:Int) != 0)
 |.ref p=>(∃xs,SqL K H p xs∧k= !xs.isEmpty)∨(∃xs,SqT K H p xs∧k= !xs.isEmpty)∨∃kvs,H p=some (.dK kvs)∧k= !kvs.isEmpty
 |_=>False
theorem wQ{κ:Type}{kvs:List (κ×V)}{vs:List (κ×Value)}(r:KV kvs vs):(!vs.isEmpty)= !kvs.isEmpty:=by
 cases r <;> rfl
theorem pM{xs:List V}{its:List Value}(r:Vals xs its):(!its.toArray.isEmpty)= !xs.isEmpty:=by
 cases r <;> simp
theorem md:(sizeLine:Nat) < 2 ^ 63:=by rw[sizeLine_eq];decide
theorem GV:JU X (fun x H Q=>∃k,BI X.K x H k∧Q k H):=by
 intro pins s σ H x v Q I rx h
 obtain⟨k,e,q⟩:=h
 have hl:=md
 have hs:sizeLine=16777216:=sizeLine_eq
 cases x with
 |non=>
  cases rx
  have e':k=false:=e
  subst e'
  exact truthy_none ⟨H,I,q⟩
 |bl b=>
  cases rx
  have e':k=b:=e
  subst e'
  exact wpAny_truthy_bool ⟨H,I,q⟩
 |int i=>
  obtain⟨t,rfl⟩:=rx
  have e':k=(i != 0):=e
  subst e'
  exact PySem.P.truthy_int ⟨H,I,q⟩
 |str y=>
  obtain⟨t,rfl⟩:=rx
  obtain⟨hy,e'⟩:y.length≤sizeLine∧k=((y.length:Int) != 0):=e
  subst e'
  exact PySem.P.truthy_str (by omega) ⟨H,I.tok _,q⟩
 |byt y=>
  obtain⟨t,rfl⟩:=rx
  obtain⟨hy,e'⟩:y.size≤sizeLine∧k=((y.size:Int) != 0):=e
  subst e'
  exact PySem.W.truthy_bytes (by omega) ⟨H,I.tok _,q⟩
 |ref p=>
  cases rx
  have e':(∃xs,SqL X.K H p xs∧k= !xs.isEmpty)∨(∃xs,SqT X.K H p xs∧k= !xs.isEmpty)∨∃kvs,H p=some (.dK kvs)∧k= !kvs.isEmpty:=e
  rcases e' with⟨xs,hx,e'⟩ |⟨xs,hx,e'⟩ |⟨kvs,hx,e'⟩
  ·subst e'
   obtain⟨its,r,pl,hz⟩:=I.list hx
   have hlen:=r.length
   exact wpAny_truthy_list pl.isList (by simp only[lS];omega) ⟨H,I.tok _,by rw[pM r];exact q⟩
  ·subst e'
   obtain⟨its,r,pl,hz⟩:=I.tuple hx
   have hlen:=r.length
   exact truthy_tuple pl (by simp only[lS];omega) ⟨H,I.tok _,by rw[pM r];exact q⟩
  ·subst e'
   obtain⟨hz,hS,vs,r,m⟩:kvs.length≤sizeLine∧(p == sysModules)=false∧∃vs,KV kvs vs∧s.heap.DictOf (fb X.prog X.w) p vs:=I.hok p _ hx
   have hlen:kvs.length=vs.length:=Paired.length r
   exact wpAny_truthy_dict hS m (by omega) ⟨H,I.tok _,by rw[wQ r];exact q⟩
 |_=>exact(show False from e).elim
theorem BJ(ha:PE X a ta)(he:∀whole,isTrue a X.env whole=(do let v ←whole;standAt a.pos;holding [v] (truthy v))):
  PT X a (fun σ H Q=>ta σ H fun x H'=>∃k,BI X.K x H' k∧Q k H'):=by
 intro pins s σ H Q I h
 exact isTrue_plain (fc (ha pins s σ H _ I h) fun v s1 ⟨x,H1,I1,r1,q1⟩=>GV pins s1 σ H1 x v Q I1 r1 q1) (he _)
theorem wR:OpR X (binaryOp .Add) (fun x y H Q=>∃i j,x=.str i∧y=.str j∧i.length+j.length≤sizeLine∧Q (.str (i++j)) H):=by
 intro pins s σ H x y v u Q I rx ry h
 obtain⟨i,j,rfl,rfl,hz,q⟩:=h
 obtain⟨t,rfl⟩:=rx
 obtain⟨t',rfl⟩:=ry
 exact add_str (fun t' tk=>⟨.str (i++j),H,I.tok _,⟨_,rfl⟩,q⟩) hz
theorem rC{x:V}{us:List Value}(r:Vals [x] us):∃u,us=[u]∧RelV x u:=by
 cases r with
 |cons r1 r2=>cases r2;exact⟨_,rfl,r1⟩
theorem BK:CallR X (.builtin "abs") (fun xs H Q=>∃i,xs=[.int i]∧Q (.int (if i < 0 then -i else i)) H):=by
 intro pins s σ H xs us Q I r h
 obtain⟨i,rfl,q⟩:=h
 obtain⟨u,rfl,t,rfl⟩:=rC r
 exact call_abs_int fun u tk=>⟨.int (if i < 0 then -i else i),H,I.tok _,⟨_,rfl⟩,q⟩
theorem zQ:CallR X (.type "int") (fun xs H Q=>(∃i,xs=[.int i]∧Q (.int i) H)∨∃k,xs=[.bl k]∧Q (.int (if k then 1 else 0)) H):=by
 intro pins s σ H xs us Q I r h
 rcases h with⟨i,rfl,q⟩ |⟨k,rfl,q⟩
 ·obtain⟨u,rfl,t,rfl⟩:=rC r
  exact call_int_int ⟨.int i,H,I,⟨_,rfl⟩,q⟩
 ·obtain⟨u,rfl,r1⟩:=rC r
  cases r1
  exact call_int_bool ⟨.int (if k then 1 else 0),H,I.tok _,⟨_,rfl⟩,q⟩
end
end L2
namespace L2
open PySem PySem.Spec PyProof.Rows
structure ObjM (h:Heap) (x dx C:Addr) (mA:Str→Option Value):Prop where
 obj:h.get? x=some (instObj C dx)
 ns:h.Ns1 dx mA
 ne:dx≠x
theorem zR{h:Heap}{dx:Addr}{mA:Str→Option Value}(n:h.Ns1 dx mA):∃od,h.get? dx=some od∧∀name,lookIn name od=some (mA name):=by
 obtain⟨o,es,ep,ho,hd,hk,_,hm⟩:=n
 refine⟨o,ho,fun name=>?_⟩
 have e:=hm name
 unfold nsFind findBy at e
 rw[←Array.find?_toList]at e
 unfold lookIn
 rw[hd]
 dsimp only
 split
 ·rename_i y q
  rw[q]at e
  exact congrArg some e
 ·rename_i q
  rw[q]at e
  have a:es.toList.any (·.refKey)=false:=by
   rw[List.any_eq_false]
   intro y hy
   obtain⟨z,t,hkey⟩:=hk y (Array.mem_toList_iff.mp hy)
   simp[DictEntry.refKey,hkey]
  have a':¬es.toList.any (·.refKey)=true:=by rw[a];exact Zb
  rw[if_neg a']
  exact congrArg some e
theorem ObjM.look{h:Heap}{x dx C:Addr}{mA:Str→Option Value}(I:ObjM h x dx C mA):∃od,PySem.W.InstAt h x (instObj C dx) C (some od)∧∀name,lookIn name od=some (mA name):=
 let ⟨od,ho,hl⟩:=zR I.ns
 ⟨od,⟨I.obj,rfl,rfl,ho⟩,hl⟩
theorem RelO.some_of{v:V}{o:Option Value}(r:RelO (some v) o):∃u,o=some u∧RelV v u:=by
 cases o with
 |none=>exact(show False from r).elim
 |some u=>exact⟨u,rfl,r⟩
section
variable {P:Program} {w:World} {H H':Hp} {h h':Heap} {a C dx:Addr} {fs fs':List (Str×V)}
theorem Eg(hok:HOk P w H h)(e:H a=some (.ins C dx fs)):∃mA,ObjM h a dx C mA∧(∀f,RelO (fs.lookup f) (mA f))∧PySem.Within mA (fs.map (·.1))∧fs.length≤1000∧H dx=some (.own a):=by
 obtain⟨d,z,ne,ob,mA,n,r,q⟩:=(show ObjOk P w H h a (.ins C dx fs)from hok a _ e)
 exact⟨mA,⟨ob,n,ne⟩,r,q,z,d⟩
end
structure Cls (K:Frag) (C:Addr):Prop where
 pg:PySem.W.plainGet K C Str.empty=true
 hd:PySem.W.hasDictIn K C=true
 po:PySem.W.plainOver K C=true
 sa:PySem.W.findIn K (.ref C) "__setattr__"=some (some (.builtin "object.__setattr__"))
theorem Cls.get{K:Frag}{C:Addr}(c:Cls K C)(f:Str):PySem.W.plainGet K C f=true:=c.pg
section
variable {X:Cx} {pins:List (Addr×Obj)} {σ:St} {H:Hp} {s:Shared} {A:Around} {E:Value→Shared→Prop} {Q:Value→Shared→Prop} {c:Value} {b:Bool}
inductive TyOf (K:Frag) (H:Hp):V→Value→Prop where
 |non:TyOf K H .non (.type "NoneType")
 |bl (x:Bool):TyOf K H (.bl x) (.type "bool")
 |int (i:Int):TyOf K H (.int i) (.type "int")
 |str (x:Str):TyOf K H (.str x) (.type "str")
 |flt (x:UInt64):TyOf K H (.flt x) (.type "float")
 |lst {a:Addr} {xs:List V} (e:H a=some (.lst xs)):TyOf K H (.ref a) (.type "list")
 |frz {a:Addr} {o:Obj} {xs:List V} (e:H a=some (.frz o (.lst xs))):TyOf K H (.ref a) (.type "list")
 |tup {a:Addr} {xs:List V} (e:H a=some (.tup xs)):TyOf K H (.ref a) (.type "tuple")
 |dK {a:Addr} {kvs:List (bM×V)} (e:H a=some (.dK kvs)):TyOf K H (.ref a) (.type "dict")
 |dT {a:Addr} {kvs:List (List bM×V)} (e:H a=some (.dT kvs)):TyOf K H (.ref a) (.type "dict")
 |ins {a C dx:Addr} {fs:List (Str×V)} (e:H a=some (.ins C dx fs)) (cl:Cls K C) (ha:PySem.W.findIn K (.ref C) "__class__"=some (some (.builtin "object.__class__")))
   (hn:PySem.W.specialIn K (.builtin "object.__class__") "__get__"=some (some (.builtin "getset_descriptor.__get__"))) (htk:PySem.W.takesIn K (.builtin "object.__class__")=some true)
   (hm:PySem.W.mroIn K C (.type "object")=some true):TyOf K H (.ref a) (.ref C)
theorem lh{x:V}{u t:Value}(I:Inv X pins σ H s)(rx:RelV x u)(ty:TyOf X.K H x t)(e:PySem.W.kitOne X.K t c=some b)(h:∀tk,Q (.bool b) {s with toks:=tk}):
  wpAny (model X.prog X.w) A (call (.builtin "isinstance") [u,c]) Q E s:=by
 cases ty with
 |non=>cases(show u=Value.none from rx);exact kia_one PySem.W.kitx_none I.kIn True.intro e (fun z=>nomatch z) h
 |bl y=>cases(show u=Value.bool y from rx);exact kia_one PySem.W.kitx_bool I.kIn True.intro e (fun z=>nomatch z) h
 |int i=>obtain⟨t,q⟩:=(show ∃t,u=Value.int i t from rx);cases q;exact kia_one PySem.W.kitx_int I.kIn True.intro e (fun z=>nomatch z) h
 |str y=>obtain⟨t,q⟩:=(show ∃t,u=Value.str y t from rx);cases q;exact kia_one PySem.W.kitx_str I.kIn True.intro e (fun z=>nomatch z) h
 |flt y=>obtain⟨t,q⟩:=(show ∃t,u=Value.float y t from rx);cases q;exact kia_one PySem.W.kitx_float I.kIn True.intro e (fun z=>nomatch z) h
 | @lst a xs ea=>
  cases(show u=Value.ref a from rx)
  obtain⟨_,_,n,_,h1⟩:=(show ObjOk X.prog X.w H s.heap a (.lst xs)from I.hok a _ ea)
  exact kia_one kitx_list I.kIn ⟨_,h1,rfl⟩ e (fun z=>nomatch z) h
 | @frz a ob xs ea=>
  cases(show u=Value.ref a from rx)
  obtain⟨_,_,_,n,_,h1⟩:=(show ObjOk X.prog X.w H s.heap a (.frz ob (.lst xs))from I.hok a _ ea)
  exact kia_one kitx_list I.kIn ⟨_,h1,rfl⟩ e (fun z=>nomatch z) h
 | @tup a xs ea=>
  cases(show u=Value.ref a from rx)
  obtain⟨_,_,_,p⟩:=(show ObjOk X.prog X.w H s.heap a (.tup xs)from I.hok a _ ea)
  obtain⟨o,h1,h2,_⟩:=p
  exact kia_one PySem.W.kitx_tuple I.kIn ⟨o,h1,h2⟩ e (fun z=>nomatch z) h
 | @dK a kvs ea=>
  cases(show u=Value.ref a from rx)
  obtain⟨_,_,vs,_,p⟩:=(show ObjOk X.prog X.w H s.heap a (.dK kvs)from I.hok a _ ea)
  obtain⟨o,es,ep,h1,h2,_⟩:=p
  exact kia_one kitx_dict I.kIn ⟨o,h1,h2.1⟩ e (fun z=>nomatch z) h
 | @dT a kvs ea=>
  cases(show u=Value.ref a from rx)
  obtain⟨_,_,xs,_,o,es,ep,h1,h2,_⟩:=(show ObjOk X.prog X.w H s.heap a (.dT kvs)from I.hok a _ ea)
  exact kia_one kitx_dict I.kIn ⟨o,h1,h2.1⟩ e (fun z=>nomatch z) h
 | @ins a C dx fs ea cl ha hn htk hm=>
  cases(show u=Value.ref a from rx)
  obtain⟨mA,O,_⟩:=Eg I.hok ea
  obtain⟨od,J,_⟩:=O.look
  exact kia_one (PySem.W.kitx_own (cl.get _) cl.hd ha hn htk hm) I.kIn J e (fun z=>nomatch z) h
end
end L2
namespace L2
open PySem PySem.Spec PyProof.Rows
structure Room (k:Nat) (A:Around):Prop where
 hd:A.handled=none
 dp:A.depth+3*k+5 < recursionLimit
 un:A.units+16*k+200 < cLine
theorem Room.mono{j k:Nat}{A:Around}(r:Room k A)(h:j≤k):Room j A:=⟨r.hd,by have:=r.dp;omega,by have:=r.un;omega⟩
theorem Room.deeper{k:Nat}{A:Around}(r:Room (k+1) A)(env:Env):Room k (A.deeper env):=
 ⟨r.hd,by have:=r.dp;show A.depth+1+3*k+5 < _;omega,by have:=r.un;show A.units+3+16*k+200 < _;omega⟩
theorem Room.in1{k:Nat}{A:Around}(r:Room (k+1) A):Room k A.in1:=
 ⟨r.hd,by have:=r.dp;show A.depth+3*k+5 < _;omega,by have:=r.un;show A.units+1+16*k+200 < _;omega⟩
theorem Room.depth{k:Nat}{A:Around}(r:Room k A):A.depth < recursionLimit:=by have:=r.dp;omega
theorem Room.units{k:Nat}{A:Around}(r:Room k A):A.units+64 < cLine:=by have:=r.un;omega
def JV:TA:=fun _ H Q=>Q [] H
def II(ta:TE)(tr:TA):TA:=fun σ H Q=>ta σ H fun x H1=>tr σ H1 fun xs H2=>Q (x::xs) H2
section
variable {X:Cx} {e:Expr} {es:List Expr} {te:TE} {t:TA} {pos:Pos}
theorem fY:PA X [] JV:=fun _ _ _ _ H Q I h=>Calls.spliced_nil ⟨[],H,I,.nil,h⟩
theorem cV(ha:PE X e te)(hr:PA X es t)(hs:starEach (e::es) X.env=(false,eval e X.env)::starEach es X.env:=by rfl):PA X (e::es) (II te t):=by
 intro pos pins s σ H Q I h
 rw[hs]
 show wpAny _ _ (spliced ((false,eval e X.env)::backTo pos (starEach es X.env))) _ _ s
 refine Calls.spliced_cons (fc (ha pins s σ H _ I h) fun u s1 ⟨x,H1,I1,r1,q1⟩=>?_)
 exact fc (hr pos pins s1 σ H1 _ I1 q1) fun us s2 ⟨xs,H2,I2,r2,q2⟩=>⟨x::xs,H2,I2,.cons r1 r2,q2⟩
def JW(t:TA):TE:=fun σ H Q=>t σ H fun xs H1=>xs.length≤sizeLine∧∀p,H1 p=none→Q (.ref p) (upd H1 p (.tup xs))
def JX(t:TA):TE:=fun σ H Q=>t σ H fun xs H1=>xs.length≤sizeLine∧∀p,H1 p=none→Q (.ref p) (upd H1 p (.lst xs))
theorem GW{x1}(h:PA X es t):PE X (.Tuple es x1 pos) (JW t):=by
 intro pins s σ H Q I hq
 refine wpAny_Tuple_spliced (fc (h pos pins s σ H _ I hq) fun us s1 ⟨xs,H1,I1,r,z,q⟩=>⟨by rw[←r.length];exact z,?_⟩)
 have hf:H1 s1.heap.objs.size=none:=I1.hok.fresh (gi _)
 refine⟨.ref s1.heap.objs.size,upd H1 s1.heap.objs.size (.tup xs),I1.laid (t':=s1.toks) (fun b u e=>iB _ e) (gi _) ?_,rfl,q _ hf⟩
 exact⟨z,us,r,⟨_,l_ _ rfl,rfl,_,rfl⟩⟩
theorem BL(h:PA X es t):PE X (.List es pos) (JX t):=by
 intro pins s σ H Q I hq
 refine wpAny_List_spliced (fc (h pos pins s σ H _ I hq) fun us s1 ⟨xs,H1,I1,r,z,q⟩=>⟨by rw[←r.length];exact z,?_⟩)
 have hf:H1 s1.heap.objs.size=none:=I1.hok.fresh (gi _)
 refine⟨.ref s1.heap.objs.size,upd H1 s1.heap.objs.size (.lst xs),I1.laid (t':=s1.toks) (fun b u e=>iB _ e) (gi _) ?_,rfl,q _ hf⟩
 exact⟨z,us,0,r,l_ _ rfl⟩
end
abbrev Sp:=List V→Hp→VK→XK→Prop
abbrev BM:=List Env→Hp→Shared→XK→Value→Shared→Prop
structure Env0 (P:Program) (w:World) (K:Frag) (mg:Str→Option Value) (base:Heap) (A:Around) (outer:List Env) (s:Shared) (H:Hp):Prop where
 frames:A.frames=some outer
 mod:Mod K mg base
 bs:∀b o,base.get? b=some o→s.heap.get? b=some o∧H b=none
 bsz:base.objs.size≤s.heap.objs.size
 funs:s.heap.FunFrames base outer
 frf:∀b∈Bq outer,H b=none
 hok:HOk P w H s.heap
 bare:AllBare s.gens
 tab:∀b q,oY K b=some q→H b=some (.tbl q)
def CE(outer:List Env)(P:Program)(w:World)(H:Hp)(s:Shared)(Q:VK)(u:Value)(s':Shared):Prop:=
 ∃v H',s'.os=s.os∧AllBare s'.gens∧Un (Bq outer) [] H H' s.heap s'.heap∧HOk P w H' s'.heap∧RelV v u∧Q v H'
def CR(CX:BM)(outer:List Env)(P:Program)(w:World)(H:Hp)(s:Shared)(Q:VK)(E:XK)(r:Result)(s':Shared):Prop:=
 match r with
 |.ok (.ret u)=>CE outer P w H s Q u s'
 |.ok _=>False
 |.error e=>CX outer H s E e s'
structure FnOk (P:Program) (w:World) (K:Frag) (mg:Str→Option Value) (base:Heap) (CX:BM) (k:Nat) (f:Addr) (fd:FuncData) (ps:List Str) (sp:Sp):Prop where
 len:∀vs H Q E,sp vs H Q E→vs.length=ps.length
 run:∀(A:Around) (outer:List Env) (s:Shared) (H:Hp) (args:Args) (us:List Value) (vs:List V) (Q:VK) (E:XK),Room k A→Env0 P w K mg base A outer s H→BindsTo s fd args (ps.zip us)→Vals vs us→sp vs H Q E→
  codeAny (model P w) A (.call (.ref f) args) (CR CX outer P w H s Q E) s
theorem FnOk.imp{P:Program}{w:World}{K:Frag}{mg:Str→Option Value}{base:Heap}{CX:BM}{k:Nat}{f:Addr}{fd:FuncData}{ps:List Str}{sp sp':Sp}(F:FnOk P w K mg base CX k f fd ps sp)
  (h:∀vs H Q E,sp' vs H Q E→sp vs H Q E):FnOk P w K mg base CX k f fd ps sp':=
 ⟨fun vs H Q E q=>F.len vs H Q E (h _ _ _ _ q),fun A outer s H args us vs Q E hr he hb hv hs=>F.run A outer s H args us vs Q E hr he hb hv (h _ _ _ _ hs)⟩
theorem Env0.in1{P:Program}{w:World}{K:Frag}{mg:Str→Option Value}{base:Heap}{A:Around}{outer:List Env}{s:Shared}{H:Hp}(e:Env0 P w K mg base A outer s H):
  Env0 P w K mg base A.in1 outer s H:=⟨e.frames,e.mod,e.bs,e.bsz,e.funs,e.frf,e.hok,e.bare,e.tab⟩
section
variable {X:Cx} {pins:List (Addr×Obj)} {σ:St} {H:Hp} {s s':Shared}
theorem Inv.env0(I:Inv X pins σ H s):Env0 X.prog X.w X.K X.mg X.base X.A X.stack s H:=
 ⟨I.ok.frames,I.ok.mod,I.bs,jn I.ok.bsz I.sz,I.stack,I.stkFree,I.hok,I.bare,I.tab⟩
theorem Inv.after{Q:VK}{u:Value}(I:Inv X pins σ H s)(h:CE X.stack X.prog X.w H s Q u s'):EP X pins σ Q u s':=by
 obtain⟨v,H',os,bare,un,hok,r,q⟩:=h
 obtain⟨hh,g,d,t,os'⟩:=s'
 obtain rfl:os'=s.os:=os
 exact⟨v,H',I.call (h':=hh) (g':=g) (d':=d) (t':=t) (ch:=[]) un hok bare (fun b z=>absurd z (by simp)),r,q⟩
end
def FW(sp:Sp)(dvs:List V)(E:XK)(t:TA):TE:=fun σ H Q=>t σ H fun vs H1=>sp (vs++dvs) H1 Q E
def Binds(K:Frag)(fd:FuncData)(ps:List Str)(ds:List Value):Prop:=
 ∀(s:Shared) (us:List Value),K.In s.heap→(us++ds).length=ps.length→BindsTo s fd ⟨us,[]⟩ (ps.zip (us++ds))
theorem Binds.all{K:Frag}{fd:FuncData}{ps:List Str}(h:∀us:List Value,us.length=ps.length→bindArgs fd ⟨us,[]⟩=pure (ps.zip us)):Binds K fd ps []:=fun s us _ hl=>by
 rw[List.append_nil]at hl ⊢
 exact .of_eq (h us hl)
def wS(CX:BM)(X:Cx)(E:XK):Prop:=∀(pins:List (Addr×Obj)) (σ:St) (H:Hp) (s:Shared) (e:Value) (s':Shared),Inv X pins σ H s→CX X.stack H s E e s'→X.xe e s'
section
variable {X:Cx} {CX:BM} {k:Nat} {f C:Addr} {fd:FuncData} {ps:List Str} {sp:Sp} {dvs:List V} {ds:List Value} {E:XK} {x m:Str} {p pos apos:Pos} {e o:Expr} {es:List Expr} {ta:TE} {t:TA}
theorem GY{pins:List (Addr×Obj)}{σ:St}{H:Hp}{s:Shared}{Q:VK}{us:List Value}{vs:List V}(F:FnOk X.prog X.w X.K X.mg X.base CX k f fd ps sp)(hr:Room k X.A)(hb:Binds X.K fd ps ds)(hd:Vals dvs ds)(hx:wS CX X E)
  (I:Inv X pins σ H s) (r:Vals vs us) (h:sp (vs++dvs) H Q E):wpAny (model X.prog X.w) X.A (call (.ref f) us) (EP X pins σ Q) X.xe s:=by
 have r2:Vals (vs++dvs) (us++ds):=r.append hd
 have hl:(us++ds).length=ps.length:=by rw[←r2.length];exact F.len _ _ _ _ h
 refine wpAny_call (codeAny_mono (F.run X.A X.stack s H ⟨us,[]⟩ (us++ds) (vs++dvs) Q E hr I.env0 (hb s us I.kIn hl) r2 h) fun r s' hq=>?_)
 cases r with
 |error e=>exact hx pins σ H s e s' I hq
 |ok fl=>
  cases fl with
  |ret u=>exact I.after hq
  |next=>exact False.elim hq
  |brk=>exact False.elim hq
  |cont=>exact False.elim hq
theorem Eh(F:FnOk X.prog X.w X.K X.mg X.base CX k f fd ps sp)(hr:Room k X.A)(hg:Gl X x)(hm:X.mg x=some (.ref f))(hk:keepIn X.K (.ref f)=true)(hb:Binds X.K fd ps ds)(hd:Vals dvs ds)(hx:wS CX X E)
  (ha:PA X (e::es) t) (hdb:(x == ("__debug__":Str))=false:=by decide) (he:starEach (e::es) X.env=(false,eval e X.env)::starEach es X.env:=by rfl) (hpl:(backTo pos (starEach es X.env)).any (·.1)=false:=by rfl):
  PE X (.Call (.Name x p) (e::es) [] pos) (FW sp dvs E t):=by
 intro pins s σ H Q I h
 refine wpAny_Call_Name_kw (yc I hg hm ?_ hdb)
 refine PySem.W.callWith_K (h₀:=X.base) I.ok.mod.kin hk (fc (ha pos pins s σ H _ I h) fun us s1 ⟨vs,H1,I1,r,q⟩=>⟨I1.kIn,?_⟩) he hpl
 exact GY F hr hb hd hx I1 r q
end
structure FnScope (N P:List Str) (sc:Scope):Prop where
 kind:sc.kind=.function
 co:sc.isCoroutine=false
 gen:sc.isGenerator=false
 nd:N.Nodup
 pre:N.take P.length=P
 par:∀x∈P,sc.names.lookup x=some .local∨sc.names.lookup x=some .cell
 nofree:∀y∈sc.names,y.2≠ .free
theorem rD{kindOf:Str→Option NameKind}{x:Str}:∀{binds:List (Str×Value)} {m:Str→Option Value},(∀v,(x,v)∉binds)→bindL kindOf binds m x=m x
 |[],_,_=>rfl
 |(n,v)::r,m,h=>by
  unfold bindL
  rw[rD fun w hw=>h w (gq _ hw)]
  split
  ·have:x≠n:=by rintro rfl;exact h v gJ
   simp[this]
  ·rfl
theorem rE{kindOf:Str→Option NameKind}{x:Str}:∀{binds:List (Str×Value)} {m:Str→Option Value},(∀v,(x,v)∉binds)→bindC kindOf binds m x=m x
 |[],_,_=>rfl
 |(n,v)::r,m,h=>by
  unfold bindC
  rw[rE fun w hw=>h w (gq _ hw)]
  split
  ·rfl
  ·have:x≠n:=by rintro rfl;exact h v gJ
   simp[this]
theorem rF{kindOf:Str→Option NameKind}{x:Str}{v:Value}:∀{P:List Str} {vs:List Value} {i:Nat} {m:Str→Option Value},P.Nodup→P[i]? =some x→vs[i]? =some v→kindOf x=some .local→
  bindL kindOf (P.zip vs) m x=some v
 |[],_,_,_,_,h,_,_=>by simp at h
 |_::_,[],_,_,_,_,h,_=>by simp at h
 |p::P,w::vs,0,m,nd,h1,h2,hk=>by
  simp at h1 h2;subst h1;subst h2
  show bindL kindOf ((p,w)::P.zip vs) m p=_
  unfold bindL
  rw[rD fun v hv=>(Zbm.mp nd).1 (List.of_mem_zip hv).1,if_pos hk]
  simp
 |p::P,w::vs,i+1,m,nd,h1,h2,hk=>by
  show bindL kindOf ((p,w)::P.zip vs) m x=_
  unfold bindL
  exact rF (i:=i) (Zbm.mp nd).2 (by simpa using h1) (by simpa using h2) hk
theorem rG{kindOf:Str→Option NameKind}{x:Str}{v:Value}:∀{P:List Str} {vs:List Value} {i:Nat} {m:Str→Option Value},P.Nodup→P[i]? =some x→vs[i]? =some v→kindOf x≠some .local→
  bindC kindOf (P.zip vs) m x=some v
 |[],_,_,_,_,h,_,_=>by simp at h
 |_::_,[],_,_,_,_,h,_=>by simp at h
 |p::P,w::vs,0,m,nd,h1,h2,hk=>by
  simp at h1 h2;subst h1;subst h2
  show bindC kindOf ((p,w)::P.zip vs) m p=_
  unfold bindC
  rw[rE fun v hv=>(Zbm.mp nd).1 (List.of_mem_zip hv).1,if_neg hk]
  simp
 |p::P,w::vs,i+1,m,nd,h1,h2,hk=>by
  show bindC kindOf ((p,w)::P.zip vs) m x=_
  unfold bindC
  exact rG (i:=i) (Zbm.mp nd).2 (by simpa using h1) (by simpa using h2) hk
def jj(N:List Str)(vs:List V):St:=vs.map some++List.replicate (N.length - vs.length) none
def qP(CX:BM)(P:Program)(w:World)(K:Frag)(mg:Str→Option Value)(base:Heap)(N:List Str)(qual:Str)(scope:Scope)(f:Addr)(cd:Value)(A:Around)(outer:List Env)(s:Shared)(H:Hp)(E:XK):Cx where
 prog:=P
 w:=w
 K:=K
 mg:=mg
 base:=base
 A:=A.deeper (envOfC qual scope s.heap.objs.size f cd)
 N:=N
 s₀:=s
 H₀:=H
 env:=envOfC qual scope s.heap.objs.size f cd
 outer:=outer
 stack:=envOfC qual scope s.heap.objs.size f cd::outer
 ex:=[]
 calm:=true
 fn:=fun _=>true
 pn:=[]
 xe:=fun e s'=>wpAny (model P w) (A.deeper (envOfC qual scope s.heap.objs.size f cd)) (leaving (envOfC qual scope s.heap.objs.size f cd) e) (fun _ s''=>CX outer H s E e s'') (fun e' s''=>CX outer H s E e' s'') s'
theorem uU{sc:Scope}{n:Nat}{x:Str}(h:sc.names.lookup x=some .cell):∃c,(cellsFrom n sc.names []).lookup x=some c:=by
 have q:=PySem.W.cellsFrom_some sc.names n [] (.inl h)
 exact Option.isSome_iff_exists.mp q
theorem zS{CX:BM}{P:Program}{w:World}{K:Frag}{mg:Str→Option Value}{base:Heap}{N ps:List Str}{qual:Str}{scope:Scope}{f:Addr}{cd:Value}{A:Around}{outer:List Env}{s s1:Shared}{H:Hp}{E:XK}{us:List Value}{vs:List V}
  (S:FnScope N ps scope) (hd:A.handled=none) (e0:Env0 P w K mg base A outer s H) (hl:vs.length=ps.length) (r:Vals vs us)
  (x:InCallC s s.heap.objs.size (bindL (envOfC qual scope s.heap.objs.size f cd).kindOf (ps.zip us) fun _=>none) (cellsFrom (s.heap.objs.size+1) scope.names []) (bindC (envOfC qual scope s.heap.objs.size f cd).kindOf (ps.zip us) fun _=>none) s1):
  Inv (qP CX P w K mg base N qual scope f cd A outer s H E) [] (jj N vs) H s1:=by
 have hpl:ps.length≤N.length:=by have:=congrArg List.length S.pre;rw[List.length_take]at this;omega
 obtain⟨h1,tk,rfl,hk⟩:=x.done
 have noA:∀b:Addr,b∉(qP CX P w K mg base N qual scope f cd A outer s H E).ex:=fun b z=>absurd (show b∈([]:List Addr)from z) (by simp)
 refine⟨⟨e0.mod,S.kind,rfl,rfl,gi _,fun y z c h1 h2=>?_,fun y hy=>?_,fun y c _ h=>?_,fun _=>hd,Around.frames_deeper e0.frames,.inr ⟨rfl,rfl⟩,fun b z=>absurd z (noA b),e0.bs,e0.bsz,fun b _ _=>noA b,fun b z=>absurd z (noA b),e0.funs,e0.frf,e0.tab⟩,
  rfl,e0.bare,Un.kept hk,⟨_,x.toInCall.ns,fun i y v h1 h2 h3=>?_⟩,fun y c h=>⟨_,x.cell y c h⟩,e0.hok.fresh (gi _),fun y c h=>?_,fun p hp=>absurd (show p∈([]:List (Addr×Obj))from hp) (by simp),e0.hok.kept hk,?_⟩
 ·exact name_of_addr x.apart (PySem.mem_of_lookup h1) (PySem.mem_of_lookup h2)
 ·have hy:scope.names.lookup y=some .cell∨scope.names.lookup y=some .free:=hy
  rcases hy with hy |hy
  ·exact uU hy
  ·exact absurd rfl (S.nofree _ (PySem.mem_of_lookup hy))
 ·exact ma (x.above y c (PySem.mem_of_lookup h))
 ·have hi:i < vs.length:=by
   unfold jj at h2
   by_cases hi:i < vs.length
   ·exact hi
   ·rw[D2 (by simpa using hi)]at h2
    rw[List.getElem?_replicate]at h2
    split at h2 <;> cases h2
  have ha:vs[i]? =some v:=by
   unfold jj at h2
   rw[List.getElem?_append_left (by simpa using hi),mL]at h2
   cases e:vs[i]? with
   |none=>rw[e]at h2;cases h2
   |some a=>rw[e]at h2;cases h2;rfl
  obtain⟨u,hu,rv⟩:=r.get ha
  have hp:ps[i]? =some y:=by
   rw[←S.pre,List.getElem?_take_of_lt (by omega)];exact h1
  have ndP:ps.Nodup:=by rw[←S.pre];exact S.nd.sublist (List.take_sublist _ _)
  refine⟨u,rv,?_⟩
  rcases S.par y (List.mem_of_getElem? hp)with k |k
  ·exact .inl ⟨k,rF ndP hp hu k⟩
  ·obtain⟨c,e⟩:=uU (n:=s.heap.objs.size+1) k
   refine .inr ⟨.inl k,c,e,?_⟩
   have q:=x.cell y c e
   rw[rG ndP hp hu (by show scope.names.lookup y≠_;rw[k];decide)]at q
   exact q
 ·exact e0.hok.fresh (ma (x.above y c (PySem.mem_of_lookup h)))
 ·unfold jj
  show _=N.length
  rw[pI,fw,List.length_replicate]
  omega
theorem FX{CX:BM}{P:Program}{w:World}{K:Frag}{mg:Str→Option Value}{base:Heap}{k:Nat}{f:Addr}{name qual:Str}{params:Arguments}{body:List Stmt}{scope:Scope}{dV kV doc pm cdv ct oc:Value}{an od:Option Addr}
  {osl:Array (Option Value)} {N ps:List Str} {sp:Sp} (lk:K.lookup f=some ⟨oc,od,.func (fnOf name qual params body scope dV kV doc pm an cdv ct),osl⟩) (hcd:codeIn K cdv qual=true) (S:FnScope N ps scope)
  (len:∀vs H Q E,sp vs H Q E→vs.length=ps.length)
  (hbody:∀(A:Around) (outer:List Env) (s:Shared) (H:Hp) (vs:List V) (Q:VK) (E:XK),Room k (A.deeper (envOfC qual scope s.heap.objs.size f cdv))→sp vs H Q E→
   ∃t,PSs (qP CX P w K mg base N qual scope f cdv A outer s H E) body t∧t {nx:=fun _ H'=>Q .non H',rt:=Q} (jj N vs) H):
  FnOk P w K mg base CX (k+1) f (fnOf name qual params body scope dV kV doc pm an cdv ct) ps sp:=by
 refine⟨len,fun A outer s H args us vs Q E hr e0 hb r hsp=>?_⟩
 have hl:=len _ _ _ _ hsp
 have KX:K.In s.heap:=e0.mod.kin.keeps fun b o e=>(e0.bs b o e).1
 have lim:s.heap.NoLimit:=e0.mod.nolimit.keeps fun b o e=>(e0.bs b o e).1
 have hkind:∀y∈ps.zip us,scope.names.lookup y.1=some .local∨(scope.names.lookup y.1=some .cell∧((cellsFrom (s.heap.objs.size+1) scope.names []).lookup y.1).isSome=true):=fun⟨n,v⟩ hy=>by
  rcases S.par n (List.of_mem_zip hy).1 with q |q
  ·exact .inl q
  ·exact .inr ⟨q,PySem.W.cellsFrom_some _ _ _ (.inl q)⟩
 refine codeAny_call_function hr.depth (KX _ _ lk) rfl S.co S.gen rfl (PySem.W.codeRec_of KX hcd) (hb _ _ _ _ ?_)
 refine wpAny_newFunctionEnv_cells S.kind hkind fun env he s1 x=>?_
 subst he
 refine⟨lim.keeps x.toInCall.keep,codeAny_func ?_⟩
 obtain⟨t,ht,hq⟩:=hbody A outer s H vs Q E (hr.deeper _) hsp
 have I:Inv (qP CX P w K mg base N qual scope f cdv A outer s H E) [] (jj N vs) H s1:=zS S hr.hd e0 hl r x
 refine wpAny_mono (ht [] s1 (jj N vs) H _ I hq) (fun fl s' hs=>?_) fun e s' hs=>hs
 have fin:∀{σ':St} {H':Hp} {v:V} {u:Value},Inv (qP CX P w K mg base N qual scope f cdv A outer s H E) [] σ' H' s'→RelV v u→Q v H'→CE outer P w H s Q u s':=
  fun {σ' H' v u} J rv q=>⟨v,H',J.os,J.bare,J.base,J.hok,rv,q⟩
 cases fl with
 |ret u=>
  obtain⟨v,σ',H',J,rv,q⟩:=hs
  exact fin J rv q
 |next=>
  obtain⟨σ',H',J,q⟩:=hs
  exact fin (v:=V.non) (u:=Value.none) J rfl q
 |brk=>
  obtain⟨_,_,_,q⟩:=hs
  exact False.elim q
 |cont=>
  obtain⟨_,_,_,q⟩:=hs
  exact False.elim q
end L2
namespace L2
open PySem PySem.Spec PyProof.Rows
section
variable {X:Cx} {x:Str} {p pos:Pos} {e:Expr} {es:List Expr} {t:TA} {id T:String} {r:List V→Hp→VK→Prop}
def JY(r:List V→Hp→VK→Prop)(t:TA):TE:=fun σ H Q=>t σ H fun vs H1=>r vs H1 Q
theorem pN (hc:CallR X (.builtin id) r) (hg:Gl X x) (hm:X.mg x=none) (hv:bootBuiltins x=some (.builtin id)) (ha:PA X (e::es) t) (hn:x≠"__name__":=by decide) (hdb:(x == ("__debug__":Str))=false:=by decide)
  (he:starEach (e::es) X.env=(false,eval e X.env)::starEach es X.env:=by rfl) (hpl:(backTo pos (starEach es X.env)).any (·.1)=false:=by rfl):PE X (.Call (.Name x p) (e::es) [] pos) (JY r t):=by
 intro pins s σ H Q I h
 refine wpAny_Call_Name_kw (jU I hg hm hv ?_ hn hdb)
 exact PyProof.Rows.callWith_builtin1 (fc (ha pos pins s σ H _ I h) fun us s1 ⟨vs,H1,I1,r1,q1⟩=>hc pins s1 σ H1 vs us Q I1 r1 q1) he hpl
theorem nv (hc:CallR X (.type T) r) (hg:Gl X x) (hm:X.mg x=none) (hv:bootBuiltins x=some (.type T)) (ha:PA X (e::es) t) (hn:x≠"__name__":=by decide) (hdb:(x == ("__debug__":Str))=false:=by decide)
  (he:starEach (e::es) X.env=(false,eval e X.env)::starEach es X.env:=by rfl) (hpl:(backTo pos (starEach es X.env)).any (·.1)=false:=by rfl):PE X (.Call (.Name x p) (e::es) [] pos) (JY r t):=by
 intro pins s σ H Q I h
 refine wpAny_Call_Name_kw (jU I hg hm hv ?_ hn hdb)
 exact PyProof.Rows.callWith_type1 (fc (ha pos pins s σ H _ I h) fun us s1 ⟨vs,H1,I1,r1,q1⟩=>hc pins s1 σ H1 vs us Q I1 r1 q1) he hpl
end
end L2
namespace HT
open PySem PyProof.Rows
section
open PySem.SeqAt
open PySem.AutoSeq1 (wpAny_loadPart')
open PySem.MeetsSeq PySem.MeetsSeq2 PySem.MeetsSeq3
end
section
variable {prog:Program} {w:World} {A:Around} {E:Value→Shared→Prop} {s:Shared}
def pO(n d:Nat):Option Int→Nat
 |none=>d
 |some v=>if v < 0 then (v+(n:Int)).toNat else min v.toNat n
theorem Ek(n d k:Nat):pO n d (some (k:Int))=min k n:=by
 show(if (k:Int) < 0 then ((k:Int)+(n:Int)).toNat else min (k:Int).toNat n)=min k n
 rw[if_neg (by omega),Int.toNat_natCast]
end
end HT
namespace L2
open PySem PySem.Spec PyProof.Rows
abbrev TO:=St→Hp→(Option Int→Hp→Prop)→Prop
def PO(X:Cx)(e:Option Expr)(t:TO):Prop:=
 ∀(pins:List (Addr×Obj)) (s:Shared) (σ:St) (H:Hp) (Q:Option Int→Hp→Prop),Inv X pins σ H s→t σ H Q→
  wpAny (model X.prog X.w) X.A (evalPart e X.env) (fun u s'=>∃o H',Inv X pins σ H' s'∧IsPart u o∧Q o H') X.xe s
def El:TO:=fun _ H Q=>Q none H
def IJ(t:TE):TO:=fun σ H Q=>t σ H fun x H1=>∃i,x=.int i∧Q (some i) H1
section
variable {X:Cx} {e:Expr} {te:TE} {lo hi:Option Expr} {tl th:TO} {pos p2:Pos}
theorem Em:PO X none El:=by
 intro pins s σ H Q I h
 rw[evalPart_none]
 exact wpAny_pure ⟨none,H,I,.none,h⟩
theorem En(h:PE X e te):PO X (some e) (IJ te):=by
 intro pins s σ H Q I hw
 rw[evalPart_some]
 refine fc (h pins s σ H _ I hw) fun u s1 ⟨x,H1,I1,r1,q1⟩=>?_
 obtain⟨i,rfl,q⟩:=q1
 obtain⟨t,rfl⟩:=r1
 exact⟨some i,H1,I1,.int i t,q⟩
def SlR(X:Cx)(r:V→Option Int→Option Int→Hp→VK→Prop):Prop:=
 ∀(pins:List (Addr×Obj)) (s:Shared) (σ:St) (H:Hp) (x:V) (v vl vu:Value) (lo hi:Option Int) (sl:Addr) (Q:VK),Inv X pins σ H s→RelV x v→s.heap.IsSliceOf sl vl vu .none→IsPart vl lo→IsPart vu hi→r x lo hi H Q→
  ∃T id,typeLookup (.type T) "__getitem__"=pure (some (.builtin id))∧s.TypeIs v T∧wpAny (model X.prog X.w) X.A (getItem v (.ref sl)) (EP X pins σ Q) X.xe s
theorem SlR.or{r r':V→Option Int→Option Int→Hp→VK→Prop}(h:SlR X r)(h':SlR X r'):SlR X (fun x lo hi H Q=>r x lo hi H Q∨r' x lo hi H Q):=by
 intro pins s σ H x v vl vu lo hi sl Q I rx hs pl pu q
 rcases q with q |q
 ·exact h pins s σ H x v vl vu lo hi sl Q I rx hs pl pu q
 ·exact h' pins s σ H x v vl vu lo hi sl Q I rx hs pl pu q
def Kx(r:V→Option Int→Option Int→Hp→VK→Prop)(te:TE)(tl th:TO):TE:=fun σ H Q=>te σ H fun x H1=>tl σ H1 fun l H2=>th σ H2 fun u H3=>r x l u H3 Q
theorem BN{r:V→Option Int→Option Int→Hp→VK→Prop}(hr:SlR X r)(he:PE X e te)(hl:PO X lo tl)(hu:PO X hi th):PE X (.Subscript e (.Slice lo hi none p2) pos) (Kx r te tl th):=by
 intro pins s σ H Q I h
 refine Subscript_ (fc (he pins s σ H _ I h) fun v s1 ⟨x,H1,I1,r1,q1⟩=>?_)
 refine wpAny_Slice (fc (hl pins s1 σ H1 _ I1 q1) fun vl s2 ⟨l,H2,I2,pl,q2⟩=>fc (hu pins s2 σ H2 _ I2 q2) fun vu s3 ⟨u,H3,I3,pu,q3⟩=>?_)
 rw[evalPart_none]
 refine wpAny_pure ?_
 have I4:Inv X pins σ H3 {s3 with heap:=s3.heap.push {cls:=.type "slice",data:=.fields #[vl,vu,.none]}}:=I3.kept (t':=s3.toks) fun b ob q=>iB _ q
 obtain⟨T,id,hT,ht,hg⟩:=hr pins {s3 with heap:=s3.heap.push {cls:=.type "slice",data:=.fields #[vl,vu,.none]}} σ H3 x v vl vu l u s3.heap.objs.size Q I4 r1 (Heap.IsSliceOf.new ..) pl pu q3
 show wpAny (model X.prog X.w) X.A (subscriptTail e (.Slice lo hi none p2) v (.ref s3.heap.objs.size)) (EP X pins σ Q) X.xe {s3 with heap:=s3.heap.push {cls:=.type "slice",data:=.fields #[vl,vu,.none]}}
 exact tail_any (ops:=[.ref s3.heap.objs.size,v]) ht hT hg (by with_unfolding_all rfl)
def zT(xs:List V)(lo hi:Option Int):List V:=(xs.drop (HT.pO xs.length 0 lo)).take (HT.pO xs.length xs.length hi - HT.pO xs.length 0 lo)
theorem uW(xs:List V)(lo hi:Option Int):(zT xs lo hi).length≤xs.length:=by
 unfold zT
 rw[List.length_take,List.length_drop]
 omega
end
end L2
namespace L2
open PySem PySem.Spec PyProof.Rows
def zU(n:Nat)(i:Int):Option Nat:=if 0≤i then (if i < n then some i.toNat else none)else if -(n:Int)≤i then some (i+n).toNat else none
def atI{α:Type}(xs:List α)(i:Int):Option α:=(zU xs.length i).bind fun j=>xs[j]?
theorem ym{n:Nat}{i:Int}{j:Nat}(h:zU n i=some j):seqIndex? i n=some j∧j < n∧ -(n:Int)≤i∧i < n:=by
 unfold zU at h
 by_cases h0:0≤i
 ·rw[if_pos h0]at h
  by_cases h1:i < n
  ·rw[if_pos h1]at h
   have e:i.toNat=j:=Option.some.inj h
   exact⟨by rw[seqIndex_of h0 h1,e],by omega,by omega,h1⟩
  ·rw[if_neg h1]at h;cases h
 ·rw[if_neg h0]at h
  by_cases h1: -(n:Int)≤i
  ·rw[if_pos h1]at h
   have e:(i+n).toNat=j:=Option.some.inj h
   exact⟨by rw[seqIndex_neg (by omega) h1,e],by omega,h1,by omega⟩
  ·rw[if_neg h1]at h;cases h
theorem sX{α:Type}{xs:List α}{i:Int}{v:α}(h:atI xs i=some v):∃j,seqIndex? i xs.length=some j∧xs[j]? =some v∧j < xs.length∧ -(xs.length:Int)≤i∧i < xs.length:=by
 unfold atI at h
 cases e:zU xs.length i with
 |none=>rw[e]at h;cases h
 |some j=>
  rw[e]at h
  obtain⟨h1,h2,h3,h4⟩:=ym e
  exact⟨j,h1,h,h2,h3,h4⟩
def sY(b:Expr):Prop:=∀o i,subscripted b false o i=operate [o,i] (getItem o i)
def IxR(X:Cx)(r:R2):Prop:=
 ∀(value slice:Expr) (pins:List (Addr×Obj)) (s:Shared) (σ:St) (H:Hp) (x y:V) (v u:Value) (Q:VK),Inv X pins σ H s→RelV x v→RelV y u→r x y H Q→
  subscripted slice false v u=operate [v,u] (getItem v u)→wpAny (model X.prog X.w) X.A (subscriptTail value slice v u) (EP X pins σ Q) X.xe s
def MtR(X:Cx)(id:String)(r:V→List V→Hp→VK→Prop):Prop:=
 ∀(pins:List (Addr×Obj)) (s:Shared) (σ:St) (H:Hp) (x:V) (xs:List V) (v:Value) (us:List Value) (Q:VK),Inv X pins σ H s→RelV x v→Vals xs us→r x xs H Q→
  wpAny (model X.prog X.w) X.A (call (.builtin id) (v::us)) (EP X pins σ Q) X.xe s
section
variable {X:Cx} {a b:Expr} {ta tb:TE} {pos:Pos}
theorem IxR.or{r r':R2}(h:IxR X r)(h':IxR X r'):IxR X (fun x y H Q=>r x y H Q∨r' x y H Q):=by
 intro value slice pins s σ H x y v u Q I rx ry q hs
 rcases q with q |q
 ·exact h value slice pins s σ H x y v u Q I rx ry q hs
 ·exact h' value slice pins s σ H x y v u Q I rx ry q hs
theorem MtR.or{id:String}{r r':V→List V→Hp→VK→Prop}(h:MtR X id r)(h':MtR X id r'):MtR X id (fun x xs H Q=>r x xs H Q∨r' x xs H Q):=by
 intro pins s σ H x xs v us Q I rx rs q
 rcases q with q |q
 ·exact h pins s σ H x xs v us Q I rx rs q
 ·exact h' pins s σ H x xs v us Q I rx rs q
theorem uX{r:R2}(hr:IxR X r)(ha:PE X a ta)(hb:PE X b tb)(hs:sY b):PE X (.Subscript a b pos) (uT r ta tb):=by
 intro pins s σ H Q I h
 exact Subscript_ (GM ha hb I h fun v u s2 x y H2 I2 rx ry q=>hr a b pins s2 σ H2 x y v u Q I2 rx ry q (hs _ _))
def uY(K:Frag):R2:=fun x y H Q=>∃p xs i v,x=.ref p∧y=.int i∧SqL K H p xs∧atI xs i=some v∧Q v H
def IK(K:Frag):R2:=fun x y H Q=>∃p xs i v,x=.ref p∧y=.int i∧SqT K H p xs∧atI xs i=some v∧Q v H
def IL:R2:=fun x y H Q=>∃z i c,x=.str z∧y=.int i∧z.length≤sizeLine∧atI z.cps.toList i=some c∧Q (.str ⟨#[c]⟩) H
theorem ix_list:IxR X (uY X.K):=by
 intro value slice pins s σ H x y v u Q I rx ry h hs
 obtain⟨p,xs,i,z,rfl,rfl,hq,he,q⟩:=h
 cases rx
 obtain⟨t,rfl⟩:=ry
 obtain⟨its,r,pl,hz⟩:=I.list hq
 obtain⟨j,h1,h2,h3,h4,h5⟩:=sX he
 obtain⟨w,ew,rw'⟩:=r.get h2
 have hl:=r.length
 have hn:=md
 have fin:EP X pins σ Q w s:=⟨z,H,I,rw',q⟩
 by_cases h0:0≤i
 ·have hj:i.toNat=j:=by
   rw[seqIndex_of h0 h5]at h1
   exact Option.some.inj h1
  exact item_listR pl.isList h0 (by omega) (by rw[hj];simpa using ew) fin hs
 ·have hj:(i+(its.toArray.size:Int)).toNat=j:=by
   rw[seqIndex_neg (by omega) h4]at h1
   rw[lS,←hl]
   exact Option.some.inj h1
  exact subscriptTail_builtinR (x:=w) pl.isList.typeIs slot_list_getitem.lookup
   (wpAny_getItem_list_neg (Q:=fun r s'=>r=w∧EP X pins σ Q r s') pl.isList (by omega) (by rw[lS] <;> omega) (by omega) (by rw[hj];simpa using ew) ⟨rfl,fin⟩) hs
theorem ix_tup:IxR X (IK X.K):=by
 intro value slice pins s σ H x y v u Q I rx ry h hs
 obtain⟨p,xs,i,z,rfl,rfl,hq,he,q⟩:=h
 cases rx
 obtain⟨t,rfl⟩:=ry
 obtain⟨its,r,pl,hz⟩:=I.tuple hq
 obtain⟨j,h1,h2,h3,h4,h5⟩:=sX he
 obtain⟨w,ew,rw'⟩:=r.get h2
 have hl:=r.length
 have hn:=md
 have fin:EP X pins σ Q w s:=⟨z,H,I,rw',q⟩
 exact subscriptTail_builtinR (x:=w) pl.typeIs slot_tuple_getitem.lookup
  (getItem_tuple (j:=j) (Q:=fun r s'=>r=w∧EP X pins σ Q r s') pl (by omega) (by omega) (by rw[lS,←hl];exact h1) (by simpa using ew) ⟨rfl,fin⟩) hs
theorem GZ:IxR X IL:=by
 intro value slice pins s σ H x y v u Q I rx ry h hs
 obtain⟨z,i,c,rfl,rfl,hz,he,q⟩:=h
 obtain⟨t,rfl⟩:=rx
 obtain⟨t',rfl⟩:=ry
 obtain⟨j,h1,h2,h3,h4,h5⟩:=sX he
 have hl:z.cps.toList.length=z.length:=by simp[Str.length]
 rw[hl]at h1 h4 h5
 have hn:=md
 exact tail_any (typeIs_str s z t) slot_str_getitem.lookup (getItem_str (c:=c) (by
  have e1:decide (i < -(2 ^ 63:Int))=false:=decide_eq_false (by omega)
  have e2:decide (i≥2 ^ 63)=false:=decide_eq_false (by omega)
  rw[e1,e2,Bool.or_false]) (by rw[h1];simpa using h2) ⟨.str ⟨#[c]⟩,H,I.tok _,⟨_,rfl⟩,q⟩) hs
def Kr(K:Frag):R2:=fun x y H Q=>uY K x y H Q∨IK K x y H Q∨IL x y H Q
theorem G0:IxR X (Kr X.K):=ix_list.or (ix_tup.or GZ)
theorem wT(its:List Value)(n j:Nat)(u:Value):Obj.mapSeq (·.setIfInBounds j u) {cls:=.type "list",data:=.seq its.toArray n}={cls:=.type "list",data:=.seq (its.set j u).toArray n}:=by
 simp[Obj.mapSeq]
theorem Inv.lst{pins:List (Addr×Obj)}{σ:St}{H:Hp}{s:Shared}{p:Addr}{xs:List V}(I:Inv X pins σ H s)(h:H p=some (.lst xs)):
  ∃(its:List Value) (n:Nat),Vals xs its∧s.heap.get? p=some {cls:=.type "list",data:=.seq its.toArray n}∧xs.length≤sizeLine:=by
 obtain⟨z,its,n,r,e⟩:=I.hok p _ h
 exact⟨its,n,r,e,z⟩
theorem Inv.lstUpd{pins:List (Addr×Obj)}{σ:St}{H:Hp}{s:Shared}{p:Addr}{xs ys:List V}{its its':List Value}{n n':Nat}{f:Obj→Obj}(I:Inv X pins σ H s)(h:H p=some (.lst xs))
  (ho:s.heap.get? p=some {cls:=.type "list",data:=.seq its.toArray n}) (hf:f {cls:=.type "list",data:=.seq its.toArray n}={cls:=.type "list",data:=.seq its'.toArray n'}) (r:Vals ys its') (hz:ys.length≤sizeLine) (t:Nat):
  Inv X pins σ (upd H p (.lst ys)) {s with heap:=s.heap.update p f,toks:=t}:=by
 have e:(s.heap.update p f).get? p=some {cls:=.type "list",data:=.seq its'.toArray n'}:=by
  rw[Heap.get?_update_self f ho (by rw[hf] <;> rfl),hf]
 refine I.write (x:=p) (e:=p) (by rw[h];trivial) (.inl rfl) (fun b u hb q=>(Heap.get?_update_other _ _ (Ne.symm hb)).trans q) ⟨_,e⟩ ?_
 exact⟨hz,its',n',r,e⟩
def BO:V→V→V→Hp→(Hp→Prop)→Prop:=fun o i v H Q=>∃p xs k j,o=.ref p∧i=.int k∧H p=some (.lst xs)∧zU xs.length k=some j∧Q (upd H p (.lst (xs.set j v)))
theorem uZ:Iw X BO:=by
 intro pins s σ H o i v ov iv u Q I ro ri rv h
 obtain⟨p,xs,k,j,rfl,rfl,hp,hj,q⟩:=h
 cases ro
 obtain⟨t,rfl⟩:=ri
 obtain⟨its,n,r,ho,hz⟩:=I.lst hp
 obtain⟨h1,h2,h3,h4⟩:=ym hj
 have hl:=r.length
 have hn:=md
 have I':Inv X pins σ (upd H p (.lst (xs.set j v))) {s with heap:=s.heap.update p (Obj.mapSeq (·.setIfInBounds j u))}:=
  I.lstUpd hp ho (wT its n j u) (r.set rv j) (by rw[List.length_set];exact hz) s.toks
 by_cases h0:0≤k
 ·have hk:k.toNat=j:=by
   rw[seqIndex_of h0 h4]at h1
   exact Option.some.inj h1
  exact PySem.W.ki_setAt ho h0 (by omega) (by rw[lS,←hl];exact h4) (by rw[hk];exact⟨_,I',q⟩)
 ·have hk:(k+(its.toArray.size:Int)).toNat=j:=by
   rw[seqIndex_neg (by omega) h3]at h1
   rw[lS,←hl]
   exact Option.some.inj h1
  exact PySem.W.ki_setBack ho (by omega) (by rw[lS,←hl];exact h3) (by omega) (by rw[hk];exact⟨_,I',q⟩)
theorem sZ(lo hi:Option Int)(n:Nat):(sliceBounds lo hi none n).1=((HT.pO n 0 lo:Nat):Int)∧(sliceBounds lo hi none n).2.1=((HT.pO n n hi:Nat):Int)∧(sliceBounds lo hi none n).2.2=1:=by
 refine⟨?_,?_,rfl⟩
 ·cases lo with
  |none=>simp[sliceBounds,HT.pO]
  |some i=>
   simp only[sliceBounds,HT.pO,Option.getD_none,show(1:Int) > 0 by decide,if_true]
   by_cases h:i < 0
   ·simp only[h,if_true] <;> omega
   ·simp only[h,if_false] <;> omega
 ·cases hi with
  |none=>simp[sliceBounds,HT.pO]
  |some i=>
   simp only[sliceBounds,HT.pO,Option.getD_none,show(1:Int) > 0 by decide,if_true]
   by_cases h:i < 0
   ·simp only[h,if_true] <;> omega
   ·simp only[h,if_false] <;> omega
theorem qQ(its:List Value)(lo hi:Option Int):slicePick its.toArray lo hi none=((its.drop (HT.pO its.length 0 lo)).take (HT.pO its.length its.length hi - HT.pO its.length 0 lo)).toArray:=by
 obtain⟨h1,h2,h3⟩:=sZ lo hi its.toArray.size
 unfold slicePick
 rw[h1,h2,h3]
 simp only[sliceRange_one,pick_run,lS] <;> rfl
def JZ(K:Frag):V→Option Int→Option Int→Hp→VK→Prop:=fun x lo hi H Q=>∃a xs,x=.ref a∧SqL K H a xs∧∀p,H p=none→Q (.ref p) (upd H p (.lst (zT xs lo hi)))
theorem Eo:SlR X (JZ X.K):=by
 intro pins s σ H x v vl vu lo hi sl Q I rx hs pl pu h
 obtain⟨a,xs,rfl,hx,q⟩:=h
 cases rx
 obtain⟨its,r,ht,hz⟩:=I.list hx
 have hlen:=r.length
 refine⟨"list",_,slot_list_getitem.lookup,ht.isList.typeIs,?_⟩
 refine wpAny_getItem_list_slice ht.isList hs pl pu .none (by simp) ?_ (by rw[lS] <;> omega)
 rw[qQ,←hlen]
 refine⟨.ref s.heap.objs.size,_,I.laid (t':=s.toks) (o:=.lst (zT xs lo hi)) (fun b ob q=>iB _ q) (gi _) ?_,rfl,q _ (I.hok.fresh (gi _))⟩
 exact⟨jn (uW xs lo hi) hz,_,0,(r.drop (HT.pO xs.length 0 lo)).take (HT.pO xs.length xs.length hi - HT.pO xs.length 0 lo),l_ _ rfl⟩
def ku:V→Bool
 |.non=>true
 |.bl _=>true
 |.int _=>true
 |.str _=>true
 |_=>false
def D3:V→V→Bool
 |.non,.non=>true
 |.bl a,.bl b=>a == b
 |.bl a,.int b=>(if a then 1 else 0) == b
 |.int a,.bl b=>a == (if b then 1 else 0)
 |.int a,.int b=>a == b
 |.str a,.str b=>a == b
 |_,_=>false
theorem G1{A:Around}{s:Shared}{y x:V}{u v:Value}(ry:RelV y u)(rx:RelV x v)(fy:ku y=true)(fx:ku x=true):SeqAt.EqAt A s u v (D3 y x):=by
 cases y with
 |non=>
  cases ry
  cases x with
  |non=>cases rx;exact SeqAt.EqAt.same _
  |bl b=>cases rx;exact SeqAt.EqAt.none_bool b
  |int b=>obtain⟨t,rfl⟩:=rx;exact SeqAt.EqAt.none_int b t
  |str b=>obtain⟨t,rfl⟩:=rx;exact SeqAt.EqAt.none_str b t
  |_=>exact absurd (show false=true from fx) Zb
 |bl a=>
  cases ry
  cases x with
  |non=>cases rx;exact SeqAt.EqAt.bool_none a
  |bl b=>cases rx;exact SeqAt.EqAt.bool_bool a b
  |int b=>obtain⟨t,rfl⟩:=rx;exact SeqAt.EqAt.bool_int a b t
  |str b=>obtain⟨t,rfl⟩:=rx;exact SeqAt.EqAt.bool_str a b t
  |_=>exact absurd (show false=true from fx) Zb
 |int a=>
  obtain⟨t',rfl⟩:=ry
  cases x with
  |non=>cases rx;exact SeqAt.EqAt.int_none a t'
  |bl b=>cases rx;exact SeqAt.EqAt.int_bool a t' b
  |int b=>obtain⟨t,rfl⟩:=rx;exact SeqAt.EqAt.int_int a t' b t
  |str b=>obtain⟨t,rfl⟩:=rx;exact SeqAt.EqAt.int_str a t' b t
  |_=>exact absurd (show false=true from fx) Zb
 |str a=>
  obtain⟨t',rfl⟩:=ry
  cases x with
  |non=>cases rx;exact SeqAt.EqAt.str_none a t'
  |bl b=>cases rx;exact SeqAt.EqAt.str_bool a t' b
  |int b=>obtain⟨t,rfl⟩:=rx;exact SeqAt.EqAt.str_int a t' b t
  |str b=>obtain⟨t,rfl⟩:=rx;exact SeqAt.EqAt.str_str a t' b t
  |_=>exact absurd (show false=true from fx) Zb
 |_=>exact absurd (show false=true from fy) Zb
def wU(x:V)(u:Value):Bool:=match u with
 |.none=>D3 .non x
 |.bool b=>D3 (.bl b) x
 |.int i _=>D3 (.int i) x
 |.str z _=>D3 (.str z) x
 |_=>false
theorem BP{x y:V}{u:Value}(r:RelV y u)(f:ku y=true):wU x u=D3 y x:=by
 cases y with
 |non=>cases r;rfl
 |bl b=>cases r;rfl
 |int i=>obtain⟨t,rfl⟩:=r;rfl
 |str z=>obtain⟨t,rfl⟩:=r;rfl
 |_=>exact absurd (show false=true from f) Zb
theorem mM{x:V}:∀{xs:List V} {us:List Value},Vals xs us→xs.all ku=true→us.any (wU x)=xs.any fun y=>D3 y x
 |_,_,.nil,_=>rfl
 |y::xs,u::us,.cons r t,f=>by
  rw[List.all_cons,wL]at f
  rw[List.any_cons,List.any_cons,BP r f.1,mM t f.2]
theorem kI{A:Around}{s:Shared}{x:V}{v:Value}(rx:RelV x v)(fx:ku x=true):∀{xs:List V} {us:List Value},Vals xs us→xs.all ku=true→∀u∈us,SeqAt.EqAt A s u v (wU x u)
 |_,_,.nil,_=>fun u hu=>by cases hu
 |y::xs,u::us,.cons r t,f=>fun u' hu=>by
  rw[List.all_cons,wL]at f
  rcases Zal.mp hu with rfl |hu
  ·rw[BP r f.1];exact G1 r rx f.1 fx
  ·exact kI rx fx t f.2 u' hu
def Ij(x:V)(xs:List V):Bool:=xs.any fun y=>D3 y x
def J0(K:Frag)(neg:Bool):R2:=fun x y H Q=>∃p xs,y=.ref p∧(SqL K H p xs∨SqT K H p xs)∧ku x=true∧xs.all ku=true∧Q (.bl (if neg then !Ij x xs else Ij x xs)) H
theorem zV:OpR X (compareOp .In) (J0 X.K false):=by
 intro pins s σ H x y v u Q I rx ry h
 obtain⟨p,xs,rfl,hq,fx,fs,q⟩:=h
 cases ry
 rcases hq with hq |hq
 ·obtain⟨its,r,pl,hz⟩:=I.list hq
  refine SeqAt.in_listAt (wU x) pl.isList (fun w hw=>kI rx fx r fs w (by simpa using hw)) ⟨.bl _,H,I,rfl,?_⟩
  rw[show its.toArray.any (wU x)=its.any (wU x) by simp,mM r fs]
  exact q
 ·obtain⟨its,r,pl,hz⟩:=I.tuple hq
  refine SeqAt.in_tupleAt (wU x) pl (fun w hw=>kI rx fx r fs w (by simpa using hw)) ⟨.bl _,H,I,rfl,?_⟩
  rw[show its.toArray.any (wU x)=its.any (wU x) by simp,mM r fs]
  exact q
theorem s_:OpR X (compareOp .NotIn) (J0 X.K true):=by
 intro pins s σ H x y v u Q I rx ry h
 obtain⟨p,xs,rfl,hq,fx,fs,q⟩:=h
 cases ry
 rcases hq with hq |hq
 ·obtain⟨its,r,pl,hz⟩:=I.list hq
  refine SeqAt.notIn_listAt (wU x) pl.isList (fun w hw=>kI rx fx r fs w (by simpa using hw)) ⟨.bl _,H,I,rfl,?_⟩
  rw[show its.toArray.any (wU x)=its.any (wU x) by simp,mM r fs]
  exact q
 ·obtain⟨its,r,pl,hz⟩:=I.tuple hq
  refine SeqAt.notIn_tupleAt (wU x) pl (fun w hw=>kI rx fx r fs w (by simpa using hw)) ⟨.bl _,H,I,rfl,?_⟩
  rw[show its.toArray.any (wU x)=its.any (wU x) by simp,mM r fs]
  exact q
theorem tj:OpR X (compareOp .NotIn) (fun x y H Q=>∃i j,x=.str i∧y=.str j∧Q (.bl (!(!(Builtin.Str.occurrences j i 0 j.length 1).isEmpty))) H):=by
 intro pins s σ H x y v u Q I rx ry h
 obtain⟨i,j,rfl,rfl,q⟩:=h
 obtain⟨t,rfl⟩:=rx
 obtain⟨t',rfl⟩:=ry
 exact notIn_str ⟨.bl _,H,I,rfl,q⟩
theorem tu:CallR X (.builtin "len") (fun xs H Q=>∃p ys,xs=[.ref p]∧(SqL X.K H p ys∨SqT X.K H p ys)∧Q (.int ys.length) H):=by
 intro pins s σ H xs us Q I r h
 obtain⟨p,ys,rfl,hq,q⟩:=h
 obtain⟨u,rfl,rx⟩:=rC r
 cases rx
 have hn:=md
 rcases hq with hq |hq
 ·obtain⟨its,r',pl,hz⟩:=I.list hq
  have hlen:=r'.length
  exact Calls.call_len_list pl.isList (by simp only[lS] <;> omega) ⟨.int ys.length,H,I.tok _,⟨s.toks+1,by rw[lS,hlen]⟩,q⟩
 ·obtain⟨its,r',pl,hz⟩:=I.tuple hq
  have hlen:=r'.length
  exact len_tuple pl (by simp only[lS] <;> omega) ⟨.int ys.length,H,I.tok _,⟨s.toks+1,by rw[lS,hlen]⟩,q⟩
theorem tw:CallR X (.builtin "len") (fun xs H Q=>∃z,xs=[.str z]∧z.length≤sizeLine∧Q (.int z.length) H):=by
 intro pins s σ H xs us Q I r h
 obtain⟨z,rfl,hz,q⟩:=h
 obtain⟨u,rfl,t,rfl⟩:=rC r
 have hn:=md
 exact len_str (by omega) ⟨.int z.length,H,I.tok _,⟨_,rfl⟩,q⟩
theorem CallR.or{f:Value}{r r':List V→Hp→VK→Prop}(h:CallR X f r)(h':CallR X f r'):CallR X f (fun xs H Q=>r xs H Q∨r' xs H Q):=by
 intro pins s σ H xs us Q I rs q
 rcases q with q |q
 ·exact h pins s σ H xs us Q I rs q
 ·exact h' pins s σ H xs us Q I rs q
theorem tz:CallR X (.type "list") (fun xs H Q=>∃p ys,xs=[.ref p]∧(SqL X.K H p ys∨SqT X.K H p ys)∧∀l,H l=none→Q (.ref l) (upd H l (.lst ys))):=by
 intro pins s σ H xs us Q I r h
 obtain⟨p,ys,rfl,hq,q⟩:=h
 obtain⟨u,rfl,rx⟩:=rC r
 cases rx
 have fin:∀(its:List Value),Vals ys its→ys.length≤sizeLine→∀(h':Heap) (c':Nat),(∀b o',s.heap.get? b=some o'→h'.get? b=some o')→
   h'.get? s.heap.objs.size=some {cls:=.type "list",dict:=none,data:=.seq its.toArray c',slots:=#[]}→EP X pins σ Q (.ref s.heap.objs.size) {s with heap:=h'}:=fun its r' hz h' c' kp e=>
  ⟨.ref s.heap.objs.size,_,I.laid (t':=s.toks) kp (gi _) (show ObjOk X.prog X.w _ h' _ (.lst ys)from⟨hz,its,c',r',e⟩),rfl,q _ (I.hok.fresh (gi _))⟩
 rcases hq with hq |hq
 ·obtain⟨its,r',pl,hz⟩:=I.list hq
  have hlen:=r'.length
  obtain⟨o,ho,hc,n,hd⟩:=pl.isList
  exact call_list_seq p (.inl rfl) ho hc hd (fun h' c' kp e=>fin its r' hz h' c' kp e) (by simp only[lS] <;> omega)
 ·obtain⟨its,r',pl,hz⟩:=I.tuple hq
  have hlen:=r'.length
  obtain⟨o,ho,hc,n,hd⟩:=pl
  exact call_list_seq p (.inr rfl) ho hc hd (fun h' c' kp e=>fin its r' hz h' c' kp e) (by simp only[lS] <;> omega)
def JC(K:Frag)(T:String)(x:V)(H:Hp):Prop:=match x with
 |.str _=>T="str"
 |.int _=>T="int"
 |.ref p=>(T="list"∧∃xs,SqL K H p xs)∨(T="tuple"∧∃o,K.lookup p=some o∧o.cls=.type "tuple"∧o.dict=none)∨
   (T="dict"∧((∃kvs,H p=some (.dK kvs))∨∃kvs,H p=some (.dT kvs)))∨(T="set"∧∃S n,H p=some (.set S n))
 |_=>False
theorem BQ{pins:List (Addr×Obj)}{σ:St}{H:Hp}{s:Shared}{T:String}{x:V}{v:Value}(I:Inv X pins σ H s)(r:RelV x v)(ty:JC X.K T x H):
  s.TypeIs v T∧∀a,v=.ref a→∃ob,s.heap.get? a=some ob∧ob.dict=none:=by
 cases x with
 |str z=>
  obtain⟨t,rfl⟩:=r
  cases(show T="str" from ty)
  exact⟨typeIs_str s z t,fun _ e=>nomatch e⟩
 |int i=>
  obtain⟨t,rfl⟩:=r
  cases(show T="int" from ty)
  exact⟨typeIs_int s i t,fun _ e=>nomatch e⟩
 |ref p=>
  cases r
  rcases ty with⟨rfl,xs,hq⟩ |⟨rfl,o,hk,hc,hd⟩ |⟨rfl,hk⟩ |⟨rfl,S,n,hk⟩
  ·obtain⟨its,_,pl,_⟩:=I.list hq
   refine⟨pl.isList.typeIs,fun a e=>?_⟩
   cases e
   obtain⟨o,n,e,c,hd,_⟩:=pl
   exact⟨o,e,hd⟩
  ·refine⟨⟨o,I.kIn p o hk,hc⟩,fun a e=>?_⟩
   cases e
   exact⟨o,I.kIn _ o hk,hd⟩
  ·have z:∃o,s.heap.get? p=some o∧o.ExactDict:=by
    rcases hk with⟨kvs,hk⟩ |⟨kvs,hk⟩
    ·obtain⟨_,_,_,_,o,_,_,e,ex,_⟩:=I.hok p _ hk
     exact⟨o,e,ex⟩
    ·obtain⟨_,_,_,_,o,_,_,e,ex,_⟩:=I.hok p _ hk
     exact⟨o,e,ex⟩
   obtain⟨o,e,ex⟩:=z
   refine⟨⟨o,e,ex.1⟩,fun a e2=>?_⟩
   cases e2
   exact⟨o,e,ex.2.1⟩
  ·obtain⟨o,_,_,_,e,ex,_⟩:=I.hok p _ hk
   refine⟨⟨o,e,ex.1⟩,fun a e2=>?_⟩
   cases e2
   exact⟨o,e,ex.2.1⟩
 |_=>exact False.elim ty
def J4(K:Frag)(T:String)(r:V→List V→Hp→VK→Prop)(to:TE):TE:=fun σ H Q=>to σ H fun x H1=>JC K T x H1∧r x [] H1 Q
def Kz(K:Frag)(T:String)(r:V→List V→Hp→VK→Prop)(to:TE)(t:TA):TE:=fun σ H Q=>to σ H fun x H1=>JC K T x H1∧t σ H1 fun xs H2=>r x xs H2 Q
variable {o e:Expr} {es:List Expr} {to:TE} {t:TA} {name:Str} {apos cpos:Pos} {T id:String} {r:V→List V→Hp→VK→Prop}
theorem G2 (pa:PlainAttrs T) (slot:Slot T name id) (hty:typeOf (.builtin id)=pure (.type "method_descriptor")) (hm:MtR X id r) (ho:PE X o to)
  (hbase:attributeBase o name X.env (eval o X.env)=eval o X.env:=by rfl) (hline:(apos.endLine == cpos.line)=true:=by rfl):PE X (.Call (.Attribute o name apos) [] [] cpos) (J4 X.K T r to):=by
 intro pins s σ H Q I h
 refine wpAny_Call_method0_late hbase hline (fc (ho pins s σ H _ I h) fun v s1 ⟨x,H1,I1,r1,ty,q1⟩=>?_)
 obtain⟨h1,h2⟩:=BQ I1 r1 ty
 exact⟨T,id,pa,slot,hty,h1,h2,Calls.callWith_builtin rfl (PySem.evalArgs_none (hm pins s1 σ H1 x [] v [] Q I1 r1 .nil q1))⟩
theorem u0 (pa:PlainAttrs T) (slot:Slot T name id) (hty:typeOf (.builtin id)=pure (.type "method_descriptor")) (hm:MtR X id r) (ho:PE X o to) (ha:PA X (e::es) t)
  (hbase:attributeBase o name X.env (eval o X.env)=eval o X.env:=by rfl)
  (hfew:((backTo cpos (starEach (e::es) X.env)).all (fun x=> !x.1)&&(backToKw cpos (keywordEach [] X.env)).all (fun x=>x.1.isSome)
   &&decide ((e::es).length+([]:List Keyword).length+(if ([]:List Keyword).isEmpty then 0 else 1) < 30))=true:=by rfl)
  (hline:(apos.endLine == cpos.line)=true:=by rfl) (hs:starEach (e::es) X.env=(false,eval e X.env)::starEach es X.env:=by rfl) (hplain:(backTo cpos (starEach es X.env)).any (·.1)=false:=by rfl):
  PE X (.Call (.Attribute o name apos) (e::es) [] cpos) (Kz X.K T r to t):=by
 intro pins s σ H Q I h
 refine wpAny_Call_method_late hbase hfew hline rfl (fc (ho pins s σ H _ I h) fun v s1 ⟨x,H1,I1,r1,ty,q1⟩=>?_)
 obtain⟨h1,h2⟩:=BQ I1 r1 ty
 refine⟨T,id,pa,slot,hty,h1,h2,?_⟩
 have hA:=ha cpos pins s1 σ H1 _ I1 q1
 rw[hs]at hA ⊢
 refine Calls.callWith_builtin (by show(false||(backTo cpos (starEach es X.env)).any (·.1))=false;rw[hplain] <;> rfl) (Calls.evalArgs_plain ?_)
 exact fc hA fun us s2 ⟨vs,H2,I2,r2,q2⟩=>hm pins s2 σ H2 x vs v us Q I2 r1 r2 q2
end
end L2
namespace L2
open PySem PySem.Spec PyProof.Rows
def Ks(X:Cx)(id:String)(r:V→List V→Hp→VK→Prop):Prop:=
 ∀(pins:List (Addr×Obj)) (s:Shared) (σ:St) (H:Hp) (x:V) (xs:List V) (v:Value) (us:List Value) (Q:VK),Inv X pins σ H s→RelV x v→Vals xs us→r x xs H Q→
  wpAny (model X.prog X.w) X.A (call (.builtin id) (v::us)) (EP X pins σ Q) X.xe s
theorem Vals.one{x:V}{us:List Value}(h:Vals [x] us):∃u,us=[u]∧RelV x u:=by
 cases h with
 |cons r t=>cases t;exact⟨_,rfl,r⟩
theorem Vals.two{x y:V}{us:List Value}(h:Vals [x,y] us):∃u v,us=[u,v]∧RelV x u∧RelV y v:=by
 cases h with
 |cons r t=>
  obtain⟨v,rfl,q⟩:=Vals.one t
  exact⟨_,_,rfl,r,q⟩
theorem Vals.zero:∀{us:List Value},Vals [] us→us=[]
 |_,.nil=>rfl
theorem Vals.dropLast{xs:List V}{us:List Value}(h:Vals xs us):Vals xs.dropLast us.dropLast:=by
 induction h with
 |nil=>exact .nil
 |cons r t ih=>
  cases t with
  |nil=>exact .nil
  |cons q t'=>exact .cons r ih
theorem Vals.rep{xs:List V}{us:List Value}(h:Vals xs us):∀k:Nat,Vals (List.replicate k xs).flatten (List.replicate k us).flatten
 | 0=>.nil
 |k+1=>by
  rw[List.replicate_succ,List.replicate_succ,List.flatten_cons,List.flatten_cons]
  exact Vals.append h (Vals.rep h k)
theorem wV{α:Type}(l:List α):l.eraseIdx (l.length - 1)=l.dropLast:=by
 induction l with
 |nil=>rfl
 |cons a r ih=>
  cases r with
  |nil=>rfl
  |cons b r=>
   have e:(a::b::r).length - 1=((b::r).length - 1)+1:=by
    have h1:(a::b::r).length=r.length+2:=rfl
    have h2:(b::r).length=r.length+1:=rfl
    omega
   rw[e,List.eraseIdx_cons_succ,ih]
   all_goals rfl
section
variable {X:Cx} {pins:List (Addr×Obj)} {σ:St} {H:Hp} {s:Shared} {l b:Addr} {xs ys zs:List V}
theorem Inv.lset{its its':List Value}{n:Nat}{f:Array Value→Array Value}{t':Nat}(I:Inv X pins σ H s)(hH:H l=some (.lst xs))
  (e:s.heap.get? l=some {cls:=.type "list",data:=.seq its.toArray n}) (hf:f its.toArray=its'.toArray) (hv:Vals ys its') (hz:ys.length≤sizeLine):
  Inv X pins σ (upd H l (.lst ys)) {s with heap:=s.heap.update l (Obj.mapSeq f),toks:=t'}:=by
 have q:=PySem.IsL.update e f
 rw[hf]at q
 refine I.write (x:=l) (e:=l) (by rw[hH];exact trivial) (.inl rfl) (fun b' u hb hu=>(Heap.get?_update_other s.heap (Obj.mapSeq f) (Ne.symm hb)).trans hu) ⟨_,q⟩ ?_
 exact⟨hz,its',_,hv,q⟩
theorem Inv.lnew{its:List Value}{t':Nat}(I:Inv X pins σ H s)(hv:Vals ys its)(hz:ys.length≤sizeLine):
  Inv X pins σ (upd H s.heap.objs.size (.lst ys)) {s with heap:=s.heap.push {cls:=.type "list",data:=.seq its.toArray},toks:=t'}:=
 I.laid (fun _ _ q=>iB _ q) (gi _) ⟨hz,its,0,hv,l_ _ rfl⟩
theorem Inv.fresh(I:Inv X pins σ H s):H s.heap.objs.size=none:=I.hok.fresh (gi _)
theorem Inv.lstM(I:Inv X pins σ H s)(hH:H l=some (.lst xs)):xs.length≤sizeLine∧∃(its:List Value) (n:Nat),Vals xs its∧xs.length=its.length∧s.heap.get? l=some {cls:=.type "list",data:=.seq its.toArray n}:=by
 obtain⟨z,its,n,r,e⟩:=I.hok l _ hH
 exact⟨z,its,n,r,r.length,e⟩
end
section
variable {X:Cx}
def yn:V→List V→Hp→VK→Prop:=fun x vs H Q=>∃l xs y,x=.ref l∧vs=[y]∧H l=some (.lst xs)∧xs.length < sizeLine∧Q .non (upd H l (.lst (xs++[y])))
theorem nw:Ks X "list.append" yn:=by
 intro pins s σ H x vs v us Q I rx rv h
 obtain⟨l,xs,y,rfl,rfl,hH,hz,q⟩:=h
 cases rx
 obtain⟨u,rfl,ru⟩:=rv.one
 obtain⟨z,its,n,r,hl,e⟩:=I.lstM hH
 refine call_meets F.slot_list_append ⟨_,e,rfl⟩ F.entry_list_append (F.args_list_append_2 _ _) (PySem.list_append l its.toArray n u (by rw[lS];omega)) ⟨e,?_⟩
 refine⟨.non,_,I.lset (its':=its++[u]) hH e (by simp) (r.append (.cons ru .nil)) ?_,rfl,q⟩
 rw[pI,List.length_singleton]
 omega
def J5:V→List V→Hp→VK→Prop:=fun x vs H Q=>∃l xs y,x=.ref l∧vs=[]∧H l=some (.lst xs)∧xs[xs.length - 1]? =some y∧Q y (upd H l (.lst xs.dropLast))
theorem G3:Ks X "list.pop" J5:=by
 intro pins s σ H x vs v us Q I rx rv h
 obtain⟨l,xs,y,rfl,rfl,hH,hy,q⟩:=h
 cases rx
 have hus:=rv.zero
 subst hus
 obtain⟨z,its,n,r,hl,e⟩:=I.lstM hH
 obtain⟨u,hu,ru⟩:=r.get hy
 have hy':its.toArray[its.toArray.size - 1]? =some u:=by
  show its.toArray[its.length - 1]? =some u
  rw[←Array.getElem?_toList,←hl]
  exact hu
 refine call_meets F.slot_list_pop ⟨_,e,rfl⟩ F.entry_list_pop (F.args_list_pop_1 _) (MeetsSeq.list_pop_last l its.toArray n u hy' (by rw[lS];omega)) ⟨e,?_⟩
 refine⟨y,_,I.lset (its':=its.dropLast) hH e ?_ r.dropLast ?_,ru,q⟩
 ·show its.toArray.eraseIdxIfInBounds (its.toArray.size - 1)=its.dropLast.toArray
  rw[lS,List.eraseIdxIfInBounds_toArray,wV]
 ·rw[List.length_dropLast]
  omega
theorem Ep{α:Type}(xs:List α)(k:Nat):(List.replicate k xs).flatten.length=k*xs.length:=by
 induction k with
 |zero=>simp
 |succ k ih=>rw[List.replicate_succ,List.flatten_cons,pI,ih,Nat.succ_mul,Nat.add_comm]
end
end L2
namespace Att
open PySem PySem.W PySem.Calls PyProof.Rows
theorem oZ{P:Params}{h:Heap}:∀(ns:List Int) (vs:List Value),WellAll P h vs (ns.map WData.int)→IntsAre vs ns:=by
 intro ns
 induction ns with
 |nil=>
  intro vs w
  rw[f6]at w
  cases w
  exact .nil
 |cons n ns ih=>
  intro vs w
  rw[bE]at w
  cases w with
  |cons a b=>
   cases a
   exact .cons _ _ (ih _ b)
theorem zW{l:OpenLaw}{n:Nat}(hn:l.most=some n){P:Params}{h:Heap}{args:List WData}{vals:List Value}
  (hpre:l.row.toRowW.claim.pre args=true) (hwl:WellAll P h vals args):
  ∃a vs ns,vals=[Value.ref a]∧args=[WData.list (ns.map WData.int)]∧h.get? a=some {cls:=.type "list",data:=.seq vs.toArray}∧IntsAre vs ns∧ns.length≤n:=by
 have hsh:WShape.hasAll [] args [.list .int]=true:=(pre_splitW hpre).1
 have hc:l.pre.holds [] {args:=args}=true:=(pre_splitW hpre).2
 obtain⟨d,r,rfl,h1,h2⟩:=hasAllW_cons hsh
 obtain rfl:=hasAllW_nil h2
 obtain⟨xs,rfl,h3⟩:=hasW_list h1
 obtain⟨ns,rfl⟩:=items_int h3
 have hlen:ns.length≤n:=by
  unfold OpenLaw.pre at hc
  have h4:(WTm.not (.lt (.lit (.int (n:Int))) (.len (.arg 0)))).holds [] {args:=[.list (ns.map .int)]}=true:=by
   have h4:=(holds_andW hc).1
   rw[hn]at h4
   exact h4
  have h5:=condW_of h4 (w_not (w_lt w_lit (w_len_list (w_arg rfl))))
  rw[fw]at h5
  refine Nat.le_of_not_lt fun q=>?_
  have q':(n:Int) < ((ns.length:Nat):Int):=by omega
  first
   |(rw[decide_eq_true q']at h5;exact absurd h5 (by decide))
   |(simp at h5;omega)
 cases hwl with
 |cons w1 w2=>
  cases w2
  cases w1 with
  |list ho hall=>exact⟨_,_,ns,rfl,rfl,ho,oZ ns _ hall,hlen⟩
theorem zX(l:OpenLaw)(args:List WData):l.row.toRowW.claim.post args (.bool true) args=true:=
 postW_of (r:=l.row.toRowW) (X:=(true == true))
  (show WShape.has [] (.bool true) .bool=true by first |rfl |decide |simp[WShape.has,WShape.arms,WShape.armsAll])
  (show(WTm.eq .res (.lit (.bool true))).value [] {args:=args,res:=some (.bool true),after:=args}=some (.bool (true == true))from w_eq_bool (w_res rfl) w_lit) rfl
theorem u4{l:OpenLaw}{n:Nat}{q:Program}{loose:List Str}{XP:(Str→Option Value)→Heap→Prop}{YP:World→Heap→Prop}{d:DefRec}
  (hn:l.most=some n) (hdf:d.params.defaults=[])
  (call:∀(w:World) (s₀ s₁:Shared) (mg mb:Str→Option Value) (fa:Addr) (o:Obj) (pm cd doc:Value) (a:Addr) (vs:List Value) (ns:List Int),
   Ground q loose [] XP w s₀ mg mb s₁.heap→YP w s₁.heap→
   s₁.heap.get? fa=some o→o.data=.func (docDef d.name d.params d.body d.scope pm cd doc)→s₁.heap.CodeRec cd d.name→mg d.name=some (.ref fa)→
   s₁.heap.get? a=some {cls:=.type "list",data:=.seq vs.toArray}→IntsAre vs ns→ns.length≤n→s₁.gens=#[]→
   codeAny (model l.prog w) callerA (.call (.ref fa) ⟨[.ref a],[]⟩) (fun r s'=>r=.ok (.ret (.bool true))∧OldK s₁.heap s'.heap∧s'.os=s₁.os∧AllBare s'.gens) s₁):
  WalkO q loose XP YP l.row.toRowW d [] (fun f vs=>PySem.call f vs):=by
 intro w s₀ s₁ mg mb G Y fa o pm cd doc dV kV ho hd hcd hD hmg hg args vals as hpre hlay hrd hwl hlo
 obtain rfl:dV=.none:=Dflts.none hD hdf
 obtain rfl:kV=.none:=Dflts.noKw hD
 obtain⟨a,vs,ns,rfl,rfl,hobj,hints,hlen⟩:=zW hn hpre hwl
 refine enter_call (codeAny_mono (call w s₀ s₁ mg mb fa o pm cd doc a vs ns G Y ho (fd_plain hd) hcd hmg hobj hints hlen hg) fun r s' hq=>?_)
 obtain⟨rfl,h2,h3,h4⟩:=hq
 exact⟨.inl ⟨.bool true,.bool true,[],rfl,fun _=>rfl,.bool true,zX l _,fun _=>⟨List.Pairwise.nil,fun _ hm=>(nomatch hm)⟩⟩,h2,h3,h4⟩
end Att
namespace L2
open PySem PySem.Spec PyProof.Rows
theorem lm:∀{vs:List Value} {ns:List Int},IntsAre vs ns→Vals (ns.map V.int) vs
 |_,_,.nil=>.nil
 |_,_,.cons n t h=>.cons ⟨t,rfl⟩ (lm h)
theorem ObjOk.tbl0{P:Program}{w:World}{H:Hp}{h:Heap}{b:Addr}{q:Str}(e:h.get? b=some (tabObj #[])):ObjOk P w H h b (.tbl q):=⟨#[],e,trivial,fun pos cv z=>by cases z⟩
end L2
namespace L2
open PySem PySem.Spec PyProof.Rows
def fP(s:Stmt):Arguments:=match s with
 | .FunctionDef _ a _ _ _ _ _ _ _ _=>a
 |_=>{posonlyargs:=[],args:=[],vararg:=none,kwonlyargs:=[],kw_defaults:=[],kwarg:=none,defaults:=[]}
def dm(s:Stmt):List Stmt:=match s with
 | .FunctionDef _ _ b _ _ _ _ _ _ _=>b
 |_=>[]
def ao(s:Stmt):Scope:=match s with
 | .FunctionDef _ _ _ _ _ _ sc _ _ _=>sc
 |_=>{kind:=.function,names:=[],isGenerator:=false,isCoroutine:=false}
abbrev zY:BM:=fun _ _ _ _ _ _=>False
abbrev E0:XK:=fun _ _ _=>False
theorem IM{X:Cx}:wS zY X E0:=fun _ _ _ _ _ _ _ h=>h.elim
structure Fun (K:Frag) (x qual:Str) (st:Stmt) (f:Addr) (fd:FuncData):Prop where
 ex:∃(oc:Value) (od:Option Addr) (kV doc pm:Value) (an:Option Addr) (cdv ct:Value) (osl:Array (Option Value)),
  fd=fnOf x qual (fP st) (dm st) (ao st) .none kV doc pm an cdv ct∧K.lookup f=some ⟨oc,od,.func fd,osl⟩∧codeIn K cdv qual=true
 kp:keepIn K (.ref f)=true
section
variable {P:Program} {w:World} {K:Frag} {mg:Str→Option Value} {base:Heap}
theorem Fun.ok{x qual:Str}{st:Stmt}{f:Addr}{fd:FuncData}{N ps:List Str}{k:Nat}{sp:Sp}(F:Fun K x qual st f fd)(S:FnScope N ps (ao st))(len:∀vs H Q E,sp vs H Q E→vs.length=ps.length)
  (hbody:∀(cdv:Value) (A:Around) (outer:List Env) (s:Shared) (H:Hp) (vs:List V) (Q:VK) (E:XK),Room k (A.deeper (envOfC qual (ao st) s.heap.objs.size f cdv))→sp vs H Q E→
   ∃t,PSs (qP zY P w K mg base N qual (ao st) f cdv A outer s H E).nox (dm st) t∧t {nx:=fun _ H'=>Q .non H',rt:=Q} (jj N vs) H):FnOk P w K mg base zY (k+1) f fd ps sp:=by
 obtain⟨oc,od,kV,doc,pm,an,cdv,ct,osl,rfl,lk,hcd⟩:=F.ex
 refine FX lk hcd S len fun A outer s H vs Q E hr hsp=>?_
 obtain⟨t,h,q⟩:=hbody cdv A outer s H vs Q E hr hsp
 exact⟨t,h.nox,q⟩
theorem Fun.binds{x qual:Str}{st:Stmt}{f:Addr}{fd:FuncData}{ps:List Str}(F:Fun K x qual st f fd)
  (h:∀(kV doc pm:Value) (an:Option Addr) (cdv ct:Value) (us:List Value),us.length=ps.length→bindArgs (fnOf x qual (fP st) (dm st) (ao st) .none kV doc pm an cdv ct) ⟨us,[]⟩=pure (ps.zip us)):Binds K fd ps []:=by
 obtain⟨oc,od,kV,doc,pm,an,cdv,ct,osl,rfl,lk,hcd⟩:=F.ex
 exact .all (h kV doc pm an cdv ct)
theorem wW{x qual:Str}{st:Stmt}{f:Addr}{oc:Value}{od an:Option Addr}{osl:Array (Option Value)}{kV doc pm cdv ct:Value}(l:K.lookup f=some ⟨oc,od,.func (fnOf x qual (fP st) (dm st) (ao st) .none kV doc pm an cdv ct),osl⟩)
  (c:codeIn K cdv qual=true) (k:keepIn K (.ref f)=true):Fun K x qual st f (fnOf x qual (fP st) (dm st) (ao st) .none kV doc pm an cdv ct):=⟨⟨oc,od,kV,doc,pm,an,cdv,ct,osl,rfl,l,c⟩,k⟩
end
section
variable {X:Cx}
theorem pv (i:Nat) {x:Str} {pos:Pos} (hN:X.N[i]? =some x:=by rfl) (hv:Br X.env.scope x:=by first |exact Or.inl rfl |exact Or.inr (Or.inl rfl) |exact Or.inr (Or.inr rfl)) (hd:(x == ("__debug__":Str))=false:=by decide)
  (hcd:(x == ("__classdict__":Str))=false:=by decide):PE X (.Name x pos) (jg i):=jr hN hv hd hcd
end
def Same(H H':Hp):Prop:=∀b o,H b=some o→H' b=some o
theorem Same.refl(H:Hp):Same H H:=fun _ _ h=>h
theorem Same.trans{H H1 H2:Hp}(a:Same H H1)(b:Same H1 H2):Same H H2:=fun c o h=>b c o (a c o h)
theorem Same.free{H H':Hp}(e:Same H H'){l:Addr}(h:H' l=Option.none):H l=Option.none:=by
 cases q:H l with
 |none=>rfl
 |some o=>
  rw[e l o q]at h
  cases h
theorem Same.seq{K:Frag}{H H':Hp}{a:Addr}{xs:List V}(e:Same H H')(h:SqL K H a xs):SqL K H' a xs:=by
 rcases h with(h |⟨o,h⟩) |h
 ·exact .inl (.inl (e _ _ h))
 ·exact .inl (.inr ⟨o,e _ _ h⟩)
 ·exact .inr h
end L2
namespace NH
section
variable {α:Type} [DecidableEq α]
def stp(r:List (α×Int))(p:α×Int):List (α×Int):=
 match r with
 |[]=>if p.2=0 then []else [p]
 |q::r'=>if q.1=p.1 then (if q.2+p.2=0 then r' else (p.1,q.2+p.2)::r')else (if p.2=0 then q::r' else p::q::r')
def stk(c:List (α×Int)):List (α×Int):=c.foldl stp []
def short(c:List (α×Int)):List (α×Int):=(stk c).reverse
def tB(c:List (α×Int)):List (α×Int):=c.foldr (fun p r=>stp r p) []
def Red:List (α×Int)→Prop
 |[]=>True
 |[p]=>p.2≠0
 |p::q::r=>p.2≠0∧p.1≠q.1∧Red (q::r)
theorem Red.tail{p:α×Int}{r:List (α×Int)}(h:Red (p::r)):Red r:=by
 cases r with
 |nil=>trivial
 |cons q r=>exact h.2.2
theorem Red.head{p:α×Int}{r:List (α×Int)}(h:Red (p::r)):p.2≠0:=by
 cases r with
 |nil=>exact h
 |cons q r=>exact h.1
theorem Red.cons{p:α×Int}{r:List (α×Int)}(h0:p.2≠0)(h1:∀q∈r.head?,p.1≠q.1)(h:Red r):Red (p::r):=by
 cases r with
 |nil=>exact h0
 |cons q r=>exact⟨h0,h1 q rfl,h⟩
theorem Red.next{p:α×Int}{r:List (α×Int)}(h:Red (p::r)):∀q∈r.head?,p.1≠q.1:=by
 cases r with
 |nil=>intro q hq;cases hq
 |cons q r=>intro q' hq;cases hq;exact h.2.1
theorem Er{r:List (α×Int)}(h:Red r)(p:α×Int):Red (stp r p):=by
 cases r with
 |nil=>
  unfold stp
  by_cases h0:p.2=0
  ·simp[h0,Red]
  ·simp[h0,Red]
 |cons q r=>
  show Red (if q.1=p.1 then (if q.2+p.2=0 then r else (p.1,q.2+p.2)::r)else (if p.2=0 then q::r else p::q::r))
  by_cases e:q.1=p.1
  ·rw[if_pos e]
   by_cases z:q.2+p.2=0
   ·rw[if_pos z];exact h.tail
   ·rw[if_neg z]
    refine Red.cons z (fun s hs=>?_) h.tail
    rw[←e];exact h.next s hs
  ·rw[if_neg e]
   by_cases z:p.2=0
   ·rw[if_pos z];exact h
   ·rw[if_neg z];exact⟨z,fun t=>e t.symm,h⟩
theorem rH:∀(c:List (α×Int)) {r:List (α×Int)},Red r→Red (c.foldl stp r)
 |[],_,h=>h
 |p::c,_,h=>rH c (Er h p)
theorem Es(c:List (α×Int)):Red (stk c):=rH c trivial
theorem u5{r:List (α×Int)}(h:Red r)(n:α):stp r (n,0)=r:=by
 cases r with
 |nil=>simp[stp]
 |cons q r=>
  have:=h.head
  unfold stp
  by_cases e:q.1=n
  ·obtain⟨a,b⟩:=q
   simp at e this
   subst e
   simp[this]
  ·simp[e]
theorem Et{r:List (α×Int)}(h:Red r)(n:α)(a b:Int):stp (stp r (n,a)) (n,b)=stp r (n,a+b):=by
 cases r with
 |nil=>
  by_cases ha:a=0
  ·subst ha;simp[stp]
  ·simp[stp,ha]
 |cons q r=>
  obtain⟨m,u⟩:=q
  have hu:u≠0:=h.head
  by_cases e:m=n
  ·subst e
   by_cases z:u+a=0
   ·have e1:stp ((m,u)::r) (m,a)=r:=by simp[stp,z]
    rw[e1]
    have ez:u+(a+b)=b:=by omega
    have hn:=h.next
    cases r with
    |nil=>
     by_cases hb:b=0
     ·subst hb;simp[stp];omega
     ·simp[stp,ez,hb]
    |cons s r=>
     have e2:¬s.1=m:=fun t=>hn s rfl t.symm
     by_cases hb:b=0
     ·subst hb;simp[stp,e2];omega
     ·simp[stp,ez,hb,e2]
   ·have e1:stp ((m,u)::r) (m,a)=(m,u+a)::r:=by simp[stp,z]
    rw[e1]
    simp only[stp,if_true]
    rw[Int.add_assoc]
  ·by_cases ha:a=0
   ·subst ha;simp[stp,e]
   ·simp[stp,e,ha]
def contr(c:List (α×Int)):List (α×Int):=c.reverse.map fun p=>(p.1,-p.2)
theorem gr(c:List (α×Int)):(contr c).length=c.length:=by simp[contr]
def sn(w:List (α×Int))(p:α×Int):List (α×Int):=(stp w.reverse p).reverse
def Bs(p x:α×Int):List (α×Int):=if x.1=p.1 then (if x.2+p.2=0 then []else [(p.1,x.2+p.2)])else (if p.2=0 then [x]else [p,x])
theorem jB(p x:α×Int)(r:List (α×Int)):stp (x::r) p=Bs p x++r:=by
 show(if x.1=p.1 then (if x.2+p.2=0 then r else (p.1,x.2+p.2)::r)else (if p.2=0 then x::r else p::x::r))=Bs p x++r
 unfold Bs
 by_cases e:x.1=p.1
 ·rw[if_pos e,if_pos e];split <;> rfl
 ·rw[if_neg e,if_neg e];split <;> rfl
def J6(x p:α×Int):List (α×Int):=(Bs p x).reverse
theorem yo(p x:α×Int)(r:List (α×Int)):sn (r++[x]) p=r++J6 x p:=by
 unfold sn J6
 rw[List.reverse_append,List.reverse_singleton,List.singleton_append,jB,List.reverse_append,Bp]
theorem IN(p q:α×Int)(x:α×Int)(hx:x.2≠0):stp (sn [x] q) p=sn (stp [x] p) q:=by
 obtain⟨n,a⟩:=p
 obtain⟨k,b⟩:=q
 obtain⟨m,u⟩:=x
 simp at hx
 by_cases e1:m=n
 ·subst e1
  by_cases e2:m=k
  ·subst e2
   by_cases z1:u+a=0 <;> by_cases z2:u+b=0
   ·simp[stp,sn,z1,z2]
    have:a=b:=by omega
    have ha:a≠0:=by omega
    have hb:b≠0:=by omega
    simp[ha,hb,this]
   ·have hb:u+b+a=b:=by omega
    by_cases b0:b=0
    ·subst b0;simp[stp,sn,z1,hx]
    ·simp[stp,sn,z1,z2,hb,b0]
   ·have hb:u+a+b=a:=by omega
    by_cases a0:a=0
    ·subst a0;simp[stp,sn,z2,hx]
    ·simp[stp,sn,z1,z2,hb,a0]
   ·have hb:u+b+a=u+a+b:=by omega
    by_cases z3:u+a+b=0
    ·simp[stp,sn,z1,z2,hb,z3]
    ·simp[stp,sn,z1,z2,hb,z3]
  ·by_cases z1:u+a=0 <;> by_cases z2:b=0 <;> simp[stp,sn,e2,z1,z2]
 ·by_cases e2:m=k
  ·subst e2
   by_cases z1:u+b=0 <;> by_cases z2:a=0 <;> simp[stp,sn,e1,z1,z2]
  ·by_cases z1:a=0 <;> by_cases z2:b=0 <;> simp[stp,sn,e1,e2,z1,z2]
theorem IO(p q:α×Int):stp (sn [] q) p=sn (stp [] p) q:=by
 obtain⟨n,a⟩:=p
 obtain⟨k,b⟩:=q
 by_cases z1:a=0 <;> by_cases z2:b=0
 ·simp[stp,sn,z1,z2]
 ·by_cases e:k=n <;> simp[stp,sn,z1,z2,e]
 ·by_cases e:n=k <;> simp[stp,sn,z1,z2,e]
 ·by_cases e:k=n
  ·subst e
   by_cases z:a+b=0
   ·have z':b+a=0:=by omega
    simp[stp,sn,z1,z2,z,z']
   ·have z':¬b+a=0:=by omega
    simp[stp,sn,z1,z2,z,z']
    omega
  ·have e':¬n=k:=fun t=>e t.symm
   simp[stp,sn,z1,z2,e,e']
theorem comm(p q:α×Int){w:List (α×Int)}(h:Red w):stp (sn w q) p=sn (stp w p) q:=by
 cases w with
 |nil=>exact IO p q
 |cons x r=>
  rcases List.eq_nil_or_concat r with rfl |⟨m,y,e⟩
  ·exact IN p q x h
  ·have e':r=m++[y]:=by rw[e] <;> simp
   subst e'
   have e1:x::(m++[y])=(x::m)++[y]:=rfl
   have e2:sn (x::(m++[y])) q=x::(m++J6 y q):=by rw[e1,yo];rfl
   rw[e2,jB,jB,←pk,←pk,yo]
theorem ip:∀{m:List (α×Int)} {y z:α×Int},Red (m++[y])→z.2≠0→y.1≠z.1→Red (m++[y]++[z])
 |[],y,z,h,h0,h1=>⟨h,h1,h0⟩
 |[x],y,z,h,h0,h1=>⟨h.1,h.2.1,ip (m:=[]) h.2.2 h0 h1⟩
 |x::x'::m,y,z,h,h0,h1=>⟨h.1,h.2.1,ip (m:=x'::m) h.2.2 h0 h1⟩
theorem oB:∀{w:List (α×Int)},Red w→Red w.reverse
 |[],_=>trivial
 |[p],h=>h
 |p::q::r,h=>by
  have ih:=oB (w:=q::r) h.2.2
  rw[uK,uK]
  rw[uK]at ih
  exact ip ih h.1 fun t=>h.2.1 t.symm
theorem jC(c:List (α×Int)):Red (short c):=oB (Es c)
theorem pP(c:List (α×Int))(p:α×Int):short (c++[p])=sn (short c) p:=by
 unfold short stk sn
 rw[List.foldl_append,Bp]
 rfl
theorem gN(p:α×Int):∀c:List (α×Int),short (p::c)=stp (short c) p:=by
 intro c
 induction hn:c.length generalizing c with
 |zero=>
  have:c=[]:=List.length_eq_zero_iff.mp hn
  subst this
  simp[short,stk,stp]
  by_cases z:p.2=0 <;> simp[z]
 |succ n ih=>
  rcases List.eq_nil_or_concat c with rfl |⟨m,y,e⟩
  ·simp at hn
  ·have e':c=m++[y]:=by rw[e] <;> simp
   subst e'
   have hm:m.length=n:=by simp at hn;exact hn
   have e1:p::(m++[y])=(p::m)++[y]:=rfl
   rw[e1,pP,ih m hm,pP,comm p y (jC m)]
theorem jt:∀c:List (α×Int),short c=tB c
 |[]=>rfl
 |p::c=>by rw[gN,jt c];rfl
theorem tD(r:List (α×Int))(p:α×Int):(stp r p).length≤r.length+1:=by
 cases r with
 |nil=>by_cases z:p.2=0 <;> simp[stp,z]
 |cons q r=>rw[jB];unfold Bs;split <;> split <;> simp <;> omega
theorem ny:∀(c:List (α×Int)) (r:List (α×Int)),(c.foldl stp r).length≤r.length+c.length
 |[],r=>by simp
 |p::c,r=>by
  have h1:=ny c (stp r p)
  have h2:=tD r p
  simp only[List.foldl_cons,Z4]
  omega
theorem rJ(c:List (α×Int)):(short c).length≤c.length:=by
 have:=ny c []
 simpa[short,stk]using this
end
end NH
namespace L2
open PySem PySem.Spec PyProof.Rows
theorem hZ{H:Hp}{p:Addr}(h:H p=none)(o:HO):Same H (upd H p o):=fun b u q=>by rw[aG (b8 q h)];exact q
theorem Same.tup{K:Frag}{H H':Hp}{a:Addr}{xs:List V}(e:Same H H')(h:SqT K H a xs):SqT K H' a xs:=by
 rcases h with(h |⟨o,h⟩) |h
 ·exact .inl (.inl (e _ _ h))
 ·exact .inl (.inr ⟨o,e _ _ h⟩)
 ·exact .inr h
def SameBut(l:Addr)(H H':Hp):Prop:=∀b o,b≠l→H b=some o→H' b=some o
theorem SameBut.upd{H:Hp}{l:Addr}(o:HO):SameBut l H (upd H l o):=fun b u hb q=>by rw[aG hb];exact q
theorem Same.but{H H':Hp}(s:Same H H')(l:Addr):SameBut l H H':=fun b o _ q=>s b o q
theorem SameBut.trans{H H1 H2:Hp}{l:Addr}(a:SameBut l H H1)(b:SameBut l H1 H2):SameBut l H H2:=fun c o hc q=>b c o hc (a c o hc q)
theorem SameBut.same{H H':Hp}{l:Addr}(a:SameBut l H H')(h:H l=none):Same H H':=fun b o q=>a b o (b8 q h) q
theorem SameBut.tup{K:Frag}{H H':Hp}{l a:Addr}{xs ys:List V}(e:SameBut l H H')(hl:H l=some (.lst ys))(h:SqT K H a xs):SqT K H' a xs:=by
 rcases h with(h |⟨o,h⟩) |h
 ·exact .inl (.inl (e _ _ (Bt h hl (by intro z;cases z)) h))
 ·exact .inl (.inr ⟨o,e _ _ (Bt h hl (by intro z;cases z)) h⟩)
 ·exact .inr h
mutual
inductive DOf (K:Frag) (H:Hp):V→PyData→Prop
 |non:DOf K H .non .none
 |bl (b:Bool):DOf K H (.bl b) (.bool b)
 |int (i:Int):DOf K H (.int i) (.int i)
 |str (x:Str):DOf K H (.str x) (.str x)
 |lst {a:Addr} {xs:List V} {ds:List PyData}:SqL K H a xs→DAll K H xs ds→DOf K H (.ref a) (.list ds)
 |tup {a:Addr} {xs:List V} {ds:List PyData}:SqT K H a xs→DAll K H xs ds→DOf K H (.ref a) (.tuple ds)
inductive DAll (K:Frag) (H:Hp):List V→List PyData→Prop
 |nil:DAll K H [] []
 |cons {x:V} {xs:List V} {d:PyData} {ds:List PyData}:DOf K H x d→DAll K H xs ds→DAll K H (x::xs) (d::ds)
end
section
variable {X:Cx} {pins:List (Addr×Obj)} {σ:St} {H:Hp} {s:Shared}
theorem DOf.reads(I:Inv X pins σ H s){x:V}{d:PyData}{u:Value}(h:DOf X.K H x d)(r:RelV x u):∃as,Reads s.heap u d as:=DOf.rec (motive_1:=fun x d _=>∀{u:Value},RelV x u→∃as,Reads s.heap u d as) (motive_2:=fun xs ds _=>∀{us:List Value},Vals xs us→∃as,ReadsAll s.heap us ds as)
  (fun r=>by cases r;exact⟨_,Reads.none⟩) (fun b _ r=>by cases r;exact⟨_,Reads.bool b⟩) (fun i _ r=>by obtain⟨t,rfl⟩:=r;exact⟨_,Reads.int i t⟩) (fun x _ r=>by obtain⟨t,rfl⟩:=r;exact⟨_,Reads.str x t⟩)
  (fun hq _ ih _ r=>by
   cases r
   obtain⟨its,rv,⟨o,n,e,c,_,d⟩,_⟩:=I.list hq
   obtain⟨as,q⟩:=ih rv
   exact⟨_,reads_list_at e c d (by simpa using q)⟩)
  (fun hq _ ih _ r=>by
   cases r
   obtain⟨its,rv,⟨o,e,c,n,d⟩,_⟩:=I.tuple hq
   obtain⟨as,q⟩:=ih rv
   exact⟨_,reads_tuple_at e c d (by simpa using q)⟩)
  (fun r=>by cases r;exact⟨_,ReadsAll.nil⟩)
  (fun _ _ a b _ r=>by
   cases r with
   |cons r rt=>
    obtain⟨as,q⟩:=a r
    obtain⟨bs,p⟩:=b rt
    exact⟨_,ReadsAll.cons q p⟩) h r
end
def IP(K:Frag):R2:=fun x y H Q=>∃d e,DOf K H x d∧DOf K H y e∧SeqAt.shaped d=true∧SeqAt.shaped e=true∧Q (.bl (PyData.eqv d e)) H
def IQ(K:Frag):R2:=fun x y H Q=>∃d e,DOf K H x d∧DOf K H y e∧SeqAt.shaped d=true∧SeqAt.shaped e=true∧Q (.bl (!PyData.eqv d e)) H
theorem BR{X:Cx}(hu:X.A.units+64 < cLine):OpR X (compareOp .Eq) (IP X.K):=by
 intro pins s σ H x y v u Q I rx ry h
 obtain⟨d,e,hd,he,s1,s2,q⟩:=h
 obtain⟨as,ra⟩:=hd.reads I rx
 obtain⟨bs,rb⟩:=he.reads I ry
 exact eq_dataH ra rb s1 s2 hu ⟨.bl _,H,I,rfl,q⟩
theorem G4{X:Cx}(hu:X.A.units+64 < cLine):OpR X (compareOp .NotEq) (IQ X.K):=by
 intro pins s σ H x y v u Q I rx ry h
 obtain⟨d,e,hd,he,s1,s2,q⟩:=h
 obtain⟨as,ra⟩:=hd.reads I rx
 obtain⟨bs,rb⟩:=he.reads I ry
 exact ne_dataH ra rb s1 s2 hu ⟨.bl _,H,I,rfl,q⟩
def J7(K:Frag)(a:Addr)(xs:List V):It:=
 ⟨fun i H=>SqL K H a xs∧i < xs.length,fun i H x H'=>H'=H∧xs.reverse[i]? =some x,fun i H=>SqL K H a xs∧i=xs.length⟩
theorem BS{P:Program}{w:World}{K:Frag}{tg:Expr}(a it:Addr)(xs:List V):Turn P w K tg (J7 K a xs) [it] it (fun i h=>h.IsRevIter it a ((xs.length:Int) - 1 - (i:Int))) where
 mem:=by simp
 obj:=fun i h st b hb=>by
  have e:b=it:=by simpa using hb
  subst e
  obtain⟨o,e,c,d⟩:=st
  exact⟨o,e,fun v z=>by rw[d]at z;cases z⟩
 keep:=fun i h h' st k=>st.at fun o e=>k it (by simp) o e
 item:=by
  intro X hP hw hK hc i pins s σ H E I hf st hg
  subst hP hw hK
  obtain⟨hq,hx⟩:=hg
  obtain⟨its,rv,p,hz⟩:=I.list hq
  have hlen:=rv.length
  have e0:(xs.length:Int) - 1 - (i:Int)=((xs.length - 1 - i:Nat):Int):=by omega
  have hget:xs.reverse[i]? =xs[xs.length - 1 - i]? :=List.getElem?_reverse hx
  obtain⟨x,hx'⟩:∃x,xs[xs.length - 1 - i]? =some x:=⟨xs[xs.length - 1 - i]'(by omega),uH (by omega)⟩
  obtain⟨u,hu,ru⟩:=rv.get hx'
  obtain⟨f0,f1,f2,f3,f4,f5⟩:=hf it (by simp)
  have st1:s.heap.IsRevIter it a ((xs.length - 1 - i:Nat):Int):=by rw[←e0];exact st
  refine wpAny_pyNext_rev_item st1 p.isList (x:=u) (by simpa using hu) fun h' st' sb=>?_
  have I1:Inv X pins σ H {s with heap:=h'}:=I.turned (t':=s.toks) (fun b o hb e=>(sb.2 b hb).trans e) f0 f1 f3 f4 f5
  have e1:((xs.length - 1 - i:Nat):Int) - 1=(xs.length:Int) - 1 - ((i+1:Nat):Int):=by omega
  have st2:h'.IsRevIter it a ((xs.length:Int) - 1 - ((i+1:Nat):Int)):=by rw[←e1];exact st'
  obtain⟨o,e,c,d⟩:=id st'
  exact⟨u,rfl,rB (s:={s with heap:=h'}) e c d (by decide) ⟨x,H,I1,ru,⟨rfl,hget.trans hx'⟩,st2,fun b hb=>(hf b hb).1⟩⟩
 done:=by
  intro X hP hw hK hc i pins s σ H E I hf st hg
  subst hP hw hK
  obtain⟨hq,hx⟩:=hg
  obtain⟨f0,f1,f2,f3,f4,f5⟩:=hf it (by simp)
  have e0:(xs.length:Int) - 1 - (i:Int)= -1:=by omega
  have st1:s.heap.IsRevIter it a (-1):=by rw[←e0];exact st
  exact wpAny_pyNext_rev_end (I.ok.hd hc) st1 fun h' eb=>⟨rfl,I.turned (t':=s.toks) (fun b o hb e=>eb b o hb e) f0 f1 f3 f4 f5⟩
 self:=fun _ _ _ _ _ st h=>wpAny_pyIter_revIter st h
section
variable {X:Cx} {tg:Expr}
def J8(K:Frag)(tl:TA):TI:=fun σ H R=>tl σ H fun vs H1=>∃a xs,vs=[.ref a]∧SqL K H1 a xs∧R (J7 K a xs) H1
theorem G5 {l:Expr} {tl:TA} {p pos:Pos} (hg:Gl X "reversed") (hm:X.mg "reversed"=none) (ha:PA X [l] tl) (hs:starEach [l] X.env=[(false,eval l X.env)]:=by rfl):PI X tg (.Call (.Name "reversed" p) [l] [] pos) (J8 X.K tl):=by
 intro pins s σ H R I h
 refine Call_ (jU I hg hm boot_reversed (PyProof.Rows.callWith_type1 (fc (ha pos pins s σ H _ I h) fun us s1 ⟨vs,H1,I1,r1,q1⟩=>?_) hs rfl))
 obtain⟨a,xs,e,hq,q⟩:=q1
 subst e
 cases r1 with
 |cons r rr=>
  cases rr
  cases r
  obtain⟨its,rv,p,hz⟩:=I1.list hq
  have hlen:=rv.length
  refine call_reversed_list p.isList ?_
  have hit:(s1.heap.push (revObj a (((its.toArray).size:Int) - 1))).IsRevIter s1.heap.objs.size a ((xs.length:Int) - 1 - ((0:Nat):Int)):=by
   refine⟨_,l_ _ rfl,rfl,?_⟩
   have e1:((its.toArray.size:Nat):Int) - 1=(xs.length:Int) - 1 - ((0:Nat):Int):=by rw[lS];omega
   show Data.fields #[.ref a,rawInt ((its.toArray.size:Int) - 1)]=_
   rw[e1]
  have I2:Inv X pins σ H1 {s1 with heap:=s1.heap.push (revObj a (((its.toArray).size:Int) - 1))}:=I1.kept (t':=s1.toks) fun b o e=>iB _ e
  refine wpAny_pyIter_revIter hit ?_
  refine⟨s1.heap.objs.size,[s1.heap.objs.size],_,_,H1,rfl,I2,BS a _ xs,hit,fun b hb=>?_,q⟩
  have e:b=s1.heap.objs.size:=by simpa using hb
  subst e
  have f:=I1.fpOk (H':=H1) (gi _) (I1.hok.fresh (gi _))
  exact f
end
end L2
namespace L2
open PySem PySem.Spec PyProof.Rows
section
variable {prog:Program} {w:World} {A:Around} {R:Result→Shared→Prop} {s:Shared}
theorem tE{elt target iter:Expr}{ifs:List Expr}{scope:Scope}{pos:Pos}{it acc:Value}{env:Env}(I:Nat→Shared→Prop)
  (turn:∀n s,I n s→wpAny (model prog w) A (pyNext it) (fun r s₁=>match r with
   |none=>R (.ok .next) s₁
   |some v=>wpAny (model prog w) A (letOwnedTupleGo target it v) (fun _ s₁'=>wpAny (model prog w) A (assign target env v) (fun _ s₂=>
     wpAny (model prog w) A (forIn ifs true fun c r=>if r=true then do let ok ←isTrue c env (eval c env);pure (ForInStep.yield ok)else pure (ForInStep.yield r)) (fun ok s₃=>
      if ok=true then wpAny (model prog w) A (eval elt env) (fun x s₄=>
       wpAny (model prog w) A (call (.builtin "list.append") [acc,x]) (fun _ s₅=>∃m,m < n∧I m s₅) (fun _ _=>False) s₄) (fun _ _=>False) s₃
      else ∃m,m < n∧I m s₃) (fun _ _=>False) s₂) (fun _ _=>False) s₁') (fun _ _=>False) s₁) (fun _ _=>False) s)
  (n:Nat) (h:I n s):
  codeAny (model prog w) A (.compLoop (.ListComp elt [⟨target,iter,ifs,0⟩] scope pos) 0 it acc env) R s:=by
 refine codeAny_loop rfl I (fun n s hI=>?_) n h
 show wpAny _ A ((compTurn (.ListComp elt [⟨target,iter,ifs,0⟩] scope pos) 0 it acc env).onRaise (fun x=>do noteFrame x env;theTreesLotGoes x)) _ _ s
 refine wpAny_noted ?_
 rw[compTurn_list]
 refine wpAny_bind (wpAny_standAt (wpAny_bind (wpAny_mono (turn n s hI) (fun r s₁ h₁=>?_) fun _ _ h'=>h'.elim)))
 cases r with
 |none=>exact wpAny_pure h₁
 |some v=>
  refine wpAny_bind (wpAny_mono h₁ (fun _ s₁' h₁'=>?_) fun _ _ h'=>h'.elim)
  refine wpAny_bind (wpAny_mono h₁' (fun _ s₂ h₂=>wpAny_bind (wpAny_mono h₂ (fun ok s₃ h₃=>?_) fun _ _ h'=>h'.elim)) fun _ _ h'=>h'.elim)
  cases ok with
  |false=>exact wpAny_pure ⟨rfl,h₃⟩
  |true=>
   exact wpAny_bind (wpAny_bind (wpAny_mono h₃ (fun x s₄ h₄=>wpAny_bind (wpAny_mono h₄ (fun _ s₅ h₅=>wpAny_pure (wpAny_pure ⟨rfl,h₅⟩)) fun _ _ h'=>h'.elim)) fun _ _ h'=>h'.elim))
end
def Cx.comp(X:Cx)(sc:Scope)(cl:List (Str×Addr))(N:List Str)(C:Addr)(s₀:Shared)(H₀:Hp)(fp:List Addr):Cx:=
 ⟨X.prog,X.w,X.K,X.mg,X.base,X.A,N,s₀,H₀,⟨sc,C,X.env.globals,cl,X.env.qual,none,X.env.code,X.env.frame,X.env.builtins⟩,X.stack,X.stack,fp,fun _=>false,X.calm,[],fun _ _=>False⟩
def JD(X:Cx)(ifs:List Expr)(t:TT):Prop:=
 ∀(pins:List (Addr×Obj)) (s:Shared) (σ:St) (H:Hp) (Q:Bool→Hp→Prop),Inv X pins σ H s→t σ H Q→
  wpAny (model X.prog X.w) X.A (forIn ifs true fun c r=>if r=true then do let ok ←isTrue c X.env (eval c X.env);pure (ForInStep.yield ok)else pure (ForInStep.yield r)) (TP X pins σ Q) X.xe s
def J9:TT:=fun _ H Q=>Q true H
theorem Eu{X:Cx}:JD X [] J9:=fun _ _ _ H _ I h=>wpAny_tests_nil ⟨H,I,h⟩
theorem Ev{X:Cx}{c:Expr}{t:TT}(h:PT X c t):JD X [c] t:=fun pins s σ H Q I q=>wpAny_tests_one (h pins s σ H Q I q)
def slots(js:List (Option Nat))(σ:St):St:=js.map fun j=>j.bind fun j=>(σ[j]?).join
def BT(js:List (Option Nat))(wi:TI)(g:TG)(tt:TT)(te:TE):TE:=fun σ H Q=>wi σ H fun J H1=>∀l,H1 l=none→∃W:Nat→Nat→St→Hp→Prop,(∃m,W 0 m (slots js σ) (upd H1 l (.lst [])))∧
 ∀i m σ' H',W i m σ' H'→(J.stop i H'∧Q (.ref l) H')∨(J.go i H'∧∃N:St→Hp→Prop,(∀σ' H',N σ' H'→∃m',m' < m∧W (i+1) m' σ' H')∧∀x H2,J.yld i H' x H2→g x σ' H2 fun σ3 H3=>tt σ3 H3 fun b H4=>
  if b=true then te σ3 H4 fun y H5=>∃ys,H5 l=some (.lst ys)∧ys.length < sizeLine∧N σ3 (upd H5 l (.lst (ys++[y])))else N σ3 H4)
section
variable {X:Cx} {elt target iter:Expr} {ifs:List Expr} {scope sc:Scope} {cl:List (Str×Addr)} {N:List Str} {pos:Pos} {wi:TI} {g:TG} {tt:TT} {te:TE} {js:List (Option Nat)}
structure CompOk (X:Cx) (scope sc:Scope) (cl:List (Str×Addr)) (N:List Str) (js:List (Option Nat)):Prop where
 clos:closureFor scope X.env=pure cl
 rel:relabel scope X.env=sc
 nocell:∀y∈scope.names,y.2≠ .cell
 kind:scope.kind=.function
 names:∀y∈scope.names,y.2=.local→scope.names.lookup y.1=some .local
 same:∀x c,cl.lookup x=some c→X.env.cells.lookup x=some c
 has:∀x,(sc.names.lookup x=some .cell∨sc.names.lookup x=some .free)→∃c,cl.lookup x=some c
 len:js.length=N.length
 from_:∀(i j:Nat),js[i]? =some (some j)→∃x,N[i]? =some x∧X.N[j]? =some x∧(sc.names.lookup x=some .cell∨sc.names.lookup x=some .free)∧(X.env.kindOf x=some .cell∨X.env.kindOf x=some .free)
theorem BU{use:Option (Value→Sem Unit)}{Qv:Value→Shared→Prop}(K:CompOk X scope sc cl N js)(hc:X.calm=true)(hi:PI X target iter wi)
  (hgg:∀C s₀ H₀ fp,PG (X.comp sc cl N C s₀ H₀ fp) target g) (htt:∀C s₀ H₀ fp,JD (X.comp sc cl N C s₀ H₀ fp) ifs tt) (hee:∀C s₀ H₀ fp,PE (X.comp sc cl N C s₀ H₀ fp) elt te)
  (hs:∀x,foldedSetIterable iter X.env x=pure x) (pins:List (Addr×Obj)) (s:Shared) (σ:St) (H:Hp) (Q:VK) (I:Inv X pins σ H s) (h:BT js wi g tt te σ H Q)
  (hend:∀(D C:Addr) (H4:Hp) (s5:Shared) (m:Str→Option Value),Inv X pins σ H4 s5→s5.heap.Ns C m→H4 C=none→C≠X.env.locals→C∉X.fs→X.s₀.heap.objs.size≤C→(∀x c,X.env.cells.lookup x=some c→c≠C)→(∀p∈X.pn++pins,p.1≠C)→Q (.ref D) H4→
   compPost (model X.prog X.w) X.A X.xe use Qv (.ref D) C (.ok .next) s5):
  wpAny (model X.prog X.w) X.A (comprehension (.ListComp elt [⟨target,iter,ifs,0⟩] scope pos) scope X.env (firstIterPos [⟨target,iter,ifs,0⟩] pos) (newList []) false (firstIter [⟨target,iter,ifs,0⟩] X.env) use) Qv X.xe s:=by
 refine wpAny_comprehension_free (use:=use) rfl hs K.clos K.kind K.names (fc (hi pins s σ H _ I h) fun v s1 h1=>fc h1 fun itv s2 h2=>?_)
 obtain⟨it,fp,tn,J,H2,e,I2,T,st2,f2,R⟩:=h2
 subst e
 refine wpAny_newObj_type (wpAny_newFunctionEnv K.nocell (by intro y hy;simp at hy) (fun h₁ hns₁ hsb₁=>?_) K.kind)
 dsimp only at hns₁ hsb₁ ⊢
 have I3:Inv X pins σ (upd H2 s2.heap.objs.size (.lst [])) {s2 with heap:=s2.heap.push {cls:=.type "list",dict:=none,data:=.seq ([]:List Value).toArray}}:=
  I2.lnew (t':=s2.toks) (its:=[]) .nil (Nat.zero_le _)
 obtain⟨W,⟨m0,w0⟩,turn⟩:=R s2.heap.objs.size (I2.hok.fresh (gi _))
 generalize hP:s2.heap.push {cls:=.type "list",dict:=none,data:=.seq ([]:List Value).toArray}=h3 at hns₁ hsb₁ I3 ⊢
 generalize hD:s2.heap.objs.size=D at w0 turn I3 ⊢
 have hsz3:h3.objs.size=D+1:=by rw[←hP,Heap.size_push,hD]
 have old3:∀b o,s2.heap.get? b=some o→h3.get? b=some o:=fun b o e=>by rw[←hP];exact iB _ e
 have old:∀b o,h3.get? b=some o→h₁.get? b=some o:=fun b o e=>hsb₁.extBut b o (jT (jf e)) (iB _ e)
 have fpD:∀b∈fp,b < D:=fun b hb=>by
  obtain⟨o,e,_⟩:=T.obj _ _ st2 b hb
  rw[←hD];exact jf e
 have frD:∀b∈fp,(upd H2 D (.lst [])) b=none:=fun b hb=>by rw[aG (jT (fpD b hb))];exact(f2 b hb).1
 have f3:∀b∈fp,uR X pins (upd H2 D (.lst [])) b:=fun b hb=>⟨frD b hb,(f2 b hb).2⟩
 have Hfresh:∀a,h3.objs.size≤a→(upd H2 D (.lst [])) a=none:=fun a ha=>I3.hok.fresh ha
 have cellC:∀x c,X.env.cells.lookup x=some c→c < h3.objs.size:=fun x c e=>by
  obtain⟨v,q⟩:=I3.cell x c e
  exact q.lt
 have YOk:(X.comp sc cl N h3.objs.size {s2 with heap:=h3} (upd H2 D (.lst [])) fp).Ok:=by
  refine⟨I3.ok.mod,?_,I3.ok.glob,I3.ok.blt,gi _,fun x y c e1 e2=>I3.ok.inj x y c (K.same x c e1) (K.same y c e2),fun x hx=>K.has x hx,fun x c hf _=>absurd hf (by intro z;cases z),I3.ok.hd,I3.ok.frames,.inl rfl,fun b hb=>⟨?_,fun x c e=>(f2 b hb).2.2.2.2.1 x c (K.same x c e)⟩,
   I3.bs,jn I3.ok.bsz I3.sz,fun b o e hb=>?_,fun b hb hm=>?_,I3.stack,I3.stkFree,I3.tab⟩
  ·rw[←K.rel];exact K.kind
  ·exact jT (by rw[hsz3];exact wK (fpD b hb))
  ·rcases(f2 b hb).2.2.2.1 with z |z
   ·exact I3.ok.noex b o e z
   ·exact absurd (oV (jf (I3.ok.bs b o e).1) z) (Nat.lt_irrefl _)
  ·rcases Zal.mp (I3.stkSub b hm)with z |z
   ·exact(f2 b hb).2.1 z
   ·exact(f2 b hb).2.2.1 z
 have IY:Inv (X.comp sc cl N h3.objs.size {s2 with heap:=h3} (upd H2 D (.lst [])) fp) [] (slots js σ) (upd H2 D (.lst [])) {s2 with heap:=h₁,toks:=s2.toks+([]:List (Str×Value)).length}:=by
  refine⟨YOk,rfl,I3.bare,Un.kept old,⟨_,hns₁,fun i x v e1 e2 e3=>?_⟩,fun x c e=>?_,Hfresh _ (gi _),fun x c e=>I3.freeC x c (K.same x c e),fun p hp=>absurd (show p∈([]:List (Addr×Obj))from hp) (by simp),I3.hok.kept old,?_⟩
  ·unfold slots at e2
   rw[mL]at e2
   cases ej:js[i]? with
   |none=>rw[ej]at e2;cases e2
   |some jo=>
    rw[ej]at e2
    cases jo with
    |none=>cases e2
    |some j=>
     obtain⟨y,n1,n2,k1,k2⟩:=K.from_ i j ej
     have exy:y=x:=Option.some.inj (n1.symm.trans e1)
     subst exy
     have e2':(σ[j]?).join=some v:=Option.some.inj e2
     have e4:σ[j]? =some (some v):=by
      cases es:σ[j]? with
      |none=>rw[es]at e2';cases e2'
      |some w=>rw[es]at e2';exact congrArg some e2'
     obtain⟨m,_,hl⟩:=I3.loc
     obtain⟨u,ru,lk⟩:=hl j y v n2 e4 (by
      rcases k2 with z |z
      ·exact .inr (.inl z)
      ·exact .inr (.inr z))
     refine⟨u,ru,.inr ⟨k1,?_⟩⟩
     obtain⟨c,hcl⟩:=K.has y k1
     refine⟨c,hcl,?_⟩
     rcases lk with⟨z,_⟩ |⟨_,c',e5,ic⟩
     ·rcases k2 with q |q
      ·rw[q]at z;cases z
      ·rw[q]at z;cases z
     ·have:c'=c:=Option.some.inj (e5.symm.trans (K.same y c hcl))
      subst this
      obtain⟨o,ho,hd⟩:=ic
      exact⟨o,old _ _ ho,hd⟩
  ·obtain⟨v,o,ho,hd⟩:=I3.cell x c (K.same x c e)
   exact⟨v,o,old _ _ ho,hd⟩
  ·unfold slots;rw[fw];exact K.len
 have zH:∀s₃:Shared,s₃={s2 with heap:=h₁,toks:=s2.toks+([]:List (Str×Value)).length}→
   codeAny (model X.prog X.w) X.A (.compLoop (.ListComp elt [⟨target,iter,ifs,0⟩] scope pos) 0 (.ref it) (.ref D) (X.comp sc cl N h3.objs.size {s2 with heap:=h3} (upd H2 D (.lst [])) fp).env)
    (compPost (model X.prog X.w) X.A X.xe use Qv (.ref D) h3.objs.size) s₃:=by
  rintro s₃ rfl
  refine tE (fun n s'=>∃i σ' H',Inv (X.comp sc cl N h3.objs.size {s2 with heap:=h3} (upd H2 D (.lst [])) fp) [] σ' H' s'∧tn i s'.heap∧(∀b∈fp,H' b=none)∧W i n σ' H') ?_ m0
   ⟨0,_,_,IY,T.keep _ _ _ st2 (fun b hb o e=>old b o (old3 b o e)),frD,w0⟩
  rintro n s4 ⟨i,σ4,H4,I4,st4,fr4,w4⟩
  have ff:∀{H':Hp},(∀b∈fp,H' b=none)→∀b∈fp,uR (X.comp sc cl N h3.objs.size {s2 with heap:=h3} (upd H2 D (.lst [])) fp) [] H' b:=fun hn b hb=>
   ⟨hn b hb,(YOk.exf b hb).1,YOk.exfs b hb,.inl hb,(YOk.exf b hb).2,fun p hp=>absurd (show p∈([]:List (Addr×Obj))from hp) (by simp)⟩
  have hg:=hgg h3.objs.size {s2 with heap:=h3} (upd H2 D (.lst [])) fp
  have ht:=htt h3.objs.size {s2 with heap:=h3} (upd H2 D (.lst [])) fp
  have he:=hee h3.objs.size {s2 with heap:=h3} (upd H2 D (.lst [])) fp
  rcases turn i n σ4 H4 w4 with⟨stop,qn⟩ |⟨go,Nx,hN,step⟩
  ·refine fc (T.done (X.comp sc cl N h3.objs.size {s2 with heap:=h3} (upd H2 D (.lst [])) fp) rfl rfl rfl hc i [] s4 σ4 H4 _ I4 (ff fr4) st4 stop) fun r s5 ⟨hr,I5⟩=>?_
   subst hr
   obtain⟨m,hn,_⟩:=I5.loc
   have IX:Inv X pins σ H4 s5:=I3.call' (ch:=fp) I5.os I5.base I5.hok I5.bare fun b hb=>⟨(f3 b hb).2.2.2.1,(f3 b hb).2.1,(f3 b hb).2.2.2.2.1,(f3 b hb).2.2.2.2.2⟩
   exact hend D h3.objs.size H4 s5 m IX hn I5.free (Ne.symm (jT I3.lt)) (I3.nofs (gi _)) I3.sz (fun x c e=>jT (cellC x c e)) (fun p hp=>jT (jf (I3.pin p hp).1)) qn
  ·refine fc (T.item (X.comp sc cl N h3.objs.size {s2 with heap:=h3} (upd H2 D (.lst [])) fp) rfl rfl rfl hc i [] s4 σ4 H4 _ I4 (ff fr4) st4 go) fun r s5 ⟨u,hr,h5⟩=>?_
   subst hr
   refine fc h5 fun _ s6 ⟨x,H6,I6,r6,y6,st6,fr6⟩=>?_
   have I6':=I6.pinned (ff fr6) (T.obj _ _ st6)
   have back:∀{σ7:St} {H7:Hp} {s7:Shared},Inv (X.comp sc cl N h3.objs.size {s2 with heap:=h3} (upd H2 D (.lst [])) fp) ([]++pL fp s6.heap) σ7 H7 s7→
     Inv (X.comp sc cl N h3.objs.size {s2 with heap:=h3} (upd H2 D (.lst [])) fp) [] σ7 H7 s7∧tn (i+1) s7.heap∧∀b∈fp,H7 b=none:=fun {σ7 H7 s7} I7=>
    ⟨I7.unpinned,T.keep _ _ _ st6 fun b hb o e=>(I7.pin (b,o) (rn _ (rn _ (jV hb e)))).1,fun b hb=>by
     obtain⟨o,e,d⟩:=T.obj _ _ st6 b hb
     exact(I7.pin (b,o) (rn _ (rn _ (jV hb e)))).2.1⟩
   refine fc (hg _ s6 σ4 H6 x u _ I6' r6 (step x H6 y6)) fun _ s7 ⟨σ7,H7,I7,q7⟩=>?_
   refine fc (ht _ s7 σ7 H7 _ I7 q7) fun b s8 ⟨H8,I8,q8⟩=>?_
   cases b with
   |false=>
    obtain⟨m',hm,w8⟩:=hN σ7 H8 q8
    obtain⟨J1,J2,J3⟩:=back I8
    exact⟨m',hm,i+1,σ7,H8,J1,J2,J3,w8⟩
   |true=>
    refine fc (he _ s8 σ7 H8 _ I8 q8) fun yv s9 ⟨y,H9,I9,r9,ys,hl,hz,n9⟩=>?_
    obtain⟨m',hm,w9⟩:=hN _ _ n9
    refine fc (nw _ s9 σ7 H9 (.ref D) [y] (.ref D) [yv] (fun v H'=>v=.non∧H'=upd H9 D (.lst (ys++[y]))) I9 rfl (.cons r9 .nil) ⟨D,ys,y,rfl,rfl,hl,hz,rfl,rfl⟩) fun _ sA ⟨_,HA,IA,_,_,eA⟩=>?_
    subst eA
    obtain⟨J1,J2,J3⟩:=back IA
    exact⟨m',hm,i+1,σ7,_,J1,J2,J3,w9⟩
 rw[K.rel]
 exact codeAny_compStart_list (zH _ rfl) (T.self _ 0 _ _ _ (T.keep _ _ _ st2 (fun b hb o e=>old b o (old3 b o e))) (zH _ rfl))
theorem yp(K:CompOk X scope sc cl N js)(hc:X.calm=true)(hi:PI X target iter wi)
  (hgg:∀C s₀ H₀ fp,PG (X.comp sc cl N C s₀ H₀ fp) target g) (htt:∀C s₀ H₀ fp,JD (X.comp sc cl N C s₀ H₀ fp) ifs tt) (hee:∀C s₀ H₀ fp,PE (X.comp sc cl N C s₀ H₀ fp) elt te)
  (hs:∀x,foldedSetIterable iter X.env x=pure x:=by intro _;rfl):PE X (.ListComp elt [⟨target,iter,ifs,0⟩] scope pos) (BT js wi g tt te):=by
 intro pins s σ H Q I h
 rw[eval_ListComp]
 refine BU (use:=none) K hc hi hgg htt hee hs pins s σ H Q I h fun D C H4 s5 m IX hn fC nL _ sz nc np qn=>?_
 exact⟨m,hn,fun h' hs'=>⟨.ref D,H4,IX.turned (t':=s5.toks) (it:=C) (fun b o hb e=>(hs'.2 b hb).trans e) fC nL (.inr sz) nc np,rfl,qn⟩⟩
end
end L2
namespace L2
open PySem PySem.Spec PyProof.Rows
theorem gO{X:Cx}{scope:Scope}{N:List Str}{js:List (Option Nat)}(hf:∀x∈scope.names,x.2≠ .free:=by decide+kernel)(hcell:∀x∈scope.names,x.2≠ .cell:=by decide+kernel)
  (hk:scope.kind=.function:=by rfl) (hn:∀y∈scope.names,y.2=.local→scope.names.lookup y.1=some .local:=by decide+kernel) (hl:js.length=N.length:=by rfl) (hj:∀j∈js,j=none:=by decide):CompOk X scope scope [] N js where
 clos:=closureFor_none hf
 rel:=by
  unfold relabel
  have e:(scope.names.map fun(x:Str×NameKind)=>match x with |(n,k)=>if (k ==.free&&X.env.scope.kind ==.function&&X.env.kindOf n == some .cell)then (n,NameKind.cell)else (n,k))=scope.names:=by
   refine map_eq_self fun x hx=>?_
   obtain⟨n,k⟩:=x
   have:(k == NameKind.free)=false:=by simpa using hf _ hx
   simp[this]
  rw[e]
 nocell:=hcell
 kind:=hk
 names:=hn
 same:=fun x c e=>by simp at e
 has:=fun x h=>by
  rcases h with h |h
  ·exact absurd rfl (hcell _ (PySem.mem_of_lookup h))
  ·exact absurd rfl (hf _ (PySem.mem_of_lookup h))
 len:=hl
 from_:=fun i j h=>by
  have:=hj _ (List.mem_of_getElem? h)
  cases this
structure Own (P:Program) (w:World) (K:Frag) (mg:Str→Option Value) (base:Heap) (k:Nat) (x:Str) (ps:List Str) (sp:Sp):Prop where
 ex:∃(f:Addr) (fd:FuncData),FnOk P w K mg base zY k f fd ps sp∧Binds K fd ps []∧mg x=some (.ref f)∧keepIn K (.ref f)=true
theorem BV{X:Cx}{k:Nat}{x:Str}{ps:List Str}{sp:Sp}{p pos:Pos}{e:Expr}{es:List Expr}{t:TA}(D:Own X.prog X.w X.K X.mg X.base k x ps sp)(hr:Room k X.A)(hg:Gl X x)(ha:PA X (e::es) t)
  (hdb:(x == ("__debug__":Str))=false:=by decide) (he:starEach (e::es) X.env=(false,eval e X.env)::starEach es X.env:=by rfl) (hpl:(backTo pos (starEach es X.env)).any (·.1)=false:=by rfl):
  PE X (.Call (.Name x p) (e::es) [] pos) (FW sp [] E0 t):=by
 obtain⟨f,fd,F,b,m,kp⟩:=D.ex
 exact Eh F hr hg m kp b .nil IM ha hdb he hpl
structure Def (K:Frag) (mg:Str→Option Value) (x:Str) (st:Stmt) (ps:List Str):Prop where
 ex:∃(f:Addr) (fd:FuncData),Fun K x x st f fd∧mg x=some (.ref f)∧Binds K fd ps []
theorem Def.own{P:Program}{w:World}{K:Frag}{mg:Str→Option Value}{base:Heap}{x:Str}{st:Stmt}{N ps:List Str}{k:Nat}{sp:Sp}(D:Def K mg x st ps)(S:FnScope N ps (ao st))
  (len:∀vs H Q E,sp vs H Q E→vs.length=ps.length)
  (hbody:∀(f:Addr) (cdv:Value) (A:Around) (outer:List Env) (s:Shared) (H:Hp) (vs:List V) (Q:VK) (E:XK),Room k (A.deeper (envOfC x (ao st) s.heap.objs.size f cdv))→sp vs H Q E→
   ∃t,PSs (qP zY P w K mg base N x (ao st) f cdv A outer s H E).nox (dm st) t∧t {nx:=fun _ H'=>Q .non H',rt:=Q} (jj N vs) H):Own P w K mg base (k+1) x ps sp:=by
 obtain⟨f,fd,F,m,b⟩:=D.ex
 exact⟨f,fd,F.ok S len (hbody f),b,m,F.kp⟩
theorem G6{K:Frag}{h:Heap}{mg:Str→Option Value}{x:Str}{st:Stmt}{ps:List Str}{f:Addr}{oc:Value}{od an:Option Addr}{osl:Array (Option Value)}{kV doc pm cdv ct:Value}(X:K.In h)(G:h.Ns mainGlobals mg)
  (a:nsIn K mainGlobals x=some (some (.ref f))) (l:K.lookup f=some ⟨oc,od,.func (fnOf x x (fP st) (dm st) (ao st) .none kV doc pm an cdv ct),osl⟩)
  (c:codeIn K cdv x=true) (k:keepIn K (.ref f)=true)
  (b:∀(kV doc pm:Value) (an:Option Addr) (cdv ct:Value) (us:List Value),us.length=ps.length→bindArgs (fnOf x x (fP st) (dm st) (ao st) .none kV doc pm an cdv ct) ⟨us,[]⟩=pure (ps.zip us)):Def K mg x st ps:=
 ⟨f,_,wW l c k,mg_of X G a,(wW (st:=st) l c k).binds b⟩
end L2
namespace Nh
open PySem L2
section
variable {α β:Type} {F:α→β→Prop}
theorem lq:∀{a:List α} {b:List β} {c:List α} {d:List β},Paired F a b→Paired F c d→Paired F (a++c) (b++d)
 |_,_,_,_,.nil,s=>s
 |_,_,_,_,.cons r t,s=>.cons r (lq t s)
theorem yq:∀{a:List α} {b:List β} (n:Nat),Paired F a b→Paired F (a.take n) (b.take n)
 |_,_,0,_=>.nil
 |_,_,_+1,.nil=>.nil
 |_,_,n+1,.cons r t=>.cons r (yq n t)
theorem yr:∀{a:List α} {b:List β} (n:Nat),Paired F a b→Paired F (a.drop n) (b.drop n)
 |_,_,0,r=>r
 |_,_,_+1,.nil=>.nil
 |_,_,n+1,.cons _ t=>yr n t
theorem me:∀{a:List α} {b:List β},Paired F a b→Paired F a.reverse b.reverse
 |_,_,.nil=>.nil
 |_,_,.cons r t=>by
  rw[uK,uK]
  exact lq (me t) (.cons r .nil)
theorem yt:∀{a:List α} {b:List β} {i:Nat} {y:β},Paired F a b→b[i]? =some y→∃x,a[i]? =some x∧F x y
 |_,_,_,_,.nil,e=>by simp at e
 |_,_,0,_,.cons r _,e=>by simp at e;subst e;exact⟨_,rfl,r⟩
 |_,_,i+1,x,.cons _ t,e=>by
  obtain⟨u,h1,h2⟩:=yt (i:=i) (y:=x) t (by simpa using e)
  exact⟨u,by simpa using h1,h2⟩
theorem BW{a:List α}{b:List β}(h:Paired F a b):∀k:Nat,Paired F (List.replicate k a).flatten (List.replicate k b).flatten
 | 0=>.nil
 |k+1=>by
  rw[List.replicate_succ,List.replicate_succ,List.flatten_cons,List.flatten_cons]
  exact lq h (BW h k)
end
abbrev Pc:=Nat×Int
def tv(p:Pc):List V:=[.str ⟨#[p.1]⟩,.int p.2]
def J_(H:Hp)(v:V)(p:Pc):Prop:=∃t,v=.ref t∧H t=some (.tup (tv p))
abbrev PAll(H:Hp):List V→List Pc→Prop:=Paired (J_ H)
section
variable {H H':Hp} {l:Addr} {xs ys:List V} {c:List Pc}
theorem PAll.same(s:Same H H')(h:PAll H xs c):PAll H' xs c:=Paired.mapP h fun _ _ ⟨t,e,q⟩=>⟨t,e,s _ _ q⟩
theorem PAll.but(s:SameBut l H H')(hl:H l=some (.lst ys))(h:PAll H xs c):PAll H' xs c:=Paired.mapP h fun _ _ ⟨t,e,q⟩=>⟨t,e,s _ _ (Bt q hl (by intro z;cases z)) q⟩
theorem PAll.len(h:PAll H xs c):xs.length=c.length:=Paired.length h
end
def Cord(H:Hp)(a:Addr)(c:List Pc):Prop:=∃xs,H a=some (.lst xs)∧PAll H xs c
section
variable {H H':Hp} {a:Addr} {c d:List Pc}
theorem Cord.same(s:Same H H')(h:Cord H a c):Cord H' a c:=let ⟨xs,e,p⟩:=h;⟨xs,s _ _ e,p.same s⟩
end
def av(p:Pc):PyData:=.tuple [.str ⟨#[p.1]⟩,.int p.2]
def lT(c:List Pc):PyData:=.list (c.map av)
def NailsOk(c:List Pc):Prop:=∀p∈c,p.1 < 128
theorem rK{K:Frag}{H:Hp}:∀{xs:List V} {c:List Pc},PAll H xs c→DAll K H xs (c.map av)
 |_,_,.nil=>.nil
 |_,_,.cons ⟨t,e,q⟩ r=>by
  subst e
  exact .cons (.tup (SqT.of q) (.cons (.str _) (.cons (.int _) .nil))) (rK r)
theorem Cord.data{K:Frag}{H:Hp}{a:Addr}{c:List Pc}(h:Cord H a c):DOf K H (.ref a) (lT c):=
 let ⟨_,e,p⟩:=h; .lst (SqL.of e) (rK p)
theorem IR{p:Pc}(h:p.1 < 128):(av p).canLay0=true:=by
 have:p.1 < 1114112:=by omega
 simp[av,PyData.canLay0,PyData.canLayAll0,PyData.strOk,this]
theorem u6:∀{c:List Pc},NailsOk c→PyData.canLayAll0 (c.map av)=true∧PyData.depthAll (c.map av)≤1
 |[],_=>by simp[PyData.canLayAll0,PyData.depthAll]
 |p::c,h=>by
  have ih:=u6 (c:=c) fun q hq=>h q (gq _ hq)
  have h1:=IR (h p (gJ ..))
  have h2:=ih.2
  simp only[bE,PyData.canLayAll0,PyData.depthAll,h1,ih.1,Bool.and_self,true_and]
  have h3:(av p).depth=1:=by simp[av,PyData.depth,PyData.depthAll]
  omega
theorem oC{c:List Pc}(h:NailsOk c):SeqAt.shaped (lT c)=true:=by
 have q:=u6 h
 have q2:=q.2
 unfold SeqAt.shaped
 simp only[lT,PyData.canLay0,PyData.depth,q.1,Bool.true_and]
 exact decide_eq_true (by omega)
theorem G7(p q:Pc):PyData.eqv (av p) (av q)=decide (p=q):=by
 obtain⟨n,a⟩:=p
 obtain⟨m,b⟩:=q
 simp only[av,PyData.eqv,PyData.eqvAll,Bool.and_true]
 rw[Bool.eq_iff_iff]
 simp
theorem rL:∀c d:List Pc,PyData.eqvAll (c.map av) (d.map av)=decide (c=d)
 |[],[]=>by simp[PyData.eqvAll]
 |[],_::_=>by simp[PyData.eqvAll]
 |_::_,[]=>by simp[PyData.eqvAll]
 |p::c,q::d=>by
  simp only[bE,PyData.eqvAll,G7,rL c d]
  rw[Bool.eq_iff_iff]
  simp
theorem BX(c d:List Pc):PyData.eqv (lT c) (lT d)=decide (c=d):=by
 simp only[lT,PyData.eqv,rL]
end Nh
namespace PL
open PySem PySem.Spec PyProof.Rows L2 Nh
def G8:bM→PyData
 |.inl i=>.int i
 |.inr x=>.str x
mutual
inductive Rp (K:Frag) (H:Hp):V→PyData→Prop
 |non:Rp K H .non .none
 |bl (b:Bool):Rp K H (.bl b) (.bool b)
 |int (i:Int):Rp K H (.int i) (.int i)
 |str (x:Str):Rp K H (.str x) (.str x)
 |lst {a:Addr} {xs:List V} {ds:List PyData}:SqL K H a xs→RpA K H xs ds→Rp K H (.ref a) (.list ds)
 |tup {a:Addr} {xs:List V} {ds:List PyData}:SqT K H a xs→RpA K H xs ds→Rp K H (.ref a) (.tuple ds)
 |dct {a:Addr} {us:List (bM×V)} {kvs:List (PyData×PyData)}:Rd H a (.dK us)→RpK K H us kvs→Rp K H (.ref a) (.dict kvs)
inductive RpA (K:Frag) (H:Hp):List V→List PyData→Prop
 |nil:RpA K H [] []
 |cons {x:V} {xs:List V} {d:PyData} {ds:List PyData}:Rp K H x d→RpA K H xs ds→RpA K H (x::xs) (d::ds)
inductive RpK (K:Frag) (H:Hp):List (bM×V)→List (PyData×PyData)→Prop
 |nil:RpK K H [] []
 |cons {k:bM} {x:V} {us:List (bM×V)} {d:PyData} {kvs:List (PyData×PyData)}:Rp K H x d→RpK K H us kvs→RpK K H ((k,x)::us) ((G8 k,d)::kvs)
end
mutual
def de:PyData→Bool
 |.none=>true
 |.bool _=>true
 |.int _=>true
 |.str _=>true
 |.list _=>false
 |.tuple xs=>aN xs
 |.dict _=>false
def aN:List PyData→Bool
 |[]=>true
 |d::ds=>de d&&aN ds
end
def FY:HO→Bool
 |.tup _=>true
 |.frz _ _=>true
 |_=>false
def tups(H:Hp):Hp:=fun b=>(H b).filter FY
theorem nz(H:Hp):Same (tups H) H:=fun b o h=>(Zbo.mp h).1
theorem jW{H:Hp}{b:Addr}{o:HO}(h:H b=some o)(c:FY o=true):tups H b=some o:=Zbo.mpr ⟨h,c⟩
theorem mN{H:Hp}{l:Addr}{xs ys:List V}(h:H l=some (.lst xs)):tups (upd H l (.lst ys))=tups H:=by
 funext b
 unfold tups
 by_cases e:b=l
 ·subst e
  rw[aS,h]
  rfl
 ·rw[aG e]
section
variable {K:Frag} {H H':Hp}
theorem u7{a:Addr}{xs:List V}(h:SqT K H a xs):SqT K (tups H) a xs:=by
 rcases h with(h |⟨o,h⟩) |h
 ·exact .inl (.inl (jW h rfl))
 ·exact .inl (.inr ⟨o,jW h rfl⟩)
 ·exact .inr h
theorem tH{a:Addr}{u:HO}(s:Same H H')(h:Rd H a u):Rd H' a u:=by
 rcases h with h |⟨o,h⟩
 ·exact .inl (s _ _ h)
 ·exact .inr ⟨o,s _ _ h⟩
theorem Rp.same(s:Same H H'){v:V}{d:PyData}(h:Rp K H v d):Rp K H' v d:=Rp.rec (motive_1:=fun v d _=>Rp K H' v d) (motive_2:=fun v d _=>RpA K H' v d) (motive_3:=fun v d _=>RpK K H' v d) .non .bl .int .str (fun h _ r=>.lst (s.seq h) r) (fun h _ r=>.tup (s.tup h) r) (fun h _ r=>.dct (tH s h) r) .nil (fun _ _ a b=>.cons a b) .nil (fun _ _ a b=>.cons a b) h
theorem RpA.same(s:Same H H'){v:List V}{d:List PyData}(h:RpA K H v d):RpA K H' v d:=RpA.rec (motive_1:=fun v d _=>Rp K H' v d) (motive_2:=fun v d _=>RpA K H' v d) (motive_3:=fun v d _=>RpK K H' v d) .non .bl .int .str (fun h _ r=>.lst (s.seq h) r) (fun h _ r=>.tup (s.tup h) r) (fun h _ r=>.dct (tH s h) r) .nil (fun _ _ a b=>.cons a b) .nil (fun _ _ a b=>.cons a b) h
theorem RpK.same(s:Same H H'){v:List (bM×V)}{d:List (PyData×PyData)}(h:RpK K H v d):RpK K H' v d:=RpK.rec (motive_1:=fun v d _=>Rp K H' v d) (motive_2:=fun v d _=>RpA K H' v d) (motive_3:=fun v d _=>RpK K H' v d) .non .bl .int .str (fun h _ r=>.lst (s.seq h) r) (fun h _ r=>.tup (s.tup h) r) (fun h _ r=>.dct (tH s h) r) .nil (fun _ _ a b=>.cons a b) .nil (fun _ _ a b=>.cons a b) h
theorem Rp.cold{v:V}{d:PyData}(h:Rp K H v d)(e:de d=true):Rp K (tups H) v d:=Rp.rec (motive_1:=fun v d _=>de d=true→Rp K (tups H) v d) (motive_2:=fun v d _=>aN d=true→RpA K (tups H) v d) (motive_3:=fun _ _ _=>True) (fun _=>.non) (fun b _=>.bl b) (fun i _=>.int i) (fun x _=>.str x) (fun _ _ _ e=>nomatch e) (fun h _ r e=>.tup (u7 h) (r e)) (fun _ _ _ e=>nomatch e) (fun _=>.nil) (fun _ _ a b e=>.cons (a (Bool.and_eq_true_iff.mp e).1) (b (Bool.and_eq_true_iff.mp e).2)) trivial (fun _ _ _ _=>trivial) h e
theorem RpA.cold{v:List V}{d:List PyData}(h:RpA K H v d)(e:aN d=true):RpA K (tups H) v d:=RpA.rec (motive_1:=fun v d _=>de d=true→Rp K (tups H) v d) (motive_2:=fun v d _=>aN d=true→RpA K (tups H) v d) (motive_3:=fun _ _ _=>True) (fun _=>.non) (fun b _=>.bl b) (fun i _=>.int i) (fun x _=>.str x) (fun _ _ _ e=>nomatch e) (fun h _ r e=>.tup (u7 h) (r e)) (fun _ _ _ e=>nomatch e) (fun _=>.nil) (fun _ _ a b e=>.cons (a (Bool.and_eq_true_iff.mp e).1) (b (Bool.and_eq_true_iff.mp e).2)) trivial (fun _ _ _ _=>trivial) h e
theorem Rp.dof'{v:V}{d:PyData}(h:Rp K H v d)(e:d.canLay0=true):DOf K H v d:=Rp.rec (motive_1:=fun v d _=>d.canLay0=true→DOf K H v d) (motive_2:=fun v d _=>PyData.canLayAll0 d=true→DAll K H v d) (motive_3:=fun _ _ _=>True) (fun _=>.non) (fun b _=>.bl b) (fun i _=>.int i) (fun x _=>.str x) (fun h _ r e=>.lst h (r e)) (fun h _ r e=>.tup h (r e)) (fun _ _ _ e=>nomatch e) (fun _=>.nil) (fun _ _ a b e=>.cons (a (Bool.and_eq_true_iff.mp e).1) (b (Bool.and_eq_true_iff.mp e).2)) trivial (fun _ _ _ _=>trivial) h e
theorem Rp.dof{v:V}{d:PyData}(h:Rp K H v d)(e:SeqAt.shaped d=true):DOf K H v d:=h.dof' (SeqAt.canLay_of_shaped e)
theorem RpA.pr{vs:List V}{ds:List PyData}(h:RpA K H vs ds):Paired (Rp K H) vs ds:=RpA.rec (motive_1:=fun _ _ _=>True) (motive_2:=fun v d _=>Paired (Rp K H) v d) (motive_3:=fun _ _ _=>True) trivial (fun _=>trivial) (fun _=>trivial) (fun _=>trivial) (fun _ _ _=>trivial) (fun _ _ _=>trivial) (fun _ _ _=>trivial) .nil (fun h _ _ b=>.cons h b) trivial (fun _ _ _ _=>trivial) h
theorem RpA.of{vs:List V}{ds:List PyData}(h:Paired (Rp K H) vs ds):RpA K H vs ds:=by
 induction h with
 |nil=>exact .nil
 |cons a _ b=>exact .cons a b
theorem RpA.len{vs:List V}{ds:List PyData}(h:RpA K H vs ds):vs.length=ds.length:=Paired.length h.pr
theorem RpA.append{vs us:List V}{ds es:List PyData}(h:RpA K H vs ds)(k:RpA K H us es):RpA K H (vs++us) (ds++es):=.of (lq h.pr k.pr)
theorem RpA.take{vs:List V}{ds:List PyData}(n:Nat)(h:RpA K H vs ds):RpA K H (vs.take n) (ds.take n):=.of (yq n h.pr)
theorem RpA.drop{vs:List V}{ds:List PyData}(n:Nat)(h:RpA K H vs ds):RpA K H (vs.drop n) (ds.drop n):=.of (yr n h.pr)
theorem RpA.rev{vs:List V}{ds:List PyData}(h:RpA K H vs ds):RpA K H vs.reverse ds.reverse:=.of (me h.pr)
theorem RpA.rep{vs:List V}{ds:List PyData}(n:Nat)(h:RpA K H vs ds):RpA K H (List.replicate n vs).flatten (List.replicate n ds).flatten:=.of (BW h.pr n)
theorem RpA.get{vs:List V}{ds:List PyData}{i:Nat}{d:PyData}(h:RpA K H vs ds)(e:ds[i]? =some d):∃v,vs[i]? =some v∧Rp K H v d:=yt h.pr e
theorem RpA.set:∀{vs:List V} {ds:List PyData} {v:V} {d:PyData} (i:Nat),RpA K H vs ds→Rp K H v d→RpA K H (vs.set i v) (ds.set i d)
 |_,_,_,_,_,.nil,_=>.nil
 |_,_,_,_,0,.cons _ r,h=>.cons h r
 |_,_,_,_,i+1,.cons q r,h=>.cons q (RpA.set i r h)
theorem RpA.dropLast{vs:List V}{ds:List PyData}(h:RpA K H vs ds):RpA K H vs.dropLast ds.dropLast:=by
 rw[List.dropLast_eq_take,List.dropLast_eq_take,h.len]
 exact h.take _
theorem RpA.snoc{vs:List V}{ds:List PyData}{v:V}{d:PyData}(h:RpA K H vs ds)(k:Rp K H v d):RpA K H (vs++[v]) (ds++[d]):=h.append (.cons k .nil)
end
inductive Pt where
 |fl (d:PyData) |ol (ds:List PyData)
def Pt.val:Pt→PyData
 |.fl d=>d
 |.ol ds=>.list ds
inductive Sl where
 /-- nothing is known -/
 |no
 /-- never written again -/
 |sh (d:PyData)
 /-- a list of one's own -/
 |ow (ds:List PyData)
 /-- a dict of one's own,its values lists of one's own -/
 |od (kvs:List (bM×List PyData))
 /-- a tuple with lists of one's own -/
 |tx (ps:List Pt)
 /-- (a part of an expression) the value of a name -/
 |al (i:Nat)
 /-- (a part of an expression) as it stands just now -/
 |br (d:PyData)
def PtsOk(K:Frag)(F H:Hp):List V→List Pt→List Addr→Prop
 |[],[],A=>A=[]
 |v::vs,.fl d::ps,A=>Rp K F v d∧PtsOk K F H vs ps A
 |v::vs,.ol ds::ps,A=>∃l us A',v=.ref l∧A=l::A'∧H l=some (.lst us)∧RpA K F us ds∧PtsOk K F H vs ps A'
 |_,_,_=>False
def DlOk(K:Frag)(F H:Hp):List (bM×V)→List (bM×List PyData)→List Addr→Prop
 |[],[],A=>A=[]
 |p::us,q::kvs,A=>∃l vs A',p=(q.1,.ref l)∧A=l::A'∧H l=some (.lst vs)∧RpA K F vs q.2∧DlOk K F H us kvs A'
 |_,_,_=>False
def SlOk(K:Frag)(F H:Hp)(σ:L2.St)(o:Option V):Sl→List Addr→Prop
 |.no,A=>A=[]
 |.sh d,A=>A=[]∧∃v,o=some v∧Rp K F v d
 |.ow ds,A=>∃l vs,o=some (.ref l)∧A=[l]∧H l=some (.lst vs)∧RpA K F vs ds
 |.od kvs,A=>∃l us A',o=some (.ref l)∧A=l::A'∧H l=some (.dK us)∧DlOk K F H us kvs A'
 |.tx ps,A=>∃t vs,o=some (.ref t)∧F t=some (.tup vs)∧PtsOk K F H vs ps A
 |.al i,A=>A=[]∧∃v,o=some v∧σ[i]? =some (some v)
 |.br d,A=>A=[]∧∃v,o=some v∧Rp K H v d
def Sl.isBr:Sl→Bool
 |.br _=>true
 |_=>false
def Sl.isAl:Sl→Bool
 |.al _=>true
 |.br _=>true
 |_=>false
section
variable {K:Frag} {F F' H H':Hp} {σ σ':L2.St}
theorem PtsOk.stay(s:Same F F'):∀{vs:List V} {ps:List Pt} {A:List Addr},(∀b∈A,H' b=H b)→PtsOk K F H vs ps A→PtsOk K F' H' vs ps A
 |[],[],A,_,h=>h
 |v::vs,.fl d::ps,A,e,h=>⟨h.1.same s,PtsOk.stay s e h.2⟩
 |v::vs,.ol ds::ps,A,e,h=>by
  obtain⟨l,us,A',rfl,rfl,hl,hr,q⟩:=h
  exact⟨l,us,A',rfl,rfl,(e l (gJ ..)).trans hl,hr.same s,q.stay s fun b hb=>e b (gq _ hb)⟩
 |[],_::_,_,_,h=>False.elim h
 |_::_,[],_,_,h=>False.elim h
theorem DlOk.stay(s:Same F F'):∀{us:List (bM×V)} {kvs:List (bM×List PyData)} {A:List Addr},(∀b∈A,H' b=H b)→DlOk K F H us kvs A→DlOk K F' H' us kvs A
 |[],[],A,_,h=>h
 |p::us,q::kvs,A,e,h=>by
  obtain⟨l,vs,A',rfl,rfl,hl,hr,k⟩:=h
  exact⟨l,vs,A',rfl,rfl,(e l (gJ ..)).trans hl,hr.same s,k.stay s fun b hb=>e b (gq _ hb)⟩
 |[],_::_,_,_,h=>False.elim h
 |_::_,[],_,_,h=>False.elim h
theorem DlOk.some:∀{us:List (bM×V)} {kvs:List (bM×List PyData)} {A:List Addr},DlOk K F H us kvs A→∀a∈A,∃vs,H a=some (.lst vs)
 |[],[],A,h,a,ha=>by rw[show A=[]from h]at ha;cases ha
 |p::us,q::kvs,A,h,a,ha=>by
  obtain⟨l,vs,A',rfl,rfl,hl,hr,k⟩:=h
  rcases Zal.mp ha with e |e
  ·subst e;exact⟨vs,hl⟩
  ·exact k.some a e
 |[],_::_,_,h,_,_=>False.elim h
 |_::_,[],_,h,_,_=>False.elim h
theorem PtsOk.some:∀{vs:List V} {ps:List Pt} {A:List Addr},PtsOk K F H vs ps A→∀a∈A,∃us,H a=some (.lst us)
 |[],[],A,h,a,ha=>by rw[show A=[]from h]at ha;cases ha
 |v::vs,.fl d::ps,A,h,a,ha=>PtsOk.some h.2 a ha
 |v::vs,.ol ds::ps,A,h,a,ha=>by
  obtain⟨l,us,A',rfl,rfl,hl,hr,q⟩:=h
  rcases Zal.mp ha with e |e
  ·subst e;exact⟨us,hl⟩
  ·exact q.some a e
 |[],_::_,_,h,_,_=>False.elim h
 |_::_,[],_,h,_,_=>False.elim h
theorem PtsOk.rp(s:Same F H):∀{vs:List V} {ps:List Pt} {A:List Addr},PtsOk K F H vs ps A→RpA K H vs (ps.map Pt.val)
 |[],[],A,_=>.nil
 |v::vs,.fl d::ps,A,h=>.cons (h.1.same s) (PtsOk.rp s h.2)
 |v::vs,.ol ds::ps,A,h=>by
  obtain⟨l,us,A',rfl,rfl,hl,hr,q⟩:=h
  exact .cons (.lst (SqL.of hl) (hr.same s)) (q.rp s)
 |[],_::_,_,h=>False.elim h
 |_::_,[],_,h=>False.elim h
theorem SlOk.stay{o:Option V}{s:Sl}{A:List Addr}(hF:Same F F')(e:∀b∈A,H' b=H b)(hb:s.isBr=true→Same H H')(h:SlOk K F H σ o s A):SlOk K F' H' σ o s A:=by
 cases s with
 |no=>exact h
 |sh d=>obtain⟨rfl,v,rfl,r⟩:=h;exact⟨rfl,v,rfl,r.same hF⟩
 |ow ds=>obtain⟨l,vs,rfl,rfl,hl,r⟩:=h;exact⟨l,vs,rfl,rfl,(e l (by simp)).trans hl,r.same hF⟩
 |od kvs=>obtain⟨l,us,A',rfl,rfl,hl,r⟩:=h;exact⟨l,us,A',rfl,rfl,(e l (by simp)).trans hl,r.stay hF fun b hb=>e b (gq _ hb)⟩
 |tx ps=>obtain⟨t,vs,rfl,ht,r⟩:=h;exact⟨t,vs,rfl,hF _ _ ht,r.stay hF e⟩
 |al i=>exact h
 |br d=>obtain⟨rfl,v,rfl,r⟩:=h;exact⟨rfl,v,rfl,r.same (hb rfl)⟩
theorem SlOk.mut{o:Option V}{s:Sl}{A:List Addr}(h:SlOk K F H σ o s A):∀a∈A,(∃us,H a=some (.lst us))∨∃us,H a=some (.dK us):=by
 cases s with
 |no=>intro a ha;rw[show A=[]from h]at ha;cases ha
 |sh d=>obtain⟨rfl,_⟩:=h;intro a ha;cases ha
 |ow ds=>obtain⟨l,vs,rfl,rfl,hl,r⟩:=h;intro a ha;rw[Zag.mp ha];exact .inl ⟨_,hl⟩
 |od kvs=>
  obtain⟨l,vs,A',rfl,rfl,hl,r⟩:=h
  intro a ha
  rcases Zal.mp ha with z |z
  ·rw[z];exact .inr ⟨_,hl⟩
  ·exact .inl (r.some a z)
 |tx ps=>obtain⟨t,vs,rfl,ht,r⟩:=h;exact fun a ha=>.inl (r.some a ha)
 |al i=>obtain⟨rfl,_⟩:=h;intro a ha;cases ha
 |br d=>obtain⟨rfl,_⟩:=h;intro a ha;cases ha
end
inductive SAll (P:Option V→Sl→List Addr→Prop):List (Option V)→List Sl→List Addr→Prop
 |nil:SAll P [] [] []
 |cons {o:Option V} {s:Sl} {A:List Addr} {os:List (Option V)} {ss:List Sl} {B:List Addr}:P o s A→SAll P os ss B→SAll P (o::os) (s::ss) (A++B)
section
variable {P P':Option V→Sl→List Addr→Prop}
theorem SAll.len{os:List (Option V)}{ss:List Sl}{A:List Addr}(h:SAll P os ss A):os.length=ss.length:=by
 induction h with
 |nil=>rfl
 |cons _ _ b=>exact congrArg (· +1) b
theorem SAll.mono{os:List (Option V)}{ss:List Sl}{A:List Addr}(h:SAll P os ss A):(∀o s B,s∈ss→(∀b∈B,b∈A)→P o s B→P' o s B)→SAll P' os ss A:=by
 induction h with
 |nil=>exact fun _=>.nil
 |cons h _ r=>exact fun f=>.cons (f _ _ _ (gJ ..) (fun b hb=>List.mem_append_left _ hb) h) (r fun o s B hs hB q=>f o s B (gq _ hs) (fun b hb=>rn _ (hB b hb)) q)
theorem SAll.all{R:Addr→Prop}(hR:∀o s B,P o s B→∀b∈B,R b){os:List (Option V)}{ss:List Sl}{A:List Addr}(h:SAll P os ss A):∀a∈A,R a:=by
 induction h with
 |nil=>exact fun _ ha=>nomatch ha
 |cons h _ r=>exact fun a ha=>(Zaj.mp ha).elim (hR _ _ _ h a) (r a)
theorem SAll.at:∀{os:List (Option V)} {ss:List Sl} {A:List Addr} {k:Nat} {s:Sl},SAll P os ss A→ss[k]? =some s→
  ∃o A0 A1 A2,A=A0++(A1++A2)∧os[k]? =some o∧P o s A1∧∀(P':Option V→Sl→List Addr→Prop) (o':Option V) (s':Sl) (A1':List Addr),P' o' s' A1'→
   (∀o s B,s∈ss→(∀b∈B,b∈A0∨b∈A2)→P o s B→P' o s B)→SAll P' (os.set k o') (ss.set k s') (A0++(A1'++A2))
 |_,_,_,_,_,.nil,e=>by simp at e
 |_,_,_,0,s,.cons (o:=o) (A:=A) (B:=B) h r,e=>by
  simp at e;subst e
  refine⟨o,[],A,B,by simp,rfl,h,fun P' o' s' A1' h' f=>?_⟩
  have z:SAll P' _ _ (A1'++B):=.cons h' (r.mono (P':=P') fun o s B hs hB q=>f o s B (gq _ hs) (fun b hb=>.inr (hB b hb)) q)
  exact z
 |_,_,_,k+1,s,.cons (o:=o) (A:=A) (B:=B) h r,e=>by
  obtain⟨o2,A0,A1,A2,eA,eo,hp,f⟩:=r.at (k:=k) (s:=s) (by simpa using e)
  subst eA
  refine⟨o2,A++A0,A1,A2,by simp,by simpa using eo,hp,fun P' o' s' A1' h' g=>?_⟩
  have z:=f P' o' s' A1' h' fun o s B hs hB q=>g o s B (gq _ hs) (fun b hb=>(hB b hb).imp (fun x=>rn _ x) id) q
  rw[pk]
  exact .cons (g _ _ _ (gJ ..) (fun b hb=>.inl (List.mem_append_left _ hb)) h) z
end
end PL
namespace PL
open PySem L2 Nh
abbrev Sg:=L2.St
structure FrF (K:Frag) (B F:Hp) (A:List Addr) (σ:Sg) (H:Hp) (E:List Sl) (xs:List V) (Xs:List Sl):Prop where
 bf:Same B F
 fh:Same F H
 tf:Same (tups H) F
 sl:SAll (SlOk K F H σ) (xs.map some++σ) (Xs++E) A
 nd:A.Nodup
 fr:∀a∈A,F a=none
 len:xs.length=Xs.length
 pl:∀s∈E,s.isAl=false
def Frm(K:Frag)(B:Hp)(σ:Sg)(H:Hp)(E:List Sl)(xs:List V)(Xs:List Sl):Prop:=∃F A,FrF K B F A σ H E xs Xs
def Sl.val:Sl→Option PyData
 |.sh d=>some d
 |.ow ds=>some (.list ds)
 |.tx ps=>some (.tuple (ps.map Pt.val))
 |.br d=>some d
 |_=>none
def look(E:List Sl):Sl→Option PyData
 |.al i=>(E[i]?).bind Sl.val
 |s=>s.val
def bY:Sl→Bool
 |.br _=>true
 |.tx _=>true
 |_=>false
def e8(E:List Sl):Sl→Bool
 |.al i=>(E[i]?).any bY
 |s=>bY s
def RpF(K:Frag)(F H:Hp)(v:V):PyData→Prop
 |.list ds=>∃a vs,v=.ref a∧SqL K H a vs∧RpA K F vs ds
 |d=>Rp K F v d
def u8(F H:Hp)(A:List Addr):Hp:=fun b=>if b∈A then H b else F b
theorem tI{F H:Hp}{A:List Addr}{b:Addr}(h:b∈A):u8 F H A b=H b:=if_pos h
theorem pQ{F H:Hp}{A:List Addr}{b:Addr}(h:b∉A):u8 F H A b=F b:=if_neg h
section
variable {K:Frag} {B F:Hp} {A:List Addr} {σ:Sg} {H:Hp} {E:List Sl} {xs:List V} {Xs:List Sl} {v:V} {s:Sl} {d:PyData}
theorem RpF.of(h:Rp K F v d)(s:Same F H):RpF K F H v d:=by
 cases h with
 |lst h r=>exact⟨_,_,rfl,s.seq h,r⟩
 |non=>exact .non
 |bl b=>exact .bl b
 |int i=>exact .int i
 |str x=>exact .str x
 |tup h r=>exact .tup h r
 |dct h r=>exact .dct h r
theorem SlOk.val{o:Option V}{A1:List Addr}(h:SlOk K F H σ o s A1)(hF:Same F H)(e:s.val=some d):∃v,o=some v∧Rp K H v d∧(bY s=false→RpF K F H v d):=by
 cases s with
 |no=>cases e
 |sh d'=>
  obtain⟨rfl,v,rfl,r⟩:=h
  cases e
  exact⟨v,rfl,r.same hF,fun _=>RpF.of r hF⟩
 |ow ds=>
  obtain⟨l,vs,rfl,rfl,hl,r⟩:=h
  cases e
  exact⟨_,rfl,.lst (SqL.of hl) (r.same hF),fun _=>⟨_,_,rfl,SqL.of hl,r⟩⟩
 |od kvs=>cases e
 |tx ps=>
  obtain⟨t,vs,rfl,ht,r⟩:=h
  cases e
  exact⟨_,rfl,.tup (SqT.of (hF _ _ ht)) (r.rp hF),fun z=>by cases z⟩
 |al i=>cases e
 |br d'=>
  obtain⟨rfl,v,rfl,r⟩:=h
  cases e
  exact⟨v,rfl,r,fun z=>by cases z⟩
theorem FrF.slen(h:FrF K B F A σ H E xs Xs):σ.length=E.length:=by
 have e:=h.sl.len
 have:=h.len
 simp only[pI,fw]at e
 omega
theorem FrF.var{i:Nat}(h:FrF K B F A σ H E xs Xs)(e:E[i]? =some s):∃o A1,σ[i]? =some o∧SlOk K F H σ o s A1:=by
 obtain⟨o,A0,A1,A2,eA,eo,hp,_⟩:=h.sl.at (k:=Xs.length+i) (s:=s) (by rw[D2 (by omega)];simpa using e)
 rw[D2 (by rw[fw,h.len];omega),fw,h.len,Bo]at eo
 exact⟨o,A1,eo,hp⟩
theorem FrF.ext{k:Nat}(h:FrF K B F A σ H E xs Xs)(e:Xs[k]? =some s):∃v A1,xs[k]? =some v∧SlOk K F H σ (some v) s A1:=by
 have hk:k < Xs.length:=(Zbh.mp e).1
 obtain⟨o,A0,A1,A2,eA,eo,hp,_⟩:=h.sl.at (k:=k) (s:=s) (by rw[List.getElem?_append_left hk];exact e)
 rw[List.getElem?_append_left (by rw[fw,h.len];omega),mL]at eo
 cases q:xs[k]? with
 |none=>rw[q]at eo;cases eo
 |some v=>rw[q]at eo;cases eo;exact⟨v,A1,rfl,hp⟩
theorem FrF.look{k:Nat}(h:FrF K B F A σ H E xs Xs)(e:Xs[k]? =some s)(q:look E s=some d):∃v,xs[k]? =some v∧Rp K H v d∧(e8 E s=false→RpF K F H v d):=by
 obtain⟨v,A1,ev,hs⟩:=h.ext e
 cases s with
 |al i=>
  obtain⟨rfl,w,ew,hw⟩:=hs
  cases ew
  cases ei:E[i]? with
  |none=>simp[PL.look,ei]at q
  |some t=>
   obtain⟨o,A2,eo,ht⟩:=h.var ei
   rw[hw]at eo
   cases eo
   obtain⟨v',e',r,c⟩:=ht.val h.fh (d:=d) (by simpa[PL.look,ei]using q)
   cases e'
   exact⟨v,ev,r,fun z=>c (by simpa[e8,ei]using z)⟩
 |no=>cases q
 |od kvs=>cases q
 |sh d'=>obtain⟨v',e',r,c⟩:=hs.val h.fh q;cases e';exact⟨v,ev,r,c⟩
 |ow ds=>obtain⟨v',e',r,c⟩:=hs.val h.fh q;cases e';exact⟨v,ev,r,c⟩
 |tx ps=>obtain⟨v',e',r,c⟩:=hs.val h.fh q;cases e';exact⟨v,ev,r,c⟩
 |br d'=>obtain⟨v',e',r,c⟩:=hs.val h.fh q;cases e';exact⟨v,ev,r,c⟩
theorem FrF.look0(h:FrF K B F A σ H E (v::xs) (s::Xs))(q:PL.look E s=some d):Rp K H v d∧(e8 E s=false→RpF K F H v d):=by
 obtain⟨v',e,r⟩:=h.look (k:=0) rfl q
 cases e
 exact r
theorem FrF.look1{w:V}{t:Sl}(h:FrF K B F A σ H E (w::v::xs) (t::s::Xs))(q:PL.look E s=some d):Rp K H v d∧(e8 E s=false→RpF K F H v d):=by
 obtain⟨v',e,r⟩:=h.look (k:=1) rfl q
 cases e
 exact r
theorem FrF.mutA(h:FrF K B F A σ H E xs Xs):∀a∈A,(∃us,H a=some (.lst us))∨∃us,H a=some (.dK us):=
 SAll.all (R:=fun a=>(∃us,H a=some (.lst us))∨∃us,H a=some (.dK us)) (fun _ _ _ q=>q.mut) h.sl
theorem FrF.newA{p:Addr}(h:FrF K B F A σ H E xs Xs)(hp:H p=none):p∉A:=fun hm=>by
 rcases h.mutA p hm with⟨_,z⟩ |⟨_,z⟩ <;> rw[hp]at z <;> cases z
theorem FrF.cold{u:V}{e:PyData}(h:FrF K B F A σ H E xs Xs)(r:Rp K H u e)(f:de e=true):Rp K F u e:=(r.cold f).same h.tf
theorem FrF.coldA{us:List V}{es:List PyData}(h:FrF K B F A σ H E xs Xs)(r:RpA K H us es)(f:aN es=true):RpA K F us es:=(r.cold f).same h.tf
theorem FrF.push(h:FrF K B F A σ H E xs Xs)(q:SlOk K F H σ (some v) s []):FrF K B F A σ H E (v::xs) (s::Xs):=
 ⟨h.bf,h.fh,h.tf,.cons (A:=[]) q h.sl,h.nd,h.fr,by simp[h.len],h.pl⟩
theorem FrF.pop(h:FrF K B F A σ H E (v::xs) (s::Xs)):∃A',FrF K B F A' σ H E xs Xs:=by
 obtain⟨bf,fh,tf,sl,nd,fr,len,pl⟩:=h
 generalize hT:List.map some (v::xs)++σ=T at sl
 generalize hS:(s::Xs)++E=S at sl
 cases sl with
 |nil=>cases hS
 |cons q r=>
  injection hT with _ hT
  injection hS with _ hS
  subst hT hS
  exact⟨_,bf,fh,tf,r,(Zav.mp nd).2.1,fun a ha=>fr a (rn _ ha),by simpa using len,pl⟩
theorem FrF.grow{H':Hp}(h:FrF K B F A σ H E xs Xs)(g:Same H H'):FrF K B (fun b=>if b∈A then none else H' b) A σ H' E xs Xs:=by
 have nF:∀b o,F b=some o→b∉A:=fun b o e hb=>by rw[h.fr b hb]at e;cases e
 have FF:Same F (fun b=>if b∈A then none else H' b):=fun b o e=>by
  show(if b∈A then none else H' b)=some o
  rw[if_neg (nF b o e)]
  exact g _ _ (h.fh _ _ e)
 have hA:∀b∈A,H' b=H b:=fun b hb=>by
  rcases h.mutA b hb with⟨_,z⟩ |⟨_,z⟩ <;> rw[z,g _ _ z]
 refine⟨h.bf.trans FF,fun b o e=>?_,fun b o e=>?_,h.sl.mono fun o s C _ hC q=>q.stay FF (fun b hb=>hA b (hC b hb)) fun _=>g,h.nd,fun a ha=>if_pos ha,h.len,h.pl⟩
 ·by_cases hb:b∈A
  ·rw[if_pos hb]at e;cases e
  ·rw[if_neg hb]at e;exact e
 ·obtain⟨e1,e2⟩:=Zbo.mp e
  show(if b∈A then none else H' b)=some o
  by_cases hb:b∈A
  ·rw[hA b hb]at e1
   rcases h.mutA b hb with⟨_,z⟩ |⟨_,z⟩ <;> rw[z]at e1 <;> cases e1 <;> cases e2
  ·rw[if_neg hb];exact e1
theorem FrF.newl{p:Addr}{vs:List V}{ds:List PyData}(h:FrF K B F A σ H E xs Xs)(r:RpA K F vs ds)(hp:H p=none):FrF K B F (p::A) σ (upd H p (.lst vs)) E (.ref p::xs) (.ow ds::Xs):=by
 have g:Same H (upd H p (.lst vs)):=hZ hp _
 have nA:=h.newA hp
 refine⟨h.bf,h.fh.trans g,fun b o e=>?_,.cons (A:=[p]) ⟨p,vs,rfl,rfl,aS,r⟩ (h.sl.mono fun o s C _ hC q=>q.stay (Same.refl _) (fun b hb=>aG fun z=>nA (z▸hC b hb)) fun _=>g),Zbm.mpr ⟨nA,h.nd⟩,fun a ha=>?_,by simp[h.len],h.pl⟩
 ·obtain⟨e1,e2⟩:=Zbo.mp e
  by_cases hb:b=p
  ·subst hb;rw[aS]at e1;cases e1;cases e2
  ·rw[aG hb]at e1;exact h.tf b o (jW e1 e2)
 ·rcases Zal.mp ha with z |z
  ·subst z;exact h.fh.free hp
  ·exact h.fr a z
theorem FrF.newt{p:Addr}{vs:List V}{ds:List PyData}(h:FrF K B F A σ H E xs Xs)(r:RpA K F vs ds)(hp:H p=none):FrF K B (upd F p (.tup vs)) A σ (upd H p (.tup vs)) E (.ref p::xs) (.sh (.tuple ds)::Xs):=by
 have g:Same H (upd H p (.tup vs)):=hZ hp _
 have nA:=h.newA hp
 have gF:Same F (upd F p (.tup vs)):=hZ (h.fh.free hp) _
 refine⟨h.bf.trans gF,fun b o e=>?_,fun b o e=>?_,.cons (A:=[]) ⟨rfl,_,rfl,.tup (.inl (.inl aS)) (r.same gF)⟩ (h.sl.mono fun o s C _ hC q=>q.stay gF (fun b hb=>aG fun z=>nA (z▸hC b hb)) fun _=>g),h.nd,fun a ha=>?_,by simp[h.len],h.pl⟩
 ·by_cases hb:b=p
  ·subst hb;rw[aS]at e ⊢;exact e
  ·rw[aG hb]at e ⊢;exact h.fh _ _ e
 ·obtain⟨e1,e2⟩:=Zbo.mp e
  by_cases hb:b=p
  ·subst hb;rw[aS]at e1 ⊢;exact e1
  ·rw[aG hb]at e1 ⊢;exact h.tf b o (jW e1 e2)
 ·have ne:a≠p:=fun z=>nA (z▸ha)
  rw[aG ne];exact h.fr a ha
theorem FrF.mut{i:Nat}{ds:List PyData}(h:FrF K B F A σ H E xs Xs)(e:E[i]? =some (.ow ds))(c:∀s∈Xs,s.isBr=false):
  ∃l vs,σ[i]? =some (some (.ref l))∧H l=some (.lst vs)∧RpA K F vs ds∧∀vs' ds',RpA K F vs' ds'→FrF K B F A σ (upd H l (.lst vs')) (E.set i (.ow ds')) xs Xs:=by
 obtain⟨o,A0,A1,A2,eA,eo,hp,put⟩:=h.sl.at (k:=Xs.length+i) (s:=.ow ds) (by rw[D2 (by omega)];simpa using e)
 rw[D2 (by rw[fw,h.len];omega),fw,h.len,Bo]at eo
 obtain⟨l,vs,rfl,rfl,hl,r⟩:=hp
 refine⟨l,vs,eo,hl,r,fun vs' ds' r'=>?_⟩
 have hlA:l∈A:=by rw[eA];simp
 have nl:∀b,b∈A0∨b∈A2→b≠l:=fun b hb z=>by
  subst z
  have nd:=h.nd
  rw[eA]at nd
  rcases hb with hb |hb
  ·exact(Zav.mp nd).2.2 b hb b (by simp) rfl
  ·exact(Zav.mp (Zav.mp nd).2.1).2.2 b (by simp) b hb rfl
 have lF:F l=none:=h.fr l hlA
 have z:=put (SlOk K F (upd H l (.lst vs')) σ) (some (.ref l)) (.ow ds') [l] ⟨l,vs',rfl,rfl,aS,r'⟩ fun o s C hs hC q=>q.stay (Same.refl _) (fun b hb=>aG (nl b (hC b hb))) fun z=>by
  rcases Zaj.mp hs with hs |hs
  ·rw[c s hs]at z;cases z
  ·have:=h.pl s hs
   cases s <;> simp[Sl.isAl,Sl.isBr]at this z
 have e3:(Xs++E).set (Xs.length+i) (.ow ds')=Xs++E.set i (.ow ds'):=by
  rw[List.set_append_right _ _ (by omega),Bo]
 have e2:(List.map some xs++σ).set (Xs.length+i) (some (V.ref l))=List.map some xs++σ:=by
  rw[←h.len,List.set_append_right _ _ (by rw[fw];omega),fw,Bo]
  congr 1
  exact List.ext_getElem? fun j=>by
   by_cases hj:i=j
   ·subst hj
    rw[List.getElem?_set_self',eo];rfl
   ·rw[List.getElem?_set_ne hj]
 rw[e2,e3,←eA]at z
 refine⟨h.bf,fun b o q=>?_,?_,z,h.nd,h.fr,h.len,fun s hs=>?_⟩
 ·rw[aG (fun z=>by rw[z,lF]at q;cases q)]
  exact h.fh _ _ q
 ·rw[mN hl];exact h.tf
 ·rcases List.mem_or_eq_of_mem_set hs with hs |hs
  ·exact h.pl s hs
  ·subst hs;rfl
theorem FrF.frzAt{k:Nat}(h:FrF K B F A σ H E xs Xs)(e:(Xs++E)[k]? =some s)(q:s.val=some d)(c:s.isAl=false):
  ∃F' A' v,(xs.map some++σ)[k]? =some (some v)∧Rp K F' v d∧Same B F'∧Same F' H∧Same (tups H) F'∧SAll (SlOk K F' H σ) (xs.map some++σ) ((Xs++E).set k (.sh d)) A'∧A'.Nodup∧∀a∈A',F' a=none:=by
 obtain⟨o,A0,A1,A2,eA,eo,hp,put⟩:=h.sl.at e
 have nd:=h.nd
 rw[eA]at nd
 have nA1:∀b o,F b=some o→b∉A1:=fun b o e hb=>by
  have:=h.fr b (by rw[eA];simp[hb])
  rw[this]at e;cases e
 have FF:Same F (u8 F H A1):=fun b o e=>by rw[pQ (nA1 b o e)];exact e
 obtain⟨v,rfl,r⟩:∃v,o=some v∧Rp K (u8 F H A1) v d:=by
  cases s with
  |no=>cases q
  |od kvs=>cases q
  |al i=>cases c
  |br d'=>cases c
  |sh d'=>
   obtain⟨rfl,v,rfl,r⟩:=hp
   cases q
   exact⟨v,rfl,r.same FF⟩
  |ow ds=>
   obtain⟨l,vs,rfl,rfl,hl,r⟩:=hp
   cases q
   exact⟨_,rfl,.lst (SqL.of ((tI (by simp)).trans hl)) (r.same FF)⟩
  |tx ps=>
   obtain⟨t,vs,rfl,ht,r⟩:=hp
   cases q
   refine⟨_,rfl,.tup (SqT.of (FF _ _ ht)) ?_⟩
   have r':PtsOk K (u8 F H A1) (u8 F H A1) vs ps A1:=r.stay FF fun b hb=>tI hb
   exact r'.rp (Same.refl _)
 have e2:(List.map some xs++σ).set k (some v)=List.map some xs++σ:=List.ext_getElem? fun j=>by
  by_cases hj:k=j
  ·subst hj
   rw[List.getElem?_set_self',eo];rfl
  ·rw[List.getElem?_set_ne hj]
 have z:=put (SlOk K (u8 F H A1) H σ) (some v) (.sh d) [] ⟨rfl,v,rfl,r⟩ fun o s C _ hC q=>q.stay FF (fun b _=>rfl) fun _=>Same.refl _
 rw[e2]at z
 refine⟨u8 F H A1,A0++A2,v,eo,r,h.bf.trans FF,fun b o e=>?_,fun b o e=>FF _ _ (h.tf _ _ e),by simpa using z,?_,fun a ha=>?_⟩
 ·by_cases hb:b∈A1
  ·rw[tI hb]at e;exact e
  ·rw[pQ hb]at e;exact h.fh _ _ e
 ·exact List.Nodup.sublist (List.Sublist.append (List.Sublist.refl _) (List.sublist_append_right _ _)) nd
 ·have hn:a∉A1:=fun hm=>by
   rcases Zaj.mp ha with z |z
   ·exact(Zav.mp nd).2.2 a z a (by simp[hm]) rfl
   ·exact(Zav.mp (Zav.mp nd).2.1).2.2 a hm a z rfl
  rw[pQ hn]
  exact h.fr a (by rw[eA];rcases Zaj.mp ha with z |z <;> simp[z])
end
def frz(E:List Sl):Sl→Option (PyData×List Sl)
 |.sh d=>some (d,E)
 |.ow ds=>some (.list ds,E)
 |.tx ps=>some (.tuple (ps.map Pt.val),E)
 |.br d=>if de d then some (d,E)else none
 |.al i=>match E[i]? with
  |some (.sh d)=>some (d,E)
  |some (.ow ds)=>some (.list ds,E.set i (.sh (.list ds)))
  |some (.tx ps)=>some (.tuple (ps.map Pt.val),E.set i (.sh (.tuple (ps.map Pt.val))))
  |_=>none
 |_=>none
section
variable {K:Frag} {B F:Hp} {A:List Addr} {σ:Sg} {H:Hp} {E E':List Sl} {xs:List V} {Xs:List Sl} {v:V} {s:Sl} {d:PyData}
theorem FrF.frzVar{i:Nat}(h:FrF K B F A σ H E xs Xs)(e:E[i]? =some s)(q:s.val=some d):∃F' A' v,σ[i]? =some (some v)∧Rp K F' v d∧FrF K B F' A' σ H (E.set i (.sh d)) xs Xs:=by
 obtain⟨F',A',v,ev,r,b1,b2,b3,sl,nd,fr⟩:=h.frzAt (k:=Xs.length+i) (by rw[D2 (by omega)];simpa using e) q (h.pl s (List.mem_of_getElem? e))
 rw[D2 (by rw[fw,h.len];omega),fw,h.len,Bo]at ev
 have e3:(Xs++E).set (Xs.length+i) (.sh d)=Xs++E.set i (.sh d):=by
  rw[List.set_append_right _ _ (by omega),Bo]
 rw[e3]at sl
 refine⟨F',A',v,ev,r,b1,b2,b3,sl,nd,fr,h.len,fun s hs=>?_⟩
 rcases List.mem_or_eq_of_mem_set hs with hs |hs
 ·exact h.pl s hs
 ·subst hs;rfl
theorem FrF.frz0(h:FrF K B F A σ H E (v::xs) (s::Xs))(q:PL.frz E s=some (d,E')):∃F' A',FrF K B F' A' σ H E' (v::xs) (.sh d::Xs):=by
 have key:s.val=some d→s.isAl=false→E=E'→∃F' A',FrF K B F' A' σ H E' (v::xs) (.sh d::Xs):=fun q' c e=>by
  subst e
  obtain⟨F',A',v',ev,r,b1,b2,b3,sl,nd,fr⟩:=h.frzAt (k:=0) rfl q' c
  exact⟨F',A',b1,b2,b3,sl,nd,fr,by simpa using h.len,h.pl⟩
 have al:∀i t,s=.al i→E[i]? =some t→t.val=some d→E'=E.set i (.sh d)→∃F' A',FrF K B F' A' σ H E' (v::xs) (.sh d::Xs):=fun i t es ei qt eE=>by
  subst es eE
  obtain⟨v',A1,ev,hs⟩:=h.ext (k:=0) rfl
  cases ev
  obtain⟨rfl,w,ew,hw⟩:=hs
  cases ew
  obtain⟨F',A',w,ew,r,h'⟩:=h.frzVar ei qt
  rw[hw]at ew
  cases ew
  obtain⟨A2,h2⟩:=h'.pop
  exact⟨F',A2,h2.push ⟨rfl,_,rfl,r⟩⟩
 cases s with
 |no=>cases q
 |od kvs=>cases q
 |sh d'=>cases q;exact key rfl rfl rfl
 |ow ds=>cases q;exact key rfl rfl rfl
 |tx ps=>cases q;exact key rfl rfl rfl
 |br d'=>
  simp only[PL.frz]at q
  split at q
  ·rename_i hf
   cases q
   obtain⟨r,_⟩:=h.look0 (d:=d) rfl
   obtain⟨A2,h2⟩:=h.pop
   exact⟨F,A2,h2.push ⟨rfl,_,rfl,h.cold r hf⟩⟩
  ·cases q
 |al i=>
  simp only[PL.frz]at q
  split at q
  ·rename_i d' ei
   cases q
   refine al i _ rfl ei rfl ?_
   exact List.ext_getElem? fun j=>by
    by_cases hj:i=j
    ·subst hj;rw[List.getElem?_set_self',ei];rfl
    ·rw[List.getElem?_set_ne hj]
  ·rename_i ds ei
   cases q
   exact al i _ rfl ei rfl rfl
  ·rename_i ps ei
   cases q
   exact al i _ rfl ei rfl rfl
  ·cases q
theorem FrF.store{i:Nat}(h:FrF K B F A σ H E (v::xs) (s::Xs))(c:s.isAl=false)(cx:∀s∈Xs,s.isAl=false)(hi:i < E.length):∃A',FrF K B F A' (σ.set i (some v)) H (E.set i s) xs Xs:=by
 have hlen:=h.len
 have hsl:=h.slen
 obtain⟨bf,fh,tf,sl,nd,fr,len,pl⟩:=h
 generalize hT:List.map some (v::xs)++σ=T at sl
 generalize hS:(s::Xs)++E=S at sl
 cases sl with
 |nil=>cases hS
 |cons q r=>
  rename_i A1 _ _ A2
  injection hT with h1 hT
  injection hS with h2 hS
  subst h1 h2 hT hS
  have len':xs.length=Xs.length:=by simpa using len
  have r:SAll (SlOk K F H σ) (List.map some xs++σ) (Xs++E) A2:=r
  obtain⟨t,et⟩:∃t,E[i]? =some t:=⟨E[i],uH hi⟩
  obtain⟨o,C0,C1,C2,eA,eo,hp,put⟩:=r.at (k:=Xs.length+i) (s:=t) (by rw[D2 (by omega)];simpa using et)
  have all:∀s'∈Xs++E,s'.isAl=false:=fun s' hs=>(Zaj.mp hs).elim (cx s') (pl s')
  have chg:∀(o:Option V) (s':Sl) (C:List Addr),s'.isAl=false→SlOk K F H σ o s' C→SlOk K F H (σ.set i (some v)) o s' C:=fun o s' C hc z=>by
   cases s' <;> first |exact z |cases hc
  have z:=put (SlOk K F H (σ.set i (some v))) (some v) s A1 (chg _ _ _ c q) fun o s' C hs _ z=>chg o s' C (all s' hs) z
  have e3:(Xs++E).set (Xs.length+i) s=Xs++E.set i s:=by
   rw[List.set_append_right _ _ (by omega),Bo]
  have e2:(List.map some xs++σ).set (Xs.length+i) (some v)=List.map some xs++σ.set i (some v):=by
   rw[←len',List.set_append_right _ _ (by rw[fw];omega),fw,Bo]
  rw[e2,e3]at z
  refine⟨_,bf,fh,tf,z,?_,fun a ha=>fr a ?_,len',fun s' hs=>?_⟩
  ·rw[eA]at nd
   have p:(C0++(A1++C2)).Perm (A1++(C0++C2)):=by
    rw[←pk,←pk]
    exact List.Perm.append_right _ List.perm_append_comm
   refine p.nodup_iff.mpr (List.Nodup.sublist ?_ nd)
   exact List.Sublist.append (List.Sublist.refl _) (List.Sublist.append (List.Sublist.refl _) (List.sublist_append_right _ _))
  ·rw[eA]
   simp only[Zaj]at ha ⊢
   rcases ha with z |z |z
   ·exact .inr (.inl z)
   ·exact .inl z
   ·exact .inr (.inr (.inr z))
  ·rcases List.mem_or_eq_of_mem_set hs with hs |hs
   ·exact pl s' hs
   ·subst hs;exact c
end
end PL
namespace PL
open PySem L2 Nh
abbrev bv:=List Sl→Option (Sl×List Sl)
abbrev jD:=List Sl→Option (Bool×List Sl)
abbrev pR:=List Sl→Option (List Sl×List Sl)
abbrev pS:=List Sl→Option (List PyData×List Sl)
inductive Fl where
 |nx |bk |ct |rt (r:Sl)
abbrev cA:=List Sl→Option (List Sl×Fl)
abbrev Calm(Xs:List Sl):Prop:=∀s∈Xs,s.isBr=false
abbrev Still(Xs:List Sl):Prop:=∀s∈Xs,s.isAl=false
theorem Still.calm{Xs:List Sl}(h:Still Xs):Calm Xs:=fun s hs=>by
 have:=h s hs
 cases s <;> simp[Sl.isAl,Sl.isBr]at this ⊢
theorem Still.nil{Xs:List Sl}(h:Xs=[]):Still Xs:=fun s hs=>by subst h;cases hs
theorem Calm.nil{Xs:List Sl}(h:Xs=[]):Calm Xs:=(Still.nil h).calm
theorem Calm.cons{Xs:List Sl}{s:Sl}(h:Calm Xs)(hs:s.isBr=false):Calm (s::Xs):=fun t ht=>(Zal.mp ht).elim (fun e=>e▸hs) (h t)
def rd(K:Frag)(m:Bool)(f:bv):TE:=fun σ H Q=>∃B E xs Xs r E',Frm K B σ H E xs Xs∧(m=true→Calm Xs)∧f E=some (r,E')∧∀v H',Frm K B σ H' E' (v::xs) (r::Xs)→Q v H'
def rt(K:Frag)(m:Bool)(f:jD):TT:=fun σ H Q=>∃B E xs Xs b E',Frm K B σ H E xs Xs∧(m=true→Calm Xs)∧f E=some (b,E')∧∀H',Frm K B σ H' E' xs Xs→Q b H'
def ra(K:Frag)(m:Bool)(f:pR):TA:=fun σ H Q=>∃B E xs Xs rs E',Frm K B σ H E xs Xs∧(m=true→Calm Xs)∧f E=some (rs,E')∧∀vs H',vs.length=rs.length→Frm K B σ H' E' (vs.reverse++xs) (rs.reverse++Xs)→Q vs H'
def KB(K:Frag)(m:Bool)(f:pS):TA:=fun σ H Q=>∃B E xs Xs ds E',Frm K B σ H E xs Xs∧(m=true→Calm Xs)∧f E=some (ds,E')∧∀vs H',vs.length=ds.length→Frm K B σ H' E' (vs.reverse++xs) (ds.reverse.map .sh++Xs)→Q vs H'
def rs(K:Frag)(g:cA):TS:=fun D σ H=>∃B E xs Xs E' fl,Frm K B σ H E xs Xs∧Xs=[]∧g E=some (E',fl)∧match fl with
 |.nx=>∀σ' H',Frm K B σ' H' E' xs Xs→D.nx σ' H'
 |.bk=>∀σ' H',Frm K B σ' H' E' xs Xs→D.bk σ' H'
 |.ct=>∀σ' H',Frm K B σ' H' E' xs Xs→D.ct σ' H'
 |.rt r=>∀σ' v H',Frm K B σ' H' E' (v::xs) (r::Xs)→D.rt v H'
def EX(X:Cx)(e:Expr)(m:Bool)(f:bv):Prop:=PE X e (rd X.K m f)
def TX(X:Cx)(e:Expr)(m:Bool)(f:jD):Prop:=PT X e (rt X.K m f)
def WX(X:Cx)(e:Expr)(m:Bool)(f:jD):Prop:=PW X e (rt X.K m f)
def AX(X:Cx)(es:List Expr)(m:Bool)(f:pR):Prop:=PA X es (ra X.K m f)
def DX(X:Cx)(es:List Expr)(m:Bool)(f:pS):Prop:=PA X es (KB X.K m f)
def SX(X:Cx)(s:Stmt)(g:cA):Prop:=PS X s (rs X.K g)
def BY(X:Cx)(s:List Stmt)(g:cA):Prop:=PSs X s (rs X.K g)
section
variable {X:Cx}
theorem cn{e:Expr}{t t':TE}(h:PE X e t)(k:∀σ H Q,t' σ H Q→t σ H Q):PE X e t':=fun pins s σ H Q I q=>h pins s σ H Q I (k σ H Q q)
theorem pT{e:Expr}{t t':TT}(h:PT X e t)(k:∀σ H Q,t' σ H Q→t σ H Q):PT X e t':=fun pins s σ H Q I q=>h pins s σ H Q I (k σ H Q q)
theorem BZ{e:Expr}{t t':TT}(h:PW X e t)(k:∀σ H Q,t' σ H Q→t σ H Q):PW X e t':=fun whole pins s σ H Q I q=>h whole pins s σ H Q I (k σ H Q q)
theorem tJ{es:List Expr}{t t':TA}(h:PA X es t)(k:∀σ H Q,t' σ H Q→t σ H Q):PA X es t':=fun pos pins s σ H Q I q=>h pos pins s σ H Q I (k σ H Q q)
theorem ju{st:Stmt}{t t':TS}(h:PS X st t)(k:∀D σ H,t' D σ H→t D σ H):PS X st t':=fun pins s σ H D I q=>h pins s σ H D I (k D σ H q)
theorem yu{st:List Stmt}{t t':TS}(h:PSs X st t)(k:∀D σ H,t' D σ H→t D σ H):PSs X st t':=fun pins s σ H D I q=>h pins s σ H D I (k D σ H q)
end
def FZ:PyData→Option V
 |.none=>some .non
 |.bool b=>some (.bl b)
 |.int i=>some (.int i)
 |.str x=>some (.str x)
 |_=>none
theorem pU{K:Frag}{H:Hp}{d:PyData}{v:V}(h:FZ d=some v):Rp K H v d:=by
 cases d <;> simp[FZ]at h <;> subst h <;> constructor
def ab(i:Nat):bv:=fun E=>match E[i]? with
 |some (.sh d)=>some (.sh d,E)
 |some (.ow _)=>some (.al i,E)
 |some (.od _)=>some (.al i,E)
 |some (.tx _)=>some (.al i,E)
 |_=>none
def pC(d:PyData):bv:=fun E=>some (.sh d,E)
section
variable {X:Cx} {K:Frag}
theorem aa (i:Nat) {x:Str} {pos:Pos} (hN:X.N[i]? =some x:=by rfl) (hv:Br X.env.scope x:=by first |exact Or.inl rfl |exact Or.inr (Or.inl rfl) |exact Or.inr (Or.inr rfl)) (hd:(x == ("__debug__":Str))=false:=by decide)
  (hcd:(x == ("__classdict__":Str))=false:=by decide):EX X (.Name x pos) false (ab i):=by
 refine cn (jr hN hv hd hcd) fun σ H Q h=>?_
 obtain⟨B,E,xs,Xs,r,E',⟨F,A,fr⟩,_,e,q⟩:=h
 unfold ab at e
 split at e
 ·rename_i d ei
  cases e
  obtain⟨o,A1,eo,rfl,v,rfl,rp⟩:=fr.var ei
  exact⟨v,eo,q v H ⟨F,A,fr.push ⟨rfl,v,rfl,rp⟩⟩⟩
 ·rename_i ds ei
  cases e
  obtain⟨o,A1,eo,l,vs,rfl,_⟩:=fr.var ei
  exact⟨_,eo,q _ H ⟨F,A,fr.push ⟨rfl,_,rfl,eo⟩⟩⟩
 ·rename_i ds ei
  cases e
  obtain⟨o,A1,eo,l,vs,A2,rfl,_⟩:=fr.var ei
  exact⟨_,eo,q _ H ⟨F,A,fr.push ⟨rfl,_,rfl,eo⟩⟩⟩
 ·rename_i ds ei
  cases e
  obtain⟨o,A1,eo,l,vs,rfl,_⟩:=fr.var ei
  exact⟨_,eo,q _ H ⟨F,A,fr.push ⟨rfl,_,rfl,eo⟩⟩⟩
 ·cases e
theorem G9{e:Expr}{v:V}(d:PyData)(h:PE X e (tC v))(hd:FZ d=some v:=by rfl):EX X e false (pC d):=by
 refine cn h fun σ H Q h=>?_
 obtain⟨B,E,xs,Xs,r,E',⟨F,A,fr⟩,_,e,q⟩:=h
 cases e
 exact q v H ⟨F,A,fr.push ⟨rfl,v,rfl,pU hd⟩⟩
theorem aj{i j pos}:EX X (.Constant (.int i) j pos) false (pC (.int i)):=G9 _ Gv
theorem kw{b j pos}:EX X (.Constant (.bool b) j pos) false (pC (.bool b)):=G9 _ Ip
theorem jX{x j pos}:EX X (.Constant (.str x) j pos) false (pC (.str x)):=G9 _ Bv
end
abbrev P2:=List Sl→Sl→Sl→Option (Sl×List Sl)
def kJ(K:Frag)(r:R2)(p:P2):Prop:=∀{B F:Hp} {A:List Addr} {σ:Sg} {H:Hp} {E:List Sl} {xs:List V} {Xs:List Sl} {v1 v2:V} {s1 s2 res:Sl} {E':List Sl} {Q:VK},
 FrF K B F A σ H E (v2::v1::xs) (s2::s1::Xs)→p E s1 s2=some (res,E')→(∀v H',Frm K B σ H' E' (v::xs) (res::Xs)→Q v H')→r v1 v2 H Q
def ae(p:P2)(m2:Bool)(f g:bv):bv:=fun E=>(f E).bind fun a=>if m2&&a.1.isBr then none else (g a.2).bind fun b=>p b.2 a.1 b.1
theorem tK{K:Frag}{r:R2}{p:P2}(hp:kJ K r p){m1 m2:Bool}{f g:bv}{σ:Sg}{H:Hp}{Q:VK}(h:rd K (m1||m2) (ae p m2 f g) σ H Q):uT r (rd K m1 f) (rd K m2 g) σ H Q:=by
 obtain⟨B,E,xs,Xs,res,E',fr,c,e,q⟩:=h
 obtain⟨⟨s1,E1⟩,e1,e⟩:=Za.mp e
 by_cases hb:(m2&&s1.isBr)=true
 ·rw[if_pos hb]at e;cases e
 rw[if_neg hb]at e
 obtain⟨⟨s2,E2⟩,e2,e⟩:=Za.mp e
 refine⟨B,E,xs,Xs,s1,E1,fr,fun z=>c (by simp[z]),e1,fun v1 H1 fr1=>?_⟩
 refine⟨B,E1,v1::xs,s1::Xs,s2,E2,fr1,fun z=>?_,e2,fun v2 H2 fr2=>?_⟩
 ·refine Calm.cons (c (by simp[z])) ?_
  cases hs:s1.isBr with
  |false=>rfl
  |true=>exact absurd (by simp[z,hs]) hb
 ·obtain⟨F,A,fr2⟩:=fr2
  exact hp fr2 e q
def eu(op:PyData→PyData→Option PyData):P2:=fun E s1 s2=>(look E s1).bind fun d1=>(look E s2).bind fun d2=>(op d1 d2).map fun d=>(.sh d,E)
theorem FrF.res2{K:Frag}{B F:Hp}{A:List Addr}{σ:Sg}{H:Hp}{E:List Sl}{xs:List V}{Xs:List Sl}{v1 v2 v:V}{s1 s2 s:Sl}(h:FrF K B F A σ H E (v2::v1::xs) (s2::s1::Xs))(q:SlOk K F H σ (some v) s []):Frm K B σ H E (v::xs) (s::Xs):=by
 obtain⟨A1,h⟩:=h.pop
 obtain⟨A2,h⟩:=h.pop
 exact⟨F,A2,h.push q⟩
theorem mf{K:Frag}{r:R2}{op:PyData→PyData→Option PyData}(h:∀(d1 d2 d:PyData) (v1 v2:V) (H:Hp) (Q:VK),op d1 d2=some d→Rp K H v1 d1→Rp K H v2 d2→∃v,FZ d=some v∧(Q v H→r v1 v2 H Q)):kJ K r (eu op):=by
 intro B F A σ H E xs Xs v1 v2 s1 s2 res E' Q fr e q
 obtain⟨d1,e1,e⟩:=Za.mp e
 obtain⟨d2,e2,e⟩:=Za.mp e
 obtain⟨d,e3,e⟩:=Zaf.mp e
 cases e
 obtain⟨v,hv,k⟩:=h d1 d2 d v1 v2 H Q e3 (fr.look1 e1).1 (fr.look0 e2).1
 exact k (q v H (fr.res2 ⟨rfl,v,rfl,pU hv⟩))
section
variable {X:Cx} {a b:Expr} {m1 m2:Bool} {f g:bv} {pos:Pos}
theorem pV{op:Operator}{r:R2}{p:P2}(ho:OpR X (binaryOp op) r)(hp:kJ X.K r p)(ha:EX X a m1 f)(hb:EX X b m2 g):EX X (.BinOp a op b pos) (m1||m2) (ae p m2 f g):=cn (yg ho ha hb) fun _ _ _ h=>tK hp h
theorem B4{op:CmpOp}{r:R2}{p:P2}(ho:OpR X (compareOp op) r)(hp:kJ X.K r p)(ha:EX X a m1 f)(hb:EX X b m2 g)(hm:behindInMarks op b=false):EX X (.Compare a [op] [b] pos) (m1||m2) (ae p m2 f g):=cn (Ef ho ha hb hm) fun _ _ _ h=>tK hp h
def dh(f:bv):jD:=fun E=>(f E).bind fun a=>match a.1 with
 |.sh (.bool b)=>some (b,a.2)
 |_=>none
theorem B5{K:Frag}{m:Bool}{f:bv}{σ:Sg}{H:Hp}{Q:Bool→Hp→Prop}(h:rt K m (dh f) σ H Q):rd K m f σ H (fun x H'=>∃k,x=.bl k∧Q k H'):=by
 obtain⟨B,E,xs,Xs,b,E',fr,c,e,q⟩:=h
 obtain⟨⟨s,E1⟩,e1,e⟩:=Za.mp e
 refine⟨B,E,xs,Xs,s,E1,fr,c,e1,fun v H' ⟨F,A,fr'⟩=>?_⟩
 simp only at e
 split at e
 ·cases e
  obtain⟨r,_⟩:=fr'.look0 (d:=.bool b) rfl
  cases r
  obtain⟨A',fr2⟩:=fr'.pop
  exact⟨b,rfl,q H' ⟨F,A',fr2⟩⟩
 ·cases e
theorem pW{op:CmpOp}{r:R2}{p:P2}(ho:OpR X (compareOp op) r)(hp:kJ X.K r p)(ha:EX X a m1 f)(hb:EX X b m2 g)(hm:behindInMarks op b=false):TX X (.Compare a [op] [b] pos) (m1||m2) (dh (ae p m2 f g)):=by
 refine pT (yk ho ha hb hm) fun σ H Q h=>?_
 exact tK hp (B5 h)
end
def zZ:Int:=2 ^ 20000
def dE(i j:Int):Bool:=decide (-(2 ^ 64) < i∧i < 2 ^ 64)||decide (-(2 ^ 64) < j∧j < 2 ^ 64)||decide (-zZ < i∧i < zZ∧ -zZ < j∧j < zZ)
def jk(j:Int):Bool:=decide (0 < j∧j < 2 ^ 200)
def lz(C:Int→Int→Bool)(g:Int→Int→PyData):PyData→PyData→Option PyData
 |.int i,.int j=>if C i j then some (g i j)else none
 |_,_=>none
abbrev Ew(C:Int→Int→Bool)(g:Int→Int→V):R2:=rI (fun i j=>C i j=true) g
theorem pX{K:Frag}{C:Int→Int→Bool}{g:Int→Int→PyData}{g':Int→Int→V}(hg:∀i j,FZ (g i j)=some (g' i j)):kJ K (Ew C g') (eu (lz C g)):=by
 refine mf fun d1 d2 d v1 v2 H Q e r1 r2=>?_
 unfold lz at e
 split at e
 ·split at e
  ·cases e
   cases r1
   cases r2
   rename_i hC
   exact⟨_,hg _ _,fun q=>⟨_,_,rfl,rfl,hC,q⟩⟩
  ·cases e
 ·cases e
section
variable {X:Cx}
theorem oD{i:Int}(h1: -zZ < i)(h2:i < zZ):Builtin.Int.intBits i≤2 ^ 20:=by
 unfold zZ at h1 h2
 have h:i.natAbs < 2 ^ 20000:=by
  have e:((2 ^ 20000:Nat):Int)=2 ^ 20000:=Int.natCast_pow 2 20000
  generalize (2 ^ 20000:Int)=z at h1 h2 e
  generalize (2 ^ 20000:Nat)=y at e ⊢
  omega
 unfold Builtin.Int.intBits
 split
 ·exact Nat.zero_le _
 ·rename_i hz
  have hz':i≠0:=by simpa using hz
  have:i.natAbs.log2 < 20000:=(Nat.log2_lt (by omega)).mpr h
  omega
theorem B6{i j:Int}(h:dE i j=true):PySem.IntMulOk i j:=by
 unfold dE at h
 simp only[Bool.or_eq_true,decide_eq_true_eq]at h
 rcases h with(h |h) |h
 ·exact CMul.ok (.inl h)
 ·exact CMul.ok (.inr h)
 ·exact PySem.IntMulOk.of_bits (oD h.1 h.2.1) (oD h.2.2.1 h.2.2.2)
end
end PL
namespace PL
open PySem L2 Nh PyProof.Rows
abbrev nu:=L2.St
section
variable {X:Cx}
theorem OpR.or{f:Value→Value→Sem Value}{r r':R2}(h:OpR X f r)(h':OpR X f r'):OpR X f (fun x y H Q=>r x y H Q∨r' x y H Q):=by
 intro pins s σ H x y v u Q I rx ry q
 rcases q with q |q
 ·exact h pins s σ H x y v u Q I rx ry q
 ·exact h' pins s σ H x y v u Q I rx ry q
theorem OpR.imp{f:Value→Value→Sem Value}{r r':R2}(h:OpR X f r)(k:∀x y H Q,r' x y H Q→r x y H Q):OpR X f r':=fun pins s σ H x y v u Q I rx ry q=>h pins s σ H x y v u Q I rx ry (k _ _ _ _ q)
def F4(K:Frag):R2:=fun x y H Q=>∃l b xs zs,x=.ref l∧y=.ref b∧SqL K H l xs∧SqL K H b zs∧xs.length+zs.length≤sizeLine∧∀p,H p=none→Q (.ref p) (upd H p (.lst (xs++zs)))
theorem Ex:OpR X (binaryOp .Add) (F4 X.K):=by
 intro pins s σ H x y v u Q I rx ry h
 obtain⟨l,b,xs,zs,rfl,rfl,hH,hB,hz,q⟩:=h
 cases rx
 cases ry
 obtain⟨its,r,p1,z1⟩:=I.list hH
 obtain⟨its2,r2,p2,z2⟩:=I.list hB
 obtain⟨⟨cls,dd,data,sl⟩,ho,hc,n,hd⟩:=p1.isList
 obtain⟨⟨cls2,dd2,data2,sl2⟩,ho2,hc2,n2,Bs⟩:=p2.isList
 simp only at hc hd hc2 Bs
 subst hc hd hc2 Bs
 have l1:=r.length
 have l2:=r2.length
 refine concat_meets ⟨_,ho,rfl⟩ ⟨_,ho2,rfl⟩ noFill_list_add seq_list_add PySem.F.slot_list_add PySem.F.entry_list_add (PySem.F.args_list_add_2 _ _) (list_addW l b its.toArray its2.toArray n n2 dd dd2 sl sl2 (by simp only[lS];omega)) ⟨ho,ho2,?_⟩
 have ea:its.toArray++its2.toArray=(its++its2).toArray:=by simp
 rw[ea]
 exact⟨.ref _,_,I.lnew (t':=s.toks) (r.append r2) (by rw[pI];omega),rfl,q _ I.fresh⟩
def F7(K:Frag):R2:=fun x y H Q=>∃l k xs,x=.ref l∧y=.int k∧SqL K H l xs∧ -(2 ^ 63)≤k∧k < 2 ^ 63∧xs.length*k.toNat≤sizeLine∧
 ∀p,H p=none→Q (.ref p) (upd H p (.lst (List.replicate k.toNat xs).flatten))
theorem Ey:OpR X (binaryOp .Mult) (F7 X.K):=by
 intro pins s σ H x y v u Q I rx ry h
 obtain⟨l,k,xs,rfl,rfl,hH,h1,h2,hz,q⟩:=h
 cases rx
 obtain⟨t,rfl⟩:=ry
 obtain⟨its,r,p1,z1⟩:=I.list hH
 obtain⟨⟨cls,d,data,sl⟩,ho,hcl,n,hd⟩:=p1.isList
 simp only at hcl hd
 subst hcl hd
 have l1:=r.length
 have hsz:its.toArray.size*k.toNat≤2 ^ 24:=by rw[lS,←l1];exact hz
 refine wpAny_binaryOp_repeat_ref (T:="list") (U:="int") (by decide) ⟨_,ho,rfl⟩ (fun s'=>typeIs_int s' k t) noFill_list_mul F.fills_int_mul F.slot_int_rmul repeat_list F.slot_int_index.lookup
  (call_meets F.slot_int_rmul (typeIs_int s k t) F.entry_int_rmul (F.args_int_rmul_2 _ _) (lm_int_rmul_list_any k t l its.toArray n d sl)
   ⟨ho,rfl,⟨_,ho,rfl⟩,call_meets F.slot_list_mul ⟨_,ho,rfl⟩ F.entry_list_mul (F.args_list_mul_2 _ _)
    (lm_list_mul_any l its.toArray n d sl k t (by simp[Builtin.List.listFitsIndex];omega) (by omega) (by simp[Builtin.List.listTooLong,sizeLine];omega))
    ⟨ho,?_⟩⟩)
 rw[listMul_foldl_if]
 exact⟨.ref _,_,I.lnew (t':=s.toks) (r.rep k.toNat) (by rw[Ep,Nat.mul_comm];exact hz),rfl,q _ I.fresh⟩
end
def aW:P2:=fun E s1 s2=>(look E s1).bind fun d1=>(look E s2).bind fun d2=>match d1,d2 with
 |.int i,.int j=>some (.sh (.int (i+j)),E)
 |.str a,.str b=>if a.length+b.length≤1000000 then some (.sh (.str (a++b)),E)else none
 |.list a,.list b=>if decide (a.length+b.length≤1000000)&&(!e8 E s1||aN a)&&(!e8 E s2||aN b)then some (.ow (a++b),E)else none
 |_,_=>none
theorem small{n:Nat}(h:n≤1000000):n < sizeLine:=oW h (by rw[sizeLine_eq];decide)
theorem jv{n:Nat}(h:n≤1000000):n≤sizeLine:=ma (small h)
section
variable {K:Frag} {B F:Hp} {A:List Addr} {σ:nu} {H:Hp} {E:List Sl} {xs:List V} {Xs:List Sl} {v:V} {s:Sl} {ds:List PyData}
theorem FrF.items{k:Nat}(h:FrF K B F A σ H E xs Xs)(e:Xs[k]? =some s)(q:PL.look E s=some (.list ds))(c:(!e8 E s||aN ds)=true):∃a vs,xs[k]? =some (.ref a)∧SqL K H a vs∧RpA K F vs ds:=by
 obtain⟨v,ev,r,f⟩:=h.look e q
 cases hh:e8 E s with
 |false=>
  obtain⟨a,vs,rfl,h1,h2⟩:=f hh
  exact⟨a,vs,ev,h1,h2⟩
 |true=>
  rw[hh]at c
  cases r with
  |lst h1 h2=>exact⟨_,_,ev,h1,h.coldA h2 (by simpa using c)⟩
theorem FrF.res2l{v1 v2:V}{s1 s2:Sl}{vs:List V}(h:FrF K B F A σ H E (v2::v1::xs) (s2::s1::Xs))(r:RpA K F vs ds){p:Addr}(hp:H p=none):Frm K B σ (upd H p (.lst vs)) E (.ref p::xs) (.ow ds::Xs):=by
 obtain⟨A1,h⟩:=h.pop
 obtain⟨A2,h⟩:=h.pop
 exact⟨F,_,h.newl r hp⟩
end
abbrev yw(K:Frag):R2:=fun x y H Q=>(∃i j,x=.int i∧y=.int j∧Q (.int (i+j)) H)∨(∃i j,x=.str i∧y=.str j∧i.length+j.length≤sizeLine∧Q (.str (i++j)) H)∨F4 K x y H Q
theorem yy{X:Cx}:OpR X (binaryOp .Add) (yw X.K):=OpR.or GO (OpR.or wR Ex)
theorem Ez{K:Frag}:kJ K (yw K) aW:=by
 intro B F A σ H E xs Xs v1 v2 s1 s2 res E' Q fr e q
 obtain⟨d1,e1,e⟩:=Za.mp e
 obtain⟨d2,e2,e⟩:=Za.mp e
 have r1:=(fr.look1 e1).1
 have r2:=(fr.look0 e2).1
 split at e
 ·cases e;cases r1;cases r2
  exact .inl ⟨_,_,rfl,rfl,q _ _ (fr.res2 ⟨rfl,_,rfl,.int _⟩)⟩
 ·split at e
  ·rename_i hl
   cases e;cases r1;cases r2
   exact .inr (.inl ⟨_,_,rfl,rfl,jv hl,q _ _ (fr.res2 ⟨rfl,_,rfl,.str _⟩)⟩)
  ·cases e
 ·split at e
  ·rename_i hc
   cases e
   simp only[wL,decide_eq_true_eq]at hc
   obtain⟨a1,u1,x1,q1,i1⟩:=fr.items (k:=1) rfl e1 hc.1.2
   obtain⟨a2,u2,x2,q2,i2⟩:=fr.items (k:=0) rfl e2 hc.2
   cases x1;cases x2
   have l1:=i1.len
   have l2:=i2.len
   exact .inr (.inr ⟨_,_,_,_,rfl,rfl,q1,q2,jv (by omega),fun p hp=>q _ _ (fr.res2l (i1.append i2) hp)⟩)
  ·cases e
 ·cases e
def fQ:P2:=eu (lz (fun _ _=>true) fun i j=>.int (i - j))
def dq:P2:=eu (lz (fun _ j=>jk j) fun i j=>.int (i / j))
def ft:P2:=eu (lz (fun _ j=>decide (0 < j)) fun i j=>.int (i % j))
def o4:P2:=eu (lz (fun i j=>decide (0≤j∧j≤1000000∧ -(2 ^ 64) < i∧i < 2 ^ 64)) fun i j=>.int (i ^ j.toNat))
section
variable {X:Cx}
theorem yz:OpR X (binaryOp .Sub) (Ew (fun _ _=>true) fun i j=>.int (i - j)):=OpR.imp GP fun x y H Q ⟨i,j,a,b,_,q⟩=>⟨i,j,a,b,q⟩
theorem B7:OpR X (binaryOp .FloorDiv) (Ew (fun _ j=>jk j) fun i j=>.int (i / j)):=JB fun i j _ _ _ _ _ hc q=>by
 obtain⟨h1,h2⟩:=of_decide_eq_true hc
 have h3:j.natAbs.log2 < 9000:=by
  have:j.natAbs < 2 ^ 200:=by omega
  have:=(Nat.log2_lt (n:=j.natAbs) (k:=200) (by omega)).mpr this
  omega
 exact floordiv_int (by omega) (by rw[Int.fdiv_eq_ediv_of_nonneg i (by omega)];exact q) (.inl (PyProof.noPylong_of_log2 h3))
theorem EA:OpR X (binaryOp .Mod) (Ew (fun _ j=>decide (0 < j)) fun i j=>.int (i % j)):=OpR.imp GQ fun x y H Q ⟨i,j,a,b,c,q⟩=>⟨i,j,a,b,of_decide_eq_true c,q⟩
theorem EB{i j:Int}(c:0≤j∧j≤1000000∧ -(2 ^ 64) < i∧i < 2 ^ 64):IC i j:=⟨c.1,c.2.1,by omega⟩
theorem EC:OpR X (binaryOp .Pow) (Ew (fun i j=>decide (0≤j∧j≤1000000∧ -(2 ^ 64) < i∧i < 2 ^ 64)) fun i j=>.int (i ^ j.toNat)):=OpR.imp GR fun x y H Q ⟨i,j,a,b,c,q⟩=>⟨i,j,a,b,EB (of_decide_eq_true c),q⟩
end
def gu:P2:=fun E s1 s2=>(look E s1).bind fun d1=>(look E s2).bind fun d2=>match d1,d2 with
 |.int i,.int j=>if dE i j then some (.sh (.int (i*j)),E)else none
 |.list a,.int k=>if decide (a.length*k.toNat≤1000000∧ -1000000≤k∧k≤1000000)&&(!e8 E s1||aN a)then some (.ow (List.replicate k.toNat a).flatten,E)else none
 |_,_=>none
abbrev yA(K:Frag):R2:=fun x y H Q=>Ew dE (fun i j=>.int (i*j)) x y H Q∨F7 K x y H Q
theorem yB{X:Cx}:OpR X (binaryOp .Mult) (yA X.K):=OpR.or (JB fun _ _ _ _ _ _ _ hc q=>mul_int q (B6 hc)) Ey
theorem ED{K:Frag}:kJ K (yA K) gu:=by
 intro B F A σ H E xs Xs v1 v2 s1 s2 res E' Q fr e q
 obtain⟨d1,e1,e⟩:=Za.mp e
 obtain⟨d2,e2,e⟩:=Za.mp e
 have r1:=(fr.look1 e1).1
 have r2:=(fr.look0 e2).1
 split at e
 ·split at e
  ·rename_i hm
   cases e;cases r1;cases r2
   exact .inl ⟨_,_,rfl,rfl,hm,q _ _ (fr.res2 ⟨rfl,_,rfl,.int _⟩)⟩
  ·cases e
 ·split at e
  ·rename_i hc
   cases e
   simp only[wL,decide_eq_true_eq]at hc
   obtain⟨a1,u1,x1,q1,i1⟩:=fr.items (k:=1) rfl e1 hc.2
   cases x1;cases r2
   have l1:=i1.len
   exact .inr ⟨_,_,_,rfl,rfl,q1,by omega,by omega,jv (by rw[l1];exact hc.1.1),fun p hp=>q _ _ (fr.res2l (i1.rep _) hp)⟩
  ·cases e
 ·cases e
section
variable {X:Cx} {a b:Expr} {m1 m2:Bool} {f g:bv} {pos:Pos}
theorem bw(ha:EX X a m1 f)(hb:EX X b m2 g):EX X (.BinOp a .Add b pos) (m1||m2) (ae aW m2 f g):=pV yy Ez ha hb
theorem gP(ha:EX X a m1 f)(hb:EX X b m2 g):EX X (.BinOp a .Sub b pos) (m1||m2) (ae fQ m2 f g):=pV yz (pX fun _ _=>rfl) ha hb
theorem gQ(ha:EX X a m1 f)(hb:EX X b m2 g):EX X (.BinOp a .Mult b pos) (m1||m2) (ae gu m2 f g):=pV yB ED ha hb
theorem fR(ha:EX X a m1 f)(hb:EX X b m2 g):EX X (.BinOp a .FloorDiv b pos) (m1||m2) (ae dq m2 f g):=pV B7 (pX fun _ _=>rfl) ha hb
theorem e9(ha:EX X a m1 f)(hb:EX X b m2 g):EX X (.BinOp a .Mod b pos) (m1||m2) (ae ft m2 f g):=pV EA (pX fun _ _=>rfl) ha hb
theorem tL(ha:EX X a m1 f)(hb:EX X b m2 g):EX X (.BinOp a .Pow b pos) (m1||m2) (ae o4 m2 f g):=pV EC (pX fun _ _=>rfl) ha hb
end
def Ka(K:Frag)(r:V→Hp→VK→Prop)(op:PyData→Option PyData):Prop:=∀(d1 d:PyData) (v1:V) (H:Hp) (Q:VK),op d1=some d→Rp K H v1 d1→∃v,FZ d=some v∧(Q v H→r v1 H Q)
def jh(op:PyData→Option PyData)(f:bv):bv:=fun E=>(f E).bind fun a=>(look a.2 a.1).bind fun d1=>(op d1).map fun d=>(.sh d,a.2)
theorem IS{K:Frag}{r:V→Hp→VK→Prop}{op:PyData→Option PyData}(hp:Ka K r op){m:Bool}{f:bv}{σ:nu}{H:Hp}{Q:VK}(h:rd K m (jh op f) σ H Q):rd K m f σ H (fun x H1=>r x H1 Q):=by
 obtain⟨B,E,xs,Xs,res,E',fr,c,e,q⟩:=h
 obtain⟨⟨s1,E1⟩,e1,e⟩:=Za.mp e
 obtain⟨d1,e2,e⟩:=Za.mp e
 obtain⟨d,e3,e⟩:=Zaf.mp e
 cases e
 refine⟨B,E,xs,Xs,s1,E1,fr,c,e1,fun v1 H1 ⟨F,A,fr1⟩=>?_⟩
 obtain⟨v,hv,k⟩:=hp d1 d v1 H1 Q e3 (fr1.look0 e2).1
 obtain⟨A',fr2⟩:=fr1.pop
 exact k (q v H1 ⟨F,A',fr2.push ⟨rfl,v,rfl,pU hv⟩⟩)
def f7:PyData→Option PyData
 |.int i=>some (.int (-i))
 |_=>none
section
variable {X:Cx} {a b c:Expr} {m1 m2 m3:Bool} {f g h:bv} {pos:Pos}
theorem mh(ha:EX X a m1 f):EX X (.UnaryOp .USub a pos) m1 (jh f7 f):=cn (IB GT ha) fun σ H Q h=>IS (r:=rU fun i=>.int (-i)) (fun d1 d v1 H Q e r=>by
 cases d1 <;> simp[f7]at e
 cases e;cases r
 exact⟨_,rfl,fun q=>⟨_,rfl,q⟩⟩) h
end
def wX(d1 d2:PyData):Option Bool:=match d1,d2 with
 |.int i,.int j=>some (decide (i=j))
 |.str a,.str b=>some (decide (a=b))
 |.bool a,.bool b=>some (decide (a=b))
 |.none,.none=>some true
 |.none,.str _=>some false
 |.str _,.none=>some false
 |d1,d2=>if SeqAt.shaped d1&&SeqAt.shaped d2 then some (PyData.eqv d1 d2)else none
def gK:P2:=eu fun d1 d2=>(wX d1 d2).map fun b=>.bool b
def lP:P2:=eu fun d1 d2=>(wX d1 d2).map fun b=>.bool (!b)
abbrev Kb(K:Frag):R2:=fun x y H Q=>Kp x y H Q∨IP K x y H Q
abbrev Kc(K:Frag):R2:=fun x y H Q=>Kq x y H Q∨IQ K x y H Q
theorem B8{K:Frag}{H:Hp}{v1 v2:V}{d1 d2:PyData}{b:Bool}(e:wX d1 d2=some b)(r1:Rp K H v1 d1)(r2:Rp K H v2 d2):
  (GU v1 v2=true∧decide (v1=v2)=b)∨(DOf K H v1 d1∧DOf K H v2 d2∧SeqAt.shaped d1=true∧SeqAt.shaped d2=true∧PyData.eqv d1 d2=b):=by
 unfold wX at e
 split at e
 ·cases e;cases r1;cases r2;exact .inl ⟨rfl,by simp⟩
 ·cases e;cases r1;cases r2;exact .inl ⟨rfl,by simp⟩
 ·cases e;cases r1;cases r2;exact .inl ⟨rfl,by simp⟩
 ·cases e;cases r1;cases r2;exact .inl ⟨rfl,rfl⟩
 ·cases e;cases r1;cases r2;exact .inl ⟨rfl,rfl⟩
 ·cases e;cases r1;cases r2;exact .inl ⟨rfl,rfl⟩
 ·split at e
  ·rename_i hs
   cases e
   simp only[wL]at hs
   exact .inr ⟨r1.dof hs.1,r2.dof hs.2,hs.1,hs.2,rfl⟩
  ·cases e
theorem B9{K:Frag}:kJ K (Kb K) gK:=mf fun d1 d2 d v1 v2 H Q e r1 r2=>by
 obtain⟨b,e',rfl⟩:=Zaf.mp e
 refine⟨_,rfl,fun q=>?_⟩
 rcases B8 e' r1 r2 with⟨a,rfl⟩ |⟨a1,a2,a3,a4,rfl⟩
 ·exact .inl ⟨a,q⟩
 ·exact .inr ⟨_,_,a1,a2,a3,a4,q⟩
theorem G_{K:Frag}:kJ K (Kc K) lP:=mf fun d1 d2 d v1 v2 H Q e r1 r2=>by
 obtain⟨b,e',rfl⟩:=Zaf.mp e
 refine⟨_,rfl,fun q=>?_⟩
 rcases B8 e' r1 r2 with⟨a,rfl⟩ |⟨a1,a2,a3,a4,rfl⟩
 ·exact .inl ⟨a,q⟩
 ·exact .inr ⟨_,_,a1,a2,a3,a4,q⟩
def u9(K:Frag)(r:R2)(op:PyData→PyData→Option PyData):Prop:=∀(d1 d2 d:PyData) (v1 v2:V) (H:Hp) (Q:VK),op d1 d2=some d→Rp K H v1 d1→Rp K H v2 d2→∃v,FZ d=some v∧(Q v H→r v1 v2 H Q)
def fZ(op op':PyData→PyData→Option PyData)(m2 m3:Bool)(f g h:bv):bv:=fun E=>(f E).bind fun a=>if (m2||m3)&&a.1.isBr then none else (g a.2).bind fun b=>if m3&&b.1.isBr then none else
 (look b.2 a.1).bind fun d1=>(look b.2 b.1).bind fun d2=>match op d1 d2 with
  |some (.bool true)=>(h b.2).bind fun c=>(look c.2 b.1).bind fun d2=>(look c.2 c.1).bind fun d3=>(op' d2 d3).map fun d=>(.sh d,c.2)
  |some (.bool false)=>some (.sh (.bool false),b.2)
  |_=>none
section
variable {X:Cx} {a b c:Expr} {m1 m2 m3:Bool} {f g h:bv} {pos:Pos}
theorem u_(hu:X.A.units+64 < cLine)(ha:EX X a m1 f)(hb:EX X b m2 g):EX X (.Compare a [.Eq] [b] pos) (m1||m2) (ae gK m2 f g):=B4 (OpR.or FU (BR hu)) B9 ha hb (sW _)
theorem lU(hu:X.A.units+64 < cLine)(ha:EX X a m1 f)(hb:EX X b m2 g):TX X (.Compare a [.Eq] [b] pos) (m1||m2) (dh (ae gK m2 f g)):=pW (OpR.or FU (BR hu)) B9 ha hb (sW _)
theorem mO(hu:X.A.units+64 < cLine)(ha:EX X a m1 f)(hb:EX X b m2 g):TX X (.Compare a [.NotEq] [b] pos) (m1||m2) (dh (ae lP m2 f g)):=pW (OpR.or ID (G4 hu)) G_ ha hb (sW _)
theorem va{K:Frag}{r r':R2}{op op':PyData→PyData→Option PyData}(k:u9 K r op)(k':u9 K r' op'){σ:nu}{H:Hp}{Q:VK}(z:rd K (m1||(m2||m3)) (fZ op op' m2 m3 f g h) σ H Q):wP r r' (rd K m1 f) (rd K m2 g) (rd K m3 h) σ H Q:=by
 obtain⟨B,E,xs,Xs,res,E',fr,cl,e,q⟩:=z
 obtain⟨⟨s1,E1⟩,e1,e⟩:=Za.mp e
 by_cases hb:((m2||m3)&&s1.isBr)=true
 ·rw[if_pos hb]at e;cases e
 rw[if_neg hb]at e
 obtain⟨⟨s2,E2⟩,e2,e⟩:=Za.mp e
 by_cases hb2:(m3&&s2.isBr)=true
 ·rw[if_pos hb2]at e;cases e
 rw[if_neg hb2]at e
 obtain⟨d1,l1,e⟩:=Za.mp e
 obtain⟨d2,l2,e⟩:=Za.mp e
 have n1:(m2||m3)=true→s1.isBr=false:=fun z=>by
  cases hs:s1.isBr with
  |false=>rfl
  |true=>exact absurd (by rw[z,hs];rfl) hb
 have n2:m3=true→s2.isBr=false:=fun z=>by
  cases hs:s2.isBr with
  |false=>rfl
  |true=>exact absurd (by rw[z,hs];rfl) hb2
 refine⟨B,E,xs,Xs,s1,E1,fr,fun z=>cl (by simp[z]),e1,fun v1 H1 fr1=>?_⟩
 refine⟨B,E1,v1::xs,s1::Xs,s2,E2,fr1,fun z=>Calm.cons (cl (by simp[z])) (n1 (by simp[z])),e2,fun v2 H2 ⟨F,A,fr2⟩=>?_⟩
 cases ho:op d1 d2 with
 |none=>rw[ho]at e;cases e
 |some d=>
  rw[ho]at e
  obtain⟨v,hv,kk⟩:=k d1 d2 d v1 v2 H2 (fun z H3=>∃k,z=.bl k∧(if k=true then rd K m3 h σ H3 fun w' H4=>r' v2 w' H4 Q else Q (.bl false) H3)) ho (fr2.look1 l1).1 (fr2.look0 l2).1
  cases d with
  |bool t=>
   cases hv
   refine kk ⟨t,rfl,?_⟩
   cases t with
   |true=>
    rw[if_pos rfl]
    obtain⟨⟨s3,E3⟩,e3,e⟩:=Za.mp e
    obtain⟨d2',l2',e⟩:=Za.mp e
    obtain⟨d3,l3,e⟩:=Za.mp e
    obtain⟨d,ho',e⟩:=Zaf.mp e
    cases e
    refine⟨B,E2,v2::v1::xs,s2::s1::Xs,s3,E3,⟨F,A,fr2⟩,fun z=>Calm.cons (Calm.cons (cl (by simp[z])) (n1 (by simp[z]))) (n2 z),e3,fun v3 H3 ⟨F3,A3,fr3⟩=>?_⟩
    obtain⟨v,hv,kk⟩:=k' d2' d3 d v2 v3 H3 Q ho' (fr3.look1 l2').1 (fr3.look0 l3).1
    obtain⟨A4,fr4⟩:=fr3.pop
    exact kk (q v H3 (fr4.res2 ⟨rfl,v,rfl,pU hv⟩))
   |false=>
    rw[if_neg (by decide)]
    cases e
    exact q _ _ (fr2.res2 ⟨rfl,_,rfl,.bl _⟩)
  |none=>cases e
  |int i=>cases e
  |str x=>cases e
  |list xs=>cases e
  |tuple xs=>cases e
  |dict kvs=>cases e
theorem B_{o1 o2:CmpOp}{r r':R2}{op op':PyData→PyData→Option PyData}(ho:OpR X (compareOp o1) r)(ho':OpR X (compareOp o2) r')(k:u9 X.K r op)(k':u9 X.K r' op')(ha:EX X a m1 f)(hb:EX X b m2 g)(hc:EX X c m3 h)
  (hm:lastMarks [o1,o2] [b,c]=false:=by with_unfolding_all rfl):EX X (.Compare a [o1,o2] [b,c] pos) (m1||(m2||m3)) (fZ op op' m2 m3 f g h):=cn (BG ho ho' ha hb hc hm) fun _ _ _ z=>va k k' z
end
end PL
namespace PL
open PySem L2 Nh
def yC(f g:bv):bv:=fun E=>(f E).bind fun a=>match a.1 with
 |.sh (.bool true)=>g a.2
 |.sh (.bool false)=>some (.sh (.bool false),a.2)
 |_=>none
def dR(f g:jD):jD:=fun E=>(f E).bind fun a=>if a.1 then g a.2 else some (false,a.2)
def nC(f g:jD):jD:=fun E=>(f E).bind fun a=>if a.1 then some (true,a.2)else g a.2
def h7(f:jD):jD:=fun E=>(f E).map fun a=>(!a.1,a.2)
def jE:PyData→Option Bool
 |.none=>some false
 |.bool b=>some b
 |.int i=>some (i != 0)
 |.str x=>if x.length≤1000000 then some ((x.length:Int) != 0)else none
 |.list xs=>some (!xs.isEmpty)
 |.tuple xs=>some (!xs.isEmpty)
 |.dict _=>none
def gj(f:bv):jD:=fun E=>(f E).bind fun a=>match a.1 with
 |.al i=>match a.2[i]? with
  |some (.od kvs)=>some (!kvs.isEmpty,a.2)
  |some s=>(s.val.bind jE).map fun b=>(b,a.2)
  |none=>none
 |s=>(s.val.bind jE).map fun b=>(b,a.2)
section
variable {X:Cx} {a b c:Expr} {aX:List Expr} {m1 m2 m3:Bool} {f g h:bv} {t u:jD} {pos:Pos} {K:Frag}
theorem Ha{op}(h:EX X a m1 f):EX X (.BoolOp op [a] pos) m1 f:=Gz h
theorem Ca(ha:EX X a m1 f)(hb:EX X (.BoolOp .And (b::aX) pos) m2 g):EX X (.BoolOp .And (a::b::aX) pos) (m1||m2) (yC f g):=by
 refine cn (GA ha hb) fun σ H Q z=>?_
 obtain⟨B,E,xs,Xs,res,E',fr,cl,e,q⟩:=z
 obtain⟨⟨s1,E1⟩,e1,e⟩:=Za.mp e
 refine⟨B,E,xs,Xs,s1,E1,fr,fun z=>cl (by simp[z]),e1,fun v1 H1 ⟨F,A,fr1⟩=>?_⟩
 simp only at e
 split at e
 ·obtain⟨r,_⟩:=fr1.look0 (d:=.bool true) rfl
  cases r
  obtain⟨A',fr2⟩:=fr1.pop
  exact⟨true,rfl,(if_pos rfl).mpr ⟨B,E1,xs,Xs,res,E',⟨F,A',fr2⟩,fun z=>cl (by simp[z]),e,q⟩⟩
 ·cases e
  obtain⟨r,_⟩:=fr1.look0 (d:=.bool false) rfl
  cases r
  exact⟨false,rfl,(if_neg (by decide)).mpr (q _ _ ⟨F,A,fr1⟩)⟩
 ·cases e
theorem mP(ha:TX X a m1 t):WX X (.BoolOp .And [a] pos) m1 t:=D_ ha
theorem wY(ha:TX X a m1 t):WX X (.BoolOp .Or [a] pos) m1 t:=Gw ha
theorem pY(ha:TX X a m1 t)(hb:WX X (.BoolOp .And (b::aX) pos) m2 u):WX X (.BoolOp .And (a::b::aX) pos) (m1||m2) (dR t u):=by
 refine BZ (Gx ha hb) fun σ H Q z=>?_
 obtain⟨B,E,xs,Xs,res,E',fr,cl,e,q⟩:=z
 obtain⟨⟨b1,E1⟩,e1,e⟩:=Za.mp e
 refine⟨B,E,xs,Xs,b1,E1,fr,fun z=>cl (by simp[z]),e1,fun H1 fr1=>?_⟩
 cases b1 with
 |true=>exact(if_pos rfl).mpr ⟨B,E1,xs,Xs,res,E',fr1,fun z=>cl (by simp[z]),e,q⟩
 |false=>cases e;exact(if_neg (by decide)).mpr (q _ fr1)
theorem Cb(ha:TX X a m1 t)(hb:WX X (.BoolOp .Or (b::aX) pos) m2 u):WX X (.BoolOp .Or (a::b::aX) pos) (m1||m2) (nC t u):=by
 refine BZ (Iq ha hb) fun σ H Q z=>?_
 obtain⟨B,E,xs,Xs,res,E',fr,cl,e,q⟩:=z
 obtain⟨⟨b1,E1⟩,e1,e⟩:=Za.mp e
 refine⟨B,E,xs,Xs,b1,E1,fr,fun z=>cl (by simp[z]),e1,fun H1 fr1=>?_⟩
 cases b1 with
 |true=>cases e;exact(if_pos rfl).mpr (q _ fr1)
 |false=>exact(if_neg (by decide)).mpr ⟨B,E1,xs,Xs,res,E',fr1,fun z=>cl (by simp[z]),e,q⟩
theorem vb(h:WX X a m1 t):TX X a m1 t:=PW.pt h
theorem pZ(ha:TX X a m1 t):TX X (.UnaryOp .Not a pos) m1 (h7 t):=by
 refine pT (Gy ha) fun σ H Q z=>?_
 obtain⟨B,E,xs,Xs,res,E',fr,cl,e,q⟩:=z
 obtain⟨⟨b1,E1⟩,e1,e⟩:=Zaf.mp e
 cases e
 exact⟨B,E,xs,Xs,b1,E1,fr,cl,e1,fun H1 fr1=>q _ fr1⟩
theorem Hb{H:Hp}{v:V}{d:PyData}{b:Bool}(r:Rp K H v d)(e:jE d=some b):BI K v H b:=by
 cases r with
 |non=>cases e;rfl
 |bl b=>cases e;rfl
 |int i=>cases e;rfl
 |str x=>
  simp only[jE]at e
  split at e
  ·rename_i hl
   cases e
   exact⟨jv hl,rfl⟩
  ·cases e
 |lst h r=>cases e;exact .inl ⟨_,h,by cases r <;> rfl⟩
 |tup h r=>cases e;exact .inr (.inl ⟨_,h,by cases r <;> rfl⟩)
 |dct h r=>cases e
theorem jY(ha:EX X a m1 f)(he:∀whole,isTrue a X.env whole=(do let v ←whole;standAt a.pos;holding [v] (truthy v)):=by exact fun _=>rfl):TX X a m1 (gj f):=by
 refine pT (BJ ha he) fun σ H Q z=>?_
 obtain⟨B,E,xs,Xs,res,E',fr,cl,e,q⟩:=z
 obtain⟨⟨s,E1⟩,e1,e⟩:=Za.mp e
 refine⟨B,E,xs,Xs,s,E1,fr,cl,e1,fun v1 H1 ⟨F,A,fr1⟩=>?_⟩
 have key:∀d,look E1 s=some d→(jE d).map (fun b=>(b,E1))=some (res,E')→∃k,BI X.K v1 H1 k∧Q k H1:=fun d l e=>by
  obtain⟨b,e',z⟩:=Zaf.mp e
  cases z
  obtain⟨A',fr2⟩:=fr1.pop
  exact⟨_,Hb (fr1.look0 l).1 e',q _ ⟨F,A',fr2⟩⟩
 have kv:(s.val.bind jE).map (fun b=>(b,E1))=some (res,E')→(∀i,s≠ .al i)→∃k,BI X.K v1 H1 k∧Q k H1:=fun e na=>by
  obtain⟨b,e',z⟩:=Zaf.mp e
  obtain⟨d,e1,e2⟩:=Za.mp e'
  refine key d ?_ (by rw[e2];exact congrArg some z)
  cases s <;> first |exact e1 |exact absurd rfl (na _)
 simp only at e
 split at e
 ·rename_i i
  split at e
  ·rename_i kvs ei
   cases e
   obtain⟨v',A1,ev,rfl,w,ew,hw⟩:=fr1.ext (k:=0) rfl
   cases ev;cases ew
   obtain⟨o,A1,eo,l,us,A2,rfl,_,hl,r⟩:=fr1.var ei
   rw[hw]at eo
   cases eo
   obtain⟨A',fr2⟩:=fr1.pop
   exact⟨_,.inr (.inr ⟨_,hl,by cases us <;> cases kvs <;> first |rfl |exact False.elim r⟩),q _ ⟨F,A',fr2⟩⟩
  ·rename_i s' _ ei
   obtain⟨b,e',z⟩:=Zaf.mp e
   obtain⟨d,e1,e2⟩:=Za.mp e'
   exact key d (by simp[look,ei,e1]) (by rw[e2];exact congrArg some z)
  ·cases e
 ·rename_i na
  exact kv e na
end
theorem Cc{X:Cx}{a b c:Expr}{m1 m2 m3:Bool}{f g h:bv}{pos:Pos}{o1 o2:CmpOp}{r r':R2}{op op':PyData→PyData→Option PyData}(ho:OpR X (compareOp o1) r)(ho':OpR X (compareOp o2) r')(k:u9 X.K r op)(k':u9 X.K r' op')(ha:EX X a m1 f)(hb:EX X b m2 g)(hc:EX X c m3 h)
  (hm:lastMarks [o1,o2] [b,c]=false:=by with_unfolding_all rfl):TX X (.Compare a [o1,o2] [b,c] pos) (m1||(m2||m3)) (dh (fZ op op' m2 m3 f g h)):=pT (BH ho ho' ha hb hc hm) fun _ _ _ z=>va k k' (B5 z)
def ak:pR:=fun E=>some ([],E)
def ad(m2:Bool)(f:bv)(g:pR):pR:=fun E=>(f E).bind fun a=>if m2&&a.1.isBr then none else (g a.2).map fun b=>(a.1::b.1,b.2)
def aH:pS:=fun E=>some ([],E)
def aF(f:bv)(g:pS):pS:=fun E=>(f E).bind fun a=>(frz a.2 a.1).bind fun b=>(g b.2).map fun c=>(b.1::c.1,c.2)
def fS(f:pS):bv:=fun E=>(f E).bind fun a=>if a.1.length≤1000000 then some (.sh (.tuple a.1),a.2)else none
def be(f:pS):bv:=fun E=>(f E).bind fun a=>if a.1.length≤1000000 then some (.ow a.1,a.2)else none
section
variable {X:Cx} {e:Expr} {es:List Expr} {m1 m2:Bool} {f:bv} {g:pR} {d:pS} {pos:Pos} {K:Frag}
theorem aq:AX X [] false ak:=by
 refine tJ fY fun σ H Q z=>?_
 obtain⟨B,E,xs,Xs,res,E',fr,cl,e,q⟩:=z
 cases e
 exact q [] H rfl fr
theorem af(ha:EX X e m1 f)(hr:AX X es m2 g)(hs:starEach (e::es) X.env=(false,eval e X.env)::starEach es X.env:=by rfl):AX X (e::es) (m1||m2) (ad m2 f g):=by
 refine tJ (cV ha hr hs) fun σ H Q z=>?_
 obtain⟨B,E,xs,Xs,res,E',fr,cl,e,q⟩:=z
 obtain⟨⟨s,E1⟩,e1,e⟩:=Za.mp e
 by_cases hb:(m2&&s.isBr)=true
 ·rw[if_pos hb]at e;cases e
 rw[if_neg hb]at e
 obtain⟨⟨rs,E2⟩,e2,e⟩:=Zaf.mp e
 cases e
 refine⟨B,E,xs,Xs,s,E1,fr,fun z=>cl (by simp[z]),e1,fun v1 H1 fr1=>?_⟩
 refine⟨B,E1,v1::xs,s::Xs,rs,E2,fr1,fun z=>Calm.cons (cl (by simp[z])) ?_,e2,fun vs H2 hl fr2=>?_⟩
 ·cases hs:s.isBr with
  |false=>rfl
  |true=>exact absurd (by simp[z,hs]) hb
 ·exact q (v1::vs) H2 (by simp[hl]) (by simpa using fr2)
theorem bh:DX X [] false aH:=by
 refine tJ fY fun σ H Q z=>?_
 obtain⟨B,E,xs,Xs,res,E',fr,cl,e,q⟩:=z
 cases e
 exact q [] H rfl fr
theorem aZ(ha:EX X e m1 f)(hr:DX X es m2 d)(hs:starEach (e::es) X.env=(false,eval e X.env)::starEach es X.env:=by rfl):DX X (e::es) (m1||m2) (aF f d):=by
 refine tJ (cV ha hr hs) fun σ H Q z=>?_
 obtain⟨B,E,xs,Xs,res,E',fr,cl,e,q⟩:=z
 obtain⟨⟨s,E1⟩,e1,e⟩:=Za.mp e
 obtain⟨⟨d1,E2⟩,e2,e⟩:=Za.mp e
 obtain⟨⟨rs,E3⟩,e3,e⟩:=Zaf.mp e
 cases e
 refine⟨B,E,xs,Xs,s,E1,fr,fun z=>cl (by simp[z]),e1,fun v1 H1 ⟨F,A,fr1⟩=>?_⟩
 obtain⟨F2,A2,fr2⟩:=fr1.frz0 e2
 refine⟨B,E2,v1::xs,.sh d1::Xs,rs,E3,⟨F2,A2,fr2⟩,fun z=>Calm.cons (cl (by simp[z])) rfl,e3,fun vs H2 hl fr2=>?_⟩
 exact q (v1::vs) H2 (by simp[hl]) (by simpa using fr2)
theorem FrF.shsR{B F:Hp}{σ:nu}{H:Hp}{E:List Sl}{xs:List V}{Xs:List Sl}:∀{us:List V} {es:List PyData} {A:List Addr},us.length=es.length→FrF K B F A σ H E (us++xs) (es.map .sh++Xs)→RpA K F us es∧∃A',FrF K B F A' σ H E xs Xs
 |[],[],A,_,h=>⟨.nil,A,h⟩
 |u::us,e::es,A,hl,h=>by
  obtain⟨v,A1,ev,rfl,w,ew,r⟩:=h.ext (k:=0) rfl
  cases ev;cases ew
  obtain⟨A',h'⟩:=FrF.pop (xs:=us++xs) (Xs:=es.map .sh++Xs) h
  obtain⟨r',q⟩:=FrF.shsR (by simpa using hl) h'
  exact⟨.cons r r',q⟩
 |[],_::_,_,e,_=>by cases e
 |_::_,[],_,e,_=>by cases e
theorem FrF.shs{B F:Hp}{σ:nu}{H:Hp}{E:List Sl}{xs:List V}{Xs:List Sl}{us:List V}{es:List PyData}{A:List Addr}(hl:us.length=es.length)(h:FrF K B F A σ H E (us.reverse++xs) (es.reverse.map .sh++Xs)):RpA K F us es∧∃A',FrF K B F A' σ H E xs Xs:=by
 obtain⟨r,q⟩:=FrF.shsR (by simpa using hl) h
 have:=r.rev
 rw[Bp,Bp]at this
 exact⟨this,q⟩
theorem jZ{x1}(h:DX X es m1 d):EX X (.Tuple es x1 pos) m1 (fS d):=by
 refine cn (GW h) fun σ H Q z=>?_
 obtain⟨B,E,xs,Xs,res,E',fr,cl,e,q⟩:=z
 obtain⟨⟨ds,E1⟩,e1,e⟩:=Za.mp e
 simp only at e
 split at e
 ·rename_i hl
  cases e
  refine⟨B,E,xs,Xs,ds,_,fr,cl,e1,fun vs H1 hv ⟨F,A,fr1⟩=>?_⟩
  obtain⟨r,A',fr2⟩:=fr1.shs hv
  exact⟨jv (by omega),fun p hp=>q _ _ ⟨_,_,fr2.newt r hp⟩⟩
 ·cases e
theorem cL(h:DX X es m1 d):EX X (.List es pos) m1 (be d):=by
 refine cn (BL h) fun σ H Q z=>?_
 obtain⟨B,E,xs,Xs,res,E',fr,cl,e,q⟩:=z
 obtain⟨⟨ds,E1⟩,e1,e⟩:=Za.mp e
 simp only at e
 split at e
 ·rename_i hl
  cases e
  refine⟨B,E,xs,Xs,ds,_,fr,cl,e1,fun vs H1 hv ⟨F,A,fr1⟩=>?_⟩
  obtain⟨r,A',fr2⟩:=fr1.shs hv
  exact⟨jv (by omega),fun p hp=>q _ _ ⟨_,_,fr2.newl r hp⟩⟩
 ·cases e
end
def z_(ds:List PyData)(lo hi:Option Int):List PyData:=(ds.drop (HT.pO ds.length 0 lo)).take (HT.pO ds.length ds.length hi - HT.pO ds.length 0 lo)
def fO:P2:=fun E s1 s2=>(look E s1).bind fun d1=>(look E s2).bind fun d2=>match d2 with
 |.int i=>match d1 with
  |.list ds=>(atI ds i).map fun d=>(if e8 E s1&& !de d then .br d else .sh d,E)
  |.tuple ds=>(atI ds i).map fun d=>(if e8 E s1&& !de d then .br d else .sh d,E)
  |.str z=>if z.length≤1000000 then (atI z.cps.toList i).map fun c=>(.sh (.str ⟨#[c]⟩),E)else none
  |_=>none
 |_=>none
section
variable {K:Frag} {H:Hp}
theorem RpA.atI{vs:List V}{ds:List PyData}{i:Int}{d:PyData}(h:RpA K H vs ds)(e:L2.atI ds i=some d):∃v,L2.atI vs i=some v∧Rp K H v d:=by
 unfold L2.atI at e ⊢
 obtain⟨j,e1,e2⟩:=Za.mp e
 obtain⟨v,ev,r⟩:=h.get e2
 exact⟨v,by rw[h.len,e1];exact ev,r⟩
theorem FrF.item{B F:Hp}{A:List Addr}{σ:nu}{E:List Sl}{xs:List V}{Xs:List Sl}{v1 v2 v:V}{s1 s2:Sl}{d:PyData}(fr:FrF K B F A σ H E (v2::v1::xs) (s2::s1::Xs))(r:Rp K H v d)(f:e8 E s1=false→Rp K F v d):
  Frm K B σ H E (v::xs) ((if e8 E s1&& !de d then .br d else .sh d)::Xs):=by
 by_cases hc:(e8 E s1&& !de d)=true
 ·rw[if_pos hc]
  exact fr.res2 ⟨rfl,v,rfl,r⟩
 ·rw[if_neg hc]
  refine fr.res2 ⟨rfl,v,rfl,?_⟩
  cases hh:e8 E s1 with
  |false=>exact f hh
  |true=>
   rw[hh]at hc
   exact fr.cold r (by simpa using hc)
theorem Hc:kJ K (Kr K) fO:=by
 intro B F A σ H E xs Xs v1 v2 s1 s2 res E' Q fr e q
 obtain⟨d1,e1,e⟩:=Za.mp e
 obtain⟨d2,e2,e⟩:=Za.mp e
 obtain⟨r1,f1⟩:=fr.look1 e1
 have r2:=(fr.look0 e2).1
 split at e
 ·cases r2
  split at e
  ·obtain⟨d,ed,e⟩:=Zaf.mp e
   cases e
   cases hh:e8 E s1 with
   |false=>
    obtain⟨a,vs,rfl,h1,h2⟩:=f1 hh
    obtain⟨v,ev,rv⟩:=h2.atI ed
    have z:=fr.item (rv.same fr.fh) fun _=>rv
    rw[hh]at z q
    exact .inl ⟨_,_,_,v,rfl,rfl,h1,ev,q _ _ z⟩
   |true=>
    cases r1 with
    |lst h1 h2=>
     obtain⟨v,ev,rv⟩:=h2.atI ed
     have z:=fr.item rv fun h=>absurd (hh.symm.trans h) (by decide)
     rw[hh]at z q
     exact .inl ⟨_,_,_,v,rfl,rfl,h1,ev,q _ _ z⟩
  ·obtain⟨d,ed,e⟩:=Zaf.mp e
   cases e
   cases hh:e8 E s1 with
   |false=>
    have h0:Rp K F v1 _:=f1 hh
    cases h0 with
    |tup h1 h2=>
     obtain⟨v,ev,rv⟩:=h2.atI ed
     have z:=fr.item (rv.same fr.fh) fun _=>rv
     rw[hh]at z q
     exact .inr (.inl ⟨_,_,_,v,rfl,rfl,fr.fh.tup h1,ev,q _ _ z⟩)
   |true=>
    cases r1 with
    |tup h1 h2=>
     obtain⟨v,ev,rv⟩:=h2.atI ed
     have z:=fr.item rv fun h=>absurd (hh.symm.trans h) (by decide)
     rw[hh]at z q
     exact .inr (.inl ⟨_,_,_,v,rfl,rfl,h1,ev,q _ _ z⟩)
  ·split at e
   ·rename_i hl
    obtain⟨c,ec,e⟩:=Zaf.mp e
    cases e;cases r1
    exact .inr (.inr ⟨_,_,c,rfl,rfl,jv hl,ec,q _ _ (fr.res2 ⟨rfl,_,rfl,.str _⟩)⟩)
   ·cases e
  ·cases e
 ·cases e
end
end PL
namespace L2
open PySem PySem.Spec PyProof.Rows
section
variable {κ:Type} [DecidableEq κ]
def gR(kvs:List (κ×V))(k:κ):Option V:=(kvs.find? fun kv=>decide (kv.1=k)).map (·.2)
def nD(kvs:List (κ×V))(k:κ)(v:V):List (κ×V):=
 if (kvs.any fun kv=>decide (kv.1=k))=true then kvs.map (fun kv=>if kv.1=k then (kv.1,v)else kv)else kvs++[(k,v)]
def F8(kvs:List (κ×V))(k:κ):List (κ×V):=kvs.filter fun kv=>decide (kv.1≠k)
theorem gv{p:κ×V}{r:List (κ×V)}{k:κ}(e:p.1=k):gR (p::r) k=some p.2:=by simp[gR,List.find?_cons,e]
theorem gw{p:κ×V}{r:List (κ×V)}{k:κ}(e:¬p.1=k):gR (p::r) k=gR r k:=by simp[gR,List.find?_cons,e]
theorem p6(k:κ):∀kvs:List (κ×V),(kvs.any fun kv=>decide (kv.1=k))=(gR kvs k).isSome
 |[]=>rfl
 |p::r=>by
  rw[List.any_cons]
  by_cases e:p.1=k
  ·simp only[gv e,decide_eq_true e,Bool.true_or,Option.isSome_some]
  ·rw[gw e,decide_eq_false e,Bool.false_or];exact p6 k r
theorem vc(kvs:List (κ×V))(k:κ)(v:V):(nD kvs k v).length≤kvs.length+1:=by
 unfold nD
 split
 ·rw[fw];omega
 ·rw[pI,List.length_cons,List.length_nil];omega
theorem Cd{kvs:List (κ×V)}{k:κ}(v:V)(h:gR kvs k=none):nD kvs k v=kvs++[(k,v)]:=by
 unfold nD
 rw[p6,h]
 exact if_neg (by decide)
theorem RelO.isSome_eq{o:Option V}{u:Option Value}(r:RelO o u):o.isSome=u.isSome:=by
 cases o with
 |none=>cases u with
  |none=>rfl
  |some _=>exact(show False from r).elim
 |some _=>cases u with
  |none=>exact(show False from r).elim
  |some _=>rfl
theorem RelO.getD{o:Option V}{u:Option Value}{d:V}{d':Value}(r:RelO o u)(rd:RelV d d'):RelV (o.getD d) (u.getD d'):=by
 cases o with
 |none=>cases u with
  |none=>exact rd
  |some _=>exact(show False from r).elim
 |some _=>cases u with
  |none=>exact(show False from r).elim
  |some _=>exact r
theorem KV.val{kvs:List (κ×V)}{vs:List (κ×Value)}(r:KV kvs vs)(k:κ):RelO (gR kvs k) (valueAt vs k):=by
 unfold KV at r
 induction r with
 |nil=>exact True.intro
 | @cons p q ps qs h t ih=>
  obtain⟨h1,h2⟩:=h
  by_cases e:p.1=k
  ·have e':q.1=k:=h1.symm.trans e
   have b:valueAt (q::qs) k=some q.2:=by simp[valueAt,List.find?_cons,e']
   rw[gv e,b];exact h2
  ·have e':¬q.1=k:=fun z=>e (h1.trans z)
   have b:valueAt (q::qs) k=valueAt qs k:=by simp[valueAt,List.find?_cons,e']
   rw[gw e,b];exact ih
theorem KV.any{kvs:List (κ×V)}{vs:List (κ×Value)}(r:KV kvs vs)(k:κ):(kvs.any fun kv=>decide (kv.1=k))=vs.any fun kv=>decide (kv.1=k):=by
 unfold KV at r
 induction r with
 |nil=>rfl
 |cons h t ih=>rw[List.any_cons,List.any_cons,ih,h.1]
theorem KV.repl{kvs:List (κ×V)}{vs:List (κ×Value)}(r:KV kvs vs)(k:κ){y:V}{u:Value}(ry:RelV y u):
  KV (kvs.map fun kv=>if kv.1=k then (kv.1,y)else kv) (vs.map fun kv=>if kv.1=k then (kv.1,u)else kv):=by
 unfold KV at r ⊢
 induction r with
 |nil=>exact .nil
 | @cons p q ps qs h t ih=>
  rw[bE,bE]
  refine .cons ?_ ih
  obtain⟨h1,h2⟩:=h
  by_cases e:p.1=k
  ·rw[if_pos e,if_pos (h1.symm.trans e)];exact⟨h1,ry⟩
  ·rw[if_neg e,if_neg (fun z=>e (h1.trans z))];exact⟨h1,h2⟩
theorem KV.put{kvs:List (κ×V)}{vs:List (κ×Value)}(r:KV kvs vs)(k:κ){y:V}{u:Value}(ry:RelV y u):KV (nD kvs k y) (stored vs k u):=by
 unfold nD stored
 rw[r.any k]
 by_cases e:(vs.any fun kv=>decide (kv.1=k))=true
 ·rw[if_pos e,if_pos e];exact r.repl k ry
 ·rw[if_neg e,if_neg e];exact Paired.snoc r ⟨rfl,ry⟩
theorem KV.drop{kvs:List (κ×V)}{vs:List (κ×Value)}(r:KV kvs vs)(k:κ):KV (F8 kvs k) (without vs k):=by
 unfold KV at r ⊢
 unfold F8 without
 induction r with
 |nil=>exact .nil
 | @cons p q ps qs h t ih=>
  obtain⟨h1,h2⟩:=h
  rw[List.filter_cons,List.filter_cons]
  by_cases e:p.1=k
  ·have a:¬decide (p.1≠k)=true:=by simp[e]
   have b:¬decide (q.1≠k)=true:=by simp[h1.symm.trans e]
   rw[if_neg a,if_neg b];exact ih
  ·have e':¬q.1=k:=fun z=>e (h1.trans z)
   have a:decide (p.1≠k)=true:=by simp[e]
   have b:decide (q.1≠k)=true:=by simp[e']
   rw[if_pos a,if_pos b];exact .cons ⟨h1,h2⟩ ih
theorem KV.keys{kvs:List (κ×V)}{vs:List (κ×Value)}(r:KV kvs vs):kvs.map (·.1)=vs.map (·.1):=by
 unfold KV at r
 induction r with
 |nil=>rfl
 |cons h t ih=>rw[bE,bE,ih,h.1]
theorem KV.length{kvs:List (κ×V)}{vs:List (κ×Value)}(r:KV kvs vs):kvs.length=vs.length:=Paired.length r
end
theorem yD{P:Program}{w:World}{k:bM}{u:Value}(r:RelV (kV k) u):(fb P w).is k u=true:=by
 cases k with
 |inl i=>obtain⟨t,e⟩:=(show ∃t,u=Value.int i t from r);subst e;exact uL P w i t
 |inr x=>obtain⟨t,e⟩:=(show ∃t,u=Value.str x t from r);subst e;exact uM P w x t
theorem rM{P:Program}{w:World}:∀{ks:List bM} {us:List Value},Vals (ks.map kV) us→ItemsAre (fb P w) ks us
 |[],_,r=>by rw[f6]at r;cases r;exact .nil
 |k::ks,_,r=>by
  rw[bE]at r
  cases r with
  |cons h t=>exact .cons (yD h) (rM t)
abbrev KT(H:Hp):List (List bM×V)→List (List bM×Addr×Value)→Prop:=Paired fun p q=>p.1=q.1∧H q.2.1=some (.tup (p.1.map kV))∧RelV p.2 q.2.2
theorem KT.val{H:Hp}{kvs:List (List bM×V)}{xs:List (List bM×Addr×Value)}(r:KT H kvs xs)(k:List bM):RelO (gR kvs k) ((atKey xs k).map (·.2)):=by
 induction r with
 |nil=>exact True.intro
 | @cons p q ps qs h t ih=>
  obtain⟨h1,_,h2⟩:=h
  by_cases e:p.1=k
  ·have e':q.1=k:=h1.symm.trans e
   have b:atKey (q::qs) k=some q.2:=by simp[atKey,List.find?_cons,e']
   rw[gv e,b];exact h2
  ·have e':¬q.1=k:=fun z=>e (h1.trans z)
   have b:atKey (q::qs) k=atKey qs k:=by simp[atKey,List.find?_cons,e']
   rw[gw e,b];exact ih
theorem KT.repl{H:Hp}{kvs:List (List bM×V)}{xs:List (List bM×Addr×Value)}(r:KT H kvs xs)(k:List bM){y:V}{u:Value}(ry:RelV y u):
  KT H (kvs.map fun kv=>if kv.1=k then (kv.1,y)else kv) (xs.map (putAt k u)):=by
 induction r with
 |nil=>exact .nil
 | @cons p q ps qs h t ih=>
  rw[bE,bE]
  refine .cons ?_ ih
  obtain⟨h1,h2,h3⟩:=h
  unfold putAt
  by_cases e:p.1=k
  ·rw[if_pos e,if_pos (h1.symm.trans e)];exact⟨h1,h2,ry⟩
  ·rw[if_neg e,if_neg (fun z=>e (h1.trans z))];exact⟨h1,h2,h3⟩
theorem KT.put{H:Hp}{kvs:List (List bM×V)}{xs:List (List bM×Addr×Value)}(r:KT H kvs xs)(k:List bM){b:Addr}{y:V}{u:Value}(hb:H b=some (.tup (k.map kV)))(ry:RelV y u):
  KT H (nD kvs k y) (storedH xs k b u):=by
 have e:(kvs.any fun kv=>decide (kv.1=k))=(atKey xs k).isSome:=by
  rw[p6,(r.val k).isSome_eq,Option.isSome_map]
 unfold nD storedH
 rw[e]
 by_cases q:(atKey xs k).isSome=true
 ·rw[if_pos q,if_pos q];exact r.repl k ry
 ·rw[if_neg q,if_neg q];exact Paired.snoc r ⟨rfl,hb,ry⟩
theorem KT.keeps{H H':Hp}{kvs:List (List bM×V)}{xs:List (List bM×Addr×Value)}(r:KT H kvs xs)(ht:∀b ys,H b=some (.tup ys)→H' b=some (.tup ys)):KT H' kvs xs:=
 Paired.mapP r fun _ _ z=>⟨z.1,ht _ _ z.2.1,z.2.2⟩
section
variable {P:Program} {w:World} {H:Hp} {h:Heap} {a:Addr}
theorem F9{u:HO}(ok:HOk P w H h)(e:Rd H a u):ObjOk P w H h a u:=e.ok ok
theorem vd{kvs:List (bM×V)}(ok:HOk P w H h)(e:Rd H a (.dK kvs)):kvs.length≤sizeLine∧(a == sysModules)=false∧∃vs,KV kvs vs∧h.DictOf (fb P w) a vs:=
 show ObjOk P w H h a (.dK kvs)from F9 ok e
theorem IT{kvs:List (bM×V)}(ok:HOk P w H h)(e:H a=some (.dK kvs)):kvs.length≤sizeLine∧(a == sysModules)=false∧∃vs,KV kvs vs∧h.DictOf (fb P w) a vs:=vd ok (.inl e)
theorem wZ{ks:List bM}(ok:HOk P w H h)(e:H a=some (.tup (ks.map kV))):(tupleKind (fb P w)).is h ks a:=by
 obtain⟨_,its,r,o,h1,h2,n,h3⟩:=(show ObjOk P w H h a (.tup (ks.map kV))from ok a _ e)
 exact⟨o,its.toArray,n,h1,h2,h3,by simpa using rM r⟩
theorem Ce{kvs:List (List bM×V)}(ok:HOk P w H h)(e:Rd H a (.dT kvs)):kvs.length≤sizeLine∧(a == sysModules)=false∧
  ∃xs,KT H kvs xs∧h.DictOfH (tupleKind (fb P w)) a xs:=by
 obtain⟨z,y,xs,r,o,es,ep,h1,h2,h3,h4,h5⟩:=(show ObjOk P w H h a (.dT kvs)from F9 ok e)
 refine⟨z,y,xs,r,o,es,ep,h1,h2,h3,h4,fun x hx=>?_,h5⟩
 have all:∀{l:List (List bM×V)} {m:List (List bM×Addr×Value)},KT H l m→∀x∈m,(tupleKind (fb P w)).is h x.1 x.2.1:=by
  intro l m q
  induction q with
  |nil=>intro x hx;exact nomatch hx
  | @cons p q ps qs hq t ih=>
   intro x hx
   rcases Zal.mp hx with e |hx
   ·subst e
    exact wZ ok (by rw[←hq.1];exact hq.2.1)
   ·exact ih x hx
 exact all r x hx
end
def DGet(H:Hp)(a:Addr)(y:V)(r:Option V):Prop:=
 (∃kvs k,Rd H a (.dK kvs)∧y=kV k∧r=gR kvs k)∨∃kvs k b,Rd H a (.dT kvs)∧y=.ref b∧H b=some (.tup (k.map kV))∧r=gR kvs k
def DPut(H:Hp)(a:Addr)(y v:V)(H':Hp):Prop:=
 (∃kvs k,H a=some (.dK kvs)∧y=kV k∧kvs.length < sizeLine∧H'=upd H a (.dK (nD kvs k v)))∨
 ∃kvs k b,H a=some (.dT kvs)∧y=.ref b∧H b=some (.tup (k.map kV))∧kvs.length < sizeLine∧H'=upd H a (.dT (nD kvs k v))
theorem DGet.k{H:Hp}{a:Addr}{kvs:List (bM×V)}{k:bM}(e:H a=some (.dK kvs)):DGet H a (kV k) (gR kvs k):=.inl ⟨kvs,k,.inl e,rfl,rfl⟩
theorem DGet.t{H:Hp}{a b:Addr}{kvs:List (List bM×V)}{k:List bM}(e:H a=some (.dT kvs))(eb:H b=some (.tup (k.map kV))):DGet H a (.ref b) (gR kvs k):=.inr ⟨kvs,k,b,.inl e,rfl,eb,rfl⟩
theorem DPut.k{H:Hp}{a:Addr}{kvs:List (bM×V)}{k:bM}{v:V}(e:H a=some (.dK kvs))(hl:kvs.length < sizeLine):DPut H a (kV k) v (upd H a (.dK (nD kvs k v))):=.inl ⟨kvs,k,e,rfl,hl,rfl⟩
theorem DPut.t{H:Hp}{a b:Addr}{kvs:List (List bM×V)}{k:List bM}{v:V}(e:H a=some (.dT kvs))(eb:H b=some (.tup (k.map kV)))(hl:kvs.length < sizeLine):
  DPut H a (.ref b) v (upd H a (.dT (nD kvs k v))):=.inr ⟨kvs,k,b,e,rfl,eb,hl,rfl⟩
section
variable {X:Cx} {pins:List (Addr×Obj)} {σ:St} {H:Hp} {s:Shared} {a:Addr} {y v:V} {u r:Value} {o:Option V} {A:Around} {E:Value→Shared→Prop}
theorem Inv.big(I:Inv X pins σ H s):sysModules < s.heap.objs.size:=by
 have h:mainGlobals < s.heap.objs.size:=(I.mod.glob.keeps I.bk).lt
 exact Nat.lt_trans (by decide) h
theorem Aa{Q:Value→Shared→Prop}(hu:A.units+1 < cLine)(I:Inv X pins σ H s)(g:DGet H a y (some v))(ry:RelV y u)(h:∀w' s',Inv X pins σ H s'→RelV v w'→Q w' s'):
  wpAny (model X.prog X.w) A (getItem (.ref a) u) Q E s:=by
 rcases g with⟨kvs,k,e,ey,l⟩ |⟨kvs,k,b,e,ey,eb,l⟩
 ·subst ey
  obtain⟨z,hd,vs,rel,dd⟩:=vd I.hok e
  obtain⟨w',hw,rw'⟩:=RelO.some_of (v:=v) (o:=valueAt vs k) (by rw[l];exact rel.val k)
  exact wpAny_getItem_of (yD ry) dd.mapOf hw (h w' _ (I.tok _) rw')
 ·subst ey
  cases(show u=Value.ref b from ry)
  obtain⟨z,hd,xs,rel,dd⟩:=Ce I.hok e
  obtain⟨w',hw,rw'⟩:=RelO.some_of (v:=v) (o:=(atKey xs k).map (·.2)) (by rw[l];exact rel.val k)
  obtain⟨p,hp,hp2⟩:=Zaf.mp hw
  refine wpAny_getItem_heap (tupleKind_room_in1 hu) (wZ I.hok eb) dd hp ?_
  rw[hp2]
  exact h w' _ (I.tok _) rw'
theorem Kd{Q:Value→Shared→Prop}(hu:A.units+1 < cLine)(I:Inv X pins σ H s)(g:DGet H a y o)(ry:RelV y u)(h:∀s',Inv X pins σ H s'→Q (.bool o.isSome) s'):
  wpAny (model X.prog X.w) A (compareOp .In u (.ref a)) Q E s:=by
 rcases g with⟨kvs,k,e,ey,l⟩ |⟨kvs,k,b,e,ey,eb,l⟩
 ·subst ey
  obtain⟨z,hd,vs,rel,dd⟩:=vd I.hok e
  refine wpAny_in_of (yD ry) hd dd.mapOf ?_
  rw[←(rel.val k).isSome_eq,←l]
  exact h _ (I.tok _)
 ·subst ey
  cases(show u=Value.ref b from ry)
  obtain⟨z,hd,xs,rel,dd⟩:=Ce I.hok e
  refine wpAny_in_heap (tupleKind_room_in1 hu) (wZ I.hok eb) hd dd ?_
  have q:=(rel.val k).isSome_eq
  rw[Option.isSome_map]at q
  rw[←q,←l]
  exact h _ (I.tok _)
theorem EE{h':Heap}{t':Nat}{ob:HO}(I:Inv X pins σ H s)(mu:Io (H a))(hs:Heap.SameBut a s.heap h')(he:∃q,h'.get? a=some q)(new:ObjOk X.prog X.w (upd H a ob) h' a ob):
  Inv X pins σ (upd H a ob) {s with heap:=h',toks:=t'}:=
 I.write (x:=a) (e:=a) mu (.inl rfl) (fun b q hb z=>(hs.2 b hb).trans z) he new
theorem Hd{P:Program}{w:World}{H':Hp}{h':Heap}{kvs:List (bM×V)}{vs:List (bM×Value)}(z:kvs.length≤sizeLine)(hd:(a == sysModules)=false)(rel:KV kvs vs)(dd:h'.DictOf (fb P w) a vs):
  ObjOk P w H' h' a (.dK kvs):=⟨z,hd,vs,rel,dd⟩
end
theorem ve{X:Cx}{pins:List (Addr×Obj)}{σ:St}{H:Hp}{s:Shared}{a:Addr}{y:V}{o:Option V}(I:Inv X pins σ H s)(g:DGet H a y o):s.TypeIs (.ref a) "dict":=by
 rcases g with⟨kvs,k,e,_,_⟩ |⟨kvs,k,b,e,_,_,_⟩
 ·obtain⟨_,_,vs,_,dd⟩:=vd I.hok e
  exact dd.typeIs
 ·obtain⟨_,_,xs,_,dd⟩:=Ce I.hok e
  exact dd.typeIs
theorem Cf{P:Program}{w:World}{H:Hp}(h:Heap)(hb:sysModules < h.objs.size):ObjOk P w H (h.push {cls:=.type "dict",data:=.dict #[]}) h.objs.size (.dK []):=
 ⟨Nat.zero_le _,beq_eq_false_iff_ne.mpr (Ne.symm (jT hb)),[],.nil,Heap.DictOf.new h⟩
def He:TE:=fun _ H Q=>∀p,H p=none→Q (.ref p) (upd H p (.dK []))
section
variable {X:Cx} {pos:Pos}
theorem Cg:PE X (.Dict [] [] pos) He:=fun pins s σ H Q I h=>
 wpAny_Dict_empty ⟨.ref s.heap.objs.size,_,I.laid (a:=s.heap.objs.size) (o:=.dK []) (t':=s.toks) (fun _ _ q=>iB _ q) (gi _) (Cf s.heap I.big),rfl,h _ (I.hok.fresh (gi _))⟩
end
structure M1 (X:Cx) (o:Expr) (m:Str) (apos:Pos) (e:Expr) (cpos:Pos):Prop where
 base:attributeBase o m X.env (eval o X.env)=eval o X.env
 few:((backTo cpos (starEach [e] X.env)).all (fun x=> !x.1)&&(backToKw cpos (keywordEach [] X.env)).all (fun x=>x.1.isSome)
  &&decide (([e]:List Expr).length+([]:List Keyword).length+(if ([]:List Keyword).isEmpty then 0 else 1) < 30))=true
 line:(apos.endLine == cpos.line)=true
 trees:backTo cpos (starEach [e] X.env)=[(false,eval e X.env)]
end L2
namespace PL
open PySem L2 Nh
theorem eG{X:Cx}{a b:Expr}{m1 m2:Bool}{f g:bv}{pos:Pos}(ha:EX X a m1 f)(hb:EX X b m2 g)(hs:sY b:=by exact fun _ _=>rfl):EX X (.Subscript a b pos) (m1||m2) (ae fO m2 f g):=cn (uX G0 ha hb hs) fun _ _ _ h=>tK Hc h
abbrev Hf:=List Sl→Option (Option Int×List Sl)
def ro(K:Frag)(m:Bool)(f:Hf):TO:=fun σ H Q=>∃B E xs Xs o E',Frm K B σ H E xs Xs∧(m=true→Calm Xs)∧f E=some (o,E')∧∀H',Frm K B σ H' E' xs Xs→Q o H'
def OX(X:Cx)(e:Option Expr)(m:Bool)(f:Hf):Prop:=PO X e (ro X.K m f)
def oE:Hf:=fun E=>some (none,E)
def iA(f:bv):Hf:=fun E=>(f E).bind fun a=>match look a.2 a.1 with
 |some (.int i)=>some (some i,a.2)
 |_=>none
section
variable {X:Cx} {e:Expr} {lo hi:Option Expr} {m1 m2 m3:Bool} {f:bv} {g h:Hf} {pos p2:Pos} {K:Frag}
theorem Ci{e:Option Expr}{t t':TO}(h:PO X e t)(k:∀σ H Q,t' σ H Q→t σ H Q):PO X e t':=fun pins s σ H Q I q=>h pins s σ H Q I (k σ H Q q)
theorem pq:OX X none false oE:=Ci Em fun σ H Q z=>by
 obtain⟨B,E,xs,Xs,res,E',fr,cl,e,q⟩:=z
 cases e
 exact q _ fr
theorem jl(he:EX X e m1 f):OX X (some e) m1 (iA f):=Ci (En he) fun σ H Q z=>by
 obtain⟨B,E,xs,Xs,res,E',fr,cl,e,q⟩:=z
 obtain⟨⟨s,E1⟩,e1,e⟩:=Za.mp e
 refine⟨B,E,xs,Xs,s,E1,fr,cl,e1,fun v1 H1 ⟨F,A,fr1⟩=>?_⟩
 simp only at e
 split at e
 ·rename_i i l
  cases e
  have r:=(fr1.look0 l).1
  cases r
  obtain⟨A',fr2⟩:=fr1.pop
  exact⟨i,rfl,q _ ⟨F,A',fr2⟩⟩
 ·cases e
theorem RpA.cut{F:Hp}{vs:List V}{ds:List PyData}(h:RpA K F vs ds)(lo hi:Option Int):RpA K F (zT vs lo hi) (z_ ds lo hi):=by
 unfold zT z_
 rw[h.len]
 exact(h.drop _).take _
end
def aO(E:List Sl):List Sl→Option (List PyData)
 |[]=>some []
 |s::ss=>(look E s).bind fun d=>(aO E ss).map fun ds=>d::ds
theorem lookA_iff{E:List Sl}:∀{ss:List Sl} {ds:List PyData},aO E ss=some ds↔Paired (fun s d=>look E s=some d) ss ds
 |[],ds=>⟨fun h=>by cases h;exact .nil,fun h=>by cases h;rfl⟩
 |s::ss,ds=>by
  constructor
  ·intro h
   obtain⟨d,h1,h⟩:=Za.mp h
   obtain⟨es,h2,h⟩:=Zaf.mp h
   cases h
   exact .cons h1 (lookA_iff.mp h2)
  ·intro h
   cases h with
   |cons h1 h2=>simp[aO,h1,lookA_iff.mpr h2]
theorem Ab{E:List Sl}{ss:List Sl}{ds:List PyData}(h:aO E ss=some ds):aO E ss.reverse=some ds.reverse:=lookA_iff.mpr (me (lookA_iff.mp h))
section
variable {X:Cx} {K:Frag} {B F:Hp} {σ:nu} {H:Hp} {E:List Sl} {xs:List V} {Xs:List Sl}
theorem FrF.looksR:∀{us:List V} {ts:List Sl} {es:List PyData} {A:List Addr},us.length=ts.length→FrF K B F A σ H E (us++xs) (ts++Xs)→aO E ts=some es→RpA K H us es∧∃A',FrF K B F A' σ H E xs Xs
 |[],[],es,A,_,h,e=>by cases e;exact⟨.nil,A,h⟩
 |u::us,t::ts,es,A,hl,h,e=>by
  obtain⟨d,h1,e⟩:=Za.mp e
  obtain⟨es',h2,e⟩:=Zaf.mp e
  cases e
  have r:=(FrF.look0 (xs:=us++xs) (Xs:=ts++Xs) h h1).1
  obtain⟨A',h'⟩:=FrF.pop (xs:=us++xs) (Xs:=ts++Xs) h
  obtain⟨r',q⟩:=FrF.looksR (by simpa using hl) h' h2
  exact⟨.cons r r',q⟩
 |[],_::_,_,_,e,_,_=>by cases e
 |_::_,[],_,_,e,_,_=>by cases e
theorem FrF.looks{us:List V}{ts:List Sl}{es:List PyData}{A:List Addr}(hl:us.length=ts.length)(h:FrF K B F A σ H E (us.reverse++xs) (ts.reverse++Xs))(e:aO E ts=some es):RpA K H us es∧∃A',FrF K B F A' σ H E xs Xs:=by
 obtain⟨r,q⟩:=FrF.looksR (by simpa using hl) h (Ab e)
 have:=r.rev
 rw[Bp,Bp]at this
 exact⟨this,q⟩
end
def EF(K:Frag)(r:List V→Hp→VK→Prop)(op:List PyData→Option PyData):Prop:=∀(ds:List PyData) (d:PyData) (vs:List V) (H:Hp) (Q:VK),op ds=some d→RpA K H vs ds→∃v,FZ d=some v∧(Q v H→r vs H Q)
def bx(op:List PyData→Option PyData)(g:pR):bv:=fun E=>(g E).bind fun a=>(aO a.2 a.1).bind fun ds=>(op ds).map fun d=>(.sh d,a.2)
theorem Cj{K:Frag}{r:List V→Hp→VK→Prop}{op:List PyData→Option PyData}(hp:EF K r op){m:Bool}{g:pR}{σ:nu}{H:Hp}{Q:VK}(h:rd K m (bx op g) σ H Q):JY r (ra K m g) σ H Q:=by
 obtain⟨B,E,xs,Xs,res,E',fr,cl,e,q⟩:=h
 obtain⟨⟨rs,E1⟩,e1,e⟩:=Za.mp e
 obtain⟨ds,e2,e⟩:=Za.mp e
 obtain⟨d,e3,e⟩:=Zaf.mp e
 cases e
 refine⟨B,E,xs,Xs,rs,E1,fr,cl,e1,fun vs H1 hl ⟨F,A,fr1⟩=>?_⟩
 obtain⟨r1,A',fr2⟩:=fr1.looks hl e2
 obtain⟨v,hv,k⟩:=hp ds d vs H1 Q e3 r1
 exact k (q v H1 ⟨F,A',fr2.push ⟨rfl,v,rfl,pU hv⟩⟩)
def cS:List PyData→Option PyData
 |[.list xs]=>some (.int xs.length)
 |[.tuple xs]=>some (.int xs.length)
 |[.str z]=>if z.length≤1000000 then some (.int z.length)else none
 |_=>none
def w5:List PyData→Option PyData
 |[.int i]=>some (.int (if i < 0 then -i else i))
 |_=>none
theorem RpA.one{K:Frag}{H:Hp}{vs:List V}{d:PyData}(h:RpA K H vs [d]):∃v,vs=[v]∧Rp K H v d:=by
 cases h with
 |cons h t=>cases t;exact⟨_,rfl,h⟩
theorem RpA.two{K:Frag}{H:Hp}{vs:List V}{d e:PyData}(h:RpA K H vs [d,e]):∃v u,vs=[v,u]∧Rp K H v d∧Rp K H u e:=by
 cases h with
 |cons h t=>
  obtain⟨u,rfl,r⟩:=t.one
  exact⟨_,_,rfl,h,r⟩
section
variable {X:Cx} {e:Expr} {es:List Expr} {m1:Bool} {g:pR} {p pos:Pos} {K:Frag}
abbrev IU(K:Frag):List V→Hp→VK→Prop:=fun xs H Q=>(∃p ys,xs=[.ref p]∧(SqL K H p ys∨SqT K H p ys)∧Q (.int ys.length) H)∨(∃z,xs=[.str z]∧z.length≤sizeLine∧Q (.int z.length) H)
theorem EG:EF K (IU K) cS:=fun ds d vs H Q e r=>by
 unfold cS at e
 split at e
 ·cases e
  obtain⟨v,rfl,r'⟩:=r.one
  cases r' with
  |lst h1 h2=>exact⟨_,rfl,fun q=>.inl ⟨_,_,rfl,.inl h1,by rw[h2.len];exact q⟩⟩
 ·cases e
  obtain⟨v,rfl,r'⟩:=r.one
  cases r' with
  |tup h1 h2=>exact⟨_,rfl,fun q=>.inl ⟨_,_,rfl,.inr h1,by rw[h2.len];exact q⟩⟩
 ·split at e
  ·rename_i hl
   cases e
   obtain⟨v,rfl,r'⟩:=r.one
   cases r'
   exact⟨_,rfl,fun q=>.inr ⟨_,rfl,jv hl,q⟩⟩
  ·cases e
 ·cases e
theorem p7 {x:Str} {id:String} {r:List V→Hp→VK→Prop} {op:List PyData→Option PyData} (hp:EF X.K r op) (hc:CallR X (.builtin id) r) (hg:Gl X x) (hm:X.mg x=none) (hv:bootBuiltins x=some (.builtin id)) (ha:AX X (e::es) m1 g) (hn:x≠"__name__":=by decide) (hdb:(x == ("__debug__":Str))=false:=by decide)
  (he:starEach (e::es) X.env=(false,eval e X.env)::starEach es X.env:=by rfl) (hpl:(backTo pos (starEach es X.env)).any (·.1)=false:=by rfl):EX X (.Call (.Name x p) (e::es) [] pos) m1 (bx op g):=
 cn (pN hc hg hm hv ha hn hdb he hpl) fun _ _ _ h=>Cj hp h
theorem fz (hg:Gl X "len") (hm:X.mg "len"=none) (ha:AX X [e] m1 g) (he:starEach [e] X.env=[(false,eval e X.env)]:=by rfl):EX X (.Call (.Name "len" p) [e] [] pos) m1 (bx cS g):=p7 EG (CallR.or tu tw) hg hm PySem.boot_len ha (by decide) (by decide) he rfl
theorem Hg (hg:Gl X "abs") (hm:X.mg "abs"=none) (ha:AX X [e] m1 g) (he:starEach [e] X.env=[(false,eval e X.env)]:=by rfl):EX X (.Call (.Name "abs" p) [e] [] pos) m1 (bx w5 g):=p7 (fun ds d vs H Q e r=>by
 unfold w5 at e
 split at e
 ·cases e
  obtain⟨v,rfl,r'⟩:=r.one
  cases r'
  exact⟨_,rfl,fun q=>⟨_,rfl,q⟩⟩
 ·cases e) BK hg hm PyProof.Rows.boot_abs ha (by decide) (by decide) he rfl
end
def j0(g:bv):bv:=fun E=>(g E).bind fun a=>match look a.2 a.1 with
 |some (.list ds)=>if !e8 a.2 a.1||aN ds then some (.ow ds,a.2)else none
 |some (.tuple ds)=>if !e8 a.2 a.1||aN ds then some (.ow ds,a.2)else none
 |_=>none
section
variable {X:Cx} {e:Expr} {m1:Bool} {f:bv} {p pos:Pos} {K:Frag}
theorem yE (hg:Gl X "list") (hm:X.mg "list"=none) (ha:EX X e m1 f) (he:starEach [e] X.env=[(false,eval e X.env)]:=by rfl):EX X (.Call (.Name "list" p) [e] [] pos) m1 (j0 f):=by
 refine cn (nv tz hg hm PyProof.Rows.boot_list (cV ha fY he) (by decide) (by decide) he rfl) fun σ H Q z=>?_
 obtain⟨B,E,xs,Xs,res,E',fr,cl,e,q⟩:=z
 obtain⟨⟨s,E1⟩,e1,e⟩:=Za.mp e
 refine⟨B,E,xs,Xs,s,E1,fr,cl,e1,fun v1 H1 ⟨F,A,fr1⟩=>?_⟩
 obtain⟨A',fr2⟩:=fr1.pop
 simp only at e
 split at e
 ·rename_i ds ld
  split at e
  ·rename_i hc
   cases e
   obtain⟨a,vs,ev,h1,h2⟩:=fr1.items (k:=0) rfl ld hc
   cases ev
   exact⟨a,vs,rfl,.inl h1,fun l hl=>q _ _ ⟨F,_,fr2.newl h2 hl⟩⟩
  ·cases e
 ·rename_i ds ld
  split at e
  ·rename_i hc
   cases e
   obtain⟨r,f0⟩:=fr1.look0 ld
   cases hh:e8 E' s with
   |false=>
    have h0:Rp X.K F v1 _:=f0 hh
    cases h0 with
    |tup h1 h2=>exact⟨_,_,rfl,.inr (fr1.fh.tup h1),fun l hl=>q _ _ ⟨F,_,fr2.newl h2 hl⟩⟩
   |true=>
    rw[hh]at hc
    cases r with
    |tup h1 h2=>exact⟨_,_,rfl,.inr h1,fun l hl=>q _ _ ⟨F,_,fr2.newl (fr1.coldA h2 (by simpa using hc)) hl⟩⟩
  ·cases e
 ·cases e
end
inductive Ty where
 |non |bool |int |str |list |tuple |dict
def Ty.name:Ty→String
 |.non=>"NoneType"
 |.bool=>"bool"
 |.int=>"int"
 |.str=>"str"
 |.list=>"list"
 |.tuple=>"tuple"
 |.dict=>"dict"
def Ty.is:Ty→Ty→Bool
 |.non,.non=>true
 |.bool,.bool=>true
 |.bool,.int=>true
 |.int,.int=>true
 |.str,.str=>true
 |.list,.list=>true
 |.tuple,.tuple=>true
 |.dict,.dict=>true
 |_,_=>false
def Hh:PyData→Ty
 |.none=>.non
 |.bool _=>.bool
 |.int _=>.int
 |.str _=>.str
 |.list _=>.list
 |.tuple _=>.tuple
 |.dict _=>.dict
theorem IV(K:Frag)(t n:Ty):PySem.W.kitOne K (.type t.name) (.type n.name)=some (t.is n):=by cases t <;> cases n <;> rfl
def tM(n:Ty)(d:PyData):Option PyData:=some (.bool ((Hh d).is n))
section
variable {X:Cx} {e:Expr} {m1:Bool} {f:bv} {p p2 pos:Pos}
theorem Ac{pins:List (Addr×Obj)}{s:Shared}{σ:nu}{H:Hp}{x:V}{u:Value}{d:PyData}{n:Ty}{A:Around}{E:Value→Shared→Prop}{Q:Value→Shared→Prop}(I:Inv X pins σ H s)(rx:RelV x u)(rp:Rp X.K H x d)(h:∀tk,Q (.bool ((Hh d).is n)) {s with toks:=tk}):
  wpAny (model X.prog X.w) A (call (.builtin "isinstance") [u,.type n.name]) Q E s:=by
 have e:=IV X.K (Hh d) n
 cases rp with
 |non=>exact lh I rx .non e h
 |bl b=>exact lh I rx (.bl b) e h
 |int i=>exact lh I rx (.int i) e h
 |str y=>exact lh I rx (.str y) e h
 |lst h1 _=>
  cases rx
  obtain⟨its,rv,⟨o,n',e1,c,_,d⟩,_⟩:=I.list h1
  exact kia_one kitx_list I.kIn ⟨_,e1,c⟩ e (fun z=>nomatch z) h
 |tup h1 _=>
  cases rx
  obtain⟨its,rv,⟨o,e1,c,n',d⟩,_⟩:=I.tuple h1
  exact kia_one PySem.W.kitx_tuple I.kIn ⟨_,e1,c⟩ e (fun z=>nomatch z) h
 |dct h1 _=>
  cases rx
  obtain⟨_,_,vs,_,ob,es,ep,e1,c,_⟩:=vd I.hok h1
  exact kia_one kitx_dict I.kIn ⟨_,e1,c.1⟩ e (fun z=>nomatch z) h
theorem Ad(n:Ty):CallR X (.builtin "isinstance") (fun xs H Q=>∃x d,xs=[x,.ty n.name]∧Rp X.K H x d∧Q (.bl ((Hh d).is n)) H):=by
 intro pins s σ H xs us Q I r h
 obtain⟨x,d,rfl,rp,q⟩:=h
 obtain⟨u,w',rfl,ru,rw'⟩:=r.two
 cases(show w'=Value.type n.name from rw')
 exact Ac I ru rp fun tk=>⟨.bl _,H,I.tok _,rfl,q⟩
theorem w6 (n:Ty) (hg:Gl X "isinstance") (hm:X.mg "isinstance"=none) (ha:EX X e m1 f) {x:Str} (hgx:Gl X x) (hmx:X.mg x=none) (hbx:bootBuiltins x=some (.type n.name)) (hnx:x≠"__name__":=by decide) (hdx:(x == ("__debug__":Str))=false:=by decide)
  (he:starEach [e,.Name x p2] X.env=(false,eval e X.env)::starEach [.Name x p2] X.env:=by rfl) (he2:starEach [.Name x p2] X.env=[(false,eval (.Name x p2) X.env)]:=by rfl) (hpl:(backTo pos (starEach [.Name x p2] X.env)).any (·.1)=false:=by rfl):
  EX X (.Call (.Name "isinstance" p) [e,.Name x p2] [] pos) m1 (jh (tM n) f):=by
 have h2:PE X (.Name x p2) (tC (.ty n.name)):=D9 (v:=.ty n.name) hgx hmx hbx rfl hnx hdx
 refine cn (pN (Ad n) hg hm PyProof.Rows.boot_isinstance (cV ha (cV h2 fY he2) he) (by decide) (by decide) he hpl) fun σ H Q z=>?_
 obtain⟨B,E,xs,Xs,res,E',fr,cl,e,q⟩:=z
 obtain⟨⟨s,E1⟩,e1,e⟩:=Za.mp e
 obtain⟨d1,e2,e⟩:=Za.mp e
 cases e
 refine⟨B,E,xs,Xs,s,E1,fr,cl,e1,fun v1 H1 ⟨F,A,fr1⟩=>?_⟩
 obtain⟨A',fr2⟩:=fr1.pop
 exact⟨v1,d1,rfl,(fr1.look0 e2).1,q _ _ ⟨F,A',fr2.push ⟨rfl,_,rfl,.bl _⟩⟩⟩
end
end PL
namespace PL
open PySem L2 Nh
def yF(K:Frag)(H H':Hp)(v:V):Sl→Prop
 |.sh d=>Rp K (tups H') v d
 |.ow ds=>∃l vs,v=.ref l∧H l=none∧H' l=some (.lst vs)∧RpA K (tups H') vs ds
 |.tx ps=>∃t vs A,v=.ref t∧tups H' t=some (.tup vs)∧A.Nodup∧(∀a∈A,H a=none)∧PtsOk K (tups H') H' vs ps A
 |.od kvs=>∃l us A,v=.ref l∧(l::A).Nodup∧(∀a∈l::A,H a=none)∧H' l=some (.dK us)∧DlOk K (tups H') H' us kvs A
 |.br d=>Rp K H' v d
 |_=>False
def dr(K:Frag)(c:List PyData→Option Sl):Sp:=fun vs H Q _=>∃ds r,c ds=some r∧RpA K H vs ds∧∀v H',Same H H'→yF K H H' v r→Q v H'
section
variable {K:Frag} {B F:Hp} {A N:List Addr} {σ:nu} {H H':Hp} {E:List Sl} {xs:List V} {Xs:List Sl} {v:V} {s:Sl}
theorem FrF.growN(h:FrF K B F A σ H E xs Xs)(g:Same H H')(hN:∀a∈N,H a=none∧((∃us,H' a=some (.lst us))∨∃us,H' a=some (.dK us))):FrF K B (fun b=>if b∈N then none else if b∈A then none else H' b) A σ H' E xs Xs:=by
 have h1:=h.grow g
 have nF:∀b o,F b=some o→b∉N:=fun b o e hb=>by
  have:=h.fh.free (hN b hb).1
  rw[this]at e;cases e
 have FF:Same F (fun b=>if b∈N then none else if b∈A then none else H' b):=fun b o e=>by
  have nA:b∉A:=fun hb=>by rw[h.fr b hb]at e;cases e
  show(if b∈N then none else if b∈A then none else H' b)=some o
  rw[if_neg (nF b o e),if_neg nA]
  exact g _ _ (h.fh _ _ e)
 have hA:∀b∈A,H' b=H b:=fun b hb=>by
  rcases h.mutA b hb with⟨_,z⟩ |⟨_,z⟩ <;> rw[z,g _ _ z]
 refine⟨h.bf.trans FF,fun b o e=>?_,fun b o e=>?_,h.sl.mono fun o s C _ hC q=>q.stay FF (fun b hb=>hA b (hC b hb)) fun _=>g,h.nd,fun a ha=>?_,h.len,h.pl⟩
 ·by_cases hb:b∈N
  ·rw[if_pos hb]at e;cases e
  ·rw[if_neg hb]at e;exact h1.fh _ _ e
 ·show(if b∈N then none else if b∈A then none else H' b)=some o
  by_cases hb:b∈N
  ·obtain⟨e1,e2⟩:=Zbo.mp e
   rcases(hN b hb).2 with⟨us,z⟩ |⟨us,z⟩ <;> rw[z]at e1 <;> cases e1 <;> cases e2
  ·rw[if_neg hb];exact h1.tf _ _ e
 ·show(if a∈N then none else if a∈A then none else H' a)=none
  by_cases hb:a∈N
  ·rw[if_pos hb]
  ·rw[if_neg hb,if_pos ha]
theorem FrF.pushR(h:FrF K B F A σ H E xs Xs)(q:SlOk K F H σ (some v) s N)(nd:N.Nodup)(dj:∀a∈N,a∉A)(fr:∀a∈N,F a=none):FrF K B F (N++A) σ H E (v::xs) (s::Xs):=
 ⟨h.bf,h.fh,h.tf,.cons q h.sl,Zav.mpr ⟨nd,h.nd,fun a ha b hb e=>dj a ha (e▸hb)⟩,fun a ha=>(Zaj.mp ha).elim (fr a) (h.fr a),by simp[h.len],h.pl⟩
theorem FrF.told(h:FrF K B F A σ H E xs Xs)(g:Same H H')(q:yF K H H' v s):Frm K B σ H' E (v::xs) (s::Xs):=by
 cases s with
 |sh d=>
  have h1:=h.grow g
  exact⟨_,_,h1.push ⟨rfl,v,rfl,Rp.same h1.tf q⟩⟩
 |ow ds=>
  obtain⟨l,vs,rfl,hl,hl',r⟩:=q
  have h1:=h.growN (N:=[l]) g fun a ha=>by rw[Zag.mp ha];exact⟨hl,.inl ⟨vs,hl'⟩⟩
  exact⟨_,_,h1.pushR (N:=[l]) ⟨l,vs,rfl,rfl,hl',r.same h1.tf⟩ (by simp) (fun a ha=>by rw[Zag.mp ha];exact h.newA hl) fun a ha=>if_pos ha⟩
 |tx ps=>
  obtain⟨t,vs,N,rfl,ht,nd,hN,r⟩:=q
  have h1:=h.growN (N:=N) g fun a ha=>⟨hN a ha,.inl (r.some a ha)⟩
  exact⟨_,_,h1.pushR (N:=N) ⟨t,vs,rfl,h1.tf _ _ ht,r.stay h1.tf fun _ _=>rfl⟩ nd (fun a ha=>h.newA (hN a ha)) fun a ha=>if_pos ha⟩
 |no=>exact False.elim q
 |od kvs=>
  obtain⟨l,us,N,rfl,nd,hN,hl,r⟩:=q
  have h1:=h.growN (N:=l::N) g fun a ha=>⟨hN a ha,(Zal.mp ha).elim (fun z=>.inr ⟨us,z▸hl⟩) fun z=>.inl (r.some a z)⟩
  exact⟨_,_,h1.pushR (N:=l::N) ⟨l,us,N,rfl,rfl,hl,r.stay h1.tf fun _ _=>rfl⟩ nd (fun a ha=>h.newA (hN a ha)) fun a ha=>if_pos ha⟩
 |al i=>exact False.elim q
 |br d=>
  have h1:=h.grow g
  exact⟨_,_,h1.push ⟨rfl,v,rfl,q⟩⟩
end
def am(c:List PyData→Option Sl)(g:pR):bv:=fun E=>(g E).bind fun a=>(aO a.2 a.1).bind fun ds=>(c ds).map fun r=>(r,a.2)
theorem aD{X:Cx}{k:Nat}{x:Str}{ps:List Str}{c:List PyData→Option Sl}{p pos:Pos}{e:Expr}{es:List Expr}{m:Bool}{g:pR}(D:Own X.prog X.w X.K X.mg X.base k x ps (dr X.K c))(hr:Room k X.A)(hg:Gl X x)(ha:AX X (e::es) m g)
  (hdb:(x == ("__debug__":Str))=false:=by decide) (he:starEach (e::es) X.env=(false,eval e X.env)::starEach es X.env:=by rfl) (hpl:(backTo pos (starEach es X.env)).any (·.1)=false:=by rfl):
  EX X (.Call (.Name x p) (e::es) [] pos) m (am c g):=by
 refine cn (BV D hr hg ha hdb he hpl) fun σ H Q z=>?_
 obtain⟨B,E,xs,Xs,res,E',fr,cl,e,q⟩:=z
 obtain⟨⟨rs,E1⟩,e1,e⟩:=Za.mp e
 obtain⟨ds,e2,e⟩:=Za.mp e
 obtain⟨r,e3,e⟩:=Zaf.mp e
 cases e
 refine⟨B,E,xs,Xs,rs,E1,fr,cl,e1,fun vs H1 hl ⟨F,A,fr1⟩=>?_⟩
 obtain⟨r1,A',fr2⟩:=fr1.looks hl e2
 exact⟨ds,res,e3,by rw[List.append_nil];exact r1,fun v H' g q'=>q v H' (fr2.told g q')⟩
def aC(i:Nat)(f:bv):bv:=fun E=>match E[i]? with
 |some (.ow _)=>(f E).bind fun a=>(frz a.2 a.1).bind fun b=>match b.2[i]? with
  |some (.ow ds)=>if ds.length < 1000000 then some (.sh .none,b.2.set i (.ow (ds++[b.1])))else none
  |_=>none
 |_=>none
def lQ(i:Nat):bv:=fun E=>match E[i]? with
 |some (.ow ds)=>(ds[ds.length - 1]?).map fun d=>(.sh d,E.set i (.ow ds.dropLast))
 |_=>none
section
variable {X:Cx} {e:Expr} {m1:Bool} {f:bv} {x:Str} {p apos cpos:Pos}
theorem df (i:Nat) (he:EX X e m1 f) (hN:X.N[i]? =some x:=by rfl) (hv:Br X.env.scope x:=by first |exact Or.inl rfl |exact Or.inr (Or.inl rfl) |exact Or.inr (Or.inr rfl)) (hd:(x == ("__debug__":Str))=false:=by decide) (hcd:(x == ("__classdict__":Str))=false:=by decide)
  (hs:starEach [e] X.env=[(false,eval e X.env)]:=by rfl) (hbase:attributeBase (.Name x p) "append" X.env (eval (.Name x p) X.env)=eval (.Name x p) X.env:=by rfl)
  (hfew:((backTo cpos (starEach [e] X.env)).all (fun x=> !x.1)&&(backToKw cpos (keywordEach [] X.env)).all (fun x=>x.1.isSome)
   &&decide (([e]:List Expr).length+([]:List Keyword).length+(if ([]:List Keyword).isEmpty then 0 else 1) < 30))=true:=by rfl) (hline:(apos.endLine == cpos.line)=true:=by rfl):
  EX X (.Call (.Attribute (.Name x p) "append" apos) [e] [] cpos) true (aC i f):=by
 refine cn (u0 PySem.F.plainAttrs_list PySem.F.slot_list_append PySem.F.type_list_append nw (jr hN hv hd hcd) (cV he fY hs) hbase hfew hline hs rfl) fun σ H Q z=>?_
 obtain⟨B,E,xs,Xs,res,E',⟨F,A,fr⟩,cl,e,q⟩:=z
 unfold aC at e
 split at e
 ·rename_i ds0 ei
  obtain⟨⟨s,E1⟩,e1,e⟩:=Za.mp e
  obtain⟨⟨d,E2⟩,e2,e⟩:=Za.mp e
  simp only at e
  split at e
  ·rename_i ds ei2
   split at e
   ·rename_i hl
    cases e
    obtain⟨o,A1,eo,l,vs,rfl,rfl,hl0,_⟩:=fr.var ei
    refine⟨_,eo,.inl ⟨rfl,_,SqL.of hl0⟩,B,E,xs,Xs,s,E1,⟨F,A,fr⟩,fun _=>cl rfl,e1,fun v H1 ⟨F1,A1,fr1⟩=>?_⟩
    obtain⟨F2,A2,fr2⟩:=fr1.frz0 e2
    obtain⟨v',A3,ev,rfl,w,ew,rv⟩:=fr2.ext (k:=0) rfl
    cases ev;cases ew
    obtain⟨A4,fr3⟩:=fr2.pop
    obtain⟨l',vs',eo',hl',r',put⟩:=fr3.mut ei2 (cl rfl)
    rw[eo]at eo'
    cases eo'
    have ll:=r'.len
    have fr4:=put (vs'++[v]) (ds++[d]) (r'.snoc rv)
    exact⟨l,vs',v,rfl,rfl,hl',small (by omega),q _ _ ⟨_,_,fr4.push ⟨rfl,_,rfl,.non⟩⟩⟩
   ·cases e
  ·cases e
 ·cases e
theorem Ck (i:Nat) (hN:X.N[i]? =some x:=by rfl) (hv:Br X.env.scope x:=by first |exact Or.inl rfl |exact Or.inr (Or.inl rfl) |exact Or.inr (Or.inr rfl)) (hd:(x == ("__debug__":Str))=false:=by decide) (hcd:(x == ("__classdict__":Str))=false:=by decide)
  (hbase:attributeBase (.Name x p) "pop" X.env (eval (.Name x p) X.env)=eval (.Name x p) X.env:=by rfl) (hline:(apos.endLine == cpos.line)=true:=by rfl):
  EX X (.Call (.Attribute (.Name x p) "pop" apos) [] [] cpos) true (lQ i):=by
 refine cn (G2 PySem.F.plainAttrs_list PySem.F.slot_list_pop PySem.F.type_list_pop G3 (jr hN hv hd hcd) hbase hline) fun σ H Q z=>?_
 obtain⟨B,E,xs,Xs,res,E',⟨F,A,fr⟩,cl,e,q⟩:=z
 unfold lQ at e
 split at e
 ·rename_i ds ei
  obtain⟨d,ed,e⟩:=Zaf.mp e
  cases e
  obtain⟨l,vs,eo,hl,r,put⟩:=fr.mut ei (cl rfl)
  obtain⟨y,ey,ry⟩:=r.get ed
  have fr2:=put vs.dropLast ds.dropLast r.dropLast
  exact⟨_,eo,.inl ⟨rfl,_,SqL.of hl⟩,l,vs,y,rfl,rfl,hl,by rw[r.len];exact ey,q _ _ ⟨_,_,fr2.push ⟨rfl,_,rfl,ry⟩⟩⟩
 ·cases e
end
def iM(s:Sl):Sl:=match s.val with
 |some d=>.sh d
 |none=>.no
def frzAll(E:List Sl):List Sl:=E.map iM
def settle(E:List Sl):Sl→Option (Sl×List Sl)
 |.al i=>(frz E (.al i)).map fun a=>(.sh a.1,a.2)
 |.br d=>if de d then some (.sh d,E)else some (.sh d,frzAll E)
 |s=>some (s,E)
def aw(g h:cA):cA:=fun E=>(g E).bind fun a=>match a.2 with
 |.nx=>h a.1
 |fl=>some (a.1,fl)
def aP:cA:=fun E=>some (E,.nx)
def aY(f:bv):cA:=fun E=>(f E).map fun a=>(a.2,.nx)
def aI(f:bv):cA:=fun E=>(f E).bind fun a=>match a.1 with
 |.al i=>(a.2[i]?).map fun s=>(a.2.set i .no,.rt s)
 |s=>some (a.2,.rt s)
def bp(c:jD)(g h:cA):cA:=fun E=>(c E).bind fun a=>if a.1 then g a.2 else h a.2
def au(i:Nat)(f:bv):cA:=fun E=>(f E).bind fun a=>(settle a.2 a.1).bind fun b=>if i < b.2.length then some (b.2.set i b.1,.nx)else none
section
variable {K:Frag} {B F:Hp} {A:List Addr} {σ:nu} {H:Hp} {E E':List Sl} {xs:List V} {Xs:List Sl} {v:V} {s s':Sl} {d:PyData}
theorem FrF.frzAll(h:FrF K B F A σ H E xs Xs)(hX:Xs=[]):FrF K B H [] σ H (PL.frzAll E) [] []:=by
 subst hX
 have hx:xs=[]:=by simpa using h.len
 subst hx
 refine⟨h.bf.trans h.fh,Same.refl _,nz H,?_,List.nodup_nil,fun a ha=>(by cases ha),rfl,fun s hs=>?_⟩
 ·have key:∀{os:List (Option V)} {ss:List Sl} {C:List Addr},SAll (SlOk K F H σ) os ss C→SAll (SlOk K H H σ) os (PL.frzAll ss) []:=fun {os ss C} r=>by
   induction r with
   |nil=>exact .nil
   |cons q _ ih=>
    refine .cons (A:=[]) ?_ ih
    unfold iM
    split
    ·rename_i d e
     obtain⟨v,rfl,r,_⟩:=q.val h.fh e
     exact⟨rfl,v,rfl,r⟩
    ·exact rfl
  exact key h.sl
 ·obtain⟨t,_,rfl⟩:=Zbc.mp hs
  unfold iM
  split <;> rfl
theorem FrF.settle(h:FrF K B F A σ H E (v::xs) (s::Xs))(hX:Xs=[])(q:PL.settle E s=some (s',E')):s'.isAl=false∧Frm K B σ H E' (v::xs) (s'::Xs):=by
 cases s with
 |al i=>
  obtain⟨⟨d,E2⟩,e,z⟩:=Zaf.mp (show(frz E (.al i)).map (fun a=>(Sl.sh a.1,a.2))=some (s',E')from q)
  cases z
  obtain⟨F',A',h'⟩:=h.frz0 e
  exact⟨rfl,F',A',h'⟩
 |br d=>
  have r:=(h.look0 (d:=d) rfl).1
  obtain⟨A',h'⟩:=h.pop
  simp only[PL.settle]at q
  split at q
  ·rename_i hf
   cases q
   exact⟨rfl,F,A',h'.push ⟨rfl,v,rfl,h.cold r hf⟩⟩
  ·cases q
   have h2:=h'.frzAll hX
   have hl:=h'.len
   subst hX
   have hx:xs=[]:=by simpa using hl
   subst hx
   exact⟨rfl,H,[],h2.push ⟨rfl,v,rfl,r⟩⟩
 |no=>cases q;exact⟨rfl,F,A,h⟩
 |sh d=>cases q;exact⟨rfl,F,A,h⟩
 |ow ds=>cases q;exact⟨rfl,F,A,h⟩
 |od kvs=>cases q;exact⟨rfl,F,A,h⟩
 |tx ps=>cases q;exact⟨rfl,F,A,h⟩
theorem FrF.move{i:Nat}(h:FrF K B F A σ H E (v::xs) (.al i::Xs))(e:E[i]? =some s):Frm K B σ H (E.set i .no) (v::xs) (s::Xs):=by
 obtain⟨v',A1,ev,rfl,w,ew,hw⟩:=h.ext (k:=0) rfl
 cases ev;cases ew
 obtain⟨A',h'⟩:=h.pop
 obtain⟨o,A0,A1,A2,eA,eo,hp,put⟩:=h'.sl.at (k:=Xs.length+i) (s:=s) (by rw[D2 (by omega)];simpa using e)
 have z:=put (SlOk K F H σ) o .no [] rfl fun _ _ _ _ _ q=>q
 have e3:(Xs++E).set (Xs.length+i) .no=Xs++E.set i .no:=by
  rw[List.set_append_right _ _ (by omega),Bo]
 have e2:(List.map some xs++σ).set (Xs.length+i) o=List.map some xs++σ:=List.ext_getElem? fun j=>by
  by_cases hj:Xs.length+i=j
  ·subst hj
   rw[List.getElem?_set_self',eo];rfl
  ·rw[List.getElem?_set_ne hj]
 rw[e2,e3]at z
 rw[D2 (by rw[fw,h'.len];omega),fw,h'.len,Bo,hw]at eo
 cases eo
 have nd:=h'.nd
 rw[eA]at nd
 refine⟨F,A1++(A0++([]++A2)),h.bf,h.fh,h.tf,.cons hp z,?_,fun a ha=>h'.fr a ?_,h.len,fun s' hs=>?_⟩
 ·have p:(A1++(A0++([]++A2))).Perm (A0++(A1++A2)):=by
   rw[List.nil_append,←pk,←pk]
   exact List.Perm.append_right _ List.perm_append_comm
  exact p.nodup_iff.mpr nd
 ·rw[eA]
  simp only[Zaj,Z8]at ha ⊢
  rcases ha with z |z |z
  ·exact .inr (.inl z)
  ·exact .inl z
  ·exact .inr (.inr z)
 ·rcases List.mem_or_eq_of_mem_set hs with hs |hs
  ·exact h.pl s' hs
  ·subst hs;rfl
end
section
variable {X:Cx} {st:Stmt} {aX a b:List Stmt} {g h:cA} {e c:Expr} {m:Bool} {f:bv} {t:jD} {pos:Pos}
theorem bN:BY X [] aP:=yu Ea fun D σ H z=>by
 obtain⟨B,E,xs,Xs,E',fl,fr,cl,e,q⟩:=z
 cases e
 exact q _ _ fr
theorem ah(h1:SX X st g):BY X [st] g:=sS h1
theorem Hi{K:Frag}{D:Ends}{σ:nu}{H:Hp}(z:rs K (aw g h) D σ H):rs K g {D with nx:=rs K h D} σ H:=by
 obtain⟨B,E,xs,Xs,E',fl,fr,cl,e,q⟩:=z
 obtain⟨⟨E1,f1⟩,e1,e⟩:=Za.mp e
 refine⟨B,E,xs,Xs,E1,f1,fr,cl,e1,?_⟩
 cases f1 with
 |nx=>exact fun σ' H' fr'=>⟨B,E1,xs,Xs,E',fl,fr',cl,e,q⟩
 |bk=>cases e;exact q
 |ct=>cases e;exact q
 |rt r=>cases e;exact q
theorem ag(h1:SX X st g)(h2:BY X aX h):BY X (st::aX) (aw g h):=yu (Bw h1 h2) fun D σ H z=>Hi z
theorem eB(he:EX X e m f)(hs:swapsWith e none pos.line X.env=pure false:=by rfl):SX X (.Expr e pos) (aY f):=ju (sT he hs) fun D σ H z=>by
 obtain⟨B,E,xs,Xs,E',fl,fr,cl,e,q⟩:=z
 obtain⟨⟨s,E1⟩,e1,e⟩:=Zaf.mp e
 cases e
 refine⟨B,E,xs,Xs,s,E1,fr,fun _=>Calm.nil cl,e1,fun v H1 ⟨F,A,fr1⟩=>?_⟩
 obtain⟨A',fr2⟩:=fr1.pop
 exact q _ _ ⟨F,A',fr2⟩
theorem aJ(he:EX X e m f):SX X (.Return (some e) pos) (aI f):=ju (GB he) fun D σ H z=>by
 obtain⟨B,E,xs,Xs,E',fl,fr,cl,e,q⟩:=z
 obtain⟨⟨s,E1⟩,e1,e⟩:=Za.mp e
 refine⟨B,E,xs,Xs,s,E1,fr,fun _=>Calm.nil cl,e1,fun v H1 ⟨F,A,fr1⟩=>?_⟩
 simp only at e
 split at e
 ·obtain⟨s',es,e⟩:=Zaf.mp e
  cases e
  exact q σ _ _ (fr1.move es)
 ·cases e
  exact q σ _ _ ⟨F,A,fr1⟩
theorem dS(hc:TX X c m t)(ha:BY X a g)(hb:BY X b h):SX X (.If c a b pos) (bp t g h):=ju (Iv hc ha hb) fun D σ H z=>by
 obtain⟨B,E,xs,Xs,E',fl,fr,cl,e,q⟩:=z
 obtain⟨⟨b1,E1⟩,e1,e⟩:=Za.mp e
 refine⟨B,E,xs,Xs,b1,E1,fr,fun _=>Calm.nil cl,e1,fun H1 fr1=>?_⟩
 cases b1 with
 |true=>exact(if_pos rfl).mpr ⟨B,E1,xs,Xs,E',fl,fr1,cl,e,q⟩
 |false=>exact(if_neg (by decide)).mpr ⟨B,E1,xs,Xs,E',fl,fr1,cl,e,q⟩
theorem aA(i:Nat){x:Str}{pos':Pos}(hN:X.N.Nodup)(he:EX X e m f)(hi:X.N[i]? =some x:=by rfl)(hx:Ih X.env.scope x:=by first |exact Or.inl rfl |exact Or.inr rfl)(hs:swapsWith e (some (.Name x pos')) pos.line X.env=pure false:=by rfl)(hf:X.fn x=true∨X.env.scope.names.lookup x=some .local:=by first |exact .inl rfl |exact .inr rfl |assumption):
  SX X (.Assign [.Name x pos'] e pos) (au i f):=ju (GI hN hi hx he hs hf) fun D σ H z=>by
 obtain⟨B,E,xs,Xs,E',fl,fr,cl,e,q⟩:=z
 obtain⟨⟨s,E1⟩,e1,e⟩:=Za.mp e
 obtain⟨⟨s',E2⟩,e2,e⟩:=Za.mp e
 refine⟨B,E,xs,Xs,s,E1,fr,fun _=>Calm.nil cl,e1,fun v H1 ⟨F,A,fr1⟩=>?_⟩
 obtain⟨c1,F2,A2,fr2⟩:=fr1.settle cl e2
 simp only at e
 split at e
 ·rename_i hi
  cases e
  obtain⟨A3,fr3⟩:=fr2.store c1 (Still.nil cl) hi
  exact q _ _ ⟨F2,A3,fr3⟩
 ·cases e
end
end PL
namespace PL
open PySem L2 Nh
abbrev gx:=PyData→List Sl→Option (List Sl)
abbrev vf:=List PyData→List Sl→Option (List Sl)
def rg(K:Frag)(h:gx):TG:=fun v σ H Q=>∃B E xs Xs d E',Frm K B σ H E (v::xs) (.sh d::Xs)∧Still Xs∧h d E=some E'∧∀σ' H',Frm K B σ' H' E' xs Xs→Q σ' H'
def KC(K:Frag)(h:vf):Eb:=fun vs σ H Q=>∃B E xs Xs ds E',vs.length=ds.length∧Frm K B σ H E (vs++xs) (ds.map .sh++Xs)∧Still Xs∧h ds E=some E'∧∀σ' H',Frm K B σ' H' E' xs Xs→Q σ' H'
def GX(X:Cx)(e:Expr)(h:gx):Prop:=PG X e (rg X.K h)
def JE(X:Cx)(es:List Expr)(h:vf):Prop:=GD X es (KC X.K h)
def ar(i:Nat):gx:=fun d E=>if i < E.length then some (E.set i (.sh d))else none
def fA:vf:=fun ds E=>if ds.isEmpty then some E else none
def bB(h:gx)(hs:vf):vf:=fun ds E=>match ds with
 |d::ds=>(h d E).bind (hs ds)
 |[]=>none
def fB(n:Nat)(hs:vf):gx:=fun d E=>match d with
 |.tuple ds=>if ds.length=n then hs ds E else none
 |_=>none
section
variable {X:Cx}
theorem Cl{e:Expr}{t t':TG}(h:PG X e t)(k:∀v σ H Q,t' v σ H Q→t v σ H Q):PG X e t':=fun pins s σ H v u Q I r q=>h pins s σ H v u Q I r (k v σ H Q q)
theorem yG{es:List Expr}{t t':Eb}(h:GD X es t)(k:∀v σ H Q,t' v σ H Q→t v σ H Q):GD X es t':=fun pins s σ H v u Q I r q=>h pins s σ H v u Q I r (k v σ H Q q)
theorem aB(i:Nat){x:Str}{pos:Pos}(hN:X.N.Nodup)(hi:X.N[i]? =some x:=by rfl)(hx:Ih X.env.scope x:=by first |exact Or.inl rfl |exact Or.inr rfl)(hf:X.fn x=true∨X.env.scope.names.lookup x=some .local:=by first |exact .inl rfl |exact .inr rfl |assumption):GX X (.Name x pos) (ar i):=Cl (sU hN hi hx hf) fun v σ H Q z=>by
 obtain⟨B,E,xs,Xs,d,E',⟨F,A,fr⟩,cl,e,q⟩:=z
 unfold ar at e
 split at e
 ·rename_i hi
  cases e
  obtain⟨A',fr'⟩:=fr.store rfl cl hi
  exact q _ _ ⟨F,A',fr'⟩
 ·cases e
theorem iC:JE X [] fA:=yG ye fun v σ H Q z=>by
 obtain⟨B,E,xs,Xs,ds,E',hl,fr,cl,e,q⟩:=z
 unfold fA at e
 split at e
 ·rename_i hd
  cases e
  have:ds=[]:=by simpa using hd
  subst this
  have hv:v=[]:=by simpa using hl
  subst hv
  exact⟨rfl,q _ _ fr⟩
 ·cases e
theorem bZ{e:Expr}{es:List Expr}{h:gx}{hs:vf}(h1:GX X e h)(h2:JE X es hs)(hst:(assignEach (e::es) X.env).map (·.2)=assign e X.env::(assignEach es X.env).map (·.2):=by rfl):JE X (e::es) (bB h hs):=yG (pK h1 h2 hst) fun v σ H Q z=>by
 obtain⟨B,E,xs,Xs,ds,E',hl,fr,cl,e,q⟩:=z
 cases ds with
 |nil=>cases e
 |cons d ds=>
  cases v with
  |nil=>cases hl
  |cons v vs=>
   obtain⟨E1,e1,e2⟩:=Za.mp e
   refine⟨v,vs,rfl,B,E,vs++xs,ds.map Sl.sh++Xs,d,E1,fr,fun s hs=>?_,e1,fun σ1 H1 fr1=>⟨B,E1,xs,Xs,ds,E',by simpa using hl,fr1,cl,e2,q⟩⟩
   rcases Zaj.mp hs with hs |hs
   ·obtain⟨d',_,rfl⟩:=Zbc.mp hs
    rfl
   ·exact cl s hs
theorem j4{es:List Expr}{k:Nat}{pos:Pos}{hs:vf}{n:Nat}(hc:X.calm=true)(h:JE X es hs)(hn:(assignEach es X.env).length=n:=by rfl)(hst:(assignEach es X.env).findIdx? (·.1)=none:=by rfl):GX X (.Tuple es k pos) (fB n hs):=Cl (By hc h hn hst) fun v σ H Q z=>by
 obtain⟨B,E,xs,Xs,d,E',⟨F,A,fr⟩,cl,e,q⟩:=z
 unfold fB at e
 split at e
 ·rename_i ds
  split at e
  ·rename_i hl
   obtain⟨v',A1,ev,rfl,w,ew,r⟩:=fr.ext (k:=0) rfl
   cases ev;cases ew
   cases r with
   |tup h1 h2=>
    obtain⟨A',fr'⟩:=fr.pop
    have key:∀{us:List V} {es:List PyData},RpA X.K F us es→FrF X.K B F A' σ H E (us++xs) (es.map .sh++Xs):=fun {us es} r=>by
     induction us generalizing es with
     |nil=>cases r;exact fr'
     |cons u us ih=>
      cases r with
      |cons r1 r2=>exact(ih r2).push ⟨rfl,_,rfl,r1⟩
    exact⟨_,_,rfl,fr.fh.tup h1,by rw[h2.len];exact hl,B,E,xs,Xs,ds,E',h2.len,⟨F,A',key h2⟩,cl,e,q⟩
  ·cases e
 ·cases e
end
def tN(i:Nat)(fi fe:bv):cA:=fun E=>(fe E).bind fun a=>(frz a.2 a.1).bind fun b=>match b.2[i]? with
 |some (.ow _)=>(fi b.2).bind fun c=>match look c.2 c.1,c.2[i]? with
  |some (.int k),some (.ow ds)=>(zU ds.length k).map fun j=>(c.2.set i (.ow (ds.set j b.1)),.nx)
  |_,_=>none
 |_=>none
theorem Cn {X:Cx} (i:Nat) {e ei:Expr} {x:Str} {m m2:Bool} {fe fi:bv} {p p2 pos:Pos} (he:EX X e m fe) (hi:EX X ei m2 fi) (hN:X.N[i]? =some x:=by rfl) (hv:Br X.env.scope x:=by first |exact Or.inl rfl |exact Or.inr (Or.inl rfl) |exact Or.inr (Or.inr rfl)) (hd:(x == ("__debug__":Str))=false:=by decide) (hcd:(x == ("__classdict__":Str))=false:=by decide)
  (hs:swapsWithSole [.Subscript (.Name x p) ei p2] e pos.line X.env=pure false:=by rfl) (hw:swappedStores [.Subscript (.Name x p) ei p2] e X.env=pure none:=by rfl) (h1:(assignEach [.Subscript (.Name x p) ei p2] X.env).map (·.2)=[assign (.Subscript (.Name x p) ei p2) X.env]:=by rfl)
  (ha:∀v,assign (.Subscript (.Name x p) ei p2) X.env v=(do
   let ov ←holding [v] (eval (.Name x p) X.env)
   let iv ←holding [v,ov] (eval ei X.env)
   standAt p2
   holding [v,ov,iv] (setItem ov iv v)
   release [v,ov,iv] []):=by intro _;rfl):SX X (.Assign [.Subscript (.Name x p) ei p2] e pos) (tN i fi fe):=ju (BA he (Bz (jr hN hv hd hcd) hi uZ ha) hs hw h1) fun D σ H z=>by
 obtain⟨B,E,xs,Xs,E',fl,fr,cl,e,q⟩:=z
 obtain⟨⟨s,E1⟩,e1,e⟩:=Za.mp e
 obtain⟨⟨d,E2⟩,e2,e⟩:=Za.mp e
 refine⟨B,E,xs,Xs,s,E1,fr,fun _=>Calm.nil cl,e1,fun v H1 ⟨F,A,fr1⟩=>?_⟩
 obtain⟨F2,A2,fr2⟩:=fr1.frz0 e2
 simp only at e
 split at e
 ·rename_i ds0 ei
  obtain⟨⟨s3,E3⟩,e3,e⟩:=Za.mp e
  obtain⟨o,A1,eo,l,vs0,rfl,_⟩:=fr2.var ei
  refine⟨_,eo,B,E2,v::xs,.sh d::Xs,s3,E3,⟨F2,A2,fr2⟩,fun _=>Calm.cons (Calm.nil cl) rfl,e3,fun v3 H3 ⟨F3,A3,fr3⟩=>?_⟩
  simp only at e
  split at e
  ·rename_i k ds lk ei3
   obtain⟨j,ej,e⟩:=Zaf.mp e
   cases e
   have r3:=(fr3.look0 lk).1
   cases r3
   obtain⟨A4,fr4⟩:=fr3.pop
   obtain⟨v',A5,ev,rfl,w,ew,rv⟩:=fr4.ext (k:=0) rfl
   cases ev;cases ew
   obtain⟨A6,fr5⟩:=fr4.pop
   obtain⟨l',vs',eo',hl',r',put⟩:=fr5.mut ei3 (Calm.nil cl)
   rw[eo]at eo'
   cases eo'
   exact⟨l,vs',k,j,rfl,rfl,hl',by rw[r'.len];exact ej,q _ _ ⟨_,_,put _ _ (r'.set j rv)⟩⟩
  ·cases e
 ·cases e
def vg(K:Frag)(B0:Hp)(J:It)(ds:List PyData):Prop:=∀{B F:Hp} {A:List Addr} {σ:nu} {H:Hp} {E:List Sl} {xs:List V} {Xs:List Sl} (i:Nat),Same B0 B→FrF K B F A σ H E xs Xs→
 (∀d,ds[i]? =some d→J.go i H∧∀x H2,J.yld i H x H2→Frm K B σ H2 E (x::xs) (.sh d::Xs))∧(i=ds.length→J.stop i H)
def ri(K:Frag)(m:Bool)(f:pS):TI:=fun σ H R=>∃B E xs Xs ds E',Frm K B σ H E xs Xs∧(m=true→Calm Xs)∧f E=some (ds,E')∧∀B' J H',Same B B'→Frm K B' σ H' E' xs Xs→vg K B' J ds→R J H'
def IX(X:Cx)(tg e:Expr)(m:Bool)(f:pS):Prop:=PI X tg e (ri X.K m f)
theorem FrF.base{K:Frag}{B B' F:Hp}{A:List Addr}{σ:nu}{H:Hp}{E:List Sl}{xs:List V}{Xs:List Sl}(h:FrF K B' F A σ H E xs Xs)(s:Same B B'):FrF K B F A σ H E xs Xs:=⟨s.trans h.bf,h.fh,h.tf,h.sl,h.nd,h.fr,h.len,h.pl⟩
theorem Frm.base{K:Frag}{B B':Hp}{σ:nu}{H:Hp}{E:List Sl}{xs:List V}{Xs:List Sl}(h:Frm K B' σ H E xs Xs)(s:Same B B'):Frm K B σ H E xs Xs:=let ⟨F,A,h⟩:=h;⟨F,A,h.base s⟩
theorem FrF.raise{K:Frag}{B F:Hp}{A:List Addr}{σ:nu}{H:Hp}{E:List Sl}{xs:List V}{Xs:List Sl}(h:FrF K B F A σ H E xs Xs):FrF K F F A σ H E xs Xs:=⟨Same.refl _,h.fh,h.tf,h.sl,h.nd,h.fr,h.len,h.pl⟩
def kH(lo:Int)(n:Nat):List PyData:=(List.range n).map fun(k:Nat)=>.int (lo+(k:Int))
def iN(g:pR):pS:=fun E=>(g E).bind fun a=>match aO a.2 a.1 with
 |some [.int j]=>if -1000000≤j∧j≤1000000 then some (kH 0 j.toNat,a.2)else none
 |_=>none
def nE(g:pR):pS:=fun E=>(g E).bind fun a=>match aO a.2 a.1 with
 |some [.int i,.int j]=>if -1000000≤i∧i≤1000000∧ -1000000≤j∧j≤1000000 then some (kH i (j - i).toNat,a.2)else none
 |_=>none
def rN(f:bv):pS:=fun E=>(f E).bind fun a=>(frz a.2 a.1).bind fun b=>match b.1 with
 |.list ds=>some (ds.reverse,b.2)
 |_=>none
section
variable {X:Cx} {tg e e2:Expr} {m:Bool} {f:bv} {g:pR} {p pos:Pos} {K:Frag} {B:Hp}
theorem p8{t t':TI}(h:PI X tg e t)(k:∀σ H Q,t' σ H Q→t σ H Q):PI X tg e t':=fun pins s σ H R I q=>h pins s σ H R I (k σ H R q)
theorem Ae{a:Addr}{vs:List V}{ds:List PyData}(h:SqL K B a vs)(r:RpA K B vs ds):vg K B (Ii K a) ds:=fun {B' F A σ H E xs Xs} i sB fr=>by
 have hH:=fr.fh.seq (fr.bf.seq (sB.seq h))
 refine⟨fun d ed=>?_,fun e=>⟨vs,hH,by rw[e,r.len];exact gi _⟩⟩
 obtain⟨v,ev,rv⟩:=r.get ed
 refine⟨⟨vs,v,hH,ev⟩,fun x H2 ⟨e2,y⟩=>?_⟩
 subst e2
 have:=y vs hH
 rw[ev]at this
 cases this
 exact⟨F,A,fr.push ⟨rfl,_,rfl,rv.same (sB.trans fr.bf)⟩⟩
theorem Co{a:Addr}{vs:List V}{ds:List PyData}(h:SqL K B a vs)(r:RpA K B vs ds):vg K B (J7 K a vs) ds.reverse:=fun {B' F A σ H E xs Xs} i sB fr=>by
 have hH:=fr.fh.seq (fr.bf.seq (sB.seq h))
 refine⟨fun d ed=>?_,fun e=>⟨hH,by rw[e,List.length_reverse,r.len]⟩⟩
 obtain⟨v,ev,rv⟩:=r.rev.get ed
 have hi:i < vs.length:=by
  have:=(Zbh.mp ev).1
  simpa using this
 refine⟨⟨hH,hi⟩,fun x H2 ⟨e2,y⟩=>?_⟩
 subst e2
 rw[ev]at y
 cases y
 exact⟨F,A,fr.push ⟨rfl,_,rfl,rv.same (sB.trans fr.bf)⟩⟩
theorem p9{lo:Int}{n:Nat}:vg K B (Ix lo n) (kH lo n):=fun {B' F A σ H E xs Xs} i sB fr=>by
 have hl:(kH lo n).length=n:=by simp[kH]
 refine⟨fun d ed=>?_,fun e=>?_⟩
 ·have hi:i < n:=by have:=(Zbh.mp ed).1;omega
  refine⟨hi,fun x H2 ⟨e2,y⟩=>?_⟩
  subst e2 y
  have:d=.int (lo+i):=by
   unfold kH at ed
   rw[mL,List.getElem?_range hi]at ed
   exact(Option.some.inj ed).symm
  subst this
  exact⟨F,A,fr.push ⟨rfl,_,rfl,.int _⟩⟩
 ·show n≤i
  omega
theorem w_ (hg:Gl X "reversed") (hm:X.mg "reversed"=none) (he:EX X e m f) (hs:starEach [e] X.env=[(false,eval e X.env)]:=by rfl):IX X tg (.Call (.Name "reversed" p) [e] [] pos) m (rN f):=p8 (G5 hg hm (cV he fY hs) hs) fun σ H R z=>by
 obtain⟨B,E,xs,Xs,ds,E',fr,cl,e,q⟩:=z
 obtain⟨⟨s,E1⟩,e1,e⟩:=Za.mp e
 obtain⟨⟨d,E2⟩,e2,e⟩:=Za.mp e
 refine⟨B,E,xs,Xs,s,E1,fr,cl,e1,fun v H1 ⟨F,A,fr1⟩=>?_⟩
 obtain⟨F2,A2,fr2⟩:=fr1.frz0 e2
 simp only at e
 split at e
 ·cases e
  obtain⟨v',A1,ev,rfl,w,ew,r⟩:=fr2.ext (k:=0) rfl
  cases ev;cases ew
  cases r with
  |lst h1 h2=>
   obtain⟨A3,fr3⟩:=fr2.pop
   exact⟨_,_,rfl,fr2.fh.seq h1,q F2 _ _ fr2.bf ⟨F2,A3,fr3.raise⟩ (Co h1 h2)⟩
 ·cases e
theorem lB (hg:Gl X "range") (hm:X.mg "range"=none) (ha:AX X [e] m g) (hs:starEach [e] X.env=[(false,eval e X.env)]:=by rfl):IX X tg (.Call (.Name "range" p) [e] [] pos) m (iN g):=p8 (zL hg hm ha hs) fun σ H R z=>by
 obtain⟨B,E,xs,Xs,ds,E',fr,cl,e,q⟩:=z
 obtain⟨⟨rs,E1⟩,e1,e⟩:=Za.mp e
 refine⟨B,E,xs,Xs,rs,E1,fr,cl,e1,fun vs H1 hl ⟨F,A,fr1⟩=>?_⟩
 simp only at e
 split at e
 ·rename_i j ld
  split at e
  ·rename_i hj
   cases e
   obtain⟨r,A',fr2⟩:=fr1.looks hl ld
   obtain⟨v,rfl,r'⟩:=r.one
   cases r'
   exact⟨j,rfl,by omega,by omega,q B _ _ (Same.refl _) ⟨F,A',fr2⟩ p9⟩
  ·cases e
 ·cases e
theorem nG (hg:Gl X "range") (hm:X.mg "range"=none) (ha:AX X [e,e2] m g) (hs:starEach [e,e2] X.env=[(false,eval e X.env),(false,eval e2 X.env)]:=by rfl) (hs2:starEach [e2] X.env=[(false,eval e2 X.env)]:=by rfl):IX X tg (.Call (.Name "range" p) [e,e2] [] pos) m (nE g):=p8 (zM hg hm ha hs hs2) fun σ H R z=>by
 obtain⟨B,E,xs,Xs,ds,E',fr,cl,e,q⟩:=z
 obtain⟨⟨rs,E1⟩,e1,e⟩:=Za.mp e
 refine⟨B,E,xs,Xs,rs,E1,fr,cl,e1,fun vs H1 hl ⟨F,A,fr1⟩=>?_⟩
 simp only at e
 split at e
 ·rename_i i j ld
  split at e
  ·rename_i hj
   cases e
   obtain⟨r,A',fr2⟩:=fr1.looks hl ld
   obtain⟨v,u,rfl,r1,r2⟩:=r.two
   cases r1;cases r2
   exact⟨i,j,rfl,by omega,q B _ _ (Same.refl _) ⟨F,A',fr2⟩ p9⟩
  ·cases e
 ·cases e
end
def aK(tg:gx)(body:cA):List PyData→cA
 |[],E=>some (E,.nx)
 |d::ds,E=>((tg d E).bind body).bind fun a=>match a.2 with
  |.nx=>aK tg body ds a.1
  |.ct=>aK tg body ds a.1
  |.bk=>some (a.1,.nx)
  |.rt r=>some (a.1,.rt r)
def b9(it:pS)(tg:gx)(body:cA):cA:=fun E=>(it E).bind fun a=>aK tg body a.1 a.2
theorem cq{X:Cx}{tg iter:Expr}{body:List Stmt}{m:Bool}{it:pS}{g:gx}{b:cA}{pos:Pos}(hp:PassesOwn (model X.prog X.w) X.A X.env X.xe)(hc:X.calm=true)(hi:IX X tg iter m it)(hg:GX X tg g)(hb:BY X body b)
  (hs:∀x,foldedSetIterable iter X.env x=pure x:=by intro _;rfl):SX X (.For tg iter body [] pos) (b9 it g b):=ju (BD hp hc hi hg hb hs) fun D σ H z=>by
 obtain⟨B,E,xs,Xs,E',fl,fr,cl,e,q⟩:=z
 obtain⟨⟨ds,E1⟩,e1,e⟩:=Za.mp e
 refine⟨B,E,xs,Xs,ds,E1,fr,fun _=>Calm.nil cl,e1,fun B' J H1 hB fr1 ok=>?_⟩
 refine⟨fun i mm σ' H'=>mm=ds.length - i∧i≤ds.length∧∃Ei,aK g b (ds.drop i) Ei=some (E',fl)∧Frm X.K B' σ' H' Ei xs Xs,⟨ds.length,by simp,Nat.zero_le _,E1,by simpa using e,fr1⟩,?_⟩
 rintro i mm σ' H' ⟨rfl,hi,Ei,ei,F,A,fri⟩
 obtain⟨go,stop⟩:=ok i (Same.refl _) fri
 by_cases hlt:i < ds.length
 ·obtain⟨d,ed⟩:∃d,ds[i]? =some d:=⟨ds[i],uH hlt⟩
  obtain⟨g1,yl⟩:=go d ed
  have edr:ds.drop i=d::ds.drop (i+1):=by
   rw[List.drop_eq_getElem_cons hlt]
   congr 1
   exact Option.some.inj ((uH hlt).symm.trans ed)
  rw[edr]at ei
  obtain⟨⟨E2,f2⟩,e2,ei⟩:=Za.mp ei
  obtain⟨E3,e3,e2⟩:=Za.mp e2
  refine .inr ⟨g1,fun σ2 H2=>∃Ej,aK g b (ds.drop (i+1)) Ej=some (E',fl)∧Frm X.K B' σ2 H2 Ej xs Xs,fun σ2 H2 ⟨Ej,ej,frj⟩=>⟨ds.length - (i+1),by omega,rfl,hlt,Ej,ej,frj⟩,fun x H2 y=>?_⟩
  refine⟨B',Ei,xs,Xs,d,E3,yl x H2 y,Still.nil cl,e3,fun σ3 H3 fr3=>?_⟩
  refine⟨B',E3,xs,Xs,E2,f2,fr3,cl,e2,?_⟩
  cases f2 with
  |nx=>exact fun σ4 H4 fr4=>⟨E2,ei,fr4⟩
  |ct=>exact fun σ4 H4 fr4=>⟨E2,ei,fr4⟩
  |bk=>cases ei;exact fun σ4 H4 fr4=>q _ _ (fr4.base hB)
  |rt r=>cases ei;exact fun σ4 v H4 fr4=>q _ _ _ (fr4.base hB)
 ·have e0:i=ds.length:=by omega
  refine .inl ⟨stop e0,?_⟩
  rw[e0,List.drop_length]at ei
  cases ei
  exact q _ _ (Frm.base ⟨F,A,fri⟩ hB)
def bg:Sl→Bool
 |.sh d=>de d
 |.ow ds=>aN ds
 |.tx ps=>ps.all fun p=>match p with |.fl d=>de d |.ol ds=>aN ds
 |.od kvs=>kvs.all fun p=>aN p.2
 |_=>false
def bi(n:Nat)(ds:List PyData):List Sl:=ds.map .sh++List.replicate (n - ds.length) .no
def bF(r:Sl):Option Sl:=if bg r then some r else match r with
 |.sh d=>some (.br d)
 |.ow ds=>some (.br (.list ds))
 |.tx ps=>some (.br (.tuple (ps.map Pt.val)))
 |.br d=>some (if de d then .sh d else .br d)
 |_=>none
def gH(n:Nat)(g:cA):List PyData→Option Sl:=fun ds=>(g (bi n ds)).bind fun a=>match a.2 with
 |.rt r=>bF r
 |.nx=>some (.sh .none)
 |_=>none
section
variable {K:Frag} {B F:Hp} {A:List Addr} {σ:nu} {H:Hp} {E:List Sl} {v:V} {r:Sl}
theorem DlOk.cold{F H:Hp}(sF:Same F H):∀{us:List (bM×V)} {kvs:List (bM×List PyData)} {A:List Addr},(∀p∈kvs,aN p.2=true)→DlOk K F H us kvs A→DlOk K (tups H) H us kvs A
 |[],[],A,_,h=>h
 |p::us,q::kvs,A,c,h=>by
  obtain⟨l,vs,A',rfl,rfl,hl,hr,k⟩:=h
  exact⟨l,vs,A',rfl,rfl,hl,(hr.same sF).cold (c q (gJ ..)),DlOk.cold sF (fun p hp=>c p (gq _ hp)) k⟩
 |[],_::_,_,_,h=>False.elim h
 |_::_,[],_,_,h=>False.elim h
theorem PtsOk.cold{F H G:Hp}(sF:Same F H)(tG:∀{v:V} {d:PyData},Rp K F v d→de d=true→Rp K G v d):∀{vs:List V} {ps:List Pt} {A:List Addr},(∀p∈ps,(match p with |.fl d=>de d |.ol ds=>aN ds)=true)→PtsOk K F H vs ps A→PtsOk K G H vs ps A
 |[],[],A,_,h=>h
 |v::vs,.fl d::ps,A,c,h=>⟨tG h.1 (c (.fl d) (gJ ..)),PtsOk.cold sF tG (fun p hp=>c p (gq _ hp)) h.2⟩
 |v::vs,.ol ds::ps,A,c,h=>by
  obtain⟨l,us,A',rfl,rfl,hl,hr,q⟩:=h
  refine⟨l,us,A',rfl,rfl,hl,?_,q.cold sF tG fun p hp=>c p (gq _ hp)⟩
  have cd:aN ds=true:=c (.ol ds) (gJ ..)
  have key:∀{us:List V} {ds:List PyData},RpA K F us ds→aN ds=true→RpA K G us ds:=fun {us ds} r c=>by
   induction us generalizing ds with
   |nil=>cases r;exact .nil
   |cons u us ih=>
    cases r with
    |cons r1 r2=>
     simp only[aN,wL]at c
     exact .cons (tG r1 c.1) (ih r2 c.2)
  exact key hr cd
 |[],_::_,_,_,h=>False.elim h
 |_::_,[],_,_,h=>False.elim h
theorem FrF.result(h:FrF K B F A σ H E [v] [r])(c:bg r=true):Same B H∧yF K B H v r:=by
 refine⟨h.bf.trans h.fh,?_⟩
 have nB:∀a,F a=none→B a=none:=fun a e=>h.bf.free e
 have cold:∀{v:V} {d:PyData},Rp K F v d→de d=true→Rp K (tups H) v d:=fun r f=>(r.same h.fh).cold f
 obtain⟨v',A1,ev,hs⟩:=h.ext (k:=0) rfl
 cases ev
 obtain⟨o,C0,C1,C2,eA,eo,hp,_⟩:=h.sl.at (k:=0) (s:=r) rfl
 cases eo
 have sub:∀a∈C1,F a=none:=fun a ha=>h.fr a (by rw[eA];simp[ha])
 have nd:C1.Nodup:=by
  have:=h.nd
  rw[eA]at this
  exact(Zav.mp (Zav.mp this).2.1).1
 cases r with
 |sh d=>obtain⟨_,w,ew,r⟩:=hp;cases ew;exact cold r c
 |ow ds=>
  obtain⟨l,vs,el,rfl,hl,r⟩:=hp
  cases el
  exact⟨l,vs,rfl,nB l (sub l (by simp)),hl,(r.same h.fh).cold c⟩
 |tx ps=>
  obtain⟨t,vs,et,ht,r⟩:=hp
  cases et
  exact⟨t,vs,C1,rfl,jW (h.fh _ _ ht) rfl,nd,fun a ha=>nB a (sub a ha),r.cold h.fh cold (by simpa[bg,List.all_eq_true]using c)⟩
 |no=>cases c
 |od kvs=>
  obtain⟨l,us,A',el,rfl,hl,r⟩:=hp
  cases el
  exact⟨l,us,A',rfl,nd,fun a ha=>nB a (sub a ha),hl,r.cold h.fh (by simpa[bg,List.all_eq_true]using c)⟩
 |al i=>cases c
 |br d=>cases c
theorem FrF.resultO{r':Sl}(h:FrF K B F A σ H E [v] [r])(c:bF r=some r'):Same B H∧yF K B H v r':=by
 unfold bF at c
 split at c
 ·rename_i hc
  cases c
  exact h.result hc
 ·refine⟨h.bf.trans h.fh,?_⟩
  cases r with
  |sh d=>cases c;exact(h.look0 (d:=d) rfl).1
  |ow ds=>cases c;exact(h.look0 (d:=.list ds) rfl).1
  |tx ps=>cases c;exact(h.look0 (d:=.tuple (ps.map Pt.val)) rfl).1
  |br d=>
   have r:=(h.look0 (d:=d) rfl).1
   simp only at c
   split at c
   ·rename_i hf
    cases c
    exact r.cold hf
   ·cases c
    exact r
  |no=>cases c
  |od kvs=>cases c
  |al i=>cases c
theorem tO{N:List Str}{vs:List V}{ds:List PyData}(r:RpA K H vs ds)(hn:ds.length≤N.length):FrF K H H [] (L2.jj N vs) H (bi N.length ds) [] []:=by
 refine⟨Same.refl _,Same.refl _,nz H,?_,List.nodup_nil,fun a ha=>(by cases ha),rfl,?_⟩
 ·have l:=r.len
  unfold L2.jj bi
  rw[l]
  generalize N.length - ds.length=k
  have base:∀τ:nu,SAll (SlOk K H H τ) (List.replicate k none) (List.replicate k .no) []:=fun τ=>by
   induction k with
   |zero=>exact .nil
   |succ k ih=>exact .cons (A:=[]) rfl ih
  have key:∀(τ:nu) {us:List V} {es:List PyData},RpA K H us es→SAll (SlOk K H H τ) (us.map some++List.replicate k none) (es.map .sh++List.replicate k .no) []:=fun τ us es r=>by
   induction us generalizing es with
   |nil=>cases r;exact base τ
   |cons u us ih=>
    cases r with
    |cons r1 r2=>exact .cons (A:=[]) ⟨rfl,_,rfl,r1⟩ (ih _ r2)
  exact key _ r
 ·intro s hs
  unfold bi at hs
  rcases Zaj.mp hs with hs |hs
  ·obtain⟨d,_,rfl⟩:=Zbc.mp hs
   rfl
  ·rw[(List.mem_replicate.mp hs).2]
   rfl
end
def fu(k n:Nat)(g:cA):List PyData→Option Sl:=fun ds=>if ds.length=k then gH n g ds else none
theorem fD{P:Program}{w:World}{K:Frag}{mg:Str→Option Value}{base:Heap}{x:Str}{st:Stmt}{N ps:List Str}{k a n:Nat}{g:cA}(D:Def K mg x st ps)(S:FnScope N ps (ao st))(hpa:ps.length=a)(hNn:N.length=n)(hps:a≤n)
  (hbody:∀(f:Addr) (cdv:Value) (A:Around) (outer:List Env) (s:Shared) (H:Hp) (E:XK),Room k (A.deeper (PyProof.Rows.envOfC x (ao st) s.heap.objs.size f cdv))→
   BY (qP zY P w K mg base N x (ao st) f cdv A outer s H E).nox (dm st) g):Own P w K mg base (k+1) x ps (dr K (fu a n g)):=by
 subst hpa hNn
 refine D.own S (fun vs H Q E h=>?_) (fun f cdv A outer s H vs Q E hr h=>?_)
 ·obtain⟨ds,r,e,rp,_⟩:=h
  unfold fu at e
  split at e
  ·rename_i hl
   rw[rp.len];exact hl
  ·cases e
 obtain⟨ds,r,e,rp,q⟩:=h
 unfold fu at e
 split at e
 ·rename_i hl
  refine⟨_,hbody f cdv A outer s H E hr,?_⟩
  obtain⟨⟨E',fl⟩,e1,e⟩:=Za.mp e
  refine⟨H,bi N.length ds,[],[],E',fl,⟨H,[],tO rp (by omega)⟩,rfl,e1,?_⟩
  cases fl with
  |nx=>
   cases e
   rintro σ' H' ⟨F',A',fr'⟩
   exact q _ _ (fr'.bf.trans fr'.fh) .non
  |bk=>cases e
  |ct=>cases e
  |rt r'=>
   rintro σ' v H' ⟨F',A',fr'⟩
   obtain⟨s1,s2⟩:=fr'.resultO e
   exact q v H' s1 s2
 ·cases e
theorem KD{P:Program}{w:World}{K:Frag}{mg:Str→Option Value}{base:Heap}{x:Str}{st:Stmt}{N ps:List Str}{k a n:Nat}{g:cA}{f0:Addr}{fd:FuncData}(D:Fun K x x st f0 fd)(S:FnScope N ps (ao st))(hpa:ps.length=a)(hNn:N.length=n)(hps:a≤n)
  (hbody:∀(cdv:Value) (A:Around) (outer:List Env) (s:Shared) (H:Hp) (E:XK),Room k (A.deeper (PyProof.Rows.envOfC x (ao st) s.heap.objs.size f0 cdv))→
   BY (qP zY P w K mg base N x (ao st) f0 cdv A outer s H E).nox (dm st) g):FnOk P w K mg base zY (k+1) f0 fd ps (dr K (fu a n g)):=by
 subst hpa hNn
 refine D.ok S (fun vs H Q E h=>?_) (fun cdv A outer s H vs Q E hr h=>?_)
 ·obtain⟨ds,r,e,rp,_⟩:=h
  unfold fu at e
  split at e
  ·rename_i hl
   rw[rp.len];exact hl
  ·cases e
 obtain⟨ds,r,e,rp,q⟩:=h
 unfold fu at e
 split at e
 ·rename_i hl
  refine⟨_,hbody cdv A outer s H E hr,?_⟩
  obtain⟨⟨E',fl⟩,e1,e⟩:=Za.mp e
  refine⟨H,bi N.length ds,[],[],E',fl,⟨H,[],tO rp (by omega)⟩,rfl,e1,?_⟩
  cases fl with
  |nx=>
   cases e
   rintro σ' H' ⟨F',A',fr'⟩
   exact q _ _ (fr'.bf.trans fr'.fh) .non
  |bk=>cases e
  |ct=>cases e
  |rt r'=>
   rintro σ' v H' ⟨F',A',fr'⟩
   obtain⟨s1,s2⟩:=fr'.resultO e
   exact q v H' s1 s2
 ·cases e
theorem rO{K:Frag}{H:Hp}:∀ns:List Int,RpA K H (ns.map V.int) (ns.map PyData.int)
 |[]=>.nil
 |n::ns=>.cons (.int n) (rO ns)
theorem Hj{K:Frag}{H:Hp}{a:Addr}{ns:List Int}{c:List PyData→Option Sl}(e:c [.list (ns.map .int)]=some (.sh (.bool true)))(h:SqL K H a (ns.map V.int)):dr K c [.ref a] H (fun v _=>v=.bl true) fun _ _ _=>False:=
 ⟨_,_,e,.cons (.lst h (rO ns)) .nil,fun v H' _ r=>by
  have r':Rp K (tups H') v (.bool true):=r
  cases r'
  rfl⟩
end PL
namespace PL
open PySem L2 Nh
def p_(E:List Sl):Option Nat→Sl
 |none=>.no
 |some j=>match (E[j]?).bind Sl.val with
  |some d=>.sh d
  |none=>.no
def jw(js:List (Option Nat))(E:List Sl):List Sl:=js.map (p_ E)
def di:jD:=fun E=>some (true,E)
def cX(tg:gx)(cond:jD)(elt:bv):List PyData→List Sl→Option (List PyData)
 |[],_=>some []
 |d::ds,E=>(tg d E).bind fun E1=>(cond E1).bind fun b=>if b.1 then (elt b.2).bind fun c=>(frz c.2 c.1).bind fun e=>(cX tg cond elt ds e.2).map fun r=>e.1::r else cX tg cond elt ds b.2
def cf(js:List (Option Nat))(it:pS)(tg:gx)(cond:jD)(elt:bv):bv:=fun E=>(it E).bind fun a=>(cX tg cond elt a.1 (jw js a.2)).bind fun ds=>if aN ds&&decide (ds.length≤1000000)then some (.ow ds,a.2)else none
section
variable {X:Cx} {elt target iter:Expr} {ifs:List Expr} {scope sc:Scope} {cl:List (Str×Addr)} {N:List Str} {pos:Pos} {js:List (Option Nat)} {K:Frag}
theorem Cp{B F:Hp}{A:List Addr}{σ:nu}{H:Hp}{E:List Sl}{xs:List V}{Xs:List Sl}(fr:FrF K B F A σ H E xs Xs)(js:List (Option Nat)):FrF K H H [] (slots js σ) H (jw js E) [] []:=by
 refine⟨Same.refl _,Same.refl _,nz H,?_,List.nodup_nil,fun a ha=>(by cases ha),rfl,fun s hs=>?_⟩
 ·have key:∀(τ:nu) (ks:List (Option Nat)),SAll (SlOk K H H τ) (slots ks σ) (jw ks E) []:=fun τ ks=>by
   induction ks with
   |nil=>exact .nil
   |cons j ks ih=>
    refine .cons (A:=[]) ?_ ih
    cases j with
    |none=>exact rfl
    |some j=>
     show SlOk K H H τ _ (match (E[j]?).bind Sl.val with |some d=>.sh d |none=>.no) []
     cases ej:E[j]? with
     |none=>exact rfl
     |some s=>
      cases ev:s.val with
      |none=>simp only[Z0,ev];exact rfl
      |some d=>
       simp only[Z0,ev]
       obtain⟨o,A1,eo,hs⟩:=fr.var ej
       obtain⟨v,rfl,r,_⟩:=hs.val fr.fh ev
       refine⟨rfl,v,?_,r⟩
       show(σ[j]?).join=some v
       rw[eo]
       rfl
  exact key _ js
 ·obtain⟨j,_,rfl⟩:=Zbc.mp hs
  cases j with
  |none=>rfl
  |some j=>
   simp only[p_]
   split <;> rfl
theorem Af{m2 m3:Bool}{tg:gx}{cond:jD}{el:bv}{tt:TT}(htt:∀σ H Q,rt K m2 cond σ H Q→tt σ H Q){B B' F:Hp}{A:List Addr}{σ:nu}{H1:Hp}{E1:List Sl}{xs:List V}{Xs:List Sl}{ds rs:List PyData}{J:It}{Q:VK}
  (fr1:FrF K B F A σ H1 E1 xs Xs) (B2:Same B' H1) (ok:vg K B' J ds) (e2:cX tg cond el ds (jw js E1)=some rs) (hc:aN rs=true∧rs.length≤1000000) (q:∀v H',Frm K B σ H' E1 (v::xs) (.ow rs::Xs)→Q v H') (l:Addr) (hl:H1 l=none):
  ∃W:Nat→Nat→nu→Hp→Prop,(∃m,W 0 m (slots js σ) (upd H1 l (.lst [])))∧
 ∀i m σ' H',W i m σ' H'→(J.stop i H'∧Q (.ref l) H')∨(J.go i H'∧∃N:nu→Hp→Prop,(∀σ' H',N σ' H'→∃m',m' < m∧W (i+1) m' σ' H')∧∀x H2,J.yld i H' x H2→rg K tg x σ' H2 fun σ3 H3=>tt σ3 H3 fun b H4=>
  if b=true then rd K m3 el σ3 H4 fun y H5=>∃ys,H5 l=some (.lst ys)∧ys.length < sizeLine∧N σ3 (upd H5 l (.lst (ys++[y])))else N σ3 H4):=by
 have fr0:=(Cp fr1 js).newl (ds:=[]) .nil hl
 refine⟨fun i mm σ' H'=>mm=ds.length - i∧i≤ds.length∧∃Ei acc aX,cX tg cond el (ds.drop i) Ei=some aX∧rs=acc++aX∧Frm K H1 σ' H' Ei [.ref l] [.ow acc],⟨ds.length,by simp,Nat.zero_le _,_,[],rs,by simpa using e2,rfl,⟨_,_,fr0⟩⟩,?_⟩
 rintro i mm σ' H' ⟨rfl,hi,Ei,acc,aX,ei,er,F',A',fri⟩
 obtain⟨go,stop⟩:=ok i B2 fri
 by_cases hlt:i < ds.length
 ·obtain⟨d,ed⟩:∃d,ds[i]? =some d:=⟨ds[i],uH hlt⟩
  obtain⟨g1,yl⟩:=go d ed
  have edr:ds.drop i=d::ds.drop (i+1):=by
   rw[List.drop_eq_getElem_cons hlt]
   congr 1
   exact Option.some.inj ((uH hlt).symm.trans ed)
  rw[edr]at ei
  obtain⟨E3,e3,ei⟩:=Za.mp ei
  obtain⟨⟨b,E4⟩,e4,ei⟩:=Za.mp ei
  refine .inr ⟨g1,fun σ2 H2=>∃Ej acc aX,cX tg cond el (ds.drop (i+1)) Ej=some aX∧rs=acc++aX∧Frm K H1 σ2 H2 Ej [.ref l] [.ow acc],fun σ2 H2 ⟨Ej,ac,rt,ej,er,frj⟩=>⟨ds.length - (i+1),by omega,rfl,hlt,Ej,ac,rt,ej,er,frj⟩,fun x H2 y=>?_⟩
  have clm:Calm [Sl.ow acc]:=Calm.cons (fun s hs=>absurd hs (by simp)) rfl
  refine⟨H1,Ei,[.ref l],[.ow acc],d,E3,yl x H2 y,(fun s hs=>by rw[Zag.mp hs];rfl),e3,fun σ3 H3 fr3=>htt _ _ _ ?_⟩
  refine⟨H1,E3,[.ref l],[.ow acc],b,E4,fr3,fun _=>clm,e4,fun H4 fr4=>?_⟩
  cases b with
  |false=>
   rw[if_neg (by decide)]
   exact⟨E4,acc,aX,ei,er,fr4⟩
  |true=>
   rw[if_pos rfl]
   obtain⟨⟨s5,E5⟩,e5,ei⟩:=Za.mp ei
   obtain⟨⟨d6,E6⟩,e6,ei⟩:=Za.mp ei
   obtain⟨rest',e7,ei⟩:=Zaf.mp ei
   subst ei
   refine⟨H1,E4,[.ref l],[.ow acc],s5,E5,fr4,fun _=>clm,e5,fun y5 H5 ⟨F5,A5,fr5⟩=>?_⟩
   obtain⟨F6,A6,fr6⟩:=fr5.frz0 e6
   obtain⟨v',C1,ev,rfl,w,ew,ry⟩:=fr6.ext (k:=0) rfl
   cases ev;cases ew
   obtain⟨A7,fr7⟩:=fr6.pop
   -- the list under way is the one part that owns
   obtain⟨bf,fh,tf,sl,nd,frn,len,pl⟩:=fr7
   generalize hT:List.map some [V.ref l]++σ3=T at sl
   generalize hS:[Sl.ow acc]++E6=S at sl
   cases sl with
   |nil=>cases hS
   |cons q0 r0=>
    injection hT with h1 hT
    injection hS with h2 hS
    subst h1 h2 hT hS
    obtain⟨l',us,el,rfl,hl5,ru⟩:=q0
    cases el
    have lu:=ru.len
    refine⟨us,hl5,small (by rw[er]at hc;simp at hc;omega),E6,acc++[d6],rest',e7,by rw[er];simp,F6,_,bf,fun b o qb=>?_,?_,.cons (A:=[l]) ⟨l,us++[y5],rfl,rfl,aS,ru.snoc ry⟩ (r0.mono fun o s C hs hC qq=>qq.stay (Same.refl _) (fun b hb=>aG fun z=>?_) fun z=>?_),nd,frn,rfl,pl⟩
    ·have lF:F6 l=none:=frn l (by simp)
     rw[aG (fun z=>by rw[z,lF]at qb;cases qb)]
     exact fh _ _ qb
    ·rw[mN hl5];exact tf
    ·have:=hC b hb
     rw[z]at this
     exact(Zbm.mp nd).1 this
    ·have:=pl s hs
     cases s <;> simp[Sl.isAl,Sl.isBr]at this z
 ·have e0:i=ds.length:=by omega
  refine .inl ⟨stop e0,?_⟩
  rw[e0,List.drop_length]at ei
  cases ei
  rw[List.append_nil]at er
  subst er
  obtain⟨g1,g2⟩:=fri.result hc.1
  exact q _ _ (fr1.told g1 g2)
theorem yH{m m2 m3:Bool}{it:pS}{tg:gx}{cond:jD}{el:bv}{tt:TT}(htt:∀σ H Q,rt K m2 cond σ H Q→tt σ H Q){σ:nu}{H:Hp}{Q:VK}(z:rd K m (cf js it tg cond el) σ H Q):BT js (ri K m it) (rg K tg) tt (rd K m3 el) σ H Q:=by
 obtain⟨B,E,xs,Xs,res,E',fr,cl,e,q⟩:=z
 obtain⟨⟨ds,E1⟩,e1,e⟩:=Za.mp e
 obtain⟨rs,e2,e⟩:=Za.mp e
 simp only at e
 split at e
 ·rename_i hc
  cases e
  simp only[wL,decide_eq_true_eq]at hc
  exact⟨B,E,xs,Xs,ds,_,fr,cl,e1,fun B' J H1 hB ⟨F,A,fr1⟩ ok l hl=>Af htt (fr1.base hB) (fr1.bf.trans fr1.fh) ok e2 hc q l hl⟩
 ·cases e
theorem h9{m m3:Bool}{it:pS}{tg:gx}{el:bv}(C:CompOk X scope sc cl N js)(hc:X.calm=true)(hi:IX X target iter m it)(hg:∀C s₀ H₀ fp,GX (X.comp sc cl N C s₀ H₀ fp) target tg)(he:∀C s₀ H₀ fp,EX (X.comp sc cl N C s₀ H₀ fp) elt m3 el)
  (hs:∀x,foldedSetIterable iter X.env x=pure x:=by intro _;rfl):EX X (.ListComp elt [⟨target,iter,[],0⟩] scope pos) m (cf js it tg di el):=
 cn (yp (g:=rg X.K tg) (te:=rd X.K m3 el) C hc hi hg (fun _ _ _ _=>Eu) he hs) fun σ H Q z=>yH (m2:=false) (fun σ H Q z=>by
  obtain⟨B,E,xs,Xs,b,E',fr,cl,e,q⟩:=z
  cases e
  exact q _ fr) z
theorem kK{c:Expr}{m m2 m3:Bool}{it:pS}{tg:gx}{cond:jD}{el:bv}(C:CompOk X scope sc cl N js)(hc:X.calm=true)(hi:IX X target iter m it)(hg:∀C s₀ H₀ fp,GX (X.comp sc cl N C s₀ H₀ fp) target tg)(ht:∀C s₀ H₀ fp,TX (X.comp sc cl N C s₀ H₀ fp) c m2 cond)(he:∀C s₀ H₀ fp,EX (X.comp sc cl N C s₀ H₀ fp) elt m3 el)
  (hs:∀x,foldedSetIterable iter X.env x=pure x:=by intro _;rfl):EX X (.ListComp elt [⟨target,iter,[c],0⟩] scope pos) m (cf js it tg cond el):=
 cn (yp (g:=rg X.K tg) (te:=rd X.K m3 el) (tt:=rt X.K m2 cond) C hc hi hg (fun _ _ _ _=>Ev (ht _ _ _ _)) he hs) fun σ H Q z=>yH (m2:=m2) (fun _ _ _ z=>z) z
end
end PL
namespace PL
open PySem L2 Nh
def keyOf:PyData→Option bM
 |.int i=>some (.inl i)
 |.str x=>some (.inr x)
 |_=>none
theorem tP{d:PyData}{k:bM}(h:keyOf d=some k):d=G8 k:=by
 cases d <;> simp[keyOf]at h <;> subst h <;> rfl
def keysOf:List (PyData×PyData)→Option (List bM)
 |[]=>some []
 |p::r=>(keyOf p.1).bind fun k=>(keysOf r).map fun ks=>k::ks
section
variable {X:Cx} {K:Frag} {B F:Hp} {σ:nu} {H:Hp} {E:List Sl} {xs:List V} {Xs:List Sl}
theorem FrF.newd{p:Addr}{A:List Addr}(h:FrF K B F A σ H E xs Xs)(hp:H p=none):FrF K B F (p::A) σ (upd H p (.dK [])) E (.ref p::xs) (.od []::Xs):=by
 have g:Same H (upd H p (.dK [])):=hZ hp _
 have nA:=h.newA hp
 refine⟨h.bf,h.fh.trans g,fun b o e=>?_,.cons (A:=[p]) ⟨p,[],[],rfl,rfl,aS,rfl⟩ (h.sl.mono fun o s C _ hC q=>q.stay (Same.refl _) (fun b hb=>aG fun z=>nA (z▸hC b hb)) fun _=>g),Zbm.mpr ⟨nA,h.nd⟩,fun a ha=>?_,by simp[h.len],h.pl⟩
 ·obtain⟨e1,e2⟩:=Zbo.mp e
  by_cases hb:b=p
  ·subst hb;rw[aS]at e1;cases e1;cases e2
  ·rw[aG hb]at e1;exact h.tf b o (jW e1 e2)
 ·rcases Zal.mp ha with z |z
  ·subst z;exact h.fh.free hp
  ·exact h.fr a z
theorem xa{v:V}{k:bM}(h:Rp K H v (G8 k)):v=kV k:=by
 cases k with
 |inl i=>cases h;rfl
 |inr x=>cases h;rfl
end
end PL
namespace PL
open PySem L2 Nh
theorem f8{α:Type}(xs:List α)(k:Nat):atI xs (k:Int)=xs[k]? :=by
 unfold atI zU
 rw[if_pos (by omega)]
 split
 ·simp
 ·rw[List.getElem?_eq_none (by omega)];rfl
theorem kz{α:Type}(a:α)(l:List α):atI (a::l) 0=some a:=f8 (a::l) 0
theorem qa{α:Type}(a b:α)(l:List α):atI (a::b::l) 1=some b:=f8 (a::b::l) 1
theorem gy{α:Type}(l:List α)(a:α):atI (l++[a]) (-1)=some a:=by
 unfold atI zU
 rw[if_neg (by omega),if_pos (by simp;omega)]
 have e:(-1+(((l++[a]).length:Nat):Int)).toNat=l.length:=by simp;omega
 rw[e]
 simp
theorem tQ{α:Type}{xs:List α}{i:Int}(h:0≤i):atI xs i=xs[i.toNat]? :=by
 have e:i=((i.toNat:Nat):Int):=by omega
 rw[e,f8,Int.toNat_natCast]
theorem lC{α:Type}(l:List α)(a:α):(l++[a])[(l++[a]).length - 1]? =some a:=by simp
theorem pA{α:Type}(l:List α)(a:α):(l++[a]).isEmpty=false:=by cases l <;> rfl
theorem mQ:∀(a b:List PyData),aN (a++b)=(aN a&&aN b)
 |[],b=>by simp[aN]
 |x::a,b=>by simp[aN,mQ a b,Bool.and_assoc]
theorem rP:∀{a:List PyData},(∀d∈a,de d=true)→aN a=true
 |[],_=>rfl
 |x::a,h=>by simp[aN,h x (gJ ..),rP fun d hd=>h d (gq _ hd)]
theorem rQ{α:Type}{f:α→PyData}(h:∀a,de (f a)=true)(l:List α):aN (l.map f)=true:=rP fun d hd=>by
 obtain⟨a,_,rfl⟩:=Zbc.mp hd
 exact h a
theorem j5(p:Pc):de (av p)=true:=rfl
theorem fE(c:List Pc):aN (c.map av)=true:=rQ j5 c
theorem rR(l:List Int):aN (l.map PyData.int)=true:=rQ (fun _=>rfl) l
def cutL{α:Type}(l:List α)(lo hi:Option Int):List α:=(l.drop (HT.pO l.length 0 lo)).take (HT.pO l.length l.length hi - HT.pO l.length 0 lo)
theorem kM{α:Type}(f:α→PyData)(l:List α)(lo hi:Option Int):z_ (l.map f) lo hi=(cutL l lo hi).map f:=by
 unfold z_ cutL
 rw[fw,List.map_take,List.map_drop]
theorem kN{α:Type}(l:List α)(lo hi:Option Int):(cutL l lo hi).length≤l.length:=by
 unfold cutL
 rw[List.length_take,List.length_drop]
 omega
theorem nH{α:Type}(l:List α){m:Int}(h:0≤m):((cutL l none (some m)).length:Int)≤m:=by
 unfold cutL
 have e:m=((m.toNat:Nat):Int):=by omega
 have z:HT.pO l.length l.length (some m)≤m.toNat:=by
  rw[e,HT.Ek,Int.toNat_natCast]
  exact Nat.min_le_left _ _
 rw[List.length_take,List.length_drop]
 omega
theorem qc{α:Type}{l:List α}{lo hi:Option Int}{x:α}(h:x∈cutL l lo hi):x∈l:=List.mem_of_mem_drop (List.mem_of_mem_take h)
theorem gS(lo:Int)(n:Nat):kH lo (n+1)=.int lo::kH (lo+1) n:=by
 unfold kH
 rw[List.range_succ_eq_map,bE,List.map_map]
 simp only[Int.natCast_zero,Int.add_zero]
 congr 1
 refine List.map_congr_left fun k _=>?_
 show PyData.int (lo+((k+1:Nat):Int))=PyData.int (lo+1+(k:Int))
 congr 1
 omega
end PL
namespace L2
open PySem PySem.Spec PyProof.Rows
def JF(x:Str):It:=⟨fun i _=>i < x.cps.toList.length,fun i H v H'=>H'=H∧∃c,x.cps.toList[i]? =some c∧v=.str ⟨#[c]⟩,fun i _=>i=x.cps.toList.length⟩
theorem Cq {P:Program} {w:World} {K:Frag} {tg:Expr} {it:Addr} {T:String} {x:Str} {t:Tok} (hT:T="str_ascii_iterator"∨T="str_iterator"):Turn P w K tg (JF x) [it] it (fun i h=>h.IsStrIter it T x t i) where
 mem:=by simp
 obj:=fun i h st b hb=>by
  have e:b=it:=by simpa using hb
  subst e
  obtain⟨o,e,c,d⟩:=st
  exact⟨o,e,fun v z=>by rw[d]at z;cases z⟩
 keep:=fun i h h' st k=>let ⟨o,ho,r⟩:=st;⟨o,k it (by simp) o ho,r⟩
 item:=by
  intro X hP hw hK hc i pins s σ H E I hf st hg
  subst hP hw hK
  obtain⟨f0,f1,f2,f3,f4,f5⟩:=hf it (by simp)
  have hi:i < x.cps.toList.length:=hg
  have hx:x.cps[i]? =some (x.cps.toList[i]'hi):=by simp at hi;simp[hi]
  have fin:∀(h':Heap),h'.IsStrIter it T x t (i+1)→Heap.SameBut it s.heap h'→∃u,some (Value.str ⟨#[x.cps.toList[i]'hi]⟩ s.toks)=some u∧
    wpAny (model X.prog X.w) X.A (letOwnedTupleGo tg (.ref it) u) (fun _ s2=>∃v H',Inv X pins σ H' s2∧RelV v u∧(JF x).yld i H v H'∧s2.heap.IsStrIter it T x t (i+1)∧∀b∈[it],H' b=none) E {s with heap:=h',toks:=s.toks+1}:=fun h' st' sb=>by
   have I1:Inv X pins σ H {s with heap:=h',toks:=s.toks+1}:=I.turned (t':=s.toks+1) (fun b o hb e=>(sb.2 b hb).trans e) f0 f1 f3 f4 f5
   obtain⟨o,e,c,d⟩:=id st'
   exact⟨_,rfl,rB (s:={s with heap:=h',toks:=s.toks+1}) e c d (by rcases hT with rfl |rfl <;> decide) ⟨.str ⟨#[x.cps.toList[i]'hi]⟩,H,I1,⟨_,rfl⟩,⟨rfl,_,uH hi,rfl⟩,st',fun b hb=>(hf b hb).1⟩⟩
  rcases hT with rfl |rfl
  ·exact wpAny_pyNext_ascii_item st hx fun h' st' sb=>fin h' st' sb
  ·exact wpAny_pyNext_wide_item st hx fun h' st' sb=>fin h' st' sb
 done:=by
  intro X hP hw hK hc i pins s σ H E I hf st hg
  subst hP hw hK
  obtain⟨f0,f1,f2,f3,f4,f5⟩:=hf it (by simp)
  have hi:i=x.cps.toList.length:=hg
  have hx:x.cps[i]? =none:=by simp at hi;simp[hi]
  rcases hT with rfl |rfl
  ·exact wpAny_pyNext_ascii_end (I.ok.hd hc) st hx fun h' eb=>⟨rfl,I.turned (t':=s.toks) (fun b o hb e=>eb b o hb e) f0 f1 f3 f4 f5⟩
  ·exact wpAny_pyNext_wide_end (I.ok.hd hc) st hx fun h' eb=>⟨rfl,I.turned (t':=s.toks) (fun b o hb e=>eb b o hb e) f0 f1 f3 f4 f5⟩
 self:=fun _ _ _ _ _ st h=>by
  rcases hT with rfl |rfl
  ·exact wpAny_pyIter_striter_ascii st h
  ·exact wpAny_pyIter_striter_wide st h
def Ke(tl:TE):TI:=fun σ H R=>tl σ H fun v H1=>∃x,v=.str x∧R (JF x) H1
theorem Hk{X:Cx}{tg l:Expr}{tl:TE}(hl:PE X l tl):PI X tg l (Ke tl):=by
 intro pins s σ H R I h
 refine fc (hl pins s σ H _ I h) fun v s1 ⟨y,H1,I1,r1,q1⟩=>?_
 obtain⟨x,e,q⟩:=q1
 subst e
 obtain⟨t,rfl⟩:=r1
 refine wpAny_pyIter_strU ?_
 refine⟨s1.heap.objs.size,[s1.heap.objs.size],fun i h=>h.IsStrIter s1.heap.objs.size (strIterType x) x t i,_,H1,rfl,I1.kept (t':=s1.toks) fun b o e=>iB _ e,Cq (t:=t) ?_,⟨_,l_ _ rfl,rfl,rfl⟩,fun b hb=>?_,q⟩
 ·unfold strIterType
  split
  ·exact .inl rfl
  ·exact .inr rfl
 ·have e:b=s1.heap.objs.size:=by simpa using hb
  subst e
  exact I1.fpOk (gi _) (I1.hok.fresh (gi _))
theorem PI.or{X:Cx}{tg l:Expr}{a b:TI}(h1:PI X tg l a)(h2:PI X tg l b):PI X tg l (fun σ H R=>a σ H R∨b σ H R):=by
 intro pins s σ H R I h
 rcases h with h |h
 ·exact h1 pins s σ H R I h
 ·exact h2 pins s σ H R I h
end L2
namespace PL
open PySem L2 Nh
def iO(x:Str):List PyData:=x.cps.toList.map fun c=>.str ⟨#[c]⟩
def aM(f:bv):pS:=fun E=>(f E).bind fun a=>(frz a.2 a.1).bind fun b=>match b.1 with
 |.list ds=>some (ds,b.2)
 |.tuple ds=>some (ds,b.2)
 |.str x=>some (iO x,b.2)
 |_=>none
section
variable {X:Cx} {K:Frag} {B:Hp}
theorem Cr{x:Str}:vg K B (JF x) (iO x):=fun {B' F A σ H E xs Xs} i sB fr=>by
 refine⟨fun d ed=>?_,fun e=>by show i=x.cps.toList.length;rw[e];simp[iO]⟩
 unfold iO at ed
 rw[mL]at ed
 obtain⟨c,ec,rfl⟩:=Zaf.mp ed
 refine⟨(Zbh.mp ec).1,fun z H2 ⟨e1,c',e2,e3⟩=>?_⟩
 rw[ec]at e2;cases e2
 subst e1 e3
 exact⟨F,A,fr.push ⟨rfl,_,rfl,.str _⟩⟩
theorem Cs{a:Addr}{vs:List V}{ds:List PyData}(h:SqT K B a vs)(r:RpA K B vs ds):vg K B (JR K a) ds:=fun {B' F A σ H E xs Xs} i sB fr=>by
 have hH:=fr.fh.tup (fr.bf.tup (sB.tup h))
 refine⟨fun d ed=>?_,fun e=>⟨vs,hH,by rw[e,r.len];exact gi _⟩⟩
 obtain⟨v,ev,rv⟩:=r.get ed
 refine⟨⟨vs,v,hH,ev⟩,fun x H2 ⟨e2,y⟩=>?_⟩
 subst e2
 have:=y vs hH
 rw[ev]at this
 cases this
 exact⟨F,A,fr.push ⟨rfl,_,rfl,rv.same (sB.trans fr.bf)⟩⟩
theorem bX{tg e:Expr}{m:Bool}{f:bv}(he:EX X e m f):IX X tg e m (aM f):=p8 (PI.or (yf he) (PI.or (GK he) (Hk he))) fun σ H R z=>by
 obtain⟨B,E,xs,Xs,ds,E',fr,cl,e,q⟩:=z
 obtain⟨⟨s,E1⟩,e1,e⟩:=Za.mp e
 obtain⟨⟨d,E2⟩,e2,e⟩:=Za.mp e
 have key:∀(v:V) (H1:Hp),Frm X.K B σ H1 E1 (v::xs) (s::Xs)→∃F2 A2 A3,Rp X.K F2 v d∧Same B F2∧FrF X.K F2 F2 A3 σ H1 E2 xs Xs∧FrF X.K B F2 A2 σ H1 E2 (v::xs) (.sh d::Xs):=fun v H1 ⟨F,A,fr1⟩=>by
  obtain⟨F2,A2,fr2⟩:=fr1.frz0 e2
  obtain⟨v',A1,ev,rfl,w,ew,r⟩:=fr2.ext (k:=0) rfl
  cases ev;cases ew
  obtain⟨A3,fr3⟩:=fr2.pop
  exact⟨F2,A2,A3,r,fr2.bf,fr3.raise,fr2⟩
 simp only at e
 split at e
 ·cases e
  refine .inl ⟨B,E,xs,Xs,s,E1,fr,cl,e1,fun v H1 fr1=>?_⟩
  obtain⟨F2,A2,A3,r,sb,fr3,fr2⟩:=key v H1 fr1
  cases r with
  |lst h1 h2=>exact⟨_,rfl,⟨_,fr2.fh.seq h1⟩,q F2 _ _ sb ⟨F2,A3,fr3⟩ (Ae h1 h2)⟩
 ·cases e
  refine .inr (.inl ⟨B,E,xs,Xs,s,E1,fr,cl,e1,fun v H1 fr1=>?_⟩)
  obtain⟨F2,A2,A3,r,sb,fr3,fr2⟩:=key v H1 fr1
  cases r with
  |tup h1 h2=>exact⟨_,rfl,⟨_,fr2.fh.tup h1⟩,q F2 _ _ sb ⟨F2,A3,fr3⟩ (Cs h1 h2)⟩
 ·cases e
  refine .inr (.inr ⟨B,E,xs,Xs,s,E1,fr,cl,e1,fun v H1 fr1=>?_⟩)
  obtain⟨F2,A2,A3,r,sb,fr3,fr2⟩:=key v H1 fr1
  cases r
  exact⟨_,rfl,q F2 _ _ sb ⟨F2,A3,fr3⟩ Cr⟩
 ·cases e
end
def eC(c:jD)(g:cA):Nat→cA
 | 0,_=>none
 |n+1,E=>(c E).bind fun a=>if a.1 then (g a.2).bind fun b=>(match b.2 with
   |.nx=>eC c g n b.1
   |.ct=>eC c g n b.1
   |.bk=>some (b.1,.nx)
   |.rt r=>some (b.1,.rt r))else some (a.2,.nx)
open Classical in
def nI(c:jD)(g:cA):cA:=fun E=>if h:∃n r,eC c g n E=some r then some h.choose_spec.choose else none
theorem j6(c:jD)(g:cA):∀{n:Nat} {E:List Sl} {r:List Sl×Fl},eC c g n E=some r→eC c g (n+1) E=some r
 |n+1,E,r,h=>by
  obtain⟨a,e1,h⟩:=Za.mp h
  rw[eC,e1,Option.bind_some]
  cases ha:a.1 with
  |false=>rw[ha]at h;exact h
  |true=>
   rw[ha]at h
   obtain⟨b,e2,h⟩:=Za.mp h
   rw[if_pos rfl,e2,Option.bind_some]
   cases hb:b.2 with
   |nx=>rw[hb]at h;exact j6 c g h
   |ct=>rw[hb]at h;exact j6 c g h
   |bk=>rw[hb]at h;exact h
   |rt r=>rw[hb]at h;exact h
theorem qd(c:jD)(g:cA){n m:Nat}{E:List Sl}{r:List Sl×Fl}(h:eC c g n E=some r)(hl:n≤m):eC c g m E=some r:=by
 induction hl with
 |refl=>exact h
 |step _ ih=>exact j6 c g ih
theorem Ag{c:jD}{g:cA}{n:Nat}{E:List Sl}{r:List Sl×Fl}(h:eC c g n E=some r):nI c g E=some r:=by
 have ex:∃n r,eC c g n E=some r:=⟨n,r,h⟩
 unfold nI
 rw[dif_pos ex]
 have e:=ex.choose_spec.choose_spec
 have a:=qd c g e (Nat.le_max_left ex.choose n)
 have b:=qd c g h (Nat.le_max_right ex.choose n)
 rw[a]at b
 exact b
theorem Ct{X:Cx}{c:Expr}{body:List Stmt}{m:Bool}{t:jD}{b:cA}{pos:Pos}(hp:PassesOwn (model X.prog X.w) X.A X.env X.xe)(hc:TX X c m t)(hb:BY X body b):SX X (.While c body [] pos) (nI t b):=ju (BB hp hc hb) fun D σ H z=>by
 obtain⟨B,E,xs,Xs,E',fl,fr,cl,e,q⟩:=z
 unfold nI at e
 split at e
 ·rename_i ex
  have e0:=ex.choose_spec.choose_spec
  rw[Option.some.inj e]at e0
  refine⟨fun n σ' H'=>∃E1,eC t b n E1=some (E',fl)∧Frm X.K B σ' H' E1 xs Xs,⟨_,E,e0,fr⟩,?_⟩
  rintro n σ' H' ⟨E1,e1,fr1⟩
  cases n with
  |zero=>cases e1
  |succ n=>
   obtain⟨⟨b1,E2⟩,e2,e1⟩:=Za.mp e1
   refine⟨B,E1,xs,Xs,b1,E2,fr1,fun _=>Calm.nil cl,e2,fun H2 fr2=>?_⟩
   cases b1 with
   |false=>
    cases e1
    exact(if_neg (by decide)).mpr (q _ _ fr2)
   |true=>
    refine(if_pos rfl).mpr ?_
    obtain⟨⟨E3,f3⟩,e3,e1⟩:=Za.mp e1
    refine⟨fun σ4 H4=>∃E1,eC t b n E1=some (E',fl)∧Frm X.K B σ4 H4 E1 xs Xs,fun σ4 H4 z=>⟨n,Nat.lt_succ_self _,z⟩,B,E2,xs,Xs,E3,f3,fr2,cl,e3,?_⟩
    cases f3 with
    |nx=>exact fun σ4 H4 fr4=>⟨E3,e1,fr4⟩
    |ct=>exact fun σ4 H4 fr4=>⟨E3,e1,fr4⟩
    |bk=>cases e1;exact fun σ4 H4 fr4=>q _ _ fr4
    |rt r=>cases e1;exact fun σ4 v H4 fr4=>q _ _ _ fr4
 ·cases e
end PL
namespace PL
open PySem L2 Nh
inductive Cm where
 |lt |le |gt |ge
def Cm.op:Cm→CmpOp
 |.lt=> .Lt
 |.le=> .LtE
 |.gt=> .Gt
 |.ge=> .GtE
def Cm.i:Cm→Int→Int→Bool
 |.lt,i,j=>decide (i < j)
 |.le,i,j=>decide (i≤j)
 |.gt,i,j=>decide (j < i)
 |.ge,i,j=>decide (j≤i)
def Cm.s:Cm→List Nat→List Nat→Bool
 |.lt,i,j=>decide (i < j)
 |.le,i,j=> !decide (j < i)
 |.gt,i,j=>decide (j < i)
 |.ge,i,j=> !decide (i < j)
def dZ(c:Cm):PyData→PyData→Option PyData
 |.int i,.int j=>some (.bool (c.i i j))
 |.str x,.str y=>some (.bool (c.s x.cps.toList y.cps.toList))
 |_,_=>none
def Kt(c:Cm):R2:=fun x y H Q=>(∃i j,x=.int i∧y=.int j∧Q (.bl (c.i i j)) H)∨(∃i j,x=.str i∧y=.str j∧Q (.bl (c.s i.cps.toList j.cps.toList)) H)
section
variable {X:Cx} {a b c:Expr} {m1 m2 m3:Bool} {f g h:bv} {pos:Pos} {K:Frag}
theorem vh(c:Cm):OpR X (compareOp c.op) (Kt c):=by
 cases c with
 |lt=>exact OpR.or IE zO
 |le=>exact OpR.or IF (fun pins s σ H x y v u Q I rx ry h=>by
   obtain⟨i,j,rfl,rfl,q⟩:=h
   obtain⟨t,rfl⟩:=rx
   obtain⟨t',rfl⟩:=ry
   exact PySem.P.le_str (a9 I q rfl))
 |gt=>exact OpR.or IG (fun pins s σ H x y v u Q I rx ry h=>by
   obtain⟨i,j,rfl,rfl,q⟩:=h
   obtain⟨t,rfl⟩:=rx
   obtain⟨t',rfl⟩:=ry
   exact PySem.P.gt_str (a9 I q rfl))
 |ge=>exact OpR.or IH (fun pins s σ H x y v u Q I rx ry h=>by
   obtain⟨i,j,rfl,rfl,q⟩:=h
   obtain⟨t,rfl⟩:=rx
   obtain⟨t',rfl⟩:=ry
   exact PySem.P.ge_str (a9 I q rfl))
theorem vi(c:Cm):u9 K (Kt c) (dZ c):=fun d1 d2 d v1 v2 H Q e r1 r2=>by
 unfold dZ at e
 split at e
 ·cases e;cases r1;cases r2
  exact⟨_,rfl,fun q=>.inl ⟨_,_,rfl,rfl,q⟩⟩
 ·cases e;cases r1;cases r2
  exact⟨_,rfl,fun q=>.inr ⟨_,_,rfl,rfl,q⟩⟩
 ·cases e
theorem Ah(c:Cm)(b:Expr):behindInMarks c.op b=false:=by cases c <;> exact sW _
theorem qe(c:Cm)(ha:EX X a m1 f)(hb:EX X b m2 g):TX X (.Compare a [c.op] [b] pos) (m1||m2) (dh (ae (eu (dZ c)) m2 f g)):=pW (vh c) (mf (vi c)) ha hb (Ah c b)
theorem IW(c1 c2:Cm)(ha:EX X a m1 f)(hb:EX X b m2 g)(hc:EX X c m3 h)(hm:lastMarks [c1.op,c2.op] [b,c]=false:=by with_unfolding_all rfl):EX X (.Compare a [c1.op,c2.op] [b,c] pos) (m1||(m2||m3)) (fZ (dZ c1) (dZ c2) m2 m3 f g h):=B_ (vh c1) (vh c2) (vi c1) (vi c2) ha hb hc hm
theorem F_(c1 c2:Cm)(ha:EX X a m1 f)(hb:EX X b m2 g)(hc:EX X c m3 h)(hm:lastMarks [c1.op,c2.op] [b,c]=false:=by with_unfolding_all rfl):TX X (.Compare a [c1.op,c2.op] [b,c] pos) (m1||(m2||m3)) (dh (fZ (dZ c1) (dZ c2) m2 m3 f g h)):=Cc (vh c1) (vh c2) (vi c1) (vi c2) ha hb hc hm
def xb:P2:=eu (lz (fun _ _=>true) fun i j=>.int (Builtin.bitAnd i j))
theorem yI(ha:EX X a m1 f)(hb:EX X b m2 g):EX X (.BinOp a .BitAnd b pos) (m1||m2) (ae xb m2 f g):=pV (r:=Ew (fun _ _=>true) fun i j=>.int (Builtin.bitAnd i j)) (OpR.imp GS fun x y H Q ⟨i,j,a,b,_,q⟩=>⟨i,j,a,b,q⟩) (pX fun _ _=>rfl) ha hb
def isInt:PyData→Option Int
 |.int x=>some x
 |_=>none
def iq:List PyData→Option (List Str)
 |[]=>some []
 |.str x::ds=>(iq ds).map fun xs=>x::xs
 |_::_=>none
def tR:List PyData→Option (List Int)
 |[]=>some []
 |.int x::ds=>(tR ds).map fun xs=>x::xs
 |_::_=>none
theorem jF:∀{ds:List PyData} {xs:List Str},iq ds=some xs→ds=xs.map .str
 |[],xs,h=>by cases h;rfl
 |d::ds,xs,h=>by
  cases d with
  |str x=>
   obtain⟨ys,e,rfl⟩:=Zaf.mp h
   rw[jF e];rfl
  |_=>cases h
theorem nJ:∀{ds:List PyData} {xs:List Int},tR ds=some xs→ds=xs.map .int
 |[],xs,h=>by cases h;rfl
 |d::ds,xs,h=>by
  cases d with
  |int x=>
   obtain⟨ys,e,rfl⟩:=Zaf.mp h
   rw[nJ e];rfl
  |_=>cases h
theorem kO{H:Hp}:∀{vs:List V} {xs:List Str},RpA K H vs (xs.map .str)→vs=xs.map .str
 |[],[],_=>rfl
 |v::vs,x::xs,.cons h r=>by cases h;rw[kO r];rfl
theorem qf{H:Hp}:∀{vs:List V} {xs:List Int},RpA K H vs (xs.map .int)→vs=xs.map .int
 |[],[],_=>rfl
 |v::vs,x::xs,.cons h r=>by cases h;rw[qf r];rfl
def EH:PyData→PyData→Option Bool
 |.str x,.str y=>some (!(Builtin.Str.occurrences y x 0 y.length 1).isEmpty)
 |.str x,.list ds=>(iq ds).map fun xs=>xs.contains x
 |.str x,.tuple ds=>(iq ds).map fun xs=>xs.contains x
 |.int x,.list ds=>(tR ds).map fun xs=>xs.contains x
 |.int x,.tuple ds=>(tR ds).map fun xs=>xs.contains x
 |_,_=>none
def Hl(K:Frag)(neg:Bool):R2:=fun x y H Q=>(∃i j,x=.str i∧y=.str j∧Q (.bl (if neg then !(!(Builtin.Str.occurrences j i 0 j.length 1).isEmpty)else !(Builtin.Str.occurrences j i 0 j.length 1).isEmpty)) H)∨J0 K neg x y H Q
theorem vj(x:Str)(xs:List Str):Ij (.str x) (xs.map .str)=xs.contains x:=by
 induction xs with
 |nil=>rfl
 |cons y xs ih=>
  rw[List.contains_cons,←ih]
  show(D3 (.str y) (.str x)||Ij (.str x) (xs.map .str))=_
  congr 1
  show(y == x)=(x == y)
  exact BEq.comm
theorem vk(x:Int)(xs:List Int):Ij (.int x) (xs.map .int)=xs.contains x:=by
 induction xs with
 |nil=>rfl
 |cons y xs ih=>
  rw[List.contains_cons,←ih]
  show(D3 (.int y) (.int x)||Ij (.int x) (xs.map .int))=_
  congr 1
  show(y == x)=(x == y)
  exact BEq.comm
theorem xc(neg:Bool):u9 K (Hl K neg) (fun d1 d2=>(EH d1 d2).map fun b=>.bool (if neg then !b else b)):=fun d1 d2 d v1 v2 H Q e r1 r2=>by
 obtain⟨b,e',rfl⟩:=Zaf.mp e
 clear e
 have e:=e'
 clear e'
 refine⟨_,rfl,fun q=>?_⟩
 have hs:∀xs:List Str,(xs.map V.str).all ku=true:=fun xs=>by simp[List.all_eq_true,ku]
 have hi:∀xs:List Int,(xs.map V.int).all ku=true:=fun xs=>by simp[List.all_eq_true,ku]
 unfold EH at e
 split at e
 ·cases e;cases r1;cases r2
  exact .inl ⟨_,_,rfl,rfl,q⟩
 ·obtain⟨xs,ex,rfl⟩:=Zaf.mp e
  cases r1
  cases r2 with
  |lst h1 h2=>
   rw[jF ex]at h2
   rw[kO h2]at h1
   exact .inr ⟨_,_,rfl,.inl h1,rfl,hs _,by rw[vj];exact q⟩
 ·obtain⟨xs,ex,rfl⟩:=Zaf.mp e
  cases r1
  cases r2 with
  |tup h1 h2=>
   rw[jF ex]at h2
   rw[kO h2]at h1
   exact .inr ⟨_,_,rfl,.inr h1,rfl,hs _,by rw[vj];exact q⟩
 ·obtain⟨xs,ex,rfl⟩:=Zaf.mp e
  cases r1
  cases r2 with
  |lst h1 h2=>
   rw[nJ ex]at h2
   rw[qf h2]at h1
   exact .inr ⟨_,_,rfl,.inl h1,rfl,hi _,by rw[vk];exact q⟩
 ·obtain⟨xs,ex,rfl⟩:=Zaf.mp e
  cases r1
  cases r2 with
  |tup h1 h2=>
   rw[nJ ex]at h2
   rw[qf h2]at h1
   exact .inr ⟨_,_,rfl,.inr h1,rfl,hi _,by rw[vk];exact q⟩
 ·cases e
def yJ(neg:Bool):P2:=eu fun d1 d2=>(EH d1 d2).map fun b=>.bool (if neg then !b else b)
theorem Cu:OpR X (compareOp .In) (Hl X.K false):=OpR.or zP zV
theorem Ai:OpR X (compareOp .NotIn) (Hl X.K true):=OpR.or tj s_
theorem IZ(ha:EX X a m1 f)(hb:EX X b m2 g)(hm:behindInMarks .In b=false:=by with_unfolding_all rfl):EX X (.Compare a [.In] [b] pos) (m1||m2) (ae (yJ false) m2 f g):=B4 Cu (mf (xc false)) ha hb hm
theorem Ga(ha:EX X a m1 f)(hb:EX X b m2 g)(hm:behindInMarks .In b=false:=by with_unfolding_all rfl):TX X (.Compare a [.In] [b] pos) (m1||m2) (dh (ae (yJ false) m2 f g)):=pW Cu (mf (xc false)) ha hb hm
theorem Hm(ha:EX X a m1 f)(hb:EX X b m2 g)(hm:behindInMarks .NotIn b=false:=by with_unfolding_all rfl):TX X (.Compare a [.NotIn] [b] pos) (m1||m2) (dh (ae (yJ true) m2 f g)):=pW Ai (mf (xc true)) ha hb hm
end
def Aj:List PyData→Option PyData
 |[.int i]=>some (.int i)
 |[.bool b]=>some (.int (if b then 1 else 0))
 |_=>none
def rS(x:Str):PyData→Option PyData
 |.list ds=>(iq ds).bind fun ys=>if (ys.map (·.length)).sum+ys.length*x.length≤1000000 then some (.str (Txt.join x ys))else none
 |.tuple ds=>(iq ds).bind fun ys=>if (ys.map (·.length)).sum+ys.length*x.length≤1000000 then some (.str (Txt.join x ys))else none
 |_=>none
theorem rT{ys:List Str}:∀{us:List Value},Vals (ys.map V.str) us→PyProof.Rows.StrsAre us ys:=by
 induction ys with
 |nil=>intro us h;cases h;exact .nil
 |cons y ys ih=>
  intro us h
  cases h with
  |cons h r=>
   obtain⟨t,rfl⟩:=h
   exact .cons y t (ih r)
def I0(K:Frag):V→List V→Hp→VK→Prop:=fun x vs H Q=>∃z p ys,x=.str z∧vs=[.ref p]∧(SqL K H p (ys.map .str)∨SqT K H p (ys.map .str))∧(ys.map (·.length)).sum+ys.length*z.length≤16777216∧Q (.str (Txt.join z ys)) H
theorem EI{X:Cx}:MtR X "str.join" (I0 X.K):=by
 intro pins s σ H x vs v us Q I rx rv h
 obtain⟨z,p,ys,rfl,rfl,hq,hl,q⟩:=h
 obtain⟨t,rfl⟩:=rx
 obtain⟨u,rfl,ru⟩:=rv.one
 cases ru
 rcases hq with hq |hq
 ·obtain⟨its,r,pl,_⟩:=I.list hq
  exact PyProof.Rows.join_list pl.isList (by simpa using rT r) hl fun t' k=>⟨.str _,H,I.tok _,⟨_,rfl⟩,q⟩
 ·obtain⟨its,r,pl,_⟩:=I.tuple hq
  exact PyProof.Rows.join_tuple pl (by simpa using rT r) hl fun t' k=>⟨.str _,H,I.tok _,⟨_,rfl⟩,q⟩
section
variable {X:Cx} {e o:Expr} {m1 m2:Bool} {g:pR} {f h:bv} {p pos apos cpos:Pos} {K:Frag}
theorem EJ (hg:Gl X "int") (hm:X.mg "int"=none) (ha:AX X [e] m1 g) (he:starEach [e] X.env=[(false,eval e X.env)]:=by rfl):EX X (.Call (.Name "int" p) [e] [] pos) m1 (bx Aj g):=
 cn (nv zQ hg hm PyProof.Rows.boot_int ha (by decide) (by decide) he rfl) fun _ _ _ z=>Cj (fun ds d vs H Q e r=>by
  unfold Aj at e
  split at e
  ·cases e
   obtain⟨v,rfl,r'⟩:=r.one
   cases r'
   exact⟨_,rfl,fun q=>.inl ⟨_,rfl,q⟩⟩
  ·cases e
   obtain⟨v,rfl,r'⟩:=r.one
   cases r'
   exact⟨_,rfl,fun q=>.inr ⟨_,rfl,q⟩⟩
  ·cases e) z
def jG(x:Str)(f:bv):bv:=jh (rS x) f
theorem pB {x:Str} {j:Nat} {sp:Pos} (he:EX X e m1 f) (hs:starEach [e] X.env=[(false,eval e X.env)]:=by rfl) (hbase:attributeBase (.Constant (.str x) j sp) "join" X.env (eval (.Constant (.str x) j sp) X.env)=eval (.Constant (.str x) j sp) X.env:=by rfl)
  (hfew:((backTo cpos (starEach [e] X.env)).all (fun x=> !x.1)&&(backToKw cpos (keywordEach [] X.env)).all (fun x=>x.1.isSome)
   &&decide (([e]:List Expr).length+([]:List Keyword).length+(if ([]:List Keyword).isEmpty then 0 else 1) < 30))=true:=by rfl) (hline:(apos.endLine == cpos.line)=true:=by rfl):
  EX X (.Call (.Attribute (.Constant (.str x) j sp) "join" apos) [e] [] cpos) m1 (jG x f):=by
 refine cn (u0 PySem.F.plainAttrs_str PySem.F.slot_str_join PySem.F.type_str_join EI (Bv) (cV he fY hs) hbase hfew hline hs rfl) fun σ H Q z=>?_
 obtain⟨B,E,xs,Xs,res,E',fr,c,e,q⟩:=z
 obtain⟨⟨s1,E1⟩,e1,e⟩:=Za.mp e
 obtain⟨d1,e2,e⟩:=Za.mp e
 obtain⟨d,e3,e⟩:=Zaf.mp e
 cases e
 refine⟨rfl,B,E,xs,Xs,s1,E1,fr,c,e1,fun v1 H1 ⟨F,A,fr1⟩=>?_⟩
 have r:=(fr1.look0 e2).1
 obtain⟨A',fr2⟩:=fr1.pop
 unfold rS at e3
 split at e3
 ·obtain⟨ys,ey,e3⟩:=Za.mp e3
  split at e3
  ·rename_i hl
   cases e3
   cases r with
   |lst h1 h2=>
    rw[jF ey]at h2
    rw[kO h2]at h1
    exact⟨x,_,ys,rfl,rfl,.inl h1,by omega,q _ _ ⟨F,A',fr2.push ⟨rfl,_,rfl,.str _⟩⟩⟩
  ·cases e3
 ·obtain⟨ys,ey,e3⟩:=Za.mp e3
  split at e3
  ·rename_i hl
   cases e3
   cases r with
   |tup h1 h2=>
    rw[jF ey]at h2
    rw[kO h2]at h1
    exact⟨x,_,ys,rfl,rfl,.inr h1,by omega,q _ _ ⟨F,A',fr2.push ⟨rfl,_,rfl,.str _⟩⟩⟩
  ·cases e3
 ·cases e3
end
theorem qg{X:Cx}{st:Stmt}:SX X st (fun _=>none):=ju Bx fun D σ H z=>by
 obtain⟨B,E,xs,Xs,E',fl,fr,cl,e,q⟩:=z
 cases e
def xg:cA:=fun _=>none
end PL
namespace PL
open PySem L2 Nh
theorem Hn{X:Cx}:SlR X (fun x lo hi H Q=>∃z,x=.str z∧z.length≤sizeLine∧Q (.str (Txt.slice z lo hi)) H):=by
 intro pins s σ H x v vl vu lo hi sl Q I rx hs pl pu h
 obtain⟨z,rfl,hz,q⟩:=h
 obtain⟨t,rfl⟩:=rx
 cases pl with
 |none=>
  cases pu with
  |none=>exact⟨"str",_,PySem.F.slot_str_getitem.lookup,typeIs_str _ _ _,wpAny_getItem_str_slice (l:=none) (u:=none) (st:=none) hs rfl (post_val_or_str ⟨jn (Txt.slice_le z _ _) hz,fun t' k=>⟨.str _,H,I.tok _,⟨_,rfl⟩,q⟩⟩)⟩
  |int j uj=>exact⟨"str",_,PySem.F.slot_str_getitem.lookup,typeIs_str _ _ _,wpAny_getItem_str_slice (l:=none) (u:=some (j,uj)) (st:=none) hs rfl (post_val_or_str ⟨jn (Txt.slice_le z _ _) hz,fun t' k=>⟨.str _,H,I.tok _,⟨_,rfl⟩,q⟩⟩)⟩
 |int i ui=>
  cases pu with
  |none=>exact⟨"str",_,PySem.F.slot_str_getitem.lookup,typeIs_str _ _ _,wpAny_getItem_str_slice (l:=some (i,ui)) (u:=none) (st:=none) hs rfl (post_val_or_str ⟨jn (Txt.slice_le z _ _) hz,fun t' k=>⟨.str _,H,I.tok _,⟨_,rfl⟩,q⟩⟩)⟩
  |int j uj=>exact⟨"str",_,PySem.F.slot_str_getitem.lookup,typeIs_str _ _ _,wpAny_getItem_str_slice (l:=some (i,ui)) (u:=some (j,uj)) (st:=none) hs rfl (post_val_or_str ⟨jn (Txt.slice_le z _ _) hz,fun t' k=>⟨.str _,H,I.tok _,⟨_,rfl⟩,q⟩⟩)⟩
def nK(m2:Bool)(f:bv)(lo hi:Hf):bv:=fun E=>(f E).bind fun a=>if m2&&a.1.isBr then none else (lo a.2).bind fun b=>(hi b.2).bind fun c=>match look c.2 a.1 with
 |some (.list ds)=>if !e8 c.2 a.1||aN (z_ ds b.1 c.1)then some (.ow (z_ ds b.1 c.1),c.2)else none
 |some (.str z)=>if z.length≤1000000 then some (.sh (.str (Txt.slice z b.1 c.1)),c.2)else none
 |_=>none
theorem nM{X:Cx}{e:Expr}{lo hi:Option Expr}{m1 m2 m3:Bool}{f:bv}{g h:Hf}{pos p2:Pos}(he:EX X e m1 f)(hl:OX X lo m2 g)(hh:OX X hi m3 h):EX X (.Subscript e (.Slice lo hi none p2) pos) (m1||(m2||m3)) (nK (m2||m3) f g h):=by
 refine cn (BN (SlR.or Eo Hn) he hl hh) fun σ H Q z=>?_
 obtain⟨B,E,xs,Xs,res,E',fr,cl,e,q⟩:=z
 obtain⟨⟨s,E1⟩,e1,e⟩:=Za.mp e
 by_cases hb:((m2||m3)&&s.isBr)=true
 ·rw[if_pos hb]at e;cases e
 rw[if_neg hb]at e
 have n1:(m2||m3)=true→s.isBr=false:=fun z=>by
  cases hs:s.isBr with
  |false=>rfl
  |true=>exact absurd (by rw[z,hs];rfl) hb
 obtain⟨⟨l,E2⟩,e2,e⟩:=Za.mp e
 obtain⟨⟨u,E3⟩,e3,e⟩:=Za.mp e
 refine⟨B,E,xs,Xs,s,E1,fr,fun z=>cl (by simp[z]),e1,fun v1 H1 fr1=>?_⟩
 refine⟨B,E1,v1::xs,s::Xs,l,E2,fr1,fun z=>Calm.cons (cl (by simp[z])) (n1 (by simp[z])),e2,fun H2 fr2=>?_⟩
 refine⟨B,E2,v1::xs,s::Xs,u,E3,fr2,fun z=>Calm.cons (cl (by simp[z])) (n1 (by simp[z])),e3,fun H3 ⟨F,A,fr3⟩=>?_⟩
 simp only at e
 split at e
 ·rename_i ds ld
  split at e
  ·rename_i hc
   cases e
   obtain⟨v,ev,r,f0⟩:=fr3.look (k:=0) rfl ld
   cases ev
   obtain⟨A',fr4⟩:=fr3.pop
   cases hh:e8 E' s with
   |false=>
    obtain⟨a,vs,rfl,h1,h2⟩:=f0 hh
    exact .inl ⟨a,vs,rfl,h1,fun p hp=>q _ _ ⟨F,_,fr4.newl (h2.cut l u) hp⟩⟩
   |true=>
    rw[hh]at hc
    cases r with
    |lst h1 h2=>exact .inl ⟨_,_,rfl,h1,fun p hp=>q _ _ ⟨F,_,fr4.newl (fr3.coldA (h2.cut l u) (by simpa using hc)) hp⟩⟩
  ·cases e
 ·rename_i z ld
  split at e
  ·rename_i hc
   cases e
   have r:=(fr3.look0 ld).1
   cases r
   obtain⟨A',fr4⟩:=fr3.pop
   exact .inr ⟨_,rfl,jv hc,q _ _ ⟨F,A',fr4.push ⟨rfl,_,rfl,.str _⟩⟩⟩
  ·cases e
 ·cases e
section
variable {K:Frag} {B F:Hp} {A:List Addr} {σ:nu} {H H':Hp} {E:List Sl} {xs:List V} {Xs:List Sl}
theorem FrF.mutGrow{i:Nat}{ds ds':List PyData}{l:Addr}{us us':List V}(h:FrF K B F A σ H E xs Xs)(e:E[i]? =some (.ow ds))(c:Calm Xs)(el:σ[i]? =some (some (.ref l)))(hl:H l=some (.lst us))(sb:SameBut l H H')(hl':H' l=some (.lst us'))(r:RpA K (tups H') us' ds'):
  ∃F',FrF K B F' A σ H' (E.set i (.ow ds')) xs Xs:=by
 have g:Same H (upd H' l (.lst us)):=fun b o q=>by
  by_cases eb:b=l
  ·subst eb;rw[aS,←hl];exact q
  ·rw[aG eb];exact sb b o eb q
 have h1:=h.grow g
 obtain⟨l1,us1,el1,hl1,r1,put⟩:=h1.mut e c
 rw[el]at el1
 cases el1
 have r2:RpA K _ us' ds':=RpA.same h1.tf (by rw[mN hl'];exact r)
 have h2:=put us' ds' r2
 have eH:upd (upd H' l (.lst us)) l (.lst us')=H':=by
  rw[D6]
  funext b
  by_cases eb:b=l
  ·subst eb;rw[aS,hl']
  ·rw[aG eb]
 rw[eH]at h2
 exact⟨_,h2⟩
end
def vm(scope:Scope)(env:Env):List (Str×Addr):=((scope.names.filter fun p=>p.2 ==.free).map fun p=>(p.1,(env.cells.lookup p.1).getD 0)).reverse
theorem iP{X:Cx}{scope:Scope}{N:List Str}{js:List (Option Nat)}(clos:closureFor scope X.env=pure (vm scope X.env):=by rfl)(nocell:∀y∈scope.names,y.2≠ .cell:=by decide+kernel)(kind:scope.kind=.function:=by rfl)
  (names:∀y∈scope.names,y.2=.local→scope.names.lookup y.1=some .local:=by decide+kernel) (same:(scope.names.filter fun p=>p.2 ==.free).all (fun p=>(X.env.cells.lookup p.1).isSome)=true:=by rfl)
  (has:(relabel scope X.env).names.all (fun y=> !(y.2 ==.cell||y.2 ==.free)||((vm scope X.env).lookup y.1).isSome)=true:=by rfl) (len:js.length=N.length:=by rfl)
  (fr:(js.zip N).all (fun p=>match p.1 with |none=>true |some j=>X.N[j]? == some p.2&&((relabel scope X.env).names.lookup p.2 == some .cell||(relabel scope X.env).names.lookup p.2 == some .free)&&(X.env.kindOf p.2 == some .cell||X.env.kindOf p.2 == some .free))=true:=by rfl):
  CompOk X scope (relabel scope X.env) (vm scope X.env) N js where
 clos:=clos
 rel:=rfl
 nocell:=nocell
 kind:=kind
 names:=names
 same:=fun x c e=>by
  have hm:=PySem.mem_of_lookup e
  unfold vm at hm
  obtain⟨p,hp,ep⟩:=Zbc.mp (List.mem_reverse.mp hm)
  have:=List.all_eq_true.mp same _ hp
  obtain⟨c',ec⟩:=Option.isSome_iff_exists.mp this
  injection ep with e1 e2
  subst e1
  rw[ec]at e2 ⊢
  exact congrArg some e2
 has:=fun x h=>by
  have key:∀k,(relabel scope X.env).names.lookup x=some k→(k == NameKind.cell||k == NameKind.free)=true→∃c,(vm scope X.env).lookup x=some c:=fun k h hk=>by
   have:=List.all_eq_true.mp has _ (PySem.mem_of_lookup h)
   simp only[hk,Bool.not_true,Bool.false_or]at this
   exact Option.isSome_iff_exists.mp this
  rcases h with h |h
  ·exact key _ h rfl
  ·exact key _ h rfl
 len:=len
 from_:=fun i j h=>by
  have hi:i < js.length:=(Zbh.mp h).1
  obtain⟨x,ex⟩:∃x,N[i]? =some x:=⟨N[i]'(by omega),uH (by omega)⟩
  have hz:(js.zip N)[i]? =some (some j,x):=by rw[List.getElem?_zip_eq_some];exact⟨h,ex⟩
  have:=List.all_eq_true.mp fr _ (List.mem_of_getElem? hz)
  simp only[wL,Bool.or_eq_true,beq_iff_eq]at this
  exact⟨x,ex,this.1.1,this.1.2,this.2⟩
structure Bn (mg:Str→Option Value):Prop where
 len:mg "len"=none
 range:mg "range"=none
 abs:mg "abs"=none
 min:mg "min"=none
 max:mg "max"=none
 reversed:mg "reversed"=none
 enumerate:mg "enumerate"=none
 isinstance:mg "isinstance"=none
 list:mg "list"=none
 tuple:mg "tuple"=none
 str:mg "str"=none
 int:mg "int"=none
 bool:mg "bool"=none
 sorted:mg "sorted"=none
 zip:mg "zip"=none
 sum:mg "sum"=none
 any:mg "any"=none
 all:mg "all"=none
 set:mg "set"=none
 dict:mg "dict"=none
theorem I_{K:Frag}{h:Heap}{mg:Str→Option Value}(X:K.In h)(G:h.Ns mainGlobals mg)
  (z1:nsIn K mainGlobals "len"=some none) (z2:nsIn K mainGlobals "range"=some none) (z3:nsIn K mainGlobals "abs"=some none) (z4:nsIn K mainGlobals "min"=some none) (z5:nsIn K mainGlobals "max"=some none) (z6:nsIn K mainGlobals "reversed"=some none) (z7:nsIn K mainGlobals "enumerate"=some none) (z8:nsIn K mainGlobals "isinstance"=some none) (z9:nsIn K mainGlobals "list"=some none) (z10:nsIn K mainGlobals "tuple"=some none) (z11:nsIn K mainGlobals "str"=some none) (z12:nsIn K mainGlobals "int"=some none) (z13:nsIn K mainGlobals "bool"=some none) (z14:nsIn K mainGlobals "sorted"=some none) (z15:nsIn K mainGlobals "zip"=some none) (z16:nsIn K mainGlobals "sum"=some none) (z17:nsIn K mainGlobals "any"=some none) (z18:nsIn K mainGlobals "all"=some none) (z19:nsIn K mainGlobals "set"=some none) (z20:nsIn K mainGlobals "dict"=some none):Bn mg:=
 ⟨mg_none_of X G z1,mg_none_of X G z2,mg_none_of X G z3,mg_none_of X G z4,mg_none_of X G z5,mg_none_of X G z6,mg_none_of X G z7,mg_none_of X G z8,mg_none_of X G z9,mg_none_of X G z10,mg_none_of X G z11,mg_none_of X G z12,mg_none_of X G z13,mg_none_of X G z14,mg_none_of X G z15,mg_none_of X G z16,mg_none_of X G z17,mg_none_of X G z18,mg_none_of X G z19,mg_none_of X G z20⟩
end PL
namespace PL
open PySem PySem.Spec L2 Nh PyProof.Rows
def JG(lo c:Int)(n:Nat):It:=⟨fun i _=>i < n,fun i H x H'=>H'=H∧x=.int (lo+i*c),fun i _=>n≤i⟩
theorem vn{P:Program}{w:World}{K:Frag}{tg:Expr}(it:Addr)(lo c:Int)(n:Nat):Turn P w K tg (JG lo c n) [it] it (fun i h=>IsRangeIter h it (lo+(i:Nat)*c) ((n:Int) - (i:Nat)) c) where
 mem:=by simp
 obj:=fun i h st b hb=>by
  have e:b=it:=by simpa using hb
  subst e
  exact⟨_,st,fun v z=>by
   have z':Data.fields _=Data.cell v:=z
   cases z'⟩
 keep:=fun i h h' st k=>k it (by simp) _ st
 item:=by
  intro X hP hw hK hc i pins s σ H E I hf st hg
  subst hP hw hK
  obtain⟨f0,f1,f2,f3,f4,f5⟩:=hf it (by simp)
  have W:=Walks.range (prog:=X.prog) (w:=X.w) (I.ok.hd hc) it lo c n
  refine W.item i s _ _ hg st fun v h' tk hv st' kk=>?_
  obtain⟨t,rfl⟩:=hv
  have I1:Inv X pins σ H {s with heap:=h',toks:=tk}:=I.turned (fun b o hb e=>kk b o (by simpa using hb) e) f0 f1 f3 f4 f5
  exact⟨_,rfl,rB (s:={s with heap:=h',toks:=tk}) (n:="range_iterator") st' rfl rfl (by decide) ⟨.int (lo+i*c),H,I1,⟨t,rfl⟩,⟨rfl,rfl⟩,st',fun b hb=>(hf b hb).1⟩⟩
 done:=by
  intro X hP hw hK hc i pins s σ H E I hf st hg
  subst hP hw hK
  obtain⟨f0,f1,f2,f3,f4,f5⟩:=hf it (by simp)
  exact wpAny_pyNext_range_end (I.ok.hd hc) st (by have:n≤i:=hg;omega) fun h' eb=>⟨rfl,I.turned (t':=s.toks) (fun b o hb e=>eb b o hb e) f0 f1 f3 f4 f5⟩
 self:=fun _ _ _ _ _ st h=>wpAny_pyIter_rangeiter st h
def qR(a b c:Int):Nat:=(Builtin.Range.rangeSize a b c).toNat
def qO(i:Int):Prop:= -1000000≤i∧i≤1000000
instance (i:Int):Decidable (qO i):=inferInstanceAs (Decidable (_∧_))
theorem yK{a b c:Int}(ha:qO a)(hb:qO b)(hc:qO c)(h0:c≠0):0≤Builtin.Range.rangeSize a b c∧Builtin.Range.rangeSize a b c≤2000000:=by
 unfold qO at ha hb hc
 unfold Builtin.Range.rangeSize
 split
 ·split
  ·have h1:0≤(b - a - 1) / c:=Int.ediv_nonneg (by omega) (by omega)
   have h2:(b - a - 1) / c≤b - a - 1:=Int.ediv_le_self _ (by omega)
   omega
  ·omega
 ·split
  ·have h1:0≤(a - b - 1) / (-c):=Int.ediv_nonneg (by omega) (by omega)
   have h2:(a - b - 1) / (-c)≤a - b - 1:=Int.ediv_le_self _ (by omega)
   omega
  ·omega
theorem fits{i:Int}(h: -10000000≤i∧i≤10000000):Builtin.Range.rangeFitsLong i=true:=by
 unfold Builtin.Range.rangeFitsLong
 simp only[wL,decide_eq_true_eq]
 omega
theorem Cv{a b c:Int}(ha:qO a)(hb:qO b)(hc:qO c)(h0:c≠0):Builtin.Range.small a b c=true:=by
 obtain⟨s1,s2⟩:=yK ha hb hc h0
 unfold qO at ha hb hc
 unfold Builtin.Range.small
 rw[fits (i:=a) (by omega),fits (i:=b) (by omega),fits (i:=c) (by omega),fits (i:=Builtin.Range.rangeSize a b c) (by omega)]
 split
 ·rw[fits (by omega)];simp
 ·rw[fits (by omega)];simp
def qS(a c:Int)(n:Nat):List PyData:=(List.range n).map fun(k:Nat)=>.int (a+(k:Int)*c)
def Ja(ta:TA):TI:=fun σ H R=>ta σ H fun vs H1=>∃a b c:Int,vs=[.int a,.int b,.int c]∧(qO a∧qO b∧qO c∧c≠0)∧R (JG a c (qR a b c)) H1
section
variable {X:Cx} {tg:Expr}
theorem Ak{pins:List (Addr×Obj)}{σ:L2.St}{H:Hp}{s:Shared}{R:It→Hp→Prop}{E:Value→Shared→Prop}{lo hi c:Int}{t u v:Tok}{tk:Nat}(I:Inv X pins σ H s)(ha:qO lo)(hb:qO hi)(hc:qO c)(h0:c≠0)
  (q:R (JG lo c (qR lo hi c)) H):wpAny (model X.prog X.w) X.A (pyIter (.ref s.heap.objs.size)) (JQ X pins σ tg R) E {s with heap:=s.heap.push {cls:=.type "range",data:=.fields #[.int lo t,.int hi u,.int c v]},toks:=tk}:=by
 refine wpAny_pyIter_range (IsRange.new ..) (Cv ha hb hc h0) ?_
 have I1:Inv X pins σ H {s with heap:=s.heap.push {cls:=.type "range",data:=.fields #[.int lo t,.int hi u,.int c v]},toks:=tk}:=I.kept fun b o e=>iB _ e
 refine⟨(s.heap.push {cls:=.type "range",data:=.fields #[.int lo t,.int hi u,.int c v]}).objs.size,[(s.heap.push {cls:=.type "range",data:=.fields #[.int lo t,.int hi u,.int c v]}).objs.size],_,_,H,rfl,
  I1.kept (t':=tk) fun b o e=>iB _ e,vn _ lo c (qR lo hi c),?_,fun b hb=>?_,q⟩
 ·have e1:lo+((0:Nat):Int)*c=lo:=by simp
  have e2:((qR lo hi c:Nat):Int) - ((0:Nat):Int)=Builtin.Range.rangeSize lo hi c:=by
   have:=(yK ha hb hc h0).1
   unfold qR
   omega
  show IsRangeIter _ _ (lo+((0:Nat):Int)*c) (((qR lo hi c:Nat):Int) - ((0:Nat):Int)) c
  rw[e1,e2]
  exact l_ _ rfl
 ·have e:b=(s.heap.push {cls:=.type "range",data:=.fields #[.int lo t,.int hi u,.int c v]}).objs.size:=by simpa using hb
  subst e
  exact I1.fpOk (gi _) (I1.hok.fresh (gi _))
theorem Al {a b c:Expr} {ta:TA} {p pos:Pos} (hg:Gl X "range") (hm:X.mg "range"=none) (ha:PA X [a,b,c] ta) (hs:starEach [a,b,c] X.env=[(false,eval a X.env),(false,eval b X.env),(false,eval c X.env)]:=by rfl) (hs2:starEach [b,c] X.env=[(false,eval b X.env),(false,eval c X.env)]:=by rfl):
  PI X tg (.Call (.Name "range" p) [a,b,c] [] pos) (Ja ta):=by
 intro pins s σ H R I h
 refine Call_ (jU I hg hm boot_range (PyProof.Rows.callWith_type1 (fc (ha pos pins s σ H _ I h) fun us s1 ⟨vs,H1,I1,r1,q1⟩=>?_) (by rw[hs,hs2]) (by rw[hs2];rfl)))
 obtain⟨i,j,k,e,⟨q1,q2,q3,q4⟩,q⟩:=q1
 subst e
 cases r1 with
 |cons r rr=>
  cases rr with
  |cons r' rr=>
   cases rr with
   |cons r'' rr=>
    cases rr
    obtain⟨t,rfl⟩:=r
    obtain⟨t',rfl⟩:=r'
    obtain⟨t'',rfl⟩:=r''
    exact call_range_3 q4 (Ak I1 q1 q2 q3 q4 q) (.inl (PyProof.noPylong_small (by unfold qO at q3;omega)))
end
def tS(g:pR):pS:=fun E=>(g E).bind fun a=>match aO a.2 a.1 with
 |some [.int i,.int j,.int k]=>if qO i∧qO j∧qO k∧k≠0 then some (qS i k (qR i j k),a.2)else none
 |_=>none
theorem RpA.three{K:Frag}{H:Hp}{vs:List V}{d e f:PyData}(h:RpA K H vs [d,e,f]):∃v u t,vs=[v,u,t]∧Rp K H v d∧Rp K H u e∧Rp K H t f:=by
 cases h with
 |cons h t=>
  obtain⟨u,t,rfl,r,r'⟩:=t.two
  exact⟨_,_,_,rfl,h,r,r'⟩
section
variable {X:Cx} {tg e e2 e3:Expr} {m:Bool} {g:pR} {p pos:Pos} {K:Frag} {B:Hp}
theorem vo{lo c:Int}{n:Nat}:vg K B (JG lo c n) (qS lo c n):=fun {B' F A σ H E xs Xs} i sB fr=>by
 have hl:(qS lo c n).length=n:=by simp[qS]
 refine⟨fun d ed=>?_,fun e=>?_⟩
 ·have hi:i < n:=by have:=(Zbh.mp ed).1;omega
  refine⟨hi,fun x H2 ⟨e2,y⟩=>?_⟩
  subst e2 y
  have:d=.int (lo+i*c):=by
   unfold qS at ed
   rw[mL,List.getElem?_range hi]at ed
   exact(Option.some.inj ed).symm
  subst this
  exact⟨F,A,fr.push ⟨rfl,_,rfl,.int _⟩⟩
 ·show n≤i
  omega
theorem Am (hg:Gl X "range") (hm:X.mg "range"=none) (ha:AX X [e,e2,e3] m g) (hs:starEach [e,e2,e3] X.env=[(false,eval e X.env),(false,eval e2 X.env),(false,eval e3 X.env)]:=by rfl) (hs2:starEach [e2,e3] X.env=[(false,eval e2 X.env),(false,eval e3 X.env)]:=by rfl):IX X tg (.Call (.Name "range" p) [e,e2,e3] [] pos) m (tS g):=p8 (Al hg hm ha hs hs2) fun σ H R z=>by
 obtain⟨B,E,xs,Xs,ds,E',fr,cl,e,q⟩:=z
 obtain⟨⟨rs,E1⟩,e1,e⟩:=Za.mp e
 refine⟨B,E,xs,Xs,rs,E1,fr,cl,e1,fun vs H1 hl ⟨F,A,fr1⟩=>?_⟩
 simp only at e
 split at e
 ·rename_i i j k ld
  split at e
  ·rename_i hj
   cases e
   obtain⟨r,A',fr2⟩:=fr1.looks hl ld
   obtain⟨v,u,t,rfl,r1,r2,r3⟩:=r.three
   cases r1;cases r2;cases r3
   exact⟨i,j,k,rfl,hj,q B _ _ (Same.refl _) ⟨F,A',fr2⟩ vo⟩
  ·cases e
 ·cases e
theorem An(a b:Int):qR a b (-1)=(a - b).toNat:=by
 unfold qR Builtin.Range.rangeSize
 simp only[show ¬((-1:Int) > 0) by decide,if_false,show -(-1:Int)=1 by decide,Int.ediv_one]
 split <;> omega
theorem Ao(a:Int)(n:Nat):qS a (-1) (n+1)=.int a::qS (a - 1) (-1) n:=by
 unfold qS
 rw[List.range_succ_eq_map,bE,List.map_map]
 congr 1
 ·simp
 ·refine List.map_congr_left fun k _=>?_
  simp only[Function.comp]
  congr 1
  omega
end
end PL
namespace PL
open PySem L2 Nh
def gL:List (bM×List PyData)→bM→List (bM×List PyData)
 |[],k=>[(k,[])]
 |p::r,k=>if p.1=k then p::r else p::gL r k
def cB:List (bM×List PyData)→bM→PyData→List (bM×List PyData)
 |[],k,d=>[(k,[d])]
 |p::r,k,d=>if p.1=k then (p.1,p.2++[d])::r else p::cB r k d
def Cw(kvs:List (bM×List PyData)):Bool:=decide (kvs.length < 1000000)&&kvs.all fun p=>decide (p.2.length < 1000000)
def qh(i:Nat)(fk fv:bv):cA:=fun E=>match E[i]? with
 |some (.od kvs)=>(fk (frzAll E)).bind fun a=>match a.1 with
  |.sh kd=>(keyOf kd).bind fun k=>(fv (frzAll E)).bind fun b=>match b.1 with
   |.sh d=>if de d&&Cw kvs then some (E.set i (.od (cB kvs k d)),.nx)else none
   |_=>none
  |_=>none
 |_=>none
def Cy:bv:=fun E=>some (.od [],E)
section
variable {K:Frag} {B F:Hp} {A:List Addr} {σ:nu} {H H':Hp} {E:List Sl}
theorem DlOk.len:∀{us:List (bM×V)} {kvs:List (bM×List PyData)} {A:List Addr},DlOk K F H us kvs A→us.length=kvs.length
 |[],[],A,h=>rfl
 |p::us,q::kvs,A,h=>by
  obtain⟨l,vs,A',rfl,rfl,hl,hr,k⟩:=h
  simp[k.len]
 |[],_::_,_,h=>False.elim h
 |_::_,[],_,h=>False.elim h
theorem mR{k:bM}:∀{us:List (bM×V)} {kvs:List (bM×List PyData)} {A:List Addr} {v:V},DlOk K F H us kvs A→gR us k=some v→gL kvs k=kvs∧∃lj vs ds,v=.ref lj∧lj∈A∧H lj=some (.lst vs)∧(∃p∈kvs,p.2=ds)∧RpA K F vs ds
 |[],[],A,v,h,e=>by cases e
 |p::us,q::kvs,A,v,h,e=>by
  obtain⟨l,vs,A',rfl,rfl,hl,hr,kk⟩:=h
  by_cases c:q.1=k
  ·rw[gv c]at e
   cases e
   exact⟨by simp[gL,c],l,vs,q.2,rfl,by simp,hl,⟨q,by simp,rfl⟩,hr⟩
  ·rw[gw c]at e
   obtain⟨e1,lj,vs',ds,e2,e3,e4,⟨p,hp,e5⟩,e6⟩:=mR kk e
   exact⟨by simp[gL,c,e1],lj,vs',ds,e2,by simp[e3],e4,⟨p,by simp[hp],e5⟩,e6⟩
 |[],_::_,_,_,h,_=>False.elim h
 |_::_,[],_,_,h,_=>False.elim h
theorem Cz{k:bM}{w:V}{d:PyData}(r:Rp K F w d):∀{us:List (bM×V)} {kvs:List (bM×List PyData)} {A:List Addr} {lj:Addr} {vs:List V},DlOk K F H us kvs A→A.Nodup→gR us k=some (.ref lj)→H lj=some (.lst vs)→DlOk K F (upd H lj (.lst (vs++[w]))) us (cB kvs k d) A
 |[],[],A,lj,vs,h,_,e,_=>by cases e
 |p::us,q::kvs,A,lj,vs,h,nd,e,hj=>by
  obtain⟨l,vs0,A',rfl,rfl,hl,hr,kk⟩:=h
  have nd':=Zbm.mp nd
  by_cases c:q.1=k
  ·rw[gv c]at e
   cases e
   rw[hl]at hj
   cases hj
   simp only[cB,c,if_true]
   exact⟨lj,_,A',rfl,rfl,aS,hr.snoc r,kk.stay (Same.refl _) fun b hb=>aG fun z=>nd'.1 (z▸hb)⟩
  ·rw[gw c]at e
   obtain⟨_,lj',_,_,e2,e3,_⟩:=mR kk e
   cases e2
   simp only[cB,c,if_false]
   have hne:l≠lj:=fun z=>nd'.1 (by rw[z];exact e3)
   exact⟨l,vs0,A',rfl,rfl,by rw[aG hne];exact hl,hr,Cz r kk nd'.2 e hj⟩
 |[],_::_,_,_,_,h,_,_,_=>False.elim h
 |_::_,[],_,_,_,h,_,_,_=>False.elim h
theorem CA{k:bM}{q:Addr}:∀{us:List (bM×V)} {kvs:List (bM×List PyData)} {A:List Addr},DlOk K F H us kvs A→gR us k=none→H q=some (.lst [])→DlOk K F H (us++[(k,.ref q)]) (gL kvs k) (A++[q])
 |[],[],A,h,_,hq=>by
  rw[show A=[]from h]
  exact⟨q,[],[],rfl,rfl,hq,.nil,rfl⟩
 |p::us,p'::kvs,A,h,e,hq=>by
  obtain⟨l,vs0,A',rfl,rfl,hl,hr,kk⟩:=h
  by_cases c:p'.1=k
  ·rw[gv c]at e;cases e
  ·rw[gw c]at e
   simp only[gL,c,if_false]
   exact⟨l,vs0,A'++[q],rfl,rfl,hl,hr,CA kk e hq⟩
 |[],_::_,_,h,_,_=>False.elim h
 |_::_,[],_,h,_,_=>False.elim h
theorem vp{k:bM}{q:V}:∀{us:List (bM×V)},gR us k=none→gR (us++[(k,q)]) k=some q
 |[],_=>gv rfl
 |p::us,e=>by
  by_cases c:p.1=k
  ·rw[gv c]at e;cases e
  ·rw[gw c]at e
   rw[List.cons_append,gw c]
   exact vp e
theorem rV(k:bM)(d:PyData):∀kvs:List (bM×List PyData),cB (gL kvs k) k d=cB kvs k d
 |[]=>by simp[gL,cB]
 |p::r=>by
  by_cases c:p.1=k
  ·simp[gL,cB,c]
  ·simp[gL,cB,c,rV k d r]
theorem FrF.odAt{i:Nat}{kvs:List (bM×List PyData)}(h:FrF K B F A σ H E [] [])(e:E[i]? =some (.od kvs)):
  ∃l us A1,σ[i]? =some (some (.ref l))∧H l=some (.dK us)∧DlOk K F H us kvs A1∧(l::A1).Nodup∧(∀a∈l::A1,a∈A)∧
   ∀(H':Hp) (us':List (bM×V)) (kvs':List (bM×List PyData)) (A1':List Addr),H' l=some (.dK us')→DlOk K F H' us' kvs' A1'→(l::A1').Nodup→(∀b∈A1',b∈A1∨(b∉A∧F b=none))→
    (∀b∈A,b∉l::A1'→H' b=H b)→Same F H'→Same (tups H') F→∃A',FrF K B F A' σ H' (E.set i (.od kvs')) [] []:=by
 obtain⟨o,A0,A1,A2,eA,eo,hp,put⟩:=h.sl.at (k:=i) (s:=.od kvs) (by simpa using e)
 obtain⟨l,us,A1,rfl,rfl,hl,hd⟩:=hp
 have nd:=h.nd
 rw[eA]at nd
 have nd1:=(Zav.mp (Zav.mp nd).2.1).1
 have eo':σ[i]? =some (some (.ref l)):=by simpa using eo
 refine⟨l,us,A1,eo',hl,hd,nd1,fun a ha=>by rw[eA];exact rn _ (List.mem_append_left _ ha),fun H' us' kvs' A1' hl' hd' nd' sub keep sF tF=>?_⟩
 have nl:∀b,b∈A0∨b∈A2→b∈A∧b∉l::A1':=fun b hb=>by
  have hbA:b∈A:=by rw[eA];simp only[Zaj];rcases hb with z |z;exact .inl z;exact .inr (.inr z)
  have hn:b∉l::A1:=fun z=>by
   rcases hb with hb |hb
   ·exact(Zav.mp nd).2.2 b hb b (List.mem_append_left _ z) rfl
   ·exact(Zav.mp (Zav.mp nd).2.1).2.2 b z b hb rfl
  refine⟨hbA,fun z=>?_⟩
  rcases Zal.mp z with z |z
  ·exact hn (by rw[z];simp)
  ·rcases sub b z with z |z
   ·exact hn (gq _ z)
   ·exact z.1 hbA
 have z:=put (SlOk K F H' σ) (some (.ref l)) (.od kvs') (l::A1') ⟨l,us',A1',rfl,rfl,hl',hd'⟩ fun o s C hs hC q=>q.stay (Same.refl _) (fun b hb=>keep b (nl b (hC b hb)).1 (nl b (hC b hb)).2) fun z=>by
  have:=h.pl s (by simpa using hs)
  cases s <;> simp[Sl.isAl,Sl.isBr]at this z
 have e2:(List.map some ([]:List V)++σ).set i (some (V.ref l))=List.map some ([]:List V)++σ:=by
  simp only[f6,Z8]
  exact List.ext_getElem? fun j=>by
   by_cases hj:i=j
   ·subst hj
    rw[List.getElem?_set_self',eo'];rfl
   ·rw[List.getElem?_set_ne hj]
 rw[e2]at z
 refine⟨_,h.bf,sF,tF,by simpa using z,?_,fun a ha=>?_,rfl,fun s hs=>?_⟩
 ·have a0:=(Zav.mp nd).1
  have a2:=(Zav.mp (Zav.mp nd).2.1).2.1
  refine Zav.mpr ⟨a0,Zav.mpr ⟨nd',a2,fun a ha b hb e=>(nl b (.inr hb)).2 (e▸ha)⟩,fun a ha b hb e=>?_⟩
  rcases Zaj.mp (show b∈(l::A1')++A2 from hb)with hb |hb
  ·exact(nl a (.inl ha)).2 (e▸hb)
  ·exact(Zav.mp nd).2.2 a ha a (rn _ (e▸hb)) rfl
 ·rcases Zaj.mp ha with z |z
  ·exact h.fr a (nl a (.inl z)).1
  ·rcases Zaj.mp (show a∈(l::A1')++A2 from z)with z |z
   ·rcases Zal.mp z with z |z
    ·rw[z];exact h.fr l (by rw[eA];simp)
    ·rcases sub a z with z |z
     ·exact h.fr a (by rw[eA];simp[z])
     ·exact z.2
   ·exact h.fr a (nl a (.inr z)).1
 ·rcases List.mem_or_eq_of_mem_set hs with hs |hs
  ·exact h.pl s hs
  ·subst hs;rfl
theorem FrF.frzTo(h:FrF K B F A σ H E [] [])(g:Same H H'):FrF K H' H' [] σ H' (PL.frzAll E) [] []:=by
 have h1:=(h.frzAll rfl).grow g
 have e:(fun b=>if b∈([]:List Addr)then none else H' b)=H':=by funext b;simp
 rw[e]at h1
 exact⟨Same.refl _,h1.fh,h1.tf,h1.sl,h1.nd,h1.fr,h1.len,h1.pl⟩
theorem Ap{i:Nat}{kvs kvs':List (bM×List PyData)}(e:E[i]? =some (.od kvs)):PL.frzAll (E.set i (.od kvs'))=PL.frzAll E:=by
 unfold PL.frzAll
 rw[List.map_set]
 refine List.ext_getElem? fun j=>?_
 by_cases c:i=j
 ·subst c
  rw[List.getElem?_set_self',mL,e]
  rfl
 ·rw[List.getElem?_set_ne c]
end
section
variable {X:Cx} {ek ev:Expr} {mk mv:Bool} {fk fv:bv} {x:Str} {p ap1 cp1 ap2 cp2 lp pos:Pos}
def EK:V→List V→Hp→VK→Prop:=fun x xs H Q=>∃a kvs k q,x=.ref a∧xs=[kV k,q]∧H a=some (.dK kvs)∧kvs.length < sizeLine∧(∀v,gR kvs k=some v→Q v H)∧(gR kvs k=none→Q q (upd H a (.dK (kvs++[(k,q)]))))
theorem Aq:MtR X "dict.setdefault" EK:=by
 intro pins s σ H x xs v us Q I rx rv h
 obtain⟨a,kvs,k,q,rfl,rfl,e,hz,h1,h2⟩:=h
 cases rx
 cases rv with
 |cons ry rv=>
  cases rv with
  |cons rq rv=>
   cases rv
   obtain⟨z,hd,vs,rel,dd⟩:=IT I.hok e
   refine call_meetsIn PySem.F.slot_dict_setdefault dd.typeIs PySem.F.entry_dict_setdefault (PySem.F.args_dict_setdefault_3 _ _ _) (kt_meets_setdefault (fb X.prog X.w) a (yD ry) hd _) ⟨vs,dd,by rw[←rel.length];exact z,fun v' hv'=>?_,fun hn h' dd' hs=>?_⟩
   ·have r:=rel.val k
    rw[hv']at r
    cases hv:gR kvs k with
    |none=>rw[hv]at r;exact False.elim r
    |some v=>rw[hv]at r;exact⟨v,H,I.tok _,r,h1 v hv⟩
   ·have r:=rel.val k
    rw[hn]at r
    cases hv:gR kvs k with
    |some v=>rw[hv]at r;exact False.elim r
    |none=>
     have he:∃q,h'.get? a=some q:=let ⟨q,_,_,hq,_⟩:=dd';⟨q,hq⟩
     have hl:(nD kvs k q).length≤sizeLine:=by have:=vc kvs k q;omega
     have:=EE (t':=s.toks+1) I (by rw[e];exact True.intro) hs he (Hd hl hd (rel.put k rq) dd')
     rw[Cd q hv]at this
     exact⟨q,_,this,rq,h2 hv⟩
end
end PL
namespace PL
open PySem L2 Nh
section
variable {X:Cx} {ek ev:Expr} {mk mv:Bool} {fk fv:bv} {x:Str} {p ap1 cp1 ap2 cp2 lp pos:Pos}
theorem CB (i:Nat) (hk:EX X ek mk fk) (hv:EX X ev mv fv) (hN:X.N[i]? =some x:=by rfl) (hvi:Br X.env.scope x:=by first |exact Or.inl rfl |exact Or.inr (Or.inl rfl) |exact Or.inr (Or.inr rfl)) (hd:(x == ("__debug__":Str))=false:=by decide) (hcd:(x == ("__classdict__":Str))=false:=by decide)
  (hs1:starEach [ek,.List [] lp] X.env=(false,eval ek X.env)::starEach [.List [] lp] X.env:=by rfl) (hs2:starEach [.List [] lp] X.env=[(false,eval (.List [] lp) X.env)]:=by rfl) (hp1:(backTo cp1 (starEach [.List [] lp] X.env)).any (·.1)=false:=by rfl)
  (hb1:attributeBase (.Name x p) "setdefault" X.env (eval (.Name x p) X.env)=eval (.Name x p) X.env:=by rfl)
  (hf1:((backTo cp1 (starEach [ek,.List [] lp] X.env)).all (fun x=> !x.1)&&(backToKw cp1 (keywordEach [] X.env)).all (fun x=>x.1.isSome)
   &&decide (([ek,.List [] lp]:List Expr).length+([]:List Keyword).length+(if ([]:List Keyword).isEmpty then 0 else 1) < 30))=true:=by rfl) (hl1:(ap1.endLine == cp1.line)=true:=by rfl)
  (hs3:starEach [ev] X.env=[(false,eval ev X.env)]:=by rfl)
  (hb2:attributeBase (.Call (.Attribute (.Name x p) "setdefault" ap1) [ek,.List [] lp] [] cp1) "append" X.env (eval (.Call (.Attribute (.Name x p) "setdefault" ap1) [ek,.List [] lp] [] cp1) X.env)=eval (.Call (.Attribute (.Name x p) "setdefault" ap1) [ek,.List [] lp] [] cp1) X.env:=by rfl)
  (hf2:((backTo cp2 (starEach [ev] X.env)).all (fun x=> !x.1)&&(backToKw cp2 (keywordEach [] X.env)).all (fun x=>x.1.isSome)
   &&decide (([ev]:List Expr).length+([]:List Keyword).length+(if ([]:List Keyword).isEmpty then 0 else 1) < 30))=true:=by rfl) (hl2:(ap2.endLine == cp2.line)=true:=by rfl)
  (hsw:swapsWith (.Call (.Attribute (.Call (.Attribute (.Name x p) "setdefault" ap1) [ek,.List [] lp] [] cp1) "append" ap2) [ev] [] cp2) none pos.line X.env=pure false:=by rfl):
  SX X (.Expr (.Call (.Attribute (.Call (.Attribute (.Name x p) "setdefault" ap1) [ek,.List [] lp] [] cp1) "append" ap2) [ev] [] cp2) pos) (qh i fk fv):=by
 refine ju (sT (u0 PySem.F.plainAttrs_list PySem.F.slot_list_append PySem.F.type_list_append nw
  (u0 PySem.F.plainAttrs_dict PySem.F.slot_dict_setdefault PySem.F.type_dict_setdefault Aq (jr hN hvi hd hcd) (cV hk (cV (BL fY) fY hs2) hs1) hb1 hf1 hl1 hs1 hp1)
  (cV hv fY hs3) hb2 hf2 hl2 hs3 rfl) hsw) fun D σ H z=>?_
 obtain⟨B,E,xs,Xs,E',fl,⟨F,A,fr⟩,cl,e,q⟩:=z
 subst cl
 have hx:xs=[]:=by simpa using fr.len
 subst hx
 unfold qh at e
 split at e
 ·rename_i kvs ei
  obtain⟨⟨s1,E1⟩,e1,e⟩:=Za.mp e
  simp only at e
  split at e
  ·rename_i kd
   obtain⟨k,ekk,e⟩:=Za.mp e
   obtain⟨⟨s2,E2⟩,e2,e⟩:=Za.mp e
   simp only at e
   split at e
   ·rename_i d
    split at e
    ·rename_i hc
     cases e
     simp only[wL,Cw,decide_eq_true_eq,List.all_eq_true]at hc
     obtain⟨hfl,hlen,hlens⟩:=hc
     obtain⟨l,us,A1,eo,hl,hdl,nd,sub,put⟩:=fr.odAt ei
     refine⟨_,eo,.inr (.inr (.inl ⟨rfl,.inl ⟨us,hl⟩⟩)),H,_,[],[],_,E1,⟨H,[],fr.frzTo (Same.refl _)⟩,fun _=>(fun s hs=>by cases hs),e1,fun v1 H1 ⟨F1,B1,fr1⟩=>?_⟩
     have S1:Same H H1:=fr1.bf.trans fr1.fh
     have r1:=(fr1.look0 (d:=kd) rfl).1
     rw[tP ekk]at r1
     obtain rfl:=xa r1
     refine⟨Nat.zero_le _,fun q0 hq0=>?_⟩
     have ib:i < E.length:=by
      rcases Nat.lt_or_ge i E.length with z |z
      ·exact z
      ·rw[List.getElem?_eq_none z]at ei;cases ei
     have hlne:l≠q0:=fun z=>by rw[←z,S1 _ _ hl]at hq0;cases hq0
     have nq:H q0=none:=S1.free hq0
     have g1:Same H (upd H1 q0 (.lst [])):=S1.trans (hZ hq0 _)
     have fin:∀(H2 F2:Hp) (A2:List Addr) (us2:List (bM×V)) (lj:Addr) (vs:List V),FrF X.K B F2 A2 σ H2 (E.set i (.od (gL kvs k))) [] []→H2 l=some (.dK us2)→gR us2 k=some (.ref lj)→H2 lj=some (.lst vs)→vs.length < 1000000→
       JC X.K "list" (.ref lj) H2∧rd X.K mv fv σ H2 fun y H3=>yn (.ref lj) [y] H3 fun _ H4=>D.nx σ H4:=fun H2 F2 A2 us2 lj vs fr2 hl2 hv2 hj hvl=>by
      refine⟨.inl ⟨rfl,_,SqL.of hj⟩,H2,PL.frzAll E,[],[],_,E2,⟨H2,[],by have:=fr2.frzTo (Same.refl _);rwa [Ap ei]at this⟩,fun _=>(fun s hs=>by cases hs),e2,fun y H3 ⟨F3,B3,fr3⟩=>?_⟩
      have S3:Same H2 H3:=fr3.bf.trans fr3.fh
      have r3:=((fr3.look0 (d:=d) rfl).1).cold hfl
      obtain⟨Fg,frg⟩:∃Fg,FrF X.K B Fg A2 σ H3 (E.set i (.od (gL kvs k))) [] []:=⟨_,fr2.grow S3⟩
      have hj3:=S3 _ _ hj
      have ei2:(E.set i (.od (gL kvs k)))[i]? =some (.od (gL kvs k)):=by rw[List.getElem?_set_self ib]
      obtain⟨l',us',A1',eo',hl',hdl',nd',sub',put'⟩:=frg.odAt ei2
      rw[eo]at eo'
      cases eo'
      rw[S3 _ _ hl2]at hl'
      cases hl'
      obtain⟨_,lj',_,_,el,ljA,_⟩:=mR hdl' hv2
      cases el
      have nlj:l≠lj:=fun z=>(Zbm.mp nd').1 (z▸ljA)
      refine⟨lj,vs,y,rfl,rfl,hj3,by rw[sizeLine_eq];omega,?_⟩
      obtain⟨A',fr4⟩:=put' (upd H3 lj (.lst (vs++[y]))) us2 (cB (gL kvs k) k d) A1' (by rw[aG nlj];exact S3 _ _ hl2) (Cz (r3.same frg.tf) hdl' (Zbm.mp nd').2 hv2 hj3) nd' (fun b hb=>.inl hb)
       (fun b _ hn=>aG fun z=>hn (by rw[z];exact gq _ ljA)) (fun b o q1=>by rw[aG fun z=>by rw[z,frg.fr lj (sub' lj (gq _ ljA))]at q1;cases q1];exact frg.fh _ _ q1) (by rw[mN hj3];exact frg.tf)
      rw[List.set_set,rV]at fr4
      exact q _ _ ⟨_,_,fr4⟩
     have hk2:(upd H1 q0 (.lst [])) l=some (.dK us):=by rw[aG hlne];exact S1 _ _ hl
     refine⟨l,us,k,.ref q0,rfl,rfl,hk2,by rw[hdl.len,sizeLine_eq];omega,fun v hvv=>?_,fun hvn=>?_⟩
     ·obtain⟨es,lj,vs,ds,rfl,ljA,hj,⟨p0,hp0,rfl⟩,hr⟩:=mR hdl hvv
      have eE:E.set i (.od (gL kvs k))=E:=by
       rw[es]
       exact List.ext_getElem? fun j=>by
        by_cases hj:i=j
        ·subst hj;rw[List.getElem?_set_self ib,ei]
        ·rw[List.getElem?_set_ne hj]
      exact fin _ _ _ us lj vs (by rw[eE];exact fr.grow g1) hk2 hvv (g1 _ _ hj) (by rw[hr.len];have:=hlens p0 hp0;omega)
     ·obtain⟨Fg,frg,nqF⟩:∃Fg,FrF X.K B Fg A σ (upd H1 q0 (.lst [])) E [] []∧Fg q0=none:=⟨_,fr.growN (N:=[q0]) g1 (fun a ha=>by rw[Zag.mp ha];exact⟨nq,.inl ⟨_,aS⟩⟩),if_pos (by simp)⟩
      obtain⟨l',us',A1',eo',hl',hdl',nd',sub',put'⟩:=frg.odAt ei
      rw[eo]at eo'
      cases eo'
      rw[hk2]at hl'
      cases hl'
      have nqA:q0∉A:=fr.newA nq
      have c1:DlOk X.K Fg (upd (upd H1 q0 (.lst [])) l (.dK (us++[(k,.ref q0)]))) (us++[(k,.ref q0)]) (gL kvs k) (A1'++[q0]):=by
       refine(CA hdl' hvn aS).stay (Same.refl _) fun b hb=>aG fun z=>?_
       subst z
       rcases Zaj.mp hb with z |z
       ·exact(Zbm.mp nd').1 z
       ·exact hlne (Zag.mp z)
      have c2:(l::(A1'++[q0])).Nodup:=by
       refine Zbm.mpr ⟨fun z=>?_,Zav.mpr ⟨(Zbm.mp nd').2,by simp,fun a ha b hb e=>?_⟩⟩
       ·rcases Zaj.mp z with z |z
        ·exact(Zbm.mp nd').1 z
        ·exact hlne (Zag.mp z)
       ·rw[Zag.mp hb]at e
        exact nqA (e▸sub' a (gq _ ha))
      have c3:∀b∈A1'++[q0],b∈A1'∨(b∉A∧Fg b=none):=fun b hb=>by
       rcases Zaj.mp hb with z |z
       ·exact .inl z
       ·rw[Zag.mp z]
        exact .inr ⟨nqA,nqF⟩
      have c5:Same Fg (upd (upd H1 q0 (.lst [])) l (.dK (us++[(k,.ref q0)]))):=fun b o q1=>by
       have hb:b≠l:=fun z=>by rw[z,frg.fr l (sub' l (by simp))]at q1;cases q1
       rw[aG hb]
       exact frg.fh _ _ q1
      have c6:Same (tups (upd (upd H1 q0 (.lst [])) l (.dK (us++[(k,.ref q0)])))) Fg:=fun b o q1=>by
       obtain⟨z1,z2⟩:=Zbo.mp q1
       by_cases hb:b=l
       ·subst hb;rw[aS]at z1;cases z1;cases z2
       ·rw[aG hb]at z1;exact frg.tf b o (jW z1 z2)
      obtain⟨A',fr4⟩:=put' _ (us++[(k,.ref q0)]) (gL kvs k) (A1'++[q0]) aS c1 c2 c3 (fun b _ hn=>aG fun z=>hn (by rw[z];exact gJ ..)) c5 c6
      exact fin _ _ _ _ q0 [] fr4 aS (vp hvn) (by rw[aG (Ne.symm hlne)];exact aS) (by simp)
    ·cases e
   ·cases e
  ·cases e
 ·cases e
theorem EL:EX X (.Dict [] [] pos) true Cy:=by
 refine cn Cg fun σ H Q z=>?_
 obtain⟨B,E,xs,Xs,res,E',⟨F,A,fr⟩,c,e,q⟩:=z
 cases e
 intro p hp
 exact q _ _ ⟨_,_,fr.newd hp⟩
end
end PL
namespace PL
open PySem L2 Nh
def fF:List (bM×List PyData)→bM→Option (List PyData)
 |[],_=>none
 |p::r,k=>if p.1=k then some p.2 else fF r k
def EM(i:Nat)(f:bv):jD:=fun E=>(f E).bind fun a=>(look a.2 a.1).bind fun kd=>(keyOf kd).bind fun k=>match a.2[i]? with
 |some (.od kvs)=>some ((fF kvs k).isSome,a.2)
 |_=>none
section
variable {K:Frag} {F H:Hp}
theorem xh{k:bM}:∀{us:List (bM×V)} {kvs:List (bM×List PyData)} {A:List Addr},DlOk K F H us kvs A→(gR us k).isSome=(fF kvs k).isSome∧∀ds,fF kvs k=some ds→∃lj vs,gR us k=some (.ref lj)∧lj∈A∧H lj=some (.lst vs)∧RpA K F vs ds
 |[],[],A,h=>⟨rfl,fun ds e=>by cases e⟩
 |p::us,q::kvs,A,h=>by
  obtain⟨l,vs,A',rfl,rfl,hl,hr,kk⟩:=h
  obtain⟨g1,g2⟩:=xh (k:=k) kk
  by_cases c:q.1=k
  ·rw[gv c]
   simp only[fF,c,if_true]
   exact⟨rfl,fun ds e=>by cases e;exact⟨l,vs,rfl,by simp,hl,hr⟩⟩
  ·rw[gw c]
   simp only[fF,c,if_false]
   refine⟨g1,fun ds e=>?_⟩
   obtain⟨lj,vs',e1,e2,e3,e4⟩:=g2 ds e
   exact⟨lj,vs',e1,by simp[e2],e3,e4⟩
 |[],_::_,_,h=>False.elim h
 |_::_,[],_,h=>False.elim h
end
section
variable {X:Cx} {e:Expr} {m:Bool} {f:bv} {x:Str} {p pos:Pos}
theorem Ho(hu:X.A.units+1 < cLine):OpR X (compareOp .In) (fun x y H Q=>∃a kvs k,y=.ref a∧x=kV k∧H a=some (.dK kvs)∧Q (.bl (gR kvs k).isSome) H):=by
 intro pins s σ H x y v u Q I rx ry h
 obtain⟨a,kvs,k,rfl,rfl,e,q⟩:=h
 cases ry
 exact Kd hu I (DGet.k e) rx fun s' I'=>⟨.bl _,H,I',rfl,q⟩
theorem Hq (i:Nat) (hu:X.A.units+64 < cLine) (he:EX X e m f) (hN:X.N[i]? =some x:=by rfl) (hv:Br X.env.scope x:=by first |exact Or.inl rfl |exact Or.inr (Or.inl rfl) |exact Or.inr (Or.inr rfl)) (hd:(x == ("__debug__":Str))=false:=by decide) (hcd:(x == ("__classdict__":Str))=false:=by decide)
  (hm:behindInMarks .In (.Name x p)=false:=by with_unfolding_all rfl):TX X (.Compare e [.In] [.Name x p] pos) m (EM i f):=by
 refine pT (yk (Ho (by omega)) he (jr hN hv hd hcd) hm) fun σ H Q z=>?_
 obtain⟨B,E,xs,Xs,b,E',fr,cl,e,q⟩:=z
 obtain⟨⟨s1,E1⟩,e1,e⟩:=Za.mp e
 obtain⟨kd,e2,e⟩:=Za.mp e
 obtain⟨k,e3,e⟩:=Za.mp e
 simp only at e
 split at e
 ·rename_i kvs ei
  cases e
  refine⟨B,E,xs,Xs,s1,_,fr,cl,e1,fun v1 H1 ⟨F1,A1,fr1⟩=>?_⟩
  have r1:=(fr1.look0 e2).1
  rw[tP e3]at r1
  obtain rfl:=xa r1
  obtain⟨A',fr2⟩:=fr1.pop
  obtain⟨o,A2,eo,l,us,A3,rfl,rfl,hl,hdl⟩:=fr2.var ei
  refine⟨_,eo,l,us,k,rfl,rfl,hl,_,rfl,?_⟩
  rw[(xh hdl).1]
  exact q _ ⟨F1,A',fr2⟩
 ·cases e
end
end PL
namespace PL
open PySem L2 Nh
def j7:List PyData→Option (List Bool)
 |[]=>some []
 |.bool b::ds=>(j7 ds).map (b:: ·)
 |_=>none
def EN:List PyData→Option PyData
 |[.list ds]=>(j7 ds).map fun bs=>.bool (bs.all id)
 |_=>none
def xi(K:Frag)(f:List Bool→Bool):List V→Hp→VK→Prop:=fun xs H Q=>∃p bs,xs=[.ref p]∧SqL K H p (bs.map V.bl)∧Q (.bl (f bs)) H
theorem vq{K:Frag}{H:Hp}:∀{vs:List V} {ds:List PyData} {bs:List Bool},RpA K H vs ds→j7 ds=some bs→vs=bs.map V.bl
 |_,_,bs,.nil,e=>by cases e;rfl
 |_,_,bs,.cons (d:=d) h t,e=>by
  cases d <;> simp[j7]at e
  obtain⟨cs,e,rfl⟩:=e
  cases h
  rw[vq t e]
  rfl
theorem CC{K:Frag}{f:List Bool→Bool}:EF K (xi K f) (fun ds=>match ds with
 |[.list ds]=>(j7 ds).map fun bs=>.bool (f bs)
 |_=>none):=fun ds d vs H Q e r=>by
 simp only at e
 split at e
 ·obtain⟨bs,eb,rfl⟩:=Zaf.mp e
  obtain⟨v,rfl,r1⟩:=r.one
  cases r1 with
  |lst h1 h2=>
   have:=vq h2 eb
   subst this
   exact⟨_,rfl,fun q=>⟨_,bs,rfl,h1,q⟩⟩
 ·cases e
theorem rW:∀bs:List Bool,(List.range bs.length).all (fun i=>bs.getD i false)=bs.all id
 |[]=>rfl
 |b::bs=>by
  rw[List.length_cons,List.range_succ_eq_map,List.all_cons,List.all_map,List.all_cons,←rW bs]
  rfl
section
variable {X:Cx} {e:Expr} {es:List Expr} {m1:Bool} {g:pR} {p pos:Pos}
theorem qi:∀{bs:List Bool} {us:List Value},Vals (bs.map V.bl) us→us=bs.map Value.bool
 |[],_,.nil=>rfl
 |b::bs,_,.cons h t=>by cases h;rw[qi t];rfl
theorem EO{bs:List Bool}{i:Nat}{v:Value}(h:(bs.map Value.bool).toArray[i]? =some v):v=.bool (bs.getD i false):=by
 rw[List.getElem?_toArray,mL]at h
 obtain⟨b,e,rfl⟩:=Zaf.mp h
 rw[List.getD_eq_getElem?_getD,e]
 rfl
theorem Ar(hc:X.calm=true):CallR X (.builtin "all") (xi X.K fun bs=>bs.all id):=by
 intro pins s σ H xs us Q I r h
 obtain⟨a,bs,rfl,hq,q⟩:=h
 cases r with
 |cons r rr=>
  cases rr
  cases r
  obtain⟨its,rv,pl,hz⟩:=I.list hq
  have:=qi rv
  subst this
  obtain⟨o,n,eo,_⟩:=id pl
  have hlt:a < s.heap.objs.size:=jf eo
  refine call_all_walk (wpAny_pyIter_list pl.isList ?_)
  refine⟨s.heap.objs.size,_,_,_,_,_,fun i=>bs.getD i false,rfl,Walks.list (A:=X.A.in1) (I.ok.hd hc) s.heap.objs.size a (jT hlt) (bs.map Value.bool).toArray,?_,?_,?_⟩
  ·exact⟨⟨_,l_ _ rfl,rfl,rfl⟩,pl.isList.at fun o e=>iB _ e⟩
  ·intro i v s Q E hv hQ
   rw[EO hv]
   exact wpAny_truthy_bool hQ
  ·intro h' tk hk
   refine⟨.bl _,H,I.kept (t':=tk) fun b o e=>hk b o (fun z=>?_) (iB _ e),rfl,?_⟩
   ·have:b=s.heap.objs.size:=by simpa using z
    exact Nat.lt_irrefl _ (this▸jf e)
   ·rw[show((bs.map Value.bool).toArray).size=bs.length by simp,rW]
    exact q
theorem Hr (hc:X.calm=true) (hg:Gl X "all") (hm:X.mg "all"=none) (ha:AX X [e] m1 g) (he:starEach [e] X.env=[(false,eval e X.env)]:=by rfl):EX X (.Call (.Name "all" p) [e] [] pos) m1 (bx EN g):=p7 (r:=xi X.K fun bs=>bs.all id) CC (Ar hc) hg hm PyProof.Rows.boot_all ha (by decide) (by decide) he rfl
def oF:List PyData→Option (List Int)
 |[]=>some []
 |.int i::ds=>(oF ds).map (i:: ·)
 |_=>none
theorem pD{K:Frag}{H:Hp}:∀{vs:List V} {ds:List PyData} {bs:List Int},RpA K H vs ds→oF ds=some bs→vs=bs.map V.int
 |_,_,bs,.nil,e=>by cases e;rfl
 |_,_,bs,.cons (d:=d) h t,e=>by
  cases d <;> simp[oF]at e
  obtain⟨cs,e,rfl⟩:=e
  cases h
  rw[pD t e]
  rfl
theorem lm:∀{ns:List Int} {us:List Value},Vals (ns.map V.int) us→us.length=ns.length∧∀(i:Nat) (v:Value),us[i]? =some v→∃t,v=Value.int (ns.getD i 0) t
 |[],_,.nil=>⟨rfl,fun i v h=>by simp at h⟩
 |n::ns,_,.cons h t=>by
  obtain⟨tk,rfl⟩:=h
  obtain⟨h1,h2⟩:=lm t
  refine⟨by simp[h1],fun i v h=>?_⟩
  cases i with
  |zero=>simp at h;subst h;exact⟨tk,rfl⟩
  |succ i=>simpa using h2 i v (by simpa using h)
end
end PL
namespace PL
open PySem L2 Nh
def but(H:Hp)(l:Addr):Hp:=fun b=>if b=l then none else H b
theorem nN{H:Hp}{l b:Addr}(h:b≠l):but H l b=H b:=if_neg h
theorem CD{H:Hp}{l:Addr}:but H l l=none:=if_pos rfl
theorem CF(H:Hp)(l:Addr):Same (but H l) H:=fun b o e=>by
 by_cases h:b=l
 ·subst h;rw[CD]at e;cases e
 ·rw[nN h]at e;exact e
theorem vt{H:Hp}{l:Addr}{us:List V}(h:H l=some (.lst us)):Same (tups H) (but H l):=fun b o e=>by
 obtain⟨z1,z2⟩:=Zbo.mp e
 by_cases hb:b=l
 ·subst hb;rw[h]at z1;cases z1;cases z2
 ·rw[nN hb];exact z1
def Jb(K:Frag)(c:List PyData→List PyData→Option (List PyData)):Sp:=fun vs H Q _=>∃l us ds0 aX ds ds',vs=.ref l::aX∧H l=some (.lst us)∧RpA K (but H l) us ds0∧RpA K (but H l) aX ds∧c ds0 ds=some ds'∧
 ∀H' us',SameBut l H H'→H' l=some (.lst us')→RpA K (tups H') us' ds'→Q .non H'
def nP:List PyData→Option (List (Int×Int))
 |[]=>some []
 |.tuple [.int a,.int b]::r=>(nP r).map fun ps=>(a,b)::ps
 |_=>none
def iQ(sg:List Int):List (Int×Int)→List Int→Option (List Int)
 |[],ns=>some ns
 |p::r,ns=>match atI ns p.1,atI sg p.2,atI ns (p.1 - p.2),zU ns.length p.1 with
  |some x,some y,some z,some j=>if dE y z then iQ sg r (ns.set j (x+y*z))else none
  |_,_,_,_=>none
def mS:List PyData→List PyData→Option (List PyData):=fun ds0 ds=>match ds with
 |[.list cs,.list ss]=>(oF ds0).bind fun ns=>(oF ss).bind fun sg=>(nP cs).bind fun ps=>(iQ sg ps ns).map fun r=>r.map .int
 |_=>none
section
variable {K:Frag}
theorem tT{α β:Type}(f:α→β){xs:List α}{i:Int}{v:α}(h:atI xs i=some v):atI (xs.map f) i=some (f v):=by
 unfold atI at h ⊢
 rw[fw]
 obtain⟨j,e1,e2⟩:=Za.mp h
 rw[e1,Option.bind_some,mL,e2]
 rfl
theorem vv{H:Hp}:∀{cs:List PyData} {ps:List (Int×Int)} {vs:List V},nP cs=some ps→RpA K H vs cs→vs.length=ps.length∧∀(i:Nat) (p:Int×Int),ps[i]? =some p→∃t,vs[i]? =some (V.ref t)∧SqT K H t [.int p.1,.int p.2]
 |[],ps,_,e,.nil=>by cases e;exact⟨rfl,fun i p h=>by simp at h⟩
 |c::cs,ps,_,e,.cons (x:=v) h r=>by
  unfold nP at e
  split at e
  ·cases ‹c::cs=[]›
  ·rename_i a b r' ec
   cases ec
   obtain⟨ps',e1,rfl⟩:=Zaf.mp e
   obtain⟨l1,l2⟩:=vv e1 r
   cases h with
   |tup h1 h2=>
    cases h2 with
    |cons x1 y1=>
     cases y1 with
     |cons x2 y2=>
      cases y2
      cases x1
      cases x2
      refine⟨by simp[l1],fun i p hp=>?_⟩
      cases i with
      |zero=>simp at hp;subst hp;exact⟨_,rfl,h1⟩
      |succ i=>simpa using l2 i p (by simpa using hp)
  ·cases e
theorem Hs{sg:List Int}{ps:List (Int×Int)}{ns:List Int}{r:List Int}{l lc ls:Addr}{vs:List V}{H:Hp}{x0 x1:Option V}(hl:H l=some (.lst (ns.map .int)))(hc:SqL K (but H l) lc vs)(hs:SqL K (but H l) ls (sg.map .int))(hlen:vs.length=ps.length)
  (hp:∀(i:Nat) (p:Int×Int),ps[i]? =some p→∃t,vs[i]? =some (V.ref t)∧SqT K (but H l) t [.int p.1,.int p.2]) (e:iQ sg ps ns=some r) {D:Ends} (hD:∀σ H',SameBut l H H'→H' l=some (.lst (r.map .int))→D.nx σ H'):
  GL (BC K (jg 1)) (GG K 2 (uQ (rA 3) (uQ (rA 4) GF)))
   (Ec (uT (yw K) (uT (uY K) (jg 0) (jg 3)) (uT (yA K) (uT (uY K) (jg 2) (jg 4)) (uT (uY K) (jg 0) (uT (Ew (fun _ _=>true) fun i j=>.int (i - j)) (jg 3) (jg 4))))) (GH (jg 0) (jg 3) BO)) D [some (.ref l),some (.ref lc),some (.ref ls),x0,x1] H:=by
 have up:∀{H':Hp},SameBut l H H'→Same (but H l) H':=fun sb b o q=>by
  by_cases hb:b=l
  ·subst hb;rw[CD]at q;cases q
  ·rw[nN hb]at q;exact sb b o hb q
 refine⟨_,rfl,lc,rfl,⟨vs,(CF H l).seq hc⟩,?_⟩
 refine BE (xs:=vs) (fun i σ H'=>SameBut l H H'∧(∃x0 x1,σ=[some (.ref l),some (.ref lc),some (.ref ls),x0,x1])∧∃ms,H' l=some (.lst (ms.map .int))∧iQ sg (ps.drop i) ms=some r) ⟨fun b o _ q=>q,⟨x0,x1,rfl⟩,ns,hl,by simpa using e⟩ (fun i σ H' _ h=>(up h.1).seq hc) (fun i v σ H' hv h=>?_) fun σ H' h=>?_
 ·obtain⟨sb,⟨y0,y1,rfl⟩,ms,hm,ea⟩:=h
  have hi:i < ps.length:=by
   rw[←hlen]
   exact(Zbh.mp hv).1
  obtain⟨t,ht,hq⟩:=hp i ps[i] (uH hi)
  rw[hv]at ht
  cases ht
  rw[List.drop_eq_getElem_cons hi,iQ]at ea
  split at ea
  ·rename_i x y z j e1 e2 e3 e4
   split at ea
   ·rename_i hk
    refine⟨t,_,rfl,(up sb).tup hq,rfl,_,_,rfl,_,_,rfl,rfl,?_⟩
    refine⟨_,rfl,_,rfl,l,_,_,_,rfl,rfl,SqL.of hm,tT _ e1,?_⟩
    refine⟨_,rfl,_,rfl,ls,_,_,_,rfl,rfl,(up sb).seq hs,tT _ e2,?_⟩
    refine⟨_,rfl,_,rfl,_,rfl,_,_,rfl,rfl,rfl,?_⟩
    refine⟨l,_,_,_,rfl,rfl,SqL.of hm,tT _ e3,?_⟩
    refine .inl ⟨_,_,rfl,rfl,hk,?_⟩
    refine .inl ⟨_,_,rfl,rfl,?_⟩
    refine⟨_,rfl,_,rfl,l,_,_,j,rfl,rfl,hm,by rw[fw];exact e4,?_⟩
    refine⟨sb.trans (SameBut.upd _),⟨_,_,rfl⟩,ms.set j (x+y*z),?_,ea⟩
    rw[aS,List.map_set]
   ·cases ea
  ·cases ea
 ·obtain⟨sb,_,ms,hm,ea⟩:=h
  rw[hlen,List.drop_length]at ea
  cases ea
  exact hD _ _ sb hm
end
theorem EQ{K:Frag}{vs:List V}{H:Hp}{Q:VK}{E:XK}(h:Jb K mS vs H Q E):vs.length=3:=by
 obtain⟨l,us,ds0,aX,ds,ds',rfl,hl,r0,rr,e,_⟩:=h
 unfold mS at e
 split at e
 ·rw[List.length_cons,rr.len];rfl
 ·cases e
theorem vw{K:Frag}{H:Hp}:∀ns:List Int,RpA K H (ns.map V.int) (ns.map PyData.int)
 |[]=>.nil
 |n::ns=>.cons (.int n) (vw ns)
theorem iR:∀ns:List Int,aN (ns.map PyData.int)=true
 |[]=>rfl
 |n::ns=>by simp[aN,de,iR ns]
theorem ER{K:Frag}{vs:List V}{H:Hp}{Q:VK}{E:XK}{D:Ends}{N:List Str}(h:Jb K mS vs H Q E)(hD:∀σ H',Q .non H'→D.nx σ H':=by intro _ _ h;exact h)(hN:N.length=5:=by rfl):
  GL (BC K (jg 1)) (GG K 2 (uQ (rA 3) (uQ (rA 4) GF)))
   (Ec (uT (yw K) (uT (uY K) (jg 0) (jg 3)) (uT (yA K) (uT (uY K) (jg 2) (jg 4)) (uT (uY K) (jg 0) (uT (Ew (fun _ _=>true) fun i j=>.int (i - j)) (jg 3) (jg 4))))) (GH (jg 0) (jg 3) BO)) D (L2.jj N vs) H:=by
 obtain⟨l,us,ds0,aX,ds,ds',rfl,hl,r0,rr,e,q⟩:=h
 unfold mS at e
 split at e
 ·rename_i cs ss
  obtain⟨ns,e1,e⟩:=Za.mp e
  obtain⟨sg,e2,e⟩:=Za.mp e
  obtain⟨ps,e3,e⟩:=Za.mp e
  obtain⟨r,e4,rfl⟩:=Zaf.mp e
  have:=pD r0 e1
  subst this
  cases rr with
  |cons r1 rr=>
   cases rr with
   |cons r2 rr=>
    cases rr
    cases r1 with
    |lst c1 c2=>
     cases r2 with
     |lst s1 s2=>
      have:=pD s2 e2
      subst this
      obtain⟨p1,p2⟩:=vv e3 c2
      have hst:∀vs:List V,vs.length=3→L2.jj N vs=vs.map some++[none,none]:=fun vs hv=>by unfold L2.jj;rw[hN,hv];rfl
      rw[hst _ rfl]
      exact Hs hl c1 s1 p1 p2 e4 fun σ H' sb hl'=>hD σ H' (q H' _ sb hl' (vw r))
 ·cases e
def ES(i j:Nat)(fk f3:bv)(c:List PyData→List PyData→Option (List PyData)):cA:=fun E=>match E[i]?,E[j]? with
 |some (.ow ds0),some (.od kvs)=>if aN ds0 then (fk (frzAll E)).bind fun a=>match a.1 with
  |.sh kd=>(keyOf kd).bind fun k=>(fF kvs k).bind fun dsj=>(f3 (frzAll E)).bind fun b=>match b.1 with
   |.ow ds3=>if aN ds3 then (c ds0 [.list dsj,.list ds3]).map fun ds'=>(E.set i (.ow ds'),.nx)else none
   |_=>none
  |_=>none
  else none
 |_,_=>none
theorem SAll.memA{P:Option V→Sl→List Addr→Prop}{os:List (Option V)}{ss:List Sl}{A:List Addr}{k:Nat}{s:Sl}(h:SAll P os ss A)(e:ss[k]? =some s):∃o A1,os[k]? =some o∧P o s A1∧∀a∈A1,a∈A:=by
 obtain⟨o,A0,A1,A2,eA,eo,hp,_⟩:=h.at e
 exact⟨o,A1,eo,hp,fun a ha=>by rw[eA];exact rn _ (List.mem_append_left _ ha)⟩
theorem SAll.two{P:Option V→Sl→List Addr→Prop}:∀{os:List (Option V)} {ss:List Sl} {A:List Addr} {i j:Nat} {s t:Sl},SAll P os ss A→ss[i]? =some s→ss[j]? =some t→i≠j→A.Nodup→
  ∃o1 A1 o2 A2,os[i]? =some o1∧P o1 s A1∧os[j]? =some o2∧P o2 t A2∧(∀a∈A1,a∈A)∧(∀a∈A2,a∈A)∧∀a∈A1,a∉A2
 |_,_,_,_,_,_,_,.nil,e,_,_,_=>by simp at e
 |_,_,_,0,0,_,_,.cons h r,_,_,n,_=>absurd rfl n
 |_,_,_,0,j+1,s,t,.cons (o:=o) (A:=A) (B:=B) h r,e1,e2,_,nd=>by
  simp at e1
  subst e1
  obtain⟨o2,A2,eo,hp,sub⟩:=r.memA (k:=j) (by simpa using e2)
  exact⟨o,A,o2,A2,rfl,h,by simpa using eo,hp,fun a ha=>List.mem_append_left _ ha,fun a ha=>rn _ (sub a ha),fun a ha hb=>(Zav.mp nd).2.2 a ha a (sub a hb) rfl⟩
 |_,_,_,i+1,0,s,t,.cons (o:=o) (A:=A) (B:=B) h r,e1,e2,_,nd=>by
  simp at e2
  subst e2
  obtain⟨o2,A2,eo,hp,sub⟩:=r.memA (k:=i) (by simpa using e1)
  exact⟨o2,A2,o,A,by simpa using eo,hp,rfl,h,fun a ha=>rn _ (sub a ha),fun a ha=>List.mem_append_left _ ha,fun a ha hb=>(Zav.mp nd).2.2 a hb a (sub a ha) rfl⟩
 |_,_,_,i+1,j+1,s,t,.cons (o:=o) (A:=A) (B:=B) h r,e1,e2,n,nd=>by
  obtain⟨o1,A1,o2,A2,q1,q2,q3,q4,q5,q6,q7⟩:=r.two (i:=i) (j:=j) (by simpa using e1) (by simpa using e2) (fun z=>n (by rw[z])) (Zav.mp nd).2.1
  exact⟨o1,A1,o2,A2,by simpa using q1,q2,by simpa using q3,q4,fun a ha=>rn _ (q5 a ha),fun a ha=>rn _ (q6 a ha),q7⟩
section
variable {X:Cx} {ek e3:Expr} {mk m3:Bool} {fk f3:bv} {x y z:Str} {p p2 p3 sp pos spos:Pos}
theorem CG(hu:X.A.units+1 < cLine):IxR X (fun x y H Q=>∃a kvs k lj,x=.ref a∧y=kV k∧H a=some (.dK kvs)∧gR kvs k=some (.ref lj)∧Q (.ref lj) H):=by
 intro value slice pins s σ H x y v u Q I rx ry h hs
 obtain⟨a,kvs,k,lj,rfl,rfl,e,ev,q⟩:=h
 cases rx
 exact PyProof.Rows.subscriptTail_builtinR (x:=.ref lj) (ve I (DGet.k (k:=k) e)) PySem.F.slot_dict_getitem.lookup (Aa hu I (by rw[←ev];exact DGet.k e) ry fun w' s' I' r=>by cases r;exact⟨rfl,.ref lj,H,I',rfl,q⟩) hs
theorem Ht(i j:Nat){k:Nat}{ps:List Str}{c:List PyData→List PyData→Option (List PyData)}(D:Own X.prog X.w X.K X.mg X.base k x ps (Jb X.K c))(hr:Room k X.A)(hu:X.A.units+64 < cLine)(hg:Gl X x)(hk:EX X ek mk fk)(h3:EX X e3 m3 f3)
  (hN:X.N[i]? =some y:=by rfl) (hv:Br X.env.scope y:=by first |exact Or.inl rfl |exact Or.inr (Or.inl rfl) |exact Or.inr (Or.inr rfl)) (hd:(y == ("__debug__":Str))=false:=by decide) (hcd:(y == ("__classdict__":Str))=false:=by decide)
  (hN':X.N[j]? =some z:=by rfl) (hv':Br X.env.scope z:=by first |exact Or.inl rfl |exact Or.inr (Or.inl rfl) |exact Or.inr (Or.inr rfl)) (hd':(z == ("__debug__":Str))=false:=by decide) (hcd':(z == ("__classdict__":Str))=false:=by decide)
  (hpi:sY ek:=by intro _ _;rfl) (hdb:(x == ("__debug__":Str))=false:=by decide)
  (hs1:starEach [.Name y p2,.Subscript (.Name z p3) ek sp,e3] X.env=(false,eval (.Name y p2) X.env)::starEach [.Subscript (.Name z p3) ek sp,e3] X.env:=by rfl)
  (hs2:starEach [.Subscript (.Name z p3) ek sp,e3] X.env=(false,eval (.Subscript (.Name z p3) ek sp) X.env)::starEach [e3] X.env:=by rfl) (hs3:starEach [e3] X.env=[(false,eval e3 X.env)]:=by rfl)
  (hpl:(backTo pos (starEach [.Subscript (.Name z p3) ek sp,e3] X.env)).any (·.1)=false:=by rfl)
  (hsw:swapsWith (.Call (.Name x p) [.Name y p2,.Subscript (.Name z p3) ek sp,e3] [] pos) none spos.line X.env=pure false:=by rfl):
  SX X (.Expr (.Call (.Name x p) [.Name y p2,.Subscript (.Name z p3) ek sp,e3] [] pos) spos) (ES i j fk f3 c):=by
 refine ju (sT (BV D hr hg (cV (jr hN hv hd hcd) (cV (uX (CG (by omega)) (jr hN' hv' hd' hcd') hk hpi) (cV h3 fY hs3) hs2) hs1) hdb hs1 hpl) hsw) fun D σ H z=>?_
 obtain⟨B,E,xs,Xs,E',fl,⟨F,A,fr⟩,cl,e,q⟩:=z
 subst cl
 have hx:xs=[]:=by simpa using fr.len
 subst hx
 unfold ES at e
 split at e
 ·rename_i ds0 kvs ei ej
  split at e
  ·rename_i hf0
   obtain⟨⟨s1,E1⟩,e1,e⟩:=Za.mp e
   simp only at e
   split at e
   ·rename_i kd
    obtain⟨k,ekk,e⟩:=Za.mp e
    obtain⟨dsj,eg,e⟩:=Za.mp e
    obtain⟨⟨s2,E2⟩,e2,e⟩:=Za.mp e
    simp only at e
    split at e
    ·rename_i ds3
     split at e
     ·rename_i hf3
      obtain⟨ds',ec,e⟩:=Zaf.mp e
      cases e
      have nij:i≠j:=fun z=>by rw[z,ej]at ei;cases ei
      obtain⟨o1,A1,o2,A2,q1,⟨l,us,rfl,rfl,hl,r0⟩,q3,⟨lc,uc,A2,rfl,rfl,hlc,hdl⟩,q5,q6,q7⟩:=fr.sl.two (i:=i) (j:=j) (by simpa using ei) (by simpa using ej) nij fr.nd
      have eo:σ[i]? =some (some (.ref l)):=by simpa using q1
      have eoc:σ[j]? =some (some (.ref lc)):=by simpa using q3
      obtain⟨lj,vsj,evj,ljA,hlj,rj⟩:=(xh hdl).2 dsj eg
      have lA:l∈A∧l∉lc::A2:=⟨q5 l (by simp),q7 l (by simp)⟩
      refine⟨_,eo,_,eoc,H,_,[],[],_,E1,⟨H,[],fr.frzTo (Same.refl _)⟩,fun _=>(fun s hs=>by cases hs),e1,fun v1 H1 ⟨F1,B1,fr1⟩=>?_⟩
      have S1:Same H H1:=fr1.bf.trans fr1.fh
      have r1:=(fr1.look0 (d:=kd) rfl).1
      rw[tP ekk]at r1
      obtain rfl:=xa r1
      refine⟨lc,uc,k,lj,rfl,rfl,S1 _ _ hlc,evj,?_⟩
      refine⟨H1,_,[],[],_,E2,⟨H1,[],fr.frzTo S1⟩,fun _=>(fun s hs=>by cases hs),e2,fun v3 H2 ⟨F2,B2,fr2⟩=>?_⟩
      have S2:Same H1 H2:=fr2.bf.trans fr2.fh
      have S12:Same H H2:=S1.trans S2
      obtain⟨v3',C3,ev3,⟨l3,vs3,el3,rfl,hl3,r3⟩,m3⟩:=fr2.sl.memA (k:=0) (s:=.ow ds3) rfl
      cases ev3
      cases el3
      have f3n:F2 l3=none:=fr2.fr l3 (m3 l3 (by simp))
      have l3n:l3≠l:=fun z=>by
       have:=fr2.bf _ _ (S1 _ _ hl)
       rw[←z,f3n]at this
       cases this
      have hl2:=S12 _ _ hl
      have ljl:lj≠l:=fun z=>lA.2 (by rw[←z];exact gq _ ljA)
      have sF:Same F (but H2 l):=fun b o qb=>by
       have hb:b≠l:=fun z=>by rw[z,fr.fr l lA.1]at qb;cases qb
       rw[nN hb]
       exact S12 _ _ (fr.fh _ _ qb)
      refine⟨l,us,ds0,[.ref lj,.ref l3],[.list dsj,.list ds3],ds',rfl,hl2,(((r0.same fr.fh).same S12).cold hf0).same (vt hl2),.cons (.lst (SqL.of (by rw[nN ljl];exact S12 _ _ hlj)) (rj.same sF)) (.cons (.lst (SqL.of (by rw[nN l3n];exact hl3)) (((r3.same fr2.fh).cold hf3).same (vt hl2))) .nil),ec,fun H' us' sb hl' r'=>?_⟩
      obtain⟨F',fr3⟩:=fr.mutGrow ei (fun s hs=>by cases hs) eo hl ((S12.but l).trans sb) hl' r'
      exact q _ _ ⟨_,_,fr3⟩
     ·cases e
    ·cases e
   ·cases e
  ·cases e
 ·cases e
end
end PL
namespace PL
open PySem L2 Nh PyProof.Rows
theorem rX:∀(r:List Int) (n:Int),n≤r.foldl max n∧(∀a∈r,a≤r.foldl max n)∧(r.foldl max n=n∨r.foldl max n∈r)
 |[],n=>⟨Int.le_refl _,(fun _ h=>by cases h),Or.inl rfl⟩
 |b::r,n=>by
  obtain⟨h1,h2,h3⟩:=rX r (max n b)
  rw[List.foldl_cons]
  have m1:n≤max n b:=by omega
  have m2:b≤max n b:=by omega
  refine⟨Int.le_trans m1 h1,fun a ha=>?_,?_⟩
  ·rcases Zal.mp ha with z |z
   ·rw[z];exact Int.le_trans m2 h1
   ·exact h2 a z
  ·rcases h3 with z |z
   ·rw[z]
    by_cases hb:b≤n
    ·exact Or.inl (by omega)
    ·exact Or.inr (by rw[show max n b=b by omega];exact gJ ..)
   ·exact Or.inr (gq _ z)
section
variable {X:Cx} {e:Expr} {es:List Expr} {m1:Bool} {g:pR} {p pos:Pos}
theorem vx:∀{ns:List Int} {us:List Value},Vals (ns.map V.int) us→PyProof.Rows.IntsAre us ns
 |[],_,.nil=>.nil
 |n::ns,_,.cons h t=>by
  obtain⟨tk,rfl⟩:=h
  exact .cons n tk (vx t)
end
end PL
namespace NhMaxD
open PySem PyProof.Rows
theorem CH(a d:Value):argsOk "max" ⟨[a],[("default",d)]⟩:=by unfold argsOk;kernel_rfl
section
variable {prog:Program} {w:World} {A:Around} {E:Value→Shared→Prop} {R:Result→Shared→Prop} {I:Addr} {fp wr:List Addr} {St:Nat→Heap→Prop}
abbrev Jc(h:Heap)(S:Addr)(vs:Array Value):Prop:=∃c,h.get? S=some {cls:=.type "list",dict:=none,data:=.seq vs c,slots:=#[]}
theorem zH{ns:List Int}(W:Walks prog w A.in1 I fp wr ns.length (fun i v=>∃t,v=.int (ns.getD i 0) t) St)(S:Addr)(hSf:S∉fp)(d:Value):
  ∀(k j:Nat) (s:Shared) (m:Int) (t:Tok),ns.length - j=k→j≤ns.length→St j s.heap→Jc s.heap S #[.int m t,.int m t]→
   (∀t' h' tk,(∀b o,b∉S::wr→s.heap.get? b=some o→h'.get? b=some o)→R (.ok (.ret (.int ((ns.drop j).foldl max m) t'))) {s with heap:=h',toks:=tk})→
   codeAny (model prog w) A (.builtin "max.loop" ⟨[.ref I,.none,.ref S],[("default",d)]⟩) R s:=by
 have hSw:S∉wr:=fun h=>hSf (W.sub _ h)
 have hnm:(toString "max"++toString ".loop":String)="max.loop":=by decide
 intro k
 induction k with
 |zero=>
  rintro j s m t hk hj st ⟨c,hS⟩ hR
  have hjn:j=ns.length:=by omega
  refine codeAny_builtin PySem.F.entry_max_loop ?_
  rw[Around.under_plainId PySem.F.plain_max_loop _]
  refine wpAny_bind (m:=seqItems? (.ref S)) (wpAny_seqItems hS rfl ?_)
  refine wpAny_bind (m:=tryCatch (pyNext (.ref I)) _) (wpAny_tryCatch (W.done s _ _ (by rw[←hjn];exact st) fun h' tk kp=>?_))
  refine wpAny_bind (m:=updateSeq S (fun _=>#[])) (wpAny_updateSeq (kp S _ hSw hS) rfl (wpAny_bind (wpAny_letGo (wpAny_pure ?_))))
  have e:(ns.drop j).foldl max m=m:=by rw[hjn,List.drop_length];rfl
  rw[e]at hR
  exact hR t _ tk fun b o hb q=>(Heap.get?_update_other _ _ (fun z:S=b=>hb (by rw[←z];exact gJ ..))).trans (kp b o (fun z=>hb (gq _ z)) q)
 |succ k ih=>
  rintro j s m t hk hj st ⟨c,hS⟩ hR
  have hlt:j < ns.length:=by omega
  refine codeAny_builtin PySem.F.entry_max_loop ?_
  rw[Around.under_plainId PySem.F.plain_max_loop _]
  refine wpAny_bind (m:=seqItems? (.ref S)) (wpAny_seqItems hS rfl ?_)
  refine wpAny_bind (m:=tryCatch (pyNext (.ref I)) _) (wpAny_tryCatch (W.item j s _ _ hlt st fun v h' tk hv st' kp=>?_))
  obtain⟨u,rfl⟩:=hv
  have hS':=kp S _ hSw hS
  have eg:ns.getD j 0=ns[j]:=by simp[hlt]
  rw[eg]
  have ed:(ns.drop j).foldl max m=(ns.drop (j+1)).foldl max (max m ns[j]):=by rw[List.drop_eq_getElem_cons hlt,List.foldl_cons]
  rw[ed]at hR
  have cmp:=CmpOf.ints_gt (prog:=prog) (w:=w) (A:=A.in1) (P:=fun i v=>∃t,v=.int (if i=0 then ns[j]else m) t) (fun i=>if i=0 then ns[j]else m) (fun _ _ z=>z)
  refine wpAny_bind (m:=tryCatch (holding [.int ns[j] u,.int ns[j] u] (richCompare .Gt (.int ns[j] u) (.int m t) >>= _)) _) (wpAny_tryCatch (wpAny_holding (wpAny_bind (cmp 0 1 _ _ _ _ _ ⟨u,rfl⟩ ⟨t,rfl⟩ ?_))))
  refine wpAny_bind (wpAny_holding (wpAny_truthy_bool ?_))
  refine wpAny_bind (wpAny_letGo (wpAny_pure ?_))
  simp only[Nat.one_ne_zero,aU]
  by_cases hb:ns[j] > m
  ·simp only[hb,aU]
   refine wpAny_bind (wpAny_updateSeq hS' rfl (wpAny_bind (wpAny_letGo ?_)))
   rw[hnm]
   rw[show max m ns[j]=ns[j] by omega]at hR
   refine wpAny_pure ⟨plainId_quiet PySem.F.plain_max_loop _,ih (j+1) _ ns[j] u (by omega) hlt (W.frame _ _ _ st' fun b hbf o e=>?_) ⟨_,Heap.get?_update_self _ hS' rfl⟩ fun t' h2 tk2 k2=>?_⟩
   ·exact(Heap.get?_update_other _ _ (fun z:S=b=>hSf (by rw[z];exact hbf))).trans e
   ·exact hR t' h2 tk2 fun b o hbb e=>k2 b o hbb ((Heap.get?_update_other _ _ (fun z:S=b=>hbb (by rw[←z];exact gJ ..))).trans (kp b o (fun z=>hbb (gq _ z)) e))
  ·simp only[hb,aU]
   refine wpAny_bind (wpAny_letGo ?_)
   rw[hnm]
   rw[show max m ns[j]=m by omega]at hR
   refine wpAny_pure ⟨plainId_quiet PySem.F.plain_max_loop _,ih (j+1) _ m t (by omega) hlt st' ⟨_,hS'⟩ fun t' h2 tk2 k2=>?_⟩
   exact hR t' h2 tk2 fun b o hbb e=>k2 b o hbb (kp b o (fun z=>hbb (gq _ z)) e)
def CI:List Int→Int→Int
 |[],d=>d
 |n::r,_=>r.foldl max n
theorem call{s:Shared}{l:Addr}{items:Array Value}{ns:List Int}{d:Int}{td:Tok}{Q:Value→Shared→Prop}(hh:A.handled=none)(hl:s.heap.IsList l items)(hi:IntsAre items.toList ns)
  (h:∀t h' tk,(∀b o,s.heap.get? b=some o→h'.get? b=some o)→Q (.int (CI ns d) t) {s with heap:=h',toks:=tk}):
  wpAny (model prog w) A (PySem.call (.builtin "max") [.ref l] [("default",.int d td)]) Q E s:=by
 have hnm:(toString "max"++toString ".loop":String)="max.loop":=by decide
 refine wpAny_call (codeAny_call_builtin PySem.F.plain_max PySem.F.entry_max ?_)
 simp only[checkBuiltinCall,PySem.F.kind_max]
 have key:wpAny (model prog w) A.in1 (Builtin.«max» ⟨[.ref l],[("default",.int d td)]⟩) (fun fin s'=>match fin with
   |.done f=>(match (Except.ok f:Result)with |.ok (.ret v)=>Q v s' |.ok _=>False |.error e=>E e s')
   |.again c'=>c'.quiet=true∧codeAny (model prog w) A c' (fun r s'=>match r with |.ok (.ret v)=>Q v s' |.ok _=>False |.error e=>E e s') s') E s:=by
  refine wpAny_bind (m:=Builtin.Builtins.bindParams "max" ["key","default"] 0 ⟨[],[("default",.int d td)]⟩) (wpAny_of_eq (a:=[none,some (.int d td)]) rfl ?_)
  refine wpAny_bind (wpAny_pure ?_)
  refine wpAny_bind (wpAny_pyIter_list hl ?_)
  refine wpAny_bind (wpAny_newObj_type ?_)
  rw[hnm]
  have hlen:items.size=ns.length:=by have:=hi.length;simpa using this
  have hlt:l < s.heap.objs.size:=let ⟨_,ho,_⟩:=hl;jf ho
  have hI:(s.heap.push {cls:=.type "list_iterator",data:=.fields #[.ref l,.int 0 0]}).objs.size=s.heap.objs.size+1:=by rw[Heap.size_push]
  have W0:=Walks.list (prog:=prog) (w:=w) (A:=A.in1) (by simpa using hh) s.heap.objs.size l (jT hlt) items
  have W:Walks prog w A.in1 s.heap.objs.size [s.heap.objs.size,l] [s.heap.objs.size] ns.length (fun i v=>∃t,v=.int (ns.getD i 0) t) (fun i h=>h.IsListIter s.heap.objs.size l i∧h.IsList l items):=by
   rw[←hlen]
   exact⟨W0.sub,W0.frame,fun i s Q E hi' st hQ=>W0.item i s Q E hi' st fun v h' tk hv st' kp=>hQ v h' tk (IntsAre.int_at hi i v (by rw[Array.getElem?_toList];exact hv)) st' kp,W0.done,W0.self⟩
  have hSf:(s.heap.push {cls:=.type "list_iterator",data:=.fields #[.ref l,.int 0 0]}).objs.size∉[s.heap.objs.size,l]:=by
   rw[hI]
   intro z
   rcases Zal.mp z with z |z
   ·exact absurd z (Nat.ne_of_gt (Nat.lt_succ_self _))
   ·exact absurd (Zag.mp z) (Nat.ne_of_gt (wK hlt))
  have st0:∀o,(fun i (h:Heap)=>h.IsListIter s.heap.objs.size l i∧h.IsList l items) 0 ((s.heap.push {cls:=.type "list_iterator",data:=.fields #[.ref l,.int 0 0]}).push o):=fun o=>
   ⟨⟨_,iB _ (l_ _ rfl),rfl,rfl⟩,(hl.push _).push _⟩
  have old:∀b o q,s.heap.get? b=some o→((s.heap.push {cls:=.type "list_iterator",data:=.fields #[.ref l,.int 0 0]}).push q).get? b=some o∧b∉[(s.heap.push {cls:=.type "list_iterator",data:=.fields #[.ref l,.int 0 0]}).objs.size,s.heap.objs.size]:=fun b o q e=>by
   have hb:=jf e
   refine⟨iB _ (iB _ e),fun z=>?_⟩
   rw[hI]at z
   rcases Zal.mp z with z |z
   ·exact absurd z (jT (wK hb))
   ·exact absurd (Zag.mp z) (jT hb)
  refine wpAny_pure ⟨plainId_quiet PySem.F.plain_max_loop _,codeAny_builtin PySem.F.entry_max_loop ?_⟩
  rw[Around.under_plainId PySem.F.plain_max_loop _]
  refine wpAny_bind (m:=seqItems? (.ref _)) (wpAny_seqItems (l_ _ rfl) rfl ?_)
  cases ns with
  |nil=>
   refine wpAny_bind (m:=tryCatch (pyNext (.ref s.heap.objs.size)) _) (wpAny_tryCatch (W.done _ _ _ (st0 _) fun h' tk kp=>?_))
   refine wpAny_bind (wpAny_rule (wpAny_pure ?_))
   exact h td h' tk fun b o e=>kp b o (fun z=>(old b o {cls:=.none} e).2 (gq _ z)) (old b o _ e).1
  |cons n r=>
   refine wpAny_bind (m:=tryCatch (pyNext (.ref s.heap.objs.size)) _) (wpAny_tryCatch (W.item 0 _ _ _ (by simp) (st0 _) fun v h' tk hv st' kp=>?_))
   obtain⟨u,rfl⟩:=hv
   have hS':=kp _ _ (fun z=>hSf (W.sub _ z)) (l_ _ rfl)
   refine wpAny_bind (m:=updateSeq _ (fun _=>#[.int n u,.int n u])) (wpAny_updateSeq hS' rfl ?_)
   rw[hnm]
   refine wpAny_pure ⟨plainId_quiet PySem.F.plain_max_loop _,zH W _ hSf _ _ 1 _ n u rfl (by simp) (W.frame _ _ _ st' fun b hbf o e=>?_) ⟨_,Heap.get?_update_self _ hS' rfl⟩ fun t' h2 tk2 k2=>?_⟩
   ·exact(Heap.get?_update_other _ _ (fun z=>hSf (by rw[z];exact hbf))).trans e
   ·refine h t' h2 tk2 fun b o e=>k2 b o (old b o {cls:=.none} e).2 ((Heap.get?_update_other _ _ (fun z=>(old b o {cls:=.none} e).2 (by rw[←z];exact gJ ..))).trans (kp b o (fun z=>(old b o {cls:=.none} e).2 (gq _ z)) (old b o _ e).1))
 cases hsig:Manifest.signature? "max" with
 |none=>exact wpAny_pure key
 |some sig=>
  have ha:=CH (.ref l) (.int d td)
  simp only[argsOk,hsig]at ha
  show wpAny _ A.in1 (Bind.checkArgs "max" sig ⟨[.ref l],[("default",.int d td)]⟩) _ _ s
  rw[show Bind.checkArgs "max" sig ⟨[.ref l],[("default",.int d td)]⟩=pure ()from ha]
  exact wpAny_pure key
end
end NhMaxD
namespace PL
open PySem L2 Nh
def yL(c:Int)(f:bv):bv:=fun E=>(f E).bind fun a=>match look a.2 a.1 with
 |some (.list ds)=>(oF ds).map fun ns=>(.sh (.int (NhMaxD.CI ns c)),a.2)
 |_=>none
section
variable {X:Cx} {e:Expr} {m:Bool} {f:bv} {p pos kp cp:Pos} {j:Nat} {c:Int}
theorem ET (hc:X.calm=true) (hg:Gl X "max") (hm:X.mg "max"=none) (ha:EX X e m f) (he:starEach [e] X.env=[(false,eval e X.env)]:=by rfl)
  (he':backTo pos (starEach [e] X.env)=(false,eval e X.env)::backTo pos (starEach [] X.env):=by rfl) (hpl:(backTo pos (starEach [e] X.env)).any (·.1)=false:=by rfl)
  (hall:(backToKw pos (keywordEach [⟨some "default",.Constant (.int c) j cp,kp⟩] X.env)).all (·.1.isSome)=true:=by rfl) (hkw:(backToKw pos (keywordEach [⟨some "default",.Constant (.int c) j cp,kp⟩] X.env)).any (·.1.isNone)=false:=by rfl)
  (hnm:(backToKw pos (keywordEach [⟨some "default",.Constant (.int c) j cp,kp⟩] X.env)).filterMap (·.1)=[Str.ofString "default"]:=by rfl):
  EX X (.Call (.Name "max" p) [e] [⟨some "default",.Constant (.int c) j cp,kp⟩] pos) m (yL c f):=by
 intro pins s σ H Q I z
 obtain⟨B,E,xs,Xs,res,E',fr,cl,e0,q⟩:=z
 obtain⟨⟨s1,E1⟩,e1,e2⟩:=Za.mp e0
 simp only at e2
 split at e2
 ·rename_i ds ld
  obtain⟨ns,en,e3⟩:=Zaf.mp e2
  cases e3
  refine wpAny_Call_Name_kw (jU I hg hm PyProof.Rows.boot_max ?_ (by decide) (by decide))
  refine PyProof.Rows.callWith_kw (fc (cV ha fY he pos pins s σ H (fun vs H1=>∃p,vs=[.ref p]∧SqL X.K H1 p (ns.map V.int)∧Q (.int (NhMaxD.CI ns c)) H1) I ⟨B,E,xs,Xs,s1,_,fr,cl,e1,fun v1 H1 ⟨F,A,fr1⟩=>?_⟩) fun us s2 ⟨vs,H1,I1,r1,p0,ev,hq,q1⟩=>?_) he' hpl hall hkw
  ·obtain⟨A',fr2⟩:=fr1.pop
   have r:=(fr1.look0 ld).1
   cases r with
   |lst h1 h2=>
    have:=pD h2 en
    subst this
    exact⟨_,rfl,h1,q _ _ ⟨F,_,fr2.push ⟨rfl,_,rfl,.int _⟩⟩⟩
  ·subst ev
   cases r1 with
   |cons r rr=>
    cases rr
    cases r
    refine PyProof.Rows.kws_cons (wpAny_Constant_int (PyProof.Rows.kws_nil ?_))
    rw[hnm]
    have I2:=I1.tok (s2.toks+1)
    obtain⟨its,rv,pl,hz⟩:=I2.list hq
    exact NhMaxD.call (I1.ok.hd hc) pl.isList (by simpa using vx rv) fun t h' tk kpp=>⟨.int _,H1,I2.kept kpp,⟨_,rfl⟩,q1⟩
 ·cases e2
end
end PL
namespace PL
open PySem L2 Nh
def uI(a b:Str):Bool:=decide (a.cps.toList≤b.cps.toList)
def oG(ss:List Str):List Str:=ss.mergeSort uI
theorem nQ(a b c:Str)(h:uI a b=true)(k:uI b c=true):uI a c=true:=decide_eq_true (List.le_trans (of_decide_eq_true h) (of_decide_eq_true k))
theorem rY(a b:Str):(uI a b||uI b a)=true:=by
 rcases List.le_total a.cps.toList b.cps.toList with h |h
 ·simp[uI,h]
 ·simp[uI,h]
theorem vy{a b:Str}(h:uI a b=true)(k:uI b a=true):a=b:=by
 have e:=List.le_antisymm (of_decide_eq_true h) (of_decide_eq_true k)
 cases a;cases b
 simp only at e
 rw[Array.toList_inj.mp e]
theorem rZ:∀(p:Str) (l:List Str),PyProof.Rows.risingS p l=true→(p::l).Pairwise (fun a b=>uI a b=true)
 |p,[],_=>by simp
 |p,x::r,h=>by
  have h':(!PySem.Spec.ltCps x.cps.toList p.cps.toList&&PyProof.Rows.risingS x r)=true:=h
  rw[wL,PyProof.Rows.ltCps_eq]at h'
  have ih:=rZ x r h'.2
  have hpx:uI p x=true:=by
   have:=h'.1
   simp only[Bool.not_eq_true',decide_eq_false_iff_not]at this
   exact decide_eq_true this
  refine List.pairwise_cons.mpr ⟨fun y hy=>?_,ih⟩
  rcases Zal.mp hy with rfl |hy
  ·exact hpx
  ·exact nQ p x y hpx ((List.pairwise_cons.mp ih).1 y hy)
theorem As:∀l:List Str,PyProof.Rows.sortedS l=true→l.Pairwise (fun a b=>uI a b=true)
 |[],_=>List.Pairwise.nil
 |x::r,h=>rZ x r h
theorem xj{a b:List Str}(p:a.Perm b)(h:PyProof.Rows.sortedS a=true):a=oG b:=
 List.Perm.eq_of_pairwise (fun _ _ _ _ h k=>vy h k) (As a h) (List.pairwise_mergeSort nQ rY b) (p.trans (List.mergeSort_perm b uI).symm)
theorem r8(ss:List Str):(oG ss).length=ss.length:=(List.mergeSort_perm ss uI).length_eq
section
variable {X:Cx} {e:Expr} {m1:Bool} {f:bv} {p pos:Pos}
theorem vz:∀{ss:List Str} {us:List Value},Vals (ss.map V.str) us→PyProof.Rows.StrsAre us ss
 |[],_,.nil=>.nil
 |s::ss,_,.cons h t=>by obtain⟨tk,rfl⟩:=h;exact .cons _ _ (vz t)
theorem vA:∀{ss:List Str} {us:List Value},PyProof.Rows.StrsAre us ss→Vals (ss.map V.str) us
 |[],_,.nil=>.nil
 |_::_,_,.cons y t h=>.cons ⟨t,rfl⟩ (vA h)
def mT:List PyData→Option (List Str)
 |[]=>some []
 |.str x::ds=>(mT ds).map (x:: ·)
 |_=>none
theorem tU{K:Frag}{H:Hp}:∀{vs:List V} {ds:List PyData} {bs:List Str},RpA K H vs ds→mT ds=some bs→vs=bs.map V.str
 |_,_,bs,.nil,e=>by cases e;rfl
 |_,_,bs,.cons (d:=d) h t,e=>by
  cases d <;> simp[mT]at e
  obtain⟨cs,e,rfl⟩:=e
  cases h
  rw[tU t e]
  rfl
theorem mU{K:Frag}{H:Hp}:∀ss:List Str,RpA K H (ss.map V.str) (ss.map PyData.str)
 |[]=>.nil
 |s::ss=>.cons (.str s) (mU ss)
end
end PL
namespace PL
open PySem L2 Nh
def D4(ks:List Str)(x:Str):List Str:=if x∈ks then ks else ks++[x]
def kP(ss:List Str):List Str:=ss.foldl D4 []
def mV(x:Str):List Str:=x.cps.toList.map fun c=>⟨#[c]⟩
def kQ(g:bv):bv:=fun E=>(g E).bind fun a=>match look a.2 a.1 with
 |some (.list ds)=>(mT ds).bind fun ss=>if ss.length < 4000∧(kP ss).length < 64 then some (.ow ((oG (kP ss)).map .str),a.2)else none
 |some (.str x)=>if (mV x).length < 4000∧(kP (mV x)).length < 64 then some (.ow ((oG (kP (mV x))).map .str),a.2)else none
 |_=>none
end PL
namespace NhSet
open PySem PyProof.Rows
structure SS (w:World) (b:Bool) (ks:List Str) (es:Array (Int×Value)) (t:SetTable):Prop where
 perm:(es.toList.map (fun e=>strOf e.2)).Perm ks
 elems:∀e∈es.toList,∃x tk,e=(hashStr w x,Value.str x tk)
 bound:es.size < scanBound
 fits:t.fits es.size=true
 led:t.led=b
 plain:es.size≠0→t.plain=false
abbrev dO(es:Array (Int×Value))(ep:Nat)(t:SetTable):Obj:={cls:=.type "set",dict:=none,data:=.set es ep t}
def StrSet(w:World)(h:Heap)(a:Addr)(b:Bool)(ks:List Str):Prop:=∃es ep t,h.get? a=some (dO es ep t)∧SS w b ks es t
theorem StrSet.at'{w:World}{h h':Heap}{a:Addr}{b:Bool}{ks:List Str}(S:StrSet w h a b ks)(e:∀o,h.get? a=some o→h'.get? a=some o):StrSet w h' a b ks:=
 let ⟨es,ep,t,ho,r⟩:=S;⟨es,ep,t,e _ ho,r⟩
theorem StrSet.obj{w:World}{h:Heap}{a:Addr}{b:Bool}{ks:List Str}(S:StrSet w h a b ks):∃o,h.get? a=some o:=let ⟨_,_,_,ho,_⟩:=S;⟨_,ho⟩
theorem SS.elemsOf{prog:Program}{w:World}{b:Bool}{ks:List Str}{es:Array (Int×Value)}{t:SetTable}(S:SS w b ks es t):ElemsOf (strKind prog w) es.toList:=fun e he=>by
 obtain⟨x,tk,rfl⟩:=S.elems e he
 exact⟨⟨x,by simp[PySem.strKind,Value.isStrOf],rfl⟩,rfl⟩
theorem SS.len{w:World}{b:Bool}{ks:List Str}{es:Array (Int×Value)}{t:SetTable}(S:SS w b ks es t):es.size=ks.length:=by
 have:=S.perm.length_eq;simpa using this
theorem SS.mem{w:World}{b:Bool}{ks:List Str}{es:Array (Int×Value)}{t:SetTable}(S:SS w b ks es t)(x:Str):x∈ks↔∃e∈es.toList,Value.isStrOf x e.2=true:=by
 rw[←S.perm.mem_iff,Zbc]
 constructor
 ·rintro⟨e,he,rfl⟩
  obtain⟨y,tk,rfl⟩:=S.elems e he
  exact⟨_,he,by simp[Value.isStrOf,strOf]⟩
 ·rintro⟨e,he,hx⟩
  obtain⟨y,tk,rfl⟩:=S.elems e he
  have:y=x:=by simpa[Value.isStrOf]using hx
  exact⟨_,he,by simp[strOf,this]⟩
theorem SetTable.orStandIn_led(t:SetTable)(n:Nat):(t.orStandIn n).led=t.led:=by
 unfold SetTable.orStandIn;split <;> rfl
theorem xk(t:SetTable)(es:Array (Int×Value))(h:Int)(x:Value):(layNew t es h x).2.1.led=t.led:=by
 unfold layNew
 split
 ·exact SetTable.orStandIn_led _ _
 ·rfl
theorem xl{mask finger moves:Nat}{led plain:Bool}{hashes:Array Int}{t':SetTable}{order:Array Nat}(h:SetTable.laid mask finger moves led plain hashes=some (t',order)):t'.led=led∧t'.plain=plain:=by
 unfold SetTable.laid at h
 cases hc:SetTable.layClean mask hashes with
 |none=>rw[hc]at h;simp at h
 |some ow=>rw[hc]at h;simp at h;rw[←h.1];exact⟨rfl,rfl⟩
theorem qj(t:SetTable)(es:Array (Int×Value))(wanted:Nat)(hp:t.plain=false):(relayAll t es wanted).2.1.led=t.led∧(relayAll t es wanted).2.1.plain=false:=by
 unfold relayAll
 split
 ·rename_i t' order hr
  dsimp only
  split
  ·have:=xl hr
   exact⟨this.1,this.2.trans hp⟩
  ·exact⟨rfl,rfl⟩
 ·exact⟨rfl,rfl⟩
section
variable {prog:Program} {w:World} {A:Around} {E:Value→Shared→Prop} {s:Shared}
theorem qT(es es':Array (Int×Value))(ep:Nat)(t t':SetTable):Obj.putSet es' t' (dO es ep t)=dO es' (ep+1) t':=rfl
theorem vB{h:Heap}{a:Addr}{es es':Array (Int×Value)}{ep:Nat}{t t':SetTable}(ho:h.get? a=some (dO es ep t)):(h.update a (Obj.putSet es' t')).get? a=some (dO es' (ep+1) t'):=
 Heap.get?_update_self (Obj.putSet es' t') ho (by rw[qT];rfl)
theorem yM{g:Bool→Sem Unit}(hg:∀(b:Bool) (s₁:Shared) (Q':Unit→Shared→Prop),Q' () s₁→wpAny (model prog w) A (g b) Q' E s₁)
  {a:Addr} {es:Array (Int×Value)} {ep:Nat} {t:SetTable} (ho:s.heap.get? a=some (dO es ep t))
  {es1:Array (Int×Value)} {t2:SetTable} {b:Bool} {ks:List Str} (S:SS w b ks es1 t2) (hp:t2.plain=false) {wasDummy:Bool} {R:Option Bool→Shared→Prop}
  (h:∀h',Heap.SameBut a s.heap h'→StrSet w h' a b ks→R (some true) {s with heap:=h'}):
  wpAny (model prog w) A (do
    storeSet a es1 t2
    if (!wasDummy&&t2.tooFull)=true then do
      g (relayAll t2 es1 (SetTable.grown es1.size)).2.2
      storeSet a (relayAll t2 es1 (SetTable.grown es1.size)).1 (relayAll t2 es1 (SetTable.grown es1.size)).2.1
      pure (some true)
     else pure (some true)) R E s:=by
 refine wpAny_bind (wpAny_storeSet_of ho rfl ?_ (fits_of_scanBound S.bound))
 have ho1:=vB (es':=es1) (t':=t2) ho
 have hsb1:=Heap.SameBut.update s.heap a (Obj.putSet es1 t2)
 split
 ·have hpm:=relayAll_perm t2 es1 (SetTable.grown es1.size)
  have hfr:=relayAll_fits t2 es1 (SetTable.grown es1.size)
  have hmk:=qj t2 es1 (SetTable.grown es1.size) hp
  generalize hRl:relayAll t2 es1 (SetTable.grown es1.size)=Rl at hpm hfr hmk ⊢
  obtain⟨es2,t3,gave2⟩:=Rl
  dsimp only at hpm hfr hmk ⊢
  have hsz:es2.size=es1.size:=by rw[←wJ,hpm.length_eq,wJ]
  have hb2:es2.size < scanBound:=by rw[hsz];exact S.bound
  have S2:SS w b ks es2 t3:=⟨(hpm.map _).trans S.perm,fun e he=>S.elems e (hpm.mem_iff.mp he),hb2,hfr,hmk.1.trans S.led,fun _=>hmk.2⟩
  refine wpAny_bind (hg _ _ _ ?_)
  refine wpAny_bind (wpAny_storeSet_of ho1 rfl ?_ (fits_of_scanBound hb2))
  exact wpAny_pure (h _ (hsb1.trans (Heap.SameBut.update _ a _)) ⟨es2,_,t3,vB ho1,S2⟩)
 ·exact wpAny_pure (h _ hsb1 ⟨es1,_,t2,ho1,S⟩)
def o5(ks:List Str)(x:Str):List Str:=if x∈ks then ks else ks++[x]
theorem nR{a:Addr}{b:Bool}{ks:List Str}{x:Str}{tk:Tok}{Q:Bool→Shared→Prop}(hS:StrSet w s.heap a b ks)(hroom:ks.length+1 < scanBound)
  (h:∀(r:Bool) h',Heap.SameBut a s.heap h'→StrSet w h' a b (o5 ks x)→Q r {s with heap:=h'}):
  wpAny (model prog w) A (setAddHashed a (.str x tk) (hashStr w x)) Q E s:=by
 obtain⟨es,ep,t,ho,S⟩:=hS
 have hb1:es.size+1 < scanBound:=by rw[S.len];exact hroom
 have hel:=S.elemsOf (prog:=prog)
 have hkey:(strKind prog w).is x (.str x tk)=true:=by simp[PySem.strKind,Value.isStrOf]
 unfold setAddHashed setAddHashedIn
 refine wpAny_holding (wpAny_bind (wpAny_setState_of ho rfl S.fits ?_))
 dsimp only
 rw[byScan_of (knd:=strKind prog w) (x:=.str x tk) rfl S.bound hel]
 simp only[↓reduceIte]
 unfold setAddByScan
 refine wpAny_bind ?_
 refine wpAny_bind (wpAny_rule ?_)
 refine wpAny_bind (wpAny_setScan_of (knd:=strKind prog w) hkey ho rfl S.fits hel ?_)
 cases hr:List.findIdx? (fun e=>(strKind prog w).is x e.2) es.toList with
 |some j=>
  dsimp only
  obtain⟨hj,hpj,_⟩:=List.findIdx?_eq_some_iff_getElem.mp hr
  have hk:x∈ks:=(S.mem x).mpr ⟨es.toList[j],List.getElem_mem hj,hpj⟩
  refine wpAny_pure (wpAny_pure ?_)
  have e:s={s with heap:=s.heap}:=by cases s;rfl
  rw[e]
  exact h _ s.heap (Heap.SameBut.refl a s.heap) (by rw[o5,if_pos hk];exact⟨es,ep,t,ho,S⟩)
 |none=>
  dsimp only
  have hk:x∉ks:=fun hk=>by
   obtain⟨e,he,hp⟩:=(S.mem x).mp hk
   have:=List.findIdx?_eq_none_iff.mp hr e he
   rw[show(strKind prog w).is x e.2=true from hp]at this;exact Bool.noConfusion this
  have hgw:∀(b:Bool) {s₁:Shared} {Q':Unit→Shared→Prop},Q' () s₁→wpAny (model prog w) A (match b with |true=>rule "set.scan.the-table-gave-way" |false=>pure ()) Q' E s₁:=
   fun b s₁ Q' hq=>by cases b <;> first |exact wpAny_pure hq |exact wpAny_rule hq
  have hperm:=layNew_perm t es (hashStr w x) (.str x tk)
  have hfits:=layNew_fits t es (hashStr w x) (.str x tk)
  have hled:=xk t es (hashStr w x) (.str x tk)
  generalize hL:layNew t es (hashStr w x) (.str x tk)=L at hperm hfits hled ⊢
  obtain⟨es1,t1,wasDummy,gave⟩:=L
  dsimp only at hperm hfits hled ⊢
  rw[Array.toList_push]at hperm
  have hb1':es1.size < scanBound:=by rw[←wJ,hperm.length_eq,pI,wJ];simpa using hb1
  have hpm:(es1.toList.map (fun e=>strOf e.2)).Perm (ks++[x]):=(hperm.map _).trans (by rw[lO];exact S.perm.append_right _)
  have hel1:∀e∈es1.toList,∃x tk,e=(hashStr w x,Value.str x tk):=fun e he=>by
   rcases Zaj.mp (hperm.mem_iff.mp he)with z |z
   ·exact S.elems e z
   ·exact⟨x,tk,Zag.mp z⟩
  refine wpAny_bind (hgw _ ?_)
  split
  ·refine wpAny_bind ?_
   rw[hashByValue_scannable 8 (x:=.str x tk) rfl]
   refine wpAny_pure ?_
   simp only[plainKind,Bool.false_eq_true,↓reduceIte]
   refine yM ?_ ho (t2:={t1 with plain:=false}) (ks:=o5 ks x) (b:=b) ⟨by rw[o5,if_neg hk];exact hpm,hel1,hb1',SetTable.fits_plain_off hfits,hled.trans S.led,fun _=>rfl⟩ rfl ?_
   ·intro b s₁ Q' hq;cases b <;> first |exact wpAny_pure hq |exact wpAny_rule hq
   ·intro h' hsb hS';dsimp only;exact wpAny_pure (h _ h' hsb hS')
  ·rename_i hpl
   refine wpAny_bind (wpAny_pure ?_)
   simp only[↓reduceIte]
   have hpl':t1.plain=false:=by simpa using hpl
   refine yM ?_ ho (ks:=o5 ks x) (b:=b) ⟨by rw[o5,if_neg hk];exact hpm,hel1,hb1',hfits,hled.trans S.led,fun _=>hpl'⟩ hpl' ?_
   ·intro b s₁ Q' hq;cases b <;> first |exact wpAny_pure hq |exact wpAny_rule hq
   ·intro h' hsb hS';dsimp only;exact wpAny_pure (h _ h' hsb hS')
end
def mi(val:Nat→Str)(i:Nat):List Str:=((List.range i).map val).foldl o5 []
theorem r_(val:Nat→Str)(i:Nat):mi val (i+1)=o5 (mi val i) (val i):=by
 unfold mi;rw[List.range_succ,lO,List.foldl_append];rfl
theorem CJ(ks:List Str)(x:Str):(o5 ks x).length≤ks.length+1:=by
 unfold o5;split
 ·omega
 ·simp
theorem vC(val:Nat→Str):∀i,(mi val i).length≤i
 | 0=>gi _
 |i+1=>by rw[r_];have:=vC val i;have:=CJ (mi val i) (val i);omega
section
variable {prog:Program} {w:World} {A:Around} {R:Result→Shared→Prop} {I:Addr} {fp wr:List Addr} {G:Array GenState→Array GenState→Prop} {n:Nat} {P:Nat→Value→Prop} {St:Nat→Shared→Prop}
theorem oH(W:WalksS prog w A.in1 I fp wr G n P St)(S:Addr)(hSf:S∉fp)(b:Bool)
  (val:Nat→Str) (hval:∀i v,P i v→∃t,v=.str (val i) t) (hb:n+1 < scanBound):
  ∀(k i:Nat) (s:Shared),n - i=k→i≤n→St i s→StrSet w s.heap S b (mi val i)→
   (∀s',Moved (S::wr) G s s'→StrSet w s'.heap S b (mi val n)→R (.ok (.ret .none)) s')→
   codeAny (model prog w) A (.builtin "set.update.loop" ⟨[.ref S,.ref I],[]⟩) R s:=by
 have hSw:S∉wr:=fun h=>hSf (W.sub _ h)
 have hsub:∀b∈wr,b∈S::wr:=fun b hb=>gq _ hb
 intro k
 induction k with
 |zero=>
  intro i s hk hi hst hS hR
  have hin:i=n:=by omega
  subst hin
  refine codeAny_builtin PyProof.Rows.F.entry_set_update_loop ?_
  rw[Around.under_plainId PyProof.Rows.F.plain_set_update_loop _]
  show wpAny _ A.in1 (pyNext (.ref I) >>= _) _ _ s
  refine wpAny_bind (W.done s _ _ hst fun s' hm=>?_)
  show wpAny _ A.in1 (ret Value.none) _ _ s'
  exact wpAny_pure (hR s' (hm.mono hsub) (hS.at' fun o e=>hm.heap S o hSw e))
 |succ k ih=>
  intro i s hk hi hst hS hR
  have hlt:i < n:=by omega
  refine codeAny_builtin PyProof.Rows.F.entry_set_update_loop ?_
  rw[Around.under_plainId PyProof.Rows.F.plain_set_update_loop _]
  show wpAny _ A.in1 (pyNext (.ref I) >>= _) _ _ s
  refine wpAny_bind (W.item i s _ _ hlt hst fun v s' hP hst' hm=>?_)
  obtain⟨t,rfl⟩:=hval i v hP
  have hS':StrSet w s'.heap S b (mi val i):=hS.at' fun o e=>hm.heap S o hSw e
  show wpAny _ A.in1 (holding [Value.str (val i) t] (setAdd S (.str (val i) t)) >>= _) _ _ s'
  refine wpAny_bind (wpAny_holding ?_)
  unfold setAdd
  refine wpAny_holding ?_
  refine wpAny_bind (wpAny_pyHash_str ?_)
  have hroom:(mi val i).length+1 < scanBound:=by have:=vC val i;omega
  refine nR (s:={s' with toks:=s'.toks+1}) hS' hroom fun r h' hsb hS2=>?_
  refine wpAny_pure ⟨plainId_quiet PyProof.Rows.F.plain_set_update_loop _,ih (i+1) _ (by omega) hlt (W.frame _ s' _ _ hst' (Nat.le_succ _) fun b hb o e=>?_) (by rw[r_];exact hS2) fun s'' hm'' hS''=>?_⟩
  ·rw[hsb.2 b (fun h:b=S=>hSf (by rw[←h];exact hb))];exact e
  ·refine hR s'' (Moved.trans W.gtrans ((hm.mono hsub).then_heap (Nat.le_succ _) fun b o hb e=>?_) hm'') hS''
   rw[hsb.2 b (fun h:b=S=>hb (by rw[h];exact gJ))];exact e
end
theorem mW(w:World)(led:Bool):SS w led [] #[] (.fresh 0 0 led):=⟨by simp,fun e he=>by simp at he,by decide,by rfl,rfl,fun h=>absurd rfl h⟩
def lV(w:World):Bool:= !w.params.followText "set-order"
section
variable {prog:Program} {w:World} {A:Around} {E:Value→Shared→Prop} {s:Shared}
theorem vD(a:Value){Q₁:Value→Shared→Prop}
  (h:Q₁ (.ref s.heap.objs.size) {s with heap:=s.heap.push (dO #[] 0 (.fresh 0 0 (lV w)))}):
  codeAny (model prog w) A (.call (.builtin "set.__new__") ⟨[.type "set",a],[]⟩) (wants Q₁ E) s:=by
 refine codeAny_of_tree ?_
 show wpAny _ A.in1 (do checkBuiltinCall "set.__new__" ⟨[.type "set",a],[]⟩;again (.builtin "set.__new__" ⟨[.type "set",a],[]⟩)) _ _ s
 refine wpAny_bind (wpAny_of_eq (PySem.F.newCall_set_1 a) (wpAny_pure ⟨plainId_quiet PySem.F.plain_set_new _,codeAny_builtin PySem.F.entry_set_new ?_⟩))
 rw[Around.under_plainId PySem.F.plain_set_new _]
 unfold Builtin.«set.__new__» Builtin.Frozenset.newClass
 have hsub:=sub_set_self
 obtain⟨hp,g,d,tk,os⟩:=s
 dsimp only
 wp_walk
 refine wpAny_askSetting (wpAny_pure ?_)
 dsimp only
 simp only[newObj]
 refine wpAny_bind (wpAny_alloc (wpAny_pure ?_))
 exact wpAny_pure h
end
end NhSet
namespace NhSet
open PySem PyProof.Rows
namespace F
theorem vE:isSubtype (.type "str") (.type "set")=pure false:=by rw[isSubtype_type];kernel_rfl
theorem mX:isSubtype (.type "str") (.type "frozenset")=pure false:=by rw[isSubtype_type];kernel_rfl
end F
section
variable {prog:Program} {w:World} {A:Around} {E:Value→Shared→Prop} {s:Shared}
theorem yN:∀{vs:List Value} {ns:List Str},StrsAre vs ns→∀(i:Nat) (v:Value),vs[i]? =some v→∃t,v=.str (ns.getD i ⟨#[]⟩) t
 |_,_,.nil,i,v,h=>by simp at h
 |_,_,.cons n t hr,0,v,h=>by simp at h;exact⟨t,by rw[←h];rfl⟩
 |_,_,.cons n t hr,i+1,v,h=>by
  simp only[Z3]at h
  obtain⟨t',e⟩:=yN hr i v h
  exact⟨t',by rw[e];rfl⟩
set_option maxHeartbeats 4000000 in
theorem At{l:Addr}{items:Array Value}{ns:List Str}{Q:Value→Shared→Prop}
  (hh:A.handled=none) (hl:s.heap.IsList l items) (hi:StrsAre items.toList ns) (hb:items.size+1 < scanBound)
  (h:∀(h':Heap) (tk:Nat),StrSet w h' s.heap.objs.size (lV w) (mi (fun i=>ns.getD i ⟨#[]⟩) items.size)→
   (∀b o,b < s.heap.objs.size→s.heap.get? b=some o→h'.get? b=some o)→Q (.ref s.heap.objs.size) {s with heap:=h',toks:=tk}):
  wpAny (model prog w) A (call (.type "set") [.ref l]) Q E s:=by
 obtain⟨c,tl,hmro⟩:=PySem.F.called_set.mro
 have hmade:=PySem.F.called_set.made
 have hsub:=PySem.F.called_set.sub
 refine wpAny_call (codeAny_of_tree ?_)
 show wpAny _ _ (callAny (.type "set") _) _ _ _
 refine wpAny_pure ⟨Code.quiet_builtin _ (by decide+kernel),codeAny_builtin PySem.F.entry_type_call ?_⟩
 rw[Around.under_plain (weight_type_call_type "set" [.ref l] []) rfl]
 have h1:=PySem.F.called_set.notType
 have h2:=PySem.F.called_set.canCreate
 have hct:=PySem.F.typeCall_set_1 (.ref l)
 repeat (any_goals (first |assumption |wp_step))
 generalize hled:lV w=led at h
 refine codeAny_mono (vD (w:=w) (.ref l) (E:=E) (Q₁:=fun obj s₁=>obj=.ref s.heap.objs.size∧s₁={s with heap:=s.heap.push {cls:=.type "set",dict:=none,data:=.set #[] 0 (.fresh 0 0 led)}}) (by rw[hled];exact⟨rfl,rfl⟩)) fun r s₁ hr=>?_
 cases r with
 |error e=>exact hr
 |ok fl=>
  cases fl with
  |ret obj=>
   obtain⟨rfl,rfl⟩:=hr
   have hS:(s.heap.push {cls:=.type "set",dict:=none,data:=.set #[] 0 (.fresh 0 0 led)}).get? s.heap.objs.size=some {cls:=.type "set",dict:=none,data:=.set #[] 0 (.fresh 0 0 led)}:=l_ _ rfl
   have hT:Shared.TypeIs {s with heap:=s.heap.push {cls:=.type "set",dict:=none,data:=.set #[] 0 (.fresh 0 0 led)}} (.ref s.heap.objs.size) "set":=⟨_,hS,rfl⟩
   have hli:=PySem.F.called_set.init.lookup
   have hbi:=PySem.F.called_set.init.bind (.ref s.heap.objs.size)
   repeat (any_goals (first |assumption |wp_step))
   refine codeAny_mono (codeAny_call_builtin (R:=wants (fun r s₂=>r=.none∧∃h' tk,s₂={s with heap:=h',toks:=tk}∧
     StrSet w h' s.heap.objs.size led (mi (fun i=>ns.getD i ⟨#[]⟩) items.size)∧
     (∀b o,b < s.heap.objs.size→s.heap.get? b=some o→h'.get? b=some o)) E) PySem.F.called_set.init.plain PySem.F.entry_set_init (check_set_init_1 hT ?_)) fun r₂ s₂ hr₂=>?_
   ·obtain⟨ol,EU,hcl,nl,hdl⟩:=hl
    obtain⟨ocls,odict,odata,oslots⟩:=ol
    simp only at hcl hdl
    subst hcl;subst hdl
    have hol':(s.heap.push {cls:=.type "set",dict:=none,data:=.set #[] 0 (.fresh 0 0 led)}).get? l=some {cls:=.type "list",dict:=odict,data:=.seq items nl,slots:=oslots}:=iB _ EU
    have hsls:=PySem.F.sub_list_set
    have hslf:=PySem.F.sub_list_frozenset
    have hne:(Value.type "list" == Value.type "dict")=false:=by decide
    have hl1:(s.heap.push {cls:=.type "set",dict:=none,data:=.set #[] 0 (.fresh 0 0 led)}).IsList l items:=⟨_,hol',rfl,nl,rfl⟩
    unfold Builtin.«set.__init__» noKeywords Builtin.Frozenset.updateFrom
    generalize hPI:pyIter=PI
    wp_walk
    subst hPI
    refine wpAny_pyIter_list hl1 ?_
    refine wpAny_bind (wpAny_runValue ?_)
    have hlS:l < s.heap.objs.size:=jf EU
    have hh3:A.in1.in1.in1.handled=none:=by simp[hh]
    have hneI:l≠(s.heap.push {cls:=.type "set",dict:=none,data:=.set #[] 0 (.fresh 0 0 led)}).objs.size:=by
     rw[Heap.size_push];exact jT (wK hlS)
    have hSf:s.heap.objs.size∉[(s.heap.push {cls:=.type "set",dict:=none,data:=.set #[] 0 (.fresh 0 0 led)}).objs.size,l]:=by
     rw[Heap.size_push];simp only[Zal,Zag,List.not_mem_nil,or_false,not_or]
     exact⟨jT (Nat.lt_succ_self _),Nat.ne_of_gt hlS⟩
    have hval:∀(i:Nat) (v:Value),items[i]? =some v→∃t,v=.str ((fun i=>ns.getD i ⟨#[]⟩) i) t:=fun i v hv=>
     yN hi i v (by rw[Array.getElem?_toList];exact hv)
    refine oH ((Walks.list hh3 _ l hneI items).toS) s.heap.objs.size
     hSf led (fun i=>ns.getD i ⟨#[]⟩) hval hb (items.size - 0) 0 _ (by omega) (Nat.zero_le _)
     ⟨⟨_,l_ _ rfl,rfl,rfl⟩,(hl1.push _)⟩ ?hS0 ?hR
    case hS0=>
     have hget:((s.heap.push {cls:=.type "set",dict:=none,data:=.set #[] 0 (.fresh 0 0 led)}).push {cls:=.type "list_iterator",data:=.fields #[.ref l,.int 0 0]}).get? s.heap.objs.size
       =some {cls:=.type "set",dict:=none,data:=.set #[] 0 (.fresh 0 0 led)}:=iB _ hS
     exact⟨_,_,_,hget,mW w led⟩
    case hR=>
     intro s' hm hS'
     obtain⟨h',g',d',tk',os'⟩:=s'
     have eg:g'=s.gens:=hm.gens
     have ed:d'=s.drawn:=hm.drawn
     have eo:os'=s.os:=hm.os
     subst eg;subst ed;subst eo
     show wpAny _ _ _ _ _ _
     refine wpAny_pure ?_
     show wpAny _ _ (ret Value.none) _ _ _
     refine wpAny_pure ⟨rfl,h',tk',rfl,hS',fun b o hb e=>?_⟩
     have hb1:b≠s.heap.objs.size:=jT hb
     have hb2:b≠(s.heap.push {cls:=.type "set",dict:=none,data:=.set #[] 0 (.fresh 0 0 led)}).objs.size:=by
      rw[Heap.size_push];exact jT (wK hb)
     exact hm.heap b o (by simp only[Zal,Zag,List.not_mem_nil,or_false,not_or];exact⟨hb1,hb2⟩) (iB _ (iB _ e))
   ·cases r₂ with
    |error e=>exact hr₂
    |ok fl₂=>
     cases fl₂ with
     |ret r=>
      obtain⟨rfl,h',tk,rfl,hS',hk'⟩:=hr₂
      repeat (any_goals (first |assumption |wp_step))
      exact h _ _ hS' hk'
     |_=>exact hr₂.elim
  |_=>exact hr.elim
def j8(x:Str)(i:Nat):Str:=⟨#[x.cps.getD i 0]⟩
set_option maxHeartbeats 4000000 in
theorem CK{x:Str}{t:Tok}{Q:Value→Shared→Prop}
  (hh:A.handled=none) (hb:x.cps.size+1 < scanBound)
  (h:∀(h':Heap) (tk:Nat),StrSet w h' s.heap.objs.size (lV w) (mi (j8 x) x.cps.size)→
   (∀b o,b < s.heap.objs.size→s.heap.get? b=some o→h'.get? b=some o)→Q (.ref s.heap.objs.size) {s with heap:=h',toks:=tk}):
  wpAny (model prog w) A (call (.type "set") [.str x t]) Q E s:=by
 obtain⟨c,tl,hmro⟩:=PySem.F.called_set.mro
 have hmade:=PySem.F.called_set.made
 have hsub:=PySem.F.called_set.sub
 refine wpAny_call (codeAny_of_tree ?_)
 show wpAny _ _ (callAny (.type "set") _) _ _ _
 refine wpAny_pure ⟨Code.quiet_builtin _ (by decide+kernel),codeAny_builtin PySem.F.entry_type_call ?_⟩
 rw[Around.under_plain (weight_type_call_type "set" [.str x t] []) rfl]
 have h1:=PySem.F.called_set.notType
 have h2:=PySem.F.called_set.canCreate
 have hct:=PySem.F.typeCall_set_1 (.str x t)
 repeat (any_goals (first |assumption |wp_step))
 generalize hled:lV w=led at h
 refine codeAny_mono (vD (w:=w) (.str x t) (E:=E) (Q₁:=fun obj s₁=>obj=.ref s.heap.objs.size∧s₁={s with heap:=s.heap.push {cls:=.type "set",dict:=none,data:=.set #[] 0 (.fresh 0 0 led)}}) (by rw[hled];exact⟨rfl,rfl⟩)) fun r s₁ hr=>?_
 cases r with
 |error e=>exact hr
 |ok fl=>
  cases fl with
  |ret obj=>
   obtain⟨rfl,rfl⟩:=hr
   have hS:(s.heap.push {cls:=.type "set",dict:=none,data:=.set #[] 0 (.fresh 0 0 led)}).get? s.heap.objs.size=some {cls:=.type "set",dict:=none,data:=.set #[] 0 (.fresh 0 0 led)}:=l_ _ rfl
   have hT:Shared.TypeIs {s with heap:=s.heap.push {cls:=.type "set",dict:=none,data:=.set #[] 0 (.fresh 0 0 led)}} (.ref s.heap.objs.size) "set":=⟨_,hS,rfl⟩
   have hli:=PySem.F.called_set.init.lookup
   have hbi:=PySem.F.called_set.init.bind (.ref s.heap.objs.size)
   repeat (any_goals (first |assumption |wp_step))
   refine codeAny_mono (codeAny_call_builtin (R:=wants (fun r s₂=>r=.none∧∃h' tk,s₂={s with heap:=h',toks:=tk}∧
     StrSet w h' s.heap.objs.size led (mi (j8 x) x.cps.size)∧
     (∀b o,b < s.heap.objs.size→s.heap.get? b=some o→h'.get? b=some o)) E) PySem.F.called_set.init.plain PySem.F.entry_set_init (check_set_init_1 hT ?_)) fun r₂ s₂ hr₂=>?_
   ·have hsls:=F.vE
    have hslf:=F.mX
    have hne:(Value.type "str" == Value.type "dict")=false:=by decide
    have hTx:Shared.TypeIs {s with heap:=s.heap.push {cls:=.type "set",dict:=none,data:=.set #[] 0 (.fresh 0 0 led)}} (.str x t) "str":=rfl
    unfold Builtin.«set.__init__» noKeywords Builtin.Frozenset.updateFrom
    generalize hPI:pyIter=PI
    wp_walk
    subst hPI
    refine wpAny_pyIter_str fun o St W hst=>?_
    refine wpAny_bind (wpAny_runValue ?_)
    have hh3:A.in1.in1.in1.handled=none:=by simp[hh]
    have hSf:s.heap.objs.size∉[(s.heap.push {cls:=.type "set",dict:=none,data:=.set #[] 0 (.fresh 0 0 led)}).objs.size]:=by
     rw[Heap.size_push];simp only[Zal,Zag,List.not_mem_nil,or_false,not_or]
     exact jT (Nat.lt_succ_self _)
    have hval:∀(i:Nat) (v:Value),SignAt x i v→∃t,v=.str (j8 x i) t:=fun i v ⟨c,u,hc,hv⟩=>⟨u,by rw[hv];simp[j8,Array.getD_eq_getD_getElem?,hc]⟩
    refine oH ((W _ hh3).toS) s.heap.objs.size
     hSf led (j8 x) hval hb (x.cps.size - 0) 0 _ (by omega) (Nat.zero_le _) hst ?hS0 ?hR
    case hS0=>exact⟨_,_,_,iB _ hS,mW w led⟩
    case hR=>
     intro s' hm hS'
     obtain⟨h',g',d',tk',os'⟩:=s'
     have eg:g'=s.gens:=hm.gens
     have ed:d'=s.drawn:=hm.drawn
     have eo:os'=s.os:=hm.os
     subst eg;subst ed;subst eo
     show wpAny _ _ _ _ _ _
     refine wpAny_pure ?_
     show wpAny _ _ (ret Value.none) _ _ _
     refine wpAny_pure ⟨rfl,h',tk',rfl,hS',fun b o hb e=>?_⟩
     have hb1:b≠s.heap.objs.size:=jT hb
     have hb2:b≠(s.heap.push {cls:=.type "set",dict:=none,data:=.set #[] 0 (.fresh 0 0 led)}).objs.size:=by
      rw[Heap.size_push];exact jT (wK hb)
     exact hm.heap b o (by simp only[Zal,Zag,List.not_mem_nil,or_false,not_or];exact⟨hb1,hb2⟩) (iB _ (iB _ e))
   ·cases r₂ with
    |error e=>exact hr₂
    |ok fl₂=>
     cases fl₂ with
     |ret r=>
      obtain⟨rfl,h',tk,rfl,hS',hk'⟩:=hr₂
      repeat (any_goals (first |assumption |wp_step))
      exact h _ _ hS' hk'
     |_=>exact hr₂.elim
  |_=>exact hr.elim
end
end NhSet
namespace NhSet
open PySem PyProof.Rows
theorem mj{α:Type}:∀{l:List α} {i:Nat} (h:i < l.length),(l[i]::l.eraseIdx i).Perm l
 |x::xs,0,h=>List.Perm.refl _
 |x::xs,i+1,h=>by
  have:=mj (l:=xs) (i:=i) (by simpa using h)
  simp only[List.getElem_cons_succ,List.eraseIdx_cons_succ]
  exact(List.Perm.swap x _ _).trans (this.cons x)
theorem se{α:Type}(next:Nat→Nat):∀(fuel k:Nat) (left:List α) (out:Array α),left.length=fuel→(pickOrder.go next fuel k left out).toList.Perm (out.toList++left)
 | 0,k,left,out,h=>by
  have:left=[]:=List.length_eq_zero_iff.mp h
  subst this;simp[pickOrder.go]
 |fuel+1,k,left,out,h=>by
  unfold pickOrder.go
  have hlt:next k % left.length < left.length:=Nat.mod_lt _ (by omega)
  rw[uH hlt]
  dsimp only
  refine(se next fuel (k+1) _ _ (by rw[List.length_eraseIdx_of_lt hlt];omega)).trans ?_
  rw[Array.toList_push,pk]
  exact(mj hlt).append_left _
theorem qk{α:Type}(next:Nat→Nat)(xs:Array α):(pickOrder next xs).toList.Perm xs.toList:=by
 have:=se next xs.size 0 xs.toList #[] (by simp)
 simpa[pickOrder]using this
section
variable {M:Model} {A:Around} {E:Value→Shared→Prop}
theorem tV{src:Source}{n:Nat}{s:Shared}{Q:Nat→Shared→Prop}(hn:n≠0)(h:∀i d,i < n→Q i {s with drawn:=d}):wpAny M A (choose src n) Q E s:=fun Γ p hΓ=>by
 show Sem.wp M Γ (.choose src n .pure) _ _ p s
 rw[Sem.wp_choose]
 exact⟨hn,by rw[Sem.wp_pure];exact h _ _ (Nat.mod_lt _ (Nat.pos_of_ne_zero hn))⟩
theorem kA{α:Type}:∀(n:Nat) (xs:List α) (s:Shared) {Q:List α→Shared→Prop},xs.length=n→(∀ys d,ys.Perm xs→Q ys {s with drawn:=d})→wpAny M A (drawOrder n xs) Q E s
 | 0,xs,s,Q,hl,h=>by
  have:xs=[]:=List.length_eq_zero_iff.mp hl
  subst this
  exact wpAny_pure (h [] s.drawn (List.Perm.refl _))
 |n+1,[],s,Q,hl,h=>by simp at hl
 |n+1,x::xs,s,Q,hl,h=>by
  show wpAny M A (choose .order (x::xs).length >>= _) Q E s
  refine wpAny_bind (tV (by simp) fun i d hi=>?_)
  rw[uH hi]
  dsimp only
  refine wpAny_bind (kA n _ _ (by rw[List.length_eraseIdx_of_lt hi];simpa using hl) fun ys d' hp=>?_)
  exact wpAny_pure (h _ d' ((hp.cons _).trans (mj hi)))
end
namespace F
theorem ql:entryFor table "set.__iter__"=some Builtin.«frozenset.__iter__»:=
 entryFor_alias (id':="frozenset.__iter__") (by kernel_rfl) rfl (by decide+kernel) (by kernel_rfl)
theorem slot_next:Slot "set_iterator" "__next__" "set_iterator.__next__":=
 .of (owner:="set_iterator") (n:="__next__") (by rw[typeLookup_type,builtinLookup_eq_fast];kernel_rfl) (by decide+kernel) (by decide+kernel) (by decide+kernel)
  (by first |exact .inl (by decide+kernel) |exact .inr (by decide+kernel)) (by rw[isSubtype_type];kernel_rfl)
theorem xm:entryFor table "set_iterator.__next__"=some Builtin.«set_iterator.__next__»:=entryFor_of_fast (by kernel_rfl)
theorem Au(a:Value):argsOk "set_iterator.__next__" ⟨[a],[]⟩:=by unfold argsOk;kernel_rfl
theorem si:Slot "set_iterator" "__iter__" "set_iterator.__iter__":=
 .of (owner:="set_iterator") (n:="__iter__") (by rw[typeLookup_type,builtinLookup_eq_fast];kernel_rfl) (by decide+kernel) (by decide+kernel) (by decide+kernel)
  (by first |exact .inl (by decide+kernel) |exact .inr (by decide+kernel)) (by rw[isSubtype_type];kernel_rfl)
theorem xn:entryFor table "set_iterator.__iter__"=some Builtin.«dict_keyiterator.__iter__»:=
 entryFor_alias (id':="dict_keyiterator.__iter__") (by kernel_rfl) rfl (by decide+kernel) (by kernel_rfl)
theorem Av(a:Value):argsOk "set_iterator.__iter__" ⟨[a],[]⟩:=by unfold argsOk;kernel_rfl
end F
abbrev vF(first:Value)(i:Nat)(a:Addr)(n ep:Nat):Obj:={cls:=.type "set_iterator",data:=.fields #[first,.int i 0,.ref a,.int n 0,.int ep 0]}
section
variable {prog:Program} {w:World} {A:Around} {E:Value→Shared→Prop} {s:Shared}
theorem tW{I:Addr}{first:Value}{i:Nat}{a:Addr}{n ep:Nat}{Q:Value→Shared→Prop}(ho:s.heap.get? I=some (vF first i a n ep))(h:Q (.ref I) s):wpAny (model prog w) A (pyIter (.ref I)) Q E s:=by
 have hT:s.TypeIs (.ref I) "set_iterator":=⟨_,ho,rfl⟩
 refine wpAny_pyIter_slot hT F.si (wpAny_call_entry F.si hT F.xn ?_ (F.Av _))
 show wpAny _ _ (ret (.ref I)) _ _ s
 exact wpAny_pure ⟨_,rfl,"set_iterator",_,hT,F.slot_next.lookup,h⟩
theorem vG{a:Addr}{es:Array (Int×Value)}{ep:Nat}{t:SetTable}{Q:Bool→Shared→Prop}(ho:s.heap.get? a=some (dO es ep t))(hf:t.fits es.size=true)
  (h:Q (!(w.params.followText "set-order")&&(!t.plain&&decide (es.size > 1))) s):wpAny (model prog w) A (setDrawn a) Q E s:=by
 unfold setDrawn setsByText
 refine wpAny_bind (wpAny_setState_of ho rfl hf ?_)
 dsimp only
 refine wpAny_bind (wpAny_bind (wpAny_askSetting (wpAny_pure ?_)))
 exact wpAny_pure h
theorem tX{I:Addr}{Q:Option Value→Shared→Prop}(hh:A.handled=none){o:Obj}(hQ:∀h',Heap.ExtBut I s.heap h'→Q none {s with heap:=h'}){h1:Heap}(k:Heap.ExtBut I s.heap h1):
  wpAny (model prog w) A.in1 (newExc (.type "StopIteration") [] >>= fun e=>raiseNew e) (fun(fin:Fin) s'=>∃r,fin=.done (.ret r)∧wpAny (model prog w) A (pure (some r)) Q E s')
   (fun e s'=>wpAny (model prog w) A (isInstance e (.type "StopIteration") >>= fun b=>if b=true then pure none else throw e) Q E s') {s with heap:=h1}:=by
 refine wpAny_bind ?_
 simp only[newExc,newTuple]
 refine wpAny_bind (wpAny_newObj_type ?_ (by size_fits))
 refine wpAny_bind (m:=firstArgMember _ _) (wpAny_of_eq (a:=Value.none) (by first |rfl |(simp only[firstArgMember];rfl)) ?_)
 refine wpAny_newObj_type ?_ (by size_fits)
 simp only[raiseNew]
 refine wpAny_bind (wpAny_handled ?_)
 rw[show A.in1.handled=none from hh]
 refine wpAny_bind (wpAny_pure (wpAny_throw ?_))
 refine wpAny_bind (wpAny_isInstance (T:="StopIteration") (b:=true) ⟨_,l_ _ rfl,rfl⟩ isSubtype_stop ?_)
 exact wpAny_pure (hQ _ ((k.push _).push _))
end
end NhSet
namespace NhSet
open PySem PyProof.Rows
section
variable {prog:Program} {w:World} {A:Around} {E:Value→Shared→Prop} {s:Shared}
theorem gT{I:Addr}{first:Value}{i:Nat}{a:Addr}{n ep:Nat}{Q:Option Value→Shared→Prop}(hI:s.heap.get? I=some (vF first i a n ep)){es:Array (Int×Value)}{t:SetTable}(ha:s.heap.get? a=some (dO es ep t))(hf:t.fits es.size=true)(hn:es.size=n)
  (h:wpAny (model prog w) A.in1 (if let .int slot _:=first then do
    match ←setNext a slot.toNat i ep with
    |some (x,next)=>do
     setField (.ref I) 0 (rawInt next)
     setField (.ref I) 1 (rawInt (i+1))
     ret x
    |none=>do setField (.ref I) 2 .none;raiseNew (←newExc (.type "StopIteration") [])
   else do
    let some places ←seqItems? first |unsupported "internal:set_iterator"
    match places[i]? with
    |some (.int place _)=>do
     let x ←setNextDrawn a place.toNat ep
     setField (.ref I) 1 (rawInt (i+1))
     ret x
    |some _=>unsupported "internal:set_iterator"
    |none=>do setField (.ref I) 0 (rawInt 0);setField (.ref I) 2 .none;raiseNew (←newExc (.type "StopIteration") []))
   (fun(fin:Fin) s'=>∃r,fin=.done (.ret r)∧wpAny (model prog w) A (pure (some r)) Q E s')
   (fun e s'=>wpAny (model prog w) A (isInstance e (.type "StopIteration") >>= fun b=>if b=true then pure none else throw e) Q E s') s):
  wpAny (model prog w) A (pyNext (.ref I)) Q E s:=by
 have hT':s.TypeIs (.ref I) "set_iterator":=⟨_,hI,rfl⟩
 unfold pyNext
 refine wpAny_bind (wpAny_attempt (wpAny_callSpecial?_slot (name:=Str.ofString "__next__") hT' F.slot_next (wpAny_call_entry F.slot_next hT' F.xm ?_ (F.Au _))))
 unfold Builtin.«set_iterator.__next__»
 refine wpAny_bind (m:=slotArgs _ _ _) (wpAny_pure ?_)
 refine wpAny_bind (wpAny_fieldsOf hI rfl ?_)
 dsimp only
 refine wpAny_bind (wpAny_setEntries_of ha rfl hf ?_)
 rw[if_neg (by simp[hn])]
 exact h
abbrev Gb(es:Array (Int×Value))(j:Nat):Value:=(es.getD j (0,.none)).2
theorem dF{I:Addr}{o:Obj}{vs:Array Value}{k:Nat}{x:Value}{Q:Unit→Shared→Prop}(ho:s.heap.get? I=some o)(hd:o.data=.fields vs)(hk:k < vs.size)(hQ:∀h',Heap.SameBut I s.heap h'→h'.get? I=some {o with data:=.fields (vs.setIfInBounds k x)}→Q () {s with heap:=h'}):wpAny (model prog w) A (setField (.ref I) k x) Q E s:=by
 refine wpAny_setField ho hd hk (hQ _ (Heap.SameBut.update ..) ?_)
 have:=Heap.get?_update_self (Obj.mapFields fun vs=>vs.setIfInBounds k x) ho (Obj.isFreed_of_fields (Obj.data_mapFields hd _))
 rw[this]
 obtain⟨c,d,dt,sl⟩:=o
 simp only at hd
 subst hd
 rfl
theorem xo(hh:A.handled=none){I T a:Addr}{es:Array (Int×Value)}{ep:Nat}{t:SetTable}(π:List Nat)(hp:∀j∈π,j < es.size)(hl:π.length=es.size)(hf:t.fits es.size=true)(hTI:T≠I)(haI:a≠I):
  Walks prog w A I [I,T,a] [I] (π.map (Gb es)).length (fun i v=>(π.map (Gb es))[i]? =some v)
   (fun i h=>h.get? I=some (vF (.ref T) i a es.size ep)∧h.get? T=some {cls:=.type "tuple",data:=.seq (π.map fun(i:Nat)=>rawInt i).toArray}∧h.get? a=some (dO es ep t)) where
 sub:=fun b hb=>by simp at hb;simp[hb]
 frame:=fun _ _ _ st hk=>⟨hk I (by simp) _ st.1,hk T (by simp) _ st.2.1,hk a (by simp) _ st.2.2⟩
 self:=fun _ _ _ _ st hQ=>tW st.1 hQ
 item:=fun i s Q E hi st hQ=>by
  obtain⟨hI,hT,ha⟩:=st
  rw[fw]at hi
  refine gT hI ha hf rfl ?_
  dsimp only
  refine wpAny_bind (wpAny_seqItems hT rfl ?_)
  dsimp only
  have e:(π.map fun(i:Nat)=>rawInt i).toArray[i]? =some (.int (π[i]:Nat) 0):=by
   simp[hi,rawInt]
  rw[e]
  dsimp only
  have hj:=hp π[i] (List.getElem_mem hi)
  unfold setNextDrawn
  refine wpAny_bind (wpAny_bind (wpAny_setState_of ha rfl hf ?_))
  dsimp only
  rw[if_neg (by simp)]
  have e2:es[((π[i]:Nat):Int).toNat]? =some (es[π[i]]):=by simp[hj]
  rw[e2]
  refine wpAny_pure ?_
  refine wpAny_bind (dF hI rfl (by simp) fun h' hs' ho'=>?_)
  refine wpAny_pure ⟨_,rfl,wpAny_pure (hQ _ h' s.toks ?_ ⟨?_,?_,?_⟩ fun b o hb e=>hs'.extBut b o (fun z=>hb (by simp[z])) e)⟩
  ·simp[hi,Gb,hj]
  ·rw[ho'];simp[rawInt]
  ·exact hs'.extBut T _ hTI hT
  ·exact hs'.extBut a _ haI ha
 done:=fun s Q E st hQ=>by
  obtain⟨hI,hT,ha⟩:=st
  refine gT hI ha hf rfl ?_
  dsimp only
  refine wpAny_bind (wpAny_seqItems hT rfl ?_)
  dsimp only
  have e:(π.map fun(i:Nat)=>rawInt i).toArray[(π.map (Gb es)).length]? =none:=by simp
  rw[e]
  dsimp only
  refine wpAny_bind (dF hI rfl (by simp) fun h' hs' ho'=>?_)
  refine wpAny_bind (dF (s:={s with heap:=h'}) ho' rfl (by simp) fun h2 hs2 _=>?_)
  exact tX (I:=I) (o:=dO es ep t) hh (fun h3 k=>hQ h3 s.toks fun b o hb e=>k b o (fun z=>hb (by simp[z])) e) (hs'.trans hs2).extBut
theorem mY {a:Addr} {es:Array (Int×Value)} {ep:Nat} {t:SetTable} {slot given:Nat} {Q:Option (Value×Nat)→Shared→Prop} (hb:w.params.followText "set-order"=true) (ha:s.heap.get? a=some (dO es ep t)) (hf:t.fits es.size=true)
  (h:Q (((pickOrder (w.params.setOrder a ep) es)[given]?).map fun e=>(e.2,slot)) s):wpAny (model prog w) A (setNext a slot given ep) Q E s:=by
 unfold setNext setsByText
 refine wpAny_bind (wpAny_setState_of ha rfl hf ?_)
 dsimp only
 refine wpAny_bind (wpAny_bind (wpAny_askSetting (wpAny_pure ?_)))
 rw[if_pos (show(model prog w).w.params.followText "set-order"=true from hb)]
 rw[if_neg (by simp)]
 refine wpAny_bind ?_
 unfold setWalk setsByText
 refine wpAny_bind (wpAny_setState_of ha rfl hf ?_)
 dsimp only
 refine wpAny_bind (wpAny_bind (wpAny_askSetting (wpAny_pure ?_)))
 rw[if_pos (show(model prog w).w.params.followText "set-order"=true from hb)]
 refine wpAny_bind (wpAny_askSetting (wpAny_pure ?_))
 exact wpAny_pure h
theorem oI {a:Addr} {es:Array (Int×Value)} {ep:Nat} {t:SetTable} {slot given:Nat} {Q:Option (Value×Nat)→Shared→Prop} (hb:w.params.followText "set-order"=false) (hsz:es.size≤1) (hled:t.led=true) (ha:s.heap.get? a=some (dO es ep t)) (hf:t.fits es.size=true)
  (h:Q (match es[SetTable.below t.place slot]?,t.place[SetTable.below t.place slot]? with |some (_,x),some j=>some (x,j+1) |_,_=>none) s):wpAny (model prog w) A (setNext a slot given ep) Q E s:=by
 unfold setNext setsByText
 refine wpAny_bind (wpAny_setState_of ha rfl hf ?_)
 dsimp only
 refine wpAny_bind (wpAny_bind (wpAny_askSetting (wpAny_pure ?_)))
 rw[if_neg (show ¬((model prog w).w.params.followText "set-order"=true) by show ¬(w.params.followText "set-order"=true);rw[hb];decide)]
 have hd:(!t.plain&&decide (es.size > 1))=false:=by rw[decide_eq_false (by omega)];simp
 show wpAny _ _ (if (!t.plain&&decide (es.size > 1))=true then _ else _) _ _ _
 rw[hd,if_neg (by decide)]
 show wpAny _ _ ((if (!t.led&& !es.isEmpty)=true then unsupported "set:maker-not-led" else pure PUnit.unit) >>= _) _ _ _
 rw[hled,if_neg (by simp)]
 refine wpAny_bind (wpAny_pure ?_)
 exact wpAny_pure h
theorem Aw (hh:A.handled=none) {I a:Addr} {es:Array (Int×Value)} {ep:Nat} {t:SetTable} (hb:w.params.followText "set-order"=true) (hf:t.fits es.size=true) (haI:a≠I):
  Walks prog w A I [I,a] [I] ((pickOrder (w.params.setOrder a ep) es).toList.map (·.2)).length (fun i v=>((pickOrder (w.params.setOrder a ep) es).toList.map (·.2))[i]? =some v)
   (fun i h=>h.get? I=some (vF (.int 0 0) i a es.size ep)∧h.get? a=some (dO es ep t)) where
 sub:=fun b hb=>by simp at hb;simp[hb]
 frame:=fun _ _ _ st hk=>⟨hk I (by simp) _ st.1,hk a (by simp) _ st.2⟩
 self:=fun _ _ _ _ st hQ=>tW st.1 hQ
 item:=fun i s Q E hi st hQ=>by
  obtain⟨hI,ha⟩:=st
  have hi':i < (pickOrder (w.params.setOrder a ep) es).size:=by simpa using hi
  refine gT hI ha hf rfl ?_
  dsimp only
  refine wpAny_bind (mY hb ha hf ?_)
  rw[Array.getElem?_eq_getElem hi']
  dsimp only[Z1]
  refine wpAny_bind (dF hI rfl (by simp) fun h' hs' ho'=>?_)
  refine wpAny_bind (dF (s:={s with heap:=h'}) ho' rfl (by simp) fun h2 hs2 ho2=>?_)
  refine wpAny_pure ⟨_,rfl,wpAny_pure (hQ _ h2 s.toks ?_ ⟨?_,?_⟩ fun b o hb e=>(hs'.trans hs2).extBut b o (fun z=>hb (by simp[z])) e)⟩
  ·simp[hi']
  ·rw[ho2];simp[rawInt]
  ·exact(hs'.trans hs2).extBut a _ haI ha
 done:=fun s Q E st hQ=>by
  obtain⟨hI,ha⟩:=st
  refine gT hI ha hf rfl ?_
  dsimp only
  refine wpAny_bind (mY hb ha hf ?_)
  rw[show(pickOrder (w.params.setOrder a ep) es)[((pickOrder (w.params.setOrder a ep) es).toList.map (·.2)).length]? =none by simp]
  dsimp only[Option.map_none]
  refine wpAny_bind (dF hI rfl (by simp) fun h' hs' ho'=>?_)
  exact tX (I:=I) (o:=dO es ep t) hh (fun h3 k=>hQ h3 s.toks fun b o hb e=>k b o (fun z=>hb (by simp[z])) e) hs'.extBut
theorem qm{xs:Array Nat}(h:xs.size≤1):SetTable.below xs 0=0:=by
 obtain⟨l⟩:=xs
 match l,h with
 |[],_=>rfl
 |[p],_=>simp[SetTable.below,SetTable.below.go]
theorem xp{p:Nat}:SetTable.below #[p] (p+1)=1:=by simp[SetTable.below,SetTable.below.go]
theorem CL (hh:A.handled=none) {I a:Addr} {es:Array (Int×Value)} {ep:Nat} {t:SetTable} (hb:w.params.followText "set-order"=false) (hsz:es.size≤1) (hled:t.led=true) (hf:t.fits es.size=true) (haI:a≠I):
  Walks prog w A I [I,a] [I] (es.toList.map (·.2)).length (fun i v=>(es.toList.map (·.2))[i]? =some v)
   (fun i h=>h.get? I=some (vF (.int (if i=0 then 0 else (t.place.getD 0 0+1:Nat)) 0) i a es.size ep)∧h.get? a=some (dO es ep t)) where
 sub:=fun b hb=>by simp at hb;simp[hb]
 frame:=fun _ _ _ st hk=>⟨hk I (by simp) _ st.1,hk a (by simp) _ st.2⟩
 self:=fun _ _ _ _ st hQ=>tW st.1 hQ
 item:=fun i s Q E hi st hQ=>by
  obtain⟨hI,ha⟩:=st
  have hi':i < es.size:=by simpa using hi
  have hi0:i=0:=by omega
  subst hi0
  rw[if_pos rfl]at hI
  have hps:t.place.size=es.size:=by
   have:=hf;simp only[SetTable.fits,wL,beq_iff_eq]at this;exact this.1
  refine gT hI ha hf rfl ?_
  dsimp only
  refine wpAny_bind (oI hb hsz hled ha hf ?_)
  rw[show((0:Int)).toNat=0 from rfl,qm (by omega),Array.getElem?_eq_getElem hi',Array.getElem?_eq_getElem (show 0 < t.place.size by omega)]
  dsimp only
  refine wpAny_bind (dF hI rfl (by simp) fun h' hs' ho'=>?_)
  refine wpAny_bind (dF (s:={s with heap:=h'}) ho' rfl (by simp) fun h2 hs2 ho2=>?_)
  refine wpAny_pure ⟨_,rfl,wpAny_pure (hQ _ h2 s.toks ?_ ⟨?_,?_⟩ fun b o hb e=>(hs'.trans hs2).extBut b o (fun z=>hb (by simp[z])) e)⟩
  ·simp[hi']
  ·rw[ho2]
   have:t.place.getD 0 0=t.place[0]:=by simp[Array.getD,show 0 < t.place.size by omega]
   simp[rawInt,this]
  ·exact(hs'.trans hs2).extBut a _ haI ha
 done:=fun s Q E st hQ=>by
  obtain⟨hI,ha⟩:=st
  have hps:t.place.size=es.size:=by
   have:=hf;simp only[SetTable.fits,wL,beq_iff_eq]at this;exact this.1
  have hlen:(es.toList.map (·.2)).length=es.size:=by simp
  rw[hlen]at hI
  refine gT hI ha hf rfl ?_
  dsimp only
  refine wpAny_bind (oI hb hsz hled ha hf ?_)
  have hno:(match es[SetTable.below t.place (if es.size=0 then (0:Int)else ((t.place.getD 0 0+1:Nat):Int)).toNat]?,t.place[SetTable.below t.place (if es.size=0 then (0:Int)else ((t.place.getD 0 0+1:Nat):Int)).toNat]? with |some (_,x),some j=>some (x,j+1) |_,_=>(none:Option (Value×Nat)))=none:=by
   by_cases z:es.size=0
   ·rw[if_pos z,show((0:Int)).toNat=0 from rfl,qm (by omega),Array.getElem?_eq_none (by omega)]
   ·rw[if_neg z]
    obtain⟨⟨p⟩,hp⟩:∃q:{p:Nat // t.place=#[p]},True:=by
     generalize t.place=pl at hps
     obtain⟨l⟩:=pl
     match l,hps with
     |[],h=>simp at h;omega
     |[p],h=>exact⟨⟨p,rfl⟩,trivial⟩
     |_::_::_,h=>simp at h;omega
    rename_i hpl
    rw[hpl]
    simp only[Int.toNat_natCast]
    have:(#[p]:Array Nat).getD 0 0=p:=rfl
    rw[this,xp,Array.getElem?_eq_none (show es.size≤1 by omega)]
  rw[hno]
  dsimp only
  refine wpAny_bind (dF hI rfl (by simp) fun h' hs' ho'=>?_)
  exact tX (I:=I) (o:=dO es ep t) hh (fun h3 k=>hQ h3 s.toks fun b o hb e=>k b o (fun z=>hb (by simp[z])) e) hs'.extBut
theorem CM{a:Addr}{es:Array (Int×Value)}{ep:Nat}{t:SetTable}{ks:List Str}{Q:Value→Shared→Prop}(ha:s.heap.get? a=some (dO es ep t))(S:SS w (lV w) ks es t)
  (hQ:∀(s':Shared) (I:Addr) (fp:List Addr) (St:Nat→Heap→Prop) (items:List Value),(∀b o,s.heap.get? b=some o→s'.heap.get? b=some o)→s.heap.objs.size≤s'.heap.objs.size→s'.gens=s.gens→s'.os=s.os→s'.toks=s.toks→(∀b∈fp,b=a∨s.heap.objs.size≤b)→s.heap.objs.size≤I→
   (∀A':Around,A'.handled=none→Walks prog w A' I fp [I] items.length (fun i v=>items[i]? =some v) St)→St 0 s'.heap→items.Perm (es.toList.map (·.2))→Q (.ref I) s'):
  wpAny (model prog w) A (pyIter (.ref a)) Q E s:=by
 have hT:s.TypeIs (.ref a) "set":=⟨_,ha,rfl⟩
 have hlt:a < s.heap.objs.size:=jf ha
 refine wpAny_pyIter_slot hT PySem.F.slot_set_iter (wpAny_call_entry PySem.F.slot_set_iter hT F.ql ?_ (PySem.F.args_set_iter_1 _))
 unfold Builtin.«frozenset.__iter__» Builtin.Frozenset.slot0 slotArgs
 simp only[List.isEmpty_nil,↓reduceIte,bind_assoc,Z5,bne_self_eq_false,aU]
 unfold Builtin.Frozenset.addrOf Builtin.Frozenset.sizeOf
 refine wpAny_bind (wpAny_pure ?_)
 try dsimp only
 refine wpAny_bind (wpAny_pure ?_)
 refine wpAny_bind (wpAny_bind (wpAny_setEntries_of ha rfl S.fits (wpAny_pure ?_)))
 refine wpAny_bind (vG ha S.fits ?_)
 cases hd:(!(w.params.followText "set-order")&&(!t.plain&&decide (es.size > 1)))with
 |true=>
  simp only[↓reduceIte]
  refine wpAny_bind (kA es.size (List.range es.size) s (by simp) fun π d hp=>?_)
  have hl:π.length=es.size:=by rw[hp.length_eq,List.length_range]
  have hm:∀j∈π,j < es.size:=fun j hj=>List.mem_range.mp (hp.mem_iff.mp hj)
  refine wpAny_bind (wpAny_newTuple (s:={s with drawn:=d}) ?_ (by rw[fw,hl];exact fits_of_scanBound S.bound))
  have ha2:(s.heap.push {cls:=.type "tuple",data:=.seq (π.map fun(i:Nat)=>rawInt i).toArray}).get? a=some (dO es ep t):=iB _ ha
  refine wpAny_bind (wpAny_setEpoch_of (s:={s with drawn:=d,heap:=s.heap.push {cls:=.type "tuple",data:=.seq (π.map fun(i:Nat)=>rawInt i).toArray}}) ha2 rfl S.fits ?_)
  refine wpAny_bind (wpAny_newObj_type ?_)
  have hs1:(s.heap.push {cls:=.type "tuple",data:=.seq (π.map fun(i:Nat)=>rawInt i).toArray}).objs.size=s.heap.objs.size+1:=by rw[Heap.size_push]
  refine wpAny_pure ⟨_,rfl,"set_iterator",_,⟨_,l_ _ rfl,rfl⟩,F.slot_next.lookup,?_⟩
  refine hQ _ _ _ _ (π.map (Gb es)) (fun b o e=>iB _ (iB _ e)) (by rw[Heap.size_push,Heap.size_push];omega) rfl rfl rfl ?_ (by dsimp only;rw[hs1];omega)
   (fun A' hA=>xo hA (T:=s.heap.objs.size) (a:=a) (ep:=ep) (t:=t) π hm hl S.fits (by dsimp only;rw[hs1];exact jT (Nat.lt_succ_self _)) (by dsimp only;rw[hs1];exact jT (wK hlt)))
   ⟨l_ _ rfl,iB _ (l_ _ rfl),iB _ ha2⟩ ?_
  ·intro b hb
   rcases Zal.mp hb with rfl |hb
   ·right;dsimp only;rw[hs1];omega
   rcases Zal.mp hb with rfl |hb
   ·right;exact gi _
   ·left;exact Zag.mp hb
  ·refine(hp.map (Gb es)).trans ?_
   rw[show(List.range es.size).map (Gb es)=es.toList.map (·.2)from ?_]
   refine List.ext_getElem (by simp) fun i h1 h2=>?_
   have hi:i < es.size:=by simpa using h1
   simp[Gb,hi]
 |false=>
  simp only[Bool.false_eq_true,↓reduceIte]
  refine wpAny_bind (wpAny_pure ?_)
  refine wpAny_bind (wpAny_setEpoch_of ha rfl S.fits ?_)
  refine wpAny_bind (wpAny_newObj_type ?_)
  refine wpAny_pure ⟨_,rfl,"set_iterator",_,⟨_,l_ _ rfl,rfl⟩,F.slot_next.lookup,?_⟩
  have hfp:∀b∈[s.heap.objs.size,a],b=a∨s.heap.objs.size≤b:=fun b hb=>by
   rcases Zal.mp hb with rfl |hb
   ·right;exact gi _
   ·left;exact Zag.mp hb
  cases hb:w.params.followText "set-order" with
  |true=>
   exact hQ _ _ _ _ ((pickOrder (w.params.setOrder a ep) es).toList.map (·.2)) (fun b o e=>iB _ e) (by rw[Heap.size_push];omega) rfl rfl rfl hfp (gi _)
    (fun A' hA=>Aw hA (t:=t) hb S.fits (jT hlt)) ⟨l_ _ rfl,iB _ ha⟩ ((qk _ es).map _)
  |false=>
   have hled:t.led=true:=by rw[S.led,lV,hb];rfl
   have hsz:es.size≤1:=by
    rw[hb]at hd
    by_cases z:es.size=0
    ·omega
    ·rw[S.plain z]at hd
     simp at hd
     omega
   exact hQ _ _ _ _ (es.toList.map (·.2)) (fun b o e=>iB _ e) (by rw[Heap.size_push];omega) rfl rfl rfl hfp (gi _)
    (fun A' hA=>CL hA (t:=t) hb hsz hled S.fits (jT hlt)) ⟨l_ _ rfl,iB _ ha⟩ (List.Perm.refl _)
end
end NhSet
namespace NhSet
open PySem PyProof.Rows
namespace F
theorem EV:typeLookup (.type "set") "__len__"=pure (some (.builtin "set.__len__")):=by rw[typeLookup_type,builtinLookup_eq_fast];kernel_rfl
end F
section
variable {prog:Program} {w:World} {A:Around} {E:Value→Shared→Prop} {s:Shared}
theorem vH{a:Addr}{es:Array (Int×Value)}{ep:Nat}{t:SetTable}{ks:List Str}{Q:List Value→Shared→Prop}(hh:A.handled=none)(ha:s.heap.get? a=some (dO es ep t))(S:SS w (lV w) ks es t)
  (hQ:∀(s':Shared) (items:List Value),(∀b o,s.heap.get? b=some o→s'.heap.get? b=some o)→s'.gens=s.gens→s'.os=s.os→s.heap.objs.size≤s'.heap.objs.size→items.Perm (es.toList.map (·.2))→Q items s'):
  wpAny (model prog w) A (collect (.ref a)) Q E s:=by
 have hlt:a < s.heap.objs.size:=jf ha
 unfold collect
 refine wpAny_bind (wpAny_runValue (codeAny_builtin PySem.F.entry_proto_collect ?_))
 rw[Around.under_plainId PySem.F.plain_proto_collect _]
 show wpAny _ A.in1 (newList [] >>= fun l=>again (.builtin "list.__iadd__" ⟨[l,.ref a],[]⟩)) _ _ s
 refine wpAny_bind (wpAny_newObj_type ?_)
 refine wpAny_pure ⟨plainId_quiet PySem.F.plain_list_iadd _,codeAny_builtin PySem.F.entry_list_iadd ?_⟩
 rw[Around.under_plainId PySem.F.plain_list_iadd _]
 show wpAny _ A.in1 (Builtin.List.listExtendWith (.ref s.heap.objs.size) (.ref a) (.ref s.heap.objs.size)) _ _ _
 unfold Builtin.List.listExtendWith
 have ha1:(s.heap.push {cls:=.type "list",data:=.seq ([]:List Value).toArray}).get? a=some (dO es ep t):=iB _ ha
 have hT1:Shared.TypeIs {s with heap:=s.heap.push {cls:=.type "list",data:=.seq ([]:List Value).toArray}} (.ref a) "set":=⟨_,ha1,rfl⟩
 refine wpAny_bind (wpAny_typeOf hT1 ?_)
 have h1:Builtin.List.listSameRef (.ref s.heap.objs.size) (.ref a)=false:=by simp[Builtin.List.listSameRef];exact Nat.ne_of_gt hlt
 have h2:(Value.type "set" == Value.type "list")=false:=by decide
 have h3:(Value.type "set" == Value.type "tuple")=false:=by decide
 simp only[h1,h2,h3,Bool.or_false,aU]
 refine wpAny_bind (CM ha1 S fun s2 I fp St items k2 z2 g2 o2 t2 hfp hI W hst hp=>?_)
 have hT2:s2.TypeIs (.ref a) "set":=⟨_,k2 a _ ha1,rfl⟩
 refine wpAny_bind (wpAny_holding ?_)
 unfold Builtin.List.listLengthHint
 refine wpAny_bind (wpAny_specialOf hT2 F.EV ?_)
 wp_delta
 refine wpAny_bind (wpAny_isInstance (T:="set") (b:=true) hT2 sub_set_self ?_)
 show wpAny _ A.in1 (typeOf (Value.ref a) >>= _) _ _ _
 refine wpAny_bind (wpAny_typeOf hT2 ?_)
 refine wpAny_pure ?_
 rw[if_pos (by decide)]
 refine wpAny_bind (wpAny_rule ?_)
 have hS0:s2.heap.get? s.heap.objs.size=some {cls:=.type "list",data:=.seq ([]:List Value).toArray}:=k2 _ _ (l_ _ rfl)
 refine wpAny_bind ?_
 show wpAny _ A.in1 (updateSeq s.heap.objs.size (·.push .none) >>= fun _=>updateSeq s.heap.objs.size (·.pop)) _ _ _
 refine wpAny_bind (wpAny_updateSeq hS0 rfl ?_)
 have hS2:=Heap.get?_update_self (Obj.mapSeq (·.push Value.none)) hS0 rfl
 refine wpAny_updateSeq hS2 rfl ?_
 have hS3:=Heap.get?_update_self (Obj.mapSeq (·.pop)) hS2 rfl
 have oth:∀b o,b≠s.heap.objs.size→s2.heap.get? b=some o→
   ((s2.heap.update s.heap.objs.size (Obj.mapSeq (·.push Value.none))).update s.heap.objs.size (Obj.mapSeq (·.pop))).get? b=some o:=
  fun b o hb e=>(Heap.get?_update_other _ _ (Ne.symm hb)).trans ((Heap.get?_update_other _ _ (Ne.symm hb)).trans e)
 have hz1:(s.heap.push {cls:=.type "list",data:=.seq ([]:List Value).toArray}).objs.size=s.heap.objs.size+1:=by rw[Heap.size_push]
 have hnS:∀b,(s.heap.push {cls:=.type "list",data:=.seq ([]:List Value).toArray}).objs.size≤b→b≠s.heap.objs.size:=fun b hb e=>by
  rw[hz1,e]at hb;exact Nat.not_succ_le_self _ hb
 have hSf:s.heap.objs.size∉fp:=fun hm=>by
  rcases hfp _ hm with e |e
  ·exact absurd e (Nat.ne_of_gt hlt)
  ·exact hnS _ e rfl
 have hlen:items.length≤sizeLine:=by
  rw[hp.length_eq];simpa using fits_of_scanBound S.bound
 refine wpAny_pure ⟨plainId_quiet PySem.F.plain_extend_loop _,codeAny_extend_loopS (W A.in1 (by simp[hh])).toS hlen _ hSf _ items.length 0 _ _ _ rfl (Nat.zero_le _)
  ((W A.in1 (by simp[hh])).frame 0 s2.heap _ hst fun b hb o e=>oth b o (fun z=>hSf (z▸hb)) e) hS3 (ItemsOf.nil _) fun s' acc' c' hm hS' hacc=>?_⟩
 show wpAny _ A (load s.heap.objs.size >>= _) _ _ s'
 refine wpAny_bind (wpAny_load hS' ?_)
 have hacc':acc'.toList=items:=by
  refine List.ext_getElem? fun i=>?_
  rw[Array.getElem?_toList]
  by_cases hi:i < acc'.size
  ·rw[Array.getElem?_eq_getElem hi]
   exact(hacc.2 i _ (Array.getElem?_eq_getElem hi)).symm
  ·rw[Array.getElem?_eq_none (by omega),List.getElem?_eq_none (by rw[←hacc.1];omega)]
 refine wpAny_pure ?_
 rw[hacc']
 refine hQ s' items (fun b o e=>?_) (hm.gens.trans g2) (hm.os.trans o2) (ma (jf hS')) hp
 have hb:b < s.heap.objs.size:=jf e
 refine hm.heap b o (fun z=>?_) (oth b o (jT hb) (k2 b o (iB _ e)))
 rcases Zal.mp z with z |z
 ·exact absurd z (jT hb)
 ·rw[Zag.mp z]at hb
  have hI':s.heap.objs.size+1≤I:=by rw[←hz1];exact hI
  exact absurd (oV (Nat.lt_succ_self _) hI') (Nat.lt_asymm hb)
theorem xq{a:Addr}{ks:List Str}{Q:Value→Shared→Prop}(hh:A.handled=none)(hS:StrSet w s.heap a (lV w) ks)(h64:ks.length < 64)
  (h:∀(s':Shared) (l:Addr) (out:Array Value) (e:Nat) (ss':List Str),(∀b o,s.heap.get? b=some o→s'.heap.get? b=some o)→s'.gens=s.gens→s'.os=s.os→s.heap.objs.size≤l→s'.heap.get? l=some (seqObj "list" out e)→StrsAre out.toList ss'→ss'.Perm ks→sortedS ss'=true→Q (.ref l) s'):
  wpAny (model prog w) A (call (.builtin "sorted") [.ref a]) Q E s:=by
 obtain⟨es,ep,t,ha,S⟩:=hS
 refine Calls.call_function_entry kind_sorted plain_sorted entry_sorted (args_sorted1 _) ?_
 unfold Builtin.«sorted»
 refine wpAny_bind (m:=checkCount "sorted" 1 1 _) (wpAny_pure ?_)
 refine wpAny_bind (vH (by simp[hh]) ha S fun s1 items k1 g1 o1 hsz hp=>?_)
 have hpk:(items.map strOf).Perm ks:=(hp.map strOf).trans (by rw[List.map_map];exact S.perm)
 have hst:∀v∈items,∃x tk,v=.str x tk:=fun v hv=>by
  obtain⟨e,he,rfl⟩:=Zbc.mp (hp.mem_iff.mp hv)
  obtain⟨x,tk,rfl⟩:=S.elems e he
  exact⟨x,tk,rfl⟩
 have hSA:=strsAre_map items hst
 have hl64:items.length < 64:=by have:=hpk.length_eq;rw[fw]at this;omega
 refine wpAny_bind (wpAny_newList ?_)
 have hoL:(s1.heap.push (seqObj "list" items.toArray 0)).get? s1.heap.objs.size=some (seqObj "list" items.toArray 0):=l_ _ rfl
 refine wpAny_bind (wpAny_holding (wpAny_call_entry slot_list_sort ⟨_,hoL,rfl⟩ entry_list_sort (list_sort_treeK (s:={s1 with heap:=s1.heap.push (seqObj "list" items.toArray 0)}) strKind_oneLt hoL hSA.keysOf (fun v₁ v₂ aX e=>keyKind_strs (by rw[←e];exact hSA)) hl64 fun st' a1 a2=>⟨_,rfl,?_⟩) (args_list_sort _)))
 obtain⟨ss',b1,b2,b3⟩:=sorted_out_str hSA a1 a2
 obtain⟨e,he⟩:=sortedHeap_at (out:=(arrOf st').map (·.2)) hoL
 refine wpAny_pure ⟨_,rfl,h _ s1.heap.objs.size _ e ss' (fun b o hb=>?_) g1 o1 hsz he b1 (b2.trans hpk) b3⟩
 have hb1:=k1 b o hb
 have hlt:=jf hb1
 dsimp only
 rw[sortedHeap_old (jT hlt) (by rw[size_push'];exact wK hlt),Heap.get?_push_ne _ _ _ (jT hlt)]
 exact hb1
end
end NhSet
namespace PL
open PySem L2 Nh
def Ax(w:World)(a:Addr)(ks:List Str):HO:=.ext fun h=>NhSet.StrSet w h a (NhSet.lV w) ks
theorem CN(ns:List Str)(n:Nat)(h:n=ns.length):NhSet.mi (fun i=>ns.getD i ⟨#[]⟩) n=kP ns:=by
 have e:(List.range n).map (fun i=>ns.getD i ⟨#[]⟩)=ns:=by
  subst h
  refine List.ext_getElem (by simp) fun i h1 h2=>?_
  simp[h2]
 show((List.range n).map (fun i=>ns.getD i ⟨#[]⟩)).foldl NhSet.o5 []=ns.foldl D4 []
 rw[e]
 rfl
theorem Ay(x:Str):NhSet.mi (NhSet.j8 x) x.cps.size=kP (mV x):=by
 have e:(List.range x.cps.size).map (NhSet.j8 x)=mV x:=by
  refine List.ext_getElem (by simp[mV]) fun i h1 h2=>?_
  have hi:i < x.cps.size:=by simpa using h1
  simp[mV,NhSet.j8,hi]
 show((List.range x.cps.size).map (NhSet.j8 x)).foldl NhSet.o5 []=(mV x).foldl D4 []
 rw[e]
 rfl
section
variable {X:Cx} {e:Expr} {m1:Bool} {f:bv} {p p2 pos pos2:Pos}
def Kf(K:Frag)(w:World):List V→Hp→VK→Prop:=fun xs H Q=>
 (∃(p:Addr) (ss:List Str),xs=[.ref p]∧SqL K H p (ss.map V.str)∧ss.length < 4000∧∀a,H a=none→Q (.ref a) (upd H a (Ax w a (kP ss))))∨
 ∃x:Str,xs=[.str x]∧(mV x).length < 4000∧∀a,H a=none→Q (.ref a) (upd H a (Ax w a (kP (mV x))))
theorem Az(hc:X.calm=true):CallR X (.type "set") (Kf X.K X.w):=by
 intro pins s σ H xs us Q I r h
 rcases h with⟨p,ss,rfl,hq,hl,q⟩ |⟨x,rfl,hl,q⟩
 ·cases r with
  |cons r rr=>
   cases rr
   cases r
   obtain⟨its,rv,pl,hz⟩:=I.list hq
   have hS:=vz rv
   have hlen:its.length=ss.length:=by have:=rv.length;simpa using this.symm
   refine NhSet.At (I.ok.hd hc) pl.isList (by simpa using hS) (by simp only[lS,scanBound];omega) fun h' tk S k=>?_
   rw[CN ss its.toArray.size (by simpa using hlen)]at S
   exact⟨.ref s.heap.objs.size,_,I.laid (fun b o e=>k b o (jf e) e) (gi _) (show ObjOk X.prog X.w _ _ _ (Ax X.w s.heap.objs.size (kP ss))from⟨S,S.obj,fun h1 h2 T kk=>T.at' kk⟩),rfl,q _ (I.hok.fresh (gi _))⟩
 ·cases r with
  |cons r rr=>
   cases rr
   obtain⟨t,rfl⟩:=r
   have hl2:x.cps.size < 4000:=by simpa[mV]using hl
   refine NhSet.CK (I.ok.hd hc) (by simp only[scanBound];omega) fun h' tk S k=>?_
   rw[Ay]at S
   exact⟨.ref s.heap.objs.size,_,I.laid (fun b o e=>k b o (jf e) e) (gi _) (show ObjOk X.prog X.w _ _ _ (Ax X.w s.heap.objs.size (kP (mV x)))from⟨S,S.obj,fun h1 h2 T kk=>T.at' kk⟩),rfl,q _ (I.hok.fresh (gi _))⟩
def CO(w:World):List V→Hp→VK→Prop:=fun xs H Q=>∃(a:Addr) (ks:List Str),xs=[.ref a]∧H a=some (Ax w a ks)∧ks.length < 64∧∀l,H l=none→Q (.ref l) (upd H l (.lst ((oG ks).map V.str)))
theorem tY(hc:X.calm=true):CallR X (.builtin "sorted") (CO X.w):=by
 intro pins s σ H xs us Q I r h
 obtain⟨a,ks,rfl,ha,h64,q⟩:=h
 cases r with
 |cons r rr=>
  cases rr
  cases r
  obtain⟨S,_,_⟩:ObjOk X.prog X.w H s.heap a (Ax X.w a ks):=I.hok a _ ha
  refine NhSet.xq (I.ok.hd hc) S h64 fun s' l out e ss' k g o hl he b1 b2 b3=>?_
  have:=xj b2 b3
  subst this
  have new:ObjOk X.prog X.w (upd H l (.lst ((oG ks).map V.str))) s'.heap l (.lst ((oG ks).map V.str)):=⟨by rw[fw,r8];exact jv (by omega),out.toList,e,vA b1,he⟩
  exact⟨.ref l,_,I.call' (ch:=[]) o (Un.laid k hl (I.hok.fresh hl)) (I.hok.laid k hl new) (by rw[g];exact I.bare) (fun _ z=>nomatch z),rfl,q _ (I.hok.fresh hl)⟩
theorem qo (hc:X.calm=true) (hg:Gl X "sorted") (hm:X.mg "sorted"=none) (hg2:Gl X "set") (hm2:X.mg "set"=none) (ha:EX X e m1 f) (he:starEach [e] X.env=[(false,eval e X.env)]:=by rfl)
  (he2:starEach [.Call (.Name "set" p2) [e] [] pos2] X.env=[(false,eval (.Call (.Name "set" p2) [e] [] pos2) X.env)]:=by rfl):EX X (.Call (.Name "sorted" p) [.Call (.Name "set" p2) [e] [] pos2] [] pos) m1 (kQ f):=by
 refine cn (pN (tY hc) hg hm PyProof.Rows.boot_sorted (cV (nv (Az hc) hg2 hm2 PyProof.Rows.boot_set (cV ha fY he) (by decide) (by decide) he rfl) fY he2) (by decide) (by decide) he2 rfl) fun σ H Q z=>?_
 obtain⟨B,E,xs,Xs,res,E',fr,cl,e,q⟩:=z
 obtain⟨⟨s,E1⟩,e1,e⟩:=Za.mp e
 refine⟨B,E,xs,Xs,s,E1,fr,cl,e1,fun v1 H1 ⟨F,A,fr1⟩=>?_⟩
 obtain⟨A',fr2⟩:=fr1.pop
 simp only at e
 split at e
 ·rename_i ds ld
  obtain⟨ss,es,e⟩:=Za.mp e
  split at e
  ·rename_i hc
   cases e
   have r:=(fr1.look0 ld).1
   cases r with
   |lst h1 h2=>
    have:=tU h2 es
    subst this
    exact .inl ⟨_,ss,rfl,h1,hc.1,fun a ha=>⟨a,_,rfl,aS,hc.2,fun l hl=>q _ _ ⟨_,_,(fr2.grow (hZ ha _)).newl (mU _) hl⟩⟩⟩
  ·cases e
 ·rename_i x ld
  split at e
  ·rename_i hc
   cases e
   have r:=(fr1.look0 ld).1
   cases r
   exact .inr ⟨x,rfl,hc.1,fun a ha=>⟨a,_,rfl,aS,hc.2,fun l hl=>q _ _ ⟨_,_,(fr2.grow (hZ ha _)).newl (mU _) hl⟩⟩⟩
  ·cases e
 ·cases e
end
end PL
namespace PL
open PySem L2 Nh
theorem EW {X:Cx} {x:Str} {i:Int} {t:Tok} {pos:Pos} (hg:Gl X x) (hm:X.mg x=some (.int i t)) (hd:(x == ("__debug__":Str))=false:=by decide):EX X (.Name x pos) false (pC (.int i)):=by
 refine cn (yd (v:=.int i) hg hm ⟨t,rfl⟩ hd) fun σ H Q z=>?_
 obtain⟨B,E,xs,Xs,res,E',⟨F,A,fr⟩,cl,e,q⟩:=z
 cases e
 exact q _ _ ⟨F,A,fr.push ⟨rfl,_,rfl,.int _⟩⟩
theorem EY {X:Cx} {x y:Str} {t:Tok} {pos:Pos} (hg:Gl X x) (hm:X.mg x=some (.str y t)) (hd:(x == ("__debug__":Str))=false:=by decide):EX X (.Name x pos) false (pC (.str y)):=by
 refine cn (yd (v:=.str y) hg hm ⟨t,rfl⟩ hd) fun σ H Q z=>?_
 obtain⟨B,E,xs,Xs,res,E',⟨F,A,fr⟩,cl,e,q⟩:=z
 cases e
 exact q _ _ ⟨F,A,fr.push ⟨rfl,_,rfl,.str _⟩⟩
end PL
namespace Nh
open PySem L2
theorem NailsOk.stp{r:List Pc}{p:Pc}(h:NailsOk r)(hp:p.1 < 128):NailsOk (NH.stp r p):=by
 cases r with
 |nil=>
  show NailsOk (if p.2=0 then []else [p])
  split
  ·exact h
  ·intro q hq;rw[Zag.mp hq];exact hp
 |cons x r=>
  rw[NH.jB]
  intro q hq
  rcases Zaj.mp hq with h1 |h1
  ·unfold NH.Bs at h1
   split at h1
   ·split at h1
    ·cases h1
    ·rw[Zag.mp h1];exact hp
   ·split at h1
    ·rw[Zag.mp h1];exact h x (gJ ..)
    ·rcases Zal.mp h1 with h2 |h2
     ·rw[h2];exact hp
     ·rw[Zag.mp h2];exact h x (gJ ..)
  ·exact h q (gq _ h1)
theorem NailsOk.foldl:∀(c:List Pc) {r:List Pc},NailsOk r→NailsOk c→NailsOk (c.foldl NH.stp r)
 |[],_,h,_=>h
 |p::c,_,h,hc=>NailsOk.foldl c (h.stp (hc p (gJ ..))) fun q hq=>hc q (gq _ hq)
theorem NailsOk.take{c:List Pc}(h:NailsOk c)(i:Nat):NailsOk (c.take i):=fun p hp=>h p (List.mem_of_mem_take hp)
theorem NailsOk.drop{c:List Pc}(h:NailsOk c)(i:Nat):NailsOk (c.drop i):=fun p hp=>h p (List.mem_of_mem_drop hp)
theorem NailsOk.reverse{c:List Pc}(h:NailsOk c):NailsOk c.reverse:=fun p hp=>h p (List.mem_reverse.mp hp)
theorem NailsOk.append{c d:List Pc}(h:NailsOk c)(h':NailsOk d):NailsOk (c++d):=fun p hp=>(Zaj.mp hp).elim (h p) (h' p)
theorem NailsOk.contr{c:List Pc}(h:NailsOk c):NailsOk (NH.contr c):=fun p hp=>by
 obtain⟨q,hq,e⟩:=Zbc.mp hp
 subst e
 exact h q (List.mem_reverse.mp hq)
theorem NailsOk.short{c:List Pc}(h:NailsOk c):NailsOk (NH.short c):=(NailsOk.foldl c (fun _ z=>by cases z) h).reverse
theorem sj:NailsOk []:=fun _ z=>by cases z
end Nh
namespace Nh
open PySem L2 PL
theorem NailsOk.rep{c:List Pc}(h:NailsOk c)(k:Nat):NailsOk (List.replicate k c).flatten:=fun p hp=>by
 obtain⟨l,hl,hpl⟩:=List.mem_flatten.mp hp
 rw[(List.mem_replicate.mp hl).2]at hpl
 exact h p hpl
theorem NailsOk.cutL{c:List Pc}(h:NailsOk c)(lo hi:Option Int):NailsOk (cutL c lo hi):=fun p hp=>h p (qc hp)
def l4(i:Int):Nat:=[97,98,99,122].getD i.toNat 97
theorem Jd:∀j,j < 26→(Str.ofString "abcdefghijklmnopqrstuvwxyz").cps.toList[j]? =some (97+j):=by decide+kernel
theorem EZ:∀j,j < 4→(Str.ofString "abcz").cps.toList[j]? =some ([97,98,99,122].getD j 97):=by decide+kernel
theorem tZ(v:Int):atI (Str.ofString "abcz").cps.toList (v % 4)=some (l4 (v % 4)):=by
 have h0:=Int.emod_nonneg v (show(4:Int)≠0 by decide)
 have h1:=Int.emod_lt_of_pos v (show(0:Int) < 4 by decide)
 rw[tQ h0]
 exact EZ _ (by omega)
theorem Kg(v:Int):atI (Str.ofString "abcdefghijklmnopqrstuvwxyz").cps.toList (v % 26)=some (97+(v % 26).toNat):=by
 have h0:=Int.emod_nonneg v (show(26:Int)≠0 by decide)
 have h1:=Int.emod_lt_of_pos v (show(0:Int) < 26 by decide)
 rw[tQ h0]
 exact Jd _ (by omega)
theorem mZ:(Str.ofString "abcz").length≤1000000:=by decide+kernel
theorem Hu:(Str.ofString "abcdefghijklmnopqrstuvwxyz").length≤1000000:=by decide+kernel
theorem m4{i j:Int}(h1: -(2 ^ 64) < j)(h2:j < 2 ^ 64):dE i j=true:=by
 simp only[dE,Bool.or_eq_true,decide_eq_true_eq]
 exact .inl (.inr ⟨h1,h2⟩)
theorem yO{i j:Int}(h1: -(2 ^ 64) < i)(h2:i < 2 ^ 64):dE i j=true:=by
 simp only[dE,Bool.or_eq_true,decide_eq_true_eq]
 exact .inl (.inl ⟨h1,h2⟩)
theorem qp{j:Int}(h1:0 < j)(h2:j < 2 ^ 200):jk j=true:=decide_eq_true ⟨h1,h2⟩
theorem bO(i j:Int):wX (.int i) (.int j)=some (decide (i=j)):=rfl
theorem gf(i j:Str):wX (.str i) (.str j)=some (decide (i=j)):=rfl
theorem vI(i j:Bool):wX (.bool i) (.bool j)=some (decide (i=j)):=rfl
theorem CP{c d:List Pc}(hc:NailsOk c)(hd:NailsOk d):wX (.list (c.map av)) (.list (d.map av))=some (decide (c=d)):=by
 have e:wX (.list (c.map av)) (.list (d.map av))=(if SeqAt.shaped (lT c)&&SeqAt.shaped (lT d)then some (PyData.eqv (lT c) (lT d))else none):=rfl
 rw[e,oC hc,oC hd,BX]
 rfl
theorem iD{c:List Pc}(hc:NailsOk c):wX (.list (c.map av)) (.list [])=some (decide (c=[])):=CP hc sj
theorem sk(c:List Pc):c.reverse.foldl NH.stp []=NH.tB c:=by
 unfold NH.tB
 rw[List.foldl_reverse]
theorem lD(a b:Nat):((⟨#[a]⟩:Str)=⟨#[b]⟩)=(a=b):=propext ⟨fun h=>by
 injection h with h
 simpa using congrArg Array.toList h,fun h=>by rw[h]⟩
end Nh
namespace L2
open PySem PySem.Spec PyProof.Rows
def yP(K:Frag)(h:Heap):Prop:=∀b q,oY K b=some q→h.get? b=some (tabObj #[])∧(∃c,PySem.W.CodeHd h c b)∧K.lookup b=none
def e_(K:Frag)(a:Addr)(so:Option HO):Hp:=fun b=>match oY K b with
 |some q=>some (.tbl q)
 |none=>if b=a then so else none
theorem xr{K:Frag}{a b:Addr}{so:Option HO}{q:Str}(e:oY K b=some q):e_ K a so b=some (.tbl q):=by unfold e_;rw[e]
theorem AA{K:Frag}{a:Addr}{so:Option HO}(e:oY K a=none):e_ K a so a=so:=by unfold e_;rw[e];exact if_pos rfl
theorem ie{K:Frag}{a b:Addr}{so:Option HO}{u:HO}(e:e_ K a so b=some u):(∃q,oY K b=some q∧u=.tbl q)∨(b=a∧so=some u):=by
 unfold e_ at e
 split at e
 ·rename_i q h;cases e;exact .inl ⟨q,h,rfl⟩
 ·by_cases hb:b=a
  ·rw[if_pos hb]at e;exact .inr ⟨hb,e⟩
  ·rw[if_neg hb]at e;cases e
section
variable {P:Program} {w:World} {K:Frag} {mg mb:Str→Option Value} {CX:BM} {k:Nat} {fa a:Addr} {fd:FuncData} {x:Str} {sp:Sp} {s₁:Shared} {vs:List Value} {ns:List Int}
theorem E7 (KX:K.In s₁.heap) (hns:s₁.heap.Ns mainGlobals mg) (hb:s₁.heap.Ns builtinsNs mb) (hbb:∀x:Str,x≠"__name__"→mb x=bootBuiltins x) (hlim:s₁.heap.NoLimit) (hg:s₁.gens=#[]) (hbm:∃bm ob,mg "__builtins__"=some (.ref bm)∧bm≠builtinsNs∧s₁.heap.get? bm=some ob∧ob.cls=.type "module"∧ob.dict=some builtinsNs∧ob.data=.plain) (hT:yP K s₁.heap)
  (ha:s₁.heap.get? a=some {cls:=.type "list",data:=.seq vs.toArray}) (hi:IntsAre vs ns) (hl:ns.length≤sizeLine) (hr:Room k callerA)
  (F:∀base:Heap,K.In base→base.Ns mainGlobals mg→FnOk P w K mg base CX k fa fd [x] sp) (hbind:∀(s:Shared) (u:Value),BindsTo s fd ⟨[u],[]⟩ [(x,u)])
  (hsp:∀H:Hp,SqL K H a (ns.map V.int)→sp [.ref a] H (fun v _=>v=.bl true) fun _ _ _=>False)
  (hCX:∀H e s',CX [] H s₁ (fun _ _ _=>False) e s'→False):
  codeAny (model P w) callerA (.call (.ref fa) ⟨[.ref a],[]⟩) (fun r s'=>r=.ok (.ret (.bool true))∧OldK s₁.heap s'.heap∧s'.os=s₁.os∧AllBare s'.gens) s₁:=by
 have rv:=lm hi
 have lenV:=hi.length
 have tabA:oY K a=none:=by
  cases q:oY K a with
  |none=>rfl
  |some z=>
   have e:=(hT a z q).1
   rw[ha]at e
   cases e
 have main:∀so:Option HO,(so=none∨(so=some (.frz {cls:=.type "list",data:=.seq vs.toArray} (.lst (ns.map V.int)))∧K.lookup a=none))→SqL K (e_ K a so) a (ns.map V.int)→
   codeAny (model P w) callerA (.call (.ref fa) ⟨[.ref a],[]⟩) (fun r s'=>r=.ok (.ret (.bool true))∧OldK s₁.heap s'.heap∧s'.os=s₁.os∧AllBare s'.gens) s₁:=by
  intro so hso hS
  have hok:HOk P w (e_ K a so) s₁.heap:=fun b u e=>by
   rcases ie e with⟨q,e1,rfl⟩ |⟨rfl,e1⟩
   ·exact ObjOk.tbl0 (hT b q e1).1
   ·rcases hso with z |⟨z,_⟩
    ·rw[z]at e1;cases e1
    ·rw[z]at e1;cases e1
     exact⟨ha,by rw[fw];exact hl,vs,_,rv,ha⟩
  have free:∀{b:Addr} {o:Obj} {es:Array DictEntry} {ep:Nat},s₁.heap.get? b=some o→o.data=.dict es ep→e_ K a so b=none:=fun {b o es ep} e d=>by
   cases q:e_ K a so b with
   |none=>rfl
   |some u=>
    rcases ie q with⟨z,e1,_⟩ |⟨rfl,_⟩
    ·rw[(hT b z e1).1]at e;cases e;cases d
    ·rw[ha]at e;cases e;cases d
  have nsK:∀{b:Addr} {m:Str→Option Value},s₁.heap.Ns b m→(uN s₁.heap (e_ K a so)).Ns b m:=fun {b m} ⟨o,es,ep,e,d,r⟩=>⟨o,es,ep,pJ e (free e d),d,r⟩
  have kin:K.In (uN s₁.heap (e_ K a so)):=fun b o e=>pJ (KX b o e) (by
   cases q:e_ K a so b with
   |none=>rfl
   |some u=>
    rcases ie q with⟨z,e1,_⟩ |⟨rfl,e1⟩
    ·rw[(hT b z e1).2.2]at e;cases e
    ·rcases hso with z |⟨_,z⟩
     ·rw[z]at e1;cases e1
     ·rw[z]at e;cases e)
  have bmK:∃bm ob,mg "__builtins__"=some (.ref bm)∧bm≠builtinsNs∧(uN s₁.heap (e_ K a so)).get? bm=some ob∧ob.cls=.type "module"∧ob.dict=some builtinsNs∧ob.data=.plain:=by
   obtain⟨bm,ob,c1,c2,c3,c4,c5⟩:=hbm
   refine⟨bm,ob,c1,c2,pJ c3 ?_,c4,c5⟩
   cases q:e_ K a so bm with
   |none=>rfl
   |some u=>
    rcases ie q with⟨z,e1,_⟩ |⟨rfl,_⟩
    ·rw[(hT bm z e1).1]at c3;cases c3;cases c4
    ·rw[ha]at c3
     cases c3
     injection c4 with c6
     exact absurd c6 (by decide)
  have e0:Env0 P w K mg (uN s₁.heap (e_ K a so)) callerA [] s₁ (e_ K a so):=
   ⟨rfl,⟨kin,nsK hns,⟨mb,nsK hb,hbb⟩,let ⟨mc,h1,h2⟩:=hlim;⟨mc,nsK h1,h2⟩,bmK⟩,fun b o e=>D7 e,Nat.le_of_eq (zI _ _),trivial,fun b hb=>absurd (show b∈([]:List Addr)from hb) (by simp),hok,.of_eq hg,fun b q e=>xr e⟩
  refine codeAny_mono ((F _ kin (nsK hns)).run callerA [] s₁ _ ⟨[.ref a],[]⟩ [.ref a] [.ref a] _ _ hr e0 (hbind s₁ (.ref a)) (.cons rfl .nil) (hsp _ hS)) fun r s' h=>?_
  cases r with
  |error e=>exact(hCX _ e s' h).elim
  |ok fl=>
   cases fl with
   |next=>exact False.elim h
   |brk=>exact False.elim h
   |cont=>exact False.elim h
   |ret u=>
    obtain⟨v,H',os,bare,un,hok',r',q⟩:=h
    have q':v=.bl true:=q
    subst q'
    obtain rfl:u=Value.bool true:=r'
    have nofs:∀b,b∉Bq ([]:List Env):=fun b z=>absurd (show b∈([]:List Addr)from z) (by simp)
    have step:∀b o,s₁.heap.get? b=some o→asItWas s₁.heap s'.heap b o∧∃o',s'.heap.get? b=some o':=fun b o e=>by
     cases q:e_ K a so b with
     |none=>exact⟨.inl (un.keep b o e q (nofs b) (by simp)),_,un.keep b o e q (nofs b) (by simp)⟩
     |some u=>
      rcases ie q with⟨z,e1,rfl⟩ |⟨rfl,e1⟩
      ·obtain⟨t1,⟨c,t2⟩,_⟩:=hT b z e1
       obtain⟨ps,p1,_⟩:=hok' b _ (un.tbls b z q)
       rw[t1]at e
       cases e
       exact⟨.inr (.inl ⟨(t2.tab t1).isCodeTable,rfl,#[],ps,rfl,by simpa using p1⟩),_,p1⟩
      ·rcases hso with z |⟨z,_⟩
       ·rw[z]at e1;cases e1
       ·rw[z]at e1;cases e1
        have z2:=un.frzs b _ _ q
        obtain⟨e2,_⟩:=hok' b _ z2
        rw[ha]at e;cases e
        exact⟨.inl e2,_,e2⟩
    exact⟨rfl,⟨fun b o e=>(step b o e).1,fun b o e=>(step b o e).2⟩,os,bare⟩
 cases hk:K.lookup a with
 |some o=>
  have e:=KX a o hk
  rw[ha]at e
  cases e
  exact main none (.inl rfl) (.inr ⟨_,vs.toArray,_,hk,rfl,rfl,rfl,by rw[lS,lenV];exact hl,by simpa using rv⟩)
 |none=>exact main _ (.inr ⟨rfl,hk⟩) (.inl (.inr ⟨_,AA tabA⟩))
end
theorem CQ{l:OpenLaw}{n k:Nat}{q:Program}{loose:List Str}{XP:(Str→Option Value)→Heap→Prop}{YP:World→Heap→Prop}{d:DefRec}{K:Params→Frag}{CX:World→BM}{sp:World→Sp}{x:Str}
  (hn:l.most=some n) (hn2:n≤sizeLine) (hdf:d.params.defaults=[]) (hr:Room k callerA)
  (hY:∀(w:World) (h:Heap),YP w h→(K w.params).In h∧yP (K w.params) h)
  (F:∀(w:World) (mg:Str→Option Value) (fa:Addr) (h:Heap),(K w.params).In h→h.Ns mainGlobals mg→mg d.name=some (.ref fa)→
   ∃fd:FuncData,(∀(s:Shared) (u:Value),BindsTo s fd ⟨[u],[]⟩ [(x,u)])∧
    ∀base:Heap,(K w.params).In base→base.Ns mainGlobals mg→FnOk l.prog w (K w.params) mg base (CX w) k fa fd [x] (sp w))
  (hsp:∀(w:World) (H:Hp) (a:Addr) (ns:List Int),ns.length≤n→SqL (K w.params) H a (ns.map V.int)→sp w [.ref a] H (fun v _=>v=.bl true) fun _ _ _=>False)
  (hCX:∀(w:World) (H:Hp) (s:Shared) (e:Value) (s':Shared),CX w [] H s (fun _ _ _=>False) e s'→False):
  PySem.W.WalkO q loose XP YP l.row.toRowW d [] (fun f vs=>PySem.call f vs):=by
 refine Att.u4 hn hdf fun w s₀ s₁ mg mb fa o pm cd doc a vs ns G Y ho hd hcd hmg hobj hints hlen hg=>?_
 obtain⟨KX,KT⟩:=hY w _ Y
 obtain⟨fd,hb,hF⟩:=F w mg fa _ KX G.T.g hmg
 exact E7 KX G.T.g G.T.b G.T.builtins G.T.nolimit hg G.T.bmain KT hobj hints (jn hlen hn2) hr hF hb (fun H hS=>hsp w H a ns hlen hS) fun H e s'=>hCX w H s₁ e s'
end L2
namespace NH
def Ik:Nat→Nat→Nat
 |_,0=>1
 | 0,_+1=>0
 |n+1,k+1=>Ik n (k+1)+Ik n k
def Il:Nat→Nat→Int
 |_,0=>1
 | 0,_+1=>0
 |m+1,k+1=>Il m (k+1) - Il (m+1) k
def ch(n:Int)(k:Nat):Int:=match n with
 |.ofNat n=>(Ik n k:Int)
 |.negSucc m=>Il (m+1) k
theorem aQ(n:Int):ch n 0=1:=by
 cases n with
 |ofNat n=>simp[ch,Ik]
 |negSucc m=>simp[ch,Il]
theorem lE(k:Nat):ch 0 k=if k=0 then 1 else 0:=by
 cases k with
 |zero=>rfl
 |succ k=>simp[ch,Ik]
theorem gn(n:Int)(k:Nat):ch (n+1) (k+1)=ch n (k+1)+ch n k:=by
 cases n with
 |ofNat n=>
  show ch (Int.ofNat (n+1)) (k+1)=_
  simp only[ch,Ik]
  omega
 |negSucc m=>
  cases m with
  |zero=>
   have e:Int.negSucc 0+1=0:=rfl
   rw[e,lE]
   simp only[ch,Il]
   simp
   omega
  |succ m=>
   have e:Int.negSucc (m+1)+1=Int.negSucc m:=by omega
   rw[e]
   simp only[ch,Il]
   omega
theorem xt{f g:Int→Nat→Int}(h0:∀k,f 0 k=g 0 k)(hk:∀n,f n 0=g n 0)(pf:∀n k,f (n+1) (k+1)=f n (k+1)+f n k)(pg:∀n k,g (n+1) (k+1)=g n (k+1)+g n k):∀(n:Int) (k:Nat),f n k=g n k:=by
 have up:∀(n k:Nat),f (n:Int) k=g (n:Int) k:=fun n=>by
  induction n with
  |zero=>intro k;exact h0 k
  |succ n ih=>
   intro k
   cases k with
   |zero=>exact hk _
   |succ k=>
    have e:((n+1:Nat):Int)=(n:Int)+1:=by omega
    rw[e,pf,pg,ih,ih]
 have down:∀(m k:Nat),f (-(m:Int)) k=g (-(m:Int)) k:=fun m=>by
  induction m with
  |zero=>intro k;exact h0 k
  |succ m ih=>
   intro k
   induction k with
   |zero=>exact hk _
   |succ k ik=>
    have e: -((m+1:Nat):Int)+1= -(m:Int):=by omega
    have a:=pf (-((m+1:Nat):Int)) k
    have b:=pg (-((m+1:Nat):Int)) k
    rw[e]at a b
    rw[ih]at a
    omega
 intro n k
 rcases Int.le_total 0 n with h |h
 ·have e:n=((n.toNat:Nat):Int):=by omega
  rw[e];exact up _ _
 ·have e:n= -(((-n).toNat:Nat):Int):=by omega
  rw[e];exact down _ _
theorem t5:∀(n:Int) (k:Nat),((k:Int)+1)*ch n (k+1)=(n - k)*ch n k:=by
 have zero:∀k:Nat,((k:Int)+1)*ch 0 (k+1)=(0 - k)*ch 0 k:=fun k=>by
  rw[lE,lE]
  cases k with
  |zero=>simp
  |succ k=>simp
 have up:∀n:Int,(∀k:Nat,((k:Int)+1)*ch n (k+1)=(n - k)*ch n k)→∀k:Nat,((k:Int)+1)*ch (n+1) (k+1)=(n+1 - k)*ch (n+1) k:=fun n ih k=>by
  have h:=ih k
  rw[gn]
  cases k with
  |zero=>
   rw[aQ]at h
   rw[aQ n,aQ (n+1)]
   simp at h ⊢
   omega
  |succ k=>
   have h2:=ih k
   clear ih zero
   rw[gn]
   have e:((k+1:Nat):Int)=(k:Int)+1:=by omega
   rw[e]at h ⊢
   generalize (k:Int)=z at *
   grind
 have down:∀n:Int,(∀k:Nat,((k:Int)+1)*ch (n+1) (k+1)=(n+1 - k)*ch (n+1) k)→∀k:Nat,((k:Int)+1)*ch n (k+1)=(n - k)*ch n k:=fun n ih k=>by
  induction k with
  |zero=>
   have h:=ih 0
   rw[gn,aQ,aQ]at h
   rw[aQ]
   simp at h ⊢
   omega
  |succ k ik=>
   have h:=ih (k+1)
   clear ih zero up
   rw[gn,gn]at h
   have e:((k+1:Nat):Int)=(k:Int)+1:=by omega
   rw[e]at h ⊢
   generalize (k:Int)=z at *
   grind
 have ups:∀(n k:Nat),((k:Int)+1)*ch n (k+1)=((n:Int) - k)*ch n k:=fun n=>by
  induction n with
  |zero=>exact zero
  |succ n ih=>exact up n ih
 have downs:∀(m k:Nat),((k:Int)+1)*ch (-(m:Int)) (k+1)=(-(m:Int) - k)*ch (-(m:Int)) k:=fun m=>by
  induction m with
  |zero=>exact zero
  |succ m ih=>
   refine down (-((m+1:Nat):Int)) ?_
   have e: -((m+1:Nat):Int)+1= -(m:Int):=by omega
   rw[e]
   exact ih
 intro n k
 rcases Int.le_total 0 n with h |h
 ·have e:n=((n.toNat:Nat):Int):=by omega
  rw[e];exact ups _ _
 ·have e:n= -(((-n).toNat:Nat):Int):=by omega
  rw[e];exact downs _ _
def ff(n:Int):Nat→Int
 | 0=>1
 |k+1=>ff n k*(n - k)
def xu:Nat→Int
 | 0=>1
 |k+1=>xu k*((k:Int)+1)
theorem t6:∀k,0 < xu k
 | 0=>by decide
 |k+1=>Int.mul_pos (t6 k) (by omega)
theorem Gc(n:Int):∀k,ff n k=xu k*ch n k
 | 0=>by rw[aQ];rfl
 |k+1=>by
  have h:=t5 n k
  show ff n k*(n - k)=xu k*((k:Int)+1)*ch n (k+1)
  rw[Gc n k]
  generalize ch n (k+1)=x at *
  generalize ch n k=y at *
  generalize xu k=z at *
  generalize (k:Int)=t at *
  grind
theorem Hv(n:Int)(k:Nat):ff n k / xu k=ch n k:=by
 rw[Gc]
 exact Int.mul_ediv_cancel_left _ (Int.ne_of_gt (t6 k))
section
variable {α:Type}
def conv(f g:List α→Int):List α→Int
 |[]=>f []*g []
 |a::w=>f []*g (a::w)+conv (fun u=>f (a::u)) g w
def t7:List α→Int
 |[]=>1
 |_::_=>0
theorem gk{f f' g g':List α→Int}(hf:∀w,f w=f' w)(hg:∀w,g w=g' w)(w:List α):conv f g w=conv f' g' w:=by
 have e1:f=f':=funext hf
 have e2:g=g':=funext hg
 rw[e1,e2]
theorem vJ(c:Int)(p q h:List α→Int):∀w,conv (fun u=>c*p u+q u) h w=c*conv p h w+conv q h w
 |[]=>by simp only[conv];grind
 |a::w=>by
  have ih:=vJ c (fun u=>p (a::u)) (fun u=>q (a::u)) h w
  simp only[conv]
  rw[ih]
  grind
theorem ml:∀(w:List α) (f g h:List α→Int),conv (conv f g) h w=conv f (conv g h) w
 |[],f,g,h=>by simp only[conv];grind
 |a::w,f,g,h=>by
  have e:(fun u=>conv f g (a::u))=fun u=>f []*g (a::u)+conv (fun v=>f (a::v)) g u:=rfl
  have ih:=ml w (fun v=>f (a::v)) g h
  show conv f g []*h (a::w)+conv (fun u=>conv f g (a::u)) h w=f []*conv g h (a::w)+conv (fun v=>f (a::v)) (conv g h) w
  rw[e,vJ,ih]
  simp only[conv]
  grind
theorem iS(g:List α→Int):∀w,conv (fun _=>0) g w=0
 |[]=>by simp[conv]
 |a::w=>by simp[conv,iS g w]
theorem qr(f:List α→Int):∀w,conv t7 f w=f w
 |[]=>by simp[conv,t7]
 |a::w=>by
  have e:(fun u=>t7 (a::u))=fun(_:List α)=>(0:Int):=rfl
  simp only[conv,e,iS,t7]
  omega
theorem vK:∀(w:List α) (f:List α→Int),conv f t7 w=f w
 |[],f=>by simp[conv,t7]
 |a::w,f=>by
  have ih:=vK w fun u=>f (a::u)
  simp only[conv,ih,t7]
  omega
end
section
variable {α:Type} [DecidableEq α]
def fX(p:α×Int)(w:List α):Int:=if w.all (fun b=>decide (b=p.1))then ch p.2 w.length else 0
def aT(w:List α)(c:List (α×Int)):Int:=c.foldr (fun p f=>conv (fX p) f) t7 w
theorem lG(w:List α):aT w []=t7 w:=rfl
theorem cM(w:List α)(p:α×Int)(c:List (α×Int)):aT w (p::c)=conv (fX p) (fun v=>aT v c) w:=rfl
theorem t8(w:List α)(c d:List (α×Int)):aT w (c++d)=conv (fun u=>aT u c) (fun v=>aT v d) w:=by
 induction c generalizing w with
 |nil=>exact(qr _ w).symm
 |cons p c ih=>
  rw[List.cons_append,cM,gk (fun _=>rfl) ih,←ml]
  rfl
def vs(j:Nat)(m n:Int):Nat→Int
 | 0=>ch m j
 |k+1=>ch m j*ch n (k+1)+vs (j+1) m n k
theorem yQ(m:Int):∀(k j:Nat),vs j m 0 k=ch m (j+k)
 | 0,j=>rfl
 |k+1,j=>by
  simp only[vs,lE,yQ m k (j+1)]
  rw[show j+1+k=j+(k+1) by omega]
  simp
theorem sm(m n:Int):∀(k j:Nat),vs j m (n+1) (k+1)=vs j m n (k+1)+vs j m n k
 | 0,j=>by
  simp only[vs,gn,aQ]
  grind
 |k+1,j=>by
  have ih:=sm m n k (j+1)
  rw[vs,ih,gn]
  simp only[vs]
  grind
theorem vL(m n:Int)(k:Nat):vs 0 m n k=ch (m+n) k:=by
 refine xt (f:=fun n k=>vs 0 m n k) (g:=fun n k=>ch (m+n) k) (fun k=>?_) (fun n=>?_) (fun n k=>sm m n k 0) (fun n k=>?_) n k
 ·rw[yQ,Nat.zero_add,Int.add_zero]
 ·simp only[vs,aQ]
 ·show ch (m+(n+1)) (k+1)=_
  rw[show m+(n+1)=m+n+1 by omega,gn]
theorem lW(a:α)(m n:Int):∀(k j:Nat) (w:List α),w.length=k→conv (fun u=>if u.all (fun b=>decide (b=a))then ch m (j+u.length)else 0) (fX (a,n)) w=if w.all (fun b=>decide (b=a))then vs j m n k else 0
 | 0,j,[],_=>by simp[conv,fX,vs,aQ]
 |k+1,j,b::w,h=>by
  have hl:w.length=k:=by simpa using h
  by_cases e:b=a
  ·subst e
   have f:(fun u:List α=>if ((b::u).all fun c=>decide (c=b))=true then ch m (j+(b::u).length)else 0)=fun u=>if (u.all fun c=>decide (c=b))=true then ch m (j+1+u.length)else 0:=by
    funext u
    simp only[List.all_cons,Z4,aU]
    rw[show j+(u.length+1)=j+1+u.length by omega]
   have ih:=lW b m n k (j+1) w hl
   simp only[conv]
   rw[f,ih]
   simp only[List.all_nil,Z5,Nat.add_zero,fX,List.all_cons,Z4,hl,aU]
   by_cases c:(w.all fun c=>decide (c=b))=true
   ·simp only[c,if_true,vs]
   ·simp[c]
  ·have f:(fun u:List α=>if ((b::u).all fun c=>decide (c=a))=true then ch m (j+(b::u).length)else 0)=fun _=>0:=by
    funext u
    simp[e]
   simp only[conv]
   rw[f,iS]
   simp[fX,e]
theorem vM(a:α)(m n:Int)(w:List α):conv (fX (a,m)) (fX (a,n)) w=fX (a,m+n) w:=by
 have h:=lW a m n w.length 0 w rfl
 have e:(fun u:List α=>if (u.all fun b=>decide (b=a))=true then ch m (0+u.length)else 0)=fX (a,m):=by
  funext u
  simp[fX]
 rw[e]at h
 rw[h,vL]
 rfl
theorem xv(a:α)(w:List α):fX (a,0) w=t7 w:=by
 cases w with
 |nil=>simp[fX,t7,lE]
 |cons b w=>simp[fX,t7,lE]
theorem AB(w:List α)(p:α×Int)(r:List (α×Int)):aT w (stp r p)=aT w (p::r):=by
 have zero:∀(n:α) (r:List (α×Int)) (w:List α),aT w ((n,0)::r)=aT w r:=fun n r w=>by
  rw[cM,gk (xv n) (fun _=>rfl),qr]
 have two:∀(n:α) (a b:Int) (r:List (α×Int)) (w:List α),aT w ((n,a)::(n,b)::r)=aT w ((n,a+b)::r):=fun n a b r w=>by
  rw[cM,gk (fun _=>rfl) (fun v=>cM v (n,b) r),←ml,gk (vM n a b) (fun _=>rfl),←cM]
 obtain⟨n,a⟩:=p
 cases r with
 |nil=>
  show aT w (if a=0 then []else [(n,a)])=_
  by_cases h:a=0
  ·subst h;rw[if_pos rfl,zero]
  ·rw[if_neg h]
 |cons q r=>
  obtain⟨m,b⟩:=q
  show aT w (if m=n then (if b+a=0 then r else (n,b+a)::r)else (if a=0 then (m,b)::r else (n,a)::(m,b)::r))=_
  by_cases e:m=n
  ·subst e
   rw[if_pos rfl,two]
   by_cases h:b+a=0
   ·rw[if_pos h,show a+b=0 by omega,zero]
   ·rw[if_neg h,Int.add_comm]
  ·rw[if_neg e]
   by_cases h:a=0
   ·subst h;rw[if_pos rfl,zero]
   ·rw[if_neg h]
theorem xx(c:List (α×Int)):∀w:List α,aT w (tB c)=aT w c:=by
 induction c with
 |nil=>intro w;rfl
 |cons p c ih=>
  intro w
  show aT w (stp (tB c) p)=_
  rw[AB,cM,cM,gk (fun _=>rfl) ih]
theorem oJ(w:List α)(c:List (α×Int)):aT w (short c)=aT w c:=by rw[jt,xx]
def Unlike:List α→Prop
 |[]=>True
 |[_]=>True
 |a::b::w=>a≠b∧Unlike (b::w)
theorem Unlike.tail{a:α}{w:List α}(h:Unlike (a::w)):Unlike w:=by
 cases w with
 |nil=>trivial
 |cons b w=>exact h.2
theorem sr:∀(w:List α) (f g:List α→Int) (a:α),conv f g (w++[a])=f (w++[a])*g []+conv f (fun v=>g (v++[a])) w
 |[],f,g,a=>by simp only[Z8,conv];omega
 |b::w,f,g,a=>by
  have ih:=sr w (fun u=>f (b::u)) g a
  simp only[Z9,conv]
  rw[ih]
  omega
theorem xy(w:List α)(c:List (α×Int))(p:α×Int):aT w (c++[p])=conv (fun u=>aT u c) (fX p) w:=by
 rw[t8]
 refine gk (fun _=>rfl) (fun v=>?_) w
 rw[cM]
 exact vK v (fX p)
def kR(f:List α→Int)(p:α×Int):List α→Nat→Int
 |[],k=>f []*ch p.2 k
 |a::w,k=>f (a::w).reverse*ch p.2 k+(if a=p.1 then kR f p w (k+1)else 0)
theorem kB(f:List α→Int):∀w,conv f (fun _=>0) w=0
 |[]=>by simp[conv]
 |a::w=>by simp[conv,kB (fun u=>f (a::u)) w]
theorem oK(f:List α→Int)(p:α×Int):∀(w:List α) (k:Nat),conv f (fun v=>if v.all (fun b=>decide (b=p.1))then ch p.2 (v.length+k)else 0) w.reverse=kR f p w k
 |[],k=>by simp[conv,kR]
 |a::w,k=>by
  rw[uK,sr]
  have ih:=oK f p w (k+1)
  simp only[List.all_nil,Z5,kR,uK,aU]
  congr 1
  by_cases e:a=p.1
  ·rw[if_pos e,←ih]
   refine gk (fun _=>rfl) (fun v=>?_) _
   simp only[List.all_append,List.all_cons,List.all_nil,e,pI,Z4,Z5,aU]
   rw[show v.length+(0+1)+k=v.length+(k+1) by omega]
  ·rw[if_neg e]
   have z:(fun v:List α=>if ((v++[a]).all fun b=>decide (b=p.1))=true then ch p.2 ((v++[a]).length+k)else 0)=fun _=>0:=by
    funext v
    simp[e]
   rw[z,kB]
theorem t9(w:List α)(c:List (α×Int))(p:α×Int):aT w (c++[p])=kR (fun u=>aT u c) p w.reverse 0:=by
 rw[xy,←oK,Bp]
 rfl
end
end NH
namespace NH
theorem CS(n:Int):∀k:Nat,(ch n k).natAbs≤(n.natAbs+k) ^ k
 | 0=>by rw[aQ];simp
 |k+1=>by
  have h:=t5 n k
  have ih:=CS n k
  have e:((k:Int)+1).natAbs*(ch n (k+1)).natAbs=(n - k).natAbs*(ch n k).natAbs:=by rw[←Int.natAbs_mul,h,Int.natAbs_mul]
  have k1:((k:Int)+1).natAbs=k+1:=by omega
  rw[k1]at e
  have h1:(ch n (k+1)).natAbs≤(k+1)*(ch n (k+1)).natAbs:=Nat.le_mul_of_pos_left _ (by omega)
  have h2:(n - k).natAbs≤n.natAbs+(k+1):=by omega
  have h3:(n.natAbs+k) ^ k≤(n.natAbs+(k+1)) ^ k:=Nat.pow_le_pow_left (by omega) k
  calc (ch n (k+1)).natAbs≤(n - k).natAbs*(ch n k).natAbs:=by rw[←e];exact h1
   _≤(n.natAbs+(k+1))*(n.natAbs+(k+1)) ^ k:=Nat.mul_le_mul h2 (jn ih h3)
   _=(n.natAbs+(k+1)) ^ (k+1):=by rw[Nat.pow_succ,Nat.mul_comm]
section
variable {α:Type}
theorem yR{b:Nat}{L:Nat}{g:List α→Int}(hg:∀v,v.length≤L→(g v).natAbs≤b ^ v.length):∀(w:List α) (f:List α→Int) (s a:Nat),w.length≤L→(∀u,u.length≤w.length→(f u).natAbs≤s*a ^ u.length)→(conv f g w).natAbs≤s*(a+b) ^ w.length
 |[],f,s,a,hl,hf=>by
  have h1:=hf [] (by simp)
  have h2:=hg [] (by simp)
  simp only[conv,Int.natAbs_mul,Z5,Nat.pow_zero,Nat.mul_one]at h1 h2 ⊢
  calc (f []).natAbs*(g []).natAbs≤s*1:=Nat.mul_le_mul h1 h2
   _=s:=Nat.mul_one s
 |x::w,f,s,a,hl,hf=>by
  have ih:=yR hg w (fun u=>f (x::u)) (s*a) a (by simp at hl;omega) (fun u hu=>by
   have:=hf (x::u) (by simpa using hu)
   rw[List.length_cons,Nat.pow_succ,Nat.mul_comm (a ^ u.length),←Nat.mul_assoc]at this
   exact this)
  have h0:=hf [] (by simp)
  have hgw:=hg (x::w) hl
  simp only[Z5,Nat.pow_zero,Nat.mul_one]at h0
  have t:=Int.natAbs_add_le (f []*g (x::w)) (conv (fun u=>f (x::u)) g w)
  have e1:(f []*g (x::w)).natAbs≤s*(b*(a+b) ^ w.length):=by
   rw[Int.natAbs_mul]
   refine Nat.mul_le_mul h0 (jn hgw ?_)
   rw[List.length_cons,Nat.pow_succ,Nat.mul_comm]
   exact Nat.mul_le_mul_left _ (Nat.pow_le_pow_left (by omega) _)
  have e2:s*(a+b) ^ (x::w).length=s*(b*(a+b) ^ w.length)+s*a*(a+b) ^ w.length:=by
   rw[List.length_cons,Nat.pow_succ,Nat.mul_comm ((a+b) ^ w.length),Nat.add_mul,Nat.mul_add,Nat.mul_assoc,Nat.add_comm]
  show(f []*g (x::w)+conv (fun u=>f (x::u)) g w).natAbs≤_
  omega
variable [DecidableEq α]
def cW:List (α×Int)→Nat
 |[]=>0
 |p::c=>p.2.natAbs+cW c
theorem CT(p:α×Int){L:Nat}(w:List α)(h:w.length≤L):(fX p w).natAbs≤(p.2.natAbs+L) ^ w.length:=by
 unfold fX
 split
 ·exact jn (CS p.2 w.length) (Nat.pow_le_pow_left (by omega) _)
 ·simp
theorem vN{L:Nat}:∀(c:List (α×Int)) (w:List α),w.length≤L→(aT w c).natAbs≤(cW c+L*c.length) ^ w.length
 |[],w,h=>by
  rw[lG]
  cases w with
  |nil=>simp[t7]
  |cons a w=>simp[t7]
 |p::c,w,h=>by
  rw[cM]
  have:=yR (b:=cW c+L*c.length) (L:=L) (g:=fun v=>aT v c) (fun v hv=>vN c v hv) w (fX p) 1 (p.2.natAbs+L) h (fun u hu=>by rw[Nat.one_mul];exact CT p u (by omega))
  rw[Nat.one_mul]at this
  refine jn this (Nat.pow_le_pow_left ?_ _)
  simp only[cW,Z4,Nat.mul_add]
  omega
theorem jm:∀c d:List (α×Int),cW (c++d)=cW c+cW d
 |[],d=>by simp[cW]
 |p::c,d=>by simp only[Z9,cW,jm c d];omega
theorem qu:∀{c:List (α×Int)} {p:α×Int},p∈c→p.2.natAbs≤cW c
 |q::c,p,h=>by
  simp only[cW]
  rcases Zal.mp h with rfl |h
  ·omega
  ·have:=qu h;omega
theorem m5:∀c:List (α×Int),cW c.reverse=cW c
 |[]=>rfl
 |p::c=>by rw[uK,jm,m5 c];simp only[cW];omega
theorem CU(r:List (α×Int))(p:α×Int):cW (stp r p)≤p.2.natAbs+cW r:=by
 cases r with
 |nil=>simp only[stp];split <;> simp[cW]
 |cons q r=>
  simp only[stp]
  split
  ·split
   ·simp only[cW];omega
   ·simp only[cW];omega
  ·split
   ·simp only[cW];omega
   ·simp only[cW];omega
end
end NH
namespace NH
section
variable {α:Type} [DecidableEq α]
theorem xz(c:List (α×Int)):cW (short c)≤cW c:=by
 have h:∀(c r:List (α×Int)),cW (c.foldl stp r)≤cW r+cW c:=fun c=>by
  induction c with
  |nil=>intro r;simp[cW]
  |cons p c ih=>
   intro r
   have h1:=ih (stp r p)
   have h2:=CU r p
   simp only[List.foldl_cons,cW]
   omega
 have:=h c []
 unfold short stk
 rw[m5]
 simpa[cW]using this
theorem yS{B:Nat}:∀c:List (α×Int),(∀p∈c,p.2.natAbs < B)→cW c≤c.length*B
 |[],_=>by simp[cW]
 |p::c,h=>by
  have h1:=h p (gJ ..)
  have h2:=yS c fun q hq=>h q (gq _ hq)
  simp only[cW,Z4,Nat.succ_mul]
  omega
def fT(a:α):List α→Nat
 |[]=>0
 |b::r=>if b=a then fT a r+1 else 0
theorem pE(a:α):∀r:List α,fT a r≤r.length
 |[]=>gi _
 |b::r=>by have:=pE a r;simp only[fT];split <;> simp <;> omega
def ir(h:Nat→Int):Nat→Int
 | 0=>0
 |n+1=>ir h n+h n
theorem iT{h h':Nat→Int}:∀(n:Nat),(∀j,j < n→h j=h' j)→ir h n=ir h' n
 | 0,_=>rfl
 |n+1,e=>by rw[ir,ir,iT n fun j hj=>e j (by omega),e n (by omega)]
theorem nS(h:Nat→Int):∀n,ir h (n+1)=h 0+ir (fun j=>h (j+1)) n
 | 0=>by simp[ir]
 |n+1=>by rw[ir,nS h n,ir];omega
theorem oM(f:List α→Int)(p:α×Int):∀(r:List α) (k:Nat),kR f p r k=f r.reverse*ch p.2 k+ir (fun j=>f (r.drop (j+1)).reverse*ch p.2 (k+(j+1))) (fT p.1 r)
 |[],k=>by simp[kR,fT,ir]
 |a::r,k=>by
  rw[kR]
  by_cases e:a=p.1
  ·rw[if_pos e,oM f p r (k+1)]
   simp only[fT,if_pos e]
   rw[nS]
   simp only[List.drop_succ_cons,List.drop_zero,Nat.zero_add]
   rw[iT (fT p.1 r) (h':=fun j=>f (r.drop (j+1)).reverse*ch p.2 (k+(j+1+1))) fun j _=>by rw[show k+1+(j+1)=k+(j+1+1) by omega]]
  ·rw[if_neg e]
   simp only[fT,if_neg e,ir]
def iU(w:List α)(c:List (α×Int))(k:Nat):Int:=aT (w.take k) c
theorem qU(w:List α)(k j:Nat)(h:k≤w.length):((w.take k).reverse.drop j).reverse=w.take (k - j):=by
 rw[List.drop_reverse,Bp,List.length_take,Nat.min_eq_left h,List.take_take,Nat.min_eq_left (by omega)]
theorem m6(w:List α)(c:List (α×Int))(p:α×Int)(k:Nat)(h:k≤w.length):iU w (c++[p]) k=iU w c k+ir (fun j=>iU w c (k - (j+1))*ch p.2 (j+1)) (fT p.1 (w.take k).reverse):=by
 unfold iU
 rw[t9,oM,Bp,aQ,Int.mul_one]
 congr 1
 refine iT _ fun j _=>?_
 rw[qU w k (j+1) h,Nat.zero_add]
end
end NH
namespace NH
variable {α:Type} [DecidableEq α]
end NH
namespace NH
section
variable {α:Type} [DecidableEq α]
def gl(P:α→Bool)(c:List (α×Int)):List (α×Int):=c.filter fun p=>P p.1
theorem CV(P:α→Bool)(r:List (α×Int))(h:Red r)(p:α×Int):short (gl P (stp r p))=if P p.1 then stp (short (gl P r)) p else short (gl P r):=by
 cases r with
 |nil=>
  by_cases k:p.2=0
  ·obtain⟨n,a⟩:=p
   simp only at k
   subst k
   simp[stp,gl,short,stk]
  ·by_cases hp:P p.1=true <;> simp[stp,gl,short,stk,k,hp]
 |cons x r=>
  rw[jB]
  by_cases e:x.1=p.1
  ·have hx:gl P (x::r)=if P p.1 then x::gl P r else gl P r:=by
    unfold gl
    rw[List.filter_cons,e]
   by_cases hp:P p.1=true
   ·rw[hx,if_pos hp,if_pos hp,gN]
    have s:=Et (jC (gl P r)) p.1 x.2 p.2
    have ex:(p.1,x.2)=x:=by rw[←e]
    rw[ex]at s
    rw[s]
    unfold Bs
    rw[if_pos e]
    by_cases z:x.2+p.2=0
    ·rw[if_pos z,z,u5 (jC _)]
     rfl
    ·rw[if_neg z]
     show short (gl P ((p.1,x.2+p.2)::r))=_
     unfold gl
     rw[List.filter_cons,if_pos hp,gN]
   ·rw[hx,if_neg hp,if_neg hp]
    unfold Bs
    rw[if_pos e]
    by_cases z:x.2+p.2=0
    ·rw[if_pos z];rfl
    ·rw[if_neg z]
     show short (gl P ((p.1,x.2+p.2)::r))=_
     unfold gl
     rw[List.filter_cons,if_neg hp]
  ·unfold Bs
   rw[if_neg e]
   by_cases k:p.2=0
   ·rw[if_pos k]
    by_cases hp:P p.1=true
    ·rw[if_pos hp]
     obtain⟨n,a⟩:=p
     simp only at k
     subst k
     rw[u5 (jC _)]
     rfl
    ·rw[if_neg hp];rfl
   ·rw[if_neg k]
    show short (gl P (p::x::r))=_
    by_cases hp:P p.1=true
    ·rw[if_pos hp,←gN]
     unfold gl
     rw[List.filter_cons,if_pos hp]
    ·rw[if_neg hp]
     unfold gl
     rw[List.filter_cons,if_neg hp]
theorem j9(P:α→Bool):∀c:List (α×Int),short (gl P (short c))=short (gl P c)
 |[]=>rfl
 |p::c=>by
  rw[gN,CV P _ (jC c),j9 P c]
  by_cases hp:P p.1=true
  ·rw[if_pos hp,←gN]
   unfold gl
   rw[List.filter_cons,if_pos hp]
  ·rw[if_neg hp]
   unfold gl
   rw[List.filter_cons,if_neg hp]
theorem CW(P:α→Bool){c d:List (α×Int)}(h:short c=short d):short (gl P c)=short (gl P d):=by rw[←j9 P c,h,j9]
theorem AC(P Q:α→Bool)(c:List (α×Int)):gl P (gl Q c)=gl (fun n=>P n&&Q n) c:=by
 unfold gl
 rw[List.filter_filter]
theorem qv(P Q:α→Bool){c:List (α×Int)}(h:short (gl Q c)=[]):short (gl (fun n=>P n&&Q n) c)=[]:=by
 rw[←AC,CW P (h.trans (by rfl:([]:List (α×Int))=short []))]
 rfl
end
end NH
namespace NH
variable {α:Type} [DecidableEq α]
end NH
namespace Nh
open PySem L2 PL
def CordOk(c:List Pc):Prop:=∀p∈c,p.1 < 128∧p.2.natAbs < 2 ^ 100
theorem CordOk.n{c:List Pc}(h:CordOk c):NailsOk c:=fun p hp=>(h p hp).1
theorem CordOk.append{c d:List Pc}(h:CordOk c)(h':CordOk d):CordOk (c++d):=fun p hp=>(Zaj.mp hp).elim (h p) (h' p)
theorem CordOk.contr{c:List Pc}(h:CordOk c):CordOk (NH.contr c):=fun p hp=>by
 obtain⟨q,hq,e⟩:=Zbc.mp hp
 subst e
 have:=h q (List.mem_reverse.mp hq)
 exact⟨this.1,by simpa using this.2⟩
theorem CordOk.cutL{c:List Pc}(h:CordOk c)(lo hi:Option Int):CordOk (cutL c lo hi):=fun p hp=>h p (qc hp)
theorem pF{i j:Int}(h1:i.natAbs < 2 ^ 20000)(h2:j.natAbs < 2 ^ 20000):dE i j=true:=by
 have hb:zZ=((2 ^ 20000:Nat):Int):=by unfold zZ;exact(Int.natCast_pow 2 20000).symm
 have e: -zZ < i∧i < zZ∧ -zZ < j∧j < zZ:=by
  rw[hb]
  generalize 2 ^ 20000=B at h1 h2
  omega
 unfold dE
 rw[decide_eq_true e,Bool.or_true]
end Nh
namespace NH
def eD(w:List Nat):Nat→Nat
 | 0=>0
 |n+1=>eD w n+if 97+n∈w then 2 ^ n else 0
theorem su(w:List Nat):∀n,eD w n < 2 ^ n
 | 0=>by simp[eD]
 |n+1=>by
  have:=su w n
  rw[eD,Nat.pow_succ]
  split <;> omega
theorem gU(w:List Nat):∀n i,(eD w n).testBit i=(decide (i < n)&&decide (97+i∈w))
 | 0,i=>by simp[eD]
 |n+1,i=>by
  have ih:=gU w n i
  have lt:=su w n
  rw[eD]
  by_cases h:97+n∈w
  ·rw[if_pos h,Nat.add_comm]
   by_cases e:i=n
   ·subst e
    rw[Nat.testBit_two_pow_add_eq,ih]
    simp[h]
   ·by_cases l:i < n
    ·rw[Nat.testBit_two_pow_add_gt l,ih]
     simp[l,show i < n+1 by omega]
    ·have big:2 ^ n+eD w n < 2 ^ i:=by
      have:2 ^ (n+1)≤2 ^ i:=Nat.pow_le_pow_right (by decide) (by omega)
      rw[Nat.pow_succ]at this
      omega
     rw[Nat.testBit_lt_two_pow big]
     simp[show ¬i < n+1 by omega]
  ·rw[if_neg h,Nat.add_zero,ih]
   by_cases e:i=n
   ·subst e;simp[h]
   ·by_cases l:i < n
    ·simp[l,show i < n+1 by omega]
    ·simp[l,show ¬i < n+1 by omega]
def b7(w:List Nat):Nat:=eD w 26
def qw(w:List Nat):Prop:=∀a∈w,97≤a∧a < 97+26
theorem AD{a b:List Nat}(ha:qw a):b7 a &&& b7 b=b7 a↔∀x∈a,x∈b:=by
 unfold b7
 constructor
 ·intro h x hx
  have l:=ha x hx
  have:=congrArg (fun n=>n.testBit (x - 97)) h
  simp only[Nat.testBit_and,gU,show 97+(x - 97)=x by omega,show x - 97 < 26 by omega,hx]at this
  simpa using this
 ·intro h
  refine Nat.eq_of_testBit_eq fun i=>?_
  rw[Nat.testBit_and,gU,gU]
  by_cases m:97+i∈a
  ·simp[m,h _ m]
  ·simp[m]
theorem AE{a b:List Nat}(ha:qw a):b7 a &&& b7 b=0↔∀x∈a,x∉b:=by
 unfold b7
 constructor
 ·intro h x hx hb
  have l:=ha x hx
  have:=congrArg (fun n=>n.testBit (x - 97)) h
  simp only[Nat.testBit_and,gU,show 97+(x - 97)=x by omega,show x - 97 < 26 by omega,hx,hb]at this
  simp at this
 ·intro h
  refine Nat.eq_of_testBit_eq fun i=>?_
  rw[Nat.testBit_and,gU,gU,Nat.zero_testBit]
  by_cases m:97+i∈a
  ·simp[m,h _ m]
  ·simp[m]
end NH
namespace NhLS
set_option autoImplicit false
open PySem PyProof.Rows
def E8:Bool→Keyed→Array Keyed→Nat→Nat→Nat→StateT SortSt Sem (Option Nat):=sortPriv% PySem.Builtin.gallop
def CY:Array Keyed→Array Keyed→StateT SortSt Sem (Array Keyed):=sortPriv% PySem.Builtin.mergeLo
def CZ:Array Keyed→Array Keyed→StateT SortSt Sem (Array Keyed):=sortPriv% PySem.Builtin.mergeHi
def E9:Keyed:=(Value.none,Value.none)
def at'(a:Array Keyed)(i:Nat):Keyed:=a.getD i E9
theorem Je{a:Array Keyed}{i:Nat}(h:i < a.size):a[i]? =some (at' a i):=by simp[at',Array.getD,h]
structure Cmp (prog:Program) (w:World) (A:Around) (s:Shared) (κ:SortKind) (O:KeyOrd) (key:Keyed→O.α) (dom:Keyed→Prop):Prop where
 ask:∀(E:Value→Shared→Prop) (x y:Keyed) (Q:Bool→Shared→Prop),dom x→dom y→Q (O.blt (key x) (key y)) s→wpAny (model prog w) A (keyLt' κ x.1 y.1) Q E s
section
variable {prog:Program} {w:World} {A:Around} {E:Value→Shared→Prop} {s:Shared} {κ:SortKind} {O:KeyOrd} {key:Keyed→O.α} {dom:Keyed→Prop} {st:SortSt}
theorem C4(C:Cmp prog w A s κ O key dom){x y:Keyed}{Q:Option Bool→SortSt→Prop}(hk:kindOf st=κ)(dx:dom x)(dy:dom y)(h:Q (some (O.blt (key x) (key y))) st):wpS (model prog w) A E s (lt' x y) Q st:=by
 rw[lt'_eq]
 refine wpS_bind (wpS_get ?_)
 rw[hk]
 refine wpS_bind (wpS_lift (wpAny_attempt (C.ask _ _ _ _ dx dy ⟨rfl,?_⟩)))
 exact wpS_pure h
theorem iV{arr:Array Keyed}{i:Nat}{Q:Keyed→SortSt→Prop}(hi:i < arr.size)(h:Q (at' arr i) st):wpS (model prog w) A E s (elem' arr i) Q st:=by
 rw[elem'_eq,Je hi]
 exact wpS_pure h
def ji(O:KeyOrd)(key:Keyed→O.α)(left:Bool)(k:Keyed)(arr:Array Keyed)(base i:Nat):Bool:=if left then O.blt (key (at' arr (base+i))) (key k)else !O.blt (key k) (key (at' arr (base+i)))
theorem jH(C:Cmp prog w A s κ O key dom){left:Bool}{k:Keyed}{arr:Array Keyed}{base n hint:Nat}{Q:Option Nat→SortSt→Prop}(hk:kindOf st=κ)(hh:hint < n)(hb:base+n≤arr.size)(dk:dom k)(da:∀i,i < arr.size→dom (at' arr i))
  (mono:∀i j,i < j→j < n→ji O key left k arr base j=true→ji O key left k arr base i=true)
  (h:∀m,m≤n→(∀i,i < m→ji O key left k arr base i=true)→(∀i,m≤i→i < n→ji O key left k arr base i=false)→Q (some m) st):wpS (model prog w) A E s (E8 left k arr base n hint) Q st:=by
 have bey:∀{i:Nat} {Q':Option Bool→SortSt→Prop},i < n→Q' (some (ji O key left k arr base i)) st→wpS (model prog w) A E s (elem' arr (base+i) >>= fun x=>if left=true then lt' x k else (lt' k x >>= fun r=>pure (r.map (!·)))) Q' st:=by
  intro i Q' hi hq
  refine wpS_bind (iV (by lia) ?_)
  have dx:=da (base+i) (by lia)
  cases left with
  |true=>exact C4 C hk dx dk hq
  |false=>exact wpS_bind (C4 C hk dk dx (wpS_pure hq))
 refine wpS_bind (bey hh ?_)
 have up:∀i j,i≤j→j < n→ji O key left k arr base j=true→ji O key left k arr base i=true:=fun i j hij hj e=>by
  by_cases z:i=j
  ·rw[z];exact e
  ·exact mono i j (by exact Nat.lt_of_le_of_ne ‹_› ‹_›) hj e
 have dn:∀i j,i≤j→j < n→ji O key left k arr base i=false→ji O key left k arr base j=false:=fun i j hij hj e=>by
  cases z:ji O key left k arr base j with
  |false=>rfl
  |true=>rw[up i j hij hj z]at e;cases e
 have fin:∀{body:Nat→Option (Option Nat)×Nat×Nat→StateT SortSt Sem (ForInStep (Option (Option Nat)×Nat×Nat))} {cont:Option (Option Nat)×Nat×Nat→StateT SortSt Sem (Option Nat)},
   (∀lo,Q (some lo) st→wpS (model prog w) A E s (cont (none,lo,lo)) Q st)→
   (∀x lo hi (R:ForInStep (Option (Option Nat)×Nat×Nat)→SortSt→Prop),lo≥hi→R (.done (none,lo,hi)) st→wpS (model prog w) A E s (body x (none,lo,hi)) R st)→
   (∀x lo hi (R:ForInStep (Option (Option Nat)×Nat×Nat)→SortSt→Prop),lo < hi→hi≤n→R (.yield (if ji O key left k arr base (lo+(hi - lo) / 2)=true then (none,lo+(hi - lo) / 2+1,hi)else (none,lo,lo+(hi - lo) / 2))) st→wpS (model prog w) A E s (body x (none,lo,hi)) R st)→
   ∀lo hi,lo≤hi→hi≤n→(∀i,i < lo→ji O key left k arr base i=true)→(∀i,hi≤i→i < n→ji O key left k arr base i=false)→
   wpS (model prog w) A E s (forIn [0:n] (none,lo,hi) body >>= cont) Q st:=by
  intro body cont b3 b1 b2 lo hi f1 f2 f3 f4
  refine wpS_bind (wpS_mono (wpS_forRange (I:=fun x c st'=>st'=st∧∃lo hi,c=(none,lo,hi)∧lo≤hi∧hi≤n∧hi+x≤n+lo∧(∀i,i < lo→ji O key left k arr base i=true)∧(∀i,hi≤i→i < n→ji O key left k arr base i=false))
   (Q:=fun c st'=>st'=st∧∃lo,c=(none,lo,lo)∧lo≤n∧(∀i,i < lo→ji O key left k arr base i=true)∧(∀i,lo≤i→i < n→ji O key left k arr base i=false)) ?s1 ?s2 ⟨rfl,lo,hi,rfl,f1,f2,by exact Nat.le_add_right_of_le ‹_›,f3,f4⟩) ?s3)
  case s2=>
   rintro c st' ⟨rfl,l,o,rfl,h1,h2,h3,h4,h5⟩
   have:l=o:=by lia
   subst this
   exact⟨rfl,l,rfl,h2,h4,h5⟩
  case s3=>
   rintro c st' ⟨rfl,l,rfl,h2,h4,h5⟩
   exact b3 l (h l h2 h4 h5)
  case s1=>
   rintro x c st' - hx ⟨rfl,l,o,rfl,h1,h2,h3,h4,h5⟩
   by_cases z:l≥o
   ·have:l=o:=by exact Nat.le_antisymm ‹_› ‹_›
    subst this
    exact b1 x l l _ z ⟨rfl,l,rfl,h2,h4,h5⟩
   ·refine b2 x l o _ (by exact Nat.lt_of_not_le ‹_›) h2 ?_
    cases e:ji O key left k arr base (l+(o - l) / 2)with
    |true=>exact⟨rfl,_,_,rfl,by lia,by assumption,by lia,fun i hi=>up i _ (by exact Nat.le_of_lt_succ ‹_›) (by lia) e,h5⟩
    |false=>exact⟨rfl,_,_,rfl,by exact qN _ _,by lia,by lia,h4,fun i hi hn=>dn _ i hi hn e⟩
 cases eh:ji O key left k arr base hint with
 |true=>
  dsimp only
  rw[if_pos rfl]
  refine wpS_bind (wpS_mono (wpS_forRange (I:=fun x c st'=>st'=st∧∃l o,c=(none,l,o)∧l < o∧x < o∧hint+l < n∧ji O key left k arr base (hint+l)=true)
   (Q:=fun c st'=>st'=st∧∃l o,c=(none,l,o)∧l < o∧hint+l < n∧ji O key left k arr base (hint+l)=true∧(n - hint≤o∨ji O key left k arr base (hint+o)=false)) ?s1 ?s2 ⟨rfl,0,1,rfl,by exact Nat.lt_succ_self _,by exact Nat.lt_succ_self _,by assumption,eh⟩) ?s3)
  case s2=>
   rintro c st' ⟨rfl,l,o,rfl,h1,h2,h3,h4⟩
   exact⟨rfl,l,o,rfl,h1,h3,h4,.inl (by lia)⟩
  case s1=>
   rintro x c st' - hx ⟨rfl,l,o,rfl,h1,h2,h3,h4⟩
   dsimp only
   by_cases z:o≥n - hint
   ·rw[if_pos z]
    exact wpS_pure ⟨rfl,l,o,rfl,h1,h3,h4,.inl z⟩
   ·rw[if_neg z]
    refine wpS_bind (bey (by lia) ?_)
    cases e:ji O key left k arr base (hint+o)with
    |true=>exact wpS_pure ⟨rfl,o,2*o+1,rfl,by lia,by lia,by lia,e⟩
    |false=>exact wpS_pure ⟨rfl,l,o,rfl,h1,h3,h4,.inr e⟩
  case s3=>
   rintro c st' ⟨rfl,l,o,rfl,h1,h3,h4,h5⟩
   dsimp only
   have f1:hint+l+1≤hint+min o (n - hint):=by lia
   have f2:hint+min o (n - hint)≤n:=by lia
   have f3:∀i,i < hint+l+1→ji O key left k arr base i=true:=fun i hi=>up i _ (by exact Nat.le_of_lt_succ ‹_›) h3 h4
   have f4:∀i,hint+min o (n - hint)≤i→i < n→ji O key left k arr base i=false:=fun i hi hn=>by
    rcases h5 with h5 |h5
    ·lia
    ·exact dn (hint+o) i (by lia) hn h5
   revert f1 f2 f3 f4
   generalize hint+l+1=lo
   generalize hint+min o (n - hint)=hi
   refine fin (fun lo hq=>wpS_pure hq) (fun x lo hi R hz hR=>?_) (fun x lo hi R hz hn hR=>?_) lo hi
   ·dsimp only
    rw[if_pos hz]
    exact wpS_pure hR
   ·dsimp only
    rw[if_neg (by exact Nat.not_le.mpr ‹_›)]
    refine wpS_bind (bey (by lia) ?_)
    cases e:ji O key left k arr base (lo+(hi - lo) / 2)with
    |true=>rw[e]at hR;exact wpS_pure hR
    |false=>rw[e]at hR;exact wpS_pure hR
 |false=>
  dsimp only
  rw[if_neg (by simp)]
  refine wpS_bind (wpS_mono (wpS_forRange (I:=fun x c st'=>st'=st∧∃l o,c=(none,l,o)∧l < o∧x < o∧l≤hint∧ji O key left k arr base (hint - l)=false)
   (Q:=fun c st'=>st'=st∧∃l o,c=(none,l,o)∧l < o∧l≤hint∧ji O key left k arr base (hint - l)=false∧(hint+1≤o∨ji O key left k arr base (hint - o)=true)) ?s1 ?s2 ⟨rfl,0,1,rfl,by exact Nat.lt_succ_self _,by exact Nat.lt_succ_self _,by exact Nat.zero_le _,eh⟩) ?s3)
  case s2=>
   rintro c st' ⟨rfl,l,o,rfl,h1,h2,h3,h4⟩
   exact⟨rfl,l,o,rfl,h1,h3,h4,.inl (by lia)⟩
  case s1=>
   rintro x c st' - hx ⟨rfl,l,o,rfl,h1,h2,h3,h4⟩
   dsimp only
   by_cases z:o≥hint+1
   ·rw[if_pos z]
    exact wpS_pure ⟨rfl,l,o,rfl,h1,h3,h4,.inl z⟩
   ·rw[if_neg z]
    refine wpS_bind (bey (by exact oW (Nat.sub_le _ _) ‹_›) ?_)
    cases e:ji O key left k arr base (hint - o)with
    |false=>exact wpS_pure ⟨rfl,o,2*o+1,rfl,by lia,by lia,by exact Nat.le_of_not_lt ‹_›,e⟩
    |true=>exact wpS_pure ⟨rfl,l,o,rfl,h1,h3,h4,.inr e⟩
  case s3=>
   rintro c st' ⟨rfl,l,o,rfl,h1,h3,h4,h5⟩
   dsimp only
   have f1:hint+1 - min o (hint+1)≤hint - l:=by omega
   have f2:hint - l≤n:=by lia
   have f3:∀i,i < hint+1 - min o (hint+1)→ji O key left k arr base i=true:=fun i hi=>by
    rcases h5 with h5 |h5
    ·lia
    ·exact up i (hint - o) (by lia) (by exact oW (Nat.sub_le _ _) ‹_›) h5
   have f4:∀i,hint - l≤i→i < n→ji O key left k arr base i=false:=fun i hi hn=>dn _ i hi hn h4
   revert f1 f2 f3 f4
   generalize hint+1 - min o (hint+1)=lo
   generalize hint - l=hi
   refine fin (fun lo hq=>wpS_pure hq) (fun x lo hi R hz hR=>?_) (fun x lo hi R hz hn hR=>?_) lo hi
   ·dsimp only
    rw[if_pos hz]
    exact wpS_pure hR
   ·dsimp only
    rw[if_neg (by exact Nat.not_le.mpr ‹_›)]
    refine wpS_bind (bey (by lia) ?_)
    cases e:ji O key left k arr base (lo+(hi - lo) / 2)with
    |true=>rw[e]at hR;exact wpS_pure hR
    |false=>rw[e]at hR;exact wpS_pure hR
end
end NhLS
namespace NhLS
set_option autoImplicit false
open PySem PyProof.Rows
def Le(O:KeyOrd)(key:Keyed→O.α)(x y:Keyed):Prop:=O.blt (key y) (key x)=false
structure G (le:Keyed→Keyed→Prop) (T out ra rb:List Keyed):Prop where
 perm:(out++(ra++rb)).Perm T
 pa:(out++ra).Pairwise le
 pb:(out++rb).Pairwise le
def jx(le:Keyed→Keyed→Prop)(T l:List Keyed):Prop:=l.Perm T∧l.Pairwise le
section
variable {le:Keyed→Keyed→Prop} {T out ra rb p:List Keyed}
theorem G.takeA(g:G le T out (p++ra) rb)(h:∀x∈p,∀y∈rb,le x y):G le T (out++p) ra rb where
 perm:=by have:=g.perm;simpa[pk]using this
 pa:=by have:=g.pa;simpa[pk]using this
 pb:=by
  have h1:=g.pa
  have h2:=g.pb
  simp only[List.pairwise_append,Zaj]at h1 h2 ⊢
  refine⟨⟨h1.1,h1.2.1.1,fun x hx y hy=>h1.2.2 x hx y (.inl hy)⟩,h2.2.1,fun x hx y hy=>?_⟩
  rcases hx with hx |hx
  ·exact h2.2.2 x hx y hy
  ·exact h x hx y hy
theorem G.takeB(g:G le T out ra (p++rb))(h:∀x∈p,∀y∈ra,le x y):G le T (out++p) ra rb where
 perm:=by
  refine List.Perm.trans ?_ g.perm
  rw[pk]
  refine List.Perm.append_left _ ?_
  rw[←pk,←pk]
  exact List.Perm.append_right _ List.perm_append_comm
 pb:=by have:=g.pb;simpa[pk]using this
 pa:=by
  have h1:=g.pa
  have h2:=g.pb
  simp only[List.pairwise_append,Zaj]at h1 h2 ⊢
  refine⟨⟨h2.1,h2.2.1.1,fun x hx y hy=>h2.2.2 x hx y (.inl hy)⟩,h1.2.1,fun x hx y hy=>?_⟩
  rcases hx with hx |hx
  ·exact h1.2.2 x hx y hy
  ·exact h x hx y hy
theorem G.endA(g:G le T out ra []):jx le T (out++ra):=⟨by have:=g.perm;simpa using this,g.pa⟩
theorem G.endB(g:G le T out [] rb):jx le T (out++rb):=⟨by have:=g.perm;simpa using this,g.pb⟩
end
section
variable {O:KeyOrd} {key:Keyed→O.α} {a b:Array Keyed} {T:List Keyed} {out:Array Keyed} {i j ia ib k:Nat} {x y z:Keyed}
theorem Le.refl(x:Keyed):Le O key x x:=O.irrefl _
theorem Le.trans(h1:Le O key x y)(h2:Le O key y z):Le O key x z:=KeyOrd.kle_trans (O:=O) (a:=key x) (b:=key y) (c:=key z) h1 h2
theorem Le.of(h:O.blt (key x) (key y)=true):Le O key x y:=KeyOrd.klt_asymm (O:=O) h
theorem jI(h:i < a.toList.length):a.toList[i]=at' a i:=by
 have h':i < a.size:=by simpa using h
 simp[at',Array.getD,h']
theorem t_(h:y∈a.toList.drop i):∃j,i≤j∧j < a.size∧y=at' a j:=by
 obtain⟨j,hj,e⟩:=List.mem_iff_getElem.mp h
 rw[List.length_drop,wJ]at hj
 refine⟨i+j,by exact qN _ _,by exact Nat.add_lt_of_lt_sub' ‹_›,?_⟩
 rw[List.getElem_drop]at e
 rw[←e,jI]
theorem mn(h:i < a.size):at' a i∈a.toList:=by
 rw[←jI (by simpa using h)]
 exact List.getElem_mem _
theorem sv(pa:a.toList.Pairwise (Le O key))(h:i≤j)(hj:j < a.size):Le O key (at' a i) (at' a j):=by
 by_cases e:i=j
 ·rw[e];exact Le.refl _
 ·have:=List.pairwise_iff_getElem.mp pa i j (by simp;exact oW ‹_› ‹_›) (by simpa using hj) (by exact Nat.lt_of_le_of_ne ‹_› ‹_›)
  rw[jI,jI]at this
  exact this
theorem vO(pa:a.toList.Pairwise (Le O key))(h:y∈a.toList.drop i):Le O key (at' a i) y:=by
 obtain⟨j,h1,h2,rfl⟩:=t_ h
 exact sv pa h1 h2
theorem yT(h:i < a.size):a.toList.drop i=[at' a i]++a.toList.drop (i+1):=by
 rw[List.drop_eq_getElem_cons (by simpa using h),jI]
 rfl
theorem yU(k:Nat):a.toList.drop i=(a.extract i (i+k)).toList++a.toList.drop (i+k):=by
 rw[Array.toList_extract,List.extract_eq_take_drop,Bo,←List.drop_drop,List.take_append_drop]
theorem nT:(a.extract i).toList=a.toList.drop i:=by
 rw[Array.toList_extract,List.extract_eq_take_drop]
 exact List.take_of_length_le (by simp)
theorem ua(h:a.size≤i):a.toList.drop i=[]:=List.drop_eq_nil_of_le (by simpa using h)
theorem C5(h:x∈(a.extract i (i+k)).toList):∃j,j < k∧i+j < a.size∧x=at' a (i+j):=by
 rw[Array.toList_extract,List.extract_eq_take_drop,Bo]at h
 obtain⟨j,hj,e⟩:=List.mem_iff_getElem.mp h
 rw[List.length_take,List.length_drop,wJ]at hj
 refine⟨j,by lia,by lia,?_⟩
 rw[List.getElem_take,List.getElem_drop]at e
 rw[←e,jI]
theorem G.pushA(g:G (Le O key) T out.toList (a.toList.drop ia) (b.toList.drop ib))(h:ia < a.size)(hl:∀y∈b.toList.drop ib,Le O key (at' a ia) y):G (Le O key) T (out.push (at' a ia)).toList (a.toList.drop (ia+1)) (b.toList.drop ib):=by
 rw[yT h]at g
 rw[Array.toList_push]
 exact g.takeA fun x hx y hy=>by rw[Zag.mp hx];exact hl y hy
theorem G.pushB(g:G (Le O key) T out.toList (a.toList.drop ia) (b.toList.drop ib))(h:ib < b.size)(hl:∀y∈a.toList.drop ia,Le O key (at' b ib) y):G (Le O key) T (out.push (at' b ib)).toList (a.toList.drop ia) (b.toList.drop (ib+1)):=by
 rw[yT h]at g
 rw[Array.toList_push]
 exact g.takeB fun x hx y hy=>by rw[Zag.mp hx];exact hl y hy
theorem G.blkA(g:G (Le O key) T out.toList (a.toList.drop ia) (b.toList.drop ib))(k:Nat)(hl:∀j,j < k→ia+j < a.size→∀y∈b.toList.drop ib,Le O key (at' a (ia+j)) y):G (Le O key) T (out++a.extract ia (ia+k)).toList (a.toList.drop (ia+k)) (b.toList.drop ib):=by
 rw[yU k]at g
 rw[wI]
 exact g.takeA fun x hx y hy=>by obtain⟨j,h1,h2,rfl⟩:=C5 hx;exact hl j h1 h2 y hy
theorem G.blkB(g:G (Le O key) T out.toList (a.toList.drop ia) (b.toList.drop ib))(k:Nat)(hl:∀j,j < k→ib+j < b.size→∀y∈a.toList.drop ia,Le O key (at' b (ib+j)) y):G (Le O key) T (out++b.extract ib (ib+k)).toList (a.toList.drop ia) (b.toList.drop (ib+k)):=by
 rw[yU (a:=b) k]at g
 rw[wI]
 exact g.takeB fun x hx y hy=>by obtain⟨j,h1,h2,rfl⟩:=C5 hx;exact hl j h1 h2 y hy
theorem G.doneB(g:G (Le O key) T out.toList (a.toList.drop ia) (b.toList.drop ib))(h:b.size≤ib):jx (Le O key) T (out++a.extract ia++b.extract ib).toList:=by
 rw[wI,wI,nT,nT,ua h,List.append_nil]
 rw[ua h]at g
 exact g.endA
theorem G.doneA(g:G (Le O key) T out.toList (a.toList.drop ia) (b.toList.drop ib))(h:a.size≤ia):jx (Le O key) T (out++a.extract ia++b.extract ib).toList:=by
 rw[wI,wI,nT,nT,ua h,List.append_nil]
 rw[ua h]at g
 exact g.endB
theorem G.lastA(g:G (Le O key) T out.toList (a.toList.drop ia) (b.toList.drop ib))(h:ia+1=a.size)(h1:∀y∈b.toList,Le O key y (at' a (a.size - 1))):jx (Le O key) T (out++b.extract ib++a.extract ia).toList:=by
 rw[wI,wI,nT,nT]
 have g':G (Le O key) T out.toList (a.toList.drop ia) (b.toList.drop ib++[]):=by rw[List.append_nil];exact g
 refine(g'.takeB fun x hx y hy=>?_).endA
 obtain⟨j,q1,q2,rfl⟩:=t_ hy
 rw[show j=a.size - 1 by lia]
 exact h1 x (List.mem_of_mem_drop hx)
end
def SS(st st':SortSt):Prop:=∃g,st'=SortSt.mk' (kindOf st) (arrOf st) (pendingOf st) g (failedOf st)
theorem SS.refl(st:SortSt):SS st st:=⟨gallopOf st,rfl⟩
theorem SS.kind{st st':SortSt}(h:SS st st'):kindOf st'=kindOf st:=by obtain⟨g,rfl⟩:=h;rfl
section
variable {prog:Program} {w:World} {A:Around} {E:Value→Shared→Prop} {s:Shared} {κ:SortKind} {O:KeyOrd} {key:Keyed→O.α} {dom:Keyed→Prop} {st:SortSt}
def Jf:Nat→StateT SortSt Sem Unit:=sortPriv% PySem.Builtin.setMinGallop
theorem ub{st':SortSt}{g:Nat}{Q:Unit→SortSt→Prop}(hs:SS st st')(h:∀st2,SS st st2→Q () st2):wpS (model prog w) A E s (Jf g) Q st':=
 wpS_modify (h _ (by obtain⟨g',rfl⟩:=hs;exact⟨g,rfl⟩))
theorem bt{α:Type}{c:Prop}[Decidable c]{x y:StateT SortSt Sem α}{Q:α→SortSt→Prop}(hc:c)(h:wpS (model prog w) A E s x Q st):wpS (model prog w) A E s (if c then x else y) Q st:=by rw[if_pos hc];exact h
theorem bj{α:Type}{c:Prop}[Decidable c]{x y:StateT SortSt Sem α}{Q:α→SortSt→Prop}(hc:¬c)(h:wpS (model prog w) A E s y Q st):wpS (model prog w) A E s (if c then x else y) Q st:=by rw[if_neg hc];exact h
theorem Hw{α:Type}{m:StateT SortSt Sem α}{Q:α→SortSt→Prop}(h:∀R,R=Q→wpS (model prog w) A E s m R st):wpS (model prog w) A E s m Q st:=h Q rfl
theorem Jg{α:Type}{c:Prop}[Decidable c](f:Nat→StateT SortSt Sem α){x y:Nat}{Q:α→SortSt→Prop}(h:∀m,wpS (model prog w) A E s (f m) Q st):wpS (model prog w) A E s (if c then f x else f y) Q st:=by
 split <;> exact h _
theorem AF(C:Cmp prog w A s κ O key dom){a b:Array Keyed}{Q:Array Keyed→SortSt→Prop}(hk:kindOf st=κ)(da:∀x∈a.toList,dom x)(db:∀x∈b.toList,dom x)(ha:0 < a.size)(hb:0 < b.size)
  (pa:a.toList.Pairwise (Le O key)) (pb:b.toList.Pairwise (Le O key)) (h0:O.blt (key (at' b 0)) (key (at' a 0))=true) (h1:∀y∈b.toList,Le O key y (at' a (a.size - 1)))
  (h:∀r st',SS st st'→jx (Le O key) (a.toList++b.toList) r.toList→Q r st'):wpS (model prog w) A E s (CY a b) Q st:=by
 refine wpS_bind (wpS_lift (wpAny_rule ⟨rfl,?_⟩))
 refine wpS_bind (iV hb ?_)
 obtain⟨T,hT⟩:∃T,T=a.toList++b.toList:=⟨_,rfl⟩
 rw[←hT]at h
 have g0:G (Le O key) T (#[at' b 0]:Array Keyed).toList (a.toList.drop 0) (b.toList.drop 1):=by
  have q:G (Le O key) T (#[]:Array Keyed).toList (a.toList.drop 0) (b.toList.drop 0):=⟨by simp[hT],by simpa using pa,by simpa using pb⟩
  exact q.pushB hb fun y hy=>(Le.of h0).trans (vO pa hy)
 have dA:∀i,i < a.size→dom (at' a i):=fun i hi=>da _ (mn hi)
 have dB:∀i,i < b.size→dom (at' b i):=fun i hi=>db _ (mn hi)
 extract_lets o0 i0 i1
 by_cases e1:(1 == b.size)=true
 ·refine bt e1 ?_
  exact wpS_pure (h _ st (SS.refl _) (g0.doneB (by simp at e1;exact Nat.le_of_eq (Eq.symm ‹_›))))
 refine bj e1 ?_
 by_cases e2:(0+1 == a.size)=true
 ·refine bt e2 ?_
  exact wpS_pure (h _ st (SS.refl _) (g0.lastA (by simpa using e2) h1))
 refine bj e2 ?_
 refine wpS_bind (wpS_get ?_)
 refine wpS_bind (wpS_mono (wpS_forRange (I:=fun x c st'=>SS st st'∧∃out ia ib mg,c=(none,out,ia,ib,mg)∧ia+1 < a.size∧ib < b.size∧x < ia+ib∧G (Le O key) T out.toList (a.toList.drop ia) (b.toList.drop ib))
  (Q:=fun c st'=>SS st st'∧∃r o,c=(some r,o)∧jx (Le O key) T r.toList) ?s1 ?s2 ⟨SS.refl _,_,0,1,_,rfl,by simp at e2;exact Nat.lt_of_le_of_ne ‹_› ‹_›,by simp at e1;exact Nat.lt_of_le_of_ne ‹_› ‹_›,by exact Nat.lt_succ_self _,g0⟩) ?s3)
 case s3=>
  rintro c st' ⟨hs,r,o,rfl,hg⟩
  exact wpS_pure (h r st' hs hg)
 case s2=>
  rintro c st' ⟨hs,out,ia,ib,mg,rfl,q1,q2,q3,g⟩
  lia
 case s1=>
  rintro x c st1 - hx ⟨hs,out,ia,ib,mg,rfl,q1,q2,q3,g⟩
  refine wpS_bind (wpS_mono (wpS_forRange (I:=fun y c st'=>SS st st'∧∃out ia ib ac bc,c=(none,out,ia,ib,ac,bc)∧ia+1 < a.size∧ib < b.size∧x < ia+ib∧(y=0∨x+1 < ia+ib)∧G (Le O key) T out.toList (a.toList.drop ia) (b.toList.drop ib))
   (Q:=fun c st'=>SS st st'∧((∃r o,c=(some r,o)∧jx (Le O key) T r.toList)∨∃out ia ib ac bc,c=(none,out,ia,ib,ac,bc)∧ia+1 < a.size∧ib < b.size∧x+1 < ia+ib∧G (Le O key) T out.toList (a.toList.drop ia) (b.toList.drop ib))) ?t1 ?t2 ⟨hs,out,ia,ib,0,0,rfl,q1,q2,q3,.inl rfl,g⟩) ?t3)
  case t2=>
   rintro c st' ⟨hs,out,ia,ib,ac,bc,rfl,q1,q2,q3,q4,g⟩
   exact⟨hs,.inr ⟨out,ia,ib,ac,bc,rfl,q1,q2,by lia,g⟩⟩
  case t1=>
   rintro y c st2 - hy ⟨hs,out,ia,ib,ac,bc,rfl,q1,q2,q3,q4,g⟩
   have q0:ia < a.size:=by exact Nat.lt_of_succ_lt ‹_›
   refine wpS_bind (iV q2 ?_)
   refine wpS_bind (iV q0 ?_)
   refine wpS_bind (C4 C (hs.kind.trans hk) (dB _ q2) (dA _ q0) ?_)
   cases e:O.blt (key (at' b ib)) (key (at' a ia))with
   |true=>
    refine wpS_bind (iV q2 ?_)
    have g':=g.pushB q2 (fun y hy=>(Le.of e).trans (vO pa hy))
    by_cases z:(ib+1 == b.size)=true
    ·exact bt z (wpS_pure ⟨hs,.inl ⟨_,_,rfl,g'.doneB (by simp at z;exact Nat.le_of_eq (Eq.symm ‹_›))⟩⟩)
    ·refine bj z ?_
     have z':ib+1 < b.size:=by simp at z;exact Nat.lt_of_le_of_ne ‹_› ‹_›
     dsimp only
     split
     ·exact wpS_pure ⟨hs,.inr ⟨_,_,_,_,_,rfl,q1,z',by exact Nat.succ_lt_succ ‹_›,g'⟩⟩
     ·exact wpS_pure ⟨hs,_,_,_,_,_,rfl,q1,z',by exact wK ‹_›,.inr (by exact Nat.succ_lt_succ ‹_›),g'⟩
   |false=>
    refine wpS_bind (iV q0 ?_)
    have g':=g.pushA (by assumption) (fun y hy=>Le.trans e (vO pb hy))
    by_cases z:(ia+1+1 == a.size)=true
    ·exact bt z (wpS_pure ⟨hs,.inl ⟨_,_,rfl,g'.lastA (by simpa using z) h1⟩⟩)
    ·refine bj z ?_
     have z':ia+1+1 < a.size:=by simp at z;exact Nat.lt_of_le_of_ne ‹_› ‹_›
     dsimp only
     split
     ·exact wpS_pure ⟨hs,.inr ⟨_,_,_,_,_,rfl,z',q2,by lia,g'⟩⟩
     ·exact wpS_pure ⟨hs,_,_,_,_,_,rfl,z',q2,by lia,.inr (by lia),g'⟩
  case t3=>
   rintro c st2 ⟨hs,⟨r,o,rfl,hg⟩ |⟨out,ia,ib,ac,bc,rfl,q1,q2,q3,g⟩⟩
   ·exact wpS_pure ⟨hs,r,_,rfl,hg⟩
   ·refine wpS_bind (wpS_lift (wpAny_rule ⟨rfl,?_⟩))
    refine wpS_bind (wpS_mono (wpS_forRange (I:=fun y c st'=>SS st st'∧∃out ia ib mg ac bc,c=(none,out,ia,ib,mg,ac,bc)∧ia+1 < a.size∧ib < b.size∧x+1 < ia+ib∧G (Le O key) T out.toList (a.toList.drop ia) (b.toList.drop ib))
     (Q:=fun c st'=>SS st st'∧((∃r o,c=(some r,o)∧jx (Le O key) T r.toList)∨∃out ia ib mg ac bc,c=(none,out,ia,ib,mg,ac,bc)∧ia+1 < a.size∧ib < b.size∧x+1 < ia+ib∧G (Le O key) T out.toList (a.toList.drop ia) (b.toList.drop ib))) ?u1 ?u2 ⟨hs,out,ia,ib,_,ac,bc,rfl,q1,q2,q3,g⟩) ?u3)
    case u2=>
     rintro c st' ⟨hs,out,ia,ib,mg,ac,bc,rfl,q1,q2,q3,g⟩
     exact⟨hs,.inr ⟨out,ia,ib,mg,ac,bc,rfl,q1,q2,by assumption,g⟩⟩
    case u3=>
     rintro c st3 ⟨hs,⟨r,o,rfl,hg⟩ |⟨out,ia,ib,mg,ac,bc,rfl,q1,q2,q3,g⟩⟩
     ·exact wpS_pure ⟨hs,r,_,rfl,hg⟩
     ·exact wpS_bind (ub hs fun st4 h4=>wpS_pure ⟨h4,out,ia,ib,_,rfl,q1,q2,q3,g⟩)
    case u1=>
     rintro y c st3 - hy ⟨hs,out,ia,ib,mg,ac,bc,rfl,q1,q2,q3,g⟩
     refine Hw fun R hR=>?_
     have Rd:∀r o st',SS st st'→jx (Le O key) T r.toList→R (.done (some r,o)) st':=fun r o st' a1 a2=>by rw[hR];exact⟨a1,.inl ⟨r,o,rfl,a2⟩⟩
     have Rn:∀out ia ib mg ac bc st',SS st st'→ia+1 < a.size→ib < b.size→x+1 < ia+ib→G (Le O key) T out.toList (a.toList.drop ia) (b.toList.drop ib)→R (.done (none,out,ia,ib,mg,ac,bc)) st':=
      fun out ia ib mg ac bc st' a1 a2 a3 a4 a5=>by rw[hR];exact⟨a1,.inr ⟨_,_,_,_,_,_,rfl,a2,a3,a4,a5⟩⟩
     have Ry:∀out ia ib mg ac bc st',SS st st'→ia+1 < a.size→ib < b.size→x+1 < ia+ib→G (Le O key) T out.toList (a.toList.drop ia) (b.toList.drop ib)→R (.yield (none,out,ia,ib,mg,ac,bc)) st':=
      fun out ia ib mg ac bc st' a1 a2 a3 a4 a5=>by rw[hR];exact⟨a1,_,_,_,_,_,_,rfl,a2,a3,a4,a5⟩
     clear hR
     extract_lets
     rename Unit→Nat→_=>jp
     refine Jg (jp ()) fun mg'=>?_
     refine wpS_bind (ub hs fun st4 h4=>?_)
     refine wpS_bind (iV q2 ?_)
     refine wpS_bind (jH C (base:=ia) (n:=a.size - ia) (hint:=0) (h4.kind.trans hk) (by exact Nat.sub_pos_of_lt (Nat.lt_of_succ_lt ‹_›)) (by exact Nat.le_of_eq (Nat.add_sub_of_le (ma (Nat.lt_of_succ_lt ‹_›)))) (dB _ q2) dA ?m1 fun k hk1 hk2 hk3=>?_)
     case m1=>
      intro i j hij hj e
      simp only[ji,Bool.not_eq_true',aU]at e ⊢
      exact(sv pa (by lia) (by exact Nat.add_lt_of_lt_sub' ‹_›):Le O key (at' a (ia+i)) (at' a (ia+j))).trans e
     simp only[ji,Bool.not_eq_true',Bool.not_eq_false',aU]at hk2 hk3
     dsimp -zeta only
     extract_lets
     rename Unit→Array Keyed→Nat→_=>jp1
     have J1:∀(out:Array Keyed) (ia:Nat),ia+1 < a.size→x+1 < ia+ib→G (Le O key) T out.toList (a.toList.drop ia) (b.toList.drop ib)→(∀y∈a.toList.drop ia,Le O key (at' b ib) y)→wpS (model prog w) A E s (jp1 () out ia) R st4:=by
      intro out ia q1 q3 g hl
      have q0:ia < a.size:=by exact Nat.lt_of_succ_lt ‹_›
      refine wpS_bind (iV q2 ?_)
      have g':=g.pushB q2 hl
      by_cases z:(ib+1 == b.size)=true
      ·exact bt z (wpS_pure (Rd _ _ _ h4 (g'.doneB (by simp at z;exact Nat.le_of_eq (Eq.symm ‹_›)))))
      refine bj z ?_
      have z':ib+1 < b.size:=by simp at z;exact Nat.lt_of_le_of_ne ‹_› ‹_›
      refine wpS_bind (iV q0 ?_)
      refine wpS_bind (jH C (base:=ib+1) (n:=b.size - (ib+1)) (hint:=0) (h4.kind.trans hk) (by exact Nat.sub_pos_of_lt ‹_›) (by exact Nat.le_of_eq (Nat.add_sub_of_le ‹_›)) (dA _ q0) dB ?m2 fun k' hk1' hk2' hk3'=>?_)
      case m2=>
       intro i j hij hj e
       simp only[ji,if_true]at e ⊢
       exact KeyOrd.klt_of_kle_of_klt (O:=O) (sv pb (by lia) (by exact Nat.add_lt_of_lt_sub' ‹_›):Le O key (at' b (ib+1+i)) (at' b (ib+1+j))) e
      simp only[ji,if_true]at hk2' hk3'
      dsimp -zeta only
      extract_lets
      rename Unit→Array Keyed→Nat→_=>jp2
      have J2:∀(out:Array Keyed) (ib':Nat),ib' < b.size→x+1 < ia+ib'→G (Le O key) T out.toList (a.toList.drop ia) (b.toList.drop ib')→(∀y∈b.toList.drop ib',Le O key (at' a ia) y)→wpS (model prog w) A E s (jp2 () out ib') R st4:=by
       intro out ib' p2 p3 g hl
       refine wpS_bind (iV q0 ?_)
       have g':=g.pushA q0 hl
       by_cases z:(ia+1+1 == a.size)=true
       ·exact bt z (wpS_pure (Rd _ _ _ h4 (g'.lastA (by simpa using z) h1)))
       refine bj z ?_
       have z':ia+1+1 < a.size:=by simp at z;exact Nat.lt_of_le_of_ne ‹_› ‹_›
       by_cases z2:(decide (k < 7)&&decide (k' < 7))=true
       ·exact bt z2 (wpS_pure (Rn _ _ _ _ _ _ _ h4 z' p2 (by lia) g'))
       ·exact bj z2 (wpS_pure (Ry _ _ _ _ _ _ _ h4 z' p2 (by lia) g'))
      clear_value jp2
      have tl:∀y∈b.toList.drop (ib+1+k'),Le O key (at' a ia) y:=fun y hy=>by
       obtain⟨j,r1,r2,rfl⟩:=t_ hy
       have:=hk3' (j - (ib+1)) (by exact Nat.le_sub_of_add_le' ‹_›) (by exact Nat.sub_lt_sub_right (jn (qN _ _) ‹_›) ‹_›)
       rwa [show ib+1+(j - (ib+1))=j by exact Nat.add_sub_of_le (jn (qN _ _) ‹_›)]at this
      by_cases z2:k' > 0
      ·refine bt z2 ?_
       have g2:=g'.blkB k' fun j j1 j2 y hy=>(Le.of (hk2' j j1)).trans (vO pa hy)
       by_cases z3:(ib+1+k' == b.size)=true
       ·exact bt z3 (wpS_pure (Rd _ _ _ h4 (g2.doneB (by simp at z3;exact Nat.le_of_eq (Eq.symm ‹_›)))))
       ·exact bj z3 (J2 _ (ib+1+k') (by simp at z3;lia) (by lia) g2 tl)
      ·have k0:k'=0:=by exact Nat.eq_zero_of_not_pos ‹_›
       subst k0
       exact bj z2 (J2 _ (ib+1) z' (by exact wK ‹_›) g' tl)
     clear_value jp1
     have tl:∀y∈a.toList.drop (ia+k),Le O key (at' b ib) y:=fun y hy=>by
      obtain⟨j,r1,r2,rfl⟩:=t_ hy
      have:=hk3 (j - ia) (by exact Nat.le_sub_of_add_le' ‹_›) (by exact Nat.sub_lt_sub_right (jn (qN _ _) ‹_›) ‹_›)
      rw[show ia+(j - ia)=j by exact Nat.add_sub_of_le (jn (qN _ _) ‹_›)]at this
      exact Le.of this
     by_cases z2:k > 0
     ·refine bt z2 ?_
      have g2:=g.blkA k fun j j1 j2 y hy=>Le.trans (hk2 j j1) (vO pb hy)
      by_cases z3:(ia+k+1 == a.size)=true
      ·exact bt z3 (wpS_pure (Rd _ _ _ h4 (g2.lastA (by simpa using z3) h1)))
      refine bj z3 ?_
      by_cases z4:(ia+k == a.size)=true
      ·exact bt z4 (wpS_pure (Rd _ _ _ h4 (g2.doneA (by simp at z4;exact Nat.le_of_eq (Eq.symm ‹_›)))))
      ·exact bj z4 (J1 _ (ia+k) (by simp at z3 z4;lia) (by lia) g2 tl)
     ·have k0:k=0:=by exact Nat.eq_zero_of_not_pos ‹_›
      subst k0
      exact bj z2 (J1 _ ia q1 q3 g tl)
end
end NhLS
namespace NhLS
set_option autoImplicit false
open PySem PyProof.Rows
structure H (le:Keyed→Keyed→Prop) (T ra rb out:List Keyed):Prop where
 perm:(ra++rb++out).Perm T
 pa:(ra++out).Pairwise le
 pb:(rb++out).Pairwise le
section
variable {le:Keyed→Keyed→Prop} {T out ra rb p:List Keyed}
theorem H.takeA(g:H le T (ra++p) rb out)(h:∀x∈p,∀y∈rb,le y x):H le T ra rb (p++out) where
 perm:=by
  refine List.Perm.trans ?_ g.perm
  rw[←pk]
  refine List.Perm.append_right _ ?_
  rw[pk,pk]
  exact List.Perm.append_left _ List.perm_append_comm
 pa:=by have:=g.pa;simpa[pk]using this
 pb:=by
  have h1:=g.pa
  have h2:=g.pb
  simp only[List.pairwise_append,Zaj]at h1 h2 ⊢
  refine⟨h2.1,⟨h1.1.2.1,h1.2.1,fun x hx y hy=>h1.2.2 x (.inr hx) y hy⟩,fun x hx y hy=>?_⟩
  rcases hy with hy |hy
  ·exact h y hy x hx
  ·exact h2.2.2 x hx y hy
theorem H.takeB(g:H le T ra (rb++p) out)(h:∀x∈p,∀y∈ra,le y x):H le T ra rb (p++out) where
 perm:=by have:=g.perm;simpa[pk]using this
 pb:=by have:=g.pb;simpa[pk]using this
 pa:=by
  have h1:=g.pa
  have h2:=g.pb
  simp only[List.pairwise_append,Zaj]at h1 h2 ⊢
  refine⟨h1.1,⟨h2.1.2.1,h2.2.1,fun x hx y hy=>h2.2.2 x (.inr hx) y hy⟩,fun x hx y hy=>?_⟩
  rcases hy with hy |hy
  ·exact h y hy x hx
  ·exact h1.2.2 x hx y hy
theorem H.endA(g:H le T ra [] out):jx le T (ra++out):=⟨by have:=g.perm;simpa using this,g.pa⟩
theorem H.endB(g:H le T [] rb out):jx le T (rb++out):=⟨by have:=g.perm;simpa using this,g.pb⟩
end
section
variable {O:KeyOrd} {key:Keyed→O.α} {a b:Array Keyed} {T:List Keyed} {out:Array Keyed} {i j na nb k:Nat} {x y z:Keyed}
theorem ud(h:y∈a.toList.take i):∃j,j < i∧j < a.size∧y=at' a j:=by
 obtain⟨j,hj,e⟩:=List.mem_iff_getElem.mp h
 rw[List.length_take,wJ]at hj
 refine⟨j,by lia,by lia,?_⟩
 rw[List.getElem_take]at e
 rw[←e,jI]
theorem yV(pa:a.toList.Pairwise (Le O key))(hi:i < a.size)(h:y∈a.toList.take (i+1)):Le O key y (at' a i):=by
 obtain⟨j,h1,h2,rfl⟩:=ud h
 exact sv pa (by exact Nat.le_of_lt_succ ‹_›) hi
theorem yW(h:i < a.size):a.toList.take (i+1)=a.toList.take i++[at' a i]:=by
 rw[List.take_succ_eq_append_getElem (by simpa using h),jI]
theorem ue(h:i≤j):a.toList.take j=a.toList.take i++(a.extract i j).toList:=by
 rw[Array.toList_extract,List.extract_eq_take_drop,←List.take_add]
 congr 1
 lia
theorem nU:(a.extract 0 i).toList=a.toList.take i:=by
 rw[Array.toList_extract,List.extract_eq_take_drop]
 rfl
theorem uf(h:x∈(a.extract i j).toList):∃k,i≤k∧k < j∧k < a.size∧x=at' a k:=by
 rw[Array.toList_extract,List.extract_eq_take_drop]at h
 obtain⟨k,hk,e⟩:=List.mem_iff_getElem.mp h
 rw[List.length_take,List.length_drop,wJ]at hk
 refine⟨i+k,by exact qN _ _,by lia,by lia,?_⟩
 rw[List.getElem_take,List.getElem_drop]at e
 rw[←e,jI]
theorem H.pushA(g:H (Le O key) T (a.toList.take (na+1)) (b.toList.take nb) out.toList.reverse)(h:na < a.size)(hl:∀y∈b.toList.take nb,Le O key y (at' a na)):H (Le O key) T (a.toList.take na) (b.toList.take nb) (out.push (at' a na)).toList.reverse:=by
 rw[yW h]at g
 rw[Array.toList_push,List.reverse_append]
 exact g.takeA fun x hx y hy=>by rw[Zag.mp hx];exact hl y hy
theorem H.pushB(g:H (Le O key) T (a.toList.take na) (b.toList.take (nb+1)) out.toList.reverse)(h:nb < b.size)(hl:∀y∈a.toList.take na,Le O key y (at' b nb)):H (Le O key) T (a.toList.take na) (b.toList.take nb) (out.push (at' b nb)).toList.reverse:=by
 rw[yW h]at g
 rw[Array.toList_push,List.reverse_append]
 exact g.takeB fun x hx y hy=>by rw[Zag.mp hx];exact hl y hy
theorem H.blkA(g:H (Le O key) T (a.toList.take na) (b.toList.take nb) out.toList.reverse)(h:i≤na)(hl:∀j,i≤j→j < na→j < a.size→∀y∈b.toList.take nb,Le O key y (at' a j)):H (Le O key) T (a.toList.take i) (b.toList.take nb) (out++(a.extract i na).reverse).toList.reverse:=by
 rw[ue h]at g
 rw[wI,List.reverse_append,Array.toList_reverse,Bp]
 exact g.takeA fun x hx y hy=>by obtain⟨j,h1,h2,h3,rfl⟩:=uf hx;exact hl j h1 h2 h3 y hy
theorem H.blkB(g:H (Le O key) T (a.toList.take na) (b.toList.take nb) out.toList.reverse)(h:i≤nb)(hl:∀j,i≤j→j < nb→j < b.size→∀y∈a.toList.take na,Le O key y (at' b j)):H (Le O key) T (a.toList.take na) (b.toList.take i) (out++(b.extract i nb).reverse).toList.reverse:=by
 rw[ue (a:=b) h]at g
 rw[wI,List.reverse_append,Array.toList_reverse,Bp]
 exact g.takeB fun x hx y hy=>by obtain⟨j,h1,h2,h3,rfl⟩:=uf hx;exact hl j h1 h2 h3 y hy
theorem H.doneA(g:H (Le O key) T (a.toList.take na) (b.toList.take nb) out.toList.reverse)(h:na=0):jx (Le O key) T (a.extract 0 na++b.extract 0 nb++out.reverse).toList:=by
 subst h
 rw[wI,wI,nU,nU,Array.toList_reverse]
 exact g.endB
theorem H.doneB(g:H (Le O key) T (a.toList.take na) (b.toList.take nb) out.toList.reverse)(h:nb=0):jx (Le O key) T (a.extract 0 na++b.extract 0 nb++out.reverse).toList:=by
 subst h
 rw[wI,wI,nU,nU,Array.toList_reverse,List.take_zero,List.append_nil]
 exact g.endA
theorem H.firstB(g:H (Le O key) T (a.toList.take na) (b.toList.take nb) out.toList.reverse)(h:nb=1)(h1:∀y∈a.toList,Le O key (at' b 0) y):jx (Le O key) T (b.extract 0 nb++a.extract 0 na++out.reverse).toList:=by
 rw[wI,wI,nU,nU,Array.toList_reverse,pk]
 have g':H (Le O key) T ([]++a.toList.take na) (b.toList.take nb) out.toList.reverse:=g
 refine(g'.takeA fun x hx y hy=>?_).endB
 obtain⟨j,q1,q2,rfl⟩:=ud hy
 rw[show j=0 by lia]
 exact h1 x (List.mem_of_mem_take hx)
end
section
variable {prog:Program} {w:World} {A:Around} {E:Value→Shared→Prop} {s:Shared} {κ:SortKind} {O:KeyOrd} {key:Keyed→O.α} {dom:Keyed→Prop} {st:SortSt}
theorem jy{α:Type}{c:Prop}[Decidable c]{x y:StateT SortSt Sem α}{Q:α→SortSt→Prop}(h1:c→wpS (model prog w) A E s x Q st)(h2:¬c→wpS (model prog w) A E s y Q st):wpS (model prog w) A E s (if c then x else y) Q st:=by
 split
 ·rename_i z;exact h1 z
 ·rename_i z;exact h2 z
theorem AG(C:Cmp prog w A s κ O key dom){a b:Array Keyed}{Q:Array Keyed→SortSt→Prop}(hk:kindOf st=κ)(da:∀x∈a.toList,dom x)(db:∀x∈b.toList,dom x)(ha:0 < a.size)(hb:0 < b.size)
  (pa:a.toList.Pairwise (Le O key)) (pb:b.toList.Pairwise (Le O key)) (h0:∀y∈b.toList,Le O key y (at' a (a.size - 1))) (h1:∀y∈a.toList,Le O key (at' b 0) y)
  (h:∀r st',SS st st'→jx (Le O key) (a.toList++b.toList) r.toList→Q r st'):wpS (model prog w) A E s (CZ a b) Q st:=by
 refine wpS_bind (wpS_lift (wpAny_rule ⟨rfl,?_⟩))
 have ha':a.size - 1 < a.size:=by exact Nat.sub_lt ‹_› Nat.one_pos
 refine wpS_bind (iV ha' ?_)
 obtain⟨T,hT⟩:∃T,T=a.toList++b.toList:=⟨_,rfl⟩
 rw[←hT]at h
 have g0:H (Le O key) T (a.toList.take (a.size - 1)) (b.toList.take b.size) (#[at' a (a.size - 1)]:Array Keyed).toList.reverse:=by
  have q:H (Le O key) T (a.toList.take (a.size - 1+1)) (b.toList.take b.size) (#[]:Array Keyed).toList.reverse:=by
   have e1:a.toList.take (a.size - 1+1)=a.toList:=List.take_of_length_le (by simp;lia)
   have e2:b.toList.take b.size=b.toList:=List.take_of_length_le (by simp)
   rw[e1,e2]
   exact⟨by simp[hT],by simpa using pa,by simpa using pb⟩
  exact q.pushA ha' fun y hy=>h0 y (List.mem_of_mem_take hy)
 have dA:∀i,i < a.size→dom (at' a i):=fun i hi=>da _ (mn hi)
 have dB:∀i,i < b.size→dom (at' b i):=fun i hi=>db _ (mn hi)
 by_cases e1:(a.size - 1 == 0)=true
 ·refine bt e1 ?_
  exact wpS_pure (h _ st (SS.refl _) (g0.doneA (by simpa using e1)))
 refine bj e1 ?_
 by_cases e2:(b.size == 1)=true
 ·refine bt e2 ?_
  exact wpS_pure (h _ st (SS.refl _) (g0.firstB (by simpa using e2) h1))
 refine bj e2 ?_
 refine wpS_bind (wpS_get ?_)
 refine wpS_bind (wpS_mono (wpS_forRange (I:=fun x c st'=>SS st st'∧∃na nb out mg,c=(none,na,nb,out,mg)∧na≤a.size∧1≤na∧nb≤b.size∧2≤nb∧na+nb+x < a.size+b.size∧H (Le O key) T (a.toList.take na) (b.toList.take nb) out.toList.reverse)
  (Q:=fun c st'=>SS st st'∧∃r o,c=(some r,o)∧jx (Le O key) T r.toList) ?s1 ?s2 ⟨SS.refl _,a.size - 1,b.size,_,_,rfl,by exact Nat.sub_le _ _,by simp at e1;exact Nat.pos_of_ne_zero ‹_›,by exact gi _,by simp at e2;lia,by lia,g0⟩) ?s3)
 case s3=>
  rintro c st' ⟨hs,r,o,rfl,hg⟩
  exact wpS_pure (h r st' hs hg)
 case s2=>
  rintro c st' ⟨hs,na,nb,out,mg,rfl,p1,q1,p2,q2,q3,g⟩
  lia
 case s1=>
  rintro x c st1 - hx ⟨hs,na,nb,out,mg,rfl,p1,q1,p2,q2,q3,g⟩
  refine wpS_bind (wpS_mono (wpS_forRange (I:=fun y c st'=>SS st st'∧∃na nb out ac bc,c=(none,na,nb,out,ac,bc)∧na≤a.size∧1≤na∧nb≤b.size∧2≤nb∧na+nb+x < a.size+b.size∧(y=0∨na+nb+(x+1) < a.size+b.size)∧H (Le O key) T (a.toList.take na) (b.toList.take nb) out.toList.reverse)
   (Q:=fun c st'=>SS st st'∧((∃r o,c=(some r,o)∧jx (Le O key) T r.toList)∨∃na nb out ac bc,c=(none,na,nb,out,ac,bc)∧na≤a.size∧1≤na∧nb≤b.size∧2≤nb∧na+nb+(x+1) < a.size+b.size∧H (Le O key) T (a.toList.take na) (b.toList.take nb) out.toList.reverse)) ?t1 ?t2 ⟨hs,na,nb,out,0,0,rfl,p1,q1,p2,q2,q3,.inl rfl,g⟩) ?t3)
  case t2=>
   rintro c st' ⟨hs,na,nb,out,ac,bc,rfl,p1,q1,p2,q2,q3,q4,g⟩
   exact⟨hs,.inr ⟨na,nb,out,ac,bc,rfl,p1,q1,p2,q2,by lia,g⟩⟩
  case t1=>
   rintro y c st2 - hy ⟨hs,na,nb,out,ac,bc,rfl,p1,q1,p2,q2,q3,q4,g⟩
   obtain⟨na,rfl⟩:∃n,na=n+1:=⟨na - 1,by exact(Nat.sub_add_cancel ‹_›).symm⟩
   obtain⟨nb,rfl⟩:∃n,nb=n+1:=⟨nb - 1,by lia⟩
   have p1':na < a.size:=by assumption
   have p2':nb < b.size:=by assumption
   refine wpS_bind (iV p2' ?_)
   refine wpS_bind (iV p1' ?_)
   refine wpS_bind (C4 C (hs.kind.trans hk) (dB _ p2') (dA _ p1') ?_)
   simp only[Nat.add_sub_cancel]
   cases e:O.blt (key (at' b nb)) (key (at' a na))with
   |true=>
    refine wpS_bind (iV p1' ?_)
    have g':=g.pushA p1' (fun y hy=>(yV pb p2' hy).trans (Le.of e))
    by_cases z:(na == 0)=true
    ·exact bt z (wpS_pure ⟨hs,.inl ⟨_,_,rfl,g'.doneA (by simpa using z)⟩⟩)
    ·refine bj z ?_
     have z':1≤na:=by simp at z;exact Nat.pos_of_ne_zero ‹_›
     split
     ·exact wpS_pure ⟨hs,.inr ⟨na,nb+1,_,_,_,rfl,by exact ma ‹_›,z',p2,q2,by lia,g'⟩⟩
     ·exact wpS_pure ⟨hs,na,nb+1,_,_,_,rfl,by exact ma ‹_›,z',p2,q2,by lia,.inr (by lia),g'⟩
   |false=>
    refine wpS_bind (iV p2' ?_)
    have g':=g.pushB p2' (fun y hy=>(yV pa p1' hy).trans e)
    by_cases z:(nb == 1)=true
    ·exact bt z (wpS_pure ⟨hs,.inl ⟨_,_,rfl,g'.firstB (by simpa using z) h1⟩⟩)
    ·refine bj z ?_
     have z':2≤nb:=by simp at z;lia
     split
     ·exact wpS_pure ⟨hs,.inr ⟨na+1,nb,_,_,_,rfl,p1,q1,by exact ma ‹_›,z',by lia,g'⟩⟩
     ·exact wpS_pure ⟨hs,na+1,nb,_,_,_,rfl,p1,q1,by exact ma ‹_›,z',by lia,.inr (by lia),g'⟩
  case t3=>
   rintro c st2 ⟨hs,⟨r,o,rfl,hg⟩ |⟨na,nb,out,ac,bc,rfl,p1,q1,p2,q2,q3,g⟩⟩
   ·exact wpS_pure ⟨hs,r,_,rfl,hg⟩
   ·refine wpS_bind (wpS_lift (wpAny_rule ⟨rfl,?_⟩))
    refine wpS_bind (wpS_mono (wpS_forRange (I:=fun y c st'=>SS st st'∧∃na nb out mg ac bc,c=(none,na,nb,out,mg,ac,bc)∧na≤a.size∧1≤na∧nb≤b.size∧2≤nb∧na+nb+(x+1) < a.size+b.size∧H (Le O key) T (a.toList.take na) (b.toList.take nb) out.toList.reverse)
     (Q:=fun c st'=>SS st st'∧((∃r o,c=(some r,o)∧jx (Le O key) T r.toList)∨∃na nb out mg ac bc,c=(none,na,nb,out,mg,ac,bc)∧na≤a.size∧1≤na∧nb≤b.size∧2≤nb∧na+nb+(x+1) < a.size+b.size∧H (Le O key) T (a.toList.take na) (b.toList.take nb) out.toList.reverse)) ?u1 ?u2 ⟨hs,na,nb,out,_,ac,bc,rfl,p1,q1,p2,q2,q3,g⟩) ?u3)
    case u2=>
     rintro c st' ⟨hs,na,nb,out,mg,ac,bc,rfl,p1,q1,p2,q2,q3,g⟩
     exact⟨hs,.inr ⟨na,nb,out,mg,ac,bc,rfl,p1,q1,p2,q2,by assumption,g⟩⟩
    case u3=>
     rintro c st3 ⟨hs,⟨r,o,rfl,hg⟩ |⟨na,nb,out,mg,ac,bc,rfl,p1,q1,p2,q2,q3,g⟩⟩
     ·exact wpS_pure ⟨hs,r,_,rfl,hg⟩
     ·exact wpS_bind (ub hs fun st4 h4=>wpS_pure ⟨h4,na,nb,out,_,rfl,p1,q1,p2,q2,q3,g⟩)
    case u1=>
     rintro y c st3 - hy ⟨hs,na,nb,out,mg,ac,bc,rfl,p1,q1,p2,q2,q3,g⟩
     refine Hw fun R hR=>?_
     have Rd:∀r o st',SS st st'→jx (Le O key) T r.toList→R (.done (some r,o)) st':=fun r o st' a1 a2=>by rw[hR];exact⟨a1,.inl ⟨r,o,rfl,a2⟩⟩
     have Rn:∀na nb out mg ac bc st',SS st st'→na≤a.size→1≤na→nb≤b.size→2≤nb→na+nb+(x+1) < a.size+b.size→H (Le O key) T (a.toList.take na) (b.toList.take nb) out.toList.reverse→R (.done (none,na,nb,out,mg,ac,bc)) st':=
      fun na nb out mg ac bc st' a1 a2 a3 a4 a5 a6 a7=>by rw[hR];exact⟨a1,.inr ⟨_,_,_,_,_,_,rfl,a2,a3,a4,a5,a6,a7⟩⟩
     have Ry:∀na nb out mg ac bc st',SS st st'→na≤a.size→1≤na→nb≤b.size→2≤nb→na+nb+(x+1) < a.size+b.size→H (Le O key) T (a.toList.take na) (b.toList.take nb) out.toList.reverse→R (.yield (none,na,nb,out,mg,ac,bc)) st':=
      fun na nb out mg ac bc st' a1 a2 a3 a4 a5 a6 a7=>by rw[hR];exact⟨a1,_,_,_,_,_,_,rfl,a2,a3,a4,a5,a6,a7⟩
     clear hR
     obtain⟨nb,rfl⟩:∃n,nb=n+1:=⟨nb - 1,by lia⟩
     have p2':nb < b.size:=by assumption
     have q2':1≤nb:=by exact Nat.le_of_lt_succ ‹_›
     extract_lets
     rename Unit→Nat→_=>jp
     refine Jg (jp ()) fun mg'=>?_
     refine wpS_bind (ub hs fun st4 h4=>?_)
     refine wpS_bind (iV p2' ?_)
     refine wpS_bind (jH C (k:=at' b nb) (base:=0) (n:=na) (hint:=na - 1) (h4.kind.trans hk) (by exact Nat.sub_lt ‹_› Nat.one_pos) (by lia) (dB _ p2') dA ?m1 fun k hk1 hk2 hk3=>?_)
     case m1=>
      intro i j hij hj e
      simp only[ji,Bool.not_eq_true',aU]at e ⊢
      exact(sv pa (by exact ma ‹_›) (by exact oV ‹_› ‹_›):Le O key (at' a i) (at' a j)).trans e
     simp only[ji,Bool.not_eq_true',Bool.not_eq_false',aU]at hk2 hk3
     dsimp -zeta only
     extract_lets
     rename Unit→Nat→Array Keyed→_=>jp1
     have J1:∀(na:Nat) (out:Array Keyed),na≤a.size→1≤na→na+(nb+1)+(x+1) < a.size+b.size→H (Le O key) T (a.toList.take na) (b.toList.take (nb+1)) out.toList.reverse→(∀y∈a.toList.take na,Le O key y (at' b nb))→wpS (model prog w) A E s (jp1 () na out) R st4:=by
      intro na out p1 q1 q3 g hl
      obtain⟨na,rfl⟩:∃n,na=n+1:=⟨na - 1,by exact(Nat.sub_add_cancel ‹_›).symm⟩
      have p1':na < a.size:=by assumption
      refine wpS_bind (iV p2' ?_)
      have g':=g.pushB p2' hl
      by_cases z:(nb == 1)=true
      ·exact bt z (wpS_pure (Rd _ _ _ h4 (g'.firstB (by simpa using z) h1)))
      refine bj z ?_
      have z':2≤nb:=by simp at z;lia
      refine wpS_bind (iV p1' ?_)
      refine wpS_bind (jH C (k:=at' a na) (base:=0) (n:=nb) (hint:=nb - 1) (h4.kind.trans hk) (by exact Nat.sub_lt ‹_› Nat.one_pos) (by lia) (dA _ p1') dB ?m2 fun k' hk1' hk2' hk3'=>?_)
      case m2=>
       intro i j hij hj e
       simp only[ji,aU]at e ⊢
       exact KeyOrd.klt_of_kle_of_klt (O:=O) (sv pb (by exact ma ‹_›) (by lia):Le O key (at' b i) (at' b j)) e
      simp only[ji,aU]at hk2' hk3'
      dsimp -zeta only
      extract_lets
      rename Unit→Nat→Array Keyed→_=>jp2
      have J2:∀(nb':Nat) (out:Array Keyed),nb'≤b.size→2≤nb'→na+1+nb'+(x+1) < a.size+b.size→H (Le O key) T (a.toList.take (na+1)) (b.toList.take nb') out.toList.reverse→(∀y∈b.toList.take nb',Le O key y (at' a na))→wpS (model prog w) A E s (jp2 () nb' out) R st4:=by
       intro nb' out r1 r2 r3 g hl
       refine wpS_bind (iV p1' ?_)
       have g':=g.pushA p1' hl
       by_cases z:(na == 0)=true
       ·exact bt z (wpS_pure (Rd _ _ _ h4 (g'.doneA (by simpa using z))))
       refine bj z ?_
       have z':1≤na:=by simp at z;exact Nat.pos_of_ne_zero ‹_›
       refine jy (fun _=>?_) (fun _=>?_)
       ·exact wpS_pure (Rn _ _ _ _ _ _ _ h4 (by exact ma ‹_›) z' r1 r2 (by lia) g')
       ·exact wpS_pure (Ry _ _ _ _ _ _ _ h4 (by exact ma ‹_›) z' r1 r2 (by lia) g')
      clear_value jp2
      have tl:∀y∈b.toList.take k',Le O key y (at' a na):=fun y hy=>by
       obtain⟨j,r1,r2,rfl⟩:=ud hy
       exact Le.of (hk2' j r1)
      by_cases z2:nb - k' > 0
      ·refine bt z2 ?_
       have g2:=g'.blkB hk1' fun j j1 j2 j3 y hy=>(yV pa p1' hy).trans (hk3' j j1 j2)
       by_cases z3:(k' == 1)=true
       ·exact bt z3 (wpS_pure (Rd _ _ _ h4 (g2.firstB (by simpa using z3) h1)))
       refine bj z3 ?_
       by_cases z4:(k' == 0)=true
       ·exact bt z4 (wpS_pure (Rd _ _ _ h4 (g2.doneB (by simpa using z4))))
       ·exact bj z4 (J2 k' _ (by lia) (by simp at z3 z4;lia) (by lia) g2 tl)
      ·have k0:k'=nb:=by exact Nat.le_antisymm ‹_› (Nat.sub_eq_zero_iff_le.mp (Nat.eq_zero_of_not_pos ‹_›))
       subst k0
       exact bj z2 (J2 k' _ (by exact ma ‹_›) z' (by lia) g' tl)
     clear_value jp1
     have tl:∀y∈a.toList.take k,Le O key y (at' b nb):=fun y hy=>by
      obtain⟨j,r1,r2,rfl⟩:=ud hy
      exact hk2 j r1
     by_cases z2:na - k > 0
     ·refine bt z2 ?_
      have g2:=g.blkA hk1 fun j j1 j2 j3 y hy=>(yV pb p2' hy).trans (Le.of (hk3 j j1 j2))
      by_cases z3:(k == 0)=true
      ·exact bt z3 (wpS_pure (Rd _ _ _ h4 (g2.doneA (by simpa using z3))))
      ·exact bj z3 (J1 k _ (by exact jn ‹_› ‹_›) (by simp at z3;exact Nat.pos_of_ne_zero ‹_›) (by lia) g2 tl)
     ·have k0:k=na:=by exact Nat.le_antisymm ‹_› (Nat.sub_eq_zero_iff_le.mp (Nat.eq_zero_of_not_pos ‹_›))
      subst k0
      exact bj z2 (J1 k _ p1 q1 q3 g tl)
end
end NhLS
namespace NhLS
set_option autoImplicit false
open PySem PyProof.Rows
def So(O:KeyOrd)(key:Keyed→O.α)(a:Array Keyed)(lo hi:Nat):Prop:=∀i j,lo≤i→i < j→j < hi→Le O key (at' a i) (at' a j)
section
variable {O:KeyOrd} {key:Keyed→O.α} {a b:Array Keyed} {i j lo hi p:Nat} {x y z:Keyed}
theorem So.le(h:So O key a lo hi)(h1:lo≤i)(h2:i≤j)(h3:j < hi):Le O key (at' a i) (at' a j):=by
 by_cases e:i=j
 ·rw[e];exact Le.refl _
 ·exact h i j h1 (by exact Nat.lt_of_le_of_ne ‹_› ‹_›) h3
theorem So.ext(h:So O key a lo hi)(q:∀j,lo≤j→j < hi→at' b j=at' a j):So O key b lo hi:=fun i j h1 h2 h3=>by
 rw[q i (by assumption) (by lia),q j (by lia) h3]
 exact h i j h1 h2 h3
theorem vP(h1:i+j < hi)(h2:hi≤a.size):at' (a.extract i hi) j=at' a (i+j):=by
 simp[at',Array.getD,show j < min hi a.size - i by lia,show i+j < a.size by exact oV ‹_› ‹_›]
theorem Gd(h1:lo≤hi)(h2:hi≤a.size):(a.extract lo hi).size=hi - lo:=by
 rw[Array.size_extract]
 lia
theorem Ge(h:So O key a lo hi)(h2:hi≤a.size):(a.extract lo hi).toList.Pairwise (Le O key):=by
 rw[List.pairwise_iff_getElem]
 intro i j hi' hj hij
 rw[wJ,Array.size_extract]at hi' hj
 rw[jI,jI,vP (by lia) h2,vP (by lia) h2]
 exact h _ _ (by exact qN _ _) (by exact Nat.add_lt_add_left ‹_› _) (by lia)
theorem Hx(h:i < a.size)(j:Nat):at' (a.setIfInBounds i x) j=if i=j then x else at' a j:=by
 unfold at'
 rw[Array.getD_eq_getD_getElem?,Array.getD_eq_getD_getElem?,Array.getElem?_setIfInBounds]
 by_cases e:i=j
 ·subst e;simp[h]
 ·simp[e]
def wr(a:Array Keyed)(p:Nat)(M:List (Keyed×Nat)):Array Keyed:=M.foldl (fun a q=>a.setIfInBounds (p+q.2) q.1) a
theorem yX(p:Nat):∀(M:List (Keyed×Nat)) (a:Array Keyed),(wr a p M).size=a.size
 |[],a=>rfl
 |q::M,a=>(yX p M _).trans (Array.size_setIfInBounds ..)
theorem C6(p:Nat):∀(M:List Keyed) (n:Nat) (a:Array Keyed),p+n+M.length≤a.size→∀j,at' (wr a p (M.zipIdx n)) j=if p+n≤j∧j < p+n+M.length then M.getD (j - (p+n)) E9 else at' a j
 |[],n,a,h,j=>by
  rw[if_neg (by simp)]
  rfl
 |x::M,n,a,h,j=>by
  rw[List.length_cons]at h
  show at' (wr (a.setIfInBounds (p+n) x) p (M.zipIdx (n+1))) j=_
  rw[C6 p M (n+1) _ (by rw[Array.size_setIfInBounds];lia),Hx (by lia),List.length_cons]
  by_cases e:p+n=j
  ·subst e
   rw[if_neg (by lia),if_pos rfl,if_pos (by lia),Nat.sub_self]
   rfl
  ·by_cases q:p+(n+1)≤j∧j < p+(n+1)+M.length
   ·rw[if_pos q,if_pos (by lia),show j - (p+n)=(j - (p+(n+1)))+1 by lia]
    rfl
   ·rw[if_neg q,if_neg e,if_neg (by lia)]
theorem E_(M:List Keyed)(a:Array Keyed)(h:p+M.length≤a.size):(wr a p M.zipIdx).toList=a.toList.take p++M++a.toList.drop (p+M.length):=by
 have hs:=yX p M.zipIdx a
 refine List.ext_getElem (by simp[hs];lia) fun i h1 h2=>?_
 rw[jI,show M.zipIdx=M.zipIdx 0 from rfl,C6 p M 0 a (by assumption)]
 have h1':i < a.size:=by simpa[hs]using h1
 by_cases c1:i < p
 ·rw[if_neg (by lia),List.getElem_append_left (by simp;lia),List.getElem_append_left (by simp;lia),List.getElem_take,jI]
 ·by_cases c2:i < p+M.length
  ·rw[if_pos (by lia),List.getElem_append_left (by simp;lia),List.getElem_append_right (by simp;lia)]
   have e:i - (a.toList.take p).length=i - (p+0):=by simp;lia
   simp only[e]
   simp[show i - p < M.length by lia]
  ·rw[if_neg (by exact fun h=>‹¬_› h.2),List.getElem_append_right (by simp;lia),List.getElem_drop,jI]
   congr 1
   simp
   lia
end
section
variable {prog:Program} {w:World} {A:Around} {E:Value→Shared→Prop} {s:Shared} {κ:SortKind} {O:KeyOrd} {key:Keyed→O.α} {dom:Keyed→Prop}
theorem Fa{st st':SortSt}{Q:PUnit→SortSt→Prop}(h:Q ⟨⟩ st'):wpS (model prog w) A E s (set st':StateT SortSt Sem PUnit) Q st:=by
 unfold wpS;rw[StateT.run_set];exact wpAny_pure ⟨rfl,h⟩
theorem AH(C:Cmp prog w A s κ O key dom){a:Array Keyed}{pd:Array (Nat×Nat×Nat)}{g i sa na pw nb pw':Nat}{Q:Bool→SortSt→Prop}(da:∀i,i < a.size→dom (at' a i))(hp1:pd[i]? =some (sa,na,pw))(hp2:pd[i+1]? =some (sa+na,nb,pw'))
  (h1:1≤na) (h2:1≤nb) (hz:sa+na+nb≤a.size) (s1:So O key a sa (sa+na)) (s2:So O key a (sa+na) (sa+na+nb))
  (h:∀b g',b.toList.Perm a.toList→(∀j,j < sa∨sa+na+nb≤j→at' b j=at' a j)→So O key b sa (sa+na+nb)→Q true (SortSt.mk' κ b ((pd.setIfInBounds i (sa,na+nb,pw)).eraseIdxIfInBounds (i+1)) g' none)):
  wpS (model prog w) A E s (mergeAt' i) Q (SortSt.mk' κ a pd g none):=by
 refine wpS_bind (wpS_get ?_)
 simp only[hp1,hp2]
 refine wpS_bind (Fa ?_)
 have b1:sa+na < a.size:=by lia
 refine wpS_bind (iV b1 ?_)
 refine wpS_bind (jH C (k:=at' a (sa+na)) (arr:=a) (base:=sa) (n:=na) (hint:=0) rfl (by assumption) (by exact ma ‹_›) (da _ b1) da ?m1 fun k hk1 hk2 hk3=>?_)
 case m1=>
  intro i j hij hj e
  simp only[ji,Bool.not_eq_true',aU]at e ⊢
  exact(s1.le (by exact qN _ _) (by lia) (by exact Nat.add_lt_add_left ‹_› _):Le O key (at' a (sa+i)) (at' a (sa+j))).trans e
 simp only[ji,Bool.not_eq_true',Bool.not_eq_false',aU]at hk2 hk3
 have lo:∀i,sa≤i→i < sa+k→∀j,sa+na≤j→j < sa+na+nb→Le O key (at' a i) (at' a j):=fun i r1 r2 j r3 r4=>by
  have:=hk2 (i - sa) (by exact Nat.sub_lt_left_of_lt_add ‹_› ‹_›)
  rw[show sa+(i - sa)=i by exact Nat.add_sub_of_le ‹_›]at this
  exact Le.trans this (s2.le (by(solve_by_elim (maxDepth:=3) only[*,jn,oV,oW,ma,Nat.add_le_add_left,Nat.add_lt_add_left,qN,Nat.lt_of_succ_lt])) r3 r4)
 by_cases z:(na - k == 0)=true
 ·refine bt z (wpS_pure (h a g (List.Perm.refl _) (fun _ _=>rfl) fun i j r1 r2 r3=>?_))
  have z':k=na:=by simp at z;lia
  by_cases c:j < sa+na
  ·exact s1 i j r1 r2 c
  ·by_cases c':i < sa+na
   ·exact lo i r1 (by lia) j (by exact Nat.le_of_not_lt ‹_›) r3
   ·exact s2 i j (by exact Nat.le_of_not_lt ‹_›) r2 r3
 refine bj z ?_
 have z':k < na:=by simp at z;lia
 have b2:sa+na - 1 < a.size:=by exact oW (Nat.sub_le _ _) ‹_›
 rw[show sa+k+(na - k) - 1=sa+na - 1 by lia]
 refine wpS_bind (iV b2 ?_)
 refine wpS_bind (jH C (k:=at' a (sa+na - 1)) (arr:=a) (base:=sa+na) (n:=nb) (hint:=nb - 1) rfl (by exact Nat.sub_lt ‹_› Nat.one_pos) (by assumption) (da _ b2) da ?m2 fun m hm1 hm2 hm3=>?_)
 case m2=>
  intro i j hij hj e
  simp only[ji,if_true]at e ⊢
  exact KeyOrd.klt_of_kle_of_klt (O:=O) (s2.le (by exact qN _ _) (by lia) (by exact Nat.add_lt_add_left ‹_› _):Le O key (at' a (sa+na+i)) (at' a (sa+na+j))) e
 simp only[ji,if_true]at hm2 hm3
 have up:∀j,sa+na+m≤j→j < sa+na+nb→∀i,sa≤i→i < sa+na→Le O key (at' a i) (at' a j):=fun j r3 r4 i r1 r2=>by
  have:=hm3 (j - (sa+na)) (by exact Nat.le_sub_of_add_le' ‹_›) (by lia)
  rw[show sa+na+(j - (sa+na))=j by exact Nat.add_sub_of_le (jn (qN _ _) ‹_›)]at this
  exact(s1.le r1 (by lia) (by lia):Le O key (at' a i) (at' a (sa+na - 1))).trans this
 by_cases y:(m == 0)=true
 ·refine bt y (wpS_pure (h a g (List.Perm.refl _) (fun _ _=>rfl) fun i j r1 r2 r3=>?_))
  have y':m=0:=by simpa using y
  by_cases c:j < sa+na
  ·exact s1 i j r1 r2 c
  ·by_cases c':i < sa+na
   ·exact up j (by lia) r3 i r1 c'
   ·exact s2 i j (by exact Nat.le_of_not_lt ‹_›) r2 r3
 refine bj y ?_
 have y':0 < m:=by simp at y;exact Nat.pos_of_ne_zero ‹_›
 have zx:(a.extract (sa+k) (sa+na)).size=na - k:=by rw[Gd (by exact Nat.add_le_add_left ‹_› _) (by exact ma ‹_›)];lia
 have zy:(a.extract (sa+na) (sa+na+m)).size=m:=by rw[Gd (by exact qN _ _) (by lia)];lia
 have mx:∀x∈(a.extract (sa+k) (sa+na)).toList,∃t,sa+k≤t∧t < sa+na∧x=at' a t:=fun x hx=>by
  obtain⟨t,t1,t2,t3,t4⟩:=uf hx
  exact⟨t,t1,t2,t4⟩
 have my:∀x∈(a.extract (sa+na) (sa+na+m)).toList,∃t,sa+na≤t∧t < sa+na+m∧x=at' a t:=fun x hx=>by
  obtain⟨t,t1,t2,t3,t4⟩:=uf hx
  exact⟨t,t1,t2,t4⟩
 have dx:∀x∈(a.extract (sa+k) (sa+na)).toList,dom x:=fun x hx=>by obtain⟨t,t1,t2,rfl⟩:=mx x hx;exact da _ (by lia)
 have dy:∀x∈(a.extract (sa+na) (sa+na+m)).toList,dom x:=fun x hx=>by obtain⟨t,t1,t2,rfl⟩:=my x hx;exact da _ (by lia)
 have px:=Ge (hi:=sa+na) (lo:=sa+k) (a:=a) (fun i j r1 r2 r3=>s1 i j (by exact jn (qN _ _) ‹_›) r2 r3) (by exact ma ‹_›)
 have py:=Ge (hi:=sa+na+m) (lo:=sa+na) (a:=a) (fun i j r1 r2 r3=>s2 i j (by assumption) r2 (by lia)) (by lia)
 have fx:at' (a.extract (sa+k) (sa+na)) 0=at' a (sa+k):=vP (by exact Nat.add_lt_add_left ‹_› _) (by exact ma ‹_›)
 have lx:at' (a.extract (sa+k) (sa+na)) ((a.extract (sa+k) (sa+na)).size - 1)=at' a (sa+na - 1):=by
  rw[zx,vP (by lia) (by exact ma ‹_›)]
  congr 1
  lia
 have fy:at' (a.extract (sa+na) (sa+na+m)) 0=at' a (sa+na):=vP (by exact Nat.add_lt_add_left ‹_› _) (by lia)
 have h0:O.blt (key (at' a (sa+na))) (key (at' a (sa+k)))=true:=hk3 k (by exact gi _) z'
 have yl:∀y∈(a.extract (sa+na) (sa+na+m)).toList,Le O key y (at' a (sa+na - 1)):=fun y hy=>by
  obtain⟨t,t1,t2,rfl⟩:=my y hy
  have:=hm2 (t - (sa+na)) (by exact Nat.sub_lt_left_of_lt_add ‹_› ‹_›)
  rw[show sa+na+(t - (sa+na))=t by exact Nat.add_sub_of_le ‹_›]at this
  exact Le.of this
 have xf:∀y∈(a.extract (sa+k) (sa+na)).toList,Le O key (at' a (sa+na)) y:=fun y hy=>by
  obtain⟨t,t1,t2,rfl⟩:=mx y hy
  exact(Le.of h0).trans (s1.le (by exact qN _ _) t1 t2)
 have fin:∀(r:Array Keyed) (g':Nat),jx (Le O key) ((a.extract (sa+k) (sa+na)).toList++(a.extract (sa+na) (sa+na+m)).toList) r.toList→
   Q true (SortSt.mk' κ (wr a (sa+k) r.toList.zipIdx) ((pd.setIfInBounds i (sa,na+nb,pw)).eraseIdxIfInBounds (i+1)) g' none):=by
  intro r g' ⟨gp,gs⟩
  have rl:r.toList.length=na - k+m:=by rw[gp.length_eq,pI,wJ,wJ,zx,zy]
  have at1:=C6 (sa+k) r.toList 0 a (by lia)
  have rm:∀x∈r.toList,∃t,sa+k≤t∧t < sa+na+m∧x=at' a t:=fun x hx=>by
   rcases Zaj.mp (gp.mem_iff.mp hx)with hx |hx
   ·obtain⟨t,t1,t2,e⟩:=mx x hx
    exact⟨t,t1,by exact Nat.lt_add_right _ ‹_›,e⟩
   ·obtain⟨t,t1,t2,e⟩:=my x hx
    exact⟨t,by lia,t2,e⟩
  have rg:∀n,n < r.toList.length→r.toList.getD n E9=at' r n:=fun n hn=>by
   have hn':n < r.size:=by simpa using hn
   rw[←jI hn]
   simp[hn']
  have rt:∀n,n < r.toList.length→∃t,sa+k≤t∧t < sa+na+m∧at' r n=at' a t:=fun n hn=>rm _ (by rw[←jI hn];exact List.getElem_mem _)
  refine h _ g' ?_ (fun j hj=>?_) fun i j r1 r2 r3=>?_
  ·rw[E_ _ _ (by lia)]
   have ea:a.toList=a.toList.take (sa+k)++((a.extract (sa+k) (sa+na)).toList++(a.extract (sa+na) (sa+na+m)).toList)++a.toList.drop (sa+k+r.toList.length):=by
    rw[←pk,←ue (by exact Nat.add_le_add_left ‹_› _),←ue (by exact qN _ _),rl,show sa+k+(na - k+m)=sa+na+m by lia,List.take_append_drop]
   refine List.Perm.trans ?_ (List.Perm.of_eq ea.symm)
   exact List.Perm.append_right _ (List.Perm.append_left _ gp)
  ·show at' (wr a (sa+k) (r.toList.zipIdx 0)) j=_
   rw[at1,if_neg (by lia)]
  ·show Le O key (at' (wr a (sa+k) (r.toList.zipIdx 0)) i) (at' (wr a (sa+k) (r.toList.zipIdx 0)) j)
   rw[at1,at1]
   by_cases ci:i < sa+k
   ·rw[if_neg (by lia)]
    by_cases cj:j < sa+na+m
    ·by_cases cj':j < sa+k
     ·rw[if_neg (by lia)]
      exact s1 i j r1 r2 (by lia)
     ·rw[if_pos (by lia),rg _ (by lia)]
      obtain⟨t,t1,t2,e⟩:=rt (j - (sa+k+0)) (by lia)
      rw[e]
      by_cases ct:t < sa+na
      ·exact s1 i t r1 (by exact oV ‹_› ‹_›) ct
      ·exact lo i r1 ci t (by exact Nat.le_of_not_lt ‹_›) (by lia)
    ·rw[if_neg (by lia)]
     exact lo i r1 ci j (by lia) r3
   ·by_cases ci':i < sa+na+m
    ·rw[if_pos (by lia),rg _ (by lia)]
     by_cases cj:j < sa+na+m
     ·rw[if_pos (by lia),rg _ (by lia)]
      have:=List.pairwise_iff_getElem.mp gs (i - (sa+k+0)) (j - (sa+k+0)) (by lia) (by lia) (by lia)
      rw[jI,jI]at this
      exact this
     ·rw[if_neg (by lia)]
      obtain⟨t,t1,t2,e⟩:=rt (i - (sa+k+0)) (by lia)
      rw[e]
      by_cases ct:t < sa+na
      ·exact up j (by exact Nat.le_of_not_lt ‹_›) r3 t (by exact jn (qN _ _) ‹_›) ct
      ·exact s2 t j (by exact Nat.le_of_not_lt ‹_›) (by lia) r3
    ·rw[if_neg (by lia),if_neg (by lia)]
     exact s2 i j (by lia) r2 r3
 refine jy (fun _=>?_) (fun _=>?_)
 ·refine wpS_bind (AF C rfl dx dy (by lia) (by lia) px py (by rw[fx,fy];exact h0) (by rw[lx];exact yl) fun r st' hs hg=>?_)
  obtain⟨g',rfl⟩:=hs
  exact wpS_bind (wpS_modify (wpS_bind (wpS_get (wpS_pure (fin r g' hg)))))
 ·refine wpS_bind (AG C rfl dx dy (by lia) (by lia) px py (by rw[lx];exact yl) (by rw[fy];exact xf) fun r st' hs hg=>?_)
  obtain⟨g',rfl⟩:=hs
  exact wpS_bind (wpS_modify (wpS_bind (wpS_get (wpS_pure (fin r g' hg)))))
end
end NhLS
namespace NhLS
set_option autoImplicit false
open PySem PyProof.Rows
structure Sx (a b:Array Keyed) (lo hi:Nat):Prop where
 perm:b.toList.Perm a.toList
 out:∀j,j < lo∨hi≤j→at' b j=at' a j
def Dn(O:KeyOrd)(key:Keyed→O.α)(a:Array Keyed)(lo hi:Nat):Prop:=∀i j,lo≤i→i < j→j < hi→Le O key (at' a j) (at' a i)
def Eqs(O:KeyOrd)(key:Keyed→O.α)(a:Array Keyed)(e q:Nat):Prop:=∀i,e - (q+1)≤i→i < e→Le O key (at' a i) (at' a (e - 1))∧Le O key (at' a (e - 1)) (at' a i)
section
variable {O:KeyOrd} {key:Keyed→O.α} {a b c:Array Keyed} {i j k lo hi n q:Nat}
theorem Sx.refl:Sx a a lo hi:=⟨List.Perm.refl _,fun _ _=>rfl⟩
theorem Sx.trans(h1:Sx a b lo hi)(h2:Sx b c lo hi):Sx a c lo hi:=⟨h2.perm.trans h1.perm,fun j hj=>(h2.out j hj).trans (h1.out j hj)⟩
theorem Sx.size(h:Sx a b lo hi):b.size=a.size:=by have:=h.perm.length_eq;simpa using this
theorem Sx.dom{dom:Keyed→Prop}(h:Sx a b lo hi)(da:∀x∈a.toList,dom x):∀x∈b.toList,dom x:=fun x hx=>da x (h.perm.mem_iff.mp hx)
theorem Fb(a:Array Keyed)(i:Nat):at' a i=(a[i]?).getD E9:=Array.getD_eq_getD_getElem? ..
theorem j_(hj:j≤a.size)(k:Nat):at' (mirror a i j ((j - i) / 2)) k=if i≤k∧k < j then at' a (i+j - 1 - k)else at' a k:=by
 rw[Fb,getElem?_mirror_all hj]
 split <;> rw[Fb]
theorem xA(hk:k < a.size)(hd:n≤k)(i:Nat):at' (bubble a k n) i=if i=k - n then at' a k else if k - n < i∧i≤k then at' a (i - 1)else at' a i:=by
 rw[Fb,getElem?_bubble hk n hd]
 repeat' split
 all_goals rw[Fb]
theorem Sx.rev(h1:lo≤i)(h2:j≤hi)(h3:j≤a.size):Sx a (mirror a i j ((j - i) / 2)) lo hi:=
 ⟨Array.perm_iff_toList_perm.mp (mirror_perm _ _ _ _),fun k hk=>by rw[j_ h3,if_neg (by lia)]⟩
theorem Sx.bub(h1:k < a.size)(h0:n≤k)(h2:lo≤k - n)(h3:k < hi):Sx a (bubble a k n) lo hi:=
 ⟨Array.perm_iff_toList_perm.mp (bubble_perm _ _ _),fun j hj=>by rw[xA h1 h0,if_neg (by lia),if_neg (by lia)]⟩
theorem So.step(h:So O key a lo hi)(hl:lo < hi)(e:Le O key (at' a (hi - 1)) (at' a hi)):So O key a lo (hi+1):=fun i j h1 h2 h3=>by
 by_cases c:j < hi
 ·exact h i j h1 h2 c
 ·rw[show j=hi by lia]
  exact(h.le h1 (by lia) (by lia):Le O key (at' a i) (at' a (hi - 1))).trans e
theorem Dn.le(h:Dn O key a lo hi)(h1:lo≤i)(h2:i≤j)(h3:j < hi):Le O key (at' a j) (at' a i):=by
 by_cases e:i=j
 ·rw[e];exact Le.refl _
 ·exact h i j h1 (by exact Nat.lt_of_le_of_ne ‹_› ‹_›) h3
theorem Dn.step(h:Dn O key a lo hi)(hl:lo < hi)(e:Le O key (at' a hi) (at' a (hi - 1))):Dn O key a lo (hi+1):=fun i j h1 h2 h3=>by
 by_cases c:j < hi
 ·exact h i j h1 h2 c
 ·rw[show j=hi by lia]
  exact Le.trans e (h.le h1 (by lia) (by lia))
theorem Dn.rev(h:Dn O key a lo hi)(e:Eqs O key a hi q)(hz:hi≤a.size)(hq:lo+(q+1)≤hi):Dn O key (mirror a (hi - (q+1)) hi ((hi - (hi - (q+1))) / 2)) lo hi:=fun i j h1 h2 h3=>by
 rw[j_ hz,j_ hz]
 by_cases c:hi - (q+1)≤i
 ·rw[if_pos (by lia),if_pos (by lia)]
  exact(e _ (by lia) (by lia)).1.trans (e _ (by lia) (by lia)).2
 ·rw[if_neg (show ¬(hi - (q+1)≤i∧i < hi) by exact fun h=>‹¬_› h.1)]
  by_cases c':hi - (q+1)≤j
  ·rw[if_pos (by exact⟨‹_›,‹_›⟩)]
   exact h _ _ h1 (by lia) (by lia)
  ·rw[if_neg (by exact fun h=>‹¬_› h.1)]
   exact h _ _ h1 h2 h3
theorem Dn.flip(h:Dn O key a lo hi)(hz:hi≤a.size):So O key (mirror a lo hi ((hi - lo) / 2)) lo hi:=fun i j h1 h2 h3=>by
 rw[j_ hz,j_ hz,if_pos (by lia),if_pos (by lia)]
 exact h _ _ (by lia) (by lia) (by lia)
theorem Eqs.one:Eqs O key a (hi+1) 0:=fun i h1 h2=>by
 rw[show i=hi by lia]
 exact⟨Le.refl _,Le.refl _⟩
end
section
variable {prog:Program} {w:World} {A:Around} {E:Value→Shared→Prop} {s:Shared} {κ:SortKind} {O:KeyOrd} {key:Keyed→O.α} {dom:Keyed→Prop} {a:Array Keyed} {pd:Array (Nat×Nat×Nat)} {g:Nat}
theorem nV(C:Cmp prog w A s κ O key dom){i j:Nat}{Q:Option Bool→SortSt→Prop}(da:∀x∈a.toList,dom x)(hi:i < a.size)(hj:j < a.size)(h:Q (some (O.blt (key (at' a i)) (key (at' a j)))) (SortSt.mk' κ a pd g none)):wpS (model prog w) A E s (ltAt' i j) Q (SortSt.mk' κ a pd g none):=
 wpS_bind (wpS_get (wpS_bind (iV hi (wpS_bind (iV hj (C4 C rfl (da _ (mn hi)) (da _ (mn hj)) h))))))
theorem yY{i j:Nat}{Q:Unit→SortSt→Prop}(h:Q () (SortSt.mk' κ (mirror a i j ((j - i) / 2)) pd g none)):wpS (model prog w) A E s (reverseSlice' i j) Q (SortSt.mk' κ a pd g none):=wpS_modify h
theorem Hy{k l:Nat}{Q:Unit→SortSt→Prop}(h:Q () (SortSt.mk' κ (bubble a k (k - l)) pd g none)):wpS (model prog w) A E s (moveDown' k l) Q (SortSt.mk' κ a pd g none):=wpS_modify h
theorem Gf{lo n0 nrem:Nat}{β:Type}{body:Nat→Option β×Nat→StateT SortSt Sem (ForInStep (Option β×Nat))}{Q:Option β×Nat→SortSt→Prop}(h1:1≤n0)(h2:n0≤nrem)(hs:So O key a lo (lo+n0))
  (hb:∀x n (R:ForInStep (Option β×Nat)→SortSt→Prop),1≤n→n < nrem→R (if O.blt (key (at' a (lo+n))) (key (at' a (lo+n - 1)))=true then .done (none,n)else .yield (none,n+1)) (SortSt.mk' κ a pd g none)→wpS (model prog w) A E s (body x (none,n)) R (SortSt.mk' κ a pd g none))
  (h:∀n,n0≤n→n≤nrem→So O key a lo (lo+n)→(n < nrem→O.blt (key (at' a (lo+n))) (key (at' a (lo+n - 1)))=true)→Q (none,n) (SortSt.mk' κ a pd g none)):
  wpS (model prog w) A E s (forIn [n0:nrem] (none,n0) body) Q (SortSt.mk' κ a pd g none):=by
 refine wpS_forRange (I:=fun x c st'=>st'=SortSt.mk' κ a pd g none∧c=(none,x)∧n0≤x∧So O key a lo (lo+x)) ?_ ?_ ⟨rfl,rfl,gi _,hs⟩
 ·rintro x c st' q1 q2 ⟨rfl,rfl,q3,q4⟩
  refine hb x x _ (by exact oV ‹_› ‹_›) q2 ?_
  cases e:O.blt (key (at' a (lo+x))) (key (at' a (lo+x - 1)))with
  |true=>exact h x q3 (by exact ma ‹_›) q4 fun _=>e
  |false=>exact⟨rfl,rfl,by(solve_by_elim (maxDepth:=3) only[*,jn,oV,oW,ma]),q4.step (by lia) e⟩
 ·rintro c st' ⟨rfl,rfl,q3,q4⟩
  rw[show max n0 nrem=nrem by exact Nat.max_eq_right ‹_›]at q4 ⊢
  exact h nrem h2 (gi _) q4 fun z=>absurd z (Nat.lt_irrefl _)
theorem ug(C:Cmp prog w A s κ O key dom){lo n ok:Nat}{Q:Bool→SortSt→Prop}(da:∀x∈a.toList,dom x)(h1:1≤ok)(h2:ok≤n)(hz:lo+n≤a.size)(hs:So O key a lo (lo+ok))
  (h:∀b,Sx a b lo (lo+n)→So O key b lo (lo+n)→Q true (SortSt.mk' κ b pd g none)):wpS (model prog w) A E s (binarySort' lo n ok) Q (SortSt.mk' κ a pd g none):=by
 refine wpS_bind (wpS_mono (wpS_forRange (I:=fun k c st'=>c=(none,())∧∃b,st'=SortSt.mk' κ b pd g none∧Sx a b lo (lo+n)∧So O key b lo (lo+k)) (Q:=fun c st'=>c=(none,())∧∃b,st'=SortSt.mk' κ b pd g none∧Sx a b lo (lo+n)∧So O key b lo (lo+n)) ?s1 ?s2 ⟨rfl,a,rfl,.refl,by rw[show max ok 1=ok by exact Nat.max_eq_left ‹_›];exact hs⟩) ?s3)
 case s3=>
  rintro c st' ⟨rfl,b,rfl,sb,ss⟩
  exact wpS_pure (h b sb ss)
 case s2=>
  rintro c st' ⟨rfl,b,rfl,sb,ss⟩
  rw[show max (max ok 1) n=n by lia]at ss
  exact⟨rfl,b,rfl,sb,ss⟩
 case s1=>
  rintro k c st' k1 k2 ⟨rfl,b,rfl,sb,ss⟩
  have bz:=sb.size
  have ik:lo+k < b.size:=by lia
  refine wpS_bind (wpS_mono (wpS_forRange (I:=fun x c st'=>st'=SortSt.mk' κ b pd g none∧∃l r,c=(none,l,r)∧l≤r∧r≤k∧r+x≤k+l∧(∀i,i < l→Le O key (at' b (lo+i)) (at' b (lo+k)))∧(∀i,r≤i→i < k→Le O key (at' b (lo+k)) (at' b (lo+i))))
   (Q:=fun c st'=>st'=SortSt.mk' κ b pd g none∧∃l,c=(none,l,l)∧l≤k∧(∀i,i < l→Le O key (at' b (lo+i)) (at' b (lo+k)))∧(∀i,l≤i→i < k→Le O key (at' b (lo+k)) (at' b (lo+i)))) ?t1 ?t2 ⟨rfl,0,k,rfl,by exact Nat.zero_le _,by exact gi _,by(solve_by_elim (maxDepth:=3) only[*,jn,oV,oW,ma,Nat.add_le_add_left,Nat.add_lt_add_left,qN,Nat.lt_of_succ_lt]),fun i hi=>by lia,fun i h1 h2=>by lia⟩) ?t3)
  case t2=>
   rintro c st' ⟨rfl,l,r,rfl,p1,p2,p3,p4,p5⟩
   have:l=r:=by lia
   subst this
   exact⟨rfl,l,rfl,p2,p4,p5⟩
  case t1=>
   rintro x c st' - x2 ⟨rfl,l,r,rfl,p1,p2,p3,p4,p5⟩
   dsimp only
   refine jy (fun z=>?_) (fun z=>?_)
   ·have:l=r:=by exact Nat.le_antisymm ‹_› ‹_›
    subst this
    exact wpS_pure ⟨rfl,l,rfl,p2,p4,p5⟩
   ·have im:lo+(l+r) / 2 < b.size:=by lia
    refine wpS_bind (nV C (sb.dom da) ik im ?_)
    cases e:O.blt (key (at' b (lo+k))) (key (at' b (lo+(l+r) / 2)))with
    |true=>exact wpS_pure ⟨rfl,l,(l+r) / 2,rfl,by lia,by lia,by lia,p4,fun i r1 r2=>(Le.of e).trans (ss.le (by exact qN _ _) (by exact Nat.add_le_add_left ‹_› _) (by exact Nat.add_lt_add_left ‹_› _))⟩
    |false=>exact wpS_pure ⟨rfl,(l+r) / 2+1,r,rfl,by lia,by assumption,by lia,fun i r1=>(ss.le (by exact qN _ _) (by lia) (by lia):Le O key (at' b (lo+i)) (at' b (lo+(l+r) / 2))).trans e,p5⟩
  case t3=>
   rintro c st' ⟨rfl,l,rfl,p2,p4,p5⟩
   refine wpS_bind (Hy (wpS_pure ⟨rfl,_,rfl,sb.trans (Sx.bub (k:=lo+k) (n:=lo+k - (lo+l)) ik (by exact Nat.sub_le _ _) (by lia) (by exact Nat.add_lt_add_left ‹_› _)),fun i j r1 r2 r3=>?_⟩))
   have q4:∀i,lo≤i→i < lo+l→Le O key (at' b i) (at' b (lo+k)):=fun i u1 u2=>by have:=p4 (i - lo) (by exact Nat.sub_lt_left_of_lt_add ‹_› ‹_›);rwa [show lo+(i - lo)=i by exact Nat.add_sub_of_le ‹_›]at this
   have q5:∀i,lo+l≤i→i < lo+k→Le O key (at' b (lo+k)) (at' b i):=fun i u1 u2=>by have:=p5 (i - lo) (by exact Nat.le_sub_of_add_le' ‹_›) (by lia);rwa [show lo+(i - lo)=i by exact Nat.add_sub_of_le (jn (qN _ _) ‹_›)]at this
   show Le O key (at' (bubble b (lo+k) (lo+k - (lo+l))) i) (at' (bubble b (lo+k) (lo+k - (lo+l))) j)
   rw[xA ik (by exact Nat.sub_le _ _),xA ik (by exact Nat.sub_le _ _),show lo+k - (lo+k - (lo+l))=lo+l by lia]
   repeat' split
   all_goals first
    |(exfalso;lia)
    |exact q4 _ (by assumption) (by(first |exact Nat.lt_of_lt_of_eq ‹_› ‹_› |lia))
    |exact q5 _ (by(first |exact Nat.add_le_add_left ‹_› _ |lia)) (by lia)
    |exact ss _ _ (by(first |assumption |lia)) (by(first |assumption |lia)) (by lia)
theorem xB(C:Cmp prog w A s κ O key dom){lo nrem:Nat}{Q:Option Nat→SortSt→Prop}(da:∀x∈a.toList,dom x)(h1:1≤nrem)(hz:lo+nrem≤a.size)
  (h:∀m b,1≤m→m≤nrem→Sx a b lo (lo+nrem)→So O key b lo (lo+m)→Q (some m) (SortSt.mk' κ b pd g none)):wpS (model prog w) A E s (countRun' lo nrem) Q (SortSt.mk' κ a pd g none):=by
 refine wpS_bind (Gf (O:=O) (key:=key) (a:=a) (lo:=lo) (n0:=1) (nrem:=nrem) (gi _) h1 (fun i j r1 r2 r3=>by lia) (fun x n R n1 n2 hR=>?_) fun n q1 q2 q3 q4=>?_)
 ·refine wpS_bind (nV C da (show lo+n < a.size by lia) (show lo+n - 1 < a.size by lia) ?_)
  cases e:O.blt (key (at' a (lo+n))) (key (at' a (lo+n - 1)))with
  |true=>rw[e]at hR;exact wpS_pure hR
  |false=>rw[e]at hR;exact wpS_pure hR
 dsimp -zeta only
 by_cases z:(n == nrem)=true
 ·exact bt z (wpS_pure (h n a q1 q2 .refl q3))
 refine bj z ?_
 have z':n < nrem:=by simp at z;exact Nat.lt_of_le_of_ne ‹_› ‹_›
 have sn:=q4 z'
 extract_lets
 rename Unit→_=>jp
 have J:∀b,Sx a b lo (lo+nrem)→Dn O key b lo (lo+n+1)→wpS (model prog w) A E s (jp ()) Q (SortSt.mk' κ b pd g none):=by
  intro b sb db
  refine wpS_bind (wpS_lift (wpAny_rule ⟨rfl,?_⟩))
  refine wpS_bind (wpS_mono (wpS_forRange (I:=fun x c st'=>∃b q,st'=SortSt.mk' κ b pd g none∧Sx a b lo (lo+nrem)∧c=(none,x,q)∧q+1≤x∧n+1≤x∧Dn O key b lo (lo+x)∧Eqs O key b (lo+x) q)
   (Q:=fun c st'=>∃b m q,st'=SortSt.mk' κ b pd g none∧Sx a b lo (lo+nrem)∧c=(none,m,q)∧q+1≤m∧m≤nrem∧Dn O key b lo (lo+m)∧Eqs O key b (lo+m) q) ?s1 ?s2 ⟨b,0,rfl,sb,rfl,by exact wK ‹_›,by exact Nat.lt_succ_self _,db,Eqs.one⟩) ?s3)
  case s2=>
   rintro c st' ⟨b,q,rfl,sb,rfl,p1,p2,p3,p4⟩
   rw[show max (n+1) nrem=nrem by exact Nat.max_eq_right ‹_›]at *
   exact⟨b,nrem,q,rfl,sb,rfl,p1,gi _,p3,p4⟩
  case s1=>
   rintro x c st' x1 x2 ⟨b,q,rfl,sb,rfl,p1,p2,p3,p4⟩
   have bz:=sb.size
   have i1:lo+x < b.size:=by lia
   have i2:lo+x - 1 < b.size:=by exact oW (Nat.sub_le _ _) ‹_›
   refine wpS_bind (nV C (sb.dom da) i1 i2 ?_)
   cases e:O.blt (key (at' b (lo+x))) (key (at' b (lo+x - 1)))with
   |true=>
    dsimp only
    rw[if_pos rfl]
    refine jy (fun z=>?_) (fun z=>?_)
    ·refine wpS_bind (yY (wpS_pure ⟨_,0,rfl,sb.trans (Sx.rev (by lia) (by lia) (by exact ma ‹_›)),rfl,by exact Nat.le_add_left _ _,by exact wK ‹_›,?_,Eqs.one⟩))
     refine(p3.rev p4 (by exact ma ‹_›) (by exact Nat.add_lt_add_left ‹_› _)).step (by lia) ?_
     rw[j_ (by exact ma ‹_›),j_ (by exact ma ‹_›),if_neg (by lia),if_pos (by lia)]
     exact(Le.of e).trans (p4 _ (by lia) (by lia)).2
    ·exact wpS_pure ⟨b,0,rfl,sb,rfl,by exact Nat.le_add_left _ _,by exact wK ‹_›,p3.step (by lia) (Le.of e),Eqs.one⟩
   |false=>
    dsimp only
    rw[if_neg (by simp)]
    refine wpS_bind (nV C (sb.dom da) i2 i1 ?_)
    cases e':O.blt (key (at' b (lo+x - 1))) (key (at' b (lo+x)))with
    |true=>exact wpS_pure ⟨b,x,q,rfl,sb,rfl,p1,by exact ma ‹_›,p3,p4⟩
    |false=>
     refine wpS_pure ⟨b,q+1,rfl,sb,rfl,by exact Nat.succ_lt_succ ‹_›,by exact wK ‹_›,p3.step (by lia) e',fun i r1 r2=>?_⟩
     show Le O key (at' b i) (at' b (lo+x))∧Le O key (at' b (lo+x)) (at' b i)
     by_cases c:i=lo+x
     ·rw[c];exact⟨Le.refl _,Le.refl _⟩
     ·obtain⟨u1,u2⟩:=p4 i (by lia) (by lia)
      exact⟨u1.trans e,Le.trans e' u2⟩
  case s3=>
   rintro c st' ⟨b,m,q,rfl,sb,rfl,p1,p2,p3,p4⟩
   have bz:=sb.size
   dsimp -zeta only
   extract_lets
   rename Unit→_=>jp2
   have J2:∀b,Sx a b lo (lo+nrem)→Dn O key b lo (lo+m)→wpS (model prog w) A E s (jp2 ()) Q (SortSt.mk' κ b pd g none):=by
    intro b sb db
    have bz:=sb.size
    refine wpS_bind (yY ?_)
    have sc:=sb.trans (Sx.rev (a:=b) (i:=lo) (j:=lo+m) (gi lo) (show lo+m≤lo+nrem by exact Nat.add_le_add_left ‹_› _) (by lia))
    have cz:=sc.size
    have ss:=db.flip (by lia)
    revert sc cz ss
    generalize mirror b lo (lo+m) ((lo+m - lo) / 2)=c
    intro sc cz ss
    refine wpS_bind (Gf (O:=O) (key:=key) (a:=c) (lo:=lo) (n0:=m) (nrem:=nrem) (by exact jn (Nat.le_add_left _ _) ‹_›) p2 ss (fun x n R n1 n2 hR=>?_) fun n q1 q2 q3 q4=>?_)
    ·refine wpS_bind (nV C (sc.dom da) (show lo+n < c.size by lia) (show lo+n - 1 < c.size by lia) ?_)
     cases e:O.blt (key (at' c (lo+n))) (key (at' c (lo+n - 1)))with
     |true=>rw[e]at hR;exact wpS_pure hR
     |false=>rw[e]at hR;exact wpS_pure hR
    ·exact wpS_pure (h n c (by lia) q2 sc q3)
   clear_value jp2
   refine jy (fun z=>?_) (fun z=>?_)
   ·exact wpS_bind (yY (J2 _ (sb.trans (Sx.rev (a:=b) (i:=lo+m - (q+1)) (j:=lo+m) (by lia) (by exact Nat.add_le_add_left ‹_› _) (by lia))) (Dn.rev (hi:=lo+m) (q:=q) p3 p4 (by lia) (by exact Nat.add_lt_add_left ‹_› _))))
   ·exact J2 b sb p3
 clear_value jp
 refine jy (fun c=>?_) (fun c=>?_)
 ·refine wpS_bind (nV C da (show lo < a.size by lia) (show lo+n - 1 < a.size by lia) ?_)
  cases e:O.blt (key (at' a lo)) (key (at' a (lo+n - 1)))with
  |true=>exact wpS_pure (h n a q1 q2 .refl q3)
  |false=>
   refine wpS_bind (yY (J _ (Sx.rev (gi _) (by exact Nat.add_le_add_left ‹_› _) (by lia)) fun i j r1 r2 r3=>?_))
   have all:∀x y,lo≤x→x < lo+n→lo≤y→y < lo+n→Le O key (at' a x) (at' a y):=fun x y x1 x2 y1 y2=>
    ((q3.le x1 (by lia) (by lia):Le O key (at' a x) (at' a (lo+n - 1))).trans e).trans (q3.le (gi _) y1 y2)
   rw[j_ (by lia),j_ (by lia),if_pos (show lo≤i∧i < lo+n by lia)]
   by_cases c':j < lo+n
   ·rw[if_pos (by lia)]
    exact all _ _ (by lia) (by lia) (by lia) (by lia)
   ·rw[if_neg (by exact fun h=>‹¬_› h.2),show j=lo+n by lia]
    exact(Le.of sn).trans (all _ _ (by lia) (by lia) (by lia) (by lia))
 ·refine J a .refl fun i j r1 r2 r3=>?_
  rw[show i=lo+n - 1 by lia,show j=lo+n by lia]
  exact Le.of sn
end
end NhLS
namespace NhLS
set_option autoImplicit false
open PySem PyProof.Rows
def Ch(O:KeyOrd)(key:Keyed→O.α)(a:Array Keyed):List (Nat×Nat×Nat)→Nat→Nat→Prop
 |[],p,e=>p=e
 |t::l,p,e=>t.1=p∧1≤t.2.1∧So O key a p (p+t.2.1)∧Ch O key a l (p+t.2.1) e
section
variable {O:KeyOrd} {key:Keyed→O.α} {a b:Array Keyed}
theorem Ch.app:∀{l l':List (Nat×Nat×Nat)} {p e:Nat},Ch O key a (l++l') p e→∃m,Ch O key a l p m∧Ch O key a l' m e
 |[],_,p,e,h=>⟨p,rfl,h⟩
 |t::l,_,p,e,h=>by
  obtain⟨m,h1,h2⟩:=Ch.app h.2.2.2
  exact⟨m,⟨h.1,h.2.1,h.2.2.1,h1⟩,h2⟩
theorem Ch.join:∀{l l':List (Nat×Nat×Nat)} {p m e:Nat},Ch O key a l p m→Ch O key a l' m e→Ch O key a (l++l') p e
 |[],_,p,m,e,h1,h2=>by rw[show p=m from h1];exact h2
 |t::l,_,p,m,e,h1,h2=>⟨h1.1,h1.2.1,h1.2.2.1,Ch.join h1.2.2.2 h2⟩
theorem Ch.le:∀{l:List (Nat×Nat×Nat)} {p e:Nat},Ch O key a l p e→p+l.length≤e
 |[],p,e,h=>by rw[show p=e from h];exact gi _
 |t::l,p,e,h=>by
  have:=Ch.le h.2.2.2
  have:=h.2.1
  rw[List.length_cons]
  lia
theorem Ch.ext:∀{l:List (Nat×Nat×Nat)} {p e:Nat},Ch O key a l p e→(∀j,p≤j→j < e→at' b j=at' a j)→Ch O key b l p e
 |[],p,e,h,_=>h
 |t::l,p,e,h,q=>by
  have:=Ch.le h.2.2.2
  exact⟨h.1,h.2.1,h.2.2.1.ext fun j h1 h2=>q j h1 (by lia),Ch.ext h.2.2.2 fun j h1 h2=>q j (by exact jn (qN _ _) ‹_›) h2⟩
theorem Ch.map:∀{l l':List (Nat×Nat×Nat)} {p e:Nat},Ch O key a l p e→l'.map (fun t=>(t.1,t.2.1))=l.map (fun t=>(t.1,t.2.1))→Ch O key a l' p e
 |[],l',p,e,h,q=>by
  cases l' with
  |nil=>exact h
  |cons _ _=>simp at q
 |t::l,l',p,e,h,q=>by
  cases l' with
  |nil=>simp at q
  |cons t' l'=>
   simp only[bE,List.cons.injEq,Prod.mk.injEq]at q
   refine⟨q.1.1.trans h.1,by rw[q.1.2];exact h.2.1,by rw[q.1.2];exact h.2.2.1,?_⟩
   rw[q.1.2]
   exact Ch.map h.2.2.2 q.2
theorem Fc(f:Nat×Nat×Nat→Nat×Nat×Nat)(hf:∀t,(f t).1=t.1∧(f t).2.1=t.2.1)(l:List (Nat×Nat×Nat))(k:Nat):(l.modify k f).map (fun t=>(t.1,t.2.1))=l.map (fun t=>(t.1,t.2.1)):=by
 refine List.ext_getElem? fun j=>?_
 rw[mL,mL,List.getElem?_modify]
 cases l[j]? with
 |none=>rfl
 |some t=>
  by_cases e:k=j
  ·simp[e,hf t]
  ·simp[e]
theorem Ch.one{p n w:Nat}(h:So O key a p (p+n))(h1:1≤n):Ch O key a [(p,n,w)] p (p+n):=⟨rfl,h1,h,rfl⟩
end
section
variable {prog:Program} {w:World} {A:Around} {E:Value→Shared→Prop} {s:Shared} {κ:SortKind} {O:KeyOrd} {key:Keyed→O.α} {dom:Keyed→Prop} {a:Array Keyed} {pd:Array (Nat×Nat×Nat)} {g:Nat}
theorem sx(C:Cmp prog w A s κ O key dom){i lo:Nat}{Q:Bool→SortSt→Prop}(da:∀x∈a.toList,dom x)(hi:i+1 < pd.size)(hz:lo≤a.size)(hc:Ch O key a pd.toList 0 lo)
  (h:∀b pd' g',b.toList.Perm a.toList→(∀j,lo≤j→at' b j=at' a j)→Ch O key b pd'.toList 0 lo→pd'.size+1=pd.size→Q true (SortSt.mk' κ b pd' g' none)):wpS (model prog w) A E s (mergeAt' i) Q (SortSt.mk' κ a pd g none):=by
 have el:pd.toList=pd.toList.take i++(pd[i]::pd[i+1]::pd.toList.drop (i+2)):=by
  conv=>lhs;rw[←List.take_append_drop i pd.toList]
  congr 1
  rw[List.drop_eq_getElem_cons (by simp;exact Nat.lt_of_succ_lt ‹_›),List.drop_eq_getElem_cons (by simp;assumption)]
  simp
 have e1:pd[i]? =some pd[i]:=getElem?_pos ..
 have e2:pd[i+1]? =some pd[i+1]:=getElem?_pos ..
 revert el e1 e2
 generalize pd[i]=t1
 generalize pd[i+1]=t2
 intro el e1 e2
 obtain⟨sa,na,w1⟩:=t1
 obtain⟨sb,nb,w2⟩:=t2
 have li:(pd.toList.take i).length=i:=by simp;lia
 revert el li
 generalize pd.toList.take i=pre
 generalize pd.toList.drop (i+2)=post
 intro el li
 rw[el]at hc
 obtain⟨m,c1,c2⟩:=hc.app
 obtain⟨u1,u2,u3,v1,v2,v3,c3⟩:=c2
 simp only at u1 u2 u3 v1 v2 v3 c3
 subst u1
 subst v1
 have le3:=c3.le
 refine AH C (fun i hi=>da _ (mn hi)) e1 e2 u2 v2 (by lia) u3 v3 fun b g' pb ob sb=>h b _ g' pb (fun j hj=>ob j (.inr (by lia))) ?_ ?_
 ·have:((pd.setIfInBounds i (sa,na+nb,w1)).eraseIdxIfInBounds (i+1)).toList=pre++((sa,na+nb,w1)::post):=by
   have hs:i+1 < (pd.setIfInBounds i (sa,na+nb,w1)).size:=by simpa using hi
   rw[Array.eraseIdxIfInBounds,dif_pos hs,Array.toList_eraseIdx,Array.toList_setIfInBounds,el]
   subst li
   simp[List.eraseIdx_append_of_length_le]
  rw[this]
  refine(c1.ext fun j _ hj=>ob j (.inl hj)).join ⟨rfl,by show 1≤na+nb;exact Nat.lt_add_right _ ‹_›,by rw[←Nat.add_assoc];exact sb,?_⟩
  show Ch O key b post (sa+(na+nb)) lo
  rw[←Nat.add_assoc]
  exact c3.ext fun j hj _=>ob j (.inr hj)
 ·have hs:i+1 < (pd.setIfInBounds i (sa,na+nb,w1)).size:=by simpa using hi
  rw[Array.eraseIdxIfInBounds,dif_pos hs,Array.size_eraseIdx]
  simp
  lia
theorem C7{c:Prop}[Decidable c]{x y:Nat}{Q:Bool→SortSt→Prop}{st:SortSt}(h:∀i,i=x∨i=y→wpS (model prog w) A E s (mergeAt' i) Q st):wpS (model prog w) A E s (mergeAt' (if c then x else y)) Q st:=by
 split
 ·exact h _ (.inl rfl)
 ·exact h _ (.inr rfl)
theorem xC(C:Cmp prog w A s κ O key dom){Q:Unit→SortSt→Prop}(da:∀x∈a.toList,dom x)(h:∀b pd' g',b.toList.Perm a.toList→So O key b 0 a.size→Q () (SortSt.mk' κ b pd' g' none)):wpS (model prog w) A E s sortRuns' Q (SortSt.mk' κ a #[] g none):=by
 refine wpS_bind (wpS_get ?_)
 refine wpS_bind (wpS_mono (wpS_forRange (I:=fun x c st'=>∃b lo pd g,st'=SortSt.mk' κ b pd g none∧b.toList.Perm a.toList∧c=(none,lo)∧lo≤a.size∧(x≤lo∨lo=a.size)∧Ch O key b pd.toList 0 lo)
  (Q:=fun c st'=>∃b pd g,st'=SortSt.mk' κ b pd g none∧b.toList.Perm a.toList∧c=(none,a.size)∧Ch O key b pd.toList 0 a.size) ?s1 ?s2 ⟨a,0,#[],g,rfl,List.Perm.refl _,rfl,by exact Nat.zero_le _,by(solve_by_elim (maxDepth:=3) only[*,jn,oV,oW,ma]),rfl⟩) ?s3)
 case s2=>
  rintro c st' ⟨b,lo,pd,g,rfl,p1,rfl,p2,p3,p4⟩
  have:lo=a.size:=by
   rcases p3 with p3 |p3
   ·have p3':max 0 a.size≤lo:=p3
    exact Nat.le_antisymm ‹_› ‹_›
   ·exact p3
  subst this
  exact⟨b,pd,g,rfl,p1,rfl,p4⟩
 case s1=>
  rintro x c st' - x2 ⟨b,lo,pd,g,rfl,p1,rfl,p2,p3,p4⟩
  have bz:b.size=a.size:=by have:=p1.length_eq;simpa using this
  refine Hw fun R hR=>?_
  have Rd:∀b pd g,b.toList.Perm a.toList→Ch O key b pd.toList 0 a.size→R (.done (none,a.size)) (SortSt.mk' κ b pd g none):=fun b pd g q1 q2=>by rw[hR];exact⟨b,pd,g,rfl,q1,rfl,q2⟩
  have Ry:∀b lo pd g,b.toList.Perm a.toList→lo≤a.size→(x+1≤lo∨lo=a.size)→Ch O key b pd.toList 0 lo→R (.yield (none,lo)) (SortSt.mk' κ b pd g none):=fun b lo pd g q1 q2 q3 q4=>by rw[hR];exact⟨b,lo,pd,g,rfl,q1,rfl,q2,q3,q4⟩
  clear hR
  dsimp -zeta only
  extract_lets
  refine jy (fun z=>?_) (fun z=>?_)
  ·have:lo=a.size:=by exact Nat.le_antisymm ‹_› ‹_›
   subst this
   exact wpS_pure (Rd b pd g p1 p4)
  have z':lo < a.size:=by exact Nat.lt_of_not_le ‹_›
  refine wpS_bind (xB C (fun x hx=>da x (p1.mem_iff.mp hx)) (lo:=lo) (nrem:=a.size - lo) (by exact Nat.sub_pos_of_lt ‹_›) (by lia) fun n c n1 n2 sc ss=>?_)
  dsimp -zeta only
  extract_lets
  rename Unit→Nat→_=>jp
  have J:∀(n:Nat) (c:Array Keyed),1≤n→n≤a.size - lo→Sx b c lo (lo+(a.size - lo))→So O key c lo (lo+n)→wpS (model prog w) A E s (jp () n) R (SortSt.mk' κ c pd g none):=by
   intro n c n1 n2 sc ss
   have cp:c.toList.Perm a.toList:=sc.perm.trans p1
   have ch:Ch O key c pd.toList 0 lo:=p4.ext fun j _ hj=>sc.out j (.inl hj)
   refine wpS_bind (wpS_get ?_)
   dsimp -zeta only
   extract_lets
   rename Unit→_=>jq
   have K:∀c pd g,c.toList.Perm a.toList→Ch O key c pd.toList 0 lo→So O key c lo (lo+n)→wpS (model prog w) A E s (jq ()) R (SortSt.mk' κ c pd g none):=by
    intro c pd g cp ch ss
    refine wpS_bind (wpS_modify (wpS_pure (Ry c (lo+n) (pd.push (lo,n,0)) g cp (by lia) (by lia) ?_)))
    rw[Array.toList_push]
    exact ch.join (Ch.one ss n1)
   clear_value jq
   cases eb:pd.back? with
   |none=>exact K c pd g cp ch ss
   |some t=>
    dsimp -zeta only
    refine wpS_bind (wpS_mono (wpS_forRange (I:=fun x r st'=>r=(none,())∧∃c pd g,st'=SortSt.mk' κ c pd g none∧c.toList.Perm a.toList∧Ch O key c pd.toList 0 lo∧So O key c lo (lo+n))
     (Q:=fun r st'=>r=(none,())∧∃c pd g,st'=SortSt.mk' κ c pd g none∧c.toList.Perm a.toList∧Ch O key c pd.toList 0 lo∧So O key c lo (lo+n)) ?t1 (fun _ _ q=>q) ⟨rfl,c,pd,g,rfl,cp,ch,ss⟩) ?t3)
    case t3=>
     rintro r st' ⟨rfl,c,pd,g,rfl,cp,ch,ss⟩
     refine wpS_bind (wpS_modify (K c _ g cp (ch.map ?_) ss))
     rw[Array.toList_modify]
     refine Fc _ ?_ _ _
     exact fun _=>⟨rfl,rfl⟩
    case t1=>
     rintro y r st' - - ⟨rfl,c,pd,g,rfl,cp,ch,ss⟩
     refine wpS_bind (wpS_get ?_)
     dsimp only
     by_cases pz:pd.size > 1
     ·rw[if_pos pz,getElem?_pos pd (pd.size - 2) (by lia)]
      refine jy (fun _=>?_) (fun _=>?_)
      ·exact wpS_pure ⟨rfl,c,pd,g,rfl,cp,ch,ss⟩
      ·have cz:c.size=a.size:=by have:=cp.length_eq;simpa using this
       refine wpS_bind (sx C (fun x hx=>da x (cp.mem_iff.mp hx)) (i:=pd.size - 2) (lo:=lo) (by lia) (by lia) ch fun d pd' g' dp od dc _=>?_)
       exact wpS_pure ⟨rfl,d,pd',g',rfl,dp.trans cp,dc,ss.ext fun j j1 _=>od j j1⟩
     ·rw[if_neg pz]
      exact wpS_pure ⟨rfl,c,pd,g,rfl,cp,ch,ss⟩
  clear_value jp
  refine jy (fun y=>?_) (fun y=>?_)
  ·refine wpS_bind (wpS_lift (wpAny_rule ⟨rfl,?_⟩))
   have cz:=sc.size
   refine wpS_bind (ug C (a:=c) (lo:=lo) (n:=min (a.size - lo) (minRun' a.size a.size 0)) (ok:=n) (fun x hx=>da x (p1.mem_iff.mp (sc.perm.mem_iff.mp hx))) n1 (by have y':n < minRun' a.size a.size 0:=y;lia) (by lia) ss fun d sd ds=>?_)
   refine bj (by simp) ?_
   exact J _ d (by have y':n < minRun' a.size a.size 0:=y;lia) (by lia) (sc.trans ⟨sd.perm,fun j hj=>sd.out j (by lia)⟩) ds
  ·exact J n c n1 n2 sc ss
 case s3=>
  rintro c st' ⟨b,pd,g,rfl,p1,rfl,p2⟩
  refine wpS_bind (wpS_mono (wpS_forRange (I:=fun x r st'=>r=(none,())∧∃c pd g,st'=SortSt.mk' κ c pd g none∧c.toList.Perm a.toList∧Ch O key c pd.toList 0 a.size∧(pd.size+x≤a.size∨pd.size≤1))
   (Q:=fun r st'=>r=(none,())∧∃c pd g,st'=SortSt.mk' κ c pd g none∧c.toList.Perm a.toList∧Ch O key c pd.toList 0 a.size∧pd.size≤1) ?t1 ?t2 ⟨rfl,b,pd,g,rfl,p1,p2,.inl (by have:=p2.le;simp at this;assumption)⟩) ?t3)
  case t2=>
   rintro r st' ⟨rfl,c,pd,g,rfl,cp,ch,hz⟩
   refine⟨rfl,c,pd,g,rfl,cp,ch,?_⟩
   rcases hz with hz |hz
   ·have hz':pd.size+max 0 a.size≤a.size:=hz
    lia
   ·exact hz
  case t1=>
   rintro y r st' - - ⟨rfl,c,pd,g,rfl,cp,ch,hz⟩
   refine wpS_bind (wpS_get ?_)
   refine jy (fun z=>?_) (fun z=>?_)
   ·exact wpS_pure ⟨rfl,c,pd,g,rfl,cp,ch,z⟩
   ·have z':1 < pd.size:=Nat.lt_of_not_le z
    have cz:c.size=a.size:=by have:=cp.length_eq;simpa using this
    extract_lets
    refine wpS_bind (C7 fun i hi=>?_)
    refine sx C (fun x hx=>da x (cp.mem_iff.mp hx)) (i:=i) (lo:=a.size) ?_ (by exact Nat.le_of_eq (Eq.symm ‹_›)) ch fun d pd' g' dp od dc dz=>?_
    ·rcases hi with rfl |rfl
     ·show pd.size - 2 - 1+1 < pd.size
      lia
     ·show pd.size - 2+1 < pd.size
      lia
    ·exact wpS_pure ⟨rfl,d,pd',g',rfl,dp.trans cp,dc,by lia⟩
  case t3=>
   rintro r st' ⟨rfl,c,pd,g,rfl,cp,ch,hz⟩
   refine wpS_pure (h c pd g cp ?_)
   obtain⟨l⟩:=pd
   match l,hz,ch with
   |[],_,ch=>
    have:0=a.size:=ch
    rw[←this]
    exact fun i j _ _ q=>by lia
   |[t],_,ch=>
    obtain⟨_,_,s1,e⟩:=ch
    have e':0+t.2.1=a.size:=e
    rw[e']at s1
    exact s1
   |_::_::_,hz,_=>simp at hz
end
end NhLS
namespace NhSG
set_option autoImplicit false
open PySem PyProof PyProof.Rows PySem.W
abbrev Ky:=Int×List Nat
def iE(a b:Ky):Bool:=decide (a.1 < b.1)||(decide (a.1=b.1)&&decide (a.2 < b.2))
theorem ltKy_iff{a b:Ky}:iE a b=true↔a.1 < b.1∨(a.1=b.1∧a.2 < b.2):=by simp[iE]
theorem uh{a b:Ky}:iE a b=false↔¬(a.1 < b.1∨(a.1=b.1∧a.2 < b.2)):=by rw[←ltKy_iff];simp
def qx(hp:Heap):Value→Option Ky
 |.ref a=>(hp.get? a).bind fun o=>match o.data with
  |.seq xs _=>match xs.toList with
   |[.int n _,.str z _]=>some (n,z.cps.toList)
   |_=>none
  |_=>none
 |_=>none
theorem Fd{hp:Heap}{a:Addr}{o:Obj}{xs:Array Value}{k:Nat}{n:Int}{t u:Tok}{z:Str}(ho:hp.get? a=some o)(hd:o.data=.seq xs k)(hx:xs.toList=[.int n t,.str z u]):qx hp (.ref a)=some (n,z.cps.toList):=by
 simp[qx,ho,hd,hx]
theorem yZ{hp:Heap}{v:Value}{y:Ky}(h:qx hp v=some y):∃a o xs k t z u,v=.ref a∧hp.get? a=some o∧o.data=.seq xs k∧xs.toList=[.int y.1 t,.str z u]∧y.2=z.cps.toList:=by
 unfold qx at h
 split at h
 ·rename_i a
  obtain⟨o,ho,h⟩:=Za.mp h
  split at h
  ·rename_i xs k hd
   split at h
   ·rename_i n t z u hx
    cases h
    exact⟨a,o,xs,k,t,z,u,rfl,ho,hd,hx,rfl⟩
   ·cases h
  ·cases h
 ·cases h
@[reducible] def g6 (hp:Heap):PyProof.Rows.KeyKind where
 α:=Ky
 blt:=iE
 irrefl a:=by
  rw[uh]
  rintro(h |h)
  ·omega
  ·exact List.lt_irrefl _ h.2
 trans a b c h1 h2:=by
  rw[ltKy_iff]at *
  rcases h1 with h1 |h1
  ·rcases h2 with h2 |h2
   ·exact .inl (by omega)
   ·exact .inl (by omega)
  ·rcases h2 with h2 |h2
   ·exact .inl (by omega)
   ·exact .inr ⟨by omega,List.lt_trans h1.2 h2.2⟩
 negTrans a b c h:=by
  rw[ltKy_iff]at *
  rw[ltKy_iff]
  by_cases hab:a.1 < b.1
  ·exact .inl (.inl hab)
  ·by_cases hbc:b.1 < c.1
   ·exact .inr (.inl hbc)
   ·have e:a.1=c.1∧a.2 < c.2:=by
     rcases h with h |h
     ·omega
     ·exact h
    by_cases hab2:a.2 < b.2
    ·exact .inl (.inr ⟨by omega,hab2⟩)
    ·exact .inr (.inr ⟨by omega,List.lt_of_le_of_lt (List.not_lt.mp hab2) e.2⟩)
 total a b h1 h2:=by
  rw[uh]at *
  have e:a.1=b.1:=by
   have n1:¬a.1 < b.1:=fun z=>h1 (.inl z)
   have n2:¬b.1 < a.1:=fun z=>h2 (.inl z)
   omega
  have e2:a.2=b.2:=List.le_antisymm (List.not_lt.mp fun z=>h2 (.inr ⟨e.symm,z⟩)) (List.not_lt.mp fun z=>h1 (.inr ⟨e,z⟩))
  exact Prod.ext e e2
 keyOf:=qx hp
 dflt:=(0,[])
def KE(prog:Program)(w:World)(A:Around)(κ:PyProof.Rows.KeyKind)(kd:SortKind)(s:Shared):Prop:=
 ∀(E:Value→Shared→Prop) (x y:Value) (a b:κ.α) {Q:Bool→Shared→Prop},κ.keyOf x=some a→κ.keyOf y=some b→Q (κ.blt a b) s→wpAny (model prog w) A (keyLt' kd x y) Q E s
theorem Fe{prog:Program}{w:World}{A:Around}{s:Shared}:KE prog w A (g6 s.heap) (tuples' true) s:=fun E x y a b Q ha hb hq=>by
 obtain⟨ax,ox,xs,kx,tx,zx,ux,rfl,hox,hdx,hxx,ea⟩:=yZ ha
 obtain⟨ay,oy,ys,ky,ty,zy,uy,rfl,hoy,hdy,hyy,eb⟩:=yZ hb
 refine kat_lt hox hdx hoy hdy ?_
 have fin:decide (xs.size < ys.size)=false:=by
  have l1:xs.size=2:=by rw[←wJ,hxx];rfl
  have l2:ys.size=2:=by rw[←wJ,hyy];rfl
  rw[l1,l2]
  rfl
 rw[hxx,hyy,fin]
 show KatLex prog w A true false Q [(.int a.1 tx,.int b.1 ty),(.str zx ux,.str zy uy)] 0 s
 refine kat_cons (wpAny_eqBool_int (kat_go (fun e1=>kat_yes (kat_cons (wpAny_eqBool_str (kat_go (fun e2=>kat_yes (kat_nil ?_)) (fun e2=>kat_no ?_))))) (fun e1=>kat_no ?_)))
 ·have e1:a.1=b.1:=by simpa using e1
  have e2:zx=zy:=by simpa using e2
  have:iE a b=false:=by
   rw[uh,ea,eb,e2]
   rintro(z |z)
   ·omega
   ·exact List.lt_irrefl _ z.2
  rw[←this]
  exact hq
 ·have e1:a.1=b.1:=by simpa using e1
  show wpAny (model prog w) A (oneLt' false (.str zx ux) (.str zy uy)) Q _ s
  refine kat_one _ _ (PySem.P.lt_str ?_)
  have:iE a b=decide (zx.cps.toList < zy.cps.toList):=by
   unfold iE
   rw[←ea,←eb]
   simp[e1]
  have hq':Q (iE a b) s:=hq
  rw[this]at hq'
  exact hq'
 ·have e1:¬a.1=b.1:=by simpa using e1
  show wpAny (model prog w) A (oneLt' true (.int a.1 tx) (.int b.1 ty)) Q _ s
  refine oneLt_int ?_
  have:iE a b=decide (a.1 < b.1):=by
   unfold iE
   simp[e1]
  have hq':Q (iE a b) s:=hq
  rw[this]at hq'
  exact hq'
end NhSG
namespace NhSG
set_option autoImplicit false
open PySem PyProof PyProof.Rows PySem.W
def Keep(h h':Heap):Prop:=∀b o,h.get? b=some o→h'.get? b=some o
theorem Keep.refl(h:Heap):Keep h h:=fun _ _ e=>e
theorem Keep.trans{h h1 h2:Heap}(a:Keep h h1)(b:Keep h1 h2):Keep h h2:=fun c o e=>b c o (a c o e)
def IsKy(hp:Heap)(v:Value)(y:Ky):Prop:=∃c o xs k t z u,v=.ref c∧hp.get? c=some o∧o.cls=.type "tuple"∧o.data=.seq xs k∧xs.toList=[.int y.1 t,.str z u]∧y.2=z.cps.toList
theorem IsKy.keep{h h':Heap}{v:Value}{y:Ky}(a:IsKy h v y)(k:Keep h h'):IsKy h' v y:=by
 obtain⟨c,o,xs,n,t,z,u,e,ho,r⟩:=a
 exact⟨c,o,xs,n,t,z,u,e,k c o ho,r⟩
theorem IsKy.key{h:Heap}{v:Value}{y:Ky}(a:IsKy h v y):qx h v=some y:=by
 obtain⟨c,o,xs,n,t,z,u,rfl,ho,hc,hd,hx,e⟩:=a
 rw[Fd ho hd hx,←e]
def KA(hp:Heap):List Value→List Ky→Prop
 |[],[]=>True
 |v::vs,y::ys=>IsKy hp v y∧KA hp vs ys
 |_,_=>False
theorem KA.keep{h h':Heap}(k:Keep h h'):∀{vs:List Value} {ys:List Ky},KA h vs ys→KA h' vs ys
 |[],[],_=>trivial
 |v::vs,y::ys,a=>⟨a.1.keep k,KA.keep k a.2⟩
 |[],_::_,a=>a.elim
 |_::_,[],a=>a.elim
theorem KA.len{h:Heap}:∀{vs:List Value} {ys:List Ky},KA h vs ys→vs.length=ys.length
 |[],[],_=>rfl
 |v::vs,y::ys,a=>by simp[KA.len a.2]
 |[],_::_,a=>a.elim
 |_::_,[],a=>a.elim
theorem KA.snoc{h:Heap}{v:Value}{y:Ky}(b:IsKy h v y):∀{vs:List Value} {ys:List Ky},KA h vs ys→KA h (vs++[v]) (ys++[y])
 |[],[],_=>⟨b,trivial⟩
 |_::_,_::_,a=>⟨a.1,KA.snoc b a.2⟩
 |[],_::_,a=>a.elim
 |_::_,[],a=>a.elim
theorem KA.tups{h:Heap}:∀{vs:List Value} {ys:List Ky},KA h vs ys→∃fs,KatTups h vs fs∧(∀f∈fs,∃n t,f=.int n t)∧fs.length=vs.length
 |[],[],_=>⟨[],trivial,(fun _ z=>by cases z),rfl⟩
 |v::vs,y::ys,a=>by
  obtain⟨fs,t,hf,hl⟩:=KA.tups a.2
  obtain⟨c,o,xs,n,tk,z,u,rfl,ho,hc,hd,hx,e⟩:=a.1
  refine⟨.int y.1 tk::fs,KatTups.cons ho hc hd ?_ t,fun f hm=>?_,by simp[hl]⟩
  ·rw[←Array.getElem?_toList,hx]
   rfl
  ·rcases Zal.mp hm with rfl |hm
   ·exact⟨_,_,rfl⟩
   ·exact hf f hm
 |[],_::_,a=>a.elim
 |_::_,[],a=>a.elim
theorem KA.at{h:Heap}:∀{ks:List Value} {ys:List Ky} {i:Nat},KA h ks ys→i < ks.length→qx h (ks.getD i Value.none)=some (ys.getD i (0,[]))
 |k::ks,y::ys,0,a,_=>a.1.key
 |k::ks,y::ys,i+1,a,hi=>by
  have:=KA.at (i:=i) a.2 (by simpa using hi)
  simpa using this
 |[],_,_,_,hi=>by simp at hi
 |_::_,[],_,a,_=>a.elim
def AI(ys:List Ky)(vs out:List Value):Prop:=∃ps:List (Ky×Value),ps.Perm (ys.zip vs)∧ps.Pairwise (fun p q=>iE q.1 p.1=false)∧out=ps.map (·.2)
@[reducible] def vQ (h:Heap) (p:Keyed):Ky:=(qx h p.1).getD (0,[])
theorem Kh{prog:Program}{w:World}{A:Around}{s:Shared}:NhLS.Cmp prog w A s (tuples' true) (g6 s.heap).toKeyOrd (vQ s.heap) (fun p=>∃y,qx s.heap p.1=some y):=
 ⟨fun E x y Q ⟨a,ha⟩ ⟨b,hb⟩ hq=>by
  have hq':Q (iE (vQ s.heap x) (vQ s.heap y)) s:=hq
  unfold vQ at hq'
  rw[ha,hb]at hq'
  exact Fe E x.1 y.1 a b ha hb hq'⟩
theorem KA.zip{h:Heap}:∀{ks:List Value} {ys:List Ky} {vs:List Value},KA h ks ys→(ks.zip vs).map (fun p=>(vQ h p,p.2))=ys.zip vs
 |[],[],_,_=>by simp
 |k::ks,y::ys,[],_=>by simp
 |k::ks,y::ys,v::vs,a=>by
  simp only[List.zip_cons_cons,bE]
  rw[KA.zip a.2]
  congr 1
  show((qx h k).getD (0,[]),v)=(y,v)
  rw[a.1.key]
  rfl
 |[],_::_,_,a=>a.elim
 |_::_,[],_,a=>a.elim
theorem KA.dom{h:Heap}{vs:List Value}:∀{ks:List Value} {ys:List Ky},KA h ks ys→∀p∈ks.zip vs,∃y,qx h p.1=some y:=fun {ks ys} a p hp=>by
 have hk:p.1∈ks:=(List.of_mem_zip hp).1
 clear hp
 induction ks generalizing ys with
 |nil=>cases hk
 |cons k ks ih=>cases ys with
  |nil=>exact a.elim
  |cons y ys=>
   rcases Zal.mp hk with e |hk
   ·rw[e];exact⟨y,a.1.key⟩
   ·exact ih a.2 hk
theorem Hz{h:Heap}{ks:List Value}{ys:List Ky}{vs:List Value}{b:Array Keyed}(hK:KA h ks ys)(hp:b.toList.Perm (ks.zip vs))(hs:NhLS.So (g6 h).toKeyOrd (vQ h) b 0 b.size):AI ys vs (b.map (·.2)).toList:=by
 refine⟨b.toList.map (fun p=>(vQ h p,p.2)),?_,?_,?_⟩
 ·rw[←hK.zip (vs:=vs)]
  exact hp.map _
 ·rw[List.pairwise_map,List.pairwise_iff_getElem]
  intro i j hi hj hij
  rw[NhLS.jI,NhLS.jI]
  exact hs i j (Nat.zero_le _) hij (by simpa using hj)
 ·rw[Array.toList_map,List.map_map]
  rfl
section
variable {prog:Program} {w:World} {A:Around} {E:Value→Shared→Prop} {s:Shared} {a kS:Addr} {ks vs:List Value} {ys:List Ky} {e e1:Nat} {P:PySem.Fin→Shared→Prop}
theorem y9 {st:SortSt} (hk:s.heap.get? kS=some (seqObj "list" ks.toArray e)) (ha:s.heap.get? a=some (seqObj "list" #[] e1)) (hka:kS≠a) (h64:vs.length < 65536) (hl:ks.length=vs.length) (hn:(arrOf st).size=vs.length) (hfl:failedOf st=none)
  (h:∀h' tk c,h'.get? a=some (seqObj "list" ((arrOf st).map (·.2)) c)→(∀b o,b≠a→b≠kS→s.heap.get? b=some o→h'.get? b=some o)→P (.done (.ret .none)) {s with heap:=h',toks:=tk}):
  wpAny (model prog w) A (ksk_tail a false e1 (.ref kS) st) P E s:=by
 have s1:=Heap.SameBut.update s.heap kS (Obj.mapSeq fun _=>(#[]:Array Value))
 have na1:(s.heap.update kS (Obj.mapSeq fun _=>(#[]:Array Value))).get? a=some (seqObj "list" #[] e1):=(s1.2 a hka.symm).trans ha
 have s2:=Heap.SameBut.update (s.heap.update kS (Obj.mapSeq fun _=>(#[]:Array Value))) a (Obj.mapSeq fun _=>(arrOf st).map (·.2))
 obtain⟨c2,hc2⟩:∃c2,((s.heap.update kS (Obj.mapSeq fun _=>(#[]:Array Value))).update a (Obj.mapSeq fun _=>(arrOf st).map (·.2))).get? a=some (seqObj "list" ((arrOf st).map (·.2)) c2):=⟨_,get?_update_seq na1 fun _=>(arrOf st).map (·.2)⟩
 unfold ksk_tail
 try dsimp only
 refine wpAny_bind (listUpdate_at hk rfl ?_ (by rw[lS,sizeLine_eq];omega) (Nat.zero_le _))
 refine wpAny_bind (wpAny_letGo ?_)
 refine wpAny_bind (seqEpoch_at na1 rfl ?_)
 simp only[aU]
 refine wpAny_bind (listUpdate_at na1 rfl ?_ (Nat.zero_le _) (by rw[Array.size_map,hn,sizeLine_eq];omega))
 rw[hfl]
 simp only[bne_self_eq_false,aU]
 exact wpAny_pure (h _ _ c2 hc2 fun b o h1 h2 q=>(s2.2 b h1).trans ((s1.2 b h2).trans q))
theorem HB (hK:KA s.heap ks ys) (hk:s.heap.get? kS=some (seqObj "list" ks.toArray e)) (ha:s.heap.get? a=some (seqObj "list" #[] e1)) (hka:kS≠a) (h64:vs.length < 65536) (hl:ks.length=vs.length)
  (h:∀h' tk out c,h'.get? a=some (seqObj "list" out c)→AI ys vs out.toList→(∀b o,b≠a→b≠kS→s.heap.get? b=some o→h'.get? b=some o)→P (.done (.ret .none)) {s with heap:=h',toks:=tk}):
  wpAny (model prog w) A (ksk_end a false vs.toArray e1 (.ref kS) ks.toArray) P E s:=by
 have hzs:(ks.toArray.zip vs.toArray).size=vs.length:=by rw[Array.size_zip,lS,lS,hl,Nat.min_self]
 unfold ksk_end
 try dsimp only
 simp only[aU]
 by_cases h2:vs.toArray.size < 2
 ·rw[if_pos h2,if_pos h2]
  refine wpAny_bind (wpAny_pure ?_)
  rw[StateT.run_pure]
  refine wpAny_bind (wpAny_pure ?_)
  try dsimp only
  refine y9 (st:=SortSt.mk' general' (ks.toArray.zip vs.toArray) #[] 7 none) hk ha hka h64 hl hzs rfl fun h' tk c h1 h3=>h h' tk _ c h1 ⟨ys.zip vs,List.Perm.refl _,?_,?_⟩ h3
  ·rw[lS]at h2
   rw[List.pairwise_iff_getElem]
   intro i j hi hj hij
   simp at hj
   omega
  ·have e1:(ys.zip vs).map (·.2)=vs:=by rw[List.map_snd_zip];have:=hK.len;omega
   have e2:((arrOf (SortSt.mk' general' (ks.toArray.zip vs.toArray) #[] 7 none)).map (·.2)).toList=(ks.zip vs).map (·.2):=by
    show((ks.toArray.zip vs.toArray).map (·.2)).toList=_
    simp
   rw[e1,e2,List.map_snd_zip]
   omega
 ·rw[if_neg h2,if_neg h2]
  rw[lS]at h2
  obtain⟨fs,tt,hf,lf⟩:=hK.tups
  refine wpAny_bind (kat_kind (T:=.type "int") tt (by omega) (fun v hv=>?_) (by decide) ?_)
  ·obtain⟨n,t,rfl⟩:=hf v hv
   exact .now
  ·have run:=NhLS.xC (E:=E) (a:=ks.toArray.zip vs.toArray) (g:=7) (Kh (prog:=prog) (w:=w) (A:=A) (s:=s)) (Q:=fun _ st'=>∃b pd g,st'=SortSt.mk' (tuples' true) b pd g none∧b.toList.Perm (ks.zip vs)∧NhLS.So (g6 s.heap).toKeyOrd (vQ s.heap) b 0 b.size)
    (by simpa using hK.dom) fun b pd g hp hs=>⟨b,pd,g,rfl,by simpa using hp,by have:=hp.length_eq;simp only[wJ]at this;rw[this];exact hs⟩
   refine wpAny_bind (wpAny_mono run ?_ fun _ _ e=>e)
   rintro⟨⟨⟩,st'⟩ s' ⟨es,b,pd,g,e,hp,hs⟩
   subst es
   dsimp only at e
   subst e
   try dsimp only
   have hz:b.size=vs.length:=by have:=hp.length_eq;simpa[hl]using this
   exact y9 (st:=SortSt.mk' (tuples' true) b pd g none) hk ha hka h64 hl hz rfl fun h' tk c h1 h3=>h h' tk _ c h1 (Hz hK hp hs) h3
def m7(prog:Program)(w:World)(A:Around)(f:Value)(s:Shared)(v:Value)(y:Ky):Prop:=∀(h:Heap) (tk:Nat),Keep s.heap h→
 wpAny (model prog w) A (call f [v]) (fun r s'=>∃h' tk',s'={s with heap:=h',toks:=tk'}∧Keep h h'∧IsKy h' r y) (fun _ _=>False) {s with heap:=h,toks:=tk}
theorem Ff {f:Value} {s0:Shared} (hs0:Keep s0.heap s.heap) (hss:∃tk,s={s0 with heap:=s.heap,toks:=tk}) (h0a:s0.heap.get? a=none) (h0k:s0.heap.get? kS=none) (hk:s.heap.get? kS=some (seqObj "list" #[] 0)) (ha:s.heap.get? a=some (seqObj "list" #[] e1)) (hka:kS≠a) (h64:vs.length < 65536) (hl:ys.length=vs.length)
  (turn:∀(i:Nat) (v:Value) (y:Ky),vs[i]? =some v→ys[i]? =some y→m7 prog w A f s0 v y)
  (h:∀h' tk out c,h'.get? a=some (seqObj "list" out c)→AI ys vs out.toList→Keep s0.heap h'→P (.done (.ret .none)) {s0 with heap:=h',toks:=tk}):
  wpAny (model prog w) A (ksk_rest a f false vs.toArray e1 (.ref kS)) P E s:=by
 unfold ksk_rest
 refine wpAny_bind (wpAny_rule ?_)
 first
  |rw[List.forIn_toArray]
  |(rw[←Array.forIn_toList];simp only[List.toList_toArray])
  |rw[←Array.forIn_toList]
 obtain⟨tk0,es⟩:=hss
 refine wpAny_bind (ksk_fold (fun i s'=>∃h' tk kL e,s'={s0 with heap:=h',toks:=tk}∧Keep s0.heap h'∧h'.get? kS=some (seqObj "list" kL.toArray e)∧h'.get? a=some (seqObj "list" #[] e1)∧KA h' kL (ys.take i)) vs 0 s
  ⟨s.heap,tk0,[],0,es,hs0,hk,ha,by simp[KA]⟩ ?step ?done)
 case step=>
  rintro j x s' hx ⟨h',tk,kL,e,rfl,F',N1,N2,hK⟩
  simp only[Nat.zero_add]at hK ⊢
  have hj:j < vs.length:=(Zbh.mp hx).1
  obtain⟨y,hyj⟩:∃y,ys[j]? =some y:=⟨_,uH (by omega)⟩
  have hz:kL.length≤vs.length:=by
   have h1:=hK.len
   rw[List.length_take]at h1
   omega
  refine wpAny_bind (wpAny_attempt (wpAny_mono (turn j x y hx hyj h' tk F') (fun v s'' he=>?_) fun _ _ hF=>hF.elim))
  obtain⟨g,tk2,rfl,kg,hy⟩:=he
  try dsimp only
  have nk:=kg _ _ N1
  have na:=kg _ _ N2
  have s1:=Heap.SameBut.update g kS (Obj.mapSeq (·.push v))
  obtain⟨c2,hc2⟩:∃c2,(g.update kS (Obj.mapSeq (·.push v))).get? kS=some (seqObj "list" (kL.toArray.push v) c2):=⟨_,get?_update_seq nk (·.push v)⟩
  have ek:ys.take (j+1)=ys.take j++[y]:=by rw[List.take_add_one,hyj];simp
  have ea:kL.toArray.push v=(kL++[v]).toArray:=by simp
  have ng:∀{ks':List Value} {ys':List Ky},KA g ks' ys'→KA (g.update kS (Obj.mapSeq (·.push v))) ks' ys':=fun {ks'} {ys'} q=>by
   induction ks' generalizing ys' with
   |nil=>cases ys' with
    |nil=>trivial
    |cons _ _=>exact q.elim
   |cons k ks' ih=>cases ys' with
    |nil=>exact q.elim
    |cons y' ys'=>
     refine⟨?_,ih q.2⟩
     obtain⟨c,o,xs,n,t,z,u,ec,ho,hcl,r⟩:=q.1
     refine⟨c,o,xs,n,t,z,u,ec,(s1.2 c ?_).trans ho,hcl,r⟩
     intro e3
     subst e3
     rw[nk]at ho
     cases ho
     have e4:Value.type "list"=Value.type "tuple":=hcl
     injection e4 with e5
     exact absurd e5 (by decide)
  refine wpAny_bind (listUpdate_at nk rfl ?_ (by rw[lS,sizeLine_eq];omega) (jn (Nat.le_of_eq (Array.size_push ..)) (by rw[lS,sizeLine_eq];omega)))
  refine wpAny_pure ⟨rfl,_,_,kL++[v],c2,rfl,fun b o q=>?_,by rw[←ea];exact hc2,(s1.2 a hka.symm).trans na,by rw[ek];exact ng (KA.snoc hy (hK.keep kg))⟩
  refine(s1.2 b fun e3=>?_).trans (kg _ _ (F' _ _ q))
  subst e3
  rw[h0k]at q
  cases q
 case done=>
  rintro s' ⟨h',tk,kL,e,rfl,F',N1,N2,hK⟩
  have e3:ys.take (0+vs.length)=ys:=List.take_of_length_le (by omega)
  rw[e3]at hK
  try dsimp only
  refine wpAny_bind (listItems_at N1 rfl ?_)
  refine HB (s:={s0 with heap:=h',toks:=tk}) hK N1 N2 hka h64 (by rw[hK.len,hl]) fun h3 tk3 out c g1 g2 g3=>h h3 tk3 out c g1 g2 fun b o q=>g3 b o ?_ ?_ (F' b o q)
  ·intro z;subst z;rw[h0a]at q;cases q
  ·intro z;subst z;rw[h0k]at q;cases q
theorem Fh {f:Value} {n:Nat} {s0:Shared} (hs0:Keep s0.heap s.heap) (hss:∃tk,s={s0 with heap:=s.heap,toks:=tk}) (h0a:s0.heap.get? a=none) (hle:s0.heap.objs.size≤s.heap.objs.size) (ho:s.heap.get? a=some (seqObj "list" vs.toArray n)) (h64:vs.length < 65536) (hl:ys.length=vs.length)
  (turn:∀(i:Nat) (v:Value) (y:Ky),vs[i]? =some v→ys[i]? =some y→m7 prog w A f s0 v y)
  (h:∀h' tk out c,h'.get? a=some (seqObj "list" out c)→AI ys vs out.toList→Keep s0.heap h'→P (.done (.ret .none)) {s0 with heap:=h',toks:=tk}):
  wpAny (model prog w) A (ksk_tree a f false) P E s:=by
 have ha:a < s.heap.objs.size:=jf ho
 have s1:=Heap.SameBut.update s.heap a (Obj.mapSeq fun _=>(#[]:Array Value))
 obtain⟨e1,ho1⟩:∃e1,(s.heap.update a (Obj.mapSeq fun _=>(#[]:Array Value))).get? a=some (seqObj "list" #[] e1):=⟨_,get?_update_seq ho fun _=>#[]⟩
 have hkS:((s.heap.update a (Obj.mapSeq fun _=>(#[]:Array Value))).push (seqObj "tuple" vs.toArray 0)).objs.size=s.heap.objs.size+1:=by rw[size_push',Heap.size_update]
 obtain⟨tk0,es⟩:=hss
 unfold ksk_tree
 refine wpAny_bind (listItems_at ho rfl ?_)
 refine wpAny_bind (listUpdate_at ho rfl ?_ (by rw[lS,sizeLine_eq];omega) (Nat.zero_le _))
 refine wpAny_bind (seqEpoch_at ho1 rfl ?_)
 refine wpAny_bind (wpAny_newTuple ?_ (by show vs.length≤_;rw[sizeLine_eq];omega))
 refine wpAny_bind (wpAny_newList ?_ (Nat.zero_le _))
 refine wpAny_holding ?_
 refine Ff (s:={s with heap:=((s.heap.update a (Obj.mapSeq fun _=>(#[]:Array Value))).push (seqObj "tuple" vs.toArray 0)).push (seqObj "list" #[] 0)}) (kS:=((s.heap.update a (Obj.mapSeq fun _=>(#[]:Array Value))).push (seqObj "tuple" vs.toArray 0)).objs.size) (s0:=s0)
  (fun b o q=>?_) ⟨tk0,by rw[es]⟩ h0a (Heap.get?_none_of_le (by rw[hkS];omega)) (l_ _ rfl) (iB _ (iB _ ho1)) (by rw[hkS];exact Nat.ne_of_gt (wK ha)) h64 hl turn h
 refine iB _ (iB _ ((s1.2 b fun z=>?_).trans (hs0 b o q)))
 subst z
 rw[h0a]at q
 cases q
end
end NhSG
namespace NhSG
set_option autoImplicit false
open PySem PyProof PyProof.Rows PySem.W
section
variable {prog:Program} {w:World} {A:Around} {E:Value→Shared→Prop} {s:Shared} {l q:Addr} {vs:List Value} {ys:List Ky} {Q:Value→Shared→Prop}
theorem xD(hl:s.heap.IsList l vs.toArray)(hlen:ys.length=vs.length)(h64:vs.length < 65536)
  (turn:∀(i:Nat) (v:Value) (y:Ky),vs[i]? =some v→ys[i]? =some y→m7 prog w A.in1.in1 (.ref q) s v y)
  (h:∀D h' tk out c,h'.get? D=some (seqObj "list" out c)→s.heap.objs.size≤D→AI ys vs out.toList→Keep s.heap h'→Q (.ref D) {s with heap:=h',toks:=tk}):
  wpAny (model prog w) A (call (.builtin "sorted") [.ref l] [(Str.ofString "key",.ref q)]) Q E s:=by
 refine call_function_entry_kw kind_sorted plain_sorted entry_sorted (ksk_s1 _ _) ?_
 unfold Builtin.«sorted»
 refine wpAny_bind (m:=checkCount "sorted" 1 1 _) (wpAny_pure ?_)
 refine wpAny_bind (collect_list hl ?_ (by rw[sizeLine_eq];omega))
 refine wpAny_bind (wpAny_newList ?_ (by rw[sizeLine_eq];omega))
 have hsz:((s.heap.push (seqObj "list" #[] 0)).update s.heap.objs.size (Obj.mapSeq (· ++vs.toArray))).objs.size=s.heap.objs.size+1:=by
  rw[Heap.size_update,size_push']
 have hoL:(((s.heap.push (seqObj "list" #[] 0)).update s.heap.objs.size (Obj.mapSeq (· ++vs.toArray))).push (seqObj "list" vs.toArray 0)).get? (s.heap.objs.size+1)=some (seqObj "list" vs.toArray 0):=by
  rw[←hsz];exact l_ _ rfl
 have keep:Keep s.heap (((s.heap.push (seqObj "list" #[] 0)).update s.heap.objs.size (Obj.mapSeq (· ++vs.toArray))).push (seqObj "list" vs.toArray 0)):=fun b o q=>by
  have hlt:b < s.heap.objs.size:=jf q
  rw[Heap.get?_push_ne _ _ _ (by rw[hsz];exact jT (wK hlt)),Heap.get?_update_ne _ _ _ _ (jT hlt),Heap.get?_push_ne _ _ _ (jT hlt)]
  exact q
 show wpAny _ _ _ _ _ {s with heap:=((s.heap.push (seqObj "list" #[] 0)).update s.heap.objs.size (Obj.mapSeq (· ++vs.toArray))).push (seqObj "list" vs.toArray 0)}
 rw[hsz]
 have h0:s.heap.get? (s.heap.objs.size+1)=none:=Heap.get?_none_of_le (Nat.le_succ _)
 refine wpAny_bind (wpAny_holding (wpAny_call_entry_kw slot_list_sort ⟨_,hoL,rfl⟩ entry_list_sort ?body (ksk_l1 _ _)))
 case body=>
  show wpAny (model prog w) A.in1.in1 (Builtin.«list.sort» ⟨[.ref (s.heap.objs.size+1)],[(Str.ofString "key",.ref q)]⟩) _ _ _
  rw[ksk_t1]
  refine Fh (s:={s with heap:=((s.heap.push (seqObj "list" #[] 0)).update s.heap.objs.size (Obj.mapSeq (· ++vs.toArray))).push (seqObj "list" vs.toArray 0)}) (s0:=s) keep ⟨s.toks,rfl⟩ h0 (by rw[size_push',hsz];omega) hoL h64 hlen turn fun h' tk out c g1 g2 g3=>⟨_,rfl,?_⟩
  exact wpAny_pure ⟨_,rfl,h _ h' tk out c g1 (Nat.le_succ _) g2 g3⟩
end
end NhSG
namespace NhSG
set_option autoImplicit false
open PySem
def ka(z:Str):Ky:=(z.length,z.cps.toList)
def uJ(a b:Str):Bool:= !iE (ka b) (ka a)
def lX(ws:List Str):List Str:=ws.mergeSort uJ
def wM:Value→Option Str
 |.str z _=>some z
 |_=>none
theorem C8{a b:Str}(h:ka a=ka b):a=b:=by
 have e:a.cps.toList=b.cps.toList:=congrArg Prod.snd h
 cases a;cases b
 congr
 exact Array.toList_inj.mp e
theorem AJ(a b c:Str)(h1:uJ a b=true)(h2:uJ b c=true):uJ a c=true:=by
 unfold uJ at *
 simp only[Bool.not_eq_true']at *
 exact(PyProof.Rows.KeyOrd.kle_trans (O:=(g6 default).toKeyOrd) h1 h2)
theorem AK(a b:Str):(uJ a b||uJ b a)=true:=by
 unfold uJ
 by_cases h:iE (ka b) (ka a)=true
 ·have:iE (ka a) (ka b)=false:=PyProof.Rows.KeyOrd.klt_asymm (O:=(g6 default).toKeyOrd) h
  simp[this]
 ·simp[Bool.not_eq_true _▸h]
theorem C9{a b:Str}(h1:uJ a b=true)(h2:uJ b a=true):a=b:=by
 unfold uJ at *
 simp only[Bool.not_eq_true']at *
 exact C8 ((g6 default).total _ _ h2 h1)
theorem sy{qs ws:List Str}(hp:qs.Perm ws)(hs:qs.Pairwise fun a b=>uJ a b=true):qs=lX ws:=by
 have h1:(lX ws).Pairwise fun a b=>uJ a b=true:=List.pairwise_mergeSort AJ AK ws
 have h2:qs.Perm (lX ws):=hp.trans (List.mergeSort_perm ws uJ).symm
 exact h2.eq_of_pairwise (fun a b _ _ x y=>C9 x y) hs h1
theorem AL{ws:List Str}{vs out:List Value}(hv:vs.map wM=ws.map some)(h:AI (ws.map ka) vs out):out.map wM=(lX ws).map some:=by
 obtain⟨ps,hp,hs,rfl⟩:=h
 have key:∀(ws:List Str) (vs:List Value),vs.map wM=ws.map some→∀p∈(ws.map ka).zip vs,∃z,p.1=ka z∧wM p.2=some z:=fun ws=>by
  induction ws with
  |nil=>intro vs _ p hp;simp at hp
  |cons w ws ih=>
   intro vs hv p hp
   cases vs with
   |nil=>simp at hp
   |cons v vs=>
    simp only[bE,List.cons.injEq]at hv
    rw[bE,List.zip_cons_cons]at hp
    rcases Zal.mp hp with rfl |hp
    ·exact⟨w,rfl,hv.1⟩
    ·exact ih vs hv.2 p hp
 have zm:∀(ws:List Str) (vs:List Value),vs.map wM=ws.map some→((ws.map ka).zip vs).map (fun p=>wM p.2)=ws.map some:=fun ws=>by
  induction ws with
  |nil=>intro vs _;simp
  |cons w ws ih=>
   intro vs hv
   cases vs with
   |nil=>simp at hv
   |cons v vs=>
    simp only[bE,List.cons.injEq]at hv
    simp only[bE,List.zip_cons_cons,hv.1,ih vs hv.2]
 have ex:∀ps:List (Ky×Value),(∀p∈ps,∃z,p.1=ka z∧wM p.2=some z)→∃qs:List Str,ps.map (·.1)=qs.map ka∧ps.map (fun p=>wM p.2)=qs.map some:=fun ps=>by
  induction ps with
  |nil=>intro _;exact⟨[],rfl,rfl⟩
  |cons p ps ih=>
   intro h
   obtain⟨z,h1,h2⟩:=h p (gJ ..)
   obtain⟨qs,e1,e2⟩:=ih fun q hq=>h q (gq _ hq)
   exact⟨z::qs,by simp[h1,e1],by simp[h2,e2]⟩
 obtain⟨qs,e1,e2⟩:=ex ps fun p hp'=>key ws vs hv p (hp.mem_iff.mp hp')
 have perm:qs.Perm ws:=by
  have h1:=hp.map (fun p=>wM p.2)
  rw[e2,zm ws vs hv]at h1
  have h2:=h1.filterMap id
  simpa using h2
 have srt:qs.Pairwise fun a b=>uJ a b=true:=by
  have h1:(ps.map (·.1)).Pairwise fun a b=>iE b a=false:=List.pairwise_map.mpr hs
  rw[e1,List.pairwise_map]at h1
  exact h1.imp fun h=>by unfold uJ;simp[h]
 rw[List.map_map]
 show ps.map (fun p=>wM p.2)=_
 rw[e2,sy perm srt]
end NhSG
namespace NhSG
open PySem PySem.Spec PySem.Calls PyProof PyProof.Rows PySem.W
section
variable {prog:Program} {w:World} {A:Around} {E:Value→Shared→Prop} {s:Shared} {Q:Value→Shared→Prop}
theorem C_ {env:Env} {x z:Str} {t:Tok} {m mg mb:Str→Option Value} {p1 p2 p3 p4 pos:Pos} {x1} (hk:env.scope.kind=.function) (hx:env.kindOf x=some .local) (hl:env.kindOf "len"=some .globalImplicit)
  (hn:s.heap.Ns env.locals m) (hm:m x=some (.str z t)) (hg:s.heap.Ns env.globals mg) (hlg:mg "len"=none) (hb:s.heap.Ns env.builtins mb) (hlb:mb "len"=some (.builtin "len")) (hz:z.length≤sizeLine)
  (h:∀h' tk r,Keep s.heap h'→IsKy h' r (ka z)→Q r {s with heap:=h',toks:=tk})
  (hd:(x == ("__debug__":Str))=false:=by decide) (h1:starEach [Expr.Call (.Name "len" p1) [.Name x p2] [] p3,.Name x p4] env=(false,eval (.Call (.Name "len" p1) [.Name x p2] [] p3) env)::starEach [Expr.Name x p4] env:=by rfl)
  (h2:starEach [Expr.Name x p4] env=[(false,eval (.Name x p4) env)]:=by rfl) (h3:starEach [Expr.Name x p2] env=(false,eval (.Name x p2) env)::starEach [] env:=by rfl):
  wpAny (model prog w) A (eval (.Tuple [.Call (.Name "len" p1) [.Name x p2] [] p3,.Name x p4] x1 pos) env) Q E s:=by
 refine wpAny_Tuple_spliced ?_
 rw[h1,h2]
 show wpAny _ _ (spliced ((false,eval (.Call (.Name "len" p1) [.Name x p2] [] p3) env)::backTo pos [(false,eval (.Name x p4) env)])) _ _ s
 refine Calls.spliced_cons ?_
 refine wpAny_Call_Name_kw (Calls.Name_function_global hk hl (Calls.loadGlobal_builtin hg hlg hb hlb ?_) (by decide))
 refine PyProof.Rows.callWith_builtin1 ?_ h3 rfl
 rw[h3]
 show wpAny _ _ (spliced ((false,eval (.Name x p2) env)::backTo p3 (starEach [] env))) _ _ s
 refine Calls.spliced_cons (wpAny_Name (wpAny_loadName_local hk hx hn hm ?_) hd)
 show wpAny _ _ (spliced []) _ _ s
 refine Calls.spliced_nil ?_
 refine len_str (by have:=hz;rw[sizeLine_eq]at this;omega) ?_
 show wpAny _ _ (spliced [(false,standAt pos >>= fun _=>eval (.Name x p4) env)]) _ _ _
 refine Calls.spliced_cons (wpAny_bind (wpAny_standAt (wpAny_Name (wpAny_loadName_local hk hx hn hm ?_) hd)))
 refine Calls.spliced_nil ⟨by rw[sizeLine_eq];simp,?_⟩
 exact h _ _ _ (fun b o e=>iB _ e) ⟨_,_,_,_,_,z,t,rfl,l_ _ rfl,rfl,rfl,rfl,rfl⟩
structure KMod (h:Heap):Prop where
 g:∃mg,h.Ns mainGlobals mg∧mg "len"=none
 b:∃mb,h.Ns builtinsNs mb∧mb "len"=some (.builtin "len")
 lim:h.NoLimit
theorem KMod.keeps{h h':Heap}(a:KMod h)(k:Keep h h'):KMod h':=
 ⟨let ⟨mg,e,r⟩:=a.g;⟨mg,e.keeps k,r⟩,let ⟨mb,e,r⟩:=a.b;⟨mb,e.keeps k,r⟩,a.lim.keeps k⟩
theorem vR{f c':Addr}{name qual x z:Str}{t:Tok}{params:Arguments}{scope:Scope}{pm ctv:Value}{p1 p2 p3 p4 pos:Pos}{x1}(M:KMod s.heap)(hroom:A.depth < recursionLimit)
  (ho:s.heap.get? f=some (kla_obj name qual params (.Tuple [.Call (.Name "len" p1) [.Name x p2] [] p3,.Name x p4] x1 pos) scope [] pm c' ctv)) (hcd:s.heap.CodeRec (.ref c') qual) (hz:z.length≤sizeLine)
  (hbind:bindArgs (kla_fn name qual params (.Tuple [.Call (.Name "len" p1) [.Name x p2] [] p3,.Name x p4] x1 pos) scope [] pm (.ref c') ctv) ⟨[.str z t],[]⟩=pure [(x,.str z t)])
  (hx:scope.names.lookup x=some .local) (hlen:scope.names.lookup (Str.ofString "len")=some .globalImplicit) (hco:scope.isCoroutine=false) (hgen:scope.isGenerator=false) (hk:scope.kind=.function) (hcell:∀x∈scope.names,x.2≠ .cell)
  (hd:(x == ("__debug__":Str))=false):m7 prog w A (.ref f) s (.str z t) (ka z):=by
 intro h tk kp
 refine wpAny_call (kla_callFunE hroom (kp _ _ ho) rfl hco hgen rfl (hcd.keeps kp) ?_)
 rw[hbind]
 refine wpAny_pure (wpAny_newFunctionEnv hcell (fun y hy=>?_) (fun h₁ hns hsb=>⟨((M.keeps kp).lim).fresh _ hsb,?_⟩) hk)
 ·rw[Zag.mp hy];exact hx
 have hk₁:Keep h h₁:=fun b o e=>hsb.extBut b o (jT (jf e)) (iB _ e)
 have M1:=(M.keeps kp).keeps hk₁
 obtain⟨mg,g1,g2⟩:=M1.g
 obtain⟨mb,b1,b2⟩:=M1.b
 refine kla_codeExpr (C_ (t:=t) (z:=z) (m:=fun y=>List.lookup y [(x,Value.str z t)].reverse) hk hx hlen hns ?_ g1 g2 b1 b2 hz (fun h' tk' r k1 k2=>?_) hd)
 ·simp
 ·exact⟨h',tk',rfl,hk₁.trans k1,k2⟩
end
end NhSG
namespace PL
open PySem L2 Nh
def uk(f:bv):bv:=fun E=>(f E).bind fun a=>match look a.2 a.1 with
 |some (.list ds)=>(mT ds).bind fun ss=>if (decide (ss.length < 65536)&&ss.all fun z=>decide (z.length≤1000))=true then some (.ow ((NhSG.lX ss).map .str),a.2)else none
 |_=>none
theorem vS:∀{ws:List Str} {vs:List Value},Vals (ws.map V.str) vs→vs.map NhSG.wM=ws.map some
 |[],_,.nil=>rfl
 |w::ws,_,.cons r t=>by
  obtain⟨u,rfl⟩:=r
  simp only[bE,vS t]
  rfl
theorem vT:∀{ws:List Str} {vs:List Value},vs.map NhSG.wM=ws.map some→Vals (ws.map V.str) vs
 |[],[],_=>.nil
 |[],_::_,h=>by simp at h
 |_::_,[],h=>by simp at h
 |w::ws,v::vs,h=>by
  simp only[bE,List.cons.injEq]at h
  refine .cons ?_ (vT h.2)
  have h1:=h.1
  unfold NhSG.wM at h1
  split at h1
  ·cases h1;exact⟨_,rfl⟩
  ·cases h1
section
variable {X:Cx} {pins:List (Addr×Obj)} {σ:L2.St} {H:Hp} {s:Shared}
theorem Jh (I:Inv X pins σ H s) (hl:X.mg "len"=none):NhSG.KMod s.heap:=
 ⟨⟨X.mg,I.mod.glob.keeps I.bk,hl⟩,let ⟨mb,h1,h2⟩:=I.mod.blt;⟨mb,h1.keeps I.bk,(h2 _ (by decide)).trans rfl⟩,I.nolimit⟩
theorem sC{l q:Addr}{ss:List Str}{Q:VK}(I:Inv X pins σ H s)(hq:SqL X.K H l (ss.map V.str))(h64:ss.length < 65536)
  (turn:∀z t,z∈ss→NhSG.m7 X.prog X.w X.A.in1.in1 (.ref q) s (.str z t) (NhSG.ka z))
  (h:∀D,H D=none→Q (.ref D) (upd H D (.lst ((NhSG.lX ss).map V.str)))):
  wpAny (model X.prog X.w) X.A (call (.builtin "sorted") [.ref l] [(Str.ofString "key",.ref q)]) (EP X pins σ Q) X.xe s:=by
 obtain⟨its,rv,pl,hz⟩:=I.list hq
 have hv:=vS rv
 have hlen:its.length=ss.length:=by have:=congrArg List.length hv;simpa using this
 refine NhSG.xD (ys:=ss.map NhSG.ka) pl.isList (by simp[hlen]) (by omega) (fun i v y hv' hy'=>?_) fun D h' tk out c g1 g2 g3 g4=>?_
 ·rw[mL]at hy'
  obtain⟨z,hz1,rfl⟩:=Zaf.mp hy'
  have e:(its.map NhSG.wM)[i]? =(ss.map some)[i]? :=by rw[hv]
  rw[mL,mL,hv',hz1]at e
  have e1:NhSG.wM v=some z:=by simpa using e
  unfold NhSG.wM at e1
  split at e1
  ·cases e1;exact turn _ _ (List.mem_of_getElem? hz1)
  ·cases e1
 ·have ot:=NhSG.AL hv g3
  refine⟨.ref D,_,I.laid (t':=tk) g4 g2 (show ObjOk X.prog X.w _ _ _ (.lst ((NhSG.lX ss).map V.str))from⟨?_,out.toList,c,vT ot,by simpa using g1⟩),rfl,h D (I.hok.fresh g2)⟩
  rw[fw]
  have:(NhSG.lX ss).length=ss.length:=(List.mergeSort_perm ss NhSG.uJ).length_eq
  rw[this,sizeLine_eq]
  omega
end
theorem vU{z:Str}(h:z.length≤1000):z.length≤sizeLine:=by rw[sizeLine_eq];omega
end PL
namespace PL
open PySem L2 Nh
theorem qV{pos:Pos}{a b:Int}{c cv:Value}(l:List Value)(h:TriplesOk l)(e:codeAmong pos (l++[rawInt a,rawInt b,c])=some cv):codeAmong pos l=some cv∨cv=c:=by
 fun_induction TriplesOk l with
 |case1=>
  simp only[Z8,codeAmong,rawInt]at e
  split at e
  ·cases e;exact .inr rfl
  ·cases e
 |case2 a' t b' u x aX ih=>
  simp only[Z9,codeAmong]at e ⊢
  split at e
  ·rename_i hc;rw[if_pos hc];exact .inl e
  ·rename_i hc;rw[if_neg hc];exact ih h e
 |case3 l h1 h2=>exact h.elim
section
variable {X:Cx} {pins:List (Addr×Obj)} {σ:L2.St} {H:Hp} {s:Shared}
theorem AM{P c':Addr}{q:Str}{ps:Array Value}{a b:Int}{h':Heap}{tk:Nat}(I:Inv X pins σ H s)(hT:H P=some (.tbl q))(hps:s.heap.get? P=some (tabObj ps))
  (hx:∀b o,b≠P→s.heap.get? b=some o→h'.get? b=some o) (hc:s.heap.objs.size≤c') (hr:h'.CodeRec (.ref c') q) (hP:h'.get? P=some (tabObj (ps++#[rawInt a,rawInt b,.ref c']))):
  Inv X pins σ (upd H c' (.own P)) {s with heap:=h',toks:=tk}:=by
 have hn:H c'=none:=I.hok.fresh hc
 have neP:∀b,H b=none→b≠P:=fun b n z=>by subst z;rw[hT]at n;cases n
 obtain⟨ps0,e0,t0,r0⟩:=I.hok P _ hT
 rw[hps]at e0
 cases e0
 refine I.un (h':=h') (t':=tk) ⟨fun b o e n _ _=>hx b o (neP b n) e,fun b o e n _ _=>⟨o.slots,hx b o (neP b n) e⟩,fun b o e n _=>?_,fun b o e _=>?_,fun b xs e=>?_,fun b o u e=>?_,fun b z e=>?_⟩ fun d o e=>?_
 ·rw[aG (jT (oV (jf e) hc))];exact n
 ·by_cases hb:b=P
  ·subst hb;exact⟨_,hP⟩
  ·exact⟨o,hx b o hb e⟩
 ·rw[aG (b8 e hn)];exact e
 ·rw[aG (b8 e hn)];exact e
 ·rw[aG (b8 e hn)];exact e
 ·by_cases hd:d=c'
  ·subst hd
   rw[aS]at e
   cases e
   obtain⟨c2,oc,_,_,hc2,hoc,_⟩:=hr
   cases hc2
   exact⟨oc,hoc⟩
  ·rw[aG hd]at e
   by_cases hp:d=P
   ·subst hp
    rw[hT]at e
    cases e
    refine⟨_,hP,by simpa using TriplesOk_snoc a b (.ref c') _ t0,fun pos cv z=>?_⟩
    rcases qV (a:=a) (b:=b) (c:=.ref c') ps.toList t0 (by simpa using z)with z |z
    ·obtain⟨c,ec,ho,c2,oc,vs,tq,hc2,hoc,hr2⟩:=r0 pos cv z
     subst ec
     cases hc2
     refine⟨c,rfl,by rw[aG (b8 ho hn)];exact ho,c,oc,vs,tq,rfl,hx _ _ (fun z=>?_) hoc,hr2⟩
     subst z
     rw[hT]at ho
     cases ho
    ·subst z
     exact⟨c',rfl,aS,hr⟩
   ·refine(I.hok d o e).stay (fun b u hb q=>hx b u ?_ q) (fun b hb=>by rw[aG (b8 hb hn)];exact hb) fun b xs hb=>by rw[aG (b8 hb hn)];exact hb
    rcases hb with rfl |hb
    ·exact hp
    ·intro z
     subst z
     rw[hT]at hb
     cases hb
theorem Ji{P:Addr}{ps:Array Value}(I:Inv X pins σ H s)(hps:s.heap.get? P=some (tabObj ps)):mainGlobals≠P∧s.heap.BuiltinsAt X.mg P:=by
 have hg:=I.mod.glob.keeps I.bk
 obtain⟨bm,ob,b1,b2,b3,b4,b5,b6⟩:=I.mod.bmain
 have b3':=I.bk _ _ b3
 refine⟨fun q=>?_,bm,ob,b1,b2,fun q=>?_,fun q=>?_,b3',b4,b5,b6⟩
 ·obtain⟨o,es,ep,e,hd,_⟩:=hg
  rw[q,hps]at e;cases e;cases hd
 ·obtain⟨o,es,ep,e,hd,_⟩:=hg
  rw[q,e]at b3';cases b3';rw[hd]at b6;cases b6
 ·rw[q,hps]at b3';cases b3';cases b4
end
section
variable {X:Cx} {e:Expr} {m:Bool} {f:bv} {p pos kp lp:Pos} {y:Str} {k:Nat} {p1 p2 p3 p4 tp:Pos} {x1:Nat} {params:Arguments} {scope:Scope} {c P:Addr}
theorem Da (hcode:X.env.code=.ref c) (hP:Bu X.K=some P) (hC:codeHdIn X.K c P=true) (hr:Room k X.A) (hg:Gl X "sorted") (hm:X.mg "sorted"=none) (hl:X.mg "len"=none) (ha:EX X e m f)
  (hq:X.env.qual++"<lambda>"=Str.ofString "in_told_order.<locals>.<lambda>") (hdef:defaultsOf params X.env=([],[]):=by rfl)
  (hbind:∀(name qual:Str) (pm cd ctv u:Value),bindArgs (PySem.W.kla_fn name qual params (.Tuple [.Call (.Name "len" p1) [.Name y p2] [] p3,.Name y p4] x1 tp) scope [] pm cd ctv) ⟨[u],[]⟩=pure [(y,u)]:=by intros;rfl)
  (sc1:scope.names.lookup y=some .local:=by rfl) (eu:scope.names.lookup (Str.ofString "len")=some .globalImplicit:=by rfl) (sc3:scope.isCoroutine=false:=by rfl) (sc4:scope.isGenerator=false:=by rfl) (sc5:scope.kind=.function:=by rfl)
  (sc6:∀x∈scope.names,x.2≠ .cell:=by decide) (sc7:∀x∈scope.names,x.2≠ .free:=by decide) (hdy:(y == ("__debug__":Str))=false:=by decide)
  (he:starEach [e] X.env=[(false,eval e X.env)]:=by rfl)
  (he':backTo pos (starEach [e] X.env)=(false,eval e X.env)::backTo pos (starEach [] X.env):=by rfl) (hpl:(backTo pos (starEach [e] X.env)).any (·.1)=false:=by rfl)
  (hall:(backToKw pos (keywordEach [⟨some "key",.Lambda params (.Tuple [.Call (.Name "len" p1) [.Name y p2] [] p3,.Name y p4] x1 tp) scope lp,kp⟩] X.env)).all (·.1.isSome)=true:=by rfl)
  (hkw:(backToKw pos (keywordEach [⟨some "key",.Lambda params (.Tuple [.Call (.Name "len" p1) [.Name y p2] [] p3,.Name y p4] x1 tp) scope lp,kp⟩] X.env)).any (·.1.isNone)=false:=by rfl)
  (hnm:(backToKw pos (keywordEach [⟨some "key",.Lambda params (.Tuple [.Call (.Name "len" p1) [.Name y p2] [] p3,.Name y p4] x1 tp) scope lp,kp⟩] X.env)).filterMap (·.1)=[Str.ofString "key"]:=by rfl):
  EX X (.Call (.Name "sorted" p) [e] [⟨some "key",.Lambda params (.Tuple [.Call (.Name "len" p1) [.Name y p2] [] p3,.Name y p4] x1 tp) scope lp,kp⟩] pos) m (uk f):=by
 intro pins s σ H Q I z
 obtain⟨B,E,xs,Xs,res,E',fr,cl,e0,q⟩:=z
 obtain⟨⟨r1,E1⟩,e1,e2⟩:=Za.mp e0
 simp only at e2
 split at e2
 ·rename_i ds ld
  obtain⟨ss,en,e3⟩:=Za.mp e2
  split at e3
  ·rename_i hc
   cases e3
   simp only[wL,decide_eq_true_eq,List.all_eq_true]at hc
   refine wpAny_Call_Name_kw (jU I hg hm PyProof.Rows.boot_sorted ?_ (by decide) (by decide))
   refine PyProof.Rows.callWith_kw (fc (cV ha fY he pos pins s σ H (fun vs H1=>∃p,vs=[.ref p]∧SqL X.K H1 p (ss.map V.str)∧∀H2,Same H1 H2→∀D,H2 D=none→Q (.ref D) (upd H2 D (.lst ((NhSG.lX ss).map V.str)))) I ⟨B,E,xs,Xs,r1,_,fr,cl,e1,fun v1 H1 ⟨F,A,fr1⟩=>?_⟩) fun us s2 ⟨vs,H1,I1,r1,p0,ev,hq1,q1⟩=>?_) he' hpl hall hkw
   ·obtain⟨A',fr2⟩:=fr1.pop
    have r:=(fr1.look0 ld).1
    cases r with
    |lst h1 h2=>
     have:=tU h2 en
     subst this
     exact⟨_,rfl,h1,fun H2 g D hD=>q _ _ ⟨_,_,(fr2.grow g).newl (mU _) hD⟩⟩
   ·subst ev
    cases r1 with
    |cons r rr=>
     cases rr
     cases r
     refine PyProof.Rows.kws_cons (PySem.W.kla_eval hdef ?_)
     have hT:H1 P=some (.tbl (Str.ofString "in_told_order.<locals>.<lambda>")):=I1.tab P _ (by unfold oY;rw[if_pos hP])
     obtain⟨ps,hps,ht,hit⟩:=I1.hok P _ hT
     obtain⟨hgP,hbA⟩:=Ji I1 hps
     have hcl:closureFor scope X.env=pure []:=closureFor_none sc7
     have C:=PySem.W.codeHd_of_K I1.kIn hC
     have hroom:X.A.in1.in1.depth < recursionLimit:=by have:=hr.dp;show X.A.depth < recursionLimit;omega
     cases hca:codeAmong lp ps.toList with
     |none=>
      refine PySem.W.kla_makeFunction hcl I1.ok.glob (I1.mod.glob.keeps I1.bk) hcode C hps ht hca hgP hbA fun c' ctv h' tk hx hge hlt hrec htb=>?_
      rw[hq]at hrec
      have I2:=AM (tk:=tk) I1 hT hps (fun b o hb e=>hx b o hb e) hge hrec htb
      have g:Same H1 (upd H1 c' (.own P)):=hZ (I1.hok.fresh hge) _
      have I3:=I2.kept (t':=tk) (fun b o e=>iB (PySem.W.kla_obj "<lambda>" (X.env.qual++"<lambda>") params (.Tuple [.Call (.Name "len" p1) [.Name y p2] [] p3,.Name y p4] x1 tp) scope [] ((X.mg "__name__").getD .none) c' ctv) e)
      refine PyProof.Rows.kws_nil ?_
      rw[hnm]
      refine sC I3 (g.seq hq1) hc.1 (fun z t hz=>?_) (q1 _ g)
      exact NhSG.vR (Jh I3 hl) hroom (l_ _ rfl) (by rw[hq];exact hrec.keeps fun b o e=>iB _ e) (vU (hc.2 z hz)) (hbind _ _ _ _ _ _) sc1 eu sc3 sc4 sc5 sc6 hdy
     |some cv=>
      obtain⟨c',rfl,ho,hrec⟩:=hit lp cv hca
      refine PySem.W.kla_makeFunctionHit hcl I1.ok.glob (I1.mod.glob.keeps I1.bk) hcode C hps ht hca hbA fun ctv h' tk hx hsz=>?_
      have I3:=I1.kept (t':=tk) (fun b o e=>iB (PySem.W.kla_obj "<lambda>" (X.env.qual++"<lambda>") params (.Tuple [.Call (.Name "len" p1) [.Name y p2] [] p3,.Name y p4] x1 tp) scope [] ((X.mg "__name__").getD .none) c' ctv) (hx b o e))
      refine PyProof.Rows.kws_nil ?_
      rw[hnm]
      refine sC I3 hq1 hc.1 (fun z t hz=>?_) (q1 _ (Same.refl _))
      exact NhSG.vR (Jh I3 hl) hroom (l_ _ rfl) (by rw[hq];exact hrec.keeps fun b o e=>iB _ (hx b o e)) (vU (hc.2 z hz)) (hbind _ _ _ _ _ _) sc1 eu sc3 sc4 sc5 sc6 hdy
  ·cases e3
 ·cases e2
end
structure DefT (K:Frag) (mg:Str→Option Value) (x:Str) (st:Stmt) (ps:List Str) (c P:Addr):Prop where
 ex:∃(f:Addr) (oc:Value) (od:Option Addr) (kV doc pm:Value) (an:Option Addr) (ct:Value) (osl:Array (Option Value)),
  K.lookup f=some ⟨oc,od,.func (fnOf x x (fP st) (dm st) (ao st) .none kV doc pm an (.ref c) ct),osl⟩∧codeIn K (.ref c) x=true∧keepIn K (.ref f)=true∧mg x=some (.ref f)∧
   Binds K (fnOf x x (fP st) (dm st) (ao st) .none kV doc pm an (.ref c) ct) ps []
 hd:codeHdIn K c P=true
 tp:Bu K=some P
theorem Ki{P:Program}{w:World}{K:Frag}{mg:Str→Option Value}{base:Heap}{x:Str}{st:Stmt}{N ps:List Str}{k a n:Nat}{g:cA}{c T:Addr}(D:DefT K mg x st ps c T)(S:FnScope N ps (ao st))(hpa:ps.length=a)(hNn:N.length=n)(hps:a≤n)
  (hbody:∀(f:Addr) (A:Around) (outer:List Env) (s:Shared) (H:Hp) (E:XK),Room k (A.deeper (PyProof.Rows.envOfC x (ao st) s.heap.objs.size f (.ref c)))→
   BY (qP zY P w K mg base N x (ao st) f (.ref c) A outer s H E).nox (dm st) g):Own P w K mg base (k+1) x ps (dr K (fu a n g)):=by
 subst hpa hNn
 obtain⟨f,oc,od,kV,doc,pm,an,ct,osl,lk,hcd,kp,hm,hb⟩:=D.ex
 refine⟨f,_,FX lk hcd S (fun vs H Q E h=>?_) (fun A outer s H vs Q E hr h=>?_),hb,hm,kp⟩
 ·obtain⟨ds,r,e,rp,_⟩:=h
  unfold fu at e
  split at e
  ·rename_i hl
   rw[rp.len];exact hl
  ·cases e
 obtain⟨ds,r,e,rp,q⟩:=h
 unfold fu at e
 split at e
 ·rename_i hl
  refine⟨_,(hbody f A outer s H E hr).nox,?_⟩
  obtain⟨⟨E',fl⟩,e1,e⟩:=Za.mp e
  refine⟨H,bi N.length ds,[],[],E',fl,⟨H,[],tO rp (by omega)⟩,rfl,e1,?_⟩
  cases fl with
  |nx=>
   cases e
   rintro σ' H' ⟨F',A',fr'⟩
   exact q _ _ (fr'.bf.trans fr'.fh) .non
  |bk=>cases e
  |ct=>cases e
  |rt r'=>
   rintro σ' v H' ⟨F',A',fr'⟩
   obtain⟨s1,s2⟩:=fr'.resultO e
   exact q v H' s1 s2
 ·cases e
theorem Db {K:Frag} {f c P:Addr} {oc occ:Value} {od odc:Option Addr} {fd:FuncData} {sl slc:Array (Option Value)} {vs:Array Value} (a:nsIn K mainGlobals "in_told_order"=some (some (.ref f))) (l:K.lookup f=some ⟨oc,od,.func fd,sl⟩) (hc:fd.code=.ref c)
  (lc:K.lookup c=some ⟨occ,odc,.fields vs,slc⟩) (hv:(vs[11]? :Option Value)=some (.ref P)):Bu K=some P:=by
 unfold Bu
 rw[a]
 simp only[l,hc,lc,hv]
theorem Dc {K:Frag} {h:Heap} {f c P:Addr} {oc occ:Value} {od odc:Option Addr} {fd:FuncData} {sl slc:Array (Option Value)} {vs:Array Value} (X:K.In h) (a:nsIn K mainGlobals "in_told_order"=some (some (.ref f))) (l:K.lookup f=some ⟨oc,od,.func fd,sl⟩) (hc:fd.code=.ref c)
  (lc:K.lookup c=some ⟨occ,odc,.fields vs,slc⟩) (hv:(vs[11]? :Option Value)=some (.ref P)) (hd:codeHdIn K c P=true) (hn:K.lookup P=none) (ht:h.get? P=some (tabObj #[])):yP K h:=fun b q e=>by
 have tp:=Db a l hc lc hv
 unfold oY at e
 split at e
 ·rename_i hb
  rw[tp]at hb
  cases hb
  exact⟨ht,⟨c,PySem.W.codeHd_of_K X hd⟩,hn⟩
 ·cases e
end PL
namespace NhFam
abbrev Tx:=List Nat
def Srt(w:Tx):Prop:=w.Pairwise (· < ·)
def le(v w:Tx):Prop:=∀x∈v,x∈w
instance (v w:Tx):Decidable (le v w):=inferInstanceAs (Decidable (∀x∈v,x∈w))
theorem le.refl(v:Tx):le v v:=fun _ h=>h
theorem le.trans{u v w:Tx}(a:le u v)(b:le v w):le u w:=fun x h=>b x (a x h)
def Sub(U w:Tx):Prop:=Srt w∧le w U
theorem eN:∀{w v:Tx},Srt v→Srt w→le v w→v.Sublist w
 |[],v,_,_,h=>by
  cases v with
  |nil=>exact .slnil
  |cons x v=>cases h x (gJ ..)
 |y::w,v,hv,hw,h=>by
  cases v with
  |nil=>exact List.nil_sublist _
  |cons x v=>
   have hw':=List.pairwise_cons.mp hw
   have hv':=List.pairwise_cons.mp hv
   by_cases e:x=y
   ·subst e
    refine(eN hv'.2 hw'.2 fun z hz=>?_).cons_cons _
    rcases Zal.mp (h z (gq _ hz))with q |q
    ·have:=hv'.1 z hz;omega
    ·exact q
   ·have hx:x∈w:=(Zal.mp (h x (gJ ..))).resolve_left e
    have lt:=hw'.1 x hx
    refine(eN hv hw'.2 fun z hz=>?_).cons _
    rcases Zal.mp (h z hz)with q |q
    ·subst q
     rcases Zal.mp hz with q |q
     ·omega
     ·have:=hv'.1 z q;omega
    ·exact q
theorem Srt.ext{v w:Tx}(hv:Srt v)(hw:Srt w)(a:le v w)(b:le w v):v=w:=
 (eN hv hw a).eq_of_length (Nat.le_antisymm (eN hv hw a).length_le (eN hw hv b).length_le)
theorem Dd{v w:Tx}(hv:Srt v)(hw:Srt w)(a:le v w)(n:v≠w):v.length < w.length:=by
 have s:=eN hv hw a
 rcases Nat.lt_or_ge v.length w.length with h |h
 ·exact h
 ·exact absurd (s.eq_of_length (Nat.le_antisymm s.length_le h)) n
def key(w:Tx):NhSG.Ky:=((w.length:Int),w)
def mo(v w:Tx):Prop:=NhSG.iE (key v) (key w)=true
theorem xE{v w:Tx}(h:v.length < w.length):mo v w:=NhSG.ltKy_iff.mpr (.inl (by simp only[key];omega))
theorem qy(v:Tx):¬mo v v:=fun h=>by
 have:=(NhSG.g6 default).irrefl (key v)
 unfold mo at h
 rw[show NhSG.iE (key v) (key v)=false from this]at h
 cases h
theorem sD{v w:Tx}(h1:¬mo v w)(h2:¬mo w v):v=w:=by
 have h:=(NhSG.g6 default).total (key v) (key w) (by simpa[mo]using h1) (by simpa[mo]using h2)
 exact congrArg Prod.snd h
theorem sE{u v w:Tx}(a:mo u v)(b:mo v w):mo u w:=(NhSG.g6 default).trans _ _ _ a b
theorem AN{v w:Tx}(a:mo v w):¬mo w v:=fun b=>qy v (sE a b)
def up(F:List Tx)(w:Tx):Prop:=∃v∈F,le v w
def Min(U:Tx)(f:Tx→Prop)(w:Tx):Prop:=Sub U w∧f w∧∀v,Sub U v→f v→le v w→v=w
structure Told (U:Tx) (L:List Tx) (f:Tx→Prop):Prop where
 srt:L.Pairwise mo
 mem:∀w,w∈L↔Min U f w
def AO(U:Tx)(f:Tx→Prop):Prop:=∀v w,Sub U v→Sub U w→le v w→f v→f w
theorem qz{U:Tx}{f:Tx→Prop}:∀(n:Nat) (w:Tx),w.length≤n→Sub U w→f w→∃v,Min U f v∧le v w
 |n,w,hn,hw,hf=>by
  by_cases h:∀v,Sub U v→f v→le v w→v=w
  ·exact⟨w,⟨hw,hf,h⟩,le.refl w⟩
  ·obtain⟨v,h⟩:=Classical.not_forall.mp h
   obtain⟨v1,h⟩:=Classical.not_imp.mp h
   obtain⟨v2,h⟩:=Classical.not_imp.mp h
   obtain⟨v3,v4⟩:=Classical.not_imp.mp h
   have:=Dd v1.1 hw.1 v3 v4
   cases n with
   |zero=>omega
   |succ n=>
    obtain⟨u,a,b⟩:=qz n v (by omega) v1 v2
    exact⟨u,a,b.trans v3⟩
theorem Told.sub{U:Tx}{L:List Tx}{f:Tx→Prop}(h:Told U L f):∀w∈L,Sub U w:=fun w hw=>((h.mem w).mp hw).1
theorem Told.up_iff{U:Tx}{L:List Tx}{f:Tx→Prop}(h:Told U L f)(m:AO U f){w:Tx}(hw:Sub U w):up L w↔f w:=by
 constructor
 ·rintro⟨v,hv,l⟩
  have:=(h.mem v).mp hv
  exact m v w this.1 hw l this.2.1
 ·intro hf
  obtain⟨v,a,b⟩:=qz w.length w (gi _) hw hf
  exact⟨v,(h.mem v).mpr a,b⟩
theorem Min.congr{U:Tx}{f g:Tx→Prop}(h:∀w,Sub U w→(f w↔g w)){w:Tx}:Min U f w↔Min U g w:=by
 constructor
 ·rintro⟨a,b,c⟩;exact⟨a,(h w a).mp b,fun v v1 v2 v3=>c v v1 ((h v v1).mpr v2) v3⟩
 ·rintro⟨a,b,c⟩;exact⟨a,(h w a).mpr b,fun v v1 v2 v3=>c v v1 ((h v v1).mp v2) v3⟩
theorem Told.congr{U:Tx}{L:List Tx}{f g:Tx→Prop}(a:Told U L f)(h:∀w,Sub U w→(f w↔g w)):Told U L g:=⟨a.srt,fun w=>(a.mem w).trans (Min.congr h)⟩
theorem nW{L:List Tx}(h:L.Pairwise mo):L.Nodup:=h.imp fun {a b} h e=>by subst e;exact qy a h
theorem Fi(U:Tx)(F:List Tx):AO U (up F):=fun v w _ _ l ⟨u,hu,h⟩=>⟨u,hu,h.trans l⟩
theorem De{U:Tx}{F:List Tx}(hF:∀v∈F,Sub U v){w:Tx}:Min U (up F) w↔w∈F∧∀v∈F,le v w→v=w:=by
 constructor
 ·rintro⟨a,⟨v,hv,l⟩,c⟩
  have e:=c v (hF v hv) ⟨v,hv,le.refl v⟩ l
  subst e
  exact⟨hv,fun u hu l=>c u (hF u hu) ⟨u,hu,le.refl u⟩ l⟩
 ·rintro⟨a,b⟩
  refine⟨hF w a,⟨w,a,le.refl w⟩,fun v hv ⟨u,hu,l⟩ lv=>?_⟩
  have e:=b u hu (l.trans lv)
  subst e
  exact hv.1.ext (hF u hu).1 lv l
def kT(K:List Tx):List Tx→List Tx
 |[]=>K
 |w::r=>if K.any (fun k=>decide (le k w))then kT K r else kT (K++[w]) r
theorem mq:∀(S K Pre:List Tx),(∀v∈Pre++S,Srt v)→(∀v∈Pre,∃k∈K,le k v)→(∀k∈K,k∈Pre)→(∀v∈Pre,∀w∈S,¬mo w v)→S.Pairwise (fun a b=>¬mo b a)→
  (∀k∈K,∀v∈Pre,le v k→v=k)→K.Pairwise mo→(kT K S).Pairwise mo∧∀w,w∈kT K S↔w∈Pre++S∧∀v∈Pre++S,le v w→v=w
 |[],K,Pre,hs,h1,h2,h3,h4,h5,h6=>by
  refine⟨h6,fun w=>?_⟩
  simp only[kT,List.append_nil]
  refine⟨fun hw=>⟨h2 w hw,h5 w hw⟩,fun⟨a,b⟩=>?_⟩
  obtain⟨k,hk,l⟩:=h1 w a
  rw[←b k (h2 k hk) l]
  exact hk
 |w::S,K,Pre,hs,h1,h2,h3,h4,h5,h6=>by
  have e:Pre++w::S=(Pre++[w])++S:=by simp
  have h4':=List.pairwise_cons.mp h4
  have sw:Srt w:=hs w (by simp)
  have back:∀k∈K,le w k→w=k:=fun k hk l=>Classical.byContradiction fun n=>h3 k (h2 k hk) w (by simp) (xE (Dd sw (hs k (by simp[h2 k hk])) l n))
  have o3:∀v∈Pre++[w],∀u∈S,¬mo u v:=fun v hv u hu=>by
   rcases Zaj.mp hv with q |q
   ·exact h3 v q u (gq _ hu)
   ·rw[Zag.mp q];exact h4'.1 u hu
  rw[e]at hs ⊢
  by_cases h:K.any (fun k=>decide (le k w))=true
  ·rw[kT,if_pos h]
   obtain⟨k0,hk0,l0⟩:=List.any_eq_true.mp h
   refine mq S K (Pre++[w]) hs (fun v hv=>?_) (fun k hk=>by simp[h2 k hk]) o3 h4'.2 (fun k hk v hv l=>?_) h6
   ·rcases Zaj.mp hv with q |q
    ·exact h1 v q
    ·rw[Zag.mp q];exact⟨k0,hk0,of_decide_eq_true l0⟩
   ·rcases Zaj.mp hv with q |q
    ·exact h5 k hk v q l
    ·rw[Zag.mp q]at l ⊢;exact back k hk l
  ·rw[kT,if_neg h]
   have no:∀k∈K,¬le k w:=fun k hk l=>h (List.any_eq_true.mpr ⟨k,hk,decide_eq_true l⟩)
   refine mq S (K++[w]) (Pre++[w]) hs (fun v hv=>?_) (fun k hk=>?_) o3 h4'.2 (fun k hk v hv l=>?_) ?_
   ·rcases Zaj.mp hv with q |q
    ·obtain⟨k,hk,l⟩:=h1 v q;exact⟨k,by simp[hk],l⟩
    ·rw[Zag.mp q];exact⟨w,by simp,le.refl w⟩
   ·rcases Zaj.mp hk with q |q
    ·simp[h2 k q]
    ·simp[Zag.mp q]
   ·rcases Zaj.mp hk with p |p <;> rcases Zaj.mp hv with q |q
    ·exact h5 k p v q l
    ·rw[Zag.mp q]at l ⊢;exact back k p l
    ·rw[Zag.mp p]at l ⊢
     obtain⟨k',hk',l'⟩:=h1 v q
     exact absurd (l'.trans l) (no k' hk')
    ·rw[Zag.mp p,Zag.mp q]
   ·refine List.pairwise_append.mpr ⟨h6,List.pairwise_singleton _ _,fun k hk u hu=>?_⟩
    rw[Zag.mp hu]
    refine Classical.byContradiction fun n=>no k hk ?_
    rw[sD n (h3 k (h2 k hk) w (by simp))]
    exact le.refl w
def kC(F:List Tx):List Tx:=F.mergeSort fun a b=> !NhSG.iE (key b) (key a)
theorem sortT_mem{F:List Tx}{w:Tx}:w∈kC F↔w∈F:=(List.mergeSort_perm F _).mem_iff
theorem sG(F:List Tx):(kC F).Pairwise fun a b=>¬mo b a:=by
 have h:=List.pairwise_mergeSort (le:=fun a b=> !NhSG.iE (key b) (key a)) (fun a b c h1 h2=>by
  have h1':¬mo b a:=by simpa[mo]using h1
  have h2':¬mo c b:=by simpa[mo]using h2
  have:¬mo c a:=fun z=>by
   by_cases q:mo a b
   ·exact h2' (sE z q)
   ·rw[sD q h1']at z;exact h2' z
  simpa[mo]using this) (fun a b=>by
  by_cases q:NhSG.iE (key b) (key a)=true
  ·have:¬mo a b:=AN q
   have:NhSG.iE (key a) (key b)=false:=by simpa[mo]using this
   simp[this]
  ·simp[Bool.not_eq_true _▸q]) F
 exact h.imp fun {a b} h=>by simpa[mo]using h
def a_(F:List Tx):List Tx:=kT [] (kC F)
theorem kU{U:Tx}{F:List Tx}(hF:∀v∈F,Sub U v):Told U (a_ F) (up F):=by
 obtain⟨a,b⟩:=mq (kC F) [] [] (fun v hv=>(hF v (sortT_mem.mp (by simpa using hv))).1) (fun v hv=>by cases hv) (fun v hv=>by cases hv) (fun v hv=>by cases hv) (sG F) (fun v hv=>by cases hv) .nil
 refine⟨a,fun w=>(b w).trans ?_⟩
 rw[De hF]
 simp only[Z8,sortT_mem]
def comp(U w:Tx):Tx:=U.filter fun x=> !decide (x∈w)
theorem comp_mem{U w:Tx}{x:Nat}:x∈comp U w↔x∈U∧x∉w:=by simp[comp]
theorem Df{U w:Tx}(hU:Srt U):Sub U (comp U w):=⟨hU.filter _,fun x hx=>(comp_mem.mp hx).1⟩
def HC(U:Tx)(f:Tx→Prop)(w:Tx):Prop:=¬f (comp U w)
def m8(F:List Tx)(w:Tx):Prop:=∀v∈F,∃x∈v,x∈w
theorem nX{U:Tx}{F:List Tx}(hF:∀v∈F,Sub U v){w:Tx}:m8 F w↔HC U (up F) w:=by
 constructor
 ·rintro h ⟨v,hv,l⟩
  obtain⟨x,hx,hw⟩:=h v hv
  exact(comp_mem.mp (l x hx)).2 hw
 ·intro h v hv
  refine Classical.byContradiction fun n=>h ⟨v,hv,fun x hx=>comp_mem.mpr ⟨(hF v hv).2 x hx,fun z=>n ⟨x,hx,z⟩⟩⟩
theorem xF{U V:Tx}{f:Tx→Prop}{L:List Tx}(hU:Srt U)(hV:Srt V)(l:le V U)(m:AO U f)(h:∀w,Sub U w→f w→f (w.filter fun x=>decide (x∈V)))(t:Told V L f):Told U L f:=by
 refine⟨t.srt,fun w=>(t.mem w).trans ?_⟩
 have up':∀{w},Sub V w→Sub U w:=fun a=>⟨a.1,a.2.trans l⟩
 have cut:∀{w},Sub U w→Sub V (w.filter fun x=>decide (x∈V)):=fun a=>⟨a.1.filter _,fun x hx=>by simpa using(Zbn.mp hx).2⟩
 have cl:∀w:Tx,le (w.filter fun x=>decide (x∈V)) w:=fun w x hx=>(Zbn.mp hx).1
 constructor
 ·rintro⟨a,b,c⟩
  refine⟨up' a,b,fun v v1 v2 v3=>?_⟩
  have e:=c _ (cut v1) (h v v1 v2) ((cl v).trans v3)
  refine v1.1.ext a.1 v3 ?_
  rw[←e]
  exact cl v
 ·rintro⟨a,b,c⟩
  have e:=c _ (up' (cut a)) (h w a b) (cl w)
  rw[←e]
  refine⟨cut a,h w a b,fun v v1 v2 v3=>?_⟩
  rw[e]at v3 ⊢
  exact c v (up' v1) v2 v3
end NhFam
namespace NhFam
def iu(w:Tx):List Tx:=w.foldl (fun acc a=>acc++acc.map (· ++[a])) [[]]
theorem vV:∀(V:Tx) (acc:List Tx) (w:Tx),w∈V.foldl (fun acc a=>acc++acc.map (· ++[a])) acc↔∃u∈acc,∃t,t.Sublist V∧w=u++t
 |[],acc,w=>by
  constructor
  ·intro h;exact⟨w,h,[],.slnil,by simp⟩
  ·rintro⟨u,hu,t,ht,rfl⟩
   have:t=[]:=by simpa using ht
   subst this
   simpa using hu
 |a::V,acc,w=>by
  rw[List.foldl_cons,vV V]
  constructor
  ·rintro⟨u,hu,t,ht,rfl⟩
   rcases Zaj.mp hu with q |q
   ·exact⟨u,q,t,ht.cons _,rfl⟩
   ·obtain⟨v,hv,rfl⟩:=Zbc.mp q
    exact⟨v,hv,a::t,ht.cons_cons _,by simp⟩
  ·rintro⟨u,hu,t,ht,rfl⟩
   cases ht with
   |cons _ h=>exact⟨u,by simp[hu],t,h,rfl⟩
   |cons_cons _ h=>exact⟨u++[a],by simp[hu],_,h,by simp⟩
theorem iW{V:Tx}(hV:Srt V){w:Tx}:w∈iu V↔Sub V w:=by
 unfold iu
 rw[vV]
 constructor
 ·rintro⟨u,hu,t,ht,rfl⟩
  rw[Zag.mp hu,List.nil_append]
  exact⟨List.Pairwise.sublist ht hV,fun x hx=>ht.subset hx⟩
 ·intro h
  exact⟨[],by simp,w,eN h.1 hV h.2,rfl⟩
theorem kW(V:Tx):(iu V).length=2 ^ V.length:=by
 have key:∀(V:Tx) (acc:List Tx),(V.foldl (fun acc a=>acc++acc.map (· ++[a])) acc).length=acc.length*2 ^ V.length:=fun V=>by
  induction V with
  |nil=>intro acc;simp
  |cons a V ih=>
   intro acc
   rw[List.foldl_cons,ih,pI,fw,List.length_cons,Nat.pow_succ,←Nat.two_mul,Nat.mul_comm 2,Nat.mul_assoc,Nat.mul_comm 2]
 unfold iu
 rw[key]
 simp
def kD(F:List Tx)(w:Tx):Bool:=F.all fun v=> !decide (∀x∈v,x∉w)
theorem AQ{F:List Tx}{w:Tx}:kD F w=true↔m8 F w:=by
 unfold kD m8
 rw[List.all_eq_true]
 refine⟨fun h v hv=>?_,fun h v hv=>?_⟩
 ·have:=h v hv
  simp only[Bool.not_eq_true',decide_eq_false_iff_not]at this
  obtain⟨x,h⟩:=Classical.not_forall.mp this
  obtain⟨a,b⟩:=Classical.not_imp.mp h
  exact⟨x,a,Classical.not_not.mp b⟩
 ·obtain⟨x,a,b⟩:=h v hv
  simp only[Bool.not_eq_true',decide_eq_false_iff_not]
  exact fun z=>z x a b
theorem vW{U V:Tx}{f:Tx→Prop}{G:List Tx}(hU:Srt U)(hV:Srt V)(l:le V U)(m:AO U f)(hG:∀w,w∈G↔Sub V w∧f w)(h:∀w,Sub U w→f w→f (w.filter fun x=>decide (x∈V))):Told U (a_ G) f:=by
 refine xF hU hV l m h ((kU fun v hv=>((hG v).mp hv).1).congr fun w hw=>?_)
 constructor
 ·rintro⟨v,hv,q⟩
  obtain⟨a,b⟩:=(hG v).mp hv
  exact m v w ⟨a.1,a.2.trans l⟩ ⟨hw.1,hw.2.trans l⟩ q b
 ·intro q
  exact⟨w,(hG w).mpr ⟨hw,q⟩,le.refl w⟩
theorem vX{U:Tx}{F:List Tx}(hF:∀v∈F,Sub U v){w:Tx}:m8 (a_ F) w↔m8 F w:=by
 have t:=kU hF
 constructor
 ·intro h v hv
  obtain⟨k,hk,l⟩:=(t.up_iff (Fi U F) (hF v hv)).mpr ⟨v,hv,le.refl v⟩
  obtain⟨x,a,b⟩:=h k hk
  exact⟨x,l x a,b⟩
 ·intro h v hv
  exact h v ((De hF).mp ((t.mem v).mp hv)).1
def sH(F:List Tx)(V:Tx):List Tx:=a_ ((iu V).filter (kD (a_ F)))
theorem AR{F:List Tx}{V w:Tx}(hF:∀v∈F,le v V)(h:m8 F w):m8 F (w.filter fun x=>decide (x∈V)):=fun v hv=>by
 obtain⟨x,a,b⟩:=h v hv
 exact⟨x,a,Zbn.mpr ⟨b,decide_eq_true (hF v hv x a)⟩⟩
theorem nY{U V:Tx}{F:List Tx}(hU:Srt U)(hV:Srt V)(l:le V U)(hF:∀v∈F,Sub U v)(hFV:∀v∈F,le v V):Told U (sH F V) (HC U (up F)):=by
 refine(vW (f:=m8 F) hU hV l (fun v w _ _ q h u hu=>?_) (fun w=>?_) fun w _ h=>AR hFV h).congr fun w hw=>nX hF
 ·obtain⟨x,a,b⟩:=h u hu
  exact⟨x,a,q x b⟩
 ·rw[Zbn,iW hV,AQ,vX hF]
end NhFam
namespace PL
open PySem L2 Nh
def xG(i:Nat)(f:bv):bv:=fun E=>match E[i]? with
 |some (.sh (.str x))=>(f E).bind fun a=>match look a.2 a.1 with
  |some (.str y)=>match Builtin.Str.occurrences x y 0 x.length 1 with
   |k::_=>some (.sh (.int k),a.2)
   |[]=>none
  |_=>none
 |_=>none
def Kj:V→List V→Hp→VK→Prop:=fun x vs H Q=>∃z y k r,x=.str z∧vs=[.str y]∧Builtin.Str.occurrences z y 0 z.length 1=k::r∧Q (.int (k:Nat)) H
theorem Dg{X:Cx}:MtR X "str.index" Kj:=by
 intro pins s σ H x vs v us Q I rx rv h
 obtain⟨z,y,k,r,rfl,rfl,ho,q⟩:=h
 obtain⟨t,rfl⟩:=rx
 obtain⟨u,rfl,ru⟩:=rv.one
 obtain⟨t2,rfl⟩:=ru
 exact PySem.SC.index ho ⟨.int k,H,I.tok _,⟨_,rfl⟩,q⟩
section
variable {X:Cx} {e:Expr} {m1:Bool} {f:bv} {x:Str} {p apos cpos:Pos}
theorem Dh (i:Nat) (he:EX X e m1 f) (hN:X.N[i]? =some x:=by rfl) (hv:Br X.env.scope x:=by first |exact Or.inl rfl |exact Or.inr (Or.inl rfl) |exact Or.inr (Or.inr rfl)) (hd:(x == ("__debug__":Str))=false:=by decide) (hcd:(x == ("__classdict__":Str))=false:=by decide)
  (hs:starEach [e] X.env=[(false,eval e X.env)]:=by rfl) (hbase:attributeBase (.Name x p) "index" X.env (eval (.Name x p) X.env)=eval (.Name x p) X.env:=by rfl)
  (hfew:((backTo cpos (starEach [e] X.env)).all (fun x=> !x.1)&&(backToKw cpos (keywordEach [] X.env)).all (fun x=>x.1.isSome)
   &&decide (([e]:List Expr).length+([]:List Keyword).length+(if ([]:List Keyword).isEmpty then 0 else 1) < 30))=true:=by rfl) (hline:(apos.endLine == cpos.line)=true:=by rfl):
  EX X (.Call (.Attribute (.Name x p) "index" apos) [e] [] cpos) m1 (xG i f):=by
 refine cn (u0 PySem.F.plainAttrs_str PySem.F.slot_str_index PySem.F.type_str_index Dg (jr hN hv hd hcd) (cV he fY hs) hbase hfew hline hs rfl) fun σ H Q z=>?_
 obtain⟨B,E,xs,Xs,res,E',⟨F,A,fr⟩,cl,e,q⟩:=z
 unfold xG at e
 split at e
 ·rename_i z ei
  obtain⟨⟨s,E1⟩,e1,e⟩:=Za.mp e
  simp only at e
  split at e
  ·rename_i y ly
   split at e
   ·rename_i k r ho
    cases e
    obtain⟨o,A1,eo,rfl,v0,rfl,rp⟩:=fr.var ei
    cases rp
    refine⟨_,eo,rfl,B,E,xs,Xs,_,E',⟨F,A,fr⟩,cl,e1,fun v H1 ⟨F1,A1,fr1⟩=>?_⟩
    have r1:=(fr1.look0 ly).1
    obtain⟨A',fr2⟩:=fr1.pop
    cases r1
    exact⟨z,y,k,r,rfl,rfl,ho,q _ _ ⟨F1,A',fr2.push ⟨rfl,_,rfl,.int _⟩⟩⟩
   ·cases e
  ·cases e
 ·cases e
end
end PL
namespace Nhk56
open PySem L2 Nh PL
def lH:cA:=(aI (yC (jh (tM .str) (ab 0)) (yC (ae gK false (bx cS (ad false (ab 0) ak)) (pC (.int 1))) (fZ (dZ .le) (dZ .le) false false (pC (.str "a")) (ab 0) (pC (.str "z"))))))
def gV:List PyData→Option Sl:=fu 1 1 lH
def bb:gx:=(fB 2 (bB (ar 2) (bB (ar 3) fA)))
def bd:cA:=(aw (au 4 (ab 3))
 (aw (bp (dR (gj (ab 1)) (dh (ae gK false (ae fO false (ae fO false (ab 1) (jh f7 (pC (.int 1)))) (pC (.int 0))) (ab 2))))
 (au 4 (ae aW false (ae fO false (lQ 1) (pC (.int 1))) (ab 3)))
 aP)
 (bp (dh (ae lP false (ab 4) (pC (.int 0))))
 (aY (aC 1 (fS (aF (ab 2) (aF (ab 4) aH)))))
 aP)))
def iF:cA:=(aw (au 1 (be aH))
 (aw (b9 (aM (ab 0)) bb
 bd)
 (aI (ab 1))))
def ck:List PyData→Option Sl:=fu 1 5 iF
def lI:cA:=(aI (ae gK false (bx cS (ad false (am ck (ad false (ab 0) ak)) ak)) (pC (.int 0))))
def gW:List PyData→Option Sl:=fu 1 1 lI
def b_:gx:=(ar 3)
def ca:cA:=(aY (aC 2 (ae dq false (ae gu false (ae fO false (ab 2) (jh f7 (pC (.int 1)))) (ae aW false (ae fQ false (ab 0) (ab 3)) (pC (.int 1)))) (ab 3))))
def eI:cA:=(aw (au 2 (be (aF (pC (.int 1)) aH)))
 (aw (b9 (nE (ad false (pC (.int 1)) (ad false (ae aW false (ab 1) (pC (.int 1))) ak))) b_
 ca)
 (aI (ab 2))))
def cb:List PyData→Option Sl:=fu 2 4 eI
def bP:gx:=(ar 2)
def bQ:cA:=(bp (dR (dh (ae (eu (dZ .gt)) false (ab 2) (pC (.int 0)))) (dh (ae gK false (ae fO false (ab 0) (ab 2)) (ae fO false (ab 0) (ae fQ false (ab 2) (pC (.int 1)))))))
 (aY (aC 1 (ae aW false (ae fO false (ab 1) (jh f7 (pC (.int 1)))) (pC (.int 1)))))
 (aY (aC 1 (pC (.int 1)))))
def gz:cA:=(aw (au 1 (be aH))
 (aw (b9 (iN (ad false (bx cS (ad false (ab 0) ak)) ak)) bP
 bQ)
 (aI (ab 1))))
def cN:List PyData→Option Sl:=fu 1 3 gz
def dG:gx:=(ar 4)
def fg:cA:=(qh 2 (ae fO false (ab 0) (ab 3)) (fS (aF (ae aW false (ab 3) (pC (.int 1))) (aF (ab 4) aH))))
def cC:gx:=(ar 3)
def cD:cA:=(b9 (nE (ad false (pC (.int 1)) (ad false (ae aW false (ae fO false (ab 1) (ab 3)) (pC (.int 1))) ak))) dG
 fg)
def fG:cA:=(aw (au 2 Cy)
 (aw (b9 (tS (ad false (ae fQ false (bx cS (ad false (ab 0) ak)) (pC (.int 1))) (ad false (jh f7 (pC (.int 1))) (ad false (jh f7 (pC (.int 1))) ak)))) cC
 cD)
 (aI (ab 2))))
def cO:List PyData→Option Sl:=fu 2 5 fG
def eO:gx:=(fB 2 (bB (ar 6) (bB (ar 7) fA)))
def eP:cA:=(bp (EM 4 (ab 6))
 (ES 2 4 (ab 6) (am cb (ad false (ab 7) (ad false (ab 5) ak))) mS)
 aP)
def iX:cA:=(aw (au 2 (ae aW false (be (aF (pC (.int 1)) aH)) (ae gu false (be (aF (pC (.int 0)) aH)) (bx cS (ad false (ab 0) ak)))))
 (aw (au 3 (am cN (ad false (ab 0) ak)))
 (aw (au 4 (am cO (ad false (ab 0) (ad false (ab 3) ak))))
 (aw (au 5 (yL 0 (ab 3)))
 (aw (b9 (aM (am ck (ad false (ab 1) ak))) eO
 eP)
 (aI (ae fO false (ab 2) (bx cS (ad false (ab 0) ak)))))))))
def cr:List PyData→Option Sl:=fu 2 8 iX
def ig:gx:=(ar 1)
def ii:cA:=(bp (h7 (gj (am gV (ad false (ab 1) ak))))
 xg
 aP)
def m9:cA:=(aw (bp (h7 (gj (jh (tM .str) (ab 0))))
 xg
 aP)
 (aw (b9 (aM (ab 0)) ig
 ii)
 (aI (jG "" (kQ (ab 0))))))
def dg:List PyData→Option Sl:=fu 1 2 m9
def g7:gx:=(fB 2 (bB (ar 0) (bB (ar 1) fA)))
def g8:bv:=(ab 0)
def kb:cA:=(aI (jG "" (kQ (cf [none,none] (aM (ab 0)) g7 di g8))))
def d_:List PyData→Option Sl:=fu 1 1 kb
def iG:gx:=(ar 0)
def iH:bv:=(ab 0)
def fU:jD:=(dh (ae (yJ true) false (ae fO false (ab 0) (pC (.int 0))) (ab 1)))
def lJ:cA:=(aw (au 2 (am dg (ad false (ab 1) ak)))
 (aI (cf [none,some 2] (aM (ab 0)) iG fU iH)))
def gX:List PyData→Option Sl:=fu 2 3 lJ
def gg:cA:=(aI (am gW (ad false (am gX (ad false (ab 0) (ad false (ab 1) ak))) ak)))
def cc:List PyData→Option Sl:=fu 2 2 gg
def gA:gx:=(ar 3)
def gB:cA:=(aw (bp (dh (ae (yJ false) false (ab 3) (ab 0)))
 (au 1 (ae aW false (ab 1) (ab 2)))
 aP)
 (au 2 (ae gu false (ab 2) (pC (.int 2)))))
def lK:cA:=(aw (au 1 (pC (.int 0)))
 (aw (au 2 (pC (.int 1)))
 (aw (b9 (aM (pC (.str "abcdefghijklmnopqrstuvwxyz"))) gA
 gB)
 (aI (ab 1)))))
def ce:List PyData→Option Sl:=fu 1 4 lK
def gh:cA:=(aI (uk (ab 0)))
def bn:List PyData→Option Sl:=fu 1 1 gh
def bS:gx:=(ar 2)
def bq:cA:=(bp (dh (ae gK false (ae xb false (ab 2) (ab 0)) (ab 2)))
 (aI (pC (.bool true)))
 aP)
def dU:cA:=(aw (b9 (aM (ab 1)) bS
 bq)
 (aI (pC (.bool false))))
def aR:List PyData→Option Sl:=fu 2 3 dU
def du:gx:=(ar 2)
def cP:cA:=(bp (dh (ae gK false (ae xb false (ab 2) (ab 0)) (pC (.int 0))))
 (aI (pC (.bool false)))
 aP)
def gC:cA:=(aw (b9 (aM (ab 1)) du
 cP)
 (aI (pC (.bool true))))
def cY:List PyData→Option Sl:=fu 2 3 gC
def dP:gx:=(ar 3)
def cZ:cA:=(aw (au 4 (am ce (ad false (ab 3) ak)))
 (bp (h7 (gj (am aR (ad false (ab 4) (ad false (ab 2) ak)))))
 (aw (aY (aC 2 (ab 4)))
 (aY (aC 1 (ab 3))))
 aP))
def iY:cA:=(aw (au 1 (be aH))
 (aw (au 2 (be aH))
 (aw (b9 (aM (am bn (ad false (ab 0) ak))) dP
 cZ)
 (aI (ab 1)))))
def bC:List PyData→Option Sl:=fu 1 5 iY
def g9:gx:=(ar 0)
def f9:bv:=(ae aW false (ab 0) (ab 1))
def eQ:gx:=(ar 2)
def eS:cA:=(au 1 (ae aW false (ab 1) (cf [none,some 2] (aM (ab 1)) g9 di f9)))
def iZ:cA:=(aw (au 1 (be (aF (pC (.str "")) aH)))
 (aw (b9 (aM (ab 0)) eQ
 eS)
 (aI (ab 1))))
def ba:List PyData→Option Sl:=fu 1 3 iZ
def iI:cA:=(bp (dh (ae (eu (dZ .gt)) false (bx cS (ad false (ab 0) ak)) (pC (.int 10))))
 xg
 aP)
def bG:List PyData→Option Sl:=fu 1 1 iI
def g_:cA:=(aI (am dg (ad false (jG "" (ab 0)) ak)))
def cw:List PyData→Option Sl:=fu 1 1 g_
def dv:gx:=(ar 0)
def dw:bv:=(am dg (ad false (ab 0) ak))
def iJ:cA:=(aI (am bC (ad false (cf [none] (aM (ab 0)) dv di dw) ak)))
def bH:List PyData→Option Sl:=fu 1 1 iJ
def cE:gx:=(ar 0)
def cF:bv:=(am ce (ad false (ab 0) ak))
def cG:gx:=(ar 0)
def cH:bv:=(ab 0)
def bR:jD:=(gj (am cY (ad false (am ce (ad false (ab 0) ak)) (ad false (ab 1) ak))))
def fH:cA:=(aw (au 1 (cf [none] (aM (am bH (ad false (ab 0) ak))) cE di cF))
 (aw (au 2 (am cw (ad false (ab 0) ak)))
 (aw (aY (am bG (ad false (ab 2) ak)))
 (aI (am bC (ad false (cf [none,some 1] (aM (am ba (ad false (ab 2) ak))) cG bR cH) ak))))))
def cQ:List PyData→Option Sl:=fu 1 3 fH
def dH:gx:=(ar 0)
def dI:bv:=(ab 0)
def cI:jD:=(gj (am cc (ad false (ab 1) (ad false (ab 0) ak))))
def fI:cA:=(aw (au 1 (am d_ (ad false (ab 0) ak)))
 (aw (aY (am bG (ad false (ab 1) ak)))
 (aI (am bC (ad false (cf [none,some 0] (aM (am ba (ad false (ab 1) ak))) dH cI dI) ak)))))
def bT:List PyData→Option Sl:=fu 1 2 fI
def fJ:cA:=(aI (am cQ (ad false (am bT (ad false (ab 0) ak)) ak)))
def bU:List PyData→Option Sl:=fu 1 1 fJ
def m_:cA:=(aw (bp (dh (ae (eu (dZ .lt)) false (ab 1) (bx cS (ad false (ab 0) ak))))
 (aI (ae fO false (ab 0) (ab 1)))
 aP)
 (aI (pC (.int 0))))
def cJ:List PyData→Option Sl:=fu 2 2 m_
def lN:cA:=(aw (au 2 (ae ft false (ae aW false (ae aW false (ae gu false (ae ft false (ab 0) (ae o4 false (pC (.int 10)) (pC (.int 40)))) (ae aW false (pC (.int 62089911)) (ae gu false (pC (.int 2)) (ab 1)))) (ae gu false (pC (.int 982451653)) (ab 1))) (pC (.int 17))) (pC (.int 4294967291))))
 (aI (ae ft false (ae gu false (ab 2) (ae aW false (ae aW false (ae dq false (ab 2) (pC (.int 1024))) (ae gu false (pC (.int 2)) (ab 1))) (pC (.int 1)))) (pC (.int 4294967279)))))
def gY:List PyData→Option Sl:=fu 2 3 lN
def fj:gx:=(fB 2 (bB (ar 0) (bB (ar 1) fA)))
def dJ:bv:=(fS (aF (ab 0) (aF (ae fQ false (pC (.int 0)) (ab 1)) aH)))
def gD:cA:=(aI (cf [none,none] (rN (ab 0)) fj di dJ))
def cR:List PyData→Option Sl:=fu 1 1 gD
def bV:gx:=(ar 5)
def bW:cA:=(aw (au 6 (ab 1))
 (aw (bp (nC (dh (ae (eu (dZ .lt)) false (bx w5 (ad false (ab 0) ak)) (ae o4 false (pC (.int 10)) (pC (.int 18))))) (dh (fZ (dZ .lt) (dZ .lt) false false (jh f7 (pC (.int 28))) (ab 1) (pC (.int 28)))))
 (au 6 (am gY (ad false (ab 0) (ad false (ab 5) ak))))
 aP)
 (aw (aY (aC 4 (fS (aF (ae fO false (pC (.str "abcz")) (ae ft false (ab 6) (pC (.int 4)))) (aF (ae fQ false (ae ft false (ae dq false (ab 6) (pC (.int 4))) (pC (.int 7))) (pC (.int 3))) aH)))))
 (au 1 (ae dq false (ab 1) (pC (.int 28)))))))
def gE:cA:=(aw (au 1 (ae dq false (ab 0) (pC (.int 5))))
 (aw (bp (dh (ae gK false (ae ft false (ab 0) (pC (.int 5))) (pC (.int 2))))
 (aw (au 2 (ae fO false (pC (.str "abcdefghijklmnopqrstuvwxyz")) (ae ft false (ab 1) (pC (.int 26)))))
 (aI (be (aF (fS (aF (ab 2) (aF (ae fQ false (ae ft false (ae dq false (ab 1) (pC (.int 26))) (ae fQ false (ae gu false (pC (.int 2)) (ae o4 false (pC (.int 10)) (pC (.int 30)))) (pC (.int 1)))) (ae fQ false (ae o4 false (pC (.int 10)) (pC (.int 30))) (pC (.int 1)))) aH))) aH))))
 aP)
 (aw (au 3 (ae ft false (ab 1) (pC (.int 13))))
 (aw (au 1 (ae dq false (ab 1) (pC (.int 13))))
 (aw (au 4 (be aH))
 (aw (b9 (iN (ad false (ab 3) ak)) bV
 bW)
 (aI (ab 4))))))))
def c8:List PyData→Option Sl:=fu 1 7 gE
def bI:gx:=(ar 5)
def bJ:cA:=(aw (au 6 (ae ft false (ae dq false (ab 5) (pC (.int 5))) (ae aW false (bx cS (ad false (ab 4) ak)) (pC (.int 1)))))
 (aw (bp (dh (ae gK false (ae ft false (ab 5) (pC (.int 5))) (pC (.int 3))))
 (au 4 (ae aW false (ab 4) (am cR (ad false (nK false (ab 4) (iA (ab 6)) oE) ak))))
 (bp (dh (ae gK false (ae ft false (ab 5) (pC (.int 5))) (pC (.int 4))))
 (aw (au 7 (am c8 (ad false (ae dq false (ab 5) (pC (.int 5))) ak)))
 (aw (au 7 (ae aW false (ab 7) (am cR (ad false (ab 7) ak))))
 (au 4 (ae aW false (ae aW false (nK false (ab 4) oE (iA (ab 6))) (ab 7)) (nK false (ab 4) (iA (ab 6)) oE)))))
 (au 4 (ae aW false (ab 4) (am c8 (ad false (ab 5) ak))))))
 (au 4 (nK false (ab 4) oE (iA (ab 3))))))
def ke:cA:=(aw (au 4 (be aH))
 (aw (b9 (aM (ae aW false (be (aF (am cJ (ad false (ab 0) (ad false (ab 1) ak))) aH)) (nK false (ab 0) (iA (ae aW false (ab 1) (pC (.int 1)))) (iA (ab 2))))) bI
 bJ)
 (aI (ab 4))))
def dL:List PyData→Option Sl:=fu 4 8 ke
def dQ:gx:=(fB 2 (bB (ar 2) (bB (ar 3) fA)))
def bK:cA:=(aw (bp (dR (dh (ae lP false (ab 1) (be aH))) (dh (ae gK false (ae fO false (ae fO false (ab 1) (jh f7 (pC (.int 1)))) (pC (.int 0))) (ab 2))))
 (au 3 (ae aW true (ab 3) (ae fO false (lQ 1) (pC (.int 1)))))
 aP)
 (bp (dh (ae lP false (ab 3) (pC (.int 0))))
 (aY (aC 1 (fS (aF (ab 2) (aF (ab 3) aH)))))
 aP))
def hJ:gx:=(ar 0)
def hW:bv:=(ab 0)
def kh:cA:=(aw (au 1 (be aH))
 (aw (b9 (rN (ab 0)) dQ
 bK)
 (aI (cf [none] (rN (ab 1)) hJ di hW))))
def c9:List PyData→Option Sl:=fu 1 4 kh
def eT:gx:=(fB 2 (bB (ar 2) (bB (ar 3) fA)))
def eU:cA:=(bp (dh (ae (eu (dZ .lt)) false (ab 3) (pC (.int 0))))
 (aY (aC 1 (fS (aF (ab 2) (aF (ae fQ false (pC (.int 0)) (ae ft false (ae fQ false (pC (.int 0)) (ab 3)) (pC (.int 1000)))) aH)))))
 (aY (aC 1 (fS (aF (ab 2) (aF (ae ft false (ab 3) (pC (.int 1000))) aH))))))
def i3:cA:=(aw (bp (dh (ae (eu (dZ .lt)) false (bx cS (ad false (ab 0) ak)) (pC (.int 8))))
 (aI (ab 0))
 aP)
 (aw (au 1 (be aH))
 (aw (b9 (aM (ab 0)) eT
 eU)
 (aI (ab 1)))))
def ef:List PyData→Option Sl:=fu 1 4 i3
def eJ:gx:=(ar 4)
def eK:cA:=(aw (au 2 (ae gu false (ab 2) (ae fQ false (ab 0) (ab 4))))
 (au 3 (ae gu false (ab 3) (ae aW false (ab 4) (pC (.int 1))))))
def iK:cA:=(aw (au 2 (pC (.int 1)))
 (aw (au 3 (pC (.int 1)))
 (aw (b9 (iN (ad false (ab 1) ak)) eJ
 eK)
 (aI (ae dq false (ab 2) (ab 3))))))
def c_:List PyData→Option Sl:=fu 2 5 iK
def dl:jD:=(dR (dh (ae (eu (dZ .le)) false (ab 7) (ab 6))) (dh (ae gK false (ae fO false (ab 0) (ae fQ false (ab 6) (ab 7))) (ab 3))))
def dW:cA:=(aw (au 8 (am c_ (ad false (ab 4) (ad false (ab 7) ak))))
 (aw (tN 5 (ab 6) (ae aW false (ae fO false (ab 5) (ab 6)) (ae gu false (ae fO false (ab 2) (ae fQ false (ab 6) (ab 7))) (ab 8))))
 (au 7 (ae aW false (ab 7) (pC (.int 1))))))
def fK:gx:=(ar 6)
def dX:cA:=(aw (au 7 (pC (.int 1)))
 (nI dl dW))
def dY:gx:=(fB 2 (bB (ar 3) (bB (ar 4) fA)))
def fL:cA:=(aw (au 5 (j0 (ab 2)))
 (aw (b9 (nE (ad false (pC (.int 1)) (ad false (ae aW false (bx cS (ad false (ab 0) ak)) (pC (.int 1))) ak))) fK
 dX)
 (au 2 (ab 5))))
def ij:cA:=(aw (au 2 (ae aW false (be (aF (pC (.int 1)) aH)) (ae gu false (be (aF (pC (.int 0)) aH)) (bx cS (ad false (ab 0) ak)))))
 (aw (b9 (aM (ab 1)) dY
 fL)
 (aI (ae fO false (ab 2) (bx cS (ad false (ab 0) ak))))))
def dM:List PyData→Option Sl:=fu 2 9 ij
def dN:gx:=(ar 0)
def cK:bv:=(ae (yJ false) false (ab 0) (ab 1))
def bu:gx:=(ar 2)
def a8:cA:=(bp (gj (bx EN (ad false (cf [none,some 0] (aM (ab 2)) dN di cK) ak)))
 (aI (pC (.bool true)))
 aP)
def fM:cA:=(aw (b9 (aM (ab 1)) bu
 a8)
 (aI (pC (.bool false))))
def bA:List PyData→Option Sl:=fu 2 3 fM
def eW:gx:=(ar 0)
def eX:bv:=(ab 0)
def bL:jD:=(dh (ae (yJ false) false (ae fO false (ab 0) (pC (.int 0))) (ab 1)))
def gm:cA:=(aI (cf [none,some 1] (aM (ab 0)) eW bL eX))
def bD:List PyData→Option Sl:=fu 2 2 gm
def fV:gx:=(fB 2 (bB (ar 4) (bB (ar 5) fA)))
def fW:cA:=(aY (aC 3 (fS (aF (ae fO false (ab 1) (ae ft false (xG 2 (ab 4)) (bx cS (ad false (ab 1) ak)))) (aF (ab 5) aH)))))
def jJ:cA:=(aw (au 2 (pC (.str "abcdefghijklmnopqrstuvwxyz")))
 (aw (au 3 (be aH))
 (aw (b9 (aM (ab 0)) fV
 fW)
 (aI (ab 3)))))
def fN:List PyData→Option Sl:=fu 2 6 jJ
def f_:gx:=(ar 7)
def gb:cA:=(aw (au 5 (ae aW false (ab 5) (ae fO false (ab 1) (ae ft false (ab 6) (bx cS (ad false (ab 1) ak))))))
 (au 6 (ae dq false (ab 6) (bx cS (ad false (ab 1) ak)))))
def gc:gx:=(ar 4)
def gd:cA:=(aw (au 5 (pC (.str "")))
 (aw (au 6 (ae dq false (ab 4) (pC (.int 6))))
 (aw (b9 (iN (ad false (ae aW false (pC (.int 1)) (ae ft false (ab 4) (pC (.int 6)))) ak)) f_
 gb)
 (aY (aC 3 (ab 5))))))
def eY:gx:=(fB 2 (bB (ar 0) (bB (ar 1) fA)))
def eZ:bv:=(ab 0)
def gZ:cA:=(aw (au 3 (be aH))
 (aw (b9 (aM (ae aW false (be (aF (am cJ (ad false (ab 0) (ad false (pC (.int 0)) ak))) aH)) (nK false (ab 0) (iA (pC (.int 1))) (iA (pC (.int 12)))))) gc
 gd)
 (aw (bp (dh (fZ (dZ .lt) (dZ .le) false false (pC (.int 0)) (bx cS (ad false (ab 2) ak)) (pC (.int 20))))
 (aY (aC 3 (jG "" (cf [none,none] (aM (ab 2)) eY di eZ))))
 aP)
 (aI (ab 3)))))
def em:List PyData→Option Sl:=fu 3 8 gZ
def nh:gx:=(ar 0)
def ni:bv:=(ab 0)
def kX:jD:=(dh (ae lP false (ab 0) (ab 1)))
def kY:gx:=(ar 6)
def kZ:cA:=(bp (dh (ae lP false (am c9 (ad false (am bD (ad false (ab 2) (ad false (cf [none,some 6] (aM (ab 5)) nh kX ni) ak))) ak)) (be aH)))
 (aI (pC (.bool false)))
 aP)
def jK:gx:=(ar 5)
def jL:cA:=(aw (bp (dh (ae gK false (am c9 (ad false (am bD (ad false (ab 2) (ad false (ab 5) ak))) ak)) (be aH)))
 (aI (pC (.bool false)))
 aP)
 (b9 (aM (ab 5)) kY
 kZ))
def jM:gx:=(ar 7)
def jN:cA:=(aw (au 8 (am cr (ad false (ab 7) (ad false (ab 2) ak))))
 (aw (bp (nC (dh (ae lP false (ab 8) (am dM (ad false (ab 7) (ad false (am bD (ad false (ab 2) (ad false (ab 7) ak))) ak))))) (dh (ae lP false (ab 8) (am cr (ad false (ab 7) (ad false (am bD (ad false (ab 2) (ad false (ab 7) ak))) ak))))))
 (aI (pC (.bool false)))
 aP)
 (bp (dR (dh (ae lP false (ab 8) (pC (.int 0)))) (h7 (gj (am bA (ad false (ab 7) (ad false (ab 4) ak))))))
 (aI (pC (.bool false)))
 aP)))
def vY:cA:=(aw (au 1 (ae fO false (be (aF (pC (.str "bdmxy")) (aF (pC (.str "bdfhkmxy")) aH))) (bx Aj (ad false (ae gK false (ae ft false (ae dq false (am cJ (ad false (ab 0) (ad false (pC (.int 0)) ak))) (pC (.int 3))) (pC (.int 8))) (pC (.int 5))) ak))))
 (aw (au 2 (am ef (ad false (am fN (ad false (am dL (ad false (ab 0) (ad false (pC (.int 0)) (ad false (pC (.int 63)) (ad false (pC (.int 40)) ak))))) (ad false (ab 1) ak))) ak)))
 (aw (au 3 (am c9 (ad false (ab 2) ak)))
 (aw (au 4 (am bU (ad false (j0 (ab 2)) ak)))
 (aw (bp (nC (h7 (gj (jh (tM .list) (ab 4)))) (dh (ae lP false (ae gK false (ab 4) (be aH)) (ae gK false (ab 3) (be aH)))))
 (aI (pC (.bool false)))
 aP)
 (aw (b9 (aM (ab 4)) jK
 jL)
 (aw (b9 (aM (am em (ad false (ab 0) (ad false (ab 1) (ad false (ab 3) ak))))) jM
 jN)
 (aI (pC (.bool true))))))))))
def mr:List PyData→Option Sl:=fu 1 9 vY
end Nhk56
namespace Nhk56
open PySem L2 Nh PL
def kE(i:Nat):Stmt:=PySem.Challenge.pw_nailhang_k56_rows_have_holding_sets.main.body.getD i (.Pass ⟨0,0,0,0⟩)
section
variable {P:Program} {w:World} {K:Frag} {mg:Str→Option Value} {base:Heap}
abbrev nZ:Stmt:=kE 5
theorem xH:FnScope ["thing"] ["thing"] (ao nZ):=by and_intros
theorem xI (D:Def K mg "is_nail" nZ ["thing"]) (B:Bn mg):Own P w K mg base 1 "is_nail" ["thing"] (dr K gV):=by
 delta gV
 refine fD (g:=lH) D xH rfl rfl (by decide) fun f cdv A outer s H E hr=>?_
 delta lH
 exact(ah (aJ (Ca (w6 .str (by rfl) (by exact B.isinstance) (aa 0) (by rfl) (by exact B.str) PyProof.Rows.boot_str) (Ca (u_ hr.units (fz (by rfl) (by exact B.len) (af (aa 0) aq)) aj) (Ha (IW .le .le jX (aa 0) jX))))))
abbrev ki:Stmt:=kE 6
theorem sc_short_form:FnScope ["cord","runs","nail","turns","total"] ["cord"] (ao ki):=by and_intros
theorem qW (D:Def K mg "short_form" ki ["cord"]) (B:Bn mg):Own P w K mg base 1 "short_form" ["cord"] (dr K ck):=by
 delta ck
 refine fD (g:=iF) D sc_short_form rfl rfl (by decide) fun f cdv A outer s H E hr=>?_
 delta iF
 exact(ag (aA 1 sc_short_form.nd (cL bh))
 (ag (cq PassesOwn.never (by rfl) (bX (aa 0)) (by delta bb;exact(j4 (by rfl) (bZ (aB 2 sc_short_form.nd) (bZ (aB 3 sc_short_form.nd) iC))))
 (by delta bd;exact(ag (aA 4 sc_short_form.nd (aa 3))
 (ag (dS (vb (pY (jY (aa 1)) (mP (lU hr.units (eG (eG (aa 1) (mh aj)) aj) (aa 2)))))
 (ah (aA 4 sc_short_form.nd (bw (eG (Ck 1) aj) (aa 3))))
 bN)
 (ah (dS (mO hr.units (aa 4) aj)
 (ah (eB (df 1 (jZ (aZ (aa 2) (aZ (aa 4) bh))))))
 bN))))))
 (ah (aJ (aa 1)))))
abbrev n6:Stmt:=kE 7
theorem xJ:FnScope ["cord"] ["cord"] (ao n6):=by and_intros
theorem xK (D:Def K mg "is_fall" n6 ["cord"]) (B:Bn mg) (D_short_form:Own P w K mg base 1 "short_form" ["cord"] (dr K ck)):Own P w K mg base 2 "is_fall" ["cord"] (dr K gW):=by
 delta gW
 refine fD (g:=lI) D xJ rfl rfl (by decide) fun f cdv A outer s H E hr=>?_
 delta lI
 exact(ah (aJ (u_ hr.units (fz (by rfl) (by exact B.len) (af (aD D_short_form (hr.mono (by decide)) (by rfl) (af (aa 0) aq)) aq)) aj)))
abbrev iw:Stmt:=kE 9
theorem sc_piece_numbers:FnScope ["turns","most","numbers","count"] ["turns","most"] (ao iw):=by and_intros
theorem n8 (D:Def K mg "piece_numbers" iw ["turns","most"]) (B:Bn mg):Own P w K mg base 1 "piece_numbers" ["turns","most"] (dr K cb):=by
 delta cb
 refine fD (g:=eI) D sc_piece_numbers rfl rfl (by decide) fun f cdv A outer s H E hr=>?_
 delta eI
 exact(ag (aA 2 sc_piece_numbers.nd (cL (aZ aj bh)))
 (ag (cq PassesOwn.never (by rfl) (nG (by rfl) (by exact B.range) (af aj (af (bw (aa 1) aj) aq))) (by delta b_;exact(aB 3 sc_piece_numbers.nd))
 (by delta ca;exact(ah (eB (df 2 (fR (gQ (eG (aa 2) (mh aj)) (bw (gP (aa 0) (aa 3)) aj)) (aa 3)))))))
 (ah (aJ (aa 2)))))
abbrev i7:Stmt:=kE 10
theorem sc_stretches_of:FnScope ["row","lengths","place"] ["row"] (ao i7):=by and_intros
theorem o6 (D:Def K mg "stretches_of" i7 ["row"]) (B:Bn mg):Own P w K mg base 1 "stretches_of" ["row"] (dr K cN):=by
 delta cN
 refine fD (g:=gz) D sc_stretches_of rfl rfl (by decide) fun f cdv A outer s H E hr=>?_
 delta gz
 exact(ag (aA 1 sc_stretches_of.nd (cL bh))
 (ag (cq PassesOwn.never (by rfl) (lB (by rfl) (by exact B.range) (af (fz (by rfl) (by exact B.len) (af (aa 0) aq)) aq)) (by delta bP;exact(aB 2 sc_stretches_of.nd))
 (by delta bQ;exact(ah (dS (vb (pY (qe .gt (aa 2) aj) (mP (lU hr.units (eG (aa 0) (aa 2)) (eG (aa 0) (gP (aa 2) aj))))))
 (ah (eB (df 1 (bw (eG (aa 1) (mh aj)) aj))))
 (ah (eB (df 1 aj)))))))
 (ah (aJ (aa 1)))))
abbrev i8:Stmt:=kE 11
theorem sc_cuts_by_nail:FnScope ["row","stretches","cuts","place","count"] ["row","stretches"] (ao i8):=by and_intros
theorem o7 (D:Def K mg "cuts_by_nail" i8 ["row","stretches"]) (B:Bn mg):Own P w K mg base 1 "cuts_by_nail" ["row","stretches"] (dr K cO):=by
 delta cO
 refine fD (g:=fG) D sc_cuts_by_nail rfl rfl (by decide) fun f cdv A outer s H E hr=>?_
 delta fG
 exact(ag (aA 2 sc_cuts_by_nail.nd EL)
 (ag (cq PassesOwn.never (by rfl) (Am (by rfl) (by exact B.range) (af (gP (fz (by rfl) (by exact B.len) (af (aa 0) aq)) aj) (af (mh aj) (af (mh aj) aq)))) (by delta cC;exact(aB 3 sc_cuts_by_nail.nd))
 (by delta cD;exact(ah (cq PassesOwn.never (by rfl) (nG (by rfl) (by exact B.range) (af aj (af (bw (eG (aa 1) (aa 3)) aj) aq))) (by delta dG;exact(aB 4 sc_cuts_by_nail.nd))
 (by delta fg;exact(ah (CB 2 (eG (aa 0) (aa 3)) (jZ (aZ (bw (aa 3) aj) (aZ (aa 4) bh))))))))))
 (ah (aJ (aa 2)))))
abbrev k6:Stmt:=kE 12
theorem sc_add_piece:FnScope ["numbers","cuts","single","length","count"] ["numbers","cuts","single"] (ao k6):=by and_intros
theorem ul (D:Def K mg "add_piece" k6 ["numbers","cuts","single"]) (B:Bn mg):Own P w K mg base 1 "add_piece" ["numbers","cuts","single"] (Jb K mS):=by
 refine D.own sc_add_piece (fun vs H Q E h=>EQ h) (fun f cdv A outer s H vs Q E hr h=>?_)
 refine⟨_,(sS (BD PassesOwn.never rfl (yf (pv 1)) (By rfl (pK (sU (i:=3) sc_add_piece.nd rfl (Or.inl rfl)) (pK (sU (i:=4) sc_add_piece.nd rfl (Or.inl rfl)) ye)))
  (sS (BA (yg yy (uX ix_list (pv 0) (pv 3) (fun _ _=>rfl)) (yg yB (uX ix_list (pv 2) (pv 4) (fun _ _=>rfl)) (uX ix_list (pv 0) (yg yz (pv 3) (pv 4)) (fun _ _=>rfl)))) (Bz (pv 0) (pv 3) uZ))))),?_⟩
 exact ER h
abbrev mt:Stmt:=kE 13
theorem sc_times_in:FnScope ["row","cord","numbers","stretches","cuts","longest","nail","turns"] ["row","cord"] (ao mt):=by and_intros
theorem vZ (D:Def K mg "times_in" mt ["row","cord"]) (B:Bn mg) (D_stretches_of:Own P w K mg base 1 "stretches_of" ["row"] (dr K cN)) (D_cuts_by_nail:Own P w K mg base 1 "cuts_by_nail" ["row","stretches"] (dr K cO)) (D_short_form:Own P w K mg base 1 "short_form" ["cord"] (dr K ck)) (D_piece_numbers:Own P w K mg base 1 "piece_numbers" ["turns","most"] (dr K cb)) (D_add_piece:Own P w K mg base 1 "add_piece" ["numbers","cuts","single"] (Jb K mS)):Own P w K mg base 2 "times_in" ["row","cord"] (dr K cr):=by
 delta cr
 refine fD (g:=iX) D sc_times_in rfl rfl (by decide) fun f cdv A outer s H E hr=>?_
 delta iX
 exact(ag (aA 2 sc_times_in.nd (bw (cL (aZ aj bh)) (gQ (cL (aZ aj bh)) (fz (by rfl) (by exact B.len) (af (aa 0) aq)))))
 (ag (aA 3 sc_times_in.nd (aD D_stretches_of (hr.mono (by decide)) (by rfl) (af (aa 0) aq)))
 (ag (aA 4 sc_times_in.nd (aD D_cuts_by_nail (hr.mono (by decide)) (by rfl) (af (aa 0) (af (aa 3) aq))))
 (ag (aA 5 sc_times_in.nd (ET rfl (by rfl) (by exact B.max) (aa 3)))
 (ag (cq PassesOwn.never (by rfl) (bX (aD D_short_form (hr.mono (by decide)) (by rfl) (af (aa 1) aq))) (by delta eO;exact(j4 (by rfl) (bZ (aB 6 sc_times_in.nd) (bZ (aB 7 sc_times_in.nd) iC))))
 (by delta eP;exact(ah (dS (Hq 4 hr.units (aa 6))
 (ah (Ht 2 4 D_add_piece (hr.mono (by decide)) hr.units (by rfl) (aa 6) (aD D_piece_numbers (hr.mono (by decide)) (by rfl) (af (aa 7) (af (aa 5) aq)))))
 bN))))
 (ah (aJ (eG (aa 2) (fz (by rfl) (by exact B.len) (af (aa 0) aq))))))))))
abbrev qA:Stmt:=kE 15
theorem sc_set_of:FnScope ["nails","sign"] ["nails"] (ao qA):=by and_intros
theorem AS (D:Def K mg "set_of" qA ["nails"]) (B:Bn mg) (D_is_nail:Own P w K mg base 1 "is_nail" ["thing"] (dr K gV)):Own P w K mg base 2 "set_of" ["nails"] (dr K dg):=by
 delta dg
 refine fD (g:=m9) D sc_set_of rfl rfl (by decide) fun f cdv A outer s H E hr=>?_
 delta m9
 exact(ag (dS (pZ (jY (w6 .str (by rfl) (by exact B.isinstance) (aa 0) (by rfl) (by exact B.str) PyProof.Rows.boot_str)))
 (ah qg)
 bN)
 (ag (cq PassesOwn.never (by rfl) (bX (aa 0)) (by delta ig;exact(aB 1 sc_set_of.nd))
 (by delta ii;exact(ah (dS (pZ (jY (aD D_is_nail (hr.mono (by decide)) (by rfl) (af (aa 1) aq))))
 (ah qg)
 bN))))
 (ah (aJ (pB (qo rfl (by rfl) (by exact B.sorted) (by rfl) (by exact B.set) (aa 0)))))))
abbrev mz:Stmt:=kE 16
theorem v5:FnScope ["cord"] ["cord"] (ao mz):=by and_intros
theorem v6 (D:Def K mg "nails_of" mz ["cord"]) (B:Bn mg):Own P w K mg base 1 "nails_of" ["cord"] (dr K d_):=by
 delta d_
 refine fD (g:=kb) D v5 rfl rfl (by decide) fun f cdv A outer s H E hr=>?_
 delta kb
 exact(ah (aJ (pB (qo rfl (by rfl) (by exact B.sorted) (by rfl) (by exact B.set) (h9 (N:=["nail","turns"]) (js:=[none,none]) gO (by rfl) (bX (aa 0)) (fun _ _ _ _=>(by delta g7;exact(j4 (by rfl) (bZ (aB 0 (show(["nail","turns"]:List Str).Nodup by decide+kernel)) (bZ (aB 1 (show(["nail","turns"]:List Str).Nodup by decide+kernel)) iC))))) (fun _ _ _ _=>(by delta g8;exact(aa 0))))))))
abbrev n_:Stmt:=kE 17
theorem sc_without:FnScope ["cord","nails","drawn"] ["cord","nails"] (ao n_):=by and_intros
theorem xL (D:Def K mg "without" n_ ["cord","nails"]) (B:Bn mg) (D_set_of:Own P w K mg base 2 "set_of" ["nails"] (dr K dg)):Own P w K mg base 3 "without" ["cord","nails"] (dr K gX):=by
 delta gX
 refine fD (g:=lJ) D sc_without rfl rfl (by decide) fun f cdv A outer s H E hr=>?_
 delta lJ
 exact(ag (aA 2 sc_without.nd (aD D_set_of (hr.mono (by decide)) (by rfl) (af (aa 1) aq)))
 (ah (aJ (kK (N:=["piece","drawn"]) (js:=[none,some 2]) iP (by rfl) (bX (aa 0)) (fun _ _ _ _=>(by delta iG;exact(aB 0 (show(["piece","drawn"]:List Str).Nodup by decide+kernel)))) (fun _ _ _ _=>(by delta fU;exact(Hm (eG (aa 0) aj) (aa 1)))) (fun _ _ _ _=>(by delta iH;exact(aa 0)))))))
abbrev iy:Stmt:=kE 18
theorem oa:FnScope ["cord","nails"] ["cord","nails"] (ao iy):=by and_intros
theorem oe (D:Def K mg "falls_without" iy ["cord","nails"]) (B:Bn mg) (D_without:Own P w K mg base 3 "without" ["cord","nails"] (dr K gX)) (D_is_fall:Own P w K mg base 2 "is_fall" ["cord"] (dr K gW)):Own P w K mg base 4 "falls_without" ["cord","nails"] (dr K cc):=by
 delta cc
 refine fD (g:=gg) D oa rfl rfl (by decide) fun f cdv A outer s H E hr=>?_
 delta gg
 exact(ah (aJ (aD D_is_fall (hr.mono (by decide)) (by rfl) (af (aD D_without (hr.mono (by decide)) (by rfl) (af (aa 0) (af (aa 1) aq))) aq))))
abbrev og:Stmt:=kE 22
theorem sc_bits_of:FnScope ["nails","bits","bit","letter"] ["nails"] (ao og):=by and_intros
theorem xM (D:Def K mg "bits_of" og ["nails"]) (B:Bn mg) {t_LETTERS:Tok} (G_LETTERS:mg "LETTERS"=some (.str "abcdefghijklmnopqrstuvwxyz" t_LETTERS)):Own P w K mg base 1 "bits_of" ["nails"] (dr K ce):=by
 delta ce
 refine fD (g:=lK) D sc_bits_of rfl rfl (by decide) fun f cdv A outer s H E hr=>?_
 delta lK
 exact(ag (aA 1 sc_bits_of.nd aj)
 (ag (aA 2 sc_bits_of.nd aj)
 (ag (cq PassesOwn.never (by rfl) (bX (EY (by rfl) (by exact G_LETTERS))) (by delta gA;exact(aB 3 sc_bits_of.nd))
 (by delta gB;exact(ag (dS (Ga (aa 3) (aa 0))
 (ah (aA 1 sc_bits_of.nd (bw (aa 1) (aa 2))))
 bN)
 (ah (aA 2 sc_bits_of.nd (gQ (aa 2) aj))))))
 (ah (aJ (aa 1))))))
abbrev dC:Stmt:=kE 23
theorem oh:FnScope ["sets"] ["sets"] (ao dC):=by and_intros
theorem oi {c T:Addr} (D:DefT K mg "in_told_order" dC ["sets"] c T) (B:Bn mg):Own P w K mg base 1 "in_told_order" ["sets"] (dr K bn):=by
 delta bn
 refine Ki (g:=gh) D oh rfl rfl (by decide) fun f A outer s H E hr=>?_
 delta gh
 exact(ah (aJ (Da rfl D.tp D.hd hr (by rfl) (by exact B.sorted) (by exact B.len) (aa 0) (by show(Str.ofString "in_told_order"++Str.ofString ".<locals>.")++Str.ofString "<lambda>"=_;decide+kernel))))
abbrev g5:Stmt:=kE 24
theorem sc_has_part_among:FnScope ["bits","parts","part"] ["bits","parts"] (ao g5):=by and_intros
theorem nj (D:Def K mg "has_part_among" g5 ["bits","parts"]) (B:Bn mg):Own P w K mg base 1 "has_part_among" ["bits","parts"] (dr K aR):=by
 delta aR
 refine fD (g:=dU) D sc_has_part_among rfl rfl (by decide) fun f cdv A outer s H E hr=>?_
 delta dU
 exact(ag (cq PassesOwn.never (by rfl) (bX (aa 1)) (by delta bS;exact(aB 2 sc_has_part_among.nd))
 (by delta bq;exact(ah (dS (lU hr.units (yI (aa 2) (aa 0)) (aa 2))
 (ah (aJ kw))
 bN))))
 (ah (aJ kw)))
abbrev kj:Stmt:=kE 25
theorem sc_meets_each:FnScope ["bits","others","other"] ["bits","others"] (ao kj):=by and_intros
theorem qX (D:Def K mg "meets_each" kj ["bits","others"]) (B:Bn mg):Own P w K mg base 1 "meets_each" ["bits","others"] (dr K cY):=by
 delta cY
 refine fD (g:=gC) D sc_meets_each rfl rfl (by decide) fun f cdv A outer s H E hr=>?_
 delta gC
 exact(ag (cq PassesOwn.never (by rfl) (bX (aa 1)) (by delta du;exact(aB 2 sc_meets_each.nd))
 (by delta cP;exact(ah (dS (lU hr.units (yI (aa 2) (aa 0)) aj)
 (ah (aJ kw))
 bN))))
 (ah (aJ kw)))
abbrev mB:Stmt:=kE 26
theorem sc_least_of:FnScope ["sets","told","kept","nails","bits"] ["sets"] (ao mB):=by and_intros
theorem v7 (D:Def K mg "least_of" mB ["sets"]) (B:Bn mg) (D_in_told_order:Own P w K mg base 1 "in_told_order" ["sets"] (dr K bn)) (D_bits_of:Own P w K mg base 1 "bits_of" ["nails"] (dr K ce)) (D_has_part_among:Own P w K mg base 1 "has_part_among" ["bits","parts"] (dr K aR)):Own P w K mg base 2 "least_of" ["sets"] (dr K bC):=by
 delta bC
 refine fD (g:=iY) D sc_least_of rfl rfl (by decide) fun f cdv A outer s H E hr=>?_
 delta iY
 exact(ag (aA 1 sc_least_of.nd (cL bh))
 (ag (aA 2 sc_least_of.nd (cL bh))
 (ag (cq PassesOwn.never (by rfl) (bX (aD D_in_told_order (hr.mono (by decide)) (by rfl) (af (aa 0) aq))) (by delta dP;exact(aB 3 sc_least_of.nd))
 (by delta cZ;exact(ag (aA 4 sc_least_of.nd (aD D_bits_of (hr.mono (by decide)) (by rfl) (af (aa 3) aq)))
 (ah (dS (pZ (jY (aD D_has_part_among (hr.mono (by decide)) (by rfl) (af (aa 4) (af (aa 2) aq)))))
 (ag (eB (df 2 (aa 4)))
 (ah (eB (df 1 (aa 3)))))
 bN)))))
 (ah (aJ (aa 1))))))
abbrev mC:Stmt:=kE 27
theorem sc_all_sets:FnScope ["nails","sets","nail"] ["nails"] (ao mC):=by and_intros
theorem v8 (D:Def K mg "all_sets" mC ["nails"]) (B:Bn mg):Own P w K mg base 1 "all_sets" ["nails"] (dr K ba):=by
 delta ba
 refine fD (g:=iZ) D sc_all_sets rfl rfl (by decide) fun f cdv A outer s H E hr=>?_
 delta iZ
 exact(ag (aA 1 sc_all_sets.nd (cL (aZ jX bh)))
 (ag (cq PassesOwn.never (by rfl) (bX (aa 0)) (by delta eQ;exact(aB 2 sc_all_sets.nd))
 (by delta eS;exact(ah (aA 1 sc_all_sets.nd (bw (aa 1) (h9 (N:=["chosen","nail"]) (js:=[none,some 2]) iP (by rfl) (bX (aa 1)) (fun _ _ _ _=>(by delta g9;exact(aB 0 (show(["chosen","nail"]:List Str).Nodup by decide+kernel)))) (fun _ _ _ _=>(by delta f9;exact(bw (aa 0) (aa 1))))))))))
 (ah (aJ (aa 1)))))
abbrev kl:Stmt:=kE 28
theorem qY:FnScope ["nails"] ["nails"] (ao kl):=by and_intros
theorem qZ (D:Def K mg "check_many" kl ["nails"]) (B:Bn mg) {t_MOST_NAILS:Tok} (G_MOST_NAILS:mg "MOST_NAILS"=some (.int 10 t_MOST_NAILS)):Own P w K mg base 1 "check_many" ["nails"] (dr K bG):=by
 delta bG
 refine fD (g:=iI) D qY rfl rfl (by decide) fun f cdv A outer s H E hr=>?_
 delta iI
 exact(ah (dS (qe .gt (fz (by rfl) (by exact B.len) (af (aa 0) aq)) (EW (by rfl) (by exact G_MOST_NAILS)))
 (ah qg)
 bN))
abbrev jz:Stmt:=kE 29
theorem qB:FnScope ["sets"] ["sets"] (ao jz):=by and_intros
theorem qC (D:Def K mg "nails_among" jz ["sets"]) (B:Bn mg) (D_set_of:Own P w K mg base 2 "set_of" ["nails"] (dr K dg)):Own P w K mg base 3 "nails_among" ["sets"] (dr K cw):=by
 delta cw
 refine fD (g:=g_) D qB rfl rfl (by decide) fun f cdv A outer s H E hr=>?_
 delta g_
 exact(ah (aJ (aD D_set_of (hr.mono (by decide)) (by rfl) (af (pB (aa 0)) aq))))
abbrev km:Stmt:=kE 30
theorem q9:FnScope ["family"] ["family"] (ao km):=by and_intros
theorem q_ (D:Def K mg "least_sets" km ["family"]) (B:Bn mg) (D_set_of:Own P w K mg base 2 "set_of" ["nails"] (dr K dg)) (D_least_of:Own P w K mg base 2 "least_of" ["sets"] (dr K bC)):Own P w K mg base 3 "least_sets" ["family"] (dr K bH):=by
 delta bH
 refine fD (g:=iJ) D q9 rfl rfl (by decide) fun f cdv A outer s H E hr=>?_
 delta iJ
 exact(ah (aJ (aD D_least_of (hr.mono (by decide)) (by rfl) (af (h9 (N:=["nails"]) (js:=[none]) gO (by rfl) (bX (aa 0)) (fun _ _ _ _=>(by delta dv;exact(aB 0 (show(["nails"]:List Str).Nodup by decide+kernel)))) (fun _ _ _ _=>(by delta dw;exact(aD D_set_of (hr.mono (by decide)) (by rfl) (af (aa 0) aq))))) aq))))
abbrev i9:Stmt:=kE 31
theorem sc_meeting_sets:FnScope ["family","others","nails"] ["family"] (ao i9):=by and_intros
theorem o8 (D:Def K mg "meeting_sets" i9 ["family"]) (B:Bn mg) (D_least_sets:Own P w K mg base 3 "least_sets" ["family"] (dr K bH)) (D_bits_of:Own P w K mg base 1 "bits_of" ["nails"] (dr K ce)) (D_nails_among:Own P w K mg base 3 "nails_among" ["sets"] (dr K cw)) (D_check_many:Own P w K mg base 1 "check_many" ["nails"] (dr K bG)) (D_all_sets:Own P w K mg base 1 "all_sets" ["nails"] (dr K ba)) (D_meets_each:Own P w K mg base 1 "meets_each" ["bits","others"] (dr K cY)) (D_least_of:Own P w K mg base 2 "least_of" ["sets"] (dr K bC)):Own P w K mg base 4 "meeting_sets" ["family"] (dr K cQ):=by
 delta cQ
 refine fD (g:=fH) D sc_meeting_sets rfl rfl (by decide) fun f cdv A outer s H E hr=>?_
 delta fH
 exact(ag (aA 1 sc_meeting_sets.nd (h9 (N:=["nails"]) (js:=[none]) gO (by rfl) (bX (aD D_least_sets (hr.mono (by decide)) (by rfl) (af (aa 0) aq))) (fun _ _ _ _=>(by delta cE;exact(aB 0 (show(["nails"]:List Str).Nodup by decide+kernel)))) (fun _ _ _ _=>(by delta cF;exact(aD D_bits_of (hr.mono (by decide)) (by rfl) (af (aa 0) aq))))))
 (ag (aA 2 sc_meeting_sets.nd (aD D_nails_among (hr.mono (by decide)) (by rfl) (af (aa 0) aq)))
 (ag (eB (aD D_check_many (hr.mono (by decide)) (by rfl) (af (aa 2) aq)))
 (ah (aJ (aD D_least_of (hr.mono (by decide)) (by rfl) (af (kK (N:=["chosen","others"]) (js:=[none,some 1]) iP (by rfl) (bX (aD D_all_sets (hr.mono (by decide)) (by rfl) (af (aa 2) aq))) (fun _ _ _ _=>(by delta cG;exact(aB 0 (show(["chosen","others"]:List Str).Nodup by decide+kernel)))) (fun _ _ _ _=>(by delta bR;exact(jY (aD D_meets_each (hr.mono (by decide)) (by rfl) (af (aD D_bits_of (hr.mono (by decide)) (by rfl) (af (aa 0) aq)) (af (aa 1) aq)))))) (fun _ _ _ _=>(by delta cH;exact(aa 0)))) aq)))))))
abbrev i_:Stmt:=kE 33
theorem sc_falling_sets:FnScope ["cord","nails"] ["cord"] (ao i_):=by and_intros
theorem o9 (D:Def K mg "falling_sets" i_ ["cord"]) (B:Bn mg) (D_nails_of:Own P w K mg base 1 "nails_of" ["cord"] (dr K d_)) (D_check_many:Own P w K mg base 1 "check_many" ["nails"] (dr K bG)) (D_all_sets:Own P w K mg base 1 "all_sets" ["nails"] (dr K ba)) (D_falls_without:Own P w K mg base 4 "falls_without" ["cord","nails"] (dr K cc)) (D_least_of:Own P w K mg base 2 "least_of" ["sets"] (dr K bC)):Own P w K mg base 5 "falling_sets" ["cord"] (dr K bT):=by
 delta bT
 refine fD (g:=fI) D sc_falling_sets rfl rfl (by decide) fun f cdv A outer s H E hr=>?_
 delta fI
 exact(ag (aA 1 sc_falling_sets.nd (aD D_nails_of (hr.mono (by decide)) (by rfl) (af (aa 0) aq)))
 (ag (eB (aD D_check_many (hr.mono (by decide)) (by rfl) (af (aa 1) aq)))
 (ah (aJ (aD D_least_of (hr.mono (by decide)) (by rfl) (af (kK (N:=["chosen","cord"]) (js:=[none,some 0]) iP (by rfl) (bX (aD D_all_sets (hr.mono (by decide)) (by rfl) (af (aa 1) aq))) (fun _ _ _ _=>(by delta dH;exact(aB 0 (show(["chosen","cord"]:List Str).Nodup by decide+kernel)))) (fun _ _ _ _=>(by delta cI;exact(jY (aD D_falls_without (hr.mono (by decide)) (by rfl) (af (aa 1) (af (aa 0) aq)))))) (fun _ _ _ _=>(by delta dI;exact(aa 0)))) aq))))))
abbrev ja:Stmt:=kE 34
theorem o_:FnScope ["cord"] ["cord"] (ao ja):=by and_intros
theorem pc (D:Def K mg "holding_sets" ja ["cord"]) (B:Bn mg) (D_falling_sets:Own P w K mg base 5 "falling_sets" ["cord"] (dr K bT)) (D_meeting_sets:Own P w K mg base 4 "meeting_sets" ["family"] (dr K cQ)):Own P w K mg base 6 "holding_sets" ["cord"] (dr K bU):=by
 delta bU
 refine fD (g:=fJ) D o_ rfl rfl (by decide) fun f cdv A outer s H E hr=>?_
 delta fJ
 exact(ah (aJ (aD D_meeting_sets (hr.mono (by decide)) (by rfl) (af (aD D_falling_sets (hr.mono (by decide)) (by rfl) (af (aa 0) aq)) aq))))
abbrev qD:Stmt:=kE 36
theorem AT:FnScope ["_law_script","_law_k"] ["_law_script","_law_k"] (ao qD):=by and_intros
theorem AU (D:Def K mg "_law_at" qD ["_law_script","_law_k"]) (B:Bn mg):Own P w K mg base 1 "_law_at" ["_law_script","_law_k"] (dr K cJ):=by
 delta cJ
 refine fD (g:=m_) D AT rfl rfl (by decide) fun f cdv A outer s H E hr=>?_
 delta m_
 exact(ag (dS (qe .lt (aa 1) (fz (by rfl) (by exact B.len) (af (aa 0) aq)))
 (ah (aJ (eG (aa 0) (aa 1))))
 bN)
 (ah (aJ aj)))
abbrev oj:Stmt:=kE 37
theorem sc_law_mix:FnScope ["_law_cell","_law_k","_law_one"] ["_law_cell","_law_k"] (ao oj):=by and_intros
theorem xN (D:Def K mg "_law_mix" oj ["_law_cell","_law_k"]) (B:Bn mg):Own P w K mg base 1 "_law_mix" ["_law_cell","_law_k"] (dr K gY):=by
 delta gY
 refine fD (g:=lN) D sc_law_mix rfl rfl (by decide) fun f cdv A outer s H E hr=>?_
 delta lN
 exact(ag (aA 2 sc_law_mix.nd (e9 (bw (bw (gQ (e9 (aa 0) (tL aj aj)) (bw aj (gQ aj (aa 1)))) (gQ aj (aa 1))) aj) aj))
 (ah (aJ (e9 (gQ (aa 2) (bw (bw (fR (aa 2) aj) (gQ aj (aa 1))) aj)) aj))))
abbrev jb:Stmt:=kE 38
theorem pe:FnScope ["_law_cord_here"] ["_law_cord_here"] (ao jb):=by and_intros
theorem ph (D:Def K mg "_law_contrary" jb ["_law_cord_here"]) (B:Bn mg):Own P w K mg base 1 "_law_contrary" ["_law_cord_here"] (dr K cR):=by
 delta cR
 refine fD (g:=gD) D pe rfl rfl (by decide) fun f cdv A outer s H E hr=>?_
 delta gD
 exact(ah (aJ (h9 (N:=["_law_nail","_law_turns"]) (js:=[none,none]) gO (by rfl) (w_ (by rfl) (by exact B.reversed) (aa 0)) (fun _ _ _ _=>(by delta fj;exact(j4 (by rfl) (bZ (aB 0 (show(["_law_nail","_law_turns"]:List Str).Nodup by decide+kernel)) (bZ (aB 1 (show(["_law_nail","_law_turns"]:List Str).Nodup by decide+kernel)) iC))))) (fun _ _ _ _=>(by delta dJ;exact(jZ (aZ (aa 0) (aZ (gP aj (aa 1)) bh))))))))
abbrev kn:Stmt:=kE 39
theorem sc_law_pieces:FnScope ["_law_cell","_law_rest","_law_nail","_law_many","_law_found","_law_k","_law_value"] ["_law_cell"] (ao kn):=by and_intros
theorem rc (D:Def K mg "_law_pieces" kn ["_law_cell"]) (B:Bn mg) (D_law_mix:Own P w K mg base 1 "_law_mix" ["_law_cell","_law_k"] (dr K gY)):Own P w K mg base 2 "_law_pieces" ["_law_cell"] (dr K c8):=by
 delta c8
 refine fD (g:=gE) D sc_law_pieces rfl rfl (by decide) fun f cdv A outer s H E hr=>?_
 delta gE
 exact(ag (aA 1 sc_law_pieces.nd (fR (aa 0) aj))
 (ag (dS (lU hr.units (e9 (aa 0) aj) aj)
 (ag (aA 2 sc_law_pieces.nd (eG jX (e9 (aa 1) aj)))
 (ah (aJ (cL (aZ (jZ (aZ (aa 2) (aZ (gP (e9 (fR (aa 1) aj) (gP (gQ aj (tL aj aj)) aj)) (gP (tL aj aj) aj)) bh))) bh)))))
 bN)
 (ag (aA 3 sc_law_pieces.nd (e9 (aa 1) aj))
 (ag (aA 1 sc_law_pieces.nd (fR (aa 1) aj))
 (ag (aA 4 sc_law_pieces.nd (cL bh))
 (ag (cq PassesOwn.never (by rfl) (lB (by rfl) (by exact B.range) (af (aa 3) aq)) (by delta bV;exact(aB 5 sc_law_pieces.nd))
 (by delta bW;exact(ag (aA 6 sc_law_pieces.nd (aa 1))
 (ag (dS (vb (Cb (qe .lt (Hg (by rfl) (by exact B.abs) (af (aa 0) aq)) (tL aj aj)) (wY (F_ .lt .lt (mh aj) (aa 1) aj))))
 (ah (aA 6 sc_law_pieces.nd (aD D_law_mix (hr.mono (by decide)) (by rfl) (af (aa 0) (af (aa 5) aq)))))
 bN)
 (ag (eB (df 4 (jZ (aZ (eG jX (e9 (aa 6) aj)) (aZ (gP (e9 (fR (aa 6) aj) aj) aj) bh)))))
 (ah (aA 1 sc_law_pieces.nd (fR (aa 1) aj))))))))
 (ah (aJ (aa 4)))))))))
abbrev mD:Stmt:=kE 40
theorem sc_law_cord:FnScope ["_law_script","_law_first","_law_last","_law_most","_law_cord_here","_law_cell","_law_at_here","_law_pieces_here"] ["_law_script","_law_first","_law_last","_law_most"] (ao mD):=by and_intros
theorem v9 (D:Def K mg "_law_cord" mD ["_law_script","_law_first","_law_last","_law_most"]) (B:Bn mg) (D_law_at:Own P w K mg base 1 "_law_at" ["_law_script","_law_k"] (dr K cJ)) (D_law_contrary:Own P w K mg base 1 "_law_contrary" ["_law_cord_here"] (dr K cR)) (D_law_pieces:Own P w K mg base 2 "_law_pieces" ["_law_cell"] (dr K c8)):Own P w K mg base 3 "_law_cord" ["_law_script","_law_first","_law_last","_law_most"] (dr K dL):=by
 delta dL
 refine fD (g:=ke) D sc_law_cord rfl rfl (by decide) fun f cdv A outer s H E hr=>?_
 delta ke
 exact(ag (aA 4 sc_law_cord.nd (cL bh))
 (ag (cq PassesOwn.never (by rfl) (bX (bw (cL (aZ (aD D_law_at (hr.mono (by decide)) (by rfl) (af (aa 0) (af (aa 1) aq))) bh)) (nM (aa 0) (jl (bw (aa 1) aj)) (jl (aa 2))))) (by delta bI;exact(aB 5 sc_law_cord.nd))
 (by delta bJ;exact(ag (aA 6 sc_law_cord.nd (e9 (fR (aa 5) aj) (bw (fz (by rfl) (by exact B.len) (af (aa 4) aq)) aj)))
 (ag (dS (lU hr.units (e9 (aa 5) aj) aj)
 (ah (aA 4 sc_law_cord.nd (bw (aa 4) (aD D_law_contrary (hr.mono (by decide)) (by rfl) (af (nM (aa 4) (jl (aa 6)) pq) aq)))))
 (ah (dS (lU hr.units (e9 (aa 5) aj) aj)
 (ag (aA 7 sc_law_cord.nd (aD D_law_pieces (hr.mono (by decide)) (by rfl) (af (fR (aa 5) aj) aq)))
 (ag (aA 7 sc_law_cord.nd (bw (aa 7) (aD D_law_contrary (hr.mono (by decide)) (by rfl) (af (aa 7) aq))))
 (ah (aA 4 sc_law_cord.nd (bw (bw (nM (aa 4) pq (jl (aa 6))) (aa 7)) (nM (aa 4) (jl (aa 6)) pq))))))
 (ah (aA 4 sc_law_cord.nd (bw (aa 4) (aD D_law_pieces (hr.mono (by decide)) (by rfl) (af (aa 5) aq))))))))
 (ah (aA 4 sc_law_cord.nd (nM (aa 4) pq (jl (aa 3)))))))))
 (ah (aJ (aa 4)))))
abbrev mE:Stmt:=kE 41
theorem sc_law_runs:FnScope ["_law_cord_here","_law_runs_here","_law_nail","_law_turns"] ["_law_cord_here"] (ao mE):=by and_intros
theorem v_ (D:Def K mg "_law_runs" mE ["_law_cord_here"]) (B:Bn mg):Own P w K mg base 1 "_law_runs" ["_law_cord_here"] (dr K c9):=by
 delta c9
 refine fD (g:=kh) D sc_law_runs rfl rfl (by decide) fun f cdv A outer s H E hr=>?_
 delta kh
 exact(ag (aA 1 sc_law_runs.nd (cL bh))
 (ag (cq PassesOwn.never (by rfl) (w_ (by rfl) (by exact B.reversed) (aa 0)) (by delta dQ;exact(j4 (by rfl) (bZ (aB 2 sc_law_runs.nd) (bZ (aB 3 sc_law_runs.nd) iC))))
 (by delta bK;exact(ag (dS (vb (pY (mO hr.units (aa 1) (cL bh)) (mP (lU hr.units (eG (eG (aa 1) (mh aj)) aj) (aa 2)))))
 (ah (aA 3 sc_law_runs.nd (bw (aa 3) (eG (Ck 1) aj))))
 bN)
 (ah (dS (mO hr.units (aa 3) aj)
 (ah (eB (df 1 (jZ (aZ (aa 2) (aZ (aa 3) bh))))))
 bN)))))
 (ah (aJ (h9 (N:=["_law_run"]) (js:=[none]) gO (by rfl) (w_ (by rfl) (by exact B.reversed) (aa 1)) (fun _ _ _ _=>(by delta hJ;exact(aB 0 (show(["_law_run"]:List Str).Nodup by decide+kernel)))) (fun _ _ _ _=>(by delta hW;exact(aa 0))))))))
abbrev mF:Stmt:=kE 42
theorem sc_law_tame:FnScope ["_law_cord_here","_law_found","_law_nail","_law_turns"] ["_law_cord_here"] (ao mF):=by and_intros
theorem wa (D:Def K mg "_law_tame" mF ["_law_cord_here"]) (B:Bn mg):Own P w K mg base 1 "_law_tame" ["_law_cord_here"] (dr K ef):=by
 delta ef
 refine fD (g:=i3) D sc_law_tame rfl rfl (by decide) fun f cdv A outer s H E hr=>?_
 delta i3
 exact(ag (dS (qe .lt (fz (by rfl) (by exact B.len) (af (aa 0) aq)) aj)
 (ah (aJ (aa 0)))
 bN)
 (ag (aA 1 sc_law_tame.nd (cL bh))
 (ag (cq PassesOwn.never (by rfl) (bX (aa 0)) (by delta eT;exact(j4 (by rfl) (bZ (aB 2 sc_law_tame.nd) (bZ (aB 3 sc_law_tame.nd) iC))))
 (by delta eU;exact(ah (dS (qe .lt (aa 3) aj)
 (ah (eB (df 1 (jZ (aZ (aa 2) (aZ (gP aj (e9 (gP aj (aa 3)) aj)) bh))))))
 (ah (eB (df 1 (jZ (aZ (aa 2) (aZ (e9 (aa 3) aj) bh))))))))))
 (ah (aJ (aa 1))))))
abbrev kq:Stmt:=kE 43
theorem sc_law_chosen:FnScope ["_law_turns","_law_many","_law_above","_law_below","_law_k"] ["_law_turns","_law_many"] (ao kq):=by and_intros
theorem re (D:Def K mg "_law_chosen" kq ["_law_turns","_law_many"]) (B:Bn mg):Own P w K mg base 1 "_law_chosen" ["_law_turns","_law_many"] (dr K c_):=by
 delta c_
 refine fD (g:=iK) D sc_law_chosen rfl rfl (by decide) fun f cdv A outer s H E hr=>?_
 delta iK
 exact(ag (aA 2 sc_law_chosen.nd aj)
 (ag (aA 3 sc_law_chosen.nd aj)
 (ag (cq PassesOwn.never (by rfl) (lB (by rfl) (by exact B.range) (af (aa 1) aq)) (by delta eJ;exact(aB 4 sc_law_chosen.nd))
 (by delta eK;exact(ag (aA 2 sc_law_chosen.nd (gQ (aa 2) (gP (aa 0) (aa 4))))
 (ah (aA 3 sc_law_chosen.nd (gQ (aa 3) (bw (aa 4) aj)))))))
 (ah (aJ (fR (aa 2) (aa 3)))))))
abbrev k7:Stmt:=kE 44
theorem sc_law_times:FnScope ["_law_row","_law_cord_here","_law_sums","_law_nail","_law_turns","_law_later","_law_end","_law_many","_law_more"] ["_law_row","_law_cord_here"] (ao k7):=by and_intros
theorem um (D:Def K mg "_law_times" k7 ["_law_row","_law_cord_here"]) (B:Bn mg) (D_law_chosen:Own P w K mg base 1 "_law_chosen" ["_law_turns","_law_many"] (dr K c_)):Own P w K mg base 2 "_law_times" ["_law_row","_law_cord_here"] (dr K dM):=by
 delta dM
 refine fD (g:=ij) D sc_law_times rfl rfl (by decide) fun f cdv A outer s H E hr=>?_
 delta ij
 exact(ag (aA 2 sc_law_times.nd (bw (cL (aZ aj bh)) (gQ (cL (aZ aj bh)) (fz (by rfl) (by exact B.len) (af (aa 0) aq)))))
 (ag (cq PassesOwn.never (by rfl) (bX (aa 1)) (by delta dY;exact(j4 (by rfl) (bZ (aB 3 sc_law_times.nd) (bZ (aB 4 sc_law_times.nd) iC))))
 (by delta fL;exact(ag (aA 5 sc_law_times.nd (yE (by rfl) (by exact B.list) (aa 2)))
 (ag (cq PassesOwn.never (by rfl) (nG (by rfl) (by exact B.range) (af aj (af (bw (fz (by rfl) (by exact B.len) (af (aa 0) aq)) aj) aq))) (by delta fK;exact(aB 6 sc_law_times.nd))
 (by delta dX;exact(ag (aA 7 sc_law_times.nd aj)
 (ah (Ct PassesOwn.never (by delta dl;exact(vb (pY (qe .le (aa 7) (aa 6)) (mP (lU hr.units (eG (aa 0) (gP (aa 6) (aa 7))) (aa 3))))))
 (by delta dW;exact(ag (aA 8 sc_law_times.nd (aD D_law_chosen (hr.mono (by decide)) (by rfl) (af (aa 4) (af (aa 7) aq))))
 (ag (Cn 5 (bw (eG (aa 5) (aa 6)) (gQ (eG (aa 2) (gP (aa 6) (aa 7))) (aa 8))) (aa 6))
 (ah (aA 7 sc_law_times.nd (bw (aa 7) aj)))))))))))
 (ah (aA 2 sc_law_times.nd (aa 5)))))))
 (ah (aJ (eG (aa 2) (fz (by rfl) (by exact B.len) (af (aa 0) aq)))))))
abbrev jc:Stmt:=kE 45
theorem sc_law_has_part:FnScope ["_law_one","_law_sets","_law_other"] ["_law_one","_law_sets"] (ao jc):=by and_intros
theorem pi (D:Def K mg "_law_has_part" jc ["_law_one","_law_sets"]) (B:Bn mg):Own P w K mg base 1 "_law_has_part" ["_law_one","_law_sets"] (dr K bA):=by
 delta bA
 refine fD (g:=fM) D sc_law_has_part rfl rfl (by decide) fun f cdv A outer s H E hr=>?_
 delta fM
 exact(ag (cq PassesOwn.never (by rfl) (bX (aa 1)) (by delta bu;exact(aB 2 sc_law_has_part.nd))
 (by delta a8;exact(ah (dS (jY (Hr (by rfl) (by rfl) (by exact B.all) (af (h9 (N:=["_law_nail","_law_one"]) (js:=[none,some 0]) iP (by rfl) (bX (aa 2)) (fun _ _ _ _=>(by delta dN;exact(aB 0 (show(["_law_nail","_law_one"]:List Str).Nodup by decide+kernel)))) (fun _ _ _ _=>(by delta cK;exact(IZ (aa 0) (aa 1))))) aq)))
 (ah (aJ kw))
 bN))))
 (ah (aJ kw)))
abbrev mG:Stmt:=kE 46
theorem wb:FnScope ["_law_cord_here","_law_nails"] ["_law_cord_here","_law_nails"] (ao mG):=by and_intros
theorem wc (D:Def K mg "_law_kept" mG ["_law_cord_here","_law_nails"]) (B:Bn mg):Own P w K mg base 1 "_law_kept" ["_law_cord_here","_law_nails"] (dr K bD):=by
 delta bD
 refine fD (g:=gm) D wb rfl rfl (by decide) fun f cdv A outer s H E hr=>?_
 delta gm
 exact(ah (aJ (kK (N:=["_law_piece","_law_nails"]) (js:=[none,some 1]) iP (by rfl) (bX (aa 0)) (fun _ _ _ _=>(by delta eW;exact(aB 0 (show(["_law_piece","_law_nails"]:List Str).Nodup by decide+kernel)))) (fun _ _ _ _=>(by delta bL;exact(Ga (eG (aa 0) aj) (aa 1)))) (fun _ _ _ _=>(by delta eX;exact(aa 0))))))
abbrev on:Stmt:=kE 47
theorem sc_law_few:FnScope ["_law_cord_here","_law_names","_law_letters","_law_found","_law_nail","_law_turns"] ["_law_cord_here","_law_names"] (ao on):=by and_intros
theorem xO (D:Def K mg "_law_few" on ["_law_cord_here","_law_names"]) (B:Bn mg):Own P w K mg base 1 "_law_few" ["_law_cord_here","_law_names"] (dr K fN):=by
 delta fN
 refine fD (g:=jJ) D sc_law_few rfl rfl (by decide) fun f cdv A outer s H E hr=>?_
 delta jJ
 exact(ag (aA 2 sc_law_few.nd jX)
 (ag (aA 3 sc_law_few.nd (cL bh))
 (ag (cq PassesOwn.never (by rfl) (bX (aa 0)) (by delta fV;exact(j4 (by rfl) (bZ (aB 4 sc_law_few.nd) (bZ (aB 5 sc_law_few.nd) iC))))
 (by delta fW;exact(ah (eB (df 3 (jZ (aZ (eG (aa 1) (e9 (Dh 2 (aa 4)) (fz (by rfl) (by exact B.len) (af (aa 1) aq)))) (aZ (aa 5) bh))))))))
 (ah (aJ (aa 3))))))
abbrev mH:Stmt:=kE 48
theorem sc_law_rows:FnScope ["_law_script","_law_names","_law_runs_here","_law_rows_here","_law_cell","_law_row","_law_rest","_law_k"] ["_law_script","_law_names","_law_runs_here"] (ao mH):=by and_intros
theorem wd (D:Def K mg "_law_rows" mH ["_law_script","_law_names","_law_runs_here"]) (B:Bn mg) (D_law_at:Own P w K mg base 1 "_law_at" ["_law_script","_law_k"] (dr K cJ)):Own P w K mg base 2 "_law_rows" ["_law_script","_law_names","_law_runs_here"] (dr K em):=by
 delta em
 refine fD (g:=gZ) D sc_law_rows rfl rfl (by decide) fun f cdv A outer s H E hr=>?_
 delta gZ
 exact(ag (aA 3 sc_law_rows.nd (cL bh))
 (ag (cq PassesOwn.never (by rfl) (bX (bw (cL (aZ (aD D_law_at (hr.mono (by decide)) (by rfl) (af (aa 0) (af aj aq))) bh)) (nM (aa 0) (jl aj) (jl aj)))) (by delta gc;exact(aB 4 sc_law_rows.nd))
 (by delta gd;exact(ag (aA 5 sc_law_rows.nd jX)
 (ag (aA 6 sc_law_rows.nd (fR (aa 4) aj))
 (ag (cq PassesOwn.never (by rfl) (lB (by rfl) (by exact B.range) (af (bw aj (e9 (aa 4) aj)) aq)) (by delta f_;exact(aB 7 sc_law_rows.nd))
 (by delta gb;exact(ag (aA 5 sc_law_rows.nd (bw (aa 5) (eG (aa 1) (e9 (aa 6) (fz (by rfl) (by exact B.len) (af (aa 1) aq))))))
 (ah (aA 6 sc_law_rows.nd (fR (aa 6) (fz (by rfl) (by exact B.len) (af (aa 1) aq))))))))
 (ah (eB (df 3 (aa 5)))))))))
 (ag (dS (F_ .lt .le aj (fz (by rfl) (by exact B.len) (af (aa 2) aq)) aj)
 (ah (eB (df 3 (pB (h9 (N:=["_law_nail","_law_turns"]) (js:=[none,none]) gO (by rfl) (bX (aa 2)) (fun _ _ _ _=>(by delta eY;exact(j4 (by rfl) (bZ (aB 0 (show(["_law_nail","_law_turns"]:List Str).Nodup by decide+kernel)) (bZ (aB 1 (show(["_law_nail","_law_turns"]:List Str).Nodup by decide+kernel)) iC))))) (fun _ _ _ _=>(by delta eZ;exact(aa 0))))))))
 bN)
 (ah (aJ (aa 3))))))
abbrev qE:Stmt:=kE 49
theorem sc_law:FnScope ["_law_script","_law_names","_law_cord_here","_law_runs_here","_law_found","_law_one","_law_nail","_law_row","_law_times_here"] ["_law_script"] (ao qE):=by and_intros
theorem HE {f0:Addr} {fd:FuncData} (D:Fun K "law" "law" qE f0 fd) (B:Bn mg) (D_law_at:Own P w K mg base 1 "_law_at" ["_law_script","_law_k"] (dr K cJ)) (D_law_cord:Own P w K mg base 3 "_law_cord" ["_law_script","_law_first","_law_last","_law_most"] (dr K dL)) (D_law_few:Own P w K mg base 1 "_law_few" ["_law_cord_here","_law_names"] (dr K fN)) (D_law_tame:Own P w K mg base 1 "_law_tame" ["_law_cord_here"] (dr K ef)) (D_law_runs:Own P w K mg base 1 "_law_runs" ["_law_cord_here"] (dr K c9)) (D_holding_sets:Own P w K mg base 6 "holding_sets" ["cord"] (dr K bU)) (D_law_kept:Own P w K mg base 1 "_law_kept" ["_law_cord_here","_law_nails"] (dr K bD)) (D_law_rows:Own P w K mg base 2 "_law_rows" ["_law_script","_law_names","_law_runs_here"] (dr K em)) (D_times_in:Own P w K mg base 2 "times_in" ["row","cord"] (dr K cr)) (D_law_times:Own P w K mg base 2 "_law_times" ["_law_row","_law_cord_here"] (dr K dM)) (D_law_has_part:Own P w K mg base 1 "_law_has_part" ["_law_one","_law_sets"] (dr K bA)):FnOk P w K mg base zY 7 f0 fd ["_law_script"] (dr K mr):=by
 delta mr
 refine KD (g:=vY) D sc_law rfl rfl (by decide) fun cdv A outer s H E hr=>?_
 delta vY
 exact(ag (aA 1 sc_law.nd (eG (cL (aZ jX (aZ jX bh))) (EJ (by rfl) (by exact B.int) (af (u_ hr.units (e9 (fR (aD D_law_at (hr.mono (by decide)) (by rfl) (af (aa 0) (af aj aq))) aj) aj) aj) aq))))
 (ag (aA 2 sc_law.nd (aD D_law_tame (hr.mono (by decide)) (by rfl) (af (aD D_law_few (hr.mono (by decide)) (by rfl) (af (aD D_law_cord (hr.mono (by decide)) (by rfl) (af (aa 0) (af aj (af aj (af aj aq))))) (af (aa 1) aq))) aq)))
 (ag (aA 3 sc_law.nd (aD D_law_runs (hr.mono (by decide)) (by rfl) (af (aa 2) aq)))
 (ag (aA 4 sc_law.nd (aD D_holding_sets (hr.mono (by decide)) (by rfl) (af (yE (by rfl) (by exact B.list) (aa 2)) aq)))
 (ag (dS (vb (Cb (pZ (jY (w6 .list (by rfl) (by exact B.isinstance) (aa 4) (by rfl) (by exact B.list) PyProof.Rows.boot_list))) (wY (mO hr.units (u_ hr.units (aa 4) (cL bh)) (u_ hr.units (aa 3) (cL bh))))))
 (ah (aJ kw))
 bN)
 (ag (cq PassesOwn.never (by rfl) (bX (aa 4)) (by delta jK;exact(aB 5 sc_law.nd))
 (by delta jL;exact(ag (dS (lU hr.units (aD D_law_runs (hr.mono (by decide)) (by rfl) (af (aD D_law_kept (hr.mono (by decide)) (by rfl) (af (aa 2) (af (aa 5) aq))) aq)) (cL bh))
 (ah (aJ kw))
 bN)
 (ah (cq PassesOwn.never (by rfl) (bX (aa 5)) (by delta kY;exact(aB 6 sc_law.nd))
 (by delta kZ;exact(ah (dS (mO hr.units (aD D_law_runs (hr.mono (by decide)) (by rfl) (af (aD D_law_kept (hr.mono (by decide)) (by rfl) (af (aa 2) (af (kK (N:=["_law_other","_law_nail"]) (js:=[none,some 6]) iP (by rfl) (bX (aa 5)) (fun _ _ _ _=>(by delta nh;exact(aB 0 (show(["_law_other","_law_nail"]:List Str).Nodup by decide+kernel)))) (fun _ _ _ _=>(by delta kX;exact(mO hr.units (aa 0) (aa 1)))) (fun _ _ _ _=>(by delta ni;exact(aa 0)))) aq))) aq)) (cL bh))
 (ah (aJ kw))
 bN))))))))
 (ag (cq PassesOwn.never (by rfl) (bX (aD D_law_rows (hr.mono (by decide)) (by rfl) (af (aa 0) (af (aa 1) (af (aa 3) aq))))) (by delta jM;exact(aB 7 sc_law.nd))
 (by delta jN;exact(ag (aA 8 sc_law.nd (aD D_times_in (hr.mono (by decide)) (by rfl) (af (aa 7) (af (aa 2) aq))))
 (ag (dS (vb (Cb (mO hr.units (aa 8) (aD D_law_times (hr.mono (by decide)) (by rfl) (af (aa 7) (af (aD D_law_kept (hr.mono (by decide)) (by rfl) (af (aa 2) (af (aa 7) aq))) aq)))) (wY (mO hr.units (aa 8) (aD D_times_in (hr.mono (by decide)) (by rfl) (af (aa 7) (af (aD D_law_kept (hr.mono (by decide)) (by rfl) (af (aa 2) (af (aa 7) aq))) aq)))))))
 (ah (aJ kw))
 bN)
 (ah (dS (vb (pY (mO hr.units (aa 8) aj) (mP (pZ (jY (aD D_law_has_part (hr.mono (by decide)) (by rfl) (af (aa 7) (af (aa 4) aq))))))))
 (ah (aJ kw))
 bN))))))
 (ah (aJ kw)))))))))
end
end Nhk56
namespace Nhk56
open PySem L2 Nh PL
theorem oo(ns:List Int)(k:Nat):cJ [.list (ns.map .int),.int k]=some (.sh (.int (ns.getD k 0))):=by
 simp only[cJ,fu,Z4,Z5,Nat.reduceAdd,gH,m_,aw,bp,dh,ae,ab,bi,bE,f6,Nat.sub_self,List.replicate,Z9,Z8,Z3,Z2,Sl.isBr,bx,ad,ak,Z1,cS,eu,look,Sl.val,dZ,Cm.i,Cm.s,Z0,aO,aI,fO,e8,bY,aP,pC,bF,bg,aU]
 by_cases h:k < ns.length
 ·simp[h,f8,de]
 ·simp[h,List.getElem?_eq_none (Nat.le_of_not_lt h),de]
theorem xP(cell:Int)(k:Nat)(h:k≤1000000):∃z:Int,gY [.int cell,.int k]=some (.sh (.int z)):=by
 have a1:∀i:Int,dE i (62089911+2*(k:Int))=true:=fun i=>m4 (by omega) (by omega)
 have a2:dE 982451653 (k:Int)=true:=m4 (by omega) (by omega)
 have a3:dE 2 (k:Int)=true:=m4 (by omega) (by omega)
 have a4:∀i j:Int,dE (i % 4294967291) j=true:=fun i j=>yO (by have:=Int.emod_nonneg i (show(4294967291:Int)≠0 by decide);omega) (by have:=Int.emod_lt_of_pos i (show(0:Int) < 4294967291 by decide);omega)
 have d1:jk 1024=true:=by decide
 simp only[gY,fu,Z4,Z5,Nat.reduceAdd,gH,lN,aw,au,ae,ab,bi,bE,f6,Nat.reduceSub,List.replicate,Z9,Z8,Z2,Sl.isBr,pC,o4,eu,look,Sl.val,lz,Int.reducePow,Int.reduceNeg,Z0,Int.reduceLE,Int.reduceLT,and_self,Int.reduceToNat,Z1,ft,gu,e8,bY,aW,Z3,a3,a1,a2,PL.settle,frz,frzAll,Nat.reduceLT,Z7,Z6,aI,dq,d1,a4,bF,bg,de,aU]
 exact⟨_,rfl⟩
theorem aE{f g:cA}{E E1:List Sl}(h:f E=some (E1,.nx)):aw f g E=g E1:=by
 unfold aw
 rw[h]
 rfl
theorem jO{c:jD}{a b:cA}{E E1:List Sl}{r:Option (List Sl×Fl)}(h:c E=some (false,E1))(k:b E1=r):bp c a b E=r:=by
 unfold bp
 rw[h,←k]
 rfl
theorem mI{c:jD}{a b:cA}{E E1:List Sl}{r:Option (List Sl×Fl)}(h:c E=some (true,E1))(k:a E1=r):bp c a b E=r:=by
 unfold bp
 rw[h,←k]
 rfl
theorem pG{tg:gx}{elt:bv}{d r:PyData}{ds rs:List PyData}{E E1:List Sl}(t:tg d E=some E1)(el:elt E1=some (.sh r,E1))(h:cX tg di elt ds E1=some rs):cX tg di elt (d::ds) E=some (r::rs):=by
 rw[cX,t,Option.bind_some]
 simp only[di,Z0,el,frz,h,Z1,if_true]
def fm(a:Nat):PyData:=.str ⟨#[a]⟩
theorem nn:∀w:List Nat,aN (w.map fm)=true
 |[]=>rfl
 |a::w=>by simp[aN,de,nn w,fm]
def az(a:Nat):Prop:=97≤a∧a < 123
theorem mJ{a:Nat}(h:az a):a∈List.range' 97 26:=List.mem_range'_1.mpr ⟨h.1,h.2⟩
theorem aL{c:List PyData→Option Sl}{g:pR}{E E1:List Sl}{ss:List Sl}{ds:List PyData}{r:Sl}(h:g E=some (ss,E1))(hl:aO E1 ss=some ds)(hc:c ds=some r):am c g E=some (r,E1):=by
 unfold am
 rw[h,Option.bind_some]
 show(aO E1 ss).bind _=_
 rw[hl,Option.bind_some,hc]
 rfl
theorem Di{x:Int}{f:bv}{E:List Sl}{y:Int}{g:bv}(hf:g E=some (.sh (.int x),E))(h:f E=some (.sh (.int y),E))(ok:dE x y=true):ae gu false g f E=some (.sh (.int (x*y)),E):=by
 simp only[ae,gu,hf,h,Z0,look,Sl.val,ok,aU]
theorem we{x:Int}{f:bv}{E:List Sl}{y:Int}{g:bv}(hf:g E=some (.sh (.int x),E))(h:f E=some (.sh (.int y),E)):ae aW false g f E=some (.sh (.int (x+y)),E):=by
 simp only[ae,aW,hf,h,Z0,look,Sl.val,aU]
theorem jA{f:bv}{E E1:List Sl}{d:PyData}{i:Nat}(h:f E=some (.sh d,E1))(hi:i < E1.length):au i f E=some (E1.set i (.sh d),.nx):=by
 unfold au
 rw[h]
 simp only[Z0,PL.settle,hi,if_true]
theorem HF{x y:Int}{f g:bv}{E:List Sl}(hg:g E=some (.sh (.int x),E))(hf:f E=some (.sh (.int y),E)):ae lP false g f E=some (.sh (.bool (!decide (x=y))),E):=by
 simp only[ae,lP,eu,hg,hf,Z0,look,Sl.val,bO,Z1,aU]
theorem Jj{a b:jD}{E E1:List Sl}{r:Option (Bool×List Sl)}(h:a E=some (false,E1))(k:b E1=r):nC a b E=r:=by
 unfold nC
 rw[h,Option.bind_some]
 exact k
theorem pH(w:List Nat)(a:Nat):(Builtin.Str.occurrences ⟨w.toArray⟩ ⟨#[a]⟩ 0 (⟨w.toArray⟩:Str).length 1).isEmpty= !decide (a∈w):=by
 have h:=PySem.StrLaws.found_one ⟨w.toArray⟩ a
 rw[List.toList_toArray]at h
 rw[←h,Bool.not_not]
def il(a:Nat):Str:=⟨#[a]⟩
theorem wf{a b:Nat}(h:il a=il b):a=b:=by
 simp[il]at h;exact h
theorem Fj{a b:Nat}(h:a≤b):uI (il a) (il b)=true:=by
 have:[a]≤[b]:=by
  rcases Nat.lt_or_ge a b with k |k
  ·exact List.le_of_lt (List.Lex.rel k)
  ·rw[Nat.le_antisymm h k];exact List.le_refl _
 exact decide_eq_true this
theorem Fk(ks:List Str)(x y:Str):y∈D4 ks x↔y∈ks∨y=x:=by
 unfold D4
 split
 ·rename_i h
  exact⟨.inl,fun z=>z.elim id fun e=>e▸h⟩
 ·simp
theorem AV{ks:List Str}(h:ks.Nodup)(x:Str):(D4 ks x).Nodup:=by
 unfold D4
 split
 ·exact h
 ·rename_i k
  rw[Zav]
  refine⟨h,by simp,fun a ha b hb=>?_⟩
  rw[Zag.mp hb]
  exact fun e=>k (e▸ha)
theorem uo:∀(ss ks:List Str),ks.Nodup→(ss.foldl D4 ks).Nodup∧∀y,y∈ss.foldl D4 ks↔y∈ks∨y∈ss
 |[],ks,h=>⟨h,fun y=>by simp⟩
 |s::ss,ks,h=>by
  obtain⟨a,b⟩:=uo ss (D4 ks s) (AV h s)
  refine⟨a,fun y=>?_⟩
  rw[List.foldl_cons,b y,Fk,Zal,or_assoc]
theorem AW(ss:List Str):(kP ss).Nodup:=(uo ss [] List.nodup_nil).1
theorem Fm(ss:List Str)(y:Str):y∈kP ss↔y∈ss:=by
 rw[kP,(uo ss [] List.nodup_nil).2 y];simp
def cU(w:List Nat):List Nat:=(List.range' 97 26).filter fun a=>decide (a∈w)
theorem inOrd_mem{w:List Nat}{a:Nat}:a∈cU w↔a∈List.range' 97 26∧a∈w:=by simp[cU]
theorem qF{α:Type}[DecidableEq α]:∀{l m:List α},l.Nodup→m.Nodup→(∀a,a∈l↔a∈m)→l.Perm m
 |[],m,_,_,h=>by
  have:m=[]:=by
   cases m with
   |nil=>rfl
   |cons b m=>exact absurd ((h b).mpr (by simp)) (by simp)
  rw[this]
 |a::l,m,hl,hm,h=>by
  have ha:a∈m:=(h a).mp (by simp)
  have hl':=Zbm.mp hl
  have p:=List.perm_cons_erase ha
  refine((qF hl'.2 (hm.erase a) fun b=>?_).cons a).trans p.symm
  rw[List.Nodup.mem_erase_iff hm,←h b,Zal]
  exact⟨fun k=>⟨fun e=>hl'.1 (e▸k),.inr k⟩,fun k=>k.2.resolve_left k.1⟩
theorem xQ{w:List Nat}(h:w.Nodup):(w.map il).Nodup:=by
 rw[List.Nodup,List.pairwise_map]
 exact h.imp fun k e=>k (wf e)
theorem wg(w:List Nat):(cU w).Nodup:=List.Nodup.sublist List.filter_sublist (List.nodup_range' ..)
theorem uq(w:List Nat):((cU w).map il).Pairwise fun a b=>uI a b=true:=by
 rw[List.pairwise_map]
 have h:(List.range' 97 26).Pairwise (· < ·):=List.pairwise_lt_range'
 exact(h.sublist List.filter_sublist).imp fun k=>Fj (ma k)
theorem qG{w:List Nat}(hw:∀a∈w,a∈List.range' 97 26):oG (kP (w.map il))=(cU w).map il:=by
 refine(List.Perm.eq_of_pairwise (fun _ _ _ _ h k=>vy h k) (uq w) (List.pairwise_mergeSort nQ rY _) ?_).symm
 refine List.Perm.trans ?_ (List.mergeSort_perm _ uI).symm
 refine qF (xQ (wg w)) (AW _) fun y=>?_
 rw[Fm,Zbc,Zbc]
 constructor
 ·rintro⟨a,ha,rfl⟩
  exact⟨a,(inOrd_mem.mp ha).2,rfl⟩
 ·rintro⟨a,ha,rfl⟩
  exact⟨a,inOrd_mem.mpr ⟨hw a ha,ha⟩,rfl⟩
theorem y_{w:List Nat}(hw:∀a∈w,a∈List.range' 97 26):(kP (w.map il)).length≤26:=by
 rw[←r8,qG hw,fw]
 refine jn (List.length_filter_le _ _) (by simp)
theorem Fn{a:Nat}(h:az a):decide ([a] < (Str.ofString "a").cps.toList)=false:=by
 have e:(Str.ofString "a").cps.toList=[97]:=by decide+kernel
 rw[e]
 refine decide_eq_false fun k=>?_
 have:a < 97:=by
  cases k with
  |rel k=>exact k
  |cons k=>cases k
 exact absurd this (Nat.not_lt.mpr h.1)
theorem Fo{a:Nat}(h:az a):decide ((Str.ofString "z").cps.toList < [a])=false:=by
 have e:(Str.ofString "z").cps.toList=[122]:=by decide+kernel
 rw[e]
 refine decide_eq_false fun k=>?_
 have:122 < a:=by
  cases k with
  |rel k=>exact k
  |cons k=>cases k
 exact absurd this (Nat.not_lt.mpr (Nat.le_of_lt_succ h.2))
theorem xR{a:Nat}(h:az a):gV [.str ⟨#[a]⟩]=some (.sh (.bool true)):=by
 have l:(⟨#[a]⟩:Str).length=1:=rfl
 have t:(#[a]:Array Nat).toList=[a]:=rfl
 have lo:=Fn h
 have hi:=Fo h
 simp only[gV,fu,Z4,Z5,gH,lH,aI,yC,jh,ab,bi,bE,f6,Nat.sub_self,List.replicate,Z9,Z8,Z2,look,Sl.val,tM,Ty.is,Hh,Z1,Z0,ae,bx,ad,Sl.isBr,ak,cS,pC,gK,eu,fZ,Bool.or_false,dZ,Cm.i,Cm.s,aO,l,Nat.reduceLeDiff,Int.cast_ofNat_Int,bO,hi,lo,bF,bg,de,aU]
theorem sI(x0:Sl):∀(w:List Nat) (a:Sl),(∀y∈w,az y)→∃a',aK ig ii (w.map fm) [x0,a]=some ([x0,a'],.nx)
 |[],a,_=>⟨a,rfl⟩
 |y::w,a,h=>by
  have n:=xR (h y (gJ ..))
  have e:(ig (fm y) [x0,a]).bind ii=some ([x0,.sh (fm y)],.nx):=by
   simp only[ig,ar,Z4,Z5,Nat.reduceAdd,Nat.reduceLT,fm,Z7,Z6,ii,Z0,bp,h7,gj,am,ad,ab,Z3,Z2,Sl.isBr,ak,Z1,aO,look,Sl.val,n,jE,aP,aU]
  obtain⟨a',ih⟩:=sI x0 w (.sh (fm y)) fun z hz=>h z (gq _ hz)
  refine⟨a',?_⟩
  rw[bE,aK,e]
  exact ih
theorem ur(w:List Nat):iO ⟨w.toArray⟩=w.map fm:=by simp[iO,fm]
theorem Jk(w:List Nat):mV ⟨w.toArray⟩=w.map il:=by simp[mV,il]
theorem wj:∀(w:List Nat),mT (w.map fm)=some (w.map il)
 |[]=>rfl
 |a::w=>by simp only[bE,fm,mT];rw[wj w];rfl
theorem qH(w:List Nat):iq ((w.map il).map PyData.str)=some (w.map il):=by
 induction w with
 |nil=>rfl
 |cons a w ih=>simp only[bE,iq,ih,Z1]
theorem k8:∀(w:List Nat),iq (w.map fm)=some (w.map il)
 |[]=>rfl
 |a::w=>by simp only[bE,fm,iq];rw[k8 w];rfl
theorem ut(w:List Nat):((w.map il).map (·.length)).sum+(w.map il).length*(Str.ofString "").length=w.length:=by
 have:(Str.ofString "").length=0:=rfl
 rw[this,Nat.mul_zero,Nat.add_zero]
 induction w with
 |nil=>rfl
 |cons a w ih=>simp only[bE,List.sum_cons,ih,Z4];show 1+_=_;omega
theorem qI:∀(w:List Nat),Txt.join "" (w.map il)=⟨w.toArray⟩:=by
 intro w
 show Builtin.Str.glued "" _=_
 rw[StrLaws.glued_eq_join]
 induction w with
 |nil=>rfl
 |cons a w ih=>
  cases w with
  |nil=>rfl
  |cons b w=>
   have e:Str.join "" ((a::b::w).map il)=(⟨#[a]⟩:Str)++""++Str.join "" ((b::w).map il):=rfl
   rw[e,ih]
   show(⟨(#[a]++(Str.ofString "").cps)++(b::w).toArray⟩:Str)=_
   rw[show(Str.ofString "").cps=#[] by decide+kernel]
   simp
theorem sJ(w:List Nat):(cU w).length≤1000000:=jn (List.length_filter_le _ _) (by simp)
theorem oq{w:List Nat}(h:∀y∈w,az y)(hl:w.length≤3900):dg [.str ⟨w.toArray⟩]=some (.sh (.str ⟨(cU w).toArray⟩)):=by
 obtain⟨a,e⟩:=sI (.sh (.str ⟨w.toArray⟩)) w .no h
 have d:=qG fun y hy=>mJ (h y hy)
 have d2:(w.map il).length < 4000∧(kP (w.map il)).length < 64:=⟨by rw[fw];omega,oW (y_ fun y hy=>mJ (h y hy)) (by decide)⟩
 have l:=ut (cU w)
 have l2:=sJ w
 simp only[dg,fu,Z4,Z5,gH,m9,aw,bp,h7,gj,jh,ab,bi,bE,f6,Nat.reduceSub,List.replicate,Z9,Z8,Z2,look,Sl.val,tM,Ty.is,Hh,Z1,Z0,jE,aP,b9,aM,frz,aI,jG,kQ,rS,ur,e,Jk,d2,and_self,d,qH,l,l2,qI,bF,bg,de,aU]
theorem AY:(Str.ofString "abcdefghijklmnopqrstuvwxyz")=(⟨(List.range' 97 26).toArray⟩:Str):=by decide+kernel
theorem HG(w:List Nat)(a:Nat):EH (.str ⟨#[a]⟩) (.str ⟨w.toArray⟩)=some (decide (a∈w)):=by
 show some (!(Builtin.Str.occurrences ⟨w.toArray⟩ ⟨#[a]⟩ 0 (⟨w.toArray⟩:Str).length 1).isEmpty)=_
 rw[pH,Bool.not_not]
theorem Jl{E:List Sl}{f g:bv}{d1 d2:PyData}{b:Bool}(hf:f E=some (.sh d1,E))(hg:g E=some (.sh d2,E))(hd:EH d1 d2=some b):dh (ae (yJ false) false f g) E=some (b,E):=by
 simp only[dh,ae,yJ,eu,hf,hg,hd,Z0,look,Sl.val,Z1,aU]
theorem Fp(w:List Nat)(n:Nat)(c:Nat)(hc:c=97+n)(p:Int)(hp:p=2 ^ n)(a:Sl):(gA (.str ⟨#[c]⟩) [.sh (.str ⟨w.toArray⟩),.sh (.int (NH.eD w n)),.sh (.int p),a]).bind gB=some ([.sh (.str ⟨w.toArray⟩),.sh (.int (NH.eD w (n+1))),.sh (.int (p*2)),.sh (.str ⟨#[c]⟩)],.nx):=by
 have i1:=HG w c
 have ok:dE p 2=true:=m4 (by decide) (by decide)
 have b:(NH.eD w (n+1):Int)=if c∈w then (NH.eD w n:Int)+p else (NH.eD w n:Int):=by
  rw[NH.eD,hc,hp]
  split
  ·push_cast;rfl
  ·simp
 generalize (NH.eD w (n+1):Int)=B1 at b ⊢
 generalize (NH.eD w n:Int)=B0 at b ⊢
 have tg:gA (.str ⟨#[c]⟩) [.sh (.str ⟨w.toArray⟩),.sh (.int B0),.sh (.int p),a]=some [.sh (.str ⟨w.toArray⟩),.sh (.int B0),.sh (.int p),.sh (.str ⟨#[c]⟩)]:=rfl
 have t1:dh (ae (yJ false) false (ab 3) (ab 0)) [.sh (.str ⟨w.toArray⟩),.sh (.int B0),.sh (.int p),.sh (.str ⟨#[c]⟩)]=some (decide (c∈w),[.sh (.str ⟨w.toArray⟩),.sh (.int B0),.sh (.int p),.sh (.str ⟨#[c]⟩)]):=Jl rfl rfl i1
 have s2:∀x:Int,au 2 (ae gu false (ab 2) (pC (.int 2))) [.sh (.str ⟨w.toArray⟩),.sh (.int x),.sh (.int p),.sh (.str ⟨#[c]⟩)]=some ([.sh (.str ⟨w.toArray⟩),.sh (.int x),.sh (.int (p*2)),.sh (.str ⟨#[c]⟩)],.nx):=fun x=>jA (Di (g:=ab 2) (f:=pC (.int 2)) rfl rfl ok) (show 2 < 4 by decide)
 rw[tg,Option.bind_some,gB]
 by_cases h:c∈w
 ·rw[if_pos h]at b
  rw[decide_eq_true h]at t1
  have s1:au 1 (ae aW false (ab 1) (ab 2)) [.sh (.str ⟨w.toArray⟩),.sh (.int B0),.sh (.int p),.sh (.str ⟨#[c]⟩)]=some ([.sh (.str ⟨w.toArray⟩),.sh (.int B1),.sh (.int p),.sh (.str ⟨#[c]⟩)],.nx):=by
   rw[b]
   exact jA (we (g:=ab 1) (f:=ab 2) rfl rfl) (show 1 < 4 by decide)
  rw[aE (mI t1 s1)]
  exact s2 B1
 ·rw[if_neg h]at b
  rw[decide_eq_false h]at t1
  rw[aE (jO (b:=aP) t1 rfl),b]
  exact s2 B0
theorem za(w:List Nat):∀(k n:Nat) (a:Sl),n+k=26→∃a' b',aK gA gB ((List.range' (97+n) k).map fun c=>.str ⟨#[c]⟩) [.sh (.str ⟨w.toArray⟩),.sh (.int (NH.eD w n)),.sh (.int (2 ^ n)),a]=some ([.sh (.str ⟨w.toArray⟩),.sh (.int (NH.b7 w)),b',a'],.nx)
 | 0,n,a,h=>⟨a,.sh (.int (2 ^ n)),by rw[show n=26 by omega];rfl⟩
 |k+1,n,a,h=>by
  have s:=Fp w n (97+n) rfl (2 ^ n) rfl a
  rw[(Int.pow_succ 2 n).symm]at s
  obtain⟨a',b',e⟩:=za w k (n+1) (.sh (.str ⟨#[97+n]⟩)) (by omega)
  refine⟨a',b',?_⟩
  rw[List.range'_succ,bE,aK,s]
  exact e
theorem mK(w:List Nat):ce [.str ⟨w.toArray⟩]=some (.sh (.int (NH.b7 w))):=by
 obtain⟨a,b,e⟩:=za w 26 0 .no rfl
 have z0:((NH.eD w 0:Nat):Int)=0:=rfl
 have z1:(2:Int) ^ 0=1:=rfl
 rw[z0,z1,Nat.add_zero]at e
 have sg:iO (⟨(List.range' 97 26).toArray⟩:Str)=(List.range' 97 26).map fun c=>.str ⟨#[c]⟩:=by simp[iO]
 simp only[ce,fu,Z4,Z5,gH,lK,aw,au,pC,bi,bE,f6,Nat.reduceSub,List.replicate,Z9,Z8,PL.settle,frz,frzAll,Z0,Nat.reduceAdd,Nat.reduceLT,Z7,Z6,b9,aM,AY,sg,aI,ab,e,Z3,Z2,bF,bg,de,aU]
theorem xS(a b:Nat):Builtin.bitAnd (a:Int) (b:Int)=((a &&& b:Nat):Int):=by
 simp[Builtin.bitAnd]
theorem Dj{E:List Sl}{f g:bv}{x y:Nat}(hf:f E=some (.sh (.int x),E))(hg:g E=some (.sh (.int y),E)):ae xb false f g E=some (.sh (.int ((x &&& y:Nat):Int)),E):=by
 simp only[ae,xb,eu,lz,hf,hg,Z0,look,Sl.val,Z1,xS,aU]
theorem Gg{E:List Sl}{f g:bv}{x y:Int}(hf:f E=some (.sh (.int x),E))(hg:g E=some (.sh (.int y),E)):dh (ae gK false f g) E=some (decide (x=y),E):=by
 simp only[dh,ae,gK,eu,hf,hg,Z0,look,Sl.val,Z1,bO,aU]
def nr(n:Nat):PyData:=.int n
theorem zb(x1:Sl)(b:Nat):∀(ps:List Nat) (a:Sl),∃E,aK bS bq (ps.map nr) [.sh (.int b),x1,a]=some (E,if ps.any (fun p=>decide (p &&& b=p))then .rt (.sh (.bool true))else .nx)
 |[],a=>⟨_,rfl⟩
 |p::ps,a=>by
  have t1:dh (ae gK false (ae xb false (ab 2) (ab 0)) (ab 2)) [.sh (.int b),x1,.sh (.int p)]=some (decide (((p &&& b:Nat):Int)=(p:Int)),[.sh (.int b),x1,.sh (.int p)]):=Gg (Dj (f:=ab 2) (g:=ab 0) (x:=p) (y:=b) rfl rfl) rfl
  have tg:bS (nr p) [.sh (.int b),x1,a]=some [.sh (.int b),x1,.sh (.int p)]:=rfl
  by_cases h:p &&& b=p
  ·rw[decide_eq_true (by rw[h])]at t1
   refine⟨[.sh (.int b),x1,.sh (.int p)],?_⟩
   have st:(bS (nr p) [.sh (.int b),x1,a]).bind bq=some ([.sh (.int b),x1,.sh (.int p)],.rt (.sh (.bool true))):=by
    rw[tg,Option.bind_some,bq]
    exact mI t1 rfl
   rw[bE,aK,st,List.any_cons,decide_eq_true h]
   rfl
  ·rw[decide_eq_false (by omega)]at t1
   obtain⟨E,ih⟩:=zb x1 b ps (.sh (.int p))
   refine⟨E,?_⟩
   have st:(bS (nr p) [.sh (.int b),x1,a]).bind bq=some ([.sh (.int b),x1,.sh (.int p)],.nx):=by
    rw[tg,Option.bind_some,bq]
    exact jO t1 rfl
   rw[bE,aK,st,List.any_cons,decide_eq_false h,Bool.false_or]
   exact ih
theorem Fq(b:Nat)(ps:List Nat):aR [.int b,.list (ps.map nr)]=some (.sh (.bool (ps.any fun p=>decide (p &&& b=p)))):=by
 obtain⟨E,e⟩:=zb (.sh (.list (ps.map nr))) b ps .no
 cases h:ps.any (fun p=>decide (p &&& b=p))with
 |true=>
  rw[h]at e
  simp only[if_true]at e
  simp only[aR,fu,Z4,Z5,Nat.reduceAdd,gH,dU,aw,b9,aM,ab,bi,bE,f6,Nat.reduceSub,List.replicate,Z9,Z8,Z3,Z2,frz,Z0,e,aI,pC,bF,bg,de,aU]
 |false=>
  rw[h]at e
  simp only[aU]at e
  simp only[aR,fu,Z4,Z5,Nat.reduceAdd,gH,dU,aw,b9,aM,ab,bi,bE,f6,Nat.reduceSub,List.replicate,Z9,Z8,Z3,Z2,frz,Z0,e,aI,pC,bF,bg,de,aU]
theorem wk(x1:Sl)(b:Nat):∀(ps:List Nat) (a:Sl),∃E,aK du cP (ps.map nr) [.sh (.int b),x1,a]=some (E,if ps.all (fun p=> !decide (p &&& b=0))then .nx else .rt (.sh (.bool false)))
 |[],a=>⟨_,rfl⟩
 |p::ps,a=>by
  have t1:dh (ae gK false (ae xb false (ab 2) (ab 0)) (pC (.int 0))) [.sh (.int b),x1,.sh (.int p)]=some (decide (((p &&& b:Nat):Int)=0),[.sh (.int b),x1,.sh (.int p)]):=Gg (Dj (f:=ab 2) (g:=ab 0) (x:=p) (y:=b) rfl rfl) rfl
  have tg:du (nr p) [.sh (.int b),x1,a]=some [.sh (.int b),x1,.sh (.int p)]:=rfl
  by_cases h:p &&& b=0
  ·rw[decide_eq_true (by rw[h];rfl)]at t1
   refine⟨[.sh (.int b),x1,.sh (.int p)],?_⟩
   have st:(du (nr p) [.sh (.int b),x1,a]).bind cP=some ([.sh (.int b),x1,.sh (.int p)],.rt (.sh (.bool false))):=by
    rw[tg,Option.bind_some,cP]
    exact mI t1 rfl
   rw[bE,aK,st,List.all_cons,decide_eq_true h]
   rfl
  ·rw[decide_eq_false (by omega)]at t1
   obtain⟨E,ih⟩:=wk x1 b ps (.sh (.int p))
   refine⟨E,?_⟩
   have st:(du (nr p) [.sh (.int b),x1,a]).bind cP=some ([.sh (.int b),x1,.sh (.int p)],.nx):=by
    rw[tg,Option.bind_some,cP]
    exact jO t1 rfl
   rw[bE,aK,st,List.all_cons,decide_eq_false h,Bool.not_false,Bool.true_and]
   exact ih
theorem Dk(b:Nat)(ps:List Nat):cY [.int b,.list (ps.map nr)]=some (.sh (.bool (ps.all fun p=> !decide (p &&& b=0)))):=by
 obtain⟨E,e⟩:=wk (.sh (.list (ps.map nr))) b ps .no
 cases h:ps.all (fun p=> !decide (p &&& b=0))with
 |true=>
  rw[h]at e
  simp only[if_true]at e
  simp only[cY,fu,Z4,Z5,Nat.reduceAdd,gH,gC,aw,b9,aM,ab,bi,bE,f6,Nat.reduceSub,List.replicate,Z9,Z8,Z3,Z2,frz,Z0,e,aI,pC,bF,bg,de,aU]
 |false=>
  rw[h]at e
  simp only[aU]at e
  simp only[cY,fu,Z4,Z5,Nat.reduceAdd,gH,gC,aw,b9,aM,ab,bi,bE,f6,Nat.reduceSub,List.replicate,Z9,Z8,Z3,Z2,frz,Z0,e,aI,pC,bF,bg,de,aU]
def ai(w:List Nat):PyData:=.str ⟨w.toArray⟩
def Fs(w:List Nat):List (List Nat):=w.foldl (fun acc a=>acc++acc.map (· ++[a])) [[]]
theorem eL(l:List (List Nat)):aN (l.map ai)=true:=by
 induction l with
 |nil=>rfl
 |cons a l ih=>show(de (ai a)&&aN (l.map ai))=true;rw[ih];rfl
theorem Dl(u v:List Nat):(⟨u.toArray⟩:Str)++(⟨v.toArray⟩:Str)=⟨(u++v).toArray⟩:=by
 show(⟨u.toArray++v.toArray⟩:Str)=_
 simp
theorem k9(w:List Nat):(⟨w.toArray⟩:Str).length=w.length:=by show w.toArray.size=_;simp
theorem Dm(a:Nat):∀(l:List (List Nat)) (x0:Sl),(∀u∈l,u.length≤1000)→cX g9 di f9 (l.map ai) [x0,.sh (.str ⟨#[a]⟩)]=some ((l.map (· ++[a])).map ai)
 |[],x0,_=>rfl
 |u::l,x0,h=>by
  have hu:=h u (gJ ..)
  have ap:(⟨u.toArray⟩:Str)++(⟨#[a]⟩:Str)=⟨(u++[a]).toArray⟩:=Dl u [a]
  have l1:(⟨#[a]⟩:Str).length=1:=rfl
  have lb:u.length+1≤1000000:=by omega
  have e:g9 (ai u) [x0,.sh (.str ⟨#[a]⟩)]=some [.sh (.str ⟨u.toArray⟩),.sh (.str ⟨#[a]⟩)]:=rfl
  have e2:f9 [.sh (.str ⟨u.toArray⟩),.sh (.str ⟨#[a]⟩)]=some (.sh (.str ⟨(u++[a]).toArray⟩),[.sh (.str ⟨u.toArray⟩),.sh (.str ⟨#[a]⟩)]):=by
   simp only[f9,ae,ab,Z2,Sl.isBr,aW,look,Sl.val,e8,bY,Z0,Z3,k9,l1,lb,ap,aU]
  rw[bE,cX,e,Option.bind_some]
  simp only[di,frz,Z0,e2,Dm a l _ fun v hv=>h v (gq _ hv),Z1,if_true,bE]
  rfl
theorem Do(x0:Sl):∀(w:List Nat) (l:List (List Nat)) (n:Nat) (a:Sl),l.length*2 ^ w.length≤100000→n+w.length≤1000→(∀u∈l,u.length≤n)→∃a',aK eQ eS (w.map fun c=>.str ⟨#[c]⟩) [x0,.ow (l.map ai),a]=some ([x0,.ow ((w.foldl (fun acc a=>acc++acc.map (· ++[a])) l).map ai),a'],.nx)
 |[],l,n,a,_,_,_=>⟨a,rfl⟩
 |c::w,l,n,a,hb,hn,hl=>by
  have p1:1≤2 ^ w.length:=Nat.one_le_two_pow
  have lle:l.length≤100000:=by
   rw[List.length_cons,Nat.pow_succ]at hb
   have:l.length*1≤l.length*(2 ^ w.length*2):=Nat.mul_le_mul_left _ (by omega)
   omega
  have k:=Dm c l .no fun u hu=>by have:=hl u hu;simp at hn;omega
  have lb:(l.map (· ++[c])).length≤1000000:=by simp;omega
  have lb2:l.length+(l.map (· ++[c])).length≤1000000:=by simp;omega
  have fl:=eL (l.map (· ++[c]))
  have lb3:l.length≤1000000:=by omega
  have lb4:l.length+l.length≤1000000:=by omega
  have st:(eQ (.str ⟨#[c]⟩) [x0,.ow (l.map ai),a]).bind eS=some ([x0,.ow ((l++l.map (· ++[c])).map ai),.sh (.str ⟨#[c]⟩)],.nx):=by
   simp only[eQ,ar,Z4,Z5,Nat.reduceAdd,Nat.reduceLT,Z7,Z6,eS,Z0,au,ae,ab,Z3,Z2,Sl.isBr,cf,aM,frz,jw,bE,p_,f6,aW,look,Sl.val,e8,bY,k,fl,fw,lb3,oX,lb4,←lO,PL.settle,frzAll,aU]
  obtain⟨a',e⟩:=Do x0 w (l++l.map (· ++[c])) (n+1) (.sh (.str ⟨#[c]⟩)) (by
   rw[pI,fw,←Nat.two_mul,Nat.mul_assoc]
   rw[List.length_cons,Nat.pow_succ]at hb
   have e1:2*(l.length*2 ^ w.length)=l.length*(2 ^ w.length*2):=by rw[Nat.mul_comm 2,Nat.mul_assoc]
   omega) (by simp at hn;omega) (fun u hu=>by
    rcases Zaj.mp hu with q |q
    ·have:=hl u q;omega
    ·obtain⟨v,hv,rfl⟩:=Zbc.mp q
     have:=hl v hv
     simp;omega)
  refine⟨a',?_⟩
  rw[bE,aK,st]
  exact e
theorem Dp(w:List Nat)(hw:w.length≤10):ba [.str ⟨w.toArray⟩]=some (.ow ((Fs w).map ai)):=by
 have p:2 ^ w.length≤2 ^ 10:=Nat.pow_le_pow_right (by decide) hw
 obtain⟨a,e⟩:=Do (.sh (.str ⟨w.toArray⟩)) w [[]] 0 .no (by simp;omega) (by omega) (fun u hu=>by rw[Zag.mp hu];simp)
 have e0:[PyData.str ""]=([[]]:List (List Nat)).map ai:=rfl
 have sg:iO (⟨w.toArray⟩:Str)=w.map fun c=>.str ⟨#[c]⟩:=by simp[iO]
 have fl:=eL (Fs w)
 unfold Fs at fl ⊢
 have s1:au 1 (be (aF (pC (.str "")) aH)) [.sh (.str ⟨w.toArray⟩),.no,.no]=some ([.sh (.str ⟨w.toArray⟩),.ow (([[]]:List (List Nat)).map ai),.no],.nx):=by
  rw[←e0]
  simp only[au,be,aF,pC,frz,aH,Z1,Z0,Z4,Z5,Nat.reduceLeDiff,PL.settle,frzAll,Nat.reduceAdd,Nat.reduceLT,Z7,Z6,aU]
 have it:∀y:Sl,aM (ab 0) [.sh (.str ⟨w.toArray⟩),y,.no]=some (w.map fun c=>.str ⟨#[c]⟩,[.sh (.str ⟨w.toArray⟩),y,.no]):=fun y=>by
  simp only[aM,ab,Z2,frz,Z0,sg]
 have fo:b9 (aM (ab 0)) eQ eS [.sh (.str ⟨w.toArray⟩),.ow (([[]]:List (List Nat)).map ai),.no]=some ([.sh (.str ⟨w.toArray⟩),.ow ((w.foldl (fun acc a=>acc++acc.map (· ++[a])) [[]]).map ai),a],.nx):=by
  unfold b9
  rw[it,Option.bind_some]
  exact e
 have g:ba [.str ⟨w.toArray⟩]=(iZ [.sh (.str ⟨w.toArray⟩),.no,.no]).bind fun a=>match a.2 with |.rt r=>bF r |.nx=>some (.sh .none) |_=>none:=rfl
 rw[g,iZ,aE s1,aE fo]
 simp only[aI,ab,Z3,Z2,Z0,Z7,Z6,Z1,bF,bg,fl,if_true]
open NhFam in
theorem zc(w:List Nat):NhSG.ka ⟨w.toArray⟩=key w:=by
 show(((⟨w.toArray⟩:Str).length:Int),w.toArray.toList)=((w.length:Int),w)
 rw[k9]
theorem wl:∀F:List (List Nat),mT (F.map ai)=some (F.map fun w=>(⟨w.toArray⟩:Str))
 |[]=>rfl
 |w::F=>by
  show(mT (F.map ai)).map ((⟨w.toArray⟩:Str):: ·)=_
  rw[wl F]
  rfl
theorem Dq(F:List (List Nat)):NhSG.lX (F.map fun w=>(⟨w.toArray⟩:Str))=(NhFam.kC F).map fun w=>(⟨w.toArray⟩:Str):=by
 refine(NhSG.sy ((List.mergeSort_perm F _).map _) ?_).symm
 rw[List.pairwise_map]
 exact(NhFam.sG F).imp fun {a b} h=>by
  unfold NhSG.uJ
  rw[zc,zc]
  have:NhSG.iE (NhFam.key b) (NhFam.key a)=false:=by simpa[NhFam.mo]using h
  rw[this];rfl
theorem Ft(F:List (List Nat)):(F.map fun w=>(⟨w.toArray⟩:Str)).map PyData.str=F.map ai:=by rw[List.map_map];rfl
def Fit(F:List (List Nat)):Prop:=F.length < 1100∧∀w∈F,NH.qw w∧w.length≤1000
theorem Fit.chk{F:List (List Nat)}(h:Fit F):(decide ((F.map fun w=>(⟨w.toArray⟩:Str)).length < 65536)&&(F.map fun w=>(⟨w.toArray⟩:Str)).all fun z=>decide (z.length≤1000))=true:=by
 simp only[wL,decide_eq_true_eq,List.all_eq_true,fw]
 refine⟨Nat.lt_trans h.1 (by decide),fun z hz=>?_⟩
 obtain⟨w,hw,rfl⟩:=Zbc.mp hz
 rw[k9]
 exact(h.2 w hw).2
theorem rf{F:List (List Nat)}(h:Fit F):bn [.list (F.map ai)]=some (.ow ((NhFam.kC F).map ai)):=by
 have a:uk (ab 0) [.sh (.list (F.map ai))]=some (.ow ((NhFam.kC F).map ai),[.sh (.list (F.map ai))]):=by
  unfold uk
  simp only[ab,Z2,Z0,look,Sl.val,wl,h.chk,if_true,Dq,Ft]
 have fl:=eL (NhFam.kC F)
 simp only[bn,gh,fu,gH,bi,aI,a,Z0,Z1,bF,bg,fl,Z4,Z5,Nat.sub_self,List.replicate,bE,f6,List.append_nil,Nat.reduceAdd,aU]
def cy(w:List Nat):PyData:=nr (NH.b7 w)
theorem AZ(l:List (List Nat)):aN (l.map cy)=true:=by
 induction l with
 |nil=>rfl
 |cons a l ih=>show(de (cy a)&&aN (l.map cy))=true;rw[ih];rfl
theorem wm(K:List (List Nat)):K.map cy=(K.map NH.b7).map nr:=by rw[List.map_map];rfl
theorem Dr{K:List (List Nat)}(h:∀k∈K,NH.qw k)(w:List Nat):(K.map NH.b7).any (fun p=>decide (p &&& NH.b7 w=p))=K.any (fun k=>decide (NhFam.le k w)):=by
 induction K with
 |nil=>rfl
 |cons k K ih=>
  rw[bE,List.any_cons,List.any_cons,ih fun k hk=>h k (gq _ hk)]
  congr 1
  exact decide_eq_decide.mpr (NH.AD (h k (gJ ..)))
theorem qJ(x0:Sl):∀(S K:List (List Nat)) (a b:Sl),(∀w∈S,NH.qw w)→(∀w∈K,NH.qw w)→K.length+S.length≤2000→∃y a' b',aK dP cZ (S.map ai) [x0,.ow (K.map ai),.ow (K.map cy),a,b]=some ([x0,.ow ((NhFam.kT K S).map ai),y,a',b'],.nx)
 |[],K,a,b,_,_,_=>⟨_,a,b,rfl⟩
 |w::S,K,a,b,hS,hK,hl=>by
  have tg:dP (ai w) [x0,.ow (K.map ai),.ow (K.map cy),a,b]=some [x0,.ow (K.map ai),.ow (K.map cy),.sh (ai w),b]:=rfl
  have c1:am ce (ad false (ab 3) ak) [x0,.ow (K.map ai),.ow (K.map cy),.sh (ai w),b]=some (.sh (.int (NH.b7 w)),[x0,.ow (K.map ai),.ow (K.map cy),.sh (ai w),b]):=aL (ss:=[.sh (ai w)]) rfl rfl (mK w)
  have s1:au 4 (am ce (ad false (ab 3) ak)) [x0,.ow (K.map ai),.ow (K.map cy),.sh (ai w),b]=some ([x0,.ow (K.map ai),.ow (K.map cy),.sh (ai w),.sh (.int (NH.b7 w))],.nx):=jA c1 (show 4 < 5 by decide)
  have pp:=Fq (NH.b7 w) (K.map NH.b7)
  rw[←wm,Dr hK w]at pp
  have c2:gj (am aR (ad false (ab 4) (ad false (ab 2) ak))) [x0,.ow (K.map ai),.ow (K.map cy),.sh (ai w),.sh (.int (NH.b7 w))]=some (K.any (fun k=>decide (NhFam.le k w)),[x0,.ow (K.map ai),.ow (K.map cy),.sh (ai w),.sh (.int (NH.b7 w))]):=by
   have c3:am aR (ad false (ab 4) (ad false (ab 2) ak)) [x0,.ow (K.map ai),.ow (K.map cy),.sh (ai w),.sh (.int (NH.b7 w))]=some (.sh (.bool (K.any (fun k=>decide (NhFam.le k w)))),[x0,.ow (K.map ai),.ow (K.map cy),.sh (ai w),.sh (.int (NH.b7 w))]):=aL (ss:=[.sh (.int (NH.b7 w)),.al 2]) rfl rfl pp
   simp only[gj,c3,Z0,look,Sl.val,jE,Z1]
  by_cases h:K.any (fun k=>decide (NhFam.le k w))=true
  ·rw[h]at c2
   have st:(dP (ai w) [x0,.ow (K.map ai),.ow (K.map cy),a,b]).bind cZ=some ([x0,.ow (K.map ai),.ow (K.map cy),.sh (ai w),.sh (.int (NH.b7 w))],.nx):=by
    rw[tg,Option.bind_some,cZ,aE s1]
    refine jO ?_ rfl
    simp only[h7,c2,Z1,Bool.not_true]
   obtain⟨y,a',b',e⟩:=qJ x0 S K (.sh (ai w)) (.sh (.int (NH.b7 w))) (fun v hv=>hS v (gq _ hv)) hK (by simp at hl;omega)
   refine⟨y,a',b',?_⟩
   rw[bE,aK,st,NhFam.kT,if_pos h]
   exact e
  ·have h':K.any (fun k=>decide (NhFam.le k w))=false:=by simpa using h
   rw[h']at c2
   have b1:K.length < 1000000:=by simp at hl;omega
   have st:(dP (ai w) [x0,.ow (K.map ai),.ow (K.map cy),a,b]).bind cZ=some ([x0,.ow ((K++[w]).map ai),.ow ((K++[w]).map cy),.sh (ai w),.sh (.int (NH.b7 w))],.nx):=by
    rw[tg,Option.bind_some,cZ,aE s1]
    have n2:h7 (gj (am aR (ad false (ab 4) (ad false (ab 2) ak)))) [x0,.ow (K.map ai),.ow (K.map cy),.sh (ai w),.sh (.int (NH.b7 w))]=some (true,[x0,.ow (K.map ai),.ow (K.map cy),.sh (ai w),.sh (.int (NH.b7 w))]):=by
     simp only[h7,c2,Z1,Bool.not_false]
    refine mI n2 ?_
    have a1:aY (aC 2 (ab 4)) [x0,.ow (K.map ai),.ow (K.map cy),.sh (ai w),.sh (.int (NH.b7 w))]=some ([x0,.ow (K.map ai),.ow ((K++[w]).map cy),.sh (ai w),.sh (.int (NH.b7 w))],.nx):=by
     simp only[aY,aC,Z3,Z2,ab,frz,Z0,fw,b1,Z7,Z6,if_true,Z1,lO,bE,f6]
     rfl
    rw[aE a1]
    simp only[aY,aC,lO,bE,f6,Z3,Z2,ab,frz,Z0,fw,b1,Z7,Z6,if_true,Z1]
   obtain⟨y,a',b',e⟩:=qJ x0 S (K++[w]) (.sh (ai w)) (.sh (.int (NH.b7 w))) (fun v hv=>hS v (gq _ hv)) (fun v hv=>by
    rcases Zaj.mp hv with q |q
    ·exact hK v q
    ·rw[Zag.mp q];exact hS w (gJ ..)) (by simp at hl ⊢;omega)
   refine⟨y,a',b',?_⟩
   rw[bE,aK,st,NhFam.kT,if_neg h]
   exact e
theorem k_{F:List (List Nat)}(h:Fit F):bC [.list (F.map ai)]=some (.ow ((NhFam.a_ F).map ai)):=by
 obtain⟨y,a,b,e⟩:=qJ (.sh (.list (F.map ai))) (NhFam.kC F) [] .no .no (fun w hw=>(h.2 w (NhFam.sortT_mem.mp hw)).1) (fun w hw=>by cases hw) (by
  have:(NhFam.kC F).length=F.length:=(List.mergeSort_perm F _).length_eq
  have:=h.1
  simp;omega)
 have it:aM (am bn (ad false (ab 0) ak)) [.sh (.list (F.map ai)),.ow [],.ow [],.no,.no]=some ((NhFam.kC F).map ai,[.sh (.list (F.map ai)),.ow [],.ow [],.no,.no]):=by
  have c:am bn (ad false (ab 0) ak) [.sh (.list (F.map ai)),.ow [],.ow [],.no,.no]=some (.ow ((NhFam.kC F).map ai),[.sh (.list (F.map ai)),.ow [],.ow [],.no,.no]):=aL (ss:=[.sh (.list (F.map ai))]) rfl rfl (rf h)
  unfold aM
  rw[c]
  rfl
 have fo:b9 (aM (am bn (ad false (ab 0) ak))) dP cZ [.sh (.list (F.map ai)),.ow [],.ow [],.no,.no]=some ([.sh (.list (F.map ai)),.ow ((NhFam.a_ F).map ai),y,a,b],.nx):=by
  unfold b9
  rw[it,Option.bind_some]
  exact e
 have g:bC [.list (F.map ai)]=(iY [.sh (.list (F.map ai)),.no,.no,.no,.no]).bind fun a=>match a.2 with |.rt r=>bF r |.nx=>some (.sh .none) |_=>none:=rfl
 have s1:au 1 (be aH) [.sh (.list (F.map ai)),.no,.no,.no,.no]=some ([.sh (.list (F.map ai)),.ow [],.no,.no,.no],.nx):=by simp only[au,be,aH,Z0,Z5,Nat.reduceLeDiff,PL.settle,frz,frzAll,Z4,Nat.reduceAdd,Nat.reduceLT,Z7,Z6,aU]
 have s2:au 2 (be aH) [.sh (.list (F.map ai)),.ow [],.no,.no,.no]=some ([.sh (.list (F.map ai)),.ow [],.ow [],.no,.no],.nx):=by simp only[au,be,aH,Z0,Z5,Nat.reduceLeDiff,PL.settle,frz,frzAll,Z4,Nat.reduceAdd,Nat.reduceLT,Z7,Z6,aU]
 have fl:=eL (NhFam.a_ F)
 rw[g,iY,aE s1,aE s2,aE fo]
 simp only[aI,ab,Z3,Z2,Z0,Z7,Z6,Z1,bF,bg,fl,if_true]
def D5(w:List Nat):Str:=⟨w.toArray⟩
theorem jP(w:List Nat):NhFam.Srt (cU w):=List.Pairwise.sublist List.filter_sublist (List.pairwise_lt_range' ..)
theorem Ds{w:List Nat}(h:NhFam.Srt w)(a:∀y∈w,az y):cU w=w:=
 (jP w).ext h (fun x hx=>(inOrd_mem.mp hx).2) fun x hx=>inOrd_mem.mpr ⟨mJ (a x hx),hx⟩
theorem Fu:∀F:List (List Nat),Txt.join "" (F.map D5)=⟨F.flatten.toArray⟩:=by
 intro F
 show Builtin.Str.glued "" _=_
 rw[StrLaws.glued_eq_join]
 induction F with
 |nil=>rfl
 |cons a F ih=>
  cases F with
  |nil=>simp[Str.join,D5]
  |cons b F=>
   have e:Str.join "" ((a::b::F).map D5)=(D5 a)++""++Str.join "" ((b::F).map D5):=rfl
   rw[e,ih]
   show(⟨(a.toArray++(Str.ofString "").cps)++(b::F).flatten.toArray⟩:Str)=_
   rw[show(Str.ofString "").cps=#[] by decide+kernel]
   simp
theorem sK:∀F:List (List Nat),iq (F.map ai)=some (F.map D5)
 |[]=>rfl
 |w::F=>by
  show(iq (F.map ai)).map (D5 w:: ·)=_
  rw[sK F]
  rfl
theorem Dt:∀F:List (List Nat),((F.map D5).map (·.length)).sum+(F.map D5).length*(Str.ofString "").length=F.flatten.length:=by
 intro F
 have:(Str.ofString "").length=0:=rfl
 rw[this,Nat.mul_zero,Nat.add_zero]
 induction F with
 |nil=>rfl
 |cons a F ih=>
  simp only[bE,List.sum_cons,ih,List.flatten_cons,pI]
  rw[show(D5 a).length=a.length from k9 a]
theorem lY{w:List Nat}(h:w.length≤10):bG [ai w]=some (.sh .none):=by
 have l:=k9 w
 have lt:¬((w.length:Int) > 10):=by omega
 have lb:w.length≤1000000:=by omega
 simp only[bG,fu,ai,Z4,Z5,gH,iI,bp,dh,ae,bx,ad,ab,bi,bE,f6,Nat.sub_self,List.replicate,Z9,Z8,Z2,Sl.isBr,ak,Z1,Z0,cS,aO,look,Sl.val,l,lb,pC,eu,dZ,Cm.i,Cm.s,lt,aP,bF,bg,aU]
theorem iL{js:List (Option Nat)}{it:pS}{tg:gx}{c:jD}{el:bv}{E E1:List Sl}{ds rs:List PyData}(hi:it E=some (ds,E1))(hl:cX tg c el ds (jw js E1)=some rs)(fl:aN rs=true)(ll:rs.length≤1000000):cf js it tg c el E=some (.ow rs,E1):=by
 simp only[cf,hi,Z0,hl,fl,ll,and_self,Z1,Bool.and_self,aU]
theorem sL:∀(F:List (List Nat)) (x:Sl),cX cE di cF (F.map ai) [x]=some (F.map cy)
 |[],x=>rfl
 |v::F,x=>by
  have t:cE (ai v) [x]=some [.sh (ai v)]:=rfl
  have e:cF [.sh (ai v)]=some (.sh (.int (NH.b7 v)),[.sh (ai v)]):=aL (ss:=[.sh (ai v)]) rfl rfl (mK v)
  exact pG t e (sL F _)
theorem Du{K:List (List Nat)}(h:∀k∈K,NH.qw k)(w:List Nat):(K.map NH.b7).all (fun p=> !decide (p &&& NH.b7 w=0))=NhFam.kD K w:=by
 unfold NhFam.kD
 induction K with
 |nil=>rfl
 |cons k K ih=>
  rw[bE,List.all_cons,List.all_cons,ih fun k hk=>h k (gq _ hk)]
  congr 1
  exact congrArg not (decide_eq_decide.mpr (NH.AE (h k (gJ ..))))
theorem zd{tg:gx}{cond:jD}{elt:bv}{d r:PyData}{ds rs:List PyData}{E E1:List Sl}{b:Bool}(t:tg d E=some E1)(c:cond E1=some (b,E1))(el:elt E1=some (.sh r,E1))(h:cX tg cond elt ds E1=some rs):cX tg cond elt (d::ds) E=some (if b then r::rs else rs):=by
 cases b with
 |true=>simp only[cX,t,c,el,h,Z0,Z1,if_true,frz]
 |false=>simp only[cX,t,c,h,Z0,aU]
theorem ze{K:List (List Nat)}(hK:∀k∈K,NH.qw k):∀(F:List (List Nat)) (x:Sl),cX cG bR cH (F.map ai) [x,.sh (.list (K.map cy))]=some ((F.filter (NhFam.kD K)).map ai)
 |[],x=>rfl
 |v::F,x=>by
  have t:cG (ai v) [x,.sh (.list (K.map cy))]=some [.sh (ai v),.sh (.list (K.map cy))]:=rfl
  have el:cH [.sh (ai v),.sh (.list (K.map cy))]=some (.sh (ai v),[.sh (ai v),.sh (.list (K.map cy))]):=rfl
  have c1:am ce (ad false (ab 0) ak) [.sh (ai v),.sh (.list (K.map cy))]=some (.sh (.int (NH.b7 v)),[.sh (ai v),.sh (.list (K.map cy))]):=aL (ss:=[.sh (ai v)]) rfl rfl (mK v)
  have pm:=Dk (NH.b7 v) (K.map NH.b7)
  rw[←wm,Du hK v]at pm
  have c2:am cY (ad false (am ce (ad false (ab 0) ak)) (ad false (ab 1) ak)) [.sh (ai v),.sh (.list (K.map cy))]=some (.sh (.bool (NhFam.kD K v)),[.sh (ai v),.sh (.list (K.map cy))]):=aL (ss:=[.sh (.int (NH.b7 v)),.sh (.list (K.map cy))]) (by simp only[ad,ak,c1,Z0,Z1,ab,Z3,Z2,aU]) rfl pm
  have c:bR [.sh (ai v),.sh (.list (K.map cy))]=some (NhFam.kD K v,[.sh (ai v),.sh (.list (K.map cy))]):=by
   unfold bR
   simp only[gj,c2,Z0,look,Sl.val,jE,Z1]
  rw[bE,zd t c el (ze hK F _),List.filter_cons]
  split <;> rfl
theorem zf{f:bv}{E E1:List Sl}{r:Sl}(h:f E=some (r,E1)):aY f E=some (E1,.nx):=by
 simp only[aY,h,Z1]
theorem xT{f:bv}{E E1:List Sl}{ds:List PyData}{i:Nat}(h:f E=some (.ow ds,E1))(hi:i < E1.length):au i f E=some (E1.set i (.ow ds),.nx):=by
 simp only[au,h,Z0,PL.settle,Sl.isAl,hi,Z1,aU]
theorem Im{f g:bv}{E:List Sl}{s1 s2:Sl}(hf:f E=some (s1,E))(hg:g E=some (s2,E)):ad false f (ad false g ak) E=some ([s1,s2],E):=by
 simp only[ad,ak,hf,hg,Z0,Z1,aU]
theorem uu{E:List Sl}{f g:bv}{x y:Int}(hf:f E=some (.sh (.int x),E))(hg:g E=some (.sh (.int y),E))(h:0 < y):ae ft false f g E=some (.sh (.int (x % y)),E):=by
 simp only[ae,hf,hg,Z0,ft,eu,lz,look,Sl.val,h,Z1,aU]
theorem uv{E:List Sl}{f g:bv}{x y:Int}(hf:f E=some (.sh (.int x),E))(hg:g E=some (.sh (.int y),E))(h:jk y=true):ae dq false f g E=some (.sh (.int (x / y)),E):=by
 simp only[ae,hf,hg,Z0,dq,eu,lz,look,Sl.val,h,Z1,aU]
theorem Jm{f:bv}{E:List Sl}{s1:Sl}(hf:f E=some (s1,E)):ad false f ak E=some ([s1],E):=by
 simp only[ad,ak,hf,Z0,Z1,aU]
structure Uni (U:List Nat):Prop where
 srt:NhFam.Srt U
 lt:∀a∈U,az a
 len:U.length≤10
theorem Uni.ltrs{U w:List Nat}(h:Uni U)(s:NhFam.Sub U w):NH.qw w:=fun a ha=>by
 have:=h.lt a (s.2 a ha)
 exact⟨this.1,this.2⟩
theorem Uni.azw{U w:List Nat}(h:Uni U)(s:NhFam.Sub U w):∀a∈w,az a:=fun a ha=>h.lt a (s.2 a ha)
theorem Uni.short{U w:List Nat}(h:Uni U)(s:NhFam.Sub U w):w.length≤10:=jn (NhFam.eN s.1 h.srt s.2).length_le h.len
theorem Uni.small{U V:List Nat}(u:Uni U)(hV:NhFam.Sub U V):Uni V:=⟨hV.1,u.azw hV,u.short hV⟩
structure Wrt (U:List Nat) (W:List (List Nat)):Prop where
 sub:∀t∈W,NhFam.le t U
 tl:∀t∈W,t.length≤20
 len:W.length≤190
def gM(W:List (List Nat)):List (List Nat):=W.map cU
theorem Fv{U t:List Nat}(u:Uni U)(h:NhFam.le t U):NhFam.Sub U (cU t):=⟨jP t,fun x hx=>h x (inOrd_mem.mp hx).2⟩
theorem Wrt.sets{U:List Nat}{W:List (List Nat)}(u:Uni U)(h:Wrt U W):∀v∈gM W,NhFam.Sub U v:=fun v hv=>by
 obtain⟨t,ht,rfl⟩:=Zbc.mp hv
 exact Fv u (h.sub t ht)
theorem Dv{U:List Nat}{F:List (List Nat)}(u:Uni U)(h:∀v∈F,NhFam.Sub U v)(hl:F.length < 1100):Fit F:=⟨hl,fun w hw=>⟨u.ltrs (h w hw),by have:=u.short (h w hw);omega⟩⟩
theorem lZ{U:List Nat}(u:Uni U):∀(W:List (List Nat)) (x:Sl),(∀t∈W,NhFam.le t U)→(∀t∈W,t.length≤20)→cX dv di dw (W.map ai) [x]=some ((gM W).map ai)
 |[],x,_,_=>rfl
 |v::W,x,h,hl=>by
  have t:dv (ai v) [x]=some [.sh (ai v)]:=rfl
  have so:=oq (w:=v) (fun y hy=>u.lt y (h v (gJ ..) y hy)) (by have:=hl v (gJ ..);omega)
  have e:dw [.sh (ai v)]=some (.sh (ai (cU v)),[.sh (ai v)]):=aL (ss:=[.sh (ai v)]) rfl rfl so
  exact pG t e (lZ u W _ (fun v hv=>h v (gq _ hv)) fun v hv=>hl v (gq _ hv))
theorem rh{U:List Nat}{W:List (List Nat)}(u:Uni U)(h:Wrt U W):bH [.list (W.map ai)]=some (.ow ((NhFam.a_ (gM W)).map ai)):=by
 have ls:(gM W).length=W.length:=by unfold gM;rw[fw]
 have hl:=h.len
 have c:cf [none] (aM (ab 0)) dv di dw [.sh (.list (W.map ai))]=some (.ow ((gM W).map ai),[.sh (.list (W.map ai))]):=iL rfl (lZ u W _ h.sub h.tl) (eL _) (by rw[fw];omega)
 have b:am bC (ad false (cf [none] (aM (ab 0)) dv di dw) ak) [.sh (.list (W.map ai))]=some (.ow ((NhFam.a_ (gM W)).map ai),[.sh (.list (W.map ai))]):=aL (ss:=[.ow ((gM W).map ai)]) (by simp only[ad,ak,c,Z0,Z1,aU]) rfl (k_ (Dv u (h.sets u) (by omega)))
 have fl:=eL (NhFam.a_ (gM W))
 simp only[bH,iJ,fu,gH,bi,aI,b,Z0,Z1,bF,bg,fl,Z4,Z5,Nat.sub_self,List.replicate,bE,f6,List.append_nil,Nat.reduceAdd,aU]
theorem Dw{W:List (List Nat)}(h:∀t∈W,t.length≤20):W.flatten.length≤W.length*20:=by
 induction W with
 |nil=>simp
 |cons a W ih=>
  have:=ih fun v hv=>h v (gq _ hv)
  have:=h a (gJ ..)
  simp only[List.flatten_cons,pI,Z4]
  omega
theorem qK{U:List Nat}{W:List (List Nat)}(u:Uni U)(h:Wrt U W):cw [.list (W.map ai)]=some (.sh (ai (cU W.flatten))):=by
 have fl:=Dw h.tl
 have hl:=h.len
 have e:=oq (w:=W.flatten) (fun y hy=>by
  obtain⟨v,hv,hy⟩:=List.mem_flatten.mp hy
  exact u.lt y (h.sub v hv y hy)) (by omega)
 have l:=Dt W
 have l2:W.flatten.length≤1000000:=by omega
 have j:=Fu W
 have a:jG "" (ab 0) [.sh (.list (W.map ai))]=some (.sh (.str ⟨W.flatten.toArray⟩),[.sh (.list (W.map ai))]):=by
  simp only[jG,jh,rS,ab,Z2,Z0,look,Sl.val,sK,l,l2,if_true,Z1,j]
 have b:am dg (ad false (jG "" (ab 0)) ak) [.sh (.list (W.map ai))]=some (.sh (ai (cU W.flatten)),[.sh (.list (W.map ai))]):=aL (ss:=[.sh (.str ⟨W.flatten.toArray⟩)]) (by simp only[ad,ak,a,Z0,Z1,aU]) rfl e
 have fx:de (ai (cU W.flatten))=true:=rfl
 simp only[cw,g_,fu,gH,bi,aI,b,Z0,Z1,bF,bg,fx,Z4,Z5,Nat.sub_self,List.replicate,bE,f6,List.append_nil,Nat.reduceAdd,aU]
theorem sM{U:List Nat}{W:List (List Nat)}(u:Uni U)(h:Wrt U W):NhFam.Sub U (cU W.flatten):=⟨jP _,fun x hx=>by
 obtain⟨v,hv,hx⟩:=List.mem_flatten.mp (inOrd_mem.mp hx).2
 exact h.sub v hv x hx⟩
theorem A8{U:List Nat}{W:List (List Nat)}(u:Uni U)(h:Wrt U W):∀v∈gM W,NhFam.le v (cU W.flatten):=fun v hv x hx=>by
 obtain⟨t,ht,rfl⟩:=Zbc.mp hv
 obtain⟨a,b⟩:=inOrd_mem.mp hx
 exact inOrd_mem.mpr ⟨a,List.mem_flatten.mpr ⟨t,ht,b⟩⟩
theorem ou(L M:List (List Nat))(hn:L.Nodup)(hm:∀w∈L,w∈M):L.length≤M.length:=by
 induction L generalizing M with
 |nil=>simp
 |cons a L ih=>
  have hn':=Zbm.mp hn
  have:=ih (M.erase a) hn'.2 fun w hw=>(List.mem_erase_of_ne (a:=w) (b:=a) (fun e=>hn'.1 (by rw[←e];exact hw))).mpr (hm w (gq _ hw))
  rw[List.length_erase_of_mem (hm a (gJ ..))]at this
  have pos:0 < M.length:=List.length_pos_of_mem (hm a (gJ ..))
  simp only[Z4]
  omega
theorem Dx{U:List Nat}{L:List (List Nat)}{f:List Nat→Prop}(u:Uni U)(t:NhFam.Told U L f):L.length≤1024:=by
 have:=ou L (NhFam.iu U) (NhFam.nW t.srt) fun w hw=>(NhFam.iW u.srt).mpr (t.sub w hw)
 rw[NhFam.kW]at this
 have p:2 ^ U.length≤2 ^ 10:=Nat.pow_le_pow_right (by decide) u.len
 omega
theorem Fw{V:List Nat}(u:Uni V)(p:List Nat→Bool):((NhFam.iu V).filter p).length≤1024:=by
 have:=List.length_filter_le p (NhFam.iu V)
 rw[NhFam.kW]at this
 have q:2 ^ V.length≤2 ^ 10:=Nat.pow_le_pow_right (by decide) u.len
 omega
theorem pj{U:List Nat}{W:List (List Nat)}(u:Uni U)(h:Wrt U W):cQ [.list (W.map ai)]=some (.ow ((NhFam.sH (gM W) (cU W.flatten)).map ai)):=by
 have tl:=NhFam.kU (h.sets u)
 have lL:=Dx u tl
 have hV:=sM u h
 have uV:=u.small hV
 have hK:∀k∈NhFam.a_ (gM W),NH.qw k:=fun k hk=>u.ltrs (tl.sub k hk)
 have cnt:=Fw uV (NhFam.kD (NhFam.a_ (gM W)))
 generalize eV:cU W.flatten=V at hV uV cnt
 generalize eF:gM W=F at tl lL hK cnt
 have pl:=rh u h
 rw[eF]at pl
 have pn:=qK u h
 rw[eV]at pn
 have c1:am bH (ad false (ab 0) ak) [.sh (.list (W.map ai)),.no,.no]=some (.ow ((NhFam.a_ F).map ai),[.sh (.list (W.map ai)),.no,.no]):=aL (ss:=[.sh (.list (W.map ai))]) rfl rfl pl
 have i1:aM (am bH (ad false (ab 0) ak)) [.sh (.list (W.map ai)),.no,.no]=some ((NhFam.a_ F).map ai,[.sh (.list (W.map ai)),.no,.no]):=by
  unfold aM
  rw[c1]
  rfl
 have p1:cf [none] (aM (am bH (ad false (ab 0) ak))) cE di cF [.sh (.list (W.map ai)),.no,.no]=some (.ow ((NhFam.a_ F).map cy),[.sh (.list (W.map ai)),.no,.no]):=iL i1 (sL _ _) (AZ _) (by rw[fw];omega)
 have s1:au 1 (cf [none] (aM (am bH (ad false (ab 0) ak))) cE di cF) [.sh (.list (W.map ai)),.no,.no]=some ([.sh (.list (W.map ai)),.ow ((NhFam.a_ F).map cy),.no],.nx):=xT p1 (show 1 < 3 by decide)
 have c2:am cw (ad false (ab 0) ak) [.sh (.list (W.map ai)),.ow ((NhFam.a_ F).map cy),.no]=some (.sh (ai V),[.sh (.list (W.map ai)),.ow ((NhFam.a_ F).map cy),.no]):=aL (ss:=[.sh (.list (W.map ai))]) rfl rfl pn
 have s2:au 2 (am cw (ad false (ab 0) ak)) [.sh (.list (W.map ai)),.ow ((NhFam.a_ F).map cy),.no]=some ([.sh (.list (W.map ai)),.ow ((NhFam.a_ F).map cy),.sh (ai V)],.nx):=jA c2 (show 2 < 3 by decide)
 have c3:aY (am bG (ad false (ab 2) ak)) [.sh (.list (W.map ai)),.ow ((NhFam.a_ F).map cy),.sh (ai V)]=some ([.sh (.list (W.map ai)),.ow ((NhFam.a_ F).map cy),.sh (ai V)],.nx):=zf (aL (ss:=[.sh (ai V)]) rfl rfl (lY (by have:=uV.len;omega)))
 have c4:am ba (ad false (ab 2) ak) [.sh (.list (W.map ai)),.ow ((NhFam.a_ F).map cy),.sh (ai V)]=some (.ow ((Fs V).map ai),[.sh (.list (W.map ai)),.ow ((NhFam.a_ F).map cy),.sh (ai V)]):=aL (ss:=[.sh (ai V)]) rfl rfl (Dp _ (by have:=uV.len;omega))
 have i4:aM (am ba (ad false (ab 2) ak)) [.sh (.list (W.map ai)),.ow ((NhFam.a_ F).map cy),.sh (ai V)]=some ((NhFam.iu V).map ai,[.sh (.list (W.map ai)),.ow ((NhFam.a_ F).map cy),.sh (ai V)]):=by
  unfold aM
  rw[c4]
  rfl
 have fit:Fit ((NhFam.iu V).filter (NhFam.kD (NhFam.a_ F))):=Dv uV (fun v hv=>(NhFam.iW uV.srt).mp (Zbn.mp hv).1) (by omega)
 have p4:cf [none,some 1] (aM (am ba (ad false (ab 2) ak))) cG bR cH [.sh (.list (W.map ai)),.ow ((NhFam.a_ F).map cy),.sh (ai V)]=some (.ow (((NhFam.iu V).filter (NhFam.kD (NhFam.a_ F))).map ai),[.sh (.list (W.map ai)),.ow ((NhFam.a_ F).map cy),.sh (ai V)]):=iL i4 (ze hK _ _) (eL _) (by rw[fw];omega)
 have c5:am bC (ad false (cf [none,some 1] (aM (am ba (ad false (ab 2) ak))) cG bR cH) ak) [.sh (.list (W.map ai)),.ow ((NhFam.a_ F).map cy),.sh (ai V)]=some (.ow ((NhFam.sH F V).map ai),[.sh (.list (W.map ai)),.ow ((NhFam.a_ F).map cy),.sh (ai V)]):=aL (ss:=[.ow (((NhFam.iu V).filter (NhFam.kD (NhFam.a_ F))).map ai)]) (by simp only[ad,ak,p4,Z0,Z1,aU]) rfl (k_ fit)
 have g:cQ [.list (W.map ai)]=(fH [.sh (.list (W.map ai)),.no,.no]).bind fun a=>match a.2 with |.rt r=>bF r |.nx=>some (.sh .none) |_=>none:=rfl
 have fl:=eL (NhFam.sH F V)
 rw[g,fH,aE s1,aE s2,aE c3]
 simp only[aI,c5,Z1,Z0,bF,bg,fl,if_true]
theorem nY{U:List Nat}{W:List (List Nat)}(u:Uni U)(h:Wrt U W):NhFam.Told U (NhFam.sH (gM W) (cU W.flatten)) (NhFam.m8 (gM W)):=by
 have s:=sM u h
 exact(NhFam.nY u.srt s.1 s.2 (h.sets u) (A8 u h)).congr fun w hw=>(NhFam.nX (h.sets u)).symm
theorem HH{w:List Nat}(h:∀a∈w,az a):(ai w).canLay0=true:=by
 have:∀a∈w,a < 1114112:=fun a ha=>by have:=h a ha;unfold az at this;omega
 simp only[ai,PyData.canLay0,PyData.strOk]
 simpa using this
theorem Dy:∀{L:List (List Nat)},(∀w∈L,∀a∈w,az a)→PyData.canLayAll0 (L.map ai)=true∧PyData.depthAll (L.map ai)=0
 |[],_=>by simp[PyData.canLayAll0,PyData.depthAll]
 |w::L,h=>by
  obtain⟨x,y⟩:=Dy (L:=L) fun v hv=>h v (gq _ hv)
  have h1:=HH (h w (gJ ..))
  have h2:(ai w).depth=0:=by simp[ai,PyData.depth]
  simp only[bE,PyData.canLayAll0,PyData.depthAll,h1,h2,x,y,Bool.and_self,true_and]
  rfl
theorem sN{L:List (List Nat)}(h:∀w∈L,∀a∈w,az a):SeqAt.shaped (.list (L.map ai))=true:=by
 obtain⟨x,y⟩:=Dy h
 unfold SeqAt.shaped
 simp only[PyData.canLay0,PyData.depth,x,y,Bool.true_and]
 decide
theorem HI{E:List Sl}{f:bv}{z:Int}{c:Nat}(hf:f E=some (.sh (.int z),E))(h1:z=(c:Int))(h2:c≤1000):iN (ad false f ak) E=some (kH 0 c,E):=by
 have o1:(-1000000:Int)≤z:=by omega
 have o2:z≤1000000:=by omega
 have t:z.toNat=c:=by omega
 simp only[iN,ad,ak,hf,Z0,Z1,aO,look,Sl.val,o1,o2,and_self,t,aU]
theorem kF:∀(d:List Pc) (x0 x1:Sl),cX fj di dJ (d.map av) [x0,x1]=some ((d.map fun p=>((p.1,-p.2):Pc)).map av)
 |[],x0,x1=>rfl
 |p::d,x0,x1=>by
  have e:(fj (av p) [x0,x1])=some [.sh (.str ⟨#[p.1]⟩),.sh (.int p.2)]:=rfl
  have e2:dJ [.sh (.str ⟨#[p.1]⟩),.sh (.int p.2)]=some (.sh (av (p.1,-p.2)),[.sh (.str ⟨#[p.1]⟩),.sh (.int p.2)]):=by
   simp only[dJ,fS,aF,ab,Z2,frz,ae,pC,Sl.isBr,fQ,eu,look,Sl.val,lz,Z0,aH,Z1,Z3,Int.zero_sub,Z4,Z5,Nat.reduceAdd,Nat.reduceLeDiff,av,aU]
  rw[bE,cX,e,Option.bind_some]
  simp only[di,frz,Z0,e2,kF d,Z1,if_true,bE]
theorem kG(c:List Pc)(h:c.length≤1000000):cR [.list (c.map av)]=some (.ow ((NH.contr c).map av)):=by
 have hl:(NH.contr c).length=c.length:=NH.gr c
 have e:(c.reverse.map fun p=>((p.1,-p.2):Pc))=NH.contr c:=rfl
 have k:=kF c.reverse .no .no
 rw[e,List.map_reverse]at k
 simp only[cR,fu,Z4,Z5,gH,gD,aI,cf,rN,ab,bi,bE,f6,Nat.sub_self,List.replicate,Z9,Z8,Z2,frz,Z0,jw,p_,k,fE,fw,hl,h,bF,bg,aU]
theorem oN(x0:Sl):∀(c:List Pc) (st:List Pc) (a b:Sl),st.length+c.length≤100000→NailsOk st→NailsOk c→∃a' b',aK dQ bK (c.map av) [x0,.ow (st.reverse.map av),a,b]=some ([x0,.ow ((c.foldl NH.stp st).reverse.map av),a',b'],.nx)
 |[],st,a,b,_,_,_=>⟨a,b,rfl⟩
 |p::c,st,a,b,h,hs,hc=>by
  have step:∃a' b',(dQ (av p) [x0,.ow (st.reverse.map av),a,b]).bind bK=some ([x0,.ow ((NH.stp st p).reverse.map av),a',b'],.nx):=by
   have e0:=iD hs.reverse
   cases st with
   |nil=>
    simp only[List.reverse_nil,f6]at e0
    by_cases z:p.2=0
    ·simp only[dQ,fB,av,z,Z4,Z5,Nat.reduceAdd,bB,ar,List.reverse_nil,f6,Nat.reduceLT,Z7,Z6,Z0,fA,List.isEmpty_nil,bK,lP,gK,aw,bp,dR,dh,ae,ab,Z3,Z2,Sl.isBr,be,aH,Nat.reduceLeDiff,eu,look,Sl.val,e0,Z1,jh,pC,f7,fO,e8,bY,oX,au,lQ,aW,PL.settle,frz,frzAll,aP,Nat.reduceSub,aY,aC,fS,aF,bO,Z8,NH.stp,aU]
     exact⟨_,_,rfl⟩
    ·simp only[dQ,fB,av,Z4,Z5,Nat.reduceAdd,bB,ar,List.reverse_nil,f6,Nat.reduceLT,Z7,Z6,Z0,fA,List.isEmpty_nil,bK,lP,gK,aw,bp,dR,dh,ae,ab,Z3,Z2,Sl.isBr,be,aH,Nat.reduceLeDiff,eu,look,Sl.val,e0,Z1,jh,pC,f7,fO,e8,bY,oX,au,lQ,aW,PL.settle,frz,frzAll,aP,Nat.reduceSub,aY,aC,fS,aF,bO,z,Z8,NH.stp,aU]
     exact⟨_,_,rfl⟩
   |cons q st=>
    have lb:st.length < 1000000∧st.length+1 < 1000000:=by simp at h;omega
    simp only[uK,lO,bE,f6]at e0
    have et:∀ds,dQ (av p) [x0,.ow ds,a,b]=some [x0,.ow ds,.sh (.str ⟨#[p.1]⟩),.sh (.int p.2)]:=fun _=>rfl
    rw[et,Option.bind_some]
    by_cases e:q.1=p.1
    ·by_cases z:q.2+p.2=0
     ·simp only[bK,aw,bp,dR,dh,ae,ab,uK,lO,bE,f6,Z3,Z2,Sl.isBr,be,aH,Z0,Z5,Nat.reduceLeDiff,lP,eu,look,Sl.val,e0,List.append_eq_nil_iff,reduceCtorEq,and_false,Z1,jh,pC,f7,fO,e8,bY,gK,oX,gy,au,lQ,aW,PL.settle,frz,frzAll,aP,aY,aC,fS,aF,NH.stp,aU]
      simp only[av,e,kz,Z1,Z0,Z3,Z2,gf,List.dropLast_concat,Z7,Z6,lC,qa,Int.add_comm p.2 q.2,z,Z4,Z5,Nat.reduceAdd,Nat.reduceLT,bO,Nat.reduceLeDiff,aU]
      simp[av]
     ·simp only[bK,aw,bp,dR,dh,ae,ab,uK,lO,bE,f6,Z3,Z2,Sl.isBr,be,aH,Z0,Z5,Nat.reduceLeDiff,lP,eu,look,Sl.val,e0,List.append_eq_nil_iff,reduceCtorEq,and_false,Z1,jh,pC,f7,fO,e8,bY,gK,oX,gy,au,lQ,aW,PL.settle,frz,frzAll,aP,aY,aC,fS,aF,NH.stp,aU]
      simp only[av,e,kz,Z1,Z0,Z3,Z2,gf,List.dropLast_concat,Z7,Z6,lC,qa,Int.add_comm p.2 q.2,Z4,Z5,Nat.reduceAdd,Nat.reduceLT,bO,z,Nat.reduceLeDiff,fw,List.length_reverse,lb,aU]
      simp[av]
    ·by_cases z:p.2=0
     ·simp only[bK,aw,bp,dR,dh,ae,ab,uK,lO,bE,f6,Z3,Z2,Sl.isBr,be,aH,Z0,Z5,Nat.reduceLeDiff,lP,eu,look,Sl.val,e0,List.append_eq_nil_iff,reduceCtorEq,and_false,Z1,jh,pC,f7,fO,e8,bY,gK,oX,gy,au,lQ,aW,PL.settle,frz,frzAll,aP,aY,aC,fS,aF,NH.stp,aU]
      simp only[av,z,kz,Z1,Z0,Z3,Z2,gf,lD,e,List.dropLast_concat,Z7,Z6,lC,qa,Z4,Z5,Nat.reduceAdd,Nat.reduceLT,bO,Nat.reduceLeDiff,aU]
      simp[av]
     ·simp only[bK,aw,bp,dR,dh,ae,ab,uK,lO,bE,f6,Z3,Z2,Sl.isBr,be,aH,Z0,Z5,Nat.reduceLeDiff,lP,eu,look,Sl.val,e0,List.append_eq_nil_iff,reduceCtorEq,and_false,Z1,jh,pC,f7,fO,e8,bY,gK,oX,gy,au,lQ,aW,PL.settle,frz,frzAll,aP,aY,aC,fS,aF,NH.stp,aU]
      simp only[av,kz,Z1,Z0,Z3,Z2,gf,lD,e,List.dropLast_concat,Z7,Z6,pI,fw,List.length_reverse,Z4,Z5,bO,z,Nat.reduceAdd,Nat.reduceLeDiff,lb,aU]
      simp[av]
  obtain⟨a',b',e⟩:=step
  have ih:=oN x0 c (NH.stp st p) a' b' (by have:=NH.tD st p;simp at h;omega) (hs.stp (hc p (gJ ..))) fun q hq=>hc q (gq _ hq)
  obtain⟨a2,b2,e2⟩:=ih
  refine⟨a2,b2,?_⟩
  rw[bE,aK,e]
  exact e2
theorem oO:∀(c:List Pc) (x:Sl),cX hJ di hW (c.map av) [x]=some (c.map av)
 |[],x=>rfl
 |p::c,x=>by
  have e:hJ (av p) [x]=some [.sh (av p)]:=rfl
  have e2:hW [.sh (av p)]=some (.sh (av p),[.sh (av p)]):=rfl
  rw[bE,cX,e,Option.bind_some]
  simp only[di,frz,Z0,e2,oO c,Z1,if_true]
theorem oP(c:List Pc)(h:c.length≤100000)(hN:NailsOk c):c9 [.list (c.map av)]=some (.ow ((NH.tB c).map av)):=by
 obtain⟨a,b,e⟩:=oN (.sh (.list (c.map av))) c.reverse [] .no .no (by simpa using h) sj hN.reverse
 simp only[List.reverse_nil,f6,List.map_reverse]at e
 rw[sk]at e
 have hl:=NH.ny c.reverse ([]:List Pc)
 rw[sk]at hl
 have lb:(NH.tB c).length≤1000000:=by simp at hl;omega
 have k:=oO (NH.tB c) .no
 simp only[c9,fu,Z4,Z5,gH,kh,aw,au,be,aH,bi,bE,f6,Nat.reduceSub,List.replicate,Z9,Z8,Z0,Nat.reduceLeDiff,PL.settle,frz,frzAll,Nat.reduceAdd,Nat.reduceLT,Z7,Z6,b9,rN,ab,aI,cf,jw,p_,Z2,e,Z3,Bp,k,fE,fw,lb,bF,bg,aU]
theorem l5(x0:Sl):∀(c:List Pc) (st:List Pc) (a b d:Sl),st.length+c.length≤100000→∃a' b' d',aK bb bd (c.map av) [x0,.ow (st.reverse.map av),a,b,d]=some ([x0,.ow ((c.foldl NH.stp st).reverse.map av),a',b',d'],.nx)
 |[],st,a,b,d,_=>⟨a,b,d,rfl⟩
 |p::c,st,a,b,d,h=>by
  have step:∃a' b' d',(bb (av p) [x0,.ow (st.reverse.map av),a,b,d]).bind bd=some ([x0,.ow ((NH.stp st p).reverse.map av),a',b',d'],.nx):=by
   cases st with
   |nil=>
    by_cases z:p.2=0
    ·simp only[bb,fB,av,z,Z4,Z5,Nat.reduceAdd,bB,ar,List.reverse_nil,f6,Nat.reduceLT,Z7,Z6,Z0,fA,List.isEmpty_nil,bd,gK,lP,aw,au,ab,Z3,Z2,PL.settle,frz,frzAll,bp,dR,gj,Sl.val,dh,ae,Sl.isBr,jh,pC,look,f7,Z1,fO,e8,bY,eu,lQ,aW,aP,aY,aC,fS,aF,aH,jE,oX,Nat.reduceSub,bO,Nat.reduceLeDiff,Z8,NH.stp,aU]
     exact⟨_,_,_,rfl⟩
    ·simp only[bb,fB,av,Z4,Z5,Nat.reduceAdd,bB,ar,List.reverse_nil,f6,Nat.reduceLT,Z7,Z6,Z0,fA,List.isEmpty_nil,bd,gK,lP,aw,au,ab,Z3,Z2,PL.settle,frz,frzAll,bp,dR,gj,Sl.val,dh,ae,Sl.isBr,jh,pC,look,f7,Z1,fO,e8,bY,eu,lQ,aW,aP,aY,aC,fS,aF,aH,jE,oX,Nat.reduceSub,bO,z,Nat.reduceLeDiff,Z8,NH.stp,aU]
     exact⟨_,_,_,rfl⟩
   |cons q st=>
    have lb:st.length < 1000000∧st.length+1 < 1000000:=by simp at h;omega
    by_cases e:q.1=p.1
    ·by_cases z:q.2+p.2=0
     ·simp only[bb,fB,bB,ar,uK,lO,bE,f6,Z4,Z5,Nat.reduceAdd,Nat.reduceLT,Z7,Z6,Z0,fA,bd,gK,lP,NH.stp,aU]
      simp only[av,Z4,Z5,Nat.reduceAdd,List.isEmpty_nil,e,Z0,aw,au,ab,Z3,Z2,PL.settle,frz,frzAll,Nat.reduceLT,Z7,Z6,bp,dR,gj,Sl.val,dh,ae,Sl.isBr,jh,pC,look,f7,Z1,fO,e8,bY,eu,lQ,aW,aP,aY,aC,fS,aF,aH,jE,pA,oX,gy,kz,gf,List.dropLast_concat,lC,qa,z,bO,Nat.reduceLeDiff,aU]
      simp[av]
     ·simp only[bb,fB,bB,ar,uK,lO,bE,f6,Z4,Z5,Nat.reduceAdd,Nat.reduceLT,Z7,Z6,Z0,fA,bd,gK,lP,NH.stp,aU]
      simp only[av,Z4,Z5,Nat.reduceAdd,List.isEmpty_nil,e,Z0,aw,au,ab,Z3,Z2,PL.settle,frz,frzAll,Nat.reduceLT,Z7,Z6,bp,dR,gj,Sl.val,dh,ae,Sl.isBr,jh,pC,look,f7,Z1,fO,e8,bY,eu,lQ,aW,aP,aY,aC,fS,aF,aH,jE,pA,oX,gy,kz,gf,List.dropLast_concat,lC,qa,bO,z,Nat.reduceLeDiff,fw,List.length_reverse,lb,aU]
      simp[av]
    ·by_cases z:p.2=0
     ·simp only[bb,fB,bB,ar,uK,lO,bE,f6,Z4,Z5,Nat.reduceAdd,Nat.reduceLT,Z7,Z6,Z0,fA,bd,gK,lP,NH.stp,aU]
      simp only[av,z,Z4,Z5,Nat.reduceAdd,List.isEmpty_nil,Z0,aw,au,ab,Z3,Z2,PL.settle,frz,frzAll,Nat.reduceLT,Z7,Z6,bp,dR,gj,Sl.val,dh,ae,Sl.isBr,jh,pC,look,f7,Z1,fO,e8,bY,eu,lQ,aW,aP,aY,aC,fS,aF,aH,jE,pA,oX,gy,kz,gf,lD,e,List.dropLast_concat,lC,qa,bO,Nat.reduceLeDiff,aU]
      simp[av]
     ·simp only[bb,fB,bB,ar,uK,lO,bE,f6,Z4,Z5,Nat.reduceAdd,Nat.reduceLT,Z7,Z6,Z0,fA,bd,gK,lP,NH.stp,aU]
      simp only[av,Z4,Z5,Nat.reduceAdd,List.isEmpty_nil,Z0,aw,au,ab,Z3,Z2,PL.settle,frz,frzAll,Nat.reduceLT,Z7,Z6,bp,dR,gj,Sl.val,dh,ae,Sl.isBr,jh,pC,look,f7,Z1,fO,e8,bY,eu,lQ,aW,aP,aY,aC,fS,aF,aH,jE,pA,oX,gy,kz,gf,lD,e,List.dropLast_concat,pI,fw,List.length_reverse,bO,z,Nat.reduceLeDiff,lb,aU]
      simp[av]
  obtain⟨a',b',d',e⟩:=step
  have ih:=l5 x0 c (NH.stp st p) a' b' d' (by have:=NH.tD st p;simp at h;omega)
  obtain⟨a2,b2,d2,e2⟩:=ih
  refine⟨a2,b2,d2,?_⟩
  rw[bE,aK,e]
  exact e2
theorem l6(c:List Pc)(h:c.length≤100000):ck [.list (c.map av)]=some (.ow ((NH.short c).map av)):=by
 obtain⟨a,b,d,e⟩:=l5 (.sh (.list (c.map av))) c [] .no .no .no (by simpa using h)
 simp only[List.reverse_nil,f6]at e
 simp only[ck,fu,Z4,Z5,gH,iF,aw,au,be,aH,bi,bE,f6,Nat.reduceSub,List.replicate,Z9,Z8,Z0,Nat.reduceLeDiff,PL.settle,frz,frzAll,Nat.reduceAdd,Nat.reduceLT,Z7,Z6,b9,aM,ab,aI,Z2,e,Z3,Z1,bF,bg,fE,Option.some.injEq,aU]
 rfl
theorem xU(c:List Pc)(h:c.length≤100000):gW [.list (c.map av)]=some (.sh (.bool (decide (NH.short c=[])))):=by
 have e:decide (((NH.short c).length:Int)=0)=decide (NH.short c=[]):=by
  rw[Bool.eq_iff_iff]
  simp only[decide_eq_true_eq]
  rw[←List.length_eq_zero_iff]
  omega
 simp only[gW,fu,Z4,Z5,gH,lI,aI,ae,bx,ad,am,ab,bi,bE,f6,Nat.sub_self,List.replicate,Z9,Z8,Z2,Sl.isBr,ak,Z1,Z0,aO,look,Sl.val,l6 c h,cS,fw,pC,gK,eu,bO,e,bF,bg,de,aU]
def CordL(c:List Pc):Prop:=∀p∈c,az p.1∧p.2.natAbs < 2 ^ 100
theorem CordL.ok{c:List Pc}(h:CordL c):CordOk c:=fun p hp=>⟨by have:=(h p hp).1.2;omega,(h p hp).2⟩
theorem CordL.n{c:List Pc}(h:CordL c):NailsOk c:=h.ok.n
theorem CordL.az{c:List Pc}(h:CordL c):∀a∈c.map (·.1),az a:=fun a ha=>by
 obtain⟨p,hp,rfl⟩:=Zbc.mp ha
 exact(h p hp).1
theorem CordL.append{c d:List Pc}(h:CordL c)(h':CordL d):CordL (c++d):=fun p hp=>(Zaj.mp hp).elim (h p) (h' p)
theorem CordL.contr{c:List Pc}(h:CordL c):CordL (NH.contr c):=fun p hp=>by
 unfold NH.contr at hp
 obtain⟨q,hq,rfl⟩:=Zbc.mp hp
 have:=h q (List.mem_reverse.mp hq)
 exact⟨this.1,by show(-q.2).natAbs < _;rw[Int.natAbs_neg];exact this.2⟩
theorem CordL.cutL{c:List Pc}(h:CordL c)(lo hi:Option Int):CordL (cutL c lo hi):=fun p hp=>h p (qc hp)
theorem sO:CordL []:=fun _ z=>by cases z
def CordI(I:Nat→Prop)(c:List Pc):Prop:=∀p∈c,I p.1∧p.2.natAbs < 2 ^ 100
theorem CordI.append{I:Nat→Prop}{c d:List Pc}(h:CordI I c)(h':CordI I d):CordI I (c++d):=fun p hp=>(Zaj.mp hp).elim (h p) (h' p)
theorem A9{I:Nat→Prop}:CordI I []:=fun _ z=>by cases z
theorem Jn(i:Int):az (l4 i):=by
 unfold l4 az
 rcases i.toNat with _ |_ |_ |_ |j <;> simp
theorem l7(cell:Int)(x2 x3:Sl):∀(n lo:Nat) (aX:Int) (c:List Pc) (a b:Sl),lo+n≤1000→c.length+n≤1000→CordL c→
  ∃(rest':Int) (c':List Pc) (a' b':Sl),aK bV bW (kH lo n) [.sh (.int cell),.sh (.int aX),x2,x3,.ow (c.map av),a,b]=some ([.sh (.int cell),.sh (.int rest'),x2,x3,.ow (c'.map av),a',b'],.nx)∧c'.length=c.length+n∧CordL c'
 | 0,lo,aX,c,a,b,_,_,hN=>⟨aX,c,a,b,rfl,rfl,hN⟩
 |n+1,lo,aX,c,a,b,h1,h2,hN=>by
  obtain⟨z,ez⟩:=xP cell lo (by omega)
  have dd:jk 4=true∧jk 28=true:=by decide
  have step:∃v:Int,(bV (.int lo) [.sh (.int cell),.sh (.int aX),x2,x3,.ow (c.map av),a,b]).bind bW=some ([.sh (.int cell),.sh (.int (aX / 28)),x2,x3,.ow ((c++[((l4 (v % 4),v / 4 % 7 - 3):Pc)]).map av),.sh (.int lo),.sh (.int v)],.nx):=by
   have lb:c.length < 1000000:=by omega
   by_cases c1:(if cell < 0 then -cell else cell) < 1000000000000000000
   ·refine⟨z,?_⟩
    simp only[bV,ar,Z4,Z5,Nat.reduceAdd,Nat.reduceLT,Z7,Z6,bW,o4,Int.reducePow,Int.reduceNeg,ft,fQ,dq,Z0,aw,au,ab,Z3,Z2,PL.settle,frz,frzAll,bp,nC,dh,ae,bx,ad,Sl.isBr,ak,Z1,w5,pC,eu,look,Sl.val,lz,Int.reduceLE,Int.reduceLT,and_self,Int.reduceToNat,dZ,Cm.i,Cm.s,fZ,jh,f7,Bool.or_false,am,aP,aY,aC,fS,aF,fO,e8,bY,mZ,aH,aO,c1,ez,tZ,dd.1,Nat.reduceLeDiff,fw,lb,dd.2,lO,bE,av,f6,aU]
   ·by_cases c2: -28 < aX
    ·by_cases c3:aX < 28
     ·refine⟨z,?_⟩
      simp only[bV,ar,Z4,Z5,Nat.reduceAdd,Nat.reduceLT,Z7,Z6,bW,o4,Int.reducePow,Int.reduceNeg,ft,fQ,dq,Z0,aw,au,ab,Z3,Z2,PL.settle,frz,frzAll,bp,nC,dh,ae,bx,ad,Sl.isBr,ak,Z1,w5,pC,eu,look,Sl.val,lz,Int.reduceLE,Int.reduceLT,and_self,Int.reduceToNat,dZ,Cm.i,Cm.s,fZ,jh,f7,Bool.or_false,am,aP,aY,aC,fS,aF,fO,e8,bY,mZ,aH,aO,c1,c3,c2,ez,tZ,dd.1,Nat.reduceLeDiff,fw,lb,dd.2,lO,bE,av,f6,aU]
     ·refine⟨aX,?_⟩
      simp only[bV,ar,Z4,Z5,Nat.reduceAdd,Nat.reduceLT,Z7,Z6,bW,o4,Int.reducePow,Int.reduceNeg,ft,fQ,dq,Z0,aw,au,ab,Z3,Z2,PL.settle,frz,frzAll,bp,nC,dh,ae,bx,ad,Sl.isBr,ak,Z1,w5,pC,eu,look,Sl.val,lz,Int.reduceLE,Int.reduceLT,and_self,Int.reduceToNat,dZ,Cm.i,Cm.s,fZ,jh,f7,Bool.or_false,am,aP,aY,aC,fS,aF,fO,e8,bY,mZ,aH,aO,c1,c3,c2,ez,tZ,dd.1,Nat.reduceLeDiff,fw,lb,dd.2,lO,bE,av,f6,aU]
    ·refine⟨aX,?_⟩
     simp only[bV,ar,Z4,Z5,Nat.reduceAdd,Nat.reduceLT,Z7,Z6,bW,o4,Int.reducePow,Int.reduceNeg,ft,fQ,dq,Z0,aw,au,ab,Z3,Z2,PL.settle,frz,frzAll,bp,nC,dh,ae,bx,ad,Sl.isBr,ak,Z1,w5,pC,eu,look,Sl.val,lz,Int.reduceLE,Int.reduceLT,and_self,Int.reduceToNat,dZ,Cm.i,Cm.s,fZ,jh,f7,Bool.or_false,am,aP,aY,aC,fS,aF,fO,e8,bY,mZ,aH,aO,c1,c2,ez,tZ,dd.1,Nat.reduceLeDiff,fw,lb,dd.2,lO,bE,av,f6,aU]
  obtain⟨v,e⟩:=step
  obtain⟨r',c',a',b',e2,l2,n2⟩:=l7 cell x2 x3 n (lo+1) (aX / 28) (c++[((l4 (v % 4),v / 4 % 7 - 3):Pc)]) (.sh (.int lo)) (.sh (.int v)) (by omega) (by simp;omega) (hN.append fun p hp=>by rw[Zag.mp hp];exact⟨Jn _,by show(v / 4 % 7 - 3).natAbs < 2 ^ 100;have:=Int.emod_nonneg (v / 4) (show(7:Int)≠0 by decide);have:=Int.emod_lt_of_pos (v / 4) (show(0:Int) < 7 by decide);omega⟩)
  refine⟨r',c',a',b',?_,by rw[l2];simp;omega,n2⟩
  rw[gS,aK,e]
  exact e2
theorem l9(cell:Int):∃c:List Pc,c8 [.int cell]=some (.ow (c.map av))∧c.length≤12∧CordL c:=by
 have dd:jk 5=true∧jk 26=true∧jk 13=true:=by decide
 have mm:dE 2 1000000000000000000000000000000=true:=yO (by decide) (by decide)
 by_cases c5:cell % 5=2
 ·refine⟨[((97+(cell / 5 % 26).toNat,cell / 5 / 26 % (2*10 ^ 30 - 1) - (10 ^ 30 - 1)):Pc)],?_,by simp,fun p hp=>?_⟩
  ·simp only[c8,fu,Z4,Z5,gH,gE,aw,au,ae,ab,bi,bE,f6,Nat.reduceSub,List.replicate,Z9,Z8,Z2,Sl.isBr,pC,dq,eu,look,Sl.val,lz,Z0,dd.1,Z1,PL.settle,frz,frzAll,Nat.reduceAdd,Nat.reduceLT,Z7,Z6,bp,dh,ft,gK,fO,e8,bY,Hu,aI,be,aF,fS,o4,Int.reducePow,Int.reduceNeg,Int.reduceLE,Int.reduceLT,and_self,Int.reduceToNat,gu,mm,Int.reduceMul,fQ,Int.reduceSub,aH,aP,Nat.reduceLeDiff,b9,iN,ad,ak,c5,bO,Z3,Kg,dd.2.1,bF,bg,aN,de,av,aU]
  ·rw[Zag.mp hp]
   have:=Int.emod_lt_of_pos (cell / 5) (show(0:Int) < 26 by decide)
   have h2:=Int.emod_nonneg (cell / 5 / 26) (show(2*10 ^ 30 - 1:Int)≠0 by decide)
   have h3:=Int.emod_lt_of_pos (cell / 5 / 26) (show(0:Int) < 2*10 ^ 30 - 1 by decide)
   refine⟨?_,?_⟩
   ·show 97≤97+(cell / 5 % 26).toNat∧97+(cell / 5 % 26).toNat < 123
    omega
   ·show(cell / 5 / 26 % (2*10 ^ 30 - 1) - (10 ^ 30 - 1)).natAbs < 2 ^ 100
    generalize cell / 5 / 26 % (2*10 ^ 30 - 1)=z at h2 h3
    omega
 ·have m0:=Int.emod_nonneg (cell / 5) (show(13:Int)≠0 by decide)
  have m1:=Int.emod_lt_of_pos (cell / 5) (show(0:Int) < 13 by decide)
  obtain⟨r',c',a',b',e,l,n⟩:=l7 cell .no (.sh (.int (cell / 5 % 13))) (cell / 5 % 13).toNat 0 (cell / 5 / 13) [] .no .no (by omega) (by simp;omega) sO
  refine⟨c',?_,by rw[l];simp;omega,n⟩
  have hb: -1000000≤cell / 5 % 13∧cell / 5 % 13≤1000000:=by omega
  simp only[f6,Int.natCast_zero]at e
  simp only[c8,fu,Z4,Z5,gH,gE,aw,au,ae,ab,bi,bE,f6,Nat.reduceSub,List.replicate,Z9,Z8,Z2,Sl.isBr,pC,dq,eu,look,Sl.val,lz,Z0,dd.1,Z1,PL.settle,frz,frzAll,Nat.reduceAdd,Nat.reduceLT,Z7,Z6,bp,dh,ft,gK,fO,e8,bY,aI,be,aF,fS,o4,gu,fQ,aH,aP,Nat.reduceLeDiff,b9,iN,ad,ak,Int.reduceLT,bO,c5,Z3,dd.2.2,aO,hb,and_self,e,bF,bg,fE,aU]
theorem oQ(s0 s1 s2:Sl)(most:Int)(hm0:0≤most)(hm:most≤1000):∀(zs:List Int) (c:List Pc) (a b d:Sl),(c.length:Int)≤most→CordL c→
  ∃(c':List Pc) (a' b' d':Sl),aK bI bJ (zs.map .int) [s0,s1,s2,.sh (.int most),.ow (c.map av),a,b,d]=some ([s0,s1,s2,.sh (.int most),.ow (c'.map av),a',b',d'],.nx)∧(c'.length:Int)≤most∧CordL c'
 |[],c,a,b,d,h,hN=>⟨c,a,b,d,rfl,h,hN⟩
 |z::zs,c,a,b,d,h,hN=>by
  have step:∃(c':List Pc) (a' b' d':Sl),(bI (.int z) [s0,s1,s2,.sh (.int most),.ow (c.map av),a,b,d]).bind bJ=some ([s0,s1,s2,.sh (.int most),.ow (c'.map av),a',b',d'],.nx)∧(c'.length:Int)≤most∧CordL c':=by
   have hp:0 < (c.length:Int)+1:=by omega
   have k0:0≤z / 5 % ((c.length:Int)+1):=Int.emod_nonneg _ (by omega)
   have d5:jk 5=true:=by decide
   generalize hk:z / 5 % ((c.length:Int)+1)=k at k0
   have l1:=kN c (some k) none
   have l2:=kN c none (some k)
   by_cases c3:z % 5=3
   ·have e1:=kG (cutL c (some k) none) (by omega)
    have lb:c.length+(NH.contr (cutL c (some k) none)).length≤1000000:=by rw[NH.gr];omega
    obtain⟨a1,b1,d1,e⟩:∃a1 b1 d1,(bI (.int z) [s0,s1,s2,.sh (.int most),.ow (c.map av),a,b,d]).bind bJ=some ([s0,s1,s2,.sh (.int most),.ow ((cutL (c++NH.contr (cutL c (some k) none)) none (some most)).map av),a1,b1,d1],.nx):=by
     simp only[bI,ar,Z4,Z5,Nat.reduceAdd,Nat.reduceLT,Z7,Z6,bJ,ft,dq,gK,Z0,aw,au,ae,ab,Z3,Z2,Sl.isBr,pC,eu,look,Sl.val,lz,d5,Z1,bx,ad,ak,cS,aW,e8,bY,aO,fw,hp,hk,PL.settle,frz,frzAll,bp,dh,am,nK,iA,oE,Int.reduceLT,c3,bO,oX,kM,fE,Bool.or_true,e1,lb,←lO,aU]
     exact⟨_,_,_,rfl⟩
    exact⟨_,a1,b1,d1,e,nH _ hm0,(hN.append (hN.cutL _ _).contr).cutL _ _⟩
   ·by_cases c4:z % 5=4
    ·obtain⟨p,ep,lp,np⟩:=l9 (z / 5)
     have e1:=kG p (by omega)
     have lb:p.length+(NH.contr p).length≤1000000:=by rw[NH.gr];omega
     have lb2:(cutL c none (some k)).length+(p++NH.contr p).length≤1000000:=by rw[pI,NH.gr];omega
     have lb3:(cutL c none (some k)++(p++NH.contr p)).length+(cutL c (some k) none).length≤1000000:=by rw[pI,pI,NH.gr];omega
     obtain⟨a1,b1,d1,e⟩:∃a1 b1 d1,(bI (.int z) [s0,s1,s2,.sh (.int most),.ow (c.map av),a,b,d]).bind bJ=some ([s0,s1,s2,.sh (.int most),.ow ((cutL (cutL c none (some k)++(p++NH.contr p)++cutL c (some k) none) none (some most)).map av),a1,b1,d1],.nx):=by
      simp only[bI,ar,Z4,Z5,Nat.reduceAdd,Nat.reduceLT,Z7,Z6,bJ,ft,dq,gK,Z0,aw,au,ae,ab,Z3,Z2,Sl.isBr,pC,eu,look,Sl.val,lz,d5,Z1,bx,ad,ak,cS,aW,e8,bY,aO,fw,hp,hk,PL.settle,frz,frzAll,bp,dh,am,nK,iA,oE,Int.reduceLT,c4,bO,Int.reduceEq,oX,kM,fE,Bool.or_true,ep,e1,lb,←lO,lb2,lb3,aU]
      exact⟨_,_,_,rfl⟩
     exact⟨_,a1,b1,d1,e,nH _ hm0,(((hN.cutL _ _).append (np.append np.contr)).append (hN.cutL _ _)).cutL _ _⟩
    ·obtain⟨p,ep,lp,np⟩:=l9 z
     have lb:c.length+p.length≤1000000:=by omega
     obtain⟨a1,b1,d1,e⟩:∃a1 b1 d1,(bI (.int z) [s0,s1,s2,.sh (.int most),.ow (c.map av),a,b,d]).bind bJ=some ([s0,s1,s2,.sh (.int most),.ow ((cutL (c++p) none (some most)).map av),a1,b1,d1],.nx):=by
      simp only[bI,ar,Z4,Z5,Nat.reduceAdd,Nat.reduceLT,Z7,Z6,bJ,ft,dq,gK,Z0,aw,au,ae,ab,Z3,Z2,Sl.isBr,pC,eu,look,Sl.val,lz,d5,Z1,bx,ad,ak,cS,aW,e8,bY,aO,fw,hp,hk,PL.settle,frz,frzAll,bp,dh,am,nK,iA,oE,Int.reduceLT,bO,c3,oX,kM,fE,Bool.or_true,c4,ep,lb,←lO,aU]
      exact⟨_,_,_,rfl⟩
     exact⟨_,a1,b1,d1,e,nH _ hm0,(hN.append np).cutL _ _⟩
  obtain⟨c1,a1,b1,d1,e,l1,n1⟩:=step
  obtain⟨c',a',b',d',e2,l2,n2⟩:=oQ s0 s1 s2 most hm0 hm zs c1 a1 b1 d1 l1 n1
  refine⟨c',a',b',d',?_,l2,n2⟩
  rw[bE,aK,e]
  exact e2
theorem wn(ns:List Int)(first last most:Int)(h0:0≤first)(hm0:0≤most)(hm:most≤1000)(hl:ns.length≤63):∃c:List Pc,dL [.list (ns.map .int),.int first,.int last,.int most]=some (.ow (c.map av))∧(c.length:Int)≤most∧CordL c:=by
 obtain⟨k,rfl⟩:∃k:Nat,first=k:=⟨first.toNat,by omega⟩
 have e0:=oo ns k
 obtain⟨c,a,b,d,e,l,n⟩:=oQ (.sh (.list (ns.map .int))) (.sh (.int k)) (.sh (.int last)) most hm0 hm (ns.getD k 0::cutL ns (some ((k:Int)+1)) (some last)) [] .no .no .no (by simpa using hm0) sO
 have lb:=kN ns (some ((k:Int)+1)) (some last)
 have lb2:1+(cutL ns (some ((k:Int)+1)) (some last)).length≤1000000:=by omega
 simp only[f6,bE]at e
 refine⟨c,?_,l,n⟩
 simp only[dL,fu,Z4,Z5,Nat.reduceAdd,gH,ke,aw,au,be,aH,bi,bE,f6,Nat.reduceSub,List.replicate,Z9,Z8,Z0,Nat.reduceLeDiff,PL.settle,frz,frzAll,Nat.reduceLT,Z7,Z6,b9,aM,ae,aF,am,ad,ab,Sl.isBr,ak,Z1,nK,iA,pC,aW,look,Sl.val,e8,bY,aI,Z2,Z3,aO,e0,kM,rR,Bool.or_true,fw,lb2,e,bF,bg,fE,aU]
theorem oR(I:Nat→Prop)(x0:Sl):∀(c acc:List Pc) (a b:Sl),acc.length+c.length≤1000→CordI I acc→CordI I c→∃(acc':List Pc) (a' b':Sl),aK eT eU (c.map av) [x0,.ow (acc.map av),a,b]=some ([x0,.ow (acc'.map av),a',b'],.nx)∧acc'.length=acc.length+c.length∧CordI I acc'
 |[],acc,a,b,_,h,_=>⟨acc,a,b,rfl,rfl,h⟩
 |p::c,acc,a,b,hl,h,hc=>by
  have lb:acc.length < 1000000:=by simp at hl;omega
  have d3:jk 1000=true:=by decide
  have hp:=hc p (gJ ..)
  have step:∃(t:Int),t.natAbs < 2 ^ 100∧(eT (av p) [x0,.ow (acc.map av),a,b]).bind eU=some ([x0,.ow ((acc++[((p.1,t):Pc)]).map av),.sh (.str ⟨#[p.1]⟩),.sh (.int p.2)],.nx):=by
   by_cases n:p.2 < 0
   ·refine⟨0 - (0 - p.2) % 1000,?_,?_⟩
    ·have h1:=Int.emod_nonneg (0 - p.2) (show(1000:Int)≠0 by decide)
     have h2:=Int.emod_lt_of_pos (0 - p.2) (show(0:Int) < 1000 by decide)
     generalize (0 - p.2) % 1000=z at h1 h2
     omega
    ·simp only[eT,fB,av,Z4,Z5,Nat.reduceAdd,bB,ar,Nat.reduceLT,Z7,Z6,Z0,fA,List.isEmpty_nil,eU,fQ,ft,bp,dh,ae,ab,Z3,Z2,Sl.isBr,pC,eu,look,Sl.val,dZ,Cm.i,Cm.s,n,Z1,aY,aC,fS,aF,frz,lz,aH,Int.reduceLT,Nat.reduceLeDiff,fw,lb,lO,bE,f6,aU]
   ·refine⟨p.2 % 1000,?_,?_⟩
    ·have h1:=Int.emod_nonneg p.2 (show(1000:Int)≠0 by decide)
     have h2:=Int.emod_lt_of_pos p.2 (show(0:Int) < 1000 by decide)
     generalize p.2 % 1000=z at h1 h2
     omega
    ·simp only[eT,fB,av,Z4,Z5,Nat.reduceAdd,bB,ar,Nat.reduceLT,Z7,Z6,Z0,fA,List.isEmpty_nil,eU,fQ,ft,bp,dh,ae,ab,Z3,Z2,Sl.isBr,pC,eu,look,Sl.val,dZ,Cm.i,Cm.s,n,Z1,aY,aC,fS,aF,frz,lz,aH,Int.reduceLT,Nat.reduceLeDiff,fw,lb,lO,bE,f6,aU]
  obtain⟨t,ht,e⟩:=step
  obtain⟨acc',a',b',e2,l2,k2⟩:=oR I x0 c (acc++[((p.1,t):Pc)]) (.sh (.str ⟨#[p.1]⟩)) (.sh (.int p.2)) (by simp at hl ⊢;omega) (h.append fun q hq=>by rw[Zag.mp hq];exact⟨hp.1,ht⟩) fun q hq=>hc q (gq _ hq)
  refine⟨acc',a',b',?_,by rw[l2];simp;omega,k2⟩
  rw[bE,aK,e]
  exact e2
theorem wo{I:Nat→Prop}(c:List Pc)(hl:c.length≤1000)(h:CordI I c):∃(c':List Pc) (r:Sl),ef [.list (c.map av)]=some r∧(r=.br (.list (c'.map av))∨r=.ow (c'.map av))∧c'.length=c.length∧CordI I c':=by
 by_cases l8:(c.length:Int) < 8
 ·refine⟨c,.br (.list (c.map av)),?_,Or.inl rfl,rfl,h⟩
  simp only[ef,fu,Z4,Z5,gH,i3,aw,bp,dh,ae,bx,ad,ab,bi,bE,f6,Nat.reduceSub,List.replicate,Z9,Z8,Z2,Sl.isBr,ak,Z1,Z0,cS,aO,look,Sl.val,fw,pC,eu,dZ,Cm.i,Cm.s,l8,aI,aP,au,be,aH,Nat.reduceLeDiff,PL.settle,frz,frzAll,b9,aM,bF,bg,de,aU]
 ·obtain⟨acc',a',b',e,l,k⟩:=oR I (.sh (.list (c.map av))) c [] .no .no (by simpa using hl) A9 h
  refine⟨acc',.ow (acc'.map av),?_,Or.inr rfl,by simpa using l,k⟩
  simp only[f6]at e
  simp only[ef,fu,Z4,Z5,gH,i3,aw,bp,dh,ae,bx,ad,ab,bi,bE,f6,Nat.reduceSub,List.replicate,Z9,Z8,Z2,Sl.isBr,ak,Z1,Z0,cS,aO,look,Sl.val,fw,pC,eu,dZ,Cm.i,Cm.s,l8,aI,aP,au,be,aH,Nat.reduceLeDiff,PL.settle,frz,frzAll,b9,aM,Nat.reduceAdd,Nat.reduceLT,Z7,Z6,e,Z3,bF,bg,fE,aU]
theorem oS:∀(c:List Pc) (x0 x1:Sl),cX g7 di g8 (c.map av) [x0,x1]=some ((c.map (·.1)).map fm)
 |[],x0,x1=>rfl
 |p::c,x0,x1=>by
  have e:(g7 (av p) [x0,x1])=some [.sh (.str ⟨#[p.1]⟩),.sh (.int p.2)]:=rfl
  have e2:g8 [.sh (.str ⟨#[p.1]⟩),.sh (.int p.2)]=some (.sh (.str ⟨#[p.1]⟩),[.sh (.str ⟨#[p.1]⟩),.sh (.int p.2)]):=rfl
  rw[bE,cX,e,Option.bind_some]
  simp only[di,frz,Z0,e2,oS c,Z1,if_true,bE,fm]
theorem wq{c:List Pc}(h:CordL c)(hl:c.length≤1000):d_ [.list (c.map av)]=some (.sh (.str ⟨(cU (c.map (·.1))).toArray⟩)):=by
 have k:=oS c .no .no
 have az:=fun y hy=>mJ (h.az y hy)
 have d:=qG az
 have d2:((c.map (·.1)).map il).length < 4000∧(kP ((c.map (·.1)).map il)).length < 64:=⟨by simp;omega,oW (y_ az) (by decide)⟩
 have l:=ut (cU (c.map (·.1)))
 have l2:=sJ (c.map (·.1))
 have l3:((c.map (·.1)).map fm).length≤1000000:=by simp;omega
 simp only[d_,fu,Z4,Z5,gH,kb,aI,jG,jh,kQ,cf,aM,ab,bi,bE,f6,Nat.sub_self,List.replicate,Z9,Z8,Z2,frz,Z0,jw,p_,k,nn,l3,look,Sl.val,wj,d2,and_self,d,rS,qH,l,l2,qI,Z1,bF,bg,de,aU]
def stay(w:List Nat)(c:List Pc):List Pc:=c.filter fun p=> !decide (p.1∈w)
theorem zg{tg:gx}{cd:jD}{el:bv}{u:Sl}(w:List Nat)(ht:∀d x,tg d [x,u]=some [.sh d,u])(hc:∀p:Pc,cd [.sh (av p),u]=some (!decide (p.1∈w),[.sh (av p),u]))(hel:∀d,el [.sh d,u]=some (.sh d,[.sh d,u])):∀(c:List Pc) (x:Sl),cX tg cd el (c.map av) [x,u]=some ((stay w c).map av)
 |[],x=>rfl
 |p::c,x=>by
  rw[bE,cX,ht,Option.bind_some,hc,Option.bind_some]
  have ih:=zg w ht hc hel c (.sh (av p))
  by_cases k:p.1∈w
  ·rw[stay,List.filter_cons_of_neg (by simpa using k)]
   simp only[k,aU]
   exact ih
  ·rw[stay,List.filter_cons_of_pos (by simpa using k)]
   simp only[k,hel,Z0,frz,ih,Z1,bE,aU]
   rfl
theorem Dz{w:List Nat}(h:∀y∈w,az y){a:Nat}:a∈cU w↔a∈w:=by
 rw[inOrd_mem]
 exact⟨fun z=>z.2,fun z=>⟨mJ (h a z),z⟩⟩
theorem xV{w:List Nat}(h:∀y∈w,az y)(c:List Pc):stay (cU w) c=stay w c:=by
 unfold stay
 congr 1
 funext p
 rw[decide_eq_decide.mpr (Dz h)]
theorem A_(w:List Nat)(p:Pc):fU [.sh (av p),.sh (.str ⟨w.toArray⟩)]=some (!decide (p.1∈w),[.sh (av p),.sh (.str ⟨w.toArray⟩)]):=by
 have o:=pH w p.1
 simp only[fU,dh,ae,ab,av,Z2,Sl.isBr,pC,fO,look,Sl.val,e8,bY,Z0,kz,Z1,yJ,eu,EH,Z3,o,Bool.not_not,aU]
theorem wt(w:List Nat)(c:List Pc):(stay w c).length≤c.length:=List.length_filter_le _ _
theorem xW{w:List Nat}(h:∀y∈w,az y)(hl:w.length≤1000)(c:List Pc)(hc:c.length≤1000):gX [.list (c.map av),.str ⟨w.toArray⟩]=some (.ow ((stay w c).map av)):=by
 have s:=oq h (by omega)
 have k:=zg (tg:=iG) (cd:=fU) (el:=iH) (u:=.sh (.str ⟨(cU w).toArray⟩)) (cU w) (fun _ _=>rfl) (A_ (cU w)) (fun _=>rfl) c .no
 rw[xV h]at k
 have l3:((stay w c).map av).length≤1000000:=by have:=wt w c;simp;omega
 have s2:au 2 (am dg (ad false (ab 1) ak)) [.sh (.list (c.map av)),.sh (.str ⟨w.toArray⟩),.no]=some ([.sh (.list (c.map av)),.sh (.str ⟨w.toArray⟩),.sh (.str ⟨(cU w).toArray⟩)],.nx):=by
  simp only[au,am,ad,ab,Z3,Z2,Sl.isBr,ak,Z1,Z0,aO,look,Sl.val,s,PL.settle,frz,frzAll,Z4,Z5,Nat.reduceAdd,Nat.reduceLT,Z7,Z6,aU]
 have g:lJ=aw (au 2 (am dg (ad false (ab 1) ak))) (aI (cf [none,some 2] (aM (ab 0)) iG fU iH)):=rfl
 simp only[gX,fu,gH,bi,g,bE,f6,Z4,Z5,Nat.reduceSub,Nat.reduceAdd,Nat.zero_add,List.replicate,Z9,Z8,aE s2]
 simp only[aI,cf,aM,ab,Z2,frz,Z0,jw,bE,p_,f6,Z3,Sl.val,k,fE,l3,bF,bg,aU]
theorem oz{w:List Nat}(h:∀y∈w,az y)(hl:w.length≤1000)(c:List Pc)(hc:c.length≤1000):cc [.list (c.map av),.str ⟨w.toArray⟩]=some (.sh (.bool (decide (NH.short (stay w c)=[])))):=by
 have k:=xW h hl c hc
 have f:=xU (stay w c) (by have:=wt w c;omega)
 simp only[cc,fu,Z4,Z5,Nat.reduceAdd,gH,gg,aI,am,ad,ab,bi,bE,f6,Nat.sub_self,List.replicate,Z9,Z8,Z2,Sl.isBr,ak,Z1,Z0,Z3,aO,look,Sl.val,k,f,bF,bg,de,aU]
theorem HJ{c:List PyData→Option Sl}{g:pR}{E E2:List Sl}{ss:List Sl}{ds:List PyData}{d:PyData}{i:Nat}(h:g E=some (ss,E))(hl:aO E ss=some ds)(hc:c ds=some (.sh d))(hi:i < E.length)(hE:E.set i (.sh d)=E2):au i (am c g) E=some (E2,.nx):=by
 rw[←hE]
 exact jA (aL h hl hc) hi
theorem HK{c:List Pc}(hc:c.length≤1000){w:List Nat}(h:∀y∈w,az y)(hl:w.length≤1000):cI [.sh (ai w),.sh (.list (c.map av))]=some (decide (NH.short (stay w c)=[]),[.sh (ai w),.sh (.list (c.map av))]):=by
 have k:am cc (ad false (ab 1) (ad false (ab 0) ak)) [.sh (ai w),.sh (.list (c.map av))]=some (.sh (.bool (decide (NH.short (stay w c)=[]))),[.sh (ai w),.sh (.list (c.map av))]):=aL (ss:=[.sh (.list (c.map av)),.sh (ai w)]) rfl rfl (oz h hl c hc)
 unfold cI
 simp only[gj,k,Z0,look,Sl.val,jE,Z1]
theorem zh{c:List Pc}(hc:c.length≤1000):∀(F:List (List Nat)) (x:Sl),(∀w∈F,(∀y∈w,az y)∧w.length≤1000)→cX dH cI dI (F.map ai) [x,.sh (.list (c.map av))]=some ((F.filter fun w=>decide (NH.short (stay w c)=[])).map ai)
 |[],x,_=>rfl
 |w::F,x,h=>by
  have hw:=h w (gJ ..)
  have t:dH (ai w) [x,.sh (.list (c.map av))]=some [.sh (ai w),.sh (.list (c.map av))]:=rfl
  have el:dI [.sh (ai w),.sh (.list (c.map av))]=some (.sh (ai w),[.sh (ai w),.sh (.list (c.map av))]):=rfl
  rw[bE,zd t (HK hc hw.1 hw.2) el (zh hc F _ fun v hv=>h v (gq _ hv)),List.filter_cons]
  split <;> rfl
structure FewV (V:List Nat):Prop where
 srt:NhFam.Srt V
 az:∀y∈V,az y
 len:V.length≤10
theorem FewV.sets{V:List Nat}(h:FewV V):∀w∈NhFam.iu V,(∀y∈w,Nhk56.az y)∧w.length≤1000:=fun w hw=>by
 obtain⟨s,l⟩:=(NhFam.iW h.srt).mp hw
 have:=(NhFam.eN s h.srt l).length_le
 have:=h.len
 exact⟨fun y hy=>h.az y (l y hy),by omega⟩
theorem FewV.ltrs{V:List Nat}(h:FewV V):∀w∈NhFam.iu V,NH.qw w:=fun w hw a ha=>by
 have:=(h.sets w hw).1 a ha
 exact⟨this.1,this.2⟩
theorem FewV.num{V:List Nat}(h:FewV V):(NhFam.iu V).length≤1024:=by
 rw[NhFam.kW]
 have:2 ^ V.length≤2 ^ 10:=Nat.pow_le_pow_right (by decide) h.len
 omega
theorem FewV.fit{V:List Nat}(h:FewV V)(p:List Nat→Bool):Fit ((NhFam.iu V).filter p):=
 ⟨by have:=List.length_filter_le p (NhFam.iu V);have:=h.num;omega,fun w hw=>⟨h.ltrs w (Zbn.mp hw).1,(h.sets w (Zbn.mp hw).1).2⟩⟩
def zi(c:List Pc)(w:List Nat):Bool:=decide (NH.short (stay w c)=[])
def wu(c:List Pc)(V:List Nat):List (List Nat):=NhFam.a_ ((NhFam.iu V).filter (zi c))
theorem xX{c:List Pc}(kc:CordL c)(hc:c.length≤1000){V:List Nat}(hV:V=cU (c.map (·.1)))(f:FewV V):bT [.list (c.map av)]=some (.ow ((wu c V).map ai)):=by
 have en:d_ [.list (c.map av)]=some (.sh (ai V)):=by rw[hV];exact wq kc hc
 have k1:au 1 (am d_ (ad false (ab 0) ak)) [.sh (.list (c.map av)),.no]=some ([.sh (.list (c.map av)),.sh (ai V)],.nx):=HJ (ss:=[.sh (.list (c.map av))]) rfl rfl en (show 1 < 2 by decide) rfl
 have k2:aY (am bG (ad false (ab 1) ak)) [.sh (.list (c.map av)),.sh (ai V)]=some ([.sh (.list (c.map av)),.sh (ai V)],.nx):=zf (aL (ss:=[.sh (ai V)]) rfl rfl (lY f.len))
 have it:aM (am ba (ad false (ab 1) ak)) [.sh (.list (c.map av)),.sh (ai V)]=some ((NhFam.iu V).map ai,[.sh (.list (c.map av)),.sh (ai V)]):=by
  have k:am ba (ad false (ab 1) ak) [.sh (.list (c.map av)),.sh (ai V)]=some (.ow ((NhFam.iu V).map ai),[.sh (.list (c.map av)),.sh (ai V)]):=aL (ss:=[.sh (ai V)]) rfl rfl (Dp V f.len)
  unfold aM
  rw[k]
  rfl
 have lp:=zh hc (NhFam.iu V) .no f.sets
 have k3:=iL (js:=[none,some 0]) it lp (eL _) (by
  have:=List.length_filter_le (fun w=>decide (NH.short (stay w c)=[])) (NhFam.iu V)
  have:=f.num
  rw[fw]
  omega)
 have lo:=k_ (f.fit (zi c))
 have k4:am bC (ad false (cf [none,some 0] (aM (am ba (ad false (ab 1) ak))) dH cI dI) ak) [.sh (.list (c.map av)),.sh (ai V)]=some (.ow ((wu c V).map ai),[.sh (.list (c.map av)),.sh (ai V)]):=by
  refine aL (ss:=[.ow (((NhFam.iu V).filter (zi c)).map ai)]) ?_ rfl lo
  simp only[ad,ak,k3,Z0,Z1,aU]
  rfl
 have g:bT [.list (c.map av)]=(fI [.sh (.list (c.map av)),.no]).bind fun a=>match a.2 with |.rt r=>bF r |.nx=>some (.sh .none) |_=>none:=rfl
 have fl:=eL (wu c V)
 rw[g,fI,aE k1,aE k2]
 simp only[aI,k4,Z0,Z1,bF,bg,fl,if_true]
theorem uw{g:pR}{E E':List Sl}{i j:Int}{ss:List Sl}(h:g E=some (ss,E'))(hl:aO E' ss=some [.int i,.int j])(c: -1000000≤i∧i≤1000000∧ -1000000≤j∧j≤1000000):nE g E=some (kH i (j - i).toNat,E'):=by
 unfold nE
 rw[h,Option.bind_some]
 simp only[hl]
 rw[if_pos c]
theorem Fx{g:pR}{E E':List Sl}{i j k:Int}{ss:List Sl}(h:g E=some (ss,E'))(hl:aO E' ss=some [.int i,.int j,.int k])(c:qO i∧qO j∧qO k∧k≠0):tS g E=some (qS i k (qR i j k),E'):=by
 unfold tS
 rw[h,Option.bind_some]
 simp only[hl]
 rw[if_pos c]
theorem iz{it:pS}{tg:gx}{body:cA}{E E1 E2:List Sl}{ds:List PyData}(h:it E=some (ds,E1))(l:aK tg body ds E1=some (E2,.nx)):b9 it tg body E=some (E2,.nx):=by
 unfold b9
 rw[h,Option.bind_some,l]
theorem DA{n k:Nat}(g:Nat→Int)(h:k < n):atI ((List.range n).map g) (k:Int)=some (g k):=by
 rw[tQ (by omega),Int.toNat_natCast,mL,List.getElem?_range h]
 rfl
theorem Gh{n k:Nat}(h:k < n):zU n (k:Int)=some k:=by
 unfold zU
 rw[if_pos (by omega),if_pos (by omega),Int.toNat_natCast]
theorem Gi{n k:Nat}(g:Nat→Int)(v:Int):((List.range n).map g).set k v=(List.range n).map fun i=>if i=k then v else g i:=by
 refine List.ext_getElem? fun i=>?_
 by_cases e:k=i
 ·subst e
  by_cases h:k < n
  ·rw[List.getElem?_set_self (by simpa using h),mL,List.getElem?_range h]
   simp
  ·rw[List.getElem?_eq_none (by simp;omega),List.getElem?_eq_none (by simp;omega)]
 ·rw[List.getElem?_set_ne e,mL,mL]
  by_cases h:i < n
  ·have ne:¬i=k:=fun z=>e z.symm
   rw[List.getElem?_range h]
   simp[ne]
  ·rw[List.getElem?_eq_none (by simp;omega)]
   rfl
theorem zj(sg:List Int)(S:Nat→Int)(n l:Nat)(hl:l < n)(aX:List (Int×Int)):∀(r s:Nat) (g:Nat→Int),1≤s→s+r≤l+1→(∀j,s≤j→j < s+r→atI sg (j:Int)=some (S j))→(∀j,s≤j→j < s+r→dE (S j) (g (l - j))=true)→
  iQ sg ((List.range' s r).map (fun(j:Nat)=>((l:Int),(j:Int)))++aX) ((List.range n).map g)=iQ sg aX ((List.range n).map fun i=>if i=l then g l+NH.ir (fun j=>S (s+j)*g (l - (s+j))) r else g i)
 | 0,s,g,_,_,_,_=>by
  have e:(fun i=>if i=l then g l+NH.ir (fun j=>S (s+j)*g (l - (s+j))) 0 else g i)=g:=by
   funext i
   by_cases h:i=l
   ·subst h;simp[NH.ir]
   ·rw[if_neg h]
  rw[e]
  rfl
 |r+1,s,g,hs,hr,ha,hk=>by
  have e1:atI ((List.range n).map g) ((l:Int) - (s:Int))=some (g (l - s)):=by
   rw[show(l:Int) - (s:Int)=((l - s:Nat):Int) by omega]
   exact DA g (by omega)
  have e2:=ha s (gi _) (by omega)
  have e3:=hk s (gi _) (by omega)
  have e4:zU ((List.range n).map g).length (l:Int)=some l:=by rw[fw,List.length_range];exact Gh hl
  have g1:∀j,1≤j→j≤l→(if l - j=l then g l+S s*g (l - s)else g (l - j))=g (l - j):=fun j h1 h2=>if_neg (by omega)
  rw[List.range'_succ,bE,List.cons_append,iQ]
  simp only[DA g hl,e2,e1,e4,e3,if_true,Gi]
  have ih:=zj sg S n l hl aX r (s+1) (fun i=>if i=l then g l+S s*g (l - s)else g i) (by omega) (by omega) (fun j h1 h2=>ha j (by omega) (by omega)) (fun j h1 h2=>by
   rw[g1 j (by omega) (by omega)]
   exact hk j (by omega) (by omega))
  rw[ih]
  congr 1
  refine List.map_congr_left fun i _=>?_
  by_cases h:i=l
  ·subst h
   simp only[if_true]
   rw[NH.nS]
   simp only[Nat.add_zero]
   rw[NH.iT r (h':=fun j=>S (s+(j+1))*g (i - (s+(j+1)))) fun j hj=>by rw[show s+1+j=s+(j+1) by omega,g1 _ (by omega) (by omega)]]
   omega
  ·simp only[if_neg h]
def jd(a:Nat)(w:List Nat):Nat→List (Int×Int)
 | 0=>[]
 |m+1=>(List.range' 1 (NH.fT a (w.take (m+1)).reverse)).map (fun(j:Nat)=>(((m+1:Nat):Int),(j:Int)))++jd a w m
theorem wv(sg:List Int)(w:List Nat)(c:List Pc)(p:Pc)(M:Nat)(hM:∀k,k≤w.length→NH.fT p.1 (w.take k).reverse≤M)(hs:∀j,j≤M→atI sg (j:Int)=some (NH.ch p.2 j))(hb:∀j k,j≤M→k≤w.length→dE (NH.ch p.2 j) (NH.iU w c k)=true):
  ∀m,m≤w.length→iQ sg (jd p.1 w m) ((List.range (w.length+1)).map fun i=>if i≤m then NH.iU w c i else NH.iU w (c++[p]) i)=some ((List.range (w.length+1)).map (NH.iU w (c++[p])))
 | 0,_=>by
  rw[jd,iQ]
  congr 1
  refine List.map_congr_left fun i _=>?_
  by_cases h:i≤0
  ·have:i=0:=by omega
   subst this
   rw[if_pos h,NH.m6 w c p 0 (by omega)]
   simp[NH.fT,NH.ir]
  ·rw[if_neg h]
 |m+1,h=>by
  have ld:=NH.pE p.1 (w.take (m+1)).reverse
  rw[List.length_reverse,List.length_take,Nat.min_eq_left h]at ld
  have hm:=hM (m+1) h
  rw[jd,zj sg (NH.ch p.2) (w.length+1) (m+1) (by omega) (jd p.1 w m) _ 1 _ (gi _) (by omega) (fun j _ h2=>hs j (by omega)) (fun j h1 h2=>by rw[if_pos (by omega)];exact hb j _ (by omega) (by omega))]
  rw[←wv sg w c p M hM hs hb m (by omega)]
  congr 1
  refine List.map_congr_left fun i _=>?_
  by_cases e:i=m+1
  ·subst e
   rw[if_pos rfl,if_pos (gi _),if_neg (by omega),NH.m6 w c p (m+1) h]
   congr 1
   refine NH.iT _ fun j hj=>?_
   rw[if_pos (by omega),Int.mul_comm,show 1+j=j+1 by omega]
  ·rw[if_neg e]
   by_cases q:i≤m
   ·rw[if_pos q,if_pos (by omega)]
   ·rw[if_neg q,if_neg (by omega)]
theorem Fy(t:Int)(k:Nat):NH.ch t k*(t - ((k:Int)+1)+1) / ((k:Int)+1)=NH.ch t (k+1):=by
 have h:=NH.t5 t k
 rw[show NH.ch t k*(t - ((k:Int)+1)+1)=((k:Int)+1)*NH.ch t (k+1) by rw[h,Int.mul_comm];congr 1;omega]
 exact Int.mul_ediv_cancel_left _ (by omega)
theorem HL(x1 a:Sl)(t:Int)(k:Nat)(hk:k≤1000)(hm:dE (NH.ch t k) (t - ((k:Int)+1)+1)=true):
  (b_ (.int ((k:Int)+1)) [.sh (.int t),x1,.ow (((List.range (k+1)).map (NH.ch t)).map .int),a]).bind ca=some ([.sh (.int t),x1,.ow (((List.range (k+2)).map (NH.ch t)).map .int),.sh (.int ((k:Int)+1))],.nx):=by
 have e1:(((List.range (k+1)).map (NH.ch t)).map PyData.int)=(((List.range k).map (NH.ch t)).map .int)++[.int (NH.ch t k)]:=by rw[List.range_succ,lO,lO];rfl
 have e2:(((List.range (k+2)).map (NH.ch t)).map PyData.int)=(((List.range k).map (NH.ch t)).map .int)++[.int (NH.ch t k)]++[.int (NH.ch t (k+1))]:=by rw[List.range_succ,lO,lO,e1];rfl
 have d:jk ((k:Int)+1)=true:=qp (by omega) (by omega)
 have k0:(0:Int) < (k:Int)+1:=by omega
 have n:=Fy t k
 rw[e2,e1]
 have lb:(((List.range k).map (NH.ch t)).map PyData.int).length+1 < 1000000:=by simp;omega
 simp only[b_,ar,Z4,Z5,Nat.reduceAdd,Nat.reduceLT,Z7,Z6,ca,dq,fQ,Z0,aY,aC,Z3,Z2,ae,ab,Sl.isBr,jh,pC,look,Sl.val,f7,Z1,fO,e8,bY,oX,gy,eu,lz,aW,gu,hm,d,n,frz,pI,lb,aU]
theorem DB(x1:Sl)(t:Int)(M:Nat)(hM:M≤1000)(hm:∀k,k < M→dE (NH.ch t k) (t - ((k:Int)+1)+1)=true):∀(n k:Nat) (a:Sl),k+n=M→∃a',aK b_ ca (kH ((k:Int)+1) n) [.sh (.int t),x1,.ow (((List.range (k+1)).map (NH.ch t)).map .int),a]=some ([.sh (.int t),x1,.ow (((List.range (M+1)).map (NH.ch t)).map .int),a'],.nx)
 | 0,k,a,h=>⟨a,by rw[show k=M by omega];rfl⟩
 |n+1,k,a,h=>by
  have s:=HL x1 a t k (by omega) (hm k (by omega))
  obtain⟨a',e⟩:=DB x1 t M hM hm n (k+1) (.sh (.int ((k:Int)+1))) (by omega)
  refine⟨a',?_⟩
  rw[gS,aK,s]
  rw[show((k+1:Nat):Int)+1=(k:Int)+1+1 by omega]at e
  exact e
theorem HM(t:Int)(M:Nat)(hM:M≤1000)(hm:∀k,k < M→dE (NH.ch t k) (t - ((k:Int)+1)+1)=true):cb [.int t,.int M]=some (.ow (((List.range (M+1)).map (NH.ch t)).map .int)):=by
 obtain⟨a,e⟩:=DB (.sh (.int M)) t M hM hm M 0 .no (by omega)
 have e0:(((List.range (0+1)).map (NH.ch t)).map PyData.int)=[.int 1]:=by
  show[PyData.int (NH.ch t 0)]=_
  rw[NH.aQ]
 rw[e0]at e
 simp only[Int.natCast_zero,Int.zero_add]at e
 have fl:aN (((List.range (M+1)).map (NH.ch t)).map PyData.int)=true:=iR _
 have s2:au 2 (be (aF (pC (.int 1)) aH)) [.sh (.int t),.sh (.int M),.no,.no]=some ([.sh (.int t),.sh (.int M),.ow [.int 1],.no],.nx):=by
  simp only[au,be,aF,pC,frz,aH,Z1,Z0,Z4,Z5,Nat.reduceLeDiff,PL.settle,frzAll,Nat.reduceAdd,Nat.reduceLT,Z7,Z6,aU]
 have h1:(ad false (pC (.int 1)) (ad false (ae aW false (ab 1) (pC (.int 1))) ak)) [.sh (.int t),.sh (.int M),.ow [.int 1],.no]=some ([.sh (.int 1),.sh (.int ((M:Int)+1))],[.sh (.int t),.sh (.int M),.ow [.int 1],.no]):=by
  simp only[ad,pC,Sl.isBr,ae,ab,aW,look,Sl.val,e8,bY,Z0,ak,Z1,Z3,Z2,aU]
 have hi:=uw h1 rfl (by omega)
 rw[show((M:Int)+1 - 1).toNat=M by omega]at hi
 have fo:=iz (tg:=b_) (body:=ca) hi e
 have g:cb [.int t,.int M]=(eI [.sh (.int t),.sh (.int M),.no,.no]).bind fun a=>match a.2 with |.rt r=>bF r |.nx=>some (.sh .none) |_=>none:=rfl
 rw[g,eI,aE s2,aE fo]
 simp only[aI,ab,Z3,Z2,Z0,Z7,Z6,Z1,bF,bg,fl,if_true]
theorem Fz(w:List Nat):(⟨w.toArray⟩:Str).cps.toList=w:=by simp
theorem uz{w:List Nat}{i:Nat}(h:i < w.length):atI (⟨w.toArray⟩:Str).cps.toList (i:Int)=some (w.getD i 0):=by
 rw[Fz,f8,uH h]
 simp[h]
def gI(w:List Nat)(i:Nat):Nat:=NH.fT (w.getD i 0) (w.take (i+1)).reverse
theorem jQ{w:List Nat}{i:Nat}(h:i < w.length):(w.take (i+1)).reverse=w.getD i 0::(w.take i).reverse:=by
 rw[List.take_succ_eq_append_getElem h,List.reverse_append]
 simp[h]
theorem DC{w:List Nat}(h:0 < w.length):gI w 0=1:=by
 unfold gI
 rw[jQ h]
 simp[NH.fT]
theorem DD{w:List Nat}{i:Nat}(h:i+1 < w.length)(e:w.getD (i+1) 0=w.getD i 0):gI w (i+1)=gI w i+1:=by
 unfold gI
 rw[jQ h]
 simp only[NH.fT,if_true]
 rw[e]
theorem Ba{w:List Nat}{i:Nat}(h:i+1 < w.length)(e:w.getD (i+1) 0≠w.getD i 0):gI w (i+1)=1:=by
 unfold gI
 rw[jQ h,jQ (show i < w.length by omega)]
 simp only[NH.fT,if_true]
 rw[if_neg (fun z=>e z.symm)]
theorem DE(w:List Nat)(i:Nat)(h:i < w.length):gI w i≤w.length:=by
 unfold gI
 have:=NH.pE (w.getD i 0) (w.take (i+1)).reverse
 rw[List.length_reverse,List.length_take]at this
 omega
theorem zk(w:List Nat)(i:Nat):(((List.range (i+1)).map fun k=>((gI w k:Nat):Int)).map PyData.int)=(((List.range i).map fun k=>((gI w k:Nat):Int)).map PyData.int)++[.int (gI w i)]:=by
 rw[List.range_succ,lO,lO]
 rfl
theorem Jo(w:List Nat)(hw:w.length≤1000)(i:Nat)(hi:i < w.length)(a:Sl):(bP (.int i) [.sh (.str ⟨w.toArray⟩),.ow (((List.range i).map fun k=>((gI w k:Nat):Int)).map .int),a]).bind bQ=some ([.sh (.str ⟨w.toArray⟩),.ow (((List.range (i+1)).map fun k=>((gI w k:Nat):Int)).map .int),.sh (.int i)],.nx):=by
 have lw:(⟨w.toArray⟩:Str).length≤1000000:=by show w.toArray.size≤_;simp;omega
 rw[zk w i]
 cases i with
 |zero=>
  have z:¬((0:Int) < 0):=by omega
  rw[DC hi]
  have n1:((1:Nat):Int)=1:=rfl
  simp only[bP,ar,List.range_zero,f6,Z4,Z5,Nat.reduceAdd,Nat.reduceLT,Int.cast_ofNat_Int,Z7,Z6,bQ,gK,fQ,Z0,bp,dR,dh,ae,ab,Z3,Z2,Sl.isBr,pC,eu,look,Sl.val,dZ,Cm.i,Cm.s,z,Z1,fO,e8,bY,lz,aY,aC,jh,f7,aW,frz,oX,Z8,n1,aU]
 |succ i=>
  have z:(0:Int) < ((i+1:Nat):Int):=by omega
  have e1:=uz hi
  have e2:=uz (show i < w.length by omega)
  have e3:((i+1:Nat):Int) - 1=(i:Int):=by omega
  have lb:(((List.range i).map fun k=>((gI w k:Nat):Int)).map PyData.int).length+1 < 1000000:=by simp;omega
  rw[zk w i]
  by_cases e:w.getD (i+1) 0=w.getD i 0
  ·rw[DD hi e]
   have n1:((gI w i+1:Nat):Int)=(gI w i:Int)+1:=by omega
   simp only[bP,ar,Z4,Z5,Nat.reduceAdd,Nat.reduceLT,Z7,Z6,bQ,gK,fQ,Z0,bp,dR,dh,ae,ab,Z3,Z2,Sl.isBr,pC,eu,look,Sl.val,dZ,Cm.i,Cm.s,z,Z1,fO,e8,bY,lz,lw,e1,e,e3,e2,gf,aY,aC,jh,f7,aW,frz,oX,gy,pI,lb,n1,aU]
  ·rw[Ba hi e]
   have n1:((1:Nat):Int)=1:=rfl
   simp only[bP,ar,Z4,Z5,Nat.reduceAdd,Nat.reduceLT,Z7,Z6,bQ,gK,fQ,Z0,bp,dR,dh,ae,ab,Z3,Z2,Sl.isBr,pC,eu,look,Sl.val,dZ,Cm.i,Cm.s,z,Z1,fO,e8,bY,lz,lw,e1,e3,e2,gf,lD,e,aY,aC,jh,f7,aW,frz,oX,gy,pI,lb,n1,aU]
theorem Gj(w:List Nat)(hw:w.length≤1000):∀(n i:Nat) (a:Sl),i+n=w.length→∃a',aK bP bQ (kH i n) [.sh (.str ⟨w.toArray⟩),.ow (((List.range i).map fun k=>((gI w k:Nat):Int)).map .int),a]=some ([.sh (.str ⟨w.toArray⟩),.ow (((List.range w.length).map fun k=>((gI w k:Nat):Int)).map .int),a'],.nx)
 | 0,i,a,h=>⟨a,by rw[show i=w.length by omega];rfl⟩
 |n+1,i,a,h=>by
  have s:=Jo w hw i (by omega) a
  obtain⟨a',e⟩:=Gj w hw n (i+1) (.sh (.int i)) (by omega)
  refine⟨a',?_⟩
  rw[gS,aK,s]
  exact e
theorem Jp(w:List Nat)(hw:w.length≤1000):cN [.str ⟨w.toArray⟩]=some (.ow (((List.range w.length).map fun k=>((gI w k:Nat):Int)).map .int)):=by
 obtain⟨a,e⟩:=Gj w hw w.length 0 .no (by omega)
 simp only[List.range_zero,f6,Int.natCast_zero]at e
 have fl:aN (((List.range w.length).map fun k=>((gI w k:Nat):Int)).map PyData.int)=true:=iR _
 have ln:(⟨w.toArray⟩:Str).length=w.length:=by show w.toArray.size=_;simp
 have lw:w.length≤1000000:=by omega
 have b1: -1000000≤(w.length:Int):=by omega
 have b2:(w.length:Int)≤1000000:=by omega
 simp only[cN,fu,Z4,Z5,gH,gz,aw,au,be,aH,bi,bE,f6,Nat.reduceSub,List.replicate,Z9,Z8,Z0,Nat.reduceLeDiff,PL.settle,frz,frzAll,Nat.reduceAdd,Nat.reduceLT,Z7,Z6,b9,iN,ad,bx,ab,Sl.isBr,ak,Z1,cS,aI,Z2,aO,look,Sl.val,ln,lw,b1,b2,and_self,Int.toNat_natCast,e,Z3,bF,bg,fl,aU]
def Bb(a:Nat):bM:=.inr ⟨#[a]⟩
def Bc(p:Int×Int):PyData:=.tuple [.int p.1,.int p.2]
abbrev Op:=Nat×Int×Int
def gG(kvs:List (bM×List PyData))(o:Op):List (bM×List PyData):=cB kvs (Bb o.1) (Bc o.2)
def ww(w:List Nat)(m:Nat):List Op:=(List.range' 1 (gI w m)).map fun(j:Nat)=>(w.getD m 0,((m+1:Nat):Int),(j:Int))
def fq(w:List Nat):Nat→List Op
 | 0=>[]
 |m+1=>ww w m++fq w m
theorem FA{a b:Nat}(h:Bb a=Bb b):a=b:=by simpa[Bb]using h
theorem zl(k k':bM)(d:PyData):∀kvs:List (bM×List PyData),fF (cB kvs k d) k'=if k'=k then some ((fF kvs k).getD []++[d])else fF kvs k'
 |[]=>by
  by_cases e:k'=k
  ·subst e;simp[cB,fF]
  ·have e':¬k=k':=fun z=>e z.symm
   simp[cB,fF,e,e']
 |p::r=>by
  have ih:=zl k k' d r
  by_cases c:p.1=k
  ·by_cases e:k'=k
   ·subst e;simp[cB,fF,c]
   ·have e':¬k=k':=fun z=>e z.symm
    simp[cB,fF,c,e,e']
  ·by_cases e:k'=k
   ·subst e
    simp only[cB,fF,c,aU]at ih ⊢
    rw[ih]
   ·simp only[cB,fF,c,if_false,e]at ih ⊢
    rw[ih]
theorem zn(a:Nat):∀(os:List Op) (kvs:List (bM×List PyData)),fF (os.foldl gG kvs) (Bb a)=if ((os.filter fun o=>decide (o.1=a)).map fun o=>Bc o.2)=[]then fF kvs (Bb a)else some ((fF kvs (Bb a)).getD []++((os.filter fun o=>decide (o.1=a)).map fun o=>Bc o.2))
 |[],kvs=>by simp
 |o::os,kvs=>by
  rw[List.foldl_cons,zn a os (gG kvs o)]
  unfold gG
  rw[zl]
  by_cases e:o.1=a
  ·subst e
   simp only[List.filter_cons_of_pos,bE,aU]
   by_cases z:((os.filter fun q=>decide (q.1=o.1)).map fun o=>Bc o.2)=[]
   ·simp[z]
   ·simp[z]
  ·have ne:¬Bb a=Bb o.1:=fun z=>e (FA z).symm
   simp only[ne,if_false]
   rw[List.filter_cons_of_neg (by simpa using e)]
theorem wx(a:Nat)(w:List Nat):∀m,m≤w.length→((fq w m).filter fun o=>decide (o.1=a)).map (fun o=>o.2)=jd a w m
 | 0,_=>rfl
 |m+1,h=>by
  rw[fq,jd,List.filter_append,lO,wx a w m (by omega)]
  congr 1
  unfold ww gI
  have tr:=jQ (show m < w.length by omega)
  by_cases e:w.getD m 0=a
  ·rw[e,List.filter_map,List.filter_eq_self.mpr (by simp),List.map_map]
   rfl
  ·rw[List.filter_eq_nil_iff.mpr (by
    intro o ho
    obtain⟨j,_,rfl⟩:=Zbc.mp ho
    simpa using e)]
   rw[tr]
   simp only[NH.fT,e,if_false]
   rfl
theorem FB(a:Nat)(w:List Nat):fF ((fq w w.length).foldl gG []) (Bb a)=if jd a w w.length=[]then none else some ((jd a w w.length).map Bc):=by
 rw[zn,←wx a w w.length (gi _)]
 have e:((fq w w.length).filter fun o=>decide (o.1=a)).map (fun o=>Bc o.2)=(((fq w w.length).filter fun o=>decide (o.1=a)).map fun o=>o.2).map Bc:=by rw[List.map_map];rfl
 rw[e]
 by_cases z:((fq w w.length).filter fun o=>decide (o.1=a)).map (fun o=>o.2)=[]
 ·rw[z];simp[fF]
 ·rw[if_neg z,if_neg (by simpa using z)]
  simp[fF]
def wy(N:Nat)(kvs:List (bM×List PyData)):Prop:=kvs.length≤N∧∀p∈kvs,p.2.length≤N
theorem HN{N:Nat}(k:bM)(d:PyData):∀{kvs:List (bM×List PyData)},wy N kvs→wy (N+1) (cB kvs k d)
 |[],h=>⟨by simp[cB],fun p hp=>by simp[cB]at hp;subst hp;simp⟩
 |p::r,h=>by
  unfold cB
  split
  ·refine⟨by have:=h.1;simp at this ⊢;omega,fun q hq=>?_⟩
   rcases Zal.mp hq with rfl |hq
   ·have:=h.2 p (gJ ..);simp;omega
   ·have:=h.2 q (gq _ hq);omega
  ·have ih:cB r k d=cB r k d:=rfl
   have l:∀(r:List (bM×List PyData)),(cB r k d).length≤r.length+1:=fun r=>by
    induction r with
    |nil=>simp[cB]
    |cons q r i=>unfold cB;split <;> simp <;> omega
   have m:∀(r:List (bM×List PyData)),(∀q∈r,q.2.length≤N)→∀q∈cB r k d,q.2.length≤N+1:=fun r=>by
    induction r with
    |nil=>intro _ q hq;simp[cB]at hq;subst hq;simp
    |cons q r i=>
     intro hr z hz
     unfold cB at hz
     split at hz
     ·rcases Zal.mp hz with rfl |hz
      ·have:=hr q (gJ ..);simp;omega
      ·have:=hr z (gq _ hz);omega
     ·rcases Zal.mp hz with rfl |hz
      ·have:=hr z (gJ ..);omega
      ·exact i (fun y hy=>hr y (gq _ hy)) z hz
   refine⟨by have:=h.1;have:=l r;simp at this ⊢;simp at *;omega,fun q hq=>?_⟩
   rcases Zal.mp hq with rfl |hq
   ·have:=h.2 q (gJ ..);omega
   ·exact m r (fun y hy=>h.2 y (gq _ hy)) q hq
theorem Jq{N:Nat}{kvs:List (bM×List PyData)}(h:wy N kvs)(hN:N < 1000000):Cw kvs=true:=by
 unfold Cw
 rw[wL,decide_eq_true_eq,List.all_eq_true]
 exact⟨oW h.1 hN,fun p hp=>decide_eq_true (oW (h.2 p hp) hN)⟩
theorem Jr(x1 a:Sl)(w:List Nat)(hw:w.length≤1000)(kvs:List (bM×List PyData))(i:Nat)(hi:i < w.length)(j:Int)(hk:Cw kvs=true)(h1:iM x1=x1):
  (dG (.int j) [.sh (.str ⟨w.toArray⟩),x1,.od kvs,.sh (.int i),a]).bind fg=some ([.sh (.str ⟨w.toArray⟩),x1,.od (gG kvs (w.getD i 0,((i+1:Nat):Int),j)),.sh (.int i),.sh (.int j)],.nx):=by
 have lw:(⟨w.toArray⟩:Str).length≤1000000:=by show w.toArray.size≤_;simp;omega
 have e1:=uz hi
 have n1:((i+1:Nat):Int)=(i:Int)+1:=by omega
 have tt:dG (.int j) [.sh (.str ⟨w.toArray⟩),x1,.od kvs,.sh (.int i),a]=some [.sh (.str ⟨w.toArray⟩),x1,.od kvs,.sh (.int i),.sh (.int j)]:=rfl
 rw[tt,Option.bind_some]
 have fr:frzAll [.sh (.str ⟨w.toArray⟩),x1,.od kvs,.sh (.int i),.sh (.int j)]=[.sh (.str ⟨w.toArray⟩),x1,.no,.sh (.int i),.sh (.int j)]:=by
  show[iM _,iM _,iM _,iM _,iM _]=_
  rw[h1]
  rfl
 have fk:ae fO false (ab 0) (ab 3) [.sh (.str ⟨w.toArray⟩),x1,.no,.sh (.int i),.sh (.int j)]=some (.sh (.str ⟨#[w.getD i 0]⟩),[.sh (.str ⟨w.toArray⟩),x1,.no,.sh (.int i),.sh (.int j)]):=by
  simp only[ae,ab,Z2,Sl.isBr,fO,look,Sl.val,e8,bY,Z0,Z3,lw,e1,Z1,aU]
 have fv:fS (aF (ae aW false (ab 3) (pC (.int 1))) (aF (ab 4) aH)) [.sh (.str ⟨w.toArray⟩),x1,.no,.sh (.int i),.sh (.int j)]=some (.sh (.tuple [.int ((i:Int)+1),.int j]),[.sh (.str ⟨w.toArray⟩),x1,.no,.sh (.int i),.sh (.int j)]):=by
  simp only[fS,aF,ae,ab,Z3,Z2,Sl.isBr,pC,aW,look,Sl.val,e8,bY,Z0,frz,aH,Z1,Z4,Z5,Nat.reduceAdd,Nat.reduceLeDiff,aU]
 have ko:keyOf (.str ⟨#[w.getD i 0]⟩)=some (Bb (w.getD i 0)):=rfl
 show qh 2 _ _ _=_
 unfold qh
 simp only[Z3,Z2,fr,fk,fv,Z0,ko,hk,de,aN,Bool.and_self,Z7,Z6,gG,Bc,n1,aU]
theorem Gk(x1:Sl)(w:List Nat)(hw:w.length≤1000)(i:Nat)(hi:i < w.length)(h1:iM x1=x1):∀(r s N:Nat) (kvs:List (bM×List PyData)) (a:Sl),wy N kvs→N+r < 1000000→∃a',aK dG fg (kH s r) [.sh (.str ⟨w.toArray⟩),x1,.od kvs,.sh (.int i),a]=some ([.sh (.str ⟨w.toArray⟩),x1,.od (((List.range' s r).map fun(j:Nat)=>((w.getD i 0,((i+1:Nat):Int),(j:Int)):Op)).foldl gG kvs),.sh (.int i),a'],.nx)∧wy (N+r) (((List.range' s r).map fun(j:Nat)=>((w.getD i 0,((i+1:Nat):Int),(j:Int)):Op)).foldl gG kvs)
 | 0,s,N,kvs,a,hN,_=>⟨a,rfl,hN⟩
 |r+1,s,N,kvs,a,hN,hb=>by
  have st:=Jr x1 a w hw kvs i hi s (Jq hN (by omega)) h1
  obtain⟨a',e,z⟩:=Gk x1 w hw i hi h1 r (s+1) (N+1) (gG kvs (w.getD i 0,((i+1:Nat):Int),(s:Int))) (.sh (.int s)) (HN _ _ hN) (by omega)
  refine⟨a',?_,by rw[List.range'_succ,bE,List.foldl_cons,show N+(r+1)=N+1+r by omega];exact z⟩
  rw[gS,aK,st,List.range'_succ,bE,List.foldl_cons]
  rw[show((s+1:Nat):Int)=(s:Int)+1 by omega]at e
  exact e
theorem DF(w:List Nat)(hw:w.length≤900)(i:Nat)(hi:i < w.length)(N:Nat)(kvs:List (bM×List PyData))(a b:Sl)(hN:wy N kvs)(hb:N+1000 < 1000000):
  ∃b',(cC (.int i) [.sh (.str ⟨w.toArray⟩),.sh (.list (((List.range w.length).map fun k=>((gI w k:Nat):Int)).map .int)),.od kvs,a,b]).bind cD=some ([.sh (.str ⟨w.toArray⟩),.sh (.list (((List.range w.length).map fun k=>((gI w k:Nat):Int)).map .int)),.od ((ww w i).foldl gG kvs),.sh (.int i),b'],.nx)∧wy (N+1000) ((ww w i).foldl gG kvs):=by
 have sl:=DE w i hi
 have tt:cC (.int i) [.sh (.str ⟨w.toArray⟩),.sh (.list (((List.range w.length).map fun k=>((gI w k:Nat):Int)).map .int)),.od kvs,a,b]=some [.sh (.str ⟨w.toArray⟩),.sh (.list (((List.range w.length).map fun k=>((gI w k:Nat):Int)).map .int)),.od kvs,.sh (.int i),b]:=rfl
 obtain⟨b',e,z⟩:=Gk (.sh (.list (((List.range w.length).map fun k=>((gI w k:Nat):Int)).map .int))) w (by omega) i hi rfl (gI w i) 1 N kvs b hN (by omega)
 have at1:atI (((List.range w.length).map fun k=>((gI w k:Nat):Int)).map PyData.int) (i:Int)=some (.int (gI w i)):=by
  rw[f8,mL,mL,List.getElem?_range hi]
  rfl
 have h1:(ad false (pC (.int 1)) (ad false (ae aW false (ae fO false (ab 1) (ab 3)) (pC (.int 1))) ak)) [.sh (.str ⟨w.toArray⟩),.sh (.list (((List.range w.length).map fun k=>((gI w k:Nat):Int)).map .int)),.od kvs,.sh (.int i),b]=some ([.sh (.int 1),.sh (.int ((gI w i:Int)+1))],[.sh (.str ⟨w.toArray⟩),.sh (.list (((List.range w.length).map fun k=>((gI w k:Nat):Int)).map .int)),.od kvs,.sh (.int i),b]):=by
  simp only[ad,pC,Sl.isBr,ae,ab,fO,look,Sl.val,e8,bY,aW,Z0,ak,Z1,Z3,Z2,at1,aU]
 have hi2:=uw h1 rfl (by omega)
 rw[show((gI w i:Int)+1 - 1).toNat=gI w i by omega]at hi2
 refine⟨b',?_,?_⟩
 ·rw[tt,Option.bind_some,cD]
  exact iz hi2 e
 ·refine⟨jn z.1 (by omega),fun p hp=>jn (z.2 p hp) (by omega)⟩
theorem wz(w:List Nat)(hw:w.length≤900):∀(m N:Nat) (kvs:List (bM×List PyData)) (a b:Sl),m≤w.length→wy N kvs→N+1000*m < 1000000→∃a' b',aK cC cD (qS ((m:Int) - 1) (-1) m) [.sh (.str ⟨w.toArray⟩),.sh (.list (((List.range w.length).map fun k=>((gI w k:Nat):Int)).map .int)),.od kvs,a,b]=some ([.sh (.str ⟨w.toArray⟩),.sh (.list (((List.range w.length).map fun k=>((gI w k:Nat):Int)).map .int)),.od ((fq w m).foldl gG kvs),a',b'],.nx)
 | 0,N,kvs,a,b,_,_,_=>⟨a,b,rfl⟩
 |m+1,N,kvs,a,b,h,hN,hb=>by
  obtain⟨b',e,z⟩:=DF w hw m (by omega) N kvs a b hN (by omega)
  obtain⟨a2,b2,e2⟩:=wz w hw m (N+1000) ((ww w m).foldl gG kvs) (.sh (.int m)) b' (by omega) z (by omega)
  refine⟨a2,b2,?_⟩
  rw[show((m+1:Nat):Int) - 1=(m:Int) by omega,Ao,aK,e,fq,List.foldl_append]
  exact e2
theorem DG(w:List Nat)(os:List Op):∀kvs:List (bM×List PyData),(∀p∈kvs,aN p.2=true)→∀p∈os.foldl gG kvs,aN p.2=true:=by
 have one:∀(k:bM) (q:Int×Int) (kvs:List (bM×List PyData)),(∀p∈kvs,aN p.2=true)→∀p∈cB kvs k (Bc q),aN p.2=true:=fun k q kvs=>by
  induction kvs with
  |nil=>intro _ p hp;simp[cB]at hp;subst hp;rfl
  |cons r kvs ih=>
   intro h p hp
   unfold cB at hp
   split at hp
   ·rcases Zal.mp hp with rfl |hp
    ·show aN (r.2++[Bc q])=true
     rw[mQ,h r (gJ ..)]
     rfl
    ·exact h p (gq _ hp)
   ·rcases Zal.mp hp with rfl |hp
    ·exact h p (gJ ..)
    ·exact ih (fun y hy=>h y (gq _ hy)) p hp
 induction os with
 |nil=>intro kvs h;exact h
 |cons o os ih=>intro kvs h;exact ih _ (one _ _ kvs h)
theorem FC(w:List Nat)(hw:w.length≤900):cO [.str ⟨w.toArray⟩,.list (((List.range w.length).map fun k=>((gI w k:Nat):Int)).map .int)]=some (.od ((fq w w.length).foldl gG [])):=by
 obtain⟨a,b,e⟩:=wz w hw w.length 0 [] .no .no (gi _) ⟨by simp,fun p hp=>by cases hp⟩ (by omega)
 have ln:(⟨w.toArray⟩:Str).length=w.length:=by show w.toArray.size=_;simp
 have lw:w.length≤1000000:=by omega
 have s2:au 2 Cy [.sh (.str ⟨w.toArray⟩),.sh (.list (((List.range w.length).map fun k=>((gI w k:Nat):Int)).map .int)),.no,.no,.no]=some ([.sh (.str ⟨w.toArray⟩),.sh (.list (((List.range w.length).map fun k=>((gI w k:Nat):Int)).map .int)),.od [],.no,.no],.nx):=rfl
 have h1:(ad false (ae fQ false (bx cS (ad false (ab 0) ak)) (pC (.int 1))) (ad false (jh f7 (pC (.int 1))) (ad false (jh f7 (pC (.int 1))) ak))) [.sh (.str ⟨w.toArray⟩),.sh (.list (((List.range w.length).map fun k=>((gI w k:Nat):Int)).map .int)),.od [],.no,.no]=some ([.sh (.int ((w.length:Int) - 1)),.sh (.int (-1)),.sh (.int (-1))],[.sh (.str ⟨w.toArray⟩),.sh (.list (((List.range w.length).map fun k=>((gI w k:Nat):Int)).map .int)),.od [],.no,.no]):=by
  simp only[ad,ae,bx,ab,Z2,Sl.isBr,ak,Z1,Z0,cS,aO,look,Sl.val,ln,lw,pC,fQ,eu,lz,jh,f7,aU]
 have hi:=Fx h1 rfl ⟨⟨by omega,by omega⟩,⟨by omega,by omega⟩,⟨by omega,by omega⟩,by decide⟩
 rw[An,show((w.length:Int) - 1 - -1).toNat=w.length by omega]at hi
 have fo:=iz (tg:=cC) (body:=cD) hi e
 have g:cO [.str ⟨w.toArray⟩,.list (((List.range w.length).map fun k=>((gI w k:Nat):Int)).map .int)]=(fG [.sh (.str ⟨w.toArray⟩),.sh (.list (((List.range w.length).map fun k=>((gI w k:Nat):Int)).map .int)),.no,.no,.no]).bind fun a=>match a.2 with |.rt r=>bF r |.nx=>some (.sh .none) |_=>none:=rfl
 have fl:((fq w w.length).foldl gG []).all (fun p=>aN p.2)=true:=by
  rw[List.all_eq_true]
  exact DG w _ [] fun p hp=>by cases hp
 rw[g,fG,aE s2,aE fo]
 show bF (.od ((fq w w.length).foldl gG []))=_
 unfold bF
 rw[if_pos (show bg (.od ((fq w w.length).foldl gG []))=true from fl)]
theorem wA:∀cs:List (Int×Int),nP (cs.map Bc)=some cs
 |[]=>rfl
 |p::cs=>by
  show(nP (cs.map Bc)).map (fun ps=>(p.1,p.2)::ps)=_
  rw[wA cs]
  rfl
theorem DH(xs:List Int):oF (xs.map PyData.int)=some xs:=by
 induction xs with
 |nil=>rfl
 |cons n ns ih=>simp only[bE,oF,ih,Z1]
theorem DI(a:Nat)(w:List Nat){i:Nat}(h:i < w.length):NH.fT a (w.take (i+1)).reverse≤gI w i:=by
 unfold gI
 rw[jQ h]
 simp only[NH.fT,if_true]
 split
 ·rename_i e;subst e;exact gi _
 ·omega
theorem HP(w:List Nat):∃M:Nat,NhMaxD.CI ((List.range w.length).map fun k=>((gI w k:Nat):Int)) 0=(M:Int)∧M≤w.length∧∀(a k:Nat),k≤w.length→NH.fT a (w.take k).reverse≤M:=by
 have key:∀(xs:List Int) (L:Nat),(∀x∈xs,0≤x∧x≤(L:Int))→∃M:Nat,NhMaxD.CI xs 0=(M:Int)∧M≤L∧∀x∈xs,x≤(M:Int):=fun xs L h=>by
  cases xs with
  |nil=>exact⟨0,rfl,by omega,fun x hx=>by cases hx⟩
  |cons n r=>
   obtain⟨h1,h2,h3⟩:=rX r n
   have b:=h n (gJ ..)
   have b2:0≤r.foldl max n∧r.foldl max n≤(L:Int):=by
    rcases h3 with z |z
    ·rw[z];exact b
    ·exact h _ (gq _ z)
   refine⟨(r.foldl max n).toNat,?_,by omega,fun x hx=>?_⟩
   ·show r.foldl max n=_
    omega
   ·rw[Int.toNat_of_nonneg b2.1]
    rcases Zal.mp hx with z |z
    ·rw[z];exact h1
    ·exact h2 x z
 obtain⟨M,e,l,m⟩:=key ((List.range w.length).map fun k=>((gI w k:Nat):Int)) w.length fun x hx=>by
  obtain⟨k,hk,rfl⟩:=Zbc.mp hx
  have:=DE w k (List.mem_range.mp hk)
  omega
 refine⟨M,e,l,fun a k hk=>?_⟩
 cases k with
 |zero=>simp[NH.fT]
 |succ i=>
  have h1:=DI a w (show i < w.length by omega)
  have h2:=m _ (Zbc.mpr ⟨i,List.mem_range.mpr (show i < w.length by omega),rfl⟩)
  omega
theorem zo(w:List Nat):(PyData.int 1::List.replicate w.length (PyData.int 0))=((List.range (w.length+1)).map (NH.iU w [])).map PyData.int:=by
 rw[List.range_succ_eq_map,bE,bE,List.map_map,List.map_map]
 have h0:NH.iU w [] 0=1:=by simp[NH.iU,NH.lG,NH.t7]
 rw[h0]
 congr 1
 refine List.ext_getElem? fun i=>?_
 by_cases h:i < w.length
 ·rw[mL,List.getElem?_range h,uH (by simpa using h)]
  simp only[List.getElem_replicate,Z1,Function.comp]
  cases w with
  |nil=>simp at h
  |cons a w=>simp[NH.iU,NH.lG,NH.t7]
 ·rw[List.getElem?_eq_none (by simp;omega),List.getElem?_eq_none (by simp;omega)]
def qL(w:List Nat)(c:List Pc):Prop:=(NH.cW c+w.length*c.length+w.length+1) ^ w.length < 2 ^ 20000∧NH.cW c+w.length*c.length+w.length+1 < 2 ^ 20000
theorem uA{w:List Nat}{c:List Pc}(h:qL w c){b n:Nat}(hb:b≤NH.cW c+w.length*c.length+w.length+1)(hn:n≤w.length):b ^ n < 2 ^ 20000:=
 oW (jn (Nat.pow_le_pow_left hb n) (Nat.pow_le_pow_right (by omega) hn)) h.1
theorem zp{w:List Nat}{c c1:List Pc}(h:qL w c)(hs:NH.cW c1≤NH.cW c)(hl:c1.length≤c.length)(k:Nat):(NH.iU w c1 k).natAbs < 2 ^ 20000:=by
 have l:(w.take k).length≤w.length:=by simp;omega
 have h1:=NH.vN (L:=w.length) c1 (w.take k) l
 have m:w.length*c1.length≤w.length*c.length:=Nat.mul_le_mul_left _ hl
 exact oW h1 (uA h (by omega) l)
theorem xY{w:List Nat}{c:List Pc}(h:qL w c){t:Int}(ht:t.natAbs≤NH.cW c){j:Nat}(hj:j≤w.length):(NH.ch t j).natAbs < 2 ^ 20000:=
 oW (NH.CS t j) (uA h (by omega) hj)
theorem DJ(x1:Sl)(w:List Nat)(hw:w.length≤900)(c:List Pc)(hf:qL w c)(M:Nat)(hM:M≤w.length)(hld:∀(a k:Nat),k≤w.length→NH.fT a (w.take k).reverse≤M)(s3:Sl)(c1:List Pc)(p:Pc)(hs:NH.cW c1≤NH.cW c)(hl:c1.length≤c.length)(hp:p.2.natAbs≤NH.cW c)(a b:Sl):
  (eO (av p) [.sh (.str ⟨w.toArray⟩),x1,.ow (((List.range (w.length+1)).map (NH.iU w c1)).map .int),s3,.od ((fq w w.length).foldl gG []),.sh (.int M),a,b]).bind eP=some ([.sh (.str ⟨w.toArray⟩),x1,.ow (((List.range (w.length+1)).map (NH.iU w (c1++[p]))).map .int),s3,.od ((fq w w.length).foldl gG []),.sh (.int M),.sh (.str ⟨#[p.1]⟩),.sh (.int p.2)],.nx):=by
 have tt:∀n0 cu,eO (av p) [.sh (.str ⟨w.toArray⟩),x1,n0,s3,cu,.sh (.int M),a,b]=some [.sh (.str ⟨w.toArray⟩),x1,n0,s3,cu,.sh (.int M),.sh (.str ⟨#[p.1]⟩),.sh (.int p.2)]:=fun n0 cu=>by
  simp only[eO,fB,av,Z4,Z5,Nat.reduceAdd,bB,ar,Nat.reduceLT,Z7,Z6,Z0,fA,List.isEmpty_nil,aU]
 rw[tt,Option.bind_some]
 have ga:=FB p.1 w
 have pick:=wv ((List.range (M+1)).map (NH.ch p.2)) w c1 p M (hld p.1) (fun j hj=>DA _ (by omega)) (fun j k hj hk=>pF (xY hf hp (by omega)) (zp hf hs hl k)) w.length (gi _)
 have same:((List.range (w.length+1)).map fun i=>if i≤w.length then NH.iU w c1 i else NH.iU w (c1++[p]) i)=(List.range (w.length+1)).map (NH.iU w c1):=List.map_congr_left fun i hi=>by
  rw[if_pos (by have:=List.mem_range.mp hi;omega)]
 rw[same]at pick
 have tin:∀E:List Sl,E[6]? =some (.sh (.str ⟨#[p.1]⟩))→E[4]? =some (.od ((fq w w.length).foldl gG []))→EM 4 (ab 6) E=some ((fF ((fq w w.length).foldl gG []) (Bb p.1)).isSome,E):=fun E h6 h4=>by
  unfold EM ab
  simp only[h6,Z1,Z0,look,Sl.val,h4]
  rfl
 have nm:=HM p.2 M (by omega) fun k hk=>pF (xY hf hp (by omega)) (oW (show(p.2 - ((k:Int)+1)+1).natAbs≤NH.cW c+w.length*c.length+w.length+1 by omega) hf.2)
 by_cases z:jd p.1 w w.length=[]
 ·rw[if_pos z]at ga
  rw[z,iQ]at pick
  rw[eP]
  refine jO (E1:=[.sh (.str ⟨w.toArray⟩),x1,.ow (((List.range (w.length+1)).map (NH.iU w c1)).map .int),s3,.od ((fq w w.length).foldl gG []),.sh (.int M),.sh (.str ⟨#[p.1]⟩),.sh (.int p.2)]) ?_ ?_
  ·rw[tin _ rfl rfl,ga]
   rfl
  ·rw[Option.some.inj pick]
   rfl
 ·rw[if_neg z]at ga
  rw[eP]
  refine mI (E1:=[.sh (.str ⟨w.toArray⟩),x1,.ow (((List.range (w.length+1)).map (NH.iU w c1)).map .int),s3,.od ((fq w w.length).foldl gG []),.sh (.int M),.sh (.str ⟨#[p.1]⟩),.sh (.int p.2)]) ?_ ?_
  ·rw[tin _ rfl rfl,ga]
   rfl
  ·have f3:∀q0 q1 q2 q3 q4:Sl,am cb (ad false (ab 7) (ad false (ab 5) ak)) [q0,q1,q2,q3,q4,.sh (.int M),.sh (.str ⟨#[p.1]⟩),.sh (.int p.2)]=some (.ow (((List.range (M+1)).map (NH.ch p.2)).map .int),[q0,q1,q2,q3,q4,.sh (.int M),.sh (.str ⟨#[p.1]⟩),.sh (.int p.2)]):=fun q0 q1 q2 q3 q4=>aL rfl rfl nm
   have fk:∀q0 q1 q2 q3 q4:Sl,ab 6 [q0,q1,q2,q3,q4,.sh (.int M),.sh (.str ⟨#[p.1]⟩),.sh (.int p.2)]=some (.sh (.str ⟨#[p.1]⟩),[q0,q1,q2,q3,q4,.sh (.int M),.sh (.str ⟨#[p.1]⟩),.sh (.int p.2)]):=fun q0 q1 q2 q3 q4=>rfl
   have ko:keyOf (.str ⟨#[p.1]⟩)=some (Bb p.1):=rfl
   have fr:frzAll [.sh (.str ⟨w.toArray⟩),x1,.ow (((List.range (w.length+1)).map (NH.iU w c1)).map .int),s3,.od ((fq w w.length).foldl gG []),.sh (.int M),.sh (.str ⟨#[p.1]⟩),.sh (.int p.2)]=[iM (.sh (.str ⟨w.toArray⟩)),iM x1,iM (.ow (((List.range (w.length+1)).map (NH.iU w c1)).map .int)),iM s3,iM (.od ((fq w w.length).foldl gG [])),.sh (.int M),.sh (.str ⟨#[p.1]⟩),.sh (.int p.2)]:=rfl
   have fn:mS (((List.range (w.length+1)).map (NH.iU w c1)).map .int) [.list ((jd p.1 w w.length).map Bc),.list (((List.range (M+1)).map (NH.ch p.2)).map .int)]=some (((List.range (w.length+1)).map (NH.iU w (c1++[p]))).map .int):=by
    unfold mS
    simp only[DH,wA,Z0,pick,Z1]
   unfold ES
   simp only[Z3,Z2,fr,fk,ko,f3,ga,Z0,iR,if_true,fn,Z1,Z7,Z6]
theorem wB(x1:Sl)(w:List Nat)(hw:w.length≤900)(c:List Pc)(hf:qL w c)(M:Nat)(hM:M≤w.length)(hld:∀(a k:Nat),k≤w.length→NH.fT a (w.take k).reverse≤M)(s3:Sl):∀(c2 c1:List Pc) (a b:Sl),c1++c2=c→∃a' b',
  aK eO eP (c2.map av) [.sh (.str ⟨w.toArray⟩),x1,.ow (((List.range (w.length+1)).map (NH.iU w c1)).map .int),s3,.od ((fq w w.length).foldl gG []),.sh (.int M),a,b]=some ([.sh (.str ⟨w.toArray⟩),x1,.ow (((List.range (w.length+1)).map (NH.iU w c)).map .int),s3,.od ((fq w w.length).foldl gG []),.sh (.int M),a',b'],.nx)
 |[],c1,a,b,h=>⟨a,b,by rw[List.append_nil]at h;rw[h];rfl⟩
 |p::c2,c1,a,b,h=>by
  have hs:NH.cW c1≤NH.cW c:=by rw[←h,NH.jm];omega
  have hl:c1.length≤c.length:=by rw[←h,pI];omega
  have s:=DJ x1 w hw c hf M hM hld s3 c1 p hs hl (NH.qu (by rw[←h];simp)) a b
  obtain⟨a',b',e⟩:=wB x1 w hw c hf M hM hld s3 c2 (c1++[p]) (.sh (.str ⟨#[p.1]⟩)) (.sh (.int p.2)) (by rw[pk];exact h)
  refine⟨a',b',?_⟩
  rw[bE,aK,s]
  exact e
theorem xZ{w:List Nat}{c:List Pc}(h:qL w c):qL w (NH.short c):=by
 have h1:=NH.xz c
 have h2:w.length*(NH.short c).length≤w.length*c.length:=Nat.mul_le_mul_left _ (NH.rJ c)
 exact⟨oW (Nat.pow_le_pow_left (by omega) _) h.1,oW (by omega) h.2⟩
theorem sP(n:Nat):(List.replicate n [PyData.int 0]).flatten=List.replicate n (PyData.int 0):=by
 induction n with
 |zero=>rfl
 |succ n ih=>rw[List.replicate_succ,List.flatten_cons,ih,List.replicate_succ];rfl
theorem wC(w:List Nat)(c:List Pc)(hw:w.length≤900)(hc:c.length≤100000)(hf:qL w c):cr [.str ⟨w.toArray⟩,.list (c.map av)]=some (.sh (.int (NH.aT w c))):=by
 obtain⟨M,eM,lM,hld⟩:=HP w
 have ln:(⟨w.toArray⟩:Str).length=w.length:=by show w.toArray.size=_;simp
 have lw:w.length≤1000000:=by omega
 have b1: -1000000≤(w.length:Int):=by omega
 have b2:(w.length:Int)≤1000000:=by omega
 have sf:=l6 c hc
 have sq:=Jp w (by omega)
 have cu:=FC w hw
 have r1:1*w.length≤1000000:=by omega
 have lr:1+(List.replicate w.length (PyData.int 0)).length≤1000000:=by simp;omega
 have s2:au 2 (ae aW false (be (aF (pC (.int 1)) aH)) (ae gu false (be (aF (pC (.int 0)) aH)) (bx cS (ad false (ab 0) ak)))) [.sh (.str ⟨w.toArray⟩),.sh (.list (c.map av)),.no,.no,.no,.no,.no,.no]=some ([.sh (.str ⟨w.toArray⟩),.sh (.list (c.map av)),.ow (((List.range (w.length+1)).map (NH.iU w [])).map .int),.no,.no,.no,.no,.no],.nx):=by
  rw[←zo w]
  simp only[au,ae,be,aF,pC,frz,aH,Z1,Z0,Z4,Z5,Nat.reduceLeDiff,Sl.isBr,bx,ad,ab,ak,cS,gu,look,Sl.val,e8,bY,aW,Z2,aO,ln,lw,Int.toNat_natCast,r1,b1,b2,and_self,sP,lr,Z9,Z8,PL.settle,frzAll,Nat.reduceAdd,Nat.reduceLT,Z7,Z6,aU]
 have s3:∀n0:Sl,au 3 (am cN (ad false (ab 0) ak)) [.sh (.str ⟨w.toArray⟩),.sh (.list (c.map av)),n0,.no,.no,.no,.no,.no]=some ([.sh (.str ⟨w.toArray⟩),.sh (.list (c.map av)),n0,.ow (((List.range w.length).map fun k=>((gI w k:Nat):Int)).map .int),.no,.no,.no,.no],.nx):=fun n0=>by
  simp only[au,am,ad,ab,Z2,Sl.isBr,ak,Z1,Z0,aO,look,Sl.val,sq,PL.settle,frz,frzAll,Z4,Z5,Nat.reduceAdd,Nat.reduceLT,Z7,Z6,aU]
 have s4:∀n0:Sl,au 4 (am cO (ad false (ab 0) (ad false (ab 3) ak))) [.sh (.str ⟨w.toArray⟩),.sh (.list (c.map av)),n0,.ow (((List.range w.length).map fun k=>((gI w k:Nat):Int)).map .int),.no,.no,.no,.no]=some ([.sh (.str ⟨w.toArray⟩),.sh (.list (c.map av)),n0,.ow (((List.range w.length).map fun k=>((gI w k:Nat):Int)).map .int),.od ((fq w w.length).foldl gG []),.no,.no,.no],.nx):=fun n0=>by
  simp only[au,am,ad,ab,Z2,Sl.isBr,ak,Z1,Z0,Z3,aO,look,Sl.val,cu,PL.settle,frz,frzAll,Z4,Z5,Nat.reduceAdd,Nat.reduceLT,Z7,Z6,aU]
 have s5:∀n0 d0:Sl,au 5 (yL 0 (ab 3)) [.sh (.str ⟨w.toArray⟩),.sh (.list (c.map av)),n0,.ow (((List.range w.length).map fun k=>((gI w k:Nat):Int)).map .int),d0,.no,.no,.no]=some ([.sh (.str ⟨w.toArray⟩),.sh (.list (c.map av)),n0,.ow (((List.range w.length).map fun k=>((gI w k:Nat):Int)).map .int),d0,.sh (.int M),.no,.no],.nx):=fun n0 d0=>by
  simp only[au,yL,ab,Z3,Z2,look,Sl.val,Z0,DH,Z1,eM,PL.settle,frz,frzAll,Z4,Z5,Nat.reduceAdd,Nat.reduceLT,Z7,Z6,aU]
 obtain⟨a,b,e⟩:=wB (.sh (.list (c.map av))) w hw (NH.short c) (xZ hf) M lM hld (.ow (((List.range w.length).map fun k=>((gI w k:Nat):Int)).map .int)) (NH.short c) [] .no .no rfl
 have it:∀n0 d0 e0:Sl,aM (am ck (ad false (ab 1) ak)) [.sh (.str ⟨w.toArray⟩),.sh (.list (c.map av)),n0,.ow (((List.range w.length).map fun k=>((gI w k:Nat):Int)).map .int),d0,e0,.no,.no]=some ((NH.short c).map av,[.sh (.str ⟨w.toArray⟩),.sh (.list (c.map av)),n0,.ow (((List.range w.length).map fun k=>((gI w k:Nat):Int)).map .int),d0,e0,.no,.no]):=fun n0 d0 e0=>by
  simp only[aM,am,ad,ab,Z3,Z2,Sl.isBr,ak,Z1,Z0,aO,look,Sl.val,sf,frz,aU]
 have at1:atI (((List.range (w.length+1)).map (NH.iU w (NH.short c))).map PyData.int) (w.length:Int)=some (.int (NH.iU w (NH.short c) w.length)):=by
  rw[f8,mL,mL,List.getElem?_range (by omega)]
  rfl
 have ends:NH.iU w (NH.short c) w.length=NH.aT w c:=by
  unfold NH.iU
  rw[List.take_length,NH.oJ]
 have g:cr [.str ⟨w.toArray⟩,.list (c.map av)]=(iX [.sh (.str ⟨w.toArray⟩),.sh (.list (c.map av)),.no,.no,.no,.no,.no,.no]).bind fun a=>match a.2 with |.rt r=>bF r |.nx=>some (.sh .none) |_=>none:=rfl
 rw[g,iX,aE s2,aE (s3 _),aE (s4 _),aE (s5 _ _),aE (iz (it _ _ _) e)]
 simp only[aI,ae,ab,Z3,Z2,Sl.isBr,bx,ad,ak,Z1,cS,fO,look,Sl.val,e8,bY,Z0,aO,ln,lw,oX,at1,ends,bF,bg,de,aU]
theorem DK{u v:List Nat}:((⟨u.toArray⟩:Str)=⟨v.toArray⟩)↔u=v:=by
 constructor
 ·intro h
  have:=congrArg (fun x:Str=>x.cps.toList) h
  simpa using this
 ·intro h;rw[h]
theorem x9(w:List Nat):(⟨w.toArray⟩:Str).length=w.length:=by show w.toArray.size=_;simp
theorem zq{w:List Nat}{c:List Pc}(hw:w.length≤40)(hl:c.length≤130)(h:CordOk c):qL w c:=by
 have h1:=NH.yS (B:=2 ^ 100) c fun p hp=>(h p hp).2
 have h2:c.length*2 ^ 100≤130*2 ^ 100:=Nat.mul_le_mul_right _ hl
 have h3:w.length*c.length≤40*130:=Nat.mul_le_mul hw hl
 have h4:NH.cW c+w.length*c.length+w.length+1≤2 ^ 110:=by omega
 have h5:(NH.cW c+w.length*c.length+w.length+1) ^ w.length≤(2 ^ 110) ^ 40:=jn (Nat.pow_le_pow_left h4 _) (Nat.pow_le_pow_right (Nat.two_pow_pos _) hw)
 refine⟨oW h5 ?_,oW h4 ?_⟩
 ·rw[←Nat.pow_mul]
  exact Nat.pow_lt_pow_right (by decide) (by decide)
 ·exact Nat.pow_lt_pow_right (by decide) (by decide)
def IsC(s:Sl)(c:List Pc):Prop:=s=.sh (.list (c.map av))∨s=.ow (c.map av)
theorem Gm(t:Int)(m:Nat):∀k,k≤m→(NH.ff t k).natAbs≤(t.natAbs+m+1) ^ k
 | 0,_=>by show(1:Int).natAbs≤_;simp
 |k+1,h=>by
  have ih:=Gm t m k (by omega)
  show(NH.ff t k*(t - k)).natAbs≤_
  rw[Int.natAbs_mul,Nat.pow_succ]
  exact Nat.mul_le_mul ih (by omega)
def wD(t:Int)(m:Nat):Prop:=(t.natAbs+m+1) ^ m < 2 ^ 20000∧t.natAbs+m+1 < 2 ^ 20000
theorem HQ{t:Int}{m k:Nat}(h:wD t m)(hk:k≤m):(NH.ff t k).natAbs < 2 ^ 20000:=oW (jn (Gm t m k hk) (Nat.pow_le_pow_right (by omega) hk)) h.1
theorem Bd:∀m,m < 41→NH.xu m < 2 ^ 200:=by decide+kernel
theorem FD(t:Int)(x1 a:Sl)(m k:Nat)(hk:k < m)(hm:m≤1000)(h:wD t m):(eJ (.int k) [.sh (.int t),x1,.sh (.int (NH.ff t k)),.sh (.int (NH.xu k)),a]).bind eK=some ([.sh (.int t),x1,.sh (.int (NH.ff t (k+1))),.sh (.int (NH.xu (k+1))),.sh (.int k)],.nx):=by
 have o1:dE (NH.ff t k) (t - k)=true:=pF (HQ h (by omega)) (oW (show(t - (k:Int)).natAbs≤t.natAbs+m+1 by omega) h.2)
 have o2:dE (NH.xu k) ((k:Int)+1)=true:=m4 (by omega) (by omega)
 simp only[eJ,ar,Z4,Z5,Nat.reduceAdd,Nat.reduceLT,Z7,Z6,eK,fQ,Z0,aw,au,ae,ab,Z3,Z2,Sl.isBr,eu,look,Sl.val,lz,gu,e8,bY,Z1,o1,PL.settle,frz,frzAll,pC,aW,o2,NH.ff,NH.xu,aU]
theorem zr(t:Int)(x1:Sl)(m:Nat)(hm:m≤1000)(h:wD t m):∀(n k:Nat) (a:Sl),k+n=m→∃a',aK eJ eK (kH k n) [.sh (.int t),x1,.sh (.int (NH.ff t k)),.sh (.int (NH.xu k)),a]=some ([.sh (.int t),x1,.sh (.int (NH.ff t m)),.sh (.int (NH.xu m)),a'],.nx)
 | 0,k,a,e=>⟨a,by rw[show k=m by omega];rfl⟩
 |n+1,k,a,e=>by
  have s:=FD t x1 a m k (by omega) hm h
  obtain⟨a',e2⟩:=zr t x1 m hm h n (k+1) (.sh (.int k)) (by omega)
  refine⟨a',?_⟩
  rw[gS,aK,s]
  exact e2
theorem rk(t:Int)(m:Nat)(hm:m≤40)(h:wD t m):c_ [.int t,.int m]=some (.sh (.int (NH.ch t m))):=by
 obtain⟨a,e⟩:=zr t (.sh (.int m)) m (by omega) h m 0 .no (by omega)
 have f0:NH.ff t 0=1:=rfl
 have f1:NH.xu 0=1:=rfl
 rw[f0,f1]at e
 simp only[Int.natCast_zero]at e
 have hb: -1000000≤(m:Int)∧(m:Int)≤1000000:=by omega
 have d:jk (NH.xu m)=true:=qp (NH.t6 m) (Bd m (by omega))
 have q:=NH.Hv t m
 simp only[c_,fu,Z4,Z5,Nat.reduceAdd,gH,iK,aw,au,pC,bi,bE,f6,Nat.reduceSub,List.replicate,Z9,Z8,PL.settle,frz,frzAll,Z0,Nat.reduceLT,Z7,Z6,b9,iN,ad,ab,Sl.isBr,ak,Z1,Int.reduceNeg,aI,ae,dq,eu,look,Sl.val,lz,Z3,Z2,aO,hb,and_self,Int.toNat_natCast,e,d,q,bF,bg,de,aU]
theorem zt(a:Nat):∀(r:List Nat) (j:Nat),j < NH.fT a r→r[j]? =some a
 |[],j,h=>by simp[NH.fT]at h
 |b::r,j,h=>by
  simp only[NH.fT]at h
  split at h
  ·rename_i e
   cases j with
   |zero=>simp[e]
   |succ j=>simpa using zt a r j (by omega)
  ·omega
theorem wE(a:Nat):∀r:List Nat,r[NH.fT a r]? ≠some a
 |[]=>by simp
 |b::r=>by
  simp only[NH.fT]
  split
  ·simpa using wE a r
  ·rename_i e;simpa using e
theorem DL(w:List Nat)(k j:Nat)(hk:k≤w.length)(hj:j < k):(w.take k).reverse[j]? =some (w.getD (k - (j+1)) 0):=by
 rw[List.getElem?_reverse (by simp;omega),List.length_take,Nat.min_eq_left hk,List.getElem?_take,if_pos (by omega),show k - 1 - j=k - (j+1) by omega,uH (by omega)]
 simp[show k - (j+1) < w.length by omega]
theorem Be(a:Nat)(w:List Nat)(k:Nat)(hk:k≤w.length):NH.fT a (w.take k).reverse≤k:=by
 have:=NH.pE a (w.take k).reverse
 simpa[Nat.min_eq_left hk]using this
def oT(w:List Nat)(c:List Pc)(p:Pc)(k j:Nat):List Int:=(List.range (w.length+1)).map fun i=>if i < k then NH.iU w (c++[p]) i else if i=k then NH.iU w c k+NH.ir (fun j=>NH.iU w c (k - (j+1))*NH.ch p.2 (j+1)) j else NH.iU w c i
def io(w:List Nat)(c:List Pc):List PyData:=((List.range (w.length+1)).map (NH.iU w c)).map .int
def IsL(s:Sl)(ds:List PyData):Prop:=s=.sh (.list ds)∨s=.ow ds
theorem zu(w:List Nat)(hw:w.length≤900)(p:Pc)(x1 s2 l m:Sl)(k j:Nat)(hk:k≤w.length):dl [.sh (.str ⟨w.toArray⟩),x1,s2,.sh (.str ⟨#[p.1]⟩),.sh (.int p.2),l,.sh (.int k),.sh (.int ((j:Int)+1)),m]=some (decide (j+1≤k∧w.getD (k - (j+1)) 0=p.1),[.sh (.str ⟨w.toArray⟩),x1,s2,.sh (.str ⟨#[p.1]⟩),.sh (.int p.2),l,.sh (.int k),.sh (.int ((j:Int)+1)),m]):=by
 have lw:w.length≤1000000:=by omega
 by_cases h:j+1≤k
 ·have h':(j:Int)+1≤(k:Int):=by omega
  have e1:=uz (w:=w) (i:=k - (j+1)) (by omega)
  rw[show((k - (j+1):Nat):Int)=(k:Int) - ((j:Int)+1) by omega]at e1
  simp only[dl,dR,dh,ae,ab,Z3,Z2,Sl.isBr,eu,look,Sl.val,dZ,Cm.i,Cm.s,Z0,h',Z1,fQ,lz,fO,e8,bY,gK,x9,lw,e1,gf,lD,h,true_and,aU]
 ·have h':¬((j:Int)+1≤(k:Int)):=by omega
  simp only[dl,dR,dh,ae,ab,Z3,Z2,Sl.isBr,eu,look,Sl.val,dZ,Cm.i,Cm.s,Z0,h',Z1,fQ,lz,fO,e8,bY,gK,h,false_and,aU]
theorem FE(w:List Nat)(hw:w.length≤40)(c:List Pc)(p:Pc)(x1 s2 m:Sl)(hs:IsL s2 (io w c))(k j:Nat)(hk:k≤w.length)(hj:j+1≤k)(ht:∀i,i≤w.length→wD p.2 i)(ok:∀i i',i≤w.length→i'≤w.length→dE (NH.iU w c i) (NH.ch p.2 i')=true):
  dW [.sh (.str ⟨w.toArray⟩),x1,s2,.sh (.str ⟨#[p.1]⟩),.sh (.int p.2),.ow ((oT w c p k j).map .int),.sh (.int k),.sh (.int ((j:Int)+1)),m]=some ([.sh (.str ⟨w.toArray⟩),x1,s2,.sh (.str ⟨#[p.1]⟩),.sh (.int p.2),.ow ((oT w c p k (j+1)).map .int),.sh (.int k),.sh (.int (((j+1:Nat):Int)+1)),.sh (.int (NH.ch p.2 (j+1)))],.nx):=by
 have ec:=rk p.2 (j+1) (by omega) (ht _ (by omega))
 rw[show((j+1:Nat):Int)=(j:Int)+1 by omega]at ec
 have a5:atI ((oT w c p k j).map PyData.int) (k:Int)=some (.int (NH.iU w c k+NH.ir (fun j=>NH.iU w c (k - (j+1))*NH.ch p.2 (j+1)) j)):=by
  rw[f8,mL,oT,mL,List.getElem?_range (by omega)]
  simp only[Z1,Nat.lt_irrefl,aU]
 have a2:atI (io w c) ((k:Int) - ((j:Int)+1))=some (.int (NH.iU w c (k - (j+1)))):=by
  rw[show(k:Int) - ((j:Int)+1)=((k - (j+1):Nat):Int) by omega,f8,io,mL,mL,List.getElem?_range (by omega)]
  rfl
 have ix:zU ((oT w c p k j).map PyData.int).length (k:Int)=some k:=by
  rw[fw,oT,fw,List.length_range]
  exact Gh (by omega)
 have om:=ok (k - (j+1)) (j+1) (by omega) (by omega)
 have st:((oT w c p k j).map PyData.int).set k (.int (NH.iU w c k+NH.ir (fun j=>NH.iU w c (k - (j+1))*NH.ch p.2 (j+1)) j+NH.iU w c (k - (j+1))*NH.ch p.2 (j+1)))=(oT w c p k (j+1)).map .int:=by
  rw[←List.map_set]
  refine congrArg (List.map PyData.int) ?_
  unfold oT
  rw[Gi]
  refine List.map_congr_left fun i _=>?_
  by_cases e:i=k
  ·subst e
   rw[if_pos rfl,if_neg (Nat.lt_irrefl _),if_pos rfl,NH.ir,Int.add_assoc]
  ·simp only[e,if_false]
 have s1:∀l,au 8 (am c_ (ad false (ab 4) (ad false (ab 7) ak))) [.sh (.str ⟨w.toArray⟩),x1,s2,.sh (.str ⟨#[p.1]⟩),.sh (.int p.2),l,.sh (.int k),.sh (.int ((j:Int)+1)),m]=some ([.sh (.str ⟨w.toArray⟩),x1,s2,.sh (.str ⟨#[p.1]⟩),.sh (.int p.2),l,.sh (.int k),.sh (.int ((j:Int)+1)),.sh (.int (NH.ch p.2 (j+1)))],.nx):=fun l=>by
  have q:am c_ (ad false (ab 4) (ad false (ab 7) ak)) [.sh (.str ⟨w.toArray⟩),x1,s2,.sh (.str ⟨#[p.1]⟩),.sh (.int p.2),l,.sh (.int k),.sh (.int ((j:Int)+1)),m]=some (.sh (.int (NH.ch p.2 (j+1))),[.sh (.str ⟨w.toArray⟩),x1,s2,.sh (.str ⟨#[p.1]⟩),.sh (.int p.2),l,.sh (.int k),.sh (.int ((j:Int)+1)),m]):=aL rfl rfl ec
  exact jA (i:=8) q (show 8 < 9 by decide)
 have n1:((j+1:Nat):Int)+1=(j:Int)+1+1:=by omega
 rw[dW,aE (s1 _),n1]
 rcases hs with rfl |rfl
 ·simp only[aw,tN,ae,ab,Z3,Z2,Sl.isBr,fO,look,Sl.val,e8,bY,Z0,oX,a5,Z1,fQ,eu,lz,gu,aW,a2,om,frz,Z7,Z6,ix,st,au,pC,PL.settle,frzAll,Z4,Z5,Nat.reduceAdd,Nat.reduceLT,aU]
 ·simp only[aw,tN,ae,ab,Z3,Z2,Sl.isBr,fO,look,Sl.val,e8,bY,Z0,oX,a5,Z1,fQ,eu,lz,gu,aW,a2,om,frz,Z7,Z6,ix,st,au,pC,PL.settle,frzAll,Z4,Z5,Nat.reduceAdd,Nat.reduceLT,aU]
theorem wF(w:List Nat)(hw:w.length≤40)(c:List Pc)(p:Pc)(x1 s2:Sl)(hs:IsL s2 (io w c))(k:Nat)(hk:k≤w.length)(ht:∀i,i≤w.length→wD p.2 i)(ok:∀i i',i≤w.length→i'≤w.length→dE (NH.iU w c i) (NH.ch p.2 i')=true):∀(r j:Nat) (m:Sl),j+r=NH.fT p.1 (w.take k).reverse→∃y m',
  eC dl dW (r+1) [.sh (.str ⟨w.toArray⟩),x1,s2,.sh (.str ⟨#[p.1]⟩),.sh (.int p.2),.ow ((oT w c p k j).map .int),.sh (.int k),.sh (.int ((j:Int)+1)),m]=some ([.sh (.str ⟨w.toArray⟩),x1,s2,.sh (.str ⟨#[p.1]⟩),.sh (.int p.2),.ow ((oT w c p k (NH.fT p.1 (w.take k).reverse)).map .int),.sh (.int k),y,m'],.nx)
 | 0,j,m,e=>by
  have t:=zu w (by omega) p x1 s2 (.ow ((oT w c p k j).map .int)) m k j hk
  have f:¬(j+1≤k∧w.getD (k - (j+1)) 0=p.1):=fun⟨h1,h2⟩=>by
   have:=wE p.1 (w.take k).reverse
   rw[←e,Nat.add_zero,DL w k j hk (by omega),h2]at this
   exact this rfl
  rw[decide_eq_false f]at t
  refine⟨.sh (.int ((j:Int)+1)),m,?_⟩
  rw[eC,t,←e]
  rfl
 |r+1,j,m,e=>by
  have t:=zu w (by omega) p x1 s2 (.ow ((oT w c p k j).map .int)) m k j hk
  have ll:=Be p.1 w k hk
  have f:j+1≤k∧w.getD (k - (j+1)) 0=p.1:=by
   have:=zt p.1 (w.take k).reverse j (by omega)
   rw[DL w k j hk (by omega)]at this
   exact⟨by omega,Option.some.inj this⟩
  rw[decide_eq_true f]at t
  obtain⟨y,m',ih⟩:=wF w hw c p x1 s2 hs k hk ht ok r (j+1) (.sh (.int (NH.ch p.2 (j+1)))) (by omega)
  refine⟨y,m',?_⟩
  rw[eC,t,Option.bind_some,if_pos rfl,FE w hw c p x1 s2 m hs k j hk f.1 ht ok,Option.bind_some]
  exact ih
theorem DM(w:List Nat)(c:List Pc)(p:Pc)(k:Nat)(hk:k≤w.length):oT w c p k (NH.fT p.1 (w.take k).reverse)=oT w c p (k+1) 0:=by
 unfold oT
 refine List.map_congr_left fun i _=>?_
 by_cases h1:i < k
 ·rw[if_pos h1,if_pos (by omega)]
 ·by_cases h2:i=k
  ·subst h2
   rw[if_neg h1,if_pos rfl,if_pos (by omega),NH.m6 w c p i hk]
  ·rw[if_neg h1,if_neg h2,if_neg (by omega)]
   by_cases h3:i=k+1
   ·subst h3
    rw[if_pos rfl]
    simp[NH.ir]
   ·rw[if_neg h3]
theorem zv(w:List Nat)(hw:w.length≤40)(c:List Pc)(p:Pc)(x1 s2:Sl)(hs:IsL s2 (io w c))(ht:∀i,i≤w.length→wD p.2 i)(ok:∀i i',i≤w.length→i'≤w.length→dE (NH.iU w c i) (NH.ch p.2 i')=true):∀(n k:Nat) (a b d:Sl),k+n=w.length+1→∃a' b' d',
  aK fK dX (kH k n) [.sh (.str ⟨w.toArray⟩),x1,s2,.sh (.str ⟨#[p.1]⟩),.sh (.int p.2),.ow ((oT w c p k 0).map .int),a,b,d]=some ([.sh (.str ⟨w.toArray⟩),x1,s2,.sh (.str ⟨#[p.1]⟩),.sh (.int p.2),.ow ((oT w c p (w.length+1) 0).map .int),a',b',d'],.nx)
 | 0,k,a,b,d,e=>⟨a,b,d,by rw[show k=w.length+1 by omega];rfl⟩
 |n+1,k,a,b,d,e=>by
  obtain⟨y,m',h⟩:=wF w hw c p x1 s2 hs k (by omega) ht ok (NH.fT p.1 (w.take k).reverse) 0 d (by omega)
  have wh:=Ag h
  rw[DM w c p k (by omega),Int.natCast_zero,Int.zero_add]at wh
  obtain⟨a',b',d',ih⟩:=zv w hw c p x1 s2 hs ht ok n (k+1) (.sh (.int k)) y m' (by omega)
  refine⟨a',b',d',?_⟩
  have step:(fK (.int k) [.sh (.str ⟨w.toArray⟩),x1,s2,.sh (.str ⟨#[p.1]⟩),.sh (.int p.2),.ow ((oT w c p k 0).map .int),a,b,d]).bind dX=some ([.sh (.str ⟨w.toArray⟩),x1,s2,.sh (.str ⟨#[p.1]⟩),.sh (.int p.2),.ow ((oT w c p (k+1) 0).map .int),.sh (.int k),y,m'],.nx):=by
   rw[dX]
   show aw (au 7 (pC (.int 1))) (nI dl dW) [.sh (.str ⟨w.toArray⟩),x1,s2,.sh (.str ⟨#[p.1]⟩),.sh (.int p.2),.ow ((oT w c p k 0).map .int),.sh (.int k),b,d]=_
   exact(aE (f:=au 7 (pC (.int 1))) (E1:=[.sh (.str ⟨w.toArray⟩),x1,s2,.sh (.str ⟨#[p.1]⟩),.sh (.int p.2),.ow ((oT w c p k 0).map .int),.sh (.int k),.sh (.int 1),d]) rfl).trans wh
  rw[gS,aK,step]
  exact ih
theorem Bf(w:List Nat)(c:List Pc)(p:Pc):(oT w c p 1 0).map PyData.int=io w c:=by
 unfold oT io
 congr 1
 refine List.map_congr_left fun i _=>?_
 by_cases h1:i < 1
 ·have:i=0:=by omega
  subst this
  rw[if_pos h1,NH.m6 w c p 0 (by omega)]
  simp[NH.fT,NH.ir]
 ·rw[if_neg h1]
  split
  ·rename_i e;subst e;simp[NH.ir]
  ·rfl
theorem DN(w:List Nat)(c:List Pc)(p:Pc):(oT w c p (w.length+1) 0).map PyData.int=io w (c++[p]):=by
 unfold oT io
 congr 1
 refine List.map_congr_left fun i hi=>?_
 rw[if_pos (by simpa using hi)]
theorem DO(w:List Nat)(hw:w.length≤40)(c:List Pc)(p:Pc)(x1 s2 a b e f g h:Sl)(hs:IsL s2 (io w c))(ht:∀i,i≤w.length→wD p.2 i)(ok:∀i i',i≤w.length→i'≤w.length→dE (NH.iU w c i) (NH.ch p.2 i')=true):∃s2' a' b' e' f' g' h',IsL s2' (io w (c++[p]))∧
  (dY (av p) [.sh (.str ⟨w.toArray⟩),x1,s2,a,b,e,f,g,h]).bind fL=some ([.sh (.str ⟨w.toArray⟩),x1,s2',a',b',e',f',g',h'],.nx):=by
 obtain⟨f',g',h',l⟩:=zv w hw c p x1 s2 hs ht ok w.length 1 f g h (by omega)
 rw[Bf,DN]at l
 have tt:dY (av p) [.sh (.str ⟨w.toArray⟩),x1,s2,a,b,e,f,g,h]=some [.sh (.str ⟨w.toArray⟩),x1,s2,.sh (.str ⟨#[p.1]⟩),.sh (.int p.2),e,f,g,h]:=by
  simp only[dY,fB,av,Z4,Z5,Nat.reduceAdd,bB,ar,Nat.reduceLT,Z7,Z6,Z0,fA,List.isEmpty_nil,aU]
 have fl:aN (io w c)=true:=iR _
 have s5:au 5 (j0 (ab 2)) [.sh (.str ⟨w.toArray⟩),x1,s2,.sh (.str ⟨#[p.1]⟩),.sh (.int p.2),e,f,g,h]=some ([.sh (.str ⟨w.toArray⟩),x1,s2,.sh (.str ⟨#[p.1]⟩),.sh (.int p.2),.ow (io w c),f,g,h],.nx):=by
  rcases hs with rfl |rfl
  ·simp only[au,j0,ab,Z3,Z2,look,Sl.val,e8,bY,Z0,fl,Bool.or_true,PL.settle,frz,frzAll,Z4,Z5,Nat.reduceAdd,Nat.reduceLT,Z7,Z6,aU]
  ·simp only[au,j0,ab,Z3,Z2,look,Sl.val,e8,bY,Z0,oX,fl,Bool.or_true,PL.settle,frz,frzAll,Z4,Z5,Nat.reduceAdd,Nat.reduceLT,Z7,Z6,aU]
 have lw:w.length≤1000000:=by omega
 have h1:(ad false (pC (.int 1)) (ad false (ae aW false (bx cS (ad false (ab 0) ak)) (pC (.int 1))) ak)) [.sh (.str ⟨w.toArray⟩),x1,s2,.sh (.str ⟨#[p.1]⟩),.sh (.int p.2),.ow (io w c),f,g,h]=some ([.sh (.int 1),.sh (.int ((w.length:Int)+1))],[.sh (.str ⟨w.toArray⟩),x1,s2,.sh (.str ⟨#[p.1]⟩),.sh (.int p.2),.ow (io w c),f,g,h]):=by
  simp only[ad,pC,Sl.isBr,ae,bx,ab,ak,Z1,cS,aW,look,Sl.val,e8,bY,Z0,Z2,aO,x9,lw,aU]
 have hi:=uw h1 rfl (by omega)
 rw[show((w.length:Int)+1 - 1).toNat=w.length by omega]at hi
 have fo:=iz (tg:=fK) (body:=dX) hi l
 refine⟨.sh (.list (io w (c++[p]))),.sh (.str ⟨#[p.1]⟩),.sh (.int p.2),.sh (.list (io w (c++[p]))),f',g',h',Or.inl rfl,?_⟩
 rw[tt,Option.bind_some,fL,aE s5,aE fo]
 rfl
theorem DP(w:List Nat)(hw:w.length≤40)(x1:Sl)(c:List Pc)(hf:qL w c):∀(c2 c1:List Pc) (s2 a b e f g h:Sl),c1++c2=c→IsL s2 (io w c1)→∃s2' a' b' e' f' g' h',IsL s2' (io w c)∧aK dY fL (c2.map av) [.sh (.str ⟨w.toArray⟩),x1,s2,a,b,e,f,g,h]=some ([.sh (.str ⟨w.toArray⟩),x1,s2',a',b',e',f',g',h'],.nx)
 |[],c1,s2,a,b,e,f,g,h,q,hs=>⟨s2,a,b,e,f,g,h,by rw[List.append_nil]at q;rw[←q];exact hs,rfl⟩
 |p::c2,c1,s2,a,b,e,f,g,h,q,hs=>by
  have hS:NH.cW c1≤NH.cW c:=by rw[←q,NH.jm];omega
  have hl:c1.length≤c.length:=by rw[←q,pI];omega
  have hp:p.2.natAbs≤NH.cW c:=NH.qu (by rw[←q];simp)
  obtain⟨s2',a',b',e',f',g',h',i1,e1⟩:=DO w hw c1 p x1 s2 a b e f g h hs (fun i hi=>⟨uA hf (by omega) hi,oW (by omega) hf.2⟩) (fun i i' _ hi'=>pF (zp hf hS hl i) (xY hf hp hi'))
  obtain⟨s3,a3,b3,e3,f3,g3,h3,i2,e2⟩:=DP w hw x1 c hf c2 (c1++[p]) s2' a' b' e' f' g' h' (by rw[pk];exact q) i1
  refine⟨s3,a3,b3,e3,f3,g3,h3,i2,?_⟩
  rw[bE,aK,e1]
  exact e2
theorem uB(w:List Nat)(c:List Pc)(hw:w.length≤40)(hf:qL w c):dM [.str ⟨w.toArray⟩,.list (c.map av)]=some (.sh (.int (NH.aT w c))):=by
 have ln:(⟨w.toArray⟩:Str).length=w.length:=x9 w
 have lw:w.length≤1000000:=by omega
 have b1: -1000000≤(w.length:Int):=by omega
 have b2:(w.length:Int)≤1000000:=by omega
 have r1:1*w.length≤1000000:=by omega
 have lr:1+(List.replicate w.length (PyData.int 0)).length≤1000000:=by simp;omega
 have s2:au 2 (ae aW false (be (aF (pC (.int 1)) aH)) (ae gu false (be (aF (pC (.int 0)) aH)) (bx cS (ad false (ab 0) ak)))) [.sh (.str ⟨w.toArray⟩),.sh (.list (c.map av)),.no,.no,.no,.no,.no,.no,.no]=some ([.sh (.str ⟨w.toArray⟩),.sh (.list (c.map av)),.ow (io w []),.no,.no,.no,.no,.no,.no],.nx):=by
  rw[io,←zo w]
  simp only[au,ae,be,aF,pC,frz,aH,Z1,Z0,Z4,Z5,Nat.reduceLeDiff,Sl.isBr,bx,ad,ab,ak,cS,gu,look,Sl.val,e8,bY,aW,Z2,aO,ln,lw,Int.toNat_natCast,r1,b1,b2,and_self,sP,lr,Z9,Z8,PL.settle,frzAll,Nat.reduceAdd,Nat.reduceLT,Z7,Z6,aU]
 obtain⟨s2',a',b',e',f',g',h',i1,e1⟩:=DP w hw (.sh (.list (c.map av))) c hf c [] (.ow (io w [])) .no .no .no .no .no .no rfl (Or.inr rfl)
 have it:aM (ab 1) [.sh (.str ⟨w.toArray⟩),.sh (.list (c.map av)),.ow (io w []),.no,.no,.no,.no,.no,.no]=some (c.map av,[.sh (.str ⟨w.toArray⟩),.sh (.list (c.map av)),.ow (io w []),.no,.no,.no,.no,.no,.no]):=by
  simp only[aM,ab,Z3,Z2,frz,Z0]
 have at1:atI (io w c) (w.length:Int)=some (.int (NH.aT w c)):=by
  rw[io,f8,mL,mL,List.getElem?_range (by omega)]
  simp[NH.iU]
 have g:dM [.str ⟨w.toArray⟩,.list (c.map av)]=(ij [.sh (.str ⟨w.toArray⟩),.sh (.list (c.map av)),.no,.no,.no,.no,.no,.no,.no]).bind fun a=>match a.2 with |.rt r=>bF r |.nx=>some (.sh .none) |_=>none:=rfl
 rw[g,ij,aE s2,aE (iz it e1)]
 rcases i1 with rfl |rfl
 ·simp only[aI,ae,ab,Z3,Z2,Sl.isBr,bx,ad,ak,Z1,cS,fO,look,Sl.val,e8,bY,Z0,aO,ln,lw,at1,bF,bg,de,aU]
 ·simp only[aI,ae,ab,Z3,Z2,Sl.isBr,bx,ad,ak,Z1,cS,fO,look,Sl.val,e8,bY,Z0,aO,ln,lw,oX,at1,bF,bg,de,aU]
theorem oU{α:Type}(f:α→Bool):∀l:List α,j7 (l.map fun a=>PyData.bool (f a))=some (l.map f)
 |[]=>rfl
 |a::l=>by
  show(j7 (l.map fun a=>PyData.bool (f a))).map (f a:: ·)=_
  rw[oU f l]
  rfl
theorem sQ{α:Type}(f:α→Bool):∀l:List α,aN (l.map fun a=>PyData.bool (f a))=true
 |[]=>rfl
 |a::l=>by show(de (.bool (f a))&&_)=true;rw[sQ f l];rfl
theorem Js{f:bv}{E:List Sl}{ds:List PyData}(h:f E=some (.ow ds,E)):aM f E=some (ds,E):=by
 unfold aM
 rw[h]
 rfl
theorem HR(w:List Nat)(a:Nat):cK [.sh (.str ⟨#[a]⟩),.sh (ai w)]=some (.sh (.bool (decide (a∈w))),[.sh (.str ⟨#[a]⟩),.sh (ai w)]):=by
 have o:=pH w a
 simp only[cK,ae,ab,ai,Z2,Sl.isBr,yJ,eu,look,Sl.val,EH,Z0,Z3,o,Bool.not_not,Z1,aU]
theorem zw(w:List Nat):∀(v:List Nat) (x:Sl),cX dN di cK (v.map fm) [x,.sh (ai w)]=some (v.map fun a=>PyData.bool (decide (a∈w)))
 |[],x=>rfl
 |a::v,x=>by
  have t:dN (fm a) [x,.sh (ai w)]=some [.sh (fm a),.sh (ai w)]:=rfl
  exact pG t (HR w a) (zw w v _)
theorem HS(v w:List Nat):(v.map fun a=>decide (a∈w)).all id=decide (NhFam.le v w):=by
 rw[List.all_map]
 exact Bool.eq_iff_iff.mpr (by rw[decide_eq_true_iff];simp[NhFam.le])
theorem HU(w:List Nat)(x1:Sl)(v:List Nat)(hv:v.length≤1000):gj (bx EN (ad false (cf [none,some 0] (aM (ab 2)) dN di cK) ak)) [.sh (ai w),x1,.sh (ai v)]=some (decide (NhFam.le v w),[.sh (ai w),x1,.sh (ai v)]):=by
 have it:aM (ab 2) [.sh (ai w),x1,.sh (ai v)]=some (v.map fm,[.sh (ai w),x1,.sh (ai v)]):=by
  simp only[aM,ab,ai,Z3,Z2,frz,Z0,ur]
 have k:=iL (js:=[none,some 0]) it (zw w v .no) (sQ _ v) (by rw[fw];omega)
 have bo:=oU (fun a=>decide (a∈w)) v
 have al:=HS v w
 simp only[gj,bx,ad,ak,k,Z0,Z1,aO,look,Sl.val,EN,bo,al,jE,aU]
theorem wG(w:List Nat)(x1:Sl):∀(K:List (List Nat)) (a:Sl),(∀k∈K,k.length≤1000)→∃E,aK bu a8 (K.map ai) [.sh (ai w),x1,a]=some (E,if K.any (fun k=>decide (NhFam.le k w))then .rt (.sh (.bool true))else .nx)
 |[],a,_=>⟨_,rfl⟩
 |k::K,a,h=>by
  have t1:=HU w x1 k (h k (gJ ..))
  have tg:bu (ai k) [.sh (ai w),x1,a]=some [.sh (ai w),x1,.sh (ai k)]:=rfl
  by_cases q:NhFam.le k w
  ·rw[decide_eq_true q]at t1
   refine⟨[.sh (ai w),x1,.sh (ai k)],?_⟩
   have st:(bu (ai k) [.sh (ai w),x1,a]).bind a8=some ([.sh (ai w),x1,.sh (ai k)],.rt (.sh (.bool true))):=by
    rw[tg,Option.bind_some,a8]
    exact mI t1 rfl
   rw[bE,aK,st,List.any_cons,decide_eq_true q]
   rfl
  ·rw[decide_eq_false q]at t1
   obtain⟨E,ih⟩:=wG w x1 K (.sh (ai k)) fun v hv=>h v (gq _ hv)
   refine⟨E,?_⟩
   have st:(bu (ai k) [.sh (ai w),x1,a]).bind a8=some ([.sh (ai w),x1,.sh (ai k)],.nx):=by
    rw[tg,Option.bind_some,a8]
    exact jO t1 rfl
   rw[bE,aK,st,List.any_cons,decide_eq_false q,Bool.false_or]
   exact ih
theorem DQ(w:List Nat)(K:List (List Nat))(h:∀k∈K,k.length≤1000):bA [ai w,.list (K.map ai)]=some (.sh (.bool (K.any fun k=>decide (NhFam.le k w)))):=by
 obtain⟨E,e⟩:=wG w (.sh (.list (K.map ai))) K .no h
 have g:bA [ai w,.list (K.map ai)]=(fM [.sh (ai w),.sh (.list (K.map ai)),.no]).bind fun a=>match a.2 with |.rt r=>bF r |.nx=>some (.sh .none) |_=>none:=rfl
 have it:aM (ab 1) [.sh (ai w),.sh (.list (K.map ai)),.no]=some (K.map ai,[.sh (ai w),.sh (.list (K.map ai)),.no]):=rfl
 rw[g,fM]
 cases q:K.any (fun k=>decide (NhFam.le k w))with
 |true=>
  rw[q]at e
  have fo:b9 (aM (ab 1)) bu a8 [.sh (ai w),.sh (.list (K.map ai)),.no]=some (E,.rt (.sh (.bool true))):=by
   unfold b9
   rw[it,Option.bind_some]
   exact e
  simp only[aw,fo,Z0]
  rfl
 |false=>
  rw[q]at e
  have fo:b9 (aM (ab 1)) bu a8 [.sh (ai w),.sh (.list (K.map ai)),.no]=some (E,.nx):=by
   unfold b9
   rw[it,Option.bind_some]
   exact e
  rw[aE fo]
  rfl
theorem Bg{U:List Nat}{L:List (List Nat)}(u:Uni U)(h:∀w∈L,NhFam.Sub U w):gM L=L:=by
 unfold gM
 induction L with
 |nil=>rfl
 |cons w L ih=>
  rw[bE,ih fun v hv=>h v (gq _ hv),Ds (h w (gJ ..)).1 (u.azw (h w (gJ ..)))]
def keep(w:List Nat)(c:List Pc):List Pc:=c.filter fun p=>decide (p.1∈w)
theorem jR(w:List Nat)(c:List Pc):(keep w c).length≤c.length:=List.length_filter_le _ _
theorem uC(P:Nat→Prop){g g':List Nat→Int}(hg:∀u:List Nat,(∀x∈u,P x)→g u=g' u):∀(w:List Nat) (f f':List Nat→Int),(∀x∈w,P x)→(∀u:List Nat,(∀x∈u,P x)→f u=f' u)→NH.conv f g w=NH.conv f' g' w
 |[],f,f',_,hf=>by
  simp only[NH.conv]
  rw[hf [] (fun _ z=>by cases z),hg [] (fun _ z=>by cases z)]
 |a::w,f,f',hw,hf=>by
  simp only[NH.conv]
  rw[hf [] (fun _ z=>by cases z),hg (a::w) hw,uC P hg w (fun u=>f (a::u)) (fun u=>f' (a::u)) (fun x hx=>hw x (gq _ hx)) fun u hu=>hf (a::u) fun x hx=>(Zal.mp hx).elim (fun e=>e▸hw a (gJ ..)) (hu x)]
theorem Bh{p:Pc}{w u:List Nat}(hp:p.1∉w)(hu:∀x∈u,x∈w):NH.fX p u=NH.t7 u:=by
 cases u with
 |nil=>simp[NH.fX,NH.t7,NH.aQ]
 |cons a u=>
  have n:¬a=p.1:=fun e=>hp (e▸hu a (gJ ..))
  simp[NH.fX,NH.t7,n]
theorem je(w:List Nat):∀(c:List Pc) (u:List Nat),(∀x∈u,x∈w)→NH.aT u (keep w c)=NH.aT u c
 |[],u,_=>rfl
 |p::c,u,hu=>by
  by_cases hp:p.1∈w
  ·rw[keep,List.filter_cons_of_pos (by simpa using hp),NH.cM,NH.cM]
   exact uC (· ∈w) (je w c) u _ _ hu fun _ _=>rfl
  ·rw[keep,List.filter_cons_of_neg (by simpa using hp),NH.cM]
   refine(je w c u hu).trans ?_
   rw[←NH.qr (fun v=>NH.aT v c) u]
   exact uC (· ∈w) (fun _ _=>rfl) u _ _ hu fun v hv=>(Bh hp hv).symm
theorem uD{c:List Pc}{w:List Nat}(h:NH.short c=[])(hw:w≠[]):NH.aT w c=0:=by
 rw[←NH.oJ,h,NH.lG]
 cases w with
 |nil=>exact absurd rfl hw
 |cons a w=>rfl
theorem sR{c:List Pc}{V:List Nat}:NhFam.AO V (fun w=>NH.short (stay w c)=[]):=fun v w _ _ l h=>by
 have e:stay w c=NH.gl (fun n=>(!decide (n∈w))&&(!decide (n∈v))) c:=by
  show List.filter _ c=List.filter _ c
  congr 1
  funext p
  by_cases a:p.1∈v
  ·simp[a,l _ a]
  ·simp[a]
 show NH.short (stay w c)=[]
 rw[e]
 exact NH.qv (fun n=> !decide (n∈w)) (fun n=> !decide (n∈v)) h
theorem Bi{c:List Pc}{V w:List Nat}(h:∀p∈c,p.1∈V):stay (NhFam.comp V w) c=keep w c:=by
 refine List.filter_congr fun p hp=>?_
 by_cases a:p.1∈w
 ·have:p.1∉NhFam.comp V w:=fun z=>(NhFam.comp_mem.mp z).2 a
  simp[a,this]
 ·have:p.1∈NhFam.comp V w:=NhFam.comp_mem.mpr ⟨h p hp,a⟩
  simp[a,this]
theorem DR{c:List Pc}{V w:List Nat}(h:∀p∈c,p.1∈V):keep (V.filter fun x=>decide (x∈w)) c=keep w c:=by
 refine List.filter_congr fun p hp=>?_
 have:=h p hp
 by_cases a:p.1∈w <;> simp[a,this]
theorem DS{c:List Pc}{V:List Nat}(h:∀p∈c,p.1∈V):keep V c=c:=List.filter_eq_self.mpr fun p hp=>decide_eq_true (h p hp)
theorem x_{c:List Pc}(h:NH.short c=[])(w:List Nat):NH.short (keep w c)=[]:=by
 have:=NH.j9 (fun n=>decide (n∈w)) c
 rw[h]at this
 exact this.symm
def EU(c:List Pc)(w:List Nat):Prop:=NH.short (keep w c)≠[]
theorem Bj{c:List Pc}{V:List Nat}(sV:NhFam.Srt V):NhFam.Told V (wu c V) (fun w=>NH.short (stay w c)=[]):=by
 refine NhFam.vW sV sV (NhFam.le.refl V) sR (fun w=>?_) fun w hw h=>?_
 ·rw[Zbn,NhFam.iW sV]
  unfold zi
  rw[decide_eq_true_iff]
 ·have e:(w.filter fun x=>decide (x∈V))=w:=List.filter_eq_self.mpr fun x hx=>decide_eq_true (hw.2 x hx)
  rw[e]
  exact h
theorem wH{c:List Pc}{V:List Nat}:NhFam.AO V (EU c):=fun v w _ _ l h z=>h (by
 have e:keep v c=NH.gl (fun n=>decide (n∈v)&&decide (n∈w)) c:=by
  show List.filter _ c=List.filter _ c
  congr 1
  funext p
  by_cases a:p.1∈v
  ·simp[a,l _ a]
  ·simp[a]
 rw[e]
 exact NH.qv (fun n=>decide (n∈v)) (fun n=>decide (n∈w)) z)
theorem Bk{V:List Nat}{L:List (List Nat)}{f:List Nat→Prop}(sV:NhFam.Srt V)(t:NhFam.Told V L f)(h8:V.length≤8):L.length≤190:=by
 cases V with
 |nil=>
  have:=ou L (NhFam.iu []) (NhFam.nW t.srt) fun w hw=>(NhFam.iW sV).mpr (t.sub w hw)
  rw[NhFam.kW]at this
  have e:2 ^ ([]:List Nat).length=1:=rfl
  omega
 |cons x V=>
  have sV':NhFam.Srt V:=(List.pairwise_cons.mp sV).2
  have mc:∀(w:List Nat) (y:Nat),y∈w.filter (fun y=> !decide (y=x))↔y∈w∧y≠x:=fun w y=>by simp
  have inj:∀v∈L,∀w∈L,v.filter (fun y=> !decide (y=x))=w.filter (fun y=> !decide (y=x))→v=w:=fun v hv w hw e=>by
   have mv:=(t.mem v).mp hv
   have mw:=(t.mem w).mp hw
   by_cases xw:x∈w
   ·refine mw.2.2 v mv.1 mv.2.1 fun y hy=>?_
    by_cases yx:y=x
    ·rw[yx]
     exact xw
    ·have:=(mc v y).mpr ⟨hy,yx⟩
     rw[e]at this
     exact((mc w y).mp this).1
   ·refine(mv.2.2 w mw.1 mw.2.1 fun y hy=>?_).symm
    have:=(mc w y).mpr ⟨hy,fun z=>xw (z▸hy)⟩
    rw[←e]at this
    exact((mc v y).mp this).1
  have nd:(L.map fun w=>w.filter (fun y=> !decide (y=x))).Nodup:=List.pairwise_map.mpr ((NhFam.nW t.srt).imp_of_mem fun {a b} ha hb n e=>n (inj a ha b hb e))
  have:=ou _ (NhFam.iu V) nd fun w hw=>by
   obtain⟨v,hv,rfl⟩:=Zbc.mp hw
   refine(NhFam.iW sV').mpr ⟨(t.sub v hv).1.filter _,fun y hy=>?_⟩
   obtain⟨a,b⟩:=(mc v y).mp hy
   exact(Zal.mp ((t.sub v hv).2 y a)).resolve_left b
  rw[NhFam.kW,fw]at this
  have p:2 ^ V.length≤2 ^ 7:=Nat.pow_le_pow_right (by decide) (by simp only[Z4]at h8;omega)
  omega
structure Hld (c:List Pc) (V:List Nat) (H:List (List Nat)):Prop where
 u:Uni V
 nl:∀p∈c,p.1∈V
 told:NhFam.Told V H (EU c)
theorem ya{c:List Pc}(kc:CordL c)(hc:c.length≤1000){V:List Nat}(hV:V=cU (c.map (·.1)))(h8:V.length≤8):∃H,bU [.list (c.map av)]=some (.ow (H.map ai))∧Hld c V H:=by
 have aV:∀y∈V,az y:=fun y hy=>by
  rw[hV]at hy
  exact kc.az y (inOrd_mem.mp hy).2
 have sV:NhFam.Srt V:=by rw[hV];exact jP _
 have nl:∀p∈c,p.1∈V:=fun p hp=>by
  rw[hV]
  exact inOrd_mem.mpr ⟨mJ (kc p hp).1,Zbc.mpr ⟨p,hp,rfl⟩⟩
 have u:Uni V:=⟨sV,aV,by omega⟩
 have pf:=xX kc hc hV ⟨sV,aV,by omega⟩
 have tf:=Bj (c:=c) sV
 generalize wu c V=L at pf tf
 have w:Wrt V L:=⟨fun t ht=>(tf.sub t ht).2,fun t ht=>by have:=u.short (tf.sub t ht);omega,Bk sV tf h8⟩
 have pm:=pj u w
 have tm:=nY u w
 rw[Bg u tf.sub]at pm tm
 generalize NhFam.sH L (cU L.flatten)=H at pm tm
 refine⟨H,?_,u,nl,tm.congr fun v hv=>?_⟩
 ·have c1:am bT (ad false (ab 0) ak) [.sh (.list (c.map av))]=some (.ow (L.map ai),[.sh (.list (c.map av))]):=aL (ss:=[.sh (.list (c.map av))]) rfl rfl pf
  have c2:am cQ (ad false (am bT (ad false (ab 0) ak)) ak) [.sh (.list (c.map av))]=some (.ow (H.map ai),[.sh (.list (c.map av))]):=aL (ss:=[.ow (L.map ai)]) (Jm c1) rfl pm
  have g:bU [.list (c.map av)]=(fJ [.sh (.list (c.map av))]).bind fun a=>match a.2 with |.rt r=>bF r |.nx=>some (.sh .none) |_=>none:=rfl
  have fl:=eL H
  rw[g,fJ]
  simp only[aI,c2,Z1,Z0,bF,bg,fl,if_true]
 ·rw[NhFam.nX tf.sub]
  unfold NhFam.HC
  rw[tf.up_iff sR (NhFam.Df sV),Bi nl]
  exact Iff.rfl
theorem Hld.nil{c:List Pc}{V:List Nat}{H:List (List Nat)}(h:Hld c V H):H=[]↔NH.short c=[]:=by
 constructor
 ·intro e
  refine Classical.byContradiction fun n=>?_
  have:EU c V:=by
   unfold EU
   rw[DS h.nl]
   exact n
  obtain⟨v,hv,_⟩:=(h.told.up_iff wH ⟨h.u.srt,NhFam.le.refl V⟩).mpr this
  rw[e]at hv
  cases hv
 ·intro e
  cases H with
  |nil=>rfl
  |cons v H=>exact absurd (x_ e v) ((h.told.mem v).mp (gJ ..)).2.1
theorem Hld.one{c:List Pc}{V:List Nat}{H:List (List Nat)}(h:Hld c V H){v:List Nat}(hv:v∈H):NH.short (keep v c)≠[]:=((h.told.mem v).mp hv).2.1
theorem Hld.less{c:List Pc}{V:List Nat}{H:List (List Nat)}(h:Hld c V H){v:List Nat}(hv:v∈H){a:Nat}(ha:a∈v):NH.short (keep (v.filter fun x=> !decide (x=a)) c)=[]:=by
 have m:=(h.told.mem v).mp hv
 refine Classical.byContradiction fun n=>?_
 have e:=m.2.2 _ ⟨m.1.1.filter _,fun x hx=>m.1.2 x (Zbn.mp hx).1⟩ n fun x hx=>(Zbn.mp hx).1
 rw[←e]at ha
 simp at ha
theorem Hld.part{c:List Pc}{V:List Nat}{H:List (List Nat)}(h:Hld c V H){w:List Nat}(hw:w≠[])(n:NH.aT w (keep w c)≠0):(H.any fun k=>decide (NhFam.le k w))=true:=by
 have k:EU c (V.filter fun x=>decide (x∈w)):=by
  unfold EU
  rw[DR h.nl]
  exact fun z=>n (uD z hw)
 obtain⟨v,hv,l⟩:=(h.told.up_iff wH ⟨h.u.srt.filter _,fun x hx=>(Zbn.mp hx).1⟩).mpr k
 exact List.any_eq_true.mpr ⟨v,hv,decide_eq_true fun x hx=>of_decide_eq_true (Zbn.mp (l x hx)).2⟩
theorem FG(w:List Nat)(a:Nat):(w.map il).contains (⟨#[a]⟩:Str)=decide (a∈w):=by
 rw[List.contains_eq_mem,decide_eq_decide]
 constructor
 ·intro h
  obtain⟨b,hb,e⟩:=Zbc.mp h
  rw[←wf (a:=b) (b:=a) e]
  exact hb
 ·intro h
  exact Zbc.mpr ⟨a,h,rfl⟩
theorem HV(w:List Nat)(p:Pc):bL [.sh (av p),.sh (ai w)]=some (decide (p.1∈w),[.sh (av p),.sh (ai w)]):=by
 have o:=pH w p.1
 simp only[bL,dh,ae,ab,av,ai,Z2,Sl.isBr,pC,fO,look,Sl.val,e8,bY,Z0,kz,Z1,yJ,eu,EH,Z3,o,Bool.not_not,aU]
theorem FH(w:List Nat)(p:Pc):bL [.sh (av p),.sh (.list (w.map fm))]=some (decide (p.1∈w),[.sh (av p),.sh (.list (w.map fm))]):=by
 have o:=k8 w
 have q:=FG w p.1
 simp only[bL,dh,ae,ab,av,Z2,Sl.isBr,pC,fO,look,Sl.val,e8,bY,Z0,kz,Z1,yJ,eu,EH,Z3,o,q,aU]
theorem Bl(w:List Nat)(p:Pc)(c:List Pc):keep w (p::c)=if decide (p.1∈w)=true then p::keep w c else keep w c:=List.filter_cons
theorem uE{u:Sl}(w:List Nat)(hc:∀p:Pc,bL [.sh (av p),u]=some (decide (p.1∈w),[.sh (av p),u])):∀(c:List Pc) (x:Sl),cX eW bL eX (c.map av) [x,u]=some ((keep w c).map av)
 |[],x=>rfl
 |p::c,x=>by
  have t:eW (av p) [x,u]=some [.sh (av p),u]:=rfl
  have el:eX [.sh (av p),u]=some (.sh (av p),[.sh (av p),u]):=rfl
  have:=zd t (hc p) el (uE w hc c (.sh (av p)))
  rw[bE,this]
  rw[Bl]
  split <;> rfl
theorem j5(c:List Pc):aN (c.map av)=true:=by
 induction c with
 |nil=>rfl
 |cons p c ih=>simp only[bE,aN,ih,av,de,Bool.and_true,Bool.and_self]
theorem zz(w:List Nat)(c:List Pc)(hc:c.length≤1000):bD [.list (c.map av),ai w]=some (.ow ((keep w c).map av)):=by
 have l3:((keep w c).map av).length≤1000000:=by have:=jR w c;simp;omega
 have k:cf [none,some 1] (aM (ab 0)) eW bL eX [.sh (.list (c.map av)),.sh (ai w)]=some (.ow ((keep w c).map av),[.sh (.list (c.map av)),.sh (ai w)]):=iL rfl (uE w (HV w) c .no) (j5 _) l3
 have g:bD [.list (c.map av),ai w]=(gm [.sh (.list (c.map av)),.sh (ai w)]).bind fun a=>match a.2 with |.rt r=>bF r |.nx=>some (.sh .none) |_=>none:=rfl
 have fl:=j5 (keep w c)
 rw[g,gm]
 simp only[aI,k,Z1,Z0,bF,bg,fl,if_true]
theorem DT(w:List Nat)(c:List Pc)(hc:c.length≤1000):bD [.list (c.map av),.list (w.map fm)]=some (.ow ((keep w c).map av)):=by
 have l3:((keep w c).map av).length≤1000000:=by have:=jR w c;simp;omega
 have k:cf [none,some 1] (aM (ab 0)) eW bL eX [.sh (.list (c.map av)),.sh (.list (w.map fm))]=some (.ow ((keep w c).map av),[.sh (.list (c.map av)),.sh (.list (w.map fm))]):=iL rfl (uE w (FH w) c .no) (j5 _) l3
 have g:bD [.list (c.map av),.list (w.map fm)]=(gm [.sh (.list (c.map av)),.sh (.list (w.map fm))]).bind fun a=>match a.2 with |.rt r=>bF r |.nx=>some (.sh .none) |_=>none:=rfl
 have fl:=j5 (keep w c)
 rw[g,gm]
 simp only[aI,k,Z1,Z0,bF,bg,fl,if_true]
def few(N:List Nat)(p:Pc):Pc:=(N.getD ((p.1 - 97) % N.length) 0,p.2)
theorem HW:∀a∈List.range' 97 26,Builtin.Str.occurrences (Str.ofString "abcdefghijklmnopqrstuvwxyz") ⟨#[a]⟩ 0 (Str.ofString "abcdefghijklmnopqrstuvwxyz").length 1=[a - 97]:=by decide+kernel
theorem HX {E:List Sl} {i:Nat} {f:bv} {a:Nat} (ha:az a) (hi:E[i]? =some (.sh (.str "abcdefghijklmnopqrstuvwxyz"))) (hf:f E=some (.sh (.str ⟨#[a]⟩),E)):xG i f E=some (.sh (.int ((a - 97:Nat):Int)),E):=by
 unfold xG
 rw[hi]
 simp only[hf,Z0,look,Sl.val,HW a (mJ ha)]
theorem DU{E:List Sl}{f g:bv}{N:List Nat}{n:Nat}(hf:f E=some (.sh (ai N),E))(hg:g E=some (.sh (.int (n:Int)),E))(hn:n < N.length)(hl:N.length≤1000):ae fO false f g E=some (.sh (fm (N.getD n 0)),E):=by
 have e:atI N (n:Int)=some (N.getD n 0):=by
  rw[tQ (by omega),Int.toNat_natCast,uH hn,List.getD_eq_getElem?_getD,uH hn]
  rfl
 have l:(⟨N.toArray⟩:Str).length≤1000000:=by rw[k9];omega
 have t:(⟨N.toArray⟩:Str).cps.toList=N:=by simp
 simp only[ae,fO,hf,hg,Z0,look,Sl.val,ai,l,t,e,Z1,aU]
 rfl
theorem uF{E:List Sl}{f:bv}{N:List Nat}(hf:f E=some (.sh (ai N),E))(hl:N.length≤1000):bx cS (ad false f ak) E=some (.sh (.int (N.length:Int)),E):=by
 have l:N.length≤1000000:=by omega
 simp only[bx,ad,hf,ai,Sl.isBr,ak,Z1,Z0,cS,aO,look,Sl.val,k9,l,aU]
theorem HY(x0:Sl)(N:List Nat)(h0:0 < N.length)(hl:N.length≤1000)(p:Pc)(hp:az p.1)(acc:List Pc)(ha:acc.length < 1000000)(a b:Sl):(fV (av p) [x0,.sh (ai N),.sh (.str "abcdefghijklmnopqrstuvwxyz"),.ow (acc.map av),a,b]).bind fW=some ([x0,.sh (ai N),.sh (.str "abcdefghijklmnopqrstuvwxyz"),.ow ((acc++[few N p]).map av),.sh (fm p.1),.sh (.int p.2)],.nx):=by
 have t:fV (av p) [x0,.sh (ai N),.sh (.str "abcdefghijklmnopqrstuvwxyz"),.ow (acc.map av),a,b]=some [x0,.sh (ai N),.sh (.str "abcdefghijklmnopqrstuvwxyz"),.ow (acc.map av),.sh (fm p.1),.sh (.int p.2)]:=rfl
 have i1:xG 2 (ab 4) [x0,.sh (ai N),.sh (.str "abcdefghijklmnopqrstuvwxyz"),.ow (acc.map av),.sh (fm p.1),.sh (.int p.2)]=some (.sh (.int ((p.1 - 97:Nat):Int)),[x0,.sh (ai N),.sh (.str "abcdefghijklmnopqrstuvwxyz"),.ow (acc.map av),.sh (fm p.1),.sh (.int p.2)]):=HX hp rfl rfl
 have l1:bx cS (ad false (ab 1) ak) [x0,.sh (ai N),.sh (.str "abcdefghijklmnopqrstuvwxyz"),.ow (acc.map av),.sh (fm p.1),.sh (.int p.2)]=some (.sh (.int (N.length:Int)),[x0,.sh (ai N),.sh (.str "abcdefghijklmnopqrstuvwxyz"),.ow (acc.map av),.sh (fm p.1),.sh (.int p.2)]):=uF rfl hl
 have m1:=uu i1 l1 (by omega)
 rw[show((p.1 - 97:Nat):Int) % (N.length:Int)=(((p.1 - 97) % N.length:Nat):Int) by omega]at m1
 have x1:=DU (f:=ab 1) (N:=N) rfl m1 (Nat.mod_lt _ h0) hl
 rw[t,Option.bind_some,fW]
 generalize ae fO false (ab 1) (ae ft false (xG 2 (ab 4)) (bx cS (ad false (ab 1) ak)))=f at x1
 simp only[aY,aC,Z3,Z2,fS,aF,x1,frz,ab,aH,Z1,Z0,Z4,Z5,Nat.reduceAdd,Nat.reduceLeDiff,fw,ha,Z7,Z6,lO,bE,f6,aU]
 rfl
theorem DV(x0:Sl)(N:List Nat)(h0:0 < N.length)(hl:N.length≤1000):∀(c acc:List Pc) (a b:Sl),CordL c→acc.length+c.length≤1000→∃a' b',aK fV fW (c.map av) [x0,.sh (ai N),.sh (.str "abcdefghijklmnopqrstuvwxyz"),.ow (acc.map av),a,b]=some ([x0,.sh (ai N),.sh (.str "abcdefghijklmnopqrstuvwxyz"),.ow ((acc++c.map (few N)).map av),a',b'],.nx)
 |[],acc,a,b,_,_=>⟨a,b,by rw[f6,f6,List.append_nil];rfl⟩
 |p::c,acc,a,b,hc,l=>by
  simp only[Z4]at l
  have st:=HY x0 N h0 hl p (hc p (gJ ..)).1 acc (by omega) a b
  obtain⟨a',b',e⟩:=DV x0 N h0 hl c (acc++[few N p]) (.sh (fm p.1)) (.sh (.int p.2)) (fun q hq=>hc q (gq _ hq)) (by simp;omega)
  refine⟨a',b',?_⟩
  have ee:acc++(p::c).map (few N)=acc++[few N p]++c.map (few N):=by simp
  rw[bE,aK,st,ee]
  exact e
theorem HZ(N:List Nat)(h0:0 < N.length)(hl:N.length≤1000){c:List Pc}(hc:CordL c)(l:c.length≤1000):fN [.list (c.map av),ai N]=some (.ow ((c.map (few N)).map av)):=by
 obtain⟨a,b,e⟩:=DV (.sh (.list (c.map av))) N h0 hl c [] .no .no hc (by simpa using l)
 have g:fN [.list (c.map av),ai N]=(jJ [.sh (.list (c.map av)),.sh (ai N),.no,.no,.no,.no]).bind fun a=>match a.2 with |.rt r=>bF r |.nx=>some (.sh .none) |_=>none:=rfl
 have s1:au 2 (pC (.str "abcdefghijklmnopqrstuvwxyz")) [.sh (.list (c.map av)),.sh (ai N),.no,.no,.no,.no]=some ([.sh (.list (c.map av)),.sh (ai N),.sh (.str "abcdefghijklmnopqrstuvwxyz"),.no,.no,.no],.nx):=rfl
 have s2:au 3 (be aH) [.sh (.list (c.map av)),.sh (ai N),.sh (.str "abcdefghijklmnopqrstuvwxyz"),.no,.no,.no]=some ([.sh (.list (c.map av)),.sh (ai N),.sh (.str "abcdefghijklmnopqrstuvwxyz"),.ow [],.no,.no],.nx):=rfl
 have s3:b9 (aM (ab 0)) fV fW [.sh (.list (c.map av)),.sh (ai N),.sh (.str "abcdefghijklmnopqrstuvwxyz"),.ow [],.no,.no]=some ([.sh (.list (c.map av)),.sh (ai N),.sh (.str "abcdefghijklmnopqrstuvwxyz"),.ow ((c.map (few N)).map av),a,b],.nx):=iz rfl e
 have fl:=j5 (c.map (few N))
 rw[g,jJ,aE s1,aE s2,aE s3]
 simp only[aI,ab,Z3,Z2,Z0,Z7,Z6,Z1,bF,bg,fl,if_true]
theorem FI{E:List Sl}{f g:bv}{u:List Nat}{a:Nat}(hf:f E=some (.sh (ai u),E))(hg:g E=some (.sh (fm a),E))(hl:u.length≤1000):ae aW false f g E=some (.sh (ai (u++[a])),E):=by
 have ap:(⟨u.toArray⟩:Str)++(⟨#[a]⟩:Str)=⟨(u++[a]).toArray⟩:=Dl u [a]
 have l1:(⟨#[a]⟩:Str).length=1:=rfl
 have lb:u.length+1≤1000000:=by omega
 simp only[ae,aW,hf,hg,Z0,look,Sl.val,ai,fm,k9,l1,lb,ap,aU]
theorem H0(x0 x2 x3 x4:Sl)(N:List Nat)(h0:0 < N.length)(hl:N.length≤1000)(k:Int)(acc:List Nat)(aX:Int)(a:Sl)(ha:acc.length≤900):(f_ (.int k) [x0,.sh (ai N),x2,x3,x4,.sh (ai acc),.sh (.int aX),a]).bind gb=some ([x0,.sh (ai N),x2,x3,x4,.sh (ai (acc++[N.getD (aX % (N.length:Int)).toNat 0])),.sh (.int (aX / (N.length:Int))),.sh (.int k)],.nx):=by
 have t:f_ (.int k) [x0,.sh (ai N),x2,x3,x4,.sh (ai acc),.sh (.int aX),a]=some [x0,.sh (ai N),x2,x3,x4,.sh (ai acc),.sh (.int aX),.sh (.int k)]:=rfl
 have q0:=Int.emod_nonneg aX (show(N.length:Int)≠0 by omega)
 have q1:=Int.emod_lt_of_pos aX (show(0:Int) < (N.length:Int) by omega)
 have l1:bx cS (ad false (ab 1) ak) [x0,.sh (ai N),x2,x3,x4,.sh (ai acc),.sh (.int aX),.sh (.int k)]=some (.sh (.int (N.length:Int)),[x0,.sh (ai N),x2,x3,x4,.sh (ai acc),.sh (.int aX),.sh (.int k)]):=uF rfl hl
 have m1:=uu (f:=ab 6) (x:=aX) rfl l1 (by omega)
 rw[show aX % (N.length:Int)=(((aX % (N.length:Int)).toNat:Nat):Int) by omega]at m1
 have x1:=DU (f:=ab 1) (N:=N) rfl m1 (by omega) hl
 have a1:=FI (f:=ab 5) (u:=acc) rfl x1 (by omega)
 have s1:=jA (i:=5) a1 (show 5 < 8 by decide)
 have l2:bx cS (ad false (ab 1) ak) [x0,.sh (ai N),x2,x3,x4,.sh (ai (acc++[N.getD (aX % (N.length:Int)).toNat 0])),.sh (.int aX),.sh (.int k)]=some (.sh (.int (N.length:Int)),[x0,.sh (ai N),x2,x3,x4,.sh (ai (acc++[N.getD (aX % (N.length:Int)).toNat 0])),.sh (.int aX),.sh (.int k)]):=uF rfl hl
 have f1:=uv (f:=ab 6) (x:=aX) rfl l2 (qp (by omega) (by omega))
 have s2:=jA (i:=6) f1 (show 6 < 8 by decide)
 rw[t,Option.bind_some,gb]
 exact(aE s1).trans s2
theorem DW(x0 x2 x3 x4:Sl)(N:List Nat)(h0:0 < N.length)(hl:N.length≤1000):∀(n lo:Nat) (acc:List Nat) (aX:Int) (a:Sl),acc.length+n≤900→∃(w:List Nat) (rest':Int) (a':Sl),aK f_ gb (kH lo n) [x0,.sh (ai N),x2,x3,x4,.sh (ai acc),.sh (.int aX),a]=some ([x0,.sh (ai N),x2,x3,x4,.sh (ai w),.sh (.int rest'),a'],.nx)∧w.length=acc.length+n
 | 0,lo,acc,aX,a,_=>⟨acc,aX,a,rfl,rfl⟩
 |n+1,lo,acc,aX,a,h=>by
  have st:=H0 x0 x2 x3 x4 N h0 hl lo acc aX a (by omega)
  obtain⟨w,r',a',e,l⟩:=DW x0 x2 x3 x4 N h0 hl n (lo+1) (acc++[N.getD (aX % (N.length:Int)).toNat 0]) (aX / (N.length:Int)) (.sh (.int lo)) (by simp;omega)
  refine⟨w,r',a',?_,by rw[l];simp;omega⟩
  rw[gS,aK,st]
  exact e
def oA(R:List (List Nat)):Prop:=∀w∈R,w≠[]∧w.length≤40
theorem FJ(x0 x2:Sl)(N:List Nat)(h0:0 < N.length)(hl:N.length≤1000)(z:Int)(R:List (List Nat))(hR:oA R)(hn:R.length≤1000)(a b d e:Sl):∃(w:List Nat) (a' b' d' e':Sl),(gc (.int z) [x0,.sh (ai N),x2,.ow (R.map ai),a,b,d,e]).bind gd=some ([x0,.sh (ai N),x2,.ow ((R++[w]).map ai),a',b',d',e'],.nx)∧oA (R++[w]):=by
 have t:gc (.int z) [x0,.sh (ai N),x2,.ow (R.map ai),a,b,d,e]=some [x0,.sh (ai N),x2,.ow (R.map ai),.sh (.int z),b,d,e]:=rfl
 have q0:=Int.emod_nonneg z (show(6:Int)≠0 by decide)
 have q1:=Int.emod_lt_of_pos z (show(0:Int) < 6 by decide)
 have s1:au 5 (pC (.str "")) [x0,.sh (ai N),x2,.ow (R.map ai),.sh (.int z),b,d,e]=some ([x0,.sh (ai N),x2,.ow (R.map ai),.sh (.int z),.sh (ai []),d,e],.nx):=rfl
 have f1:=uv (E:=[x0,.sh (ai N),x2,.ow (R.map ai),.sh (.int z),.sh (ai []),d,e]) (f:=ab 4) (g:=pC (.int 6)) (x:=z) (y:=6) rfl rfl (by decide)
 have s2:=jA (i:=6) f1 (show 6 < 8 by decide)
 obtain⟨w,r',a',ew,lw⟩:=DW x0 x2 (.ow (R.map ai)) (.sh (.int z)) N h0 hl (1+(z % 6).toNat) 0 [] (z / 6) e (by simp;omega)
 have m1:=uu (E:=[x0,.sh (ai N),x2,.ow (R.map ai),.sh (.int z),.sh (ai []),.sh (.int (z / 6)),e]) (f:=ab 4) (g:=pC (.int 6)) (x:=z) (y:=6) rfl rfl (by decide)
 have a1:=we (g:=pC (.int 1)) (x:=1) rfl m1
 have i1:=HI (c:=1+(z % 6).toNat) a1 (by omega) (by omega)
 have s3:=iz i1 ew
 have lr:(R.map ai).length < 1000000:=by simp;omega
 have s4:aY (aC 3 (ab 5)) [x0,.sh (ai N),x2,.ow (R.map ai),.sh (.int z),.sh (ai w),.sh (.int r'),a']=some ([x0,.sh (ai N),x2,.ow ((R++[w]).map ai),.sh (.int z),.sh (ai w),.sh (.int r'),a'],.nx):=by
  simp only[aY,aC,Z3,Z2,ab,frz,Z0,fw,Z7,Z6,lO,bE,f6]
  rw[if_pos (by simpa using lr)]
  rfl
 refine⟨w,.sh (.int z),.sh (ai w),.sh (.int r'),a',?_,fun v hv=>(Zaj.mp hv).elim (hR v) fun hv=>?_⟩
 ·rw[t,Option.bind_some,gd]
  exact(aE s1).trans ((aE s2).trans ((aE s3).trans s4))
 ·rw[Zag.mp hv]
  rw[List.length_nil,Nat.zero_add]at lw
  exact⟨fun z=>by rw[z,List.length_nil]at lw;omega,by omega⟩
theorem zA(x0 x2:Sl)(N:List Nat)(h0:0 < N.length)(hl:N.length≤1000):∀(zs:List Int) (R:List (List Nat)) (a b d e:Sl),oA R→R.length+zs.length≤900→∃(R':List (List Nat)) (a' b' d' e':Sl),aK gc gd (zs.map .int) [x0,.sh (ai N),x2,.ow (R.map ai),a,b,d,e]=some ([x0,.sh (ai N),x2,.ow (R'.map ai),a',b',d',e'],.nx)∧oA R'∧R'.length=R.length+zs.length
 |[],R,a,b,d,e,h,_=>⟨R,a,b,d,e,rfl,h,rfl⟩
 |z::zs,R,a,b,d,e,h,l=>by
  simp only[Z4]at l
  obtain⟨w,a1,b1,d1,e1,st,h1⟩:=FJ x0 x2 N h0 hl z R h (by omega) a b d e
  obtain⟨R',a',b',d',e',ep,h2,l2⟩:=zA x0 x2 N h0 hl zs (R++[w]) a1 b1 d1 e1 h1 (by simp;omega)
  refine⟨R',a',b',d',e',?_,h2,by rw[l2];simp;omega⟩
  rw[bE,aK,st]
  exact ep
theorem DY:∀(c:List Pc) (x0 x1:Sl),cX eY di eZ (c.map av) [x0,x1]=some ((c.map (·.1)).map fm)
 |[],x0,x1=>rfl
 |p::c,x0,x1=>by
  have t:eY (av p) [x0,x1]=some [.sh (fm p.1),.sh (.int p.2)]:=rfl
  have e:eZ [.sh (fm p.1),.sh (.int p.2)]=some (.sh (fm p.1),[.sh (fm p.1),.sh (.int p.2)]):=rfl
  exact pG t e (DY c _ _)
theorem DZ{E:List Sl}{f:bv}{w:List Nat}(hf:f E=some (.ow (w.map fm),E))(hl:w.length≤1000):jG "" f E=some (.sh (ai w),E):=by
 have l:=ut w
 have l2:w.length≤1000000:=by omega
 simp only[jG,jh,rS,hf,Z0,look,Sl.val,k8,l,l2,if_true,Z1,qI,ai]
theorem H_{E:List Sl}{f:bv}{i:Nat}{ds:List PyData}{d:PyData}(hi:E[i]? =some (.ow ds))(hf:f E=some (.sh d,E))(hl:ds.length < 1000000):aY (aC i f) E=some (E.set i (.ow (ds++[d])),.nx):=by
 simp only[aY,aC,hi,hf,Z0,frz,hl,if_true,Z1]
theorem FK(ns:List Int)(hl:ns.length≤63)(s1 s2 a b d e:Sl):aM (ae aW false (be (aF (am cJ (ad false (ab 0) (ad false (pC (.int 0)) ak))) aH)) (nK false (ab 0) (iA (pC (.int 1))) (iA (pC (.int 12))))) [.sh (.list (ns.map .int)),s1,s2,.ow [],a,b,d,e]=some ((ns.getD 0 0::cutL ns (some 1) (some 12)).map .int,[.sh (.list (ns.map .int)),s1,s2,.ow [],a,b,d,e]):=by
 have e0:=oo ns 0
 have lb:=kN ns (some 1) (some 12)
 have lb2:1+(cutL ns (some 1) (some 12)).length≤1000000:=by omega
 rw[Int.natCast_zero]at e0
 simp only[aM,ae,be,aF,am,ad,ab,Z2,Sl.isBr,pC,ak,Z1,Z0,aO,look,Sl.val,e0,frz,aH,Z4,Z5,Nat.reduceLeDiff,nK,iA,e8,bY,aW,kM,rR,Bool.or_true,fw,lb2,Z9,Z8,bE,aU]
theorem FL(ns:List Int)(hl:ns.length≤63)(N:List Nat)(h0:0 < N.length)(hN:N.length≤1000)(c:List Pc)(hc:c.length≤1000):∃R,em [.list (ns.map .int),ai N,.list (c.map av)]=some (.ow (R.map ai))∧oA R∧R.length≤900:=by
 have lb:=kN ns (some 1) (some 12)
 obtain⟨R,a,b,d,e,ep,hR,lR⟩:=zA (.sh (.list (ns.map .int))) (.sh (.list (c.map av))) N h0 hN (ns.getD 0 0::cutL ns (some 1) (some 12)) [] .no .no .no .no (fun _ z=>by cases z) (by simp;omega)
 have lR2:R.length≤64:=by rw[lR];simp;omega
 have g:em [.list (ns.map .int),ai N,.list (c.map av)]=(gZ [.sh (.list (ns.map .int)),.sh (ai N),.sh (.list (c.map av)),.no,.no,.no,.no,.no]).bind fun a=>match a.2 with |.rt r=>bF r |.nx=>some (.sh .none) |_=>none:=rfl
 have s1:au 3 (be aH) [.sh (.list (ns.map .int)),.sh (ai N),.sh (.list (c.map av)),.no,.no,.no,.no,.no]=some ([.sh (.list (ns.map .int)),.sh (ai N),.sh (.list (c.map av)),.ow [],.no,.no,.no,.no],.nx):=rfl
 have s2:=iz (FK ns hl (.sh (ai N)) (.sh (.list (c.map av))) .no .no .no .no) ep
 have lc:(c.map av).length≤1000000:=by simp;omega
 have cd:dh (fZ (dZ .lt) (dZ .le) false false (pC (.int 0)) (bx cS (ad false (ab 2) ak)) (pC (.int 20))) [.sh (.list (ns.map .int)),.sh (ai N),.sh (.list (c.map av)),.ow (R.map ai),a,b,d,e]=some (decide ((0:Int) < (c.length:Int))&&decide ((c.length:Int)≤20),[.sh (.list (ns.map .int)),.sh (ai N),.sh (.list (c.map av)),.ow (R.map ai),a,b,d,e]):=by
  by_cases k:(0:Int) < (c.length:Int)
  ·simp only[dh,fZ,pC,Bool.or_false,Sl.isBr,bx,ad,ab,ak,Z1,cS,look,Sl.val,dZ,Cm.i,Cm.s,Z0,Z3,Z2,aO,fw,k,aU]
  ·simp only[dh,fZ,pC,Bool.or_false,Sl.isBr,bx,ad,ab,ak,Z1,cS,look,Sl.val,dZ,Cm.i,Cm.s,Z0,Z3,Z2,aO,fw,k,aU]
 have fl:=eL
 by_cases k:c.length=0∨20 < c.length
 ·have kf:(decide ((0:Int) < (c.length:Int))&&decide ((c.length:Int)≤20))=false:=by
   rcases k with k |k
   ·simp[k]
   ·have:¬(c.length:Int)≤20:=by omega
    simp[this]
  rw[kf]at cd
  refine⟨R,?_,hR,by omega⟩
  have s3:=jO (a:=aY (aC 3 (jG "" (cf [none,none] (aM (ab 2)) eY di eZ)))) (b:=aP) cd rfl
  rw[g,gZ,aE s1,aE s2,aE s3]
  have f1:=fl R
  simp only[aI,ab,Z3,Z2,Z0,Z7,Z6,Z1,bF,bg,f1,if_true]
 ·have kt:(decide ((0:Int) < (c.length:Int))&&decide ((c.length:Int)≤20))=true:=by
   have h1:(0:Int) < (c.length:Int):=by omega
   have h2:(c.length:Int)≤20:=by omega
   simp only[h1,h2,decide_true,Bool.and_self]
  rw[kt]at cd
  have cm:cf [none,none] (aM (ab 2)) eY di eZ [.sh (.list (ns.map .int)),.sh (ai N),.sh (.list (c.map av)),.ow (R.map ai),a,b,d,e]=some (.ow ((c.map (·.1)).map fm),[.sh (.list (ns.map .int)),.sh (ai N),.sh (.list (c.map av)),.ow (R.map ai),a,b,d,e]):=iL rfl (DY c .no .no) (nn _) (by simp;omega)
  have ap:=H_ (i:=3) (ds:=R.map ai) rfl (DZ cm (by simp;omega)) (by simp;omega)
  have s3:=mI (b:=aP) cd ap
  refine⟨R++[c.map (·.1)],?_,fun w hw=>(Zaj.mp hw).elim (hR w) fun hw=>?_,by simp;omega⟩
  ·rw[g,gZ,aE s1,aE s2,aE s3]
   have f1:=fl (R++[c.map (·.1)])
   rw[lO,bE,f6]at f1 ⊢
   simp only[aI,ab,Z7,Z6,Z3,Z2,Z0,Z1,bF,bg,f1,if_true]
  ·rw[Zag.mp hw]
   exact⟨fun z=>by rw[List.map_eq_nil_iff]at z;rw[z]at k;simp at k,by simp;omega⟩
theorem Jt(u v:List Nat):wX (.str ⟨u.toArray⟩) (.str ⟨v.toArray⟩)=some (decide (u=v)):=by
 rw[gf]
 congr 1
 exact decide_eq_decide.mpr DK
structure Nms (N:List Nat):Prop where
 pos:0 < N.length
 len:N.length≤8
 srt:NhFam.Srt N
 az:∀a∈N,az a
theorem Kk:Nms [98,100,109,120,121]:=⟨by decide,by decide,by unfold NhFam.Srt;decide,by unfold az;decide⟩
theorem Kl:Nms [98,100,102,104,107,109,120,121]:=⟨by decide,by decide,by unfold NhFam.Srt;decide,by unfold az;decide⟩
theorem KF:(Str.ofString "bdmxy")=(⟨[98,100,109,120,121].toArray⟩:Str):=by decide+kernel
theorem KG:(Str.ofString "bdfhkmxy")=(⟨[98,100,102,104,107,109,120,121].toArray⟩:Str):=by decide+kernel
abbrev Km:cA:=au 1 (ae fO false (be (aF (pC (.str "bdmxy")) (aF (pC (.str "bdfhkmxy")) aH))) (bx Aj (ad false (ae gK false (ae ft false (ae dq false (am cJ (ad false (ab 0) (ad false (pC (.int 0)) ak))) (pC (.int 3))) (pC (.int 8))) (pC (.int 5))) ak)))
theorem KH(ns:List Int)(E:List Sl)(hE:E[0]? =some (.sh (.list (ns.map .int)))):am cJ (ad false (ab 0) (ad false (pC (.int 0)) ak)) E=some (.sh (.int (ns.getD 0 0)),E):=by
 have e0:=oo ns 0
 rw[Int.natCast_zero]at e0
 have v:ab 0 E=some (.sh (.list (ns.map .int)),E):=by simp only[ab,hE,Z0]
 exact aL (ss:=[.sh (.list (ns.map .int)),.sh (.int 0)]) (Im v rfl) rfl e0
theorem FM(ns:List Int):∃N,Nms N∧Km [.sh (.list (ns.map .int)),.no,.no,.no,.no,.no,.no,.no,.no]=some ([.sh (.list (ns.map .int)),.sh (ai N),.no,.no,.no,.no,.no,.no,.no],.nx):=by
 have c0:=KH ns [.sh (.list (ns.map .int)),.no,.no,.no,.no,.no,.no,.no,.no] rfl
 have f0:=uv (g:=pC (.int 3)) (y:=3) c0 rfl (by decide)
 have m0:=uu (g:=pC (.int 8)) (y:=8) f0 rfl (by decide)
 unfold Km
 generalize ns.getD 0 0 / 3 % 8=z at m0
 generalize ae ft false (ae dq false (am cJ (ad false (ab 0) (ad false (pC (.int 0)) ak))) (pC (.int 3))) (pC (.int 8))=f at m0 ⊢
 by_cases k:z=5
 ·refine⟨_,Kl,?_⟩
  subst k
  simp only[au,ae,be,aF,pC,frz,aH,Z1,Z0,Z4,Z5,Nat.reduceAdd,Nat.reduceLeDiff,Sl.isBr,bx,ad,gK,eu,look,Sl.val,ak,Aj,fO,e8,bY,m0,bO,aO,qa,PL.settle,frzAll,Nat.reduceLT,Z7,Z6,aU]
  rw[ai,←KG]
 ·refine⟨_,Kk,?_⟩
  simp only[au,ae,be,aF,pC,frz,aH,Z1,Z0,Z4,Z5,Nat.reduceAdd,Nat.reduceLeDiff,Sl.isBr,bx,ad,gK,eu,look,Sl.val,ak,Aj,fO,e8,bY,m0,bO,k,aO,kz,PL.settle,frzAll,Nat.reduceLT,Z7,Z6,aU]
  rw[ai,←KF]
theorem Ia{N:List Nat}(h:Nms N)(p:Pc):(few N p).1∈N:=by
 have:=Nat.mod_lt (p.1 - 97) h.pos
 show N.getD _ 0∈N
 rw[List.getD_eq_getElem?_getD,uH this]
 exact List.getElem_mem ..
theorem IsC.var{s:Sl}{c:List Pc}(h:IsC s c){E:List Sl}{i:Nat}(e:E[i]? =some s):∃z,ab i E=some (z,E)∧PL.look E z=some (.list (c.map av)):=by
 rcases h with h |h <;> subst h
 ·exact⟨.sh (.list (c.map av)),by simp only[ab,e,Z0],rfl⟩
 ·exact⟨.al i,by simp only[ab,e,Z0],by simp only[PL.look,e];rfl⟩
abbrev JH:cA:=au 2 (am ef (ad false (am fN (ad false (am dL (ad false (ab 0) (ad false (pC (.int 0)) (ad false (pC (.int 63)) (ad false (pC (.int 40)) ak))))) (ad false (ab 1) ak))) ak))
theorem Ib(ns:List Int)(hl:ns.length≤63){N:List Nat}(hN:Nms N):∃(c:List Pc) (s:Sl),IsC s c∧CordI (· ∈N) c∧c.length≤40∧JH [.sh (.list (ns.map .int)),.sh (ai N),.no,.no,.no,.no,.no,.no,.no]=some ([.sh (.list (ns.map .int)),.sh (ai N),s,.no,.no,.no,.no,.no,.no],.nx):=by
 obtain⟨c0,e0,l0,n0⟩:=wn ns 0 63 40 (by decide) (by decide) (by decide) hl
 have e1:=HZ N hN.pos (by have:=hN.len;omega) n0 (by omega)
 have n1:CordI (· ∈N) (c0.map (few N)):=fun p hp=>by
  obtain⟨q,hq,rfl⟩:=Zbc.mp hp
  exact⟨Ia hN q,(n0 q hq).2⟩
 obtain⟨c,r,e2,hr,l2,n2⟩:=wo (c0.map (few N)) (by rw[fw];omega) n1
 rw[fw]at l2
 have k0:am dL (ad false (ab 0) (ad false (pC (.int 0)) (ad false (pC (.int 63)) (ad false (pC (.int 40)) ak)))) [.sh (.list (ns.map .int)),.sh (ai N),.no,.no,.no,.no,.no,.no,.no]=some (.ow (c0.map av),[.sh (.list (ns.map .int)),.sh (ai N),.no,.no,.no,.no,.no,.no,.no]):=aL (ss:=[.sh (.list (ns.map .int)),.sh (.int 0),.sh (.int 63),.sh (.int 40)]) rfl rfl e0
 have k1:am fN (ad false (am dL (ad false (ab 0) (ad false (pC (.int 0)) (ad false (pC (.int 63)) (ad false (pC (.int 40)) ak))))) (ad false (ab 1) ak)) [.sh (.list (ns.map .int)),.sh (ai N),.no,.no,.no,.no,.no,.no,.no]=some (.ow ((c0.map (few N)).map av),[.sh (.list (ns.map .int)),.sh (ai N),.no,.no,.no,.no,.no,.no,.no]):=aL (ss:=[.ow (c0.map av),.sh (ai N)]) (Im k0 rfl) rfl e1
 have k2:=aL (ss:=[.ow ((c0.map (few N)).map av)]) (Jm k1) rfl e2
 rcases hr with h |h <;> subst h
 ·exact⟨c,.sh (.list (c.map av)),.inl rfl,n2,by omega,by unfold JH au;rw[k2];rfl⟩
 ·exact⟨c,.ow (c.map av),.inr rfl,n2,by omega,by unfold JH au;rw[k2];rfl⟩
theorem CordI.l{N:List Nat}(h:Nms N){c:List Pc}(k:CordI (· ∈N) c):CordL c:=fun p hp=>⟨h.az _ (k p hp).1,(k p hp).2⟩
theorem Ju{N:List Nat}(h:Nms N){c:List Pc}(k:CordI (· ∈N) c):(cU (c.map (·.1))).length≤8:=jn (NhFam.eN (jP _) h.srt fun x hx=>by
 obtain⟨p,hp,rfl⟩:=Zbc.mp (inOrd_mem.mp hx).2
 exact(k p hp).1).length_le h.len
theorem uG{E:List Sl}{s sg:Sl}{c k:List Pc}{g:bv}{d:PyData}(h2:IsC s c)(e:E[2]? =some s)(hg:g E=some (sg,E))(lg:PL.look E sg=some d)(hk:bD [.list (c.map av),d]=some (.ow (k.map av))):am bD (ad false (ab 2) (ad false g ak)) E=some (.ow (k.map av),E):=by
 obtain⟨z,v,l⟩:=h2.var e
 exact aL (ss:=[z,sg]) (Im v hg) (by simp only[aO,l,lg,Z0,Z1]) hk
theorem qM(c:List Pc):NH.tB c=NH.short c:=(NH.jt c).symm
theorem zB{E:List Sl}{k:List Pc}{g:bv}(hg:g E=some (.ow (k.map av),E))(hl:k.length≤1000)(hN:NailsOk k):am c9 (ad false g ak) E=some (.ow ((NH.short k).map av),E):=by
 have e:=oP k (by omega) hN
 rw[qM]at e
 exact aL (ss:=[.ow (k.map av)]) (Jm hg) rfl e
theorem FN{E:List Sl}{f:bv}{c:List Pc}(hc:NailsOk c)(hf:f E=some (.ow (c.map av),E)):dh (ae gK false f (be aH)) E=some (decide (c=[]),E):=by
 have q:=iD hc
 simp only[dh,ae,hf,Sl.isBr,be,aH,Z0,Z5,Nat.reduceLeDiff,gK,eu,look,Sl.val,q,Z1,aU]
theorem FO{E:List Sl}{f:bv}{c:List Pc}(hc:NailsOk c)(hf:f E=some (.ow (c.map av),E)):dh (ae lP false f (be aH)) E=some (!decide (c=[]),E):=by
 have q:=iD hc
 simp only[dh,ae,hf,Sl.isBr,be,aH,Z0,Z5,Nat.reduceLeDiff,lP,eu,look,Sl.val,q,Z1,aU]
theorem la{c:List Pc}(h:NailsOk c):NailsOk (NH.short c):=NailsOk.short h
theorem kr{c:List Pc}(h:NailsOk c)(w:List Nat):NailsOk (keep w c):=fun p hp=>h p (Zbn.mp hp).1
theorem Gn(a:Nat):∀(v:List Nat) (x:Sl),cX nh kX ni (v.map fm) [x,.sh (fm a)]=some ((v.filter fun x=> !decide (x=a)).map fm)
 |[],x=>rfl
 |b::v,x=>by
  have t:nh (fm b) [x,.sh (fm a)]=some [.sh (fm b),.sh (fm a)]:=rfl
  have q:=Jt [b] [a]
  have q2:decide ([b]=[a])=decide (b=a):=by simp
  rw[q2]at q
  have c:kX [.sh (fm b),.sh (fm a)]=some (!decide (b=a),[.sh (fm b),.sh (fm a)]):=by
   have q3:wX (fm b) (fm a)=some (decide (b=a)):=q
   simp only[kX,dh,ae,ab,Z2,Sl.isBr,lP,eu,look,Sl.val,Z0,Z3,q3,Z1,aU]
  have e:ni [.sh (fm b),.sh (fm a)]=some (.sh (fm b),[.sh (fm b),.sh (fm a)]):=rfl
  have:=zd t c e (Gn a v (.sh (fm b)))
  rw[bE,this,List.filter_cons]
  split <;> rfl
theorem Go{E:List Sl}{i:Nat}{v:List Nat}(h:E[i]? =some (.sh (ai v))):aM (ab i) E=some (v.map fm,E):=by
 have s:=ur v
 simp only[aM,ab,h,Z0,frz,ai]
 show some (iO ⟨v.toArray⟩,E)=_
 rw[s]
theorem FP{c:List Pc}{V:List Nat}{H:List (List Nat)}(h:Hld c V H)(hN:NailsOk c)(hl:c.length≤1000){v:List Nat}(hv:v∈H){a:Nat}(ha:a∈v)(lv:v.length≤1000){s2:Sl}(h2:IsC s2 c)(x0 x1 x3 x4 x6 x7 x8:Sl):(kY (fm a) [x0,x1,s2,x3,x4,.sh (ai v),x6,x7,x8]).bind kZ=some ([x0,x1,s2,x3,x4,.sh (ai v),.sh (fm a),x7,x8],.nx):=by
 have t:kY (fm a) [x0,x1,s2,x3,x4,.sh (ai v),x6,x7,x8]=some [x0,x1,s2,x3,x4,.sh (ai v),.sh (fm a),x7,x8]:=rfl
 have i5:aM (ab 5) [x0,x1,s2,x3,x4,.sh (ai v),.sh (fm a),x7,x8]=some (v.map fm,[x0,x1,s2,x3,x4,.sh (ai v),.sh (fm a),x7,x8]):=Go rfl
 have lf:=List.length_filter_le (fun x=> !decide (x=a)) v
 have p5:=iL (js:=[none,some 6]) i5 (Gn a v .no) (nn _) (by rw[fw];omega)
 have k5:=uG h2 rfl p5 rfl (DT (v.filter fun x=> !decide (x=a)) c hl)
 have r5:=zB k5 (by have:=jR (v.filter fun x=> !decide (x=a)) c;omega) (kr hN _)
 have n5:=FO (la (kr hN _)) r5
 rw[h.less hv ha]at n5
 rw[t,Option.bind_some,kZ]
 exact jO n5 rfl
theorem zC{c:List Pc}{V:List Nat}{H:List (List Nat)}(h:Hld c V H)(hN:NailsOk c)(hl:c.length≤1000){v:List Nat}(hv:v∈H)(lv:v.length≤1000){s2:Sl}(h2:IsC s2 c)(x0 x1 x3 x4 x7 x8:Sl):∀(u:List Nat) (x6:Sl),(∀a∈u,a∈v)→∃x6',aK kY kZ (u.map fm) [x0,x1,s2,x3,x4,.sh (ai v),x6,x7,x8]=some ([x0,x1,s2,x3,x4,.sh (ai v),x6',x7,x8],.nx)
 |[],x6,_=>⟨x6,rfl⟩
 |a::u,x6,hu=>by
  have st:=FP h hN hl hv (hu a (gJ ..)) lv h2 x0 x1 x3 x4 x6 x7 x8
  obtain⟨x6',e⟩:=zC h hN hl hv lv h2 x0 x1 x3 x4 x7 x8 u (.sh (fm a)) fun b hb=>hu b (gq _ hb)
  refine⟨x6',?_⟩
  rw[bE,aK,st]
  exact e
theorem Ic{c:List Pc}{V:List Nat}{H:List (List Nat)}(h:Hld c V H)(hN:NailsOk c)(hl:c.length≤1000){v:List Nat}(hv:v∈H){s2:Sl}(h2:IsC s2 c)(x0 x1 x3 x4 x5 x6 x7 x8:Sl):∃x6',(jK (ai v) [x0,x1,s2,x3,x4,x5,x6,x7,x8]).bind jL=some ([x0,x1,s2,x3,x4,.sh (ai v),x6',x7,x8],.nx):=by
 have lv:v.length≤1000:=by have:=h.u.short (h.told.sub v hv);omega
 have t:jK (ai v) [x0,x1,s2,x3,x4,x5,x6,x7,x8]=some [x0,x1,s2,x3,x4,.sh (ai v),x6,x7,x8]:=rfl
 have k5:=uG (E:=[x0,x1,s2,x3,x4,.sh (ai v),x6,x7,x8]) (g:=ab 5) (sg:=.sh (ai v)) h2 rfl rfl rfl (zz v c hl)
 have r5:=zB k5 (by have:=jR v c;omega) (kr hN _)
 have n5:=FN (la (kr hN _)) r5
 rw[decide_eq_false (h.one hv)]at n5
 obtain⟨x6',e⟩:=zC h hN hl hv lv h2 x0 x1 x3 x4 x7 x8 v x6 fun _ z=>z
 refine⟨x6',?_⟩
 have s1:=jO (a:=aI (pC (.bool false))) (b:=aP) n5 rfl
 have i5:aM (ab 5) [x0,x1,s2,x3,x4,.sh (ai v),x6,x7,x8]=some (v.map fm,[x0,x1,s2,x3,x4,.sh (ai v),x6,x7,x8]):=Go rfl
 rw[t,Option.bind_some,jL,aE s1]
 exact iz i5 e
theorem D0{c:List Pc}{V:List Nat}{H:List (List Nat)}(h:Hld c V H)(hN:NailsOk c)(hl:c.length≤1000){s2:Sl}(h2:IsC s2 c)(x0 x1 x3 x4 x7 x8:Sl):∀(K:List (List Nat)) (x5 x6:Sl),(∀v∈K,v∈H)→∃x5' x6',aK jK jL (K.map ai) [x0,x1,s2,x3,x4,x5,x6,x7,x8]=some ([x0,x1,s2,x3,x4,x5',x6',x7,x8],.nx)
 |[],x5,x6,_=>⟨x5,x6,rfl⟩
 |v::K,x5,x6,hK=>by
  obtain⟨y,st⟩:=Ic h hN hl (hK v (gJ ..)) h2 x0 x1 x3 x4 x5 x6 x7 x8
  obtain⟨x5',x6',e⟩:=D0 h hN hl h2 x0 x1 x3 x4 x7 x8 K (.sh (ai v)) y fun b hb=>hK b (gq _ hb)
  refine⟨x5',x6',?_⟩
  rw[bE,aK,st]
  exact e
theorem Id{a b:jD}{E E1:List Sl}(h:a E=some (false,E1)):dR a b E=some (false,E1):=by
 unfold dR
 rw[h,Option.bind_some]
 rfl
theorem FQ{a b:jD}{E E1:List Sl}{r:Option (Bool×List Sl)}(h:a E=some (true,E1))(k:b E1=r):dR a b E=r:=by
 unfold dR
 rw[h,Option.bind_some]
 exact k
theorem yb{E:List Sl}{f g:bv}{x y:Int}(hf:f E=some (.sh (.int x),E))(hg:g E=some (.sh (.int y),E)):dh (ae lP false f g) E=some (!decide (x=y),E):=by
 have q:=HF hf hg
 simp only[dh,q,Z0,Z1]
theorem zD{c:List Pc}(h:CordOk c)(w:List Nat):CordOk (keep w c):=fun p hp=>h p (Zbn.mp hp).1
theorem Jv(w:List Nat)(c:List Pc)(hw:w.length≤40)(hc:c.length≤130)(h:CordOk c):dM [ai w,.list ((keep w c).map av)]=some (.sh (.int (NH.aT w c))):=by
 have e:=uB w (keep w c) hw (zq hw (by have:=jR w c;omega) (zD h w))
 rw[je w c w fun _ z=>z]at e
 exact e
theorem Gp(w:List Nat)(c:List Pc)(hw:w.length≤40)(hc:c.length≤130)(h:CordOk c):cr [ai w,.list (c.map av)]=some (.sh (.int (NH.aT w c))):=wC w c (by omega) (by omega) (zq hw hc h)
theorem Jw(w:List Nat)(c:List Pc)(hw:w.length≤40)(hc:c.length≤130)(h:CordOk c):cr [ai w,.list ((keep w c).map av)]=some (.sh (.int (NH.aT w c))):=by
 have e:=Gp w (keep w c) hw (by have:=jR w c;omega) (zD h w)
 rw[je w c w fun _ z=>z]at e
 exact e
theorem FR{c:List Pc}{V:List Nat}{H:List (List Nat)}(h:Hld c V H)(hO:CordOk c)(hl:c.length≤130){w:List Nat}(hw:w≠[]∧w.length≤40){s2:Sl}(h2:IsC s2 c)(x0 x1 x3 x5 x6 x7 x8:Sl):(jM (ai w) [x0,x1,s2,x3,.sh (.list (H.map ai)),x5,x6,x7,x8]).bind jN=some ([x0,x1,s2,x3,.sh (.list (H.map ai)),x5,x6,.sh (ai w),.sh (.int (NH.aT w c))],.nx):=by
 have t:jM (ai w) [x0,x1,s2,x3,.sh (.list (H.map ai)),x5,x6,x7,x8]=some [x0,x1,s2,x3,.sh (.list (H.map ai)),x5,x6,.sh (ai w),x8]:=rfl
 have c1:am cr (ad false (ab 7) (ad false (ab 2) ak)) [x0,x1,s2,x3,.sh (.list (H.map ai)),x5,x6,.sh (ai w),x8]=some (.sh (.int (NH.aT w c)),[x0,x1,s2,x3,.sh (.list (H.map ai)),x5,x6,.sh (ai w),x8]):=by
  obtain⟨z,v,l⟩:=h2.var (E:=[x0,x1,s2,x3,.sh (.list (H.map ai)),x5,x6,.sh (ai w),x8]) (i:=2) rfl
  have lw:PL.look [x0,x1,s2,x3,.sh (.list (H.map ai)),x5,x6,.sh (ai w),x8] (.sh (ai w))=some (ai w):=rfl
  exact aL (ss:=[.sh (ai w),z]) (Im rfl v) (by simp only[aO,lw,l,Z0,Z1]) (Gp w c hw.2 hl hO)
 have s1:=jA (i:=8) c1 (show 8 < 9 by decide)
 simp only[Z7,Z6]at s1
 have k1:=uG (E:=[x0,x1,s2,x3,.sh (.list (H.map ai)),x5,x6,.sh (ai w),.sh (.int (NH.aT w c))]) (g:=ab 7) (sg:=.sh (ai w)) h2 rfl rfl rfl (zz w c (by omega))
 have c2:=aL (c:=dM) (ss:=[.sh (ai w),.ow ((keep w c).map av)]) (Im (f:=ab 7) rfl k1) rfl (Jv w c hw.2 hl hO)
 have c3:=aL (c:=cr) (ss:=[.sh (ai w),.ow ((keep w c).map av)]) (Im (f:=ab 7) rfl k1) rfl (Jw w c hw.2 hl hO)
 have n2:=yb (f:=ab 8) (x:=NH.aT w c) rfl c2
 have n3:=yb (f:=ab 8) (x:=NH.aT w c) rfl c3
 simp only[aU]at n2 n3
 have s2':=jO (a:=aI (pC (.bool false))) (b:=aP) (Jj n2 n3) rfl
 have c4:=aL (E:=[x0,x1,s2,x3,.sh (.list (H.map ai)),x5,x6,.sh (ai w),.sh (.int (NH.aT w c))]) (c:=bA) (g:=ad false (ab 7) (ad false (ab 4) ak)) (ss:=[.sh (ai w),.sh (.list (H.map ai))]) rfl rfl (DQ w H fun k hk=>by have:=h.u.short (h.told.sub k hk);omega)
 have n4:=yb (E:=[x0,x1,s2,x3,.sh (.list (H.map ai)),x5,x6,.sh (ai w),.sh (.int (NH.aT w c))]) (f:=ab 8) (g:=pC (.int 0)) (x:=NH.aT w c) (y:=0) rfl rfl
 have s3:bp (dR (dh (ae lP false (ab 8) (pC (.int 0)))) (h7 (gj (am bA (ad false (ab 7) (ad false (ab 4) ak)))))) (aI (pC (.bool false))) aP [x0,x1,s2,x3,.sh (.list (H.map ai)),x5,x6,.sh (ai w),.sh (.int (NH.aT w c))]=some ([x0,x1,s2,x3,.sh (.list (H.map ai)),x5,x6,.sh (ai w),.sh (.int (NH.aT w c))],.nx):=by
  by_cases k:NH.aT w c=0
  ·rw[decide_eq_true k]at n4
   exact jO (Id n4) rfl
  ·rw[decide_eq_false k]at n4
   have q:NH.aT w (keep w c)≠0:=by
    rw[je w c w fun _ z=>z]
    exact k
   rw[h.part hw.1 q]at c4
   have b4:h7 (gj (am bA (ad false (ab 7) (ad false (ab 4) ak)))) [x0,x1,s2,x3,.sh (.list (H.map ai)),x5,x6,.sh (ai w),.sh (.int (NH.aT w c))]=some (false,[x0,x1,s2,x3,.sh (.list (H.map ai)),x5,x6,.sh (ai w),.sh (.int (NH.aT w c))]):=by
    simp only[h7,gj,c4,Z0,PL.look,Sl.val,jE,Z1,Bool.not_true]
   exact jO (FQ n4 b4) rfl
 rw[t,Option.bind_some,jN]
 exact(aE s1).trans ((aE s2').trans s3)
theorem zE{c:List Pc}{V:List Nat}{H:List (List Nat)}(h:Hld c V H)(hO:CordOk c)(hl:c.length≤130){s2:Sl}(h2:IsC s2 c)(x0 x1 x3 x5 x6:Sl):∀(R:List (List Nat)) (x7 x8:Sl),oA R→∃x7' x8',aK jM jN (R.map ai) [x0,x1,s2,x3,.sh (.list (H.map ai)),x5,x6,x7,x8]=some ([x0,x1,s2,x3,.sh (.list (H.map ai)),x5,x6,x7',x8'],.nx)
 |[],x7,x8,_=>⟨x7,x8,rfl⟩
 |w::R,x7,x8,hR=>by
  have st:=FR h hO hl (hR w (gJ ..)) h2 x0 x1 x3 x5 x6 x7 x8
  obtain⟨x7',x8',e⟩:=zE h hO hl h2 x0 x1 x3 x5 x6 R (.sh (ai w)) (.sh (.int (NH.aT w c))) fun b hb=>hR b (gq _ hb)
  refine⟨x7',x8',?_⟩
  rw[bE,aK,st]
  exact e
theorem Bm:vY=aw Km (aw JH (aw (au 3 (am c9 (ad false (ab 2) ak))) (aw (au 4 (am bU (ad false (j0 (ab 2)) ak))) (aw (bp (nC (h7 (gj (jh (tM .list) (ab 4)))) (dh (ae lP false (ae gK false (ab 4) (be aH)) (ae gK false (ab 3) (be aH))))) (aI (pC (.bool false))) aP) (aw (b9 (aM (ab 4)) jK jL) (aw (b9 (aM (am em (ad false (ab 0) (ad false (ab 1) (ad false (ab 3) ak))))) jM jN) (aI (pC (.bool true))))))))):=rfl
theorem vI(a:Bool):wX (.bool a) (.bool a)=some true:=by cases a <;> rfl
theorem FS{E:List Sl}{f:bv}{s:Sl}{c:List Pc}(hf:f E=some (s,E))(hs:look E s=some (.list (c.map av))):j0 f E=some (.ow (c.map av),E):=by
 have fl:=fE c
 simp only[j0,hf,Z0,hs,fl,Bool.or_true,if_true]
theorem Jx{E E1:List Sl}{f:bv}{s:Sl}{d:List PyData}(hf:f E=some (s,E))(h:frz E s=some (.list d,E1)):aM f E=some (d,E1):=by
 unfold aM
 rw[hf,Option.bind_some,h]
 rfl
theorem D1{H:List (List Nat)}(h:∀w∈H,∀a∈w,az a):wX (.list (H.map ai)) (.list [])=some (decide (H=[])):=by
 have s0:SeqAt.shaped (.list [])=true:=sN (L:=[]) fun _ z=>by cases z
 have e:wX (.list (H.map ai)) (.list [])=(if SeqAt.shaped (.list (H.map ai))&&SeqAt.shaped (.list [])then some (PyData.eqv (.list (H.map ai)) (.list []))else none):=rfl
 rw[e,sN h,s0]
 cases H <;> simp[PyData.eqv,PyData.eqvAll]
theorem FT(x0 x1 s2 x5 x6 x7 x8:Sl){c:List Pc}{H:List (List Nat)}(hN:NailsOk c)(hH:∀w∈H,∀a∈w,az a)(k:H=[]↔c=[]):bp (nC (h7 (gj (jh (tM .list) (ab 4)))) (dh (ae lP false (ae gK false (ab 4) (be aH)) (ae gK false (ab 3) (be aH))))) (aI (pC (.bool false))) aP [x0,x1,s2,.ow (c.map av),.ow (H.map ai),x5,x6,x7,x8]=some ([x0,x1,s2,.ow (c.map av),.ow (H.map ai),x5,x6,x7,x8],.nx):=by
 have q1:=D1 hH
 have q2:=iD hN
 rw[show decide (H=[])=decide (c=[])from decide_eq_decide.mpr k]at q1
 have q3:=vI (decide (c=[]))
 refine jO ?_ rfl
 simp only[nC,h7,gj,jh,ab,Z3,Z2,look,Sl.val,tM,Ty.is,Hh,Z1,Z0,jE,dh,ae,Sl.isBr,be,aH,Z5,Nat.reduceLeDiff,gK,eu,lP,q1,q2,q3,aU]
theorem Ie(ns:List Int)(hl:ns.length≤63):mr [.list (ns.map .int)]=some (.sh (.bool true)):=by
 obtain⟨N,hN,s1⟩:=FM ns
 obtain⟨c,s,h2,hc,lc,s2⟩:=Ib ns hl hN
 have hL:=hc.l hN
 have hO:=hL.ok
 have nO:=hL.n
 obtain⟨z,v2,k2⟩:=h2.var (E:=[.sh (.list (ns.map .int)),.sh (ai N),s,.no,.no,.no,.no,.no,.no]) (i:=2) rfl
 have r3:=oP c (by omega) nO
 rw[qM]at r3
 have c3:=aL (ss:=[z]) (Jm v2) (by simp only[aO,k2,Z0,Z1]) r3
 have s3:=xT (i:=3) c3 (show 3 < 9 by decide)
 simp only[Z7,Z6]at s3
 obtain⟨H,eH,h⟩:=ya hL (by omega) rfl (Ju hN hc)
 obtain⟨z',v4,k4⟩:=h2.var (E:=[.sh (.list (ns.map .int)),.sh (ai N),s,.ow ((NH.short c).map av),.no,.no,.no,.no,.no]) (i:=2) rfl
 have c4:=aL (c:=bU) (ss:=[.ow (c.map av)]) (Jm (FS v4 k4)) rfl eH
 have s4:=xT (i:=4) c4 (show 4 < 9 by decide)
 simp only[Z7,Z6]at s4
 have s5:=FT (.sh (.list (ns.map .int))) (.sh (ai N)) s .no .no .no .no (la nO) (fun w hw=>h.u.azw (h.told.sub w hw)) h.nil
 obtain⟨x5,x6,e6⟩:=D0 h nO (by omega) h2 (.sh (.list (ns.map .int))) (.sh (ai N)) (.ow ((NH.short c).map av)) (.sh (.list (H.map ai))) .no .no H .no .no fun _ z=>z
 have i6:aM (ab 4) [.sh (.list (ns.map .int)),.sh (ai N),s,.ow ((NH.short c).map av),.ow (H.map ai),.no,.no,.no,.no]=some (H.map ai,[.sh (.list (ns.map .int)),.sh (ai N),s,.ow ((NH.short c).map av),.sh (.list (H.map ai)),.no,.no,.no,.no]):=Jx (s:=.al 4) rfl rfl
 have s6:=iz i6 e6
 have ls:(NH.short c).length≤1000:=jn (NH.rJ c) (by omega)
 obtain⟨R,eR,hR,lR⟩:=FL ns hl N hN.pos (by have:=hN.len;omega) (NH.short c) ls
 obtain⟨x7,x8,e7⟩:=zE h hO (by omega) h2 (.sh (.list (ns.map .int))) (.sh (ai N)) (.ow ((NH.short c).map av)) x5 x6 R .no .no hR
 have c7:am em (ad false (ab 0) (ad false (ab 1) (ad false (ab 3) ak))) [.sh (.list (ns.map .int)),.sh (ai N),s,.ow ((NH.short c).map av),.sh (.list (H.map ai)),x5,x6,.no,.no]=some (.ow (R.map ai),[.sh (.list (ns.map .int)),.sh (ai N),s,.ow ((NH.short c).map av),.sh (.list (H.map ai)),x5,x6,.no,.no]):=aL (ss:=[.sh (.list (ns.map .int)),.sh (ai N),.al 3]) rfl rfl eR
 have s7:=iz (Js c7) e7
 have g:mr [.list (ns.map .int)]=(vY [.sh (.list (ns.map .int)),.no,.no,.no,.no,.no,.no,.no,.no]).bind fun a=>match a.2 with |.rt r=>bF r |.nx=>some (.sh .none) |_=>none:=rfl
 rw[g,Bm,aE s1,aE s2,aE s3,aE s4,aE s5,aE s6,aE s7]
 rfl
end Nhk56
namespace Nhk56
open PySem L2 Nh PL
open PySem.W (nsIn codeIn keepIn fnOf)
theorem jS{fd:FuncData}{xs:List Str}(h:∀a0,bindArgs fd ⟨[a0],[]⟩=pure (xs.zip [a0])):∀us:List Value,us.length=1→bindArgs fd ⟨us,[]⟩=pure (xs.zip us)
 |[a0],_=>h a0
theorem nt{fd:FuncData}{xs:List Str}(h:∀a0 a1,bindArgs fd ⟨[a0,a1],[]⟩=pure (xs.zip [a0,a1])):∀us:List Value,us.length=2→bindArgs fd ⟨us,[]⟩=pure (xs.zip us)
 |[a0,a1],_=>h a0 a1
theorem Jy{fd:FuncData}{xs:List Str}(h:∀a0 a1 a2,bindArgs fd ⟨[a0,a1,a2],[]⟩=pure (xs.zip [a0,a1,a2])):∀us:List Value,us.length=3→bindArgs fd ⟨us,[]⟩=pure (xs.zip us)
 |[a0,a1,a2],_=>h a0 a1 a2
theorem Kn{fd:FuncData}{xs:List Str}(h:∀a0 a1 a2 a3,bindArgs fd ⟨[a0,a1,a2,a3],[]⟩=pure (xs.zip [a0,a1,a2,a3])):∀us:List Value,us.length=4→bindArgs fd ⟨us,[]⟩=pure (xs.zip us)
 |[a0,a1,a2,a3],_=>h a0 a1 a2 a3
abbrev HD(K:Frag)(n:Str)(st:Stmt):Prop:=∃(f:Addr) (oc:Value) (od an:Option Addr) (sl:Array (Option Value)) (kV dc pm cd ct:Value),nsIn K mainGlobals n=some (some (.ref f))∧K.lookup f=some ⟨oc,od,.func (fnOf n n (fP st) (dm st) (ao st) .none kV dc pm an cd ct),sl⟩∧codeIn K cd n=true∧keepIn K (.ref f)=true
theorem Jz{K:Frag}{n:Str}{st:Stmt}{f:Addr}{oc:Value}{od an:Option Addr}{sl:Array (Option Value)}{kV dc pm cd ct:Value}(a:nsIn K mainGlobals n=some (some (.ref f)))(l:K.lookup f=some ⟨oc,od,.func (fnOf n n (fP st) (dm st) (ao st) .none kV dc pm an cd ct),sl⟩)(c:codeIn K cd n=true)(k:keepIn K (.ref f)=true):HD K n st:=⟨f,oc,od,an,sl,kV,dc,pm,cd,ct,a,l,c,k⟩
theorem cg{K:Frag}{h:Heap}{mg:Str→Option Value}{x:Str}{st:Stmt}{ps:List Str}(d:HD K x st)(X:K.In h)(G:h.Ns mainGlobals mg)(b:∀(kV doc pm:Value) (an:Option Addr) (cdv ct:Value) (us:List Value),us.length=ps.length→bindArgs (fnOf x x (fP st) (dm st) (ao st) .none kV doc pm an cdv ct) ⟨us,[]⟩=pure (ps.zip us)):Def K mg x st ps:=by
 obtain⟨f,oc,od,an,sl,kV,dc,pm,cd,ct,a,l,c,k⟩:=d
 exact G6 X G a l c k b
theorem Ig {l:OpenLaw} {w:World} {K:Frag} {h:Heap} {mg:Str→Option Value} {fa:Addr} (X:K.In h) (G:h.Ns mainGlobals mg) (hfa:mg "law"=some (.ref fa)) (B:Bn mg)
  (d1:HD K "is_nail" nZ)
  (d2:HD K "short_form" ki)
  (d3:HD K "is_fall" n6)
  (d4:HD K "piece_numbers" iw)
  (d5:HD K "stretches_of" i7)
  (d6:HD K "cuts_by_nail" i8)
  (d7:HD K "add_piece" k6)
  (d8:HD K "times_in" mt)
  (d9:HD K "set_of" qA)
  (d10:HD K "nails_of" mz)
  (d11:HD K "without" n_)
  (d12:HD K "falls_without" iy)
  (d13:HD K "bits_of" og)
  {f14:Addr} {od14 an14:Option Addr} {sl14:Array (Option Value)} {oc14 kV14 dc14 pm14 ct14:Value}
  {cT PT:Addr} {vsT:Array Value} {ocT:Value} {odT:Option Addr} {slT:Array (Option Value)} (a14:nsIn K mainGlobals "in_told_order"=some (some (.ref f14))) (l14:K.lookup f14=some ⟨oc14,od14,.func (fnOf "in_told_order" "in_told_order" (fP dC) (dm dC) (ao dC) .none kV14 dc14 pm14 an14 (.ref cT) ct14),sl14⟩) (c14:codeIn K (.ref cT) "in_told_order"=true) (k14:keepIn K (.ref f14)=true)
  (t1:K.lookup cT=some ⟨ocT,odT,.fields vsT,slT⟩) (t2:(vsT[11]? :Option Value)=some (.ref PT)) (t3:codeHdIn K cT PT=true)
  (d15:HD K "has_part_among" g5)
  (d16:HD K "meets_each" kj)
  (d17:HD K "least_of" mB)
  (d18:HD K "all_sets" mC)
  (d19:HD K "check_many" kl)
  (d20:HD K "nails_among" jz)
  (d21:HD K "least_sets" km)
  (d22:HD K "meeting_sets" i9)
  (d23:HD K "falling_sets" i_)
  (d24:HD K "holding_sets" ja)
  (d25:HD K "_law_at" qD)
  (d26:HD K "_law_mix" oj)
  (d27:HD K "_law_contrary" jb)
  (d28:HD K "_law_pieces" kn)
  (d29:HD K "_law_cord" mD)
  (d30:HD K "_law_runs" mE)
  (d31:HD K "_law_tame" mF)
  (d32:HD K "_law_chosen" kq)
  (d33:HD K "_law_times" k7)
  (d34:HD K "_law_has_part" jc)
  (d35:HD K "_law_kept" mG)
  (d36:HD K "_law_few" on)
  (d37:HD K "_law_rows" mH)
  (d38:HD K "law" qE)
  {t_LETTERS:Tok} (g_LETTERS:nsIn K mainGlobals "LETTERS"=some (some (.str "abcdefghijklmnopqrstuvwxyz" t_LETTERS)))
  {t_MOST_NAILS:Tok} (g_MOST_NAILS:nsIn K mainGlobals "MOST_NAILS"=some (some (.int 10 t_MOST_NAILS))):
  ∃fd:FuncData,(∀(s:Shared) (v:Value),BindsTo s fd ⟨[v],[]⟩ [("_law_script",v)])∧∀base:Heap,K.In base→base.Ns mainGlobals mg→FnOk l.prog w K mg base zY 7 fa fd ["_law_script"] (dr K mr):=by
 obtain⟨f0,oc0,od0,an0,sl0,kV0,dc0,pm0,cd0,ct0,a0,l0,c0,k0⟩:=d38
 have e:=hfa.symm.trans (mg_of X G a0)
 cases e
 have F0:=wW (st:=qE) l0 c0 k0
 have G_LETTERS:=mg_of X G g_LETTERS
 have G_MOST_NAILS:=mg_of X G g_MOST_NAILS
 have e_in_told_order:DefT K mg "in_told_order" dC ["sets"] cT PT:=⟨⟨f14,_,_,_,_,_,_,_,_,l14,c14,k14,mg_of X G a14,.all (fun us hl=>jS (fun _=>rfl) us hl)⟩,t3,Db a14 l14 rfl t1 t2⟩
 refine⟨fnOf "law" "law" (fP qE) (dm qE) (ao qE) .none kV0 dc0 pm0 an0 cd0 ct0,fun s v=>.of_eq rfl,fun base _ _=>?_⟩
 have D_is_nail:=xI (P:=l.prog) (w:=w) (base:=base) (cg d1 X G fun _ _ _ _ _ _=>jS fun _=>rfl) B
 have D_short_form:=qW (P:=l.prog) (w:=w) (base:=base) (cg d2 X G fun _ _ _ _ _ _=>jS fun _=>rfl) B
 have D_is_fall:=xK (P:=l.prog) (w:=w) (base:=base) (cg d3 X G fun _ _ _ _ _ _=>jS fun _=>rfl) B D_short_form
 have D_piece_numbers:=n8 (P:=l.prog) (w:=w) (base:=base) (cg d4 X G fun _ _ _ _ _ _=>nt fun _ _=>rfl) B
 have D_stretches_of:=o6 (P:=l.prog) (w:=w) (base:=base) (cg d5 X G fun _ _ _ _ _ _=>jS fun _=>rfl) B
 have D_cuts_by_nail:=o7 (P:=l.prog) (w:=w) (base:=base) (cg d6 X G fun _ _ _ _ _ _=>nt fun _ _=>rfl) B
 have D_add_piece:=ul (P:=l.prog) (w:=w) (base:=base) (cg d7 X G fun _ _ _ _ _ _=>Jy fun _ _ _=>rfl) B
 have D_times_in:=vZ (P:=l.prog) (w:=w) (base:=base) (cg d8 X G fun _ _ _ _ _ _=>nt fun _ _=>rfl) B D_stretches_of D_cuts_by_nail D_short_form D_piece_numbers D_add_piece
 have D_set_of:=AS (P:=l.prog) (w:=w) (base:=base) (cg d9 X G fun _ _ _ _ _ _=>jS fun _=>rfl) B D_is_nail
 have D_nails_of:=v6 (P:=l.prog) (w:=w) (base:=base) (cg d10 X G fun _ _ _ _ _ _=>jS fun _=>rfl) B
 have D_without:=xL (P:=l.prog) (w:=w) (base:=base) (cg d11 X G fun _ _ _ _ _ _=>nt fun _ _=>rfl) B D_set_of
 have D_falls_without:=oe (P:=l.prog) (w:=w) (base:=base) (cg d12 X G fun _ _ _ _ _ _=>nt fun _ _=>rfl) B D_without D_is_fall
 have D_bits_of:=xM (P:=l.prog) (w:=w) (base:=base) (cg d13 X G fun _ _ _ _ _ _=>jS fun _=>rfl) B G_LETTERS
 have D_in_told_order:=oi (P:=l.prog) (w:=w) (base:=base) e_in_told_order B
 have D_has_part_among:=nj (P:=l.prog) (w:=w) (base:=base) (cg d15 X G fun _ _ _ _ _ _=>nt fun _ _=>rfl) B
 have D_meets_each:=qX (P:=l.prog) (w:=w) (base:=base) (cg d16 X G fun _ _ _ _ _ _=>nt fun _ _=>rfl) B
 have D_least_of:=v7 (P:=l.prog) (w:=w) (base:=base) (cg d17 X G fun _ _ _ _ _ _=>jS fun _=>rfl) B D_in_told_order D_bits_of D_has_part_among
 have D_all_sets:=v8 (P:=l.prog) (w:=w) (base:=base) (cg d18 X G fun _ _ _ _ _ _=>jS fun _=>rfl) B
 have D_check_many:=qZ (P:=l.prog) (w:=w) (base:=base) (cg d19 X G fun _ _ _ _ _ _=>jS fun _=>rfl) B G_MOST_NAILS
 have D_nails_among:=qC (P:=l.prog) (w:=w) (base:=base) (cg d20 X G fun _ _ _ _ _ _=>jS fun _=>rfl) B D_set_of
 have D_least_sets:=q_ (P:=l.prog) (w:=w) (base:=base) (cg d21 X G fun _ _ _ _ _ _=>jS fun _=>rfl) B D_set_of D_least_of
 have D_meeting_sets:=o8 (P:=l.prog) (w:=w) (base:=base) (cg d22 X G fun _ _ _ _ _ _=>jS fun _=>rfl) B D_least_sets D_bits_of D_nails_among D_check_many D_all_sets D_meets_each D_least_of
 have D_falling_sets:=o9 (P:=l.prog) (w:=w) (base:=base) (cg d23 X G fun _ _ _ _ _ _=>jS fun _=>rfl) B D_nails_of D_check_many D_all_sets D_falls_without D_least_of
 have D_holding_sets:=pc (P:=l.prog) (w:=w) (base:=base) (cg d24 X G fun _ _ _ _ _ _=>jS fun _=>rfl) B D_falling_sets D_meeting_sets
 have D_law_at:=AU (P:=l.prog) (w:=w) (base:=base) (cg d25 X G fun _ _ _ _ _ _=>nt fun _ _=>rfl) B
 have D_law_mix:=xN (P:=l.prog) (w:=w) (base:=base) (cg d26 X G fun _ _ _ _ _ _=>nt fun _ _=>rfl) B
 have D_law_contrary:=ph (P:=l.prog) (w:=w) (base:=base) (cg d27 X G fun _ _ _ _ _ _=>jS fun _=>rfl) B
 have D_law_pieces:=rc (P:=l.prog) (w:=w) (base:=base) (cg d28 X G fun _ _ _ _ _ _=>jS fun _=>rfl) B D_law_mix
 have D_law_cord:=v9 (P:=l.prog) (w:=w) (base:=base) (cg d29 X G fun _ _ _ _ _ _=>Kn fun _ _ _ _=>rfl) B D_law_at D_law_contrary D_law_pieces
 have D_law_runs:=v_ (P:=l.prog) (w:=w) (base:=base) (cg d30 X G fun _ _ _ _ _ _=>jS fun _=>rfl) B
 have D_law_tame:=wa (P:=l.prog) (w:=w) (base:=base) (cg d31 X G fun _ _ _ _ _ _=>jS fun _=>rfl) B
 have D_law_chosen:=re (P:=l.prog) (w:=w) (base:=base) (cg d32 X G fun _ _ _ _ _ _=>nt fun _ _=>rfl) B
 have D_law_times:=um (P:=l.prog) (w:=w) (base:=base) (cg d33 X G fun _ _ _ _ _ _=>nt fun _ _=>rfl) B D_law_chosen
 have D_law_has_part:=pi (P:=l.prog) (w:=w) (base:=base) (cg d34 X G fun _ _ _ _ _ _=>nt fun _ _=>rfl) B
 have D_law_kept:=wc (P:=l.prog) (w:=w) (base:=base) (cg d35 X G fun _ _ _ _ _ _=>nt fun _ _=>rfl) B
 have D_law_few:=xO (P:=l.prog) (w:=w) (base:=base) (cg d36 X G fun _ _ _ _ _ _=>nt fun _ _=>rfl) B
 have D_law_rows:=wd (P:=l.prog) (w:=w) (base:=base) (cg d37 X G fun _ _ _ _ _ _=>Jy fun _ _ _=>rfl) B D_law_at
 exact HE F0 B D_law_at D_law_cord D_law_few D_law_tame D_law_runs D_holding_sets D_law_kept D_law_rows D_times_in D_law_times D_law_has_part
theorem Ko{l:OpenLaw}{q:Program}{loose:List Str}{XP:(Str→Option Value)→Heap→Prop}{YP:World→Heap→Prop}{d:DefRec}{K:Params→Frag}(hn:l.most=some 63)(hdf:d.params.defaults=[])
  (hY:∀(w:World) (h:Heap),YP w h→(K w.params).In h∧yP (K w.params) h)
  (F:∀(w:World) (mg:Str→Option Value) (fa:Addr) (h:Heap),(K w.params).In h→h.Ns mainGlobals mg→mg d.name=some (.ref fa)→
   ∃fd:FuncData,(∀(s:Shared) (u:Value),BindsTo s fd ⟨[u],[]⟩ [("_law_script",u)])∧∀base:Heap,(K w.params).In base→base.Ns mainGlobals mg→FnOk l.prog w (K w.params) mg base zY 7 fa fd ["_law_script"] (dr (K w.params) mr)):
  PySem.W.WalkO q loose XP YP l.row.toRowW d [] (fun f vs=>PySem.call f vs):=
 L2.CQ (n:=63) (k:=7) (x:="_law_script") (CX:=fun _=>zY) (sp:=fun w=>dr (K w.params) mr) hn (by decide) hdf ⟨rfl,by decide,by decide⟩ hY F (fun _ _ a ns hl hS=>Hj (Ie ns hl) hS) fun _ _ _ _ _ z=>z
end Nhk56
open PySem PySem.W PyProof.Rows
namespace PySem.W.Fast
def tw921779772803505312:=0
def tw1848557944936285376:=0
def tw13774398435070842080:=0
def tw17030821104007076256:=0
def tw16444377500013877760:=0
def tw13003438956053052160:=0
def tw1206297113817626432:=0
def tw3777261276018161504:=0
def tw3119986281103129504:=0
def tw6813311881123700704:=0
def tw13074783086120267841:=0
def tw11622150441639594177:=0
def tw11743679023308544225:=0
def tw8581054776553704865:=0
def tw16302116978349224353:=0
def tw2885623539687899969:=0
def tw11859005867679494113:=0
def tw2058029000935402754:=0
def tw2175524135467296034:=0
def tw11145457874059889090:=0
def tw5992635386841692706:=0
def tw8824065957760175906:=0
def tw2405661931080425410:=0
def tw1742622115750035619:=0
def tw10250615349926935715:=0
def tw14721644502046298435:=0
def tw15523953434093191651:=0
def tw11277499184157902339:=0
def tw833915483411327875:=0
def tw7234868911280839555:=0
def tw1809741020677595107:=0
def tw17477462909776824388:=0
def tw13183651363239660932:=0
def tw1477341829897744836:=0
def tw5804680126354392548:=0
def tw6128256821810608708:=0
def tw8763016261386199684:=0
def tw17668786744798227172:=0
def tw5953201690450762757:=0
def tw192753985749808197:=0
def tw9771558741120918597:=0
def tw18132616972342086789:=0
def tw14629761465459378341:=0
def tw13735114706494831045:=0
def tw12986792012326774854:=0
def tw6401589551496527142:=0
def tw11217392543662002502:=0
def tw6150604532689242470:=0
def tw4662292892196810182:=0
def tw4962650112385993318:=0
def tw10520587098596531910:=0
def tw665428189783130183:=0
def tw11944603805516520743:=0
def tw14405732825743530279:=0
def tw2328019977395764647:=0
def tw17531355296600956455:=0
def tw8286277420905729671:=0
def tw689130060137767944:=0
def tw8710282854147432488:=0
def tw13541932503560336520:=0
def tw10066463850471621864:=0
def tw15864296493478061480:=0
def tw12773884586795211240:=0
def tw7020269259962630824:=0
def tw2110429082007689960:=0
def tw3545878297715420968:=0
def tw10733393981940586729:=0
def tw16748086423958925577:=0
def tw14584240294588717417:=0
def tw9677409918414236073:=0
def tw5102292020489761225:=0
def tw5908199626691558857:=0
def tw12735102564948181641:=0
def tw6287429693260154633:=0
def tw16829865870088006633:=0
def tw7288611928323911978:=0
def tw14712977029277995338:=0
def tw15721845253308622218:=0
def tw3026554615903847850:=0
def tw7703803549561384394:=0
def tw11520972549154232842:=0
def tw2947550717109599818:=0
def tw7181801853182193226:=0
def tw7647024615482457834:=0
def tw8494845720140642154:=0
def tw8183208223606955914:=0
def tw6450621145090825227:=0
def tw3400644842308441163:=0
def tw7053699133347874059:=0
def tw1045786748347811243:=0
def tw15223423135817758251:=0
def tw14581204303177044619:=0
def tw18048403725344555883:=0
def tw17322720091292999595:=0
def tw11943323099413031052:=0
def tw3800181798742152332:=0
def tw12538821965667817612:=0
def tw11525368788203361484:=0
def tw15510661303397020172:=0
def tw4486010343979857452:=0
def tw18379976054807656012:=0
def tw3142875565363601004:=0
def tw10224433159264218988:=0
def tw12912634885254452301:=0
def tw8174599100671893677:=0
def tw7291447326884682957:=0
def tw9803867402598410733:=0
def tw10071895749051983597:=0
def tw11563403881911123693:=0
def tw11313008502329170958:=0
def tw1774342605307375758:=0
def tw12790039988184968430:=0
def tw13782808843730900430:=0
def tw10336565384299645582:=0
def tw9792823591151175310:=0
def tw8142859950413717166:=0
def tw1030604817727395790:=0
def tw955902599339310030:=0
def tw7779128419201487919:=0
def tw3979702580516606031:=0
def tw12020043313747081455:=0
def tw4604559294670315855:=0
def tw13276383874058303855:=0
def tw9441082103399929583:=0
def tw13577219299774584687:=0
def tw3405718846867213263:=0
def tw2652878853768547504:=0
def tw2239827202064126224:=0
def tw8372069121019531664:=0
def tw12655496224318188944:=0
def tw1430974457797161488:=0
def tw15475427400063815280:=0
def tw7343894150752361072:=0
def tw8138745299969991440:=0
def tw3560072975082673968:=0
def tw79074576115498896:=0
def tw12379307686973765520:=0
def tw7008904444228721681:=0
def tw11340183930122694673:=0
def tw6134801774544974865:=0
def tw8392748213862580305:=0
def tw14614258125443355857:=0
def tw12361133925922094417:=0
def tw14127011133340173745:=0
def tw1296338335755471377:=0
def tw3076960536544170705:=0
def tw13694702839454378769:=0
def tw12515613629373077361:=0
def tw7257427543581607921:=0
def tw9538607451071124465:=0
def tw2598555428548071506:=0
def tw16580424165005691186:=0
def tw12934962765744657778:=0
def tw17632604192988972466:=0
def tw7215929156289871346:=0
def tw1969211995324022290:=0
def tw12880581664804760370:=0
def tw244639304948143986:=0
def tw1594135364678901618:=0
def tw14297484074573847442:=0
def tw11858823065242573778:=0
def tw11863018045581470706:=0
def tw17167256316350869523:=0
def tw2425616754143550483:=0
def tw559037018747054195:=0
def tw2653369569140806035:=0
def tw8353967726752613075:=0
def tw16768655432805081971:=0
def tw2277663532689751923:=0
def tw4140376878230314899:=0
def tw7198921779703768244:=0
def tw6773896481439543508:=0
def tw466716349828880116:=0
def tw10089656761435330324:=0
def tw18287143899902555924:=0
def tw9949227854976855924:=0
def tw8530078501423711188:=0
def tw16046760170226466933:=0
def tw5151317227139559733:=0
def tw15409853215969851893:=0
def tw8728855583119250325:=0
def tw7313567522918983766:=0
def tw10635380806874188982:=0
def tw8543648228763505014:=0
def tw8469968970879293846:=0
def tw3697954572888375734:=0
def tw12456277689410194038:=0
def tw13327044534468464342:=0
def tw10600842282875109142:=0
def tw3135344447819720919:=0
def tw14720164621718624471:=0
def tw17474546904884629783:=0
def tw2983083058644274487:=0
def tw3349600898689719639:=0
def tw5160221777988374935:=0
def tw10336898273380704727:=0
def tw5860639214096592439:=0
def tw571667904717892247:=0
def tw4794578340223252151:=0
def tw3129746939374915287:=0
def tw16961881346164278103:=0
def tw932758946621934487:=0
def tw7849739925655984055:=0
def tw11934715757533748280:=0
def tw13804380933568789784:=0
def tw15019719628737188312:=0
def tw2882701461375047224:=0
def tw12830906116773616312:=0
def tw3803945744271818456:=0
def tw4785029641473812376:=0
def tw3116830452882063320:=0
def tw7592308713979785657:=0
def tw5458188056605754873:=0
def tw10823264074875036281:=0
def tw13286667217825495705:=0
def tw9740679234302828249:=0
def tw9519722018561221433:=0
def tw441394545065796409:=0
def tw18093254396818032473:=0
def tw3552702052812307353:=0
def tw8483620914934148089:=0
def tw1112705297023496666:=0
def tw4868666375659936314:=0
def tw7033097787882658394:=0
def tw14840939748337369690:=0
def tw16519851308228201370:=0
def tw17917468318204957755:=0
def tw4576444980155441211:=0
def tw15011395597995267323:=0
def tw77429532978853147:=0
def tw8361629273044237659:=0
def tw7095980110537959867:=0
def tw4942601890338500700:=0
def tw18224892608727761052:=0
def tw6534795364130172124:=0
def tw10364129336924600764:=0
def tw987319105408602588:=0
def tw4138872229629616636:=0
def tw17980636646265039452:=0
def tw11070946477950883516:=0
def tw11495496224374369084:=0
def tw13044027318033999772:=0
def tw10976449800507902940:=0
def tw13182289170818221117:=0
def tw1436329269950396509:=0
def tw11489296498235902173:=0
def tw15163282741071522141:=0
def tw17654551451812721149:=0
def tw1143343141226925629:=0
def tw17489007358077709917:=0
def tw254604834431001245:=0
def tw4485032984500923037:=0
def tw11281104196429808445:=0
def tw13896436147758009181:=0
def tw16159480597914691421:=0
def tw188507514056990717:=0
def tw1703184204208272542:=0
def tw14667314446935758334:=0
def tw222124667069787806:=0
def tw11294566846313996030:=0
def tw1236976522799864702:=0
def tw16131919578858133535:=0
def tw2467333293945608383:=0
def tw18293245073236219359:=0
def tw15218034569431865951:=0
def tw15620075188936292063:=0
def tw4908480910914749279:=0
def tw15296520591392049329:=0
end PySem.W.Fast
set_option maxRecDepth 100000 in
set_option maxHeartbeats 0 in
theorem PySem.Challenge.cw_nailhang_k56_rows_have_holding_sets_holds : PySem.Challenge.rw_nailhang_k56_rows_have_holding_sets.Holds := by
 w_on;o_law;k_head;(case hw=>w_witness2)
 k_fill
 refine Nhk56.Ko (l:=PySem.Challenge.rw_nailhang_k56_rows_have_holding_sets) rfl rfl (fun w h Y=>⟨PySem.W.km_in_of Y,by
  refine' PL.Dc (PySem.W.km_in_of Y) ?y1 ?y2 ?y3 ?y4 ?y5 ?y6 ?y7 (PySem.W.km_tabs_of Y _ ?y8)
  (case y1=>k_is)
  (case y2=>k_is)
  (case y3=>exact rfl)
  (case y4=>k_is)
  (case y5=>exact rfl)
  (case y6=>kernel_rfl)
  (case y7=>kernel_rfl)
  (case y8=>k_mem)⟩) ?F
 case F=>
  intro w mg fa h KX G hmg
  refine' Nhk56.Ig KX G hmg (PL.I_ KX G ?_ ?_ ?_ ?_ ?_ ?_ ?_ ?_ ?_ ?_ ?_ ?_ ?_ ?_ ?_ ?_ ?_ ?_ ?_ ?_) ?_ ?_ ?_ ?_ ?_ ?_ ?_ ?_ ?_ ?_ ?_ ?_ ?_ ?_ ?_ ?_ ?_ ?_ ?_ ?_ ?_ ?_ ?_ ?_ ?_ ?_ ?_ ?_ ?_ ?_ ?_ ?_ ?_ ?_ ?_ ?_ ?_ ?_ ?_ ?_ ?_ ?_ ?_ ?_ ?_ ?_
  all_goals first |(refine' Nhk56.Jz ?_ ?_ ?_ ?_ <;> first |k_is |skip) |k_is |exact rfl |kernel_rfl |skip
