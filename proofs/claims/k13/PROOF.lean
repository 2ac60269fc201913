import PyProof.Rows.All
import Wide.All
import OpenK.AllK
import Wide.FinOn
import Lean
import PyProof.EqAt
import PyProof.EqKinds
import PyProof.TupleCall
import KE.KRevIter
import PyProof.FactsAll.range
import PyProof.P3In
import PyProof.ZipIter
import PyProof.TupleIter
import PyProof.WalkInts
import PyProof.SeqI3
import PyProof.EnumFor
import PyProof.EnumMake
import PyProof.ListMulRoad
import PyProof.AutoListH
import PyProof.Rows.SortRev
import PyProof.SumWalkG
import PyProof.StrWalks
import PyProof.StrCalls2
import PyProof.StrLawsTight
import KE.KIntText
import PyProof.StrBlockG
import PyProof.Rows.StrItems
import PyProof.SliceStr2
import PyProof.StrBlockI
import PyProof.Rows.IntBool
import PyProof.StrOps2
import PyProof.ListStr
import PyProof.DictRoadsH
import PyProof.Rows.TupTab
import PyProof.P3Eq
import PySem.Challenge.RW_shorterline_k13_how_long_each_stayed
set_option Elab.async false
set_option linter.all false
set_option maxRecDepth 100000
namespace L2
open PySem PySem.Spec PyProof.Rows
abbrev Key:=Sum Int Str
def qH:Key→Value→Bool
 | .inl k,v=>Value.isInt k v
 | .inr x,v=>Value.isStrOf x v
def keyH (w:World):Key→Int
 | .inl k=>hashInt k
 | .inr x=>hashStr w x
theorem bx:∀ {k:Key} {v:Value},qH k v = true→(∃ i t,k = Sum.inl i∧v = Value.int i t)∨(∃ x t,k = Sum.inr x∧v = Value.str x t)
 | .inl i,v,h=>by
  obtain ⟨t,e⟩:=Value.isInt_shape (k:=i) (v:=v) h
  exact .inl ⟨i,t,rfl,e⟩
 | .inr x,v,h=>by
  obtain ⟨t,e⟩:=Value.isStrOf_shape (x:=x) (v:=v) h
  exact .inr ⟨x,t,rfl,e⟩
theorem tp (i:Int) (t:Tok):qH (.inl i) (.int i t) = true:=by simp [qH,Value.isInt]
theorem t6 (x:Str) (t:Tok):qH (.inr x) (.str x t) = true:=by simp [qH,Value.isStrOf]
theorem Bc (a b:Int):decide ((Sum.inl a:Key) = Sum.inl b) = (a == b):=by
 by_cases e:a = b
 ·subst e; simp
 ·have h:¬ (Sum.inl a:Key) = Sum.inl b:=fun q=>e (Sum.inl.inj q)
  rw [decide_eq_false h]
  exact (beq_eq_false_iff_ne.mpr e).symm
theorem BZ (a b:Str):decide ((Sum.inr a:Key) = Sum.inr b) = decide (a = b):=by
 by_cases e:a = b
 ·subst e; simp
 ·have h:¬ (Sum.inr a:Key) = Sum.inr b:=fun q=>e (Sum.inr.inj q)
  rw [decide_eq_false h,decide_eq_false e]
theorem Av (a:Int) (b:Str):decide ((Sum.inl a:Key) = Sum.inr b) = false:=decide_eq_false (fun q=>nomatch q)
theorem AD (a:Str) (b:Int):decide ((Sum.inr a:Key) = Sum.inl b) = false:=decide_eq_false (fun q=>nomatch q)
def bR (prog:Program) (w:World):PySem.KeyKind prog w Key where
 is:=qH
 hash:=keyH w
 inj:=fun v a b ha hb=>by
  rcases bx ha with ⟨i,t,rfl,rfl⟩ | ⟨x,t,rfl,rfl⟩
  ·rcases bx hb with ⟨j,u,rfl,e⟩ | ⟨y,u,rfl,e⟩
   ·injection e with e1 _; rw [e1]
   ·exact nomatch e
  ·rcases bx hb with ⟨j,u,rfl,e⟩ | ⟨y,u,rfl,e⟩
   ·exact nomatch e
   ·injection e with e1 _; rw [e1]
 byValue:=fun k v h=>by
  rcases bx h with ⟨i,t,rfl,rfl⟩ | ⟨x,t,rfl,rfl⟩ <;> rfl
 pyHash:=fun hv h=>by
  rcases bx hv with ⟨i,t,rfl,rfl⟩ | ⟨x,t,rfl,rfl⟩
  ·exact wpAny_pyHash_int h
  ·exact wpAny_pyHash_str h
 eqBool:=fun hu hv h=>by
  rcases bx hu with ⟨i,t,rfl,rfl⟩ | ⟨x,t,rfl,rfl⟩
  ·rcases bx hv with ⟨j,u,rfl,rfl⟩ | ⟨y,u,rfl,rfl⟩
   ·rw [Bc] at h; exact wpAny_eqBool_int h
   ·rw [Av] at h; exact SeqAt.EqAt.int_str i t y u _ _ _ _ h
  ·rcases bx hv with ⟨j,u,rfl,rfl⟩ | ⟨y,u,rfl,rfl⟩
   ·rw [AD] at h; exact SeqAt.EqAt.str_int x t j u _ _ _ _ h
   ·rw [BZ] at h; exact wpAny_eqBool_str h
 «strs»:=fun k x t v h=>by
  rcases bx h with ⟨i,u,rfl,e⟩ | ⟨y,u,rfl,e⟩
  ·exact nomatch e
  ·injection e with e1 _
   subst e1
   cases v <;> rfl
theorem na (prog:Program) (w:World) (i:Int) (t:Tok):(bR prog w).is (.inl i) (.int i t) = true:=tp i t
theorem ng (prog:Program) (w:World) (x:Str) (t:Tok):(bR prog w).is (.inr x) (.str x t) = true:=t6 x t
inductive V where
 | non | bl (b:Bool) | int (i:Int) | str (x:Str) | byt (b:Array UInt8) | flt (b:UInt64) | ref (a:Addr) | ty (n:String)
 deriving DecidableEq
def RelV:V→Value→Prop
 | .non,u=>u = Value.none
 | .bl b,u=>u = Value.bool b
 | .int i,u=>∃ t,u = Value.int i t
 | .str x,u=>∃ t,u = Value.str x t
 | .byt b,u=>∃ t,u = Value.bytes b t
 | .flt b,u=>∃ t,u = Value.float b t
 | .ref a,u=>u = Value.ref a
 | .ty n,u=>u = Value.type n
abbrev Vals:List V→List Value→Prop:=Paired RelV
theorem Vals.length {xs:List V} {us:List Value} (r:Vals xs us):xs.length = us.length:=Paired.length r
theorem Vals.get:∀ {xs:List V} {us:List Value} {i:Nat} {x:V},Vals xs us→xs[i]? = some x→∃ u,us[i]? = some u∧RelV x u
 | _,_,_,_,.nil,e=>by simp at e
 | _,_,0,_,.cons r _,e=>by simp at e; subst e; exact ⟨_,rfl,r⟩
 | _,_,i + 1,x,.cons _ t,e=>by
  obtain ⟨u,h1,h2⟩:=Vals.get (i:=i) (x:=x) t (by simpa using e)
  exact ⟨u,by simpa using h1,h2⟩
theorem Vals.set {x:V} {u:Value} (r:RelV x u):∀ {xs:List V} {us:List Value} (i:Nat),Vals xs us→Vals (xs.set i x) (us.set i u)
 | _,_,_,.nil=>.nil
 | _,_,0,.cons _ t=>.cons r t
 | _,_,i + 1,.cons q t=>.cons q (Vals.set r i t)
theorem Vals.append:∀ {xs ys:List V} {us ws:List Value},Vals xs us→Vals ys ws→Vals (xs++ys) (us++ws)
 | _,_,_,_,.nil,s=>s
 | _,_,_,_,.cons r t,s=>.cons r (Vals.append t s)
theorem Vals.take:∀ {xs:List V} {us:List Value} (n:Nat),Vals xs us→Vals (xs.take n) (us.take n)
 | _,_,0,_=>.nil
 | _,_,_ + 1,.nil=>.nil
 | _,_,n + 1,.cons r t=>.cons r (Vals.take n t)
theorem Vals.drop:∀ {xs:List V} {us:List Value} (n:Nat),Vals xs us→Vals (xs.drop n) (us.drop n)
 | _,_,0,r=>r
 | _,_,_ + 1,.nil=>.nil
 | _,_,n + 1,.cons _ t=>Vals.drop n t
def RelO:Option V→Option Value→Prop
 | some v,some u=>RelV v u
 | none,none=>True
 | _,_=>False
def KV {κ : Type}:List (κ×V)→List (κ×Value)→Prop:=Paired fun (p : κ×V) (q : κ×Value)=>p.1 = q.1∧RelV p.2 q.2
def kV:Key→V
 | .inl i=>.int i
 | .inr x=>.str x
inductive HO where
 | lst (xs:List V)
 | tup (xs:List V)
 | dK (kvs:List (Key×V)) | dT (kvs:List (List Key×V))
 | set (S:Int→Bool) (n:Nat)
 | ins (C dx:Addr) (fs:List (Str×V))
 | own (x:Addr)
 | xd (fs:List (Str×V))
 | met (f x:Addr)
 | rng (lo hi:Int)
 | frz (o:Obj) (u:HO)
 | tbl (ps:Array Value)
 | ext (φ : Heap→Prop)
abbrev Hp:=Addr→Option HO
def upd (H:Hp) (a:Addr) (o:HO):Hp:=fun b=>if b = a then some o else H b
theorem aA {H:Hp} {a:Addr} {o:HO}:upd H a o a = some o:=by unfold upd; rw [if_pos rfl]
theorem au {H:Hp} {a b:Addr} {o:HO} (h:b≠a):upd H a o b = H b:=by unfold upd; rw [if_neg h]
theorem nH {H:Hp} {a b:Addr} {o u:HO} (h:H a = some o) (h':H b = some u) (d:o≠u):a≠b:=by
 intro e; subst e; rw [h] at h'; exact d (Option.some.inj h')
theorem aK {H:Hp} {a b:Addr} {o:HO} (h:H a = some o) (h':H b = none):a≠b:=by
 intro e; subst e; rw [h] at h'; cases h'
def PlainT (h:Heap) (a:Addr) (items:Array Value):Prop:=∃ o,h.get? a = some o∧o.cls = .type "tuple" ∧ o.dict = none∧∃ n,o.data = .seq items n
theorem PlainT.tup {h:Heap} {a:Addr} {items:Array Value} (x:PlainT h a items):IsTup h a items:=let ⟨o,e,c,_,d⟩:=x; ⟨o,e,c,d⟩
theorem PlainT.new (h:Heap) (items:Array Value):PlainT (h.push { cls:=.type "tuple",data:=.seq items }) h.objs.size items:=⟨_,Heap.get?_push_size _ rfl,rfl,rfl,_,rfl⟩
section
variable (P:Program) (w:World)
def ObjOk (H:Hp) (h:Heap) (a:Addr):HO→Prop
 | .lst xs=>xs.length≤sizeLine∧∃ (its:List Value) (n:Nat),Vals xs its∧h.get? a = some { cls:=.type "list",data:=.seq its.toArray n }
 | .tup xs=>xs.length≤sizeLine∧∃ its:List Value,Vals xs its∧PlainT h a its.toArray
 | .dK kvs=>kvs.length≤sizeLine∧(a == sysModules) = false∧∃ vs,KV kvs vs∧h.DictOf (bR P w) a vs
 | .dT kvs=>kvs.length≤sizeLine∧(a == sysModules) = false∧∃ xs:List (List Key×Addr×Value),
   Paired (fun (p:List Key×V) (q:List Key×Addr×Value)=>p.1 = q.1∧H q.2.1 = some (.tup (p.1.map kV))∧RelV p.2 q.2.2) kvs xs ∧
   ∃ o es ep,h.get? a = some o∧o.ExactDict∧o.data = .dict es ep∧es.toList = xs.map (entryOfKey (tupleKind (bR P w)))∧(xs.map (·.1)).Nodup
 | .set S n=>h.SetOf (intKind P w) a S n
 | .ins C dx fs=>H dx = some (.own a)∧fs.length≤1000∧dx≠a∧h.get? a = some (PySem.W.instObj C dx) ∧
   ∃ mA,h.Ns1 dx mA∧(∀ f,RelO (fs.lookup f) (mA f))∧PySem.Within mA (fs.map (·.1))
 | .own _=>∃ o,h.get? a = some o
 | .xd fs=>∃ mA,h.Ns1 a mA∧∀ f,RelO (fs.lookup f) (mA f)
 | .rng lo hi=>∃ t u v,h.get? a = some { cls:=.type "range",data:=.fields #[.int lo t,.int hi u,.int 1 v] }
 | .frz o u=>h.get? a = some o∧ObjOk H h a u
 | .tbl ps=>h.get? a = some { cls:=.none,data:=.fields ps }
 | .met f x=>h.get? a = some (PySem.W.methodObj (.ref f) (.ref x))
 | .ext φ=>φ h∧(∃ o,h.get? a = some o)∧∀ h1 h2:Heap,φ h1→(∀ o,h1.get? a = some o→h2.get? a = some o)→φ h2
def HOk (H:Hp) (h:Heap):Prop:=∀ a o,H a = some o→ObjOk P w H h a o
end
section
variable {P:Program} {w:World} {H H':Hp} {h h':Heap} {a:Addr} {o:HO}
theorem ObjOk.lt (x:ObjOk P w H h a o):a < h.objs.size:=by
 cases o with
 | lst xs=>obtain ⟨_,_,_,_,e⟩:=x; exact Heap.lt_size e
 | tup xs=>obtain ⟨_,_,_,p⟩:=x; exact p.tup.lt
 | dK kvs=>obtain ⟨_,_,_,_,o,_,_,e,_⟩:=x; exact Heap.lt_size e
 | dT kvs=>obtain ⟨_,_,_,_,o,_,_,e,_⟩:=x; exact Heap.lt_size e
 | set S n=>obtain ⟨o,_,_,_,e,_⟩:=x; exact Heap.lt_size e
 | ins C dx fs=>obtain ⟨_,_,_,e,_⟩:=x; exact Heap.lt_size e
 | own y=>obtain ⟨_,e⟩:=x; exact Heap.lt_size e
 | xd fs=>obtain ⟨_,⟨_,_,_,e,_⟩,_⟩:=x; exact Heap.lt_size e
 | rng lo hi=>obtain ⟨_,_,_,e⟩:=x; exact Heap.lt_size e
 | frz ob u=>obtain ⟨e,_⟩:=x; exact Heap.lt_size e
 | tbl ps=>exact Heap.lt_size (show h.get? a = some _ from x)
 | met f y=>exact Heap.lt_size (show h.get? a = some _ from x)
 | ext φ=>obtain ⟨_,⟨_,e⟩,_⟩:=x; exact Heap.lt_size e
theorem Paired.mapP {α β : Type} {F G : α→β→Prop}:∀ {l₁ : List α} {l₂ : List β},Paired F l₁ l₂→(∀ a b,F a b→G a b)→Paired G l₁ l₂
 | _,_,.nil,_=>.nil
 | _,_,.cons r t,f=>.cons (f _ _ r) (Paired.mapP t f)
theorem ObjOk.stay (x:ObjOk P w H h a o) (k:∀ b u,(b = a∨H b = some (.own a))→h.get? b = some u→h'.get? b = some u)
  (ho:∀ b,H b = some (.own a)→H' b = some (.own a)) (ht:∀ b xs,H b = some (.tup xs)→H' b = some (.tup xs)):ObjOk P w H' h' a o:=by
 induction o with
 | lst xs=>obtain ⟨z,its,n,r,e⟩:=x; exact ⟨z,its,n,r,k _ _ (.inl rfl) e⟩
 | tup xs=>obtain ⟨z,its,r,ob,e,c⟩:=x; exact ⟨z,its,r,ob,k _ _ (.inl rfl) e,c⟩
 | dK kvs=>obtain ⟨z,y,vs,r,ob,es,ep,e,c⟩:=x; exact ⟨z,y,vs,r,ob,es,ep,k _ _ (.inl rfl) e,c⟩
 | dT kvs =>
  obtain ⟨z,y,xs,r,ob,es,ep,e,c⟩:=x
  exact ⟨z,y,xs,Paired.mapP r fun p q z=>⟨z.1,ht _ _ z.2.1,z.2.2⟩,ob,es,ep,k _ _ (.inl rfl) e,c⟩
 | set S n=>obtain ⟨ob,es,ep,t,e,c⟩:=x; exact ⟨ob,es,ep,t,k _ _ (.inl rfl) e,c⟩
 | ins C dx fs =>
  obtain ⟨d,z,ne,e,mA,⟨od,es,ep,e2,c⟩,r⟩:=x
  exact ⟨ho _ d,z,ne,k _ _ (.inl rfl) e,mA,⟨od,es,ep,k _ _ (.inr d) e2,c⟩,r⟩
 | own y=>obtain ⟨ob,e⟩:=x; exact ⟨ob,k _ _ (.inl rfl) e⟩
 | xd fs=>obtain ⟨mA,⟨od,es,ep,e,c⟩,r⟩:=x; exact ⟨mA,⟨od,es,ep,k _ _ (.inl rfl) e,c⟩,r⟩
 | rng lo hi=>obtain ⟨t,u,v,e⟩:=x; exact ⟨t,u,v,k _ _ (.inl rfl) e⟩
 | frz ob u ih=>obtain ⟨e,q⟩:=x; exact ⟨k _ _ (.inl rfl) e,ih q⟩
 | tbl ps =>
  have e:h.get? a = some { cls:=.none,data:=.fields ps }:=x
  show h'.get? a = some { cls:=.none,data:=.fields ps }
  exact k a _ (.inl rfl) e
 | met f y =>
  have e:h.get? a = some (PySem.W.methodObj (.ref f) (.ref y)):=x
  show h'.get? a = some (PySem.W.methodObj (.ref f) (.ref y))
  exact k a _ (.inl rfl) e
 | ext φ=>obtain ⟨p,⟨o,e⟩,st⟩:=x; exact ⟨st _ _ p fun o q=>k _ _ (.inl rfl) q,⟨o,k _ _ (.inl rfl) e⟩,st⟩
theorem HOk.lt (x:HOk P w H h) (e:H a = some o):a < h.objs.size:=(x a o e).lt
theorem HOk.fresh (x:HOk P w H h) (e:h.objs.size≤a):H a = none:=by
 cases q:H a with
 | none=>rfl
 | some u=>exact absurd (Nat.lt_of_lt_of_le (x.lt q) e) (Nat.lt_irrefl _)
theorem HOk.kept (x:HOk P w H h) (k:∀ b u,h.get? b = some u→h'.get? b = some u):HOk P w H h':=fun a o e =>
 (x a o e).stay (fun b u _ q=>k b u q) (fun _ q=>q) fun _ _ q=>q
theorem HOk.laid (x:HOk P w H h) (k:∀ b u,h.get? b = some u→h'.get? b = some u) (hp:h.objs.size≤a) (new:ObjOk P w (upd H a o) h' a o):HOk P w (upd H a o) h':=fun b u e=>by
 have hn:=x.fresh hp
 by_cases hb:b = a
 ·subst hb; rw [aA] at e; cases e; exact new
 ·rw [au hb] at e
  exact (x b u e).stay (fun c v _ q=>k c v q) (fun c q=>by rw [au (aK q hn)]; exact q) fun c xs q=>by rw [au (aK q hn)]; exact q
end
def Rd (H:Hp) (a:Addr) (u:HO):Prop:=H a = some u∨∃ o,H a = some (.frz o u)
theorem Rd.ok {P:Program} {w:World} {H:Hp} {h:Heap} {a:Addr} {u:HO} (r:Rd H a u) (x:HOk P w H h):ObjOk P w H h a u:=by
 rcases r with r | ⟨o,r⟩
 ·exact x a u r
 ·obtain ⟨_,q⟩:=x a _ r
  exact q
def Mut:Option HO→Prop
 | some (.lst _)=>True
 | some (.dK _)=>True
 | some (.dT _)=>True
 | some (.set _ _)=>True
 | some (.ins _ _ _)=>True
 | some (.ext _)=>True
 | _=>False
section
variable {P:Program} {w:World} {H:Hp} {h h':Heap} {x e:Addr} {o':HO}
theorem HOk.write (ok:HOk P w H h) (mu:Mut (H x)) (he:e = x∨H e = some (.own x)) (k:∀ b u,b≠e→h.get? b = some u→h'.get? b = some u) (heo:∃ u,h'.get? e = some u)
  (new:ObjOk P w (upd H x o') h' x o'):HOk P w (upd H x o') h':=fun b u q=>by
 have nown:∀ c y,H c = some (.own y)→c≠x:=fun c y r z=>by subst z; rw [r] at mu; exact mu
 have ntup:∀ c xs,H c = some (.tup xs)→c≠x:=fun c xs r z=>by subst z; rw [r] at mu; exact mu
 by_cases hb:b = x
 ·subst hb; rw [aA] at q; cases q; exact new
 ·rw [au hb] at q
  by_cases hbe:b = e
  ·have q':H b = some (.own x):=by
    rcases he with z | z
    ·exact absurd (hbe.trans z) hb
    ·rw [hbe]; exact z
   rw [q] at q'; cases q'
   obtain ⟨v,hv⟩:=heo
   exact ⟨v,by rw [hbe]; exact hv⟩
  ·refine (ok b u q).stay (fun c v hc r=>k c v ?_ r) (fun c r=>by rw [au (nown c b r)]; exact r) fun c xs r=>by rw [au (ntup c xs r)]; exact r
   rcases hc with rfl | hc
   ·exact hbe
   ·rintro rfl
    rcases he with z | z
    ·exact nown c b hc z
    ·rw [hc] at z; cases z; exact hb rfl
end
structure Un (fs ex:List Addr) (H H':Hp) (h h':Heap):Prop where
 keep:∀ b o,h.get? b = some o→H b = none→b∉fs→b∉ex→h'.get? b = some o
 slot:∀ b o,h.get? b = some o→H b = none→b∈fs→b∉ex→∃ sl,h'.get? b = some { o with slots:=sl }
 free:∀ b o,h.get? b = some o→H b = none→b∉ex→H' b = none
 there:∀ b o,h.get? b = some o→b∉ex→∃ o',h'.get? b = some o'
 tups:∀ b xs,H b = some (.tup xs)→H' b = some (.tup xs)
 frzs:∀ b o u,H b = some (.frz o u)→H' b = some (.frz o u)
 tbls:∀ b ps,H b = some (.tbl ps)→∃ more,H' b = some (.tbl (ps++more))
section
variable {fs fs' ex ex':List Addr} {H H1 H2:Hp} {h h1 h2 h':Heap} {a x e:Addr} {o:HO}
theorem Un.any (u:Un fs ex H H1 h h1) {b:Addr} {ob:Obj} (q:h.get? b = some ob) (n:H b = none) (hx:b∉ex):∃ sl,h1.get? b = some { ob with slots:=sl }:=by
 by_cases hb:b∈fs
 ·exact u.slot b ob q n hb hx
 ·exact ⟨ob.slots,u.keep b ob q n hb hx⟩
theorem Un.kept (k:∀ b u,h.get? b = some u→h'.get? b = some u):Un fs ex H H h h' :=
 ⟨fun b ob q _ _ _=>k b ob q,fun b ob q _ _ _=>⟨ob.slots,k b ob q⟩,fun _ _ _ n _=>n,fun b ob q _=>⟨ob,k b ob q⟩,fun _ _ q=>q,fun _ _ _ q=>q,fun _ ps q=>⟨#[],by rw [q]; simp⟩⟩
theorem Un.refl:Un fs ex H H h h:=Un.kept fun _ _ q=>q
theorem Un.laid (k:∀ b u,h.get? b = some u→h'.get? b = some u) (hp:h.objs.size≤a) (hn:H a = none):Un fs ex H (upd H a o) h h' where
 keep:=fun b u q _ _ _=>k b u q
 slot:=fun b u q _ _ _=>⟨u.slots,k b u q⟩
 free:=fun b u q n _=>by rw [au (Nat.ne_of_lt (Nat.lt_of_lt_of_le (Heap.lt_size q) hp))]; exact n
 there:=fun b u q _=>⟨u,k b u q⟩
 tups:=fun b xs q=>by rw [au (aK q hn)]; exact q
 frzs:=fun b u xs q=>by rw [au (aK q hn)]; exact q
 tbls:=fun b ps q=>⟨#[],by rw [au (aK q hn),q]; simp⟩
theorem Un.write (mu:Mut (H x)) (he:e = x∨H e = some (.own x)) (k:∀ b u,b≠e→h.get? b = some u→h'.get? b = some u) (heo:∃ u,h'.get? e = some u):Un fs ex H (upd H x o) h h':=by
 have hx:∀ b,H b = none→b≠x:=fun b n z=>by subst z; rw [n] at mu; exact mu
 have hb:∀ b,H b = none→b≠e:=fun b n z=>by
  subst z
  rcases he with r | r
  ·exact hx b n r
  ·rw [n] at r; cases r
 have hm:∀ b u,H b = some u→¬ Mut (some u)→b≠x:=fun b u q nm z=>by subst z; rw [q] at mu; exact nm mu
 refine ⟨fun b u q n _ _=>k b u (hb b n) q,fun b u q n _ _=>⟨u.slots,k b u (hb b n) q⟩,fun b u q n _=>by rw [au (hx b n)]; exact n,fun b u q _=>?_,
  fun b xs q=>by rw [au (hm b _ q fun z=>z)]; exact q,fun b u xs q=>by rw [au (hm b _ q fun z=>z)]; exact q,fun b ps q=>⟨#[],by rw [au (hm b _ q fun z=>z),q]; simp⟩⟩
 by_cases hbe:b = e
 ·subst hbe; exact heo
 ·exact ⟨u,k b u hbe q⟩
end
def trk (h:Heap) (H:Hp):List Addr:=(List.range h.objs.size).filter fun a=>(H a).isSome
def hidT (h:Heap) (H:Hp):Heap:=PySem.W.hideAll h (trk h H)
theorem uE (h:Heap) (H:Hp):(hidT h H).objs.size = h.objs.size:=PySem.W.hideAll_size _ _
theorem uY {h:Heap} {H:Hp} {b:Addr} {o:Obj} (e:h.get? b = some o) (n:H b = none):(hidT h H).get? b = some o :=
 PySem.W.hideAll_get _ e fun hm=>by
  have q:(H b).isSome = true:=(List.mem_filter.mp hm).2
  rw [n] at q; simp at q
theorem xL {h:Heap} {H:Hp} {b:Addr} {o:Obj} (e:(hidT h H).get? b = some o):h.get? b = some o∧H b = none:=by
 have e':h.get? b = some o:=PySem.W.of_hideAll (trk h H) e
 refine ⟨e',?_⟩
 cases q:H b with
 | none=>rfl
 | some x =>
  have hm:b∈trk h H:=List.mem_filter.mpr ⟨List.mem_range.mpr (Heap.lt_size e'),by simp [q]⟩
  have z:(hidT h H).get? b = none:=PySem.W.hideAll_none (trk h H) hm
  rw [z] at e; cases e
structure Mod (K:PySem.W.Frag) (mg:Str→Option Value) (base:Heap):Prop where
 kin:K.In base
 glob:base.Ns mainGlobals mg
 blt:∃ mb,base.Ns builtinsNs mb∧∀ x:Str,x ≠ "__name__" → mb x = bootBuiltins x
 nolimit:base.NoLimit
 sys:∃ m,base.Ns sysModules m
inductive Ao where
 | L (a:Addr) | T (t:List (List Nat×Addr))
structure EB where
 np:Nat
 be:List Ao
 H:Hp
structure Cx where
 prog:Program
 w:World
 K:PySem.W.Frag
 mg:Str→Option Value
 base:Heap
 A:Around
 N:List Str
 s₀ : Shared
 H₀ : Hp
 env:Env
 outer:List Env
 stack:List Env
 ex:List Addr
 fn:Str→Bool
 calm:Bool
 pn:List (Addr×Obj)
 xe:Value→Shared→Prop
 eb:EB:=⟨0,[],fun _=>none⟩
def frs (l:List Env):List Addr:=l.filterMap (·.frame)
abbrev Cx.fs (X:Cx):List Addr:=frs X.outer
def Vis (sc:Scope) (x:Str):Prop:=sc.names.lookup x = some .local∨sc.names.lookup x = some .cell∨sc.names.lookup x = some .free
def Loc (sc:Scope) (x:Str):Prop:=sc.names.lookup x = some .local∨sc.names.lookup x = some .cell
def Look (env:Env) (h:Heap) (m:Str→Option Value) (x:Str) (u:Value):Prop :=
 (env.kindOf x = some .local∧m x = some u)∨((env.kindOf x = some .cell∨env.kindOf x = some .free)∧∃ c,env.cells.lookup x = some c∧h.IsCell c (some u))
structure Cx.Ok (X:Cx):Prop where
 mod:Mod X.K X.mg X.base
 kind:X.env.scope.kind = .function
 glob:X.env.globals = mainGlobals
 blt:X.env.builtins = builtinsNs
 above:X.s₀.heap.objs.size≤X.env.locals
 inj:∀ x y c,X.env.cells.lookup x = some c→X.env.cells.lookup y = some c→x = y
 has:∀ x,(X.env.kindOf x = some .cell∨X.env.kindOf x = some .free)→∃ c,X.env.cells.lookup x = some c
 cab:∀ x c,X.fn x = true→X.env.cells.lookup x = some c→X.s₀.heap.objs.size≤c
 hd:X.calm = true→X.A.handled = none
 frames:X.A.frames = some X.stack
 stk:X.stack = X.outer∨(X.stack = X.env :: X.outer∧X.env.frame = some X.env.locals)
 exf:∀ b∈X.ex,b≠X.env.locals∧∀ x c,X.env.cells.lookup x = some c→c≠b
 bs:∀ b o,X.base.get? b = some o→X.s₀.heap.get? b = some o∧X.H₀ b = none
 bsz:X.base.objs.size≤X.s₀.heap.objs.size
 noex:∀ b o,X.base.get? b = some o→b∉X.ex
 exfs:∀ b∈X.ex,b∉X.fs
 funs:X.s₀.heap.FunFrames X.base X.outer
 frf:∀ b∈X.fs,X.H₀ b = none
structure Inv (X:Cx) (pins:List (Addr×Obj)) (σ : List (Option V)) (H:Hp) (s:Shared):Prop where
 ok:X.Ok
 os:s.os = X.s₀.os
 bare:AllBare s.gens
 base:Un X.fs X.ex X.H₀ H X.s₀.heap s.heap
 loc:∃ m,s.heap.Ns X.env.locals m∧∀ (i:Nat) (x:Str) (v:V),X.N[i]? = some x→σ[i]? = some (some v)→Vis X.env.scope x→∃ u,RelV v u∧Look X.env s.heap m x u
 cell:∀ x c,X.env.cells.lookup x = some c→∃ v,s.heap.IsCell c v
 free:H X.env.locals = none
 freeC:∀ x c,X.env.cells.lookup x = some c→H c = none
 pin:∀ p∈X.pn++pins,s.heap.get? p.1 = some p.2∧H p.1 = none∧p.1≠X.env.locals∧p.1∉X.fs∧∀ v,p.2.data≠.cell v
 hok:HOk X.prog X.w H s.heap
 len : σ.length = X.N.length
section
variable {X:Cx} {pins:List (Addr×Obj)} {σ : List (Option V)} {H H':Hp} {s:Shared} {h':Heap}
theorem Cx.Ok.nofr (ok:X.Ok) {b:Addr} {o:Obj} (e:X.base.get? b = some o):b∉X.fs:=fun hb=>by
 have:=(ok.funs.mem hb).1
 rw [e] at this; cases this
theorem Inv.bs (I:Inv X pins σ H s):∀ b o,X.base.get? b = some o→s.heap.get? b = some o∧H b = none:=fun b o e =>
 ⟨I.base.keep b o (I.ok.bs b o e).1 (I.ok.bs b o e).2 (I.ok.nofr e) (I.ok.noex b o e),I.base.free b o (I.ok.bs b o e).1 (I.ok.bs b o e).2 (I.ok.noex b o e)⟩
theorem Inv.bk (I:Inv X pins σ H s):∀ b o,X.base.get? b = some o→s.heap.get? b = some o:=fun b o e=>(I.bs b o e).1
theorem Inv.mod (I:Inv X pins σ H s):Mod X.K X.mg X.base:=I.ok.mod
theorem Inv.kIn (I:Inv X pins σ H s):X.K.In s.heap:=I.ok.mod.kin.keeps I.bk
theorem Inv.lt (I:Inv X pins σ H s):X.env.locals < s.heap.objs.size:=let ⟨_,hn,_⟩:=I.loc; hn.lt
theorem Inv.sz (I:Inv X pins σ H s):X.s₀.heap.objs.size≤s.heap.objs.size:=Nat.le_trans I.ok.above (Nat.le_of_lt I.lt)
theorem Inv.nofs (I:Inv X pins σ H s) {a:Addr} (h:s.heap.objs.size≤a):a∉X.fs:=fun hb=>by
 obtain ⟨_,o,ho,_⟩:=I.ok.funs.mem hb
 exact absurd (Nat.lt_of_lt_of_le (Heap.lt_size ho) (Nat.le_trans I.sz h)) (Nat.lt_irrefl _)
theorem Inv.cne (I:Inv X pins σ H s):∀ x c,X.env.cells.lookup x = some c→c≠X.env.locals:=fun x c e z=>by
 obtain ⟨v,o,ho,hd⟩:=I.cell x c e
 obtain ⟨m,⟨o',es,ep,ho',hd',_⟩,_⟩:=I.loc
 rw [z,ho'] at ho; cases ho; rw [hd'] at hd; cases hd
theorem Inv.funs (I:Inv X pins σ H s):s.heap.FunFrames X.base X.outer:=by
 have all:∀ (l:List Env),(∀ b∈frs l,b∈X.fs)→X.s₀.heap.FunFrames X.base l→s.heap.FunFrames X.base l:=by
  intro l
  induction l with
  | nil=>intro _ _; trivial
  | cons env r ih =>
   intro hs hl
   obtain ⟨hk,⟨L,o,hf,hn,ho,hd⟩,hr⟩:=hl
   have hL:L∈X.fs:=hs L (by unfold frs; rw [List.filterMap_cons,hf]; exact List.mem_cons_self)
   obtain ⟨sl,e⟩:=I.base.slot L o ho (I.ok.frf L hL) hL fun z=>I.ok.exfs L z hL
   exact ⟨hk,⟨L,_,hf,hn,e,hd⟩,ih (fun b hb=>hs b (by unfold frs; rw [List.filterMap_cons,hf]; exact List.mem_cons_of_mem _ hb)) hr⟩
 exact all X.outer (fun _ hb=>hb) I.ok.funs
theorem Inv.stack (I:Inv X pins σ H s):s.heap.FunFrames X.base X.stack:=by
 rcases I.ok.stk with e | ⟨e,hf⟩
 ·rw [e]; exact I.funs
 ·rw [e]
  obtain ⟨m,hn,_⟩:=I.loc
  refine .cons (by rw [I.ok.kind]; decide) hf hn ?_ I.funs
  exact Heap.get?_none_of_le (Nat.le_trans I.ok.bsz I.ok.above)
theorem Inv.stkSub (I:Inv X pins σ H s):∀ b∈frs X.stack,b∈X.env.locals :: X.fs:=fun b hb=>by
 rcases I.ok.stk with e | ⟨e,hf⟩
 ·rw [e] at hb; exact List.mem_cons_of_mem _ hb
 ·rw [e] at hb
  unfold frs at hb
  rw [List.filterMap_cons,hf] at hb
  exact hb
theorem Inv.stkFree (I:Inv X pins σ H s):∀ b∈frs X.stack,H b = none:=fun b hb=>by
 rcases List.mem_cons.mp (I.stkSub b hb) with e | hb
 ·rw [e]; exact I.free
 ·obtain ⟨_,o,ho,_⟩:=I.ok.funs.mem hb
  exact I.base.free b o ho (I.ok.frf b hb) fun z=>I.ok.exfs b z hb
theorem Inv.step {g':Array GenState} {t':Nat} {d':Drawn} {ch:List Addr} (I:Inv X pins σ H s)
  (hch:∀ b∈ch,(b∈X.ex∨X.s₀.heap.objs.size≤b)∧b≠X.env.locals∧(∀ x c,X.env.cells.lookup x = some c→c≠b)∧∀ p∈X.pn++pins,p.1≠b)
  (keep:∀ b o,b≠X.env.locals→b∉X.fs→b∉ch→s.heap.get? b = some o→H b = none→h'.get? b = some o)
  (slot:∀ b o,b≠X.env.locals→b∈X.fs→b∉ch→s.heap.get? b = some o→H b = none→∃ sl,h'.get? b = some { o with slots:=sl }) (free:∀ b o,b∉ch→s.heap.get? b = some o→H b = none→H' b = none)
  (there:∀ b o,b∉ch→s.heap.get? b = some o→∃ o',h'.get? b = some o')
  (tups:∀ b xs,H b = some (.tup xs)→H' b = some (.tup xs)) (frzs:∀ b o u,H b = some (.frz o u)→H' b = some (.frz o u)) (tbls:∀ b ps,H b = some (.tbl ps)→∃ more,H' b = some (.tbl (ps++more)))
  (ns:∀ m,s.heap.Ns X.env.locals m→h'.Ns X.env.locals m) (hok:HOk X.prog X.w H' h') (hg:AllBare g') :
  Inv X pins σ H' { s with heap:=h',gens:=g',drawn:=d',toks:=t' }:=by
 have neL:∀ b o,X.s₀.heap.get? b = some o→b≠X.env.locals:=fun b o e=>Nat.ne_of_lt (Nat.lt_of_lt_of_le (Heap.lt_size e) I.ok.above)
 have neC:∀ b o,X.s₀.heap.get? b = some o→b∉X.ex→b∉ch:=fun b o e hx hb=>by
  rcases (hch b hb).1 with z | z
  ·exact hx z
  ·exact absurd (Nat.lt_of_lt_of_le (Heap.lt_size e) z) (Nat.lt_irrefl _)
 have cellK:∀ x c,X.env.cells.lookup x = some c→∀ v,s.heap.IsCell c v→h'.IsCell c v:=fun x c e v ⟨o,ho,hd⟩=>by
  have nch:c∉ch:=fun z=>(hch c z).2.2.1 x c e rfl
  by_cases hc:c∈X.fs
  ·obtain ⟨sl,q⟩:=slot c o (I.cne x c e) hc nch ho (I.freeC x c e)
   exact ⟨_,q,hd⟩
  ·exact ⟨o,keep c o (I.cne x c e) hc nch ho (I.freeC x c e),hd⟩
 refine ⟨I.ok,I.os,hg,⟨fun b o e n hb hx=>?_,fun b o e n hb hx=>?_,fun b o e n hx=>?_,fun b o e hx=>?_,fun b xs e=>tups b xs (I.base.tups b xs e),fun b o xs e=>frzs b o xs (I.base.frzs b o xs e),fun b ps e=>?_⟩,?_,fun x c e=>?_,?_,fun x c e=>?_,fun p hp=>?_,hok,I.len⟩
 ·exact keep b o (neL b o e) hb (neC b o e hx) (I.base.keep b o e n hb hx) (I.base.free b o e n hx)
 ·obtain ⟨sl,e1⟩:=I.base.slot b o e n hb hx
  obtain ⟨sl',e2⟩:=slot b _ (neL b o e) hb (neC b o e hx) e1 (I.base.free b o e n hx)
  exact ⟨sl',e2⟩
 ·obtain ⟨o',e1⟩:=I.base.there b o e hx
  exact free b o' (neC b o e hx) e1 (I.base.free b o e n hx)
 ·obtain ⟨o',e1⟩:=I.base.there b o e hx
  exact there b o' (neC b o e hx) e1
 ·obtain ⟨m1,e1⟩:=I.base.tbls b ps e
  obtain ⟨m2,e2⟩:=tbls b _ e1
  exact ⟨m1++m2,by rw [e2,Array.append_assoc]⟩
 ·obtain ⟨m,hn,hl⟩:=I.loc
  refine ⟨m,ns m hn,fun i x v e1 e2 e3=>?_⟩
  obtain ⟨u,r,l⟩:=hl i x v e1 e2 e3
  refine ⟨u,r,?_⟩
  rcases l with l | ⟨k,c,e,z⟩
  ·exact .inl l
  ·exact .inr ⟨k,c,e,cellK x c e _ z⟩
 ·obtain ⟨v,z⟩:=I.cell x c e
  exact ⟨v,cellK x c e v z⟩
 ·obtain ⟨m,⟨o,_,_,ho,_⟩,_⟩:=I.loc
  exact free _ o (fun z=>(hch _ z).2.1 rfl) ho I.free
 ·obtain ⟨v,o,ho,hd⟩:=I.cell x c e
  exact free c o (fun z=>(hch c z).2.2.1 x c e rfl) ho (I.freeC x c e)
 ·obtain ⟨e,n,ne,nf,d⟩:=I.pin p hp
  have nch:p.1∉ch:=fun z=>(hch p.1 z).2.2.2 p hp rfl
  exact ⟨keep p.1 p.2 ne nf nch e n,free p.1 p.2 nch e n,ne,nf,d⟩
theorem Inv.un {t':Nat} (I:Inv X pins σ H s) (u:Un X.fs [] H H' s.heap h') (hok:HOk X.prog X.w H' h'):Inv X pins σ H' { s with heap:=h',toks:=t' }:=by
 obtain ⟨m,⟨o,es,ep,ho,r⟩,_⟩:=id I.loc
 obtain ⟨sl,hL⟩:=u.any ho I.free (by simp)
 exact I.step (g':=s.gens) (d':=s.drawn) (ch:=[]) (fun _ z=>nomatch z) (fun b o _ hb _ e n=>u.keep b o e n hb (by simp)) (fun b o _ hb _ e n=>u.slot b o e n hb (by simp)) (fun b o _ e n=>u.free b o e n (by simp)) (fun b o _ e=>u.there b o e (by simp)) u.tups u.frzs u.tbls (fun m' hm=>by
  obtain ⟨o',es',ep',ho',r'⟩:=hm
  rw [ho] at ho'; cases ho'
  exact ⟨_,es',ep',hL,r'⟩) hok I.bare
theorem Inv.call {g':Array GenState} {t':Nat} {d':Drawn} {ch:List Addr} (I:Inv X pins σ H s) (u:Un (frs X.stack) ch H H' s.heap h') (hok:HOk X.prog X.w H' h') (hg:AllBare g')
  (hch:∀ b∈ch,(b∈X.ex∨X.s₀.heap.objs.size≤b)∧b≠X.env.locals∧(∀ x c,X.env.cells.lookup x = some c→c≠b)∧∀ p∈X.pn++pins,p.1≠b) :
  Inv X pins σ H' { s with heap:=h',gens:=g',drawn:=d',toks:=t' }:=by
 obtain ⟨m,⟨o,es,ep,ho,r⟩,_⟩:=id I.loc
 obtain ⟨sl,hL⟩:=u.any ho I.free fun z=>(hch _ z).2.1 rfl
 exact I.step (ch:=ch) hch (fun b o hL hb hc e n=>u.keep b o e n (fun z=>(List.mem_cons.mp (I.stkSub b z)).elim hL hb) hc) (fun b o _ _ hc e n=>u.any e n hc) (fun b o hc e n=>u.free b o e n hc) (fun b o hc e=>u.there b o e hc) u.tups u.frzs u.tbls (fun m' hm=>by
  obtain ⟨o',es',ep',ho',r'⟩:=hm
  rw [ho] at ho'; cases ho'
  exact ⟨_,es',ep',hL,r'⟩) hok hg
theorem Inv.turned {t':Nat} {it:Addr} (I:Inv X pins σ H s) (k:∀ b o,b≠it→s.heap.get? b = some o→h'.get? b = some o) (hn:H it = none) (hL:it≠X.env.locals)
  (h1:it∈X.ex∨X.s₀.heap.objs.size≤it) (h2:∀ x c,X.env.cells.lookup x = some c→c≠it) (h3:∀ p∈X.pn++pins,p.1≠it):Inv X pins σ H { s with heap:=h',toks:=t' }:=by
 have nit:∀ b u,H b = some u→b≠it:=fun b u e z=>by rw [z,hn] at e; cases e
 refine I.step (g':=s.gens) (d':=s.drawn) (ch:=[it]) (fun b hb=>?_) (fun b o _ _ hc e _=>k b o (fun z=>hc (by simp [z])) e) (fun b o _ _ hc e _=>⟨o.slots,k b o (fun z=>hc (by simp [z])) e⟩) (fun _ _ _ _ n=>n)
  (fun b o hc e=>⟨o,k b o (fun z=>hc (by simp [z])) e⟩) (fun _ _ e=>e) (fun _ _ _ e=>e) (fun b ps e=>⟨#[],by rw [e]; simp⟩) (fun m hm=>?_) (fun b u e=>?_) I.bare
 ·have e:b = it:=by simpa using hb
  subst e
  exact ⟨h1,hL,h2,h3⟩
 ·obtain ⟨o,es,ep,ho,r⟩:=hm
  exact ⟨o,es,ep,k _ o (Ne.symm hL) ho,r⟩
 ·refine (I.hok b u e).stay (fun c v hc q=>k c v ?_ q) (fun _ q=>q) fun _ _ q=>q
  rcases hc with z | z
  ·rw [z]; exact nit b u e
  ·exact nit c _ z
theorem Inv.tok (I:Inv X pins σ H s) (t:Nat):Inv X pins σ H { s with toks:=t }:=I.un (h':=s.heap) (t':=t) Un.refl I.hok
theorem Inv.kept {t':Nat} (I:Inv X pins σ H s) (k:∀ b u,s.heap.get? b = some u→h'.get? b = some u):Inv X pins σ H { s with heap:=h',toks:=t' }:=I.un (Un.kept k) (I.hok.kept k)
theorem Inv.laid {a:Addr} {o:HO} {t':Nat} (I:Inv X pins σ H s) (k:∀ b u,s.heap.get? b = some u→h'.get? b = some u) (hp:s.heap.objs.size≤a) (new:ObjOk X.prog X.w (upd H a o) h' a o) :
  Inv X pins σ (upd H a o) { s with heap:=h',toks:=t' }:=I.un (Un.laid k hp (I.hok.fresh hp)) (I.hok.laid k hp new)
theorem Inv.write {x e:Addr} {o:HO} {t':Nat} (I:Inv X pins σ H s) (mu:Mut (H x)) (he:e = x∨H e = some (.own x)) (k:∀ b u,b≠e→s.heap.get? b = some u→h'.get? b = some u) (heo:∃ u,h'.get? e = some u)
  (new:ObjOk X.prog X.w (upd H x o) h' x o):Inv X pins σ (upd H x o) { s with heap:=h',toks:=t' }:=I.un (Un.write mu he k heo) (I.hok.write mu he k heo new)
theorem Inv.pins_of {pins':List (Addr×Obj)} (I:Inv X pins σ H s) (h:∀ p∈pins',s.heap.get? p.1 = some p.2∧H p.1 = none∧p.1≠X.env.locals∧p.1∉X.fs∧∀ v,p.2.data≠.cell v):Inv X pins' σ H s :=
 ⟨I.ok,I.os,I.bare,I.base,I.loc,I.cell,I.free,I.freeC,fun p hp=>(List.mem_append.mp hp).elim (fun z=>I.pin p (List.mem_append_left _ z)) (h p),I.hok,I.len⟩
theorem oW {N:List Str} (hN:N.Nodup) {i j:Nat} {x:Str} (a:N[i]? = some x) (b:N[j]? = some x):i = j:=by
 obtain ⟨h1,e1⟩:=List.getElem?_eq_some_iff.mp a
 obtain ⟨h2,e2⟩:=List.getElem?_eq_some_iff.mp b
 exact (List.getElem_inj hN).mp (e1.trans e2.symm)
theorem lH {M:Model} {A:Around} {E:Value→Shared→Prop} {i:Nat} {x:Str} {v:V} {u:Value} {Q:Unit→Shared→Prop} (I:Inv X pins σ H s) (hN:X.N.Nodup) (hi:X.N[i]? = some x) (hx:Loc X.env.scope x) (r:RelV v u)
  (h:∀ s',Inv X pins (σ.set i (some v)) H s'→(∃ a,Heap.SameBut a s.heap s'.heap∧(a = X.env.locals∨X.env.cells.lookup x = some a))→Q () s') (hf:X.fn x = true∨X.env.scope.names.lookup x = some .local:=by first | exact .inl rfl | exact .inr rfl | assumption):wpAny M A (storeName X.env x u) Q E s:=by
 obtain ⟨m,hn,hl⟩:=id I.loc
 have hcls:(X.env.scope.kind == .class || (X.env.scope.kind == .module && X.env.locals != X.env.globals)) = false:=by rw [I.ok.kind]; rfl
 have hiσ : i < σ.length:=by rw [I.len]; exact (List.getElem?_eq_some_iff.mp hi).1
 have cne:=I.cne
 have tracked:∀ {a:Addr} {h':Heap},(∃ o,s.heap.get? a = some o∧H a = none)→Heap.SameBut a s.heap h'→HOk X.prog X.w H h':=fun {a h'} ha hs b ob e=>by
  obtain ⟨_,_,hfree⟩:=ha
  refine (I.hok b ob e).stay (fun c w' hc q=>(hs.2 c ?_).trans q) (fun _ q=>q) fun _ _ q=>q
  rintro rfl
  rcases hc with rfl | hc
  ·rw [hfree] at e; cases e
  ·rw [hfree] at hc; cases hc
 rcases hx with hk | hk
 ·refine wpAny_storeName_local hk hn (fun h' hn' hs=>?_) hcls
  obtain ⟨oL,_,_,hoL,_⟩:=id hn
  refine h _ ⟨I.ok,I.os,I.bare,⟨fun b o e n hb hx=>?_,fun b o e n hb hx=>?_,I.base.free,fun b o e hx=>?_,I.base.tups,I.base.frzs,I.base.tbls⟩,⟨_,hn',fun j y v' e1 e2 e3=>?_⟩,fun y c e=>?_,I.free,I.freeC,fun p hp=>?_,tracked ⟨oL,hoL,I.free⟩ hs,by simpa using I.len⟩ ⟨_,hs,.inl rfl⟩
  ·exact (hs.2 b (Nat.ne_of_lt (Nat.lt_of_lt_of_le (Heap.lt_size e) I.ok.above))).trans (I.base.keep b o e n hb hx)
  ·obtain ⟨sl,e1⟩:=I.base.slot b o e n hb hx
   exact ⟨sl,(hs.2 b (Nat.ne_of_lt (Nat.lt_of_lt_of_le (Heap.lt_size e) I.ok.above))).trans e1⟩
  ·obtain ⟨o',e1⟩:=I.base.there b o e hx
   exact ⟨o',(hs.2 b (Nat.ne_of_lt (Nat.lt_of_lt_of_le (Heap.lt_size e) I.ok.above))).trans e1⟩
  ·by_cases hj:j = i
   ·subst hj
    rw [hi] at e1; cases e1
    rw [List.getElem?_set_self hiσ] at e2
    cases e2
    exact ⟨u,r,.inl ⟨hk,by simp⟩⟩
   ·rw [List.getElem?_set_ne (Ne.symm hj)] at e2
    obtain ⟨u',r',q⟩:=hl j y v' e1 e2 e3
    refine ⟨u',r',?_⟩
    rcases q with ⟨k,e⟩ | ⟨k,c,e,z⟩
    ·refine .inl ⟨k,?_⟩
     have:y≠x:=fun e=>hj (oW hN e1 (e▸hi))
     simp [this,e]
    ·exact .inr ⟨k,c,e,z.sameBut hs (cne y c e)⟩
  ·obtain ⟨w',z⟩:=I.cell y c e
   exact ⟨w',z.sameBut hs (cne y c e)⟩
  ·obtain ⟨e,n,ne,nf,d⟩:=I.pin p hp
   exact ⟨(hs.2 p.1 ne).trans e,n,ne,nf,d⟩
 ·have hfn:X.fn x = true:=by
   rcases hf with z | z
   ·exact z
   ·rw [z] at hk; cases hk
  obtain ⟨c,hc⟩:=I.ok.has x (.inl hk)
  obtain ⟨w',z⟩:=I.cell x c hc
  refine wpAny_storeName_cell I.ok.kind hk hc z (fun h' hc' hs=>?_)
  obtain ⟨oc,hoc,hocd⟩:=id z
  refine h { s with heap:=h' } ⟨I.ok,I.os,I.bare,⟨fun b o e n hb hx=>?_,fun b o e n hb hx=>?_,I.base.free,fun b o e hx=>?_,I.base.tups,I.base.frzs,I.base.tbls⟩,⟨m,hn.sameBut hs (Ne.symm (cne x c hc)),fun j y v' e1 e2 e3=>?_⟩,fun y c' e=>?_,I.free,I.freeC,fun p hp=>?_,tracked ⟨oc,hoc,I.freeC x c hc⟩ hs,by simpa using I.len⟩ ⟨c,hs,.inr hc⟩
  ·exact (hs.2 b (Nat.ne_of_lt (Nat.lt_of_lt_of_le (Heap.lt_size e) (I.ok.cab x c hfn hc)))).trans (I.base.keep b o e n hb hx)
  ·obtain ⟨sl,e1⟩:=I.base.slot b o e n hb hx
   exact ⟨sl,(hs.2 b (Nat.ne_of_lt (Nat.lt_of_lt_of_le (Heap.lt_size e) (I.ok.cab x c hfn hc)))).trans e1⟩
  ·obtain ⟨o',e1⟩:=I.base.there b o e hx
   exact ⟨o',(hs.2 b (Nat.ne_of_lt (Nat.lt_of_lt_of_le (Heap.lt_size e) (I.ok.cab x c hfn hc)))).trans e1⟩
  ·by_cases hj:j = i
   ·subst hj
    rw [hi] at e1; cases e1
    rw [List.getElem?_set_self hiσ] at e2
    cases e2
    exact ⟨u,r,.inr ⟨.inl hk,c,hc,hc'⟩⟩
   ·rw [List.getElem?_set_ne (Ne.symm hj)] at e2
    obtain ⟨u',r',q⟩:=hl j y v' e1 e2 e3
    refine ⟨u',r',?_⟩
    rcases q with q | ⟨k,c',e,z'⟩
    ·exact .inl q
    ·refine .inr ⟨k,c',e,z'.sameBut hs ?_⟩
     rintro rfl
     exact hj (oW hN e1 (I.ok.inj _ _ _ e hc▸hi))
  ·by_cases hcc:c' = c
   ·subst hcc; exact ⟨_,hc'⟩
   ·obtain ⟨w2,z2⟩:=I.cell y c' e
    exact ⟨w2,z2.sameBut hs hcc⟩
  ·obtain ⟨e,n,ne,nf,d⟩:=I.pin p hp
   refine ⟨(hs.2 p.1 ?_).trans e,n,ne,nf,d⟩
   intro q
   rw [q,hoc] at e
   have q':oc = p.2:=Option.some.inj e
   exact d w' (by rw [←q']; exact hocd)
theorem iK {M:Model} {A:Around} {E:Value→Shared→Prop} {i:Nat} {x:Str} {v:V} {u:Value} {Q:Unit→Shared→Prop} (I:Inv X pins σ H s) (hN:X.N.Nodup) (hi:X.N[i]? = some x) (hx:Loc X.env.scope x) (r:RelV v u)
  (h:∀ s',Inv X pins (σ.set i (some v)) H s'→Q () s') (hf:X.fn x = true∨X.env.scope.names.lookup x = some .local:=by first | exact .inl rfl | exact .inr rfl | assumption):wpAny M A (storeName X.env x u) Q E s :=
 lH I hN hi hx r (fun s' I' _=>h s' I') hf
theorem Inv.call' {s':Shared} {ch:List Addr} (I:Inv X pins σ H s) (ho:s'.os = s.os) (u:Un (frs X.stack) ch H H' s.heap s'.heap) (hok:HOk X.prog X.w H' s'.heap) (hg:AllBare s'.gens)
  (hch:∀ b∈ch,(b∈X.ex∨X.s₀.heap.objs.size≤b)∧b≠X.env.locals∧(∀ x c,X.env.cells.lookup x = some c→c≠b)∧∀ p∈X.pn++pins,p.1≠b):Inv X pins σ H' s':=by
 obtain ⟨h',g',d',t',o'⟩:=s'
 have e:o' = s.os:=ho
 subst e
 exact I.call (g':=g') (t':=t') (d':=d') u hok hg hch
end
abbrev XK:=Value→Option Addr→Hp→Prop
abbrev St:=List (Option V)
abbrev VK:=V→Hp→Prop
abbrev TE:=St→Hp→VK→Prop
abbrev TT:=St→Hp→(Bool→Hp→Prop)→Prop
abbrev TA:=St→Hp→(List V→Hp→Prop)→Prop
structure Ends where
 nx:St→Hp→Prop
 rt:VK
 bk:St→Hp→Prop:=fun _ _=>False
 ct:St→Hp→Prop:=fun _ _=>False
abbrev TS:=Ends→St→Hp→Prop
def EP (X:Cx) (pins:List (Addr×Obj)) (σ : St) (Q:VK) (u:Value) (s':Shared):Prop:=∃ v H',Inv X pins σ H' s'∧RelV v u∧Q v H'
def TP (X:Cx) (pins:List (Addr×Obj)) (σ : St) (Q:Bool→Hp→Prop) (b:Bool) (s':Shared):Prop:=∃ H',Inv X pins σ H' s'∧Q b H'
def AP (X:Cx) (pins:List (Addr×Obj)) (σ : St) (Q:List V→Hp→Prop) (us:List Value) (s':Shared):Prop:=∃ vs H',Inv X pins σ H' s'∧Vals vs us∧Q vs H'
def SP (X:Cx) (pins:List (Addr×Obj)) (D:Ends) (f:Flow) (s':Shared):Prop :=
 match f with
 | .next=>∃ σ' H',Inv X pins σ' H' s'∧D.nx σ' H'
 | .brk=>∃ σ' H',Inv X pins σ' H' s'∧D.bk σ' H'
 | .cont=>∃ σ' H',Inv X pins σ' H' s'∧D.ct σ' H'
 | .ret u=>∃ v σ' H',Inv X pins σ' H' s'∧RelV v u∧D.rt v H'
def PE (X:Cx) (e:Expr) (t:TE):Prop :=
 ∀ (pins:List (Addr×Obj)) (s:Shared) (σ : St) (H:Hp) (Q:VK),Inv X pins σ H s→t σ H Q→wpAny (model X.prog X.w) X.A (eval e X.env) (EP X pins σ Q) X.xe s
def PT (X:Cx) (e:Expr) (t:TT):Prop :=
 ∀ (pins:List (Addr×Obj)) (s:Shared) (σ : St) (H:Hp) (Q:Bool→Hp→Prop),Inv X pins σ H s→t σ H Q→wpAny (model X.prog X.w) X.A (isTrue e X.env (eval e X.env)) (TP X pins σ Q) X.xe s
def PW (X:Cx) (e:Expr) (t:TT):Prop :=
 ∀ (whole:Sem Value) (pins:List (Addr×Obj)) (s:Shared) (σ : St) (H:Hp) (Q:Bool→Hp→Prop),Inv X pins σ H s→t σ H Q→wpAny (model X.prog X.w) X.A (isTrue e X.env whole) (TP X pins σ Q) X.xe s
theorem PW.pt {X:Cx} {e:Expr} {t:TT} (h:PW X e t):PT X e t:=h _
def PA (X:Cx) (es:List Expr) (t:TA):Prop :=
 ∀ (pos:Pos) (pins:List (Addr×Obj)) (s:Shared) (σ : St) (H:Hp) (Q:List V→Hp→Prop),Inv X pins σ H s→t σ H Q→wpAny (model X.prog X.w) X.A (spliced (backTo pos (starEach es X.env))) (AP X pins σ Q) X.xe s
def PS (X:Cx) (st:Stmt) (t:TS):Prop :=
 ∀ (pins:List (Addr×Obj)) (s:Shared) (σ : St) (H:Hp) (D:Ends),Inv X pins σ H s→t D σ H→wpAny (model X.prog X.w) X.A (exec st X.env) (SP X pins D) X.xe s
def PSs (X:Cx) (st:List Stmt) (t:TS):Prop :=
 ∀ (pins:List (Addr×Obj)) (s:Shared) (σ : St) (H:Hp) (D:Ends),Inv X pins σ H s→t D σ H→wpAny (model X.prog X.w) X.A (execs st X.env) (SP X pins D) X.xe s
theorem thn {α : Type} {t:Sem α} {Q Q' : α→Shared→Prop} {M:Model} {A:Around} {E:Value→Shared→Prop} {s:Shared} (h:wpAny M A t Q E s) (hQ:∀ a s,Q a s→Q' a s):wpAny M A t Q' E s:=wpAny_mono h hQ fun _ _ x=>x
section
variable {X:Cx}
def tVar (i:Nat):TE:=fun σ H Q=>∃ v,σ[i]? = some (some v)∧Q v H
def tC (v:V):TE:=fun _ H Q=>Q v H
theorem BH {i:Nat} {x:Str} {pos:Pos} (hN:X.N[i]? = some x) (hv:Vis X.env.scope x) (hd:(x == ("__debug__" : Str)) = false:=by decide) (hcd:(x == ("__classdict__" : Str)) = false:=by decide):PE X (.Name x pos) (tVar i):=by
 intro pins s σ H Q I h
 obtain ⟨v,e,h⟩:=h
 obtain ⟨m,hn,hl⟩:=I.loc
 obtain ⟨u,r,l⟩:=hl i x v hN e hv
 have fin:EP X pins σ Q u s:=⟨v,H,I,r,h⟩
 rcases l with ⟨hk,hm⟩ | ⟨hk,c,hc,hcell⟩
 ·exact wpAny_Name (wpAny_loadName_local I.ok.kind hk hn hm fin) hd
 ·rcases hk with hk | hk
  ·exact wpAny_Name (wpAny_loadName_cell I.ok.kind hk hc hcell fin) hd
  ·exact wpAny_Name (wpAny_loadName_free I.ok.kind hk hc hcell fin hcd) hd
theorem DY {i j pos}:PE X (.Constant (.int i) j pos) (tC (.int i)):=fun _ _ _ H _ I h=>wpAny_Constant_int ⟨.int i,H,I.tok _,⟨_,rfl⟩,h⟩
theorem Ga {b j pos}:PE X (.Constant (.bool b) j pos) (tC (.bl b)):=fun _ _ _ H _ I h=>Constant_bool ⟨.bl b,H,I,rfl,h⟩
theorem BJ {j pos}:PE X (.Constant .none j pos) (tC .non):=fun _ _ _ H _ I h=>Constant_none ⟨.non,H,I,rfl,h⟩
theorem DV {x j pos}:PE X (.Constant (.str x) j pos) (tC (.str x)):=fun _ _ _ H _ I h=>Calls.Constant_str ⟨.str x,H,I.tok _,⟨_,rfl⟩,h⟩
def Gl (X:Cx) (x:Str):Prop:=X.env.kindOf x = some .globalImplicit
theorem yc {E:Value→Shared→Prop} {pins:List (Addr×Obj)} {s:Shared} {σ : St} {H:Hp} {x:Str} {u:Value} {pos:Pos} {Q:Value→Shared→Prop} (I:Inv X pins σ H s) (hg:Gl X x) (hm:X.mg x = some u) (h:Q u s)
  (hd:(x == ("__debug__" : Str)) = false:=by decide):wpAny (model X.prog X.w) X.A (eval (.Name x pos) X.env) Q E s :=
 Calls.Name_function_global I.ok.kind hg (Calls.loadGlobal_global (by rw [I.ok.glob]; exact I.mod.glob.keeps I.bk) hm h) hd
theorem iY {E:Value→Shared→Prop} {pins:List (Addr×Obj)} {s:Shared} {σ : St} {H:Hp} {x:Str} {u:Value} {pos:Pos} {Q:Value→Shared→Prop} (I:Inv X pins σ H s) (hg:Gl X x) (hm:X.mg x = none) (hv:bootBuiltins x = some u) (h:Q u s)
  (hn:x ≠ "__name__" := by decide) (hd:(x == ("__debug__" : Str)) = false:=by decide):wpAny (model X.prog X.w) X.A (eval (.Name x pos) X.env) Q E s:=by
 obtain ⟨mb,h1,h2⟩:=I.mod.blt
 exact Calls.Name_function_global I.ok.kind hg (Calls.loadGlobal_builtin (by rw [I.ok.glob]; exact I.mod.glob.keeps I.bk) hm (by rw [I.ok.blt]; exact h1.keeps I.bk) ((h2 x hn).trans hv) h) hd
variable {a b:Expr} {ta tb:TE} {pos:Pos}
def tB (t:TE):TT:=fun σ H Q=>t σ H fun x H1=>∃ c,x = .bl c∧Q c H1
theorem Dj {e:Expr} {t:TE} (h:PE X e t) (he:∀ whole,isTrue e X.env whole = (do let v ← whole; standAt e.pos; holding [v] (truthy v)):=by intro _; rfl):PT X e (tB t):=by
 intro pins s σ H Q I hw
 refine isTrue_plain (thn (h pins s σ H _ I hw) fun v s1 ⟨x,H1,I1,r1,q1⟩=>?_) (he _)
 obtain ⟨d,rfl,q⟩:=q1
 cases r1
 exact wpAny_truthy_bool ⟨H1,I1,q⟩
variable {tA tB':TT} {rest:List Expr}
def tAnd (t u:TT):TT:=fun σ H Q=>t σ H fun c H1=>if c = true then u σ H1 Q else Q false H1
def tOr (t u:TT):TT:=fun σ H Q=>t σ H fun c H1=>if c = true then Q true H1 else u σ H1 Q
def tNot (t:TT):TT:=fun σ H Q=>t σ H fun c H1=>Q (!c) H1
theorem yQ (ha:PT X a tA):PW X (.BoolOp .And [a] pos) tA:=by
 intro wh pins s σ H Q I h
 refine isTrue_and (thn (ha pins s σ H Q I h) fun c s1 e=>?_)
 cases c with
 | true=>exact isTrue_and_nil e
 | false=>exact e
theorem CP (ha:PT X a tA):PW X (.BoolOp .Or [a] pos) tA:=by
 intro wh pins s σ H Q I h
 refine isTrue_or (thn (ha pins s σ H Q I h) fun c s1 e=>?_)
 cases c with
 | false=>exact isTrue_or_nil e
 | true=>exact e
theorem DU (ha:PT X a tA) (hb:PW X (.BoolOp .And (b :: rest) pos) tB'):PW X (.BoolOp .And (a :: b :: rest) pos) (tAnd tA tB'):=by
 intro wh pins s σ H Q I h
 refine isTrue_and (thn (ha pins s σ H _ I h) fun c s1 ⟨H1,I1,q1⟩=>?_)
 cases c with
 | true=>exact hb wh pins s1 σ H1 Q I1 q1
 | false=>exact ⟨H1,I1,q1⟩
theorem Fm (ha:PT X a tA) (hb:PW X (.BoolOp .Or (b :: rest) pos) tB'):PW X (.BoolOp .Or (a :: b :: rest) pos) (tOr tA tB'):=by
 intro wh pins s σ H Q I h
 refine isTrue_or (thn (ha pins s σ H _ I h) fun c s1 ⟨H1,I1,q1⟩=>?_)
 cases c with
 | true=>exact ⟨H1,I1,q1⟩
 | false=>exact hb wh pins s1 σ H1 Q I1 q1
theorem Bt (ha:PT X a tA):PT X (.UnaryOp .Not a pos) (tNot tA):=by
 intro pins s σ H Q I h
 exact isTrue_not (ha pins s σ H (fun c H1=>Q (!c) H1) I h)
def Gu (ta tb:TE):TE:=fun σ H Q=>ta σ H fun x H1=>∃ c,x = .bl c∧if c = true then tb σ H1 Q else Q (.bl false) H1
theorem A9 {op} {t:TE} (h:PE X a t):PE X (.BoolOp op [a] pos) t:=fun pins s σ H Q I hw=>BoolOp_one (h pins s σ H Q I hw)
theorem Dy (ha:PE X a ta) (hb:PE X (.BoolOp .And (b :: rest) pos) tb):PE X (.BoolOp .And (a :: b :: rest) pos) (Gu ta tb):=by
 intro pins s σ H Q I h
 refine BoolOp_and (thn (ha pins s σ H _ I h) fun v s1 ⟨x,H1,I1,r1,q1⟩=>?_)
 obtain ⟨c,rfl,q1⟩:=q1
 cases r1
 refine wpAny_truthy_bool ?_
 cases c with
 | true=>exact hb pins s1 σ H1 Q I1 q1
 | false=>exact ⟨.bl false,H1,I1,rfl,q1⟩
def tIf (t:TT) (ta tb:TE):TE:=fun σ H Q=>t σ H fun c H1=>if c = true then ta σ H1 Q else tb σ H1 Q
theorem u6 {c:Expr} (hc:PT X c tA) (ha:PE X a ta) (hb:PE X b tb):PE X (.IfExp c a b pos) (tIf tA ta tb):=by
 intro pins s σ H Q I h
 refine wpAny_IfExp (thn (hc pins s σ H _ I h) fun d s1 ⟨H1,I1,q1⟩=>?_)
 cases d with
 | true=>exact ha pins s1 σ H1 Q I1 q1
 | false=>exact hb pins s1 σ H1 Q I1 q1
end
def SqL (K:PySem.W.Frag) (H:Hp) (a:Addr) (xs:List V):Prop :=
 Rd H a (.lst xs) ∨
  ∃ (o:Obj) (its:Array Value) (n:Nat),K.lookup a = some o∧o.cls = .type "list" ∧ o.dict = none∧o.data = .seq its n∧its.size≤sizeLine∧Vals xs its.toList
def SqT (K:PySem.W.Frag) (H:Hp) (a:Addr) (xs:List V):Prop :=
 Rd H a (.tup xs) ∨
  ∃ (o:Obj) (its:Array Value) (n:Nat),K.lookup a = some o∧o.cls = .type "tuple" ∧ o.dict = none∧o.data = .seq its n∧its.size≤sizeLine∧Vals xs its.toList
def absV:Value→Option V
 | .none=>some .non
 | .bool b=>some (.bl b)
 | .int i _=>some (.int i)
 | .str x _=>some (.str x)
 | .bytes b _=>some (.byt b)
 | .float b _=>some (.flt b)
 | .ref a=>some (.ref a)
 | .type n=>some (.ty n)
 | _=>none
theorem RelV.abs {x:V} {u:Value} (r:RelV x u):absV u = some x:=by
 cases x with
 | non=>cases r; rfl
 | bl _=>cases r; rfl
 | int _=>obtain ⟨t,rfl⟩:=r; rfl
 | str _=>obtain ⟨t,rfl⟩:=r; rfl
 | byt _=>obtain ⟨t,rfl⟩:=r; rfl
 | flt _=>obtain ⟨t,rfl⟩:=r; rfl
 | ref _=>cases r; rfl
 | ty _=>cases r; rfl
theorem RelV.inj {x y:V} {u:Value} (r:RelV x u) (q:RelV y u):x = y:=Option.some.inj (r.abs.symm.trans q.abs)
theorem Vals.inj:∀ {xs ys:List V} {us:List Value},Vals xs us→Vals ys us→xs = ys
 | _,_,_,.nil,.nil=>rfl
 | _,_,_,.cons r t,.cons r' t'=>by rw [r.inj r',Vals.inj t t']
section
variable {X:Cx} {pins:List (Addr×Obj)} {σ : St} {H:Hp} {s:Shared} {a:Addr} {xs ys:List V}
theorem SqL.of {K:PySem.W.Frag} (h:H a = some (.lst xs)):SqL K H a xs:=.inl (.inl h)
theorem SqT.of {K:PySem.W.Frag} (h:H a = some (.tup xs)):SqT K H a xs:=.inl (.inl h)
theorem Inv.list (I:Inv X pins σ H s) (h:SqL X.K H a xs):∃ its:List Value,Vals xs its∧PlainL s.heap a its.toArray∧xs.length≤sizeLine:=by
 rcases h with h | ⟨o,its,n,hk,hc,hd,hs,hz,r⟩
 ·obtain ⟨z,its,n,r,e⟩:=h.ok I.hok
  exact ⟨its,r,⟨_,n,e,rfl,rfl,rfl⟩,z⟩
 ·refine ⟨its.toList,r,⟨o,n,I.kIn a o hk,hc,hd,by simpa using hs⟩,?_⟩
  have e:=r.length
  simp only [Array.length_toList] at e
  omega
theorem Inv.tuple (I:Inv X pins σ H s) (h:SqT X.K H a xs):∃ its:List Value,Vals xs its∧IsTup s.heap a its.toArray∧xs.length≤sizeLine:=by
 rcases h with h | ⟨o,its,n,hk,hc,hd,hs,hz,r⟩
 ·obtain ⟨z,its,r,p⟩:=h.ok I.hok
  exact ⟨its,r,p.tup,z⟩
 ·refine ⟨its.toList,r,⟨o,I.kIn a o hk,hc,n,by simpa using hs⟩,?_⟩
  have e:=r.length
  simp only [Array.length_toList] at e
  omega
theorem Inv.tupleP (I:Inv X pins σ H s) (h:SqT X.K H a xs):∃ its:List Value,Vals xs its∧PlainT s.heap a its.toArray∧xs.length≤sizeLine:=by
 rcases h with h | ⟨o,its,n,hk,hc,hd,hs,hz,r⟩
 ·obtain ⟨z,its,r,p⟩:=h.ok I.hok
  exact ⟨its,r,p,z⟩
 ·refine ⟨its.toList,r,⟨o,I.kIn a o hk,hc,hd,n,by simpa using hs⟩,?_⟩
  have e:=r.length
  simp only [Array.length_toList] at e
  omega
theorem Inv.list_inj (I:Inv X pins σ H s) (h:SqL X.K H a xs) (h':SqL X.K H a ys):xs = ys:=by
 obtain ⟨its,r,⟨o,n,e,_,_,d⟩,_⟩:=I.list h
 obtain ⟨its',r',⟨o',n',e',_,_,d'⟩,_⟩:=I.list h'
 rw [e] at e'; cases e'
 rw [d] at d'
 injection d' with d1 _
 have:its = its':=by simpa using congrArg Array.toList d1
 subst this
 exact r.inj r'
theorem Inv.tuple_inj (I:Inv X pins σ H s) (h:SqT X.K H a xs) (h':SqT X.K H a ys):xs = ys:=by
 obtain ⟨its,r,⟨o,e,_,n,d⟩,_⟩:=I.tuple h
 obtain ⟨its',r',⟨o',e',_,n',d'⟩,_⟩:=I.tuple h'
 rw [e] at e'; cases e'
 rw [d] at d'
 injection d' with d1 _
 have:its = its':=by simpa using congrArg Array.toList d1
 subst this
 exact r.inj r'
end
abbrev Cx.wish (X:Cx) (E:Value→Shared→Prop):Cx:={ X with xe:=E }
abbrev Cx.nox (X:Cx):Cx:=X.wish fun _ _=>False
theorem Cx.Ok.wish {X:Cx} (ok:X.Ok) (E:Value→Shared→Prop):(X.wish E).Ok :=
 ⟨ok.mod,ok.kind,ok.glob,ok.blt,ok.above,ok.inj,ok.has,ok.cab,ok.hd,ok.frames,ok.stk,ok.exf,ok.bs,ok.bsz,ok.noex,ok.exfs,ok.funs,ok.frf⟩
theorem Cx.Ok.unwish {X:Cx} {E:Value→Shared→Prop} (ok:(X.wish E).Ok):X.Ok :=
 ⟨ok.mod,ok.kind,ok.glob,ok.blt,ok.above,ok.inj,ok.has,ok.cab,ok.hd,ok.frames,ok.stk,ok.exf,ok.bs,ok.bsz,ok.noex,ok.exfs,ok.funs,ok.frf⟩
section
variable {X:Cx} {pins:List (Addr×Obj)} {σ : St} {H:Hp} {s:Shared} {E:Value→Shared→Prop}
theorem Inv.wish (I:Inv X pins σ H s) (E:Value→Shared→Prop):Inv (X.wish E) pins σ H s:=⟨I.ok.wish E,I.os,I.bare,I.base,I.loc,I.cell,I.free,I.freeC,I.pin,I.hok,I.len⟩
theorem Inv.unwish (I:Inv (X.wish E) pins σ H s):Inv X pins σ H s:=⟨I.ok.unwish,I.os,I.bare,I.base,I.loc,I.cell,I.free,I.freeC,I.pin,I.hok,I.len⟩
theorem SP.unwish {D:Ends} {f:Flow} {s':Shared} (h:SP (X.wish E) pins D f s'):SP X pins D f s':=by
 cases f with
 | next=>obtain ⟨σ',H',I,q⟩:=h; exact ⟨σ',H',I.unwish,q⟩
 | brk=>obtain ⟨σ',H',I,q⟩:=h; exact ⟨σ',H',I.unwish,q⟩
 | cont=>obtain ⟨σ',H',I,q⟩:=h; exact ⟨σ',H',I.unwish,q⟩
 | ret u=>obtain ⟨v,σ',H',I,r,q⟩:=h; exact ⟨v,σ',H',I.unwish,r,q⟩
theorem PSs.nox {st:List Stmt} {t:TS} (h:PSs X.nox st t):PSs X st t:=fun pins s σ H D I hw =>
 wpAny_mono (h pins s σ H D (I.wish _) hw) (fun _ _ q=>q.unwish) fun _ _ z=>False.elim z
end
section
variable {X:Cx} {st:Stmt} {rest:List Stmt} {t u:TS} {e:Expr} {te:TE} {pos:Pos}
def Fi:TS:=fun D σ H=>D.nx σ H
def tSeq (t u:TS):TS:=fun D σ H=>t { D with nx:=u D } σ H
theorem yf:PSs X [] Fi:=fun _ _ σ H _ I h=>wpAny_execs_nil ⟨σ,H,I,h⟩
theorem va (h1:PS X st t) (h2:PSs X rest u):PSs X (st :: rest) (tSeq t u):=by
 intro pins s σ H D I h
 refine wpAny_execs_cons (thn (h1 pins s σ H { D with nx:=u D } I h) fun f s1 q=>?_)
 cases f with
 | next =>
  obtain ⟨σ',H',I',q⟩:=q
  exact h2 pins s1 σ' H' D I' q
 | ret v=>exact q
 | brk=>exact q
 | cont=>exact q
theorem yJ (h1:PS X st t):PSs X [st] t:=by
 intro pins s σ H D I h
 refine wpAny_execs_cons (thn (h1 pins s σ H D I h) fun f s1 q=>?_)
 cases f with
 | next=>exact wpAny_execs_nil q
 | ret v=>exact q
 | brk=>exact q
 | cont=>exact q
theorem Inv.quiet {pins:List (Addr×Obj)} {σ : St} {H:Hp} {s:Shared} (I:Inv X pins σ H s):interactive X.env = false:=by simp [interactive,I.ok.kind]
def GQ (te:TE):TS:=fun D σ H=>te σ H fun _ H1=>D.nx σ H1
theorem xQ (he:PE X e te) (hs:swapsWith e none pos.line X.env = pure false:=by rfl):PS X (.Expr e pos) (GQ te):=by
 intro pins s σ H D I h
 exact wpAny_Expr_any (thn (he pins s σ H _ I h) fun v s1 ⟨x,H1,I1,r1,q1⟩=>⟨σ,H1,I1,q1⟩) I.quiet hs
def tRet (te:TE):TS:=fun D σ H=>te σ H D.rt
theorem Ce (he:PE X e te):PS X (.Return (some e) pos) (tRet te):=by
 intro pins s σ H D I h
 exact wpAny_Return_some (thn (he pins s σ H _ I h) fun v s1 ⟨x,H1,I1,r1,q1⟩=>⟨x,σ,H1,I1,r1,q1⟩)
def tIfS (c:TT) (t u:TS):TS:=fun D σ H=>c σ H fun b H1=>if b = true then t D σ H1 else u D σ H1
theorem GZ {c:Expr} {a b:List Stmt} {tc:TT} (hc:PT X c tc) (ha:PSs X a t) (hb:PSs X b u):PS X (.If c a b pos) (tIfS tc t u):=by
 intro pins s σ H D I h
 refine wpAny_If (thn (hc pins s σ H _ I h) fun d s1 ⟨H1,I1,q1⟩=>?_)
 cases d with
 | true=>exact ha pins s1 σ H1 D I1 q1
 | false=>exact hb pins s1 σ H1 D I1 q1
end
abbrev TG:=V→St→Hp→(St→Hp→Prop)→Prop
abbrev TGs:=List V→St→Hp→(St→Hp→Prop)→Prop
def PG (X:Cx) (target:Expr) (t:TG):Prop :=
 ∀ (pins:List (Addr×Obj)) (s:Shared) (σ : St) (H:Hp) (v:V) (u:Value) (Q:St→Hp→Prop),Inv X pins σ H s→RelV v u→t v σ H Q →
  wpAny (model X.prog X.w) X.A (assign target X.env u) (fun _ s'=>∃ σ' H',Inv X pins σ' H' s'∧Q σ' H') X.xe s
def PGs (X:Cx) (ts:List Expr) (t:TGs):Prop :=
 ∀ (pins:List (Addr×Obj)) (s:Shared) (σ : St) (H:Hp) (vs:List V) (us:List Value) (Q:St→Hp→Prop),Inv X pins σ H s→Vals vs us→t vs σ H Q →
  wpAny (model X.prog X.w) X.A (assignInOrder ((assignEach ts X.env).map (·.2)) us) (fun _ s'=>∃ σ' H',Inv X pins σ' H' s'∧Q σ' H') X.xe s
abbrev TSet:=V→V→V→Hp→(Hp→Prop)→Prop
def PSet (X:Cx) (t:TSet):Prop :=
 ∀ (pins:List (Addr×Obj)) (s:Shared) (σ : St) (H:Hp) (o i v:V) (ov iv u:Value) (Q:Hp→Prop),Inv X pins σ H s→RelV o ov→RelV i iv→RelV v u→t o i v H Q →
  wpAny (model X.prog X.w) X.A (setItem ov iv u) (fun _ s'=>∃ H',Inv X pins σ H' s'∧Q H') X.xe s
section
variable {X:Cx} {pos:Pos}
def gQ (i:Nat):TG:=fun v σ H Q=>Q (σ.set i (some v)) H
theorem nC {i:Nat} {x:Str} (hN:X.N.Nodup) (hi:X.N[i]? = some x) (hx:Loc X.env.scope x) (hf:X.fn x = true∨X.env.scope.names.lookup x = some .local:=by first | exact .inl rfl | exact .inr rfl | assumption):PG X (.Name x pos) (gQ i):=by
 intro pins s σ H v u Q I r h
 exact wpAny_assign_Name (iK I hN hi hx r (fun s' I'=>⟨_,H,I',h⟩) hf)
def gNil:TGs:=fun vs σ H Q=>vs = []∧Q σ H
def Gm (t:TG) (u:TGs):TGs:=fun vs σ H Q=>∃ v r,vs = v :: r∧t v σ H fun σ' H'=>u r σ' H' Q
theorem y3:PGs X [] gNil:=by
 intro pins s σ H vs us Q I r h
 obtain ⟨e,h⟩:=h
 subst e
 cases r
 exact assignInOrder_nil ⟨σ,H,I,h⟩
theorem vB {e:Expr} {es:List Expr} {t:TG} {u:TGs} (h1:PG X e t) (h2:PGs X es u)
  (hs:(assignEach (e :: es) X.env).map (·.2) = assign e X.env :: (assignEach es X.env).map (·.2):=by rfl):PGs X (e :: es) (Gm t u):=by
 intro pins s σ H vs us Q I r h
 obtain ⟨v,vr,e1,h⟩:=h
 subst e1
 cases r with
 | cons r rr =>
  rw [hs]
  refine assignInOrder_cons (thn (h1 pins s σ H _ _ _ I r h) fun _ s1 ⟨σ1,H1,I1,q1⟩=>?_)
  exact h2 pins s1 σ1 H1 _ _ Q I1 rr q1
def gTup (K:PySem.W.Frag) (n:Nat) (t:TGs):TG:=fun v σ H Q=>∃ a xs,v = .ref a∧SqT K H a xs∧xs.length = n∧t xs σ H Q
theorem CU {es:List Expr} {k:Nat} {t:TGs} {n:Nat} (hc:X.calm = true) (h:PGs X es t)
  (hn:(assignEach es X.env).length = n:=by rfl) (hst:(assignEach es X.env).findIdx? (·.1) = none:=by rfl):PG X (.Tuple es k pos) (gTup X.K n t):=by
 intro pins s σ H v u Q I r hw
 obtain ⟨a,xs,e1,hq,hl,hw⟩:=hw
 subst e1
 cases r
 obtain ⟨its,rv,ht,hz⟩:=I.tuple hq
 refine assign_Tuple_tuple (I.ok.hd hc) ht (by simp [hn,←hl,rv.length]) hst fun h' hx=>?_
 have I1:Inv X pins σ H { s with heap:=h' }:=I.kept (t':=s.toks) fun b o e=>hx b o (Nat.ne_of_lt (Heap.lt_size e)) e
 exact h pins _ σ H xs _ Q I1 (by simpa using rv) hw
def gSub (to ti:TE) (t:TSet):TG:=fun v σ H Q=>to σ H fun o H1=>ti σ H1 fun i H2=>t o i v H2 fun H3=>Q σ H3
theorem BX {o i:Expr} {to ti:TE} {t:TSet} (ho:PE X o to) (hi:PE X i ti) (hs:PSet X t)
  (ha:∀ v,assign (.Subscript o i pos) X.env v = (do
   let ov ← holding [v] (eval o X.env)
   let iv ← holding [v,ov] (eval i X.env)
   standAt pos
   holding [v,ov,iv] (setItem ov iv v)
   release [v,ov,iv] []):=by intro _; rfl):PG X (.Subscript o i pos) (gSub to ti t):=by
 intro pins s σ H v u Q I r h
 rw [ha]
 refine wpAny_bind (wpAny_holding (thn (ho pins s σ H _ I h) fun ov s1 ⟨x,H1,I1,r1,q1⟩=>?_))
 refine wpAny_bind (wpAny_holding (thn (hi pins s1 σ H1 _ I1 q1) fun iv s2 ⟨y,H2,I2,r2,q2⟩=>?_))
 refine wpAny_bind (wpAny_standAt (wpAny_bind (wpAny_holding (thn (hs pins s2 σ H2 x y v ov iv u _ I2 r1 r2 r q2) fun _ s3 ⟨H3,I3,q3⟩=>?_))))
 exact wpAny_release ⟨σ,H3,I3,q3⟩
def tAsg (te:TE) (g:TG):TS:=fun D σ H=>te σ H fun x H1=>g x σ H1 D.nx
theorem xv {tg e:Expr} {te:TE} {g:TG} (he:PE X e te) (hg:PG X tg g) (hs:swapsWithSole [tg] e pos.line X.env = pure false:=by rfl) (hw:swappedStores [tg] e X.env = pure none:=by rfl)
  (h1:(assignEach [tg] X.env).map (·.2) = [assign tg X.env]:=by rfl):PS X (.Assign [tg] e pos) (tAsg te g):=by
 intro pins s σ H D I h
 refine wpAny_Assign_stores (thn (he pins s σ H _ I h) fun v s1 ⟨x,H1,I1,r1,q1⟩=>?_) hs hw
 rw [h1]
 exact thn (hg pins s1 σ H1 x v _ I1 r1 q1) fun _ s2 q=>q
theorem Cr {i:Nat} {x:Str} {e:Expr} {te:TE} {pos':Pos} (hN:X.N.Nodup) (hi:X.N[i]? = some x) (hx:Loc X.env.scope x) (he:PE X e te) (hs:swapsWith e (some (.Name x pos')) pos.line X.env = pure false:=by rfl) (hf:X.fn x = true∨X.env.scope.names.lookup x = some .local:=by first | exact .inl rfl | exact .inr rfl | assumption) :
  PS X (.Assign [.Name x pos'] e pos) (tAsg te (gQ i)):=by
 intro pins s σ H D I h
 refine wpAny_Assign_Name (thn (he pins s σ H _ I h) fun v s1 ⟨y,H1,I1,r1,q1⟩=>?_) hs
 exact iK I1 hN hi hx r1 (fun s2 I2=>⟨_,H1,I2,q1⟩) hf
def tPar (i j:Nat) (ta:TA):TS:=fun D σ H=>ta σ H fun vs H1=>∃ v w,vs = [v,w]∧D.nx ((σ.set i (some v)).set j (some w)) H1
theorem AH {i j:Nat} {x y:Str} {a b:Expr} {ta:TA} {px py pt:Pos} {kt k2 pt2} (hc:X.calm = true) (hN:X.N.Nodup) (hi:X.N[i]? = some x) (hj:X.N[j]? = some y) (hij:i≠j)
  (hx:X.env.scope.names.lookup x = some .local) (hy:X.env.scope.names.lookup y = some .local) (ha:PA X [a,b] ta)
  (hw:swappedStores [.Tuple [.Name x px,.Name y py] kt pt] (.Tuple [a,b] k2 pt2) X.env = pure (some [x,y]))
  (hs:swapsWithSole [.Tuple [.Name x px,.Name y py] kt pt] (.Tuple [a,b] k2 pt2) pos.line X.env = pure false:=by rfl) :
  PS X (.Assign [.Tuple [.Name x px,.Name y py] kt pt] (.Tuple [a,b] k2 pt2) pos) (tPar i j ta):=by
 intro pins s σ H D I h
 rw [exec_Assign_arm]
 refine wpAny_bind (wpAny_standAt ?_)
 rw [hs]
 refine wpAny_bind (wpAny_pure ?_)
 rw [if_neg (by decide)]
 refine wpAny_bind (Tuple_ (thn (ha _ pins s σ H _ I h) fun us s1 ⟨vs,H1,I1,r1,q1⟩=>?_))
 obtain ⟨v,w,e1,q1⟩:=q1
 subst e1
 obtain ⟨u1,u2,rfl,rv,rw'⟩ : ∃ u1 u2,us = [u1,u2]∧RelV v u1∧RelV w u2:=by
  cases r1 with
  | cons p q =>
   cases q with
   | cons p' q' =>
    cases q'
    exact ⟨_,_,rfl,p,p'⟩
 refine wpAny_newObj_type ?_ (by show 2≤sizeLine; decide)
 have I2:Inv X pins σ H1 { s1 with heap:=s1.heap.push { cls:=.type "tuple",data:=.seq [u1,u2].toArray } }:=I1.kept (t':=s1.toks) fun b o e=>Heap.get?_push_of_some _ e
 rw [hw]
 refine wpAny_bind (wpAny_pure ?_)
 show wpAny (model X.prog X.w) X.A (do rule "assign.swapped-stores"; let items ← unpackItems (.ref s1.heap.objs.size) 2 none; assignInOrder [fun v=>bindName X.env y v,fun v=>bindName X.env x v] items.reverse; pure Flow.next) _ _ _
 refine wpAny_bind (wpAny_rule (wpAny_bind (unpackItems_tuple (items:=#[u1,u2]) (I.ok.hd hc) (IsTup.new s1.heap _) fun h' hx'=>?_)))
 have I3:=I2.kept (h':=h') (t':=s1.toks) fun b o e=>hx' b o (Nat.ne_of_lt (Heap.lt_size e)) e
 show wpAny _ _ (assignInOrder [fun v=>bindName X.env y v,fun v=>bindName X.env x v] [u2,u1] >>= fun _=>pure Flow.next) _ _ _
 refine wpAny_bind (assignInOrder_cons (wpAny_bindName (iK I3 hN hj (.inl hy) rw' (fun s2 I4=>?_) (.inr hy))))
 refine assignInOrder_cons (wpAny_bindName (iK I4 hN hi (.inl hx) rv (fun s3 I5=>assignInOrder_nil (wpAny_pure ?_)) (.inr hx)))
 rw [List.set_comm _ _ (Ne.symm hij)] at I5
 exact ⟨_,H1,I5,q1⟩
end
section
variable {X:Cx} {pos:Pos}
def DJ (c:TT) (tb:TS):TS:=fun D σ H=>∃ W:Nat→St→Hp→Prop,(∃ m,W m σ H)∧∀ m σ H,W m σ H →
 c σ H fun b H1=>if b = true then ∃ N:St→Hp→Prop,(∀ σ' H',N σ' H'→∃ m',m' < m∧W m' σ' H')∧tb { D with nx:=N,ct:=N,bk:=D.nx } σ H1 else D.nx σ H1
theorem vN {c:Expr} {body:List Stmt} {tc:TT} {tb:TS} (hp:PassesOwn (model X.prog X.w) X.A X.env X.xe) (hc:PT X c tc) (hb:PSs X body tb):PS X (.While c body [] pos) (DJ tc tb):=by
 intro pins s σ H D I h
 obtain ⟨W,⟨m0,w0⟩,turn⟩:=h
 refine wpAny_While (codeAny_whileLoop (fun n s'=>∃ σ' H',Inv X pins σ' H' s'∧W n σ' H') ?_ m0 ⟨σ,H,I,w0⟩)
 rintro n s1 ⟨σ1,H1,I1,w1⟩
 refine wpAny_passesOwn hp (thn (hc pins s1 σ1 H1 _ I1 (turn n σ1 H1 w1)) fun b s2 ⟨H2,I2,q2⟩=>?_)
 cases b with
 | true =>
  obtain ⟨N,hN,q2⟩:=q2
  rw [if_pos rfl]
  refine wpAny_passesOwn hp (thn (hb pins s2 σ1 H2 _ I2 q2) fun f s3 q3=>?_)
  cases f with
  | next =>
   obtain ⟨σ3,H3,I3,n3⟩:=q3
   obtain ⟨m',hm,w3⟩:=hN σ3 H3 n3
   exact ⟨m',hm,σ3,H3,I3,w3⟩
  | cont =>
   obtain ⟨σ3,H3,I3,n3⟩:=q3
   obtain ⟨m',hm,w3⟩:=hN σ3 H3 n3
   exact ⟨m',hm,σ3,H3,I3,w3⟩
  | brk=>exact q3
  | ret v=>exact q3
 | false =>
  rw [if_neg Bool.false_ne_true]
  exact wpAny_execs_nil ⟨σ1,H2,I2,q2⟩
end
structure It where
 go:Nat→Hp→Prop
 yld:Nat→Hp→V→Hp→Prop
 stop:Nat→Hp→Prop
def FpOk (X:Cx) (pins:List (Addr×Obj)) (H:Hp) (b:Addr):Prop :=
 H b = none∧b≠X.env.locals∧b∉X.fs∧(b∈X.ex∨X.s₀.heap.objs.size≤b)∧(∀ x c,X.env.cells.lookup x = some c→c≠b)∧∀ p∈X.pn++pins,p.1≠b
theorem Inv.fpOk {X:Cx} {pins:List (Addr×Obj)} {σ : St} {H H':Hp} {s:Shared} {b:Addr} (I:Inv X pins σ H s) (hb:s.heap.objs.size≤b) (hn:H' b = none):FpOk X pins H' b:=by
 refine ⟨hn,Nat.ne_of_gt (Nat.lt_of_lt_of_le I.lt hb),I.nofs hb,.inr (Nat.le_trans I.sz hb),fun x c e z=>?_,fun p hp z=>?_⟩
 ·obtain ⟨v,q⟩:=I.cell x c e
  exact absurd (Nat.lt_of_lt_of_le q.lt (by rw [z]; exact hb)) (Nat.lt_irrefl _)
 ·exact absurd (Nat.lt_of_lt_of_le (Heap.lt_size (I.pin p hp).1) (by rw [z]; exact hb)) (Nat.lt_irrefl _)
structure Turn (P:Program) (w:World) (K:PySem.W.Frag) (tg:Expr) (J:It) (fp:List Addr) (it:Addr) (tn:Nat→Heap→Prop):Prop where
 mem:it∈fp
 obj:∀ i h,tn i h→∀ b∈fp,∃ o,h.get? b = some o∧∀ v,o.data≠.cell v
 keep:∀ i h h',tn i h→(∀ b∈fp,∀ o,h.get? b = some o→h'.get? b = some o)→tn i h'
 item:∀ (X:Cx),X.prog = P→X.w = w→X.K = K→X.calm = true→∀ (i:Nat) (pins:List (Addr×Obj)) (s:Shared) (σ : St) (H:Hp) (E:Value→Shared→Prop),Inv X pins σ H s→(∀ b∈fp,FpOk X pins H b)→tn i s.heap→J.go i H →
  wpAny (model P w) X.A (pyNext (.ref it)) (fun r s1=>∃ u,r = some u ∧
   wpAny (model P w) X.A (letOwnedTupleGo tg (.ref it) u) (fun _ s2=>∃ x H',Inv X pins σ H' s2∧RelV x u∧J.yld i H x H'∧tn (i + 1) s2.heap∧∀ b∈fp,H' b = none) E s1) E s
 done:∀ (X:Cx),X.prog = P→X.w = w→X.K = K→X.calm = true→∀ (i:Nat) (pins:List (Addr×Obj)) (s:Shared) (σ : St) (H:Hp) (E:Value→Shared→Prop),Inv X pins σ H s→(∀ b∈fp,FpOk X pins H b)→tn i s.heap→J.stop i H →
  wpAny (model P w) X.A (pyNext (.ref it)) (fun r s1=>r = none∧Inv X pins σ H s1) E s
 self:∀ (A:Around) (i:Nat) (s:Shared) (Q:Value→Shared→Prop) (E:Value→Shared→Prop),tn i s.heap→Q (.ref it) s→wpAny (model P w) A (pyIter (.ref it)) Q E s
abbrev TI:=St→Hp→(It→Hp→Prop)→Prop
def PIE (X:Cx) (pins:List (Addr×Obj)) (σ : St) (tg:Expr) (R:It→Hp→Prop) (itv:Value) (s2:Shared):Prop :=
 ∃ (it:Addr) (fp:List Addr) (tn:Nat→Heap→Prop) (J:It) (H':Hp),itv = .ref it∧Inv X pins σ H' s2∧Turn X.prog X.w X.K tg J fp it tn∧tn 0 s2.heap∧(∀ b∈fp,FpOk X pins H' b)∧R J H'
def PI (X:Cx) (tg iter:Expr) (wi:TI):Prop :=
 ∀ (pins:List (Addr×Obj)) (s:Shared) (σ : St) (H:Hp) (R:It→Hp→Prop),Inv X pins σ H s→wi σ H R →
  wpAny (model X.prog X.w) X.A (eval iter X.env) (fun v s1=>wpAny (model X.prog X.w) X.A (pyIter v) (PIE X pins σ tg R) X.xe s1) X.xe s
theorem zl {M:Model} {A:Around} {E:Value→Shared→Prop} {s:Shared} {tg:Expr} {it:Addr} {u:Value} {o:Obj} {n:String} {vs:Array Value} {Q:Unit→Shared→Prop} (ho:s.heap.get? it = some o) (hc:o.cls = .type n) (hd:o.data = .fields vs)
  (hn:["enumerate", "zip", "dict_itemiterator", "dict_reverseitemiterator", "odict_iterator", "itertools.zip_longest", "itertools.pairwise"].contains n = false) (hQ:Q () s):wpAny M A (letOwnedTupleGo tg (.ref it) u) Q E s:=by
 unfold letOwnedTupleGo
 cases tg <;> first
  | exact wpAny_pure hQ
  | (cases u <;> first
    | exact wpAny_pure hQ
    | (refine wpAny_bind (wpAny_load ho ?_)
       rw [hc,hd]
       show wpAny M A (if (["enumerate", "zip", "dict_itemiterator", "dict_reverseitemiterator", "odict_iterator", "itertools.zip_longest", "itertools.pairwise"].contains n && vs[0]? == some (rawInt _)) = true then _ else _) Q E s
       rw [if_neg (by intro h; rw [hn,Bool.false_and] at h; cases h)]
       exact wpAny_pure hQ))
def Itl (K:PySem.W.Frag) (a:Addr):It :=
 ⟨fun i H=>∃ xs x,SqL K H a xs∧xs[i]? = some x,fun i H x H'=>H' = H∧∀ xs,SqL K H a xs→xs[i]? = some x,fun i H=>∃ xs,SqL K H a xs∧xs.length≤i⟩
def Itt (K:PySem.W.Frag) (a:Addr):It :=
 ⟨fun i H=>∃ xs x,SqT K H a xs∧xs[i]? = some x,fun i H x H'=>H' = H∧∀ xs,SqT K H a xs→xs[i]? = some x,fun i H=>∃ xs,SqT K H a xs∧xs.length≤i⟩
def Itr (lo:Int) (n:Nat):It:=⟨fun i _=>i < n,fun i H x H'=>H' = H∧x = .int (lo + i),fun i _=>n≤i⟩
theorem su {P:Program} {w:World} {K:PySem.W.Frag} {tg:Expr} (a it:Addr):Turn P w K tg (Itl K a) [it] it (fun i h=>h.IsListIter it a i) where
 mem:=by simp
 obj:=fun i h st b hb=>by
  have e:b = it:=by simpa using hb
  subst e
  obtain ⟨o,e,c,d⟩:=st
  exact ⟨o,e,fun v z=>by rw [d] at z; cases z⟩
 keep:=fun i h h' st k=>st.at fun o e=>k it (by simp) o e
 item:=by
  intro X hP hw hK hc i pins s σ H E I hf st hg
  subst hP hw hK
  obtain ⟨xs,x,hq,hx⟩:=hg
  obtain ⟨its,rv,p,hz⟩:=I.list hq
  obtain ⟨u,hu,ru⟩:=rv.get hx
  obtain ⟨f0,f1,f2,f3,f4,f5⟩:=hf it (by simp)
  refine wpAny_pyNext_list_item st p.isList (x:=u) (by simpa using hu) fun h' st' sb=>?_
  have I1:Inv X pins σ H { s with heap:=h' }:=I.turned (t':=s.toks) (fun b o hb e=>(sb.2 b hb).trans e) f0 f1 f3 f4 f5
  obtain ⟨o,e,c,d⟩:=id st'
  exact ⟨u,rfl,zl (s:={ s with heap:=h' }) e c d (by decide) ⟨x,H,I1,ru,⟨rfl,fun ys hy=>by rw [I.list_inj hy hq]; exact hx⟩,st',fun b hb=>(hf b hb).1⟩⟩
 done:=by
  intro X hP hw hK hc i pins s σ H E I hf st hg
  subst hP hw hK
  obtain ⟨xs,hq,hx⟩:=hg
  obtain ⟨its,rv,p,hz⟩:=I.list hq
  obtain ⟨f0,f1,f2,f3,f4,f5⟩:=hf it (by simp)
  have hl:=rv.length
  exact wpAny_pyNext_list_end (I.ok.hd hc) st p.isList (by simp; omega) fun h' eb=>⟨rfl,I.turned (t':=s.toks) (fun b o hb e=>eb b o hb e) f0 f1 f3 f4 f5⟩
 self:=fun _ _ _ _ _ st h=>wpAny_pyIter_listiter st h
theorem qC {P:Program} {w:World} {K:PySem.W.Frag} {tg:Expr} (a it:Addr):Turn P w K tg (Itt K a) [it] it (fun i h=>h.IsTupleIter it a i) where
 mem:=by simp
 obj:=fun i h st b hb=>by
  have e:b = it:=by simpa using hb
  subst e
  obtain ⟨o,e,c,d⟩:=st
  exact ⟨o,e,fun v z=>by rw [d] at z; cases z⟩
 keep:=fun i h h' st k=>st.at fun o e=>k it (by simp) o e
 item:=by
  intro X hP hw hK hc i pins s σ H E I hf st hg
  subst hP hw hK
  obtain ⟨xs,x,hq,hx⟩:=hg
  obtain ⟨its,rv,p,hz⟩:=I.tuple hq
  obtain ⟨u,hu,ru⟩:=rv.get hx
  obtain ⟨f0,f1,f2,f3,f4,f5⟩:=hf it (by simp)
  refine wpAny_pyNext_tuple_item st (show s.heap.IsTuple a its.toArray from p) (x:=u) (by simpa using hu) fun h' st' sb=>?_
  have I1:Inv X pins σ H { s with heap:=h' }:=I.turned (t':=s.toks) (fun b o hb e=>(sb.2 b hb).trans e) f0 f1 f3 f4 f5
  obtain ⟨o,e,c,d⟩:=id st'
  exact ⟨u,rfl,zl (s:={ s with heap:=h' }) e c d (by decide) ⟨x,H,I1,ru,⟨rfl,fun ys hy=>by rw [I.tuple_inj hy hq]; exact hx⟩,st',fun b hb=>(hf b hb).1⟩⟩
 done:=by
  intro X hP hw hK hc i pins s σ H E I hf st hg
  subst hP hw hK
  obtain ⟨xs,hq,hx⟩:=hg
  obtain ⟨its,rv,p,hz⟩:=I.tuple hq
  obtain ⟨f0,f1,f2,f3,f4,f5⟩:=hf it (by simp)
  have hl:=rv.length
  exact wpAny_pyNext_tuple_end (I.ok.hd hc) st (show s.heap.IsTuple a its.toArray from p) (by simp; omega) fun h' eb=>⟨rfl,I.turned (t':=s.toks) (fun b o hb e=>eb b o hb e) f0 f1 f3 f4 f5⟩
 self:=fun _ _ _ _ _ st h=>wpAny_pyIter_tupleiter st h
theorem qi {P:Program} {w:World} {K:PySem.W.Frag} {tg:Expr} (it:Addr) (lo:Int) (n:Nat):Turn P w K tg (Itr lo n) [it] it (fun i h=>IsRangeIter h it (lo + (i:Nat) * 1) ((n:Int) - (i:Nat)) 1) where
 mem:=by simp
 obj:=fun i h st b hb=>by
  have e:b = it:=by simpa using hb
  subst e
  exact ⟨_,st,fun v z=>by
   have z':Data.fields _ = Data.cell v:=z
   cases z'⟩
 keep:=fun i h h' st k=>k it (by simp) _ st
 item:=by
  intro X hP hw hK hc i pins s σ H E I hf st hg
  subst hP hw hK
  obtain ⟨f0,f1,f2,f3,f4,f5⟩:=hf it (by simp)
  have W:=Walks.range (prog:=X.prog) (w:=X.w) (I.ok.hd hc) it lo 1 n
  refine W.item i s _ _ hg st fun v h' tk hv st' kk=>?_
  obtain ⟨t,rfl⟩:=hv
  have I1:Inv X pins σ H { s with heap:=h',toks:=tk }:=I.turned (fun b o hb e=>kk b o (by simpa using hb) e) f0 f1 f3 f4 f5
  refine ⟨_,rfl,zl (s:={ s with heap:=h',toks:=tk }) (n := "range_iterator") st' rfl rfl (by decide) ⟨.int (lo + i),H,I1,⟨t,?_⟩,⟨rfl,rfl⟩,st',fun b hb=>(hf b hb).1⟩⟩
  rw [Int.mul_one]
 done:=by
  intro X hP hw hK hc i pins s σ H E I hf st hg
  subst hP hw hK
  obtain ⟨f0,f1,f2,f3,f4,f5⟩:=hf it (by simp)
  exact wpAny_pyNext_range_end (I.ok.hd hc) st (by have:n≤i:=hg; omega) fun h' eb=>⟨rfl,I.turned (t':=s.toks) (fun b o hb e=>eb b o hb e) f0 f1 f3 f4 f5⟩
 self:=fun _ _ _ _ _ st h=>wpAny_pyIter_rangeiter st h
section
variable {X:Cx} {tg:Expr}
theorem uL {pins:List (Addr×Obj)} {σ : St} {H:Hp} {s:Shared} {R:It→Hp→Prop} {E:Value→Shared→Prop} {lo hi:Int} {t u v:Tok} {tk:Nat} (I:Inv X pins σ H s) (h1 : -(2 ^ 62)≤lo) (h2:lo < 2 ^ 62) (h3 : -(2 ^ 62)≤hi) (h4:hi < 2 ^ 62)
  (q:R (Itr lo (hi - lo).toNat) H):wpAny (model X.prog X.w) X.A (pyIter (.ref s.heap.objs.size)) (PIE X pins σ tg R) E { s with heap:=s.heap.push { cls:=.type "range",data:=.fields #[.int lo t,.int hi u,.int 1 v] },toks:=tk }:=by
 refine wpAny_pyIter_range (IsRange.new ..) (small_one h1 h2 h3 h4) ?_
 have I1:Inv X pins σ H { s with heap:=s.heap.push { cls:=.type "range",data:=.fields #[.int lo t,.int hi u,.int 1 v] },toks:=tk }:=I.kept fun b o e=>Heap.get?_push_of_some _ e
 refine ⟨(s.heap.push { cls:=.type "range",data:=.fields #[.int lo t,.int hi u,.int 1 v] }).objs.size,[(s.heap.push { cls:=.type "range",data:=.fields #[.int lo t,.int hi u,.int 1 v] }).objs.size],_,_,H,rfl,
  I1.kept (t':=tk) fun b o e=>Heap.get?_push_of_some _ e,qi _ lo (hi - lo).toNat,?_,fun b hb=>?_,q⟩
 ·have e1:lo + ((0:Nat):Int) * 1 = lo:=by simp
  have e2:(((hi - lo).toNat:Nat):Int) - ((0:Nat):Int) = Builtin.Range.rangeSize lo hi 1:=by rw [rangeSize_one]; split <;> omega
  show IsRangeIter _ _ (lo + ((0:Nat):Int) * 1) ((((hi - lo).toNat:Nat):Int) - ((0:Nat):Int)) 1
  rw [e1,e2]
  exact Heap.get?_push_size _ rfl
 ·have e:b = (s.heap.push { cls:=.type "range",data:=.fields #[.int lo t,.int hi u,.int 1 v] }).objs.size:=by simpa using hb
  subst e
  exact I1.fpOk (Nat.le_refl _) (I1.hok.fresh (Nat.le_refl _))
def Gn (ta:TA):TI:=fun σ H R=>ta σ H fun vs H1=>∃ j:Int,vs = [.int j]∧-(2 ^ 62)≤j∧j < 2 ^ 62∧R (Itr 0 j.toNat) H1
theorem tZ {a:Expr} {ta:TA} {p pos:Pos} (hg:Gl X "range") (hm:X.mg "range" = none) (ha:PA X [a] ta) (hs:starEach [a] X.env = [(false,eval a X.env)]:=by rfl):PI X tg (.Call (.Name "range" p) [a] [] pos) (Gn ta):=by
 intro pins s σ H R I h
 refine Call_ (iY I hg hm boot_range (PyProof.Rows.callWith_type1 (thn (ha pos pins s σ H _ I h) fun us s1 ⟨vs,H1,I1,r1,q1⟩=>?_) hs rfl))
 obtain ⟨j,e,q1,q2,q⟩:=q1
 subst e
 cases r1 with
 | cons r rr =>
  cases rr
  obtain ⟨t,rfl⟩:=r
  exact call_range_1 (uL I1 (by omega) (by omega) q1 q2 (by simpa using q))
def tFor (wi:TI) (g:TG) (tb:TS):TS:=fun D σ H=>wi σ H fun J H1=>∃ W:Nat→Nat→St→Hp→Prop,(∃ m,W 0 m σ H1)∧∀ i m σ H,W i m σ H →
 (J.stop i H∧D.nx σ H)∨(J.go i H∧∃ N:St→Hp→Prop,(∀ σ' H',N σ' H'→∃ m',m' < m∧W (i + 1) m' σ' H')∧∀ x H',J.yld i H x H'→g x σ H' fun σ2 H2=>tb { D with nx:=N,ct:=N,bk:=D.nx } σ2 H2)
def lX (fp:List Addr) (h:Heap):List (Addr×Obj):=fp.filterMap fun b=>(h.get? b).map fun o=>(b,o)
theorem fM {fp:List Addr} {h:Heap} {b:Addr} {o:Obj} (hb:b∈fp) (e:h.get? b = some o):(b,o)∈lX fp h:=List.mem_filterMap.mpr ⟨b,hb,by rw [e]; rfl⟩
theorem uj {fp:List Addr} {h:Heap} {p:Addr×Obj} (hp:p∈lX fp h):p.1∈fp∧h.get? p.1 = some p.2:=by
 obtain ⟨b,hb,e⟩:=List.mem_filterMap.mp hp
 cases q:h.get? b with
 | none=>rw [q] at e; cases e
 | some o =>
  rw [q] at e
  have e':(b,o) = p:=Option.some.inj e
  subst e'
  exact ⟨hb,q⟩
theorem Inv.pinned {pins:List (Addr×Obj)} {σ : St} {H:Hp} {s:Shared} {fp:List Addr} (I:Inv X pins σ H s) (hf:∀ b∈fp,FpOk X pins H b) (ho:∀ b∈fp,∃ o,s.heap.get? b = some o∧∀ v,o.data≠.cell v):Inv X (pins++lX fp s.heap) σ H s :=
 I.pins_of fun p hp=>(List.mem_append.mp hp).elim (fun z=>I.pin p (List.mem_append_right _ z)) fun z=>by
  obtain ⟨hb,e⟩:=uj z
  obtain ⟨f0,f1,f2,_⟩:=hf p.1 hb
  obtain ⟨o,e',d⟩:=ho p.1 hb
  rw [e] at e'; cases e'
  exact ⟨e,f0,f1,f2,d⟩
theorem Inv.unpinned {pins pl:List (Addr×Obj)} {σ : St} {H:Hp} {s:Shared} (I:Inv X (pins++pl) σ H s):Inv X pins σ H s:=I.pins_of fun p hp=>I.pin p (List.mem_append_right _ (List.mem_append_left _ hp))
theorem wx {iter:Expr} {body:List Stmt} {wi:TI} {g:TG} {tb:TS} {pos:Pos} (hp:PassesOwn (model X.prog X.w) X.A X.env X.xe) (hc:X.calm = true) (hi:PI X tg iter wi) (hg:PG X tg g) (hb:PSs X body tb)
  (hs:∀ x,foldedSetIterable iter X.env x = pure x:=by intro _; rfl):PS X (.For tg iter body [] pos) (tFor wi g tb):=by
 intro pins s σ H D I h
 refine wpAny_For (thn (hi pins s σ H _ I h) fun v s1 h1=>thn h1 fun itv s2 h2=>?_) hs
 obtain ⟨it,fp,tn,J,H2,e,I2,T,st2,f2,W,⟨m0,w0⟩,turn⟩:=h2
 subst e
 have stat:∀ {H':Hp},(∀ b∈fp,H' b = none)→∀ b∈fp,FpOk X pins H' b:=fun hn b hb=>⟨hn b hb,(f2 b hb).2⟩
 refine codeAny_forLoop_any (fun n s'=>∃ i σ' H',Inv X pins σ' H' s'∧tn i s'.heap∧(∀ b∈fp,H' b = none)∧W i n σ' H') ?_ m0 ⟨0,σ,H2,I2,st2,fun b hb=>(f2 b hb).1,w0⟩
 rintro n s3 ⟨i,σ3,H3,I3,st3,fr3,w3⟩
 rcases turn i n σ3 H3 w3 with ⟨stop,qn⟩ | ⟨go,N,hN,step⟩
 ·refine wpAny_passesOwn hp (thn (T.done X rfl rfl rfl hc i pins s3 σ3 H3 X.xe I3 (stat fr3) st3 stop) fun r s4 ⟨hr,I4⟩=>?_)
  subst hr
  exact wpAny_execs_nil ⟨σ3,H3,I4,qn⟩
 ·refine wpAny_passesOwn hp (thn (T.item X rfl rfl rfl hc i pins s3 σ3 H3 X.xe I3 (stat fr3) st3 go) fun r s4 ⟨u,hr,h4⟩=>?_)
  subst hr
  refine wpAny_passesOwn hp (thn h4 fun _ s5 ⟨x,H5,I5,r5,y5,st5,fr5⟩=>?_)
  have I5':=I5.pinned (stat fr5) (T.obj _ _ st5)
  refine wpAny_passesOwn hp (thn (hg _ s5 σ3 H5 x u _ I5' r5 (step x H5 y5)) fun _ s6 ⟨σ6,H6,I6,q6⟩=>?_)
  refine wpAny_passesOwn hp (thn (hb _ s6 σ6 H6 _ I6 q6) fun f s7 q7=>?_)
  have again:∀ {σ7:St} {H7:Hp},Inv X (pins++lX fp s5.heap) σ7 H7 s7→N σ7 H7→∃ m,m < n∧∃ i σ' H',Inv X pins σ' H' s7∧tn i s7.heap∧(∀ b∈fp,H' b = none)∧W i m σ' H':=fun {σ7 H7} I7 n7=>by
   obtain ⟨m',hm,w7⟩:=hN σ7 H7 n7
   refine ⟨m',hm,i + 1,σ7,H7,I7.unpinned,T.keep _ _ _ st5 fun b hb o e=>(I7.pin (b,o) (List.mem_append_right _ (List.mem_append_right _ (fM hb e)))).1,fun b hb=>?_,w7⟩
   obtain ⟨o,e,d⟩:=T.obj _ _ st5 b hb
   exact (I7.pin (b,o) (List.mem_append_right _ (List.mem_append_right _ (fM hb e)))).2.1
  cases f with
  | next=>obtain ⟨σ7,H7,I7,n7⟩:=q7; exact again I7 n7
  | cont=>obtain ⟨σ7,H7,I7,n7⟩:=q7; exact again I7 n7
  | brk=>obtain ⟨σ7,H7,I7,q7⟩:=q7; exact ⟨σ7,H7,I7.unpinned,q7⟩
  | ret v=>obtain ⟨x7,σ7,H7,I7,r7,q7⟩:=q7; exact ⟨x7,σ7,H7,I7.unpinned,r7,q7⟩
end
abbrev R2:=V→V→Hp→VK→Prop
def OpR (X:Cx) (f:Value→Value→Sem Value) (r:R2):Prop :=
 ∀ (pins:List (Addr×Obj)) (s:Shared) (σ : St) (H:Hp) (x y:V) (v u:Value) (Q:VK),Inv X pins σ H s→RelV x v→RelV y u→r x y H Q →
  wpAny (model X.prog X.w) X.A (f v u) (EP X pins σ Q) X.xe s
def UnR (X:Cx) (f:Value→Sem Value) (r:V→Hp→VK→Prop):Prop :=
 ∀ (pins:List (Addr×Obj)) (s:Shared) (σ : St) (H:Hp) (x:V) (v:Value) (Q:VK),Inv X pins σ H s→RelV x v→r x H Q →
  wpAny (model X.prog X.w) X.A (f v) (EP X pins σ Q) X.xe s
def c6 (X:Cx) (f:Value) (r:List V→Hp→VK→Prop):Prop :=
 ∀ (pins:List (Addr×Obj)) (s:Shared) (σ : St) (H:Hp) (xs:List V) (us:List Value) (Q:VK),Inv X pins σ H s→Vals xs us→r xs H Q →
  wpAny (model X.prog X.w) X.A (call f us) (EP X pins σ Q) X.xe s
def tOp (r:R2) (ta tb:TE):TE:=fun σ H Q=>ta σ H fun x H1=>tb σ H1 fun y H2=>r x y H2 Q
def tUn (r:V→Hp→VK→Prop) (ta:TE):TE:=fun σ H Q=>ta σ H fun x H1=>r x H1 Q
def rI (C:Int→Int→Prop) (g:Int→Int→V):R2:=fun x y H Q=>∃ i j,x = .int i∧y = .int j∧C i j∧Q (g i j) H
def rI0 (g:Int→Int→V):R2:=fun x y H Q=>∃ i j,x = .int i∧y = .int j∧Q (g i j) H
def rU (g:Int→V):V→Hp→VK→Prop:=fun x H Q=>∃ i,x = .int i∧Q (g i) H
section
variable {X:Cx} {a b c:Expr} {ta tb tc:TE} {pos:Pos}
theorem binT (ha:PE X a ta) (hb:PE X b tb) {pins:List (Addr×Obj)} {s:Shared} {σ : St} {H:Hp} {R:V→V→Hp→Prop} (I:Inv X pins σ H s)
  (h:ta σ H fun x H1=>tb σ H1 fun y H2=>R x y H2) {Q:Value→Shared→Prop} {f:Value→Value→Sem Value}
  (hf:∀ v u s2 x y H2,Inv X pins σ H2 s2→RelV x v→RelV y u→R x y H2→wpAny (model X.prog X.w) X.A (f v u) Q X.xe s2) :
  wpAny (model X.prog X.w) X.A (eval a X.env) (fun v s₁=>wpAny (model X.prog X.w) X.A (eval b X.env) (fun u s₂=>wpAny (model X.prog X.w) X.A (f v u) Q X.xe s₂) X.xe s₁) X.xe s:=by
 refine thn (ha pins s σ H _ I h) fun v s1 ⟨x,H1,I1,r1,q1⟩=>?_
 refine thn (hb pins s1 σ H1 _ I1 q1) fun u s2 ⟨y,H2,I2,r2,q2⟩=>?_
 exact hf v u s2 x y H2 I2 r1 r2 q2
theorem GV {op:Operator} {r:R2} (ho:OpR X (binaryOp op) r) (ha:PE X a ta) (hb:PE X b tb):PE X (.BinOp a op b pos) (tOp r ta tb):=by
 intro pins s σ H Q I h
 exact wpAny_BinOp (binT ha hb I h fun v u s2 x y H2 I2 rx ry q=>ho pins s2 σ H2 x y v u Q I2 rx ry q)
theorem FH {op:UnaryOp} {r:V→Hp→VK→Prop} (ho:UnR X (unaryOp op) r) (ha:PE X a ta):PE X (.UnaryOp op a pos) (tUn r ta):=by
 intro pins s σ H Q I h
 exact UnaryOp_ (thn (ha pins s σ H _ I h) fun v s1 ⟨x,H1,I1,r1,q1⟩=>ho pins s1 σ H1 x v Q I1 r1 q1)
theorem opI {f:Value→Value→Sem Value} {C:Int→Int→Prop} {g:Int→Int→Int}
  (rule:∀ (i j:Int) (t u:Tok) (s:Shared) (Q:Value→Shared→Prop) (E:Value→Shared→Prop),C i j→Q (.int (g i j) s.toks) { s with toks:=s.toks + 1 }→wpAny (model X.prog X.w) X.A (f (.int i t) (.int j u)) Q E s) :
  OpR X f (rI C fun i j=>.int (g i j)):=by
 intro pins s σ H x y v u Q I rx ry h
 obtain ⟨i,j,rfl,rfl,hc,q⟩:=h
 obtain ⟨t,rfl⟩:=rx
 obtain ⟨t',rfl⟩:=ry
 exact rule i j t t' s _ _ hc ⟨.int (g i j),H,I.tok _,⟨_,rfl⟩,q⟩
theorem opI0 {f:Value→Value→Sem Value} {g:Int→Int→Int}
  (rule:∀ (i j:Int) (t u:Tok) (s:Shared) (Q:Value→Shared→Prop) (E:Value→Shared→Prop),Q (.int (g i j) s.toks) { s with toks:=s.toks + 1 }→wpAny (model X.prog X.w) X.A (f (.int i t) (.int j u)) Q E s) :
  OpR X f (rI0 fun i j=>.int (g i j)):=by
 intro pins s σ H x y v u Q I rx ry h
 obtain ⟨i,j,rfl,rfl,q⟩:=h
 obtain ⟨t,rfl⟩:=rx
 obtain ⟨t',rfl⟩:=ry
 exact rule i j t t' s _ _ ⟨.int (g i j),H,I.tok _,⟨_,rfl⟩,q⟩
theorem opB0 {f:Value→Value→Sem Value} {g:Int→Int→Bool}
  (rule:∀ (i j:Int) (t u:Tok) (s:Shared) (Q:Value→Shared→Prop) (E:Value→Shared→Prop),Q (.bool (g i j)) s→wpAny (model X.prog X.w) X.A (f (.int i t) (.int j u)) Q E s) :
  OpR X f (rI0 fun i j=>.bl (g i j)):=by
 intro pins s σ H x y v u Q I rx ry h
 obtain ⟨i,j,rfl,rfl,q⟩:=h
 obtain ⟨t,rfl⟩:=rx
 obtain ⟨t',rfl⟩:=ry
 exact rule i j t t' s _ _ ⟨.bl (g i j),H,I,rfl,q⟩
def CPow (i j:Int):Prop:=0≤j∧j≤1000000∧i.natAbs < 2 ^ 64
def CMul (i j:Int):Prop:=(-(2 ^ 64) < i∧i < 2 ^ 64)∨(-(2 ^ 64) < j∧j < 2 ^ 64)
theorem CMul.ok {i j:Int} (h:CMul i j):IntMulOk i j:=by
 rcases h with ⟨h1,h2⟩ | ⟨h1,h2⟩
 ·exact .of_left (intBits_le_64 h1 h2)
 ·exact .of_right (intBits_le_64 h1 h2)
theorem Ay:OpR X (binaryOp .Add) (rI0 fun i j=>.int (i + j)):=opI0 fun _ _ _ _ _ _ _ q=>add_int q
theorem AQ:OpR X (binaryOp .Mod) (rI (fun _ j=>0 < j) fun i j=>.int (i % j)):=opI fun i j _ _ _ _ _ hc q=>by
 have h1:(0:Int) < j:=hc
 exact mod_int' (by omega) (by rw [Int.fmod_eq_emod_of_nonneg i (by omega)]; exact q)
theorem Bq:OpR X (binaryOp .Pow) (rI CPow fun i j=>.int (i ^ j.toNat)):=opI fun _ _ _ _ _ _ _ hc q=>pow_int_small hc.1 hc.2.1 hc.2.2 q
theorem unI {f:Value→Sem Value} {g:Int→Int}
  (rule:∀ (i:Int) (t:Tok) (s:Shared) (Q:Value→Shared→Prop) (E:Value→Shared→Prop),Q (.int (g i) s.toks) { s with toks:=s.toks + 1 }→wpAny (model X.prog X.w) X.A (f (.int i t)) Q E s) :
  UnR X f (rU fun i=>.int (g i)):=by
 intro pins s σ H x v Q I rx h
 obtain ⟨i,rfl,q⟩:=h
 obtain ⟨t,rfl⟩:=rx
 exact rule i t s _ _ ⟨.int (g i),H,I.tok _,⟨_,rfl⟩,q⟩
theorem BI:UnR X (unaryOp .USub) (rU fun i=>.int (-i)):=unI fun _ _ _ _ _ q=>neg_int q
end
def scal:V→V→Bool
 | .non,.non=>true | .non,.int _=>true | .int _,.non=>true | .non,.bl _=>true | .bl _,.non=>true | .non,.str _=>true | .str _,.non=>true
 | .int _,.int _=>true | .bl _,.bl _=>true | .str _,.str _=>true | .byt _,.byt _=>true
 | .int _,.str _=>true | .str _,.int _=>true | .bl _,.str _=>true | .str _,.bl _=>true
 | _,_=>false
def rEq:R2:=fun x y H Q=>scal x y = true∧Q (.bl (decide (x = y))) H
def rNe:R2:=fun x y H Q=>scal x y = true∧Q (.bl (!decide (x = y))) H
theorem tP {i j:Int}:decide (V.int i = V.int j) = (i == j):=by
 rw [Bool.eq_iff_iff]
 simp
theorem xt {i j:Bool}:decide (V.bl i = V.bl j) = (i == j):=by
 rw [Bool.eq_iff_iff]
 simp
theorem kr {i j:Str}:decide (V.str i = V.str j) = (i == j):=by
 rw [Bool.eq_iff_iff]
 simp
theorem sj {i j:Array UInt8}:decide (V.byt i = V.byt j) = (i.toList == j.toList):=by
 rw [Bool.eq_iff_iff]
 cases i
 cases j
 simp
section
variable {X:Cx} {a b c:Expr} {ta tb tc:TE} {pos:Pos}
theorem bg {pins:List (Addr×Obj)} {σ : St} {H:Hp} {s:Shared} {Q:VK} {k k':Bool} (I:Inv X pins σ H s) (q:Q (.bl k) H) (e:k = k'):EP X pins σ Q (.bool k') s:=by
 subst e
 exact ⟨.bl k,H,I,rfl,q⟩
theorem Ib:OpR X (compareOp .Eq) rEq:=by
 intro pins s σ H x y v u Q I rx ry h
 obtain ⟨hs,q⟩:=h
 cases x with
 | non =>
  cases rx
  cases y with
  | non=>cases ry; exact PySem.EqNone.eq_none_none (bg I q (by simp))
  | bl j=>cases ry; exact PySem.EqNone.eq_none_bool (bg I q (by simp))
  | int j=>obtain ⟨t',rfl⟩:=ry; exact PySem.EqNone.eq_none_int (bg I q (by simp))
  | str j=>obtain ⟨t',rfl⟩:=ry; exact PySem.EqNone.eq_none_str (bg I q (by simp))
  | _=>exact absurd (show false = true from hs) Bool.false_ne_true
 | bl i =>
  cases rx
  cases y with
  | non=>cases ry; exact PySem.EqNone.eq_bool_none (bg I q (by simp))
  | bl j=>cases ry; exact eq_bool (bg I q xt)
  | str j=>obtain ⟨t',rfl⟩:=ry; exact PySem.EqMixed.eq_bool_str (bg I q (by simp))
  | _=>exact absurd (show false = true from hs) Bool.false_ne_true
 | int i =>
  obtain ⟨t,rfl⟩:=rx
  cases y with
  | non=>cases ry; exact PySem.EqNone.eq_int_none (bg I q (by simp))
  | int j=>obtain ⟨t',rfl⟩:=ry; exact eq_int (bg I q tP)
  | str j=>obtain ⟨t',rfl⟩:=ry; exact PySem.EqMixed.eq_int_str (bg I q (by simp))
  | _=>exact absurd (show false = true from hs) Bool.false_ne_true
 | str i =>
  obtain ⟨t,rfl⟩:=rx
  cases y with
  | non=>cases ry; exact PySem.EqNone.eq_str_none (bg I q (by simp))
  | bl j=>cases ry; exact PySem.EqMixed.eq_str_bool (bg I q (by simp))
  | int j=>obtain ⟨t',rfl⟩:=ry; exact PySem.EqMixed.eq_str_int (bg I q (by simp))
  | str j=>obtain ⟨t',rfl⟩:=ry; exact eq_str (bg I q kr)
  | _=>exact absurd (show false = true from hs) Bool.false_ne_true
 | byt i =>
  obtain ⟨t,rfl⟩:=rx
  cases y with
  | byt j=>obtain ⟨t',rfl⟩:=ry; exact PySem.W.eq_bytes (bg I q sj)
  | _=>exact absurd (show false = true from hs) Bool.false_ne_true
 | _=>cases y <;> exact absurd (show false = true from hs) Bool.false_ne_true
theorem GN:OpR X (compareOp .NotEq) rNe:=by
 intro pins s σ H x y v u Q I rx ry h
 obtain ⟨hs,q⟩:=h
 cases x with
 | non =>
  cases rx
  cases y with
  | non=>cases ry; exact PySem.EqNone.ne_none_none (bg I q (by simp))
  | bl j=>cases ry; exact PySem.EqNone.ne_none_bool (bg I q (by simp))
  | int j=>obtain ⟨t',rfl⟩:=ry; exact PySem.EqNone.ne_none_int (bg I q (by simp))
  | str j=>obtain ⟨t',rfl⟩:=ry; exact PySem.EqNone.ne_none_str (bg I q (by simp))
  | _=>exact absurd (show false = true from hs) Bool.false_ne_true
 | bl i =>
  cases rx
  cases y with
  | non=>cases ry; exact PySem.EqNone.ne_bool_none (bg I q (by simp))
  | bl j=>cases ry; exact ne_bool (bg I q (congrArg not xt))
  | str j=>obtain ⟨t',rfl⟩:=ry; exact PySem.EqMixed.ne_bool_str (bg I q (by simp))
  | _=>exact absurd (show false = true from hs) Bool.false_ne_true
 | int i =>
  obtain ⟨t,rfl⟩:=rx
  cases y with
  | non=>cases ry; exact PySem.EqNone.ne_int_none (bg I q (by simp))
  | int j=>obtain ⟨t',rfl⟩:=ry; exact ne_int (bg I q (congrArg not tP))
  | str j=>obtain ⟨t',rfl⟩:=ry; exact PySem.EqMixed.ne_int_str (bg I q (by simp))
  | _=>exact absurd (show false = true from hs) Bool.false_ne_true
 | str i =>
  obtain ⟨t,rfl⟩:=rx
  cases y with
  | non=>cases ry; exact PySem.EqNone.ne_str_none (bg I q (by simp))
  | bl j=>cases ry; exact PySem.EqMixed.ne_str_bool (bg I q (by simp))
  | int j=>obtain ⟨t',rfl⟩:=ry; exact PySem.EqMixed.ne_str_int (bg I q (by simp))
  | str j=>obtain ⟨t',rfl⟩:=ry; exact ne_str (bg I q (congrArg not kr))
  | _=>exact absurd (show false = true from hs) Bool.false_ne_true
 | byt i =>
  obtain ⟨t,rfl⟩:=rx
  cases y with
  | byt j=>obtain ⟨t',rfl⟩:=ry; exact PySem.W.ne_bytes (bg I q (congrArg not sj))
  | _=>exact absurd (show false = true from hs) Bool.false_ne_true
 | _=>cases y <;> exact absurd (show false = true from hs) Bool.false_ne_true
theorem Gz:OpR X (compareOp .Lt) (rI0 fun i j=>.bl (decide (i < j))):=opB0 fun _ _ _ _ _ _ _ q=>lt_int q
theorem Gq:OpR X (compareOp .LtE) (rI0 fun i j=>.bl (decide (i≤j))):=opB0 fun _ _ _ _ _ _ _ q=>le_int q
theorem Fx:OpR X (compareOp .Gt) (rI0 fun i j=>.bl (decide (j < i))):=opB0 fun _ _ _ _ _ _ _ q=>gt_int q
theorem GJ:OpR X (compareOp .GtE) (rI0 fun i j=>.bl (decide (j≤i))):=opB0 fun _ _ _ _ _ _ _ q=>ge_int q
theorem zw:OpR X (compareOp .IsNot) (fun x y H Q=>y = .non∧Q (.bl (!decide (x = .non))) H):=by
 intro pins s σ H x y v u Q I rx ry h
 obtain ⟨rfl,q⟩:=h
 cases ry
 refine isnot_none_gen (bg I q ?_)
 cases x <;> first
  | (cases rx; rfl)
  | (obtain ⟨t,rfl⟩:=rx; rfl)
theorem av (b:Expr) {op:CmpOp} (h:op≠.In:=by decide) (h2:op≠.NotIn:=by decide):behindInMarks op b = false:=by
 have e1:(op == CmpOp.In) = false:=by cases op <;> first | rfl | exact absurd rfl h
 have e2:(op == CmpOp.NotIn) = false:=by cases op <;> first | rfl | exact absurd rfl h2
 cases b <;> simp [behindInMarks,e1,e2]
theorem zg {op:CmpOp} {r:R2} (ho:OpR X (compareOp op) r) (ha:PE X a ta) (hb:PE X b tb) (hm:behindInMarks op b = false):PE X (.Compare a [op] [b] pos) (tOp r ta tb):=by
 intro pins s σ H Q I h
 exact wpAny_Compare1 (binT ha hb I h fun v u s2 x y H2 I2 rx ry q=>ho pins s2 σ H2 x y v u Q I2 rx ry q) hm
def Cz (t:TE):TT:=fun σ H Q=>t σ H fun x H'=>∃ k,x = .bl k∧Q k H'
theorem zQ {op:CmpOp} {r:R2} (ho:OpR X (compareOp op) r) (ha:PE X a ta) (hb:PE X b tb) (hm:behindInMarks op b = false):PT X (.Compare a [op] [b] pos) (Cz (tOp r ta tb)):=by
 intro pins s σ H Q I h
 refine wpAny_isTrue_Compare1 (thn (ha pins s σ H _ I h) fun v s1 ⟨x,H1,I1,r1,q1⟩=>thn (hb pins s1 σ H1 _ I1 q1) fun u s2 ⟨y,H2,I2,r2,q2⟩ =>
  thn (ho pins s2 σ H2 x y v u _ I2 r1 r2 q2) fun c s3 ⟨z,H3,I3,r3,k,e,q3⟩=>?_) hm
 subst e
 cases r3
 exact wpAny_truthy_bool ⟨H3,I3,q3⟩
theorem jW:(sizeLine:Nat) < 2 ^ 63:=by rw [sizeLine_eq]; decide
theorem qK:OpR X (binaryOp .Add) (fun x y H Q=>∃ i j,x = .str i∧y = .str j∧i.length + j.length≤sizeLine∧Q (.str (i++j)) H):=by
 intro pins s σ H x y v u Q I rx ry h
 obtain ⟨i,j,rfl,rfl,hz,q⟩:=h
 obtain ⟨t,rfl⟩:=rx
 obtain ⟨t',rfl⟩:=ry
 exact add_str (fun t' tk=>⟨.str (i++j),H,I.tok _,⟨_,rfl⟩,q⟩) hz
theorem mT {x:V} {us:List Value} (r:Vals [x] us):∃ u,us = [u]∧RelV x u:=by
 cases r with
 | cons r1 r2=>cases r2; exact ⟨_,rfl,r1⟩
theorem vD:c6 X (.builtin "abs") (fun xs H Q=>∃ i,xs = [.int i]∧Q (.int (if i < 0 then -i else i)) H):=by
 intro pins s σ H xs us Q I r h
 obtain ⟨i,rfl,q⟩:=h
 obtain ⟨u,rfl,t,rfl⟩:=mT r
 exact call_abs_int fun u tk=>⟨.int (if i < 0 then -i else i),H,I.tok _,⟨_,rfl⟩,q⟩
theorem ml:c6 X (.type "int") (fun xs H Q=>(∃ i,xs = [.int i]∧Q (.int i) H)∨∃ k,xs = [.bl k]∧Q (.int (if k then 1 else 0)) H):=by
 intro pins s σ H xs us Q I r h
 rcases h with ⟨i,rfl,q⟩ | ⟨k,rfl,q⟩
 ·obtain ⟨u,rfl,t,rfl⟩:=mT r
  exact call_int_int ⟨.int i,H,I,⟨_,rfl⟩,q⟩
 ·obtain ⟨u,rfl,r1⟩:=mT r
  cases r1
  exact call_int_bool ⟨.int (if k then 1 else 0),H,I.tok _,⟨_,rfl⟩,q⟩
end
theorem RelO.some_of {v:V} {o:Option Value} (r:RelO (some v) o):∃ u,o = some u∧RelV v u:=by
 cases o with
 | none=>exact (show False from r).elim
 | some u=>exact ⟨u,rfl,r⟩
theorem RelO.none_of {o:Option Value} (r:RelO none o):o = none:=by
 cases o with
 | none=>rfl
 | some u=>exact (show False from r).elim
structure Room (k:Nat) (A:Around):Prop where
 hd:A.handled = none
 dp:A.depth + 3 * k + 5 < recursionLimit
 un:A.units + 16 * k + 200 < cLine
 gd:A.guards = some []
theorem Room.mono {j k:Nat} {A:Around} (r:Room k A) (h:j≤k):Room j A:=⟨r.hd,by have:=r.dp; omega,by have:=r.un; omega,r.gd⟩
theorem Room.deeper {k:Nat} {A:Around} (r:Room (k + 1) A) (env:Env):Room k (A.deeper env) :=
 ⟨r.hd,by have:=r.dp; show A.depth + 1 + 3 * k + 5 < _; omega,by have:=r.un; show A.units + 3 + 16 * k + 200 < _; omega,r.gd⟩
theorem Room.depth {k:Nat} {A:Around} (r:Room k A):A.depth < recursionLimit:=by have:=r.dp; omega
theorem Room.units {k:Nat} {A:Around} (r:Room k A):A.units + 64 < cLine:=by have:=r.un; omega
def tNil:TA:=fun _ H Q=>Q [] H
def Iq (ta:TE) (tr:TA):TA:=fun σ H Q=>ta σ H fun x H1=>tr σ H1 fun xs H2=>Q (x :: xs) H2
section
variable {X:Cx} {e:Expr} {es:List Expr} {te:TE} {t:TA} {pos:Pos}
theorem wM:PA X [] tNil:=fun _ _ _ _ H Q I h=>Calls.spliced_nil ⟨[],H,I,.nil,h⟩
theorem x8 (ha:PE X e te) (hr:PA X es t) (hs:starEach (e :: es) X.env = (false,eval e X.env) :: starEach es X.env:=by rfl):PA X (e :: es) (Iq te t):=by
 intro pos pins s σ H Q I h
 rw [hs]
 show wpAny _ _ (spliced ((false,eval e X.env) :: backTo pos (starEach es X.env))) _ _ s
 refine Calls.spliced_cons (thn (ha pins s σ H _ I h) fun u s1 ⟨x,H1,I1,r1,q1⟩=>?_)
 exact thn (hr pos pins s1 σ H1 _ I1 q1) fun us s2 ⟨xs,H2,I2,r2,q2⟩=>⟨x :: xs,H2,I2,.cons r1 r2,q2⟩
def tTup (t:TA):TE:=fun σ H Q=>t σ H fun xs H1=>xs.length≤sizeLine∧∀ p,H1 p = none→Q (.ref p) (upd H1 p (.tup xs))
def tLst (t:TA):TE:=fun σ H Q=>t σ H fun xs H1=>xs.length≤sizeLine∧∀ p,H1 p = none→Q (.ref p) (upd H1 p (.lst xs))
theorem C5 {x1} (h:PA X es t):PE X (.Tuple es x1 pos) (tTup t):=by
 intro pins s σ H Q I hq
 refine wpAny_Tuple_spliced (thn (h pos pins s σ H _ I hq) fun us s1 ⟨xs,H1,I1,r,z,q⟩=>⟨by rw [←r.length]; exact z,?_⟩)
 have hf:H1 s1.heap.objs.size = none:=I1.hok.fresh (Nat.le_refl _)
 refine ⟨.ref s1.heap.objs.size,upd H1 s1.heap.objs.size (.tup xs),I1.laid (t':=s1.toks) (fun b u e=>Heap.get?_push_of_some _ e) (Nat.le_refl _) ?_,rfl,q _ hf⟩
 exact ⟨z,us,r,⟨_,Heap.get?_push_size _ rfl,rfl,rfl,_,rfl⟩⟩
theorem xy (h:PA X es t):PE X (.List es pos) (tLst t):=by
 intro pins s σ H Q I hq
 refine wpAny_List_spliced (thn (h pos pins s σ H _ I hq) fun us s1 ⟨xs,H1,I1,r,z,q⟩=>⟨by rw [←r.length]; exact z,?_⟩)
 have hf:H1 s1.heap.objs.size = none:=I1.hok.fresh (Nat.le_refl _)
 refine ⟨.ref s1.heap.objs.size,upd H1 s1.heap.objs.size (.lst xs),I1.laid (t':=s1.toks) (fun b u e=>Heap.get?_push_of_some _ e) (Nat.le_refl _) ?_,rfl,q _ hf⟩
 exact ⟨z,us,0,r,Heap.get?_push_size _ rfl⟩
end
abbrev Sp:=List V→Hp→VK→XK→Prop
abbrev CXT:=List Env→Hp→Shared→XK→Value→Shared→Prop
structure Env0 (P:Program) (w:World) (K:PySem.W.Frag) (mg:Str→Option Value) (base:Heap) (A:Around) (outer:List Env) (s:Shared) (H:Hp):Prop where
 frames:A.frames = some outer
 mod:Mod K mg base
 bs:∀ b o,base.get? b = some o→s.heap.get? b = some o∧H b = none
 bsz:base.objs.size≤s.heap.objs.size
 funs:s.heap.FunFrames base outer
 frf:∀ b∈frs outer,H b = none
 hok:HOk P w H s.heap
 bare:AllBare s.gens
def CE (outer:List Env) (P:Program) (w:World) (H:Hp) (s:Shared) (Q:VK) (u:Value) (s':Shared):Prop :=
 ∃ v H',s'.os = s.os∧AllBare s'.gens∧Un (frs outer) [] H H' s.heap s'.heap∧HOk P w H' s'.heap∧RelV v u∧Q v H'
def CR (CX:CXT) (outer:List Env) (P:Program) (w:World) (H:Hp) (s:Shared) (Q:VK) (E:XK) (r:Result) (s':Shared):Prop :=
 match r with
 | .ok (.ret u)=>CE outer P w H s Q u s'
 | .ok _=>False
 | .error e=>CX outer H s E e s'
structure FnOk (P:Program) (w:World) (K:PySem.W.Frag) (mg:Str→Option Value) (base:Heap) (CX:CXT) (k:Nat) (f:Addr) (fd:FuncData) (ps:List Str) (sp:Sp):Prop where
 len:∀ vs H Q E,sp vs H Q E→vs.length = ps.length
 run:∀ (A:Around) (outer:List Env) (s:Shared) (H:Hp) (args:Args) (us:List Value) (vs:List V) (Q:VK) (E:XK),Room k A→Env0 P w K mg base A outer s H→BindsTo s fd args (ps.zip us)→Vals vs us→sp vs H Q E →
  codeAny (model P w) A (.call (.ref f) args) (CR CX outer P w H s Q E) s
section
variable {X:Cx} {pins:List (Addr×Obj)} {σ : St} {H:Hp} {s s':Shared}
theorem Inv.env0 (I:Inv X pins σ H s):Env0 X.prog X.w X.K X.mg X.base X.A X.stack s H :=
 ⟨I.ok.frames,I.ok.mod,I.bs,Nat.le_trans I.ok.bsz I.sz,I.stack,I.stkFree,I.hok,I.bare⟩
theorem Inv.after {Q:VK} {u:Value} (I:Inv X pins σ H s) (h:CE X.stack X.prog X.w H s Q u s'):EP X pins σ Q u s':=by
 obtain ⟨v,H',os,bare,un,hok,r,q⟩:=h
 obtain ⟨hh,g,d,t,os'⟩:=s'
 obtain rfl:os' = s.os:=os
 exact ⟨v,H',I.call (h':=hh) (g':=g) (d':=d) (t':=t) (ch:=[]) un hok bare (fun b z=>absurd z (by simp)),r,q⟩
end
def Cf (sp:Sp) (dvs:List V) (E:XK) (t:TA):TE:=fun σ H Q=>t σ H fun vs H1=>sp (vs++dvs) H1 Q E
def Binds (K:PySem.W.Frag) (fd:FuncData) (ps:List Str) (ds:List Value):Prop :=
 ∀ (s:Shared) (us:List Value),K.In s.heap→(us++ds).length = ps.length→BindsTo s fd ⟨us,[]⟩ (ps.zip (us++ds))
theorem Binds.all {K:PySem.W.Frag} {fd:FuncData} {ps:List Str} (h:∀ us:List Value,us.length = ps.length→bindArgs fd ⟨us,[]⟩ = pure (ps.zip us)):Binds K fd ps []:=fun s us _ hl=>by
 rw [List.append_nil] at hl ⊢
 exact .of_eq (h us hl)
def pG (CX:CXT) (X:Cx) (E:XK):Prop:=∀ (pins:List (Addr×Obj)) (σ : St) (H:Hp) (s:Shared) (e:Value) (s':Shared),Inv X pins σ H s→CX X.stack H s E e s'→X.xe e s'
section
variable {X:Cx} {CX:CXT} {k:Nat} {f C:Addr} {fd:FuncData} {ps:List Str} {sp:Sp} {dvs:List V} {ds:List Value} {E:XK} {x m:Str} {p pos apos:Pos} {e o:Expr} {es:List Expr} {ta:TE} {t:TA}
theorem CJ {pins:List (Addr×Obj)} {σ : St} {H:Hp} {s:Shared} {Q:VK} {us:List Value} {vs:List V} (F:FnOk X.prog X.w X.K X.mg X.base CX k f fd ps sp) (hr:Room k X.A) (hb:Binds X.K fd ps ds) (hd:Vals dvs ds) (hx:pG CX X E)
  (I:Inv X pins σ H s) (r:Vals vs us) (h:sp (vs++dvs) H Q E):wpAny (model X.prog X.w) X.A (call (.ref f) us) (EP X pins σ Q) X.xe s:=by
 have r2:Vals (vs++dvs) (us++ds):=r.append hd
 have hl:(us++ds).length = ps.length:=by rw [←r2.length]; exact F.len _ _ _ _ h
 refine wpAny_call (codeAny_mono (F.run X.A X.stack s H ⟨us,[]⟩ (us++ds) (vs++dvs) Q E hr I.env0 (hb s us I.kIn hl) r2 h) fun r s' hq=>?_)
 cases r with
 | error e=>exact hx pins σ H s e s' I hq
 | ok fl =>
  cases fl with
  | ret u=>exact I.after hq
  | next=>exact False.elim hq
  | brk=>exact False.elim hq
  | cont=>exact False.elim hq
theorem zP (F:FnOk X.prog X.w X.K X.mg X.base CX k f fd ps sp) (hr:Room k X.A) (hg:Gl X x) (hm:X.mg x = some (.ref f)) (hk:PySem.W.keepIn X.K (.ref f) = true) (hb:Binds X.K fd ps ds) (hd:Vals dvs ds) (hx:pG CX X E)
  (ha:PA X (e :: es) t) (hdb:(x == ("__debug__" : Str)) = false:=by decide) (he:starEach (e :: es) X.env = (false,eval e X.env) :: starEach es X.env:=by rfl) (hpl:(backTo pos (starEach es X.env)).any (·.1) = false:=by rfl) :
  PE X (.Call (.Name x p) (e :: es) [] pos) (Cf sp dvs E t):=by
 intro pins s σ H Q I h
 refine wpAny_Call_Name_kw (yc I hg hm ?_ hdb)
 refine PySem.W.callWith_K (h₀:=X.base) I.ok.mod.kin hk (thn (ha pos pins s σ H _ I h) fun us s1 ⟨vs,H1,I1,r,q⟩=>⟨I1.kIn,?_⟩) he hpl
 exact CJ F hr hb hd hx I1 r q
end
structure aB (N P:List Str) (sc:Scope):Prop where
 kind:sc.kind = .function
 co:sc.isCoroutine = false
 gen:sc.isGenerator = false
 nd:N.Nodup
 pre:N.take P.length = P
 par:∀ x∈P,sc.names.lookup x = some .local∨sc.names.lookup x = some .cell
 nofree:∀ y∈sc.names,y.2≠.free
theorem ls {kindOf:Str→Option NameKind} {x:Str}:∀ {binds:List (Str×Value)} {m:Str→Option Value},(∀ v,(x,v)∉binds)→bindL kindOf binds m x = m x
 | [],_,_=>rfl
 | (n,v) :: r,m,h=>by
  unfold bindL
  rw [ls fun w hw=>h w (List.mem_cons_of_mem _ hw)]
  split
  ·have:x≠n:=by rintro rfl; exact h v List.mem_cons_self
   simp [this]
  ·rfl
theorem l4 {kindOf:Str→Option NameKind} {x:Str}:∀ {binds:List (Str×Value)} {m:Str→Option Value},(∀ v,(x,v)∉binds)→bindC kindOf binds m x = m x
 | [],_,_=>rfl
 | (n,v) :: r,m,h=>by
  unfold bindC
  rw [l4 fun w hw=>h w (List.mem_cons_of_mem _ hw)]
  split
  ·rfl
  ·have:x≠n:=by rintro rfl; exact h v List.mem_cons_self
   simp [this]
theorem mD {kindOf:Str→Option NameKind} {x:Str} {v:Value}:∀ {P:List Str} {vs:List Value} {i:Nat} {m:Str→Option Value},P.Nodup→P[i]? = some x→vs[i]? = some v→kindOf x = some .local →
  bindL kindOf (P.zip vs) m x = some v
 | [],_,_,_,_,h,_,_=>by simp at h
 | _ :: _,[],_,_,_,_,h,_=>by simp at h
 | p :: P,w :: vs,0,m,nd,h1,h2,hk=>by
  simp at h1 h2; subst h1; subst h2
  show bindL kindOf ((p,w) :: P.zip vs) m p = _
  unfold bindL
  rw [ls fun v hv=>(List.nodup_cons.mp nd).1 (List.of_mem_zip hv).1,if_pos hk]
  simp
 | p :: P,w :: vs,i + 1,m,nd,h1,h2,hk=>by
  show bindL kindOf ((p,w) :: P.zip vs) m x = _
  unfold bindL
  exact mD (i:=i) (List.nodup_cons.mp nd).2 (by simpa using h1) (by simpa using h2) hk
theorem lU {kindOf:Str→Option NameKind} {x:Str} {v:Value}:∀ {P:List Str} {vs:List Value} {i:Nat} {m:Str→Option Value},P.Nodup→P[i]? = some x→vs[i]? = some v→kindOf x≠some .local →
  bindC kindOf (P.zip vs) m x = some v
 | [],_,_,_,_,h,_,_=>by simp at h
 | _ :: _,[],_,_,_,_,h,_=>by simp at h
 | p :: P,w :: vs,0,m,nd,h1,h2,hk=>by
  simp at h1 h2; subst h1; subst h2
  show bindC kindOf ((p,w) :: P.zip vs) m p = _
  unfold bindC
  rw [l4 fun v hv=>(List.nodup_cons.mp nd).1 (List.of_mem_zip hv).1,if_neg hk]
  simp
 | p :: P,w :: vs,i + 1,m,nd,h1,h2,hk=>by
  show bindC kindOf ((p,w) :: P.zip vs) m x = _
  unfold bindC
  exact lU (i:=i) (List.nodup_cons.mp nd).2 (by simpa using h1) (by simpa using h2) hk
def start (N:List Str) (vs:List V):St:=vs.map some++List.replicate (N.length - vs.length) none
def cxOf (CX:CXT) (P:Program) (w:World) (K:PySem.W.Frag) (mg:Str→Option Value) (base:Heap) (N:List Str) (qual:Str) (scope:Scope) (f:Addr) (cd:Value) (A:Around) (outer:List Env) (s:Shared) (H:Hp) (E:XK):Cx where
 prog:=P
 w:=w
 K:=K
 mg:=mg
 base:=base
 A:=A.deeper (envOfC qual scope s.heap.objs.size f cd)
 N:=N
 s₀:=s
 H₀:=H
 env:=envOfC qual scope s.heap.objs.size f cd
 outer:=outer
 stack:=envOfC qual scope s.heap.objs.size f cd :: outer
 ex:=[]
 calm:=true
 fn:=fun _=>true
 pn:=[]
 xe:=fun e s'=>wpAny (model P w) (A.deeper (envOfC qual scope s.heap.objs.size f cd)) (leaving (envOfC qual scope s.heap.objs.size f cd) e) (fun _ s''=>CX outer H s E e s'') (fun e' s''=>CX outer H s E e' s'') s'
theorem p8 {sc:Scope} {n:Nat} {x:Str} (h:sc.names.lookup x = some .cell):∃ c,(cellsFrom n sc.names []).lookup x = some c:=by
 have q:=PySem.W.cellsFrom_some sc.names n [] (.inl h)
 exact Option.isSome_iff_exists.mp q
theorem rH {CX:CXT} {P:Program} {w:World} {K:PySem.W.Frag} {mg:Str→Option Value} {base:Heap} {N ps:List Str} {qual:Str} {scope:Scope} {f:Addr} {cd:Value} {A:Around} {outer:List Env} {s s1:Shared} {H:Hp} {E:XK} {us:List Value} {vs:List V}
  (S:aB N ps scope) (hd:A.handled = none) (e0:Env0 P w K mg base A outer s H) (hl:vs.length = ps.length) (r:Vals vs us)
  (x:InCallC s s.heap.objs.size (bindL (envOfC qual scope s.heap.objs.size f cd).kindOf (ps.zip us) fun _=>none) (cellsFrom (s.heap.objs.size + 1) scope.names []) (bindC (envOfC qual scope s.heap.objs.size f cd).kindOf (ps.zip us) fun _=>none) s1) :
  Inv (cxOf CX P w K mg base N qual scope f cd A outer s H E) [] (start N vs) H s1:=by
 have hpl:ps.length≤N.length:=by have:=congrArg List.length S.pre; rw [List.length_take] at this; omega
 obtain ⟨h1,tk,rfl,hk⟩:=x.done
 have noA:∀ b:Addr,b∉(cxOf CX P w K mg base N qual scope f cd A outer s H E).ex:=fun b z=>absurd (show b∈([]:List Addr) from z) (by simp)
 refine ⟨⟨e0.mod,S.kind,rfl,rfl,Nat.le_refl _,fun y z c h1 h2=>?_,fun y hy=>?_,fun y c _ h=>?_,fun _=>hd,Around.frames_deeper e0.frames,.inr ⟨rfl,rfl⟩,fun b z=>absurd z (noA b),e0.bs,e0.bsz,fun b _ _=>noA b,fun b z=>absurd z (noA b),e0.funs,e0.frf⟩,
  rfl,e0.bare,Un.kept hk,⟨_,x.toInCall.ns,fun i y v h1 h2 h3=>?_⟩,fun y c h=>⟨_,x.cell y c h⟩,e0.hok.fresh (Nat.le_refl _),fun y c h=>?_,fun p hp=>absurd (show p∈([]:List (Addr×Obj)) from hp) (by simp),e0.hok.kept hk,?_⟩
 ·exact name_of_addr x.apart (PySem.mem_of_lookup h1) (PySem.mem_of_lookup h2)
 ·have hy:scope.names.lookup y = some .cell∨scope.names.lookup y = some .free:=hy
  rcases hy with hy | hy
  ·exact p8 hy
  ·exact absurd rfl (S.nofree _ (PySem.mem_of_lookup hy))
 ·exact Nat.le_of_lt (x.above y c (PySem.mem_of_lookup h))
 ·have hi:i < vs.length:=by
   unfold start at h2
   by_cases hi:i < vs.length
   ·exact hi
   ·rw [List.getElem?_append_right (by simpa using hi)] at h2
    rw [List.getElem?_replicate] at h2
    split at h2 <;> cases h2
  have ha:vs[i]? = some v:=by
   unfold start at h2
   rw [List.getElem?_append_left (by simpa using hi),List.getElem?_map] at h2
   cases e:vs[i]? with
   | none=>rw [e] at h2; cases h2
   | some a=>rw [e] at h2; cases h2; rfl
  obtain ⟨u,hu,rv⟩:=r.get ha
  have hp:ps[i]? = some y:=by
   rw [←S.pre,List.getElem?_take_of_lt (by omega)]; exact h1
  have ndP:ps.Nodup:=by rw [←S.pre]; exact S.nd.sublist (List.take_sublist _ _)
  refine ⟨u,rv,?_⟩
  rcases S.par y (List.mem_of_getElem? hp) with k | k
  ·exact .inl ⟨k,mD ndP hp hu k⟩
  ·obtain ⟨c,e⟩:=p8 (n:=s.heap.objs.size + 1) k
   refine .inr ⟨.inl k,c,e,?_⟩
   have q:=x.cell y c e
   rw [lU ndP hp hu (by show scope.names.lookup y≠_; rw [k]; decide)] at q
   exact q
 ·exact e0.hok.fresh (Nat.le_of_lt (x.above y c (PySem.mem_of_lookup h)))
 ·unfold start
  show _ = N.length
  rw [List.length_append,List.length_map,List.length_replicate]
  omega
theorem FC {CX:CXT} {P:Program} {w:World} {K:PySem.W.Frag} {mg:Str→Option Value} {base:Heap} {k:Nat} {f:Addr} {name qual:Str} {params:Arguments} {body:List Stmt} {scope:Scope} {dV kV doc pm cdv ct oc:Value} {an od:Option Addr}
  {osl:Array (Option Value)} {N ps:List Str} {sp:Sp} (lk:K.lookup f = some ⟨oc,od,.func (PySem.W.fnOf name qual params body scope dV kV doc pm an cdv ct),osl⟩) (hcd:PySem.W.codeIn K cdv qual = true) (S:aB N ps scope)
  (len:∀ vs H Q E,sp vs H Q E→vs.length = ps.length)
  (hbody:∀ (A:Around) (outer:List Env) (s:Shared) (H:Hp) (vs:List V) (Q:VK) (E:XK),Room k (A.deeper (envOfC qual scope s.heap.objs.size f cdv))→sp vs H Q E →
   ∃ t,PSs (cxOf CX P w K mg base N qual scope f cdv A outer s H E) body t∧t { nx:=fun _ H'=>Q .non H',rt:=Q } (start N vs) H) :
  FnOk P w K mg base CX (k + 1) f (PySem.W.fnOf name qual params body scope dV kV doc pm an cdv ct) ps sp:=by
 refine ⟨len,fun A outer s H args us vs Q E hr e0 hb r hsp=>?_⟩
 have hl:=len _ _ _ _ hsp
 have KX:K.In s.heap:=e0.mod.kin.keeps fun b o e=>(e0.bs b o e).1
 have lim:s.heap.NoLimit:=e0.mod.nolimit.keeps fun b o e=>(e0.bs b o e).1
 have hkind:∀ y∈ps.zip us,scope.names.lookup y.1 = some .local∨(scope.names.lookup y.1 = some .cell∧((cellsFrom (s.heap.objs.size + 1) scope.names []).lookup y.1).isSome = true):=fun ⟨n,v⟩ hy=>by
  rcases S.par n (List.of_mem_zip hy).1 with q | q
  ·exact .inl q
  ·exact .inr ⟨q,PySem.W.cellsFrom_some _ _ _ (.inl q)⟩
 refine codeAny_call_function hr.depth (KX _ _ lk) rfl S.co S.gen rfl (PySem.W.codeRec_of KX hcd) (hb _ _ _ _ ?_)
 refine wpAny_newFunctionEnv_cells S.kind hkind fun env he s1 x=>?_
 subst he
 refine ⟨lim.keeps x.toInCall.keep,codeAny_func ?_⟩
 obtain ⟨t,ht,hq⟩:=hbody A outer s H vs Q E (hr.deeper _) hsp
 have I:Inv (cxOf CX P w K mg base N qual scope f cdv A outer s H E) [] (start N vs) H s1:=rH S hr.hd e0 hl r x
 refine wpAny_mono (ht [] s1 (start N vs) H _ I hq) (fun fl s' hs=>?_) fun e s' hs=>hs
 have fin:∀ {σ':St} {H':Hp} {v:V} {u:Value},Inv (cxOf CX P w K mg base N qual scope f cdv A outer s H E) [] σ' H' s'→RelV v u→Q v H'→CE outer P w H s Q u s' :=
  fun {σ' H' v u} J rv q=>⟨v,H',J.os,J.bare,J.base,J.hok,rv,q⟩
 cases fl with
 | ret u =>
  obtain ⟨v,σ',H',J,rv,q⟩:=hs
  exact fin J rv q
 | next =>
  obtain ⟨σ',H',J,q⟩:=hs
  exact fin (v:=V.non) (u:=Value.none) J rfl q
 | brk =>
  obtain ⟨_,_,_,q⟩:=hs
  exact False.elim q
 | cont =>
  obtain ⟨_,_,_,q⟩:=hs
  exact False.elim q
section
variable {X:Cx} {x:Str} {p pos:Pos} {e:Expr} {es:List Expr} {t:TA} {id T:String} {r:List V→Hp→VK→Prop}
def tCB (r:List V→Hp→VK→Prop) (t:TA):TE:=fun σ H Q=>t σ H fun vs H1=>r vs H1 Q
theorem vJ (hc:c6 X (.builtin id) r) (hg:Gl X x) (hm:X.mg x = none) (hv:bootBuiltins x = some (.builtin id)) (ha:PA X (e :: es) t) (hn:x ≠ "__name__" := by decide) (hdb:(x == ("__debug__" : Str)) = false:=by decide)
  (he:starEach (e :: es) X.env = (false,eval e X.env) :: starEach es X.env:=by rfl) (hpl:(backTo pos (starEach es X.env)).any (·.1) = false:=by rfl):PE X (.Call (.Name x p) (e :: es) [] pos) (tCB r t):=by
 intro pins s σ H Q I h
 refine wpAny_Call_Name_kw (iY I hg hm hv ?_ hn hdb)
 exact PyProof.Rows.callWith_builtin1 (thn (ha pos pins s σ H _ I h) fun us s1 ⟨vs,H1,I1,r1,q1⟩=>hc pins s1 σ H1 vs us Q I1 r1 q1) he hpl
theorem sa (hc:c6 X (.type T) r) (hg:Gl X x) (hm:X.mg x = none) (hv:bootBuiltins x = some (.type T)) (ha:PA X (e :: es) t) (hn:x ≠ "__name__" := by decide) (hdb:(x == ("__debug__" : Str)) = false:=by decide)
  (he:starEach (e :: es) X.env = (false,eval e X.env) :: starEach es X.env:=by rfl) (hpl:(backTo pos (starEach es X.env)).any (·.1) = false:=by rfl):PE X (.Call (.Name x p) (e :: es) [] pos) (tCB r t):=by
 intro pins s σ H Q I h
 refine wpAny_Call_Name_kw (iY I hg hm hv ?_ hn hdb)
 exact PyProof.Rows.callWith_type1 (thn (ha pos pins s σ H _ I h) fun us s1 ⟨vs,H1,I1,r1,q1⟩=>hc pins s1 σ H1 vs us Q I1 r1 q1) he hpl
end
end L2
namespace HT
open PySem PyProof.Rows
section
variable {prog:Program} {w:World} {A:Around} {E:Value→Shared→Prop} {s:Shared}
theorem cat_tup {t b:Addr} {vs ws:List Value} {Q:Value→Shared→Prop} (ht:IsTup s.heap t vs.toArray) (hb:IsTup s.heap b ws.toArray) (hv:vs≠[])
  (h1:ws = []→Q (.ref t) s) (h2:ws≠[]→Q (.ref s.heap.objs.size) { s with heap:=s.heap.push { cls:=.type "tuple",data:=.seq (vs++ws).toArray } })
  (hsz:vs.length + ws.length≤sizeLine):wpAny (model prog w) A (binaryOp .Add (.ref t) (.ref b)) Q E s:=by
 obtain ⟨⟨cls,dd,data,sl⟩,ho,hc,n,hd⟩:=id ht
 obtain ⟨⟨cls2,dd2,data2,sl2⟩,ho2,hc2,n2,hd2⟩:=id hb
 simp only at hc hd hc2 hd2
 subst hc hd hc2 hd2
 have e:vs.toArray++ws.toArray = (vs++ws).toArray:=by simp
 by_cases hw:ws = []
 ·exact concat_meets ⟨_,ho,rfl⟩ ⟨_,ho2,rfl⟩ noFill_tuple_add seq_tuple_add PySem.F.slot_tuple_add PySem.F.entry_tuple_add (PySem.F.args_tuple_add_2 _ _)
   (tuple_addW1 t b vs.toArray ws.toArray n n2 dd dd2 sl sl2 (by simpa using hv) (by simp [hw])) ⟨ho,ho2,h1 hw⟩
 ·refine concat_meets ⟨_,ho,rfl⟩ ⟨_,ho2,rfl⟩ noFill_tuple_add seq_tuple_add PySem.F.slot_tuple_add PySem.F.entry_tuple_add (PySem.F.args_tuple_add_2 _ _)
   (tuple_addW2 t b vs.toArray ws.toArray n n2 dd dd2 sl sl2 (by simpa using hv) (by simpa using hw) (by rw [List.size_toArray,List.size_toArray]; exact hsz)) ⟨ho,ho2,?_⟩
  rw [e]
  exact h2 hw
def sIx (n d:Nat):Option Int→Nat
 | none=>d
 | some v=>if v < 0 then (v + (n:Int)).toNat else min v.toNat n
theorem sIx_none (n d:Nat):sIx n d none = d:=rfl
theorem sIx_nat (n d k:Nat):sIx n d (some (k:Int)) = min k n:=by
 show (if (k:Int) < 0 then ((k:Int) + (n:Int)).toNat else min (k:Int).toNat n) = min k n
 rw [if_neg (by omega),Int.toNat_natCast]
theorem AB (n d:Nat) (hd:d≤n) (o:Option Int):sIx n d o≤n:=by
 cases o with
 | none=>exact hd
 | some v =>
  show (if v < 0 then (v + (n:Int)).toNat else min v.toNat n)≤n
  by_cases hv:v < 0
  ·rw [if_pos hv]; omega
  ·rw [if_neg hv]; exact Nat.min_le_right _ _
theorem uD (v:Int) (n d:Nat):(if v < 0 then max (v + (n:Int)) 0 else min v (n:Int)) = ((sIx n d (some v):Nat):Int):=by
 show (if v < 0 then max (v + (n:Int)) 0 else min v (n:Int)) = (((if v < 0 then (v + (n:Int)).toNat else min v.toNat n):Nat):Int)
 by_cases hv:v < 0
 ·simp only [if_pos hv]; omega
 ·simp only [if_neg hv]; omega
theorem qp (lo hi:Option Int) (n:Nat):Builtin.Slice.sliceAdjust lo hi 1 (n:Int) = (((sIx n 0 lo:Nat):Int),((sIx n n hi:Nat):Int)):=by
 have h1:¬ ((1:Int) < 0):=by omega
 unfold Builtin.Slice.sliceAdjust
 simp only [h1,if_false]
 refine Prod.ext ?_ ?_
 ·cases lo with
  | none=>rfl
  | some v=>exact uD v n 0
 ·cases hi with
  | none=>rfl
  | some v=>exact uD v n n
theorem qB (i j:Nat):Builtin.Slice.slicePlaces (i:Int) (j:Int) 1 = j - i:=by
 unfold Builtin.Slice.slicePlaces
 have h1:(1:Int) > 0:=by omega
 simp only [h1,if_true,Int.ediv_one]
 split <;> omega
theorem jG {v:Value} {o:Option Int} {Q:Option Int→Shared→Prop} (p:IsPart v o) (h:Q o s):wpAny (model prog w) A (Builtin.Slice.slicePartIndex v) Q E s:=by
 cases p with
 | none=>exact slicePart_none h
 | int i t=>exact slicePart_int h
theorem d7 {sl:Addr} {vl vu:Value} {lo hi:Option Int} {n:Nat} {Q:Int×Int×Nat→Shared→Prop} (hs:s.heap.IsSliceOf sl vl vu .none) (pl:IsPart vl lo) (pu:IsPart vu hi)
  (h:Q (((sIx n 0 lo:Nat):Int),1,sIx n n hi - sIx n 0 lo) s):wpAny (model prog w) A (Builtin.Slice.sliceApplied (.ref sl) (pure (n:Int))) Q E s:=by
 obtain ⟨os,hos,hcs,hds⟩:=id hs
 unfold Builtin.Slice.sliceApplied Builtin.Slice.sliceFields
 refine wpAny_bind (wpAny_bind (wpAny_field hos hds (x:=vl) rfl (wpAny_bind (wpAny_field hos hds (x:=vu) rfl (wpAny_bind (wpAny_field hos hds (x:=.none) rfl (wpAny_pure ?_)))))))
 refine wpAny_bind (slicePart_none ?_)
 show wpAny _ _ (if ((1:Int) == 0) = true then _ else _) _ _ s
 rw [if_neg (by decide)]
 refine wpAny_bind (jG pl (wpAny_bind (jG pu (wpAny_bind (wpAny_pure ?_)))))
 show wpAny _ _ (match Builtin.Slice.sliceAdjust lo hi 1 (n:Int) with | (lo,hi)=>pure (lo,(1:Int),Builtin.Slice.slicePlaces lo hi 1)) _ _ s
 rw [qp lo hi n]
 show wpAny _ _ (pure (((sIx n 0 lo:Nat):Int),(1:Int),Builtin.Slice.slicePlaces ((sIx n 0 lo:Nat):Int) ((sIx n n hi:Nat):Int) 1)) _ _ s
 rw [qB]
 exact wpAny_pure h
theorem vX (xs:Array Value) (i k:Nat):((List.range k).filterMap fun (m:Nat)=>xs[((i:Int) + (m:Int) * 1).toNat]?).toArray = ((xs.toList.drop i).take k).toArray:=by
 have e:(fun (m:Nat)=>xs[((i:Int) + (m:Int) * 1).toNat]?) = fun m=>xs[i + m]?:=by
  funext m
  have:((i:Int) + (m:Int) * 1).toNat = i + m:=by omega
  rw [this]
 rw [e]
 have:=pick_run xs i k
 rw [List.filterMap_map] at this
 have e2:((fun x=>xs[x]?)∘fun x=>i + x) = fun m=>xs[i + m]?:=rfl
 rw [e2] at this
 rw [this]
theorem getItem_tuple_cut {t sl:Addr} {items:Array Value} {vl vu:Value} {lo hi:Option Int} {Q:Value→Shared→Prop} (ht:IsTup s.heap t items) (hs:s.heap.IsSliceOf sl vl vu .none) (pl:IsPart vl lo) (pu:IsPart vu hi)
  (hw:¬ (sIx items.size 0 lo = 0∧sIx items.size items.size hi = items.size))
  (h:Q (.ref s.heap.objs.size) { s with heap:=s.heap.push { cls:=.type "tuple",data:=.seq ((items.toList.drop (sIx items.size 0 lo)).take (sIx items.size items.size hi - sIx items.size 0 lo)).toArray } })
  (hsz:items.size≤sizeLine):wpAny (model prog w) A (getItem (.ref t) (.ref sl)) Q E s:=by
 have htake:sizeOk (.seq ((items.toList.drop (sIx items.size 0 lo)).take (sIx items.size items.size hi - sIx items.size 0 lo)).toArray):=by
  show ((items.toList.drop (sIx items.size 0 lo)).take (sIx items.size items.size hi - sIx items.size 0 lo)).toArray.size≤sizeLine
  rw [List.size_toArray,List.length_take,List.length_drop,Array.length_toList]
  omega
 have hj:sIx items.size items.size hi≤items.size:=AB _ _ (Nat.le_refl _) hi
 obtain ⟨os,hos,hcs,hds⟩:=id hs
 have hTs:s.TypeIs (.ref sl) "slice" := ⟨os,hos,hcs⟩
 unfold getItem
 try with_reducible refine wpAny_holding ?_
 first | refine wpAny_bind (wpAny_pure ?_) | skip
 refine wpAny_bind (wpAny_sequenceKey ht.typeIs (by decide) ?_)
 refine wpAny_bind (wpAny_callSpecial?_slot (name:=Str.ofString "__getitem__") ht.typeIs PyProof.Rows.slot_tuple_getitem
  (wpAny_call_entry PyProof.Rows.slot_tuple_getitem ht.typeIs entry_tuple_getitem ?_ (args_tuple_getitem _ _)))
 show wpAny _ _ (Builtin.Tuple.tupleItemsOf (.ref t) >>= _) _ _ s
 refine wpAny_bind (tupleItemsOf_ ht ?_)
 refine wpAny_bind (wpAny_typeOf hTs ?_)
 rw [if_pos (by decide)]
 refine wpAny_bind (d7 hs pl pu ?_)
 have hno:¬ ((((sIx items.size 0 lo:Nat):Int) == 0 && (1:Int) == 1 && (sIx items.size items.size hi - sIx items.size 0 lo) == items.size) = true):=by
  intro q
  rw [Bool.and_eq_true,Bool.and_eq_true] at q
  have q1:((sIx items.size 0 lo:Nat):Int) = 0:=eq_of_beq q.1.1
  have q2:sIx items.size items.size hi - sIx items.size 0 lo = items.size:=eq_of_beq q.2
  exact hw ⟨by omega,by omega⟩
 show wpAny _ _ (if (((sIx items.size 0 lo:Nat):Int) == 0 && (1:Int) == 1 && (sIx items.size items.size hi - sIx items.size 0 lo) == items.size) = true then _ else _) _ _ s
 rw [if_neg hno,vX]
 first
  | exact wpAny_bind (m:=Builtin.Tuple.tupleExact _) (wpAny_newObj_type (wpAny_pure ⟨_,rfl,wpAny_pure h⟩) htake)
  | exact wpAny_bind (m:=Builtin.Tuple.tupleExact _) (wpAny_newObj_type (wpAny_bind (wpAny_pure (wpAny_pure ⟨_,rfl,wpAny_pure h⟩))) htake)
  | exact wpAny_bind (wpAny_bind (m:=Builtin.Tuple.tupleExact _) (wpAny_newObj_type (wpAny_pure (wpAny_pure ⟨_,rfl,wpAny_pure h⟩)) htake))
  | exact wpAny_bind (wpAny_bind (m:=Builtin.Tuple.tupleExact _) (wpAny_newObj_type (wpAny_pure ⟨_,rfl,wpAny_pure h⟩) htake))
end
end HT
namespace L2
open PySem PySem.Spec PyProof.Rows
abbrev TO:=St→Hp→(Option Int→Hp→Prop)→Prop
def PO (X:Cx) (e:Option Expr) (t:TO):Prop :=
 ∀ (pins:List (Addr×Obj)) (s:Shared) (σ : St) (H:Hp) (Q:Option Int→Hp→Prop),Inv X pins σ H s→t σ H Q →
  wpAny (model X.prog X.w) X.A (evalPart e X.env) (fun u s'=>∃ o H',Inv X pins σ H' s'∧IsPart u o∧Q o H') X.xe s
def y8:TO:=fun _ H Q=>Q none H
def Fg (t:TE):TO:=fun σ H Q=>t σ H fun x H1=>∃ i,x = .int i∧Q (some i) H1
theorem ij {ns:List Int}:∀ {us:List Value},Vals (ns.map V.int) us→IntsAre us ns:=by
 induction ns with
 | nil=>intro us r; rw [List.map_nil] at r; cases r; exact .nil
 | cons n ns ih =>
  intro us r
  rw [List.map_cons] at r
  cases r with
  | cons r1 r2 =>
   obtain ⟨t,e⟩:=r1
   subst e
   exact .cons n t (ih r2)
section
variable {X:Cx} {e:Expr} {te:TE} {lo hi:Option Expr} {tl th:TO} {pos p2:Pos}
theorem Aa:PO X none y8:=by
 intro pins s σ H Q I h
 rw [evalPart_none]
 exact wpAny_pure ⟨none,H,I,.none,h⟩
theorem yD (h:PE X e te):PO X (some e) (Fg te):=by
 intro pins s σ H Q I hw
 rw [evalPart_some]
 refine thn (h pins s σ H _ I hw) fun u s1 ⟨x,H1,I1,r1,q1⟩=>?_
 obtain ⟨i,rfl,q⟩:=q1
 obtain ⟨t,rfl⟩:=r1
 exact ⟨some i,H1,I1,.int i t,q⟩
def SlR (X:Cx) (r:V→Option Int→Option Int→Hp→VK→Prop):Prop :=
 ∀ (pins:List (Addr×Obj)) (s:Shared) (σ : St) (H:Hp) (x:V) (v vl vu:Value) (lo hi:Option Int) (sl:Addr) (Q:VK),Inv X pins σ H s→RelV x v→s.heap.IsSliceOf sl vl vu .none→IsPart vl lo→IsPart vu hi→r x lo hi H Q →
  ∃ T id,typeLookup (.type T) "__getitem__" = pure (some (.builtin id))∧s.TypeIs v T∧wpAny (model X.prog X.w) X.A (getItem v (.ref sl)) (EP X pins σ Q) X.xe s
def tSl (r:V→Option Int→Option Int→Hp→VK→Prop) (te:TE) (tl th:TO):TE:=fun σ H Q=>te σ H fun x H1=>tl σ H1 fun l H2=>th σ H2 fun u H3=>r x l u H3 Q
theorem vi {r:V→Option Int→Option Int→Hp→VK→Prop} (hr:SlR X r) (he:PE X e te) (hl:PO X lo tl) (hu:PO X hi th):PE X (.Subscript e (.Slice lo hi none p2) pos) (tSl r te tl th):=by
 intro pins s σ H Q I h
 refine Subscript_ (thn (he pins s σ H _ I h) fun v s1 ⟨x,H1,I1,r1,q1⟩=>?_)
 refine wpAny_Slice (thn (hl pins s1 σ H1 _ I1 q1) fun vl s2 ⟨l,H2,I2,pl,q2⟩=>thn (hu pins s2 σ H2 _ I2 q2) fun vu s3 ⟨u,H3,I3,pu,q3⟩=>?_)
 rw [evalPart_none]
 refine wpAny_pure ?_
 have I4:Inv X pins σ H3 { s3 with heap:=s3.heap.push { cls:=.type "slice",data:=.fields #[vl,vu,.none] } }:=I3.kept (t':=s3.toks) fun b ob q=>Heap.get?_push_of_some _ q
 obtain ⟨T,id,hT,ht,hg⟩:=hr pins { s3 with heap:=s3.heap.push { cls:=.type "slice",data:=.fields #[vl,vu,.none] } } σ H3 x v vl vu l u s3.heap.objs.size Q I4 r1 (Heap.IsSliceOf.new ..) pl pu q3
 show wpAny (model X.prog X.w) X.A (subscriptTail e (.Slice lo hi none p2) v (.ref s3.heap.objs.size)) (EP X pins σ Q) X.xe { s3 with heap:=s3.heap.push { cls:=.type "slice",data:=.fields #[vl,vu,.none] } }
 exact tail_any (ops:=[.ref s3.heap.objs.size,v]) ht hT hg (by with_unfolding_all rfl)
def cutV (xs:List V) (lo hi:Option Int):List V:=(xs.drop (HT.sIx xs.length 0 lo)).take (HT.sIx xs.length xs.length hi - HT.sIx xs.length 0 lo)
theorem ju (xs:List V) (lo hi:Option Int):(cutV xs lo hi).length≤xs.length:=by
 unfold cutV
 rw [List.length_take,List.length_drop]
 omega
def rSlT (K:PySem.W.Frag):V→Option Int→Option Int→Hp→VK→Prop:=fun x lo hi H Q=>∃ a xs,x = .ref a∧SqT K H a xs ∧
 ¬ (HT.sIx xs.length 0 lo = 0∧HT.sIx xs.length xs.length hi = xs.length)∧∀ p,H p = none→Q (.ref p) (upd H p (.tup (cutV xs lo hi)))
theorem DM:SlR X (rSlT X.K):=by
 intro pins s σ H x v vl vu lo hi sl Q I rx hs pl pu h
 obtain ⟨a,xs,rfl,hx,hw,q⟩:=h
 cases rx
 obtain ⟨its,r,ht,hz⟩:=I.tuple hx
 have hlen:its.toArray.size = xs.length:=by rw [List.size_toArray]; exact r.length.symm
 refine ⟨"tuple",_,PyProof.Rows.slot_tuple_getitem.lookup,ht.typeIs,?_⟩
 refine HT.getItem_tuple_cut ht hs pl pu (by rw [hlen]; exact hw) ?_ (by rw [hlen]; exact hz)
 rw [hlen]
 refine ⟨.ref s.heap.objs.size,_,I.laid (t':=s.toks) (o:=.tup (cutV xs lo hi)) (fun b ob q=>Heap.get?_push_of_some _ q) (Nat.le_refl _) ?_,rfl,q _ (I.hok.fresh (Nat.le_refl _))⟩
 exact ⟨Nat.le_trans (ju xs lo hi) hz,_,(r.drop (HT.sIx xs.length 0 lo)).take (HT.sIx xs.length xs.length hi - HT.sIx xs.length 0 lo),PlainT.new _ _⟩
def GM (K:PySem.W.Frag):R2:=fun x y H Q=>∃ a b xs ys,x = .ref a∧y = .ref b∧SqT K H a xs∧SqT K H b ys∧xs≠[]∧xs.length + ys.length≤sizeLine ∧
 (ys = []→Q (.ref a) H)∧(ys≠[]→∀ p,H p = none→Q (.ref p) (upd H p (.tup (xs++ys))))
theorem Vals.nil_iff {xs:List V} {us:List Value} (r:Vals xs us):us = []↔xs = []:=by
 cases r with
 | nil=>simp
 | cons _ _=>simp
theorem ye:OpR X (binaryOp .Add) (GM X.K):=by
 intro pins s σ H x y v u Q I rx ry h
 obtain ⟨a,b,xs,ys,rfl,rfl,ha,hb,hx,hz,q1,q2⟩:=h
 cases rx
 cases ry
 obtain ⟨its,r1,p1,_⟩:=I.tuple ha
 obtain ⟨its2,r2,p2,_⟩:=I.tuple hb
 refine HT.cat_tup p1 p2 (fun z=>hx (r1.nil_iff.mp z)) (fun z=>⟨.ref a,H,I,rfl,q1 (r2.nil_iff.mp z)⟩) (fun z=>?_) (by rw [←r1.length,←r2.length]; exact hz)
 refine ⟨.ref s.heap.objs.size,_,I.laid (t':=s.toks) (o:=.tup (xs++ys)) (fun b ob q=>Heap.get?_push_of_some _ q) (Nat.le_refl _) ?_,rfl,q2 (fun w=>z (r2.nil_iff.mpr w)) _ (I.hok.fresh (Nat.le_refl _))⟩
 exact ⟨by rw [List.length_append]; exact hz,_,r1.append r2,PlainT.new _ _⟩
end
def ixN (n:Nat) (i:Int):Option Nat:=if 0≤i then (if i < n then some i.toNat else none) else if -(n:Int)≤i then some (i + n).toNat else none
def atI {α : Type} (xs:List α) (i:Int):Option α:=(ixN xs.length i).bind fun j=>xs[j]?
theorem kQ {n:Nat} {i:Int} {j:Nat} (h:ixN n i = some j):seqIndex? i n = some j∧j < n∧-(n:Int)≤i∧i < n:=by
 unfold ixN at h
 by_cases h0 : 0≤i
 ·rw [if_pos h0] at h
  by_cases h1:i < n
  ·rw [if_pos h1] at h
   have e:i.toNat = j:=Option.some.inj h
   exact ⟨by rw [seqIndex_of h0 h1,e],by omega,by omega,h1⟩
  ·rw [if_neg h1] at h; cases h
 ·rw [if_neg h0] at h
  by_cases h1 : -(n:Int)≤i
  ·rw [if_pos h1] at h
   have e:(i + n).toNat = j:=Option.some.inj h
   exact ⟨by rw [seqIndex_neg (by omega) h1,e],by omega,h1,by omega⟩
  ·rw [if_neg h1] at h; cases h
theorem ni {α : Type} {xs:List α} {i:Int} {v : α} (h:atI xs i = some v):∃ j,seqIndex? i xs.length = some j∧xs[j]? = some v∧j < xs.length∧-(xs.length:Int)≤i∧i < xs.length:=by
 unfold atI at h
 cases e:ixN xs.length i with
 | none=>rw [e] at h; cases h
 | some j =>
  rw [e] at h
  obtain ⟨h1,h2,h3,h4⟩:=kQ e
  exact ⟨j,h1,h,h2,h3,h4⟩
theorem aV {α : Type} {xs:List α} {j:Nat} {v : α} (h:xs[j]? = some v):atI xs (j:Int) = some v:=by
 have hj:j < xs.length:=(List.getElem?_eq_some_iff.mp h).1
 have e:ixN xs.length (j:Int) = some j:=by
  unfold ixN
  rw [if_pos (by omega),if_pos (by omega)]; simp
 unfold atI; rw [e]; exact h
theorem uW {α : Type} (xs:List α) (v : α):atI (xs++[v]) (-1) = some v:=by
 have hl:(xs++[v]).length = xs.length + 1:=by simp
 have e:ixN (xs++[v]).length (-1) = some xs.length:=by
  unfold ixN
  rw [hl,if_neg (by decide),if_pos (by omega)]
  congr 1
  omega
 unfold atI
 rw [e]
 show (xs++[v])[xs.length]? = some v
 simp
def jC (b:Expr):Prop:=∀ o i,subscripted b false o i = operate [o,i] (getItem o i)
def IxR (X:Cx) (r:R2):Prop :=
 ∀ (value slice:Expr) (pins:List (Addr×Obj)) (s:Shared) (σ : St) (H:Hp) (x y:V) (v u:Value) (Q:VK),Inv X pins σ H s→RelV x v→RelV y u→r x y H Q →
  subscripted slice false v u = operate [v,u] (getItem v u)→wpAny (model X.prog X.w) X.A (subscriptTail value slice v u) (EP X pins σ Q) X.xe s
def MtR (X:Cx) (id:String) (r:V→List V→Hp→VK→Prop):Prop :=
 ∀ (pins:List (Addr×Obj)) (s:Shared) (σ : St) (H:Hp) (x:V) (xs:List V) (v:Value) (us:List Value) (Q:VK),Inv X pins σ H s→RelV x v→Vals xs us→r x xs H Q →
  wpAny (model X.prog X.w) X.A (call (.builtin id) (v :: us)) (EP X pins σ Q) X.xe s
section
variable {X:Cx} {a b:Expr} {ta tb:TE} {pos:Pos}
theorem DA {r:R2} (hr:IxR X r) (ha:PE X a ta) (hb:PE X b tb) (hs:jC b):PE X (.Subscript a b pos) (tOp r ta tb):=by
 intro pins s σ H Q I h
 exact Subscript_ (binT ha hb I h fun v u s2 x y H2 I2 rx ry q=>hr a b pins s2 σ H2 x y v u Q I2 rx ry q (hs _ _))
def rIxL (K:PySem.W.Frag):R2:=fun x y H Q=>∃ p xs i v,x = .ref p∧y = .int i∧SqL K H p xs∧atI xs i = some v∧Q v H
def rIxT (K:PySem.W.Frag):R2:=fun x y H Q=>∃ p xs i v,x = .ref p∧y = .int i∧SqT K H p xs∧atI xs i = some v∧Q v H
def rIxS:R2:=fun x y H Q=>∃ z i c,x = .str z∧y = .int i∧z.length≤sizeLine∧atI z.cps.toList i = some c∧Q (.str ⟨#[c]⟩) H
theorem tu:IxR X (rIxL X.K):=by
 intro value slice pins s σ H x y v u Q I rx ry h hs
 obtain ⟨p,xs,i,z,rfl,rfl,hq,he,q⟩:=h
 cases rx
 obtain ⟨t,rfl⟩:=ry
 obtain ⟨its,r,pl,hz⟩:=I.list hq
 obtain ⟨j,h1,h2,h3,h4,h5⟩:=ni he
 obtain ⟨w,ew,rw'⟩:=r.get h2
 have hl:=r.length
 have hn:=jW
 have fin:EP X pins σ Q w s:=⟨z,H,I,rw',q⟩
 by_cases h0 : 0≤i
 ·have hj:i.toNat = j:=by
   rw [seqIndex_of h0 h5] at h1
   exact Option.some.inj h1
  exact item_listR pl.isList h0 (by omega) (by rw [hj]; simpa using ew) fin hs
 ·have hj:(i + (its.toArray.size:Int)).toNat = j:=by
   rw [seqIndex_neg (by omega) h4] at h1
   rw [List.size_toArray,←hl]
   exact Option.some.inj h1
  exact subscriptTail_builtinR (x:=w) pl.isList.typeIs slot_list_getitem.lookup
   (wpAny_getItem_list_neg (Q:=fun r s'=>r = w∧EP X pins σ Q r s') pl.isList (by omega) (by rw [List.size_toArray] <;> omega) (by omega) (by rw [hj]; simpa using ew) ⟨rfl,fin⟩) hs
theorem AK:IxR X (rIxT X.K):=by
 intro value slice pins s σ H x y v u Q I rx ry h hs
 obtain ⟨p,xs,i,z,rfl,rfl,hq,he,q⟩:=h
 cases rx
 obtain ⟨t,rfl⟩:=ry
 obtain ⟨its,r,pl,hz⟩:=I.tuple hq
 obtain ⟨j,h1,h2,h3,h4,h5⟩:=ni he
 obtain ⟨w,ew,rw'⟩:=r.get h2
 have hl:=r.length
 have hn:=jW
 have fin:EP X pins σ Q w s:=⟨z,H,I,rw',q⟩
 exact subscriptTail_builtinR (x:=w) pl.typeIs slot_tuple_getitem.lookup
  (getItem_tuple (j:=j) (Q:=fun r s'=>r = w∧EP X pins σ Q r s') pl (by omega) (by omega) (by rw [List.size_toArray,←hl]; exact h1) (by simpa using ew) ⟨rfl,fin⟩) hs
theorem Bv:IxR X rIxS:=by
 intro value slice pins s σ H x y v u Q I rx ry h hs
 obtain ⟨z,i,c,rfl,rfl,hz,he,q⟩:=h
 obtain ⟨t,rfl⟩:=rx
 obtain ⟨t',rfl⟩:=ry
 obtain ⟨j,h1,h2,h3,h4,h5⟩:=ni he
 have hl:z.cps.toList.length = z.length:=by simp [Str.length]
 rw [hl] at h1 h4 h5
 have hn:=jW
 exact tail_any (typeIs_str s z t) slot_str_getitem.lookup (getItem_str (c:=c) (by
  have e1:decide (i < -(2 ^ 63:Int)) = false:=decide_eq_false (by omega)
  have e2:decide (i ≥ 2 ^ 63) = false:=decide_eq_false (by omega)
  rw [e1,e2,Bool.or_false]) (by rw [h1]; simpa using h2) ⟨.str ⟨#[c]⟩,H,I.tok _,⟨_,rfl⟩,q⟩) hs
theorem qI (its:List Value) (n j:Nat) (u:Value):Obj.mapSeq (·.setIfInBounds j u) { cls:=.type "list",data:=.seq its.toArray n } = { cls:=.type "list",data:=.seq (its.set j u).toArray n }:=by
 simp [Obj.mapSeq]
theorem Inv.lst {pins:List (Addr×Obj)} {σ : St} {H:Hp} {s:Shared} {p:Addr} {xs:List V} (I:Inv X pins σ H s) (h:H p = some (.lst xs)) :
  ∃ (its:List Value) (n:Nat),Vals xs its∧s.heap.get? p = some { cls:=.type "list",data:=.seq its.toArray n }∧xs.length≤sizeLine:=by
 obtain ⟨z,its,n,r,e⟩:=I.hok p _ h
 exact ⟨its,n,r,e,z⟩
theorem Inv.lstUpd {pins:List (Addr×Obj)} {σ : St} {H:Hp} {s:Shared} {p:Addr} {xs ys:List V} {its its':List Value} {n n':Nat} {f:Obj→Obj} (I:Inv X pins σ H s) (h:H p = some (.lst xs))
  (ho:s.heap.get? p = some { cls:=.type "list",data:=.seq its.toArray n }) (hf:f { cls:=.type "list",data:=.seq its.toArray n } = { cls:=.type "list",data:=.seq its'.toArray n' }) (r:Vals ys its') (hz:ys.length≤sizeLine) (t:Nat) :
  Inv X pins σ (upd H p (.lst ys)) { s with heap:=s.heap.update p f,toks:=t }:=by
 have e:(s.heap.update p f).get? p = some { cls:=.type "list",data:=.seq its'.toArray n' }:=by
  rw [Heap.get?_update_self f ho (by rw [hf] <;> rfl),hf]
 refine I.write (x:=p) (e:=p) (by rw [h]; trivial) (.inl rfl) (fun b u hb q=>(Heap.get?_update_other _ _ (Ne.symm hb)).trans q) ⟨_,e⟩ ?_
 exact ⟨hz,its',n',r,e⟩
def GU:V→V→V→Hp→(Hp→Prop)→Prop:=fun o i v H Q=>∃ p xs k j,o = .ref p∧i = .int k∧H p = some (.lst xs)∧ixN xs.length k = some j∧Q (upd H p (.lst (xs.set j v)))
theorem v6:PSet X GU:=by
 intro pins s σ H o i v ov iv u Q I ro ri rv h
 obtain ⟨p,xs,k,j,rfl,rfl,hp,hj,q⟩:=h
 cases ro
 obtain ⟨t,rfl⟩:=ri
 obtain ⟨its,n,r,ho,hz⟩:=I.lst hp
 obtain ⟨h1,h2,h3,h4⟩:=kQ hj
 have hl:=r.length
 have hn:=jW
 have I':Inv X pins σ (upd H p (.lst (xs.set j v))) { s with heap:=s.heap.update p (Obj.mapSeq (·.setIfInBounds j u)) } :=
  I.lstUpd hp ho (qI its n j u) (r.set rv j) (by rw [List.length_set]; exact hz) s.toks
 by_cases h0 : 0≤k
 ·have hk:k.toNat = j:=by
   rw [seqIndex_of h0 h4] at h1
   exact Option.some.inj h1
  exact PySem.W.ki_setAt ho h0 (by omega) (by rw [List.size_toArray,←hl]; exact h4) (by rw [hk]; exact ⟨_,I',q⟩)
 ·have hk:(k + (its.toArray.size:Int)).toNat = j:=by
   rw [seqIndex_neg (by omega) h3] at h1
   rw [List.size_toArray,←hl]
   exact Option.some.inj h1
  exact PySem.W.ki_setBack ho (by omega) (by rw [List.size_toArray,←hl]; exact h3) (by omega) (by rw [hk]; exact ⟨_,I',q⟩)
theorem mq (lo hi:Option Int) (n:Nat):(sliceBounds lo hi none n).1 = ((HT.sIx n 0 lo:Nat):Int)∧(sliceBounds lo hi none n).2.1 = ((HT.sIx n n hi:Nat):Int)∧(sliceBounds lo hi none n).2.2 = 1:=by
 refine ⟨?_,?_,rfl⟩
 ·cases lo with
  | none=>simp [sliceBounds,HT.sIx]
  | some i =>
   simp only [sliceBounds,HT.sIx,Option.getD_none,show (1:Int) > 0 by decide,if_true]
   by_cases h:i < 0
   ·simp only [h,if_true] <;> omega
   ·simp only [h,if_false] <;> omega
 ·cases hi with
  | none=>simp [sliceBounds,HT.sIx]
  | some i =>
   simp only [sliceBounds,HT.sIx,Option.getD_none,show (1:Int) > 0 by decide,if_true]
   by_cases h:i < 0
   ·simp only [h,if_true] <;> omega
   ·simp only [h,if_false] <;> omega
theorem j9 (its:List Value) (lo hi:Option Int):slicePick its.toArray lo hi none = ((its.drop (HT.sIx its.length 0 lo)).take (HT.sIx its.length its.length hi - HT.sIx its.length 0 lo)).toArray:=by
 obtain ⟨h1,h2,h3⟩:=mq lo hi its.toArray.size
 unfold slicePick
 rw [h1,h2,h3]
 simp only [sliceRange_one,pick_run,List.size_toArray] <;> rfl
def rSlL (K:PySem.W.Frag):V→Option Int→Option Int→Hp→VK→Prop:=fun x lo hi H Q=>∃ a xs,x = .ref a∧SqL K H a xs∧∀ p,H p = none→Q (.ref p) (upd H p (.lst (cutV xs lo hi)))
theorem zX:SlR X (rSlL X.K):=by
 intro pins s σ H x v vl vu lo hi sl Q I rx hs pl pu h
 obtain ⟨a,xs,rfl,hx,q⟩:=h
 cases rx
 obtain ⟨its,r,ht,hz⟩:=I.list hx
 have hlen:=r.length
 refine ⟨"list",_,slot_list_getitem.lookup,ht.isList.typeIs,?_⟩
 refine wpAny_getItem_list_slice ht.isList hs pl pu .none (by simp) ?_ (by rw [List.size_toArray] <;> omega)
 rw [j9,←hlen]
 refine ⟨.ref s.heap.objs.size,_,I.laid (t':=s.toks) (o:=.lst (cutV xs lo hi)) (fun b ob q=>Heap.get?_push_of_some _ q) (Nat.le_refl _) ?_,rfl,q _ (I.hok.fresh (Nat.le_refl _))⟩
 exact ⟨Nat.le_trans (ju xs lo hi) hz,_,0,(r.drop (HT.sIx xs.length 0 lo)).take (HT.sIx xs.length xs.length hi - HT.sIx xs.length 0 lo),Heap.get?_push_size _ rfl⟩
theorem ir:c6 X (.builtin "len") (fun xs H Q=>∃ p ys,xs = [.ref p]∧(SqL X.K H p ys∨SqT X.K H p ys)∧Q (.int ys.length) H):=by
 intro pins s σ H xs us Q I r h
 obtain ⟨p,ys,rfl,hq,q⟩:=h
 obtain ⟨u,rfl,rx⟩:=mT r
 cases rx
 have hn:=jW
 rcases hq with hq | hq
 ·obtain ⟨its,r',pl,hz⟩:=I.list hq
  have hlen:=r'.length
  exact Calls.call_len_list pl.isList (by simp only [List.size_toArray] <;> omega) ⟨.int ys.length,H,I.tok _,⟨s.toks + 1,by rw [List.size_toArray,hlen]⟩,q⟩
 ·obtain ⟨its,r',pl,hz⟩:=I.tuple hq
  have hlen:=r'.length
  exact len_tuple pl (by simp only [List.size_toArray] <;> omega) ⟨.int ys.length,H,I.tok _,⟨s.toks + 1,by rw [List.size_toArray,hlen]⟩,q⟩
theorem lB:c6 X (.builtin "len") (fun xs H Q=>∃ z,xs = [.str z]∧z.length≤sizeLine∧Q (.int z.length) H):=by
 intro pins s σ H xs us Q I r h
 obtain ⟨z,rfl,hz,q⟩:=h
 obtain ⟨u,rfl,t,rfl⟩:=mT r
 have hn:=jW
 exact len_str (by omega) ⟨.int z.length,H,I.tok _,⟨_,rfl⟩,q⟩
theorem lG:c6 X (.type "list") (fun xs H Q=>∃ p ys,xs = [.ref p]∧(SqL X.K H p ys∨SqT X.K H p ys)∧∀ l,H l = none→Q (.ref l) (upd H l (.lst ys))):=by
 intro pins s σ H xs us Q I r h
 obtain ⟨p,ys,rfl,hq,q⟩:=h
 obtain ⟨u,rfl,rx⟩:=mT r
 cases rx
 have fin:∀ (its:List Value),Vals ys its→ys.length≤sizeLine→∀ (h':Heap) (c':Nat),(∀ b o',s.heap.get? b = some o'→h'.get? b = some o') →
   h'.get? s.heap.objs.size = some { cls:=.type "list",dict:=none,data:=.seq its.toArray c',slots:=#[] }→EP X pins σ Q (.ref s.heap.objs.size) { s with heap:=h' }:=fun its r' hz h' c' kp e =>
  ⟨.ref s.heap.objs.size,_,I.laid (t':=s.toks) kp (Nat.le_refl _) (show ObjOk X.prog X.w _ h' _ (.lst ys) from ⟨hz,its,c',r',e⟩),rfl,q _ (I.hok.fresh (Nat.le_refl _))⟩
 rcases hq with hq | hq
 ·obtain ⟨its,r',pl,hz⟩:=I.list hq
  have hlen:=r'.length
  obtain ⟨o,ho,hc,n,hd⟩:=pl.isList
  exact call_list_seq p (.inl rfl) ho hc hd (fun h' c' kp e=>fin its r' hz h' c' kp e) (by simp only [List.size_toArray] <;> omega)
 ·obtain ⟨its,r',pl,hz⟩:=I.tuple hq
  have hlen:=r'.length
  obtain ⟨o,ho,hc,n,hd⟩:=pl
  exact call_list_seq p (.inr rfl) ho hc hd (fun h' c' kp e=>fin its r' hz h' c' kp e) (by simp only [List.size_toArray] <;> omega)
theorem lh:c6 X (.type "tuple") (fun xs H Q=>∃ p ys,xs = [.ref p]∧((SqL X.K H p ys∧∀ l,H l = none→Q (.ref l) (upd H l (.tup ys)))∨(SqT X.K H p ys∧Q (.ref p) H))):=by
 intro pins s σ H xs us Q I r h
 obtain ⟨p,ys,rfl,h⟩:=h
 obtain ⟨u,rfl,rx⟩:=mT r
 cases rx
 rcases h with ⟨hq,q⟩ | ⟨hq,q⟩
 ·obtain ⟨its,r',pl,hz⟩:=I.list hq
  have hlen:=r'.length
  refine call_tuple_list pl.isList (fun h' kp=>?_) (by simp only [List.size_toArray] <;> omega)
  have I1:Inv X pins σ H { s with heap:=h' }:=I.kept (t':=s.toks) kp
  have I2:Inv X pins σ (upd H h'.objs.size (.tup ys)) { s with heap:=h'.push { cls:=.type "tuple",data:=.seq its.toArray } } :=
   I1.laid (t':=s.toks) (fun b o e=>Heap.get?_push_of_some _ e) (Nat.le_refl _) (show ObjOk X.prog X.w _ _ _ (.tup ys) from ⟨hz,its,r',PlainT.new _ _⟩)
  exact ⟨.ref h'.objs.size,_,I2,rfl,q _ (I1.hok.fresh (Nat.le_refl _))⟩
 ·obtain ⟨its,r',pl,hz⟩:=I.tuple hq
  exact call_tuple_same pl ⟨.ref p,H,I,rfl,q⟩
def tyV (K:PySem.W.Frag) (T:String) (x:V) (H:Hp):Prop:=match x with
 | .str _=>T = "str"
 | .int _=>T = "int"
 | .ref p=>(T = "list" ∧ ∃ xs,SqL K H p xs)∨(T = "tuple" ∧ ∃ xs,SqT K H p xs) ∨
   (T = "dict" ∧ ((∃ kvs,H p = some (.dK kvs))∨∃ kvs,H p = some (.dT kvs)))∨(T = "set" ∧ ∃ S n,H p = some (.set S n))
 | _=>False
theorem wQ {pins:List (Addr×Obj)} {σ : St} {H:Hp} {s:Shared} {T:String} {x:V} {v:Value} (I:Inv X pins σ H s) (r:RelV x v) (ty:tyV X.K T x H) :
  s.TypeIs v T∧∀ a,v = .ref a→∃ ob,s.heap.get? a = some ob∧ob.dict = none:=by
 cases x with
 | str z =>
  obtain ⟨t,rfl⟩:=r
  cases (show T = "str" from ty)
  exact ⟨typeIs_str s z t,fun _ e=>nomatch e⟩
 | int i =>
  obtain ⟨t,rfl⟩:=r
  cases (show T = "int" from ty)
  exact ⟨typeIs_int s i t,fun _ e=>nomatch e⟩
 | ref p =>
  cases r
  rcases ty with ⟨rfl,xs,hq⟩ | ⟨rfl,xs,hq⟩ | ⟨rfl,hk⟩ | ⟨rfl,S,n,hk⟩
  ·obtain ⟨its,_,pl,_⟩:=I.list hq
   refine ⟨pl.isList.typeIs,fun a e=>?_⟩
   cases e
   obtain ⟨o,n,e,c,hd,_⟩:=pl
   exact ⟨o,e,hd⟩
  ·obtain ⟨its,_,⟨o,e0,hc,hd,_⟩,_⟩:=I.tupleP hq
   refine ⟨⟨o,e0,hc⟩,fun a e=>?_⟩
   cases e
   exact ⟨o,e0,hd⟩
  ·have z:∃ o,s.heap.get? p = some o∧o.ExactDict:=by
    rcases hk with ⟨kvs,hk⟩ | ⟨kvs,hk⟩
    ·obtain ⟨_,_,_,_,o,_,_,e,ex,_⟩:=I.hok p _ hk
     exact ⟨o,e,ex⟩
    ·obtain ⟨_,_,_,_,o,_,_,e,ex,_⟩:=I.hok p _ hk
     exact ⟨o,e,ex⟩
   obtain ⟨o,e,ex⟩:=z
   refine ⟨⟨o,e,ex.1⟩,fun a e2=>?_⟩
   cases e2
   exact ⟨o,e,ex.2.1⟩
  ·obtain ⟨o,_,_,_,e,ex,_⟩:=I.hok p _ hk
   refine ⟨⟨o,e,ex.1⟩,fun a e2=>?_⟩
   cases e2
   exact ⟨o,e,ex.2.1⟩
 | _=>exact False.elim ty
def tBM0 (K:PySem.W.Frag) (T:String) (r:V→List V→Hp→VK→Prop) (to:TE):TE:=fun σ H Q=>to σ H fun x H1=>tyV K T x H1∧r x [] H1 Q
def tBM (K:PySem.W.Frag) (T:String) (r:V→List V→Hp→VK→Prop) (to:TE) (t:TA):TE:=fun σ H Q=>to σ H fun x H1=>tyV K T x H1∧t σ H1 fun xs H2=>r x xs H2 Q
variable {o e:Expr} {es:List Expr} {to:TE} {t:TA} {name:Str} {apos cpos:Pos} {T id:String} {r:V→List V→Hp→VK→Prop}
theorem Dm (pa:PlainAttrs T) (slot:Slot T name id) (hty:typeOf (.builtin id) = pure (.type "method_descriptor")) (hm:MtR X id r) (ho:PE X o to)
  (hbase:attributeBase o name X.env (eval o X.env) = eval o X.env:=by rfl) (hline:(apos.endLine == cpos.line) = true:=by rfl):PE X (.Call (.Attribute o name apos) [] [] cpos) (tBM0 X.K T r to):=by
 intro pins s σ H Q I h
 refine wpAny_Call_method0_late hbase hline (thn (ho pins s σ H _ I h) fun v s1 ⟨x,H1,I1,r1,ty,q1⟩=>?_)
 obtain ⟨h1,h2⟩:=wQ I1 r1 ty
 exact ⟨T,id,pa,slot,hty,h1,h2,Calls.callWith_builtin rfl (PySem.evalArgs_none (hm pins s1 σ H1 x [] v [] Q I1 r1 .nil q1))⟩
theorem DL (pa:PlainAttrs T) (slot:Slot T name id) (hty:typeOf (.builtin id) = pure (.type "method_descriptor")) (hm:MtR X id r) (ho:PE X o to) (ha:PA X (e :: es) t)
  (hbase:attributeBase o name X.env (eval o X.env) = eval o X.env:=by rfl)
  (hfew:((backTo cpos (starEach (e :: es) X.env)).all (fun x=>!x.1) && (backToKw cpos (keywordEach [] X.env)).all (fun x=>x.1.isSome)
   && decide ((e :: es).length + ([]:List Keyword).length + (if ([]:List Keyword).isEmpty then 0 else 1) < 30)) = true:=by rfl)
  (hline:(apos.endLine == cpos.line) = true:=by rfl) (hs:starEach (e :: es) X.env = (false,eval e X.env) :: starEach es X.env:=by rfl) (hplain:(backTo cpos (starEach es X.env)).any (·.1) = false:=by rfl) :
  PE X (.Call (.Attribute o name apos) (e :: es) [] cpos) (tBM X.K T r to t):=by
 intro pins s σ H Q I h
 refine wpAny_Call_method_late hbase hfew hline rfl (thn (ho pins s σ H _ I h) fun v s1 ⟨x,H1,I1,r1,ty,q1⟩=>?_)
 obtain ⟨h1,h2⟩:=wQ I1 r1 ty
 refine ⟨T,id,pa,slot,hty,h1,h2,?_⟩
 have hA:=ha cpos pins s1 σ H1 _ I1 q1
 rw [hs] at hA ⊢
 refine Calls.callWith_builtin (by show (false || (backTo cpos (starEach es X.env)).any (·.1)) = false; rw [hplain] <;> rfl) (Calls.evalArgs_plain ?_)
 exact thn hA fun us s2 ⟨vs,H2,I2,r2,q2⟩=>hm pins s2 σ H2 x vs v us Q I2 r1 r2 q2
end
def MtM (X:Cx) (id:String) (r:V→List V→Hp→VK→Prop):Prop :=
 ∀ (pins:List (Addr×Obj)) (s:Shared) (σ : St) (H:Hp) (x:V) (xs:List V) (v:Value) (us:List Value) (Q:VK),Inv X pins σ H s→RelV x v→Vals xs us→r x xs H Q →
  wpAny (model X.prog X.w) X.A (call (.builtin id) (v :: us)) (EP X pins σ Q) X.xe s
theorem Vals.one:∀ {x:V} {us:List Value},Vals [x] us→∃ u,us = [u]∧RelV x u
 | _,_,.cons r .nil=>⟨_,rfl,r⟩
theorem Vals.zero:∀ {us:List Value},Vals [] us→us = []
 | _,.nil=>rfl
theorem Vals.dropLast {xs:List V} {us:List Value} (h:Vals xs us):Vals xs.dropLast us.dropLast:=by
 induction h with
 | nil=>exact .nil
 | cons r t ih =>
  cases t with
  | nil=>exact .nil
  | cons q t'=>exact .cons r ih
theorem Vals.eraseIdx:∀ {xs:List V} {us:List Value} (i:Nat),Vals xs us→Vals (xs.eraseIdx i) (us.eraseIdx i)
 | _,_,_,.nil=>.nil
 | _,_,0,.cons _ t=>t
 | _,_,i + 1,.cons r t=>.cons r (Vals.eraseIdx i t)
theorem Vals.rep {xs:List V} {us:List Value} (h:Vals xs us):∀ k:Nat,Vals (List.replicate k xs).flatten (List.replicate k us).flatten
 | 0=>.nil
 | k + 1=>by
  rw [List.replicate_succ,List.replicate_succ,List.flatten_cons,List.flatten_cons]
  exact Vals.append h (Vals.rep h k)
theorem qP {α : Type} (l:List α):l.eraseIdx (l.length - 1) = l.dropLast:=by
 induction l with
 | nil=>rfl
 | cons a r ih =>
  cases r with
  | nil=>rfl
  | cons b r =>
   have e:(a :: b :: r).length - 1 = ((b :: r).length - 1) + 1:=by
    have h1:(a :: b :: r).length = r.length + 2:=rfl
    have h2:(b :: r).length = r.length + 1:=rfl
    omega
   rw [e,List.eraseIdx_cons_succ,ih]
   all_goals rfl
theorem mw {α : Type}:∀ (l:List α) (i:Nat),(l.eraseIdx i).length≤l.length
 | [],_=>Nat.le_refl _
 | _ :: _,0=>Nat.le_succ _
 | _ :: r,i + 1=>Nat.succ_le_succ (mw r i)
theorem jt (its:List Value):∀ (k:Nat) (acc:List Value),
  List.foldl (fun x1 x2=>x1++x2) acc.toArray (List.replicate k its.toArray) = (acc++(List.replicate k its).flatten).toArray
 | 0,acc=>by simp
 | k + 1,acc=>by
  have e:acc.toArray++its.toArray = (acc++its).toArray:=by simp
  have e2:(acc++its)++(List.replicate k its).flatten = acc++(List.replicate (k + 1) its).flatten:=by
   rw [List.replicate_succ,List.flatten_cons,List.append_assoc]
  rw [←e2,←jt its k (acc++its),←e,List.replicate_succ,List.foldl_cons]
section
variable {X:Cx} {pins:List (Addr×Obj)} {σ : St} {H:Hp} {s:Shared} {l b:Addr} {xs ys zs:List V}
theorem Inv.lset {its its':List Value} {n:Nat} {f:Array Value→Array Value} {t':Nat} (I:Inv X pins σ H s) (hH:H l = some (.lst xs))
  (e:s.heap.get? l = some { cls:=.type "list",data:=.seq its.toArray n }) (hf:f its.toArray = its'.toArray) (hv:Vals ys its') (hz:ys.length≤sizeLine) :
  Inv X pins σ (upd H l (.lst ys)) { s with heap:=s.heap.update l (Obj.mapSeq f),toks:=t' }:=by
 have q:=PySem.IsL.update e f
 rw [hf] at q
 refine I.write (x:=l) (e:=l) (by rw [hH]; exact trivial) (.inl rfl) (fun b' u hb hu=>(Heap.get?_update_other s.heap (Obj.mapSeq f) (Ne.symm hb)).trans hu) ⟨_,q⟩ ?_
 exact ⟨hz,its',_,hv,q⟩
theorem Inv.lnew {its:List Value} {t':Nat} (I:Inv X pins σ H s) (hv:Vals ys its) (hz:ys.length≤sizeLine) :
  Inv X pins σ (upd H s.heap.objs.size (.lst ys)) { s with heap:=s.heap.push { cls:=.type "list",data:=.seq its.toArray },toks:=t' } :=
 I.laid (fun _ _ q=>Heap.get?_push_of_some _ q) (Nat.le_refl _) ⟨hz,its,0,hv,Heap.get?_push_size _ rfl⟩
theorem Inv.fresh (I:Inv X pins σ H s):H s.heap.objs.size = none:=I.hok.fresh (Nat.le_refl _)
theorem Inv.lstM (I:Inv X pins σ H s) (hH:H l = some (.lst xs)):xs.length≤sizeLine∧∃ (its:List Value) (n:Nat),Vals xs its∧xs.length = its.length∧s.heap.get? l = some { cls:=.type "list",data:=.seq its.toArray n }:=by
 obtain ⟨z,its,n,r,e⟩:=I.hok l _ hH
 exact ⟨z,its,n,r,r.length,e⟩
theorem p9 {n:Nat} (h:n≤sizeLine):Builtin.List.listTooLong n = false:=by
 unfold Builtin.List.listTooLong
 exact decide_eq_false (by omega)
end
section
variable {X:Cx}
def Au:V→List V→Hp→VK→Prop:=fun x vs H Q=>∃ l xs y,x = .ref l∧vs = [y]∧H l = some (.lst xs)∧xs.length < sizeLine∧Q .non (upd H l (.lst (xs++[y])))
theorem jk:MtM X "list.append" Au:=by
 intro pins s σ H x vs v us Q I rx rv h
 obtain ⟨l,xs,y,rfl,rfl,hH,hz,q⟩:=h
 cases rx
 obtain ⟨u,rfl,ru⟩:=rv.one
 obtain ⟨z,its,n,r,hl,e⟩:=I.lstM hH
 refine call_meets F.slot_list_append ⟨_,e,rfl⟩ F.entry_list_append (F.args_list_append_2 _ _) (PySem.list_append l its.toArray n u (by rw [List.size_toArray]; omega)) ⟨e,?_⟩
 refine ⟨.non,_,I.lset (its':=its++[u]) hH e (by simp) (r.append (.cons ru .nil)) ?_,rfl,q⟩
 rw [List.length_append,List.length_singleton]
 omega
def Ae:V→List V→Hp→VK→Prop:=fun x vs H Q=>∃ l b xs zs,x = .ref l∧vs = [.ref b]∧H l = some (.lst xs)∧H b = some (.lst zs)∧xs.length + zs.length≤sizeLine∧Q .non (upd H l (.lst (xs++zs)))
theorem sd:MtM X "list.extend" Ae:=by
 intro pins s σ H x vs v us Q I rx rv h
 obtain ⟨l,b,xs,zs,rfl,rfl,hH,hB,hz,q⟩:=h
 cases rx
 obtain ⟨u,rfl,ru⟩:=rv.one
 cases ru
 obtain ⟨z,its,n,r,hl,e⟩:=I.lstM hH
 obtain ⟨z2,its2,n2,r2,hl2,e2⟩:=I.lstM hB
 have hsz:its.toArray.size + its2.toArray.size≤sizeLine:=by rw [List.size_toArray,List.size_toArray]; omega
 have hlong:¬ (!its.toArray.isEmpty && Builtin.List.listTooLong (its.toArray.size + its2.toArray.size)) = true:=by
  rw [p9 hsz,Bool.and_false]
  exact Bool.false_ne_true
 refine call_meets F.slot_list_extend ⟨_,e,rfl⟩ F.entry_list_extend (F.args_list_extend_2 _ _)
  (AutoSeq1.list_extend_list_list_0 l its.toArray n b its2.toArray n2 hlong (by rw [List.size_toArray]; omega) (by omega)) ⟨e,e2,?_⟩
 refine ⟨.non,_,I.lset (its':=its++its2) hH e (by simp) (r.append r2) ?_,rfl,q⟩
 rw [List.length_append]
 omega
def rPop:V→List V→Hp→VK→Prop:=fun x vs H Q=>∃ l xs y,x = .ref l∧vs = []∧H l = some (.lst xs)∧xs[xs.length - 1]? = some y∧Q y (upd H l (.lst xs.dropLast))
theorem CW:MtM X "list.pop" rPop:=by
 intro pins s σ H x vs v us Q I rx rv h
 obtain ⟨l,xs,y,rfl,rfl,hH,hy,q⟩:=h
 cases rx
 have hus:=rv.zero
 subst hus
 obtain ⟨z,its,n,r,hl,e⟩:=I.lstM hH
 obtain ⟨u,hu,ru⟩:=r.get hy
 have hy':its.toArray[its.toArray.size - 1]? = some u:=by
  show its.toArray[its.length - 1]? = some u
  rw [←Array.getElem?_toList,←hl]
  exact hu
 refine call_meets F.slot_list_pop ⟨_,e,rfl⟩ F.entry_list_pop (F.args_list_pop_1 _) (MeetsSeq.list_pop_last l its.toArray n u hy' (by rw [List.size_toArray]; omega)) ⟨e,?_⟩
 refine ⟨y,_,I.lset (its':=its.dropLast) hH e ?_ r.dropLast ?_,ru,q⟩
 ·show its.toArray.eraseIdxIfInBounds (its.toArray.size - 1) = its.dropLast.toArray
  rw [List.size_toArray,List.eraseIdxIfInBounds_toArray,qP]
 ·rw [List.length_dropLast]
  omega
def BF:V→List V→Hp→VK→Prop:=fun x vs H Q=>∃ l xs i k y,x = .ref l∧vs = [.int i]∧H l = some (.lst xs)∧-(2 ^ 63)≤i∧i < 2 ^ 63∧seqIndex? i xs.length = some k∧xs[k]? = some y∧Q y (upd H l (.lst (xs.eraseIdx k)))
theorem ot:MtM X "list.pop" BF:=by
 intro pins s σ H x vs v us Q I rx rv h
 obtain ⟨l,xs,i,k,y,rfl,rfl,hH,h1,h2,hk,hy,q⟩:=h
 cases rx
 obtain ⟨u,rfl,ru⟩:=rv.one
 obtain ⟨t,rfl⟩:=ru
 obtain ⟨z,its,n,r,hl,e⟩:=I.lstM hH
 obtain ⟨w,hw,rw'⟩:=r.get hy
 refine call_meets F.slot_list_pop ⟨_,e,rfl⟩ F.entry_list_pop (F.args_list_pop_2 _ _)
  (MeetsSeq.list_pop_at l its.toArray n i t k w (fitsIndex_both h1 h2) (by rw [List.size_toArray,←hl]; exact hk) (by rw [←Array.getElem?_toList]; exact hw) (by rw [List.size_toArray]; omega)) ⟨e,?_⟩
 refine ⟨y,_,I.lset (its':=its.eraseIdx k) hH e ?_ (r.eraseIdx k) ?_,rw',q⟩
 ·show its.toArray.eraseIdxIfInBounds k = (its.eraseIdx k).toArray
  rw [List.eraseIdxIfInBounds_toArray]
 ·have:=mw xs k
  omega
def rRep:R2:=fun x y H Q=>∃ l k xs,x = .ref l∧y = .int k∧H l = some (.lst xs)∧-(2 ^ 63)≤k∧k < 2 ^ 63∧xs.length * k.toNat≤sizeLine ∧
 ∀ p,H p = none→Q (.ref p) (upd H p (.lst (List.replicate k.toNat xs).flatten))
theorem tw {α : Type} (xs:List α) (k:Nat):(List.replicate k xs).flatten.length = k * xs.length:=by
 induction k with
 | zero=>simp
 | succ k ih=>rw [List.replicate_succ,List.flatten_cons,List.length_append,ih,Nat.succ_mul,Nat.add_comm]
theorem D6:OpR X (binaryOp .Mult) rRep:=by
 intro pins s σ H x y v u Q I rx ry h
 obtain ⟨l,k,xs,rfl,rfl,hH,h1,h2,hz,q⟩:=h
 cases rx
 obtain ⟨t,rfl⟩:=ry
 obtain ⟨z,its,n,r,hl,e⟩:=I.lstM hH
 have hlen:its.toArray.size * k.toNat≤sizeLine:=by rw [List.size_toArray,←hl]; exact hz
 have hcap:¬ its.toArray.size * k.toNat > (2 ^ 63 - 1) / 8:=by
  have:(sizeLine:Nat)≤(2 ^ 63 - 1) / 8:=by decide
  omega
 have hfit:¬ (!Builtin.List.listFitsIndex k) = true:=by
  rw [fitsIndex_both h1 h2]
  exact Bool.false_ne_true
 have hlong:¬ Builtin.List.listTooLong (its.toArray.size * k.toNat) = true:=by
  rw [p9 hlen]
  exact Bool.false_ne_true
 have hnew:List.foldl (fun x1 x2=>x1++x2) #[] (List.replicate (if its.toArray.isEmpty = true then 0 else k.toNat) its.toArray) = (List.replicate k.toNat its).flatten.toArray:=by
  have f0:∀ m:Nat,List.foldl (fun x1 x2=>x1++x2) #[] (List.replicate m its.toArray) = (List.replicate m its).flatten.toArray:=fun m=>by
   have:=jt its m []
   rw [List.nil_append] at this
   exact this
  rw [f0]
  cases its with
  | nil=>simp
  | cons a r'=>rw [if_neg (by simp)]
 refine wpAny_binaryOp_repeat_ref (T := "list") (U := "int") (by decide) ⟨_,e,rfl⟩ (fun s'=>typeIs_int s' k t) noFill_list_mul F.fills_int_mul F.slot_int_rmul repeat_list F.slot_int_index.lookup
  (call_meets F.slot_int_rmul (typeIs_int s k t) F.entry_int_rmul (F.args_int_rmul_2 _ _) (int___rmul___int_list k t l its.toArray n)
   ⟨e,rfl,⟨_,e,rfl⟩,call_meets F.slot_list_mul ⟨_,e,rfl⟩ F.entry_list_mul (F.args_list_mul_2 _ _) (AutoListH.list___mul___list_int_3 l its.toArray n k t hfit hcap hlong) ⟨e,?_⟩⟩)
 rw [hnew]
 exact ⟨.ref _,_,I.lnew (t':=s.toks) (r.rep k.toNat) (by rw [tw,Nat.mul_comm]; exact hz),rfl,q _ I.fresh⟩
end
end L2
namespace Att
open PySem PySem.W PySem.Calls PyProof.Rows
theorem jn {P:Params} {h:Heap}:∀ (ns:List Int) (vs:List Value),WellAll P h vs (ns.map WData.int)→IntsAre vs ns:=by
 intro ns
 induction ns with
 | nil =>
  intro vs w
  rw [List.map_nil] at w
  cases w
  exact .nil
 | cons n ns ih =>
  intro vs w
  rw [List.map_cons] at w
  cases w with
  | cons a b =>
   cases a
   exact .cons _ _ (ih _ b)
theorem uA {l:OpenLaw} {n:Nat} (hn:l.most = some n) {P:Params} {h:Heap} {args:List WData} {vals:List Value}
  (hpre:l.row.toRowW.claim.pre args = true) (hwl:WellAll P h vals args) :
  ∃ a vs ns,vals = [Value.ref a]∧args = [WData.list (ns.map WData.int)]∧h.get? a = some { cls:=.type "list",data:=.seq vs.toArray }∧IntsAre vs ns∧ns.length≤n:=by
 have hsh:WShape.hasAll [] args [.list .int] = true:=(pre_splitW hpre).1
 have hc:l.pre.holds [] { args:=args } = true:=(pre_splitW hpre).2
 obtain ⟨d,r,rfl,h1,h2⟩:=hasAllW_cons hsh
 obtain rfl:=hasAllW_nil h2
 obtain ⟨xs,rfl,h3⟩:=hasW_list h1
 obtain ⟨ns,rfl⟩:=items_int h3
 have hlen:ns.length≤n:=by
  unfold OpenLaw.pre at hc
  have h4:(WTm.not (.lt (.lit (.int (n:Int))) (.len (.arg 0)))).holds [] { args:=[.list (ns.map .int)] } = true:=by
   have h4:=(holds_andW hc).1
   rw [hn] at h4
   exact h4
  have h5:=condW_of h4 (w_not (w_lt w_lit (w_len_list (w_arg rfl))))
  rw [List.length_map] at h5
  refine Nat.le_of_not_lt fun q=>?_
  have q':(n:Int) < ((ns.length:Nat):Int):=by omega
  first
   | (rw [decide_eq_true q'] at h5; exact absurd h5 (by decide))
   | (simp at h5; omega)
 cases hwl with
 | cons w1 w2 =>
  cases w2
  cases w1 with
  | list ho hall=>exact ⟨_,_,ns,rfl,rfl,ho,jn ns _ hall,hlen⟩
theorem t9 (l:OpenLaw) (args:List WData):l.row.toRowW.claim.post args (.bool true) args = true :=
 postW_of (r:=l.row.toRowW) (X:=(true == true))
  (show WShape.has [] (.bool true) .bool = true by first | rfl | decide | simp [WShape.has,WShape.arms,WShape.armsAll])
  (show (WTm.eq .res (.lit (.bool true))).value [] { args:=args,res:=some (.bool true),after:=args } = some (.bool (true == true)) from w_eq_bool (w_res rfl) w_lit) rfl
theorem attach_call {l:OpenLaw} {n:Nat} {q:Program} {loose:List Str} {XP:(Str→Option Value)→Heap→Prop} {YP:World→Heap→Prop} {d:DefRec}
  (hn:l.most = some n) (hdf:d.params.defaults = [])
  (call:∀ (w:World) (s₀ s₁ : Shared) (mg mb:Str→Option Value) (fa:Addr) (o:Obj) (pm cd doc:Value) (a:Addr) (vs:List Value) (ns:List Int),
   Ground q loose [] XP w s₀ mg mb s₁.heap→YP w s₁.heap →
   s₁.heap.get? fa = some o→o.data = .func (docDef d.name d.params d.body d.scope pm cd doc)→s₁.heap.CodeRec cd d.name→mg d.name = some (.ref fa) →
   s₁.heap.get? a = some { cls:=.type "list",data:=.seq vs.toArray }→IntsAre vs ns→ns.length≤n→s₁.gens = #[] →
   codeAny (model l.prog w) callerA (.call (.ref fa) ⟨[.ref a],[]⟩) (fun r s'=>r = .ok (.ret (.bool true))∧OldK s₁.heap s'.heap∧s'.os = s₁.os∧AllBare s'.gens) s₁) :
  WalkO q loose XP YP l.row.toRowW d [] (fun f vs=>PySem.call f vs):=by
 intro w s₀ s₁ mg mb G Y fa o pm cd doc dV kV ho hd hcd hD hmg hg args vals as hpre hlay hrd hwl hlo
 obtain rfl:dV = .none:=Dflts.none hD hdf
 obtain rfl:kV = .none:=Dflts.noKw hD
 obtain ⟨a,vs,ns,rfl,rfl,hobj,hints,hlen⟩:=uA hn hpre hwl
 refine enter_call (codeAny_mono (call w s₀ s₁ mg mb fa o pm cd doc a vs ns G Y ho (fd_plain hd) hcd hmg hobj hints hlen hg) fun r s' hq=>?_)
 obtain ⟨rfl,h2,h3,h4⟩:=hq
 exact ⟨.inl ⟨.bool true,.bool true,[],rfl,fun _=>rfl,.bool true,t9 l _,fun _=>⟨List.Pairwise.nil,fun _ hm=>(nomatch hm)⟩⟩,h2,h3,h4⟩
end Att
namespace L2
open PySem PySem.Spec PyProof.Rows
theorem mf:∀ {vs:List Value} {ns:List Int},IntsAre vs ns→Vals (ns.map V.int) vs
 | _,_,.nil=>.nil
 | _,_,.cons n t h=>.cons ⟨t,rfl⟩ (mf h)
def Only (H:Hp):Prop:=∀ b,H b = none∨∃ o xs,H b = some (.frz o (.lst xs))
theorem vg {P:Program} {w:World} {K:PySem.W.Frag} {mg mb:Str→Option Value} {CX:CXT} {k:Nat} {fa a:Addr} {fd:FuncData} {x:Str} {sp:Sp} {s₁ : Shared} {vs:List Value} {ns:List Int}
  (KX:K.In s₁.heap) (hns:s₁.heap.Ns mainGlobals mg) (hb:s₁.heap.Ns builtinsNs mb) (hbb:∀ x:Str,x ≠ "__name__" → mb x = bootBuiltins x) (hlim:s₁.heap.NoLimit) (hsy:∃ m,s₁.heap.Ns sysModules m) (hg:s₁.gens = #[])
  (ha:s₁.heap.get? a = some { cls:=.type "list",data:=.seq vs.toArray }) (hi:IntsAre vs ns) (hl:ns.length≤sizeLine) (hr:Room k callerA)
  (F:∀ base:Heap,K.In base→base.Ns mainGlobals mg→FnOk P w K mg base CX k fa fd [x] sp) (hbind:∀ (s:Shared) (u:Value),BindsTo s fd ⟨[u],[]⟩ [(x,u)])
  (hsp:∀ H:Hp,Only H→SqL K H a (ns.map V.int)→sp [.ref a] H (fun v _=>v = .bl true) fun _ _ _=>False)
  (hCX:∀ H e s',CX [] H s₁ (fun _ _ _=>False) e s'→False) :
  codeAny (model P w) callerA (.call (.ref fa) ⟨[.ref a],[]⟩) (fun r s'=>r = .ok (.ret (.bool true))∧OldK s₁.heap s'.heap∧s'.os = s₁.os∧AllBare s'.gens) s₁:=by
 have rv:=mf hi
 have lenV:=hi.length
 have core:∀ H:Hp,Only H→SqL K H a (ns.map V.int)→HOk P w H s₁.heap→(∀ b,H b≠none→b = a)→(H a≠none→K.lookup a = none) →
   codeAny (model P w) callerA (.call (.ref fa) ⟨[.ref a],[]⟩) (fun r s'=>r = .ok (.ret (.bool true))∧OldK s₁.heap s'.heap∧s'.os = s₁.os∧AllBare s'.gens) s₁:=by
  intro H hO hS hok hA hK
  have base_of:∀ {b:Addr} {o:Obj},s₁.heap.get? b = some o→H b = none→(hidT s₁.heap H).get? b = some o:=fun e n=>uY e n
  have noA:∀ {b:Addr} {o:Obj} {es:Array DictEntry} {ep:Nat},s₁.heap.get? b = some o→o.data = .dict es ep→H b = none:=fun {b o es ep} e d=>by
   cases q:H b with
   | none=>rfl
   | some u =>
    have e':b = a:=hA b (by rw [q]; simp)
    subst e'
    rw [ha] at e; cases e
    have d':Data.seq vs.toArray _ = Data.dict es ep:=d
    cases d'
  have nsK:∀ {b:Addr} {m:Str→Option Value},s₁.heap.Ns b m→(hidT s₁.heap H).Ns b m:=fun {b m} ⟨o,es,ep,e,d,r⟩=>⟨o,es,ep,base_of e (noA e d),d,r⟩
  have hKb:K.In (hidT s₁.heap H):=fun b o e=>base_of (KX b o e) (by
   cases q:H b with
   | none=>rfl
   | some u =>
    have e':b = a:=hA b (by rw [q]; simp)
    subst e'
    rw [hK (by rw [q]; simp)] at e; cases e)
  have hM:Mod K mg (hidT s₁.heap H):=⟨hKb,nsK hns,⟨mb,nsK hb,hbb⟩,let ⟨mc,h1,h2⟩:=hlim; ⟨mc,nsK h1,h2⟩,let ⟨m,h⟩:=hsy; ⟨m,nsK h⟩⟩
  have e0:Env0 P w K mg (hidT s₁.heap H) callerA [] s₁ H:=⟨rfl,hM,fun b o e=>xL e,Nat.le_of_eq (uE _ _),trivial,fun b hb=>absurd (show b∈([]:List Addr) from hb) (by simp),hok,.of_eq hg⟩
  refine codeAny_mono ((F _ hKb (nsK hns)).run callerA [] s₁ H ⟨[.ref a],[]⟩ [.ref a] [.ref a] _ _ hr e0 (hbind s₁ (.ref a)) (.cons rfl .nil) (hsp H hO hS)) fun r s' h=>?_
  cases r with
  | error e=>exact (hCX H e s' h).elim
  | ok fl =>
   cases fl with
   | next=>exact False.elim h
   | brk=>exact False.elim h
   | cont=>exact False.elim h
   | ret u =>
    obtain ⟨v,H',os,bare,un,hok',r',q⟩:=h
    have q':v = .bl true:=q
    subst q'
    obtain rfl:u = Value.bool true:=r'
    refine ⟨rfl,OldK.of_keep fun b o e=>?_,os,bare⟩
    cases q:H b with
    | none=>exact un.keep b o e q (by intro z; exact absurd (show b∈([]:List Addr) from z) (by simp)) (by simp)
    | some u =>
     rcases hO b with z | ⟨ob,xs,z⟩
     ·rw [q] at z; cases z
     ·have z2:=un.frzs b ob _ z
      obtain ⟨e1,_⟩:=hok b _ z
      obtain ⟨e2,_⟩:=hok' b _ z2
      rw [e] at e1; cases e1
      exact e2
 cases hk:K.lookup a with
 | some o =>
  have e:=KX a o hk
  rw [ha] at e
  cases e
  refine core (fun _=>none) (fun _=>.inl rfl) (.inr ⟨_,vs.toArray,_,hk,rfl,rfl,rfl,by rw [List.size_toArray,lenV]; exact hl,by simpa using rv⟩) (fun b u z=>by have z':(none:Option HO) = some u:=z; cases z') (fun b z=>absurd rfl z) fun z=>absurd rfl z
 | none =>
  refine core (fun b=>if b = a then some (.frz { cls:=.type "list",data:=.seq vs.toArray } (.lst (ns.map V.int))) else none) (fun b=>?_) (.inl (.inr ⟨{ cls:=.type "list",data:=.seq vs.toArray },if_pos rfl⟩)) (fun b u z=>?_) (fun b z=>?_) fun _=>hk
  ·by_cases hb:b = a
   ·exact .inr ⟨_,_,if_pos hb⟩
   ·exact .inl (if_neg hb)
  ·by_cases hb:b = a
   ·have z':=(if_pos hb).symm.trans z
    cases z'
    subst hb
    exact ⟨ha,by rw [List.length_map]; exact hl,vs,_,rv,ha⟩
   ·have z':=(if_neg hb).symm.trans z
    cases z'
  ·by_cases hb:b = a
   ·exact hb
   ·exact absurd (if_neg hb) z
theorem yp {l:PySem.W.OpenLaw} {n k:Nat} {q:Program} {loose:List Str} {XP:(Str→Option Value)→Heap→Prop} {YP:World→Heap→Prop} {d:DefRec} {K:Params→PySem.W.Frag} {CX:World→CXT} {sp:World→Sp} {x:Str}
  (hq:importsNone q = true) (hn:l.most = some n) (hn2:n≤sizeLine) (hdf:d.params.defaults = []) (hr:Room k callerA)
  (hY:∀ (w:World) (h:Heap),YP w h→(K w.params).In h)
  (F:∀ (w:World) (mg:Str→Option Value) (fa:Addr) (h:Heap),(K w.params).In h→h.Ns mainGlobals mg→mg d.name = some (.ref fa) →
   ∃ fd:FuncData,(∀ (s:Shared) (u:Value),BindsTo s fd ⟨[u],[]⟩ [(x,u)]) ∧
    ∀ base:Heap,(K w.params).In base→base.Ns mainGlobals mg→FnOk l.prog w (K w.params) mg base (CX w) k fa fd [x] (sp w))
  (hsp:∀ (w:World) (H:Hp) (a:Addr) (ns:List Int),ns.length≤n→Only H→SqL (K w.params) H a (ns.map V.int)→sp w [.ref a] H (fun v _=>v = .bl true) fun _ _ _=>False)
  (hCX:∀ (w:World) (H:Hp) (s:Shared) (e:Value) (s':Shared),CX w [] H s (fun _ _ _=>False) e s'→False) :
  PySem.W.WalkO q loose XP YP l.row.toRowW d [] (fun f vs=>PySem.call f vs):=by
 refine Att.attach_call hn hdf fun w s₀ s₁ mg mb fa o pm cd doc a vs ns G Y ho hd hcd hmg hobj hints hlen hg=>?_
 have KX:=hY w _ Y
 obtain ⟨fd,hb,hF⟩:=F w mg fa _ KX G.T.g hmg
 exact vg KX G.T.g G.T.b G.T.builtins G.T.nolimit (let ⟨m,h,_⟩:=(G.T.seer hq).mods; ⟨m,h⟩) hg hobj hints (Nat.le_trans hlen hn2) hr hF hb (fun H hO hS=>hsp w H a ns hlen hO hS) fun H e s'=>hCX w H s₁ e s'
def iQ (s:Stmt):Arguments:=match s with
 | .FunctionDef _ a _ _ _ _ _ _ _ _=>a
 | _=>{ posonlyargs:=[],args:=[],vararg:=none,kwonlyargs:=[],kw_defaults:=[],kwarg:=none,defaults:=[] }
def dr (s:Stmt):List Stmt:=match s with
 | .FunctionDef _ _ b _ _ _ _ _ _ _=>b
 | _=>[]
def ab (s:Stmt):Scope:=match s with
 | .FunctionDef _ _ _ _ _ _ sc _ _ _=>sc
 | _=>{ kind:=.function,names:=[],isGenerator:=false,isCoroutine:=false }
abbrev CX0:CXT:=fun _ _ _ _ _ _=>False
abbrev E0:XK:=fun _ _ _=>False
theorem Ic {X:Cx}:pG CX0 X E0:=fun _ _ _ _ _ _ _ h=>h.elim
structure Fun (K:PySem.W.Frag) (x qual:Str) (st:Stmt) (f:Addr) (fd:FuncData):Prop where
 ex:∃ (oc:Value) (od:Option Addr) (kV doc pm:Value) (an:Option Addr) (cdv ct:Value) (osl:Array (Option Value)),
  fd = PySem.W.fnOf x qual (iQ st) (dr st) (ab st) .none kV doc pm an cdv ct∧K.lookup f = some ⟨oc,od,.func fd,osl⟩∧PySem.W.codeIn K cdv qual = true
 kp:PySem.W.keepIn K (.ref f) = true
section
variable {P:Program} {w:World} {K:PySem.W.Frag} {mg:Str→Option Value} {base:Heap}
theorem Fun.ok {x qual:Str} {st:Stmt} {f:Addr} {fd:FuncData} {N ps:List Str} {k:Nat} {sp:Sp} (F:Fun K x qual st f fd) (S:aB N ps (ab st)) (len:∀ vs H Q E,sp vs H Q E→vs.length = ps.length)
  (hbody:∀ (cdv:Value) (A:Around) (outer:List Env) (s:Shared) (H:Hp) (vs:List V) (Q:VK) (E:XK),Room k (A.deeper (envOfC qual (ab st) s.heap.objs.size f cdv))→sp vs H Q E →
   ∃ t,PSs (cxOf CX0 P w K mg base N qual (ab st) f cdv A outer s H E).nox (dr st) t∧t { nx:=fun _ H'=>Q .non H',rt:=Q } (start N vs) H):FnOk P w K mg base CX0 (k + 1) f fd ps sp:=by
 obtain ⟨oc,od,kV,doc,pm,an,cdv,ct,osl,rfl,lk,hcd⟩:=F.ex
 refine FC lk hcd S len fun A outer s H vs Q E hr hsp=>?_
 obtain ⟨t,h,q⟩:=hbody cdv A outer s H vs Q E hr hsp
 exact ⟨t,h.nox,q⟩
theorem Fun.binds {x qual:Str} {st:Stmt} {f:Addr} {fd:FuncData} {ps:List Str} (F:Fun K x qual st f fd)
  (h:∀ (kV doc pm:Value) (an:Option Addr) (cdv ct:Value) (us:List Value),us.length = ps.length→bindArgs (PySem.W.fnOf x qual (iQ st) (dr st) (ab st) .none kV doc pm an cdv ct) ⟨us,[]⟩ = pure (ps.zip us)):Binds K fd ps []:=by
 obtain ⟨oc,od,kV,doc,pm,an,cdv,ct,osl,rfl,lk,hcd⟩:=F.ex
 exact .all (h kV doc pm an cdv ct)
theorem Ca {x qual:Str} {st:Stmt} {f:Addr} {oc:Value} {od an:Option Addr} {osl:Array (Option Value)} {kV doc pm cdv ct:Value} (l:K.lookup f = some ⟨oc,od,.func (PySem.W.fnOf x qual (iQ st) (dr st) (ab st) .none kV doc pm an cdv ct),osl⟩)
  (c:PySem.W.codeIn K cdv qual = true) (k:PySem.W.keepIn K (.ref f) = true):Fun K x qual st f (PySem.W.fnOf x qual (iQ st) (dr st) (ab st) .none kV doc pm an cdv ct):=⟨⟨oc,od,kV,doc,pm,an,cdv,ct,osl,rfl,l,c⟩,k⟩
end
theorem iteF {A B:Prop} (h:B):if false = true then A else B:=by
 rw [if_neg Bool.false_ne_true]
 exact h
theorem iteT {A B:Prop} (h:A):if true = true then A else B:=by
 rw [if_pos rfl]
 exact h
def aQ (X:Cx) (scope:Scope) (cl:List (Str×Addr)) (N:List Str) (s:Shared) (H:Hp) (C:Addr) (ex:List Addr):Cx where
 prog:=X.prog
 w:=X.w
 K:=X.K
 mg:=X.mg
 base:=X.base
 A:=X.A
 N:=N
 s₀:=s
 H₀:=H
 env:=compEnvC scope cl C X.env
 outer:=X.stack
 stack:=X.stack
 ex:=ex
 fn:=fun _=>false
 calm:=X.calm
 eb:=X.eb
 pn:=[]
 xe:=fun _ _=>False
theorem ic {env:Env}:∀ {names:List (Str×NameKind)} {acc:List (Str×Addr)},(∀ y∈names,y.2 = .free→∃ c,env.cells.lookup y.1 = some c)→(∀ x c,acc.lookup x = some c→env.cells.lookup x = some c) →
  ∃ cl,(forIn names acc fun (x:Str×NameKind) (cs:List (Str×Addr))=>if (x.2 == NameKind.free) = true then do let c ← cellOf env x.1; pure (ForInStep.yield ((x.1,c) :: cs)) else pure (ForInStep.yield cs):Sem (List (Str×Addr))) = pure cl ∧
   (∀ x c,cl.lookup x = some c→env.cells.lookup x = some c)∧(∀ y∈names,y.2 = .free→∃ c,cl.lookup y.1 = some c)∧(∀ x,(∃ c,acc.lookup x = some c)→∃ c,cl.lookup x = some c)
 | [],acc,_,ha=>⟨acc,rfl,ha,fun y hy=>absurd hy (by simp),fun _ h=>h⟩
 | (n,k) :: r,acc,h,ha=>by
  rw [List.forIn_cons]
  by_cases hk:k = .free
  ·subst hk
   obtain ⟨c,hc⟩:=h (n,.free) List.mem_cons_self rfl
   have hc':env.cells.lookup n = some c:=hc
   have e1:cellOf env n = pure c:=by unfold cellOf; rw [hc']
   obtain ⟨cl,e2,h2,h3,h4⟩:=ic (env:=env) (names:=r) (acc:=(n,c) :: acc) (fun y hy=>h y (List.mem_cons_of_mem _ hy)) (fun x d hx=>by
    rw [List.lookup_cons] at hx
    cases hb:x == n with
    | true=>rw [hb] at hx; cases hx; rw [eq_of_beq hb]; exact hc'
    | false=>rw [hb] at hx; exact ha x d hx)
   refine ⟨cl,?_,h2,fun y hy hyk=>?_,fun x hx=>h4 x ?_⟩
   ·simp only [beq_self_eq_true,if_true,e1,pure_bind]
    exact e2
   ·obtain rfl | hy:=List.mem_cons.mp hy
    ·exact h4 n ⟨c,by rw [List.lookup_cons]; simp⟩
    ·exact h3 y hy hyk
   ·obtain ⟨d,hd⟩:=hx
    rw [List.lookup_cons]
    cases hb:x == n with
    | true=>exact ⟨c,rfl⟩
    | false=>exact ⟨d,hd⟩
  ·have hb:(k == NameKind.free) = false:=by simpa using hk
   obtain ⟨cl,e2,h2,h3,h4⟩:=ic (env:=env) (names:=r) (acc:=acc) (fun y hy=>h y (List.mem_cons_of_mem _ hy)) ha
   refine ⟨cl,?_,h2,fun y hy hyk=>?_,h4⟩
   ·simp only [hb,Bool.false_eq_true,if_false,pure_bind]
    exact e2
   ·obtain rfl | hy:=List.mem_cons.mp hy
    ·exact absurd hyk hk
    ·exact h3 y hy hyk
theorem ga {env:Env} {scope:Scope} (h:∀ y∈scope.names,y.2 = .free→∃ c,env.cells.lookup y.1 = some c) :
  ∃ cl,closureFor scope env = pure cl∧(∀ x c,cl.lookup x = some c→env.cells.lookup x = some c)∧∀ y∈scope.names,y.2 = .free→∃ c,cl.lookup y.1 = some c:=by
 obtain ⟨cl,e,h1,h2,_⟩:=ic (env:=env) (names:=scope.names) (acc:=[]) h (fun x c hx=>by cases hx)
 refine ⟨cl,?_,h1,h2⟩
 simp only [closureFor]
 have e':=congrArg (fun (t:Sem (List (Str×Addr)))=>t >>= fun cs=>pure cs) e
 simp only [pure_bind,bind_pure] at e' ⊢
 exact e'
def PTs (X:Cx) (ifs:List Expr) (t:TT):Prop :=
 ∀ (pins:List (Addr×Obj)) (s:Shared) (σ : St) (H:Hp) (Q:Bool→Hp→Prop),Inv X pins σ H s→t σ H Q →
  wpAny (model X.prog X.w) X.A (forIn ifs true fun c r=>if r = true then do let ok ← isTrue c X.env (eval c X.env); pure (ForInStep.yield ok) else pure (ForInStep.yield r)) (TP X pins σ Q) X.xe s
def zM:TT:=fun _ H Q=>Q true H
theorem re {X:Cx}:PTs X [] zM:=fun _ _ _ H _ I h=>wpAny_tests_nil ⟨H,I,h⟩
theorem zt {X:Cx} {c:Expr} {t:TT} (hc:PT X c t):PTs X [c] t:=fun pins s σ H Q I h=>wpAny_tests_one (hc pins s σ H Q I h)
def PB (X:Cx) (bd:Sem PUnit) (t:TS):Prop :=
 ∀ (pins:List (Addr×Obj)) (s:Shared) (σ : St) (H:Hp) (D:Ends),Inv X pins σ H s→t D σ H→wpAny (model X.prog X.w) X.A bd (fun _ s'=>∃ σ' H',Inv X pins σ' H' s'∧D.nx σ' H') X.xe s
def mZ (J:It) (g:TG) (tb:TS):TS:=fun D σ H=>∃ W:Nat→Nat→St→Hp→Prop,(∃ m,W 0 m σ H)∧∀ i m σ H,W i m σ H →
 (J.stop i H∧D.nx σ H)∨(J.go i H∧∃ N:St→Hp→Prop,(∀ σ' H',N σ' H'→∃ m',m' < m∧W (i + 1) m' σ' H')∧∀ x H',J.yld i H x H'→g x σ H' fun σ2 H2=>tb { D with nx:=N,ct:=N,bk:=D.nx } σ2 H2)
def tIfT (tt:TT) (tb:TS):TS:=fun D σ H=>tt σ H fun b H1=>if b = true then tb D σ H1 else D.nx σ H1
def uG (l:Addr) (te:TE):TS:=fun D σ H=>te σ H fun x H1=>∃ xs,H1 l = some (.lst xs)∧xs.length < sizeLine∧D.nx σ (upd H1 l (.lst (xs++[x])))
theorem t8 {X:Cx} {elt:Expr} {gens:List Comprehension} {scope:Scope} {pos:Pos} {d:Nat} {it:Addr} {acc:Value} {tg:Expr} {ipos:Pos} {ifs:List Expr} {bd:Sem PUnit} {g:TG} {tt:TT} {tb:TS} {J:It} {fp:List Addr} {tn:Nat→Heap→Prop}
  (hturn:compTurn (.ListComp elt gens scope pos) d (.ref it) acc X.env = (do
   standAt ipos
   match ← pyNext (.ref it) with
   | none=>pure (.done .next)
   | some v =>
    letOwnedTupleGo tg (.ref it) v
    assign tg X.env v
    let mut ok:=true
    for c in ifs do
     if ok then ok ← isTrue c X.env (eval c X.env)
    if ok then bd
    again (.compLoop (.ListComp elt gens scope pos) d (.ref it) acc X.env)))
  (hx:X.xe = fun _ _=>False) (hc:X.calm = true) (T:Turn X.prog X.w X.K tg J fp it tn) (hg:PG X tg g) (ht:PTs X ifs tt) (hb:PB X bd tb)
  {pins:List (Addr×Obj)} {s:Shared} {σ : St} {H:Hp} {D:Ends} (I:Inv X pins σ H s) (st:tn 0 s.heap) (f:∀ b∈fp,FpOk X pins H b) (h:mZ J g (tIfT tt tb) D σ H) :
  codeAny (model X.prog X.w) X.A (.compLoop (.ListComp elt gens scope pos) d (.ref it) acc X.env) (fun r s'=>r = .ok .next∧∃ σ' H',Inv X pins σ' H' s'∧D.nx σ' H') s:=by
 obtain ⟨W,⟨m0,w0⟩,turn⟩:=h
 have stat:∀ {H':Hp},(∀ b∈fp,H' b = none)→∀ b∈fp,FpOk X pins H' b:=fun hn b hb=>⟨hn b hb,(f b hb).2⟩
 have nox:∀ {α : Type} {t:Sem α} {Q : α→Shared→Prop} {E:Value→Shared→Prop} {s:Shared},wpAny (model X.prog X.w) X.A t Q X.xe s→wpAny (model X.prog X.w) X.A t Q E s:=fun h=>wpAny_mono h (fun _ _ q=>q) fun _ _ z=>by
  rw [hx] at z; exact z.elim
 refine codeAny_loop rfl (fun n s'=>∃ i σ' H',Inv X pins σ' H' s'∧tn i s'.heap∧(∀ b∈fp,H' b = none)∧W i n σ' H') ?_ m0 ⟨0,σ,H,I,st,fun b hb=>(f b hb).1,w0⟩
 rintro n s3 ⟨i,σ3,H3,I3,st3,fr3,w3⟩
 show wpAny _ X.A ((compTurn (.ListComp elt gens scope pos) d (.ref it) acc X.env).onRaise (fun x=>do noteFrame x X.env; theTreesLotGoes x)) _ _ s3
 refine wpAny_noted ?_
 rw [hturn]
 refine wpAny_bind (m:=standAt _) (wpAny_standAt (wpAny_bind ?_))
 rcases turn i n σ3 H3 w3 with ⟨stop,qn⟩ | ⟨go,N,hN,step⟩
 ·refine thn (T.done X rfl rfl rfl hc i pins s3 σ3 H3 _ I3 (stat fr3) st3 stop) fun r s4 ⟨hr,I4⟩=>?_
  subst hr
  exact wpAny_pure ⟨rfl,σ3,H3,I4,qn⟩
 ·refine thn (T.item X rfl rfl rfl hc i pins s3 σ3 H3 _ I3 (stat fr3) st3 go) fun r s4 ⟨u,hr,h4⟩=>?_
  subst hr
  refine wpAny_bind (thn h4 fun _ s5 ⟨x,H5,I5,r5,y5,st5,fr5⟩=>?_)
  have I5':=I5.pinned (stat fr5) (T.obj _ _ st5)
  refine wpAny_bind (nox (thn (hg _ s5 σ3 H5 x u _ I5' r5 (step x H5 y5)) fun _ s6 ⟨σ6,H6,I6,q6⟩=>?_))
  refine wpAny_bind (nox (thn (ht _ s6 σ6 H6 _ I6 q6) fun ok s7 ⟨H7,I7,q7⟩=>?_))
  have fin:∀ {σ8:St} {H8:Hp} {s8:Shared},Inv X (pins++lX fp s5.heap) σ8 H8 s8→N σ8 H8→∃ m,m < n∧∃ i σ' H',Inv X pins σ' H' s8∧tn i s8.heap∧(∀ b∈fp,H' b = none)∧W i m σ' H':=fun {σ8 H8 s8} I8 n8=>by
   obtain ⟨m',hm,w8⟩:=hN σ8 H8 n8
   refine ⟨m',hm,i + 1,σ8,H8,I8.unpinned,T.keep _ _ _ st5 fun b hb o e=>(I8.pin (b,o) (List.mem_append_right _ (List.mem_append_right _ (fM hb e)))).1,fun b hb=>?_,w8⟩
   obtain ⟨o,e,_⟩:=T.obj _ _ st5 b hb
   exact (I8.pin (b,o) (List.mem_append_right _ (List.mem_append_right _ (fM hb e)))).2.1
  cases ok with
  | false =>
   rw [if_neg Bool.false_ne_true] at q7
   exact wpAny_pure ⟨rfl,fin I7 q7⟩
  | true =>
   rw [if_pos rfl] at q7
   exact wpAny_bind (nox (thn (hb _ s7 σ6 H7 _ I7 q7) fun _ s8 ⟨σ8,H8,I8,q8⟩=>wpAny_pure ⟨rfl,fin I8 q8⟩))
theorem ub {X:Cx} {elt:Expr} {te:TE} {l:Addr} (he:PE X elt te):PB X (do let _ ← call (.builtin "list.append") [.ref l,←eval elt X.env]) (uG l te):=by
 intro pins s σ H D I h
 refine wpAny_bind (thn (he pins s σ H _ I h) fun u s1 ⟨x,H1,I1,r1,xs,hl,hz,q⟩=>?_)
 obtain ⟨hz1,its,n,rv,hv,ho⟩:=I1.lstM hl
 have hsl:s1.heap.IsList l its.toArray:=⟨_,ho,rfl,_,rfl⟩
 refine wpAny_bind (thn (Q:=fun _ s'=>∃ σ' H',Inv X pins σ' H' s'∧D.nx σ' H') ?_ fun _ s' hq=>wpAny_pure hq)
 exact thn (jk (X:=X) pins s1 σ H1 (.ref l) [x] (.ref l) [u] (fun v H'=>v = .non∧D.nx σ H') I1 rfl (.cons r1 .nil) ⟨l,xs,x,rfl,rfl,hl,hz,rfl,q⟩) fun v s' ⟨_,H',I',_,_,q'⟩=>⟨σ,H',I',q'⟩
theorem dq (env:Env) (x:Str):∀ names:List (Str×NameKind),(names.map fun (n,k)=>if (k == NameKind.free && env.scope.kind == .function && env.kindOf n == some .cell) then (n,NameKind.cell) else (n,k)).lookup x =
  (names.lookup x).map fun k=>if (k == NameKind.free && env.scope.kind == .function && env.kindOf x == some .cell) then NameKind.cell else k
 | []=>rfl
 | (n,k) :: r=>by
  have ih:=dq env x r
  rw [List.map_cons]
  dsimp only
  cases hx:x == n with
  | true =>
   have e:=eq_of_beq hx
   subst e
   by_cases hc:(k == NameKind.free && env.scope.kind == .function && env.kindOf x == some .cell) = true
   ·rw [if_pos hc]; simp only [List.lookup_cons,hx,Option.map_some,if_pos hc]
   ·rw [if_neg hc]; simp only [List.lookup_cons,hx,Option.map_some,if_neg hc]
  | false =>
   split
   ·simp only [List.lookup_cons,hx]; exact ih
   ·simp only [List.lookup_cons,hx]; exact ih
theorem fv {x:Str} {k:NameKind}:∀ {names:List (Str×NameKind)},names.lookup x = some k→(x,k)∈names:=fun h=>PySem.mem_of_lookup h
theorem jy {env:Env} {scope:Scope} {x:Str} (hcell:∀ y∈scope.names,y.2≠.cell) (h:(relabel scope env).names.lookup x = some .cell∨(relabel scope env).names.lookup x = some .free):scope.names.lookup x = some .free:=by
 unfold relabel at h
 simp only [dq] at h
 cases e:scope.names.lookup x with
 | none=>rw [e] at h; rcases h with h | h <;> cases h
 | some k =>
  rw [e] at h
  simp only [Option.map_some,Option.some.injEq] at h
  have hk:k≠.cell:=hcell (x,k) (fv e)
  by_cases hf:k = .free
  ·rw [hf]
  ·have hb:(k == NameKind.free) = false:=by simpa using hf
   rw [hb] at h
   simp only [Bool.false_and,Bool.false_eq_true,if_false] at h
   rcases h with h | h
   ·exact absurd h hk
   ·rw [h]
theorem md {env:Env} {scope:Scope} {x:Str} (h:scope.names.lookup x = some .free):(relabel scope env).names.lookup x = some .cell∨(relabel scope env).names.lookup x = some .free:=by
 unfold relabel
 simp only [dq,h,Option.map_some]
 split
 ·exact .inl rfl
 ·exact .inr rfl
def dl (own:List Str) (ps:List Nat) (σ : St):St:=own.map (fun _=>none)++ps.map fun i=>(σ[i]?).join
structure bo (own fr:List Str) (scope sc:Scope):Prop where
 kind:scope.kind = .function
 nocell:∀ y∈scope.names,y.2≠.cell
 names:∀ y∈scope.names,y.2 = .local→scope.names.lookup y.1 = some .local
 there:∀ y∈scope.names,y.2 = .free→sc.names.lookup y.1 = some .cell∨sc.names.lookup y.1 = some .free
 fr:∀ x∈fr,scope.names.lookup x = some .free
section
variable {X:Cx} {scope sc:Scope} {own fr:List Str} {ps:List Nat}
theorem lz {elt tg iter:Expr} {ifs:List Expr} {rest:List Comprehension} {pos:Pos} {bdy:Env→Value→Sem PUnit} {g:TG} {tt:TT} {tb:Addr→TS} {cl:List (Str×Addr)} {R:Value→Addr→Result→Shared→Prop} {E:Value→Shared→Prop}
  (S:bo own fr scope sc) (hsc:X.env.scope = sc) (hps:ps.map (fun i=>X.N[i]?) = fr.map some) (hc:X.calm = true) (hcl1:∀ x c,cl.lookup x = some c→X.env.cells.lookup x = some c) (hcl2:∀ y∈scope.names,y.2 = .free→∃ c,cl.lookup y.1 = some c)
  (hturn:∀ env it acc,compTurn (.ListComp elt (⟨tg,iter,ifs,0⟩ :: rest) scope pos) 0 it acc env = (do
   standAt iter.pos
   match ← pyNext it with
   | none=>pure (.done .next)
   | some v =>
    letOwnedTupleGo tg it v
    assign tg env v
    let mut ok:=true
    for c in ifs do
     if ok = true then ok ← isTrue c env (eval c env)
    if ok then bdy env acc
    again (.compLoop (.ListComp elt (⟨tg,iter,ifs,0⟩ :: rest) scope pos) 0 it acc env)))
  (hg:∀ s H C ex,PG (aQ X scope cl (own++fr) s H C ex) tg g) (ht:∀ s H C ex,PTs (aQ X scope cl (own++fr) s H C ex) ifs tt)
  (hb:∀ s H C ex l,PB (aQ X scope cl (own++fr) s H C ex) (bdy (compEnvC scope cl C X.env) (.ref l)) (tb l))
  {pins:List (Addr×Obj)} {s:Shared} {σ : St} {H:Hp} {Q:VK} {it:Addr} {fp:List Addr} {tn:Nat→Heap→Prop} {J:It} (I:Inv X pins σ H s) (T:Turn X.prog X.w X.K tg J fp it tn) (st:tn 0 s.heap) (f:∀ b∈fp,FpOk X pins H b)
  (h:∀ l,H l = none→mZ J g (tIfT tt (tb l)) { nx:=fun _ H'=>Q (.ref l) H',rt:=fun _ _=>False } (dl own ps σ) (upd H l (.lst [])))
  (hR:∀ l C H' s',(∃ m,s'.heap.Ns C m)→Inv X pins σ H' s'→FpOk X pins H' C→Q (.ref l) H'→R (.ref l) C (.ok .next) s') :
  wpAny (model X.prog X.w) X.A (newList []) (fun acc s₃=>wpAny (model X.prog X.w) X.A (newFunctionEnv scope X.env.globals cl [] X.env.qual none .none (some X.env)) (fun cenv s₄ =>
   codeAny (model X.prog X.w) X.A (.compStart (.ListComp elt (⟨tg,iter,ifs,0⟩ :: rest) scope pos) 0 (.ref it) acc { cenv with scope:=relabel scope X.env }) (R acc cenv.locals) s₄) E s₃) E s:=by
 refine wpAny_newObj_type (wpAny_newFunctionEnv S.nocell (by intro y hy; simp at hy) (fun h₁ hns₁ hsb₁=>?_) S.kind)
 have I3:Inv X pins σ (upd H s.heap.objs.size (.lst [])) { s with heap:=s.heap.push { cls:=.type "list",data:=.seq ([]:List Value).toArray } }:=I.lnew (t':=s.toks) (ys:=[]) .nil (Nat.zero_le _)
 generalize hS3:({ s with heap:=s.heap.push { cls:=.type "list",data:=.seq ([]:List Value).toArray } }:Shared) = s3 at I3 hns₁ hsb₁ ⊢
 have hsz:s3.heap.objs.size = s.heap.objs.size + 1:=by rw [←hS3]; exact Heap.size_push _ _
 have hl:H s.heap.objs.size = none:=I.hok.fresh (Nat.le_refl _)
 have kept0:∀ b o,s.heap.get? b = some o→s3.heap.get? b = some o:=fun b o e=>by rw [←hS3]; exact Heap.get?_push_of_some _ e
 have kept1:∀ b o,s3.heap.get? b = some o→h₁.get? b = some o:=fun b o e=>hsb₁.extBut b o (Nat.ne_of_lt (Heap.lt_size e)) (Heap.get?_push_of_some _ e)
 have fpl:∀ b∈fp,b < s.heap.objs.size:=fun b hb=>by obtain ⟨o,e,_⟩:=T.obj _ _ st b hb; exact Heap.lt_size e
 have fpH:∀ b∈fp,(upd H s.heap.objs.size (.lst [])) b = none:=fun b hb=>by rw [au (Nat.ne_of_lt (fpl b hb))]; exact (f b hb).1
 have fpS:∀ b∈fp,b∉frs X.stack:=fun b hb z=>by
  rcases List.mem_cons.mp (I.stkSub b z) with e | e
  ·exact (f b hb).2.1 e
  ·exact (f b hb).2.2.1 e
 have ok':(aQ X scope cl (own++fr) s3 (upd H s.heap.objs.size (.lst [])) s3.heap.objs.size fp).Ok:=by
  refine ⟨I.ok.mod,S.kind,I.ok.glob,I.ok.blt,Nat.le_refl _,fun x y c h1 h2=>I.ok.inj x y c (hcl1 x c h1) (hcl1 y c h2),fun x hx=>?_,fun x c hf=>(by cases hf),I.ok.hd,I.ok.frames,.inl rfl,fun b hb=>⟨?_,fun x c hx=>(f b hb).2.2.2.2.1 x c (hcl1 x c hx)⟩,
   fun b o e=>I3.bs b o e,Nat.le_trans I3.ok.bsz I3.sz,fun b o e hb=>?_,fun b hb=>fpS b hb,I3.stack,I3.stkFree⟩
  ·exact hcl2 (x,.free) (fv (jy S.nocell hx)) rfl
  ·exact Nat.ne_of_lt (Nat.lt_of_lt_of_le (fpl b hb) (by rw [hsz]; exact Nat.le_succ _))
  ·rcases (f b hb).2.2.2.1 with z | z
   ·exact I.ok.noex b o e z
   ·exact absurd (Nat.lt_of_lt_of_le (Heap.lt_size (I.ok.bs b o e).1) z) (Nat.lt_irrefl _)
 have I4:Inv (aQ X scope cl (own++fr) s3 (upd H s.heap.objs.size (.lst [])) s3.heap.objs.size fp) [] (dl own ps σ) (upd H s.heap.objs.size (.lst [])) { s3 with heap:=h₁,toks:=s3.toks + ([]:List (Str×Value)).length }:=by
  refine ⟨ok',rfl,I3.bare,Un.kept kept1,⟨_,hns₁,fun i x v e1 e2 e3=>?_⟩,fun x c e=>?_,I3.hok.fresh (Nat.le_refl _),fun x c e=>I3.freeC x c (hcl1 x c e),fun p hp=>absurd (show p∈([]:List (Addr×Obj)) from hp) (by simp),I3.hok.kept kept1,?_⟩
  ·have e1':(own++fr)[i]? = some x:=e1
   unfold dl at e2
   by_cases hi:i < own.length
   ·rw [List.getElem?_append_left (by simpa using hi),List.getElem?_map] at e2
    cases q:own[i]? with
    | none=>rw [q] at e2; cases e2
    | some z=>rw [q] at e2; cases e2
   ·rw [List.getElem?_append_right (by simpa using hi),List.length_map,List.getElem?_map] at e2
    rw [List.getElem?_append_right (by simpa using hi)] at e1'
    cases q:ps[i - own.length]? with
    | none=>rw [q] at e2; cases e2
    | some p =>
     rw [q] at e2
     have e2':(σ[p]?).join = some v:=Option.some.inj e2
     have hσ : σ[p]? = some (some v):=by
      cases z : σ[p]? with
      | none=>rw [z] at e2'; cases e2'
      | some w=>rw [z] at e2'; cases w with
       | none=>cases e2'
       | some w=>cases e2'; rfl
     have hN:X.N[p]? = some x:=by
      have z:=congrArg (fun l=>l[i - own.length]?) hps
      simp only [List.getElem?_map,q,e1',Option.map_some,Option.some.injEq] at z
      exact z
     have hx:x∈fr:=List.mem_of_getElem? e1'
     have hfr:=S.fr x hx
     have hsee:=S.there (x,.free) (fv hfr) rfl
     obtain ⟨m,hn,hlk⟩:=I3.loc
     obtain ⟨u,ru,lk⟩:=hlk p x v hN hσ (by rw [hsc]; exact .inr hsee)
     refine ⟨u,ru,.inr ⟨md hfr,?_⟩⟩
     rcases lk with ⟨k,_⟩ | ⟨_,c,ec,z⟩
     ·have k':X.env.scope.names.lookup x = some .local:=k
      rw [hsc] at k'
      rcases hsee with q2 | q2 <;> (rw [k'] at q2; cases q2)
     ·obtain ⟨c',ec'⟩:=hcl2 (x,.free) (fv hfr) rfl
      have:=hcl1 x c' ec'
      rw [ec] at this
      cases this
      obtain ⟨o,ho,hd⟩:=z
      exact ⟨c,ec',o,kept1 _ _ ho,hd⟩
  ·obtain ⟨v,o,ho,hd⟩:=I3.cell x c (hcl1 x c e)
   exact ⟨v,o,kept1 _ _ ho,hd⟩
  ·show (dl own ps σ).length = (own++fr).length
   have:=congrArg List.length hps
   rw [List.length_map,List.length_map] at this
   unfold dl
   rw [List.length_append,List.length_append,List.length_map,List.length_map,this]
 have f4:∀ b∈fp,FpOk (aQ X scope cl (own++fr) s3 (upd H s.heap.objs.size (.lst [])) s3.heap.objs.size fp) [] (upd H s.heap.objs.size (.lst [])) b:=fun b hb =>
  ⟨fpH b hb,(ok'.exf b hb).1,fpS b hb,.inl hb,(ok'.exf b hb).2,fun p hp=>absurd (show p∈([]:List (Addr×Obj)) from hp) (by simp)⟩
 have st4:tn 0 h₁:=T.keep 0 _ _ st fun b hb o e=>kept1 b o (kept0 b o e)
 have loop:codeAny (model X.prog X.w) X.A (.compLoop (.ListComp elt (⟨tg,iter,ifs,0⟩ :: rest) scope pos) 0 (.ref it) (.ref s.heap.objs.size) (compEnvC scope cl s3.heap.objs.size X.env)) (R (.ref s.heap.objs.size) s3.heap.objs.size) { s3 with heap:=h₁,toks:=s3.toks + ([]:List (Str×Value)).length }:=by
  refine codeAny_mono (t8 (X:=aQ X scope cl (own++fr) s3 (upd H s.heap.objs.size (.lst [])) s3.heap.objs.size fp) (hturn _ _ _) rfl hc T (hg _ _ _ _) (ht _ _ _ _) (hb _ _ _ _ _) I4 st4 f4 (h _ hl)) fun r s' ⟨er,σ5,H5,I5,q5⟩=>?_
  subst er
  have I6:Inv X pins σ H5 s':=I3.call' (s':=s') I5.os I5.base I5.hok I5.bare fun b hb=>⟨(f b hb).2.2.2.1,(f b hb).2.1,(f b hb).2.2.2.2.1,(f b hb).2.2.2.2.2⟩
  have hm:∃ m,s'.heap.Ns s3.heap.objs.size m:=let ⟨m,hn,_⟩:=I5.loc; ⟨m,hn⟩
  exact hR _ _ H5 s' hm I6 (I3.fpOk (Nat.le_refl _) I5.free) q5
 exact codeAny_compStart_list loop (T.self _ 0 _ _ _ st4 loop)
def v7 (wi:TI) (own:List Str) (ps:List Nat) (tl:Addr→It→TS):TE:=fun σ H Q=>wi σ H fun J H1=>∀ l,H1 l = none→tl l J { nx:=fun _ H'=>Q (.ref l) H',rt:=fun _ _=>False } (dl own ps σ) (upd H1 l (.lst []))
def tl1 (g:TG) (tt:TT) (te:TE):Addr→It→TS:=fun l J=>mZ J g (tIfT tt (uG l te))
theorem Inv.junk {pins:List (Addr×Obj)} {σ : St} {H:Hp} {s:Shared} {C:Addr} (I:Inv X pins σ H s) (f:FpOk X pins H C) {h':Heap} (hs:Heap.SameBut C s.heap h'):Inv X pins σ H { s with heap:=h' } :=
 I.turned (t':=s.toks) (it:=C) (fun b o ne e=>(hs.2 b ne).trans e) f.1 f.2.1 f.2.2.2.1 f.2.2.2.2.1 f.2.2.2.2.2
variable {elt tg iter:Expr} {ifs:List Expr} {pos spos py:Pos} {wi:TI} {g:TG} {tt:TT} {te:TE}
theorem pF {pins:List (Addr×Obj)} {σ : St} {H:Hp} {s:Shared} (S:bo own fr scope sc) (hsc:X.env.scope = sc) (I:Inv X pins σ H s):∀ y∈scope.names,y.2 = .free→∃ c,X.env.cells.lookup y.1 = some c:=fun y hy hk =>
 I.ok.has y.1 (by show X.env.scope.names.lookup y.1 = _∨X.env.scope.names.lookup y.1 = _; rw [hsc]; exact S.there y hy hk)
theorem j2 (S:bo own fr scope sc) (hi:PI X tg iter wi) (hg:∀ cl s H C ex,PG (aQ X scope cl (own++fr) s H C ex) tg g) (ht:∀ cl s H C ex,PTs (aQ X scope cl (own++fr) s H C ex) ifs tt)
  (he:∀ cl s H C ex,PE (aQ X scope cl (own++fr) s H C ex) elt te) (hsc:X.env.scope = sc:=by rfl) (hps:ps.map (fun i=>X.N[i]?) = fr.map some:=by rfl) (hc:X.calm = true:=by rfl) (hs:∀ x,foldedSetIterable iter X.env x = pure x:=by intro _; rfl) :
  PE X (.ListComp elt [⟨tg,iter,ifs,0⟩] scope pos) (v7 wi own ps (tl1 g tt te)):=by
 intro pins s σ H Q I h
 obtain ⟨cl,ec,h1,h2⟩:=ga (pF S hsc I)
 rw [eval_ListComp]
 refine wpAny_comprehension_free (use:=none) rfl hs ec S.kind S.names (thn (hi pins s σ H _ I h) fun v s1 q1=>thn q1 fun itv s2 q2=>?_)
 obtain ⟨it,fp,tn,J,H2,e,I2,T,st2,f2,q⟩:=q2
 subst e
 exact lz (R:=fun acc C=>compPost (model X.prog X.w) X.A X.xe none (EP X pins σ Q) acc C) (bdy:=fun env acc=>do let _ ← call (.builtin "list.append") [acc,←eval elt env]) (tb:=fun l=>uG l te) S hsc hps hc h1 h2 (fun env it acc=>compTurn_list elt tg iter ifs scope pos it acc env)
  (hg cl) (ht cl) (fun s H C ex l=>ub (he cl s H C ex)) I2 T st2 f2 q fun l C H' s' hm I' fk q'=>by
   obtain ⟨m,hn⟩:=hm
   exact ⟨m,hn,fun h' hs'=>⟨.ref l,H',I'.junk fk hs',rfl,q'⟩⟩
theorem s9 {pins:List (Addr×Obj)} {σ : St} {H':Hp} {s':Shared} {i:Nat} {y:Str} {l C:Addr} {Q:St→Hp→Prop} {E:Value→Shared→Prop} (hN:X.N.Nodup) (hy:X.N[i]? = some y) (hlc:X.env.scope.names.lookup y = some .local) (hm:∃ m,s'.heap.Ns C m) (I:Inv X pins σ H' s') (fk:FpOk X pins H' C) (q:Q (σ.set i (some (.ref l))) H') :
  wpAny (model X.prog X.w) X.A (assign (.Name y py) X.env (.ref l)) (fun _ s''=>∃ m,s''.heap.Ns C m∧∀ h',Heap.SameBut C s''.heap h'→∃ σ' H'',Inv X pins σ' H'' { s'' with heap:=h' }∧Q σ' H'') E s':=by
 obtain ⟨m,hn⟩:=hm
 refine wpAny_assign_Name (lH I hN hy (.inl hlc) (v:=.ref l) rfl (fun s'' I'' ⟨a,hs,ha⟩=>?_) (.inr hlc))
 have hCa:C≠a:=by
  rcases ha with ha | ha
  ·rw [ha]; exact fk.2.1
  ·exact fun z=>fk.2.2.2.2.1 _ _ ha z.symm
 exact ⟨m,hn.sameBut hs hCa,fun h' hs'=>⟨_,H',I''.junk fk hs',q⟩⟩
theorem pc {i:Nat} {y:Str} (S:bo own fr scope sc) (hN:X.N.Nodup) (hy:X.N[i]? = some y) (hlc:X.env.scope.names.lookup y = some .local) (hi:PI X tg iter wi) (hg:∀ cl s H C ex,PG (aQ X scope cl (own++fr) s H C ex) tg g) (ht:∀ cl s H C ex,PTs (aQ X scope cl (own++fr) s H C ex) ifs tt)
  (he:∀ cl s H C ex,PE (aQ X scope cl (own++fr) s H C ex) elt te) (hsw:swapsWith (.ListComp elt [⟨tg,iter,ifs,0⟩] scope pos) (some (.Name y py)) spos.line X.env = pure true:=by rfl)
  (hsc:X.env.scope = sc:=by rfl) (hps:ps.map (fun i=>X.N[i]?) = fr.map some:=by rfl) (hc:X.calm = true:=by rfl) (hs:∀ x,foldedSetIterable iter X.env x = pure x:=by intro _; rfl) :
  PS X (.Assign [.Name y py] (.ListComp elt [⟨tg,iter,ifs,0⟩] scope pos) spos) (tAsg (v7 wi own ps (tl1 g tt te)) (gQ i)):=by
 intro pins s σ H D I h
 obtain ⟨cl,ec,h1,h2⟩:=ga (pF S hsc I)
 rw [show exec _ X.env = _ from exec_Assign_Name_used _ _ _ _ hsw]
 refine wpAny_bind (m:=standAt _) (wpAny_standAt (wpAny_bind ?_))
 show wpAny _ X.A (do let _ ← comprehension (.ListComp elt [⟨tg,iter,ifs,0⟩] scope pos) scope X.env _ (newList []) false (eval iter X.env) (some (assign (.Name y py) X.env))) _ _ s
 refine wpAny_bind (wpAny_mono (wpAny_comprehension_free (use:=some (assign (.Name y py) X.env)) (Q:=fun _ s'=>SP X pins D .next s') rfl hs ec S.kind S.names (thn (hi pins s σ H _ I h) fun v s1 q1=>thn q1 fun itv s2 q2=>?_)) (fun _ s' hq=>wpAny_pure (wpAny_pure hq)) fun _ _ e=>e)
 obtain ⟨it,fp,tn,J,H2,e,I2,T,st2,f2,q⟩:=q2
 subst e
 exact lz (Q:=fun v H'=>D.nx (σ.set i (some v)) H') (R:=fun acc C=>compPost (model X.prog X.w) X.A X.xe (some (assign (.Name y py) X.env)) (fun _ s'=>SP X pins D .next s') acc C) (bdy:=fun env acc=>do let _ ← call (.builtin "list.append") [acc,←eval elt env]) (tb:=fun l=>uG l te) S hsc hps hc h1 h2 (fun env it acc=>compTurn_list elt tg iter ifs scope pos it acc env)
  (hg cl) (ht cl) (fun s H C ex l=>ub (he cl s H C ex)) I2 T st2 f2 q fun l C H' s' hm I' fk q'=>s9 hN hy hlc hm I' fk q'
variable {tg2 iter2:Expr} {ifs2:List Expr} {wi2:TI} {g2:TG} {tt2:TT}
end
def FzL (K:PySem.W.Frag) (H:Hp) (a:Addr) (xs:List V):Prop :=
 (∃ o,H a = some (.frz o (.lst xs))) ∨
  ∃ (o:Obj) (its:Array Value) (n:Nat),K.lookup a = some o∧o.cls = .type "list" ∧ o.dict = none∧o.data = .seq its n∧its.size≤sizeLine∧Vals xs its.toList
theorem FzL.sq {K:PySem.W.Frag} {H:Hp} {a:Addr} {xs:List V} (h:FzL K H a xs):SqL K H a xs:=by
 rcases h with ⟨o,h⟩ | h
 ·exact .inl (.inr ⟨o,h⟩)
 ·exact .inr h
structure Kd where
 K:PySem.W.Frag
 w:World
instance:Coe Kd PySem.W.Frag:=⟨Kd.K⟩
mutual
def gv (w:World):PyData→Int
 | .int i=>hashInt i
 | .str x=>hashStr w x
 | .tuple ds=>reduceHash (Builtin.Tuple.tupleHashOf (fV w ds))
 | _=>0
def fV (w:World):List PyData→List Int
 | []=>[]
 | d :: ds=>gv w d :: fV w ds
end
mutual
def hkD:PyData→Bool
 | .int _=>true
 | .str _=>true
 | .tuple ds=>hkA ds
 | _=>false
def hkA:List PyData→Bool
 | []=>true
 | d :: ds=>hkD d && hkA ds
end
def isKd (kvs:List (PyData×PyData)):Bool:=kvs.all fun kv=>match kv.1 with | .int _=>true | .str _=>true | _=>false
def wF (kvs:List (PyData×PyData)):Prop:=isKd kvs = false∧(kvs.map (·.1)).Nodup∧∀ k∈kvs.map (·.1),hkD k = true
def dXp (a:Addr) (es:List (Int×V×V)) (h:Heap):Prop :=
 (a == sysModules) = false∧es.length≤sizeLine∧∃ (o:Obj) (ents:Array DictEntry) (ep:Nat),h.get? a = some o∧o.ExactDict∧o.data = .dict ents ep ∧
  Paired (fun (e:Int×V×V) (d:DictEntry)=>d.hash = e.1∧RelV e.2.1 d.key∧RelV e.2.2 d.val) es ents.toList
abbrev dX (a:Addr) (es:List (Int×V×V)):HO:=.ext (dXp a es)
def FzD (H:Hp) (a:Addr) (es:List (Int×V×V)):Prop:=∃ o,H a = some (.frz o (dX a es))
def ClsN (K:Kd) (c:Str) (C:Addr):Prop:=PySem.W.nsIn K.K mainGlobals c = some (some (.ref C))
def FG (K:Kd) (H:Hp) (a:Addr) (c:Str) (xs:List (Str×V)):Prop :=
 ∃ (o:Obj) (u:HO) (C:Addr),H a = some (.frz o u)∧o.cls = .ref C∧(∃ vs,o.data = .fields vs)∧ClsN K c C∧((o.dict = none∧xs = [])∨∃ (dx:Addr) (od:Obj),o.dict = some dx∧H dx = some (.frz od (.xd xs)))
def keyD:Key→PyData
 | .inl i=>.int i
 | .inr x=>.str x
def excC:List (PyData×PyData)→Option Str
 | (.none,.str c) :: _=>some c
 | _=>none
mutual
def Den (K:Kd) (H:Hp):PyData→V→Prop
 | .none,v=>v = .non
 | .bool b,v=>v = .bl b
 | .int i,v=>v = .int i
 | .str x,v=>v = .str x
 | .list ds,v=>∃ a xs,v = .ref a∧FzL K H a xs∧DenAll K H ds xs
 | .tuple ds,v=>∃ a xs,v = .ref a∧SqT K H a xs∧DenAll K H ds xs
 | .dict kvs,v=>∃ a,v = .ref a∧((∃ es,FzD H a es∧wF kvs∧DenKV K H kvs es)∨(∃ es o,H a = some (.frz o (.dK es))∧DenKK K H kvs es)∨∃ c xs,excC kvs = some c∧FG K H a c xs∧DenXF K H kvs xs)
def DenAll (K:Kd) (H:Hp):List PyData→List V→Prop
 | [],xs=>xs = []
 | d :: ds,xs=>∃ v vs,xs = v :: vs∧Den K H d v∧DenAll K H ds vs
def DenKV (K:Kd) (H:Hp):List (PyData×PyData)→List (Int×V×V)→Prop
 | [],es=>es = []
 | (k,d) :: r,es=>∃ u v vs,es = (gv K.w k,u,v) :: vs∧Den K H k u∧Den K H d v∧DenKV K H r vs
def DenKK (K:Kd) (H:Hp):List (PyData×PyData)→List (Key×V)→Prop
 | [],es=>es = []
 | (k,d) :: r,es=>∃ kk v vs,es = (kk,v) :: vs∧(k = keyD kk∧∀ x∈vs,x.1≠kk)∧Den K H d v∧DenKK K H r vs
def DenXF (K:Kd) (H:Hp):List (PyData×PyData)→List (Str×V)→Prop
 | [],xs=>xs = []
 | (k,d) :: r,xs=>match k with
  | .str f=>∃ v vs,xs = (f,v) :: vs∧Den K H d v∧DenXF K H r vs
  | _=>DenXF K H r xs
end
structure Pers (H H':Hp):Prop where
 tups:∀ b xs,H b = some (.tup xs)→H' b = some (.tup xs)
 frzs:∀ b o u,H b = some (.frz o u)→H' b = some (.frz o u)
theorem Pers.trans {H H1 H2:Hp} (a:Pers H H1) (b:Pers H1 H2):Pers H H2:=⟨fun c xs e=>b.tups c xs (a.tups c xs e),fun c o u e=>b.frzs c o u (a.frzs c o u e)⟩
section
variable {K:Kd} {H H':Hp}
theorem FzL.mono {a:Addr} {xs:List V} (p:Pers H H') (h:FzL K H a xs):FzL K H' a xs:=by
 rcases h with ⟨o,h⟩ | h
 ·exact .inl ⟨o,p.frzs _ _ _ h⟩
 ·exact .inr h
theorem SqT.mono {a:Addr} {xs:List V} (p:Pers H H') (h:SqT K H a xs):SqT K H' a xs:=by
 rcases h with (h | ⟨o,h⟩) | h
 ·exact .inl (.inl (p.tups _ _ h))
 ·exact .inl (.inr ⟨o,p.frzs _ _ _ h⟩)
 ·exact .inr h
mutual
theorem Den.mono (p:Pers H H'):∀ {d:PyData} {v:V},Den K H d v→Den K H' d v
 | .none,_,h=>h
 | .bool _,_,h=>h
 | .int _,_,h=>h
 | .str _,_,h=>h
 | .list ds,_,h=>by
  simp only [Den] at h ⊢
  obtain ⟨a,xs,e,f,g⟩:=h
  exact ⟨a,xs,e,f.mono p,DenAll.mono p g⟩
 | .tuple ds,_,h=>by
  simp only [Den] at h ⊢
  obtain ⟨a,xs,e,f,g⟩:=h
  exact ⟨a,xs,e,f.mono p,DenAll.mono p g⟩
 | .dict kvs,_,h=>by
  simp only [Den] at h ⊢
  obtain ⟨a,e,h⟩:=h
  refine ⟨a,e,?_⟩
  rcases h with ⟨es,⟨o,f⟩,kk,g⟩ | ⟨es,o,f,g⟩ | ⟨c,xs,ec,⟨o,u,C,f1,f2,f0,f3,f4⟩,g⟩
  ·exact .inl ⟨es,⟨o,p.frzs _ _ _ f⟩,kk,DenKV.mono p g⟩
  ·exact .inr (.inl ⟨es,o,p.frzs _ _ _ f,DenKK.mono p g⟩)
  ·refine .inr <| .inr ⟨c,xs,ec,⟨o,u,C,p.frzs _ _ _ f1,f2,f0,f3,?_⟩,DenXF.mono p g⟩
   rcases f4 with f4 | ⟨dx,od,f5,f6⟩
   ·exact .inl f4
   ·exact .inr ⟨dx,od,f5,p.frzs _ _ _ f6⟩
theorem DenAll.mono (p:Pers H H'):∀ {ds:List PyData} {xs:List V},DenAll K H ds xs→DenAll K H' ds xs
 | [],_,h=>h
 | d :: ds,_,h=>by
  simp only [DenAll] at h ⊢
  obtain ⟨v,vs,e,f,g⟩:=h
  exact ⟨v,vs,e,Den.mono p f,DenAll.mono p g⟩
theorem DenKV.mono (p:Pers H H'):∀ {ds:List (PyData×PyData)} {xs:List (Int×V×V)},DenKV K H ds xs→DenKV K H' ds xs
 | [],_,h=>by simpa only [DenKV] using h
 | (k,d) :: r,_,h=>by
  simp only [DenKV] at h ⊢
  obtain ⟨u,v,vs,e,f1,f2,g⟩:=h
  exact ⟨u,v,vs,e,Den.mono p f1,Den.mono p f2,DenKV.mono p g⟩
theorem DenKK.mono (p:Pers H H'):∀ {ds:List (PyData×PyData)} {xs:List (Key×V)},DenKK K H ds xs→DenKK K H' ds xs
 | [],_,h=>by simpa only [DenKK] using h
 | (k,d) :: r,_,h=>by
  simp only [DenKK] at h ⊢
  obtain ⟨u,v,vs,e,f1,f2,g⟩:=h
  exact ⟨u,v,vs,e,f1,Den.mono p f2,DenKK.mono p g⟩
theorem DenXF.mono (p:Pers H H'):∀ {ds:List (PyData×PyData)} {xs:List (Str×V)},DenXF K H ds xs→DenXF K H' ds xs
 | [],_,h=>by simpa only [DenXF] using h
 | (.str f,d) :: r,_,h=>by
  simp only [DenXF] at h ⊢
  obtain ⟨v,vs,e,f1,g⟩:=h
  exact ⟨v,vs,e,Den.mono p f1,DenXF.mono p g⟩
 | (.none,d) :: r,_,h=>by simp only [DenXF] at h ⊢; exact DenXF.mono p h
 | (.bool _,d) :: r,_,h=>by simp only [DenXF] at h ⊢; exact DenXF.mono p h
 | (.int _,d) :: r,_,h=>by simp only [DenXF] at h ⊢; exact DenXF.mono p h
 | (.list _,d) :: r,_,h=>by simp only [DenXF] at h ⊢; exact DenXF.mono p h
 | (.tuple _,d) :: r,_,h=>by simp only [DenXF] at h ⊢; exact DenXF.mono p h
 | (.dict _,d) :: r,_,h=>by simp only [DenXF] at h ⊢; exact DenXF.mono p h
end
theorem DenAll.nil:DenAll K H [] []:=by simp only [DenAll]
theorem DenAll.cons {d:PyData} {ds:List PyData} {v:V} {vs:List V} (h:Den K H d v) (t:DenAll K H ds vs):DenAll K H (d :: ds) (v :: vs):=by
 simp only [DenAll]; exact ⟨v,vs,rfl,h,t⟩
theorem DenAll.paired:∀ {ds:List PyData} {xs:List V},DenAll K H ds xs→Paired (Den K H) ds xs
 | [],_,h=>by simp only [DenAll] at h; subst h; exact .nil
 | d :: ds,_,h=>by
  simp only [DenAll] at h
  obtain ⟨v,vs,e,f,g⟩:=h
  subst e
  exact .cons f g.paired
theorem dv:∀ {ds:List PyData} {xs:List V},Paired (Den K H) ds xs→DenAll K H ds xs
 | _,_,.nil=>DenAll.nil
 | _,_,.cons f t=>DenAll.cons f (dv t)
theorem DenAll.length {ds:List PyData} {xs:List V} (h:DenAll K H ds xs):ds.length = xs.length:=h.paired.length
theorem Paired.get' {α β : Type} {F : α→β→Prop}:∀ {l₁ : List α} {l₂ : List β} {i:Nat} {a : α},Paired F l₁ l₂→l₁[i]? = some a→∃ b,l₂[i]? = some b∧F a b
 | _,_,_,_,.nil,e=>by simp at e
 | _,_,0,_,.cons f _,e=>by simp at e; subst e; exact ⟨_,rfl,f⟩
 | _,_,i + 1,a,.cons _ t,e=>by
  obtain ⟨b,h1,h2⟩:=Paired.get' (i:=i) (a:=a) t (by simpa using e)
  exact ⟨b,by simpa using h1,h2⟩
theorem DenAll.get {ds:List PyData} {xs:List V} {i:Nat} {d:PyData} (h:DenAll K H ds xs) (e:ds[i]? = some d):∃ v,xs[i]? = some v∧Den K H d v:=Paired.get' h.paired e
theorem Paired.get2 {α β : Type} {F : α→β→Prop}:∀ {l₁ : List α} {l₂ : List β} {i:Nat} {b : β},Paired F l₁ l₂→l₂[i]? = some b→∃ a,l₁[i]? = some a∧F a b
 | _,_,_,_,.nil,e=>by simp at e
 | _,_,0,_,.cons f _,e=>by simp at e; subst e; exact ⟨_,rfl,f⟩
 | _,_,i + 1,b,.cons _ t,e=>by
  obtain ⟨a,h1,h2⟩:=Paired.get2 (i:=i) (b:=b) t (by simpa using e)
  exact ⟨a,by simpa using h1,h2⟩
theorem DenAll.get2 {ds:List PyData} {xs:List V} {i:Nat} {v:V} (h:DenAll K H ds xs) (e:xs[i]? = some v):∃ d,ds[i]? = some d∧Den K H d v:=Paired.get2 h.paired e
theorem Paired.append' {α β : Type} {F : α→β→Prop}:∀ {a b:List α} {c d:List β},Paired F a c→Paired F b d→Paired F (a++b) (c++d)
 | _,_,_,_,.nil,s=>s
 | _,_,_,_,.cons r t,s=>.cons r (Paired.append' t s)
theorem DenAll.append {ds es:List PyData} {xs ys:List V} (h:DenAll K H ds xs) (g:DenAll K H es ys):DenAll K H (ds++es) (xs++ys):=dv (Paired.append' h.paired g.paired)
theorem Paired.set' {α β : Type} {F : α→β→Prop} {a : α} {b : β} (f:F a b):∀ {l₁ : List α} {l₂ : List β} (i:Nat),Paired F l₁ l₂→Paired F (l₁.set i a) (l₂.set i b)
 | _,_,_,.nil=>.nil
 | _,_,0,.cons _ t=>.cons f t
 | _,_,i + 1,.cons q t=>.cons q (Paired.set' f i t)
theorem DenAll.set {ds:List PyData} {xs:List V} {d:PyData} {v:V} (h:DenAll K H ds xs) (f:Den K H d v) (i:Nat):DenAll K H (ds.set i d) (xs.set i v):=dv (Paired.set' f i h.paired)
theorem Paired.take' {α β : Type} {F : α→β→Prop}:∀ {l₁ : List α} {l₂ : List β} (n:Nat),Paired F l₁ l₂→Paired F (l₁.take n) (l₂.take n)
 | _,_,0,_=>.nil
 | _,_,_ + 1,.nil=>.nil
 | _,_,n + 1,.cons r t=>.cons r (Paired.take' n t)
theorem Paired.drop' {α β : Type} {F : α→β→Prop}:∀ {l₁ : List α} {l₂ : List β} (n:Nat),Paired F l₁ l₂→Paired F (l₁.drop n) (l₂.drop n)
 | _,_,0,h=>h
 | _,_,_ + 1,.nil=>.nil
 | _,_,n + 1,.cons _ t=>Paired.drop' n t
theorem DenAll.take {ds:List PyData} {xs:List V} (h:DenAll K H ds xs) (n:Nat):DenAll K H (ds.take n) (xs.take n):=dv (Paired.take' n h.paired)
theorem DenAll.drop {ds:List PyData} {xs:List V} (h:DenAll K H ds xs) (n:Nat):DenAll K H (ds.drop n) (xs.drop n):=dv (Paired.drop' n h.paired)
theorem Paired.erase' {α β : Type} {F : α→β→Prop}:∀ {l₁ : List α} {l₂ : List β} (n:Nat),Paired F l₁ l₂→Paired F (l₁.eraseIdx n) (l₂.eraseIdx n)
 | _,_,_,.nil=>by simp; exact .nil
 | _,_,0,.cons _ t=>t
 | _,_,n + 1,.cons r t=>.cons r (Paired.erase' n t)
theorem DenAll.eraseIdx {ds:List PyData} {xs:List V} (h:DenAll K H ds xs) (n:Nat):DenAll K H (ds.eraseIdx n) (xs.eraseIdx n):=dv (Paired.erase' n h.paired)
theorem DenAll.ints:∀ ns:List Int,DenAll K H (ns.map .int) (ns.map V.int)
 | []=>DenAll.nil
 | n :: ns=>DenAll.cons (by simp only [Den]) (DenAll.ints ns)
end
def fzOf:List (PyData×PyData)→Option PyData
 | [(.none,.list ds)]=>some (.list ds)
 | [(.none,.dict es)]=>some (.dict es)
 | _=>none
mutual
def TAt (K:Kd) (H:Hp) (τ : List (List Nat×Addr)) (p:List Nat):PyData→V→Prop
 | .list ts,v=>∃ a xs,τ.lookup p = some a∧v = .ref a∧H a = some (.lst xs)∧TAtL K H τ p 0 ts xs
 | .dict kvs,v=>(∃ d,fzOf kvs = some d∧Den K H d v) ∨
   (fzOf kvs = none∧excC kvs = none∧∃ a es,τ.lookup p = some a∧v = .ref a∧H a = some (dX a es)∧wF kvs∧TAtD K H τ p 0 kvs es) ∨
   (fzOf kvs = none∧excC kvs = none∧∃ a es,τ.lookup p = some a∧v = .ref a∧H a = some (.dK es)∧TAtK K H τ p 0 kvs es) ∨
   ∃ c a dx C xs,excC kvs = some c∧τ.lookup p = some a∧v = .ref a∧H a = some (.ins C dx xs)∧ClsN K c C∧TAtF K H τ p 0 kvs xs
 | .none,v=>Den K H .none v
 | .bool b,v=>Den K H (.bool b) v
 | .int i,v=>Den K H (.int i) v
 | .str x,v=>Den K H (.str x) v
 | .tuple ds,v=>Den K H (.tuple ds) v
def TAtL (K:Kd) (H:Hp) (τ : List (List Nat×Addr)) (p:List Nat) (i:Nat):List PyData→List V→Prop
 | [],xs=>xs = []
 | t :: ts,xs=>∃ v vs,xs = v :: vs∧TAt K H τ (p++[i]) t v∧TAtL K H τ p (i + 1) ts vs
def TAtD (K:Kd) (H:Hp) (τ : List (List Nat×Addr)) (p:List Nat) (i:Nat):List (PyData×PyData)→List (Int×V×V)→Prop
 | [],es=>es = []
 | (k,t) :: r,es=>∃ u v vs,es = (gv K.w k,u,v) :: vs∧Den K H k u∧TAt K H τ (p++[i]) t v∧TAtD K H τ p (i + 1) r vs
def TAtK (K:Kd) (H:Hp) (τ : List (List Nat×Addr)) (p:List Nat) (i:Nat):List (PyData×PyData)→List (Key×V)→Prop
 | [],es=>es = []
 | (k,t) :: r,es=>∃ kk v vs,es = (kk,v) :: vs∧(k = keyD kk∧∀ x∈vs,x.1≠kk)∧TAt K H τ (p++[i]) t v∧TAtK K H τ p (i + 1) r vs
def TAtF (K:Kd) (H:Hp) (τ : List (List Nat×Addr)) (p:List Nat) (i:Nat):List (PyData×PyData)→List (Str×V)→Prop
 | [],xs=>xs = []
 | (k,t) :: r,xs=>match k with
  | .str f=>∃ v vs,xs = (f,v) :: vs∧TAt K H τ (p++[i]) t v∧TAtF K H τ p (i + 1) r vs
  | .none=>TAtF K H τ p (i + 1) r xs
  | _=>False
end
theorem bq {β γ : Type} [BEq β] [LawfulBEq β] {l:List (β×γ)} {p : β} {a : γ} (h:l.lookup p = some a):a∈l.map (·.2):=by
 induction l with
 | nil=>cases h
 | cons x l ih =>
  rw [List.lookup_cons] at h
  split at h
  ·cases h; simp
  ·exact List.mem_map.mpr (let ⟨y,h1,h2⟩:=List.mem_map.mp (ih h); ⟨y,List.mem_cons_of_mem _ h1,h2⟩)
section
variable {K:Kd} {H H':Hp} {τ : List (List Nat×Addr)}
mutual
theorem TAt.mono (pe:Pers H H') (e:∀ a∈τ.map (·.2),H' a = H a):∀ {d:PyData} {p:List Nat} {v:V},TAt K H τ p d v→TAt K H' τ p d v
 | .none,_,_,h=>by simp only [TAt] at h ⊢; exact h.mono pe
 | .bool _,_,_,h=>by simp only [TAt] at h ⊢; exact h.mono pe
 | .int _,_,_,h=>by simp only [TAt] at h ⊢; exact h.mono pe
 | .str _,_,_,h=>by simp only [TAt] at h ⊢; exact h.mono pe
 | .tuple _,_,_,h=>by simp only [TAt] at h ⊢; exact h.mono pe
 | .list ts,_,_,h=>by
  simp only [TAt] at h ⊢
  obtain ⟨a,xs,e1,e2,e3,g⟩:=h
  exact ⟨a,xs,e1,e2,(e a (bq e1)).trans e3,TAtL.mono pe e g⟩
 | .dict kvs,_,_,h=>by
  simp only [TAt] at h ⊢
  rcases h with ⟨d,e1,h⟩ | ⟨z1,z2,a,es,e1,e2,e3,k,g⟩ | ⟨z1,z2,a,es,e1,e2,e3,g⟩ | ⟨c,a,dx,C,xs,e0,e1,e2,e3,k,g⟩
  ·exact .inl ⟨d,e1,h.mono pe⟩
  ·exact .inr (.inl ⟨z1,z2,a,es,e1,e2,(e a (bq e1)).trans e3,k,TAtD.mono pe e g⟩)
  ·exact .inr (.inr (.inl ⟨z1,z2,a,es,e1,e2,(e a (bq e1)).trans e3,TAtK.mono pe e g⟩))
  ·exact .inr (.inr <| .inr ⟨c,a,dx,C,xs,e0,e1,e2,(e a (bq e1)).trans e3,k,TAtF.mono pe e g⟩)
theorem TAtL.mono (pe:Pers H H') (e:∀ a∈τ.map (·.2),H' a = H a):∀ {ds:List PyData} {p:List Nat} {i:Nat} {xs:List V},TAtL K H τ p i ds xs→TAtL K H' τ p i ds xs
 | [],_,_,_,h=>by simpa only [TAtL] using h
 | t :: ts,_,_,_,h=>by
  simp only [TAtL] at h ⊢
  obtain ⟨v,vs,e1,g1,g2⟩:=h
  exact ⟨v,vs,e1,TAt.mono pe e g1,TAtL.mono pe e g2⟩
theorem TAtD.mono (pe:Pers H H') (e:∀ a∈τ.map (·.2),H' a = H a):∀ {ds:List (PyData×PyData)} {p:List Nat} {i:Nat} {xs:List (Int×V×V)},TAtD K H τ p i ds xs→TAtD K H' τ p i ds xs
 | [],_,_,_,h=>by simpa only [TAtD] using h
 | (k,t) :: r,_,_,_,h=>by
  simp only [TAtD] at h ⊢
  obtain ⟨u,v,vs,e1,g0,g1,g2⟩:=h
  exact ⟨u,v,vs,e1,g0.mono pe,TAt.mono pe e g1,TAtD.mono pe e g2⟩
theorem TAtK.mono (pe:Pers H H') (e:∀ a∈τ.map (·.2),H' a = H a):∀ {ds:List (PyData×PyData)} {p:List Nat} {i:Nat} {xs:List (Key×V)},TAtK K H τ p i ds xs→TAtK K H' τ p i ds xs
 | [],_,_,_,h=>by simpa only [TAtK] using h
 | (k,t) :: r,_,_,_,h=>by
  simp only [TAtK] at h ⊢
  obtain ⟨u,v,vs,e1,g0,g1,g2⟩:=h
  exact ⟨u,v,vs,e1,g0,TAt.mono pe e g1,TAtK.mono pe e g2⟩
theorem TAtF.mono (pe:Pers H H') (e:∀ a∈τ.map (·.2),H' a = H a):∀ {ds:List (PyData×PyData)} {p:List Nat} {i:Nat} {xs:List (Str×V)},TAtF K H τ p i ds xs→TAtF K H' τ p i ds xs
 | [],_,_,_,h=>by simpa only [TAtF] using h
 | (.str f,t) :: r,_,_,_,h=>by
  simp only [TAtF] at h ⊢
  obtain ⟨v,vs,e1,g1,g2⟩:=h
  exact ⟨v,vs,e1,TAt.mono pe e g1,TAtF.mono pe e g2⟩
 | (.none,d) :: r,_,_,_,h=>by simp only [TAtF] at h ⊢; exact TAtF.mono pe e h
 | (.bool _,d) :: r,_,_,_,h=>by simp only [TAtF] at h
 | (.int _,d) :: r,_,_,_,h=>by simp only [TAtF] at h
 | (.list _,d) :: r,_,_,_,h=>by simp only [TAtF] at h
 | (.tuple _,d) :: r,_,_,_,h=>by simp only [TAtF] at h
 | (.dict _,d) :: r,_,_,_,h=>by simp only [TAtF] at h
end
end
abbrev Cx.kd (X:Cx):Kd:=⟨X.K,X.w⟩
section
variable {X:Cx} {pins:List (Addr×Obj)} {σ : St} {H:Hp} {s:Shared}
mutual
theorem Den.reads (I:Inv X pins σ H s):∀ {d:PyData} {v:V} {u:Value},d.hasDict = false→Den X.kd H d v→RelV v u→∃ as,Reads s.heap u d as
 | .none,v,u,_,h,r=>by simp only [Den] at h; subst h; cases r; exact ⟨_,.none⟩
 | .bool b,v,u,nd,h,r=>by simp only [Den] at h; subst h; cases r; exact ⟨_,.bool b⟩
 | .int i,v,u,nd,h,r=>by simp only [Den] at h; subst h; obtain ⟨t,rfl⟩:=r; exact ⟨_,.int i t⟩
 | .str x,v,u,nd,h,r=>by simp only [Den] at h; subst h; obtain ⟨t,rfl⟩:=r; exact ⟨_,.str x t⟩
 | .list ds,v,u,nd,h,r=>by
  simp only [Den] at h
  obtain ⟨a,xs,rfl,f,g⟩:=h
  cases r
  obtain ⟨its,rv,⟨o,n,e,c,_,dd⟩,_⟩:=I.list f.sq
  obtain ⟨as,h2⟩:=DenAll.reads I (by simpa only [PyData.hasDict] using nd) g rv
  exact ⟨_,.list e c dd (by simpa using h2)⟩
 | .tuple ds,v,u,nd,h,r=>by
  simp only [Den] at h
  obtain ⟨a,xs,rfl,f,g⟩:=h
  cases r
  obtain ⟨its,rv,⟨o,e,c,n,dd⟩,_⟩:=I.tuple f
  obtain ⟨as,h2⟩:=DenAll.reads I (by simpa only [PyData.hasDict] using nd) g rv
  exact ⟨_,.tuple e c dd (by simpa using h2)⟩
 | .dict _,v,u,nd,h,r=>by simp [PyData.hasDict] at nd
theorem DenAll.reads (I:Inv X pins σ H s):∀ {ds:List PyData} {xs:List V} {us:List Value},PyData.hasDictAll ds = false→DenAll X.kd H ds xs→Vals xs us→∃ as,ReadsAll s.heap us ds as
 | [],xs,us,_,h,r=>by simp only [DenAll] at h; subst h; cases r; exact ⟨_,.nil⟩
 | d :: ds,xs,us,nd,h,r=>by
  simp only [PyData.hasDictAll,Bool.or_eq_false_iff] at nd
  simp only [DenAll] at h
  obtain ⟨v,vs,rfl,f,g⟩:=h
  cases r with
  | cons r1 r2 =>
   obtain ⟨a1,h1⟩:=Den.reads I nd.1 f r1
   obtain ⟨a2,h2⟩:=DenAll.reads I nd.2 g r2
   exact ⟨_,.cons h1 h2⟩
end
theorem Inv.freeze {a:Addr} {xs:List V} (I:Inv X pins σ H s) (h:H a = some (.lst xs)):∃ o,Inv X pins σ (upd H a (.frz o (.lst xs))) s:=by
 obtain ⟨hz,its,n,rv,e⟩:=I.hok a _ h
 refine ⟨{ cls:=.type "list",data:=.seq its.toArray n },I.un (h':=s.heap) (t':=s.toks) ⟨fun b ob q _ _ _=>q,fun b ob q _ _ _=>⟨ob.slots,q⟩,fun b ob q z _=>?_,fun b ob q _=>⟨ob,q⟩,fun b ys q=>?_,fun b ob u q=>?_,fun b ps q=>⟨#[],?_⟩⟩ fun b ob q=>?_⟩
 ·rw [au (Ne.symm (aK h z))]; exact z
 ·rw [au (nH q h (by intro z; cases z))]; exact q
 ·rw [au (nH q h (by intro z; cases z))]; exact q
 ·rw [au (nH q h (by intro z; cases z)),q]; simp
 ·by_cases hb:b = a
  ·subst hb
   rw [aA] at q
   cases q
   exact ⟨e,hz,its,n,rv,e⟩
  ·rw [au hb] at q
   exact (I.hok b ob q).stay (fun _ _ _ z=>z) (fun c z=>by rw [au (nH z h (by intro z; cases z))]; exact z) fun c ys z=>by rw [au (nH z h (by intro z; cases z))]; exact z
end
def xk:Expr→Bool
 | .Starred ..=>true
 | _=>false
theorem aU {e:Expr} {es:List Expr} {env:Env} (h:xk e = false):starEach (e :: es) env = (false,eval e env) :: starEach es env:=by
 cases e <;> first | rfl | cases h
theorem bI {e:Expr} {env:Env} (h:xk e = false):starEach [e] env = [(false,eval e env)]:=aU h
inductive R where
 | imm (d:PyData) | obj (k:Nat) | new (ds:List PyData) | at (k:Nat) (p:List Nat) | newT (t:PyData)
structure MSt where
 vs:List (Option R)
 os:List (List PyData)
 np:Nat
structure Kx extends Kd where
 eb:EB
instance:Coe Kx Kd:=⟨Kx.toKd⟩
abbrev Cx.kx (X:Cx):Kx:=⟨X.kd,X.eb⟩
abbrev Al:=List Ao
def Ao.ads:Ao→List Addr
 | .L a=>[a]
 | .T t=>t.map (·.2)
def ads (α : Al):List Addr:=α.flatMap Ao.ads
theorem fC (α β : Al):ads (α++β) = ads α++ads β:=by unfold ads; rw [List.flatMap_append]
def Mu:HO→Bool
 | .tup _=>false
 | .frz _ _=>false
 | _=>true
def OwnAt (K:Kd) (H:Hp):Ao→List PyData→Prop
 | .L a,ds=>∃ xs,H a = some (.lst xs)∧DenAll K H ds xs
 | .T τ,ds=>(∃ t v,ds = [t]∧TAt K H τ [] t v∧∃ a,τ.lookup [] = some a∧v = .ref a)∧∀ a∈τ.map (·.2),∃ o,H a = some o∧Mu o = true
theorem OwnAt.mem {K:Kd} {H:Hp} {ao:Ao} {ds:List PyData} (h:OwnAt K H ao ds) {a:Addr} (ha:a∈ao.ads):∃ o,H a = some o∧Mu o = true:=by
 cases ao with
 | L b=>cases List.mem_singleton.mp ha; obtain ⟨xs,e,_⟩:=h; exact ⟨_,e,rfl⟩
 | T τ=>exact h.2 a ha
theorem OwnAt.mono {K:Kd} {H H':Hp} {ao:Ao} {ds:List PyData} (h:OwnAt K H ao ds) (pe:Pers H H') (e:∀ a∈ao.ads,H' a = H a):OwnAt K H' ao ds:=by
 cases ao with
 | L b =>
  obtain ⟨xs,q,g⟩:=h
  exact ⟨xs,(e b (List.mem_singleton.mpr rfl)).trans q,g.mono pe⟩
 | T τ =>
  obtain ⟨⟨t,v,e1,g,r⟩,m⟩:=h
  exact ⟨⟨t,v,e1,g.mono pe e,r⟩,fun a ha=>by rw [e a ha]; exact m a ha⟩
def RelS (K:Kd) (α : Al) (H:Hp):R→V→Prop
 | .imm d,v=>Den K H d v
 | .obj k,v=>∃ a,α[k]? = some (.L a)∧v = .ref a
 | .at k p,v=>∃ τ a,α[k]? = some (.T τ)∧τ.lookup p = some a∧v = .ref a
 | .new _,_=>False
 | .newT _,_=>False
def RelR (K:Kd) (α : Al) (Hb H:Hp):R→V→Prop
 | .imm d,v=>Den K H d v
 | .obj k,v=>∃ a,α[k]? = some (.L a)∧v = .ref a
 | .at k p,v=>∃ τ a,α[k]? = some (.T τ)∧τ.lookup p = some a∧v = .ref a
 | .new ds,v=>∃ a xs,v = .ref a∧Hb a = none∧H a = some (.lst xs)∧DenAll K H ds xs
 | .newT t,v=>∃ τ a,v = .ref a∧τ.lookup [] = some a∧(τ.map (·.2)).Nodup∧(∀ b∈τ.map (·.2),Hb b = none)∧OwnAt K H (.T τ) [t]
def Frm (α : Al) (H H':Hp):Prop:=∀ b o,H b = some o→b∉ads α→H' b = some o
theorem Frm.refl (α : Al) (H:Hp):Frm α H H:=fun _ _ e _=>e
theorem Frm.trans {α : Al} {H H1 H2:Hp} (a:Frm α H H1) (b:Frm α H1 H2):Frm α H H2:=fun c o e n=>b c o (a c o e n) n
structure Ext (np:Nat) (α : Al) (H:Hp) (α':Al) (H':Hp):Prop where
 pre : α'.take np = α.take np
 frm:Frm α H H'
 new:∀ a∈ads α',a∈ads α∨H a = none
 old:∀ a∈ads α,∃ o,H' a = some o
theorem Ext.trans {np:Nat} {α α1 α2:Al} {H H1 H2:Hp} (x:Ext np α H α1 H1) (y:Ext np α1 H1 α2 H2):Ext np α H α2 H2:=by
 have out:∀ b o,H b = some o→b∉ads α→b∉ads α1:=fun b o e n hb=>by
  rcases x.new b hb with z | z
  ·exact n z
  ·rw [e] at z; cases z
 refine ⟨y.pre.trans x.pre,fun b o e n=>y.frm b o (x.frm b o e n) (out b o e n),fun a ha=>?_,fun a ha=>?_⟩
 ·rcases y.new a ha with z | z
  ·exact x.new a z
  ·cases q:H a with
   | none=>exact .inr rfl
   | some o =>
    by_cases hm:a∈ads α
    ·exact .inl hm
    ·have:=x.frm a o q hm
     rw [z] at this; cases this
 ·obtain ⟨o,e⟩:=x.old a ha
  by_cases hm:a∈ads α1
  ·exact y.old a hm
  ·exact ⟨o,y.frm a o e hm⟩
theorem Ext.nil {np:Nat} {α α1:Al} {H H1:Hp} (x:Ext np α H α1 H1) {a:Addr} (h:H1 a = none):H a = none:=by
 cases q:H a with
 | none=>rfl
 | some o =>
  by_cases hm:a∈ads α
  ·obtain ⟨o',e⟩:=x.old a hm
   rw [h] at e; cases e
  ·have:=x.frm a o q hm
   rw [h] at this; cases this
theorem Ext.less {np n1:Nat} {α α':Al} {H H':Hp} (x:Ext n1 α H α' H') (h:np≤n1):Ext np α H α' H':=by
 refine ⟨?_,x.frm,x.new,x.old⟩
 have:=congrArg (List.take np) x.pre
 rw [List.take_take,List.take_take,Nat.min_eq_left h] at this
 exact this
structure Rel (K:Kx) (α : Al) (m:MSt) (σ : St) (H:Hp):Prop where
 nd:(ads α).Nodup
 len : α.length = m.os.length
 own:∀ (k:Nat) (ao:Ao) (ds:List PyData),α[k]? = some ao→m.os[k]? = some ds→OwnAt K H ao ds
 vlen : σ.length = m.vs.length
 var:∀ (i:Nat) (r:R),m.vs[i]? = some (some r)→∃ v,σ[i]? = some (some v)∧RelS K α H r v
 npl:m.np≤α.length
 ebl:K.eb.np≤m.np
 ebx:Ext K.eb.np K.eb.be K.eb.H α H
section
variable {K:Kx} {α : Al} {m m':MSt} {σ : St} {H H0 H1 H':Hp} {r:R} {v:V}
theorem RelS.rr {K:Kd} {Hb:Hp} (h:RelS K α H r v):RelR K α Hb H r v:=by
 cases r with
 | imm d=>exact h
 | obj k=>exact h
 | «at» k p=>exact h
 | new ds=>exact h.elim
 | newT t=>exact h.elim
theorem Rel.mem (R:Rel K α m σ H) {a:Addr} (ha:a∈ads α):∃ o,H a = some o∧Mu o = true:=by
 obtain ⟨ao,h1,h2⟩:=List.mem_flatMap.mp ha
 obtain ⟨k,hk,e⟩:=List.mem_iff_getElem.mp h1
 have h1 : α[k]? = some ao:=by rw [List.getElem?_eq_getElem hk,e]
 have h2':m.os[k]? = some (m.os[k]'(by rw [←R.len]; exact hk)):=List.getElem?_eq_getElem _
 exact (R.own k ao _ h1 h2').mem h2
theorem Rel.out (R:Rel K α m σ H) {a:Addr} (h:H a = none):a∉ads α:=fun ha=>by
 obtain ⟨xs,q,_⟩:=R.mem ha
 rw [h] at q; cases q
theorem Rel.pers (R:Rel K α m σ H) (F:Frm α H H'):Pers H H' where
 tups:=fun b xs e=>F b _ e fun ha=>by obtain ⟨ys,q,z⟩:=R.mem ha; rw [e] at q; cases q; cases z
 frzs:=fun b o u e=>F b _ e fun ha=>by obtain ⟨ys,q,z⟩:=R.mem ha; rw [e] at q; cases q; cases z
theorem Ext.of {np:Nat} (R:Rel K α m σ H') (F:Frm α H H'):Ext np α H α H' :=
 ⟨rfl,F,fun _ h=>.inl h,fun a ha=>let ⟨xs,q,_⟩:=R.mem ha; ⟨_,q⟩⟩
theorem OwnAt.keep {K:Kd} {ao:Ao} {ds:List PyData} (h:OwnAt K H1 ao ds) (pe:Pers H1 H) (F:Frm α H1 H) (n:∀ b∈ao.ads,b∉ads α):OwnAt K H ao ds :=
 h.mono pe fun a ha=>by
  obtain ⟨o,e,_⟩:=h.mem ha
  rw [e]; exact F a o e (n a ha)
theorem RelR.keep (R0:Rel K α m σ H0) (R1:Rel K α m' σ H1) (F:Frm α H1 H) (h:RelR K α H0 H1 r v):RelR K α H0 H r v:=by
 cases r with
 | imm d=>exact Den.mono (R1.pers F) h
 | obj k=>exact h
 | «at» k p=>exact h
 | new ds =>
  obtain ⟨a,xs,e,n,q,g⟩:=h
  exact ⟨a,xs,e,n,F a _ q (R0.out n),g.mono (R1.pers F)⟩
 | newT t =>
  obtain ⟨τ,a,e,e1,nd,n,g⟩:=h
  exact ⟨τ,a,e,e1,nd,n,g.keep (R1.pers F) F fun b hb=>R0.out (n b hb)⟩
theorem RelR.base (R:Rel K α m σ H) (F:Frm α H0 H) (h:RelR K α H H' r v):RelR K α H0 H' r v:=by
 have old:∀ a,H a = none→H0 a = none:=fun a n=>by
  cases z:H0 a with
  | none=>rfl
  | some o =>
   have:=F a o z (R.out n)
   rw [n] at this; cases this
 cases r with
 | imm d=>exact h
 | obj k=>exact h
 | «at» k p=>exact h
 | new ds =>
  obtain ⟨a,xs,e,n,q,g⟩:=h
  exact ⟨a,xs,e,old a n,q,g⟩
 | newT t =>
  obtain ⟨τ,a,e,e1,nd,n,g⟩:=h
  exact ⟨τ,a,e,e1,nd,fun b hb=>old b (n b hb),g⟩
def chD:PyData→Nat→Option PyData
 | .list ts,i=>ts[i]?
 | .dict kvs,i=>match kvs[i]? with
  | some (.none,_)=>none
  | some (_,t)=>some t
  | none=>none
 | _,_=>none
def getT:PyData→List Nat→Option PyData
 | t,[]=>some t
 | t,i :: p=>(chD t i).bind fun t'=>getT t' p
def iA:PyData→Option PyData
 | .list _=>none
 | .dict kvs=>fzOf kvs
 | d=>some d
def cA:List PyData→Option (List PyData)
 | []=>some []
 | t :: ts=>match iA t,cA ts with | some d,some ds=>some (d :: ds) | _,_=>none
def ndL (m:MSt) (k:Nat) (p:List Nat):Option (List PyData):=match m.os[k]? with
 | some [t]=>match getT t p with
  | some (.list ts)=>cA ts
  | _=>none
 | _=>none
theorem gA {K:Kd} {τ : List (List Nat×Addr)} {p:List Nat} {t d:PyData} (h:TAt K H τ p t v) (e:iA t = some d):Den K H d v:=by
 cases t with
 | list ts=>cases e
 | dict kvs =>
  have e':fzOf kvs = some d:=e
  simp only [TAt] at h
  rcases h with ⟨d',e1,h⟩ | ⟨z,_⟩ | ⟨z,_⟩ | ⟨c,a,dx,C,xs,e0,_⟩
  ·rw [e'] at e1; cases e1; exact h
  ·rw [e'] at z; cases z
  ·rw [e'] at z; cases z
  ·exfalso
   unfold fzOf at e'
   unfold excC at e0
   split at e' <;> simp_all
 | none=>cases e; simpa only [TAt] using h
 | bool _=>cases e; simpa only [TAt] using h
 | int _=>cases e; simpa only [TAt] using h
 | str _=>cases e; simpa only [TAt] using h
 | tuple _=>cases e; simpa only [TAt] using h
theorem dw {K:Kd} {τ : List (List Nat×Addr)} {p:List Nat}:∀ {ts ds:List PyData} {i:Nat} {xs:List V},TAtL K H τ p i ts xs→cA ts = some ds→DenAll K H ds xs
 | [],ds,i,xs,h,e=>by
  cases e
  simp only [TAtL] at h
  subst h
  exact DenAll.nil
 | t :: ts,ds,i,xs,h,e=>by
  simp only [TAtL] at h
  obtain ⟨v,vs,rfl,g1,g2⟩:=h
  simp only [cA] at e
  cases q1:iA t with
  | none=>rw [q1] at e; cases e
  | some d =>
   cases q2:cA ts with
   | none=>rw [q1,q2] at e; cases e
   | some ds' =>
    rw [q1,q2] at e; cases e
    exact DenAll.cons (gA g1 q1) (dw g2 q2)
theorem TAtL.get {K:Kd} {τ : List (List Nat×Addr)} {p:List Nat}:∀ {ts:List PyData} {i j:Nat} {xs:List V} {t:PyData},TAtL K H τ p i ts xs→ts[j]? = some t→∃ v,xs[j]? = some v∧TAt K H τ (p++[i + j]) t v
 | [],_,_,_,_,_,e=>by simp at e
 | t :: ts,i,0,xs,t',h,e=>by
  simp only [TAtL] at h
  obtain ⟨v,vs,rfl,g1,_⟩:=h
  simp at e; subst e
  exact ⟨v,rfl,g1⟩
 | t :: ts,i,j + 1,xs,t',h,e=>by
  simp only [TAtL] at h
  obtain ⟨v,vs,rfl,_,g2⟩:=h
  obtain ⟨v',e1,e2⟩:=TAtL.get (j:=j) g2 (by simpa using e)
  exact ⟨v',by simpa using e1,by rw [show i + (j + 1) = i + 1 + j by omega]; exact e2⟩
theorem TAtD.get {K:Kd} {τ : List (List Nat×Addr)} {p:List Nat}:∀ {ts:List (PyData×PyData)} {i j:Nat} {xs:List (Int×V×V)} {k t:PyData},TAtD K H τ p i ts xs→ts[j]? = some (k,t)→∃ u v,xs[j]? = some (gv K.w k,u,v)∧Den K H k u∧TAt K H τ (p++[i + j]) t v
 | [],_,_,_,_,_,_,e=>by simp at e
 | (k,t) :: ts,i,0,xs,k',t',h,e=>by
  simp only [TAtD] at h
  obtain ⟨u,v,vs,rfl,g0,g1,_⟩:=h
  simp at e; obtain ⟨rfl,rfl⟩:=e
  exact ⟨u,v,rfl,g0,g1⟩
 | (k,t) :: ts,i,j + 1,xs,k',t',h,e=>by
  simp only [TAtD] at h
  obtain ⟨u,v,vs,rfl,_,_,g2⟩:=h
  obtain ⟨u',v',e1,e0,e2⟩:=TAtD.get (j:=j) g2 (by simpa using e)
  exact ⟨u',v',by simpa using e1,e0,by rw [show i + (j + 1) = i + 1 + j by omega]; exact e2⟩
theorem TAtK.get {K:Kd} {τ : List (List Nat×Addr)} {p:List Nat}:∀ {ts:List (PyData×PyData)} {i j:Nat} {xs:List (Key×V)} {k t:PyData},TAtK K H τ p i ts xs→ts[j]? = some (k,t)→∃ v,TAt K H τ (p++[i + j]) t v
 | [],_,_,_,_,_,_,e=>by simp at e
 | (k,t) :: ts,i,0,xs,k',t',h,e=>by
  simp only [TAtK] at h
  obtain ⟨u,v,vs,rfl,g0,g1,_⟩:=h
  simp at e; obtain ⟨rfl,rfl⟩:=e
  exact ⟨v,g1⟩
 | (k,t) :: ts,i,j + 1,xs,k',t',h,e=>by
  simp only [TAtK] at h
  obtain ⟨u,v,vs,rfl,_,_,g2⟩:=h
  obtain ⟨v',e2⟩:=TAtK.get (j:=j) g2 (by simpa using e)
  exact ⟨v',by rw [show i + (j + 1) = i + 1 + j by omega]; exact e2⟩
theorem TAtF.get {K:Kd} {τ : List (List Nat×Addr)} {p:List Nat}:∀ {ts:List (PyData×PyData)} {i j:Nat} {xs:List (Str×V)} {f:Str} {t:PyData},TAtF K H τ p i ts xs→ts[j]? = some (.str f,t)→∃ v,(f,v)∈xs∧TAt K H τ (p++[i + j]) t v
 | [],_,_,_,_,_,_,e=>by simp at e
 | (k,t) :: ts,i,0,xs,f,t',h,e=>by
  simp at e; obtain ⟨rfl,rfl⟩:=e
  simp only [TAtF] at h
  obtain ⟨v,vs,rfl,g1,_⟩:=h
  exact ⟨v,List.mem_cons_self,g1⟩
 | (k,t) :: ts,i,j + 1,xs,f,t',h,e=>by
  have go:∀ {ys:List (Str×V)},TAtF K H τ p (i + 1) ts ys→∃ v,(f,v)∈ys∧TAt K H τ (p++[i + (j + 1)]) t' v:=fun {ys} g2=>by
   obtain ⟨v',e1,e2⟩:=TAtF.get (j:=j) g2 (by simpa using e)
   exact ⟨v',e1,by rw [show i + (j + 1) = i + 1 + j by omega]; exact e2⟩
  cases k with
  | str f' =>
   simp only [TAtF] at h
   obtain ⟨v,vs,rfl,_,g2⟩:=h
   obtain ⟨v',e1,e2⟩:=go g2
   exact ⟨v',List.mem_cons_of_mem _ e1,e2⟩
  | none=>simp only [TAtF] at h; exact go h
  | bool _=>simp only [TAtF] at h
  | int _=>simp only [TAtF] at h
  | list _=>simp only [TAtF] at h
  | tuple _=>simp only [TAtF] at h
  | dict _=>simp only [TAtF] at h
theorem TAtF.key {K:Kd} {τ : List (List Nat×Addr)} {p:List Nat}:∀ {ts:List (PyData×PyData)} {i:Nat} {xs:List (Str×V)} {k t:PyData},TAtF K H τ p i ts xs→(k,t)∈ts→k≠.none→∃ f,k = .str f
 | [],_,_,_,_,_,e,_=>by simp at e
 | (k,t) :: ts,i,xs,k',t',h,e,kn=>by
  cases k with
  | str f' =>
   simp only [TAtF] at h
   obtain ⟨v,vs,rfl,_,g2⟩:=h
   rcases List.mem_cons.mp e with e | e
   ·cases e; exact ⟨_,rfl⟩
   ·exact g2.key e kn
  | none =>
   simp only [TAtF] at h
   rcases List.mem_cons.mp e with e | e
   ·cases e; exact (kn rfl).elim
   ·exact h.key e kn
  | bool _=>simp only [TAtF] at h
  | int _=>simp only [TAtF] at h
  | list _=>simp only [TAtF] at h
  | tuple _=>simp only [TAtF] at h
  | dict _=>simp only [TAtF] at h
theorem TAt.get {K:Kd} {τ : List (List Nat×Addr)}:∀ {q p:List Nat} {t t':PyData} {v:V},TAt K H τ p t v→getT t q = some t'→∃ v',TAt K H τ (p++q) t' v'
 | [],p,t,t',v,h,e=>by cases e; exact ⟨v,by rw [List.append_nil]; exact h⟩
 | i :: q,p,t,t',v,h,e=>by
  simp only [getT] at e
  cases z:chD t i with
  | none=>rw [z] at e; cases e
  | some t1 =>
   rw [z] at e
   have e':getT t1 q = some t':=e
   have step:∃ v1,TAt K H τ (p++[i]) t1 v1:=by
    cases t with
    | list ts =>
     simp only [TAt] at h
     obtain ⟨a,xs,_,_,_,g⟩:=h
     obtain ⟨v1,_,g1⟩:=g.get (j:=i) z
     exact ⟨v1,by rw [Nat.zero_add] at g1; exact g1⟩
    | dict kvs =>
     simp only [chD] at z
     cases zi:kvs[i]? with
     | none=>rw [zi] at z; cases z
     | some kt =>
      obtain ⟨k,t2⟩:=kt
      rw [zi] at z
      have kn:k≠.none:=fun q=>by subst q; cases z
      have e2:t2 = t1:=by
       split at z <;> simp_all
      subst e2
      simp only [TAt] at h
      rcases h with ⟨d,e1,_⟩ | ⟨_,_,a,es,_,_,_,_,g⟩ | ⟨_,_,a,es,_,_,_,g⟩ | ⟨c,a,dx,C,xs,e0,_,_,_,_,g⟩
      ·exfalso
       unfold fzOf at e1
       split at e1
       ·cases i <;> simp at zi; exact kn zi.1.symm
       ·cases i <;> simp at zi; exact kn zi.1.symm
       ·cases e1
      ·obtain ⟨u,v1,_,_,g1⟩:=g.get (j:=i) zi
       exact ⟨v1,by rw [Nat.zero_add] at g1; exact g1⟩
      ·obtain ⟨v1,g1⟩:=g.get (j:=i) zi
       exact ⟨v1,by rw [Nat.zero_add] at g1; exact g1⟩
      ·obtain ⟨f,rfl⟩:=g.key (List.mem_of_getElem? zi) kn
       obtain ⟨v1,_,g1⟩:=g.get (j:=i) zi
       exact ⟨v1,by rw [Nat.zero_add] at g1; exact g1⟩
    | none=>cases z
    | bool _=>cases z
    | int _=>cases z
    | str _=>cases z
    | tuple _=>cases z
   obtain ⟨v1,h1⟩:=step
   obtain ⟨v',h2⟩:=TAt.get h1 e'
   exact ⟨v',by rw [List.append_assoc] at h2; exact h2⟩
def lsOf (m:MSt):R→Option (List PyData)
 | .imm (.list ds)=>some ds
 | .obj k=>m.os[k]?
 | .new ds=>some ds
 | .at k p=>ndL m k p
 | _=>none
mutual
def eraT:PyData→Option PyData
 | .list ts=>(eraL ts).map .list
 | .dict kvs=>fzOf kvs
 | .none=>some .none
 | .bool b=>some (.bool b)
 | .int i=>some (.int i)
 | .str x=>some (.str x)
 | .tuple ds=>some (.tuple ds)
def eraL:List PyData→Option (List PyData)
 | []=>some []
 | t :: ts=>match eraT t,eraL ts with | some d,some ds=>some (d :: ds) | _,_=>none
end
def ndT (m:MSt) (k:Nat) (p:List Nat):Option PyData:=match m.os[k]? with
 | some [t]=>getT t p
 | _=>none
def asD (m:MSt):R→Option PyData
 | .imm d=>some d
 | .obj k=>(m.os[k]?).map .list
 | .new ds=>some (.list ds)
 | .at k p=>match ndT m k p with
  | some (.list ts)=>(eraL ts).map .list
  | _=>none
 | .newT _=>none
theorem RelR.node (R:Rel K α m σ H) {k:Nat} {p:List Nat} (h:RelR K α H0 H (.at k p) v) {t:PyData} (e:ndT m k p = some t):∃ τ a v',α[k]? = some (.T τ)∧τ.lookup p = some a∧v = .ref a∧TAt K H τ p t v':=by
 obtain ⟨τ,a,e1,e2,e3⟩:=h
 unfold ndT at e
 split at e
 ·rename_i t0 e0
  obtain ⟨⟨t1,v0,e4,g,_⟩,_⟩:=R.own k (.T τ) _ e1 e0
  cases e4
  obtain ⟨v',g'⟩:=g.get e
  exact ⟨τ,a,v',e1,e2,e3,by simpa using g'⟩
 ·cases e
theorem RelR.list (R:Rel K α m σ H) (h:RelR K α H0 H r v) {ds:List PyData} (e:lsOf m r = some ds):∃ a xs,v = .ref a∧SqL K H a xs∧DenAll K H ds xs:=by
 cases r with
 | imm d =>
  cases d with
  | list es =>
   cases e
   have h':Den K H (.list ds) v:=h
   simp only [Den] at h'
   obtain ⟨a,xs,e1,f,g⟩:=h'
   exact ⟨a,xs,e1,f.sq,g⟩
  | none=>cases e
  | bool _=>cases e
  | int _=>cases e
  | str _=>cases e
  | tuple _=>cases e
  | dict _=>cases e
 | obj k =>
  obtain ⟨a,e1,rfl⟩:=h
  obtain ⟨xs,q,g⟩:=R.own k _ ds e1 e
  exact ⟨a,xs,rfl,SqL.of q,g⟩
 | new es =>
  cases e
  obtain ⟨a,xs,e1,n,q,g⟩:=h
  exact ⟨a,xs,e1,SqL.of q,g⟩
 | «at» k p =>
  have e':ndL m k p = some ds:=e
  obtain ⟨ts,e1,e2⟩ : ∃ ts,ndT m k p = some (.list ts)∧cA ts = some ds:=by
   unfold ndL at e'
   unfold ndT
   split at e'
   ·split at e'
    ·rename_i h0 _ ts h1
     exact ⟨ts,h1,e'⟩
    ·cases e'
   ·cases e'
  obtain ⟨τ,a,v',_,ea,rfl,g⟩:=RelR.node R h e1
  simp only [TAt] at g
  obtain ⟨a',xs,ea',_,q,g⟩:=g
  rw [ea] at ea'; cases ea'
  exact ⟨a,xs,rfl,SqL.of q,dw g e2⟩
 | newT _=>cases e
end
section
variable {X:Cx} {pins:List (Addr×Obj)} {σ : St} {H:Hp} {s:Shared} {τ : List (List Nat×Addr)}
mutual
theorem TAt.reads (I:Inv X pins σ H s):∀ {t d:PyData} {p:List Nat} {v:V} {u:Value},eraT t = some d→d.hasDict = false→TAt X.kd H τ p t v→RelV v u→∃ as,Reads s.heap u d as
 | .none,d,p,v,u,e,nd,h,r=>by simp only [eraT] at e; cases e; simp only [TAt] at h; exact h.reads I nd r
 | .bool b,d,p,v,u,e,nd,h,r=>by simp only [eraT] at e; cases e; simp only [TAt] at h; exact h.reads I nd r
 | .int i,d,p,v,u,e,nd,h,r=>by simp only [eraT] at e; cases e; simp only [TAt] at h; exact h.reads I nd r
 | .str x,d,p,v,u,e,nd,h,r=>by simp only [eraT] at e; cases e; simp only [TAt] at h; exact h.reads I nd r
 | .tuple ds,d,p,v,u,e,nd,h,r=>by simp only [eraT] at e; cases e; simp only [TAt] at h; exact h.reads I nd r
 | .dict kvs,d,p,v,u,e,nd,h,r=>by
  simp only [eraT] at e
  exact (gA h (show iA (.dict kvs) = some d from e)).reads I nd r
 | .list ts,d,p,v,u,e,nd,h,r=>by
  simp only [eraT] at e
  cases q:eraL ts with
  | none=>rw [q] at e; cases e
  | some ds =>
   rw [q] at e
   cases e
   simp only [TAt] at h
   obtain ⟨a,xs,_,rfl,f,g⟩:=h
   cases r
   obtain ⟨its,rv,⟨o,n,e,c,_,dd⟩,_⟩:=I.list (SqL.of f)
   obtain ⟨as,h2⟩:=TAtL.reads I q (by simpa only [PyData.hasDict] using nd) g rv
   exact ⟨_,.list e c dd (by simpa using h2)⟩
theorem TAtL.reads (I:Inv X pins σ H s):∀ {ts ds:List PyData} {p:List Nat} {i:Nat} {xs:List V} {us:List Value},eraL ts = some ds→PyData.hasDictAll ds = false→TAtL X.kd H τ p i ts xs→Vals xs us→∃ as,ReadsAll s.heap us ds as
 | [],ds,p,i,xs,us,e,nd,h,r=>by
  simp only [eraL] at e; cases e
  simp only [TAtL] at h; subst h
  cases r; exact ⟨_,.nil⟩
 | t :: ts,ds,p,i,xs,us,e,nd,h,r=>by
  simp only [eraL] at e
  cases q1:eraT t with
  | none=>rw [q1] at e; cases e
  | some d =>
   cases q2:eraL ts with
   | none=>rw [q1,q2] at e; cases e
   | some ds' =>
    rw [q1,q2] at e; cases e
    simp only [PyData.hasDictAll,Bool.or_eq_false_iff] at nd
    simp only [TAtL] at h
    obtain ⟨v,vs,rfl,g1,g2⟩:=h
    cases r with
    | cons r1 r2 =>
     obtain ⟨a1,h1⟩:=TAt.reads I q1 nd.1 g1 r1
     obtain ⟨a2,h2⟩:=TAtL.reads I q2 nd.2 g2 r2
     exact ⟨_,.cons h1 h2⟩
end
end
theorem RelR.reads {X:Cx} {pins:List (Addr×Obj)} {σ σ':St} {H H0:Hp} {s:Shared} {α : Al} {m:MSt} {r:R} {v:V} {u:Value} {d:PyData} (I:Inv X pins σ H s) (R:Rel X.kx α m σ' H) (h:RelR X.kd α H0 H r v) (rv:RelV v u) (e:asD m r = some d) (nd:d.hasDict = false):∃ as,Reads s.heap u d as:=by
 have li:∀ {ds:List PyData},lsOf m r = some ds→PyData.hasDictAll ds = false→∃ as,Reads s.heap u (.list ds) as:=fun {ds} e nd=>by
  obtain ⟨a,xs,rfl,f,g⟩:=RelR.list R h e
  cases rv
  obtain ⟨its,rv,⟨o,n,e,c,_,dd⟩,_⟩:=I.list f
  obtain ⟨as,h2⟩:=DenAll.reads I nd g rv
  exact ⟨_,.list e c dd (by simpa using h2)⟩
 cases r with
 | imm d'=>cases e; exact Den.reads I nd h rv
 | obj k =>
  cases q:m.os[k]? with
  | none=>simp [asD,q] at e
  | some ds =>
   simp [asD,q] at e
   subst e
   exact li q (by simpa only [PyData.hasDict] using nd)
 | new ds=>cases e; exact li rfl (by simpa only [PyData.hasDict] using nd)
 | «at» k p =>
  obtain ⟨ts,ds,q,q2,rfl⟩ : ∃ ts ds,ndT m k p = some (.list ts)∧eraL ts = some ds∧d = .list ds:=by
   unfold asD at e
   simp only at e
   split at e
   ·rename_i ts q
    cases q2:eraL ts with
    | none=>rw [q2] at e; cases e
    | some ds=>rw [q2] at e; cases e; exact ⟨ts,ds,q,q2,rfl⟩
   ·cases e
  obtain ⟨τ,a,v',_,ea,rfl,g⟩:=RelR.node R h q
  have g':=g
  simp only [TAt] at g'
  obtain ⟨a',xs,ea',e3,_⟩:=g'
  rw [ea] at ea'; cases ea'
  subst e3
  exact TAt.reads I (by simp only [eraT,q2,Option.map]) nd g rv
 | newT _=>cases e
abbrev WE:=MSt→(R→MSt→Prop)→Prop
abbrev WT:=MSt→(Bool→MSt→Prop)→Prop
abbrev WA:=MSt→(List R→MSt→Prop)→Prop
def tM (K:Kx) (w:WE):TE:=fun σ H Q=>∃ α m Kc,Rel K α m σ H∧w m Kc∧∀ r m' v H',Kc r m'→m'.np = m.np→Rel K α m' σ H'→RelR K α H H' r v→Frm α H H'→Q v H'
def tMT (K:Kx) (w:WT):TT:=fun σ H Q=>∃ α m Kc,Rel K α m σ H∧w m Kc∧∀ b m' H',Kc b m'→m'.np = m.np→Rel K α m' σ H'→Frm α H H'→Q b H'
inductive RelRs (K:Kd) (α : Al) (Hb H:Hp):List R→List V→Prop where
 | nil:RelRs K α Hb H [] []
 | cons {r:R} {rs:List R} {v:V} {vs:List V}:RelR K α Hb H r v→RelRs K α Hb H rs vs→RelRs K α Hb H (r :: rs) (v :: vs)
def tMA (K:Kx) (w:WA):TA:=fun σ H Q=>∃ α m Kc,Rel K α m σ H∧w m Kc∧∀ rs m' vs H',Kc rs m'→m'.np = m.np→Rel K α m' σ H'→RelRs K α H H' rs vs→Frm α H H'→Q vs H'
theorem PE.wk {X:Cx} {e:Expr} {t t':TE} (h:PE X e t) (k:∀ σ H Q,t' σ H Q→t σ H Q):PE X e t':=fun pins s σ H Q I q=>h pins s σ H Q I (k _ _ _ q)
theorem PT.wk {X:Cx} {e:Expr} {t t':TT} (h:PT X e t) (k:∀ σ H Q,t' σ H Q→t σ H Q):PT X e t':=fun pins s σ H Q I q=>h pins s σ H Q I (k _ _ _ q)
theorem PW.wk {X:Cx} {e:Expr} {t t':TT} (h:PW X e t) (k:∀ σ H Q,t' σ H Q→t σ H Q):PW X e t':=fun wh pins s σ H Q I q=>h wh pins s σ H Q I (k _ _ _ q)
theorem PA.wk {X:Cx} {e:List Expr} {t t':TA} (h:PA X e t) (k:∀ σ H Q,t' σ H Q→t σ H Q):PA X e t':=fun pos pins s σ H Q I q=>h pos pins s σ H Q I (k _ _ _ q)
theorem PS.wk {X:Cx} {e:Stmt} {t t':TS} (h:PS X e t) (k:∀ D σ H,t' D σ H→t D σ H):PS X e t':=fun pins s σ H D I q=>h pins s σ H D I (k _ _ _ q)
theorem PSs.wk {X:Cx} {e:List Stmt} {t t':TS} (h:PSs X e t) (k:∀ D σ H,t' D σ H→t D σ H):PSs X e t':=fun pins s σ H D I q=>h pins s σ H D I (k _ _ _ q)
abbrev ME (X:Cx) (e:Expr) (w:WE):Prop:=PE X e (tM X.kx w)
abbrev MT (X:Cx) (e:Expr) (w:WT):Prop:=PT X e (tMT X.kx w)
abbrev MW (X:Cx) (e:Expr) (w:WT):Prop:=PW X e (tMT X.kx w)
abbrev MA (X:Cx) (es:List Expr) (w:WA):Prop:=PA X es (tMA X.kx w)
section
variable {X:Cx} {a b c:Expr} {es:List Expr} {wa wb wc:WE} {pos:Pos}
def wVar (i:Nat):WE:=fun m K=>∃ r,m.vs[i]? = some (some r)∧K r m
def wC (d:PyData):WE:=fun m K=>K (.imm d) m
theorem C9 {t:TE} {w:WE} (h:PE X a t) (k:∀ α m σ H Kc Q,Rel X.kx α m σ H→w m Kc→(∀ r m' v H',Kc r m'→m'.np = m.np→Rel X.kx α m' σ H'→RelR X.kx α H H' r v→Frm α H H'→Q v H')→t σ H Q):ME X a w :=
 h.wk fun σ H Q ⟨α,m,Kc,Rl,hw,fin⟩=>k α m σ H Kc Q Rl hw fin
theorem me_c {d:PyData} {v:V} (h:PE X a (tC v)) (hd:∀ (K:Kd) H,Den K H d v):ME X a (wC d) :=
 C9 h fun α m σ H Kc Q Rl hw fin=>fin _ m v H hw rfl Rl (hd _ _) (Frm.refl _ _)
theorem BM {i j pos}:ME X (.Constant (.int i) j pos) (wC (.int i)):=me_c DY fun _ _=>by simp only [Den]
theorem Fy {i j pos}:ME X (.Constant (.bool i) j pos) (wC (.bool i)):=me_c Ga fun _ _=>by simp only [Den]
theorem BT {i j pos}:ME X (.Constant (.str i) j pos) (wC (.str i)):=me_c DV fun _ _=>by simp only [Den]
theorem CG {j pos}:ME X (.Constant .none j pos) (wC .none):=me_c BJ fun _ _=>by simp only [Den]
theorem AC {i:Nat} (h:PE X a (tVar i)):ME X a (wVar i) :=
 C9 h fun α m σ H Kc Q Rl hw fin=>by
  obtain ⟨r,e,k⟩:=hw
  obtain ⟨v,ev,rv⟩:=Rl.var i r e
  exact ⟨v,ev,fin r m v H k rfl Rl rv.rr (Frm.refl _ _)⟩
theorem mv (i:Nat) {x:Str} {pos:Pos} (hN:X.N[i]? = some x:=by rfl) (hv:Vis X.env.scope x:=by first | exact Or.inl rfl | exact Or.inr (Or.inl rfl) | exact Or.inr (Or.inr rfl)) (hd:(x == ("__debug__" : Str)) = false:=by decide) (hcd:(x == ("__classdict__" : Str)) = false:=by decide):ME X (.Name x pos) (wVar i):=AC (BH hN hv hd hcd)
abbrev WO:=R→R→MSt→(R→Prop)→Prop
def rM (K:Kx) (o:WO):R2:=fun x y H Q=>∃ α m σ H0 H1 r1 r2 Kc,Rel K α m σ H∧RelR K α H0 H r1 x∧RelR K α H1 H r2 y∧o r1 r2 m Kc∧∀ r v H',Kc r→Rel K α m σ H'→RelR K α H H' r v→Frm α H H'→Q v H'
def wBin (o:WO) (wa wb:WE):WE:=fun m K=>wa m fun r1 m1=>wb m1 fun r2 m2=>o r1 r2 m2 fun r=>K r m2
theorem lQ {o:WO} {σ : St} {H:Hp} {Q:VK} (h:tM X.kx (wBin o wa wb) σ H Q):tOp (rM X.kx o) (tM X.kx wa) (tM X.kx wb) σ H Q:=by
 obtain ⟨α,m,Kc,Rl,hw,fin⟩:=h
 refine ⟨α,m,_,Rl,hw,fun r1 m1 x H1 k1 n1 Rl1 rr1 F1=>⟨α,m1,_,Rl1,k1,fun r2 m2 y H2 k2 n2 Rl2 rr2 F2=>?_⟩⟩
 refine ⟨α,m2,σ,H,H1,r1,r2,_,Rl2,rr1.keep Rl Rl1 F2,rr2,k2,fun r v H' k Rl' rr F=>?_⟩
 exact fin r m2 v H' k (n2.trans n1) Rl' (rr.base Rl2 (F1.trans F2)) ((F1.trans F2).trans F)
theorem Dg {op:Operator} {o:WO} (ho:OpR X (binaryOp op) (rM X.kx o)) (ha:ME X a wa) (hb:ME X b wb):ME X (.BinOp a op b pos) (wBin o wa wb):=(GV ho ha hb).wk fun _ _ _ h=>lQ h
theorem CB {op:CmpOp} {o:WO} (ho:OpR X (compareOp op) (rM X.kx o)) (ha:ME X a wa) (hb:ME X b wb) (hm:behindInMarks op b = false):ME X (.Compare a [op] [b] pos) (wBin o wa wb):=(zg ho ha hb hm).wk fun _ _ _ h=>lQ h
def onBl (P:Bool→Prop):R→Prop
 | .imm (.bool k)=>P k
 | _=>False
theorem w9 {K:Kx} {α : Al} {Hb H:Hp} {r:R} {v:V} {P:Bool→Prop} (rr:RelR K α Hb H r v) (h:onBl P r):∃ b,r = .imm (.bool b)∧v = .bl b∧P b:=by
 cases r with
 | obj _=>exact h.elim
 | new _=>exact h.elim
 | «at» _ _=>exact h.elim
 | newT _=>exact h.elim
 | imm d =>
  cases d with
  | bool b =>
   have e:Den K H (.bool b) v:=rr
   simp only [Den] at e
   exact ⟨b,rfl,e,h⟩
  | none=>exact h.elim
  | int _=>exact h.elim
  | str _=>exact h.elim
  | list _=>exact h.elim
  | tuple _=>exact h.elim
  | dict _=>exact h.elim
def qM (w:WE):WT:=fun m K=>w m fun r m'=>onBl (fun k=>K k m') r
theorem tf {t:TE} {σ : St} {H:Hp} {Q:Bool→Hp→Prop} {w:WE} (k:∀ Q',tM X.kx w σ H Q'→t σ H Q') (h:tMT X.kx (qM w) σ H Q):Cz t σ H Q:=by
 obtain ⟨α,m,Kc,Rl,hw,fin⟩:=h
 refine k _ ⟨α,m,_,Rl,hw,fun r m' v H' kk n1 Rl' rr F=>?_⟩
 obtain ⟨b,er,ev,kk⟩:=w9 rr kk
 exact ⟨b,ev,fin b m' H' kk n1 Rl' F⟩
theorem Bp {op:CmpOp} {o:WO} (ho:OpR X (compareOp op) (rM X.kx o)) (ha:ME X a wa) (hb:ME X b wb) (hm:behindInMarks op b = false):MT X (.Compare a [op] [b] pos) (qM (wBin o wa wb)):=(zQ ho ha hb hm).wk fun _ _ _ h=>tf (fun _=>lQ) h
theorem Bw (ha:ME X a wa) (he:∀ whole,isTrue a X.env whole = (do let v ← whole; standAt a.pos; holding [v] (truthy v)):=by intro _; rfl):MT X a (qM wa):=(Dj ha he).wk fun _ _ _ h=>tf (t:=tM X.kx wa) (fun _ h=>h) h
end
section
variable {X:Cx} {a b c:Expr} {es:List Expr} {wa wb wc:WE} {pos:Pos}
variable {wt wu:WT} {rest:List Expr}
def wAnd (t u:WT):WT:=fun m K=>t m fun c m1=>if c = true then u m1 K else K false m1
def wOr (t u:WT):WT:=fun m K=>t m fun c m1=>if c = true then K true m1 else u m1 K
def wNot (t:WT):WT:=fun m K=>t m fun c m1=>K (!c) m1
theorem yW (ha:MT X a wt):MW X (.BoolOp .And [a] pos) wt:=yQ ha
theorem AM (ha:MT X a wt):MW X (.BoolOp .Or [a] pos) wt:=CP ha
theorem DN (ha:MT X a wt) (hb:MW X (.BoolOp .And (b :: rest) pos) wu):MW X (.BoolOp .And (a :: b :: rest) pos) (wAnd wt wu):=(DU ha hb).wk fun σ H Q ⟨α,m,Kc,Rl,hw,fin⟩=>by
 refine ⟨α,m,_,Rl,hw,fun bb m1 H1 k n1 Rl1 F1=>?_⟩
 cases bb with
 | true=>rw [if_pos rfl] at k ⊢; exact ⟨α,m1,Kc,Rl1,k,fun b2 m2 H2 k2 n2 Rl2 F2=>fin b2 m2 H2 k2 (n2.trans n1) Rl2 (F1.trans F2)⟩
 | false=>rw [if_neg Bool.false_ne_true] at k ⊢; exact fin _ m1 H1 k n1 Rl1 F1
theorem Fw (ha:MT X a wt) (hb:MW X (.BoolOp .Or (b :: rest) pos) wu):MW X (.BoolOp .Or (a :: b :: rest) pos) (wOr wt wu):=(Fm ha hb).wk fun σ H Q ⟨α,m,Kc,Rl,hw,fin⟩=>by
 refine ⟨α,m,_,Rl,hw,fun bb m1 H1 k n1 Rl1 F1=>?_⟩
 cases bb with
 | true=>rw [if_pos rfl] at k ⊢; exact fin _ m1 H1 k n1 Rl1 F1
 | false=>rw [if_neg Bool.false_ne_true] at k ⊢; exact ⟨α,m1,Kc,Rl1,k,fun b2 m2 H2 k2 n2 Rl2 F2=>fin b2 m2 H2 k2 (n2.trans n1) Rl2 (F1.trans F2)⟩
theorem DQ (ha:MT X a wt):MT X (.UnaryOp .Not a pos) (wNot wt):=(Bt ha).wk fun σ H Q ⟨α,m,Kc,Rl,hw,fin⟩ =>
 ⟨α,m,_,Rl,hw,fun bb m1 H1 k n1 Rl1 F1=>fin _ m1 H1 k n1 Rl1 F1⟩
def z9 (wa wb:WE):WE:=fun m K=>wa m fun r m1=>onBl (fun c=>if c = true then wb m1 K else K (.imm (.bool false)) m1) r
theorem wP {K:Kd} {H:Hp} (b:Bool):Den K H (.bool b) (.bl b):=by simp only [Den]
theorem mX {K:Kd} {H:Hp} (b:Int):Den K H (.int b) (.int b):=by simp only [Den]
theorem Af {K:Kd} {H:Hp} (b:Str):Den K H (.str b) (.str b):=by simp only [Den]
theorem zJ {K:Kd} {H:Hp}:Den K H .none .non:=by simp only [Den]
theorem C8 {op} (h:ME X a wa):ME X (.BoolOp op [a] pos) wa:=A9 h
theorem AA (ha:ME X a wa) (hb:ME X (.BoolOp .And (b :: rest) pos) wb):ME X (.BoolOp .And (a :: b :: rest) pos) (z9 wa wb):=(Dy ha hb).wk fun σ H Q ⟨α,m,Kc,Rl,hw,fin⟩=>by
 refine ⟨α,m,_,Rl,hw,fun r m1 v H1 k n1 Rl1 rr F1=>?_⟩
 obtain ⟨bb,er,ev,kk⟩:=w9 rr k
 subst er ev
 refine ⟨bb,rfl,?_⟩
 cases bb with
 | true=>rw [if_pos rfl] at kk ⊢; exact ⟨α,m1,Kc,Rl1,kk,fun r m2 v H2 k2 n2 Rl2 rr2 F2=>fin r m2 v H2 k2 (n2.trans n1) Rl2 (rr2.base Rl1 F1) (F1.trans F2)⟩
 | false=>rw [if_neg Bool.false_ne_true] at kk ⊢; exact fin _ m1 _ H1 kk n1 Rl1 (wP (K:=X.kx) (H:=H1) _) F1
def wIfE (t:WT) (wa wb:WE):WE:=fun m K=>t m fun c m1=>if c = true then wa m1 K else wb m1 K
theorem Gh {t:Expr} (ht:MT X t wt) (ha:ME X a wa) (hb:ME X b wb):ME X (.IfExp t a b pos) (wIfE wt wa wb):=(u6 ht ha hb).wk fun σ H Q ⟨α,m,Kc,Rl,hw,fin⟩=>by
 refine ⟨α,m,_,Rl,hw,fun bb m1 H1 k n1 Rl1 F1=>?_⟩
 cases bb with
 | true=>rw [if_pos rfl] at k ⊢; exact ⟨α,m1,Kc,Rl1,k,fun r m2 v H2 k2 n2 Rl2 rr2 F2=>fin r m2 v H2 k2 (n2.trans n1) Rl2 (rr2.base Rl1 F1) (F1.trans F2)⟩
 | false=>rw [if_neg Bool.false_ne_true] at k ⊢; exact ⟨α,m1,Kc,Rl1,k,fun r m2 v H2 k2 n2 Rl2 rr2 F2=>fin r m2 v H2 k2 (n2.trans n1) Rl2 (rr2.base Rl1 F1) (F1.trans F2)⟩
abbrev WU:=R→MSt→(R→Prop)→Prop
def uM (K:Kx) (o:WU):V→Hp→VK→Prop:=fun x H Q=>∃ α m σ H0 r1 Kc,Rel K α m σ H∧RelR K α H0 H r1 x∧o r1 m Kc∧∀ r v H',Kc r→Rel K α m σ H'→RelR K α H H' r v→Frm α H H'→Q v H'
def wUn (o:WU) (wa:WE):WE:=fun m K=>wa m fun r1 m1=>o r1 m1 fun r=>K r m1
theorem Gv {op:UnaryOp} {o:WU} (ho:UnR X (unaryOp op) (uM X.kx o)) (ha:ME X a wa):ME X (.UnaryOp op a pos) (wUn o wa):=(FH ho ha).wk fun σ H Q ⟨α,m,Kc,Rl,hw,fin⟩ =>
 ⟨α,m,_,Rl,hw,fun r1 m1 x H1 k1 n1 Rl1 rr1 F1=>⟨α,m1,σ,H,r1,_,Rl1,rr1,k1,fun r v H' k Rl' rr F=>fin r m1 v H' k n1 Rl' (rr.base Rl1 F1) (F1.trans F)⟩⟩
def tFz (t:TE):TE:=fun σ H Q=>t σ H fun v H1=>Q v H1∨∃ a xs,H1 a = some (.lst xs)∧∀ o,Q v (upd H1 a (.frz o (.lst xs)))
theorem Ft {t:TE} (h:PE X a t):PE X a (tFz t):=by
 intro pins s σ H Q I q
 refine thn (h pins s σ H _ I q) fun u s1 ⟨v,H1,I1,r1,q1⟩=>?_
 rcases q1 with q1 | ⟨p,xs,e,q1⟩
 ·exact ⟨v,H1,I1,r1,q1⟩
 ·obtain ⟨o,I2⟩:=I1.freeze e
  exact ⟨v,_,I2,r1,q1 o⟩
theorem Rel.at {K:Kx} {α : Al} {m:MSt} {σ : St} {H H':Hp} (R:Rel K α m σ H) (p:Pers H H') (e:∀ a∈ads α,H' a = H a) (x:Frm α H H'):Rel K α m σ H':=by
 refine ⟨R.nd,R.len,fun k ao ds h1 h2=>?_,R.vlen,fun i r h=>?_,R.npl,R.ebl,R.ebx.trans ⟨rfl,x,fun _ h=>.inl h,fun a ha=>?_⟩⟩
 ·exact (R.own k ao ds h1 h2).mono p fun a ha=>e a (List.mem_flatMap.mpr ⟨ao,List.mem_of_getElem? h1,ha⟩)
 ·obtain ⟨v,ev,rv⟩:=R.var i r h
  refine ⟨v,ev,?_⟩
  cases r with
  | imm d=>exact Den.mono p rv
  | obj k=>exact rv
  | «at» k p=>exact rv
  | new ds=>exact rv
  | newT t=>exact rv
 ·obtain ⟨o,q,_⟩:=R.mem ha
  exact ⟨o,(e a ha).trans q⟩
theorem Rel.at' {K:Kx} {α : Al} {m:MSt} {σ : St} {H H':Hp} (R:Rel K α m σ H) (p:Pers H H') (e:∀ a∈ads α,H' a = H a) (x:Ext K.eb.np K.eb.be K.eb.H α H'):Rel K α m σ H':=by
 refine ⟨R.nd,R.len,fun k ao ds h1 h2=>?_,R.vlen,fun i r h=>?_,R.npl,R.ebl,x⟩
 ·exact (R.own k ao ds h1 h2).mono p fun a ha=>e a (List.mem_flatMap.mpr ⟨ao,List.mem_of_getElem? h1,ha⟩)
 ·obtain ⟨v,ev,rv⟩:=R.var i r h
  refine ⟨v,ev,?_⟩
  cases r with
  | imm d=>exact Den.mono p rv
  | obj k=>exact rv
  | «at» k p=>exact rv
  | new ds=>exact rv
  | newT t=>exact rv
theorem bh {H:Hp} {a:Addr} {o:HO} (h:H a = none∨∃ u,H a = some u∧Mu u = true):Pers H (upd H a o) where
 tups:=fun b xs e=>by
  rw [au]; exact e
  rintro rfl
  rcases h with h | ⟨ys,h,z⟩ <;> (rw [e] at h; cases h)
  cases z
 frzs:=fun b o u e=>by
  rw [au]; exact e
  rintro rfl
  rcases h with h | ⟨ys,h,z⟩ <;> (rw [e] at h; cases h)
  cases z
theorem o8 {H:Hp} {a:Addr} {o:HO} {xs:List V} (h:H a = some (.lst xs)):Pers H (upd H a o):=bh (.inr ⟨_,h,rfl⟩)
theorem b9 {α : Al} {H:Hp} {a:Addr} {o:HO} (h:H a = none):Frm α H (upd H a o):=fun b ob e _=>by
 rw [au (aK e h)]; exact e
theorem Rel.lay {K:Kx} {α : Al} {m:MSt} {σ : St} {H:Hp} {a:Addr} {o:HO} (R:Rel K α m σ H) (h:H a = none):Rel K α m σ (upd H a o) :=
 R.at (bh (.inl h)) (fun b hb=>au fun e=>R.out h (e▸hb)) (b9 h)
def wImm (w:WE):WE:=fun m K=>w m fun r m'=>match r with | .imm d=>K (.imm d) m' | .new ds=>K (.imm (.list ds)) m' | _=>False
theorem BV (ha:ME X a wa):ME X a (wImm wa):=(Ft ha).wk fun σ H Q ⟨α,m,Kc,Rl,hw,fin⟩=>by
 refine ⟨α,m,_,Rl,hw,fun r m1 v H1 k n1 Rl1 rr F1=>?_⟩
 cases r with
 | imm d=>exact .inl (fin _ m1 v H1 k n1 Rl1 rr F1)
 | obj _=>exact k.elim
 | «at» _ _=>exact k.elim
 | newT _=>exact k.elim
 | new ds =>
  obtain ⟨p,xs,ev,n,q,g⟩:=rr
  refine .inr ⟨p,xs,q,fun o=>?_⟩
  have pe:Pers H1 (upd H1 p (.frz o (.lst xs))):=o8 q
  have fr:Frm α H (upd H1 p (.frz o (.lst xs))):=fun b ob e nb=>by
   rw [au (aK e n)]
   exact F1 b ob e nb
  have old:Ext X.kx.eb.np α H α (upd H1 p (.frz o (.lst xs))):=⟨rfl,fr,fun _ h=>.inl h,fun b hb=>by
   have hbp:b≠p:=fun e=>Rl.out n (e▸hb)
   rw [au hbp]
   obtain ⟨o',e',_⟩:=Rl1.mem hb
   exact ⟨o',e'⟩⟩
  refine fin _ m1 v _ k n1 (Rl1.at' pe (fun b hb=>au fun e=>Rl.out n (e▸hb)) (Rl.ebx.trans old)) (show Den X.kx _ (.list ds) v from ?_) fun b ob e nb=>?_
  ·simp only [Den]
   exact ⟨p,xs,ev,.inl ⟨o,aA⟩,g.mono pe⟩
  ·rw [au (aK e n)]
   exact F1 b ob e nb
def wNil:WA:=fun m K=>K [] m
def r9 (w:WE) (ws:WA):WA:=fun m K=>w m fun r m1=>ws m1 fun rs m2=>K (r :: rs) m2
theorem RelRs.base {K:Kx} {α : Al} {m:MSt} {σ : St} {H0 H H':Hp} (Rl:Rel K α m σ H) (F:Frm α H0 H):∀ {rs:List R} {vs:List V},RelRs K α H H' rs vs→RelRs K α H0 H' rs vs
 | _,_,.nil=>.nil
 | _,_,.cons h t=>.cons (h.base Rl F) (t.base Rl F)
variable {ws:WA}
theorem Ba:MA X [] wNil:=(wM (X:=X)).wk fun σ H Q ⟨α,m,Kc,Rl,hw,fin⟩=>fin _ m _ H hw rfl Rl .nil (Frm.refl _ _)
theorem Ad (ha:ME X a wa) (hr:MA X es ws) (hs:starEach (a :: es) X.env = (false,eval a X.env) :: starEach es X.env:=by first | exact aU rfl | rfl):MA X (a :: es) (r9 wa ws):=(x8 ha hr hs).wk fun σ H Q ⟨α,m,Kc,Rl,hw,fin⟩ =>
 ⟨α,m,_,Rl,hw,fun r m1 v H1 k n1 Rl1 rr F1=>⟨α,m1,_,Rl1,k,fun rs m2 vs H2 k2 n2 Rl2 rr2 F2=>fin _ m2 _ H2 k2 (n2.trans n1) Rl2 (.cons (rr.keep Rl Rl1 F2) (rr2.base Rl1 F1)) (F1.trans F2)⟩⟩
def d8:List R→Option (List PyData)
 | []=>some []
 | .imm d :: rs=>(d8 rs).map (d :: ·)
 | _ :: _=>none
theorem RelRs.imm {K:Kx} {α : Al} {H0 H:Hp}:∀ {rs:List R} {vs:List V} {ds:List PyData},RelRs K α H0 H rs vs→d8 rs = some ds→DenAll K H ds vs
 | _,_,_,.nil,e=>by cases e; exact DenAll.nil
 | _,_,ds,.cons (r:=.imm d) (rs:=rs) h t,e=>by
  simp only [d8] at e
  cases q:d8 rs with
  | none=>rw [q] at e; cases e
  | some ds'=>rw [q] at e; cases e; exact DenAll.cons h (t.imm q)
 | _,_,_,.cons (r:=.obj _) h t,e=>by cases e
 | _,_,_,.cons (r:=.new _) h t,e=>by cases e
 | _,_,_,.cons (r:=.at _ _) h t,e=>by cases e
 | _,_,_,.cons (r:=.newT _) h t,e=>by cases e
def sY (P:List PyData→Prop):Option (List PyData)→Prop
 | some ds=>ds.length≤sizeLine∧P ds
 | none=>False
def wTup (ws:WA):WE:=fun m K=>ws m fun rs m'=>sY (fun ds=>K (.imm (.tuple ds)) m') (d8 rs)
def wLst (ws:WA):WE:=fun m K=>ws m fun rs m'=>sY (fun ds=>K (.new ds) m') (d8 rs)
theorem Cp {x1} (h:MA X es ws):ME X (.Tuple es x1 pos) (wTup ws):=(C5 h).wk fun σ H Q ⟨α,m,Kc,Rl,hw,fin⟩=>by
 refine ⟨α,m,_,Rl,hw,fun rs m1 vs H1 k n1 Rl1 rr F1=>?_⟩
 cases e:d8 rs with
 | none=>rw [e] at k; exact k.elim
 | some ds =>
  rw [e] at k
  obtain ⟨hz,k⟩:=k
  have g:=rr.imm e
  refine ⟨by rw [←g.length]; exact hz,fun p hp=>fin _ m1 _ _ k n1 (Rl1.lay hp) (show Den X.kx _ (.tuple ds) (.ref p) from ?_) (F1.trans (b9 hp))⟩
  simp only [Den]
  exact ⟨p,vs,rfl,SqT.of aA,g.mono (bh (.inl hp))⟩
theorem DH (h:MA X es ws):ME X (.List es pos) (wLst ws):=(xy h).wk fun σ H Q ⟨α,m,Kc,Rl,hw,fin⟩=>by
 refine ⟨α,m,_,Rl,hw,fun rs m1 vs H1 k n1 Rl1 rr F1=>?_⟩
 cases e:d8 rs with
 | none=>rw [e] at k; exact k.elim
 | some ds =>
  rw [e] at k
  obtain ⟨hz,k⟩:=k
  have g:=rr.imm e
  refine ⟨by rw [←g.length]; exact hz,fun p hp=>fin _ m1 _ _ k n1 (Rl1.lay hp) ((RelR.base Rl1 F1 (show RelR X.kx α H1 _ (.new ds) (.ref p) from ⟨p,vs,rfl,hp,aA,g.mono (bh (.inl hp))⟩))) (F1.trans (b9 hp))⟩
abbrev WC:=List R→MSt→(R→Prop)→Prop
def cM (K:Kx) (o:WC):List V→Hp→VK→Prop:=fun xs H Q=>∃ α m σ H0 rs Kc,Rel K α m σ H∧RelRs K α H0 H rs xs∧o rs m Kc∧∀ r v H',Kc r→Rel K α m σ H'→RelR K α H H' r v→Frm α H H'→Q v H'
def wCB (o:WC) (ws:WA):WE:=fun m K=>ws m fun rs m1=>o rs m1 fun r=>K r m1
theorem Bm {o:WC} {σ : St} {H:Hp} {Q:VK} (h:tM X.kx (wCB o ws) σ H Q):tCB (cM X.kx o) (tMA X.kx ws) σ H Q:=by
 obtain ⟨α,m,Kc,Rl,hw,fin⟩:=h
 exact ⟨α,m,_,Rl,hw,fun rs m1 vs H1 k n1 Rl1 rr F1=>⟨α,m1,σ,H,rs,_,Rl1,rr,k,fun r v H' k Rl' rr' F=>fin r m1 v H' k n1 Rl' (rr'.base Rl1 F1) (F1.trans F)⟩⟩
theorem vm {id:String} {x:Str} {p:Pos} {o:WC} (hc:c6 X (.builtin id) (cM X.kx o)) (hg:Gl X x) (hm:X.mg x = none) (hv:bootBuiltins x = some (.builtin id)) (ha:MA X (a :: es) ws) (hn:x ≠ "__name__" := by decide) (hdb:(x == ("__debug__" : Str)) = false:=by decide)
  (he:starEach (a :: es) X.env = (false,eval a X.env) :: starEach es X.env:=by first | exact aU rfl | rfl) (hpl:(backTo pos (starEach es X.env)).any (·.1) = false:=by rfl):ME X (.Call (.Name x p) (a :: es) [] pos) (wCB o ws):=(vJ hc hg hm hv ha hn hdb he hpl).wk fun _ _ _ h=>Bm h
theorem sG {T:String} {x:Str} {p:Pos} {o:WC} (hc:c6 X (.type T) (cM X.kx o)) (hg:Gl X x) (hm:X.mg x = none) (hv:bootBuiltins x = some (.type T)) (ha:MA X (a :: es) ws) (hn:x ≠ "__name__" := by decide) (hdb:(x == ("__debug__" : Str)) = false:=by decide)
  (he:starEach (a :: es) X.env = (false,eval a X.env) :: starEach es X.env:=by first | exact aU rfl | rfl) (hpl:(backTo pos (starEach es X.env)).any (·.1) = false:=by rfl):ME X (.Call (.Name x p) (a :: es) [] pos) (wCB o ws):=(sa hc hg hm hv ha hn hdb he hpl).wk fun _ _ _ h=>Bm h
end
inductive Ag where
 | imm (d:PyData) | own (ds:List PyData) | tr (t:PyData)
abbrev SpM:=List Ag→(R→List (List PyData)→Prop)→Prop
inductive RelAs (K:Kd) (H:Hp):List Ag→List V→Al→Prop where
 | nil:RelAs K H [] [] []
 | imm {d:PyData} {v:V} {as:List Ag} {vs:List V} {β : Al}:Den K H d v→RelAs K H as vs β→RelAs K H (.imm d :: as) (v :: vs) β
 | own {ds:List PyData} {a:Addr} {as:List Ag} {vs:List V} {β : Al}:OwnAt K H (.L a) ds→RelAs K H as vs β→RelAs K H (.own ds :: as) (.ref a :: vs) (.L a :: β)
 | tr {t:PyData} {a:Addr} {τ : List (List Nat×Addr)} {as:List Ag} {vs:List V} {β : Al}:OwnAt K H (.T τ) [t]→τ.lookup [] = some a→RelAs K H as vs β→RelAs K H (.tr t :: as) (.ref a :: vs) (.T τ :: β)
theorem RelAs.length {K:Kd} {H:Hp}:∀ {as:List Ag} {vs:List V} {β : Al},RelAs K H as vs β→as.length = vs.length
 | _,_,_,.nil=>rfl
 | _,_,_,.imm _ t=>by simp [t.length]
 | _,_,_,.own _ t=>by simp [t.length]
 | _,_,_,.tr _ _ t=>by simp [t.length]
structure sJ (K:Kd) (H:Hp) (β : Al) (outs:List (List PyData)):Prop where
 len:outs.length = β.length
 at_:∀ (j:Nat) (ao:Ao) (ds:List PyData),β[j]? = some ao→outs[j]? = some ds→OwnAt K H ao ds
def spOf (K:Kd) (n:Nat) (sp:SpM):Sp:=fun vs H Q _=>∃ as β Kc,as.length = n∧(ads β).Nodup∧RelAs K H as vs β∧sp as Kc∧∀ r outs v H',Kc r outs→sJ K H' β outs→RelR K β H H' r v→Frm β H H'→Q v H'
theorem spOf.len {K:Kd} {n:Nat} {sp:SpM} {vs:List V} {H:Hp} {Q:VK} {E:XK} (h:spOf K n sp vs H Q E):vs.length = n:=by
 obtain ⟨as,β,Kc,hl,_,r,_⟩:=h
 rw [←r.length]; exact hl
def gw (m:MSt):List R→Option (List Ag×List Nat)
 | []=>some ([],[])
 | .imm d :: rs=>match gw m rs with | some (as,ks)=>some (.imm d :: as,ks) | none=>none
 | .obj k :: rs=>match m.os[k]?,gw m rs with | some ds,some (as,ks)=>some (.own ds :: as,k :: ks) | _,_=>none
 | .at k [] :: rs=>match m.os[k]?,gw m rs with | some [t],some (as,ks)=>some (.tr t :: as,k :: ks) | _,_=>none
 | _ :: _=>none
def cu:List (List PyData)→List Nat→List (List PyData)→List (List PyData)
 | os,k :: ks,o :: outs=>cu (os.set k o) ks outs
 | os,_,_=>os
def mapR (ks:List Nat):R→R
 | .imm d=>.imm d
 | .new ds=>.new ds
 | .obj j=>.obj (ks.getD j 0)
 | .at j p=>.at (ks.getD j 0) p
 | .newT t=>.newT t
def rf (sp:SpM) (ws:WA):WE:=fun m K=>ws m fun rs m1=>match gw m1 rs with
 | some (as,ks)=>ks.Nodup∧sp as fun r outs=>K (mapR ks r) { m1 with os:=cu m1.os ks outs }
 | none=>False
theorem gV:∀ (ks:List Nat) (os outs:List (List PyData)),(cu os ks outs).length = os.length
 | [],_,_=>by simp [cu]
 | _ :: _,_,[]=>by simp [cu]
 | k :: ks,os,o :: outs=>by simp [cu,gV ks]
theorem gY:∀ (ks:List Nat) (os outs:List (List PyData)) (k:Nat),k∉ks→(cu os ks outs)[k]? = os[k]?
 | [],_,_,_,_=>by simp [cu]
 | _ :: _,_,[],_,_=>by simp [cu]
 | k' :: ks,os,o :: outs,k,h=>by
  rw [List.mem_cons] at h
  rw [not_or] at h
  show (cu (os.set k' o) ks outs)[k]? = _
  rw [gY ks _ _ k h.2,List.getElem?_set_ne (Ne.symm h.1)]
theorem l7:∀ (ks:List Nat) (os outs:List (List PyData)) (j k:Nat) (ds:List PyData),ks.Nodup→ks[j]? = some k→outs[j]? = some ds→k < os.length→(cu os ks outs)[k]? = some ds
 | [],_,_,_,_,_,_,h,_,_=>by simp at h
 | _ :: _,_,[],_,_,_,_,_,h,_=>by simp at h
 | k' :: ks,os,o :: outs,0,k,ds,nd,h1,h2,hk=>by
  simp at h1 h2; subst h1; subst h2
  show (cu (os.set k' o) ks outs)[k']? = _
  rw [gY ks _ _ k' (List.nodup_cons.mp nd).1,List.getElem?_set_self hk]
 | k' :: ks,os,o :: outs,j + 1,k,ds,nd,h1,h2,hk=>by
  exact l7 ks (os.set k' o) outs j k ds (List.nodup_cons.mp nd).2 (by simpa using h1) (by simpa using h2) (by simpa using hk)
theorem fo (α : Al):(ads α).Nodup↔(∀ ao∈α,ao.ads.Nodup)∧α.Pairwise fun x y=>∀ a∈x.ads,∀ b∈y.ads,a≠b:=List.pairwise_flatMap
theorem fx {α : Al} (nd:(ads α).Nodup) {i j:Nat} {x y:Ao} (hi : α[i]? = some x) (hj : α[j]? = some y) (h:i≠j) {a:Addr} (hx:a∈x.ads) (hy:a∈y.ads):False:=by
 have pw:=((fo α).mp nd).2
 obtain ⟨p1,q1⟩:=List.getElem?_eq_some_iff.mp hi
 obtain ⟨p2,q2⟩:=List.getElem?_eq_some_iff.mp hj
 subst q1 q2
 rcases Nat.lt_or_gt_of_ne h with l | l
 ·exact List.pairwise_iff_getElem.mp pw i j p1 p2 l a hx a hy rfl
 ·exact List.pairwise_iff_getElem.mp pw j i p2 p1 l a hy a hx rfl
theorem il {α : Al} {i:Nat} {x:Ao} (hi : α[i]? = some x) {a:Addr} (h:a∈x.ads):a∈ads α:=List.mem_flatMap.mpr ⟨x,List.mem_of_getElem? hi,h⟩
theorem fO {α : Al} {a:Addr} (h:a∈ads α):∃ (i:Nat) (x:Ao),α[i]? = some x∧a∈x.ads:=by
 obtain ⟨ao,h1,h2⟩:=List.mem_flatMap.mp h
 obtain ⟨k,hk,e⟩:=List.mem_iff_getElem.mp h1
 exact ⟨k,ao,by rw [List.getElem?_eq_getElem hk,e],h2⟩
section
variable {K:Kx} {α : Al} {m:MSt} {σ : St} {H H0 H':Hp}
theorem f9 (Rl:Rel K α m σ H):∀ {rs:List R} {vs:List V} {as:List Ag} {ks:List Nat},RelRs K α H0 H rs vs→gw m rs = some (as,ks)→∃ β,RelAs K H as vs β∧Paired (fun (k:Nat) (ao:Ao)=>α[k]? = some ao) ks β
 | _,_,_,_,.nil,e=>by cases e; exact ⟨[],.nil,.nil⟩
 | _,_,as,ks,.cons (r:=.imm d) (rs:=rs) h t,e=>by
  simp only [gw] at e
  cases q:gw m rs with
  | none=>rw [q] at e; cases e
  | some p =>
   obtain ⟨as',ks'⟩:=p
   rw [q] at e; cases e
   obtain ⟨β,h1,h2⟩:=f9 Rl t q
   exact ⟨β,.imm h h1,h2⟩
 | _,_,as,ks,.cons (r:=.obj k) (rs:=rs) h t,e=>by
  simp only [gw] at e
  cases q1:m.os[k]? with
  | none=>rw [q1] at e; cases e
  | some ds =>
   cases q:gw m rs with
   | none=>rw [q1,q] at e; cases e
   | some p =>
    obtain ⟨as',ks'⟩:=p
    rw [q1,q] at e; cases e
    obtain ⟨β,h1,h2⟩:=f9 Rl t q
    obtain ⟨a,ea,rfl⟩:=h
    exact ⟨.L a :: β,.own (Rl.own k _ ds ea q1) h1,.cons ea h2⟩
 | _,_,as,ks,.cons (r:=.at k []) (rs:=rs) h t,e=>by
  simp only [gw] at e
  split at e
  ·rename_i t' as' ks' q1 q
   cases e
   obtain ⟨β,h1,h2⟩:=f9 Rl t q
   obtain ⟨τ,a,ea,el,rfl⟩:=h
   exact ⟨.T τ :: β,.tr (Rl.own k _ _ ea q1) el h1,.cons ea h2⟩
  ·cases e
 | _,_,_,_,.cons (r:=.at _ (_ :: _)) h t,e=>by cases e
 | _,_,_,_,.cons (r:=.new _) h t,e=>by cases e
 | _,_,_,_,.cons (r:=.newT _) h t,e=>by cases e
theorem fu (nd:(ads α).Nodup) {ks:List Nat} {β : Al} (h:ks.Nodup) (p:Paired (fun (k:Nat) (ao:Ao)=>α[k]? = some ao) ks β):(ads β).Nodup:=by
 have one:=((fo α).mp nd).1
 induction p with
 | nil=>exact List.nodup_nil
 | @cons k ao ks β e t ih =>
  have ih':=ih (List.nodup_cons.mp h).2
  rw [fo] at ih' ⊢
  refine ⟨fun x hx=>?_,List.pairwise_cons.mpr ⟨fun y hy a ha b hb z=>?_,ih'.2⟩⟩
  ·rcases List.mem_cons.mp hx with rfl | hx
   ·exact one _ (List.mem_of_getElem? e)
   ·exact ih'.1 x hx
  ·subst z
   obtain ⟨j,hj,ej⟩:=List.mem_iff_getElem.mp hy
   obtain ⟨k',e1,e2⟩:=Paired.get2 t (i:=j) (b:=y) (by rw [List.getElem?_eq_getElem hj,ej])
   have ek:k = k':=Classical.byContradiction fun ne=>fx nd e e2 ne ha hb
   exact (List.nodup_cons.mp h).1 (ek▸List.mem_of_getElem? e1)
theorem wr (Rl:Rel K α m σ H) {ks:List Nat} {β : Al} {outs:List (List PyData)} (nd:ks.Nodup) (p:Paired (fun (k:Nat) (ao:Ao)=>α[k]? = some ao) ks β) (O:sJ K H' β outs) (F:Frm β H H') :
  Rel K α { m with os:=cu m.os ks outs } σ H'∧Frm α H H':=by
 have sub:∀ a∈ads β,∃ k ao,k∈ks∧α[k]? = some ao∧a∈ao.ads:=fun a ha=>by
  obtain ⟨j,ao,ej,hm⟩:=fO ha
  obtain ⟨k',e1,e2⟩:=Paired.get2 p ej
  exact ⟨k',ao,List.mem_of_getElem? e1,e2,hm⟩
 have Fα : Frm α H H':=fun b o e n=>F b o e fun z=>by
  obtain ⟨k,ao,_,e2,hm⟩:=sub b z
  exact n (il e2 hm)
 have pe:=Rl.pers Fα
 have own':∀ (k:Nat) (ao:Ao) (ds:List PyData),α[k]? = some ao→(cu m.os ks outs)[k]? = some ds→OwnAt K H' ao ds:=fun k ao ds e1 e2'=>by
  have hk:k < m.os.length:=by rw [←Rl.len]; exact (List.getElem?_eq_some_iff.mp e1).1
  by_cases hm:k∈ks
  ·obtain ⟨j,hj,ej⟩:=List.mem_iff_getElem.mp hm
   have z1:ks[j]? = some k:=by rw [List.getElem?_eq_getElem hj,ej]
   obtain ⟨a',z2,z3⟩:=Paired.get' p z1
   rw [e1] at z3; cases z3
   have hj2:j < outs.length:=by rw [O.len]; exact (List.getElem?_eq_some_iff.mp z2).1
   have z4:outs[j]? = some outs[j]:=List.getElem?_eq_getElem hj2
   rw [l7 ks m.os outs j k _ nd z1 z4 hk] at e2'
   cases e2'
   exact O.at_ j _ _ z2 z4
  ·rw [gY ks _ _ k hm] at e2'
   have q:=Rl.own k ao ds e1 e2'
   refine q.mono pe fun a ha=>?_
   obtain ⟨o,eo,_⟩:=q.mem ha
   rw [eo]
   refine F a o eo fun z=>?_
   obtain ⟨k2,ao2,hk2,e3,hm2⟩:=sub a z
   exact fx Rl.nd e1 e3 (fun z=>hm (z▸hk2)) ha hm2
 refine ⟨⟨Rl.nd,by show α.length = (cu m.os ks outs).length; rw [gV]; exact Rl.len,own',Rl.vlen,fun i r h=>?_,Rl.npl,Rl.ebl,Rl.ebx.trans ⟨rfl,Fα,fun _ h=>.inl h,fun a ha=>?_⟩⟩,Fα⟩
 ·obtain ⟨v,ev,rv⟩:=Rl.var i r h
  refine ⟨v,ev,?_⟩
  cases r with
  | imm d=>exact Den.mono pe rv
  | obj k=>exact rv
  | «at» k p=>exact rv
  | new ds=>exact rv
  | newT t=>exact rv
 ·obtain ⟨k,ao,e1,hm⟩:=fO ha
  have hk:k < (cu m.os ks outs).length:=by rw [gV,←Rl.len]; exact (List.getElem?_eq_some_iff.mp e1).1
  obtain ⟨o,q,_⟩:=(own' k ao _ e1 (List.getElem?_eq_getElem hk)).mem hm
  exact ⟨o,q⟩
theorem vw {K:Kd} {ks:List Nat} {β : Al} {r:R} {v:V} (p:Paired (fun (k:Nat) (ao:Ao)=>α[k]? = some ao) ks β) (h:RelR K β H H' r v):RelR K α H H' (mapR ks r) v:=by
 have get:∀ {j:Nat} {ao:Ao},β[j]? = some ao→α[ks.getD j 0]? = some ao:=fun {j ao} ea=>by
  obtain ⟨k,z1,z2⟩:=Paired.get2 p ea
  rw [List.getD_eq_getElem?_getD,z1]
  exact z2
 cases r with
 | imm d=>exact h
 | new ds=>exact h
 | newT t=>exact h
 | obj j =>
  obtain ⟨a,ea,e⟩:=h
  exact ⟨a,get ea,e⟩
 | «at» j q =>
  obtain ⟨τ,a,ea,el,e⟩:=h
  exact ⟨τ,a,get ea,el,e⟩
end
section
variable {X:Cx} {a:Expr} {es:List Expr} {ws:WA} {pos p:Pos} {k n:Nat} {f:Addr} {fd:FuncData} {ps:List Str} {sp:SpM} {x:Str} {CX:CXT}
theorem Ac {E:XK} {σ : St} {H:Hp} {Q:VK} (h:tM X.kx (rf sp ws) σ H Q) (hn:∀ as Kc,sp as Kc→as.length = n):Cf (spOf X.kd n sp) [] E (tMA X.kx ws) σ H Q:=by
 obtain ⟨α,m,Kc,Rl,hw,fin⟩:=h
 refine ⟨α,m,_,Rl,hw,fun rs m1 vs H1 kk n1 Rl1 rr F1=>?_⟩
 cases e:gw m1 rs with
 | none=>rw [e] at kk; exact kk.elim
 | some q =>
  obtain ⟨as,ks⟩:=q
  rw [e] at kk
  obtain ⟨nd,hsp⟩:=kk
  obtain ⟨β,ra,pa⟩:=f9 Rl1 rr e
  refine ⟨as,β,_,hn _ _ hsp,fu Rl1.nd nd pa,by rw [List.append_nil]; exact ra,hsp,fun r outs v H' kk2 O rr2 F=>?_⟩
  obtain ⟨Rl2,F2⟩:=wr Rl1 nd pa O F
  exact fin _ _ v H' kk2 n1 Rl2 ((vw pa rr2).base Rl1 F1) (F1.trans F2)
theorem yi {E:XK} (F:FnOk X.prog X.w X.K X.mg X.base CX k f fd ps (spOf X.kd n sp)) (hr:Room k X.A) (hg:Gl X x) (hm:X.mg x = some (.ref f)) (hk:PySem.W.keepIn X.K (.ref f) = true) (hb:Binds X.K fd ps []) (hx:pG CX X E) (hn:∀ as Kc,sp as Kc→as.length = n)
  (ha:MA X (a :: es) ws) (hdb:(x == ("__debug__" : Str)) = false:=by decide) (he:starEach (a :: es) X.env = (false,eval a X.env) :: starEach es X.env:=by first | exact aU rfl | rfl) (hpl:(backTo pos (starEach es X.env)).any (·.1) = false:=by rfl) :
  ME X (.Call (.Name x p) (a :: es) [] pos) (rf sp ws):=(zP (E:=E) F hr hg hm hk hb .nil hx ha hdb he hpl).wk fun _ _ _ h=>Ac h hn
end
structure d9 where
 nx:MSt→Prop
 rt:R→MSt→Prop
 bk:MSt→Prop:=fun _=>False
 ct:MSt→Prop:=fun _=>False
abbrev WS:=d9→MSt→Prop
theorem RelR.ext {K:Kd} {np:Nat} {α α1 α2:Al} {H H1 H2:Hp} {r:R} {v:V} (x:Ext np α H α1 H1) (h:RelR K α2 H1 H2 r v):RelR K α2 H H2 r v:=by
 cases r with
 | imm d=>exact h
 | obj k=>exact h
 | «at» k p=>exact h
 | new ds =>
  obtain ⟨a,xs,e,n,q,g⟩:=h
  exact ⟨a,xs,e,x.nil n,q,g⟩
 | newT t =>
  obtain ⟨τ,a,e,e1,nd,n,g⟩:=h
  exact ⟨τ,a,e,e1,nd,fun b hb=>x.nil (n b hb),g⟩
structure EndsOk (K:Kx) (np:Nat) (α : Al) (H:Hp) (De:d9) (D:Ends):Prop where
 nx:∀ α' m' σ' H',De.nx m'→m'.np = np→Rel K α' m' σ' H'→Ext np α H α' H'→D.nx σ' H'
 rt:∀ r α' m' σ' v H',De.rt r m'→m'.np = np→Rel K α' m' σ' H'→RelR K α' H H' r v→Ext np α H α' H'→D.rt v H'
 bk:∀ α' m' σ' H',De.bk m'→m'.np = np→Rel K α' m' σ' H'→Ext np α H α' H'→D.bk σ' H'
 ct:∀ α' m' σ' H',De.ct m'→m'.np = np→Rel K α' m' σ' H'→Ext np α H α' H'→D.ct σ' H'
theorem EndsOk.ext {K:Kx} {np:Nat} {α α1:Al} {H H1:Hp} {De:d9} {D:Ends} (h:EndsOk K np α H De D) (x:Ext np α H α1 H1):EndsOk K np α1 H1 De D where
 nx:=fun α' m' σ' H' k n R y=>h.nx α' m' σ' H' k n R (x.trans y)
 rt:=fun r α' m' σ' v H' k n R rr y=>h.rt r α' m' σ' v H' k n R (rr.ext x) (x.trans y)
 bk:=fun α' m' σ' H' k n R y=>h.bk α' m' σ' H' k n R (x.trans y)
 ct:=fun α' m' σ' H' k n R y=>h.ct α' m' σ' H' k n R (x.trans y)
def tMS (K:Kx) (w:WS):TS:=fun D σ H=>∃ α m De,Rel K α m σ H∧w De m∧EndsOk K m.np α H De D
abbrev MS (X:Cx) (st:Stmt) (w:WS):Prop:=PS X st (tMS X.kx w)
abbrev MSs (X:Cx) (st:List Stmt) (w:WS):Prop:=PSs X st (tMS X.kx w)
section
variable {X:Cx} {a b c e:Expr} {es:List Expr} {wa wb wc we:WE} {pos:Pos} {st:Stmt} {rest:List Stmt} {w u:WS}
def xV:WS:=fun D m=>D.nx m
def wSeq (w u:WS):WS:=fun D m=>w { D with nx:=fun m'=>u D m' } m
theorem yv:MSs X [] xV:=(yf (X:=X)).wk fun D σ H ⟨α,m,De,Rl,hw,k⟩=>k.nx α m σ H hw rfl Rl (.of Rl (Frm.refl _ _))
theorem wf (h1:MS X st w) (h2:MSs X rest u):MSs X (st :: rest) (wSeq w u):=(va h1 h2).wk fun D σ H ⟨α,m,De,Rl,hw,k⟩ =>
 ⟨α,m,_,Rl,hw,⟨fun α' m' σ' H' q n R y=>⟨α',m',De,R,q,by rw [n]; exact k.ext y⟩,k.rt,k.bk,k.ct⟩⟩
theorem zO (h1:MS X st w):MSs X [st] w:=(yJ h1).wk fun D σ H h=>h
end
section
variable {X:Cx} {a b c e:Expr} {es:List Expr} {wa wb wc we:WE} {ws:WA} {wt:WT} {pos:Pos} {st:Stmt} {rest body body2:List Stmt} {w u:WS}
def wRet (we:WE):WS:=fun D m=>we m fun r m'=>D.rt r m'
theorem Cu (he:ME X e we):MS X (.Return (some e) pos) (wRet we):=(Ce he).wk fun D σ H ⟨α,m,De,Rl,hw,k⟩ =>
 ⟨α,m,_,Rl,hw,fun r m' v H' q n Rl' rr F=>k.rt r α m' σ v H' q n Rl' rr (.of Rl' F)⟩
def yM (we:WE):WS:=fun D m=>we m fun _ m'=>D.nx m'
theorem yT (he:ME X e we) (hs:swapsWith e none pos.line X.env = pure false:=by rfl):MS X (.Expr e pos) (yM we):=(xQ he hs).wk fun D σ H ⟨α,m,De,Rl,hw,k⟩ =>
 ⟨α,m,_,Rl,hw,fun r m' v H' q n Rl' rr F=>k.nx α m' σ H' q n Rl' (.of Rl' F)⟩
def wIfS (t:WT) (w u:WS):WS:=fun D m=>t m fun c m'=>if c = true then w D m' else u D m'
theorem GF {t:Expr} (ht:MT X t wt) (h1:MSs X body w) (h2:MSs X body2 u):MS X (.If t body body2 pos) (wIfS wt w u):=(GZ ht h1 h2).wk fun D σ H ⟨α,m,De,Rl,hw,k⟩=>by
 refine ⟨α,m,_,Rl,hw,fun bb m' H' q n Rl' F=>?_⟩
 have k':EndsOk X.kx m'.np α H' De D:=by rw [n]; exact k.ext (.of Rl' F)
 cases bb with
 | true=>rw [if_pos rfl] at q; exact iteT ⟨α,m',De,Rl',q,k'⟩
 | false=>rw [if_neg Bool.false_ne_true] at q; exact iteF ⟨α,m',De,Rl',q,k'⟩
def MSt.setV (m:MSt) (i:Nat) (r:R):MSt:={ m with vs:=m.vs.set i (some r) }
def RenR (ρ : List Nat) (o:Option (Option R)):R→Prop
 | .imm d=>o = some (some (.imm d))
 | .obj k=>∃ j,ρ[k]? = some j∧o = some (some (.obj j))
 | .at k p=>∃ j,ρ[k]? = some j∧o = some (some (.at j p))
 | .new _=>False
 | .newT _=>False
structure Ren (ρ : List Nat) (m m2:MSt):Prop where
 nd : ρ.Nodup
 lt:∀ k∈ρ,k < m.os.length
 pre : ρ.take m.np = List.range m.np
 npl:m.np≤ρ.length
 os:m2.os = ρ.map fun k=>m.os.getD k []
 np:m2.np = m.np
 vl:m2.vs.length = m.vs.length
 vs:∀ (j:Nat) (r:R),m2.vs[j]? = some (some r)→RenR ρ m.vs[j]? r
def upR (D:MSt→Prop) (m:MSt):Prop:=D m∨∃ ρ m2,Ren ρ m m2∧D m2
def mJ (i:Nat) (D:MSt→Prop) (m:MSt):R→Prop
 | .imm d=>upR D (m.setV i (.imm d))
 | .obj k=>upR D (m.setV i (.obj k))
 | .at k p=>upR D (m.setV i (.at k p))
 | .new ds=>upR D { vs:=m.vs.set i (some (.obj m.os.length)),os:=m.os++[ds],np:=m.np } ∨
   ∃ k,m.vs[i]? = some (some (.obj k))∧m.np≤k∧(∀ j:Nat,j≠i→m.vs[j]?≠some (some (.obj k)))∧D { m with os:=m.os.set k ds }
 | .newT t=>upR D { vs:=m.vs.set i (some (.at m.os.length [])),os:=m.os++[[t]],np:=m.np }
theorem fH {α : Al} {n:Nat} (hl : α.length = n):∀ {ρ : List Nat},(∀ k∈ρ,k < n)→Paired (fun (k:Nat) (ao:Ao)=>α[k]? = some ao) ρ (ρ.map fun k=>α.getD k (.L 0))
 | [],_=>.nil
 | k :: ρ,h=>.cons (by
   have hk:k < α.length:=by rw [hl]; exact h k List.mem_cons_self
   show α[k]? = some (α.getD k (.L 0))
   rw [List.getD_eq_getElem?_getD,List.getElem?_eq_getElem hk]; rfl) (fH hl fun j hj=>h j (List.mem_cons_of_mem _ hj))
theorem yG {K:Kx} {α : Al} {m m2:MSt} {σ : St} {H:Hp} {ρ : List Nat} (Rl:Rel K α m σ H) (N:Ren ρ m m2):∃ α2,Rel K α2 m2 σ H∧Ext m.np α H α2 H:=by
 have pr:=fH Rl.len N.lt
 have get:∀ (k:Nat) (ao:Ao),(ρ.map fun k=>α.getD k (.L 0))[k]? = some ao→∃ j:Nat,ρ[k]? = some j∧α[j]? = some ao:=fun k ao z=>by
  obtain ⟨j,h1,h2⟩:=Paired.get2 pr z
  exact ⟨j,h1,h2⟩
 have fwd:∀ (k j:Nat) (ao:Ao),ρ[k]? = some j→α[j]? = some ao→(ρ.map fun k=>α.getD k (.L 0))[k]? = some ao:=fun k j ao z1 z2=>by
  obtain ⟨ao',z3,z4⟩:=Paired.get' pr z1
  rw [z2] at z4; cases z4
  exact z3
 have pre':(ρ.map fun k=>α.getD k (.L 0)).take m.np = α.take m.np:=by
  apply List.ext_getElem?
  intro l
  rw [List.getElem?_take,List.getElem?_take]
  by_cases hl:l < m.np
  ·rw [if_pos hl,if_pos hl]
   have : ρ[l]? = some l:=by
    have e:=congrArg (·[l]?) N.pre
    simp only [List.getElem?_take,if_pos hl] at e
    rw [e,List.getElem?_range hl]
   have hl2:l < α.length:=Nat.lt_of_lt_of_le hl Rl.npl
   rw [fwd l l α[l] this (List.getElem?_eq_getElem hl2),List.getElem?_eq_getElem hl2]
  ·rw [if_neg hl,if_neg hl]
 have ext:Ext m.np α H (ρ.map fun k=>α.getD k (.L 0)) H:=⟨pre',Frm.refl _ _,fun a ha=>by
  obtain ⟨k,ao,e1,hm⟩:=fO ha
  obtain ⟨j,_,e2⟩:=get k ao e1
  exact .inl (il e2 hm),fun a ha=>by
  obtain ⟨o,q,_⟩:=Rl.mem ha
  exact ⟨_,q⟩⟩
 refine ⟨ρ.map fun k=>α.getD k (.L 0),⟨fu Rl.nd N.nd pr,?_,fun k ao ds z1 z2=>?_,?_,fun j r z=>?_,?_,by rw [N.np]; exact Rl.ebl,Rl.ebx.trans (ext.less Rl.ebl)⟩,ext⟩
 ·rw [N.os,List.length_map,List.length_map]
 ·obtain ⟨j,q,qa⟩:=get k ao z1
  rw [N.os,List.getElem?_map,q] at z2
  have hj:j < m.os.length:=N.lt j (List.mem_of_getElem? q)
  have z2':m.os.getD j [] = ds:=Option.some.inj z2
  refine Rl.own j ao ds qa ?_
  rw [←z2',List.getD_eq_getElem?_getD,List.getElem?_eq_getElem hj]; rfl
 ·rw [N.vl]; exact Rl.vlen
 ·have h:=N.vs j r z
  cases r with
  | imm d=>exact Rl.var j (.imm d) h
  | new _=>exact h.elim
  | newT _=>exact h.elim
  | obj k =>
   obtain ⟨j',q,h⟩:=h
   obtain ⟨v,ev,a,ea,e⟩:=Rl.var j (.obj j') h
   exact ⟨v,ev,a,fwd k j' _ q ea,e⟩
  | «at» k p =>
   obtain ⟨j',q,h⟩:=h
   obtain ⟨v,ev,τ,a,ea,el,e⟩:=Rl.var j (.at j' p) h
   exact ⟨v,ev,τ,a,fwd k j' _ q ea,el,e⟩
 ·rw [N.np,List.length_map]; exact N.npl
def wSet (i:Nat) (we:WE):WS:=fun D m=>we m fun r m'=>mJ i D.nx m' r
theorem bX {K:Kx} {α : Al} {m:MSt} {σ : St} {H:Hp} {i:Nat} {r:R} {v:V} (Rl:Rel K α m σ H) (h:RelS K α H r v):Rel K α (m.setV i r) (σ.set i (some v)) H:=by
 refine ⟨Rl.nd,Rl.len,Rl.own,?_,fun j r' e=>?_,Rl.npl,Rl.ebl,Rl.ebx⟩
 ·show (σ.set i (some v)).length = (m.vs.set i (some r)).length
  rw [List.length_set,List.length_set]; exact Rl.vlen
 ·have e':(m.vs.set i (some r))[j]? = some (some r'):=e
  by_cases hj:i = j
  ·subst hj
   by_cases hi:i < m.vs.length
   ·rw [List.getElem?_set_self hi] at e'
    cases e'
    exact ⟨v,List.getElem?_set_self (by rw [Rl.vlen]; exact hi),h⟩
   ·rw [List.getElem?_eq_none (by rw [List.length_set]; omega)] at e'; cases e'
  ·rw [List.getElem?_set_ne hj] at e' ⊢
   exact Rl.var j r' e'
theorem iJ {K:Kx} {α : Al} {m:MSt} {σ : St} {H0 H:Hp} {ao:Ao} {ds:List PyData} (Rl:Rel K α m σ H) (R0:∃ m0 σ0,Rel K α m0 σ0 H0) (F:Frm α H0 H) (nd:ao.ads.Nodup) (hn:∀ b∈ao.ads,H0 b = none) (g:OwnAt K H ao ds) :
  Rel K (α++[ao]) { m with os:=m.os++[ds] } σ H∧∀ np,np≤α.length→Ext np α H0 (α++[ao]) H:=by
 obtain ⟨m0,σ0,Rl0⟩:=R0
 have pα : ∀ b∈ao.ads,b∉ads α:=fun b hb=>Rl0.out (hn b hb)
 have one:ads [ao] = ao.ads:=by simp [ads]
 have ext:∀ np,np≤α.length→Ext np α H0 (α++[ao]) H:=fun np hnp=>⟨by rw [List.take_append_of_le_length hnp],F,fun a ha=>by
  rw [fC,one] at ha
  rcases List.mem_append.mp ha with z | z
  ·exact .inl z
  ·exact .inr (hn a z),fun a ha=>by
  obtain ⟨o,q,_⟩:=Rl.mem ha
  exact ⟨_,q⟩⟩
 refine ⟨⟨?_,by simp [Rl.len],fun k a es z1 z2=>?_,Rl.vlen,fun j r' z=>?_,by have:=Rl.npl; show m.np≤(α++[ao]).length; rw [List.length_append]; omega,Rl.ebl,Rl0.ebx.trans (ext _ ?_)⟩,ext⟩
 ·rw [fC,one]
  exact List.nodup_append.mpr ⟨Rl.nd,nd,fun x hx y hy e=>pα y hy (e▸hx)⟩
 ·have z2':(m.os++[ds])[k]? = some es:=z2
  by_cases hk:k < α.length
  ·rw [List.getElem?_append_left hk] at z1
   rw [List.getElem?_append_left (by rw [←Rl.len]; exact hk)] at z2'
   exact Rl.own k a es z1 z2'
  ·rw [List.getElem?_append_right (by omega)] at z1
   rw [List.getElem?_append_right (by rw [←Rl.len]; omega)] at z2'
   have hk0:k - α.length = 0:=by
    have:=(List.getElem?_eq_some_iff.mp z1).1
    simp at this; omega
   rw [hk0] at z1
   rw [←Rl.len,hk0] at z2'
   simp at z1 z2'
   subst z1; subst z2'
   exact g
 ·obtain ⟨v,ev,rv⟩:=Rl.var j r' z
  refine ⟨v,ev,?_⟩
  cases r' with
  | imm d=>exact rv
  | new _=>exact rv
  | newT _=>exact rv
  | obj k =>
   obtain ⟨a,ea,e⟩:=rv
   exact ⟨a,by rw [List.getElem?_append_left (List.getElem?_eq_some_iff.mp ea).1]; exact ea,e⟩
  | «at» k p =>
   obtain ⟨τ,a,ea,e⟩:=rv
   exact ⟨τ,a,by rw [List.getElem?_append_left (List.getElem?_eq_some_iff.mp ea).1]; exact ea,e⟩
 ·exact Nat.le_trans Rl.ebl Rl.npl
theorem nv {K:Kx} {α : Al} {m:MSt} {σ : St} {H0 H:Hp} {i:Nat} {r:R} {v:V} {P:MSt→Prop} {Q:St→Hp→Prop} {np:Nat} (Rl:Rel K α m σ H) (n:m.np = np) (F:Frm α H0 H) (h:RelR K α H0 H r v) (q:mJ i P m r)
  (k:∀ α' m' σ' H',P m'→m'.np = np→Rel K α' m' σ' H'→Ext np α H0 α' H'→Q σ' H') (R0:∃ m0 σ0,Rel K α m0 σ0 H0):Q (σ.set i (some v)) H:=by
 have up:∀ α' m' σ' H',upR P m'→m'.np = np→Rel K α' m' σ' H'→Ext np α H0 α' H'→Q σ' H':=fun α' m' σ' H' q n R x=>by
  rcases q with q | ⟨ρ,m2,N,q⟩
  ·exact k α' m' σ' H' q n R x
  ·obtain ⟨α2,R2,x2⟩:=yG R N
   rw [n] at x2
   exact k α2 m2 σ' H' q (N.np.trans n) R2 (x.trans x2)
 have npα : np≤α.length:=by rw [←n]; exact Rl.npl
 cases r with
 | imm d=>exact up α _ _ H q n (bX Rl (r:=.imm d) h) (.of (bX (i:=i) Rl (r:=.imm d) h) F)
 | obj j=>exact up α _ _ H q n (bX Rl (r:=.obj j) h) (.of (bX (i:=i) Rl (r:=.obj j) h) F)
 | «at» j p=>exact up α _ _ H q n (bX Rl (r:=.at j p) h) (.of (bX (i:=i) Rl (r:=.at j p) h) F)
 | newT t =>
  obtain ⟨τ,p,rfl,el,nd,hn,g⟩:=h
  obtain ⟨base,ext⟩:=iJ Rl R0 F (ao:=.T τ) nd hn g
  exact up (α++[.T τ]) _ _ H q n (bX base (r:=.at m.os.length []) ⟨τ,p,by rw [List.getElem?_append_right (by rw [Rl.len]; exact Nat.le_refl _),←Rl.len]; simp,el,rfl⟩) (ext np npα)
 | new ds =>
  obtain ⟨p,xs,rfl,hn,hp,g⟩:=h
  have R0':=R0
  obtain ⟨m0,σ0,Rl0⟩:=R0'
  have pα : p∉ads α:=Rl0.out hn
  rcases q with q | ⟨j,e1,e2,e3,q⟩
  ·
   obtain ⟨base,ext⟩:=iJ Rl R0 F (ao:=.L p) (by simp [Ao.ads]) (fun b hb=>by cases List.mem_singleton.mp hb; exact hn) ⟨xs,hp,g⟩
   exact up (α++[.L p]) _ _ H q n (bX base (r:=.obj m.os.length) ⟨p,by rw [List.getElem?_append_right (by rw [Rl.len]; exact Nat.le_refl _),←Rl.len]; simp,rfl⟩) (ext np npα)
  ·
   obtain ⟨aj,eaj⟩ : ∃ aj,α[j]? = some (.L aj):=by
    obtain ⟨v,_,a,ea,_⟩:=Rl.var i _ e1
    exact ⟨a,ea⟩
   have hj:j < α.length:=(List.getElem?_eq_some_iff.mp eaj).1
   have hi:i < m.vs.length:=(List.getElem?_eq_some_iff.mp e1).1
   have ndS:(ads (α.set j (.L p))).Nodup:=by
    have z:=(fo α).mp Rl.nd
    rw [fo]
    refine ⟨fun ao ha=>?_,List.pairwise_iff_getElem.mpr fun i1 i2 h1 h2 hlt a ha b hb e=>?_⟩
    ·rcases List.mem_or_eq_of_mem_set ha with y | y
     ·exact z.1 ao y
     ·subst y; simp [Ao.ads]
    ·subst e
     rw [List.length_set] at h1 h2
     have mem:∀ (l:Nat) (hl:l < α.length),a∈(α[l]).ads→a∈ads α:=fun l hl h=>il (List.getElem?_eq_getElem hl) h
     by_cases c1:j = i1
     ·subst c1
      rw [List.getElem_set_self] at ha
      rw [List.getElem_set_ne (by omega)] at hb
      cases List.mem_singleton.mp ha
      exact pα (mem i2 h2 hb)
     ·rw [List.getElem_set_ne c1] at ha
      by_cases c2:j = i2
      ·subst c2
       rw [List.getElem_set_self] at hb
       cases List.mem_singleton.mp hb
       exact pα (mem i1 h1 ha)
      ·rw [List.getElem_set_ne c2] at hb
       exact fx Rl.nd (List.getElem?_eq_getElem h1) (List.getElem?_eq_getElem h2) (Nat.ne_of_lt hlt) ha hb
   have ext:Ext np α H0 (α.set j (.L p)) H:=by
    refine ⟨?_,F,fun a ha=>?_,fun a ha=>?_⟩
    ·apply List.ext_getElem?
     intro l
     rw [List.getElem?_take,List.getElem?_take]
     by_cases hl:l < np
     ·rw [if_pos hl,if_pos hl,List.getElem?_set_ne (by omega)]
     ·rw [if_neg hl,if_neg hl]
    ·obtain ⟨l,ao,el,hm⟩:=fO ha
     by_cases c1:j = l
     ·subst c1
      rw [List.getElem?_set_self hj] at el
      cases el
      cases List.mem_singleton.mp hm
      exact .inr hn
     ·rw [List.getElem?_set_ne c1] at el
      exact .inl (il el hm)
    ·obtain ⟨o,q,_⟩:=Rl.mem ha
     exact ⟨_,q⟩
   have Rl':Rel K (α.set j (.L p)) { m with os:=m.os.set j ds } (σ.set i (some (.ref p))) H:=by
    refine ⟨ndS,by simp [Rl.len],fun k a es z1 z2=>?_,by rw [List.length_set]; exact Rl.vlen,fun l r' z=>?_,by rw [List.length_set]; exact Rl.npl,Rl.ebl,Rl0.ebx.trans (ext.less (by have:=Rl.ebl; omega))⟩
    ·have z2':(m.os.set j ds)[k]? = some es:=z2
     by_cases c1:j = k
     ·subst c1
      rw [List.getElem?_set_self hj] at z1
      rw [List.getElem?_set_self (by rw [←Rl.len]; exact hj)] at z2'
      cases z1; cases z2'
      exact ⟨xs,hp,g⟩
     ·rw [List.getElem?_set_ne c1] at z1 z2'
      exact Rl.own k a es z1 z2'
    ·have z':m.vs[l]? = some (some r'):=z
     by_cases hl:i = l
     ·subst hl
      rw [e1] at z'
      cases z'
      exact ⟨.ref p,List.getElem?_set_self (by rw [Rl.vlen]; exact hi),p,List.getElem?_set_self hj,rfl⟩
     ·obtain ⟨v,ev,rv⟩:=Rl.var l r' z'
      refine ⟨v,by rw [List.getElem?_set_ne hl]; exact ev,?_⟩
      cases r' with
      | imm d=>exact rv
      | new _=>exact rv
      | newT _=>exact rv
      | obj k =>
       obtain ⟨a,ea,e⟩:=rv
       refine ⟨a,?_,e⟩
       rw [List.getElem?_set_ne]
       ·exact ea
       ·rintro rfl
        exact e3 l (Ne.symm hl) z'
      | «at» k p' =>
       obtain ⟨τ,a,ea,e⟩:=rv
       refine ⟨τ,a,?_,e⟩
       rw [List.getElem?_set_ne]
       ·exact ea
       ·rintro rfl
        rw [eaj] at ea; cases ea
   exact k (α.set j (.L p)) _ _ H q n Rl' ext
theorem AF {i:Nat} {x:Str} {pos':Pos} (hN:X.N.Nodup) (hi:X.N[i]? = some x) (hx:Loc X.env.scope x) (he:ME X e we) (hs:swapsWith e (some (.Name x pos')) pos.line X.env = pure false:=by rfl) (hf:X.fn x = true∨X.env.scope.names.lookup x = some .local:=by first | exact .inl rfl | exact .inr rfl | assumption) :
  MS X (.Assign [.Name x pos'] e pos) (wSet i we):=(Cr hN hi hx he hs hf).wk fun D σ H ⟨α,m,De,Rl,hw,k⟩ =>
 ⟨α,m,_,Rl,hw,fun r m' v H' q n Rl' rr F=>nv (Q:=D.nx) Rl' n F rr q k.nx ⟨m,σ,Rl⟩⟩
abbrev WG:=PyData→MSt→(MSt→Prop)→Prop
abbrev WGs:=List PyData→MSt→(MSt→Prop)→Prop
def tMG (K:Kx) (g:WG):TG:=fun v σ H Q=>∃ α m d Kc,Rel K α m σ H∧Den K H d v∧g d m Kc∧∀ m' σ',Kc m'→m'.np = m.np→Rel K α m' σ' H→Q σ' H
def tMGs (K:Kx) (g:WGs):TGs:=fun vs σ H Q=>∃ α m ds Kc,Rel K α m σ H∧DenAll K H ds vs∧g ds m Kc∧∀ m' σ',Kc m'→m'.np = m.np→Rel K α m' σ' H→Q σ' H
theorem PG.wk {X:Cx} {e:Expr} {t t':TG} (h:PG X e t) (k:∀ v σ H Q,t' v σ H Q→t v σ H Q):PG X e t':=fun pins s σ H v u Q I r q=>h pins s σ H v u Q I r (k _ _ _ _ q)
theorem PGs.wk {X:Cx} {e:List Expr} {t t':TGs} (h:PGs X e t) (k:∀ v σ H Q,t' v σ H Q→t v σ H Q):PGs X e t':=fun pins s σ H v u Q I r q=>h pins s σ H v u Q I r (k _ _ _ _ q)
abbrev MG (X:Cx) (e:Expr) (g:WG):Prop:=PG X e (tMG X.kx g)
abbrev MGs (X:Cx) (es:List Expr) (g:WGs):Prop:=PGs X es (tMGs X.kx g)
def gM (i:Nat):WG:=fun d m K=>K (m.setV i (.imm d))
def yU:WGs:=fun ds m K=>ds = []∧K m
def uv (g:WG) (gs:WGs):WGs:=fun ds m K=>match ds with | d :: r=>g d m fun m'=>gs r m' K | []=>False
def zq (n:Nat) (gs:WGs):WG:=fun d m K=>match d with | .tuple ds=>ds.length = n∧gs ds m K | _=>False
theorem zj {i:Nat} {x:Str} (hN:X.N.Nodup) (hi:X.N[i]? = some x) (hx:Loc X.env.scope x) (hf:X.fn x = true∨X.env.scope.names.lookup x = some .local:=by first | exact .inl rfl | exact .inr rfl | assumption):MG X (.Name x pos) (gM i):=(nC hN hi hx hf).wk fun v σ H Q ⟨α,m,d,Kc,Rl,hd,hw,fin⟩ =>
 fin _ _ hw rfl (bX Rl hd)
theorem yV:MGs X [] yU:=(y3 (X:=X)).wk fun v σ H Q ⟨α,m,d,Kc,Rl,hd,hw,fin⟩=>by
 obtain ⟨rfl,hw⟩:=hw
 simp only [DenAll] at hd
 exact ⟨hd,fin m σ hw rfl Rl⟩
theorem v3 {e:Expr} {es:List Expr} {g:WG} {gs:WGs} (h1:MG X e g) (h2:MGs X es gs)
  (hs:(assignEach (e :: es) X.env).map (·.2) = assign e X.env :: (assignEach es X.env).map (·.2):=by rfl):MGs X (e :: es) (uv g gs):=(vB h1 h2 hs).wk fun v σ H Q ⟨α,m,ds,Kc,Rl,hd,hw,fin⟩=>by
 cases ds with
 | nil=>exact hw.elim
 | cons d r =>
  simp only [DenAll] at hd
  obtain ⟨x,vr,rfl,h3,h4⟩:=hd
  exact ⟨x,vr,rfl,α,m,d,_,Rl,h3,hw,fun m' σ' k n Rl'=>⟨α,m',r,_,Rl',h4,k,fun m2 σ2 k2 n2 Rl2=>fin m2 σ2 k2 (n2.trans n) Rl2⟩⟩
theorem Dw {es:List Expr} {k:Nat} {gs:WGs} {n:Nat} (h:MGs X es gs) (hc:X.calm = true:=by rfl)
  (hn:(assignEach es X.env).length = n:=by rfl) (hst:(assignEach es X.env).findIdx? (·.1) = none:=by rfl):MG X (.Tuple es k pos) (zq n gs):=(CU hc h hn hst).wk fun v σ H Q ⟨α,m,d,Kc,Rl,hd,hw,fin⟩=>by
 cases d with
 | tuple ds =>
  simp only [Den] at hd
  obtain ⟨a,xs,e,f,g⟩:=hd
  exact ⟨a,xs,e,f,g.length.symm.trans hw.1,α,m,ds,Kc,Rl,g,hw.2,fin⟩
 | none=>exact hw.elim
 | bool _=>exact hw.elim
 | int _=>exact hw.elim
 | str _=>exact hw.elim
 | list _=>exact hw.elim
 | dict _=>exact hw.elim
def f7 (P:PyData→Prop):R→Prop
 | .imm d=>P d
 | _=>False
theorem io {K:Kx} {α : Al} {Hb H:Hp} {r:R} {v:V} {P:PyData→Prop} (rr:RelR K α Hb H r v) (h:f7 P r):∃ d,r = .imm d∧Den K H d v∧P d:=by
 cases r with
 | imm d=>exact ⟨d,rfl,rr,h⟩
 | obj _=>exact h.elim
 | new _=>exact h.elim
 | «at» _ _=>exact h.elim
 | newT _=>exact h.elim
def wAsg (we:WE) (g:WG):WS:=fun D m=>we m fun r m'=>f7 (fun d=>g d m' D.nx) r
theorem Dt {tg:Expr} {g:WG} (he:ME X e we) (hg:MG X tg g) (hs:swapsWithSole [tg] e pos.line X.env = pure false:=by rfl) (hw:swappedStores [tg] e X.env = pure none:=by rfl)
  (h1:(assignEach [tg] X.env).map (·.2) = [assign tg X.env]:=by rfl):MS X (.Assign [tg] e pos) (wAsg we g):=(xv he hg hs hw h1).wk fun D σ H ⟨α,m,De,Rl,hw,k⟩=>by
 refine ⟨α,m,_,Rl,hw,fun r m' v H' q n Rl' rr F=>?_⟩
 obtain ⟨d,er,hd,q⟩:=io rr q
 exact ⟨α,m',d,_,Rl',hd,q,fun m2 σ2 q2 n2 Rl2=>k.nx α m2 σ2 H' q2 (n2.trans n) Rl2 (.of Rl2 F)⟩
def wPar (i j:Nat) (ws:WA):WS:=fun D m=>ws m fun rs m'=>match rs with | [.imm d1,.imm d2]=>D.nx ((m'.setV i (.imm d1)).setV j (.imm d2)) | _=>False
theorem DF {i j:Nat} {x y:Str} {px py pt:Pos} {kt k2 pt2} (hN:X.N.Nodup) (hi:X.N[i]? = some x) (hj:X.N[j]? = some y) (hij:i≠j)
  (hx:X.env.scope.names.lookup x = some .local) (hy:X.env.scope.names.lookup y = some .local) (ha:MA X [a,b] ws)
  (hw:swappedStores [.Tuple [.Name x px,.Name y py] kt pt] (.Tuple [a,b] k2 pt2) X.env = pure (some [x,y])) (hc:X.calm = true:=by rfl)
  (hs:swapsWithSole [.Tuple [.Name x px,.Name y py] kt pt] (.Tuple [a,b] k2 pt2) pos.line X.env = pure false:=by rfl) :
  MS X (.Assign [.Tuple [.Name x px,.Name y py] kt pt] (.Tuple [a,b] k2 pt2) pos) (wPar i j ws):=(AH hc hN hi hj hij hx hy ha hw hs).wk fun D σ H ⟨α,m,De,Rl,hw,k⟩=>by
 refine ⟨α,m,_,Rl,hw,fun rs m' vs H' q n Rl' rr F=>?_⟩
 match rs,rr,q with
 | [.imm d1,.imm d2],.cons h1 (.cons h2 .nil),q=>exact ⟨_,_,rfl,k.nx α _ _ H' q n (bX (bX Rl' (r:=.imm d1) h1) (r:=.imm d2) h2) (.of Rl' F)⟩
end
structure Src where
 ds:List PyData
 own:Option Nat
structure Wks (K:Kd) (J:It) (ds:List PyData) (C:Hp→Prop):Prop where
 stop:∀ H,C H→J.stop ds.length H
 go:∀ i H,i < ds.length→C H→J.go i H
 yld:∀ i H x H',i < ds.length→C H→J.yld i H x H'→(∀ b o,H b = some o→H' b = some o)∧∃ d,ds[i]? = some d∧Den K H' d x
def lM (K:Kd) (α : Al) (H:Hp) (s:Src) (J:It):Prop :=
 match s.own with
 | none=>∃ C:Hp→Prop,Wks K J s.ds C∧C H∧∀ H1 H2,C H1→Pers H1 H2→C H2
 | some k=>∃ a,α[k]? = some (.L a)∧Wks K J s.ds fun H=>∃ xs,H a = some (.lst xs)∧DenAll K H s.ds xs
abbrev WI:=MSt→(Src→MSt→Prop)→Prop
def tMI (K:Kx) (w:WI):TI:=fun σ H Rq=>∃ α m Kc,Rel K α m σ H∧w m Kc∧∀ s m' J H',Kc s m'→m'.np = m.np→Rel K α m' σ H'→Frm α H H'→lM K α H' s J→Rq J H'
theorem PI.wk {X:Cx} {tg e:Expr} {t t':TI} (h:PI X tg e t) (k:∀ σ H Q,t' σ H Q→t σ H Q):PI X tg e t':=fun pins s σ H Q I q=>h pins s σ H Q I (k _ _ _ q)
abbrev MI (X:Cx) (tg e:Expr) (w:WI):Prop:=PI X tg e (tMI X.kx w)
section
variable {X:Cx} {tg a b c e iter:Expr} {es:List Expr} {wa wb wc we:WE} {ws:WA} {wt:WT} {pos:Pos} {st:Stmt} {rest body body2:List Stmt} {w u:WS}
def iSeq (K:PySem.W.Frag) (tl:TE):TI:=fun σ H Rq=>tl σ H fun x H1=>∃ a,x = .ref a∧(((∃ xs,SqL K H1 a xs)∧Rq (Itl K a) H1)∨((∃ xs,SqT K H1 a xs)∧Rq (Itt K a) H1))
theorem o4 {l:Expr} {tl:TE} (hl:PE X l tl):PI X tg l (iSeq X.K tl):=by
 intro pins s σ H Rq I h
 refine thn (hl pins s σ H _ I h) fun v s1 ⟨x,H1,I1,r1,q1⟩=>?_
 obtain ⟨a,e,q⟩:=q1
 subst e
 cases r1
 rcases q with ⟨⟨xs,hq⟩,q⟩ | ⟨⟨xs,hq⟩,q⟩
 ·obtain ⟨its,rv,p,hz⟩:=I1.list hq
  refine wpAny_pyIter_list p.isList ?_
  refine ⟨s1.heap.objs.size,[s1.heap.objs.size],_,_,H1,rfl,I1.kept (t':=s1.toks) fun b o e=>Heap.get?_push_of_some _ e,su a _,⟨_,Heap.get?_push_size _ rfl,rfl,rfl⟩,fun b hb=>?_,q⟩
  have e:b = s1.heap.objs.size:=by simpa using hb
  subst e
  exact I1.fpOk (Nat.le_refl _) (I1.hok.fresh (Nat.le_refl _))
 ·obtain ⟨its,rv,p,hz⟩:=I1.tuple hq
  refine wpAny_pyIter_tuple (show s1.heap.IsTuple a its.toArray from p) ?_
  refine ⟨s1.heap.objs.size,[s1.heap.objs.size],_,_,H1,rfl,I1.kept (t':=s1.toks) fun b o e=>Heap.get?_push_of_some _ e,qC a _,⟨_,Heap.get?_push_size _ rfl,rfl,rfl⟩,fun b hb=>?_,q⟩
  have e:b = s1.heap.objs.size:=by simpa using hb
  subst e
  exact I1.fpOk (Nat.le_refl _) (I1.hok.fresh (Nat.le_refl _))
def srcR (m:MSt) (K:Src→MSt→Prop):R→Prop
 | .imm (.list ds)=>K ⟨ds,none⟩ m
 | .imm (.tuple ds)=>K ⟨ds,none⟩ m
 | .obj k=>∃ ds,m.os[k]? = some ds∧K ⟨ds,some k⟩ m
 | _=>False
def yo (we:WE):WI:=fun m K=>we m fun r m'=>srcR m' K r
theorem wks_list {K:Kd} {a:Addr} {ds:List PyData}:Wks K (Itl K a) ds fun H=>∃ xs,SqL K H a xs∧DenAll K H ds xs where
 stop:=fun H ⟨xs,q,g⟩=>⟨xs,q,by rw [g.length]; exact Nat.le_refl _⟩
 go:=fun i H hi ⟨xs,q,g⟩=>⟨xs,xs[i]'(by rw [←g.length]; exact hi),q,List.getElem?_eq_getElem _⟩
 yld:=fun i H x H' hi ⟨xs,q,g⟩ y=>by
  obtain ⟨e,y⟩:=y
  subst e
  obtain ⟨d,h1,h2⟩:=g.get2 (y xs q)
  exact ⟨fun _ _ z=>z,d,h1,h2⟩
theorem zm {K:Kd} {a:Addr} {ds:List PyData}:Wks K (Itt K a) ds fun H=>∃ xs,SqT K H a xs∧DenAll K H ds xs where
 stop:=fun H ⟨xs,q,g⟩=>⟨xs,q,by rw [g.length]; exact Nat.le_refl _⟩
 go:=fun i H hi ⟨xs,q,g⟩=>⟨xs,xs[i]'(by rw [←g.length]; exact hi),q,List.getElem?_eq_getElem _⟩
 yld:=fun i H x H' hi ⟨xs,q,g⟩ y=>by
  obtain ⟨e,y⟩:=y
  subst e
  obtain ⟨d,h1,h2⟩:=g.get2 (y xs q)
  exact ⟨fun _ _ z=>z,d,h1,h2⟩
theorem Wks.imp {K:Kd} {J:It} {ds:List PyData} {C C':Hp→Prop} (h:Wks K J ds C) (k:∀ H,C' H→C H):Wks K J ds C':=⟨fun H c=>h.stop H (k H c),fun i H hi c=>h.go i H hi (k H c),fun i H x H' hi c=>h.yld i H x H' hi (k H c)⟩
theorem AU (he:ME X e we):MI X tg e (yo we):=(o4 (tg:=tg) he).wk fun σ H Rq ⟨α,m,Kc,Rl,hw,fin⟩=>by
 refine ⟨α,m,_,Rl,hw,fun r m' v H' k n Rl' rr F=>?_⟩
 cases r with
 | new _=>exact k.elim
 | «at» _ _=>exact k.elim
 | newT _=>exact k.elim
 | obj j =>
  obtain ⟨ds,e1,k⟩:=k
  obtain ⟨p,ep,rfl⟩:=rr
  obtain ⟨xs,q,g⟩:=Rl'.own j _ ds ep e1
  exact ⟨p,rfl,.inl ⟨⟨xs,SqL.of q⟩,fin _ m' _ H' k n Rl' F ⟨p,ep,wks_list.imp fun H ⟨xs,q,g⟩=>⟨xs,SqL.of q,g⟩⟩⟩⟩
 | imm d =>
  cases d with
  | list ds =>
   have h:Den X.kx H' (.list ds) v:=rr
   simp only [Den] at h
   obtain ⟨p,xs,rfl,f,g⟩:=h
   refine ⟨p,rfl,.inl ⟨⟨xs,f.sq⟩,fin _ m' _ H' k n Rl' F ⟨fun H=>∃ xs,FzL X.kx H p xs∧DenAll X.kx H ds xs,wks_list.imp fun H ⟨xs,q,g⟩=>⟨xs,q.sq,g⟩,⟨xs,f,g⟩,fun H1 H2 ⟨xs,q,g⟩ pe=>⟨xs,q.mono pe,g.mono pe⟩⟩⟩⟩
  | tuple ds =>
   have h:Den X.kx H' (.tuple ds) v:=rr
   simp only [Den] at h
   obtain ⟨p,xs,rfl,f,g⟩:=h
   refine ⟨p,rfl,.inr ⟨⟨xs,f⟩,fin _ m' _ H' k n Rl' F ⟨fun H=>∃ xs,SqT X.kx H p xs∧DenAll X.kx H ds xs,zm,⟨xs,f,g⟩,fun H1 H2 ⟨xs,q,g⟩ pe=>⟨xs,q.mono pe,g.mono pe⟩⟩⟩⟩
  | none=>exact k.elim
  | bool _=>exact k.elim
  | int _=>exact k.elim
  | str _=>exact k.elim
  | dict _=>exact k.elim
def cw (lo:Int) (n:Nat):List PyData:=(List.range n).map fun (i:Nat)=>PyData.int (lo + (i:Int))
theorem aE (lo:Int) (n:Nat):(cw lo n).length = n:=by simp [cw]
theorem gU {lo:Int} {n i:Nat} (h:i < n):(cw lo n)[i]? = some (.int (lo + (i:Int))):=by simp [cw,h]
theorem ud {K:Kd} {lo:Int} {n:Nat}:Wks K (Itr lo n) (cw lo n) fun _=>True where
 stop:=fun H _=>by rw [aE]; exact Nat.le_refl _
 go:=fun i H hi _=>by rw [aE] at hi; exact hi
 yld:=fun i H x H' hi _ y=>by
  rw [aE] at hi
  obtain ⟨e,y⟩:=y
  subst e y
  exact ⟨fun _ _ z=>z,_,gU hi,mX _⟩
def sK (ws:WA):WI:=fun m K=>ws m fun rs m'=>match rs with | [.imm (.int j)]=>-(2 ^ 62)≤j∧j < 2 ^ 62∧K ⟨cw 0 j.toNat,none⟩ m' | _=>False
theorem aH {K:Kd} {H:Hp} {i:Int} {v:V} (h:Den K H (.int i) v):v = .int i:=by simpa only [Den] using h
theorem ul {p:Pos} (hg:Gl X "range") (hm:X.mg "range" = none) (ha:MA X [a] ws) (hs:starEach [a] X.env = [(false,eval a X.env)]:=by first | exact bI rfl | rfl):MI X tg (.Call (.Name "range" p) [a] [] pos) (sK ws):=(tZ (tg:=tg) hg hm ha hs).wk fun σ H Rq ⟨α,m,Kc,Rl,hw,fin⟩=>by
 refine ⟨α,m,_,Rl,hw,fun rs m' vs H' k n Rl' rr F=>?_⟩
 match rs,rr,k with
 | [.imm (.int j)],.cons h1 .nil,k =>
  obtain ⟨k1,k2,k⟩:=k
  have e:=aH (show Den X.kx H' (.int j) _ from h1)
  subst e
  exact ⟨j,rfl,k1,k2,fin _ m' _ H' k n Rl' F ⟨fun _=>True,ud,trivial,fun _ _ _ _=>trivial⟩⟩
def MSt.setN (m:MSt) (n:Nat):MSt:={ m with np:=n }
def Src.np (s:Src) (m:MSt):Nat:=match s.own with | none=>m.np | some k=>max m.np (k + 1)
def Src.ok (s:Src) (m:MSt):Prop:=match s.own with | none=>True | some k=>m.os[k]? = some s.ds
def me (s:Src) (g:WG) (w:WS):WS:=fun D m1=>∃ P:Nat→MSt→Prop,P 0 (m1.setN (s.np m1)) ∧
 (∀ (i:Nat) (d:PyData) (m:MSt),s.ds[i]? = some d→m.np = s.np m1→P i m→s.ok m∧g d m fun m2=>w { nx:=P (i + 1),ct:=P (i + 1),bk:=fun m'=>D.nx (m'.setN m1.np),rt:=fun r m'=>D.rt r (m'.setN m1.np) } m2) ∧
 ∀ m,m.np = s.np m1→P s.ds.length m→s.ok m∧D.nx (m.setN m1.np)
def wFor (wi:WI) (g:WG) (w:WS):WS:=fun D m=>wi m fun s m1=>me s g w D m1
theorem Rel.setN {K:Kx} {α : Al} {m:MSt} {σ : St} {H:Hp} {n:Nat} (R:Rel K α m σ H) (h:n≤α.length) (he:K.eb.np≤n):Rel K α (m.setN n) σ H:=⟨R.nd,R.len,R.own,R.vlen,R.var,h,he,R.ebx⟩
theorem tW {K:Kx} {s:Src} {g:WG} {w:WS} {J:It} {α : Al} {m1:MSt} {σ : St} {H:Hp} {De:d9} {D:Ends} (Rl:Rel K α m1 σ H) (hJ:lM K α H s J) (h:me s g w De m1) (k:EndsOk K m1.np α H De D) {tb:TS}
  (hb:∀ α' m' σ' H' De' D',α'.take (s.np m1) = α.take (s.np m1)→m'.np = s.np m1→Rel K α' m' σ' H'→w De' m'→EndsOk K m'.np α' H' De' D'→tb D' σ' H'):mZ J (tMG K g) tb D σ H:=by
 obtain ⟨P,p0,turn,fin⟩:=h
 have npk:s.np m1≤α.length:=by
  unfold Src.np
  unfold lM at hJ
  cases e:s.own with
  | none=>exact Rl.npl
  | some j =>
   rw [e] at hJ
   obtain ⟨a,ea,_⟩:=hJ
   have:=(List.getElem?_eq_some_iff.mp ea).1
   have:=Rl.npl
   show max m1.np (j + 1)≤α.length
   omega
 have nple:m1.np≤s.np m1:=by
  unfold Src.np
  split
  ·exact Nat.le_refl _
  ·exact Nat.le_max_left _ _
 obtain ⟨C,wk,hC⟩ : ∃ C:Hp→Prop,Wks K J s.ds C∧∀ α' m' σ' H',Rel K α' m' σ' H'→Ext (s.np m1) α H α' H'→s.ok m'→C H':=by
  unfold lM at hJ
  cases e:s.own with
  | none =>
   rw [e] at hJ
   obtain ⟨C,wk,c0,cm⟩:=hJ
   exact ⟨C,wk,fun α' m' σ' H' _ x _=>cm H H' c0 (Rl.pers x.frm)⟩
  | some j =>
   rw [e] at hJ
   obtain ⟨a,ea,wk⟩:=hJ
   refine ⟨_,wk,fun α' m' σ' H' R' x ok=>?_⟩
   have hj:j < s.np m1:=by unfold Src.np; rw [e]; show j < max _ _; omega
   have ea' : α'[j]? = some (.L a):=by
    have:=congrArg (fun l=>l[j]?) x.pre
    simp only [List.getElem?_take,if_pos hj] at this
    rw [this]; exact ea
   unfold Src.ok at ok
   rw [e] at ok
   exact R'.own j _ s.ds ea' ok
 have back:∀ {α':Al} {m':MSt} {σ':St} {H':Hp},Rel K α' m' σ' H'→m'.np = s.np m1→Ext (s.np m1) α H α' H'→Rel K α' (m'.setN m1.np) σ' H':=fun R' n x=>R'.setN (by
  have:=R'.npl
  rw [n] at this; omega) Rl.ebl
 refine ⟨fun i n σ' H'=>n = s.ds.length - i∧i≤s.ds.length∧∃ α' m',P i m'∧m'.np = s.np m1∧Rel K α' m' σ' H'∧Ext (s.np m1) α H α' H',⟨s.ds.length,by simp,Nat.zero_le _,α,_,p0,rfl,Rl.setN npk (Nat.le_trans Rl.ebl nple),.of Rl (Frm.refl _ _)⟩,?_⟩
 rintro i n σ' H' ⟨rfl,hi,α',m',p,hn,R',x⟩
 by_cases hlt:i < s.ds.length
 ·have hd:s.ds[i]? = some s.ds[i]:=List.getElem?_eq_getElem hlt
  obtain ⟨ok,hg⟩:=turn i _ m' hd hn p
  have c:=hC α' m' σ' H' R' x ok
  refine .inr ⟨wk.go i H' hlt c,fun σ2 H2=>∃ α2 m2,P (i + 1) m2∧m2.np = s.np m1∧Rel K α2 m2 σ2 H2∧Ext (s.np m1) α H α2 H2,fun σ2 H2 h2=>⟨s.ds.length - (i + 1),by omega,rfl,hlt,h2⟩,fun v H2 y=>?_⟩
  obtain ⟨grow,d,e1,e2⟩:=wk.yld i H' v H2 hlt c y
  rw [hd] at e1; cases e1
  have F2:Frm α' H' H2:=fun b o z _=>grow b o z
  have R2:Rel K α' m' σ' H2:=R'.at (R'.pers F2) (fun b hb=>by
   obtain ⟨ys,z,_⟩:=R'.mem hb
   rw [z]; exact grow b _ z) F2
  have x2:Ext (s.np m1) α H α' H2:=x.trans (.of R2 F2)
  refine ⟨α',m',_,_,R2,e2,hg,fun m3 σ3 q3 n3 R3=>hb α' m3 σ3 H2 _ _ x2.pre (n3.trans hn) R3 q3 ?_⟩
  have n3':m3.np = s.np m1:=n3.trans hn
  have x3:Ext m3.np α H α' H2:=by rw [n3']; exact x2
  refine ⟨fun α4 m4 σ4 H4 q4 n4 R4 x4=>⟨α4,m4,q4,n4.trans n3',R4,?_⟩,fun r α4 m4 σ4 v4 H4 q4 n4 R4 rr x4=>?_,fun α4 m4 σ4 H4 q4 n4 R4 x4=>?_,fun α4 m4 σ4 H4 q4 n4 R4 x4=>⟨α4,m4,q4,n4.trans n3',R4,?_⟩⟩
  ·rw [←n3']; exact x3.trans x4
  ·have x5:Ext (s.np m1) α H α4 H4:=by rw [←n3']; exact x3.trans x4
   exact k.rt r α4 (m4.setN m1.np) σ4 v4 H4 q4 rfl (back R4 (n4.trans n3') x5) (rr.ext x3) (x5.less nple)
  ·have x5:Ext (s.np m1) α H α4 H4:=by rw [←n3']; exact x3.trans x4
   exact k.nx α4 (m4.setN m1.np) σ4 H4 q4 rfl (back R4 (n4.trans n3') x5) (x5.less nple)
  ·rw [←n3']; exact x3.trans x4
 ·have e:i = s.ds.length:=by omega
  subst e
  obtain ⟨ok,q⟩:=fin m' hn p
  exact .inl ⟨wk.stop H' (hC α' m' σ' H' R' x ok),k.nx α' (m'.setN m1.np) σ' H' q rfl (back R' hn x) (x.less nple)⟩
theorem DW {wi:WI} {g:WG} (hi:MI X tg iter wi) (hg:MG X tg g) (hb:MSs X body w) (hp:PassesOwn (model X.prog X.w) X.A X.env X.xe) (hc:X.calm = true:=by rfl)
  (hs:∀ x,foldedSetIterable iter X.env x = pure x:=by intro _; rfl):MS X (.For tg iter body [] pos) (wFor wi g w):=(wx hp hc hi hg hb hs).wk fun D σ H ⟨α,m,De,Rl,hw,k⟩ =>
 ⟨α,m,_,Rl,hw,fun s m' J H' q n Rl' F hJ=>tW Rl' hJ q (by rw [n]; exact k.ext (.of Rl' F)) fun α' m' σ' H' De' D' _ _ R' h' k'=>⟨α',m',De',R',h',k'⟩⟩
def sR (t:WT) (w:WS):WS:=fun D m0=>∃ P:Nat→MSt→Prop,(∃ n,P n m0)∧∀ n m,m.np = m0.np→P n m→t m fun c m'=>if c = true then w { D with nx:=fun m2=>∃ n',n' < n∧P n' m2,ct:=fun m2=>∃ n',n' < n∧P n' m2,bk:=D.nx } m' else D.nx m'
theorem vj {t:Expr} (ht:MT X t wt) (hb:MSs X body w) (hp:PassesOwn (model X.prog X.w) X.A X.env X.xe):MS X (.While t body [] pos) (sR wt w):=(vN hp ht hb).wk fun D σ H ⟨α,m,De,Rl,⟨P,⟨n0,p0⟩,turn⟩,k⟩=>by
 refine ⟨fun n σ' H'=>∃ α' m',P n m'∧m'.np = m.np∧Rel X.kx α' m' σ' H'∧Ext m.np α H α' H',⟨n0,α,m,p0,rfl,Rl,.of Rl (Frm.refl _ _)⟩,?_⟩
 rintro n σ1 H1 ⟨α1,m1,p1,n1,R1,x1⟩
 refine ⟨α1,m1,_,R1,turn n m1 n1 p1,fun bb m2 H2 q n2 R2 F2=>?_⟩
 have x2:Ext m.np α H α1 H2:=x1.trans (.of R2 F2)
 have n2':m2.np = m.np:=n2.trans n1
 cases bb with
 | true =>
  rw [if_pos rfl] at q
  refine iteT ⟨fun σ3 H3=>∃ n',n' < n∧∃ α' m',P n' m'∧m'.np = m.np∧Rel X.kx α' m' σ3 H3∧Ext m.np α H α' H3,fun σ3 H3 ⟨n',hl,z⟩=>⟨n',hl,z⟩,α1,m2,_,R2,q,?_⟩
  rw [n2']
  exact ⟨fun α' m' σ' H' ⟨n',hl,q⟩ nn R' y=>⟨n',hl,α',m',q,nn,R',x2.trans y⟩,fun r α' m' σ' v H' q nn R' rr y=>k.rt r α' m' σ' v H' q nn R' (rr.ext x2) (x2.trans y),fun α' m' σ' H' q nn R' y=>k.nx α' m' σ' H' q nn R' (x2.trans y),fun α' m' σ' H' ⟨n',hl,q⟩ nn R' y=>⟨n',hl,α',m',q,nn,R',x2.trans y⟩⟩
 | false =>
  rw [if_neg Bool.false_ne_true] at q
  exact iteF (k.nx α1 m2 σ1 H2 q n2' R2 x2)
end
section
variable {K:Kx} {α : Al} {m:MSt} {σ : St} {H:Hp}
theorem Rel.setW {H':Hp} {q:Nat} {ao:Ao} {ds':List PyData} (R:Rel K α m σ H) (ha : α[q]? = some ao) (pe:Pers H H') (F:∀ b,b∉ao.ads→H' b = H b) (g:OwnAt K H' ao ds'):Rel K α { m with os:=m.os.set q ds' } σ H'∧Frm α H H':=by
 have Fα : Frm α H H':=fun b o e nb=>by rw [F b fun z=>nb (il ha z)]; exact e
 have own':∀ (k:Nat) (a:Ao) (es:List PyData),α[k]? = some a→(m.os.set q ds')[k]? = some es→OwnAt K H' a es:=fun k a es z1 z2'=>by
  by_cases c:q = k
  ·subst c
   rw [ha] at z1; cases z1
   rw [List.getElem?_set_self (by rw [←R.len]; exact (List.getElem?_eq_some_iff.mp ha).1)] at z2'
   cases z2'
   exact g
  ·rw [List.getElem?_set_ne c] at z2'
   exact (R.own k a es z1 z2').mono pe fun b hb=>F b fun z=>fx R.nd ha z1 c z hb
 refine ⟨⟨R.nd,by simp [R.len],own',R.vlen,fun i r h=>?_,R.npl,R.ebl,R.ebx.trans ⟨rfl,Fα,fun _ h=>.inl h,fun a ha=>?_⟩⟩,Fα⟩
 ·obtain ⟨v,ev,rv⟩:=R.var i r h
  refine ⟨v,ev,?_⟩
  cases r with
  | imm d=>exact Den.mono pe rv
  | obj k=>exact rv
  | «at» k p=>exact rv
  | new ds=>exact rv
  | newT t=>exact rv
 ·obtain ⟨k,ao,e1,hm⟩:=fO ha
  have hk:k < (m.os.set q ds').length:=by rw [List.length_set,←R.len]; exact (List.getElem?_eq_some_iff.mp e1).1
  obtain ⟨o,q,_⟩:=(own' k ao _ e1 (List.getElem?_eq_getElem hk)).mem hm
  exact ⟨o,q⟩
theorem Rel.setO {q:Nat} {l:Addr} {xs xs':List V} {ds':List PyData} (R:Rel K α m σ H) (ha : α[q]? = some (.L l)) (hl:H l = some (.lst xs)) (g:DenAll K H ds' xs'):Rel K α { m with os:=m.os.set q ds' } σ (upd H l (.lst xs'))∧Frm α H (upd H l (.lst xs')):=by
 have pe:Pers H (upd H l (.lst xs')):=o8 hl
 exact R.setW ha pe (fun b hb=>au fun e=>hb (List.mem_singleton.mpr e)) ⟨xs',aA,g.mono pe⟩
end
def kU (own:List Str) (ps:List Nat) (vs:List (Option R)):List (Option R):=own.map (fun _=>none)++ps.map fun i=>(vs[i]?).join
def dI (own:List Str) (ps:List Nat) (m:MSt):MSt:=⟨kU own ps m.vs,m.os++[[]],m.os.length + 1⟩
def wIfT (tt:WT) (w:WS):WS:=fun D m=>tt m fun b m'=>if b = true then w D m' else D.nx m'
def nY (q:Nat) (we:WE):WS:=fun D m=>we m fun r m'=>f7 (fun d=>∃ ds,m'.os[q]? = some ds∧ds.length < sizeLine∧D.nx { m' with os:=m'.os.set q (ds++[d]) }) r
def jP (wi:WI) (own:List Str) (ps:List Nat) (g:WG) (tt:WT) (we:WE):WE:=fun m K=>wi m fun s m1 =>
 me s g (wIfT tt (nY m1.os.length we)) { nx:=fun m'=>K (.new (m'.os.getD m1.os.length [])) { m1 with os:=m'.os.take m1.os.length },rt:=fun _ _=>False } (dI own ps m1)
def i6:WT:=fun m K=>K true m
section
variable {K:Kx}
theorem nV {q:Nat} {we:WE} {α : Al} {m:MSt} {σ : St} {H:Hp} {De:d9} {D:Ends} {l:Addr} (ha : α[q]? = some (.L l)) (Rl:Rel K α m σ H) (h:nY q we De m) (k:EndsOk K m.np α H De D):uG l (tM K we) D σ H:=by
 refine ⟨α,m,_,Rl,h,fun r m' v H' kk n R' rr F=>?_⟩
 obtain ⟨d,er,hd,ds,e1,hz,kk⟩:=io rr kk
 obtain ⟨xs,hx,g⟩:=R'.own q _ ds ha e1
 obtain ⟨R2,F2⟩:=R'.setO ha hx (g.append (DenAll.cons hd DenAll.nil))
 exact ⟨xs,hx,by rw [←g.length]; exact hz,k.nx α _ σ _ kk n R2 (.of R2 (F.trans F2))⟩
theorem uh {tt:WT} {w:WS} {tb:TS} {α : Al} {m:MSt} {σ : St} {H:Hp} {De:d9} {D:Ends} (Rl:Rel K α m σ H) (h:wIfT tt w De m) (k:EndsOk K m.np α H De D)
  (hb:∀ m' H',m'.np = m.np→Rel K α m' σ H'→w De m'→EndsOk K m'.np α H' De D→tb D σ H'):tIfT (tMT K tt) tb D σ H:=by
 refine ⟨α,m,_,Rl,h,fun bb m' H' q n R' F=>?_⟩
 have k':EndsOk K m'.np α H' De D:=by rw [n]; exact k.ext (.of R' F)
 cases bb with
 | true=>rw [if_pos rfl] at q; exact iteT (hb m' H' n R' q k')
 | false=>rw [if_neg Bool.false_ne_true] at q; exact iteF (k'.nx α m' σ H' q rfl R' (.of R' (Frm.refl _ _)))
theorem yA {own:List Str} {ps:List Nat} {s:Src} {g:WG} {w:WS} {J:It} {α : Al} {m m1:MSt} {σ : St} {H H1:Hp} {l:Addr} {Kc:R→MSt→Prop} {Q:VK} {tb:TS} (Rl:Rel K α m σ H) (n1:m1.np = m.np) (Rl1:Rel K α m1 σ H1) (F1:Frm α H H1) (hJ:lM K α H1 s J) (hl:H1 l = none)
  (h:me s g w { nx:=fun m'=>Kc (.new (m'.os.getD m1.os.length [])) { m1 with os:=m'.os.take m1.os.length },rt:=fun _ _=>False } (dI own ps m1))
  (fin:∀ r m' v H',Kc r m'→m'.np = m.np→Rel K α m' σ H'→RelR K α H H' r v→Frm α H H'→Q v H')
  (hb:∀ α' m' σ' H' De' D',α'[m1.os.length]? = some (.L l)→m1.os.length < m'.np→Rel K α' m' σ' H'→w De' m'→EndsOk K m'.np α' H' De' D'→tb D' σ' H') :
  mZ J (tMG K g) tb { nx:=fun _ H'=>Q (.ref l) H',rt:=fun _ _=>False } (dl own ps σ) (upd H1 l (.lst [])):=by
 have pα : l∉ads α:=Rl1.out hl
 have pe:Pers H1 (upd H1 l (.lst [])):=bh (.inl hl)
 have hlen : α.length = m1.os.length:=Rl1.len
 have at0:(α++[.L l])[m1.os.length]? = some (.L l):=by rw [List.getElem?_append_right (by omega),←hlen]; simp
 have Rl1':Rel K α m1 σ (upd H1 l (.lst [])):=Rl1.lay hl
 obtain ⟨Rm,extm⟩:=iJ (ao:=.L l) (ds:=[]) Rl1' ⟨m1,σ,Rl1⟩ (b9 hl) (by simp [Ao.ads]) (fun b hb=>by cases List.mem_singleton.mp hb; exact hl) ⟨[],aA,DenAll.nil⟩
 have R0:Rel K (α++[.L l]) (dI own ps m1) (dl own ps σ) (upd H1 l (.lst [])):=by
  refine ⟨Rm.nd,by simp [dI,hlen],Rm.own,by simp [dl,dI,kU],fun i r z=>?_,by simp [dI,hlen],by have:=Rl1.ebl; have:=Rl1.npl; show K.eb.np≤m1.os.length + 1; omega,Rm.ebx⟩
  have z':(kU own ps m1.vs)[i]? = some (some r):=z
  unfold kU at z'
  by_cases hi:i < own.length
  ·rw [List.getElem?_append_left (by simpa using hi),List.getElem?_map] at z'
   cases q:own[i]? with
   | none=>rw [q] at z'; cases z'
   | some y=>rw [q] at z'; cases z'
  ·rw [List.getElem?_append_right (by simpa using hi),List.length_map,List.getElem?_map] at z'
   cases q:ps[i - own.length]? with
   | none=>rw [q] at z'; cases z'
   | some p =>
    rw [q] at z'
    have z2:(m1.vs[p]?).join = some r:=Option.some.inj z'
    have hv:m1.vs[p]? = some (some r):=by
     cases y:m1.vs[p]? with
     | none=>rw [y] at z2; cases z2
     | some y'=>rw [y] at z2; cases y' with
      | none=>cases z2
      | some y'=>cases z2; rfl
    obtain ⟨v,ev,rv⟩:=Rm.var p r hv
    refine ⟨v,?_,rv⟩
    unfold dl
    rw [List.getElem?_append_right (by simpa using hi),List.length_map,List.getElem?_map,q]
    show some ((σ[p]?).join) = some (some v)
    rw [ev]; rfl
 have hJ':lM K (α++[.L l]) (upd H1 l (.lst [])) s J:=by
  unfold lM at hJ ⊢
  cases e:s.own with
  | none =>
   rw [e] at hJ
   obtain ⟨C,wk,c0,cm⟩:=hJ
   exact ⟨C,wk,cm _ _ c0 pe,cm⟩
  | some j =>
   rw [e] at hJ
   obtain ⟨a,ea,wk⟩:=hJ
   exact ⟨a,by rw [List.getElem?_append_left (List.getElem?_eq_some_iff.mp ea).1]; exact ea,wk⟩
 have npq:m1.os.length < s.np (dI own ps m1):=by
  unfold Src.np
  split
  ·exact Nat.lt_succ_self _
  ·exact Nat.lt_of_lt_of_le (Nat.lt_succ_self _) (Nat.le_max_left _ _)
 refine tW R0 hJ' h ⟨fun α' m' σ' H' q n R' x=>?_,fun _ _ _ _ _ _ z=>z.elim,fun _ _ _ _ z=>z.elim,fun _ _ _ _ z=>z.elim⟩ fun α' m' σ' H' De' D' hp hnp R' h' k'=>hb α' m' σ' H' De' D' ?_ (by rw [hnp]; exact npq) R' h' k'
 ·
  have n':m'.np = m1.os.length + 1:=n
  have x':Ext (m1.os.length + 1) (α++[.L l]) (upd H1 l (.lst [])) α' H':=x
  have F':Frm α H1 H':=fun b o e nb=>by
   have hbl:b≠l:=aK e hl
   refine x'.frm b o (by rw [au hbl]; exact e) fun z=>?_
   rw [fC] at z
   rcases List.mem_append.mp z with z | z
   ·exact nb z
   ·exact hbl (by simpa [ads,Ao.ads] using z)
  have pe':Pers H1 H':=Rl1.pers F'
  have same:∀ k,k < m1.os.length + 1→α'[k]? = (α++[.L l])[k]?:=fun k hk=>by
   have:=congrArg (fun z=>z[k]?) x'.pre
   simp only [List.getElem?_take,if_pos hk] at this
   exact this
  have hlen':m1.os.length + 1≤m'.os.length:=by
   have:=R'.npl
   rw [n',R'.len] at this
   exact this
  have hq:m1.os.length < m'.os.length:=by omega
  have eq1:m'.os[m1.os.length]? = some (m'.os.getD m1.os.length []):=by
   rw [List.getD_eq_getElem?_getD,List.getElem?_eq_getElem hq]; rfl
  obtain ⟨xs,y1,y2⟩:=R'.own m1.os.length (.L l) _ (by rw [same _ (Nat.lt_succ_self _)]; exact at0) eq1
  have own':∀ (k:Nat) (a:Ao) (es:List PyData),α[k]? = some a→(m'.os.take m1.os.length)[k]? = some es→OwnAt K H' a es:=fun k a es z1 z2'=>by
   rw [List.getElem?_take] at z2'
   have hk:k < m1.os.length:=by rw [←hlen]; exact (List.getElem?_eq_some_iff.mp z1).1
   rw [if_pos hk] at z2'
   exact R'.own k a es (by rw [same k (by omega),List.getElem?_append_left (by omega)]; exact z1) z2'
  have tl:(m'.os.take m1.os.length).length = α.length:=by rw [List.length_take]; omega
  have old':Ext K.eb.np α H1 α H':=⟨rfl,F',fun _ h=>.inl h,fun a ha=>by
   obtain ⟨k,ao,e1,hm⟩:=fO ha
   have hk:k < (m'.os.take m1.os.length).length:=by rw [tl]; exact (List.getElem?_eq_some_iff.mp e1).1
   obtain ⟨o,q,_⟩:=(own' k ao _ e1 (List.getElem?_eq_getElem hk)).mem hm
   exact ⟨o,q⟩⟩
  refine fin _ _ (.ref l) H' q n1 ⟨Rl1.nd,tl.symm,own',Rl1.vlen,fun i r z=>?_,Rl1.npl,Rl1.ebl,Rl1.ebx.trans old'⟩ ?_ (F1.trans F')
  ·obtain ⟨v,ev,rv⟩:=Rl1.var i r z
   refine ⟨v,ev,?_⟩
   cases r with
   | imm d=>exact Den.mono pe' rv
   | obj k=>exact rv
   | «at» k p=>exact rv
   | new ds=>exact rv
   | newT t=>exact rv
  ·refine ⟨l,xs,rfl,?_,y1,y2⟩
   cases z:H l with
   | none=>rfl
   | some o =>
    have:=F1 l o z pα
    rw [hl] at this; cases this
 ·have:=congrArg (fun z=>z[m1.os.length]?) hp
  simp only [List.getElem?_take,if_pos npq] at this
  rw [this]; exact at0
end
section
variable {X:Cx} {scope sc:Scope} {own fr:List Str} {ps:List Nat} {elt tg iter tg2 iter2:Expr} {ifs ifs2:List Expr} {pos spos py:Pos} {wi wi2:WI} {g g2:WG} {tt tt2:WT} {we:WE}
theorem o9 {σ : St} {H:Hp} {Q:VK} (h:tM X.kx (jP wi own ps g tt we) σ H Q):v7 (tMI X.kx wi) own ps (tl1 (tMG X.kx g) (tMT X.kx tt) (tM X.kx we)) σ H Q:=by
 obtain ⟨α,m,Kc,Rl,hw,fin⟩:=h
 refine ⟨α,m,_,Rl,hw,fun s m1 J H1 k n1 Rl1 F1 hJ l hl=>?_⟩
 exact yA Rl n1 Rl1 F1 hJ hl k fin fun α' m' σ' H' De' D' ha hnp R' h' k'=>uh R' h' k' fun m2 H2 n2 R2 h2 k2=>nV ha R2 h2 k2
theorem vz (S:bo own fr scope sc) (hi:MI X tg iter wi) (hg:∀ cl s H C ex,MG (aQ X scope cl (own++fr) s H C ex) tg g) (ht:∀ cl s H C ex,PTs (aQ X scope cl (own++fr) s H C ex) ifs (tMT X.kx tt))
  (he:∀ cl s H C ex,ME (aQ X scope cl (own++fr) s H C ex) elt we) (hsc:X.env.scope = sc:=by rfl) (hps:ps.map (fun i=>X.N[i]?) = fr.map some:=by rfl) (hc:X.calm = true:=by rfl) (hs:∀ x,foldedSetIterable iter X.env x = pure x:=by intro _; rfl) :
  ME X (.ListComp elt [⟨tg,iter,ifs,0⟩] scope pos) (jP wi own ps g tt we):=(j2 S hi hg ht he hsc hps hc hs).wk fun _ _ _ h=>o9 h
theorem ya:PTs X [] (tMT X.kx i6):=fun pins s σ H Q I ⟨α,m,Kc,Rl,hw,fin⟩=>re pins s σ H Q I (fin true m H hw rfl Rl (Frm.refl _ _))
theorem yO {c:Expr} {t:WT} (h:MT X c t):PTs X [c] (tMT X.kx t):=zt h
theorem vI {i:Nat} {y:Str} (S:bo own fr scope sc) (hN:X.N.Nodup) (hy:X.N[i]? = some y) (hlc:X.env.scope.names.lookup y = some .local) (hi:MI X tg iter wi) (hg:∀ cl s H C ex,MG (aQ X scope cl (own++fr) s H C ex) tg g) (ht:∀ cl s H C ex,PTs (aQ X scope cl (own++fr) s H C ex) ifs (tMT X.kx tt))
  (he:∀ cl s H C ex,ME (aQ X scope cl (own++fr) s H C ex) elt we) (hsw:swapsWith (.ListComp elt [⟨tg,iter,ifs,0⟩] scope pos) (some (.Name y py)) spos.line X.env = pure true:=by rfl)
  (hsc:X.env.scope = sc:=by rfl) (hps:ps.map (fun i=>X.N[i]?) = fr.map some:=by rfl) (hc:X.calm = true:=by rfl) (hs:∀ x,foldedSetIterable iter X.env x = pure x:=by intro _; rfl) :
  MS X (.Assign [.Name y py] (.ListComp elt [⟨tg,iter,ifs,0⟩] scope pos) spos) (wSet i (jP wi own ps g tt we)):=(pc S hN hy hlc hi hg ht he hsw hsc hps hc hs).wk fun D σ H ⟨α,m,De,Rl,hw,k⟩ =>
 o9 ⟨α,m,_,Rl,hw,fun r m' v H' q n Rl' rr F=>nv (Q:=D.nx) Rl' n F rr q k.nx ⟨m,σ,Rl⟩⟩
end
theorem bm {K:Kd} {H:Hp} {i:Str} {v:V} (h:Den K H (.str i) v):v = .str i:=by simpa only [Den] using h
theorem iZ {K:Kd} {H:Hp} {i:Bool} {v:V} (h:Den K H (.bool i) v):v = .bl i:=by simpa only [Den] using h
theorem jE {K:Kd} {H:Hp} {v:V} (h:Den K H .none v):v = .non:=by simpa only [Den] using h
theorem dh {K:Kd} {α : Al} {Hb H:Hp} (i:Int):RelR K α Hb H (.imm (.int i)) (.int i):=mX (K:=K) (H:=H) i
theorem k9 {K:Kd} {α : Al} {Hb H:Hp} (i:Bool):RelR K α Hb H (.imm (.bool i)) (.bl i):=wP (K:=K) (H:=H) i
theorem sI {K:Kd} {α : Al} {Hb H:Hp} (i:Str):RelR K α Hb H (.imm (.str i)) (.str i):=Af (K:=K) (H:=H) i
theorem ow {K:Kd} {α : Al} {Hb H:Hp}:RelR K α Hb H (.imm .none) .non:=zJ (K:=K) (H:=H)
theorem ib {K:Kd} {α : Al} {Hb H:Hp} {d:PyData} {v:V} (h:Den K H d v):RelR K α Hb H (.imm d) v:=h
theorem bt {K:Kd} {H:Hp} {ds:List PyData} {v:V} (h:Den K H (.tuple ds) v):∃ a xs,v = .ref a∧SqT K H a xs∧DenAll K H ds xs:=by simpa only [Den] using h
theorem dN {K:Kd} {H:Hp} {ds:List PyData} {a:Addr} {xs:List V} (f:SqT K H a xs) (g:DenAll K H ds xs):Den K H (.tuple ds) (.ref a):=by simp only [Den]; exact ⟨a,xs,rfl,f,g⟩
section
variable {X:Cx}
def oAdd:WO
 | .imm (.int i),.imm (.int j),_,K=>K (.imm (.int (i + j)))
 | .imm (.str x),.imm (.str y),_,K=>x.length + y.length≤sizeLine∧K (.imm (.str (x++y)))
 | .imm (.tuple a),.imm (.tuple b),_,K=>a.length + b.length≤sizeLine∧K (.imm (.tuple (a++b)))
 | r1,r2,m,K=>∃ xs ys,lsOf m r1 = some xs∧lsOf m r2 = some ys∧xs.length + ys.length≤sizeLine∧K (.new (xs++ys))
theorem aG:OpR X (binaryOp .Add) (rM X.kx oAdd):=by
 rintro pins s σ' H x y v u Q I rx ry ⟨α,m,σ,H0,H1,r1,r2,Kc,Rl,h1,h2,ho,fin⟩
 unfold oAdd at ho
 split at ho
 ·rename_i _ _ i j
  have e1:=aH (show Den X.kx H (.int i) x from h1)
  have e2:=aH (show Den X.kx H (.int j) y from h2)
  subst e1 e2
  exact Ay pins s σ' H _ _ v u Q I rx ry ⟨i,j,rfl,rfl,fin _ _ H ho Rl (dh _) (Frm.refl _ _)⟩
 ·rename_i _ _ i j
  have e1:=bm (show Den X.kx H (.str i) x from h1)
  have e2:=bm (show Den X.kx H (.str j) y from h2)
  subst e1 e2
  exact qK pins s σ' H _ _ v u Q I rx ry ⟨i,j,rfl,rfl,ho.1,fin _ _ H ho.2 Rl (sI _) (Frm.refl _ _)⟩
 ·rename_i _ _ ds es
  obtain ⟨a,xs,rfl,f1,g1⟩:=bt (show Den X.kx H (.tuple ds) x from h1)
  obtain ⟨b,ys,rfl,f2,g2⟩:=bt (show Den X.kx H (.tuple es) y from h2)
  obtain ⟨hz,ho⟩:=ho
  by_cases hx:xs = []
  ·subst hx
   cases rx; cases ry
   obtain ⟨its,rv1,p1,_⟩:=I.tuple f1
   obtain ⟨its2,rv2,p2,_⟩:=I.tuple f2
   cases rv1
   obtain ⟨⟨cls,dd,data,sl⟩,ho1,hc,n,hd⟩:=id p1
   obtain ⟨⟨cls2,dd2,data2,sl2⟩,ho2,hc2,n2,hd2⟩:=id p2
   simp only at hc hd hc2 hd2
   subst hc hd hc2 hd2
   have e0:ds = []:=by cases ds with | nil=>rfl | cons _ _=>have:=g1.length; simp at this
   subst e0
   exact concat_meets ⟨_,ho1,rfl⟩ ⟨_,ho2,rfl⟩ noFill_tuple_add seq_tuple_add PySem.F.slot_tuple_add PySem.F.entry_tuple_add (PySem.F.args_tuple_add_2 _ _)
    (tuple_addW0 a b _ its2.toArray n n2 dd dd2 sl sl2 (by simp)) ⟨ho1,ho2,⟨.ref b,H,I,rfl,fin _ _ H ho Rl (show Den X.kx H (.tuple ([]++es)) (.ref b) from h2) (Frm.refl _ _)⟩⟩
  ·refine ye pins s σ' H _ _ v u Q I rx ry ⟨a,b,xs,ys,rfl,rfl,f1,f2,hx,by rw [←g1.length,←g2.length]; exact hz,fun e=>?_,fun e p hp=>?_⟩
   ·subst e
    have e0:es = []:=by cases es with | nil=>rfl | cons _ _=>have:=g2.length; simp at this
    subst e0
    exact fin _ _ H (by rw [List.append_nil] at ho; exact ho) Rl (ib h1) (Frm.refl _ _)
   ·exact fin _ _ _ ho (Rl.lay hp) (ib <| dN (SqT.of aA) ((g1.append g2).mono (bh (.inl hp)))) (b9 hp)
 ·obtain ⟨ds,es,e1,e2,hz,ho⟩:=ho
  obtain ⟨a,xs,rfl,f1,g1⟩:=h1.list Rl e1
  obtain ⟨b,ys,rfl,f2,g2⟩:=h2.list Rl e2
  cases rx; cases ry
  obtain ⟨its,rv1,⟨⟨cls,dd,data,sl⟩,n,ho1,hc,hdd,hd⟩,_⟩:=I.list f1
  obtain ⟨its2,rv2,⟨⟨cls2,dd2,data2,sl2⟩,n2,ho2,hc2,hdd2,hd2⟩,_⟩:=I.list f2
  simp only at hc hd hc2 hd2
  subst hc hd hc2 hd2
  have hzz:xs.length + ys.length≤sizeLine:=by rw [←g1.length,←g2.length]; exact hz
  refine concat_meets ⟨_,ho1,rfl⟩ ⟨_,ho2,rfl⟩ noFill_list_add seq_list_add PySem.F.slot_list_add PySem.F.entry_list_add (PySem.F.args_list_add_2 _ _) (list_addW a b its.toArray its2.toArray n n2 dd dd2 sl sl2 (by have:=rv1.length; have:=rv2.length; simp only [List.size_toArray]; omega)) ⟨ho1,ho2,?_⟩
  have ea:its.toArray++its2.toArray = (its++its2).toArray:=by simp
  rw [ea]
  have hp:H s.heap.objs.size = none:=I.fresh
  exact ⟨.ref _,_,I.lnew (t':=s.toks) (rv1.append rv2) (by rw [List.length_append]; omega),rfl,fin _ _ _ ho (Rl.lay hp) ⟨_,xs++ys,rfl,hp,aA,(g1.append g2).mono (bh (.inl hp))⟩ (b9 hp)⟩
def oII (C:Int→Int→Prop) (g:Int→Int→Int):WO
 | .imm (.int i),.imm (.int j),_,K=>C i j∧K (.imm (.int (g i j)))
 | _,_,_,_=>False
def oIB (g:Int→Int→Bool):WO
 | .imm (.int i),.imm (.int j),_,K=>K (.imm (.bool (g i j)))
 | _,_,_,_=>False
theorem lC {f:Value→Value→Sem Value} {C:Int→Int→Prop} {g:Int→Int→Int} (h:OpR X f (rI C fun i j=>.int (g i j))):OpR X f (rM X.kx (oII C g)):=by
 rintro pins s σ' H x y v u Q I rx ry ⟨α,m,σ,H0,H1,r1,r2,Kc,Rl,h1,h2,ho,fin⟩
 unfold oII at ho
 split at ho
 ·rename_i _ _ i j
  have e1:=aH (show Den X.kx H (.int i) x from h1)
  have e2:=aH (show Den X.kx H (.int j) y from h2)
  subst e1 e2
  exact h pins s σ' H _ _ v u Q I rx ry ⟨i,j,rfl,rfl,ho.1,fin _ _ H ho.2 Rl (dh _) (Frm.refl _ _)⟩
 ·exact ho.elim
theorem pQ {f:Value→Value→Sem Value} {g:Int→Int→Bool} (h:OpR X f (rI0 fun i j=>.bl (g i j))):OpR X f (rM X.kx (oIB g)):=by
 rintro pins s σ' H x y v u Q I rx ry ⟨α,m,σ,H0,H1,r1,r2,Kc,Rl,h1,h2,ho,fin⟩
 unfold oIB at ho
 split at ho
 ·rename_i _ _ i j
  have e1:=aH (show Den X.kx H (.int i) x from h1)
  have e2:=aH (show Den X.kx H (.int j) y from h2)
  subst e1 e2
  exact h pins s σ' H _ _ v u Q I rx ry ⟨i,j,rfl,rfl,fin _ _ H ho Rl (k9 _) (Frm.refl _ _)⟩
 ·exact ho.elim
def oSub:WO:=oII (fun _ _=>True) fun i j=>i - j
theorem j5:OpR X (binaryOp .Sub) (rM X.kx oSub):=lC (opI fun _ _ _ _ _ _ _ _ q=>sub_int q)
def oMul:WO:=oII IntMulOk fun i j=>i * j
theorem zx:OpR X (binaryOp .Mult) (rM X.kx oMul):=lC (opI fun _ _ _ _ _ _ _ hc q=>mul_int q hc)
def CFd (_ j:Int):Prop:=0 < j∧j.natAbs.log2 < 9000
def CQ:WO:=oII CFd fun i j=>i / j
theorem dY:OpR X (binaryOp .FloorDiv) (rM X.kx CQ):=lC (opI fun i j _ _ _ _ _ hc q=>floordiv_int (by have:=hc.1; omega) (by rw [Int.fdiv_eq_ediv_of_nonneg _ (by have:=hc.1; omega)]; exact q) (.inl (PyProof.noPylong_of_log2 hc.2)))
def oMod:WO:=oII (fun _ j=>0 < j) fun i j=>i % j
theorem da:OpR X (binaryOp .Mod) (rM X.kx oMod):=lC AQ
def oPow:WO:=oII CPow fun i j=>i ^ j.toNat
theorem Ab:OpR X (binaryOp .Pow) (rM X.kx oPow):=lC Bq
def oLt:WO:=oIB fun i j=>decide (i < j)
def oLe:WO:=oIB fun i j=>decide (i≤j)
def oGt:WO:=oIB fun i j=>decide (j < i)
def oGe:WO:=oIB fun i j=>decide (j≤i)
theorem gm:OpR X (compareOp .Lt) (rM X.kx oLt):=pQ Gz
theorem Dh:OpR X (compareOp .LtE) (rM X.kx oLe):=pQ Gq
theorem o5:OpR X (compareOp .Gt) (rM X.kx oGt):=pQ Fx
theorem Cb:OpR X (compareOp .GtE) (rM X.kx oGe):=pQ GJ
def eqD (f:Bool→Bool):WO:=fun r1 r2 m K=>match asD m r1,asD m r2 with
 | some d1,some d2=>SeqAt.shaped d1 = true∧SeqAt.shaped d2 = true∧K (.imm (.bool (f (PyData.eqv d1 d2))))
 | _,_=>False
def eqS (f:Bool→Bool):WO:=fun r1 r2 m K=>∃ x y:Str,r1 = .imm (.str x)∧r2 = .imm (.str y)∧K (.imm (.bool (f (decide (x = y)))))
def eqSs (f:Bool→Bool):WO:=fun r1 r2 m K=>∃ xs ys:List Str,lsOf m r1 = some (xs.map .str)∧lsOf m r2 = some (ys.map .str)∧xs.length = ys.length∧K (.imm (.bool (f (decide (xs = ys)))))
def oEq:WO:=fun r1 r2 m K=>eqD id r1 r2 m K∨eqS id r1 r2 m K∨eqSs id r1 r2 m K
def oNe:WO:=fun r1 r2 m K=>eqD (!·) r1 r2 m K∨eqS (!·) r1 r2 m K
theorem fU {K:Kd} {H:Hp}:∀ {ns:List Str} {xs:List V},DenAll K H (ns.map .str) xs→xs = ns.map V.str
 | [],_,h=>by simpa only [List.map_nil,DenAll] using h
 | n :: ns,_,h=>by
  simp only [List.map_cons,DenAll] at h
  obtain ⟨v,vs,rfl,h1,h2⟩:=h
  have e:=bm (K:=K) (H:=H) h1
  rw [e,fU h2]; rfl
theorem kh:∀ {ns:List Str} {us:List Value} {j:Nat} {u:Value},Vals (ns.map V.str) us→us[j]? = some u→∃ x t,ns[j]? = some x∧u = .str x t
 | [],_,_,_,.nil,e=>by simp at e
 | n :: ns,_,0,_,.cons r _,e=>by
  simp at e; subst e
  obtain ⟨t,h⟩:=r
  exact ⟨n,t,rfl,h⟩
 | n :: ns,_,j + 1,u,.cons _ t,e=>by
  obtain ⟨x,tk,h1,h2⟩:=kh (j:=j) (u:=u) t (by simpa using e)
  exact ⟨x,tk,by simpa using h1,h2⟩
theorem ol (xs ys:List Str) (h:xs.length = ys.length):(List.range xs.length).all (fun j=>decide (xs.getD j Str.empty = ys.getD j Str.empty)) = decide (xs = ys):=by
 rw [Bool.eq_iff_iff,List.all_eq_true,decide_eq_true_eq]
 constructor
 ·intro q
  apply List.ext_getElem h
  intro i h1 h2
  have:=q i (by simpa using h1)
  rw [decide_eq_true_eq,List.getD_eq_getElem?_getD,List.getD_eq_getElem?_getD,List.getElem?_eq_getElem h1,List.getElem?_eq_getElem h2] at this
  exact this
 ·rintro rfl j _
  exact decide_eq_true rfl
theorem zU {pins:List (Addr×Obj)} {s:Shared} {σ' σ : St} {H H0 H1:Hp} {x y:V} {v u:Value} {α : Al} {m:MSt} {r1 r2:R} {xs ys:List Str} (I:Inv X pins σ' H s) (Rl:Rel X.kx α m σ H) (h1:RelR X.kx α H0 H r1 x) (h2:RelR X.kx α H1 H r2 y) (rx:RelV x v) (ry:RelV y u)
  (e1:lsOf m r1 = some (xs.map .str)) (e2:lsOf m r2 = some (ys.map .str)) (hl:xs.length = ys.length) (hu:X.A.units + 64 < cLine):∃ l b its its2,v = .ref l∧u = .ref b∧s.heap.IsList l its∧s.heap.IsList b its2∧its.size = xs.length∧its2.size = xs.length ∧
   ∀ j (z1:j < its.size) (z2:j < its2.size),SeqAt.EqAt X.A.in1 s its[j] its2[j] (decide (xs.getD j Str.empty = ys.getD j Str.empty)):=by
 obtain ⟨a,zs,rfl,f1,g1⟩:=h1.list Rl e1
 obtain ⟨b,ws,rfl,f2,g2⟩:=h2.list Rl e2
 have q1:=fU g1
 have q2:=fU g2
 subst q1 q2
 cases rx; cases ry
 obtain ⟨its,rv1,p1,_⟩:=I.list f1
 obtain ⟨its2,rv2,p2,_⟩:=I.list f2
 have l1:=rv1.length
 have l2:=rv2.length
 rw [List.length_map] at l1 l2
 refine ⟨a,b,its.toArray,its2.toArray,rfl,rfl,p1.isList,p2.isList,by simp [l1],by simp [←l2,hl],fun j z1 z2=>?_⟩
 obtain ⟨x,t,h3,h4⟩:=kh rv1 (j:=j) (u:=its.toArray[j]) (by rw [List.getElem_toArray,List.getElem?_eq_getElem])
 obtain ⟨y,t',h5,h6⟩:=kh rv2 (j:=j) (u:=its2.toArray[j]) (by rw [List.getElem_toArray,List.getElem?_eq_getElem])
 rw [h4,h6,List.getD_eq_getElem?_getD,List.getD_eq_getElem?_getD,h3,h5]
 have:=SeqAt.EqAt.str_str (A:=X.A.in1) (s:=s) x t y t'
 have e:(x == y) = decide (x = y):=by rw [Bool.beq_eq_decide_eq]
 rw [e] at this
 exact this
theorem aM (hu:X.A.units + 64 < cLine):OpR X (compareOp .Eq) (rM X.kx oEq):=by
 rintro pins s σ' H x y v u Q I rx ry ⟨α,m,σ,H0,H1,r1,r2,Kc,Rl,h1,h2,ho,fin⟩
 rcases ho with ho | ⟨z,t,rfl,rfl,ho⟩ | ⟨xs,ys,e1,e2,hl,ho⟩
 ·unfold eqD at ho
  split at ho
  ·rename_i d1 d2 e1 e2
   obtain ⟨as,q1⟩:=h1.reads I Rl rx e1 (PyData.hasDict_of_canLay _ (SeqAt.canLay_of_shaped ho.1))
   obtain ⟨bs,q2⟩:=h2.reads I Rl ry e2 (PyData.hasDict_of_canLay _ (SeqAt.canLay_of_shaped ho.2.1))
   exact eq_dataH q1 q2 ho.1 ho.2.1 hu ⟨.bl _,H,I,rfl,fin _ _ H ho.2.2 Rl (k9 _) (Frm.refl _ _)⟩
  ·exact ho.elim
 ·have e1:=bm (show Den X.kx H (.str z) x from h1)
  have e2:=bm (show Den X.kx H (.str t) y from h2)
  subst e1 e2
  refine Ib pins s σ' H _ _ v u Q I rx ry ⟨rfl,?_⟩
  rw [kr,Bool.beq_eq_decide_eq]
  exact fin _ _ H ho Rl (k9 _) (Frm.refl _ _)
 ·obtain ⟨l,b,its,its2,rfl,rfl,p1,p2,s1,s2,he⟩:=zU I Rl h1 h2 rx ry e1 e2 hl hu
  refine SeqAt.eq_listAt p1 p2 (s1.trans s2.symm) (by omega) he ?_
  rw [s1,ol xs ys hl]
  exact ⟨.bl _,H,I,rfl,fin _ _ H ho Rl (k9 _) (Frm.refl _ _)⟩
theorem jp (hu:X.A.units + 64 < cLine):OpR X (compareOp .NotEq) (rM X.kx oNe):=by
 rintro pins s σ' H x y v u Q I rx ry ⟨α,m,σ,H0,H1,r1,r2,Kc,Rl,h1,h2,ho,fin⟩
 rcases ho with ho | ⟨z,t,rfl,rfl,ho⟩
 ·unfold eqD at ho
  split at ho
  ·rename_i d1 d2 e1 e2
   obtain ⟨as,q1⟩:=h1.reads I Rl rx e1 (PyData.hasDict_of_canLay _ (SeqAt.canLay_of_shaped ho.1))
   obtain ⟨bs,q2⟩:=h2.reads I Rl ry e2 (PyData.hasDict_of_canLay _ (SeqAt.canLay_of_shaped ho.2.1))
   exact ne_dataH q1 q2 ho.1 ho.2.1 hu ⟨.bl _,H,I,rfl,fin _ _ H ho.2.2 Rl (k9 _) (Frm.refl _ _)⟩
  ·exact ho.elim
 ·have e1:=bm (show Den X.kx H (.str z) x from h1)
  have e2:=bm (show Den X.kx H (.str t) y from h2)
  subst e1 e2
  refine GN pins s σ' H _ _ v u Q I rx ry ⟨rfl,?_⟩
  rw [kr,Bool.beq_eq_decide_eq]
  exact fin _ _ H ho Rl (k9 _) (Frm.refl _ _)
def uu:R→Bool
 | .imm .none=>true
 | _=>false
def se:WO:=fun r1 r2 _ K=>r2 = .imm .none∧K (.imm (.bool (!uu r1)))
theorem qk {K:Kd} {α : Al} {Hb H:Hp} {r:R} {v:V} (h:RelR K α Hb H r v):decide (v = .non) = uu r:=by
 cases r with
 | obj k=>obtain ⟨a,_,rfl⟩:=h; rfl
 | new ds=>obtain ⟨a,_,rfl,_⟩:=h; rfl
 | «at» k p=>obtain ⟨τ,a,_,_,rfl⟩:=h; rfl
 | newT t=>obtain ⟨τ,a,rfl,_⟩:=h; rfl
 | imm d =>
  cases d with
  | none=>have e:=jE (show Den K H .none v from h); subst e; rfl
  | bool b=>have e:=iZ (show Den K H (.bool b) v from h); subst e; rfl
  | int b=>have e:=aH (show Den K H (.int b) v from h); subst e; rfl
  | str b=>have e:=bm (show Den K H (.str b) v from h); subst e; rfl
  | list ds=>have h':Den K H (.list ds) v:=h; simp only [Den] at h'; obtain ⟨a,_,rfl,_⟩:=h'; rfl
  | tuple ds=>obtain ⟨a,_,rfl,_⟩:=bt (show Den K H (.tuple ds) v from h); rfl
  | dict es=>have h':Den K H (.dict es) v:=h; simp only [Den] at h'; obtain ⟨a,rfl,_⟩:=h'; rfl
theorem fJ:OpR X (compareOp .IsNot) (rM X.kx se):=by
 rintro pins s σ' H x y v u Q I rx ry ⟨α,m,σ,H0,H1,r1,r2,Kc,Rl,h1,h2,ho,fin⟩
 obtain ⟨e,ho⟩:=ho
 subst e
 have ey:=jE (show Den X.kx H .none y from h2)
 exact zw pins s σ' H _ _ v u Q I rx ry ⟨ey,by rw [qk h1]; exact fin _ _ H ho Rl (k9 _) (Frm.refl _ _)⟩
def uNeg:WU
 | .imm (.int i),_,K=>K (.imm (.int (-i)))
 | _,_,_=>False
theorem gJ:UnR X (unaryOp .USub) (uM X.kx uNeg):=by
 rintro pins s σ' H x v Q I rx ⟨α,m,σ,H0,r1,Kc,Rl,h1,ho,fin⟩
 unfold uNeg at ho
 split at ho
 ·rename_i _ i
  have e1:=aH (show Den X.kx H (.int i) x from h1)
  subst e1
  exact BI pins s σ' H _ v Q I rx ⟨i,rfl,fin _ _ H ho Rl (dh _) (Frm.refl _ _)⟩
 ·exact ho.elim
def sE (m:MSt) (K:R→Prop):R→R→Prop
 | .imm (.tuple ds),.imm (.int i)=>∃ d,atI ds i = some d∧K (.imm d)
 | .imm (.str x),.imm (.int i)=>∃ c,x.length≤sizeLine∧atI x.cps.toList i = some c∧K (.imm (.str ⟨#[c]⟩))
 | r,.imm (.int i)=>∃ ds d,lsOf m r = some ds∧atI ds i = some d∧K (.imm d)
 | _,_=>False
def l6:WO:=fun r1 r2 m K=>sE m K r1 r2
theorem uk {K:Kx} {H:Hp} {ds:List PyData} {xs:List V} {i:Int} {d:PyData} (g:DenAll K H ds xs) (e:atI ds i = some d):∃ v,atI xs i = some v∧Den K H d v:=by
 unfold atI at e ⊢
 rw [←g.length]
 cases q:ixN ds.length i with
 | none=>rw [q] at e; cases e
 | some j =>
  rw [q] at e
  obtain ⟨v,h1,h2⟩:=g.get (show ds[j]? = some d from e)
  exact ⟨v,h1,h2⟩
theorem yF:IxR X (rM X.kx l6):=by
 rintro value slice pins s σ' H x y v u Q I rx ry ⟨α,m,σ,H0,H1,r1,r2,Kc,Rl,h1,h2,ho,fin⟩ hsub
 have ho':sE m Kc r1 r2:=ho
 unfold sE at ho'
 split at ho'
 ·rename_i ds i
  obtain ⟨d,e,k⟩:=ho'
  obtain ⟨a,xs,rfl,f,g⟩:=bt (show Den X.kx H (.tuple ds) x from h1)
  have e2:=aH (show Den X.kx H (.int i) y from h2)
  obtain ⟨z,z1,z2⟩:=uk g e
  exact AK value slice pins s σ' H _ _ v u Q I rx ry ⟨a,xs,i,z,rfl,e2,f,z1,fin _ _ H k Rl (ib z2) (Frm.refl _ _)⟩ hsub
 ·rename_i w i
  obtain ⟨c,hz,e,k⟩:=ho'
  have e1:=bm (show Den X.kx H (.str w) x from h1)
  have e2:=aH (show Den X.kx H (.int i) y from h2)
  exact Bv value slice pins s σ' H _ _ v u Q I rx ry ⟨w,i,c,e1,e2,hz,e,fin _ _ H k Rl (sI _) (Frm.refl _ _)⟩ hsub
 ·rename_i i _ _
  obtain ⟨ds,d,el,e,k⟩:=ho'
  obtain ⟨a,xs,rfl,f,g⟩:=h1.list Rl el
  have e2:=aH (show Den X.kx H (.int i) y from h2)
  obtain ⟨z,z1,z2⟩:=uk g e
  exact tu value slice pins s σ' H _ _ v u Q I rx ry ⟨a,xs,i,z,rfl,e2,f,z1,fin _ _ H k Rl (ib z2) (Frm.refl _ _)⟩ hsub
 ·exact ho'.elim
theorem Ip {a b:Expr} {wa wb:WE} {pos:Pos} (ha:ME X a wa) (hb:ME X b wb) (hs:jC b:=by intro _ _; rfl):ME X (.Subscript a b pos) (wBin l6 wa wb):=(DA yF ha hb hs).wk fun _ _ _ h=>lQ h
end
def h7 (P:Int→Prop):R→Prop
 | .imm (.int i)=>P i
 | _=>False
def lq (P:Nat→Prop):R→Prop
 | .obj k=>P k
 | _=>False
def on1 (P:R→Prop):List R→Prop
 | [r]=>P r
 | _=>False
section
variable {K:Kx} {α : Al} {Hb H:Hp} {r:R} {v:V}
theorem jf {P:Int→Prop} (rr:RelR K α Hb H r v) (h:h7 P r):∃ i,r = .imm (.int i)∧v = .int i∧P i:=by
 unfold h7 at h
 split at h
 ·exact ⟨_,rfl,aH (K:=K) (H:=H) rr,h⟩
 ·exact h.elim
theorem oX {P:Nat→Prop} (rr:RelR K α Hb H r v) (h:lq P r):∃ k a,r = .obj k∧α[k]? = some (.L a)∧v = .ref a∧P k:=by
 unfold lq at h
 split at h
 ·obtain ⟨a,e1,e2⟩:=rr
  exact ⟨_,a,rfl,e1,e2,h⟩
 ·exact h.elim
theorem cv {P:R→Prop} {rs:List R} {xs:List V} (rr:RelRs K α Hb H rs xs) (h:on1 P rs):∃ r v,rs = [r]∧xs = [v]∧RelR K α Hb H r v∧P r:=by
 cases rr with
 | nil=>exact h.elim
 | cons h1 t =>
  cases t with
  | nil=>exact ⟨_,_,rfl,rfl,h1,h⟩
  | cons _ _=>exact h.elim
end
section
variable {X:Cx} {o a b c e:Expr} {es:List Expr} {wo wa wb wc we wi:WE} {ws:WA} {pos apos cpos:Pos}
abbrev WM:=R→List R→MSt→(R→MSt→Prop)→Prop
def mM (K:Kx) (ob:WM):V→List V→Hp→VK→Prop:=fun x xs H Q=>∃ α m σ H0 H1 r rs Kc,Rel K α m σ H∧RelR K α H0 H r x∧RelRs K α H1 H rs xs∧ob r rs m Kc∧∀ r m' v H',Kc r m'→m'.np = m.np→Rel K α m' σ H'→RelR K α H H' r v→Frm α H H'→Q v H'
def wML (ob:WM) (wo:WE) (ws:WA):WE:=fun m K=>wo m fun r m1=>(∃ ds,lsOf m1 r = some ds)∧ws m1 fun rs m2=>ob r rs m2 K
theorem Fv {ob:WM} {σ : St} {H:Hp} {Q:VK} (h:tM X.kx (wML ob wo ws) σ H Q):tBM X.K "list" (mM X.kx ob) (tM X.kx wo) (tMA X.kx ws) σ H Q:=by
 obtain ⟨α,m,Kc,Rl,hw,fin⟩:=h
 refine ⟨α,m,_,Rl,hw,fun r m1 v H1 k n1 Rl1 rr F1=>?_⟩
 obtain ⟨⟨ds,el⟩,k⟩:=k
 obtain ⟨a,xs,rfl,f,g⟩:=rr.list Rl1 el
 refine ⟨.inl ⟨rfl,xs,f⟩,α,m1,_,Rl1,k,fun rs m2 vs H2 k2 n2 Rl2 rr2 F2=>?_⟩
 exact ⟨α,m2,σ,H,H1,r,rs,Kc,Rl2,rr.keep Rl Rl1 F2,rr2,k2,fun r m' v H' k n Rl' rr' F=>fin r m' v H' k (n.trans (n2.trans n1)) Rl' (rr'.base Rl2 (F1.trans F2)) ((F1.trans F2).trans F)⟩
theorem FW {name:Str} {id:String} {ob:WM} (slot:Slot "list" name id) (hty:typeOf (.builtin id) = pure (.type "method_descriptor")) (hm:MtM X id (mM X.kx ob)) (ho:ME X o wo) (ha:MA X (e :: es) ws)
  (hbase:attributeBase o name X.env (eval o X.env) = eval o X.env:=by rfl)
  (hfew:((backTo cpos (starEach (e :: es) X.env)).all (fun x=>!x.1) && (backToKw cpos (keywordEach [] X.env)).all (fun x=>x.1.isSome)
   && decide ((e :: es).length + ([]:List Keyword).length + (if ([]:List Keyword).isEmpty then 0 else 1) < 30)) = true:=by rfl)
  (hline:(apos.endLine == cpos.line) = true:=by rfl) (hs:starEach (e :: es) X.env = (false,eval e X.env) :: starEach es X.env:=by first | exact aU rfl | rfl) (hplain:(backTo cpos (starEach es X.env)).any (·.1) = false:=by rfl) :
  ME X (.Call (.Attribute o name apos) (e :: es) [] cpos) (wML ob wo ws):=(DL PySem.F.plainAttrs_list slot hty hm ho ha hbase hfew hline hs hplain).wk fun _ _ _ h=>Fv h
def ux:WM:=fun r rs m K=>lq (fun k=>on1 (f7 fun d=>∃ ds,m.os[k]? = some ds∧ds.length < sizeLine∧K (.imm .none) { m with os:=m.os.set k (ds++[d]) }) rs) r
theorem ci:MtM X "list.append" (mM X.kx ux):=by
 rintro pins s σ' H x xs v us Q I rx rv ⟨α,m,σ,H0,H1,r,rs,Kc,Rl,h1,h2,ho,fin⟩
 obtain ⟨k,a,rfl,ea,rfl,ho⟩:=oX h1 ho
 obtain ⟨r2,v2,rfl,rfl,h2,ho⟩:=cv h2 ho
 obtain ⟨d,rfl,hd,ds,e1,hz,ho⟩:=io h2 ho
 obtain ⟨ys,q,g⟩:=Rl.own _ _ ds ea e1
 obtain ⟨R2,F2⟩:=Rl.setO ea q (g.append (DenAll.cons hd DenAll.nil))
 exact jk pins s σ' H _ _ v us Q I rx rv ⟨a,ys,_,rfl,rfl,q,by rw [←g.length]; exact hz,fin _ _ _ _ ho rfl R2 ow F2⟩
def xz:WM:=fun r rs m K=>lq (fun k=>on1 (h7 fun i=>∃ ds j d,m.os[k]? = some ds∧(-(2 ^ 63)≤i∧i < 2 ^ 63)∧seqIndex? i ds.length = some j∧ds[j]? = some d∧K (.imm d) { m with os:=m.os.set k (ds.eraseIdx j) }) rs) r
theorem tj:MtM X "list.pop" (mM X.kx xz):=by
 rintro pins s σ' H x xs v us Q I rx rv ⟨α,m,σ,H0,H1,r,rs,Kc,Rl,h1,h2,ho,fin⟩
 obtain ⟨k,a,rfl,ea,rfl,ho⟩:=oX h1 ho
 obtain ⟨r2,v2,rfl,rfl,h2,ho⟩:=cv h2 ho
 obtain ⟨i,rfl,rfl,ds,j,d,e1,⟨b1,b2⟩,e2,e3,ho⟩:=jf h2 ho
 obtain ⟨ys,q,g⟩:=Rl.own _ _ ds ea e1
 obtain ⟨R2,F2⟩:=Rl.setO ea q (g.eraseIdx j)
 obtain ⟨w,z1,z2⟩:=g.get e3
 exact ot pins s σ' H _ _ v us Q I rx rv ⟨a,ys,i,j,w,rfl,rfl,q,b1,b2,by rw [←g.length]; exact e2,z1,fin _ _ _ _ ho rfl R2 (ib (z2.mono (Rl.pers F2))) F2⟩
def y6 (we wo wi:WE):WS:=fun D m=>we m fun rv m1=>f7 (fun d=>wo m1 fun ro m2=>wi m2 fun ri m3=>lq (fun k=>h7 (fun z=>∃ ds j,m3.os[k]? = some ds∧ixN ds.length z = some j∧D.nx { m3 with os:=m3.os.set k (ds.set j d) }) ri) ro) rv
theorem y4 {b i:Expr} {pos':Pos} (he:ME X e we) (ho:ME X b wo) (hi:ME X i wi) (hs:swapsWithSole [.Subscript b i pos'] e pos.line X.env = pure false:=by rfl) (hw:swappedStores [.Subscript b i pos'] e X.env = pure none:=by rfl)
  (h1:(assignEach [.Subscript b i pos'] X.env).map (·.2) = [assign (.Subscript b i pos') X.env]:=by rfl) (ha:∀ v,assign (.Subscript b i pos') X.env v = (do
   let ov ← holding [v] (eval b X.env)
   let iv ← holding [v,ov] (eval i X.env)
   standAt pos'
   holding [v,ov,iv] (setItem ov iv v)
   release [v,ov,iv] []):=by intro _; rfl):MS X (.Assign [.Subscript b i pos'] e pos) (y6 we wo wi):=(xv he (BX ho hi v6 ha) hs hw h1).wk fun D σ H ⟨α,m,De,Rl,hw,k⟩=>by
 refine ⟨α,m,_,Rl,hw,fun r m1 v H1 q n1 Rl1 rr F1=>?_⟩
 obtain ⟨d,er,hd,q⟩:=io rr q
 refine ⟨α,m1,_,Rl1,q,fun ro m2 ov H2 q2 n2 Rl2 rr2 F2=>⟨α,m2,_,Rl2,q2,fun ri m3 iv H3 q3 n3 Rl3 rr3 F3=>?_⟩⟩
 obtain ⟨kk,p,rfl,ea,rfl,q3⟩:=oX rr2 q3
 obtain ⟨z,rfl,rfl,ds,j,e1,e2,q3⟩:=jf rr3 q3
 obtain ⟨ys,q,g⟩:=Rl3.own _ _ ds ea e1
 have hd3:Den X.kx H3 d v:=(hd.mono (Rl1.pers F2)).mono (Rl2.pers F3)
 obtain ⟨R4,F4⟩:=Rl3.setO ea q (g.set hd3 j)
 exact ⟨p,ys,z,j,rfl,rfl,q,by rw [←g.length]; exact e2,k.nx α _ σ _ q3 (n3.trans (n2.trans n1)) R4 (.of R4 (((F1.trans F2).trans F3).trans F4))⟩
def lenR (m:MSt) (K:R→Prop):R→Prop
 | .imm (.str x)=>x.length≤sizeLine∧K (.imm (.int x.length))
 | .imm (.tuple ds)=>K (.imm (.int ds.length))
 | r=>∃ ds,lsOf m r = some ds∧K (.imm (.int ds.length))
def oLen:WC:=fun rs m K=>on1 (lenR m K) rs
theorem aY:c6 X (.builtin "len") (cM X.kx oLen):=by
 rintro pins s σ' H xs us Q I rv ⟨α,m,σ,H0,rs,Kc,Rl,h,ho,fin⟩
 obtain ⟨r,v,rfl,rfl,h1,ho⟩:=cv h ho
 unfold lenR at ho
 split at ho
 ·rename_i x _
  have e:=bm (show Den X.kx H (.str x) _ from h1)
  subst e
  exact lB pins s σ' H _ us Q I rv ⟨x,rfl,ho.1,fin _ _ H ho.2 Rl (dh _) (Frm.refl _ _)⟩
 ·rename_i ds _
  obtain ⟨a,ys,rfl,f,g⟩:=bt (show Den X.kx H (.tuple ds) _ from h1)
  exact ir pins s σ' H _ us Q I rv ⟨a,ys,rfl,.inr f,by rw [←g.length]; exact fin _ _ H ho Rl (dh _) (Frm.refl _ _)⟩
 ·obtain ⟨ds,el,ho⟩:=ho
  obtain ⟨a,ys,rfl,f,g⟩:=h1.list Rl el
  exact ir pins s σ' H _ us Q I rv ⟨a,ys,rfl,.inl f,by rw [←g.length]; exact fin _ _ H ho Rl (dh _) (Frm.refl _ _)⟩
def oAbs:WC:=fun rs m K=>on1 (h7 fun i=>K (.imm (.int (if i < 0 then -i else i)))) rs
theorem mH:c6 X (.builtin "abs") (cM X.kx oAbs):=by
 rintro pins s σ' H xs us Q I rv ⟨α,m,σ,H0,rs,Kc,Rl,h,ho,fin⟩
 obtain ⟨r,v,rfl,rfl,h1,ho⟩:=cv h ho
 obtain ⟨i,rfl,rfl,ho⟩:=jf h1 ho
 exact vD pins s σ' H _ us Q I rv ⟨i,rfl,fin _ _ H ho Rl (dh _) (Frm.refl _ _)⟩
def intR (K:R→Prop):R→Prop
 | .imm (.int i)=>K (.imm (.int i))
 | .imm (.bool b)=>K (.imm (.int (if b then 1 else 0)))
 | _=>False
def oInt:WC:=fun rs m K=>on1 (intR K) rs
theorem ui:c6 X (.type "int") (cM X.kx oInt):=by
 rintro pins s σ' H xs us Q I rv ⟨α,m,σ,H0,rs,Kc,Rl,h,ho,fin⟩
 obtain ⟨r,v,rfl,rfl,h1,ho⟩:=cv h ho
 unfold intR at ho
 split at ho
 ·rename_i i _
  have e:=aH (show Den X.kx H (.int i) _ from h1)
  subst e
  exact ml pins s σ' H _ us Q I rv (.inl ⟨i,rfl,fin _ _ H ho Rl (dh _) (Frm.refl _ _)⟩)
 ·rename_i i _
  have e:=iZ (show Den X.kx H (.bool i) _ from h1)
  subst e
  exact ml pins s σ' H _ us Q I rv (.inr ⟨i,rfl,fin _ _ H ho Rl (dh _) (Frm.refl _ _)⟩)
 ·exact ho.elim
def sqOf (m:MSt):R→Option (List PyData)
 | .imm (.tuple ds)=>some ds
 | r=>lsOf m r
theorem RelR.seq {K:Kx} {α : Al} {m:MSt} {σ : St} {H H0:Hp} {r:R} {v:V} (Rl:Rel K α m σ H) (h:RelR K α H0 H r v) {ds:List PyData} (e:sqOf m r = some ds):∃ a xs,v = .ref a∧(SqL K H a xs∨SqT K H a xs)∧DenAll K H ds xs:=by
 unfold sqOf at e
 split at e
 ·cases e
  obtain ⟨a,ys,e,f,g⟩:=bt (show Den K H (.tuple ds) _ from h)
  exact ⟨a,ys,e,.inr f,g⟩
 ·obtain ⟨a,ys,e,f,g⟩:=h.list Rl e
  exact ⟨a,ys,e,.inl f,g⟩
def BG:WC:=fun rs m K=>on1 (fun r=>∃ ds,sqOf m r = some ds∧K (.new ds)) rs
theorem dB:c6 X (.type "list") (cM X.kx BG):=by
 rintro pins s σ' H xs us Q I rv ⟨α,m,σ,H0,rs,Kc,Rl,h,ho,fin⟩
 obtain ⟨r,v,rfl,rfl,h1,ho⟩:=cv h ho
 ·obtain ⟨ds,e,ho⟩:=ho
  obtain ⟨a,ys,rfl,f,g⟩:=h1.seq Rl e
  exact lG pins s σ' H _ us Q I rv ⟨a,ys,rfl,f,fun l hl=>fin _ _ _ ho (Rl.lay hl) ⟨l,ys,rfl,hl,aA,g.mono (bh (.inl hl))⟩ (b9 hl)⟩
def w6:WC:=fun rs m K=>on1 (fun r=>∃ ds,sqOf m r = some ds∧K (.imm (.tuple ds))) rs
theorem bv:c6 X (.type "tuple") (cM X.kx w6):=by
 rintro pins s σ' H xs us Q I rv ⟨α,m,σ,H0,rs,Kc,Rl,h,ho,fin⟩
 obtain ⟨r,v,rfl,rfl,h1,ho⟩:=cv h ho
 ·obtain ⟨ds,e,ho⟩:=ho
  obtain ⟨a,ys,rfl,f,g⟩:=h1.seq Rl e
  refine lh pins s σ' H _ us Q I rv ⟨a,ys,rfl,?_⟩
  rcases f with f | f
  ·exact .inl ⟨f,fun l hl=>fin _ _ _ ho (Rl.lay hl) (ib (dN (SqT.of aA) (g.mono (bh (.inl hl))))) (b9 hl)⟩
  ·exact .inr ⟨f,fin _ _ _ ho Rl (ib (dN f g)) (Frm.refl _ _)⟩
def yK:WC:=fun rs m K=>on1 (fun r=>∃ d,asD m r = some d∧d.showable = true∧d.hasDict = false∧d.shown.length≤sizeLine∧d.depth≤100∧K (.imm (.str d.shown))) rs
theorem fG (hg:X.A.guards = some []) (hu:X.A.units + 200 < cLine):c6 X (.builtin "repr") (cM X.kx yK):=by
 rintro pins s σ' H xs us Q I rv ⟨α,m,σ,H0,rs,Kc,Rl,h,ho,fin⟩
 obtain ⟨r,v,rfl,rfl,h1,ho⟩:=cv h ho
 ·obtain ⟨d,e,hs,hnd,hz,hdp,ho⟩:=ho
  obtain ⟨u,rfl,ru⟩:=rv.one
  obtain ⟨as,q⟩:=h1.reads I Rl ru e hnd
  have done:∀ tk tk2 h',(∀ b o,s.heap.get? b = some o→h'.get? b = some o)→EP X pins σ' Q (.str d.shown tk2) { s with heap:=h',toks:=tk }:=fun tk tk2 h' hk=>⟨.str d.shown,H,I.kept (t':=tk) hk,⟨_,rfl⟩,fin _ _ H ho Rl (sI _) (Frm.refl _ _)⟩
  cases q with
  | none=>exact PySem.P.repr_of_none (done _ _ _ fun _ _ z=>z)
  | bool b =>
   have:=done (s.toks + 1) s.toks s.heap fun _ _ z=>z
   simp only [PyData.shown] at this
   exact PySem.P.repr_of_bool (by cases b <;> exact this)
  | int i t =>
   refine PySem.P.repr_of_int (by simpa [PyData.showable] using hs) ?_
   have:=done (s.toks + 1) s.toks s.heap fun _ _ z=>z
   simp only [PyData.shown] at this
   exact this
  | str x t =>
   have hz':(reprText x).length≤sizeLine:=by simpa only [PyData.shown] using hz
   refine PySem.P.repr_of_str ?_ hz'
   have:=done (s.toks + 1) s.toks s.heap fun _ _ z=>z
   simp only [PyData.shown] at this
   exact this
  | list z1 z2 z3 z4=>exact repr_of_reads' (.list z1 z2 z3 z4) hs (PyData.noDict_hsm hnd) hg (by omega) (fun _ _ z=>z) (fun h' u tk hk=>done tk u h' hk) hz
  | tuple z1 z2 z3 z4=>exact repr_of_reads' (.tuple z1 z2 z3 z4) hs (PyData.noDict_hsm hnd) hg (by omega) (fun _ _ z=>z) (fun h' u tk hk=>done tk u h' hk) hz
  | dict z1 z2 z3 z4 z5=>simp [PyData.hasDict] at hnd
def sM (K:Kx) (o:R→Option Int→Option Int→MSt→(R→Prop)→Prop):V→Option Int→Option Int→Hp→VK→Prop:=fun x lo hi H Q=>∃ α m σ H0 r Kc,Rel K α m σ H∧RelR K α H0 H r x∧o r lo hi m Kc∧∀ r v H',Kc r→Rel K α m σ H'→RelR K α H H' r v→Frm α H H'→Q v H'
def cutD (xs:List PyData) (lo hi:Option Int):List PyData:=(xs.drop (HT.sIx xs.length 0 lo)).take (HT.sIx xs.length xs.length hi - HT.sIx xs.length 0 lo)
theorem r8 {K:Kd} {H:Hp} {ds:List PyData} {xs:List V} (g:DenAll K H ds xs) (lo hi:Option Int):DenAll K H (cutD ds lo hi) (cutV xs lo hi):=by
 unfold cutD cutV
 rw [←g.length]
 exact (g.drop _).take _
def FX:R→Option Int→Option Int→MSt→(R→Prop)→Prop:=fun r lo hi m K=>∃ ds,lsOf m r = some ds∧K (.new (cutD ds lo hi))
theorem vV:SlR X (sM X.kx FX):=by
 intro pins s σ' H x v vl vu lo hi sl Q I rx hs pl pu hq
 obtain ⟨α,m,σ,H0,r,Kc,Rl,h,⟨ds,e,k⟩,fin⟩:=hq
 obtain ⟨a,ys,rfl,f,g⟩:=h.list Rl e
 exact zX pins s σ' H _ v vl vu lo hi sl Q I rx hs pl pu ⟨a,ys,rfl,f,fun p hp=>fin _ _ _ k (Rl.lay hp) ⟨p,_,rfl,hp,aA,(r8 g lo hi).mono (bh (.inl hp))⟩ (b9 hp)⟩
def WO1:=MSt→(Option Int→MSt→Prop)→Prop
def tMO (K:Kx) (w:WO1):TO:=fun σ H Q=>∃ α m Kc,Rel K α m σ H∧w m Kc∧∀ r m' H',Kc r m'→m'.np = m.np→Rel K α m' σ H'→Frm α H H'→Q r H'
def nG:WO1:=fun m K=>K none m
def xW (w:WE):WO1:=fun m K=>w m fun r m'=>h7 (fun i=>K (some i) m') r
theorem PO.wk {X:Cx} {e:Option Expr} {t t':TO} (h:PO X e t) (k:∀ σ H Q,t' σ H Q→t σ H Q):PO X e t':=fun pins s σ H Q I q=>h pins s σ H Q I (k _ _ _ q)
abbrev MO (X:Cx) (e:Option Expr) (w:WO1):Prop:=PO X e (tMO X.kx w)
theorem ym:MO X none nG:=(Aa (X:=X)).wk fun σ H Q ⟨α,m,Kc,Rl,hw,fin⟩=>fin none m H hw rfl Rl (Frm.refl _ _)
theorem Aq (he:ME X e we):MO X (some e) (xW we):=(yD he).wk fun σ H Q ⟨α,m,Kc,Rl,hw,fin⟩=>by
 refine ⟨α,m,_,Rl,hw,fun r m1 v H1 k n1 Rl1 rr F1=>?_⟩
 obtain ⟨i,rfl,rfl,k⟩:=jf rr k
 exact ⟨i,rfl,fin _ m1 H1 k n1 Rl1 F1⟩
def wSl (ob:R→Option Int→Option Int→MSt→(R→Prop)→Prop) (we:WE) (wl wh:WO1):WE:=fun m K=>we m fun r m1=>wl m1 fun l m2=>wh m2 fun u m3=>ob r l u m3 fun r'=>K r' m3
theorem u5 {lo hi:Option Expr} {wl wh:WO1} {p2:Pos} {ob:R→Option Int→Option Int→MSt→(R→Prop)→Prop} (hr:SlR X (sM X.kx ob)) (he:ME X e we) (hl:MO X lo wl) (hu:MO X hi wh):ME X (.Subscript e (.Slice lo hi none p2) pos) (wSl ob we wl wh):=(vi hr he hl hu).wk fun σ H Q ⟨α,m,Kc,Rl,hw,fin⟩ =>
 ⟨α,m,_,Rl,hw,fun r m1 v H1 k n1 Rl1 rr F1=>⟨α,m1,_,Rl1,k,fun l m2 H2 k2 n2 Rl2 F2=>⟨α,m2,_,Rl2,k2,fun u m3 H3 k3 n3 Rl3 F3=>⟨α,m3,σ,H,r,_,Rl3,(rr.keep Rl Rl1 F2).keep Rl Rl2 F3,k3,fun r' v' H' k4 Rl4 rr4 F4=>fin r' m3 v' H' k4 (n3.trans (n2.trans n1)) Rl4 (rr4.base Rl3 ((F1.trans F2).trans F3)) (((F1.trans F2).trans F3).trans F4)⟩⟩⟩⟩
end
def agV:Nat→List Ag→List (Option R)
 | _,[]=>[]
 | k,.imm d :: as=>some (.imm d) :: agV k as
 | k,.own _ :: as=>some (.obj k) :: agV (k + 1) as
 | k,.tr _ :: as=>some (.at k []) :: agV (k + 1) as
def agO:List Ag→List (List PyData)
 | []=>[]
 | .imm _ :: as=>agO as
 | .own ds :: as=>ds :: agO as
 | .tr t :: as=>[t] :: agO as
def gC (n:Nat) (as:List Ag):MSt:=⟨agV 0 as++List.replicate (n - as.length) none,agO as,(agO as).length⟩
def outR (m:MSt):R→R
 | .imm d=>.imm d
 | .new ds=>.new ds
 | .newT t=>.newT t
 | .obj k=>if k < m.np then .obj k else .new (m.os.getD k [])
 | .at k p=>if k < m.np then .at k p else match p,m.os[k]? with
  | [],some [t]=>.newT t
  | _,_=>.at k p
theorem cX:∀ (k:Nat) (as:List Ag),(agV k as).length = as.length
 | _,[]=>rfl
 | k,.imm d :: as=>by simp [agV,cX k as]
 | k,.own _ :: as=>by simp [agV,cX (k + 1) as]
 | k,.tr _ :: as=>by simp [agV,cX (k + 1) as]
section
variable {K:Kx} {H:Hp}
theorem RelAs.facts {K:Kd}:∀ {as:List Ag} {vs:List V} {β : Al} {pre:Al},RelAs K H as vs β →
  (agO as).length = β.length∧(∀ (k:Nat) (ao:Ao) (ds:List PyData),β[k]? = some ao→(agO as)[k]? = some ds→OwnAt K H ao ds) ∧
   ∀ (i:Nat) (r:R),(agV pre.length as)[i]? = some (some r)→∃ v,vs[i]? = some v∧RelS K (pre++β) H r v
 | _,_,_,_,.nil=>⟨rfl,fun k a ds h=>by simp at h,fun i r h=>by simp [agV] at h⟩
 | _,_,β,pre,.imm (as:=as) hd t=>by
  obtain ⟨h1,h2,h3⟩:=t.facts (pre:=pre)
  refine ⟨h1,h2,fun i r h=>?_⟩
  cases i with
  | zero=>simp [agV] at h; subst h; exact ⟨_,rfl,hd⟩
  | succ i =>
   obtain ⟨v,e,q⟩:=h3 i r (by simpa [agV] using h)
   exact ⟨v,by simpa using e,q⟩
 | _,_,_,pre,.own (a:=a) (β:=β) ha t=>by
  obtain ⟨h1,h2,h3⟩:=t.facts (pre:=pre++[.L a])
  refine ⟨by simp [agO,h1],fun k b ds z1 z2=>?_,fun i r h=>?_⟩
  ·cases k with
   | zero=>simp [agO] at z1 z2; subst z1; subst z2; exact ha
   | succ k=>exact h2 k b ds (by simpa using z1) (by simpa [agO] using z2)
  ·cases i with
   | zero=>simp [agV] at h; subst h; exact ⟨_,rfl,a,by simp,rfl⟩
   | succ i =>
    obtain ⟨v,e,q⟩:=h3 i r (by simpa [agV] using h)
    refine ⟨v,by simpa using e,?_⟩
    rw [List.append_assoc] at q
    exact q
 | _,_,_,pre,.tr (a:=a) (τ:=τ) (β:=β) ha el t=>by
  obtain ⟨h1,h2,h3⟩:=t.facts (pre:=pre++[.T τ])
  refine ⟨by simp [agO,h1],fun k b ds z1 z2=>?_,fun i r h=>?_⟩
  ·cases k with
   | zero=>simp [agO] at z1 z2; subst z1; subst z2; exact ha
   | succ k=>exact h2 k b ds (by simpa using z1) (by simpa [agO] using z2)
  ·cases i with
   | zero=>simp [agV] at h; subst h; exact ⟨_,rfl,τ,a,by simp,el,rfl⟩
   | succ i =>
    obtain ⟨v,e,q⟩:=h3 i r (by simpa [agV] using h)
    refine ⟨v,by simpa using e,?_⟩
    rw [List.append_assoc] at q
    exact q
theorem sm {n nN:Nat} {N:List Str} {vs:List V} {as:List Ag} {β : Al} (hN:N.length = nN) (hle:n≤nN) (hl:as.length = n) (nd:(ads β).Nodup) (ra:RelAs K H as vs β) (hb:K.eb.np≤(agO as).length) (hx:Ext K.eb.np K.eb.be K.eb.H β H):Rel K β (gC nN as) (start N vs) H:=by
 obtain ⟨h1,h2,h3⟩:=ra.facts (pre:=[])
 have hvl:as.length = vs.length:=ra.length
 refine ⟨nd,by rw [←h1]; rfl,h2,?_,fun i r e=>?_,by rw [←h1]; exact Nat.le_refl _,hb,hx⟩
 ·unfold start gC
  simp only [List.length_append,List.length_map,List.length_replicate,cX]
  omega
 ·have e':(agV 0 as++List.replicate (nN - as.length) none)[i]? = some (some r):=e
  by_cases hi:i < as.length
  ·rw [List.getElem?_append_left (by rw [cX]; exact hi)] at e'
   obtain ⟨v,ev,q⟩:=h3 i r e'
   refine ⟨v,?_,by simpa using q⟩
   unfold start
   rw [List.getElem?_append_left (by rw [List.length_map]; omega),List.getElem?_map,ev]; rfl
  ·rw [List.getElem?_append_right (by rw [cX]; omega),List.getElem?_replicate] at e'
   split at e' <;> cases e'
theorem pD {as:List Ag} {vs:List V} {β α':Al} {m':MSt} {σ':St} {H':Hp} (ra:RelAs K H as vs β) (hn:m'.np = (agO as).length) (R':Rel K α' m' σ' H') (x:Ext (agO as).length β H α' H'):sJ K H' β (m'.os.take m'.np)∧Frm β H H'∧β = α'.take (agO as).length:=by
 obtain ⟨h1,h2,h3⟩:=ra.facts (pre:=[])
 have e1 : α'.take (agO as).length = β:=by rw [x.pre,h1,List.take_length]
 refine ⟨⟨?_,fun j a ds z1 z2=>?_⟩,x.frm,e1.symm⟩
 ·have:=R'.npl
  rw [R'.len] at this
  rw [List.length_take,hn,←h1]
  omega
 ·rw [←e1,List.getElem?_take] at z1
  rw [hn,List.getElem?_take] at z2
  by_cases hj:j < (agO as).length
  ·rw [if_pos hj] at z1 z2
   exact R'.own j a ds z1 z2
  ·rw [if_neg hj] at z1; cases z1
theorem zG {as:List Ag} {β α':Al} {m':MSt} {σ':St} {H':Hp} {r:R} {v:V} (hn:m'.np = (agO as).length) (R':Rel K α' m' σ' H') (x:Ext (agO as).length β H α' H') (eβ : β = α'.take (agO as).length) (rr:RelR K α' H H' r v)
  (ok:∀ k p,r = .at k p→k < m'.np∨(p = []∧∃ t,m'.os[k]? = some [t])):RelR K β H H' (outR m' r) v:=by
 have out:∀ {k:Nat} {ao:Ao},¬ k < m'.np→α'[k]? = some ao→∀ b∈ao.ads,H b = none:=fun {k ao} hk ea b hb=>by
  rcases x.new b (il ea hb) with z | z
  ·exfalso
   rw [eβ] at z
   obtain ⟨j,ao',ej,hm⟩:=fO z
   rw [List.getElem?_take] at ej
   by_cases hj:j < (agO as).length
   ·rw [if_pos hj] at ej
    exact fx R'.nd ea ej (by omega) hb hm
   ·rw [if_neg hj] at ej; cases ej
  ·exact z
 have inb:∀ {k:Nat} {ao:Ao},k < m'.np→α'[k]? = some ao→β[k]? = some ao:=fun {k ao} hk ea=>by
  rw [eβ,List.getElem?_take,if_pos (by rw [←hn]; exact hk)]
  exact ea
 cases r with
 | imm d=>exact rr
 | new ds=>exact rr
 | newT t=>exact rr
 | obj k =>
  obtain ⟨a,ea,rfl⟩:=rr
  unfold outR
  by_cases hk:k < m'.np
  ·simp only [hk,if_true]
   exact ⟨a,inb hk ea,rfl⟩
  ·simp only [hk,if_false]
   have hk2:k < m'.os.length:=by rw [←R'.len]; exact (List.getElem?_eq_some_iff.mp ea).1
   have e3:m'.os[k]? = some (m'.os.getD k []):=by rw [List.getD_eq_getElem?_getD,List.getElem?_eq_getElem hk2]; rfl
   obtain ⟨xs,y1,y2⟩:=R'.own k _ _ ea e3
   exact ⟨a,xs,rfl,out hk ea a (List.mem_singleton.mpr rfl),y1,y2⟩
 | «at» k p =>
  obtain ⟨τ,a,ea,el,rfl⟩:=rr
  unfold outR
  by_cases hk:k < m'.np
  ·simp only [hk,if_true]
   exact ⟨τ,a,inb hk ea,el,rfl⟩
  ·simp only [hk,if_false]
   rcases ok k p rfl with z | ⟨rfl,t,et⟩
   ·exact (hk z).elim
   ·rw [et]
    have g:=R'.own k _ _ ea et
    exact ⟨τ,a,rfl,el,((fo α').mp R'.nd).1 _ (List.mem_of_getElem? ea),out hk ea,g⟩
def okR (m:MSt):R→Prop
 | .at k p=>k < m.np∨(p = []∧∃ t,m.os[k]? = some [t])
 | _=>True
theorem okR.at {m:MSt} {r:R} (h:okR m r):∀ k p,r = .at k p→k < m.np∨(p = []∧∃ t,m.os[k]? = some [t]):=fun k p e=>by subst e; exact h
def retK (Kc:R→List (List PyData)→Prop) (m:MSt):R→Prop
 | .at k p=>okR m (.at k p)∧Kc (outR m (.at k p)) (m.os.take m.np)
 | .imm d=>Kc (.imm d) (m.os.take m.np)
 | .new ds=>Kc (.new ds) (m.os.take m.np)
 | .obj k=>Kc (outR m (.obj k)) (m.os.take m.np)
 | .newT t=>Kc (.newT t) (m.os.take m.np)
theorem retK.ok {Kc:R→List (List PyData)→Prop} {m:MSt} {r:R} (h:retK Kc m r):okR m r∧Kc (outR m r) (m.os.take m.np):=by
 cases r with
 | «at» k p=>exact h
 | imm d=>exact ⟨trivial,h⟩
 | new ds=>exact ⟨trivial,h⟩
 | obj k=>exact ⟨trivial,h⟩
 | newT t=>exact ⟨trivial,h⟩
theorem fn_m {n nN:Nat} {N:List Str} {sp:SpM} {w:WS} {vs:List V} {Q:VK} {E:XK} (he:K.eb = ⟨0,[],fun _=>none⟩) (h:spOf K n sp vs H Q E) (hN:N.length = nN) (hle:n≤nN)
  (hw:∀ as Kc,as.length = n→sp as Kc→w { nx:=fun m=>Kc (.imm .none) (m.os.take m.np),rt:=fun r m=>retK Kc m r } (gC nN as)):tMS K w { nx:=fun _ H'=>Q .non H',rt:=Q } (start N vs) H:=by
 obtain ⟨as,β,Kc,hl,nd,ra,hsp,fin⟩:=h
 have R0:Rel K β (gC nN as) (start N vs) H:=sm hN hle hl nd ra (by rw [he]; exact Nat.zero_le _) (by rw [he]; exact ⟨rfl,fun _ _ z=>(by cases z),fun _ _=>.inr rfl,fun a ha=>(by cases ha)⟩)
 refine ⟨β,gC nN as,_,R0,hw as Kc hl hsp,⟨fun α' m' σ' H' q hn R' x=>?_,fun r α' m' σ' v H' q hn R' rr x=>?_,fun _ _ _ _ z=>z.elim,fun _ _ _ _ z=>z.elim⟩⟩
 ·obtain ⟨O,F,_⟩:=pD ra hn R' x
  exact fin _ _ .non H' q O ow F
 ·obtain ⟨O,F,eβ⟩:=pD ra hn R' x
  have q':=retK.ok q
  exact fin _ _ v H' q'.2 O (zG hn R' x eβ rr q'.1.at) F
end
structure FnM (P:Program) (w:World) (K:PySem.W.Frag) (mg:Str→Option Value) (base:Heap) (x:Str) (k n:Nat) (sp:SpM):Prop where
 ex:∃ (f:Addr) (fd:FuncData) (ps:List Str),FnOk P w K mg base CX0 k f fd ps (spOf ⟨K,w⟩ n sp)∧mg x = some (.ref f)∧PySem.W.keepIn K (.ref f) = true∧Binds K fd ps []
 ar:∀ as Kc,sp as Kc→as.length = n
structure DefM (K:PySem.W.Frag) (mg:Str→Option Value) (x:Str) (st:Stmt) (ps:List Str):Prop where
 ex:∃ (f:Addr) (fd:FuncData),Fun K x x st f fd∧mg x = some (.ref f)∧Binds K fd ps []
theorem E8 {P:Program} {w:World} {K:PySem.W.Frag} {mg:Str→Option Value} {base:Heap} {x:Str} {st:Stmt} {N ps:List Str} {n nN k:Nat} {sp:SpM} (D:DefM K mg x st ps) (S:aB N ps (ab st)) (hn:ps.length = n) (hN:N.length = nN) (hle:n≤nN) (ar:∀ as Kc,sp as Kc→as.length = n)
  (hbody:∀ (cdv:Value) (A:Around) (outer:List Env) (s:Shared) (H:Hp) (E:XK) (f:Addr),Room k (A.deeper (envOfC x (ab st) s.heap.objs.size f cdv)) →
   ∃ ww,MSs (cxOf CX0 P w K mg base N x (ab st) f cdv A outer s H E).nox (dr st) ww∧∀ as Kc,as.length = n→sp as Kc→ww { nx:=fun m=>Kc (.imm .none) (m.os.take m.np),rt:=fun r m=>retK Kc m r } (gC nN as)) :
  FnM P w K mg base x (k + 1) n sp:=by
 obtain ⟨f,fd,F,hm,hb⟩:=D.ex
 refine ⟨⟨f,fd,ps,F.ok S (fun vs H Q E h=>by rw [hn]; exact h.len) (fun cdv A outer s H vs Q E hr h=>?_),hm,F.kp,hb⟩,ar⟩
 obtain ⟨ww,h1,h2⟩:=hbody cdv A outer s H E f hr
 exact ⟨_,h1,fn_m (K:=(cxOf CX0 P w K mg base N x (ab st) f cdv A outer s H E).nox.kx) rfl h hN hle h2⟩
section
variable {X:Cx} {a:Expr} {es:List Expr} {ws:WA} {pos p:Pos} {k n:Nat} {sp:SpM} {x:Str}
theorem uU (F:FnM X.prog X.w X.K X.mg X.base x k n sp) (hr:Room k X.A) (ha:MA X (a :: es) ws) (hg:Gl X x:=by rfl) (hdb:(x == ("__debug__" : Str)) = false:=by decide) (he:starEach (a :: es) X.env = (false,eval a X.env) :: starEach es X.env:=by first | exact aU rfl | rfl) (hpl:(backTo pos (starEach es X.env)).any (·.1) = false:=by rfl) :
  ME X (.Call (.Name x p) (a :: es) [] pos) (rf sp ws):=by
 obtain ⟨f,fd,ps,G,hm,hk,hb⟩:=F.ex
 exact yi (E:=E0) G hr hg hm hk hb Ic F.ar ha hdb he hpl
theorem Room.u200 {k:Nat} {A:Around} (r:Room k A):A.units + 200 < cLine:=by have:=r.un; omega
theorem cr:bootBuiltins "len" = some (.builtin "len"):=by decide +kernel
theorem xI:bootBuiltins "abs" = some (.builtin "abs"):=by decide +kernel
theorem oM:bootBuiltins "sum" = some (.builtin "sum"):=by decide +kernel
theorem jK:bootBuiltins "max" = some (.builtin "max"):=by decide +kernel
theorem kL:bootBuiltins "repr" = some (.builtin "repr"):=by decide +kernel
theorem ik:bootBuiltins "list" = some (.type "list"):=by decide +kernel
theorem cQ:bootBuiltins "tuple" = some (.type "tuple"):=by decide +kernel
theorem D7:bootBuiltins "int" = some (.type "int"):=by decide +kernel
theorem lL:bootBuiltins "enumerate" = some (.type "enumerate"):=by decide +kernel
end
section
variable {m:MSt} {K:R→MSt→Prop} {Kb:Bool→MSt→Prop} {Ka:List R→MSt→Prop} {Kr:R→Prop} {D:d9} {wa wb wc we wo wi:WE} {ws:WA} {wt wu:WT} {w u:WS} {o:WO} {d:PyData} {r r1 r2:R} {i j:Int} {k:Nat}
theorem iG (h:w { D with nx:=fun m'=>u D m' } m):wSeq w u D m:=h
theorem Bg (h:D.nx m):xV D m:=h
theorem Fc (h:wa m fun r1 m1=>wb m1 fun r2 m2=>o r1 r2 m2 fun r=>K r m2):wBin o wa wb m K:=h
theorem zH {n:Nat} (e:m.vs[n]? = some (some r)) (h:K r m):wVar n m K:=⟨r,e,h⟩
theorem x_c (h:K (.imm d) m):wC d m K:=h
theorem FO (h:we m fun r m'=>D.rt r m'):wRet we D m:=h
theorem D9 (h:we m fun _ m'=>D.nx m'):yM we D m:=h
theorem F9 (h:wt m fun c m'=>if c = true then w D m' else u D m'):wIfS wt w u D m:=h
theorem ql (h:wt m fun c m'=>if c = true then wa m' K else wb m' K):wIfE wt wa wb m K:=h
theorem DG (h:we m fun r m'=>onBl (fun k=>Kb k m') r):qM we m Kb:=h
theorem FI (h:wt m fun c m1=>if c = true then wu m1 Kb else Kb false m1):wAnd wt wu m Kb:=h
theorem x_or (h:wt m fun c m1=>if c = true then Kb true m1 else wu m1 Kb):wOr wt wu m Kb:=h
theorem Fj (h:wt m fun c m1=>Kb (!c) m1):wNot wt m Kb:=h
theorem Bz (h:wa m fun r m1=>onBl (fun c=>if c = true then wb m1 K else K (.imm (.bool false)) m1) r):z9 wa wb m K:=h
theorem wY {P:Bool→Prop} {b:Bool} (h:P b):onBl P (.imm (.bool b)):=h
theorem yw {P:Int→Prop} (h:P i):h7 P (.imm (.int i)):=h
theorem zK {P:Nat→Prop} (h:P k):lq P (.obj k):=h
theorem yr {P:PyData→Prop} (h:P d):f7 P (.imm d):=h
theorem Io {P:R→Prop} (h:P r):on1 P [r]:=h
theorem db {A B:Prop} (h:A):if true = true then A else B:=by rw [if_pos rfl]; exact h
theorem bV {A B:Prop} (h:B):if false = true then A else B:=by rw [if_neg Bool.false_ne_true]; exact h
theorem ay {c A B:Prop} [Decidable c] (h1:c→A) (h2:¬ c→B):if decide c = true then A else B:=by
 by_cases h:c
 ·rw [if_pos (decide_eq_true h)]; exact h1 h
 ·rw [if_neg (by rw [decide_eq_false h]; exact Bool.false_ne_true)]; exact h2 h
theorem x_un {ob:WU} (h:wa m fun r1 m1=>ob r1 m1 fun r=>K r m1):wUn ob wa m K:=h
theorem FV (h:Kr (.imm (.int (-i)))):uNeg (.imm (.int i)) m Kr:=h
theorem Ij (h:we m fun r m'=>match r with | .imm d=>K (.imm d) m' | .new ds=>K (.imm (.list ds)) m' | _=>False):wImm we m K:=h
theorem Fu (h:Ka [] m):wNil m Ka:=h
theorem Cw (h:we m fun r m1=>ws m1 fun rs m2=>Ka (r :: rs) m2):r9 we ws m Ka:=h
theorem Gf (h:ws m fun rs m'=>sY (fun ds=>K (.imm (.tuple ds)) m') (d8 rs)):wTup ws m K:=h
theorem Ii (h:ws m fun rs m'=>sY (fun ds=>K (.new ds) m') (d8 rs)):wLst ws m K:=h
theorem Gj {rs:List R} {ds:List PyData} {P:List PyData→Prop} (e:d8 rs = some ds) (hz:ds.length≤sizeLine) (h:P ds):sY P (d8 rs):=by rw [e]; exact ⟨hz,h⟩
theorem x_cb {oc:WC} (h:ws m fun rs m1=>oc rs m1 fun r=>K r m1):wCB oc ws m K:=h
theorem BW {sp:SpM} (h:ws m fun rs m1=>match gw m1 rs with | some (as,ks)=>ks.Nodup∧sp as fun r outs=>K (mapR ks r) { m1 with os:=cu m1.os ks outs } | none=>False):rf sp ws m K:=h
theorem FM {rs:List R} {as:List Ag} {ks:List Nat} {P:List Ag→List Nat→Prop} (e:gw m rs = some (as,ks)) (hn:ks.Nodup) (h:P as ks):match gw m rs with | some (as,ks)=>ks.Nodup∧P as ks | none=>False:=by rw [e]; exact ⟨hn,h⟩
theorem uK {n:Nat} (h:we m fun r m'=>mJ n D.nx m' r):wSet n we D m:=h
theorem gF {n:Nat} {P:MSt→Prop} (h:P (m.setV n (.imm d))):mJ n P m (.imm d):=.inl h
theorem bH {n:Nat} {P:MSt→Prop} {ds:List PyData} (h:P { vs:=m.vs.set n (some (.obj m.os.length)),os:=m.os++[ds],np:=m.np }):mJ n P m (.new ds):=.inl (.inl h)
theorem FY {g:WG} (h:we m fun r m'=>f7 (fun d=>g d m' D.nx) r):wAsg we g D m:=h
theorem FJ {n n':Nat} (h:ws m fun rs m'=>match rs with | [.imm d1,.imm d2]=>D.nx ((m'.setV n (.imm d1)).setV n' (.imm d2)) | _=>False):wPar n n' ws D m:=h
theorem Dv (h:we m fun rv m1=>f7 (fun d=>wo m1 fun ro m2=>wi m2 fun ri m3=>lq (fun k=>h7 (fun z=>∃ ds j,m3.os[k]? = some ds∧ixN ds.length z = some j∧D.nx { m3 with os:=m3.os.set k (ds.set j d) }) ri) ro) rv):y6 we wo wi D m:=h
theorem qz {k:Nat} {z:Int} {ds:List PyData} {n:Nat} {P:List PyData→Nat→Prop} (e1:m.os[k]? = some ds) (e2:ixN ds.length z = some n) (h:P ds n):∃ ds j,m.os[k]? = some ds∧ixN ds.length z = some j∧P ds j:=⟨ds,n,e1,e2,h⟩
theorem x_ml {ob:WM} (h:wo m fun r m1=>(∃ ds,lsOf m1 r = some ds)∧ws m1 fun rs m2=>ob r rs m2 K):wML ob wo ws m K:=h
theorem x_ls {ds:List PyData} {P:Prop} (e:lsOf m r = some ds) (h:P):(∃ ds,lsOf m r = some ds)∧P:=⟨⟨ds,e⟩,h⟩
theorem fz {ds:List PyData} (e:m.os[k]? = some ds) (hz:ds.length < sizeLine) (h:K (.imm .none) { m with os:=m.os.set k (ds++[d]) }):ux (.obj k) [.imm d] m K:=⟨ds,e,hz,h⟩
theorem zT {ds:List PyData} {n:Nat} (e:m.os[k]? = some ds) (hn:(n:Int) = i) (e2:ds[n]? = some d) (hs:ds.length≤sizeLine) (h:K (.imm d) { m with os:=m.os.set k (ds.eraseIdx n) }):xz (.obj k) [.imm (.int i)] m K:=by
 subst hn
 have hl:n < ds.length:=(List.getElem?_eq_some_iff.mp e2).1
 have hs':ds.length≤16777216:=by rw [sizeLine_eq] at hs; exact hs
 refine ⟨ds,n,d,e,⟨by omega,by omega⟩,?_,e2,h⟩
 exact (kQ (n:=ds.length) (i:=(n:Int)) (j:=n) (by unfold ixN; rw [if_pos (by omega),if_pos (by omega)]; simp)).1
theorem C7 (h:Kr (.imm (.int (i + j)))):oAdd (.imm (.int i)) (.imm (.int j)) m Kr:=h
theorem po {a b:List PyData} (hz:a.length + b.length≤sizeLine) (h:Kr (.imm (.tuple (a++b)))):oAdd (.imm (.tuple a)) (.imm (.tuple b)) m Kr:=⟨hz,h⟩
theorem Dl (h:Kr (.imm (.int (i - j)))):oSub (.imm (.int i)) (.imm (.int j)) m Kr:=⟨trivial,h⟩
theorem BA (hc:CFd i j) (h:Kr (.imm (.int (i / j)))):CQ (.imm (.int i)) (.imm (.int j)) m Kr:=⟨hc,h⟩
theorem uO (hc : 0 < j) (h:Kr (.imm (.int (i % j)))):oMod (.imm (.int i)) (.imm (.int j)) m Kr:=⟨hc,h⟩
theorem Ik (hc:CPow i j) (h:Kr (.imm (.int (i ^ j.toNat)))):oPow (.imm (.int i)) (.imm (.int j)) m Kr:=⟨hc,h⟩
theorem x_lt (h:Kr (.imm (.bool (decide (i < j))))):oLt (.imm (.int i)) (.imm (.int j)) m Kr:=h
theorem x_le (h:Kr (.imm (.bool (decide (i≤j))))):oLe (.imm (.int i)) (.imm (.int j)) m Kr:=h
theorem x_gt (h:Kr (.imm (.bool (decide (j < i))))):oGt (.imm (.int i)) (.imm (.int j)) m Kr:=h
theorem x_ge (h:Kr (.imm (.bool (decide (j≤i))))):oGe (.imm (.int i)) (.imm (.int j)) m Kr:=h
theorem x_eq {d1 d2:PyData} (e1:asD m r1 = some d1) (e2:asD m r2 = some d2) (s1:SeqAt.shaped d1 = true) (s2:SeqAt.shaped d2 = true) (h:Kr (.imm (.bool (PyData.eqv d1 d2)))):oEq r1 r2 m Kr:=by refine Or.inl ?_; unfold eqD; rw [e1,e2]; exact ⟨s1,s2,h⟩
theorem x_ne {d1 d2:PyData} (e1:asD m r1 = some d1) (e2:asD m r2 = some d2) (s1:SeqAt.shaped d1 = true) (s2:SeqAt.shaped d2 = true) (h:Kr (.imm (.bool (!PyData.eqv d1 d2)))):oNe r1 r2 m Kr:=by refine Or.inl ?_; unfold eqD; rw [e1,e2]; exact ⟨s1,s2,h⟩
theorem FQ (h:Kr (.imm (.bool (decide (i = j))))):oEq (.imm (.int i)) (.imm (.int j)) m Kr:=x_eq rfl rfl rfl rfl (by simp only [PyData.eqv]; rw [Bool.beq_eq_decide_eq]; exact h)
theorem Gw (h:Kr (.imm (.bool (decide (i≠j))))):oNe (.imm (.int i)) (.imm (.int j)) m Kr:=x_ne rfl rfl rfl rfl (by simp only [PyData.eqv]; rw [Bool.beq_eq_decide_eq,←decide_not]; exact h)
theorem E9 {x y:Str} (h:Kr (.imm (.bool (decide (x = y))))):oEq (.imm (.str x)) (.imm (.str y)) m Kr:=Or.inr (Or.inl ⟨x,y,rfl,rfl,h⟩)
theorem CK {x y:Str} (h:Kr (.imm (.bool (!decide (x = y))))):oNe (.imm (.str x)) (.imm (.str y)) m Kr:=Or.inr ⟨x,y,rfl,rfl,h⟩
theorem u8 (h:Kr (.imm (.bool (!uu r)))):se r (.imm .none) m Kr:=⟨rfl,h⟩
theorem bp {ds:List PyData} (e:atI ds i = some d) (h:Kr (.imm d)):l6 (.imm (.tuple ds)) (.imm (.int i)) m Kr:=⟨d,e,h⟩
theorem nr {ds:List PyData} (e:atI ds i = some d) (h:Kr (.imm d)):l6 (.imm (.list ds)) (.imm (.int i)) m Kr:=⟨ds,d,rfl,e,h⟩
theorem e9 {ds:List PyData} (e1:m.os[k]? = some ds) (e:atI ds i = some d) (h:Kr (.imm d)):l6 (.obj k) (.imm (.int i)) m Kr:=⟨ds,d,e1,e,h⟩
theorem js {ds:List PyData} (e:atI ds i = some d) (h:Kr (.imm d)):l6 (.new ds) (.imm (.int i)) m Kr:=⟨ds,d,rfl,e,h⟩
theorem G9 {rs:List R} (h:on1 (lenR m Kr) rs):oLen rs m Kr:=h
theorem Dk {ds:List PyData} (h:Kr (.imm (.int ds.length))):lenR m Kr (.imm (.tuple ds)):=h
theorem Ci {ds:List PyData} (h:Kr (.imm (.int ds.length))):lenR m Kr (.imm (.list ds)):=⟨ds,rfl,h⟩
theorem Cv {ds:List PyData} (e:m.os[k]? = some ds) (h:Kr (.imm (.int ds.length))):lenR m Kr (.obj k):=⟨ds,e,h⟩
theorem Ie (h:Kr (.imm (.int (if i < 0 then -i else i)))):oAbs [.imm (.int i)] m Kr:=h
theorem Cj {b:Bool} (h:Kr (.imm (.int (if b then 1 else 0)))):oInt [.imm (.bool b)] m Kr:=h
theorem DT {ds:List PyData} (e:sqOf m r = some ds) (h:Kr (.new ds)):BG [r] m Kr:=⟨ds,e,h⟩
theorem yu {ds:List PyData} (e:sqOf m r = some ds) (h:Kr (.imm (.tuple ds))):w6 [r] m Kr:=⟨ds,e,h⟩
theorem AY (e:asD m r = some d) (h1:d.showable = true) (h2:d.hasDict = false) (h3:d.shown.length≤sizeLine) (h4:d.depth≤100) (h:Kr (.imm (.str d.shown))):yK [r] m Kr:=⟨d,e,h1,h2,h3,h4,h⟩
theorem x_sl {ob:R→Option Int→Option Int→MSt→(R→Prop)→Prop} {wl wh:WO1} (h:we m fun r m1=>wl m1 fun l m2=>wh m2 fun u m3=>ob r l u m3 fun r'=>K r' m3):wSl ob we wl wh m K:=h
theorem vk {Ko:Option Int→MSt→Prop} (h:Ko none m):nG m Ko:=h
theorem DI {Ko:Option Int→MSt→Prop} (h:we m fun r m'=>h7 (fun i=>Ko (some i) m') r):xW we m Ko:=h
theorem x_gM {n:Nat} {P:MSt→Prop} (h:P (m.setV n (.imm d))):gM n d m P:=h
theorem Bh {P:MSt→Prop} (h:P m):yU [] m P:=⟨rfl,h⟩
theorem zp {g:WG} {gs:WGs} {ds:List PyData} {P:MSt→Prop} (h:g d m fun m'=>gs ds m' P):uv g gs (d :: ds) m P:=h
theorem Cg {n:Nat} {gs:WGs} {ds:List PyData} {P:MSt→Prop} (e:ds.length = n) (h:gs ds m P):zq n gs (.tuple ds) m P:=⟨e,h⟩
theorem Fq {wi:WI} {g:WG} (h:wi m fun s m1=>me s g w D m1):wFor wi g w D m:=h
theorem B9 {Ks:Src→MSt→Prop} (h:we m fun r m'=>srcR m' Ks r):yo we m Ks:=h
theorem Db {Ks:Src→MSt→Prop} {ds:List PyData} (h:Ks ⟨ds,none⟩ m):srcR m Ks (.imm (.list ds)):=h
theorem Bj {Ks:Src→MSt→Prop} {ds:List PyData} (h:Ks ⟨ds,none⟩ m):srcR m Ks (.imm (.tuple ds)):=h
theorem Da {Ks:Src→MSt→Prop} {ds:List PyData} (e:m.os[k]? = some ds) (h:Ks ⟨ds,some k⟩ m):srcR m Ks (.obj k):=⟨ds,e,h⟩
theorem Bx {Ks:Src→MSt→Prop} (h:ws m fun rs m'=>match rs with | [.imm (.int j)]=>-(2 ^ 62)≤j∧j < 2 ^ 62∧Ks ⟨cw 0 j.toNat,none⟩ m' | _=>False):sK ws m Ks:=h
theorem Im (h:wt m fun b m'=>if b = true then w D m' else D.nx m'):wIfT wt w D m:=h
theorem vW (h:Kb true m):i6 m Kb:=h
theorem DE {q:Nat} (h:we m fun r m'=>f7 (fun d=>∃ ds,m'.os[q]? = some ds∧ds.length < sizeLine∧D.nx { m' with os:=m'.os.set q (ds++[d]) }) r):nY q we D m:=h
end
theorem am {w:WS} {D:d9} {m:MSt} (m':MSt) (e:m = m') (h:w D m'):w D m:=e▸h
theorem GI {i j:Int} (h:(-18446744073709551616 < i∧i < 18446744073709551616)∨(-18446744073709551616 < j∧j < 18446744073709551616)):IntMulOk i j:=CMul.ok (by unfold CMul; exact h)
theorem cfd {i j:Int} (h0 : 0 < j) (h1:j < 1152921504606846976):CFd i j:=⟨h0,by
 have:j.natAbs < 2 ^ 60:=by omega
 have:=(Nat.log2_lt (by omega)).mpr this
 omega⟩
theorem jA:∀ ns:List Int,PyData.canLayAll0 (ns.map .int) = true
 | []=>rfl
 | n :: ns=>by simp only [List.map_cons,PyData.canLayAll0,PyData.canLay0,jA ns,Bool.and_self]
theorem jF:∀ ns:List Int,PyData.depthAll (ns.map .int)≤1
 | []=>Nat.zero_le 1
 | n :: ns=>by
  have:=jF ns
  rw [List.map_cons]
  simp only [PyData.depthAll,PyData.depth]
  omega
theorem nc (ns:List Int):SeqAt.shaped (.list (ns.map .int)) = true:=by
 have h:=jF ns
 have h2:(PyData.list (ns.map .int)).depth≤64:=by simp only [PyData.depth]; omega
 have h3:(PyData.list (ns.map .int)).canLay0 = true:=by simp only [PyData.canLay0,jA]
 unfold SeqAt.shaped
 rw [h3,decide_eq_true h2]; rfl
theorem tz {α : Type} {xs:List α} {i:Int} (h0 : 0≤i) (h1:i < xs.length):∃ d,xs[i.toNat]? = some d∧atI xs i = some d:=by
 have hl:i.toNat < xs.length:=by omega
 refine ⟨xs[i.toNat],List.getElem?_eq_getElem hl,?_⟩
 unfold atI ixN
 rw [if_pos h0,if_pos h1]
 exact List.getElem?_eq_getElem hl
theorem uX {ns:List Int} {i:Int} (h0 : 0≤i) (h1:i < ns.length):∃ x:Int,atI (ns.map PyData.int) i = some (.int x):=by
 obtain ⟨d,e,h⟩:=tz (xs:=ns.map PyData.int) h0 (by rw [List.length_map]; exact h1)
 rw [List.getElem?_map] at e
 cases q:ns[i.toNat]? with
 | none=>rw [q] at e; cases e
 | some x=>rw [q] at e; cases e; exact ⟨x,h⟩
section
variable {X:Cx} {tg a b c e:Expr} {es:List Expr} {wo wa wb wc we wi:WE} {ws:WA} {pos p p2:Pos}
def cq:List PyData→Option (List Int)
 | []=>some []
 | .int i :: ds=>(cq ds).map (i :: ·)
 | _ :: _=>none
theorem gW {ds:List PyData} {ns:List Int} (h:cq ds = some ns):ds = ns.map .int:=by
 induction ds generalizing ns with
 | nil=>cases h; rfl
 | cons d ds ih =>
  cases d with
  | int i =>
   simp only [cq] at h
   cases q:cq ds with
   | none=>rw [q] at h; cases h
   | some ms=>rw [q] at h; cases h; rw [ih q]; rfl
  | none=>cases h
  | bool _=>cases h
  | str _=>cases h
  | list _=>cases h
  | tuple _=>cases h
  | dict _=>cases h
theorem cE:∀ ns:List Int,cq (ns.map .int) = some ns
 | []=>rfl
 | n :: ns=>by simp only [List.map_cons,cq,cE ns,Option.map_some]
theorem dM {K:Kd} {H:Hp}:∀ {ns:List Int} {xs:List V},DenAll K H (ns.map .int) xs→xs = ns.map V.int
 | [],_,h=>by simpa only [List.map_nil,DenAll] using h
 | n :: ns,_,h=>by
  simp only [List.map_cons,DenAll] at h
  obtain ⟨v,vs,rfl,h1,h2⟩:=h
  have e:=aH (K:=K) (H:=H) h1
  rw [e,dM h2]; rfl
def oSum:WC:=fun rs m K=>on1 (fun r=>∃ ds ns,lsOf m r = some ds∧cq ds = some ns∧K (.imm (.int ns.sum))) rs
theorem jg (hc:X.calm = true):c6 X (.builtin "sum") (cM X.kx oSum):=by
 rintro pins s σ' H xs us Q I rv ⟨α,m,σ,H0,rs,Kc,Rl,h,ho,fin⟩
 obtain ⟨r,v,rfl,rfl,h1,ds,ns,el,ei,ho⟩:=cv h ho
 obtain ⟨a,ys,rfl,f,g⟩:=h1.list Rl el
 rw [gW ei] at g
 have ey:=dM g
 subst ey
 obtain ⟨u,rfl,ru⟩:=rv.one
 cases ru
 obtain ⟨its,rv1,pl,_⟩:=I.list f
 have hi:=ij rv1
 have hall:AllInts its.toArray:=hi.allInts
 obtain ⟨xs,ex⟩:=hall.items
 have hl:s.heap.IsList a (intItems xs):=by rw [←ex]; exact pl.isList
 refine sum_intListG (I.ok.hd hc) hl fun h' tk t' hk=>?_
 have e1:preSum (numAt xs) xs.size = ns.sum:=by
  have e2:(numsOf its).sum = ns.sum:=by rw [hi.numsOf]
  rw [←e2]
  have e3:=congrArg Array.toList ex
  have e4:its = (intItems xs).toList:=by simpa using e3
  rw [e4,nums_intItems,preSum_eq,List.take_of_length_le (by simp)]
 rw [e1]
 exact ⟨.int ns.sum,H,I.kept (t':=tk) hk,⟨_,rfl⟩,fin _ _ H ho Rl (dh _) (Frm.refl _ _)⟩
end
section
variable {X:Cx} {tg a:Expr} {ws:WA} {p p2 pos pos2:Pos}
def CA (ta:TA):TE:=fun σ H Q=>ta σ H fun vs H1=>∃ j:Int,vs = [.int j]∧-(2 ^ 62)≤j∧j≤16777216∧∀ l,H1 l = none→Q (.ref l) (upd H1 l (.lst ((List.range j.toNat).map fun (i:Nat)=>V.int (i:Int))))
theorem vf {ta:TA} (hc:X.calm = true) (hgr:Gl X "list") (hmr:X.mg "list" = none) (hg:Gl X "range") (hm:X.mg "range" = none) (ha:PA X [a] ta) (hs:starEach [a] X.env = [(false,eval a X.env)]:=by first | exact bI rfl | rfl)
  (hs2:starEach [.Call (.Name "range" p2) [a] [] pos2] X.env = [(false,eval (.Call (.Name "range" p2) [a] [] pos2) X.env)]:=by rfl):PE X (.Call (.Name "list" p) [.Call (.Name "range" p2) [a] [] pos2] [] pos) (CA ta):=by
 intro pins s σ H Q I h
 refine Call_ (iY I hgr hmr ik (PyProof.Rows.callWith_type1 ?_ hs2 rfl))
 rw [hs2]
 refine Calls.spliced_cons ?_
 refine Call_ (iY I hg hm boot_range (PyProof.Rows.callWith_type1 (thn (ha pos2 pins s σ H _ I h) fun us s1 ⟨vs,H1,I1,r1,q1⟩=>?_) hs rfl))
 obtain ⟨j,e,q1,q2,q⟩:=q1
 subst e
 cases r1 with
 | cons r rr =>
  cases rr
  obtain ⟨t,rfl⟩:=r
  refine call_range_1 ?_
  refine Calls.spliced_nil ?_
  have I2:Inv X pins σ H1 { s1 with heap:=s1.heap.push { cls:=.type "range",data:=.fields #[.int 0 s1.toks,.int j t,.int 1 (s1.toks + 1)] },toks:=s1.toks + 1 + 1 }:=I1.kept fun b o e=>Heap.get?_push_of_some _ e
  have hr:IsRange (s1.heap.push { cls:=.type "range",data:=.fields #[.int 0 s1.toks,.int j t,.int 1 (s1.toks + 1)] }) s1.heap.objs.size 0 j 1 s1.toks t (s1.toks + 1):=IsRange.new ..
  generalize hS:({ s1 with heap:=s1.heap.push { cls:=.type "range",data:=.fields #[.int 0 s1.toks,.int j t,.int 1 (s1.toks + 1)] },toks:=s1.toks + 1 + 1 }:Shared) = s2 at I2 ⊢
  have hr2:IsRange s2.heap s1.heap.objs.size 0 j 1 s1.toks t (s1.toks + 1):=by rw [←hS]; exact hr
  refine call_list_range (n:=j.toNat) (I.ok.hd hc) hr2 (small_one (by decide) (by decide) (by omega) (by omega)) (by rw [rangeSize_one]; split <;> omega) (by omega) fun h' tk acc' c' hk hS' hacc=>?_
  have hp:H1 s2.heap.objs.size = none:=I2.fresh
  have hv:Vals ((List.range j.toNat).map fun (i:Nat)=>V.int (i:Int)) acc'.toList:=by
   have hl:acc'.toList.length = j.toNat:=by simpa using hacc.1
   have:∀ (n:Nat) (l:List Value),l.length = n→∀ k:Nat,(∀ i v,l[i]? = some v→∃ t,v = Value.int (0 + ((k + i:Nat):Int) * 1) t)→Vals ((List.range' k n).map fun (i:Nat)=>V.int (i:Int)) l:=by
    intro n
    induction n with
    | zero=>intro l h0 k _; cases l with | nil=>exact .nil | cons _ _=>simp at h0
    | succ n ih =>
     intro l h0 k hh
     cases l with
     | nil=>simp at h0
     | cons v l =>
      rw [List.range'_succ,List.map_cons]
      refine .cons ?_ (ih l (by simpa using h0) (k + 1) fun i v hi=>?_)
      ·obtain ⟨t,e⟩:=hh 0 v rfl
       exact ⟨t,by rw [e]; congr 1; omega⟩
      ·obtain ⟨t,e⟩:=hh (i + 1) v (by simpa using hi)
       exact ⟨t,by rw [e]; congr 1; omega⟩
   have:=this j.toNat acc'.toList hl 0 fun i v hi=>by
    obtain ⟨t,e⟩:=hacc.2 i v (by simpa using hi)
    exact ⟨t,by rw [e]; congr 1; omega⟩
   rw [List.range_eq_range']
   exact this
  refine ⟨.ref s2.heap.objs.size,_,I2.laid (t':=tk) (o:=.lst _) hk (Nat.le_refl _) ⟨?_,acc'.toList,c',hv,by simpa using hS'⟩,rfl,q _ hp⟩
  rw [List.length_map,List.length_range,sizeLine_eq]
  omega
def rl (ws:WA):WE:=fun m K=>ws m fun rs m'=>on1 (h7 fun j=>(-(2 ^ 62)≤j∧j≤16777216)∧K (.new (cw 0 j.toNat)) m') rs
theorem vd (hmr:X.mg "list" = none) (hm:X.mg "range" = none) (ha:MA X [a] ws) (hc:X.calm = true:=by rfl) (hgr:Gl X "list" := by rfl) (hg:Gl X "range" := by rfl) (hs:starEach [a] X.env = [(false,eval a X.env)]:=by first | exact bI rfl | rfl)
  (hs2:starEach [.Call (.Name "range" p2) [a] [] pos2] X.env = [(false,eval (.Call (.Name "range" p2) [a] [] pos2) X.env)]:=by rfl):ME X (.Call (.Name "list" p) [.Call (.Name "range" p2) [a] [] pos2] [] pos) (rl ws):=(vf hc hgr hmr hg hm ha hs hs2).wk fun σ H Q ⟨α,m,Kc,Rl,hw,fin⟩=>by
 refine ⟨α,m,_,Rl,hw,fun rs m' vs H' k n Rl' rr F=>?_⟩
 obtain ⟨r,v,rfl,rfl,h1,k⟩:=cv rr k
 obtain ⟨j,rfl,rfl,⟨k1,k2⟩,k⟩:=jf h1 k
 refine ⟨j,rfl,k1,k2,fun l hl=>fin _ m' _ _ k n (Rl'.lay hl) (RelR.base Rl' F (show RelR X.kx α H' _ (.new (cw 0 j.toNat)) (.ref l) from ⟨l,_,rfl,hl,aA,?_⟩)) (F.trans (b9 hl))⟩
 have e:cw 0 j.toNat = ((List.range j.toNat).map fun (i:Nat)=>(i:Int)).map PyData.int:=by simp [cw]
 have e2:((List.range j.toNat).map fun (i:Nat)=>V.int (i:Int)) = ((List.range j.toNat).map fun (i:Nat)=>(i:Int)).map V.int:=by simp
 rw [e,e2]
 exact DenAll.ints _
theorem yk {m:MSt} {K:R→MSt→Prop} (h:ws m fun rs m'=>on1 (h7 fun j=>(-(2 ^ 62)≤j∧j≤16777216)∧K (.new (cw 0 j.toNat)) m') rs):rl ws m K:=h
end
theorem bz {ds:List PyData} {g:WG} {w:WS} {D:d9} {m1:MSt} (P:Nat→MSt→Prop) (p0:P 0 m1)
  (step:∀ (i:Nat) (d:PyData) (m:MSt),ds[i]? = some d→m.np = m1.np→P i m→g d m fun m2=>w { nx:=P (i + 1),ct:=P (i + 1),bk:=fun m'=>D.nx (m'.setN m1.np),rt:=fun r m'=>D.rt r (m'.setN m1.np) } m2)
  (fin:∀ m,m.np = m1.np→P ds.length m→D.nx m):me ⟨ds,none⟩ g w D m1:=by
 refine ⟨P,p0,fun i d m e n p=>⟨trivial,step i d m e n p⟩,fun m n p=>⟨trivial,?_⟩⟩
 have e:m.setN m1.np = m:=by
  obtain ⟨a,b,c⟩:=m
  have n':c = m1.np:=n
  subst n'
  rfl
 rw [e]
 exact fin m n p
theorem gN {k:Nat} {ds:List PyData} {g:WG} {w:WS} {D:d9} {m1:MSt} (P:Nat→MSt→Prop) (p0:P 0 (m1.setN (max m1.np (k + 1))))
  (ok:∀ i m,P i m→m.os[k]? = some ds)
  (step:∀ (i:Nat) (d:PyData) (m:MSt),ds[i]? = some d→m.np = max m1.np (k + 1)→P i m→g d m fun m2=>w { nx:=P (i + 1),ct:=P (i + 1),bk:=fun m'=>D.nx (m'.setN m1.np),rt:=fun r m'=>D.rt r (m'.setN m1.np) } m2)
  (fin:∀ m,m.np = max m1.np (k + 1)→P ds.length m→D.nx (m.setN m1.np)):me ⟨ds,some k⟩ g w D m1 :=
 ⟨P,p0,fun i d m e n p=>⟨ok i m p,step i d m e n p⟩,fun m n p=>⟨ok _ m p,fin m n p⟩⟩
theorem kg {t:WT} {w:WS} {D:d9} {m0:MSt} (P:Nat→MSt→Prop) (n0:Nat) (p0:P n0 m0)
  (step:∀ n m,m.np = m0.np→P n m→t m fun c m'=>if c = true then w { D with nx:=fun m2=>∃ n',n' < n∧P n' m2,ct:=fun m2=>∃ n',n' < n∧P n' m2,bk:=D.nx } m' else D.nx m'):sR t w D m0:=⟨P,⟨n0,p0⟩,step⟩
theorem uJ {ds:List PyData} {n:Nat} (h:ds.length≤n):cutD ds none (some (n:Int)) = ds:=by
 unfold cutD
 rw [HT.sIx_none,HT.sIx_nat,Nat.min_eq_right h,Nat.sub_zero,List.drop_zero,List.take_length]
theorem xR {m:MSt} {K:R→MSt→Prop} {wi:WI} {own:List Str} {ps:List Nat} {g:WG} {tt:WT} {we:WE} (h:wi m fun s m1=>me s g (wIfT tt (nY m1.os.length we)) { nx:=fun m'=>K (.new (m'.os.getD m1.os.length [])) { m1 with os:=m'.os.take m1.os.length },rt:=fun _ _=>False } (dI own ps m1)):jP wi own ps g tt we m K:=h
theorem c8 {n k:Nat} (h:k < n):ixN n (k:Int) = some k:=by
 unfold ixN
 rw [if_pos (by omega),if_pos (by omega)]
 simp
theorem jH {n k:Nat} {P:MSt→Prop} {m:MSt} {ds:List PyData} (h1:m.vs[n]? = some (some (.obj k))) (h2:m.np≤k) (h3:∀ j:Nat,j≠n→m.vs[j]?≠some (some (.obj k))) (h:P { m with os:=m.os.set k ds }):mJ n P m (.new ds):=.inr ⟨k,h1,h2,h3,h⟩
theorem aD {α : Type} {xs:List α} {k:Nat} {d x : α} (h:xs[k]? = some x):xs.getD k d = x:=by
 rw [List.getD_eq_getElem?_getD,h]; rfl
theorem x_J {w:WE} {m:MSt} {K:R→MSt→Prop} (Φ : R→MSt→Prop) (h:∀ K':R→MSt→Prop,(∀ r m',Φ r m'→K' r m')→w m K') (J:∀ r m',Φ r m'→K r m'):w m K:=h K J
theorem x_JS {w:WS} {m:MSt} {D:d9} (Φ : MSt→Prop) (h:∀ N:MSt→Prop,(∀ m',Φ m'→N m')→w { D with nx:=N } m) (J:∀ m',Φ m'→D.nx m'):w D m:=h D.nx J
structure Fine (n k:Nat) (d:PyData):Prop where
 sh:d.showable = true
 nd:d.hasDict = false
 ln:d.shown.length≤n
 dp:d.depth≤k
theorem Fine.mono {n k n' k':Nat} {d:PyData} (h:Fine n k d) (hn:n≤n') (hk:k≤k'):Fine n' k' d:=⟨h.sh,h.nd,Nat.le_trans h.ln hn,Nat.le_trans h.dp hk⟩
theorem fine_none:Fine 4 0 .none:=⟨rfl,rfl,by decide,by decide⟩
theorem lS (b:Bool):Fine 5 0 (.bool b):=⟨rfl,rfl,by cases b <;> decide,Nat.le_refl _⟩
theorem qh {n k:Nat} (h:n < 2 ^ k) (hk : 0 < k):n.log2 < k:=by
 by_cases h0:n = 0
 ·subst h0; rw [Nat.log2_zero]; exact hk
 ·rw [Nat.log2_lt h0]
  exact h
theorem fy {i:Int} (h:i.natAbs < 10 ^ 12):Fine 13 0 (.int i):=by
 refine ⟨?_,rfl,PyData.shown_int_le h,Nat.le_refl _⟩
 have:i.natAbs.log2 < 40:=qh (Nat.lt_of_lt_of_le h (by decide)) (by decide)
 show decide (i.natAbs.log2 < 1920) = true
 apply decide_eq_true
 omega
theorem la {n k:Nat}:∀ {ds:List PyData},(∀ d∈ds,Fine n k d)→PyData.showableAll ds = true∧PyData.hasDictAll ds = false∧((PyData.shownAll ds).map (·.length)).sum≤ds.length * n∧(PyData.shownAll ds).length = ds.length∧PyData.depthAll ds≤k
 | [],_=>⟨rfl,rfl,by simp [PyData.shownAll],rfl,by simp [PyData.depthAll]⟩
 | d :: ds,h=>by
  obtain ⟨h1,h2,h3,h4,h5⟩:=la fun d' h'=>h d' (List.mem_cons_of_mem _ h')
  have h0:=h d List.mem_cons_self
  refine ⟨?_,?_,?_,?_,?_⟩
  ·show (d.showable && PyData.showableAll ds) = true; rw [h0.sh,h1]; rfl
  ·show (d.hasDict || PyData.hasDictAll ds) = false; rw [h0.nd,h2]; rfl
  ·show (d.shown.length :: (PyData.shownAll ds).map (·.length)).sum≤_
   rw [List.sum_cons,List.length_cons,Nat.succ_mul]
   have:=h0.ln
   omega
  ·show (PyData.shownAll ds).length + 1 = _; rw [h4]; rfl
  ·show max d.depth (PyData.depthAll ds)≤k
   have:=h0.dp
   omega
theorem ba {n k c:Nat} {ds:List PyData} (h:∀ d∈ds,Fine n k d) (hc:ds.length≤c):Fine (c * (n + 2) + 3) (k + 1) (.tuple ds):=by
 obtain ⟨h1,h2,h3,h4,h5⟩:=la h
 refine ⟨h1,h2,?_,?_⟩
 ·show (tupleText (PyData.shownAll ds)).length≤_
  have:=tupleText_len_le (PyData.shownAll ds)
  have e:ds.length * (n + 2)≤c * (n + 2):=Nat.mul_le_mul_right _ hc
  rw [Nat.mul_add] at e
  rw [h4] at this
  omega
 ·show PyData.depthAll ds + 1≤_; omega
theorem sW {n k c:Nat} {ds:List PyData} (h:∀ d∈ds,Fine n k d) (hc:ds.length≤c):Fine (c * (n + 2) + 3) (k + 1) (.list ds):=by
 obtain ⟨h1,h2,h3,h4,h5⟩:=la h
 refine ⟨h1,h2,?_,?_⟩
 ·show (listText (PyData.shownAll ds)).length≤_
  have:=listText_len_le (PyData.shownAll ds)
  have e:ds.length * (n + 2)≤c * (n + 2):=Nat.mul_le_mul_right _ hc
  rw [Nat.mul_add] at e
  rw [h4] at this
  omega
 ·show PyData.depthAll ds + 1≤_; omega
structure Shp (k:Nat) (d:PyData):Prop where
 cl:d.canLay0 = true
 dp:d.depth≤k
theorem Shp.ok {k:Nat} {d:PyData} (h:Shp k d) (hk:k≤64):SeqAt.shaped d = true:=by
 unfold SeqAt.shaped
 rw [h.cl,decide_eq_true (Nat.le_trans h.dp hk)]; rfl
theorem cI (i:Int):Shp 0 (.int i):=⟨rfl,Nat.le_refl _⟩
theorem ig {k:Nat}:∀ {ds:List PyData},(∀ d∈ds,Shp k d)→PyData.canLayAll0 ds = true∧PyData.depthAll ds≤k
 | [],_=>⟨rfl,by simp [PyData.depthAll]⟩
 | d :: ds,h=>by
  obtain ⟨h1,h2⟩:=ig fun d' h'=>h d' (List.mem_cons_of_mem _ h')
  have h0:=h d List.mem_cons_self
  refine ⟨?_,?_⟩
  ·simp only [PyData.canLayAll0]; rw [h0.cl,h1]; rfl
  ·show max d.depth (PyData.depthAll ds)≤k
   have:=h0.dp
   omega
theorem uq {k:Nat} {ds:List PyData} (h:∀ d∈ds,Shp k d):Shp (k + 1) (.tuple ds):=by
 obtain ⟨h1,h2⟩:=ig h
 exact ⟨by simp only [PyData.canLay0]; exact h1,by show PyData.depthAll ds + 1≤_; omega⟩
theorem kf {k:Nat} {ds:List PyData} (h:∀ d∈ds,Shp k d):Shp (k + 1) (.list ds):=by
 obtain ⟨h1,h2⟩:=ig h
 exact ⟨by simp only [PyData.canLay0]; exact h1,by show PyData.depthAll ds + 1≤_; omega⟩
theorem kB {m:MSt} {r:R} {d:PyData} {Kr:R→Prop} {n k:Nat} (h:Fine n k d) (e:asD m r = some d) (hn:n≤16777216) (hk:k≤100) (hK:Kr (.imm (.str d.shown))):yK [r] m Kr:=AY e h.sh h.nd (by rw [sizeLine_eq]; exact Nat.le_trans h.ln hn) (Nat.le_trans h.dp hk) hK
theorem qE {K:Kd} {H:Hp} {a:Addr} {ns:List Int} (hO:Only H) (h:SqL K H a (ns.map V.int)):Den K H (.list (ns.map .int)) (.ref a):=by
 simp only [Den]
 refine ⟨a,_,rfl,?_,DenAll.ints _⟩
 rcases h with (h | ⟨o,h⟩) | h
 ·rcases hO a with z | ⟨o,xs,z⟩
  ·rw [h] at z; cases z
  ·rw [h] at z; cases z
 ·exact .inl ⟨o,h⟩
 ·exact .inr h
theorem Df {P:Program} {w:World} {K:PySem.W.Frag} {mg:Str→Option Value} {base:Heap} {x:Str} {st:Stmt} {N ps:List Str} {n nN k:Nat} {sp:SpM} {f:Addr} {fd:FuncData} (F:Fun K x x st f fd) (S:aB N ps (ab st)) (hn:ps.length = n) (hN:N.length = nN) (hle:n≤nN)
  (hbody:∀ (cdv:Value) (A:Around) (outer:List Env) (s:Shared) (H:Hp) (E:XK) (f:Addr),Room k (A.deeper (envOfC x (ab st) s.heap.objs.size f cdv)) →
   ∃ ww,MSs (cxOf CX0 P w K mg base N x (ab st) f cdv A outer s H E).nox (dr st) ww∧∀ as Kc,as.length = n→sp as Kc→ww { nx:=fun m=>Kc (.imm .none) (m.os.take m.np),rt:=fun r m=>retK Kc m r } (gC nN as)) :
  FnOk P w K mg base CX0 (k + 1) f fd ps (spOf ⟨K,w⟩ n sp):=by
 refine F.ok S (fun vs H Q E h=>by rw [hn]; exact h.len) (fun cdv A outer s H vs Q E hr h=>?_)
 obtain ⟨ww,h1,h2⟩:=hbody cdv A outer s H E f hr
 exact ⟨_,h1,fn_m (K:=(cxOf CX0 P w K mg base N x (ab st) f cdv A outer s H E).nox.kx) rfl h hN hle h2⟩
structure DefK (K:PySem.W.Frag) (x:Str) (st:Stmt):Prop where
 ex:∃ (f:Addr) (fd:FuncData),PySem.W.nsIn K mainGlobals x = some (some (.ref f))∧Fun K x x st f fd
theorem DefK.of {K:PySem.W.Frag} {x:Str} {st:Stmt} {f:Addr} {oc kV doc pm cdv ct:Value} {od an:Option Addr} {sl:Array (Option Value)} (a:PySem.W.nsIn K mainGlobals x = some (some (.ref f)))
  (l:K.lookup f = some ⟨oc,od,.func (PySem.W.fnOf x x (iQ st) (dr st) (ab st) .none kV doc pm an cdv ct),sl⟩) (c:PySem.W.codeIn K cdv x = true) (k:PySem.W.keepIn K (.ref f) = true):DefK K x st:=⟨f,_,a,Ca l c k⟩
theorem DefK.m {K:PySem.W.Frag} {mg:Str→Option Value} {h:Heap} {x:Str} {st:Stmt} {ps:List Str} (D:DefK K x st) (X:K.In h) (G:h.Ns mainGlobals mg) (b:∀ (f:Addr) (fd:FuncData),Fun K x x st f fd→Binds K fd ps []):DefM K mg x st ps:=by
 obtain ⟨f,fd,a,F⟩:=D.ex
 exact ⟨f,fd,F,PySem.W.mg_of X G a,b f fd F⟩
structure EE (X:Cx) (e:Expr) (w:WE):Prop where
 h:ME X e w
structure ET (X:Cx) (e:Expr) (w:WT):Prop where
 h:MT X e w
structure EW (X:Cx) (e:Expr) (w:WT):Prop where
 h:MW X e w
structure EA (X:Cx) (es:List Expr) (w:WA):Prop where
 h:MA X es w
structure ES (X:Cx) (st:Stmt) (w:WS):Prop where
 h:MS X st w
structure ESs (X:Cx) (st:List Stmt) (w:WS):Prop where
 h:MSs X st w
structure EI (X:Cx) (tg e:Expr) (w:WI):Prop where
 h:MI X tg e w
structure EG (X:Cx) (t:Expr) (w:WG):Prop where
 h:MG X t w
structure EGs (X:Cx) (ts:List Expr) (w:WGs):Prop where
 h:MGs X ts w
structure EO (X:Cx) (e:Option Expr) (w:WO1):Prop where
 h:MO X e w
structure ETs (X:Cx) (ifs:List Expr) (w:WT):Prop where
 h:PTs X ifs (tMT X.kx w)
theorem EW.pt {X:Cx} {e:Expr} {w:WT} (h:EW X e w):ET X e w:=⟨h.h.pt⟩
section
variable {X:Cx} {a b c:Expr} {es:List Expr} {wa wb wc:WE} {pos:Pos}
theorem mh' {i j pos}:EE X (.Constant (.int i) j pos) (wC (.int i)):=⟨BM⟩
theorem jR {i j pos}:EE X (.Constant (.bool i) j pos) (wC (.bool i)):=⟨Fy⟩
theorem ac {i j pos}:EE X (.Constant (.str i) j pos) (wC (.str i)):=⟨BT⟩
theorem dH {j pos}:EE X (.Constant .none j pos) (wC .none):=⟨CG⟩
theorem mv' (i:Nat) {x:Str} {pos:Pos} (hN:X.N[i]? = some x:=by rfl) (hv:Vis X.env.scope x:=by first | exact Or.inl rfl | exact Or.inr (Or.inl rfl) | exact Or.inr (Or.inr rfl)) (hd:(x == ("__debug__" : Str)) = false:=by decide) (hcd:(x == ("__classdict__" : Str)) = false:=by decide):EE X (.Name x pos) (wVar i):=⟨mv i hN hv hd hcd⟩
theorem af {op:Operator} {o:WO} (ho:OpR X (binaryOp op) (rM X.kx o)) (ha:EE X a wa) (hb:EE X b wb):EE X (.BinOp a op b pos) (wBin o wa wb):=⟨Dg ho ha.h hb.h⟩
theorem fX {op:CmpOp} {o:WO} (ho:OpR X (compareOp op) (rM X.kx o)) (ha:EE X a wa) (hb:EE X b wb) (hm:behindInMarks op b = false):EE X (.Compare a [op] [b] pos) (wBin o wa wb):=⟨CB ho ha.h hb.h hm⟩
theorem ah {op:CmpOp} {o:WO} (ho:OpR X (compareOp op) (rM X.kx o)) (ha:EE X a wa) (hb:EE X b wb) (hm:behindInMarks op b = false):ET X (.Compare a [op] [b] pos) (qM (wBin o wa wb)):=⟨Bp ho ha.h hb.h hm⟩
theorem fZ (ha:EE X a wa) (he:∀ whole,isTrue a X.env whole = (do let v ← whole; standAt a.pos; holding [v] (truthy v)):=by intro _; rfl):ET X a (qM wa):=⟨Bw ha.h he⟩
end
section
variable {X:Cx} {a b c:Expr} {es:List Expr} {wa wb wc:WE} {pos:Pos}
variable {wt wu:WT} {rest:List Expr}
theorem dk (ha:ET X a wt):EW X (.BoolOp .And [a] pos) wt:=⟨yW ha.h⟩
theorem jc (ha:ET X a wt):EW X (.BoolOp .Or [a] pos) wt:=⟨AM ha.h⟩
theorem dR (ha:ET X a wt) (hb:EW X (.BoolOp .And (b :: rest) pos) wu):EW X (.BoolOp .And (a :: b :: rest) pos) (wAnd wt wu):=⟨DN ha.h hb.h⟩
theorem iM (ha:ET X a wt) (hb:EW X (.BoolOp .Or (b :: rest) pos) wu):EW X (.BoolOp .Or (a :: b :: rest) pos) (wOr wt wu):=⟨Fw ha.h hb.h⟩
theorem jh (ha:ET X a wt):ET X (.UnaryOp .Not a pos) (wNot wt):=⟨DQ ha.h⟩
theorem z7 {op} (h:EE X a wa):EE X (.BoolOp op [a] pos) wa:=⟨C8 h.h⟩
theorem tQ (ha:EE X a wa) (hb:EE X (.BoolOp .And (b :: rest) pos) wb):EE X (.BoolOp .And (a :: b :: rest) pos) (z9 wa wb):=⟨AA ha.h hb.h⟩
theorem lu {t:Expr} (ht:ET X t wt) (ha:EE X a wa) (hb:EE X b wb):EE X (.IfExp t a b pos) (wIfE wt wa wb):=⟨Gh ht.h ha.h hb.h⟩
theorem jN {op:UnaryOp} {o:WU} (ho:UnR X (unaryOp op) (uM X.kx o)) (ha:EE X a wa):EE X (.UnaryOp op a pos) (wUn o wa):=⟨Gv ho ha.h⟩
theorem cz (ha:EE X a wa):EE X a (wImm wa):=⟨BV ha.h⟩
end
section
variable {X:Cx} {a b c:Expr} {es:List Expr} {wa wb wc:WE} {pos:Pos}
variable {wt wu:WT} {rest:List Expr}
variable {ws:WA}
theorem mn'  : EA X [] wNil:=⟨Ba⟩
theorem mc' (ha:EE X a wa) (hr:EA X es ws) (hs:starEach (a :: es) X.env = (false,eval a X.env) :: starEach es X.env:=by first | exact aU rfl | rfl):EA X (a :: es) (r9 wa ws):=⟨Ad ha.h hr.h hs⟩
theorem aC {x1} (h:EA X es ws):EE X (.Tuple es x1 pos) (wTup ws):=⟨Cp h.h⟩
theorem bf (h:EA X es ws):EE X (.List es pos) (wLst ws):=⟨DH h.h⟩
theorem aq {id:String} {x:Str} {p:Pos} {o:WC} (hc:c6 X (.builtin id) (cM X.kx o)) (hg:Gl X x) (hm:X.mg x = none) (hv:bootBuiltins x = some (.builtin id)) (ha:EA X (a :: es) ws) (hn:x ≠ "__name__" := by decide) (hdb:(x == ("__debug__" : Str)) = false:=by decide) (he:starEach (a :: es) X.env = (false,eval a X.env) :: starEach es X.env:=by first | exact aU rfl | rfl) (hpl:(backTo pos (starEach es X.env)).any (·.1) = false:=by rfl):EE X (.Call (.Name x p) (a :: es) [] pos) (wCB o ws):=⟨vm hc hg hm hv ha.h hn hdb he hpl⟩
theorem a9 {T:String} {x:Str} {p:Pos} {o:WC} (hc:c6 X (.type T) (cM X.kx o)) (hg:Gl X x) (hm:X.mg x = none) (hv:bootBuiltins x = some (.type T)) (ha:EA X (a :: es) ws) (hn:x ≠ "__name__" := by decide) (hdb:(x == ("__debug__" : Str)) = false:=by decide) (he:starEach (a :: es) X.env = (false,eval a X.env) :: starEach es X.env:=by first | exact aU rfl | rfl) (hpl:(backTo pos (starEach es X.env)).any (·.1) = false:=by rfl):EE X (.Call (.Name x p) (a :: es) [] pos) (wCB o ws):=⟨sG hc hg hm hv ha.h hn hdb he hpl⟩
end
section
variable {X:Cx} {a b c e:Expr} {es:List Expr} {wa wb wc we:WE} {pos:Pos} {st:Stmt} {rest:List Stmt} {w u:WS}
theorem az  : ESs X [] xV:=⟨yv⟩
theorem mz' (h1:ES X st w) (h2:ESs X rest u):ESs X (st :: rest) (wSeq w u):=⟨wf h1.h h2.h⟩
theorem aa (h1:ES X st w):ESs X [st] w:=⟨zO h1.h⟩
end
section
variable {X:Cx} {a b c e:Expr} {es:List Expr} {wa wb wc we:WE} {ws:WA} {wt:WT} {pos:Pos} {st:Stmt} {rest body body2:List Stmt} {w u:WS}
theorem ai (he:EE X e we):ES X (.Return (some e) pos) (wRet we):=⟨Cu he.h⟩
theorem bJ (he:EE X e we) (hs:swapsWith e none pos.line X.env = pure false:=by rfl):ES X (.Expr e pos) (yM we):=⟨yT he.h hs⟩
theorem aI {t:Expr} (ht:ET X t wt) (h1:ESs X body w) (h2:ESs X body2 u):ES X (.If t body body2 pos) (wIfS wt w u):=⟨GF ht.h h1.h h2.h⟩
theorem ae {i:Nat} {x:Str} {pos':Pos} (hN:X.N.Nodup) (hi:X.N[i]? = some x) (hx:Loc X.env.scope x) (he:EE X e we) (hs:swapsWith e (some (.Name x pos')) pos.line X.env = pure false:=by rfl) (hf:X.fn x = true∨X.env.scope.names.lookup x = some .local:=by first | exact .inl rfl | exact .inr rfl | assumption):ES X (.Assign [.Name x pos'] e pos) (wSet i we):=⟨AF hN hi hx he.h hs hf⟩
theorem ag {i:Nat} {x:Str} (hN:X.N.Nodup) (hi:X.N[i]? = some x) (hx:Loc X.env.scope x) (hf:X.fn x = true∨X.env.scope.names.lookup x = some .local:=by first | exact .inl rfl | exact .inr rfl | assumption):EG X (.Name x pos) (gM i):=⟨zj hN hi hx hf⟩
theorem bj  : EGs X [] yU:=⟨yV⟩
theorem ak {e:Expr} {es:List Expr} {g:WG} {gs:WGs} (h1:EG X e g) (h2:EGs X es gs) (hs:(assignEach (e :: es) X.env).map (·.2) = assign e X.env :: (assignEach es X.env).map (·.2):=by rfl):EGs X (e :: es) (uv g gs):=⟨v3 h1.h h2.h hs⟩
theorem bF {es:List Expr} {k:Nat} {gs:WGs} {n:Nat} (h:EGs X es gs) (hc:X.calm = true:=by rfl) (hn:(assignEach es X.env).length = n:=by rfl) (hst:(assignEach es X.env).findIdx? (·.1) = none:=by rfl):EG X (.Tuple es k pos) (zq n gs):=⟨Dw h.h hc hn hst⟩
theorem cK {tg:Expr} {g:WG} (he:EE X e we) (hg:EG X tg g) (hs:swapsWithSole [tg] e pos.line X.env = pure false:=by rfl) (hw:swappedStores [tg] e X.env = pure none:=by rfl) (h1:(assignEach [tg] X.env).map (·.2) = [assign tg X.env]:=by rfl):ES X (.Assign [tg] e pos) (wAsg we g):=⟨Dt he.h hg.h hs hw h1⟩
theorem kG {i j:Nat} {x y:Str} {px py pt:Pos} {kt k2 pt2} (hN:X.N.Nodup) (hi:X.N[i]? = some x) (hj:X.N[j]? = some y) (hij:i≠j) (hx:X.env.scope.names.lookup x = some .local) (hy:X.env.scope.names.lookup y = some .local) (ha:EA X [a,b] ws) (hw:swappedStores [.Tuple [.Name x px,.Name y py] kt pt] (.Tuple [a,b] k2 pt2) X.env = pure (some [x,y])) (hc:X.calm = true:=by rfl) (hs:swapsWithSole [.Tuple [.Name x px,.Name y py] kt pt] (.Tuple [a,b] k2 pt2) pos.line X.env = pure false:=by rfl):ES X (.Assign [.Tuple [.Name x px,.Name y py] kt pt] (.Tuple [a,b] k2 pt2) pos) (wPar i j ws):=⟨DF hN hi hj hij hx hy ha.h hw hc hs⟩
end
section
variable {X:Cx} {tg a b c e iter:Expr} {es:List Expr} {wa wb wc we:WE} {ws:WA} {wt:WT} {pos:Pos} {st:Stmt} {rest body body2:List Stmt} {w u:WS}
theorem bG (he:EE X e we):EI X tg e (yo we):=⟨AU he.h⟩
theorem cZ {p:Pos} (hg:Gl X "range") (hm:X.mg "range" = none) (ha:EA X [a] ws) (hs:starEach [a] X.env = [(false,eval a X.env)]:=by first | exact bI rfl | rfl):EI X tg (.Call (.Name "range" p) [a] [] pos) (sK ws):=⟨ul hg hm ha.h hs⟩
theorem ca {wi:WI} {g:WG} (hi:EI X tg iter wi) (hg:EG X tg g) (hb:ESs X body w) (hp:PassesOwn (model X.prog X.w) X.A X.env X.xe) (hc:X.calm = true:=by rfl) (hs:∀ x,foldedSetIterable iter X.env x = pure x:=by intro _; rfl):ES X (.For tg iter body [] pos) (wFor wi g w):=⟨DW hi.h hg.h hb.h hp hc hs⟩
theorem gc {t:Expr} (ht:ET X t wt) (hb:ESs X body w) (hp:PassesOwn (model X.prog X.w) X.A X.env X.xe):ES X (.While t body [] pos) (sR wt w):=⟨vj ht.h hb.h hp⟩
end
section
variable {X:Cx} {scope sc:Scope} {own fr:List Str} {ps:List Nat} {elt tg iter tg2 iter2:Expr} {ifs ifs2:List Expr} {pos spos py:Pos} {wi wi2:WI} {g g2:WG} {tt tt2:WT} {we:WE}
theorem cp (S:bo own fr scope sc) (hi:EI X tg iter wi) (hg:∀ cl s H C ex,EG (aQ X scope cl (own++fr) s H C ex) tg g) (ht:∀ cl s H C ex,ETs (aQ X scope cl (own++fr) s H C ex) ifs tt) (he:∀ cl s H C ex,EE (aQ X scope cl (own++fr) s H C ex) elt we) (hsc:X.env.scope = sc:=by rfl) (hps:ps.map (fun i=>X.N[i]?) = fr.map some:=by rfl) (hc:X.calm = true:=by rfl) (hs:∀ x,foldedSetIterable iter X.env x = pure x:=by intro _; rfl):EE X (.ListComp elt [⟨tg,iter,ifs,0⟩] scope pos) (jP wi own ps g tt we):=⟨vz S hi.h (fun cl s H C ex=>(hg cl s H C ex).h) (fun cl s H C ex=>(ht cl s H C ex).h) (fun cl s H C ex=>(he cl s H C ex).h) hsc hps hc hs⟩
theorem cj  : ETs X [] i6:=⟨ya⟩
theorem pO {c:Expr} {t:WT} (h:ET X c t):ETs X [c] t:=⟨yO h.h⟩
theorem qU {i:Nat} {y:Str} (S:bo own fr scope sc) (hN:X.N.Nodup) (hy:X.N[i]? = some y) (hlc:X.env.scope.names.lookup y = some .local) (hi:EI X tg iter wi) (hg:∀ cl s H C ex,EG (aQ X scope cl (own++fr) s H C ex) tg g) (ht:∀ cl s H C ex,ETs (aQ X scope cl (own++fr) s H C ex) ifs tt) (he:∀ cl s H C ex,EE (aQ X scope cl (own++fr) s H C ex) elt we) (hsw:swapsWith (.ListComp elt [⟨tg,iter,ifs,0⟩] scope pos) (some (.Name y py)) spos.line X.env = pure true:=by rfl) (hsc:X.env.scope = sc:=by rfl) (hps:ps.map (fun i=>X.N[i]?) = fr.map some:=by rfl) (hc:X.calm = true:=by rfl) (hs:∀ x,foldedSetIterable iter X.env x = pure x:=by intro _; rfl):ES X (.Assign [.Name y py] (.ListComp elt [⟨tg,iter,ifs,0⟩] scope pos) spos) (wSet i (jP wi own ps g tt we)):=⟨vI S hN hy hlc hi.h (fun cl s H C ex=>(hg cl s H C ex).h) (fun cl s H C ex=>(ht cl s H C ex).h) (fun cl s H C ex=>(he cl s H C ex).h) hsw hsc hps hc hs⟩
end
section
variable {X:Cx}
theorem ad {a b:Expr} {wa wb:WE} {pos:Pos} (ha:EE X a wa) (hb:EE X b wb) (hs:jC b:=by intro _ _; rfl):EE X (.Subscript a b pos) (wBin l6 wa wb):=⟨Ip ha.h hb.h hs⟩
end
section
variable {X:Cx} {o a b c e:Expr} {es:List Expr} {wo wa wb wc we wi:WE} {ws:WA} {pos apos cpos:Pos}
theorem cg {name:Str} {id:String} {ob:WM} (slot:Slot "list" name id) (hty:typeOf (.builtin id) = pure (.type "method_descriptor")) (hm:MtM X id (mM X.kx ob)) (ho:EE X o wo) (ha:EA X (e :: es) ws) (hbase:attributeBase o name X.env (eval o X.env) = eval o X.env:=by rfl) (hfew:((backTo cpos (starEach (e :: es) X.env)).all (fun x=>!x.1) && (backToKw cpos (keywordEach [] X.env)).all (fun x=>x.1.isSome)
   && decide ((e :: es).length + ([]:List Keyword).length + (if ([]:List Keyword).isEmpty then 0 else 1) < 30)) = true:=by rfl) (hline:(apos.endLine == cpos.line) = true:=by rfl) (hs:starEach (e :: es) X.env = (false,eval e X.env) :: starEach es X.env:=by first | exact aU rfl | rfl) (hplain:(backTo cpos (starEach es X.env)).any (·.1) = false:=by rfl):EE X (.Call (.Attribute o name apos) (e :: es) [] cpos) (wML ob wo ws):=⟨FW slot hty hm ho.h ha.h hbase hfew hline hs hplain⟩
theorem cR {b i:Expr} {pos':Pos} (he:EE X e we) (ho:EE X b wo) (hi:EE X i wi) (hs:swapsWithSole [.Subscript b i pos'] e pos.line X.env = pure false:=by rfl) (hw:swappedStores [.Subscript b i pos'] e X.env = pure none:=by rfl) (h1:(assignEach [.Subscript b i pos'] X.env).map (·.2) = [assign (.Subscript b i pos') X.env]:=by rfl) (ha:∀ v,assign (.Subscript b i pos') X.env v = (do
   let ov ← holding [v] (eval b X.env)
   let iv ← holding [v,ov] (eval i X.env)
   standAt pos'
   holding [v,ov,iv] (setItem ov iv v)
   release [v,ov,iv] []):=by intro _; rfl):ES X (.Assign [.Subscript b i pos'] e pos) (y6 we wo wi):=⟨y4 he.h ho.h hi.h hs hw h1 ha⟩
theorem cF  : EO X none nG:=⟨ym⟩
theorem cG (he:EE X e we):EO X (some e) (xW we):=⟨Aq he.h⟩
theorem bU {lo hi:Option Expr} {wl wh:WO1} {p2:Pos} {ob:R→Option Int→Option Int→MSt→(R→Prop)→Prop} (hr:SlR X (sM X.kx ob)) (he:EE X e we) (hl:EO X lo wl) (hu:EO X hi wh):EE X (.Subscript e (.Slice lo hi none p2) pos) (wSl ob we wl wh):=⟨u5 hr he.h hl.h hu.h⟩
end
section
variable {X:Cx} {a:Expr} {es:List Expr} {ws:WA} {pos p:Pos} {k n:Nat} {sp:SpM} {x:Str}
theorem mf' (F:FnM X.prog X.w X.K X.mg X.base x k n sp) (hr:Room k X.A) (ha:EA X (a :: es) ws) (hg:Gl X x:=by rfl) (hdb:(x == ("__debug__" : Str)) = false:=by decide) (he:starEach (a :: es) X.env = (false,eval a X.env) :: starEach es X.env:=by first | exact aU rfl | rfl) (hpl:(backTo pos (starEach es X.env)).any (·.1) = false:=by rfl):EE X (.Call (.Name x p) (a :: es) [] pos) (rf sp ws):=⟨uU F hr ha.h hg hdb he hpl⟩
end
section
variable {X:Cx} {tg a:Expr} {ws:WA} {p p2 pos pos2:Pos}
theorem uw (hmr:X.mg "list" = none) (hm:X.mg "range" = none) (ha:EA X [a] ws) (hc:X.calm = true:=by rfl) (hgr:Gl X "list" := by rfl) (hg:Gl X "range" := by rfl) (hs:starEach [a] X.env = [(false,eval a X.env)]:=by first | exact bI rfl | rfl) (hs2:starEach [.Call (.Name "range" p2) [a] [] pos2] X.env = [(false,eval (.Call (.Name "range" p2) [a] [] pos2) X.env)]:=by rfl):EE X (.Call (.Name "list" p) [.Call (.Name "range" p2) [a] [] pos2] [] pos) (rl ws):=⟨vd hmr hm ha.h hc hgr hg hs hs2⟩
end
theorem aZ {P:Program} {w:World} {K:PySem.W.Frag} {mg:Str→Option Value} {base:Heap} {x:Str} {st:Stmt} {N ps:List Str} {n nN k:Nat} {sp:SpM} (D:DefM K mg x st ps) (S:aB N ps (ab st)) (hn:ps.length = n) (hN:N.length = nN) (hle:n≤nN) (ar:∀ as Kc,sp as Kc→as.length = n)
  (hbody:∀ (cdv:Value) (A:Around) (outer:List Env) (s:Shared) (H:Hp) (E:XK) (f:Addr),Room k (A.deeper (envOfC x (ab st) s.heap.objs.size f cdv)) →
   ∃ ww,ESs (cxOf CX0 P w K mg base N x (ab st) f cdv A outer s H E).nox (dr st) ww∧∀ as Kc,as.length = n→sp as Kc→ww { nx:=fun m=>Kc (.imm .none) (m.os.take m.np),rt:=fun r m=>retK Kc m r } (gC nN as)) :
  FnM P w K mg base x (k + 1) n sp:=E8 D S hn hN hle ar fun cdv A outer s H E f hr=>let ⟨ww,h1,h2⟩:=hbody cdv A outer s H E f hr; ⟨ww,h1.h,h2⟩
theorem xJ {P:Program} {w:World} {K:PySem.W.Frag} {mg:Str→Option Value} {base:Heap} {x:Str} {st:Stmt} {N ps:List Str} {n nN k:Nat} {sp:SpM} {f:Addr} {fd:FuncData} (F:Fun K x x st f fd) (S:aB N ps (ab st)) (hn:ps.length = n) (hN:N.length = nN) (hle:n≤nN)
  (hbody:∀ (cdv:Value) (A:Around) (outer:List Env) (s:Shared) (H:Hp) (E:XK) (f:Addr),Room k (A.deeper (envOfC x (ab st) s.heap.objs.size f cdv)) →
   ∃ ww,ESs (cxOf CX0 P w K mg base N x (ab st) f cdv A outer s H E).nox (dr st) ww∧∀ as Kc,as.length = n→sp as Kc→ww { nx:=fun m=>Kc (.imm .none) (m.os.take m.np),rt:=fun r m=>retK Kc m r } (gC nN as)) :
  FnOk P w K mg base CX0 (k + 1) f fd ps (spOf ⟨K,w⟩ n sp):=Df F S hn hN hle fun cdv A outer s H E f hr=>let ⟨ww,h1,h2⟩:=hbody cdv A outer s H E f hr; ⟨ww,h1.h,h2⟩
end L2
namespace HT
open PySem PySem.Spec PyProof.Rows
section
variable {prog:Program} {w:World} {A:Around} {E:Value→Shared→Prop} {s:Shared}
theorem cut_whole {t sl:Addr} {items:Array Value} {vl vu:Value} {lo hi:Option Int} {Q:Value→Shared→Prop} (ht:IsTup s.heap t items) (hs:s.heap.IsSliceOf sl vl vu .none) (pl:IsPart vl lo) (pu:IsPart vu hi)
  (hw:sIx items.size 0 lo = 0∧sIx items.size items.size hi = items.size) (h:Q (.ref t) s):wpAny (model prog w) A (getItem (.ref t) (.ref sl)) Q E s:=by
 obtain ⟨os,hos,hcs,hds⟩:=id hs
 have hTs:s.TypeIs (.ref sl) "slice" := ⟨os,hos,hcs⟩
 unfold getItem
 try with_reducible refine wpAny_holding ?_
 first | (refine wpAny_bind (wpAny_pure ?_)) | skip
 refine wpAny_bind (wpAny_sequenceKey ht.typeIs (by decide) (wpAny_bind (wpAny_callSpecial?_slot (name:=Str.ofString "__getitem__") ht.typeIs PyProof.Rows.slot_tuple_getitem (wpAny_call_entry PyProof.Rows.slot_tuple_getitem ht.typeIs entry_tuple_getitem ?_ (args_tuple_getitem _ _)))))
 show wpAny _ _ (Builtin.Tuple.tupleItemsOf (.ref t) >>= _) _ _ s
 refine wpAny_bind (tupleItemsOf_ ht (wpAny_bind (wpAny_typeOf hTs ?_)))
 rw [if_pos (by decide)]
 refine wpAny_bind (d7 hs pl pu ?_)
 have hyes:(((sIx items.size 0 lo:Nat):Int) == 0 && (1:Int) == 1 && (sIx items.size items.size hi - sIx items.size 0 lo) == items.size) = true:=by
  rw [hw.1,hw.2]; simp
 show wpAny _ _ (if (((sIx items.size 0 lo:Nat):Int) == 0 && (1:Int) == 1 && (sIx items.size items.size hi - sIx items.size 0 lo) == items.size) = true then _ else _) _ _ s
 rw [if_pos hyes]
 refine wpAny_bind ?_
 unfold Builtin.Tuple.tupleIsExact
 refine wpAny_bind (wpAny_typeOf ht.typeIs (wpAny_pure ?_))
 rw [if_pos (by rfl)]
 exact wpAny_bind (wpAny_rule (wpAny_pure ⟨_,rfl,wpAny_pure h⟩))
end
end HT
namespace L2
open PySem PySem.Spec PyProof.Rows
section
variable {X:Cx}
def oCut:R→Option Int→Option Int→MSt→(R→Prop)→Prop:=fun r lo hi m K=>(∃ ds,lsOf m r = some ds∧K (.new (cutD ds lo hi)))∨∃ ds,r = .imm (.tuple ds)∧K (.imm (.tuple (cutD ds lo hi)))
theorem dt:SlR X (sM X.kx oCut):=by
 intro pins s σ' H x v vl vu lo hi sl Q I rx hs pl pu hq
 obtain ⟨α,m,σ,H0,r,Kc,Rl,h,k | ⟨ds,rfl,k⟩,fin⟩:=hq
 ·exact vV pins s σ' H x v vl vu lo hi sl Q I rx hs pl pu ⟨α,m,σ,H0,r,Kc,Rl,h,k,fin⟩
 ·obtain ⟨a,xs,rfl,f,g⟩:=bt (show Den X.kx H (.tuple ds) x from h)
  by_cases hw:HT.sIx xs.length 0 lo = 0∧HT.sIx xs.length xs.length hi = xs.length
  ·cases rx
   obtain ⟨its,rv,ht,hz⟩:=I.tuple f
   have hlen:its.toArray.size = xs.length:=by rw [List.size_toArray]; exact rv.length.symm
   refine ⟨"tuple",_,PyProof.Rows.slot_tuple_getitem.lookup,ht.typeIs,?_⟩
   refine HT.cut_whole ht hs pl pu (by rw [hlen]; exact hw) ⟨.ref a,H,I,rfl,fin _ _ H k Rl (ib (dN f ?_)) (Frm.refl _ _)⟩
   have e:cutD ds lo hi = ds:=by
    unfold cutD
    rw [g.length,hw.1,hw.2,List.drop_zero,Nat.sub_zero,←g.length,List.take_length]
   rw [e]; exact g
  ·exact DM pins s σ' H _ v vl vu lo hi sl Q I rx hs pl pu ⟨a,xs,rfl,f,hw,fun p hp=>fin _ _ _ k (Rl.lay hp) (ib (dN (SqT.of aA) ((r8 g lo hi).mono (bh (.inl hp))))) (b9 hp)⟩
theorem yC {m:MSt} {r:R} {lo hi:Option Int} {Kr:R→Prop} {ds:List PyData} (e:lsOf m r = some ds) (h:Kr (.new (cutD ds lo hi))):oCut r lo hi m Kr:=.inl ⟨ds,e,h⟩
theorem BU {m:MSt} {lo hi:Option Int} {Kr:R→Prop} {ds:List PyData} (h:Kr (.imm (.tuple (cutD ds lo hi)))):oCut (.imm (.tuple ds)) lo hi m Kr:=.inr ⟨ds,rfl,h⟩
theorem kJ {ds:List PyData} (n:Nat):cutD ds none (some (n:Int)) = ds.take n:=by
 unfold cutD
 rw [HT.sIx_none,HT.sIx_nat,Nat.sub_zero,List.drop_zero]
 by_cases h:n≤ds.length
 ·rw [Nat.min_eq_left h]
 ·rw [Nat.min_eq_right (by omega),List.take_length,List.take_of_length_le (by omega)]
theorem i4 {ds:List PyData} (n:Nat):cutD ds (some (n:Int)) none = ds.drop n:=by
 unfold cutD
 rw [HT.sIx_none,HT.sIx_nat]
 by_cases h:n≤ds.length
 ·rw [Nat.min_eq_left h,List.take_of_length_le (by rw [List.length_drop]; omega)]
 ·rw [Nat.min_eq_right (by omega),List.drop_length,List.drop_eq_nil_of_le (by omega),List.take_nil]
def oIn (neg:Bool):WO:=fun r1 r2 m K=>∃ d ds,asD m r1 = some d∧(asD m r2 = some (.list ds)∨asD m r2 = some (.tuple ds))∧d.canLay0 = true∧PyData.canLayAll0 ds = true∧d.depth≤60∧K (.imm (.bool (if neg then !ds.any (fun y=>PyData.eqv y d) else ds.any fun y=>PyData.eqv y d)))
theorem rL (hu:X.A.units + 64 < cLine):OpR X (compareOp .In) (rM X.kx (oIn false)):=by
 rintro pins s σ' H x y v u Q I rx ry ⟨α,m,σ,H0,H1,r1,r2,Kc,Rl,h1,h2,⟨d,ds,e1,e2,c1,c2,dp,ho⟩,fin⟩
 obtain ⟨as,q1⟩:=h1.reads I Rl rx e1 (PyData.hasDict_of_canLay _ c1)
 have fin':EP X pins σ' Q (.bool (ds.any fun y=>PyData.eqv y d)) s:=⟨.bl _,H,I,rfl,fin _ _ H ho Rl (k9 _) (Frm.refl _ _)⟩
 have hm:X.A.units + 1 + min (PyData.depthAll ds) d.depth < cLine:=by have:=Nat.min_le_right (PyData.depthAll ds) d.depth; omega
 rcases e2 with e2 | e2
 ·obtain ⟨bs,q2⟩:=h2.reads I Rl ry e2 (by simp only [PyData.hasDict]; exact PyData.hasDictAll_of_canLayAll _ c2)
  exact SeqAt.in_list_reads q2 q1 c2 c1 hm fin'
 ·obtain ⟨bs,q2⟩:=h2.reads I Rl ry e2 (by simp only [PyData.hasDict]; exact PyData.hasDictAll_of_canLayAll _ c2)
  exact SeqAt.in_tuple_reads q2 q1 c2 c1 hm fin'
theorem mh (hu:X.A.units + 64 < cLine):OpR X (compareOp .NotIn) (rM X.kx (oIn true)):=by
 rintro pins s σ' H x y v u Q I rx ry ⟨α,m,σ,H0,H1,r1,r2,Kc,Rl,h1,h2,⟨d,ds,e1,e2,c1,c2,dp,ho⟩,fin⟩
 obtain ⟨as,q1⟩:=h1.reads I Rl rx e1 (PyData.hasDict_of_canLay _ c1)
 have fin':EP X pins σ' Q (.bool (!ds.any fun y=>PyData.eqv y d)) s:=⟨.bl _,H,I,rfl,fin _ _ H ho Rl (k9 _) (Frm.refl _ _)⟩
 have hm:X.A.units + 1 + min (PyData.depthAll ds) d.depth < cLine:=by have:=Nat.min_le_right (PyData.depthAll ds) d.depth; omega
 rcases e2 with e2 | e2
 ·obtain ⟨bs,q2⟩:=h2.reads I Rl ry e2 (by simp only [PyData.hasDict]; exact PyData.hasDictAll_of_canLayAll _ c2)
  exact SeqAt.notIn_list_reads q2 q1 c2 c1 hm fin'
 ·obtain ⟨bs,q2⟩:=h2.reads I Rl ry e2 (by simp only [PyData.hasDict]; exact PyData.hasDictAll_of_canLayAll _ c2)
  exact SeqAt.notIn_tuple_reads q2 q1 c2 c1 hm fin'
theorem x_in {m:MSt} {r1 r2:R} {Kr:R→Prop} {neg:Bool} {d:PyData} {ds:List PyData} {k k':Nat} (e1:asD m r1 = some d) (e2:asD m r2 = some (.list ds)∨asD m r2 = some (.tuple ds)) (s1:Shp k d) (s2:∀ y∈ds,Shp k' y) (hk:k≤60) (h:Kr (.imm (.bool (if neg then !ds.any (fun y=>PyData.eqv y d) else ds.any fun y=>PyData.eqv y d)))):oIn neg r1 r2 m Kr :=
 ⟨d,ds,e1,e2,s1.cl,(ig s2).1,Nat.le_trans s1.dp hk,h⟩
def Ig (P:List PyData→Prop):R→Prop
 | .new ds=>P ds
 | _=>False
def sr:WM:=fun r rs m K=>lq (fun k=>on1 (Ig fun es=>∃ ds,m.os[k]? = some ds∧ds.length + es.length≤sizeLine∧K (.imm .none) { m with os:=m.os.set k (ds++es) }) rs) r
theorem qF:MtM X "list.extend" (mM X.kx sr):=by
 rintro pins s σ' H x xs v us Q I rx rv ⟨α,m,σ,H0,H1,r,rs,Kc,Rl,h1,h2,ho,fin⟩
 obtain ⟨k,a,rfl,ea,rfl,ho⟩:=oX h1 ho
 obtain ⟨r2,v2,rfl,rfl,h2,ho⟩:=cv h2 ho
 cases r2 with
 | imm _=>exact ho.elim
 | obj _=>exact ho.elim
 | «at» _ _=>exact ho.elim
 | newT _=>exact ho.elim
 | new es =>
  obtain ⟨ds,e1,hz,ho⟩:=ho
  obtain ⟨b,zs,rfl,hb0,hb,gb⟩:=h2
  obtain ⟨ys,q,g⟩:=Rl.own _ _ ds ea e1
  obtain ⟨R2,F2⟩:=Rl.setO ea q (g.append gb)
  exact sd pins s σ' H _ _ v us Q I rx rv ⟨a,b,ys,zs,rfl,rfl,q,hb,by rw [←g.length,←gb.length]; exact hz,fin _ _ _ _ ho rfl R2 ow F2⟩
theorem u9 {m:MSt} {k:Nat} {K:R→MSt→Prop} {ds es:List PyData} (e:m.os[k]? = some ds) (hz:ds.length + es.length≤sizeLine) (h:K (.imm .none) { m with os:=m.os.set k (ds++es) }):sr (.obj k) [.new es] m K:=⟨ds,e,hz,h⟩
def w5:WM:=fun r rs m K=>on1 (f7 fun d=>∃ ds j,lsOf m r = some ds∧d.canLay0 = true∧PyData.canLayAll0 ds = true∧d.depth≤60∧(∃ y,ds[j]? = some y∧PyData.eqv y d = true)∧(∀ (i:Nat) y,i < j→ds[i]? = some y→PyData.eqv y d = false)∧K (.imm (.int (j:Nat))) m) rs
theorem fg (hu:X.A.units + 64 < cLine):MtM X "list.index" (mM X.kx w5):=by
 rintro pins s σ' H x xs v us Q I rx rv ⟨α,m,σ,H0,H1,r,rs,Kc,Rl,h1,h2,ho,fin⟩
 obtain ⟨r2,v2,rfl,rfl,h2,ho⟩:=cv h2 ho
 obtain ⟨d,rfl,hd,ds,j,el,c1,c2,dp,⟨y,ey,eq⟩,hno,ho⟩:=io h2 ho
 obtain ⟨a,zs,rfl,f,g⟩:=h1.list Rl el
 cases rx
 obtain ⟨u,rfl,ru⟩:=rv.one
 obtain ⟨bs,qd⟩:=Den.reads I (PyData.hasDict_of_canLay _ c1) hd ru
 obtain ⟨its,rvv,pl,hz⟩:=I.list f
 obtain ⟨o,n,ho1,hc,hdict⟩:=pl
 obtain ⟨as,rds⟩:=DenAll.reads I (PyData.hasDictAll_of_canLayAll _ c2) g rvv
 have hm:X.A.units + 1 + min (PyData.depthAll ds) d.depth < cLine:=by have:=Nat.min_le_right (PyData.depthAll ds) d.depth; omega
 have hmap:=SeqAt.readsAll_map ds _ _ c2 rds
 have hl:its.length = ds.length:=by rw [←hmap,List.length_map]
 have hj:j < its.length:=by rw [hl]; exact (List.getElem?_eq_some_iff.mp ey).1
 have ro:∀ (i:Nat) (hi:i < its.length) y,ds[i]? = some y→SeqAt.readOf s.heap its[i] = y:=fun i hi y e=>by
  rw [←hmap,List.getElem?_map,List.getElem?_eq_getElem hi] at e
  exact Option.some.inj e
 obtain ⟨cls,dd,data,sl⟩:=o
 obtain ⟨hdict,hdata⟩:=hdict
 dsimp only at hc hdata
 subst hc
 subst hdata
 have hsm:(j:Int) < 2 ^ 63 - 1:=by
  have h16:=hz
  rw [sizeLine_eq] at h16
  have:=rvv.length
  omega
 refine call_meets PySem.F.slot_list_index ⟨_,ho1,rfl⟩ PySem.F.entry_list_index (PySem.F.args_list_index_2 _ _)
  (SeqAt.list_indexAt a its.toArray _ dd sl u (fun y=>PyData.eqv (SeqAt.readOf s.heap y) d) j (by simpa using hj) hsm ?_ ?_) ⟨ho1,SeqAt.items_eqAt (by simpa using rds) qd c2 c1 hm,?_⟩
 ·show PyData.eqv (SeqAt.readOf s.heap its[j]) d = true
  rw [ro j hj y ey]; exact eq
 ·intro i hi hlt
  have hi':i < its.length:=by simpa using hi
  show PyData.eqv (SeqAt.readOf s.heap its[i]) d = false
  have hi2:i < ds.length:=by rw [←hl]; exact hi'
  rw [ro i hi' _ (List.getElem?_eq_getElem hi2)]
  exact hno i _ hlt (List.getElem?_eq_getElem hi2)
 ·exact ⟨.int (j:Nat),H,I.tok _,⟨_,rfl⟩,fin _ _ _ H ho rfl Rl (dh _) (Frm.refl _ _)⟩
theorem iO {m:MSt} {r:R} {d y:PyData} {ds:List PyData} {j k k':Nat} {K:R→MSt→Prop} (e:lsOf m r = some ds) (s1:Shp k d) (s2:∀ y∈ds,Shp k' y) (hk:k≤60) (ey:ds[j]? = some y) (eq:PyData.eqv y d = true) (hno:∀ (i:Nat) y,i < j→ds[i]? = some y→PyData.eqv y d = false) (h:K (.imm (.int (j:Nat))) m):w5 r [.imm d] m K :=
 ⟨ds,j,e,s1.cl,(ig s2).1,Nat.le_trans s1.dp hk,⟨y,ey,eq⟩,hno,h⟩
end
theorem Inv.turneds {X:Cx} {pins:List (Addr×Obj)} {σ : St} {H:Hp} {s:Shared} {h':Heap} {t':Nat} {ch:List Addr} (I:Inv X pins σ H s) (k:∀ b o,b∉ch→s.heap.get? b = some o→h'.get? b = some o) (hf:∀ b∈ch,FpOk X pins H b):Inv X pins σ H { s with heap:=h',toks:=t' }:=by
 have nit:∀ b u,H b = some u→b∉ch:=fun b u e z=>by have:=(hf b z).1; rw [this] at e; cases e
 have nl:X.env.locals∉ch:=fun z=>(hf _ z).2.1 rfl
 refine I.step (g':=s.gens) (d':=s.drawn) (ch:=ch) (fun b hb=>?_) (fun b o _ _ hc e _=>k b o hc e) (fun b o _ _ hc e _=>⟨o.slots,k b o hc e⟩) (fun _ _ _ _ n=>n)
  (fun b o hc e=>⟨o,k b o hc e⟩) (fun _ _ e=>e) (fun _ _ _ e=>e) (fun b ps e=>⟨#[],by rw [e]; simp⟩) (fun m hm=>?_) (fun b u e=>?_) I.bare
 ·obtain ⟨_,f1,_,f3,f4,f5⟩:=hf b hb
  exact ⟨f3,f1,f4,f5⟩
 ·obtain ⟨o,es,ep,ho,r⟩:=hm
  exact ⟨o,es,ep,k _ o nl ho,r⟩
 ·refine (I.hok b u e).stay (fun c v hc q=>k c v ?_ q) (fun _ q=>q) fun _ _ q=>q
  rcases hc with z | z
  ·rw [z]; exact nit b u e
  ·exact nit c _ z
def SubI (t:Bool) (h:Heap) (i l:Addr) (k:Nat):Prop:=if t then h.IsTupleIter i l k else h.IsListIter i l k
def SubS (t:Bool) (h:Heap) (l:Addr) (its:Array Value):Prop:=if t then h.IsTuple l its else h.IsList l its
theorem SubI.ext {t:Bool} {h h':Heap} {b i l:Addr} {k:Nat} (x:SubI t h i l k) (e:Heap.ExtBut b h h') (n:i≠b):SubI t h' i l k:=by
 cases t
 ·exact Heap.IsListIter.extBut (show h.IsListIter i l k from x) e n
 ·exact Heap.IsTupleIter.extBut (show h.IsTupleIter i l k from x) e n
theorem SubI.obj {t:Bool} {h:Heap} {i l:Addr} {k:Nat} (x:SubI t h i l k):∃ o vs,h.get? i = some o∧o.data = .fields vs:=by
 cases t
 ·obtain ⟨o,e,_,d⟩:=(show h.IsListIter i l k from x); exact ⟨o,_,e,d⟩
 ·obtain ⟨o,e,_,d⟩:=(show h.IsTupleIter i l k from x); exact ⟨o,_,e,d⟩
theorem SubI.keep {t:Bool} {h h':Heap} {i l:Addr} {k:Nat} (x:SubI t h i l k) (e:∀ o,h.get? i = some o→h'.get? i = some o):SubI t h' i l k:=by
 cases t
 ·obtain ⟨o,q,r⟩:=(show h.IsListIter i l k from x); exact ⟨o,e o q,r⟩
 ·obtain ⟨o,q,r⟩:=(show h.IsTupleIter i l k from x); exact ⟨o,e o q,r⟩
theorem SubS.keep {t:Bool} {h h':Heap} {l:Addr} {its:Array Value} (x:SubS t h l its) (e:∀ o,h.get? l = some o→h'.get? l = some o):SubS t h' l its:=by
 cases t
 ·obtain ⟨o,q,r⟩:=(show h.IsList l its from x); exact ⟨o,e o q,r⟩
 ·obtain ⟨o,q,r⟩:=(show h.IsTuple l its from x); exact ⟨o,e o q,r⟩
theorem SubS.ext {t:Bool} {h h':Heap} {b l:Addr} {its:Array Value} (x:SubS t h l its) (e:Heap.ExtBut b h h') (n:l≠b):SubS t h' l its:=x.keep fun o q=>e l o n q
section
variable {prog:Program} {w:World} {A:Around} {E:Value→Shared→Prop} {s:Shared}
theorem vC {α : Type} {Q : α→Shared→Prop} (hh:A.handled = none) (h:∀ h' e,(∀ b o,s.heap.get? b = some o→h'.get? b = some o)→(∃ o,h'.get? e = some o∧o.cls = .type "StopIteration")→E (.ref e) { s with heap:=h' }) :
  wpAny (model prog w) A (do raiseNew (← newExc (.type "StopIteration") []):Sem α) Q E s:=by
 refine wpAny_bind (m:=newExc (.type "StopIteration") []) ?_
 refine wpAny_bind (m:=newTuple []) (wpAny_newObj_type ?_ (by size_fits))
 refine wpAny_bind (m:=firstArgMember (.type "StopIteration") []) (wpAny_of_eq (a:=Value.none) (by rfl) (wpAny_newObj_type ?_ (by size_fits)))
 refine wpAny_bind (m:=handled) (wpAny_handled ?_)
 rw [hh]
 refine wpAny_bind (wpAny_pure (wpAny_throw (h _ _ (fun b o q=>Heap.get?_push_of_some _ (Heap.get?_push_of_some _ q)) ⟨_,Heap.get?_push_size _ rfl,rfl⟩)))
theorem GG {it l:Addr} {i:Nat} {Q:Value→Shared→Prop} (hit:s.heap.IsTupleIter it l i) (h:Q (.ref l) s):wpAny (model prog w) A (field (.ref it) 0) Q E s:=let ⟨_,ho,_,hd⟩:=hit; wpAny_field ho hd (x:=.ref l) rfl h
theorem GH {it l:Addr} {i:Nat} {Q:Value→Shared→Prop} (hit:s.heap.IsTupleIter it l i) (h:Q (.int i 0) s):wpAny (model prog w) A (field (.ref it) 1) Q E s:=let ⟨_,ho,_,hd⟩:=hit; wpAny_field ho hd (x:=.int i 0) rfl h
theorem FT {l:Addr} {items:Array Value} {Q:Option (Array Value)→Shared→Prop} (hl:s.heap.IsTuple l items) (h:Q (some items) s):wpAny (model prog w) A (seqItems? (.ref l)) Q E s:=let ⟨_,ho,_,_,hd⟩:=hl; wpAny_seqItems ho hd h
theorem oG {it l:Addr} {i:Nat} {items:Array Value} {Q:Option Value→Shared→Prop} (hit:s.heap.IsTupleIter it l i) (hl:s.heap.IsTuple l items)
  (hs:∀ x,items[i]? = some x→∀ h',h'.IsTupleIter it l (i + 1)→Heap.SameBut it s.heap h'→Q (some x) { s with heap:=h' })
  (hE:items[i]? = none→A.handled = none∧∀ h' e,Heap.ExtBut it s.heap h'→(∃ o,h'.get? e = some o∧o.cls = .type "StopIteration")→E (.ref e) { s with heap:=h' }) :
  wpAny (model prog w) A (callSpecial? (.ref it) "__next__" []) Q E s:=by
 refine wpAny_callSpecial?_slot (name:=Str.ofString "__next__") hit.typeIs F.slot_tuple_iterator_next (wpAny_call_entry F.slot_tuple_iterator_next hit.typeIs F.entry_tuple_iterator_next ?_ (F.args_tuple_iterator_next_1 _))
 wp_walk using GG hit,GH hit,FT hl
 rcases id hit with ⟨o,ho,hc,hd⟩
 rw [Int.toNat_natCast]
 cases q:items[i]? with
 | some x =>
  have new:(s.heap.update it (Obj.mapFields (·.setIfInBounds 1 (rawInt ((i:Int) + 1))))).IsTupleIter it l (i + 1):=by
   refine ⟨_,Heap.get?_update_self _ ho (Obj.isFreed_of_fields (Obj.data_mapFields hd _)),?_,?_⟩
   ·exact (Obj.cls_mapFields ..).trans hc
   ·rw [Obj.data_mapFields hd]; simp [rawInt]
  exact wpAny_bind (m:=setField (.ref it) 1 _) (wpAny_setField ho hd (by simp) (wpAny_pure ⟨x,rfl,hs x q _ new (Heap.SameBut.update ..)⟩))
 | none =>
  obtain ⟨hh,hE⟩:=hE q
  refine wpAny_bind (m:=rule _) (wpAny_rule (wpAny_bind (m:=setField (.ref it) 0 _) (wpAny_setField ho hd (by simp) ?_)))
  exact vC (A:=A.in1) hh fun h' e k x=>hE h' e (fun b ob nb z=>k b ob ((Heap.SameBut.update ..).extBut b ob nb z)) x
theorem iI {t:Bool} {it l:Addr} {i:Nat} {items:Array Value} {x:Value} {Q:Value→Shared→Prop} (hit:SubI t s.heap it l i) (hl:SubS t s.heap l items) (hx:items[i]? = some x)
  (hQ:∀ h',SubI t h' it l (i + 1)→Heap.SameBut it s.heap h'→Q x { s with heap:=h' }):wpAny (model prog w) A (Builtin.SmallTypes.nextOf (.ref it)) Q E s:=by
 cases t with
 | false=>exact wpAny_nextOf_list_item (show s.heap.IsListIter it l i from hit) (show s.heap.IsList l items from hl) hx hQ
 | true=>exact wpAny_bind (m:=callSpecial? (.ref it) "__next__" []) (oG (show s.heap.IsTupleIter it l i from hit) (show s.heap.IsTuple l items from hl) (fun y ey h' a b=>by rw [hx] at ey; cases ey; exact wpAny_pure (hQ h' a b)) fun no=>by rw [hx] at no; cases no)
theorem nW {t:Bool} {it l:Addr} {i:Nat} {items:Array Value} {Q:Value→Shared→Prop} (hh:A.handled = none) (hit:SubI t s.heap it l i) (hl:SubS t s.heap l items) (hx:items[i]? = none)
  (hE:∀ h' e,Heap.ExtBut it s.heap h'→(∃ o,h'.get? e = some o∧o.cls = .type "StopIteration")→E (.ref e) { s with heap:=h' }):wpAny (model prog w) A (Builtin.SmallTypes.nextOf (.ref it)) Q E s:=by
 cases t with
 | false=>exact wpAny_nextOf_list_end hh (show s.heap.IsListIter it l i from hit) (show s.heap.IsList l items from hl) hx hE
 | true=>exact wpAny_bind (m:=callSpecial? (.ref it) "__next__" []) (oG (show s.heap.IsTupleIter it l i from hit) (show s.heap.IsTuple l items from hl) (fun y ey=>by rw [hx] at ey; cases ey) fun _=>⟨hh,hE⟩)
structure Apart (z TI TO i1 i2 l1 l2:Addr):Prop where
 d:[z,TI,TO,i1,i2].Nodup
 m1:l1∉[z,TI,TO,i1,i2]
 m2:l2∉[z,TI,TO,i1,i2]
theorem Apart.old {z TI TO i1 i2 l1 l2:Addr} (D:Apart z TI TO i1 i2 l1 l2):ZipApart z TI TO i1 i2 l1 l2:=by
 obtain ⟨d,m1,m2⟩:=D
 simp only [List.nodup_cons,List.mem_cons,List.not_mem_nil,not_or,or_false,List.nodup_nil,and_true,not_false_eq_true] at d m1 m2
 obtain ⟨⟨a1,a2,a3,a4⟩,⟨b1,b2,b3⟩,⟨c1,c2⟩,d1⟩:=d
 exact ⟨Ne.symm a1,Ne.symm a2,Ne.symm a3,Ne.symm a4,b1,b2,b3,c1,c2,d1,m1.1,m1.2.2.1,m1.2.2.2.1,m1.2.2.2.2,m2.1,m2.2.2.1,m2.2.2.2.1,m2.2.2.2.2⟩
structure v8 (t1 t2:Bool) (z TI TO i1 i2 l1 l2:Addr) (k:Nat) (h:Heap):Prop where
 z:IsZip h z TI TO .none
 ti:IsPair h TI (.ref i1) (.ref i2)
 to:∃ a b,IsPair h TO a b
 s1:SubI t1 h i1 l1 k
 s2:SubI t2 h i2 l2 k
theorem zf0 {z TI TO:Addr} {f:Value} {Q:Value→Shared→Prop} (hz:IsZip s.heap z TI TO f) (h:Q f s):wpAny (model prog w) A (field (.ref z) 0) Q E s:=wpAny_field hz rfl (x:=f) rfl h
theorem zf2 {z TI TO:Addr} {f:Value} {Q:Value→Shared→Prop} (hz:IsZip s.heap z TI TO f) (h:Q (.bool false) s):wpAny (model prog w) A (field (.ref z) 2) Q E s:=wpAny_field hz rfl (x:=.bool false) rfl h
theorem zf3 {z TI TO:Addr} {f:Value} {Q:Value→Shared→Prop} (hz:IsZip s.heap z TI TO f) (h:Q (.ref TI) s):wpAny (model prog w) A (field (.ref z) 3) Q E s:=wpAny_field hz rfl (x:=.ref TI) rfl h
theorem ve {t1 t2:Bool} {z TI TO i1 i2 l1 l2:Addr} {k:Nat} {xs ys:Array Value} {x y:Value} {Q:Option Value→Shared→Prop} (D0:Apart z TI TO i1 i2 l1 l2) (Z:v8 t1 t2 z TI TO i1 i2 l1 l2 k s.heap)
  (hl1:SubS t1 s.heap l1 xs) (hl2:SubS t2 s.heap l2 ys) (hx:xs[k]? = some x) (hy:ys[k]? = some y)
  (hQ:∀ h',IsZip h' z TI TO (rawInt s.heap.objs.size)→IsPair h' TO x y→SubI t1 h' i1 l1 (k + 1)→SubI t2 h' i2 l2 (k + 1)→IsPair h' s.heap.objs.size x y→h'.objs.size = s.heap.objs.size + 1 →
   (∀ c o,c∉[z,TO,i1,i2]→s.heap.get? c = some o→h'.get? c = some o)→Q (some (.ref s.heap.objs.size)) { s with heap:=h' }):wpAny (model prog w) A (pyNext (.ref z)) Q E s:=by
 have D:=D0.old
 obtain ⟨hz,hTI,⟨a,b,hTO⟩,h1,h2⟩:=Z
 have hT:s.TypeIs (.ref z) "zip" := (⟨_,hz,rfl⟩)
 unfold pyNext
 refine wpAny_bind (wpAny_attempt (wpAny_callSpecial?_slot (name:=Str.ofString "__next__") hT F.slot_zip_next (wpAny_call_entry F.slot_zip_next hT F.entry_zip_next ?_ (F.args_zip_next_1 _))))
 refine wpAny_bind (m:=field (.ref z) 2) (zf2 hz (wpAny_bind (m:=field (.ref z) 3) (zf3 hz (wpAny_bind (wpAny_seqItems hTI rfl ?_)))))
 refine wpAny_bind (m:=Builtin.SmallTypes.ownedTupleIsFree (.ref z)) (wpAny_bind (m:=field (.ref z) 0) (zf0 hz (wpAny_pure ?_)))
 simp only [if_true]
 refine wpAny_bind (wpAny_rule (wpAny_bind (wpAny_field hz rfl (x:=.ref TO) rfl (wpAny_bind (wpAny_setField_rec hz (by simp) fun g1 hz1 s1=>?_)))))
 replace hz1:IsZip g1 z TI TO .ellipsis:=hz1
 refine wpAny_bind ?_
 simp only [List.forIn_cons,List.forIn_nil,List.zipIdx_cons,List.zipIdx_nil]
 refine wpAny_bind (wpAny_bind (wpAny_onRaise (wpAny_bind (m:=Builtin.SmallTypes.nextOf (.ref i1)) ?_)))
 refine (iI (h1.ext s1.extBut D.i1z) (hl1.ext s1.extBut D.l1z) hx fun g2 n1 s2=>wpAny_pure ?_)
 have hTO2:IsPair g2 TO a b:=s2.extBut _ _ D.TOi1 (s1.extBut _ _ D.TOz hTO)
 refine wpAny_bind (wpAny_seqItems hTO2 rfl (wpAny_bind (wpAny_updateSeq_pair hTO2 fun g3 hTO3 s3=>?_)))
 replace hTO3:IsPair g3 TO x b:=hTO3
 refine wpAny_bind (wpAny_letGo (wpAny_pure (wpAny_bind (wpAny_bind (wpAny_onRaise ?_)))))
 refine wpAny_bind (m:=Builtin.SmallTypes.nextOf (.ref i2)) (iI (((h2.ext s1.extBut D.i2z).ext s2.extBut D.i12.symm).ext s3.extBut D.TOi2.symm) (((hl2.ext s1.extBut D.l2z).ext s2.extBut D.l2i1).ext s3.extBut D.l2TO) hy fun g4 n2 s4=>wpAny_pure ?_)
 have hTO4:IsPair g4 TO x b:=s4.extBut _ _ D.TOi2 hTO3
 refine wpAny_bind (wpAny_seqItems hTO4 rfl (wpAny_bind (wpAny_updateSeq_pair hTO4 fun g5 hTO5 s5=>?_)))
 replace hTO5:IsPair g5 TO x y:=hTO5
 refine wpAny_bind (wpAny_letGo (wpAny_pure (wpAny_pure (wpAny_bind (wpAny_seqItems hTO5 rfl (wpAny_bind (wpAny_newTuple ?_)))))))
 have hsz:g5.objs.size = s.heap.objs.size:=by rw [s5.1,s4.1,s3.1,s2.1,s1.1]
 have hz5:IsZip g5 z TI TO .ellipsis:=s5.extBut _ _ D.TOz.symm (s4.extBut _ _ D.i2z.symm (s3.extBut _ _ D.TOz.symm (s2.extBut _ _ D.i1z.symm hz1)))
 have k5:∀ c o,c∉[z,TO,i1,i2]→s.heap.get? c = some o→g5.get? c = some o:=fun c o hc e=>by
  simp only [List.mem_cons,List.not_mem_nil,not_or,or_false] at hc
  exact s5.extBut _ _ hc.2.1 (s4.extBut _ _ hc.2.2.2 (s3.extBut _ _ hc.2.1 (s2.extBut _ _ hc.2.2.1 (s1.extBut _ _ hc.1 e))))
 have n15:SubI t1 g5 i1 l1 (k + 1):=((n1.ext s3.extBut D.TOi1.symm).ext s4.extBut D.i12).ext s5.extBut D.TOi1.symm
 have n25:SubI t2 g5 i2 l2 (k + 1):=n2.ext s5.extBut D.TOi2.symm
 have zlt:z < g5.objs.size:=Heap.lt_size hz5
 refine wpAny_bind (m:=Builtin.SmallTypes.ownedTupleHandOut (.ref z) (.ref g5.objs.size)) ?_
 have hz6:IsZip (g5.push { cls:=.type "tuple",data:=.seq #[x,y] }) z TI TO .ellipsis:=Heap.get?_push_of_some _ hz5
 refine wpAny_bind (m:=setField (.ref z) 0 _) (wpAny_setField_rec hz6 (by simp) fun g7 hz7 s7=>?_)
 replace hz7:IsZip g7 z TI TO (rawInt g5.objs.size):=hz7
 refine wpAny_setField_rec hz7 (by simp) fun g8 hz8 s8=>?_
 replace hz8:IsZip g8 z TI TO (rawInt g5.objs.size):=hz8
 have up:∀ c o,c≠z→g5.get? c = some o→g8.get? c = some o:=fun c o c1 e=>s8.extBut _ _ c1 (s7.extBut _ _ c1 (Heap.get?_push_of_some _ e))
 have hT8:IsPair g8 g5.objs.size x y:=s8.extBut _ _ (Nat.ne_of_gt zlt) (s7.extBut _ _ (Nat.ne_of_gt zlt) (Heap.get?_push_size _ rfl))
 have z8:g8.objs.size = g5.objs.size + 1:=by rw [s8.1,s7.1,Heap.size_push]
 rw [hsz] at hz8 hT8 z8
 have fin:wpAny (model prog w) A (pure (some (Value.ref g5.objs.size))) Q E { s with heap:=g8 }:=by
  rw [hsz]
  exact wpAny_pure (hQ g8 hz8 (up _ _ D.TOz hTO5) (n15.keep fun o e=>up _ o D.i1z e) (n25.keep fun o e=>up _ o D.i2z e) hT8 z8 fun c o hc e=>up c o (fun q=>hc (by simp [q])) (k5 c o hc e))
 exact wpAny_pure ⟨_,rfl,fin⟩
theorem yB {t1 t2:Bool} {z TI TO i1 i2 l1 l2:Addr} {k:Nat} {xs ys:Array Value} {Q:Option Value→Shared→Prop} (hh:A.handled = none) (D0:Apart z TI TO i1 i2 l1 l2) (Z:v8 t1 t2 z TI TO i1 i2 l1 l2 k s.heap)
  (hl1:SubS t1 s.heap l1 xs) (hl2:SubS t2 s.heap l2 ys) (hend:xs[k]? = none∨ys[k]? = none)
  (hQ:∀ h',(∀ c o,c∉[z,TO,i1,i2]→s.heap.get? c = some o→h'.get? c = some o)→Q none { s with heap:=h' }):wpAny (model prog w) A (pyNext (.ref z)) Q E s:=by
 have D:=D0.old
 obtain ⟨hz,hTI,⟨a,b,hTO⟩,h1,h2⟩:=Z
 have hT:s.TypeIs (.ref z) "zip" := (⟨_,hz,rfl⟩)
 have out:∀ {c:Addr},c∉[z,TO,i1,i2]→c≠z∧c≠TO∧c≠i1∧c≠i2:=fun hc=>by simpa only [List.mem_cons,List.not_mem_nil,not_or,or_false] using hc
 have fin:∀ h' e,(∀ c o,c∉[z,TO,i1,i2]→s.heap.get? c = some o→h'.get? c = some o)→(∃ o,h'.get? e = some o∧o.cls = .type "StopIteration") →
   wpAny (model prog w) A (do if ← isInstance (.ref e) (.type "StopIteration") then pure none else throw (.ref e):Sem (Option Value)) Q E { s with heap:=h' }:=fun h' e hk ⟨o,ho,hc⟩ =>
  wpAny_bind (wpAny_isInstance (T := "StopIteration") (b:=true) ⟨o,ho,hc⟩ isSubtype_stop (wpAny_pure (hQ _ hk)))
 unfold pyNext
 refine wpAny_bind (wpAny_attempt (wpAny_callSpecial?_slot (name:=Str.ofString "__next__") hT F.slot_zip_next (wpAny_call_entry F.slot_zip_next hT F.entry_zip_next ?_ (F.args_zip_next_1 _))))
 refine wpAny_bind (m:=field (.ref z) 2) (zf2 hz (wpAny_bind (m:=field (.ref z) 3) (zf3 hz (wpAny_bind (wpAny_seqItems hTI rfl ?_)))))
 refine wpAny_bind (m:=Builtin.SmallTypes.ownedTupleIsFree (.ref z)) (wpAny_bind (m:=field (.ref z) 0) (zf0 hz (wpAny_pure ?_)))
 simp only [if_true]
 refine wpAny_bind (wpAny_rule (wpAny_bind (wpAny_field hz rfl (x:=.ref TO) rfl (wpAny_bind (wpAny_setField_rec hz (by simp) fun g1 hz1 s1=>?_)))))
 replace hz1:IsZip g1 z TI TO .ellipsis:=hz1
 refine wpAny_bind ?_
 simp only [List.forIn_cons,List.forIn_nil,List.zipIdx_cons,List.zipIdx_nil]
 refine wpAny_bind (wpAny_bind (wpAny_onRaise (wpAny_bind (m:=Builtin.SmallTypes.nextOf (.ref i1)) ?_)))
 cases hx:xs[k]? with
 | none =>
  refine (nW hh (h1.ext s1.extBut D.i1z) (hl1.ext s1.extBut D.l1z) hx fun g2 e s2 he=>?_)
  obtain ⟨oe,hoe,hce⟩:=he
  have hz2:IsZip g2 z TI TO .ellipsis:=s2 _ _ D.i1z.symm hz1
  have hez:e≠z:=fun q=>by subst q; rw [hz2] at hoe; cases hoe; simp at hce
  refine wpAny_setField_rec hz2 (by simp) fun g3 _ s3=>fin g3 e (fun c o hc q=>?_) ⟨oe,s3.extBut _ _ hez hoe,hce⟩
  obtain ⟨c1,_,c3,_⟩:=out hc
  exact s3.extBut _ _ c1 (s2 _ _ c3 (s1.extBut _ _ c1 q))
 | some x =>
  have hy:ys[k]? = none:=by rcases hend with q | q; rw [hx] at q; cases q; exact q
  refine (iI (h1.ext s1.extBut D.i1z) (hl1.ext s1.extBut D.l1z) hx fun g2 n1 s2=>wpAny_pure ?_)
  have hTO2:IsPair g2 TO a b:=s2.extBut _ _ D.TOi1 (s1.extBut _ _ D.TOz hTO)
  refine wpAny_bind (wpAny_seqItems hTO2 rfl (wpAny_bind (wpAny_updateSeq_pair hTO2 fun g3 hTO3 s3=>?_)))
  refine wpAny_bind (wpAny_letGo (wpAny_pure (wpAny_bind (wpAny_bind (wpAny_onRaise ?_)))))
  refine wpAny_bind (m:=Builtin.SmallTypes.nextOf (.ref i2)) (nW hh (((h2.ext s1.extBut D.i2z).ext s2.extBut D.i12.symm).ext s3.extBut D.TOi2.symm) (((hl2.ext s1.extBut D.l2z).ext s2.extBut D.l2i1).ext s3.extBut D.l2TO) hy fun g4 e s4 he=>?_)
  obtain ⟨oe,hoe,hce⟩:=he
  have hz4:IsZip g4 z TI TO .ellipsis:=s4 _ _ D.i2z.symm (s3.extBut _ _ D.TOz.symm (s2.extBut _ _ D.i1z.symm hz1))
  have hez:e≠z:=fun q=>by subst q; rw [hz4] at hoe; cases hoe; simp at hce
  refine wpAny_setField_rec hz4 (by simp) fun g5 _ s5=>fin g5 e (fun c o hc q=>?_) ⟨oe,s5.extBut _ _ hez hoe,hce⟩
  obtain ⟨c1,c2,c3,c4⟩:=out hc
  exact s5.extBut _ _ c1 (s4 _ _ c4 (s3.extBut _ _ c2 (s2.extBut _ _ c3 (s1.extBut _ _ c1 q))))
end
def zit (t:Bool):String:=if t then "tuple_iterator" else "list_iterator"
abbrev itO (t:Bool) (l:Addr):Obj:={ cls:=.type (zit t),data:=.fields #[.ref l,.int 0 0] }
abbrev zA (t1:Bool) (h:Heap) (l1:Addr):Heap:=h.push (itO t1 l1)
abbrev zB (t1 t2:Bool) (h:Heap) (l1 l2:Addr):Heap:=(zA t1 h l1).push (itO t2 l2)
abbrev zC (t1 t2:Bool) (h:Heap) (l1 l2:Addr):Heap:=(zB t1 t2 h l1 l2).push { cls:=.type "tuple",data:=.seq #[.ref h.objs.size,.ref (zA t1 h l1).objs.size] }
abbrev zD (t1 t2:Bool) (h:Heap) (l1 l2:Addr):Heap:=(zC t1 t2 h l1 l2).push { cls:=.type "tuple",data:=.seq #[.none,.none] }
abbrev zE (t1 t2:Bool) (h:Heap) (l1 l2:Addr):Heap:=(zD t1 t2 h l1 l2).push { cls:=.type "zip",data:=.fields #[.none,.bool false,.bool false,.ref (zB t1 t2 h l1 l2).objs.size,.ref (zC t1 t2 h l1 l2).objs.size] }
theorem cY {prog:Program} {w:World} {A:Around} {E:Value→Shared→Prop} {s:Shared} {t:Bool} {l:Addr} {its:Array Value} {Q:Value→Shared→Prop} (h:SubS t s.heap l its)
  (hQ:Q (.ref s.heap.objs.size) { s with heap:=s.heap.push (itO t l) }):wpAny (model prog w) A (pyIter (.ref l)) Q E s:=by
 cases t
 ·exact wpAny_pyIter_list (show s.heap.IsList l its from h) hQ
 ·exact wpAny_pyIter_tuple (show s.heap.IsTuple l its from h) hQ
theorem xZ (t1 t2:Bool) (l1 l2:Addr) (xs ys:Array Value) :
  Meets (Builtin.«zip.__new__» ⟨[.type "zip",.ref l1,.ref l2],[]⟩) (fun _ R s=>SubS t1 s.heap l1 xs∧SubS t2 s.heap l2 ys∧R (.ok (.ret (.ref (zD t1 t2 s.heap l1 l2).objs.size))) { s with heap:=zE t1 t2 s.heap l1 l2 }) :=
 .of_wp fun prog w A R s h=>by
  rcases s with ⟨hp,g,d,tk,os⟩
  rcases h with ⟨hl1,hl2,h⟩
  have hsub:=sub_zip
  have hL1:SubS t1 (Shared.heap ⟨hp,g,d,tk,os⟩) l1 xs:=hl1
  have hL2:SubS t2 (Shared.heap ⟨hp.push (itO t1 l1),g,d,tk,os⟩) l2 ys:=hl2.keep fun o e=>Heap.get?_push_of_some _ e
  wp_walk using cY hL1,cY hL2
  exact ⟨_,rfl,h⟩
section
variable {prog:Program} {w:World} {A:Around} {E:Value→Shared→Prop} {s:Shared}
theorem wj {t1 t2:Bool} {l1 l2:Addr} {xs ys:Array Value} {Q:Value→Shared→Prop} (hl1:SubS t1 s.heap l1 xs) (hl2:SubS t2 s.heap l2 ys)
  (h:∀ h',v8 t1 t2 (s.heap.objs.size + 4) (s.heap.objs.size + 2) (s.heap.objs.size + 3) s.heap.objs.size (s.heap.objs.size + 1) l1 l2 0 h'→(∀ c o,s.heap.get? c = some o→h'.get? c = some o)→Q (.ref (s.heap.objs.size + 4)) { s with heap:=h' }):wpAny (model prog w) A (call (.type "zip") [.ref l1,.ref l2]) Q E s:=by
 refine callType_new F.called_zip (by decide) (F.typeCall_zip_2 _ _) (F.newCall_zip_2 _ _) (fun obj=>F.args_object_init_3 obj _ _) F.entry_zip_new (xZ t1 t2 l1 l2 xs ys) ⟨hl1,hl2,?_⟩
 have z1:(zA t1 s.heap l1).objs.size = s.heap.objs.size + 1:=Heap.size_push ..
 have z2:(zB t1 t2 s.heap l1 l2).objs.size = s.heap.objs.size + 2:=by rw [Heap.size_push,z1]
 have z3:(zC t1 t2 s.heap l1 l2).objs.size = s.heap.objs.size + 3:=by rw [Heap.size_push,z2]
 have z4:(zD t1 t2 s.heap l1 l2).objs.size = s.heap.objs.size + 4:=by rw [Heap.size_push,z3]
 have up1:∀ c o,(zD t1 t2 s.heap l1 l2).get? c = some o→(zE t1 t2 s.heap l1 l2).get? c = some o:=fun c o e=>Heap.get?_push_of_some _ e
 have up2:∀ c o,(zC t1 t2 s.heap l1 l2).get? c = some o→(zE t1 t2 s.heap l1 l2).get? c = some o:=fun c o e=>up1 c o (Heap.get?_push_of_some _ e)
 have up3:∀ c o,(zB t1 t2 s.heap l1 l2).get? c = some o→(zE t1 t2 s.heap l1 l2).get? c = some o:=fun c o e=>up2 c o (Heap.get?_push_of_some _ e)
 have up4:∀ c o,(zA t1 s.heap l1).get? c = some o→(zE t1 t2 s.heap l1 l2).get? c = some o:=fun c o e=>up3 c o (Heap.get?_push_of_some _ e)
 have g5:(zE t1 t2 s.heap l1 l2).get? (s.heap.objs.size + 4) = some { cls:=.type "zip",data:=.fields #[.none,.bool false,.bool false,.ref (s.heap.objs.size + 2),.ref (s.heap.objs.size + 3)] }:=by
  rw [←z4,←z3,←z2]; exact Heap.get?_push_size _ rfl
 have g4:(zE t1 t2 s.heap l1 l2).get? (s.heap.objs.size + 3) = some { cls:=.type "tuple",data:=.seq #[.none,.none] }:=by
  rw [←z3]; exact up1 _ _ (Heap.get?_push_size _ rfl)
 have g3:(zE t1 t2 s.heap l1 l2).get? (s.heap.objs.size + 2) = some { cls:=.type "tuple",data:=.seq #[.ref s.heap.objs.size,.ref (s.heap.objs.size + 1)] }:=by
  rw [←z2,←z1]; exact up2 _ _ (Heap.get?_push_size _ rfl)
 have g2:(zE t1 t2 s.heap l1 l2).get? (s.heap.objs.size + 1) = some (itO t2 l2):=by
  rw [←z1]; exact up3 _ _ (Heap.get?_push_size _ rfl)
 have g1:(zE t1 t2 s.heap l1 l2).get? s.heap.objs.size = some (itO t1 l1):=up4 _ _ (Heap.get?_push_size _ rfl)
 have sub:∀ {t:Bool} {i l:Addr},(zE t1 t2 s.heap l1 l2).get? i = some (itO t l)→SubI t (zE t1 t2 s.heap l1 l2) i l 0:=fun {t i l} e=>by
  cases t
  ·exact ⟨_,e,rfl,rfl⟩
  ·exact ⟨_,e,rfl,rfl⟩
 show _∧_
 rw [z4]
 exact ⟨⟨_,g5,rfl⟩,h _ ⟨g5,g3,⟨_,_,g4⟩,sub g1,sub g2⟩ fun c o x=>up4 c o (Heap.get?_push_of_some _ x)⟩
end
theorem tq {n l1 l2:Nat} (h1:l1 < n) (h2:l2 < n):Apart (n + 4) (n + 2) (n + 3) n (n + 1) l1 l2 where
 d:=by
  show List.Nodup ([n + 4,n + 2,n + 3,n,n + 1]:List Nat)
  simp only [List.nodup_cons,List.mem_cons,List.not_mem_nil,or_false,not_or,List.nodup_nil,and_true,not_false_eq_true]; omega
 m1:=by
  show ¬ (l1∈([n + 4,n + 2,n + 3,n,n + 1]:List Nat))
  simp only [List.mem_cons,List.not_mem_nil,or_false,not_or]; omega
 m2:=by
  show ¬ (l2∈([n + 4,n + 2,n + 3,n,n + 1]:List Nat))
  simp only [List.mem_cons,List.not_mem_nil,or_false,not_or]; omega
def SqB (t:Bool) (K:PySem.W.Frag) (H:Hp) (a:Addr) (xs:List V):Prop:=if t then SqT K H a xs else SqL K H a xs
def Itz (t1 t2:Bool) (K:PySem.W.Frag) (a b:Addr):It where
 go:=fun i H=>∃ xs ys x y,SqB t1 K H a xs∧SqB t2 K H b ys∧xs[i]? = some x∧ys[i]? = some y
 yld:=fun i H v H'=>∃ T x y,v = .ref T∧H T = none∧H' = upd H T (.tup [x,y])∧(∀ xs,SqB t1 K H a xs→xs[i]? = some x)∧∀ ys,SqB t2 K H b ys→ys[i]? = some y
 stop:=fun i H=>∃ xs ys,SqB t1 K H a xs∧SqB t2 K H b ys∧(xs.length≤i∨ys.length≤i)
theorem Inv.sqb {X:Cx} {pins:List (Addr×Obj)} {σ : St} {H:Hp} {s:Shared} {t:Bool} {a:Addr} {xs:List V} (I:Inv X pins σ H s) (h:SqB t X.kx H a xs):∃ its:List Value,Vals xs its∧SubS t s.heap a its.toArray∧xs.length≤sizeLine:=by
 cases t
 ·obtain ⟨its,r,p,z⟩:=I.list (show SqL X.kx H a xs from h); exact ⟨its,r,p.isList,z⟩
 ·obtain ⟨its,r,p,z⟩:=I.tuple (show SqT X.kx H a xs from h); exact ⟨its,r,p,z⟩
theorem Inv.sqb_inj {X:Cx} {pins:List (Addr×Obj)} {σ : St} {H:Hp} {s:Shared} {t:Bool} {a:Addr} {xs ys:List V} (I:Inv X pins σ H s) (h:SqB t X.kx H a xs) (h':SqB t X.kx H a ys):xs = ys:=by
 cases t
 ·exact I.list_inj (show SqL X.kx H a xs from h) (show SqL X.kx H a ys from h')
 ·exact I.tuple_inj (show SqT X.kx H a xs from h) (show SqT X.kx H a ys from h')
theorem wm {P:Program} {w:World} {K:PySem.W.Frag} {elts:List Expr} {x1:Nat} {pos:Pos} {t1 t2:Bool} {a b z TI TO i1 i2:Addr} (D:Apart z TI TO i1 i2 a b):Turn P w K (.Tuple elts x1 pos) (Itz t1 t2 K a b) [z,TI,TO,i1,i2] z (fun i h=>v8 t1 t2 z TI TO i1 i2 a b i h) where
 mem:=by simp
 obj:=fun i h st c hc=>by
  obtain ⟨hz,hTI,⟨u,v,hTO⟩,h1,h2⟩:=st
  simp only [List.mem_cons,List.not_mem_nil,or_false] at hc
  rcases hc with rfl | rfl | rfl | rfl | rfl
  ·exact ⟨_,hz,fun v q=>by cases q⟩
  ·exact ⟨_,hTI,fun v q=>by cases q⟩
  ·exact ⟨_,hTO,fun v q=>by cases q⟩
  ·obtain ⟨o,vs,e,d⟩:=h1.obj; exact ⟨o,e,fun v q=>by rw [d] at q; cases q⟩
  ·obtain ⟨o,vs,e,d⟩:=h2.obj; exact ⟨o,e,fun v q=>by rw [d] at q; cases q⟩
 keep:=fun i h h' st k=>by
  obtain ⟨hz,hTI,⟨u,v,hTO⟩,h1,h2⟩:=st
  exact ⟨k z (by simp) _ hz,k TI (by simp) _ hTI,⟨u,v,k TO (by simp) _ hTO⟩,h1.keep fun o e=>k i1 (by simp) o e,h2.keep fun o e=>k i2 (by simp) o e⟩
 item:=by
  intro X hP hw hK hc i pins s σ H E I hf st hg
  subst hP hw hK
  obtain ⟨xs,ys,x,y,hq1,hq2,hx,hy⟩:=hg
  obtain ⟨its1,rv1,p1,_⟩:=I.sqb hq1
  obtain ⟨its2,rv2,p2,_⟩:=I.sqb hq2
  obtain ⟨u1,e1,ru1⟩:=rv1.get hx
  obtain ⟨u2,e2,ru2⟩:=rv2.get hy
  refine ve D st p1 p2 (x:=u1) (y:=u2) (by simpa using e1) (by simpa using e2) fun h' a1 a2 a3 a4 a5 a6 a7=>⟨.ref s.heap.objs.size,rfl,?_⟩
  refine wpAny_letOwnedTupleGo_zip (s:={ s with heap:=h' }) a1 fun h2 b1 sb=>?_
  have hfT:H s.heap.objs.size = none:=I.hok.fresh (Nat.le_refl _)
  have sfp:∀ c∈[z,TI,TO,i1,i2],c < s.heap.objs.size:=fun c hc=>by
   obtain ⟨hz,hTI,⟨u,v,hTO⟩,h1,h2⟩:=st
   simp only [List.mem_cons,List.not_mem_nil,or_false] at hc
   rcases hc with rfl | rfl | rfl | rfl | rfl
   ·exact Heap.lt_size hz
   ·exact Heap.lt_size hTI
   ·exact Heap.lt_size hTO
   ·obtain ⟨o,vs,e,d⟩:=h1.obj; exact Heap.lt_size e
   ·obtain ⟨o,vs,e,d⟩:=h2.obj; exact Heap.lt_size e
  have nz:∀ c∈[z,TI,TO,i1,i2],c≠s.heap.objs.size:=fun c hc=>Nat.ne_of_lt (sfp c hc)
  have dd:=D.old
  have up:∀ c o,c≠z→h'.get? c = some o→h2.get? c = some o:=fun c o n e=>sb.extBut c o n e
  have T2:IsPair h2 s.heap.objs.size u1 u2:=up _ _ (Ne.symm (nz z (by simp))) a5
  have I0:Inv X pins σ (upd H s.heap.objs.size (.tup [x,y])) { s with heap:=s.heap.push { cls:=.type "tuple",data:=.seq #[u1,u2] },toks:=s.toks } :=
   I.laid (o:=.tup [x,y]) (fun c o e=>Heap.get?_push_of_some _ e) (Nat.le_refl _) ⟨by show 2≤sizeLine; rw [sizeLine_eq]; decide,[u1,u2],.cons ru1 (.cons ru2 .nil),PlainT.new _ _⟩
  have Il:Inv X pins σ (upd H s.heap.objs.size (.tup [x,y])) { s with heap:=h2,toks:=s.toks }:=by
   refine Inv.turneds (s:={ s with heap:=s.heap.push { cls:=.type "tuple",data:=.seq #[u1,u2] },toks:=s.toks }) (h':=h2) (t':=s.toks) (ch:=[z,TI,TO,i1,i2]) I0 (fun c o hc e=>?_) fun c hc=>?_
   ·rcases Heap.get?_push_cases e with ⟨rfl,rfl⟩ | e
    ·exact T2
    ·exact up c o (fun q=>hc (by simp [q])) (a7 c o (fun q=>hc (by simp only [List.mem_cons,List.not_mem_nil,or_false] at q ⊢; rcases q with q | q | q | q <;> simp [q])) e)
   ·obtain ⟨f0,f1⟩:=hf c hc
    exact ⟨by rw [au (nz c hc)]; exact f0,f1⟩
  refine ⟨.ref s.heap.objs.size,upd H s.heap.objs.size (.tup [x,y]),Il,rfl,⟨_,x,y,rfl,hfT,rfl,fun zs hz=>by rw [I.sqb_inj hz hq1]; exact hx,fun zs hz=>by rw [I.sqb_inj hz hq2]; exact hy⟩,⟨b1,up _ _ dd.TIz (a7 _ _ (by simp only [List.mem_cons,List.not_mem_nil,or_false,not_or]; exact ⟨dd.TIz,dd.TITO,dd.TIi1,dd.TIi2⟩) st.ti),⟨_,_,up _ _ dd.TOz a2⟩,a3.keep fun o e=>up _ o dd.i1z e,a4.keep fun o e=>up _ o dd.i2z e⟩,fun c hc=>?_⟩
  rw [au (nz c hc)]
  exact (hf c hc).1
 done:=by
  intro X hP hw hK hc i pins s σ H E I hf st hg
  subst hP hw hK
  obtain ⟨xs,ys,hq1,hq2,he⟩:=hg
  obtain ⟨its1,rv1,p1,_⟩:=I.sqb hq1
  obtain ⟨its2,rv2,p2,_⟩:=I.sqb hq2
  have l1:=rv1.length
  have l2:=rv2.length
  refine yB (I.ok.hd hc) D st p1 p2 (by rcases he with q | q; (left; simp; omega); (right; simp; omega)) fun h' hk=>⟨rfl,I.turneds (t':=s.toks) (ch:=[z,TI,TO,i1,i2]) (fun c o hc e=>hk c o (fun q=>hc (by simp only [List.mem_cons,List.not_mem_nil,or_false] at q ⊢; rcases q with q | q | q | q <;> simp [q])) e) hf⟩
 self:=fun _ _ _ _ _ st h=>wpAny_pyIter_zip st.z h
section
variable {X:Cx} {elts:List Expr} {x1:Nat} {tpos:Pos} {a b:Expr} {ws:WA} {p pos:Pos}
def iZip (K:PySem.W.Frag) (ta:TA):TI:=fun σ H Rq=>ta σ H fun vs H1=>∃ t1 t2 l1 l2,vs = [.ref l1,.ref l2]∧(∃ xs,SqB t1 K H1 l1 xs)∧(∃ ys,SqB t2 K H1 l2 ys)∧Rq (Itz t1 t2 K l1 l2) H1
theorem yP:bootBuiltins "zip" = some (.type "zip"):=by decide +kernel
theorem BP {ta:TA} (hg:Gl X "zip") (hm:X.mg "zip" = none) (ha:PA X [a,b] ta) (hs:starEach [a,b] X.env = [(false,eval a X.env),(false,eval b X.env)]:=by first | exact (aU rfl).trans (congrArg _ (bI rfl)) | rfl) (hs2:starEach [b] X.env = [(false,eval b X.env)]:=by first | exact bI rfl | rfl):PI X (.Tuple elts x1 tpos) (.Call (.Name "zip" p) [a,b] [] pos) (iZip X.K ta):=by
 intro pins s σ H Rq I h
 refine Call_ (iY I hg hm yP (PyProof.Rows.callWith_type1 (thn (ha pos pins s σ H _ I h) fun us s1 ⟨vs,H1,I1,r1,q1⟩=>?_) (by rw [hs,hs2]) (by rw [hs2]; rfl)))
 obtain ⟨t1,t2,l1,l2,e,⟨xs,h1⟩,⟨ys,h2⟩,q⟩:=q1
 subst e
 cases r1 with
 | cons r rr =>
  cases rr with
  | cons r' rr =>
   cases rr
   cases r
   cases r'
   obtain ⟨its1,rv1,p1,_⟩:=I1.sqb h1
   obtain ⟨its2,rv2,p2,_⟩:=I1.sqb h2
   refine wj p1 p2 fun h' Z hk=>?_
   refine wpAny_pyIter_zip Z.z ?_
   have lt:∀ {t:Bool} {l:Addr} {its:Array Value},SubS t s1.heap l its→l < s1.heap.objs.size:=fun {t l its} p=>by
    cases t
    ·obtain ⟨o,e,_⟩:=(show s1.heap.IsList l its from p); exact Heap.lt_size e
    ·obtain ⟨o,e,_⟩:=(show s1.heap.IsTuple l its from p); exact Heap.lt_size e
   refine ⟨s1.heap.objs.size + 4,_,_,_,H1,rfl,I1.kept (t':=s1.toks) hk,wm (tq (lt p1) (lt p2)),Z,fun c hc=>?_,q⟩
   have hle:s1.heap.objs.size≤c:=by
    have hc':c∈([s1.heap.objs.size + 4,s1.heap.objs.size + 2,s1.heap.objs.size + 3,s1.heap.objs.size,s1.heap.objs.size + 1]:List Nat):=hc
    simp only [List.mem_cons,List.not_mem_nil,or_false] at hc'
    rcases hc' with rfl | rfl | rfl | rfl | rfl <;> first | exact Nat.le_add_right _ _ | exact Nat.le_refl _
   exact I1.fpOk hle (I1.hok.fresh hle)
def imS:R→Option (Bool×List PyData)
 | .imm (.tuple ds)=>some (true,ds)
 | .imm (.list ds)=>some (false,ds)
 | _=>none
def zipD (ds es:List PyData):List PyData:=(ds.zip es).map fun p=>.tuple [p.1,p.2]
def xK (ws:WA):WI:=fun m K=>ws m fun rs m'=>match rs with | [r1,r2]=>∃ t1 ds t2 es,imS r1 = some (t1,ds)∧imS r2 = some (t2,es)∧K ⟨zipD ds es,none⟩ m' | _=>False
theorem uz {K:Kd} {α : Al} {H0 H:Hp} {r:R} {v:V} {t:Bool} {ds:List PyData} (h:RelR K α H0 H r v) (e:imS r = some (t,ds)):∃ l xs,v = .ref l∧DenAll K H ds xs∧(SqB t K H l xs)∧∀ H1,Pers H H1→SqB t K H1 l xs:=by
 unfold imS at e
 split at e
 ·cases e
  obtain ⟨l,xs,e,f,g⟩:=bt (show Den K H (.tuple ds) v from h)
  exact ⟨l,xs,e,g,f,fun H1 p=>f.mono p⟩
 ·cases e
  have h':Den K H (.list ds) v:=h
  simp only [Den] at h'
  obtain ⟨l,xs,e,f,g⟩:=h'
  exact ⟨l,xs,e,g,f.sq,fun H1 p=>(f.mono p).sq⟩
 ·cases e
theorem dW (ds es:List PyData):(zipD ds es).length = min ds.length es.length:=by simp [zipD]
theorem oA {ds es:List PyData} {i:Nat} {d e:PyData} (h1:ds[i]? = some d) (h2:es[i]? = some e):(zipD ds es)[i]? = some (.tuple [d,e]):=by
 unfold zipD
 rw [List.getElem?_map,(List.getElem?_zip_eq_some (z:=(d,e))).mpr ⟨h1,h2⟩]; rfl
theorem wks_zip {K:Kd} {t1 t2:Bool} {l1 l2:Addr} {ds es:List PyData}:Wks K (Itz t1 t2 K l1 l2) (zipD ds es) fun H=>∃ xs ys,SqB t1 K H l1 xs∧SqB t2 K H l2 ys∧DenAll K H ds xs∧DenAll K H es ys where
 stop:=fun H ⟨xs,ys,q1,q2,g1,g2⟩=>⟨xs,ys,q1,q2,by rw [dW,←g1.length,←g2.length]; omega⟩
 go:=fun i H hi ⟨xs,ys,q1,q2,g1,g2⟩=>by
  rw [dW] at hi
  exact ⟨xs,ys,xs[i]'(by rw [←g1.length]; omega),ys[i]'(by rw [←g2.length]; omega),q1,q2,List.getElem?_eq_getElem _,List.getElem?_eq_getElem _⟩
 yld:=fun i H x H' hi ⟨xs,ys,q1,q2,g1,g2⟩ y=>by
  obtain ⟨T,u,v,rfl,hT,rfl,e1,e2⟩:=y
  obtain ⟨d,h1,k1⟩:=g1.get2 (e1 xs q1)
  obtain ⟨e,h2,k2⟩:=g2.get2 (e2 ys q2)
  have gr:∀ b o,H b = some o→upd H T (.tup [u,v]) b = some o:=fun b o q=>by rw [au (aK q hT)]; exact q
  have pe:Pers H (upd H T (.tup [u,v])):=⟨fun b xs q=>gr b _ q,fun b o u q=>gr b _ q⟩
  refine ⟨gr,_,oA h1 h2,?_⟩
  exact dN (SqT.of aA) (DenAll.cons (k1.mono pe) (DenAll.cons (k2.mono pe) DenAll.nil))
theorem CZ (hm:X.mg "zip" = none) (ha:MA X [a,b] ws) (hg:Gl X "zip" := by rfl) (hs:starEach [a,b] X.env = [(false,eval a X.env),(false,eval b X.env)]:=by first | exact (aU rfl).trans (congrArg _ (bI rfl)) | rfl) (hs2:starEach [b] X.env = [(false,eval b X.env)]:=by first | exact bI rfl | rfl):MI X (.Tuple elts x1 tpos) (.Call (.Name "zip" p) [a,b] [] pos) (xK ws):=(BP hg hm ha hs hs2).wk fun σ H Rq ⟨α,m,Kc,Rl,hw,fin⟩=>by
 refine ⟨α,m,_,Rl,hw,fun rs m' vs H' k n Rl' rr F=>?_⟩
 match rs,rr,k with
 | [r1,r2],.cons h1 (.cons h2 .nil),k =>
  obtain ⟨t1,ds,t2,es,e1,e2,k⟩:=k
  obtain ⟨l1,xs,rfl,g1,q1,p1⟩:=uz h1 e1
  obtain ⟨l2,ys,rfl,g2,q2,p2⟩:=uz h2 e2
  refine ⟨t1,t2,l1,l2,rfl,⟨xs,q1⟩,⟨ys,q2⟩,fin _ m' _ H' k n Rl' F ⟨fun H=>∃ xs ys,SqB t1 X.kx H l1 xs∧SqB t2 X.kx H l2 ys∧DenAll X.kx H ds xs∧DenAll X.kx H es ys∧(∀ H1,Pers H H1→SqB t1 X.kx H1 l1 xs)∧∀ H1,Pers H H1→SqB t2 X.kx H1 l2 ys,wks_zip.imp fun H ⟨xs,ys,a,b,c,d,_⟩=>⟨xs,ys,a,b,c,d⟩,⟨xs,ys,q1,q2,g1,g2,p1,p2⟩,fun Ha Hb ⟨xs,ys,a,b,c,d,pa,pb⟩ pe=>⟨xs,ys,pa Hb pe,pb Hb pe,c.mono pe,d.mono pe,fun H1 p=>pa H1 (pe.trans p),fun H1 p=>pb H1 (pe.trans p)⟩⟩⟩
theorem Gc {m:MSt} {Ks:Src→MSt→Prop} (h:ws m fun rs m'=>match rs with | [r1,r2]=>∃ t1 ds t2 es,imS r1 = some (t1,ds)∧imS r2 = some (t2,es)∧Ks ⟨zipD ds es,none⟩ m' | _=>False):xK ws m Ks:=h
end
theorem x9 {X:Cx} {elts:List Expr} {x1:Nat} {tpos:Pos} {a b:Expr} {ws:WA} {p pos:Pos} (hm:X.mg "zip" = none) (ha:EA X [a,b] ws) (hg:Gl X "zip" := by rfl) (hs:starEach [a,b] X.env = [(false,eval a X.env),(false,eval b X.env)]:=by first | exact (aU rfl).trans (congrArg _ (bI rfl)) | rfl) (hs2:starEach [b] X.env = [(false,eval b X.env)]:=by first | exact bI rfl | rfl):EI X (.Tuple elts x1 tpos) (.Call (.Name "zip" p) [a,b] [] pos) (xK ws):=⟨CZ hm ha.h hg hs hs2⟩
theorem ko {α β : Type} {xs:List α} {i:Nat} {x : α} (f : α→β) (h:xs[i]? = some x):(xs.take (i + 1)).map f = (xs.take i).map f++[f x]:=by
 rw [List.take_add_one,h,List.map_append]; rfl
theorem gmap {α β : Type} {xs:List α} {i:Nat} {y : β} {f : α→β} (h:(xs.map f)[i]? = some y):∃ x,xs[i]? = some x∧y = f x∧i < xs.length:=by
 rw [List.getElem?_map] at h
 cases q:xs[i]? with
 | none=>rw [q] at h; cases h
 | some x=>rw [q] at h; exact ⟨x,rfl,(Option.some.inj h).symm,(List.getElem?_eq_some_iff.mp q).1⟩
theorem gh {lo:Int} {n i:Nat} {d:PyData} (h:(cw lo n)[i]? = some d):i < n∧d = .int (lo + (i:Int)):=by
 have hi:i < n:=by
  have:=(List.getElem?_eq_some_iff.mp h).1
  rwa [aE] at this
 rw [gU hi] at h
 exact ⟨hi,(Option.some.inj h).symm⟩
theorem rE {n k:Nat} {P:MSt→Prop} {m:MSt} (ρ : List Nat) (m2:MSt) (N:Ren ρ (m.setV n (.obj k)) m2) (h:P m2):mJ n P m (.obj k):=.inr ⟨ρ,m2,N,h⟩
def RenO (ρ : List Nat) (o:Option R):Option R→Prop
 | none=>True
 | some r=>RenR ρ (some o) r
def RenVs (ρ : List Nat):List (Option R)→List (Option R)→Prop
 | o :: os,q :: qs=>RenO ρ o q∧RenVs ρ os qs
 | [],[]=>True
 | _,_=>False
theorem RenVs.len {ρ : List Nat}:∀ {os qs:List (Option R)},RenVs ρ os qs→qs.length = os.length
 | [],[],_=>rfl
 | _ :: _,_ :: _,h=>congrArg (· + 1) (RenVs.len h.2)
 | [],_ :: _,h=>h.elim
 | _ :: _,[],h=>h.elim
theorem RenVs.get {ρ : List Nat}:∀ {os qs:List (Option R)},RenVs ρ os qs→∀ (j:Nat) (r:R),qs[j]? = some (some r)→RenR ρ os[j]? r
 | o :: os,q :: qs,h,0,r,e=>by
  have e':q = some r:=by simpa using e
  subst e'
  exact h.1
 | o :: os,q :: qs,h,j + 1,r,e=>by simpa using RenVs.get h.2 j r (by simpa using e)
 | [],[],_,_,_,e=>by simp at e
 | [],_ :: _,h,_,_,_=>h.elim
 | _ :: _,[],h,_,_,_=>h.elim
theorem Dn {ρ : List Nat} {m m2:MSt} (nd:decide ρ.Nodup = true) (lt:(ρ.all fun k=>Nat.blt k m.os.length) = true) (pre : ρ.take m.np = List.range m.np) (npl:Nat.ble m.np ρ.length = true) (os:m2.os = ρ.map fun k=>m.os.getD k []) (np:m2.np = m.np) (vs:RenVs ρ m.vs m2.vs):Ren ρ m m2 :=
 ⟨of_decide_eq_true nd,fun k hk=>Nat.blt_eq.mp (List.all_eq_true.mp lt k hk),pre,Nat.le_of_ble_eq_true npl,os,np,vs.len,fun j r e=>vs.get j r e⟩
theorem xO {ds es:List PyData} {i:Nat} {d:PyData} (h:(zipD ds es)[i]? = some d):∃ a b,ds[i]? = some a∧es[i]? = some b∧d = .tuple [a,b]:=by
 obtain ⟨p,h1,rfl,_⟩:=gmap h
 obtain ⟨h2,h3⟩:=List.getElem?_zip_eq_some.mp h1
 exact ⟨p.1,p.2,h2,h3,rfl⟩
theorem pK {x:Str} (h:(PyData.str x).shown.length≤40):Fine 40 0 (.str x):=⟨rfl,rfl,h,Nat.le_refl _⟩
end L2
namespace M3
def stepL (xs:List (List Nat)) (r:Nat):List (List Nat):=xs.flatMap fun a=>(List.range (r + 1)).map fun k=>a++[k]
def allL (rs:List Nat):List (List Nat):=rs.foldl stepL [[]]
def allR:List Nat→List (List Nat)
 | []=>[[]]
 | r :: rs=>(List.range (r + 1)).flatMap fun k=>(allR rs).map (k :: ·)
theorem l8:∀ (rs:List Nat) (xs:List (List Nat)),rs.foldl stepL xs = xs.flatMap fun a=>(allR rs).map (a++·)
 | [],xs=>by
  simp [allR]
 | r :: rs,xs=>by
  rw [List.foldl_cons,l8 rs]
  simp only [stepL,allR,List.flatMap_assoc,List.map_flatMap,List.flatMap_map,List.map_map]
  congr 1
  funext a
  congr 1
  funext k
  congr 1
  funext l
  simp
theorem allL_eq (rs:List Nat):allL rs = allR rs:=by
 unfold allL
 rw [l8]
 simp
theorem allR_len:∀ {rs l:List Nat},l∈allR rs→l.length = rs.length
 | [],l,h=>by simp [allR] at h; subst h; rfl
 | r :: rs,l,h=>by
  simp only [allR,List.mem_flatMap,List.mem_map] at h
  obtain ⟨k,_,l',h,rfl⟩:=h
  simp [allR_len h]
theorem stepL_length (xs:List (List Nat)) (r:Nat):(stepL xs r).length = xs.length * (r + 1):=by
 unfold stepL
 induction xs with
 | nil=>simp
 | cons a xs ih =>
  rw [List.flatMap_cons,List.length_append,ih,List.length_map,List.length_range,List.length_cons,Nat.succ_mul]
  omega
theorem pi:∀ {rs:List Nat} {xs:List (List Nat)},(∀ r∈rs,r≤6)→(rs.foldl stepL xs).length≤xs.length * 7 ^ rs.length
 | [],xs,_=>by simp
 | r :: rs,xs,h=>by
  rw [List.foldl_cons]
  refine Nat.le_trans (pi fun r' h'=>h r' (List.mem_cons_of_mem _ h')) ?_
  rw [stepL_length,List.length_cons,Nat.pow_succ,Nat.mul_assoc,Nat.mul_comm (7 ^ rs.length)]
  refine Nat.mul_le_mul_left _ (Nat.mul_le_mul_right _ ?_)
  have:=h r List.mem_cons_self
  omega
theorem fold_small {rs:List Nat} (h4:rs.length≤4) (h:∀ r∈rs,r≤6):(rs.foldl stepL [[]]).length≤2401:=by
 refine Nat.le_trans (pi h) ?_
 have : 7 ^ rs.length≤7 ^ 4:=Nat.pow_le_pow_right (by decide) h4
 simpa using this
theorem stepL_take {xs:List (List Nat)} {r j:Nat} {l:List Nat} (h:xs[j]? = some l):stepL (xs.take (j + 1)) r = stepL (xs.take j) r++(List.range (r + 1)).map fun y=>l++[y]:=by
 unfold stepL
 rw [List.take_add_one,h,List.flatMap_append]
 simp
end M3
set_option maxHeartbeats 4100000
namespace K
open PySem L2
def FeedD (c:Nat) (ds:List PyData):Prop:=∃ (ns:List Int) (p q r:Int),ds = [.list (ns.map .int),.int p,.int q,.int r]∧ns.length≤63∧0≤p∧p≤c∧0≤q∧0≤r∧r≤c
theorem FeedD.mono {c c':Nat} {ds:List PyData} (h:FeedD c ds) (hc:c≤c'):FeedD c' ds:=by
 obtain ⟨ns,p,q,r,e,h1,h2,h3,h4,h5,h6⟩:=h
 exact ⟨ns,p,q,r,e,h1,h2,by omega,h4,h5,by omega⟩
def wR:SpM:=fun as K=>∃ ns:List Int,as = [.imm (.list (ns.map .int))]∧ns.length≤63∧∀ ds,FeedD 0 ds→K (.new ds) []
def jv:SpM:=fun as K=>∃ (ds:List PyData) (m:Int) (c:Nat),as = [.own ds,.imm (.int m)]∧FeedD c ds∧c < 1000000000∧0 < m∧m < 1099511627776∧∀ (r:Int) (ds':List PyData),0≤r→r < m→FeedD (c + 1) ds'→K (.imm (.int r)) [ds']
def xq:SpM:=fun as K=>∃ (fd ds:List PyData) (c:Nat),as = [.own fd,.imm (.list ds)]∧FeedD c fd∧c < 900000000∧ds.length≤1000∧∀ (r fd':List PyData),FeedD (c + ds.length) fd'→r.length = ds.length→(∀ d∈r,d∈ds)→K (.new r) [fd']
def v9:SpM:=fun as K=>∃ ns:List Int,as = [.imm (.list (ns.map .int))]∧ns.length≤63∧K (.imm (.bool true)) []
def frD (a b:Int):PyData:=.tuple [.int a,.int b]
def ze:SpM:=fun as K=>∃ a b:Nat,as = [.imm (.int a),.imm (.int b)]∧a < 1000000000∧0 < b∧b < 1000000000∧K (.imm (frD (a / a.gcd b:Nat) (b / a.gcd b:Nat))) []
structure Srv where
 a:Nat
 b:Nat
 r:Nat
def Srv.d (s:Srv):PyData:=.tuple [.tuple [.int s.a,.int s.b],.int s.r]
structure Srv.Ok (s:Srv):Prop where
 a1 : 1≤s.a
 a2:s.a < 1000000
 b1 : 1≤s.b
 b2:s.b < 1000000
 r1 : 1≤s.r
 r6:s.r≤6
structure Hall where
 a:Nat
 b:Nat
 ss:List Srv
 mv:Bool
def Hall.d (h:Hall):PyData:=.tuple [.tuple [.int h.a,.int h.b],.tuple (h.ss.map Srv.d),.bool h.mv]
structure Hall.Ok (h:Hall):Prop where
 a1 : 1≤h.a
 a2:h.a < 1000000
 b1 : 1≤h.b
 b2:h.b < 1000000
 n1 : 1≤h.ss.length
 n4:h.ss.length≤4
 ok:∀ s∈h.ss,s.Ok
def Hall.rs (h:Hall):List Nat:=h.ss.map Srv.r
theorem Hall.rsl (h:Hall):h.rs.length = h.ss.length:=by simp [Hall.rs]
theorem Hall.Ok.r6 {h:Hall} (o:h.Ok):∀ r∈h.rs,r≤6:=fun r hr=>by
 obtain ⟨s,hs,rfl⟩:=List.mem_map.mp hr
 exact (o.ok s hs).r6
theorem Hall.rs_get {h:Hall} {i:Nat} {s:Srv} (e:h.ss[i]? = some s):h.rs[i]? = some s.r:=by simp [Hall.rs,e]
def PairD (d:PyData):Prop:=∃ a b:Nat,d = .tuple [.int (a:Int),.int (b:Int)]∧1≤a∧a≤5∧1≤b∧b≤6
def prD (p:Nat×Nat):PyData:=.tuple [.int (p.1:Int),.int (p.2:Int)]
theorem PairD.all:∀ {sv:List PyData},(∀ d∈sv,PairD d)→∃ ps:List (Nat×Nat),sv = ps.map prD∧∀ p∈ps,1≤p.1∧p.1≤5∧1≤p.2∧p.2≤6
 | [],_=>⟨[],rfl,fun _ h=>by cases h⟩
 | d :: sv,h=>by
  obtain ⟨a,b,rfl,h1,h2,h3,h4⟩:=h d List.mem_cons_self
  obtain ⟨ps,rfl,hp⟩:=PairD.all fun d' h'=>h d' (List.mem_cons_of_mem _ h')
  refine ⟨(a,b) :: ps,rfl,fun p hp'=>?_⟩
  rcases List.mem_cons.mp hp' with rfl | z
  ·exact ⟨h1,h2,h3,h4⟩
  ·exact hp p z
theorem xh:∀ {ps:List (Nat×Nat)},(∀ p∈ps,1≤p.1∧p.1≤5∧1≤p.2∧p.2≤6)→0≤(ps.map fun p=>(p.1:Int)).sum∧(ps.map fun p=>(p.1:Int)).sum≤5 * (ps.length:Int)
 | [],_=>⟨by decide,by decide⟩
 | p :: ps,h=>by
  have h1:=h p List.mem_cons_self
  have h2:=xh fun q hq=>h q (List.mem_cons_of_mem _ hq)
  rw [List.map_cons,List.sum_cons,List.length_cons]
  omega
def natD (l:List Nat):List PyData:=l.map fun (k:Nat)=>.int (k:Int)
def lnD (l:List Nat):PyData:=.tuple (natD l)
theorem aF (l:List Nat):(natD l).length = l.length:=by simp [natD]
theorem a8 {l:List Nat} {i x:Nat} (h:l[i]? = some x):(natD l)[i]? = some (.int (x:Int)):=by simp [natD,h]
theorem kb (a b:List Nat):natD (a++b) = natD a++natD b:=by simp [natD]
def yq:SpM:=fun as K=>∃ h:Hall,as = [.imm h.d]∧h.Ok∧K (.new ((M3.allR h.rs).map lnD)) []
theorem pJ {a b:Nat} (h1:a < 1000000000) (h2:b < 1000000000):Fine 33 1 (frD a b):=by
 refine ba (n:=13) (k:=0) (c:=2) (fun d hd=>?_) (by simp)
 simp at hd
 rcases hd with rfl | rfl
 ·exact fy (by omega)
 ·exact fy (by omega)
theorem Srv.Ok.fine {s:Srv} (o:s.Ok):Fine 73 2 s.d:=by
 refine ba (n:=33) (k:=1) (c:=2) (fun d hd=>?_) (by simp)
 simp at hd
 rcases hd with rfl | rfl
 ·exact pJ (by have:=o.a2; omega) (by have:=o.b2; omega)
 ·have:=o.r6
  exact (fy (by omega)).mono (by decide) (by decide)
theorem Hall.Ok.fine {h:Hall} (o:h.Ok):Fine 1000 4 h.d:=by
 have h1:Fine 303 3 (.tuple (h.ss.map Srv.d)):=(ba (n:=73) (k:=2) (c:=4) (fun d hd=>by
  obtain ⟨s,hs,rfl⟩:=List.mem_map.mp hd
  exact (o.ok s hs).fine) (by rw [List.length_map]; exact o.n4)).mono (by decide) (by decide)
 refine (ba (n:=303) (k:=3) (c:=3) (fun d hd=>?_) (by simp)).mono (by decide) (by decide)
 simp at hd
 rcases hd with rfl | rfl | rfl
 ·exact (pJ (by have:=o.a2; omega) (by have:=o.b2; omega)).mono (by decide) (by decide)
 ·exact h1
 ·exact (lS _).mono (by decide) (by decide)
theorem lV {l:List Nat} {c:Nat} (hl:l.length≤c) (h:∀ x∈l,x≤1000):Fine (c * 15 + 3) 1 (lnD l):=by
 refine ba (n:=13) (k:=0) (c:=c) (fun d hd=>?_) (by simpa [natD] using hl)
 simp [natD] at hd
 obtain ⟨x,hx,rfl⟩:=hd
 have:=h x hx
 exact fy (by omega)
theorem tJ (l:List Nat):Shp 1 (lnD l):=uq (k:=0) fun d hd=>by
 simp [natD] at hd
 obtain ⟨x,hx,rfl⟩:=hd
 exact cI _
inductive Rule where
 | random | turns | two | least | quick
 | told (ps:List Nat)
def Rule.word:Rule→Str
 | .random => "random" | .turns => "turns" | .two => "two" | .least => "least" | .quick => "quick" | .told _ => "told"
def Rule.d:Rule→PyData
 | .told ps=>.tuple [.str "told",lnD ps]
 | r=>.tuple [.str r.word]
def Rule.Ok (h:Hall):Rule→Prop
 | .told ps=>ps.length = (M3.allR h.rs).length∧∀ p∈ps,p < h.ss.length
 | _=>True
theorem jI {rs:List Nat} (h4:rs.length≤4) (h:∀ r∈rs,r≤6):(M3.allR rs).length≤2401:=by
 rw [←M3.allL_eq]; exact M3.fold_small h4 h
theorem Rule.Ok.fine {h:Hall} (o:h.Ok) {r:Rule} (k:r.Ok h):Fine 80000 2 r.d:=by
 have w:∀ x:Str,(PyData.str x).shown.length≤40→Fine 80000 2 (.tuple [.str x]):=fun x hx=>(ba (n:=40) (k:=0) (c:=1) (fun d hd=>by simp at hd; subst hd; exact pK hx) (by simp)).mono (by decide) (by decide)
 cases r with
 | random=>exact w _ (by decide +kernel)
 | turns=>exact w _ (by decide +kernel)
 | two=>exact w _ (by decide +kernel)
 | least=>exact w _ (by decide +kernel)
 | quick=>exact w _ (by decide +kernel)
 | told ps =>
  obtain ⟨k1,k2⟩:=k
  have hl:ps.length≤2401:=by rw [k1]; exact jI (by rw [h.rsl]; exact o.n4) o.r6
  have f1:Fine 36018 1 (lnD ps):=lV hl fun x hx=>by have:=k2 x hx; have:=o.n4; omega
  refine (ba (n:=36018) (k:=1) (c:=2) (fun d hd=>?_) (by simp)).mono (by decide) (by decide)
  simp at hd
  rcases hd with rfl | rfl
  ·exact (pK (by decide +kernel)).mono (by decide) (by decide)
  ·exact f1
def wZ:SpM:=fun as K=>∃ (fd:List PyData) (c:Nat) (h:Hall),as = [.own fd,.imm h.d]∧h.Ok∧FeedD c fd∧c < 900000000∧∀ (r:Rule) (fd':List PyData),r.Ok h→FeedD (c + 2410) fd'→K (.imm r.d) [fd']
def Lines (h:Hall) (l:List Nat):Prop:=l.length = h.ss.length∧∀ (i:Nat) s x,h.ss[i]? = some s→l[i]? = some x→x≤s.r
theorem Lines.le {h:Hall} {l:List Nat} (o:h.Ok) (k:Lines h l):∀ x∈l,x≤6:=fun x hx=>by
 obtain ⟨i,hi,rfl⟩:=List.mem_iff_getElem.mp hx
 have hi':i < h.ss.length:=by rw [←k.1]; exact hi
 have:=k.2 i _ _ (List.getElem?_eq_getElem hi') (List.getElem?_eq_getElem hi)
 have:=(o.ok _ (List.getElem_mem hi')).r6
 omega
end K
namespace M7
open M3
def placeF:Nat→List Nat→List Nat→Nat
 | acc,r :: rs,x :: l=>placeF (acc * (r + 1) + x) rs l
 | acc,_,_=>acc
def cnt:List Nat→Nat
 | []=>1
 | r :: rs=>(r + 1) * cnt rs
theorem allR_cnt:∀ rs:List Nat,(allR rs).length = cnt rs
 | []=>rfl
 | r :: rs=>by
  have ih:=allR_cnt rs
  have:∀ n:Nat,((List.range n).flatMap fun k=>(allR rs).map (k :: ·)).length = n * cnt rs:=by
   intro n
   induction n with
   | zero=>simp
   | succ n ihn=>rw [List.range_succ,List.flatMap_append,List.length_append,ihn]; simp [ih,Nat.succ_mul]
  exact this (r + 1)
theorem gG:∀ {rs l:List Nat} {acc:Nat},l.length = rs.length→placeF acc rs l = acc * cnt rs + placeF 0 rs l
 | [],[],acc,_=>by simp [placeF,cnt]
 | r :: rs,x :: l,acc,h=>by
  have h':l.length = rs.length:=by simpa using h
  simp only [placeF,cnt]
  rw [gG h',gG (acc:=0 * (r + 1) + x) h',Nat.add_mul,Nat.mul_assoc]
  simp [Nat.add_assoc]
 | [],_ :: _,_,h=>by simp at h
 | _ :: _,[],_,h=>by simp at h
theorem fT {r x:Nat} {rs l:List Nat} (h:l.length = rs.length):placeF 0 (r :: rs) (x :: l) = x * cnt rs + placeF 0 rs l:=by
 simp only [placeF]
 rw [gG h]
 simp
theorem uB {N:Nat} (f:Nat→List (List Nat)) (hf:∀ k,(f k).length = N):∀ (n k j:Nat),k < n→j < N→((List.range n).flatMap f)[k * N + j]? = (f k)[j]?
 | 0,k,j,h,_=>by omega
 | n + 1,k,j,h,hj=>by
  have hl:((List.range n).flatMap f).length = n * N:=by
   clear h hj
   induction n with
   | zero=>simp
   | succ n ih=>rw [List.range_succ,List.flatMap_append,List.length_append,ih]; simp [hf,Nat.succ_mul]
  rw [List.range_succ,List.flatMap_append]
  by_cases hk:k < n
  ·have:k * N + j < n * N:=by
    have:=Nat.mul_le_mul_right N (show k + 1≤n by omega)
    rw [Nat.succ_mul] at this
    omega
   rw [List.getElem?_append_left (by omega),uB f hf n k j hk hj]
  ·have e:k = n:=by omega
   subst e
   rw [List.getElem?_append_right (by omega),hl]
   simp
def Fits:List Nat→List Nat→Prop
 | r :: rs,x :: l=>x≤r∧Fits rs l
 | [],[]=>True
 | _,_=>False
theorem Fits.len:∀ {rs l:List Nat},Fits rs l→l.length = rs.length
 | [],[],_=>rfl
 | _ :: _,_ :: _,h=>congrArg (· + 1) h.2.len
 | [],_ :: _,h=>h.elim
 | _ :: _,[],h=>h.elim
theorem place_lt:∀ {rs l:List Nat},Fits rs l→placeF 0 rs l < cnt rs
 | [],[],_=>by simp [placeF,cnt]
 | r :: rs,x :: l,h=>by
  rw [fT h.2.len,cnt]
  have:=place_lt h.2
  have h2:=Nat.mul_le_mul_right (cnt rs) (show x + 1≤r + 1 by have:=h.1; omega)
  rw [Nat.succ_mul] at h2
  omega
 | [],_ :: _,h=>h.elim
 | _ :: _,[],h=>h.elim
theorem place_at:∀ {rs l:List Nat},Fits rs l→(allR rs)[placeF 0 rs l]? = some l
 | [],[],_=>rfl
 | r :: rs,x :: l,h=>by
  rw [fT h.2.len]
  show ((List.range (r + 1)).flatMap fun k=>(allR rs).map (k :: ·))[_]? = _
  rw [uB (N:=cnt rs) (fun k=>(allR rs).map (k :: ·)) (fun k=>by rw [List.length_map,allR_cnt]) (r + 1) x _ (by have:=h.1; omega) (place_lt h.2),List.getElem?_map,place_at h.2]
  rfl
 | [],_ :: _,h=>h.elim
 | _ :: _,[],h=>h.elim
theorem place_only:∀ {rs:List Nat} {i:Nat} {l:List Nat},(allR rs)[i]? = some l→i = placeF 0 rs l
 | [],0,l,h=>by
  have:l = []:=by simpa [allR] using h.symm
  subst this; rfl
 | [],i + 1,l,h=>by simp [allR] at h
 | r :: rs,i,l,h=>by
  have hi:=(List.getElem?_eq_some_iff.mp h).1
  rw [allR_cnt,cnt] at hi
  have hN : 0 < cnt rs:=Nat.pos_of_ne_zero fun z=>by rw [z] at hi; simp at hi
  have hk:i / cnt rs < r + 1:=Nat.div_lt_of_lt_mul (by rw [Nat.mul_comm]; exact hi)
  have hj:=Nat.mod_lt i hN
  have e:i = i / cnt rs * cnt rs + i % cnt rs:=by rw [Nat.mul_comm]; exact (Nat.div_add_mod i (cnt rs)).symm
  have h':=uB (N:=cnt rs) (fun k=>(allR rs).map (k :: ·)) (fun k=>by rw [List.length_map,allR_cnt]) (r + 1) _ _ hk hj
  rw [←e] at h'
  have h2:((List.range (r + 1)).flatMap fun k=>(allR rs).map (k :: ·))[i]? = some l:=h
  rw [h2,List.getElem?_map] at h'
  cases q:(allR rs)[i % cnt rs]? with
  | none=>rw [q] at h'; cases h'
  | some l' =>
   rw [q] at h'
   have:l = (i / cnt rs) :: l':=Option.some.inj h'
   subst this
   have ih:=place_only q
   have hl:l'.length = rs.length:=allR_len (List.mem_of_getElem? q)
   rw [fT hl,←ih,Nat.mul_comm]
   exact (Nat.div_add_mod i (cnt rs)).symm
def pick (lt:Nat→Nat→Bool):Nat→List Nat→Nat
 | b,[]=>b
 | b,k :: ks=>pick lt (if lt k b then k else b) ks
theorem jx {lt:Nat→Nat→Bool} {k:Nat} {ks:List Nat} (h:lt k k = false):pick lt k (k :: ks) = pick lt k ks:=by
 simp [pick,h]
theorem pick_mem {lt:Nat→Nat→Bool}:∀ {ks:List Nat} {b:Nat},pick lt b ks = b∨pick lt b ks∈ks
 | [],b=>.inl rfl
 | k :: ks,b=>by
  simp only [pick]
  rcases pick_mem (lt:=lt) (ks:=ks) (b:=if lt k b then k else b) with h | h
  ·rw [h]
   by_cases q:lt k b = true
   ·rw [if_pos q]; exact .inr List.mem_cons_self
   ·rw [if_neg q]; exact .inl rfl
  ·exact .inr (List.mem_cons_of_mem _ h)
theorem pick_app {lt:Nat→Nat→Bool}:∀ {ks:List Nat} {b k:Nat},pick lt b (ks++[k]) = if lt k (pick lt b ks) then k else pick lt b ks
 | [],b,k=>rfl
 | j :: ks,b,k=>by simp only [List.cons_append,pick]; exact pick_app
theorem cut_less {p q p' q':Nat} (hq : 0 < q) (hq' : 0 < q'):(p / p.gcd q) * (q' / p'.gcd q') < (p' / p'.gcd q') * (q / p.gcd q)↔p * q' < p' * q:=by
 have g1 : 0 < p.gcd q:=Nat.gcd_pos_of_pos_right _ hq
 have g2 : 0 < p'.gcd q':=Nat.gcd_pos_of_pos_right _ hq'
 obtain ⟨P,hP⟩:=Nat.gcd_dvd_left p q
 obtain ⟨Q,hQ⟩:=Nat.gcd_dvd_right p q
 obtain ⟨P',hP'⟩:=Nat.gcd_dvd_left p' q'
 obtain ⟨Q',hQ'⟩:=Nat.gcd_dvd_right p' q'
 generalize p.gcd q = g at *
 generalize p'.gcd q' = g' at *
 subst hP hQ hP' hQ'
 rw [Nat.mul_div_cancel_left _ g1,Nat.mul_div_cancel_left _ g1,Nat.mul_div_cancel_left _ g2,Nat.mul_div_cancel_left _ g2]
 have e1:g * P * (g' * Q') = (g * g') * (P * Q'):=by simp only [Nat.mul_assoc,Nat.mul_left_comm]
 have e2:g' * P' * (g * Q) = (g * g') * (P' * Q):=by simp only [Nat.mul_assoc,Nat.mul_left_comm]
 rw [e1,e2]
 exact (Nat.mul_lt_mul_left (Nat.mul_pos g1 g2)).symm
theorem placeF_take:∀ {rs l:List Nat} {i acc r x:Nat},rs[i]? = some r→l[i]? = some x→placeF acc (rs.take (i + 1)) (l.take (i + 1)) = placeF acc (rs.take i) (l.take i) * (r + 1) + x
 | r0 :: rs,x0 :: l,0,acc,r,x,h1,h2=>by
  have e1:r0 = r:=by simpa using h1
  have e2:x0 = x:=by simpa using h2
  subst e1 e2
  simp [placeF]
 | r0 :: rs,x0 :: l,i + 1,acc,r,x,h1,h2=>by
  simp only [List.take_succ_cons,placeF]
  exact placeF_take (by simpa using h1) (by simpa using h2)
 | [],_,_,_,_,_,h1,_=>by simp at h1
 | _ :: _,[],_,_,_,_,_,h2=>by simp at h2
end M7
namespace K
open PySem L2 M7
def Hall.an (h:Hall) (k:Nat):Nat:=(h.ss.map Srv.a).getD k 0
def Hall.bn (h:Hall) (k:Nat):Nat:=(h.ss.map Srv.b).getD k 0
def bZ (l:List Nat) (k b:Nat):Bool:=decide (l.getD k 0 < l.getD b 0)
def ck (h:Hall) (l:List Nat) (k b:Nat):Bool:=decide ((l.getD k 0 + 1) * h.bn k * h.an b < (l.getD b 0 + 1) * h.bn b * h.an k)
def sent (h:Hall) (r:Rule) (l:List Nat) (t:Nat) (o:List Nat):Nat:=match r with
 | .random=>o.headD 0
 | .turns=>t
 | .two=>pick (bZ l) (o.headD 0) (o.take 2)
 | .least=>pick (bZ l) (o.headD 0) o
 | .quick=>pick (ck h l) (o.headD 0) o
 | .told ps=>ps.getD (placeF 0 h.rs l) 0
structure Ord (n:Nat) (o:List Nat):Prop where
 ne:o≠[]
 lt:∀ k∈o,k < n
 le:o.length≤4
theorem Lines.fits {h:Hall} {l:List Nat} (k:Lines h l):Fits h.rs l:=by
 obtain ⟨k1,k2⟩:=k
 unfold Hall.rs
 generalize h.ss = ss at k1 k2
 induction ss generalizing l with
 | nil=>cases l with
  | nil=>trivial
  | cons _ _=>simp at k1
 | cons s ss ih=>cases l with
  | nil=>simp at k1
  | cons x l=>exact ⟨k2 0 s x rfl rfl,ih (by simpa using k1) fun i s x e1 e2=>k2 (i + 1) s x (by simpa using e1) (by simpa using e2)⟩
theorem getN {l:List Nat} {k n:Nat} (hl:l.length = n) (hk:k < n):l[k]? = some (l.getD k 0):=by
 rw [aD (List.getElem?_eq_getElem (show k < l.length by omega))]
 exact List.getElem?_eq_getElem _
theorem Hall.srv {h:Hall} {k:Nat} (hk:k < h.ss.length):∃ s,h.ss[k]? = some s∧h.an k = s.a∧h.bn k = s.b∧s∈h.ss:=by
 refine ⟨h.ss[k],List.getElem?_eq_getElem hk,?_,?_,List.getElem_mem hk⟩
 ·exact aD (by rw [List.getElem?_map,List.getElem?_eq_getElem hk]; rfl)
 ·exact aD (by rw [List.getElem?_map,List.getElem?_eq_getElem hk]; rfl)
def xj:SpM:=fun as K=>∃ a b c d:Nat,as = [.imm (frD a b),.imm (frD c d)]∧a < 1000000000000∧b < 1000000000000∧c < 1000000000000∧d < 1000000000000∧K (.imm (.bool (decide (a * d < c * b)))) []
def rc:SpM:=fun as K=>∃ (h:Hall) (l:List Nat),as = [.imm h.d,.imm (lnD l)]∧h.Ok∧Lines h l∧K (.imm (.int (placeF 0 h.rs l:Nat))) []
def jJ:SpM:=fun as K=>∃ (l o:List Nat),as = [.imm (lnD l),.imm (lnD o)]∧Ord l.length o∧K (.imm (.int (pick (bZ l) (o.headD 0) o:Nat))) []
def xp:SpM:=fun as K=>∃ (h:Hall) (l:List Nat) (k:Nat),as = [.imm h.d,.imm (lnD l),.imm (.int (k:Int))]∧h.Ok∧Lines h l∧k < h.ss.length∧K (.imm (frD ((l.getD k 0 + 1) * h.bn k:Nat) (h.an k:Nat))) []
def jQ:SpM:=fun as K=>∃ (h:Hall) (l o:List Nat),as = [.imm h.d,.imm (lnD l),.imm (lnD o)]∧h.Ok∧Lines h l∧Ord h.ss.length o∧K (.imm (.int (pick (ck h l) (o.headD 0) o:Nat))) []
def stD (l:List Nat) (t:Nat):PyData:=.tuple [lnD l,.int (t:Int)]
def oT:SpM:=fun as K=>∃ (h:Hall) (r:Rule) (l:List Nat) (t:Nat) (o:List Nat),as = [.imm h.d,.imm r.d,.imm (stD l t),.imm (lnD o)]∧h.Ok∧r.Ok h∧Lines h l∧Ord h.ss.length o∧K (.imm (.int (sent h r l t o:Nat))) []
theorem Ord.cons {n:Nat} {o:List Nat} (h:Ord n o):∃ k ks,o = k :: ks∧k < n:=by
 cases o with
 | nil=>exact (h.ne rfl).elim
 | cons k ks=>exact ⟨k,ks,rfl,h.lt k List.mem_cons_self⟩
theorem jr {lt:Nat→Nat→Bool} {n:Nat} {o:List Nat} (h:Ord n o) (i:Nat):pick lt (o.headD 0) (o.take i) < n:=by
 obtain ⟨k,ks,rfl,hk⟩:=h.cons
 rcases pick_mem (lt:=lt) (ks:=(k :: ks).take i) (b:=k) with e | e
 ·show pick lt k _ < n
  rw [e]; exact hk
 ·exact h.lt _ (List.mem_of_mem_take e)
theorem oZ:∀ a b:List Nat,PyData.eqvAll (natD a) (natD b) = decide (a = b)
 | [],[]=>by simp [natD,PyData.eqvAll]
 | [],y :: b=>by simp [natD,PyData.eqvAll]
 | x :: a,[]=>by simp [natD,PyData.eqvAll]
 | x :: a,y :: b=>by
  have ih:=oZ a b
  unfold natD at ih
  simp only [natD,List.map_cons,PyData.eqvAll,PyData.eqv,ih]
  by_cases h:x = y
  ·subst h; simp
  ·have:¬ ((x:Int) = (y:Int)):=fun z=>h (Int.ofNat.inj z)
   simp [h,this]
theorem xi (a b:List Nat):PyData.eqv (lnD a) (lnD b) = decide (a = b):=by
 simp only [lnD,PyData.eqv]; exact oZ a b
def Rule.ranks:Rule→Prop
 | .turns=>False
 | .told _=>False
 | _=>True
def Rule.some (o:List Nat):Rule→List Nat
 | .random=>o.take 1
 | .two=>o.take 2
 | _=>o
def Rule.lt (h:Hall) (l:List Nat):Rule→Nat→Nat→Bool
 | .quick=>ck h l
 | _=>bZ l
def q0 (h:Hall) (l:List Nat) (q:Rule) (k:Nat):PyData:=match q with
 | .quick=>frD ((l.getD k 0 + 1) * h.bn k / ((l.getD k 0 + 1) * h.bn k).gcd (h.an k):Nat) (h.an k / ((l.getD k 0 + 1) * h.bn k).gcd (h.an k):Nat)
 | _=>.int (l.getD k 0:Nat)
def df (h:Hall) (l:List Nat) (q:Rule) (k:Nat):PyData:=.tuple [q0 h l q k,.int (k:Int)]
theorem jd (l:List Nat) (k:Nat):bZ l k k = false:=decide_eq_false (Nat.lt_irrefl _)
theorem m7 (h:Hall) (l:List Nat) (k:Nat):ck h l k k = false:=decide_eq_false (Nat.lt_irrefl _)
theorem qL {h:Hall} {q:Rule} {l:List Nat} {t:Nat} {o:List Nat} (hq:q.ranks) (hO:Ord h.ss.length o):∃ o0 S,q.some o = o0 :: S∧(∀ k∈o0 :: S,k < h.ss.length)∧(o0 :: S).length≤4∧pick (q.lt h l) o0 S = sent h q l t o:=by
 obtain ⟨o0,os,rfl,h0⟩:=hO.cons
 have hle:=hO.le
 cases q with
 | turns=>exact hq.elim
 | told _=>exact hq.elim
 | random=>exact ⟨o0,[],rfl,fun k hk=>by simp at hk; subst hk; exact h0,by simp,rfl⟩
 | two =>
  refine ⟨o0,os.take 1,rfl,fun k hk=>hO.lt k ?_,by simp; omega,?_⟩
  ·rcases List.mem_cons.mp hk with e | e
   ·simp [e]
   ·exact List.mem_cons_of_mem _ (List.mem_of_mem_take e)
  ·show pick (bZ l) o0 (os.take 1) = pick (bZ l) o0 (o0 :: os.take 1)
   rw [jx (jd l o0)]
 | least=>exact ⟨o0,os,rfl,hO.lt,hle,(jx (jd l o0)).symm⟩
 | quick=>exact ⟨o0,os,rfl,hO.lt,hle,(jx (m7 h l o0)).symm⟩
def xG:SpM:=fun as K=>∃ (h:Hall) (r:Rule) (l:List Nat) (t:Nat) (o:List Nat),as = [.imm h.d,.imm r.d,.imm (lnD l),.imm (.int (t:Int)),.imm (lnD o)]∧h.Ok∧r.Ok h∧Lines h l∧Ord h.ss.length o∧K (.imm (.int (sent h r l t o:Nat))) []
theorem qx {n:Nat} {d:PyData} (h:d∈cw 0 n):∃ k:Nat,d = .int (k:Int)∧k < n:=by
 unfold cw at h
 simp at h
 obtain ⟨k,hk,rfl⟩:=h
 exact ⟨k,rfl,hk⟩
theorem rC:∀ {n:Nat} {r:List PyData},(∀ d∈r,d∈cw 0 n)→∃ ks:List Nat,r = natD ks∧∀ k∈ks,k < n
 | n,[],_=>⟨[],rfl,fun _ h=>by cases h⟩
 | n,d :: r,h=>by
  obtain ⟨k,rfl,hk⟩:=qx (h d List.mem_cons_self)
  obtain ⟨ks,rfl,hks⟩:=rC fun d' h'=>h d' (List.mem_cons_of_mem _ h')
  refine ⟨k :: ks,rfl,fun k' h'=>?_⟩
  rcases List.mem_cons.mp h' with rfl | z
  ·exact hk
  ·exact hks _ z
def Rule.tl:Rule→List PyData
 | .told ps=>[lnD ps]
 | _=>[]
theorem Rule.dc (r:Rule):r.d = .tuple (.str r.word :: r.tl):=by cases r <;> rfl
theorem fQ {m:MSt} {Kr:R→Prop} {d x:PyData} {ds:List PyData} {i:Int} (e:d = .tuple ds) (h:atI ds i = some x) (k:Kr (.imm x)):l6 (.imm d) (.imm (.int i)) m Kr:=by
 subst e; exact bp h k
end K
namespace L2
open PySem PySem.Spec PyProof.Rows
theorem mF {prog:Program} {w:World} {A:Around} (t:Bool) (hh:A.handled = none) (I ax:Addr) (hne:ax≠I) (items:Array Value):Walks prog w A I [I,ax] [I] items.size (fun i v=>items[i]? = some v) (fun i h=>SubI t h I ax i∧SubS t h ax items):=by
 cases t
 ·exact Walks.list hh I ax hne items
 ·exact Walks.tuple hh I ax hne items
section
variable {prog:Program} {w:World} {A:Around} {E:Value→Shared→Prop} {s:Shared}
theorem pV {t:Bool} {l:Addr} {items:Array Value} {Q:Value→Shared→Prop} (hl:SubS t s.heap l items)
  (h:∀ s2:Shared,s2 = { s with heap:=s.heap.push (itO t l) }→(SubI t s2.heap s.heap.objs.size l 0∧SubS t s2.heap l items)→(∀ b∈[s.heap.objs.size,l],b < s2.heap.objs.size)→l≠s.heap.objs.size→Q (.ref s.heap.objs.size) s2):wpAny (model prog w) A (pyIter (.ref l)) Q E s:=by
 have hlt:l < s.heap.objs.size:=by
  cases t
  ·obtain ⟨_,e,_⟩:=(show s.heap.IsList l items from hl); exact Heap.lt_size e
  ·obtain ⟨_,e,_⟩:=(show s.heap.IsTuple l items from hl); exact Heap.lt_size e
 refine cY hl (h _ rfl ⟨?_,hl.keep fun o e=>Heap.get?_push_of_some _ e⟩ (fun b hb=>?_) (Nat.ne_of_lt hlt))
 ·cases t
  ·exact ⟨_,Heap.get?_push_size _ rfl,rfl,rfl⟩
  ·exact ⟨_,Heap.get?_push_size _ rfl,rfl,rfl⟩
 ·show b < (s.heap.push _).objs.size
  rw [Heap.size_push]
  simp only [List.not_mem_nil,or_false,List.mem_cons] at hb
  rcases hb with rfl | rfl
  ·exact Nat.lt_succ_self _
  ·exact Nat.lt_succ_of_lt hlt
theorem pg {t:Bool} {l:Addr} {h':Heap} (hk:∀ b o,b∉[s.heap.objs.size]→(s.heap.push (itO t l)).get? b = some o→h'.get? b = some o):∀ b o,s.heap.get? b = some o→h'.get? b = some o:=fun b o e =>
 hk b o (fun hm=>absurd (Heap.lt_size e) (by rw [List.mem_singleton.mp hm]; exact Nat.lt_irrefl _)) (Heap.get?_push_of_some _ e)
theorem om {items:Array Value} {ns:List Int} (hi:IntsAre items.toList ns):∀ (i:Nat) (v:Value),items[i]? = some v→∃ t,v = .int (ns.getD i 0) t:=fun i v e=>hi.int_at i v (by simpa using e)
end
section
variable {X:Cx}
def rMax (K:PySem.W.Frag):List V→Hp→VK→Prop:=fun xs H Q=>∃ t l ns,xs = [.ref l]∧SqB t K H l (ns.map V.int)∧ns≠[]∧∀ x,x∈ns→(∀ y∈ns,y≤x)→Q (.int x) H
theorem vT {ns:List Int} {b:Nat} (hb:b≤ns.length - 1) (hne:ns≠[]):ns.getD b 0∈ns:=by
 have hl:b < ns.length:=by
  have:ns.length≠0:=fun z=>hne (List.eq_nil_of_length_eq_zero z)
  omega
 rw [aD (List.getElem?_eq_getElem hl)]
 exact List.getElem_mem hl
theorem l3 (hc:X.calm = true):c6 X (.builtin "max") (rMax X.K):=by
 rintro pins s σ H xs us Q I rv ⟨t,l,ns,ex,hq,hne,q⟩
 subst ex
 obtain ⟨u,rfl,ru⟩:=rv.one
 cases ru
 obtain ⟨its,rvv,pl,_⟩:=I.sqb hq
 have hi:IntsAre its.toArray.toList ns:=ij rvv
 have hl:its.length = ns.length:=by have:=rvv.length; rw [List.length_map] at this; omega
 refine call_max_walk (pV pl fun s2 e st hfp hlI=>?_)
 subst e
 refine ⟨s.heap.objs.size,[s.heap.objs.size,l],[s.heap.objs.size],its.toArray.size,fun i v=>its.toArray[i]? = some v,fun i h=>SubI t h s.heap.objs.size l i∧SubS t h l its.toArray,_,rfl,mF (A:=X.A.in1) t (I.ok.hd hc) _ l hlI its.toArray,st,hfp,?_,CmpOf.ints_gt (fun i=>ns.getD i 0) (om hi),fun v h' tk hP hk=>?_⟩
 ·have:ns.length≠0:=fun z=>hne (List.eq_nil_of_length_eq_zero z)
  rw [List.size_toArray]; omega
 ·obtain ⟨tt,rfl⟩:=om hi _ v hP
  rw [List.size_toArray,hl] at *
  obtain ⟨b1,b2⟩:=PySem.argBest_gt (fun i=>ns.getD i 0) (ns.length - 1)
  refine ⟨.int _,H,I.kept (t':=tk) (pg hk),⟨_,rfl⟩,q _ (vT b1 hne) fun y hy=>?_⟩
  obtain ⟨j,hj,rfl⟩:=List.mem_iff_getElem.mp hy
  have:=b2 j (by omega)
  rwa [aD (List.getElem?_eq_getElem hj)] at this
end
section
variable {prog:Program} {w:World} {A:Around} {E:Value→Shared→Prop} {s:Shared}
structure pI (t:Bool) (e it l:Addr) (k:Nat) (h:Heap):Prop where
 e:∃ old,IsEnum h e it (k:Int) old
 s:SubI t h it l k
theorem rq {t:Bool} {e it l:Addr} {i:Nat} {items:Array Value} {x:Value} {Q:Option Value→Shared→Prop} (Z:pI t e it l i s.heap) (hl:SubS t s.heap l items) (hx:items[i]? = some x) (hne:e≠it)
  (hQ:∀ h',IsEnumOut h' e it ((i:Int) + 1) x s.heap.objs.size→SubI t h' it l (i + 1)→IsPair h' s.heap.objs.size (.int i s.toks) x→h'.objs.size = s.heap.objs.size + 1 →
   (∀ b o,b∉[e,it]→s.heap.get? b = some o→h'.get? b = some o)→Q (some (.ref s.heap.objs.size)) { s with heap:=h',toks:=s.toks + 1 }):wpAny (model prog w) A (pyNext (.ref e)) Q E s:=by
 obtain ⟨⟨old,he⟩,hit⟩:=Z
 have hT:s.TypeIs (.ref e) "enumerate" := (⟨_,he,rfl⟩)
 unfold pyNext
 refine wpAny_bind (wpAny_attempt (wpAny_callSpecial?_slot (name:=Str.ofString "__next__") hT F.slot_enumerate_next (wpAny_call_entry F.slot_enumerate_next hT F.entry_enumerate_next ?_ (F.args_enumerate_next_1 _))))
 rcases s with ⟨hp,g,d,tk,os⟩
 refine wpAny_bind (m:=field (.ref e) 2) (wpAny_field he rfl (x:=.ref it) rfl (wpAny_bind (iI hit hl hx fun g1 n1 s1=>?_)))
 replace s1:Heap.SameBut it hp g1:=s1
 have e1:IsEnum g1 e it i old:=(s1.2 e hne).trans he
 show wpAny _ _ (field (.ref e) 3 >>= _) _ _ ⟨g1,g,d,tk,os⟩
 refine wpAny_bind (wpAny_field e1 rfl (x:=rawInt i) rfl ?_)
 show wpAny _ _ (field (.ref e) 4 >>= _) _ _ ⟨g1,g,d,tk,os⟩
 refine wpAny_bind (wpAny_field e1 rfl (x:=.none) rfl ?_)
 refine wpAny_bind (m:=mkInt i) (wpAny_mkInt ?_)
 show wpAny _ _ (setField (.ref e) 3 (rawInt ((i:Int) + 1)) >>= _) _ _ ⟨g1,g,d,tk + 1,os⟩
 refine wpAny_bind (wpAny_setField_rec e1 (by simp) fun g2 e2 s2=>?_)
 replace s2:Heap.SameBut e g1 g2:=s2
 replace e2:IsEnum g2 e it ((i:Int) + 1) old:=e2
 show wpAny _ _ (setField (.ref e) 4 .none >>= _) _ _ ⟨g2,g,d,tk + 1,os⟩
 refine wpAny_bind (wpAny_setField_rec e2 (by simp) fun g3 e3 s3=>?_)
 replace s3:Heap.SameBut e g2 g3:=s3
 replace e3:IsEnum g3 e it ((i:Int) + 1) old:=e3
 refine wpAny_bind (m:=newTuple [.int i tk,x]) (wpAny_newTuple ?_)
 have e4:IsEnum (g3.push { cls:=.type "tuple",data:=.seq #[.int i tk,x] }) e it ((i:Int) + 1) old:=Heap.get?_push_of_some _ e3
 have hsz:g3.objs.size = hp.objs.size:=by rw [s3.1,s2.1,s1.1]
 have young:e < hp.objs.size:=Heap.lt_size he
 have t4:(g3.push { cls:=.type "tuple",data:=.seq #[.int i tk,x] }).get? hp.objs.size = some { cls:=.type "tuple",data:=.seq #[.int i tk,x] }:=by rw [←hsz]; exact Heap.get?_push_size _ rfl
 have z4:(g3.push { cls:=.type "tuple",data:=.seq #[.int i tk,x] }).objs.size = hp.objs.size + 1:=by rw [Heap.size_push,hsz]
 have k4:∀ b o,b∉[e,it]→hp.get? b = some o→(g3.push { cls:=.type "tuple",data:=.seq #[.int i tk,x] }).get? b = some o:=fun b o hb q=>by
  simp only [List.mem_cons,List.not_mem_nil,not_or,or_false] at hb
  exact Heap.get?_push_of_some _ (s3.extBut b o hb.1 (s2.extBut b o hb.1 (s1.extBut b o hb.2 q)))
 have n4:SubI t (g3.push { cls:=.type "tuple",data:=.seq #[.int i tk,x] }) it l (i + 1):=((n1.ext s2.extBut (Ne.symm hne)).ext s3.extBut (Ne.symm hne)).keep fun o q=>Heap.get?_push_of_some _ q
 generalize g3.push { cls:=.type "tuple",data:=.seq #[.int i tk,x] } = g4 at e4 t4 z4 k4 n4
 show wpAny _ _ (Builtin.SmallTypes.ownedTupleIsFree (.ref e) >>= _) _ _ ⟨g4,g,d,tk + 1,os⟩
 rw [hsz]
 refine wpAny_bind (m:=Builtin.SmallTypes.ownedTupleIsFree (.ref e)) (wpAny_bind (m:=field (.ref e) 0) (wpAny_field e4 rfl (x:=.none) rfl (wpAny_pure ?_)))
 simp only [if_true]
 refine wpAny_bind (wpAny_rule (wpAny_bind (wpAny_field e4 rfl (x:=old) rfl (wpAny_bind (wpAny_setField_rec e4 (by simp) fun g5 e5 s5=>?_)))))
 replace s5:Heap.SameBut e g4 g5:=s5
 replace e5:IsEnum g5 e it ((i:Int) + 1) x:=e5
 show wpAny _ _ (Builtin.SmallTypes.ownedTupleHandOut (.ref e) (.ref hp.objs.size) >>= _) _ _ ⟨g5,g,d,tk + 1,os⟩
 refine wpAny_bind (m:=Builtin.SmallTypes.ownedTupleHandOut (.ref e) (.ref hp.objs.size)) ?_
 refine wpAny_bind (m:=setField (.ref e) 0 _) (wpAny_setField_rec e5 (by simp) fun g6 e6 s6=>?_)
 replace s6:Heap.SameBut e g5 g6:=s6
 replace e6:IsEnumOut g6 e it ((i:Int) + 1) x hp.objs.size:=e6
 refine wpAny_setField_rec e6 (by simp) fun g7 e7 s7=>?_
 replace s7:Heap.SameBut e g6 g7:=s7
 replace e7:IsEnumOut g7 e it ((i:Int) + 1) x hp.objs.size:=e7
 have up:∀ b o,b≠e→g4.get? b = some o→g7.get? b = some o:=fun b o n q=>s7.extBut b o n (s6.extBut b o n (s5.extBut b o n q))
 refine wpAny_bind (wpAny_letGo (wpAny_pure ⟨_,rfl,wpAny_pure (hQ g7 e7 (n4.keep fun o q=>up _ o (Ne.symm hne) q) (up _ _ (Nat.ne_of_gt young) t4) (by rw [s7.1,s6.1,s5.1,z4]) fun b o hb q=>up b o (fun z=>hb (by simp [z])) (k4 b o hb q))⟩))
theorem wg {t:Bool} {e it l:Addr} {i:Nat} {items:Array Value} {Q:Option Value→Shared→Prop} (hh:A.handled = none) (Z:pI t e it l i s.heap) (hl:SubS t s.heap l items) (hx:items[i]? = none)
  (hQ:∀ hz,Heap.ExtBut it s.heap hz→Q none { s with heap:=hz }):wpAny (model prog w) A (pyNext (.ref e)) Q E s:=by
 obtain ⟨⟨old,he⟩,hit⟩:=Z
 have hT:s.TypeIs (.ref e) "enumerate" := (⟨_,he,rfl⟩)
 unfold pyNext
 refine wpAny_bind (wpAny_attempt (wpAny_callSpecial?_slot (name:=Str.ofString "__next__") hT F.slot_enumerate_next (wpAny_call_entry F.slot_enumerate_next hT F.entry_enumerate_next ?_ (F.args_enumerate_next_1 _))))
 refine wpAny_bind (m:=field (.ref e) 2) (wpAny_field he rfl (x:=.ref it) rfl (wpAny_bind (nW hh hit hl hx fun h' x he' hx'=>?_)))
 obtain ⟨o,ho,hc⟩:=hx'
 exact wpAny_bind (wpAny_isInstance (T := "StopIteration") (b:=true) ⟨o,ho,hc⟩ isSubtype_stop (wpAny_pure (hQ _ he')))
end
open AutoSeq1 (wpAny_loadPart') in
set_option maxHeartbeats 1100000 in
theorem vK (t:Bool) (l:Addr) (items:Array Value) :
  Meets (Builtin.«enumerate.__new__» ⟨[.type "enumerate",.ref l],[]⟩) (fun _ R s=>SubS t s.heap l items ∧
   R (.ok (.ret (.ref (s.heap.push (itO t l)).objs.size))) { s with heap:=(s.heap.push (itO t l)).push { cls:=.type "enumerate",data:=.fields #[.none,.bool false,.ref s.heap.objs.size,rawInt 0,.none,.none] } }) :=
 .of_wp fun prog w A R s h=>by
  rcases s with ⟨hp,g,d,tk,os⟩
  rcases h with ⟨hl,h⟩
  have hsub:=sub_enumerate
  have hL:SubS t (Shared.heap ⟨hp,g,d,tk,os⟩) l items:=hl
  wp_walk
  refine wpAny_stack_any fun st=>?_
  refine wpAny_pure ?_
  split
  ·rename_i c _ _ _ _ _
   cases c == Value.type "enumerate"
   ·wp_walk using cY hL
    exact ⟨_,rfl,h⟩
   ·wp_walk using cY hL
    exact ⟨_,rfl,h⟩
  ·wp_walk using cY hL
   exact ⟨_,rfl,h⟩
section
variable {prog:Program} {w:World} {A:Around} {E:Value→Shared→Prop} {s:Shared}
theorem ur {t:Bool} {l:Addr} {items:Array Value} {Q:Value→Shared→Prop} (hL:SubS t s.heap l items)
  (h:∀ h',pI t (s.heap.objs.size + 1) s.heap.objs.size l 0 h'→(∀ b o,s.heap.get? b = some o→h'.get? b = some o)→Q (.ref (s.heap.objs.size + 1)) { s with heap:=h' }):wpAny (model prog w) A (call (.type "enumerate") [.ref l]) Q E s:=by
 refine callType_new F.called_enumerate (by decide) (F.typeCall_enumerate_1 _) (F.newCall_enumerate_1 _) (fun obj=>F.args_object_init_2 obj _) F.entry_enumerate_new (vK t l items) ⟨hL,?_⟩
 have hz:(s.heap.push (itO t l)).objs.size = s.heap.objs.size + 1:=Heap.size_push ..
 show _∧_
 rw [hz]
 have he:((s.heap.push (itO t l)).push { cls:=.type "enumerate",data:=.fields #[.none,.bool false,.ref s.heap.objs.size,rawInt 0,.none,.none] }).get? (s.heap.objs.size + 1) = some { cls:=.type "enumerate",data:=.fields #[.none,.bool false,.ref s.heap.objs.size,rawInt 0,.none,.none] }:=by
  rw [←hz]; exact Heap.get?_push_size _ rfl
 have hi:((s.heap.push (itO t l)).push { cls:=.type "enumerate",data:=.fields #[.none,.bool false,.ref s.heap.objs.size,rawInt 0,.none,.none] }).get? s.heap.objs.size = some (itO t l):=Heap.get?_push_of_some _ (Heap.get?_push_size _ rfl)
 refine ⟨⟨_,he,rfl⟩,h _ ⟨⟨.none,he⟩,?_⟩ fun b o x=>Heap.get?_push_of_some _ (Heap.get?_push_of_some _ x)⟩
 cases t
 ·exact ⟨_,hi,rfl,rfl⟩
 ·exact ⟨_,hi,rfl,rfl⟩
end
def Ite (t:Bool) (K:PySem.W.Frag) (a:Addr):It where
 go:=fun i H=>∃ xs x,SqB t K H a xs∧xs[i]? = some x
 yld:=fun i H v H'=>∃ T x,v = .ref T∧H T = none∧H' = upd H T (.tup [.int (i:Int),x])∧∀ xs,SqB t K H a xs→xs[i]? = some x
 stop:=fun i H=>∃ xs,SqB t K H a xs∧xs.length≤i
theorem qV {P:Program} {w:World} {K:PySem.W.Frag} {elts:List Expr} {x1:Nat} {pos:Pos} {t:Bool} {a e it:Addr} (hne:e≠it):Turn P w K (.Tuple elts x1 pos) (Ite t K a) [e,it] e (fun i h=>pI t e it a i h) where
 mem:=by simp
 obj:=fun i h st c hc=>by
  obtain ⟨⟨old,he⟩,h1⟩:=st
  simp only [List.mem_cons,List.not_mem_nil,or_false] at hc
  rcases hc with rfl | rfl
  ·exact ⟨_,he,fun v q=>by cases q⟩
  ·obtain ⟨o,vs,e,d⟩:=h1.obj; exact ⟨o,e,fun v q=>by rw [d] at q; cases q⟩
 keep:=fun i h h' st k=>by
  obtain ⟨⟨old,he⟩,h1⟩:=st
  exact ⟨⟨old,k e (by simp) _ he⟩,h1.keep fun o q=>k it (by simp) o q⟩
 item:=by
  intro X hP hw hK hc i pins s σ H E I hf st hg
  subst hP hw hK
  obtain ⟨xs,x,hq,hx⟩:=hg
  obtain ⟨its,rv,p,_⟩:=I.sqb hq
  obtain ⟨u,eu,ru⟩:=rv.get hx
  refine rq st p (x:=u) (by simpa using eu) hne fun h' a1 a2 a3 a4 a5=>⟨.ref s.heap.objs.size,rfl,?_⟩
  refine wpAny_letOwnedTupleGo_enum (s:={ s with heap:=h',toks:=s.toks + 1 }) a1 fun h2 b1 sb=>?_
  have hfT:H s.heap.objs.size = none:=I.hok.fresh (Nat.le_refl _)
  have sfp:∀ c∈[e,it],c < s.heap.objs.size:=fun c hc=>by
   obtain ⟨⟨old,he⟩,h1⟩:=st
   simp only [List.mem_cons,List.not_mem_nil,or_false] at hc
   rcases hc with rfl | rfl
   ·exact Heap.lt_size he
   ·obtain ⟨o,vs,e,d⟩:=h1.obj; exact Heap.lt_size e
  have nz:∀ c∈[e,it],c≠s.heap.objs.size:=fun c hc=>Nat.ne_of_lt (sfp c hc)
  have up:∀ c o,c≠e→h'.get? c = some o→h2.get? c = some o:=fun c o n q=>sb.extBut c o n q
  have T2:IsPair h2 s.heap.objs.size (.int i s.toks) u:=up _ _ (Ne.symm (nz e (by simp))) a3
  have I0:Inv X pins σ (upd H s.heap.objs.size (.tup [.int (i:Int),x])) { s with heap:=s.heap.push { cls:=.type "tuple",data:=.seq #[.int i s.toks,u] },toks:=s.toks + 1 } :=
   I.laid (o:=.tup [.int (i:Int),x]) (fun c o q=>Heap.get?_push_of_some _ q) (Nat.le_refl _) ⟨by show 2≤sizeLine; rw [sizeLine_eq]; decide,[.int i s.toks,u],.cons ⟨_,rfl⟩ (.cons ru .nil),PlainT.new _ _⟩
  have Il:Inv X pins σ (upd H s.heap.objs.size (.tup [.int (i:Int),x])) { s with heap:=h2,toks:=s.toks + 1 }:=by
   refine Inv.turneds (s:={ s with heap:=s.heap.push { cls:=.type "tuple",data:=.seq #[.int i s.toks,u] },toks:=s.toks + 1 }) (h':=h2) (t':=s.toks + 1) (ch:=[e,it]) I0 (fun c o hc q=>?_) fun c hc=>?_
   ·rcases Heap.get?_push_cases q with ⟨rfl,rfl⟩ | q
    ·exact T2
    ·exact up c o (fun z=>hc (by simp [z])) (a5 c o hc q)
   ·obtain ⟨f0,f1⟩:=hf c hc
    exact ⟨by rw [au (nz c hc)]; exact f0,f1⟩
  refine ⟨.ref s.heap.objs.size,upd H s.heap.objs.size (.tup [.int (i:Int),x]),Il,rfl,⟨_,x,rfl,hfT,rfl,fun zs hz=>by rw [I.sqb_inj hz hq]; exact hx⟩,⟨⟨u,?_⟩,a2.keep fun o q=>up _ o (Ne.symm hne) q⟩,fun c hc=>?_⟩
  ·have:((i + 1:Nat):Int) = (i:Int) + 1:=by omega
   rw [this]; exact b1
  ·rw [au (nz c hc)]
   exact (hf c hc).1
 done:=by
  intro X hP hw hK hc i pins s σ H E I hf st hg
  subst hP hw hK
  obtain ⟨xs,hq,he⟩:=hg
  obtain ⟨its,rv,p,_⟩:=I.sqb hq
  have l1:=rv.length
  exact wg (I.ok.hd hc) st p (by simp; omega) fun h' hk=>⟨rfl,I.turneds (t':=s.toks) (ch:=[e,it]) (fun c o hc q=>hk c o (fun z=>hc (by simp [z])) q) hf⟩
 self:=fun _ _ _ _ _ st h=>by obtain ⟨⟨old,he⟩,_⟩:=st; exact wpAny_pyIter_enum he h
section
variable {X:Cx} {elts:List Expr} {x1:Nat} {tpos:Pos} {a:Expr} {ws:WA} {p pos:Pos}
def H9 (K:PySem.W.Frag) (ta:TA):TI:=fun σ H Rq=>ta σ H fun vs H1=>∃ t l,vs = [.ref l]∧(∃ xs,SqB t K H1 l xs)∧Rq (Ite t K l) H1
theorem zc {ta:TA} (hg:Gl X "enumerate") (hm:X.mg "enumerate" = none) (ha:PA X [a] ta) (hs:starEach [a] X.env = [(false,eval a X.env)]:=by first | exact bI rfl | rfl):PI X (.Tuple elts x1 tpos) (.Call (.Name "enumerate" p) [a] [] pos) (H9 X.K ta):=by
 intro pins s σ H Rq I h
 refine Call_ (iY I hg hm lL (PyProof.Rows.callWith_type1 (thn (ha pos pins s σ H _ I h) fun us s1 ⟨vs,H1,I1,r1,q1⟩=>?_) hs rfl))
 obtain ⟨t,l,e,⟨xs,h1⟩,q⟩:=q1
 subst e
 cases r1 with
 | cons r rr =>
  cases rr
  cases r
  obtain ⟨its,rv,pp,_⟩:=I1.sqb h1
  refine ur pp fun h' Z hk=>?_
  obtain ⟨old,he⟩:=Z.e
  refine wpAny_pyIter_enum he ⟨s1.heap.objs.size + 1,_,_,_,H1,rfl,I1.kept (t':=s1.toks) hk,qV (Nat.succ_ne_self _),Z,fun c hc=>?_,q⟩
  have hle:s1.heap.objs.size≤c:=by
   have hc':c∈([s1.heap.objs.size + 1,s1.heap.objs.size]:List Nat):=hc
   simp only [List.mem_cons,List.not_mem_nil,or_false] at hc'
   rcases hc' with rfl | rfl <;> first | exact Nat.le_add_right _ _ | exact Nat.le_refl _
  exact I1.fpOk hle (I1.hok.fresh hle)
def qg (ds:List PyData):List PyData:=zipD (cw 0 ds.length) ds
def sX (ws:WA):WI:=fun m K=>ws m fun rs m'=>on1 (fun r=>∃ t ds,imS r = some (t,ds)∧K ⟨qg ds,none⟩ m') rs
theorem di (ds:List PyData):(qg ds).length = ds.length:=by unfold qg; rw [dW,aE]; omega
theorem mx {ds:List PyData} {i:Nat} {d:PyData} (h:ds[i]? = some d):(qg ds)[i]? = some (.tuple [.int (i:Int),d]):=by
 have hi:=(List.getElem?_eq_some_iff.mp h).1
 have:=oA (gU (lo:=0) hi) h
 rw [Int.zero_add] at this
 exact this
theorem wks_enum {K:Kd} {t:Bool} {l:Addr} {ds:List PyData}:Wks K (Ite t K l) (qg ds) fun H=>∃ xs,SqB t K H l xs∧DenAll K H ds xs where
 stop:=fun H ⟨xs,q,g⟩=>⟨xs,q,by rw [di,g.length]; exact Nat.le_refl _⟩
 go:=fun i H hi ⟨xs,q,g⟩=>by
  rw [di] at hi
  exact ⟨xs,xs[i]'(by rw [←g.length]; exact hi),q,List.getElem?_eq_getElem _⟩
 yld:=fun i H x H' hi ⟨xs,q,g⟩ y=>by
  obtain ⟨T,u,rfl,hT,rfl,e1⟩:=y
  obtain ⟨d,h1,k1⟩:=g.get2 (e1 xs q)
  have gr:∀ b o,H b = some o→upd H T (.tup [.int (i:Int),u]) b = some o:=fun b o q=>by rw [au (aK q hT)]; exact q
  have pe:Pers H (upd H T (.tup [.int (i:Int),u])):=⟨fun b xs q=>gr b _ q,fun b o u q=>gr b _ q⟩
  exact ⟨gr,_,mx h1,dN (SqT.of aA) (DenAll.cons (mX _) (DenAll.cons (k1.mono pe) DenAll.nil))⟩
theorem zY (hm:X.mg "enumerate" = none) (ha:MA X [a] ws) (hg:Gl X "enumerate" := by rfl) (hs:starEach [a] X.env = [(false,eval a X.env)]:=by first | exact bI rfl | rfl):MI X (.Tuple elts x1 tpos) (.Call (.Name "enumerate" p) [a] [] pos) (sX ws):=(zc hg hm ha hs).wk fun σ H Rq ⟨α,m,Kc,Rl,hw,fin⟩=>by
 refine ⟨α,m,_,Rl,hw,fun rs m' vs H' k n Rl' rr F=>?_⟩
 obtain ⟨r,v,rfl,rfl,h1,t,ds,e1,k⟩:=cv rr k
 obtain ⟨l,xs,rfl,g1,q1,p1⟩:=uz h1 e1
 refine ⟨t,l,rfl,⟨xs,q1⟩,fin _ m' _ H' k n Rl' F ⟨fun H=>∃ xs,SqB t X.kx H l xs∧DenAll X.kx H ds xs∧∀ H1,Pers H H1→SqB t X.kx H1 l xs,wks_enum.imp fun H ⟨xs,a,c,_⟩=>⟨xs,a,c⟩,⟨xs,q1,g1,p1⟩,fun Ha Hb ⟨xs,a,c,pa⟩ pe=>⟨xs,pa Hb pe,c.mono pe,fun H1 p=>pa H1 (pe.trans p)⟩⟩⟩
theorem vt (hm:X.mg "enumerate" = none) (ha:EA X [a] ws) (hg:Gl X "enumerate" := by rfl) (hs:starEach [a] X.env = [(false,eval a X.env)]:=by first | exact bI rfl | rfl):EI X (.Tuple elts x1 tpos) (.Call (.Name "enumerate" p) [a] [] pos) (sX ws):=⟨zY hm ha.h hg hs⟩
theorem AE {m:MSt} {Ks:Src→MSt→Prop} (h:ws m fun rs m'=>on1 (fun r=>∃ t ds,imS r = some (t,ds)∧Ks ⟨qg ds,none⟩ m') rs):sX ws m Ks:=h
end
section
variable {X:Cx}
def Du:WC:=fun rs m K=>on1 (fun r=>∃ ds ns,sqOf m r = some ds∧cq ds = some ns∧ns≠[]∧∀ x,x∈ns→(∀ y∈ns,y≤x)→K (.imm (.int x))) rs
theorem cW (hc:X.calm = true):c6 X (.builtin "max") (cM X.kx Du):=by
 rintro pins s σ' H xs us Q I rv ⟨α,m,σ,H0,rs,Kc,Rl,h,ho,fin⟩
 obtain ⟨r,v,rfl,rfl,h1,ds,ns,e1,e2,hne,ho⟩:=cv h ho
 obtain ⟨a,ys,rfl,f,g⟩:=h1.seq Rl e1
 rw [gW e2] at g
 have ey:=dM g
 subst ey
 have go:∀ x,x∈ns→(∀ y∈ns,y≤x)→Q (.int x) H:=fun x h1 h2=>fin _ _ H (ho x h1 h2) Rl (dh _) (Frm.refl _ _)
 rcases f with f | f
 ·exact l3 hc pins s σ' H _ us Q I rv ⟨false,a,ns,rfl,f,hne,go⟩
 ·exact l3 hc pins s σ' H _ us Q I rv ⟨true,a,ns,rfl,f,hne,go⟩
theorem jT {m:MSt} {r:R} {Kr:R→Prop} {ds:List PyData} {ns:List Int} (e1:sqOf m r = some ds) (e2:cq ds = some ns) (hne:ns≠[]) (h:∀ x,x∈ns→(∀ y∈ns,y≤x)→Kr (.imm (.int x))):Du [r] m Kr:=⟨ds,ns,e1,e2,hne,h⟩
end
open SeqAt in
open AutoSeq1 (wpAny_loadPart') in
theorem nA (l:Addr) (items:Array Value) (n:Nat) (dd:Option Addr) (sl:Array (Option Value)) (x:Value) (e:Value→Bool) (j:Nat) (hj:j < items.size) (hit:e items[j] = true) (hno:∀ m (hm:m < items.size),m < j→e items[m] = false) :
  Meets (Builtin.«tuple.index» ⟨[.ref l,x],[]⟩)
   (fun A R s=>s.heap.get? l = some { cls:=.type "tuple",dict:=dd,data:=.seq items n,slots:=sl }∧(∀ y,y∈items→EqAt A.in1 s y x (e y))∧R (.ok (.ret (.int j s.toks))) { s with toks:=s.toks + 1 }) :=
 .of_wp fun prog w A R s h=>by
  rcases s with ⟨hp,g,d,tk,os⟩
  rcases h with ⟨hl,he,h⟩
  (wp_walk using wpAny_loadPart' hl)
  refine (show wpAny (model prog w) A.in1 (forIn ([:min items.size items.size]:Std.Legacy.Range) _ _) _ _ _ from ?_)
  simp only [Std.Legacy.Range.forIn_eq_forIn_range']
  have e1:List.range' (0:Nat) (min items.size items.size) 1 = List.range' 0 items.size 1:=by rw [Nat.min_self]
  refine wpAny_forIn_list _ (fun rest (b:Option _×Unit) s'=>b.1 = none∧s' = ⟨hp,g,d,tk,os⟩∧∃ i,i≤j∧rest = List.range' i (items.size - i) 1) _ ?turn ?fin _ _ ?start
  case turn =>
   rintro i rest b s' ⟨hb,rfl,i0,hi0,hr⟩
   have hlt:i0 < items.size:=by omega
   have hs:items.size - i0 = (items.size - (i0 + 1)) + 1:=by omega
   rw [hs,List.range'_succ] at hr
   cases hr
   rw [show items[i]? = some items[i] from Array.getElem?_eq_getElem hlt]
   refine wpAny_bind (he items[i] (Array.getElem_mem hlt) prog w _ _ ?_)
   by_cases hij:i = j
   ·subst hij
    rw [hit]
    wp_walk
    exact ⟨_,rfl,h⟩
   ·rw [hno i hlt (by omega)]
    wp_walk
    exact ⟨rfl,rfl,i + 1,by omega,rfl⟩
  case fin =>
   rintro ⟨b1,b2⟩ s' ⟨hb,rfl,i0,hi0,hr⟩
   have:=congrArg List.length hr
   simp at this
   omega
  case start =>
   refine ⟨rfl,rfl,0,Nat.zero_le _,?_⟩
   simp [Std.Legacy.Range.size]
section
variable {X:Cx} {o e:Expr} {es:List Expr} {wo:WE} {ws:WA} {apos cpos:Pos}
def wMT (ob:WM) (wo:WE) (ws:WA):WE:=fun m K=>wo m fun r m1=>(∃ ds,r = .imm (.tuple ds))∧ws m1 fun rs m2=>ob r rs m2 K
theorem GW {name:Str} {id:String} {ob:WM} (slot:Slot "tuple" name id) (hty:typeOf (.builtin id) = pure (.type "method_descriptor")) (hm:MtM X id (mM X.kx ob)) (ho:ME X o wo) (ha:MA X (e :: es) ws)
  (hbase:attributeBase o name X.env (eval o X.env) = eval o X.env:=by rfl)
  (hfew:((backTo cpos (starEach (e :: es) X.env)).all (fun x=>!x.1) && (backToKw cpos (keywordEach [] X.env)).all (fun x=>x.1.isSome)
   && decide ((e :: es).length + ([]:List Keyword).length + (if ([]:List Keyword).isEmpty then 0 else 1) < 30)) = true:=by rfl)
  (hline:(apos.endLine == cpos.line) = true:=by rfl) (hs:starEach (e :: es) X.env = (false,eval e X.env) :: starEach es X.env:=by first | exact aU rfl | rfl) (hplain:(backTo cpos (starEach es X.env)).any (·.1) = false:=by rfl) :
  ME X (.Call (.Attribute o name apos) (e :: es) [] cpos) (wMT ob wo ws):=(DL PySem.F.plainAttrs_tuple slot hty hm ho ha hbase hfew hline hs hplain).wk fun σ H Q ⟨α,m,Kc,Rl,hw,fin⟩=>by
 refine ⟨α,m,_,Rl,hw,fun r m1 v H1 k n1 Rl1 rr F1=>?_⟩
 obtain ⟨⟨ds,rfl⟩,k⟩:=k
 obtain ⟨a,xs,rfl,f,g⟩:=bt (show Den X.kx H1 (.tuple ds) v from rr)
 refine ⟨.inr (.inl ⟨rfl,xs,f⟩),α,m1,_,Rl1,k,fun rs m2 vs H2 k2 n2 Rl2 rr2 F2=>?_⟩
 exact ⟨α,m2,σ,H,H1,.imm (.tuple ds),rs,Kc,Rl2,rr.keep Rl Rl1 F2,rr2,k2,fun r m' v H' k n Rl' rr' F=>fin r m' v H' k (n.trans (n2.trans n1)) Rl' (rr'.base Rl2 (F1.trans F2)) ((F1.trans F2).trans F)⟩
theorem xr {name:Str} {id:String} {ob:WM} (slot:Slot "tuple" name id) (hty:typeOf (.builtin id) = pure (.type "method_descriptor")) (hm:MtM X id (mM X.kx ob)) (ho:EE X o wo) (ha:EA X (e :: es) ws)
  (hbase:attributeBase o name X.env (eval o X.env) = eval o X.env:=by rfl)
  (hfew:((backTo cpos (starEach (e :: es) X.env)).all (fun x=>!x.1) && (backToKw cpos (keywordEach [] X.env)).all (fun x=>x.1.isSome)
   && decide ((e :: es).length + ([]:List Keyword).length + (if ([]:List Keyword).isEmpty then 0 else 1) < 30)) = true:=by rfl)
  (hline:(apos.endLine == cpos.line) = true:=by rfl) (hs:starEach (e :: es) X.env = (false,eval e X.env) :: starEach es X.env:=by first | exact aU rfl | rfl) (hplain:(backTo cpos (starEach es X.env)).any (·.1) = false:=by rfl) :
  EE X (.Call (.Attribute o name apos) (e :: es) [] cpos) (wMT ob wo ws):=⟨GW slot hty hm ho.h ha.h hbase hfew hline hs hplain⟩
theorem x_mt {m:MSt} {K:R→MSt→Prop} {ob:WM} (h:wo m fun r m1=>(∃ ds,r = .imm (.tuple ds))∧ws m1 fun rs m2=>ob r rs m2 K):wMT ob wo ws m K:=h
theorem x_ts {ds:List PyData} {P:Prop} (h:P):(∃ es,R.imm (.tuple ds) = .imm (.tuple es))∧P:=⟨⟨ds,rfl⟩,h⟩
def ua:WM:=fun r rs m K=>on1 (f7 fun d=>∃ ds j,r = .imm (.tuple ds)∧d.canLay0 = true∧PyData.canLayAll0 ds = true∧d.depth≤60∧(∃ y,ds[j]? = some y∧PyData.eqv y d = true)∧(∀ (i:Nat) y,i < j→ds[i]? = some y→PyData.eqv y d = false)∧K (.imm (.int (j:Nat))) m) rs
theorem jM (hu:X.A.units + 64 < cLine):MtM X "tuple.index" (mM X.kx ua):=by
 rintro pins s σ' H x xs v us Q I rx rv ⟨α,m,σ,H0,H1,r,rs,Kc,Rl,h1,h2,ho,fin⟩
 obtain ⟨r2,v2,rfl,rfl,h2,ho⟩:=cv h2 ho
 obtain ⟨d,rfl,hd,ds,j,rfl,c1,c2,dp,⟨y,ey,eq⟩,hno,ho⟩:=io h2 ho
 obtain ⟨a,zs,rfl,f,g⟩:=bt (show Den X.kx H (.tuple ds) x from h1)
 cases rx
 obtain ⟨u,rfl,ru⟩:=rv.one
 obtain ⟨bs,qd⟩:=Den.reads I (PyData.hasDict_of_canLay _ c1) hd ru
 obtain ⟨its,rvv,⟨o,ho1,hc,hdict,n,hdata⟩,hz⟩:=I.tupleP f
 obtain ⟨as,rds⟩:=DenAll.reads I (PyData.hasDictAll_of_canLayAll _ c2) g rvv
 have hm:X.A.units + 1 + min (PyData.depthAll ds) d.depth < cLine:=by have:=Nat.min_le_right (PyData.depthAll ds) d.depth; omega
 have hmap:=SeqAt.readsAll_map ds _ _ c2 rds
 have hl:its.length = ds.length:=by rw [←hmap,List.length_map]
 have hj:j < its.length:=by rw [hl]; exact (List.getElem?_eq_some_iff.mp ey).1
 have ro:∀ (i:Nat) (hi:i < its.length) y,ds[i]? = some y→SeqAt.readOf s.heap its[i] = y:=fun i hi y e=>by
  rw [←hmap,List.getElem?_map,List.getElem?_eq_getElem hi] at e
  exact Option.some.inj e
 obtain ⟨cls,dd,data,sl⟩:=o
 dsimp only at hc hdata
 subst hc
 subst hdata
 refine call_meets PySem.F.slot_tuple_index ⟨_,ho1,rfl⟩ PySem.F.entry_tuple_index (PySem.F.args_tuple_index_2 _ _)
  (nA a its.toArray _ dd sl u (fun y=>PyData.eqv (SeqAt.readOf s.heap y) d) j (by simpa using hj) ?_ ?_) ⟨ho1,SeqAt.items_eqAt (by simpa using rds) qd c2 c1 hm,?_⟩
 ·show PyData.eqv (SeqAt.readOf s.heap its[j]) d = true
  rw [ro j hj y ey]; exact eq
 ·intro i hi hlt
  have hi':i < its.length:=by simpa using hi
  show PyData.eqv (SeqAt.readOf s.heap its[i]) d = false
  have hi2:i < ds.length:=by rw [←hl]; exact hi'
  rw [ro i hi' _ (List.getElem?_eq_getElem hi2)]
  exact hno i _ hlt (List.getElem?_eq_getElem hi2)
 ·exact ⟨.int (j:Nat),H,I.tok _,⟨_,rfl⟩,fin _ _ _ H ho rfl Rl (dh _) (Frm.refl _ _)⟩
theorem pZ {m:MSt} {d y:PyData} {ds:List PyData} {j k k':Nat} {K:R→MSt→Prop} (s1:Shp k d) (s2:∀ y∈ds,Shp k' y) (hk:k≤60) (ey:ds[j]? = some y) (eq:PyData.eqv y d = true) (hno:∀ (i:Nat) y,i < j→ds[i]? = some y→PyData.eqv y d = false) (h:K (.imm (.int (j:Nat))) m):ua (.imm (.tuple ds)) [.imm d] m K :=
 ⟨ds,j,rfl,s1.cl,(ig s2).1,Nat.le_trans s1.dp hk,⟨y,ey,eq⟩,hno,h⟩
end
theorem qm:fillsNumberSlot (.type "tuple") "mul" = pure false :=
 PySem.fillsNumberSlot_seq (id := "tuple.__mul__") (r:=some (.builtin "tuple.__rmul__")) PySem.F.slot_tuple_mul.lookup (by decide +kernel) PySem.F.slot_tuple_rmul.lookup (by decide +kernel)
theorem zr:seqRepeat? (.type "tuple") = pure (some (.builtin "tuple.__mul__")):=by
 unfold seqRepeat?
 rw [PySem.seqSlot_of (T := "tuple") (name := "__mul__") (id := "tuple.__mul__") PySem.F.slot_tuple_mul.lookup (by decide +kernel),PySem.seqSlot_of (T := "tuple") (name := "__rmul__") (id := "tuple.__rmul__") PySem.F.slot_tuple_rmul.lookup (by decide +kernel)]
 rfl
theorem uV (a:Int) (t:Tok) (l:Addr) (items:Array Value) (n:Nat) (dd:Option Addr) (sl:Array (Option Value)) :
  Meets (Builtin.«int.__rmul__» ⟨[.int a t,.ref l],[]⟩) (fun _ R s=>s.heap.get? l = some { cls:=.type "tuple",dict:=dd,data:=.seq items n,slots:=sl }∧R (.ok (.ret Value.notImplemented)) s) :=
 .of_wp fun prog w A R s h=>by
  rcases s with ⟨hp,g,d,tk,os⟩
  rcases h with ⟨hl,h⟩
  wp_walk
  exact ⟨_,rfl,h⟩
open AutoSeq1 (wpAny_loadPart') in
theorem zF (l:Addr) (items:Array Value) (n:Nat) (dd:Option Addr) (sl:Array (Option Value)) (k:Int) (t:Tok) (h1 : 0≤k) (h2:k < 2 ^ 20) (hz:items.size * k.toNat≤1000000) :
  Meets (Builtin.«tuple.__mul__» ⟨[.ref l,.int k t],[]⟩) (fun _ R s=>s.heap.get? l = some { cls:=.type "tuple",dict:=dd,data:=.seq items n,slots:=sl } ∧
   if (items.isEmpty || k == 1) = true then R (.ok (.ret (.ref l))) s else R (.ok (.ret (.ref s.heap.objs.size))) { s with heap:=s.heap.push { cls:=.type "tuple",data:=.seq ((List.replicate k.toNat items).foldl (fun x1 x2=>x1++x2) #[]) } }) :=
 .of_wp fun prog w A R s h=>by
  rcases s with ⟨hp,g,d,tk,os⟩
  rcases h with ⟨hl,h⟩
  (wp_walk using wpAny_loadPart' hl)
  have hT:(⟨hp,g,d,tk,os⟩ : Shared).TypeIs (.ref l) "tuple" := (⟨_,hl,rfl⟩)
  have hIs:IsTup (⟨hp,g,d,tk,os⟩ : Shared).heap l items:=⟨_,hl,rfl,n,rfl⟩
  have hsz:((items.size:Nat):Int) * k≤1000000:=by
   have ek:k = ((k.toNat:Nat):Int):=by omega
   rw [ek,←Int.natCast_mul]; omega
  rw [if_neg (show ¬ _ by simp only [decide_eq_true_eq,Bool.or_eq_true]; omega)]
  refine wpAny_bind (tupleItemsOf_ hIs ?_)
  by_cases hc:(items.isEmpty || k == 1) = true
  ·rw [if_pos hc] at h ⊢
   refine wpAny_bind ?_
   unfold Builtin.Tuple.tupleIsExact
   refine wpAny_bind (wpAny_typeOf hT (wpAny_pure ?_))
   rw [if_pos (by rfl)]
   exact wpAny_bind (wpAny_rule (wpAny_pure ⟨_,rfl,h⟩))
  ·rw [if_neg hc] at h ⊢
   have he:items.isEmpty = false:=by
    cases q:items.isEmpty with
    | false=>rfl
    | true=>rw [q] at hc; exact (hc rfl).elim
   by_cases hk0:k = 0
   ·subst hk0
    show wpAny _ _ (if (decide ((0:Int)≤0) || items.isEmpty) = true then _ else _) _ _ _
    rw [if_pos (by rfl)]
    exact wpAny_bind (m:=Builtin.Tuple.tupleExact #[]) (wpAny_newObj_type (wpAny_pure ⟨_,rfl,h⟩) (by show (0:Nat)≤sizeLine; exact Nat.zero_le _))
   have e1:(decide (k≤0) || items.isEmpty) = false:=by rw [he,decide_eq_false (by omega)]; rfl
   have hlen:∀ (m:Nat) (acc:Array Value),(List.foldl (fun x1 x2=>x1++x2) acc (List.replicate m items)).size = acc.size + m * items.size:=by
    intro m
    induction m with
    | zero=>intro acc; simp
    | succ m ih=>intro acc; rw [List.replicate_succ,List.foldl_cons,ih,Array.size_append,Nat.succ_mul]; omega
   have hbig:((List.replicate k.toNat items).foldl (fun x1 x2=>x1++x2) #[]).size≤sizeLine:=by
    rw [hlen,sizeLine_eq,Nat.mul_comm]; simp; omega
   show wpAny _ _ (if (decide (k≤0) || items.isEmpty) = true then _ else _) _ _ _
   rw [if_neg (by rw [e1]; exact Bool.false_ne_true)]
   show wpAny _ _ (if ((items.size:Nat):Int) * k > (2 ^ 63 - 1) / 8 then _ else _) _ _ _
   rw [if_neg (by omega)]
   show wpAny _ _ (if Builtin.Tuple.tupleTooMany (((items.size:Nat):Int) * k) = true then _ else _) _ _ _
   rw [if_neg (by unfold Builtin.Tuple.tupleTooMany; rw [decide_eq_true_eq,sizeLine_eq]; omega)]
   exact wpAny_bind (m:=Builtin.Tuple.tupleExact _) (wpAny_newObj_type (wpAny_pure ⟨_,rfl,h⟩) hbig)
section
variable {X:Cx}
def F7 (K:PySem.W.Frag):R2:=fun x y H Q=>∃ a xs k,x = .ref a∧y = .int k∧SqT K H a xs∧0≤k∧k < 2 ^ 20∧xs.length * k.toNat≤1000000 ∧
 if (xs.isEmpty || k == 1) = true then Q (.ref a) H else ∀ p,H p = none→Q (.ref p) (upd H p (.tup (List.replicate k.toNat xs).flatten))
theorem xY:OpR X (binaryOp .Mult) (F7 X.K):=by
 intro pins s σ H x y v u Q I rx ry h
 obtain ⟨a,xs,k,rfl,rfl,hq,h1,h2,hz,q⟩:=h
 cases rx
 obtain ⟨t,rfl⟩:=ry
 obtain ⟨its,r,⟨o,ho,hc,hd,n,hdt⟩,hsz⟩:=I.tupleP hq
 obtain ⟨cls,dd,data,sl⟩:=o
 dsimp only at hc hdt
 subst hc hdt
 have hl:xs.length = its.length:=r.length
 have hem:its.toArray.isEmpty = xs.isEmpty:=by
  cases its with
  | nil=>have:xs = []:=List.eq_nil_of_length_eq_zero (by simpa using hl); subst this; rfl
  | cons _ _=>cases xs with
   | nil=>simp at hl
   | cons _ _=>rfl
 have hnew:List.foldl (fun x1 x2=>x1++x2) #[] (List.replicate k.toNat its.toArray) = (List.replicate k.toNat its).flatten.toArray:=by
  have:=jt its k.toNat []
  rw [List.nil_append] at this
  exact this
 refine wpAny_binaryOp_repeat_ref (T := "tuple") (U := "int") (by decide) ⟨_,ho,rfl⟩ (fun s'=>typeIs_int s' k t) qm PySem.F.fills_int_mul PySem.F.slot_int_rmul zr PySem.F.slot_int_index.lookup
  (call_meets PySem.F.slot_int_rmul (typeIs_int s k t) PySem.F.entry_int_rmul (PySem.F.args_int_rmul_2 _ _) (uV k t a its.toArray n dd sl)
   ⟨ho,rfl,⟨_,ho,rfl⟩,call_meets PySem.F.slot_tuple_mul ⟨_,ho,rfl⟩ PySem.F.entry_tuple_mul (PySem.F.args_tuple_mul_2 _ _) (zF a its.toArray n dd sl k t h1 h2 (by rw [List.size_toArray,←hl]; exact hz)) ⟨ho,?_⟩⟩)
 rw [hem,hnew]
 by_cases hc:(xs.isEmpty || k == 1) = true
 ·rw [if_pos hc] at q ⊢
  exact ⟨.ref a,H,I,rfl,q⟩
 ·rw [if_neg hc] at q ⊢
  have hp:H s.heap.objs.size = none:=I.hok.fresh (Nat.le_refl _)
  refine ⟨.ref s.heap.objs.size,_,I.laid (t':=s.toks) (o:=.tup (List.replicate k.toNat xs).flatten) (fun b ob e=>Heap.get?_push_of_some _ e) (Nat.le_refl _) ⟨?_,_,r.rep k.toNat,PlainT.new _ _⟩,rfl,q _ hp⟩
  rw [tw,Nat.mul_comm,sizeLine_eq]; omega
def vH:WO
 | .imm (.int i),.imm (.int j),_,K=>IntMulOk i j∧K (.imm (.int (i * j)))
 | .imm (.tuple ds),.imm (.int k),_,K=>0≤k∧k < 2 ^ 20∧ds.length * k.toNat≤1000000∧K (.imm (.tuple (List.replicate k.toNat ds).flatten))
 | .new ds,.imm (.int k),_,K=>0≤k∧k < 2 ^ 20∧ds.length * k.toNat≤1000000∧K (.new (List.replicate k.toNat ds).flatten)
 | _,_,_,_=>False
theorem ia {K:Kd} {H:Hp} {ds:List PyData} {xs:List V} (g:DenAll K H ds xs):∀ k:Nat,DenAll K H (List.replicate k ds).flatten (List.replicate k xs).flatten
 | 0=>by simp only [List.replicate_zero,List.flatten_nil,DenAll]
 | k + 1=>by rw [List.replicate_succ,List.replicate_succ,List.flatten_cons,List.flatten_cons]; exact g.append (ia g k)
theorem bi:OpR X (binaryOp .Mult) (rM X.kx vH):=by
 rintro pins s σ' H x y v u Q I rx ry ⟨α,m,σ,H0,H1,r1,r2,Kc,Rl,h1,h2,ho,fin⟩
 unfold vH at ho
 split at ho
 ·rename_i i j
  exact zx pins s σ' H x y v u Q I rx ry ⟨α,m,σ,H0,H1,.imm (.int i),.imm (.int j),Kc,Rl,h1,h2,ho,fin⟩
 ·rename_i ds k
  obtain ⟨k1,k2,k3,ho⟩:=ho
  obtain ⟨a,xs,rfl,f,g⟩:=bt (show Den X.kx H (.tuple ds) x from h1)
  have e2:=aH (show Den X.kx H (.int k) y from h2)
  subst e2
  refine xY pins s σ' H _ _ v u Q I rx ry ⟨a,xs,k,rfl,rfl,f,k1,k2,by rw [←g.length]; exact k3,?_⟩
  by_cases hc:(xs.isEmpty || k == 1) = true
  ·rw [if_pos hc]
   refine fin _ _ H ho Rl (ib (dN f ?_)) (Frm.refl _ _)
   have e:(List.replicate k.toNat ds).flatten = ds:=by
    rw [Bool.or_eq_true] at hc
    rcases hc with hc | hc
    ·have hx:xs = []:=List.isEmpty_iff.mp hc
     have hd:ds = []:=List.eq_nil_of_length_eq_zero (by rw [g.length,hx]; rfl)
     subst hd; simp
    ·have:k = 1:=by simpa using hc
     subst this; simp
   rw [e]; exact g
  ·rw [if_neg hc]
   exact fun p hp=>fin _ _ _ ho (Rl.lay hp) (ib (dN (SqT.of aA) ((ia g k.toNat).mono (bh (.inl hp))))) (b9 hp)
 ·rename_i ds k
  obtain ⟨k1,k2,k3,ho⟩:=ho
  obtain ⟨a,xs,rfl,hb,hH,g⟩:=h1
  have e2:=aH (show Den X.kx H (.int k) y from h2)
  subst e2
  refine D6 pins s σ' H _ _ v u Q I rx ry ⟨a,k,xs,rfl,rfl,hH,by omega,by omega,by rw [←g.length,sizeLine_eq]; omega,fun p hp=>?_⟩
  exact fin _ _ _ ho (Rl.lay hp) ⟨p,_,rfl,hp,aA,(ia g k.toNat).mono (bh (.inl hp))⟩ (b9 hp)
 ·exact ho.elim
theorem zf {m:MSt} {i j:Int} {Kr:R→Prop} (hc:IntMulOk i j) (h:Kr (.imm (.int (i * j)))):vH (.imm (.int i)) (.imm (.int j)) m Kr:=⟨hc,h⟩
theorem wG {m:MSt} {ds:List PyData} {k:Int} {Kr:R→Prop} (h1 : 0≤k) (h2:k < 2 ^ 20) (h3:ds.length * k.toNat≤1000000) (h:Kr (.imm (.tuple (List.replicate k.toNat ds).flatten))):vH (.imm (.tuple ds)) (.imm (.int k)) m Kr:=⟨h1,h2,h3,h⟩
end
end L2
namespace K
open PySem L2 M7
inductive Mv where
 | come (o:List Nat) | done (k:Nat) | still
def Mv.d:Mv→PyData
 | .come o=>.tuple [.str "come",lnD o]
 | .done k=>.tuple [.str "done",.int (k:Int)]
 | .still=>.tuple [.str "still"]
def Mv.Ok (h:Hall):Mv→Prop
 | .come o=>Ord h.ss.length o
 | .done k=>k < h.ss.length
 | .still=>True
inductive Wd where
 | taken | away | served | none
def Wd.s:Wd→Str
 | .taken => "taken" | .away => "away" | .served => "served" | .none => "none"
def Hall.rn (h:Hall) (k:Nat):Nat:=h.rs.getD k 0
def cx (h:Hall) (l:List Nat) (k:Nat):List Nat×Wd:=if l.getD k 0 = h.rn k then (l,.away) else (l.set k (l.getD k 0 + 1),.taken)
def cf (l:List Nat) (k:Nat):List Nat×Wd:=if l.getD k 0 = 0 then (l,.none) else (l.set k (l.getD k 0 - 1),.served)
def idx (l:List Nat) (x:Nat):Nat:=l.findIdx (fun y=>y == x)
def maxN (l:List Nat):Nat:=l.foldl max 0
def br (h:Hall) (l:List Nat):Option (Nat×Nat):=if h.mv = true∧0∈l∧2≤maxN l then some (idx l (maxN l),idx l 0) else none
def bT (l:List Nat) (p:Nat×Nat):List Nat:=(l.set p.1 (l.getD p.1 0 - 1)).set p.2 ((l.set p.1 (l.getD p.1 0 - 1)).getD p.2 0 + 1)
def cJ (h:Hall):Nat→List Nat→List Nat
 | 0,l=>l
 | n + 1,l=>match br h l with
  | none=>l
  | some p=>cJ h n (bT l p)
def cy (h:Hall) (l:List Nat):List Nat:=cJ h (l.count 0) l
theorem iX:∀ (l:List Nat) (a:Nat),a≤l.foldl max a∧(∀ x∈l,x≤l.foldl max a)∧(l.foldl max a = a∨l.foldl max a∈l)
 | [],a=>⟨Nat.le_refl _,(fun _ h=>by cases h),.inl rfl⟩
 | y :: l,a=>by
  obtain ⟨h1,h2,h3⟩:=iX l (max a y)
  refine ⟨Nat.le_trans (Nat.le_max_left a y) h1,fun x hx=>?_,?_⟩
  ·rcases List.mem_cons.mp hx with rfl | hx
   ·exact Nat.le_trans (Nat.le_max_right a x) h1
   ·exact h2 x hx
  ·rcases h3 with h3 | h3
   ·show (List.foldl max (max a y) l = a)∨_
    rw [h3]
    by_cases hy:a≤y
    ·right
     show List.foldl max (max a y) l∈y :: l
     rw [h3,Nat.max_eq_right hy]; exact List.mem_cons_self
    ·left; exact Nat.max_eq_left (by omega)
   ·exact .inr (List.mem_cons_of_mem _ h3)
theorem kO {l:List Nat}:∀ x∈l,x≤maxN l:=(iX l 0).2.1
theorem dQ {l:List Nat} (h:l≠[]):maxN l∈l:=by
 rcases (iX l 0).2.2 with e | e
 ·cases l with
  | nil=>exact (h rfl).elim
  | cons x l =>
   have:x≤maxN (x :: l):=kO x List.mem_cons_self
   have e':maxN (x :: l) = 0:=e
   have hx:x = 0:=by omega
   rw [e',←hx]; exact List.mem_cons_self
 ·exact e
theorem dj {l:List Nat} {x:Nat} (h:x∈l):l[idx l x]? = some x∧∀ i y,i < idx l x→l[i]? = some y→y≠x:=by
 have hlt:idx l x < l.length:=List.findIdx_lt_length_of_exists ⟨x,h,by simp⟩
 refine ⟨?_,fun i y hi hy e=>?_⟩
 ·rw [List.getElem?_eq_getElem hlt]
  have:=List.findIdx_getElem (w:=hlt)
  simp at this
  exact congrArg some this
 ·subst e
  have:=List.not_of_lt_findIdx hi
  have hi':i < l.length:=by have:idx l y < l.length:=hlt; omega
  rw [List.getElem?_eq_getElem hi'] at hy
  simp at this
  exact this (Option.some.inj hy)
theorem bC (a b:Nat):PyData.eqv (.int (a:Int)) (.int (b:Int)) = decide (a = b):=by
 simp only [PyData.eqv]
 by_cases h:a = b
 ·subst h; simp
 ·have:¬ ((a:Int) = (b:Int)):=fun z=>h (Int.ofNat.inj z)
  simp [h,this]
theorem bW (l:List Nat):∀ y∈natD l,Shp 0 y:=fun y hy=>by
 obtain ⟨x,_,rfl⟩:=List.mem_map.mp hy
 exact cI _
theorem u0 (l:List Nat) (k x:Nat):(natD l).set k (.int (x:Int)) = natD (l.set k x):=by
 unfold natD; rw [List.map_set]
def p7:SpM:=fun as K=>∃ (l:List Nat) (k:Nat) (d:Int) (x:Nat),as = [.imm (lnD l),.imm (.int (k:Int)),.imm (.int d)]∧k < l.length∧l.length≤1000∧(l.getD k 0:Int) + d = (x:Int)∧K (.imm (lnD (l.set k x))) []
def lwD (p:List Nat×Wd):PyData:=.tuple [lnD p.1,.str p.2.s]
def wz:SpM:=fun as K=>∃ (h:Hall) (l:List Nat) (k:Nat),as = [.imm h.d,.imm (lnD l),.imm (.int (k:Int))]∧h.Ok∧Lines h l∧k < h.ss.length∧K (.imm (lwD (cx h l k))) []
def xH:SpM:=fun as K=>∃ (l:List Nat) (k:Nat),as = [.imm (lnD l),.imm (.int (k:Int))]∧k < l.length∧l.length≤1000∧K (.imm (lwD (cf l k))) []
def optP:Option (Nat×Nat)→PyData
 | none=>.none
 | some p=>.tuple [.int (p.1:Int),.int (p.2:Int)]
def tm:SpM:=fun as K=>∃ (h:Hall) (l:List Nat),as = [.imm h.d,.imm (lnD l)]∧l≠[]∧l.length≤1000∧K (.imm (optP (br h l))) []
def mm:SpM:=fun as K=>∃ (h:Hall) (l:List Nat),as = [.imm h.d,.imm (lnD l)]∧l≠[]∧l.length≤1000∧K (.imm (lnD (cy h l))) []
theorem ce {h:Hall} {l:List Nat} {p:Nat×Nat} (e:br h l = some p):h.mv = true∧l[p.1]? = some (maxN l)∧2≤maxN l∧l[p.2]? = some 0∧p.1≠p.2:=by
 unfold br at e
 split at e
 ·rename_i q
  obtain ⟨q1,q2,q3⟩:=q
  have hne:l≠[]:=fun z=>by rw [z] at q2; cases q2
  have s1:=(dj (dQ hne)).1
  have s0:=(dj q2).1
  cases e
  refine ⟨q1,s1,q3,s0,fun z=>?_⟩
  have z':idx l (maxN l) = idx l 0:=z
  rw [z',s0] at s1
  have:=Option.some.inj s1
  omega
 ·cases e
theorem c5 {h:Hall} {l:List Nat} {p:Nat×Nat} (e:br h l = some p):bT l p = (l.set p.1 (maxN l - 1)).set p.2 1∧p.1 < l.length∧p.2 < l.length∧(bT l p).count 0 + 1 = l.count 0∧(bT l p).length = l.length:=by
 obtain ⟨h0,h1,h2,h3,h4⟩:=ce e
 have l1:=(List.getElem?_eq_some_iff.mp h1).1
 have l2:=(List.getElem?_eq_some_iff.mp h3).1
 have g1:l.getD p.1 0 = maxN l:=aD h1
 have g2:(l.set p.1 (maxN l - 1)).getD p.2 0 = 0:=aD (by rw [List.getElem?_set_ne h4]; exact h3)
 have es:bT l p = (l.set p.1 (maxN l - 1)).set p.2 1:=by unfold bT; rw [g1,g2]
 have v1:l[p.1] = maxN l:=by rw [List.getElem?_eq_getElem l1] at h1; exact Option.some.inj h1
 have v2:l[p.2] = 0:=by rw [List.getElem?_eq_getElem l2] at h3; exact Option.some.inj h3
 refine ⟨es,l1,l2,?_,by rw [es,List.length_set,List.length_set]⟩
 have c0 : 0 < l.count 0:=List.count_pos_iff.mpr (List.mem_of_getElem? h3)
 have l2':p.2 < (l.set p.1 (maxN l - 1)).length:=by rw [List.length_set]; exact l2
 have v2':(l.set p.1 (maxN l - 1))[p.2] = 0:=by rw [List.getElem_set_ne h4]; exact v2
 rw [es,List.count_set l2',List.count_set l1,v2',v1]
 have d1:(maxN l == 0) = false:=by simp; omega
 have d2:(maxN l - 1 == 0) = false:=by simp; omega
 rw [d1,d2]
 simp
 omega
theorem mE {h:Hall} {l:List Nat} (e:br h l = none):∀ n,cJ h n l = l
 | 0=>rfl
 | n + 1=>by simp [cJ,e]
def lw (h:Hall) (r:Rule) (t:Nat):Nat:=match r with
 | .turns=>(t + 1) % h.ss.length
 | _=>t
def qW:SpM:=fun as K=>∃ (h:Hall) (r:Rule) (t:Nat),as = [.imm h.d,.imm r.d,.imm (.int (t:Int))]∧h.Ok∧K (.imm (.int (lw h r t:Nat))) []
def vb (h:Hall) (r:Rule) (l:List Nat) (t:Nat):Mv→PyData
 | .come o=>.int (sent h r l t o:Nat)
 | .done k=>.int (k:Int)
 | .still=>.none
def km:SpM:=fun as K=>∃ (h:Hall) (r:Rule) (l:List Nat) (t:Nat) (mv:Mv),as = [.imm h.d,.imm r.d,.imm (stD l t),.imm mv.d]∧h.Ok∧r.Ok h∧Lines h l∧mv.Ok h∧K (.imm (vb h r l t mv)) []
def bc (h:Hall) (r:Rule) (l:List Nat) (t:Nat):Mv→List Nat×Nat×Wd
 | .come o=>(cy h (cx h l (sent h r l t o)).1,lw h r t,(cx h l (sent h r l t o)).2)
 | .done k=>(cy h (cf l k).1,t,(cf l k).2)
 | .still=>(cy h l,t,.none)
def mvD (p:List Nat×Nat×Wd):PyData:=.tuple [stD p.1 p.2.1,.str p.2.2.s]
def lj:SpM:=fun as K=>∃ (h:Hall) (r:Rule) (l:List Nat) (t:Nat) (mv:Mv),as = [.imm h.d,.imm r.d,.imm (stD l t),.imm mv.d]∧h.Ok∧r.Ok h∧Lines h l∧mv.Ok h∧(r = .turns→t < h.ss.length)∧K (.imm (mvD (bc h r l t mv))) []
theorem jZ {h:Hall} {r:Rule} {l:List Nat} {t:Nat} {o:List Nat} (ho:h.Ok) (hr:r.Ok h) (hL:Lines h l) (hO:Ord h.ss.length o) (ht:r = .turns→t < h.ss.length):sent h r l t o < h.ss.length:=by
 cases r with
 | random=>obtain ⟨k0,k1,rfl,h0⟩:=hO.cons; exact h0
 | turns=>exact ht rfl
 | two=>exact jr (lt:=bZ l) hO 2
 | least=>have:=jr (lt:=bZ l) hO o.length; rw [List.take_length] at this; exact this
 | quick=>have:=jr (lt:=ck h l) hO o.length; rw [List.take_length] at this; exact this
 | told ps =>
  have hlt:placeF 0 h.rs l < ps.length:=by rw [hr.1,allR_cnt]; exact place_lt hL.fits
  exact hr.2 _ (List.mem_of_getElem? (getN rfl hlt))
def oI:SpM:=fun as K=>∃ (h:Hall) (l:List Nat),as = [.imm h.d,.imm (.list (natD l))]∧l≠[]∧l.length≤1000∧K (.imm (optP (br h l))) []
theorem Lines.set {h:Hall} {l:List Nat} {k x:Nat} (hL:Lines h l) (hx:∀ s,h.ss[k]? = some s→x≤s.r):Lines h (l.set k x):=by
 refine ⟨by rw [List.length_set]; exact hL.1,fun i s y e1 e2=>?_⟩
 by_cases hi:k = i
 ·subst hi
  have hlt:k < l.length:=by rw [hL.1]; exact (List.getElem?_eq_some_iff.mp e1).1
  rw [List.getElem?_set_self hlt] at e2
  cases e2
  exact hx s e1
 ·rw [List.getElem?_set_ne hi] at e2
  exact hL.2 i s y e1 e2
theorem Lines.at {h:Hall} {l:List Nat} {k:Nat} (hL:Lines h l) (hk:k < h.ss.length):∃ s,h.ss[k]? = some s∧l.getD k 0≤s.r∧h.rn k = s.r∧s∈h.ss:=by
 obtain ⟨s,es,ea,eb,hs⟩:=h.srv hk
 exact ⟨s,es,hL.2 k s _ es (getN hL.1 hk),aD (Hall.rs_get es),hs⟩
theorem qr {h:Hall} {l:List Nat} {k:Nat} (hL:Lines h l) (hk:k < h.ss.length):Lines h (cx h l k).1:=by
 obtain ⟨s,es,hle,er,hs⟩:=hL.at hk
 unfold cx
 split
 ·exact hL
 ·rename_i hne
  refine hL.set fun s' e'=>?_
  rw [es] at e'; cases e'
  omega
theorem qG {h:Hall} {l:List Nat} {k:Nat} (hL:Lines h l) (hk:k < h.ss.length):Lines h (cf l k).1:=by
 obtain ⟨s,es,hle,er,hs⟩:=hL.at hk
 unfold cf
 split
 ·exact hL
 ·refine hL.set fun s' e'=>?_
  rw [es] at e'; cases e'
  omega
theorem gg {h:Hall} (ho:h.Ok):∀ (n:Nat) (l:List Nat),Lines h l→Lines h (cJ h n l)
 | 0,l,hL=>hL
 | n + 1,l,hL=>by
  simp only [cJ]
  cases e:br h l with
  | none=>exact hL
  | some p =>
   obtain ⟨es,l1,l2,hc,hlen⟩:=c5 e
   obtain ⟨m0,m1,m2,m3,m4⟩:=ce e
   refine gg ho n _ ?_
   rw [es]
   refine (hL.set (k:=p.1) (x:=maxN l - 1) fun s e1=>?_).set fun s e1=>(ho.ok s (List.mem_of_getElem? e1)).r1
   have:=hL.2 p.1 s _ e1 m1
   omega
theorem fc {h:Hall} (ho:h.Ok) {l:List Nat} (hL:Lines h l):Lines h (cy h l):=gg ho _ _ hL
structure St (h:Hall) (r:Rule) (l:List Nat) (t:Nat):Prop where
 ln:Lines h l
 tn:r = .turns→t < h.ss.length
 ts:t < 4
theorem wp {h:Hall} (ho:h.Ok) {r:Rule} {t:Nat} (hs:t < 4) (ht:r = .turns→t < h.ss.length):(r = .turns→lw h r t < h.ss.length)∧lw h r t < 4:=by
 have n1:=ho.n1
 have n4:=ho.n4
 cases r with
 | turns =>
  have:=Nat.mod_lt (t + 1) (show h.ss.length > 0 by omega)
  exact ⟨fun _=>this,by show (t + 1) % h.ss.length < 4; omega⟩
 | _=>exact ⟨(fun z=>by cases z),hs⟩
theorem ki {h:Hall} (ho:h.Ok) {r:Rule} (hr:r.Ok h) {l:List Nat} {t:Nat} (S:St h r l t) {mv:Mv} (hm:mv.Ok h):St h r (bc h r l t mv).1 (bc h r l t mv).2.1:=by
 cases mv with
 | come o =>
  have:=wp ho S.ts S.tn
  exact ⟨fc ho (qr S.ln (jZ ho hr S.ln hm S.tn)),this.1,this.2⟩
 | done k=>exact ⟨fc ho (qG S.ln hm),S.tn,S.ts⟩
 | still=>exact ⟨fc ho S.ln,S.tn,S.ts⟩
def zer (h:Hall):List Nat:=List.replicate h.ss.length 0
theorem ku {h:Hall} (ho:h.Ok) (r:Rule):St h r (zer h) 0:=by
 refine ⟨⟨by simp [zer],fun i s x e1 e2=>?_⟩,fun _=>ho.n1,by decide⟩
 have:x = 0:=by
  have:=List.mem_of_getElem? e2
  unfold zer at this
  exact (List.mem_replicate.mp this).2
 omega
def lc:SpM:=fun as K=>∃ h:Hall,as = [.imm h.d]∧h.Ok∧K (.imm (stD (zer h) 0)) []
structure Cn where
 c:Nat
 t:Nat
 a:Nat
 s:Nat
def Cn.d (x:Cn):PyData:=.tuple [.int (x.c:Int),.int (x.t:Int),.int (x.a:Int),.int (x.s:Int)]
def Cn.b (x:Cn):Wd→Cn
 | .taken=>⟨x.c + 1,x.t + 1,x.a,x.s⟩
 | .away=>⟨x.c + 1,x.t,x.a + 1,x.s⟩
 | .served=>⟨x.c,x.t,x.a,x.s + 1⟩
 | .none=>x
def yI:SpM:=fun as K=>∃ (x:Cn) (w:Wd),as = [.imm x.d,.imm (.str w.s)]∧K (.imm (x.b w).d) []
def akL (A:List (List Nat)):List PyData:=A.map lnD
def akD (A:List (List Nat)):PyData:=.tuple (akL A)
def szs (A:List (List Nat)):List Nat:=A.map List.length
def cb (A:List (List Nat)) (p:Nat×Nat):List (List Nat):=(A.set p.2 ((A.getD p.1 []).drop ((A.getD p.1 []).length - 1))).set p.1 (A.getD p.1 []).dropLast
def askN (h:Hall):Nat→List (List Nat)→List (List Nat)
 | 0,A=>A
 | n + 1,A=>match br h (szs A) with
  | none=>A
  | some p=>askN h n (cb A p)
def bO (h:Hall) (A:List (List Nat)):List (List Nat):=askN h ((szs A).count 0) A
theorem lx {h:Hall} {A:List (List Nat)} (e:br h (szs A) = none):∀ n,askN h n A = A
 | 0=>rfl
 | n + 1=>by simp [askN,e]
theorem tF {h:Hall} {A:List (List Nat)} {p:Nat×Nat} (e:br h (szs A) = some p):szs (cb A p) = bT (szs A) p:=by
 obtain ⟨es,l1,l2,hc,hlen⟩:=c5 e
 obtain ⟨m0,m1,m2,m3,m4⟩:=ce e
 have hl:(A.getD p.1 []).length = maxN (szs A):=by
  obtain ⟨x,ex,e2,_⟩:=gmap m1
  rw [aD ex]; exact e2.symm
 rw [es]
 unfold cb szs
 rw [List.map_set,List.map_set,List.length_dropLast,List.length_drop,hl]
 have:maxN (szs A) - (maxN (szs A) - 1) = 1:=by omega
 rw [this]
 exact (List.set_comm _ _ m4).symm
def xn:SpM:=fun as K=>∃ (h:Hall) (A:List (List Nat)),as = [.imm h.d,.own (akL A)]∧A≠[]∧A.length≤4∧(∀ x∈A,x.length≤1000)∧K (.imm (akD (bO h A))) [akL A]
def askB (A:List (List Nat)) (k:Nat) (w:Wd) (num:Nat):List (List Nat):=match w with
 | .taken=>A.set k (A.getD k []++[num])
 | .served=>A.set k ((A.getD k []).drop 1)
 | _=>A
theorem bw (A:List (List Nat)):(szs A).length = A.length:=by simp [szs]
theorem gZ (A:List (List Nat)):(akL A).length = A.length:=by simp [akL]
theorem k7 {A:List (List Nat)} {k:Nat} (hk:k < A.length):(akL A)[k]? = some (lnD (A.getD k [])):=by
 unfold akL
 rw [List.getElem?_map,aD (List.getElem?_eq_getElem hk),List.getElem?_eq_getElem hk]; rfl
theorem k6 (A:List (List Nat)) (k:Nat) (x:List Nat):(akL A).set k (lnD x) = akL (A.set k x):=by unfold akL; rw [List.map_set]
theorem e8 {A:List (List Nat)} {k:Nat}:(szs A).getD k 0 = (A.getD k []).length:=by
 by_cases hk:k < A.length
 ·rw [aD (x:=(A.getD k []).length) (by unfold szs; rw [List.getElem?_map,aD (List.getElem?_eq_getElem hk),List.getElem?_eq_getElem hk]; rfl)]
 ·rw [List.getD_eq_getElem?_getD,List.getD_eq_getElem?_getD,List.getElem?_eq_none (by rw [bw]; omega),List.getElem?_eq_none (by omega)]; rfl
theorem kZ (A:List (List Nat)) (k:Nat) (x:List Nat):szs (A.set k x) = (szs A).set k x.length:=by unfold szs; rw [List.map_set]
theorem pv {h:Hall}:∀ (n:Nat) (A:List (List Nat)),szs (askN h n A) = cJ h n (szs A)
 | 0,A=>rfl
 | n + 1,A=>by
  simp only [askN,cJ]
  cases e:br h (szs A) with
  | none=>rfl
  | some p=>show szs (askN h n (cb A p)) = cJ h n (bT (szs A) p); rw [pv n,tF e]
theorem kR (h:Hall) (A:List (List Nat)):szs (bO h A) = cy h (szs A):=pv _ _
theorem o7 {h:Hall}:∀ (n:Nat) (A:List (List Nat)),∀ x∈askN h n A,∀ y∈x,∃ z∈A,y∈z
 | 0,A=>fun x hx y hy=>⟨x,hx,hy⟩
 | n + 1,A=>by
  intro x hx y hy
  simp only [askN] at hx
  cases e:br h (szs A) with
  | none=>rw [e] at hx; exact ⟨x,hx,hy⟩
  | some p =>
   rw [e] at hx
   obtain ⟨z,hz,hy⟩:=o7 n (cb A p) x hx y hy
   obtain ⟨m0,m1,m2,m3,m4⟩:=ce e
   obtain ⟨x0,ex,e2,_⟩:=gmap m1
   have hg:A.getD p.1 []∈A:=by rw [aD ex]; exact List.mem_of_getElem? ex
   unfold cb at hz
   rcases List.mem_or_eq_of_mem_set hz with hz | rfl
   ·rcases List.mem_or_eq_of_mem_set hz with hz | rfl
    ·exact ⟨z,hz,hy⟩
    ·exact ⟨_,hg,List.mem_of_mem_drop hy⟩
   ·exact ⟨_,hg,(List.dropLast_subset _ hy)⟩
def xm:SpM:=fun as K=>∃ (h:Hall) (A:List (List Nat)) (ld:PyData) (k:Nat) (w:Wd) (num:Nat),as = [.imm h.d,.imm (akD A),.imm ld,.imm (.str w.s),.imm (.int (num:Int))]∧A≠[]∧A.length≤4∧(∀ x∈A,x.length≤900)∧(w = .taken∨w = .served→ld = .int (k:Int)∧k < A.length)∧K (.imm (akD (bO h (askB A k w num)))) []
structure Sc where
 l:List Nat
 t:Nat
 c:Cn
 A:List (List Nat)
def Sc.d (x:Sc):PyData:=.tuple [stD x.l x.t,x.c.d,akD x.A]
structure Sc.Ok (h:Hall) (r:Rule) (x:Sc):Prop where
 st:St h r x.l x.t
 sz:szs x.A = x.l
def kOf (h:Hall) (r:Rule) (l:List Nat) (t:Nat):Mv→Nat
 | .come o=>sent h r l t o
 | .done k=>k
 | .still=>0
def Sc.nx (h:Hall) (r:Rule) (x:Sc) (mv:Mv):Sc :=
 ⟨(bc h r x.l x.t mv).1,(bc h r x.l x.t mv).2.1,x.c.b (bc h r x.l x.t mv).2.2,bO h (askB x.A (kOf h r x.l x.t mv) (bc h r x.l x.t mv).2.2 x.c.c)⟩
def sc0 (h:Hall):Sc:=⟨zer h,0,⟨0,0,0,0⟩,List.replicate h.ss.length []⟩
theorem pf {h:Hall} (ho:h.Ok) (r:Rule):(sc0 h).Ok h r:=⟨ku ho r,by simp [sc0,szs,zer]⟩
theorem pC {h:Hall} (ho:h.Ok) {r:Rule} (hr:r.Ok h) {l:List Nat} {t:Nat} (S:St h r l t) {mv:Mv} (hm:mv.Ok h):kOf h r l t mv < h.ss.length:=by
 cases mv with
 | come o=>exact jZ ho hr S.ln hm S.tn
 | done k=>exact hm
 | still=>exact ho.n1
theorem Sc.nx_ok {h:Hall} (ho:h.Ok) {r:Rule} (hr:r.Ok h) {x:Sc} (X:x.Ok h r) {mv:Mv} (hm:mv.Ok h):(x.nx h r mv).Ok h r:=by
 refine ⟨ki ho hr X.st hm,?_⟩
 show szs (bO h _) = _
 rw [kR]
 have hk:=pC ho hr X.st hm
 cases mv with
 | come o =>
  show cy h (szs (askB x.A (sent h r x.l x.t o) (cx h x.l (sent h r x.l x.t o)).2 x.c.c)) = cy h (cx h x.l (sent h r x.l x.t o)).1
  congr 1
  unfold cx
  split
  ·exact X.sz
  ·show szs (x.A.set _ _) = _
   rw [kZ,X.sz,List.length_append,←e8,X.sz]; rfl
 | done k =>
  show cy h (szs (askB x.A k (cf x.l k).2 x.c.c)) = cy h (cf x.l k).1
  congr 1
  unfold cf
  split
  ·exact X.sz
  ·show szs (x.A.set _ _) = _
   rw [kZ,X.sz,List.length_drop,←e8,X.sz]
 | still =>
  show cy h (szs x.A) = cy h x.l
  rw [X.sz]
def wdOf (h:Hall) (r:Rule) (x:Sc) (mv:Mv):Wd:=(bc h r x.l x.t mv).2.2
def pk:SpM:=fun as K=>∃ h:Hall,as = [.imm h.d]∧h.Ok∧K (.imm (sc0 h).d) []
def oy:SpM:=fun as K=>∃ (h:Hall) (r:Rule) (x:Sc) (mv:Mv),as = [.imm h.d,.imm r.d,.imm x.d,.imm mv.d]∧h.Ok∧r.Ok h∧x.Ok h r∧mv.Ok h∧K (.imm (.tuple [(x.nx h r mv).d,.str (wdOf h r x mv).s])) []
def runD (R:List Mv):PyData:=.tuple (R.map Mv.d)
def bM (h:Hall) (r:Rule):List Nat×Nat→List Mv→List (List Nat×Nat)
 | p,[]=>[p]
 | p,mv :: R=>p :: bM h r ((bc h r p.1 p.2 mv).1,(bc h r p.1 p.2 mv).2.1) R
def oY:SpM:=fun as K=>∃ (h:Hall) (r:Rule) (R:List Mv),as = [.imm h.d,.imm r.d,.imm (runD R)]∧h.Ok∧r.Ok h∧(∀ mv∈R,mv.Ok h)∧R.length≤100000∧K (.imm (.tuple ((bM h r (zer h,0) R).map fun p=>stD p.1 p.2))) []
def cP (h:Hall) (r:Rule):List Nat×Nat→Cn→List Mv→Cn
 | _,c,[]=>c
 | p,c,mv :: R=>cP h r ((bc h r p.1 p.2 mv).1,(bc h r p.1 p.2 mv).2.1) (c.b (bc h r p.1 p.2 mv).2.2) R
def mI:SpM:=fun as K=>∃ (h:Hall) (r:Rule) (R:List Mv),as = [.imm h.d,.imm r.d,.imm (runD R)]∧h.Ok∧r.Ok h∧(∀ mv∈R,mv.Ok h)∧K (.imm (cP h r (zer h,0) ⟨0,0,0,0⟩ R).d) []
theorem uF (ds:List PyData):cutD ds (some (-1)) none = ds.drop (ds.length - 1):=by
 unfold cutD
 have e1:HT.sIx ds.length ds.length none = ds.length:=by simp [HT.sIx]
 have e2:HT.sIx ds.length 0 (some (-1)) = ds.length - 1:=by
  simp only [HT.sIx]; rw [if_pos (by decide)]; omega
 rw [e1,e2,List.take_of_length_le (by rw [List.length_drop]; omega)]
theorem t5 (ds:List PyData):cutD ds none (some (-1)) = ds.dropLast:=by
 unfold cutD
 have e1:HT.sIx ds.length 0 none = 0:=by simp [HT.sIx]
 have e2:HT.sIx ds.length ds.length (some (-1)) = ds.length - 1:=by
  simp only [HT.sIx]; rw [if_pos (by decide)]; omega
 rw [e1,e2,List.drop_zero,Nat.sub_zero,List.dropLast_eq_take]
theorem lA (l:List Nat) (n:Nat):(natD l).drop n = natD (l.drop n):=by unfold natD; rw [List.map_drop]
theorem uC (l:List Nat):(natD l).dropLast = natD l.dropLast:=by unfold natD; rw [List.map_dropLast]
theorem szs_get? {A:List (List Nat)} {i:Nat} {x:List Nat} (h:A[i]? = some x):(szs A)[i]? = some x.length:=by simp [szs,h]
theorem qc {A:List (List Nat)} {i:Nat} {x:List Nat} (h:A[i]? = some x):natD ((szs A).take (i + 1)) = natD ((szs A).take i)++[.int (x.length:Int)]:=by
 rw [List.take_add_one,szs_get? h,kb]; rfl
theorem fi {α : Type} {R:List α} {i:Nat} {x : α} (e:R[i]? = some x):R.drop i = x :: R.drop (i + 1):=by
 obtain ⟨hi,rfl⟩:=List.getElem?_eq_some_iff.mp e
 exact List.drop_eq_getElem_cons hi
abbrev Fo:=Option (Int×Bool)
def Fo.d:Fo→PyData
 | none=>.none
 | some p=>.tuple [.int p.1,.bool p.2]
def foB (F:List Fo) (w:Wd) (num:Nat) (left:Nat):List Fo:=match w with
 | .taken=>F++[some ((left:Int),false)]
 | .away=>F++[none]
 | .served=>F.set num (some ((((F.getD num none).getD (0,false)).1 - (left:Int)),true))
 | .none=>F
def dg (h:Hall) (r:Rule) (x:Sc) (mv:Mv):Nat:=(x.A.getD (kOf h r x.l x.t mv) []).getD 0 0
def bQ (h:Hall) (r:Rule):Sc→List Fo→List Mv→List Fo
 | _,F,[]=>F
 | x,F,mv :: R=>bQ h r (x.nx h r mv) (foB F (wdOf h r x mv) (dg h r x mv) (R.length + 1)) R
structure FoOk (x:Sc) (F:List Fo):Prop where
 ln:F.length = x.c.c
 pr:∀ y∈x.A,∀ z∈y,∃ q,F[z]? = some (some q)
theorem gi {h:Hall} {r:Rule} {x:Sc} {mv:Mv} (X:x.Ok h r) (hm:mv.Ok h) (e:wdOf h r x mv = .served):∃ k,mv = .done k∧∃ n L,x.A[k]? = some (n :: L):=by
 cases mv with
 | come o =>
  exfalso
  have e':(cx h x.l (sent h r x.l x.t o)).2 = .served:=e
  unfold cx at e'
  split at e' <;> cases e'
 | done k =>
  refine ⟨k,rfl,?_⟩
  have e':(cf x.l k).2 = .served:=e
  unfold cf at e'
  split at e'
  ·cases e'
  ·rename_i hne
   have h1:(x.A.getD k []).length≠0:=by rw [←e8,X.sz]; exact hne
   cases e2:x.A[k]? with
   | none=>rw [List.getD_eq_getElem?_getD,e2] at h1; exact absurd rfl h1
   | some L =>
    rw [aD e2] at h1
    cases L with
    | nil=>exact absurd rfl h1
    | cons n L=>exact ⟨n,L,rfl⟩
 | still=>cases e
theorem FoOk.nx {h:Hall} {r:Rule} {x:Sc} {F:List Fo} (X:x.Ok h r) (O:FoOk x F) {mv:Mv} (hm:mv.Ok h) (left:Nat):FoOk (x.nx h r mv) (foB F (wdOf h r x mv) (dg h r x mv) left):=by
 have key:∀ (w:Wd) (k num:Nat) (F':List Fo),(∀ y∈askB x.A k w x.c.c,∀ z∈y,∃ q,F'[z]? = some (some q))→∀ y∈bO h (askB x.A k w x.c.c),∀ z∈y,∃ q,F'[z]? = some (some q):=by
  intro w k num F' hF y hy z hz
  obtain ⟨y',hy',hz'⟩:=o7 _ _ y hy z hz
  exact hF y' hy' z hz'
 show FoOk ⟨_,_,x.c.b (wdOf h r x mv),bO h (askB x.A (kOf h r x.l x.t mv) (wdOf h r x mv) x.c.c)⟩ _
 generalize kOf h r x.l x.t mv = k
 cases e:wdOf h r x mv with
 | taken =>
  refine ⟨by show (F++[_]).length = x.c.c + 1; rw [List.length_append,O.ln]; rfl,key _ _ 0 _ fun y hy z hz=>?_⟩
  have old:∀ y∈x.A,∀ z∈y,∃ q,(F++[some ((left:Int),false)])[z]? = some (some q):=fun y hy z hz=>by
   obtain ⟨q,hq⟩:=O.pr y hy z hz
   exact ⟨q,by rw [List.getElem?_append_left (List.getElem?_eq_some_iff.mp hq).1]; exact hq⟩
  rcases List.mem_or_eq_of_mem_set (show y∈x.A.set k (x.A.getD k []++[x.c.c]) from hy) with hy | rfl
  ·exact old y hy z hz
  ·rcases List.mem_append.mp hz with hz | hz
   ·cases e2:x.A[k]? with
    | none=>rw [List.getD_eq_getElem?_getD,e2] at hz; cases hz
    | some L=>rw [aD e2] at hz; exact old L (List.mem_of_getElem? e2) z hz
   ·rw [List.mem_singleton.mp hz,←O.ln]
    exact ⟨_,List.getElem?_concat_length⟩
 | away =>
  refine ⟨by show (F++[_]).length = x.c.c + 1; rw [List.length_append,O.ln]; rfl,key _ _ 0 _ fun y hy z hz=>?_⟩
  obtain ⟨q,hq⟩:=O.pr y hy z hz
  exact ⟨q,by show (F++[none])[z]? = _; rw [List.getElem?_append_left (List.getElem?_eq_some_iff.mp hq).1]; exact hq⟩
 | served =>
  refine ⟨by show (F.set _ _).length = x.c.c; rw [List.length_set,O.ln],key _ _ 0 _ fun y hy z hz=>?_⟩
  have old:∀ y∈x.A,∀ z∈y,∃ q,(foB F .served (dg h r x mv) left)[z]? = some (some q):=fun y hy z hz=>by
   obtain ⟨q,hq⟩:=O.pr y hy z hz
   show ∃ q,(F.set _ _)[z]? = _
   by_cases hn:dg h r x mv = z
   ·rw [hn,List.getElem?_set_self (List.getElem?_eq_some_iff.mp hq).1]; exact ⟨_,rfl⟩
   ·rw [List.getElem?_set_ne hn]; exact ⟨q,hq⟩
  rcases List.mem_or_eq_of_mem_set (show y∈x.A.set k ((x.A.getD k []).drop 1) from hy) with hy | rfl
  ·exact old y hy z hz
  ·have hz:=List.mem_of_mem_drop hz
   cases e2:x.A[k]? with
   | none=>rw [List.getD_eq_getElem?_getD,e2] at hz; cases hz
   | some L=>rw [aD e2] at hz; exact old L (List.mem_of_getElem? e2) z hz
 | none=>exact ⟨O.ln,key _ _ 0 _ O.pr⟩
def sw:SpM:=fun as K=>∃ (h:Hall) (r:Rule) (R:List Mv),as = [.imm h.d,.imm r.d,.imm (runD R)]∧h.Ok∧r.Ok h∧(∀ mv∈R,mv.Ok h)∧R.length≤100000∧K (.imm (.tuple ((bQ h r (sc0 h) [] R).map Fo.d))) []
def rQ:SpM:=fun as K=>∃ (fd:List PyData) (c:Nat) (mo:Int),as = [.own fd,.imm (.int mo)]∧FeedD c fd∧c < 900000000∧1≤mo∧mo≤4∧∀ (h:Hall) (fd':List PyData),h.Ok→FeedD (c + 20) fd'→K (.imm h.d) [fd']
def Mv.Ok2 (h:Hall) (mv:Mv):Prop:=mv.Ok h∧∀ o,mv = .come o→o.length = h.ss.length
def xo:SpM:=fun as K=>∃ (fd:List PyData) (c:Nat) (h:Hall) (way:Nat),as = [.own fd,.imm h.d,.imm (.int (way:Int))]∧h.Ok∧FeedD c fd∧c < 800000000∧way < 1000∧∀ (mv:Mv) (fd':List PyData),mv.Ok2 h→FeedD (c + 5) fd'→K (.imm mv.d) [fd']
end K
namespace L2
open PySem PySem.Spec PyProof.Rows
section
variable {κ : Type} [DecidableEq κ]
def valV (kvs:List (κ×V)) (k : κ):Option V:=(kvs.find? fun kv=>decide (kv.1 = k)).map (·.2)
def putK (kvs:List (κ×V)) (k : κ) (v:V):List (κ×V) :=
 if (kvs.any fun kv=>decide (kv.1 = k)) = true then kvs.map (fun kv=>if kv.1 = k then (kv.1,v) else kv) else kvs++[(k,v)]
theorem cV {p : κ×V} {r:List (κ×V)} {k : κ} (e:p.1 = k):valV (p :: r) k = some p.2:=by simp [valV,List.find?_cons,e]
theorem cU {p : κ×V} {r:List (κ×V)} {k : κ} (e:¬ p.1 = k):valV (p :: r) k = valV r k:=by simp [valV,List.find?_cons,e]
theorem kz (k : κ):∀ kvs:List (κ×V),(kvs.any fun kv=>decide (kv.1 = k)) = (valV kvs k).isSome
 | []=>rfl
 | p :: r=>by
  rw [List.any_cons]
  by_cases e:p.1 = k
  ·simp only [cV e,decide_eq_true e,Bool.true_or,Option.isSome_some]
  ·rw [cU e,decide_eq_false e,Bool.false_or]; exact kz k r
theorem l0 (k j : κ) (y:V):∀ kvs:List (κ×V),valV kvs k = none→valV (kvs++[(k,y)]) j = if j = k then some y else valV kvs j
 | [],_=>by
  by_cases e:k = j
  ·rw [if_pos e.symm]; exact cV (p:=(k,y)) e
  ·rw [if_neg (fun z=>e z.symm)]; exact cU (p:=(k,y)) e
 | p :: r,hn=>by
  rw [List.cons_append]
  have hk:¬ p.1 = k:=fun z=>by rw [cV z] at hn; cases hn
  rw [cU hk] at hn
  have ih:=l0 k j y r hn
  by_cases e:p.1 = j
  ·rw [cV e,cV e,if_neg (fun z=>hk (e.trans z))]
  ·rw [cU e,cU e,ih]
theorem fY (kvs:List (κ×V)) (k : κ) (v:V):(putK kvs k v).length≤kvs.length + 1:=by
 unfold putK
 split
 ·rw [List.length_map]; omega
 ·rw [List.length_append,List.length_cons,List.length_nil]; omega
theorem vx {kvs:List (κ×V)} {k : κ} (v:V) (h:valV kvs k = none):putK kvs k v = kvs++[(k,v)]:=by
 unfold putK
 rw [kz,h]
 exact if_neg (by decide)
theorem RelO.isSome_eq {o:Option V} {u:Option Value} (r:RelO o u):o.isSome = u.isSome:=by
 cases o with
 | none=>cases u with
  | none=>rfl
  | some _=>exact (show False from r).elim
 | some _=>cases u with
  | none=>exact (show False from r).elim
  | some _=>rfl
theorem KV.val {kvs:List (κ×V)} {vs:List (κ×Value)} (r:KV kvs vs) (k : κ):RelO (valV kvs k) (valueAt vs k):=by
 unfold KV at r
 induction r with
 | nil=>exact True.intro
 | @cons p q ps qs h t ih =>
  obtain ⟨h1,h2⟩:=h
  by_cases e:p.1 = k
  ·have e':q.1 = k:=h1.symm.trans e
   have b:valueAt (q :: qs) k = some q.2:=by simp [valueAt,List.find?_cons,e']
   rw [cV e,b]; exact h2
  ·have e':¬ q.1 = k:=fun z=>e (h1.trans z)
   have b:valueAt (q :: qs) k = valueAt qs k:=by simp [valueAt,List.find?_cons,e']
   rw [cU e,b]; exact ih
theorem KV.any {kvs:List (κ×V)} {vs:List (κ×Value)} (r:KV kvs vs) (k : κ):(kvs.any fun kv=>decide (kv.1 = k)) = vs.any fun kv=>decide (kv.1 = k):=by
 unfold KV at r
 induction r with
 | nil=>rfl
 | cons h t ih=>rw [List.any_cons,List.any_cons,ih,h.1]
theorem KV.repl {kvs:List (κ×V)} {vs:List (κ×Value)} (r:KV kvs vs) (k : κ) {y:V} {u:Value} (ry:RelV y u) :
  KV (kvs.map fun kv=>if kv.1 = k then (kv.1,y) else kv) (vs.map fun kv=>if kv.1 = k then (kv.1,u) else kv):=by
 unfold KV at r ⊢
 induction r with
 | nil=>exact .nil
 | @cons p q ps qs h t ih =>
  rw [List.map_cons,List.map_cons]
  refine .cons ?_ ih
  obtain ⟨h1,h2⟩:=h
  by_cases e:p.1 = k
  ·rw [if_pos e,if_pos (h1.symm.trans e)]; exact ⟨h1,ry⟩
  ·rw [if_neg e,if_neg (fun z=>e (h1.trans z))]; exact ⟨h1,h2⟩
theorem KV.put {kvs:List (κ×V)} {vs:List (κ×Value)} (r:KV kvs vs) (k : κ) {y:V} {u:Value} (ry:RelV y u):KV (putK kvs k y) (stored vs k u):=by
 unfold putK stored
 rw [r.any k]
 by_cases e:(vs.any fun kv=>decide (kv.1 = k)) = true
 ·rw [if_pos e,if_pos e]; exact r.repl k ry
 ·rw [if_neg e,if_neg e]; exact Paired.snoc r ⟨rfl,ry⟩
theorem KV.length {kvs:List (κ×V)} {vs:List (κ×Value)} (r:KV kvs vs):kvs.length = vs.length:=Paired.length r
end
theorem qX {P:Program} {w:World} {k:Key} {u:Value} (r:RelV (kV k) u):(bR P w).is k u = true:=by
 cases k with
 | inl i=>obtain ⟨t,e⟩:=(show ∃ t,u = Value.int i t from r); subst e; exact na P w i t
 | inr x=>obtain ⟨t,e⟩:=(show ∃ t,u = Value.str x t from r); subst e; exact ng P w x t
theorem lP {P:Program} {w:World}:∀ {ks:List Key} {us:List Value},Vals (ks.map kV) us→ItemsAre (bR P w) ks us
 | [],_,r=>by rw [List.map_nil] at r; cases r; exact .nil
 | k :: ks,_,r=>by
  rw [List.map_cons] at r
  cases r with
  | cons h t=>exact .cons (qX h) (lP t)
abbrev KT (H:Hp):List (List Key×V)→List (List Key×Addr×Value)→Prop:=Paired fun p q=>p.1 = q.1∧H q.2.1 = some (.tup (p.1.map kV))∧RelV p.2 q.2.2
theorem KT.val {H:Hp} {kvs:List (List Key×V)} {xs:List (List Key×Addr×Value)} (r:KT H kvs xs) (k:List Key):RelO (valV kvs k) ((atKey xs k).map (·.2)):=by
 induction r with
 | nil=>exact True.intro
 | @cons p q ps qs h t ih =>
  obtain ⟨h1,_,h2⟩:=h
  by_cases e:p.1 = k
  ·have e':q.1 = k:=h1.symm.trans e
   have b:atKey (q :: qs) k = some q.2:=by simp [atKey,List.find?_cons,e']
   rw [cV e,b]; exact h2
  ·have e':¬ q.1 = k:=fun z=>e (h1.trans z)
   have b:atKey (q :: qs) k = atKey qs k:=by simp [atKey,List.find?_cons,e']
   rw [cU e,b]; exact ih
theorem KT.repl {H:Hp} {kvs:List (List Key×V)} {xs:List (List Key×Addr×Value)} (r:KT H kvs xs) (k:List Key) {y:V} {u:Value} (ry:RelV y u) :
  KT H (kvs.map fun kv=>if kv.1 = k then (kv.1,y) else kv) (xs.map (putAt k u)):=by
 induction r with
 | nil=>exact .nil
 | @cons p q ps qs h t ih =>
  rw [List.map_cons,List.map_cons]
  refine .cons ?_ ih
  obtain ⟨h1,h2,h3⟩:=h
  unfold putAt
  by_cases e:p.1 = k
  ·rw [if_pos e,if_pos (h1.symm.trans e)]; exact ⟨h1,h2,ry⟩
  ·rw [if_neg e,if_neg (fun z=>e (h1.trans z))]; exact ⟨h1,h2,h3⟩
theorem KT.put {H:Hp} {kvs:List (List Key×V)} {xs:List (List Key×Addr×Value)} (r:KT H kvs xs) (k:List Key) {b:Addr} {y:V} {u:Value} (hb:H b = some (.tup (k.map kV))) (ry:RelV y u) :
  KT H (putK kvs k y) (storedH xs k b u):=by
 have e:(kvs.any fun kv=>decide (kv.1 = k)) = (atKey xs k).isSome:=by
  rw [kz,(r.val k).isSome_eq,Option.isSome_map]
 unfold putK storedH
 rw [e]
 by_cases q:(atKey xs k).isSome = true
 ·rw [if_pos q,if_pos q]; exact r.repl k ry
 ·rw [if_neg q,if_neg q]; exact Paired.snoc r ⟨rfl,hb,ry⟩
theorem KT.keeps {H H':Hp} {kvs:List (List Key×V)} {xs:List (List Key×Addr×Value)} (r:KT H kvs xs) (ht:∀ b ys,H b = some (.tup ys)→H' b = some (.tup ys)):KT H' kvs xs :=
 Paired.mapP r fun _ _ z=>⟨z.1,ht _ _ z.2.1,z.2.2⟩
section
variable {P:Program} {w:World} {H:Hp} {h:Heap} {a:Addr}
theorem DR {u:HO} (ok:HOk P w H h) (e:Rd H a u):ObjOk P w H h a u:=e.ok ok
theorem qt {kvs:List (Key×V)} (ok:HOk P w H h) (e:Rd H a (.dK kvs)):kvs.length≤sizeLine∧(a == sysModules) = false∧∃ vs,KV kvs vs∧h.DictOf (bR P w) a vs :=
 show ObjOk P w H h a (.dK kvs) from DR ok e
theorem Ck {kvs:List (Key×V)} (ok:HOk P w H h) (e:H a = some (.dK kvs)):kvs.length≤sizeLine∧(a == sysModules) = false∧∃ vs,KV kvs vs∧h.DictOf (bR P w) a vs:=qt ok (.inl e)
theorem sF {ks:List Key} (ok:HOk P w H h) (e:H a = some (.tup (ks.map kV))):(tupleKind (bR P w)).is h ks a:=by
 obtain ⟨_,its,r,o,h1,h2,hd,n,h3⟩:=(show ObjOk P w H h a (.tup (ks.map kV)) from ok a _ e)
 exact ⟨o,its.toArray,n,h1,h2,h3,by simpa using lP r⟩
theorem yL {kvs:List (List Key×V)} (ok:HOk P w H h) (e:Rd H a (.dT kvs)):kvs.length≤sizeLine∧(a == sysModules) = false ∧
  ∃ xs,KT H kvs xs∧h.DictOfH (tupleKind (bR P w)) a xs:=by
 obtain ⟨z,y,xs,r,o,es,ep,h1,h2,h3,h4,h5⟩:=(show ObjOk P w H h a (.dT kvs) from DR ok e)
 refine ⟨z,y,xs,r,o,es,ep,h1,h2,h3,h4,fun x hx=>?_,h5⟩
 have all:∀ {l:List (List Key×V)} {m:List (List Key×Addr×Value)},KT H l m→∀ x∈m,(tupleKind (bR P w)).is h x.1 x.2.1:=by
  intro l m q
  induction q with
  | nil=>intro x hx; exact nomatch hx
  | @cons p q ps qs hq t ih =>
   intro x hx
   rcases List.mem_cons.mp hx with e | hx
   ·subst e
    exact sF ok (by rw [←hq.1]; exact hq.2.1)
   ·exact ih x hx
 exact all r x hx
theorem Gi {kvs:List (List Key×V)} (ok:HOk P w H h) (e:H a = some (.dT kvs)):kvs.length≤sizeLine∧(a == sysModules) = false ∧
  ∃ xs,KT H kvs xs∧h.DictOfH (tupleKind (bR P w)) a xs:=yL ok (.inl e)
end
def DGet (H:Hp) (a:Addr) (y:V) (r:Option V):Prop :=
 (∃ kvs k,Rd H a (.dK kvs)∧y = kV k∧r = valV kvs k)∨∃ kvs k b,Rd H a (.dT kvs)∧y = .ref b∧H b = some (.tup (k.map kV))∧r = valV kvs k
def DPut (H:Hp) (a:Addr) (y v:V) (H':Hp):Prop :=
 (∃ kvs k,H a = some (.dK kvs)∧y = kV k∧kvs.length < sizeLine∧H' = upd H a (.dK (putK kvs k v))) ∨
 ∃ kvs k b,H a = some (.dT kvs)∧y = .ref b∧H b = some (.tup (k.map kV))∧kvs.length < sizeLine∧H' = upd H a (.dT (putK kvs k v))
theorem DGet.k {H:Hp} {a:Addr} {kvs:List (Key×V)} {k:Key} (e:H a = some (.dK kvs)):DGet H a (kV k) (valV kvs k):=.inl ⟨kvs,k,.inl e,rfl,rfl⟩
theorem DPut.k {H:Hp} {a:Addr} {kvs:List (Key×V)} {k:Key} {v:V} (e:H a = some (.dK kvs)) (hl:kvs.length < sizeLine):DPut H a (kV k) v (upd H a (.dK (putK kvs k v))):=.inl ⟨kvs,k,e,rfl,hl,rfl⟩
section
variable {X:Cx} {pins:List (Addr×Obj)} {σ : St} {H:Hp} {s:Shared} {a:Addr} {y v:V} {u r:Value} {o:Option V} {A:Around} {E:Value→Shared→Prop}
theorem Inv.big (I:Inv X pins σ H s):sysModules < s.heap.objs.size:=by
 have h:mainGlobals < s.heap.objs.size:=(I.mod.glob.keeps I.bk).lt
 exact Nat.lt_trans (by decide) h
theorem sA {Q:Value→Shared→Prop} (hu:A.units + 1 < cLine) (I:Inv X pins σ H s) (g:DGet H a y (some v)) (ry:RelV y u) (h:∀ w' s',Inv X pins σ H s'→RelV v w'→Q w' s') :
  wpAny (model X.prog X.w) A (getItem (.ref a) u) Q E s:=by
 rcases g with ⟨kvs,k,e,ey,l⟩ | ⟨kvs,k,b,e,ey,eb,l⟩
 ·subst ey
  obtain ⟨z,hd,vs,rel,dd⟩:=qt I.hok e
  obtain ⟨w',hw,rw'⟩:=RelO.some_of (v:=v) (o:=valueAt vs k) (by rw [l]; exact rel.val k)
  exact wpAny_getItem_of (qX ry) dd.mapOf hw (h w' _ (I.tok _) rw')
 ·subst ey
  cases (show u = Value.ref b from ry)
  obtain ⟨z,hd,xs,rel,dd⟩:=yL I.hok e
  obtain ⟨w',hw,rw'⟩:=RelO.some_of (v:=v) (o:=(atKey xs k).map (·.2)) (by rw [l]; exact rel.val k)
  obtain ⟨p,hp,hp2⟩:=Option.map_eq_some_iff.mp hw
  refine wpAny_getItem_heap (tupleKind_room_in1 hu) (sF I.hok eb) dd hp ?_
  rw [hp2]
  exact h w' _ (I.tok _) rw'
theorem nI {h':Heap} {t':Nat} {ob:HO} (I:Inv X pins σ H s) (mu:Mut (H a)) (hs:Heap.SameBut a s.heap h') (he:∃ q,h'.get? a = some q) (new:ObjOk X.prog X.w (upd H a ob) h' a ob) :
  Inv X pins σ (upd H a ob) { s with heap:=h',toks:=t' } :=
 I.write (x:=a) (e:=a) mu (.inl rfl) (fun b q hb z=>(hs.2 b hb).trans z) he new
theorem wy {P:Program} {w:World} {H':Hp} {h':Heap} {kvs:List (Key×V)} {vs:List (Key×Value)} (z:kvs.length≤sizeLine) (hd:(a == sysModules) = false) (rel:KV kvs vs) (dd:h'.DictOf (bR P w) a vs) :
  ObjOk P w H' h' a (.dK kvs):=⟨z,hd,vs,rel,dd⟩
theorem rh {H':Hp} {Q:Unit→Shared→Prop} (hu:A.units + 1 < cLine) (I:Inv X pins σ H s) (g:DPut H a y v H') (ry:RelV y u) (rv:RelV v r) (h:∀ s',Inv X pins σ H' s'→Q () s') :
  wpAny (model X.prog X.w) A (setItem (.ref a) u r) Q E s:=by
 rcases g with ⟨kvs,k,e,ey,l,eH⟩ | ⟨kvs,k,b,e,ey,eb,l,eH⟩
 ·subst ey eH
  obtain ⟨z,hd,vs,rel,dd⟩:=Ck I.hok e
  have hz:vs.length≤sizeLine:=by rw [←rel.length]; exact z
  have hl:(putK kvs k v).length≤sizeLine:=by have:=fY kvs k v; omega
  refine wpAny_setItem_pairs (hsz:=hz) (qX ry) dd fun h' dd' hs=>h _ ?_
  have he:∃ q,h'.get? a = some q:=let ⟨q,_,_,hq,_⟩:=dd'; ⟨q,hq⟩
  exact nI I (by rw [e]; exact True.intro) hs he (wy hl hd (rel.put k rv) dd')
 ·subst ey eH
  cases (show u = Value.ref b from ry)
  obtain ⟨z,hd,xs,rel,dd⟩:=Gi I.hok e
  have hz:xs.length≤sizeLine:=by rw [←Paired.length rel]; exact z
  have hl:(putK kvs k v).length≤sizeLine:=by have:=fY kvs k v; omega
  refine wpAny_setItem_heap (hsz:=hz) (tupleKind_room_in1 hu) (sF I.hok eb) dd fun h' dd' hs=>h _ ?_
  obtain ⟨q,es,ep,hq,h2,h3,h4,_,h5⟩:=dd'
  refine nI I (by rw [e]; exact True.intro) hs ⟨q,hq⟩ ⟨hl,hd,_,(rel.put k eb rv).keeps fun c ys ec=>?_,q,es,ep,hq,h2,h3,h4,h5⟩
  rw [au (nH ec e (fun z=>nomatch z))]
  exact ec
end
def NoSl (i:Expr):Prop:=∀ ov iv,subscripted i false ov iv = operate [ov,iv] (getItem ov iv)
theorem yb {prog:Program} {w:World} {A:Around} {E:Value→Shared→Prop} {s:Shared} {env:Env} {value slice:Expr} {pos:Pos} {T id:String} {Q:Value→Shared→Prop}
  (hl:typeLookup (.type T) "__getitem__" = pure (some (.builtin id))) (hs:NoSl slice)
  (h:wpAny (model prog w) A (eval value env) (fun o s₁=>wpAny (model prog w) A (eval slice env) (fun i s₂=>s₂.TypeIs o T∧wpAny (model prog w) A (getItem o i) Q E s₂) E s₁) E s) :
  wpAny (model prog w) A (eval (.Subscript value slice pos) env) Q E s:=by
 refine Subscript_ (wpAny_mono h (fun o s₁ h₁=>wpAny_mono h₁ (fun i s₂ h₂=>?_) fun _ _ x=>x) fun _ _ x=>x)
 obtain ⟨hT,h₂⟩:=h₂
 unfold subscriptTail
 refine wpAny_bind ?_
 rw [getitemInPython_of_ne hT.not_modules]
 refine wpAny_bind (wpAny_specialOf hT hl ?_)
 have fin:wpAny (model prog w) A (subscripted slice false o i) (fun r s₃=>wpAny (model prog w) A (letTemporaryGo value o r >>= fun _=>pure r) Q E s₃) E s₂:=by
  rw [hs o i]
  exact wpAny_operating (wpAny_mono h₂ (fun r s₃ h₃=>wpAny_bind (wpAny_letTemporaryGo (wpAny_pure h₃))) fun _ _ x=>x)
 first
  | exact wpAny_pure (wpAny_bind fin)
  | exact wpAny_bind (wpAny_pure (wpAny_bind fin))
  | exact wpAny_bind fin
theorem nu {X:Cx} {pins:List (Addr×Obj)} {σ : St} {H:Hp} {s:Shared} {a:Addr} {y:V} {o:Option V} (I:Inv X pins σ H s) (g:DGet H a y o):s.TypeIs (.ref a) "dict" := by
 rcases g with ⟨kvs,k,e,_,_⟩ | ⟨kvs,k,b,e,_,_,_⟩
 ·obtain ⟨_,_,vs,_,dd⟩:=qt I.hok e
  exact dd.typeIs
 ·obtain ⟨_,_,xs,_,dd⟩:=yL I.hok e
  exact dd.typeIs
def Fh (td ty:TE):TE:=fun σ H Q=>td σ H fun x H1=>ty σ H1 fun y H2=>∃ a v,x = .ref a∧DGet H2 a y (some v)∧Q v H2
def Ia (td ty tv:TE):TS:=fun D σ H=>tv σ H fun v H1=>td σ H1 fun x H2=>ty σ H2 fun y H3=>∃ a H4,x = .ref a∧DPut H3 a y v H4∧D.nx σ H4
section
variable {X:Cx} {o i e value:Expr} {pos pos' tpos:Pos} {td ty tv:TE}
theorem xM (hu:X.A.units + 1 < cLine) (ho:PE X o td) (hi:PE X i ty) (hs:NoSl i):PE X (.Subscript o i pos) (Fh td ty):=by
 intro pins s σ H Q I h
 refine yb PySem.F.slot_dict_getitem.lookup hs (thn (ho pins s σ H _ I h) fun u s1 ⟨x,H1,I1,rx,q1⟩=>thn (hi pins s1 σ H1 _ I1 q1) fun iv s2 ⟨y,H2,I2,ry,a,v,ex,g,q2⟩=>?_)
 subst ex
 obtain rfl:u = Value.ref a:=rx
 exact ⟨nu I2 g,sA hu I2 g ry fun w' s3 I3 rw'=>⟨v,H2,I3,rw',q2⟩⟩
theorem yZ (hu:X.A.units + 1 < cLine) (ho:PE X o td) (hi:PE X i ty) (hv:PE X value tv) (hs:swapsWith value (some (.Subscript o i pos')) pos.line X.env = pure false) :
  PS X (.Assign [.Subscript o i pos'] value pos) (Ia td ty tv):=by
 intro pins s σ H D I h
 refine wpAny_Assign_Subscript (thn (hv pins s σ H _ I h) fun r s1 ⟨v,H1,I1,rv,q1⟩=>thn (ho pins s1 σ H1 _ I1 q1) fun u s2 ⟨x,H2,I2,rx,q2⟩=>thn (hi pins s2 σ H2 _ I2 q2) fun iv s3 ⟨y,H3,I3,ry,a,H4,ex,g,q3⟩=>?_) hs
 subst ex
 obtain rfl:u = Value.ref a:=rx
 exact rh hu I3 g ry rv fun s4 I4=>⟨σ,H4,I4,q3⟩
end
theorem o3 {P:Program} {w:World} {H:Hp} (h:Heap) (hb:sysModules < h.objs.size):ObjOk P w H (h.push { cls:=.type "dict",data:=.dict #[] }) h.objs.size (.dK []) :=
 ⟨Nat.zero_le _,beq_eq_false_iff_ne.mpr (Ne.symm (Nat.ne_of_lt hb)),[],.nil,Heap.DictOf.new h⟩
def Bo:TE:=fun _ H Q=>∀ p,H p = none→Q (.ref p) (upd H p (.dK []))
section
variable {X:Cx} {pos:Pos}
theorem pe_dnewK:PE X (.Dict [] [] pos) Bo:=fun pins s σ H Q I h =>
 wpAny_Dict_empty ⟨.ref s.heap.objs.size,_,I.laid (a:=s.heap.objs.size) (o:=.dK []) (t':=s.toks) (fun _ _ q=>Heap.get?_push_of_some _ q) (Nat.le_refl _) (o3 s.heap I.big),rfl,h _ (I.hok.fresh (Nat.le_refl _))⟩
end
def pd:List (TE×TE)→St→Hp→(List (V×V)→Hp→Prop)→Prop
 | [],_,H,Q=>Q [] H
 | (tk,tv) :: r,σ,H,Q=>tk σ H fun x H1=>tv σ H1 fun y H2=>pd r σ H2 fun ps H3=>Q ((x,y) :: ps) H3
abbrev VV:List (V×V)→List (Value×Value)→Prop:=Paired fun p q=>RelV p.1 q.1∧RelV p.2 q.2
def PPs (X:Cx) (pos:Pos) (keys:List (Option Expr)) (values:List Expr) (trs:List (TE×TE)):Prop :=
 ∀ (pins:List (Addr×Obj)) (s:Shared) (σ : St) (H:Hp) (Q:List (V×V)→Hp→Prop),Inv X pins σ H s→pd trs σ H Q →
  wpAny (model X.prog X.w) X.A (evalPairs (pairTrees keys values X.env pos)) (fun vs s'=>∃ ps H',Inv X pins σ H' s'∧VV ps vs∧Q ps H') X.xe s
theorem yt {X:Cx} {pos:Pos}:PPs X pos [] [] []:=fun pins s σ H Q I h=>pairTrees_nil_walk ⟨[],H,I,.nil,h⟩
theorem uQ {X:Cx} {pos:Pos} {k v:Expr} {ks:List (Option Expr)} {vs:List Expr} {tk tv:TE} {trs:List (TE×TE)} (hk:PE X k tk) (hv:PE X v tv) (hr:PPs X pos ks vs trs) :
  PPs X pos (some k :: ks) (v :: vs) ((tk,tv) :: trs):=fun pins s σ H Q I h =>
 pairTrees_cons_walk (thn (hk pins s σ H _ I h) fun u s1 ⟨x,H1,I1,rx,q1⟩=>thn (hv pins s1 σ H1 _ I1 q1) fun w2 s2 ⟨y,H2,I2,ry,q2⟩ =>
  thn (hr pins s2 σ H2 _ I2 q2) fun ws s3 ⟨ps,H3,I3,rel,q3⟩=>⟨(x,y) :: ps,H3,I3,.cons ⟨rx,ry⟩ rel,q3⟩)
def im (kvs more:List (Key×V)):List (Key×V):=more.foldl (fun acc kv=>putK acc kv.1 kv.2) kvs
theorem KV.merge:∀ {more:List (Key×V)} {rs:List (Key×Value)} {kvs:List (Key×V)} {vs:List (Key×Value)},KV more rs→KV kvs vs→KV (im kvs more) (merged vs rs):=by
 intro more rs kvs vs r
 unfold KV at r
 induction r generalizing kvs vs with
 | nil=>intro q; exact q
 | @cons p q ps qs h t ih =>
  intro r0
  have e:KV (putK kvs p.1 p.2) (stored vs q.1 q.2):=by
   have:=r0.put p.1 h.2
   rw [←h.1]; exact this
  exact ih e
theorem gu:∀ (more kvs:List (Key×V)),(im kvs more).length≤kvs.length + more.length
 | [],kvs=>by show kvs.length≤kvs.length + 0; omega
 | p :: r,kvs=>by
  have h1:=gu r (putK kvs p.1 p.2)
  have h2:=fY kvs p.1 p.2
  show (im (putK kvs p.1 p.2) r).length≤_
  rw [List.length_cons]; omega
theorem jL {P:Program} {w:World}:∀ {kvs:List (Key×V)} {ws:List (Value×Value)},VV (kvs.map fun kv=>(kV kv.1,kv.2)) ws→∃ rs,Carries (bR P w) ws rs∧KV kvs rs
 | [],_,r=>by rw [List.map_nil] at r; cases r; exact ⟨[],True.intro,.nil⟩
 | p :: kvs,_,r=>by
  rw [List.map_cons] at r
  cases r with
  | @cons a b as bs h t =>
   obtain ⟨rs,c,q⟩:=jL (P:=P) (w:=w) t
   obtain ⟨b1,b2⟩:=b
   exact ⟨(p.1,b2) :: rs,⟨qX h.1,rfl,c⟩,.cons ⟨rfl,h.2⟩ q⟩
def F8 (trs:List (TE×TE)):TE:=fun σ H Q=>∀ p,H p = none→pd trs σ (upd H p (.dK [])) fun ps H2=>H2 p = some (.dK [])∧∃ kvs:List (Key×V),ps = kvs.map (fun kv=>(kV kv.1,kv.2))∧kvs.length≤15∧Q (.ref p) (upd H2 p (.dK (im [] kvs)))
theorem yy {X:Cx} {pos:Pos} {keys:List (Option Expr)} {values:List Expr} {trs:List (TE×TE)} (h:PPs X pos keys values trs) (hall:keys.all (·.isSome) = true) (hl:keys.length = values.length) (h0:keys≠[])
  (h15:keys.length≤15):PE X (.Dict keys values pos) (F8 trs):=by
 intro pins s σ H Q I q
 have hn:=I.hok.fresh (Nat.le_refl s.heap.objs.size)
 have I1:=I.laid (a:=s.heap.objs.size) (o:=.dK []) (h':=s.heap.push { cls:=.type "dict",data:=.dict #[] }) (t':=s.toks) (fun _ _ q=>Heap.get?_push_of_some _ q) (Nat.le_refl _) (o3 s.heap I.big)
 refine wpAny_Dict_walk (knd:=bR X.prog X.w) hall hl h0 h15 (thn (h pins _ σ _ _ I1 (q _ hn)) fun ws s2 ⟨ps,H2,I2,rel,e,kvs,ep,lk,q2⟩=>?_)
 subst ep
 obtain ⟨rs,c,rk⟩:=jL (P:=X.prog) (w:=X.w) rel
 obtain ⟨z,hd,vs0,r0,dd⟩:=Ck I2.hok e
 cases r0
 refine ⟨rs,c,dd,fun h' dd' hs=>⟨.ref s.heap.objs.size,_,?_,rfl,q2⟩⟩
 have hz:(im [] kvs).length≤sizeLine:=by
  have h1:=gu kvs []
  rw [List.length_nil] at h1
  rw [sizeLine_eq]; omega
 have he:∃ q,h'.get? s.heap.objs.size = some q:=let ⟨q,_,_,hq,_⟩:=dd'; ⟨q,hq⟩
 exact nI I2 (by rw [e]; exact True.intro) hs he (wy hz hd (rk.merge .nil) dd')
section
variable {K:Kd} {H H':Hp} {τ : List (List Nat×Addr)}
mutual
theorem TAt.monoP (pe:Pers H H'):∀ {d:PyData} {p:List Nat} {v:V},(∀ q a,τ.lookup (p++q) = some a→H' a = H a)→TAt K H τ p d v→TAt K H' τ p d v
 | .none,_,_,_,h=>by simp only [TAt] at h ⊢; exact h.mono pe
 | .bool _,_,_,_,h=>by simp only [TAt] at h ⊢; exact h.mono pe
 | .int _,_,_,_,h=>by simp only [TAt] at h ⊢; exact h.mono pe
 | .str _,_,_,_,h=>by simp only [TAt] at h ⊢; exact h.mono pe
 | .tuple _,_,_,_,h=>by simp only [TAt] at h ⊢; exact h.mono pe
 | .list ts,p,_,e,h=>by
  simp only [TAt] at h ⊢
  obtain ⟨a,xs,e1,e2,e3,g⟩:=h
  exact ⟨a,xs,e1,e2,(e [] a (by rw [List.append_nil]; exact e1)).trans e3,TAtL.monoP pe (fun i q a z=>e (i :: q) a z) g⟩
 | .dict kvs,p,_,e,h=>by
  simp only [TAt] at h ⊢
  rcases h with ⟨d,e1,h⟩ | ⟨z1,z2,a,es,e1,e2,e3,k,g⟩ | ⟨z1,z2,a,es,e1,e2,e3,g⟩ | ⟨c,a,dx,C,xs,e0,e1,e2,e3,k,g⟩
  ·exact .inl ⟨d,e1,h.mono pe⟩
  ·exact .inr (.inl ⟨z1,z2,a,es,e1,e2,(e [] a (by rw [List.append_nil]; exact e1)).trans e3,k,TAtD.monoP pe (fun i q a z=>e (i :: q) a z) g⟩)
  ·exact .inr (.inr (.inl ⟨z1,z2,a,es,e1,e2,(e [] a (by rw [List.append_nil]; exact e1)).trans e3,TAtK.monoP pe (fun i q a z=>e (i :: q) a z) g⟩))
  ·exact .inr (.inr (.inr ⟨c,a,dx,C,xs,e0,e1,e2,(e [] a (by rw [List.append_nil]; exact e1)).trans e3,k,TAtF.monoP pe (fun i q a z=>e (i :: q) a z) g⟩))
theorem TAtL.monoP (pe:Pers H H'):∀ {ds:List PyData} {p:List Nat} {i:Nat} {xs:List V},(∀ i q a,τ.lookup (p++i :: q) = some a→H' a = H a)→TAtL K H τ p i ds xs→TAtL K H' τ p i ds xs
 | [],_,_,_,_,h=>by simpa only [TAtL] using h
 | t :: ts,p,i,_,e,h=>by
  simp only [TAtL] at h ⊢
  obtain ⟨v,vs,e1,g1,g2⟩:=h
  exact ⟨v,vs,e1,TAt.monoP pe (fun q a z=>e i q a (by simpa using z)) g1,TAtL.monoP pe e g2⟩
theorem TAtD.monoP (pe:Pers H H'):∀ {ds:List (PyData×PyData)} {p:List Nat} {i:Nat} {xs:List (Int×V×V)},(∀ i q a,τ.lookup (p++i :: q) = some a→H' a = H a)→TAtD K H τ p i ds xs→TAtD K H' τ p i ds xs
 | [],_,_,_,_,h=>by simpa only [TAtD] using h
 | (k,t) :: r,p,i,_,e,h=>by
  simp only [TAtD] at h ⊢
  obtain ⟨u,v,vs,e1,g0,g1,g2⟩:=h
  exact ⟨u,v,vs,e1,g0.mono pe,TAt.monoP pe (fun q a z=>e i q a (by simpa using z)) g1,TAtD.monoP pe e g2⟩
theorem TAtK.monoP (pe:Pers H H'):∀ {ds:List (PyData×PyData)} {p:List Nat} {i:Nat} {xs:List (Key×V)},(∀ i q a,τ.lookup (p++i :: q) = some a→H' a = H a)→TAtK K H τ p i ds xs→TAtK K H' τ p i ds xs
 | [],_,_,_,_,h=>by simpa only [TAtK] using h
 | (k,t) :: r,p,i,_,e,h=>by
  simp only [TAtK] at h ⊢
  obtain ⟨u,v,vs,e1,g0,g1,g2⟩:=h
  exact ⟨u,v,vs,e1,g0,TAt.monoP pe (fun q a z=>e i q a (by simpa using z)) g1,TAtK.monoP pe e g2⟩
theorem TAtF.monoP (pe:Pers H H'):∀ {ds:List (PyData×PyData)} {p:List Nat} {i:Nat} {xs:List (Str×V)},(∀ i q a,τ.lookup (p++i :: q) = some a→H' a = H a)→TAtF K H τ p i ds xs→TAtF K H' τ p i ds xs
 | [],_,_,_,_,h=>by simpa only [TAtF] using h
 | (.str f,t) :: r,p,i,_,e,h=>by
  simp only [TAtF] at h ⊢
  obtain ⟨v,vs,e1,g1,g2⟩:=h
  exact ⟨v,vs,e1,TAt.monoP pe (fun q a z=>e i q a (by simpa using z)) g1,TAtF.monoP pe e g2⟩
 | (.none,d) :: r,_,_,_,e,h=>by simp only [TAtF] at h ⊢; exact TAtF.monoP pe e h
 | (.bool _,d) :: r,_,_,_,_,h=>by simp only [TAtF] at h
 | (.int _,d) :: r,_,_,_,_,h=>by simp only [TAtF] at h
 | (.list _,d) :: r,_,_,_,_,h=>by simp only [TAtF] at h
 | (.tuple _,d) :: r,_,_,_,_,h=>by simp only [TAtF] at h
 | (.dict _,d) :: r,_,_,_,_,h=>by simp only [TAtF] at h
end
end
def setT:PyData→List Nat→PyData→PyData
 | _,[],n=>n
 | .list ts,i :: p,n=>.list (ts.set i (setT (ts.getD i .none) p n))
 | .dict kvs,i :: p,n=>.dict (kvs.set i ((kvs.getD i (.none,.none)).1,setT (kvs.getD i (.none,.none)).2 p n))
 | t,_ :: _,_=>t
section
variable {K:Kd} {H H':Hp} {τ : List (List Nat×Addr)} {p q:List Nat} {P:List Nat}
theorem TAtL.setL (pe:Pers H H') {t':PyData}:∀ {ts:List PyData} {i j:Nat} {xs:List V},TAtL K H τ p i ts xs→(∀ v,xs[j]? = some v→TAt K H' τ (p++[i + j]) t' v)→(∀ l,l≠i + j→∀ q a,τ.lookup (p++l :: q) = some a→H' a = H a)→TAtL K H' τ p i (ts.set j t') xs
 | [],_,_,_,h,_,_=>by simpa only [List.set_nil,TAtL] using h
 | t :: ts,i,0,xs,h,c,e=>by
  simp only [TAtL] at h
  obtain ⟨v,vs,rfl,_,g2⟩:=h
  simp only [List.set_cons_zero,TAtL]
  refine ⟨v,vs,rfl,c v rfl,?_⟩
  clear c
  have:∀ {ts:List PyData} {i':Nat} {vs:List V},i < i'→TAtL K H τ p i' ts vs→TAtL K H' τ p i' ts vs:=by
   intro ts
   induction ts with
   | nil=>intro i' vs _ h; simpa only [TAtL] using h
   | cons t ts ih =>
    intro i' vs hl h
    simp only [TAtL] at h ⊢
    obtain ⟨v,vs,rfl,g1,g2⟩:=h
    exact ⟨v,vs,rfl,TAt.monoP pe (fun q a z=>e i' (by omega) q a (by simpa using z)) g1,ih (by omega) g2⟩
  exact this (Nat.lt_succ_self i) g2
 | t :: ts,i,j + 1,xs,h,c,e=>by
  simp only [TAtL] at h
  obtain ⟨v,vs,rfl,g1,g2⟩:=h
  simp only [List.set_cons_succ,TAtL]
  exact ⟨v,vs,rfl,TAt.monoP pe (fun q a z=>e i (by omega) q a (by simpa using z)) g1,TAtL.setL pe g2 (fun v' z=>by rw [show i + 1 + j = i + (j + 1) by omega]; exact c v' (by simpa using z)) fun l hl=>e l (by omega)⟩
theorem TAtK.rest (pe:Pers H H') {i:Nat} (e:∀ l,l≠i→∀ q a,τ.lookup (p++l :: q) = some a→H' a = H a):∀ {ts:List (PyData×PyData)} {i':Nat} {vs:List (Key×V)},i < i'→TAtK K H τ p i' ts vs→TAtK K H' τ p i' ts vs
 | [],_,_,_,h=>by simpa only [TAtK] using h
 | (k,t) :: ts,i',vs,hl,h=>by
  simp only [TAtK] at h ⊢
  obtain ⟨kk,v,vs,rfl,g0,g1,g2⟩:=h
  exact ⟨kk,v,vs,rfl,g0,TAt.monoP pe (fun q a z=>e i' (by omega) q a (by simpa using z)) g1,TAtK.rest pe e (by omega) g2⟩
theorem TAtK.setK (pe:Pers H H') {t':PyData}:∀ {ts:List (PyData×PyData)} {i j:Nat} {xs:List (Key×V)} {k0 t0:PyData},TAtK K H τ p i ts xs→ts[j]? = some (k0,t0)→(∀ v,(∃ kk,xs[j]? = some (kk,v))→TAt K H' τ (p++[i + j]) t' v)→(∀ l,l≠i + j→∀ q a,τ.lookup (p++l :: q) = some a→H' a = H a)→TAtK K H' τ p i (ts.set j (k0,t')) xs
 | [],_,_,_,_,_,_,z,_,_=>by simp at z
 | (k,t) :: ts,i,0,xs,k0,t0,h,z,c,e=>by
  simp at z
  obtain ⟨rfl,rfl⟩:=z
  simp only [TAtK] at h
  obtain ⟨kk,v,vs,rfl,g0,_,g2⟩:=h
  simp only [List.set_cons_zero,TAtK]
  exact ⟨kk,v,vs,rfl,g0,c v ⟨kk,rfl⟩,TAtK.rest pe e (Nat.lt_succ_self i) g2⟩
 | (k,t) :: ts,i,j + 1,xs,k0,t0,h,z,c,e=>by
  simp only [TAtK] at h
  obtain ⟨kk,v,vs,rfl,g0,g1,g2⟩:=h
  simp only [List.set_cons_succ,TAtK]
  exact ⟨kk,v,vs,rfl,g0,TAt.monoP pe (fun q a z=>e i (by omega) q a (by simpa using z)) g1,TAtK.setK pe g2 (by simpa using z) (fun v' ⟨kk',z⟩=>by rw [show i + 1 + j = i + (j + 1) by omega]; exact c v' ⟨kk',by simpa using z⟩) fun l hl=>e l (by omega)⟩
end
theorem oH {τ : List (List Nat×Addr)} (nd:(τ.map (·.2)).Nodup) {p q:List Nat} {a:Addr} (h1 : τ.lookup p = some a) (h2 : τ.lookup q = some a):p = q:=by
 induction τ with
 | nil=>cases h1
 | cons x τ ih =>
  obtain ⟨r,b⟩:=x
  rw [List.map_cons,List.nodup_cons] at nd
  rw [List.lookup_cons] at h1 h2
  by_cases e1:p == r
  ·rw [e1] at h1
   cases h1
   by_cases e2:q == r
   ·rw [eq_of_beq e1,eq_of_beq e2]
   ·simp only [Bool.not_eq_true] at e2
    rw [e2] at h2
    exact (nd.1 (bq h2)).elim
  ·simp only [Bool.not_eq_true] at e1
   rw [e1] at h1
   by_cases e2:q == r
   ·rw [e2] at h2
    cases h2
    exact (nd.1 (bq h1)).elim
   ·simp only [Bool.not_eq_true] at e2
    rw [e2] at h2
    exact ih nd.2 h1 h2
def gj:PyData→PyData→Bool
 | .int a,.int b=>decide (a = b)
 | .str a,.str b=>decide (a = b)
 | _,_=>false
theorem jB (a b:Key):gj (keyD a) (keyD b) = decide (a = b):=by
 cases a <;> cases b <;> simp [keyD,gj]
def iW (k:PyData):Nat→List (PyData×PyData)→Option (Nat×PyData)
 | _,[]=>none
 | i,(k',t) :: r=>if gj k' k = true then some (i,t) else iW k (i + 1) r
def putD (k t:PyData):List (PyData×PyData)→List (PyData×PyData)
 | []=>[(k,t)]
 | (k',t') :: r=>if gj k' k = true then (k',t) :: r else (k',t') :: putD k t r
def lfD:PyData→PyData
 | .list ds=>.dict [(.none,.list ds)]
 | .dict ds=>.dict [(.none,.dict ds)]
 | d=>d
theorem k8 {kvs:List (PyData×PyData)} (h:isKd kvs = true):fzOf kvs = none∧excC kvs = none:=by
 cases kvs with
 | nil=>exact ⟨rfl,rfl⟩
 | cons x r =>
  obtain ⟨k,d⟩:=x
  cases k with
  | int _=>exact ⟨rfl,rfl⟩
  | str _=>exact ⟨rfl,rfl⟩
  | none=>simp [isKd] at h
  | bool _=>simp [isKd] at h
  | list _=>simp [isKd] at h
  | tuple _=>simp [isKd] at h
  | dict _=>simp [isKd] at h
section
variable {K:Kd} {H:Hp} {τ : List (List Nat×Addr)} {p:List Nat}
theorem TAtK.get':∀ {ts:List (PyData×PyData)} {i j:Nat} {xs:List (Key×V)} {k t:PyData},TAtK K H τ p i ts xs→ts[j]? = some (k,t)→∃ kk v,xs[j]? = some (kk,v)∧k = keyD kk∧TAt K H τ (p++[i + j]) t v
 | [],_,_,_,_,_,_,e=>by simp at e
 | (k,t) :: ts,i,0,xs,k',t',h,e=>by
  simp only [TAtK] at h
  obtain ⟨u,v,vs,rfl,g0,g1,_⟩:=h
  simp at e; obtain ⟨rfl,rfl⟩:=e
  exact ⟨u,v,rfl,g0.1,g1⟩
 | (k,t) :: ts,i,j + 1,xs,k',t',h,e=>by
  simp only [TAtK] at h
  obtain ⟨u,v,vs,rfl,_,_,g2⟩:=h
  obtain ⟨kk,v',e1,e0,e2⟩:=TAtK.get' (j:=j) g2 (by simpa using e)
  exact ⟨kk,v',by simpa using e1,e0,by rw [show i + (j + 1) = i + 1 + j by omega]; exact e2⟩
theorem TAtK.kd:∀ {ts:List (PyData×PyData)} {i:Nat} {xs:List (Key×V)},TAtK K H τ p i ts xs→isKd ts = true
 | [],_,_,_=>rfl
 | (k,t) :: ts,i,xs,h=>by
  simp only [TAtK] at h
  obtain ⟨u,v,vs,rfl,g0,_,g2⟩:=h
  have:=g2.kd
  unfold isKd at this ⊢
  rw [List.all_cons,this,g0.1]
  cases u <;> rfl
theorem TAtK.len:∀ {ts:List (PyData×PyData)} {i:Nat} {xs:List (Key×V)},TAtK K H τ p i ts xs→ts.length = xs.length
 | [],_,_,h=>by simp only [TAtK] at h; subst h; rfl
 | (k,t) :: ts,i,xs,h=>by
  simp only [TAtK] at h
  obtain ⟨u,v,vs,rfl,g0,_,g2⟩:=h
  simp [g2.len]
theorem TAtK.look {kk:Key}:∀ {ts:List (PyData×PyData)} {i j:Nat} {xs:List (Key×V)} {t:PyData},TAtK K H τ p i ts xs→iW (keyD kk) i ts = some (j,t)→∃ v,valV xs kk = some v∧TAt K H τ (p++[j]) t v
 | [],_,_,_,_,_,e=>by cases e
 | (k,t) :: ts,i,j,xs,t',h,e=>by
  simp only [TAtK] at h
  obtain ⟨u,v,vs,rfl,g0,g1,g2⟩:=h
  obtain ⟨rfl,_⟩:=g0
  simp only [iW,jB] at e
  by_cases c:u = kk
  ·rw [if_pos (decide_eq_true c)] at e
   cases e
   exact ⟨v,cV (p:=(u,v)) c,g1⟩
  ·rw [if_neg (by simpa using c)] at e
   obtain ⟨v',e1,e2⟩:=TAtK.look g2 e
   exact ⟨v',by rw [cU (p:=(u,v)) c]; exact e1,e2⟩
theorem lW {u kk:Key} {v w:V} {vs:List (Key×V)} (c:u≠kk):putK ((u,w) :: vs) kk v = (u,w) :: putK vs kk v:=by
 unfold putK
 rw [List.any_cons,decide_eq_false (show ¬ ((u,w):Key×V).1 = kk from c),Bool.false_or]
 by_cases e:(vs.any fun kv=>decide (kv.1 = kk)) = true
 ·rw [if_pos e,if_pos e,List.map_cons,if_neg (show ¬ ((u,w):Key×V).1 = kk from c)]
 ·rw [if_neg e,if_neg e]; rfl
theorem lr {kk:Key} {v w:V} {vs:List (Key×V)} (h:∀ x∈vs,x.1≠kk):putK ((kk,w) :: vs) kk v = (kk,v) :: vs:=by
 unfold putK
 rw [List.any_cons,decide_eq_true (show ((kk,w):Key×V).1 = kk from rfl),Bool.true_or,if_pos rfl,List.map_cons,if_pos rfl]
 congr 1
 exact (List.map_congr_left (g:=id) fun x hx=>if_neg (h x hx)).trans (List.map_id _)
theorem uT {kk:Key} {v:V} {vs:List (Key×V)} {x:Key×V} (h:x∈putK vs kk v):x.1 = kk∨∃ y∈vs,y.1 = x.1:=by
 unfold putK at h
 split at h
 ·obtain ⟨y,h1,h2⟩:=List.mem_map.mp h
  subst h2
  refine .inr ⟨y,h1,?_⟩
  split <;> rfl
 ·obtain h | h:=List.mem_append.mp h
  ·exact .inr ⟨x,h,rfl⟩
  ·cases List.mem_singleton.mp h
   exact .inl rfl
theorem TAtK.put {kk:Key} {t':PyData} {v':V} (c:∀ j,TAt K H τ (p++[j]) t' v'):∀ {ts:List (PyData×PyData)} {i:Nat} {xs:List (Key×V)},TAtK K H τ p i ts xs→TAtK K H τ p i (putD (keyD kk) t' ts) (putK xs kk v')
 | [],i,xs,h=>by
  simp only [TAtK] at h
  subst h
  simp only [putD,TAtK]
  exact ⟨kk,v',[],rfl,⟨rfl,fun x hx=>by cases hx⟩,c i,rfl⟩
 | (k,t) :: ts,i,xs,h=>by
  simp only [TAtK] at h
  obtain ⟨u,v,vs,rfl,g0,g1,g2⟩:=h
  obtain ⟨rfl,g0⟩:=g0
  simp only [putD,jB]
  by_cases e:u = kk
  ·subst e
   rw [if_pos (decide_eq_true rfl),lr g0]
   simp only [TAtK]
   exact ⟨u,v',vs,rfl,⟨rfl,g0⟩,c i,g2⟩
  ·rw [if_neg (by simpa using e),lW e]
   simp only [TAtK]
   refine ⟨u,v,_,rfl,⟨rfl,fun x hx=>?_⟩,g1,g2.put c⟩
   rcases uT hx with z | ⟨y,hy,z⟩
   ·rw [z]; exact fun w=>e w.symm
   ·rw [←z]; exact g0 y hy
theorem m5 {d:PyData} {v:V} (h:Den K H d v):TAt K H τ p (lfD d) v:=by
 cases d with
 | list ds=>simp only [lfD,TAt]; exact .inl ⟨_,rfl,h⟩
 | dict ds=>simp only [lfD,TAt]; exact .inl ⟨_,rfl,h⟩
 | none=>simpa only [lfD,TAt] using h
 | bool _=>simpa only [lfD,TAt] using h
 | int _=>simpa only [lfD,TAt] using h
 | str _=>simpa only [lfD,TAt] using h
 | tuple _=>simpa only [lfD,TAt] using h
theorem TAt.kd {kvs:List (PyData×PyData)} {v:V} (h:TAt K H τ p (.dict kvs) v) (e:isKd kvs = true):∃ a es,τ.lookup p = some a∧v = .ref a∧H a = some (.dK es)∧TAtK K H τ p 0 kvs es:=by
 obtain ⟨n1,n2⟩:=k8 e
 simp only [TAt] at h
 rcases h with ⟨d,e1,_⟩ | ⟨_,_,b,es,e1,e2,e3,kk,g⟩ | ⟨_,_,b,es,e1,e2,e3,g⟩ | ⟨c,b,dx,C,xs,e0,e1,e2,e3,kk,g⟩
 ·rw [n1] at e1; cases e1
 ·rw [kk.1] at e; cases e
 ·exact ⟨b,es,e1,e2,e3,g⟩
 ·rw [n2] at e0; cases e0
theorem TAt.node {t:PyData} {v:V} (h:TAt K H τ p t v) (e:iA t = none):∃ a,τ.lookup p = some a∧v = .ref a:=by
 cases t with
 | list ts =>
  simp only [TAt] at h
  obtain ⟨a,xs,e1,e2,_⟩:=h
  exact ⟨a,e1,e2⟩
 | dict kvs =>
  have e':fzOf kvs = none:=e
  simp only [TAt] at h
  rcases h with ⟨d,e1,_⟩ | ⟨_,_,b,es,e1,e2,e3,kk,g⟩ | ⟨_,_,b,es,e1,e2,e3,g⟩ | ⟨c,b,dx,C,xs,e0,e1,e2,e3,kk,g⟩
  ·rw [e'] at e1; cases e1
  ·exact ⟨b,e1,e2⟩
  ·exact ⟨b,e1,e2⟩
  ·exact ⟨b,e1,e2⟩
 | none=>cases e
 | bool _=>cases e
 | int _=>cases e
 | str _=>cases e
 | tuple _=>cases e
end
def okW:PyData→List Nat→Bool
 | _,[]=>true
 | .list ts,i :: q=>okW (ts.getD i .none) q
 | .dict kvs,i :: q=>(isKd kvs || (excC kvs).isSome) && okW (kvs.getD i (.none,.none)).2 q
 | _,_ :: _=>false
theorem wq {kvs:List (PyData×PyData)} {i:Nat} {k t t':PyData} (h:isKd kvs = true) (e:kvs[i]? = some (k,t)):isKd (kvs.set i (k,t')) = true:=by
 unfold isKd at h ⊢
 rw [List.all_eq_true] at h ⊢
 intro x hx
 rcases List.mem_or_eq_of_mem_set hx with z | z
 ·exact h x z
 ·subst z; exact h (k,t) (List.mem_of_getElem? e)
theorem TAtF.restF {K:Kd} {H H':Hp} {τ : List (List Nat×Addr)} {p:List Nat} (pe:Pers H H') {i:Nat} (e:∀ l,l≠i→∀ q a,τ.lookup (p++l :: q) = some a→H' a = H a):∀ {ts:List (PyData×PyData)} {i':Nat} {vs:List (Str×V)},i < i'→TAtF K H τ p i' ts vs→TAtF K H' τ p i' ts vs
 | [],_,_,_,h=>by simpa only [TAtF] using h
 | (.str f,t) :: ts,i',vs,hl,h=>by
  simp only [TAtF] at h ⊢
  obtain ⟨v,vs,rfl,g1,g2⟩:=h
  exact ⟨v,vs,rfl,TAt.monoP pe (fun q a z=>e i' (by omega) q a (by simpa using z)) g1,TAtF.restF pe e (by omega) g2⟩
 | (.none,d) :: r,_,_,hl,h=>by simp only [TAtF] at h ⊢; exact TAtF.restF pe e (by omega) h
 | (.bool _,d) :: r,_,_,_,h=>by simp only [TAtF] at h
 | (.int _,d) :: r,_,_,_,h=>by simp only [TAtF] at h
 | (.list _,d) :: r,_,_,_,h=>by simp only [TAtF] at h
 | (.tuple _,d) :: r,_,_,_,h=>by simp only [TAtF] at h
 | (.dict _,d) :: r,_,_,_,h=>by simp only [TAtF] at h
theorem TAtF.setF {K:Kd} {H H':Hp} {τ : List (List Nat×Addr)} {p:List Nat} (pe:Pers H H') {t' t0:PyData} {f0:Str}:∀ {ts:List (PyData×PyData)} {i j:Nat} {xs:List (Str×V)},TAtF K H τ p i ts xs→ts[j]? = some (.str f0,t0)→(∀ v,TAt K H τ (p++[i + j]) t0 v→TAt K H' τ (p++[i + j]) t' v)→(∀ l,l≠i + j→∀ q a,τ.lookup (p++l :: q) = some a→H' a = H a)→TAtF K H' τ p i (ts.set j (.str f0,t')) xs
 | [],_,_,_,_,z,_,_=>by simp at z
 | (k,t) :: ts,i,0,xs,h,z,c,e=>by
  simp at z
  obtain ⟨rfl,rfl⟩:=z
  simp only [TAtF] at h
  obtain ⟨v,vs,rfl,g1,g2⟩:=h
  simp only [List.set_cons_zero,TAtF]
  exact ⟨v,vs,rfl,c v g1,TAtF.restF pe e (Nat.lt_succ_self i) g2⟩
 | (.str f,t) :: ts,i,j + 1,xs,h,z,c,e=>by
  simp only [TAtF] at h
  obtain ⟨v,vs,rfl,g1,g2⟩:=h
  simp only [List.set_cons_succ,TAtF]
  exact ⟨v,vs,rfl,TAt.monoP pe (fun q a z=>e i (by omega) q a (by simpa using z)) g1,TAtF.setF pe g2 (by simpa using z) (fun v' zv=>by rw [show i + 1 + j = i + (j + 1) by omega] at zv ⊢; exact c v' zv) fun l hl=>e l (by omega)⟩
 | (.none,d) :: ts,i,j + 1,xs,h,z,c,e=>by
  simp only [TAtF] at h
  simp only [List.set_cons_succ,TAtF]
  exact TAtF.setF pe h (by simpa using z) (fun v' zv=>by rw [show i + 1 + j = i + (j + 1) by omega] at zv ⊢; exact c v' zv) fun l hl=>e l (by omega)
 | (.bool _,d) :: r,_,_ + 1,_,h,_,_,_=>by simp only [TAtF] at h
 | (.int _,d) :: r,_,_ + 1,_,h,_,_,_=>by simp only [TAtF] at h
 | (.list _,d) :: r,_,_ + 1,_,h,_,_,_=>by simp only [TAtF] at h
 | (.tuple _,d) :: r,_,_ + 1,_,h,_,_,_=>by simp only [TAtF] at h
 | (.dict _,d) :: r,_,_ + 1,_,h,_,_,_=>by simp only [TAtF] at h
theorem TAt.ins {K:Kd} {H:Hp} {τ : List (List Nat×Addr)} {p:List Nat} {kvs:List (PyData×PyData)} {v:V} {c:Str} (h:TAt K H τ p (.dict kvs) v) (e:excC kvs = some c):∃ a dx C xs,τ.lookup p = some a∧v = .ref a∧H a = some (.ins C dx xs)∧ClsN K c C∧TAtF K H τ p 0 kvs xs:=by
 have hf:fzOf kvs = none:=by
  unfold excC at e
  split at e
  ·unfold fzOf
   split
   ·rename_i z; simp at z
   ·rename_i z; simp at z
   ·rfl
  ·cases e
 simp only [TAt] at h
 rcases h with ⟨d,e1,_⟩ | ⟨_,z2,_⟩ | ⟨_,z2,_⟩ | ⟨c',a,dx,C,xs,e0,e1,e2,e3,k,g⟩
 ·rw [hf] at e1; cases e1
 ·rw [e] at z2; cases z2
 ·rw [e] at z2; cases z2
 ·rw [e] at e0; cases e0
  exact ⟨a,dx,C,xs,e1,e2,e3,k,g⟩
theorem vQ {kvs:List (PyData×PyData)} {i:Nat} {x:PyData×PyData} {c:Str} {k t:PyData} (h:excC kvs = some c) (e:kvs[i]? = some (k,t)) (kn:k≠.none):excC (kvs.set i x) = some c:=by
 cases kvs with
 | nil=>cases h
 | cons y r =>
  cases i with
  | zero =>
   simp at e
   subst e
   unfold excC at h
   split at h
   ·rename_i z; simp at z; exact (kn z.1.1).elim
   ·cases h
  | succ i =>
   rw [List.set_cons_succ]
   unfold excC at h ⊢
   split at h
   ·rename_i z
    simp at z
    obtain ⟨rfl,rfl⟩:=z
    exact h
   ·cases h
theorem TAt.set {K:Kd} {H:Hp} {τ : List (List Nat×Addr)} (nd:(τ.map (·.2)).Nodup) {a:Addr} {o:HO} {n:PyData} (pe:Pers H (upd H a o)):∀ {q p:List Nat} {t t0:PyData} {v:V},TAt K H τ p t v→getT t q = some t0→okW t q = true→τ.lookup (p++q) = some a→TAt K (upd H a o) τ (p++q) n (.ref a)→(∀ u,TAt K H τ (p++q) t0 u→u = .ref a)→TAt K (upd H a o) τ p (setT t q n) v
 | [],p,t,t0,v,h,e,_,_,hn,hu=>by
  cases e
  rw [List.append_nil] at hn hu
  rw [hu v h]
  unfold setT
  exact hn
 | i :: q,p,t,t0,v,h,e,ok,ea,hn,hu=>by
  have other:∀ (r:List Nat) (b:Addr),τ.lookup r = some b→r≠p++i :: q→(upd H a o) b = H b:=fun r b z ne=>au fun eb=>by
   subst eb
   exact ne (oH nd z ea)
  have ea' : τ.lookup ((p++[i])++q) = some a:=by simpa using ea
  have hn':TAt K (upd H a o) τ ((p++[i])++q) n (.ref a):=by simpa using hn
  have hu':∀ u,TAt K H τ ((p++[i])++q) t0 u→u = .ref a:=fun u z=>hu u (by simpa using z)
  simp only [getT] at e
  cases z:chD t i with
  | none=>rw [z] at e; cases e
  | some t1 =>
   rw [z] at e
   have e':getT t1 q = some t0:=e
   have sib:∀ l,l≠0 + i→∀ r b,τ.lookup (p++l :: r) = some b→(upd H a o) b = H b:=fun l hl r b zz=>other _ _ zz fun y=>by
    have:=List.append_cancel_left y
    injection this with h1 _
    omega
   have self:∀ b,τ.lookup p = some b→(upd H a o) b = H b:=fun b zz=>other _ _ zz fun y=>by
    have:=congrArg List.length y
    simp at this
   cases t with
   | list ts =>
    have zi:ts[i]? = some t1:=z
    have hg:ts.getD i .none = t1:=by rw [List.getD_eq_getElem?_getD,zi]; rfl
    simp only [TAt] at h
    obtain ⟨b,xs,e1,e2,e3,g⟩:=h
    simp only [setT,hg,TAt]
    refine ⟨b,xs,e1,e2,(self b e1).trans e3,TAtL.setL pe g (fun v1 zv=>?_) sib⟩
    obtain ⟨v2,ev2,g2⟩:=g.get (j:=i) zi
    rw [zv] at ev2; cases ev2
    rw [Nat.zero_add] at g2 ⊢
    exact TAt.set nd pe g2 e' (by simp only [okW,hg] at ok; exact ok) ea' hn' hu'
   | dict kvs =>
    simp only [chD] at z
    cases zi:kvs[i]? with
    | none=>rw [zi] at z; cases z
    | some kt =>
     obtain ⟨k,t2⟩:=kt
     rw [zi] at z
     have kn:k≠.none:=fun w=>by subst w; cases z
     have e2:t2 = t1:=by split at z <;> simp_all
     subst e2
     have hg:kvs.getD i (.none,.none) = (k,t2):=by rw [List.getD_eq_getElem?_getD,zi]; rfl
     simp only [okW,hg,Bool.and_eq_true,Bool.or_eq_true] at ok
     rcases ok.1 with ok1 | ok1
     ·obtain ⟨b,es,e1,e2,e3,g⟩:=h.kd ok1
      have kd':isKd (kvs.set i (k,setT t2 q n)) = true:=wq ok1 zi
      obtain ⟨n1,n2⟩:=k8 kd'
      simp only [setT,hg,TAt]
      refine .inr (.inr (.inl ⟨n1,n2,b,es,e1,e2,(self b e1).trans e3,TAtK.setK pe g zi (fun v1 ⟨kk,zv⟩=>?_) sib⟩))
      obtain ⟨kk2,v2,ev2,_,g2⟩:=g.get' (j:=i) zi
      rw [zv] at ev2; cases ev2
      rw [Nat.zero_add] at g2 ⊢
      exact TAt.set nd pe g2 e' ok.2 ea' hn' hu'
     ·obtain ⟨c,ec⟩:=Option.isSome_iff_exists.mp ok1
      obtain ⟨b,dx,C,xs,e1,e2,e3,kc,g⟩:=h.ins ec
      obtain ⟨f0,rfl⟩:=g.key (List.mem_of_getElem? zi) kn
      have ec':excC (kvs.set i (.str f0,setT t2 q n)) = some c:=vQ ec zi kn
      simp only [setT,hg,TAt]
      refine .inr (.inr (.inr ⟨c,b,dx,C,xs,ec',e1,e2,(self b e1).trans e3,kc,TAtF.setF pe g zi (fun v1 g2=>?_) sib⟩))
      rw [Nat.zero_add] at g2 ⊢
      exact TAt.set nd pe g2 e' ok.2 ea' hn' hu'
   | none=>cases z
   | bool _=>cases z
   | int _=>cases z
   | str _=>cases z
   | tuple _=>cases z
def onAt (P:Nat→List Nat→Prop):R→Prop
 | .at k p=>P k p
 | _=>False
def n6 (P:PyData→Prop):R→Prop
 | .imm (.int i)=>P (.int i)
 | .imm (.str x)=>P (.str x)
 | _=>False
def dy (k:Nat) (p:List Nat) (j:Nat) (t:PyData):R:=match iA t with
 | some d=>.imm d
 | none=>.at k (p++[j])
section
variable {K:Kx} {α : Al} {Hb H:Hp} {r:R} {v:V} {m:MSt} {σ : St}
theorem kq {P:Nat→List Nat→Prop} (rr:RelR K α Hb H r v) (h:onAt P r):∃ k p τ a,r = .at k p∧α[k]? = some (.T τ)∧τ.lookup p = some a∧v = .ref a∧P k p:=by
 unfold onAt at h
 split at h
 ·obtain ⟨τ,a,e1,e2,e3⟩:=rr
  exact ⟨_,_,τ,a,rfl,e1,e2,e3,h⟩
 ·exact h.elim
theorem xw {P:PyData→Prop} (rr:RelR K α Hb H r v) (h:n6 P r):∃ kk:Key,r = .imm (keyD kk)∧v = kV kk∧P (keyD kk):=by
 unfold n6 at h
 split at h
 ·rename_i i
  exact ⟨.inl i,rfl,aH (show Den K H (.int i) v from rr),h⟩
 ·rename_i x
  exact ⟨.inr x,rfl,bm (show Den K H (.str x) v from rr),h⟩
 ·exact h.elim
theorem Rel.dict (Rl:Rel K α m σ H) {k:Nat} {p:List Nat} {τ : List (List Nat×Addr)} {a:Addr} {t:PyData} {kvs:List (PyData×PyData)} (e1 : α[k]? = some (.T τ)) (e2 : τ.lookup p = some a) (e3:m.os[k]? = some [t]) (e4:getT t p = some (.dict kvs)) (e5:isKd kvs = true) :
  ∃ es,H a = some (.dK es)∧TAtK K H τ p 0 kvs es:=by
 obtain ⟨⟨t1,v0,z,g,_⟩,_⟩:=Rl.own k (.T τ) _ e1 e3
 cases z
 obtain ⟨v',g'⟩:=g.get e4
 rw [List.nil_append] at g'
 obtain ⟨a',es,ea,_,ed,gk⟩:=g'.kd e5
 rw [e2] at ea; cases ea
 exact ⟨es,ed,gk⟩
theorem ie (Rl:Rel K α m σ H) {k:Nat} {p:List Nat} {j:Nat} {τ : List (List Nat×Addr)} {t:PyData} (e1 : α[k]? = some (.T τ)) (h:TAt K H τ (p++[j]) t v):RelR K α Hb H (dy k p j t) v:=by
 unfold dy
 cases e:iA t with
 | some d=>exact gA h e
 | none =>
  obtain ⟨a,e2,e3⟩:=h.node e
  exact ⟨τ,a,e1,e2,e3⟩
end
section
variable {X:Cx} {o i e:Expr} {wo wi we:WE} {pos pos':Pos}
def dGot (m:MSt) (k:Nat) (p:List Nat) (y:PyData) (K:R→Prop):Prop:=∃ t kvs j t',m.os[k]? = some [t]∧getT t p = some (.dict kvs)∧isKd kvs = true∧iW y 0 kvs = some (j,t')∧K (dy k p j t')
def zR (m:MSt) (k:Nat) (p:List Nat) (y d:PyData) (P:PyData→Prop):Prop:=∃ t kvs,m.os[k]? = some [t]∧getT t p = some (.dict kvs)∧isKd kvs = true∧okW t p = true∧kvs.length < sizeLine∧P (setT t p (.dict (putD y (lfD d) kvs)))
def wDIx (wo wi:WE):WE:=fun m K=>wo m fun ro m1=>wi m1 fun ri m2=>onAt (fun k p=>n6 (fun y=>dGot m2 k p y fun r=>K r m2) ri) ro
theorem Dr (hu:X.A.units + 64 < cLine) (ho:ME X o wo) (hi:ME X i wi) (hs:NoSl i:=by intro _ _; rfl):ME X (.Subscript o i pos) (wDIx wo wi):=(xM (by omega) ho hi hs).wk fun σ H Q ⟨α,m,Kc,Rl,hw,fin⟩=>by
 refine ⟨α,m,_,Rl,hw,fun ro m1 v1 H1 k1 n1 Rl1 rr1 F1=>⟨α,m1,_,Rl1,k1,fun ri m2 v2 H2 k2 n2 Rl2 rr2 F2=>?_⟩⟩
 obtain ⟨k,p,τ,a,rfl,e1,e2,rfl,k2⟩:=kq rr1 k2
 obtain ⟨kk,rfl,rfl,t,kvs,j,t',e3,e4,e5,e6,k2⟩:=xw rr2 k2
 obtain ⟨es,ed,gk⟩:=Rl2.dict e1 e2 e3 e4 e5
 obtain ⟨v,ev,hv⟩:=gk.look e6
 refine ⟨a,v,rfl,by rw [←ev]; exact DGet.k ed,fin _ m2 v H2 k2 (n2.trans n1) Rl2 ?_ (F1.trans F2)⟩
 exact ie Rl2 e1 hv
def Ai (we wo wi:WE):WS:=fun D m=>we m fun rv m1=>f7 (fun d=>wo m1 fun ro m2=>wi m2 fun ri m3=>onAt (fun k p=>n6 (fun y=>zR m3 k p y d fun t=>D.nx { m3 with os:=m3.os.set k [t] }) ri) ro) rv
theorem zu (hu:X.A.units + 64 < cLine) (he:ME X e we) (ho:ME X o wo) (hi:ME X i wi) (hs:swapsWith e (some (.Subscript o i pos')) pos.line X.env = pure false:=by rfl):MS X (.Assign [.Subscript o i pos'] e pos) (Ai we wo wi):=(yZ (by omega) ho hi he hs).wk fun D σ H ⟨α,m,De,Rl,hw,k⟩=>by
 refine ⟨α,m,_,Rl,hw,fun r m1 v H1 q n1 Rl1 rr F1=>?_⟩
 obtain ⟨d,er,hd,q⟩:=io rr q
 refine ⟨α,m1,_,Rl1,q,fun ro m2 ov H2 q2 n2 Rl2 rr2 F2=>⟨α,m2,_,Rl2,q2,fun ri m3 iv H3 q3 n3 Rl3 rr3 F3=>?_⟩⟩
 obtain ⟨kk,p,τ,a,rfl,e1,e2,rfl,q3⟩:=kq rr2 q3
 obtain ⟨y,rfl,rfl,t,kvs,e3,e4,e5,e6,e7,q3⟩:=xw rr3 q3
 obtain ⟨es,ed,gk⟩:=Rl3.dict e1 e2 e3 e4 e5
 have hd3:Den X.kx H3 d v:=(hd.mono (Rl1.pers F2)).mono (Rl2.pers F3)
 obtain ⟨⟨t1,v0,z,g,a0,ea0,ev0⟩,mu⟩:=Rl3.own kk (.T τ) _ e1 e3
 cases z
 have pe:Pers H3 (upd H3 a (.dK (putK es y v))):=bh (.inr ⟨_,ed,rfl⟩)
 have nd:(τ.map (·.2)).Nodup:=((fo α).mp Rl3.nd).1 (.T τ) (List.mem_of_getElem? e1)
 have gk':TAtK X.kx (upd H3 a (.dK (putK es y v))) τ p 0 kvs es:=TAtK.monoP pe (fun i q b zb=>au fun eb=>by
  subst eb
  have:=congrArg List.length (oH nd zb e2)
  simp at this) gk
 have new:TAt X.kx (upd H3 a (.dK (putK es y v))) τ p (.dict (putD (keyD y) (lfD d) kvs)) (.ref a):=by
  have gp:=gk'.put (kk:=y) (t':=lfD d) (v':=v) fun j=>m5 (hd3.mono pe)
  obtain ⟨z1,z2⟩:=k8 gp.kd
  simp only [TAt]
  exact .inr (.inr (.inl ⟨z1,z2,a,_,e2,rfl,aA,gp⟩))
 have all:TAt X.kx (upd H3 a (.dK (putK es y v))) τ [] (setT t p (.dict (putD (keyD y) (lfD d) kvs))) v0:=TAt.set nd pe g e4 e6 (by rw [List.nil_append]; exact e2) (by rw [List.nil_append]; exact new) fun u hu'=>by
  rw [List.nil_append] at hu'
  obtain ⟨a',es',ea',eu,_⟩:=hu'.kd e5
  rw [e2] at ea'; cases ea'
  exact eu
 obtain ⟨R4,F4⟩:=Rl3.setW e1 pe (ds':=[setT t p (.dict (putD (keyD y) (lfD d) kvs))]) (fun b hb=>au fun eb=>hb (eb▸bq e2)) ⟨⟨_,v0,rfl,all,a0,ea0,ev0⟩,fun b hb=>by
  by_cases eb:b = a
  ·subst eb; exact ⟨_,aA,rfl⟩
  ·rw [au eb]; exact mu b hb⟩
 exact ⟨a,_,rfl,DPut.k ed (by rw [←gk.len]; exact e7),k.nx α _ σ _ q3 (n3.trans (n2.trans n1)) R4 (.of R4 (((F1.trans F2).trans F3).trans F4))⟩
def i5:List (WE×WE)→MSt→(List (R×R)→MSt→Prop)→Prop
 | [],m,K=>K [] m
 | (wk,wv) :: r,m,K=>wk m fun rk m1=>wv m1 fun rv m2=>i5 r m2 fun ps m3=>K ((rk,rv) :: ps) m3
def lfKV (kvs:List (PyData×PyData)):List (PyData×PyData):=kvs.map fun kv=>(kv.1,lfD kv.2)
def l5:List (PyData×PyData)→Bool
 | []=>true
 | (k,_) :: r=>r.all (fun kv=>!gj kv.1 k) && l5 r
theorem mt:∀ {more kvs:List (Key×V)},(more.map (·.1)).Nodup→(∀ x∈more,valV kvs x.1 = none)→im kvs more = kvs++more
 | [],kvs,_,_=>(List.append_nil _).symm
 | (k,v) :: more,kvs,nd,h=>by
  show im (putK kvs k v) more = _
  rw [List.map_cons,List.nodup_cons] at nd
  rw [vx v (h (k,v) List.mem_cons_self),mt nd.2 fun x hx=>?_,List.append_assoc]
  ·rfl
  ·rw [l0 _ _ _ _ (h (k,v) List.mem_cons_self),if_neg]
   ·exact h x (List.mem_cons_of_mem _ hx)
   ·exact fun z=>nd.1 (z▸List.mem_map_of_mem hx)
theorem TAtK.nodup {K:Kd} {H:Hp} {τ : List (List Nat×Addr)} {p:List Nat}:∀ {ts:List (PyData×PyData)} {i:Nat} {xs:List (Key×V)},TAtK K H τ p i ts xs→(xs.map (·.1)).Nodup
 | [],_,_,h=>by simp only [TAtK] at h; subst h; exact List.nodup_nil
 | (k,t) :: ts,i,xs,h=>by
  simp only [TAtK] at h
  obtain ⟨u,v,vs,rfl,g0,_,g2⟩:=h
  rw [List.map_cons]
  rw [List.nodup_cons]
  refine ⟨fun z=>?_,g2.nodup⟩
  obtain ⟨x,h1,h2⟩:=List.mem_map.mp z
  exact g0.2 x h1 h2
def MPs (X:Cx) (pos:Pos) (keys:List (Option Expr)) (values:List Expr) (ws:List (WE×WE)):Prop:=PPs X pos keys values (ws.map fun w=>(tM X.kx w.1,tM X.kx w.2))
theorem yj:MPs X pos [] [] []:=yt
theorem vZ {k v:Expr} {ks:List (Option Expr)} {vs:List Expr} {wk wv:WE} {ws:List (WE×WE)} (hk:ME X k wk) (hv:ME X v wv) (hr:MPs X pos ks vs ws):MPs X pos (some k :: ks) (v :: vs) ((wk,wv) :: ws):=uQ hk hv hr
end
section
variable {m:MSt} {Q:R→MSt→Prop} {wo wi we:WE} {D:d9}
theorem Az (h:wo m fun ro m1=>wi m1 fun ri m2=>onAt (fun k p=>n6 (fun y=>dGot m2 k p y fun r=>Q r m2) ri) ro):wDIx wo wi m Q:=h
theorem CV {P:Nat→List Nat→Prop} {k:Nat} {p:List Nat} (h:P k p):onAt P (.at k p):=h
theorem vM {P:PyData→Prop} {x:Str} (h:P (.str x)):n6 P (.imm (.str x)):=h
theorem CI {k:Nat} {p:List Nat} {y t t' d:PyData} {kvs:List (PyData×PyData)} {j:Nat} {K:R→Prop} (e1:m.os[k]? = some [t]) (e2:getT t p = some (.dict kvs)) (e3:isKd kvs = true) (e4:iW y 0 kvs = some (j,t')) (e5:iA t' = some d) (h:K (.imm d)) :
  dGot m k p y K:=⟨t,kvs,j,t',e1,e2,e3,e4,by unfold dy; rw [e5]; exact h⟩
theorem yH {k:Nat} {p:List Nat} {y t t':PyData} {kvs:List (PyData×PyData)} {j:Nat} {K:R→Prop} (e1:m.os[k]? = some [t]) (e2:getT t p = some (.dict kvs)) (e3:isKd kvs = true) (e4:iW y 0 kvs = some (j,t')) (e5:iA t' = none) (h:K (.at k (p++[j]))) :
  dGot m k p y K:=⟨t,kvs,j,t',e1,e2,e3,e4,by unfold dy; rw [e5]; exact h⟩
theorem Bu (h:we m fun rv m1=>f7 (fun d=>wo m1 fun ro m2=>wi m2 fun ri m3=>onAt (fun k p=>n6 (fun y=>zR m3 k p y d fun t=>D.nx { m3 with os:=m3.os.set k [t] }) ri) ro) rv):Ai we wo wi D m:=h
theorem oU {y t t':PyData}:∀ {kvs:List (PyData×PyData)} {i j:Nat},iW y i kvs = some (i + j,t')→∃ k',gj k' y = true∧putD y t kvs = kvs.set j (k',t)
 | [],_,_,e=>by cases e
 | (k',t0) :: r,i,j,e=>by
  simp only [iW] at e
  by_cases c:gj k' y = true
  ·rw [if_pos c] at e
   have:i = i + j:=by simpa using congrArg (Option.map (·.1)) e
   obtain rfl:j = 0:=by omega
   exact ⟨k',c,by simp only [putD,if_pos c,List.set_cons_zero]⟩
  ·rw [if_neg c] at e
   cases j with
   | zero =>
    exfalso
    have ge:∀ {kvs:List (PyData×PyData)} {i j:Nat} {t'':PyData},iW y i kvs = some (j,t'')→i≤j:=by
     intro kvs
     induction kvs with
     | nil=>intro i j t'' e; cases e
     | cons x r ih =>
      intro i j t'' e
      obtain ⟨k1,t1⟩:=x
      simp only [iW] at e
      split at e
      ·cases e; exact Nat.le_refl _
      ·have:=ih e; omega
    have:=ge e
    omega
   | succ j =>
    obtain ⟨k2,h1,h2⟩:=oU (t:=t) (i:=i + 1) (j:=j) (by rw [e]; congr 2; omega)
    exact ⟨k2,h1,by simp only [putD,if_neg c,List.set_cons_succ,h2]⟩
theorem vF {a b:PyData} (h:gj a b = true):a = b:=by
 unfold gj at h
 split at h
 ·rw [of_decide_eq_true h]
 ·rw [of_decide_eq_true h]
 ·cases h
theorem x6 {k:Nat} {p:List Nat} {y d t t':PyData} {kvs:List (PyData×PyData)} {j:Nat} {P:PyData→Prop} (e1:m.os[k]? = some [t]) (e2:getT t p = some (.dict kvs)) (e3:isKd kvs = true) (e4:okW t p = true) (e5:kvs.length < sizeLine) (e6:iW y 0 kvs = some (j,t')) (h:P (setT t p (.dict (kvs.set j (y,lfD d))))) :
  zR m k p y d P:=by
 obtain ⟨k',h1,h2⟩:=oU (t:=lfD d) (i:=0) (j:=j) (by rw [e6,Nat.zero_add])
 rw [vF h1] at h2
 exact ⟨t,kvs,e1,e2,e3,e4,e5,by rw [h2]; exact h⟩
theorem AZ {K:List (R×R)→MSt→Prop} (h:K [] m):i5 [] m K:=h
theorem yX {wk wv:WE} {r:List (WE×WE)} {K:List (R×R)→MSt→Prop} (h:wk m fun rk m1=>wv m1 fun rv m2=>i5 r m2 fun ps m3=>K ((rk,rv) :: ps) m3):i5 ((wk,wv) :: r) m K:=h
theorem j6 {n:Nat} {t:PyData} {P:MSt→Prop} (h:P { vs:=m.vs.set n (some (.at m.os.length [])),os:=m.os++[[t]],np:=m.np }):mJ n P m (.newT t):=.inl h
end
section
variable {X:Cx} {o i e:Expr} {wo wi we:WE} {pos pos':Pos}
theorem bu (hu:X.A.units + 64 < cLine) (ho:EE X o wo) (hi:EE X i wi) (hs:NoSl i:=by intro _ _; rfl):EE X (.Subscript o i pos) (wDIx wo wi):=⟨Dr hu ho.h hi.h hs⟩
theorem jX (hu:X.A.units + 64 < cLine) (he:EE X e we) (ho:EE X o wo) (hi:EE X i wi) (hs:swapsWith e (some (.Subscript o i pos')) pos.line X.env = pure false:=by rfl):ES X (.Assign [.Subscript o i pos'] e pos) (Ai we wo wi):=⟨zu hu he.h ho.h hi.h hs⟩
structure EPs (X:Cx) (pos:Pos) (keys:List (Option Expr)) (values:List Expr) (ws:List (WE×WE)):Prop where
 h:MPs X pos keys values ws
theorem vn:EPs X pos [] [] []:=⟨yj⟩
theorem fm {k v:Expr} {ks:List (Option Expr)} {vs:List Expr} {wk wv:WE} {ws:List (WE×WE)} (hk:EE X k wk) (hv:EE X v wv) (hr:EPs X pos ks vs ws):EPs X pos (some k :: ks) (v :: vs) ((wk,wv) :: ws):=⟨vZ hk.h hv.h hr.h⟩
end
section
variable {X:Cx} {a:Expr} {es:List Expr} {ws:WA} {pos p p2 p3:Pos}
def Gg (K:PySem.W.Frag):List V→Hp→VK→Prop:=fun xs H Q=>∃ (t:Bool) (l:Addr) (ns:List Int),xs = [.ref l]∧SqB t K H l (ns.map V.int)∧Q (.int ns.sum) H
theorem jl (ns:List Int):∀ n,n≤ns.length→preSum (fun i=>ns.getD i 0) n = (ns.take n).sum
 | 0,_=>by simp [preSum]
 | n + 1,h=>by
  show preSum (fun i=>ns.getD i 0) n + ns.getD n 0 = _
  have hn:n < ns.length:=by omega
  rw [jl ns n (by omega),List.take_add_one,List.getElem?_eq_getElem hn,aD (List.getElem?_eq_getElem hn),List.sum_append]
  simp
theorem my (hc:X.calm = true):c6 X (.builtin "sum") (Gg X.K):=by
 rintro pins s σ H xs us Q I rv ⟨t,l,ns,ex,hq,q⟩
 subst ex
 obtain ⟨u,rfl,ru⟩:=rv.one
 cases ru
 obtain ⟨its,rvv,pl,_⟩:=I.sqb hq
 have hi:IntsAre its.toArray.toList ns:=ij rvv
 have hl:its.length = ns.length:=by have:=rvv.length; rw [List.length_map] at this; omega
 refine call_sum_walkG (pV pl fun s2 e st hfp hlI=>?_)
 subst e
 refine ⟨s.heap.objs.size,[s.heap.objs.size,l],[s.heap.objs.size],its.toArray.size,fun i v=>its.toArray[i]? = some v,fun i h=>SubI t h s.heap.objs.size l i∧SubS t h l its.toArray,fun i=>ns.getD i 0,rfl,mF (A:=X.A.in1) t (I.ok.hd hc) _ l hlI its.toArray,st,hfp,om hi,fun h' tk t' hk=>?_⟩
 have e:preSum (fun i=>ns.getD i 0) its.toArray.size = ns.sum:=by
  rw [List.size_toArray,hl,jl ns ns.length (Nat.le_refl _),List.take_length]
 rw [e]
 exact ⟨.int ns.sum,H,I.kept (t':=tk) (pg hk),⟨_,rfl⟩,q⟩
def Bf:WC:=fun rs m K=>on1 (fun r=>∃ ds ns,sqOf m r = some ds∧cq ds = some ns∧K (.imm (.int ns.sum))) rs
theorem qf (hc:X.calm = true):c6 X (.builtin "sum") (cM X.kx Bf):=by
 rintro pins s σ' H xs us Q I rv ⟨α,m,σ,H0,rs,Kc,Rl,h,ho,fin⟩
 obtain ⟨r,v,rfl,rfl,h1,ds,ns,e1,e2,ho⟩:=cv h ho
 obtain ⟨a,ys,rfl,f,g⟩:=h1.seq Rl e1
 rw [gW e2] at g
 have ey:=dM g
 subst ey
 have go:Q (.int ns.sum) H:=fin _ _ H ho Rl (dh _) (Frm.refl _ _)
 rcases f with f | f
 ·exact my hc pins s σ' H _ us Q I rv ⟨false,a,ns,rfl,f,go⟩
 ·exact my hc pins s σ' H _ us Q I rv ⟨true,a,ns,rfl,f,go⟩
theorem AI {m:MSt} {r:R} {Kr:R→Prop} {ds:List PyData} {ns:List Int} (e1:sqOf m r = some ds) (e2:cq ds = some ns) (h:Kr (.imm (.int ns.sum))):Bf [r] m Kr:=⟨ds,ns,e1,e2,h⟩
end
end L2
namespace HT
open PySem PySem.Spec PyProof.Rows
end HT
namespace L2
open PySem PySem.Spec PyProof.Rows
def isFz:HO→Bool
 | .lst _=>true
 | .dK _=>true
 | .ext _=>true
 | _=>false
section
variable {X:Cx} {pins:List (Addr×Obj)} {σ : St} {H:Hp} {s:Shared}
theorem Inv.freezeU {a:Addr} {u:HO} (I:Inv X pins σ H s) (h:H a = some u) (hu:isFz u = true):∃ o,Inv X pins σ (upd H a (.frz o u)) s:=by
 have ok:=I.hok a u h
 obtain ⟨o,e⟩ : ∃ o,s.heap.get? a = some o:=by
  cases u with
  | lst xs=>obtain ⟨_,its,n,_,e⟩:=ok; exact ⟨_,e⟩
  | dK kvs=>obtain ⟨_,_,vs,_,o,_,_,e,_⟩:=ok; exact ⟨_,e⟩
  | ext φ=>exact ok.2.1
  | _=>cases hu
 have nt:∀ {b:Addr} {v:HO},H b = some v→v≠u→b≠a:=fun q z=>nH q h z
 refine ⟨o,I.un (h':=s.heap) (t':=s.toks) ⟨fun b ob q _ _ _=>q,fun b ob q _ _ _=>⟨ob.slots,q⟩,fun b ob q z _=>?_,fun b ob q _=>⟨ob,q⟩,fun b ys q=>?_,fun b ob v q=>?_,fun b ps q=>⟨#[],?_⟩⟩ fun b ob q=>?_⟩
 ·rw [au (Ne.symm (aK h z))]; exact z
 ·rw [au (nt q (by intro z; subst z; cases hu))]; exact q
 ·rw [au (nt q (by intro z; subst z; cases hu))]; exact q
 ·rw [au (nt q (by intro z; subst z; cases hu)),q]; simp
 ·have stay:∀ {c:Addr} {v:HO},ObjOk X.prog X.w H s.heap c v→ObjOk X.prog X.w (upd H a (.frz o u)) s.heap c v:=fun x=>x.stay (fun _ _ _ z=>z) (fun c z=>by rw [au (nt z (by intro z; subst z; cases hu))]; exact z) fun c ys z=>by rw [au (nt z (by intro z; subst z; cases hu))]; exact z
  by_cases hb:b = a
  ·subst hb
   rw [aA] at q
   cases q
   exact ⟨e,stay ok⟩
  ·rw [au hb] at q
   exact stay (I.hok b ob q)
end
def tFrz (t:TS):TS:=fun D σ H=>∃ a u,H a = some u∧isFz u = true∧∀ o,t D σ (upd H a (.frz o u))
section
variable {X:Cx} {st:Stmt} {w:WS}
theorem GY {t:TS} (h:PS X st t):PS X st (tFrz t):=fun pins s σ H D I ⟨a,u,e,hu,q⟩=>by
 obtain ⟨o,I'⟩:=I.freezeU e hu
 exact h pins s σ _ D I' (q o)
theorem vo {K:Kx} {α : Al} {m m2:MSt} {σ : St} {H:Hp} {ρ : List Nat} (Rl:Rel K α m σ H) (N:Ren ρ m m2):Rel K (ρ.map fun k=>α.getD k (.L 0)) m2 σ H∧Ext m.np α H (ρ.map fun k=>α.getD k (.L 0)) H:=by
 have pr:=fH Rl.len N.lt
 have get:∀ (k:Nat) (ao:Ao),(ρ.map fun k=>α.getD k (.L 0))[k]? = some ao→∃ j:Nat,ρ[k]? = some j∧α[j]? = some ao:=fun k ao z=>by
  obtain ⟨j,h1,h2⟩:=Paired.get2 pr z
  exact ⟨j,h1,h2⟩
 have fwd:∀ (k j:Nat) (ao:Ao),ρ[k]? = some j→α[j]? = some ao→(ρ.map fun k=>α.getD k (.L 0))[k]? = some ao:=fun k j ao z1 z2=>by
  obtain ⟨ao',z3,z4⟩:=Paired.get' pr z1
  rw [z2] at z4; cases z4
  exact z3
 have pre':(ρ.map fun k=>α.getD k (.L 0)).take m.np = α.take m.np:=by
  apply List.ext_getElem?
  intro l
  rw [List.getElem?_take,List.getElem?_take]
  by_cases hl:l < m.np
  ·rw [if_pos hl,if_pos hl]
   have : ρ[l]? = some l:=by
    have e:=congrArg (·[l]?) N.pre
    simp only [List.getElem?_take,if_pos hl] at e
    rw [e,List.getElem?_range hl]
   have hl2:l < α.length:=Nat.lt_of_lt_of_le hl Rl.npl
   rw [fwd l l α[l] this (List.getElem?_eq_getElem hl2),List.getElem?_eq_getElem hl2]
  ·rw [if_neg hl,if_neg hl]
 have ext:Ext m.np α H (ρ.map fun k=>α.getD k (.L 0)) H:=⟨pre',Frm.refl _ _,fun a ha=>by
  obtain ⟨k,ao,e1,hm⟩:=fO ha
  obtain ⟨j,_,e2⟩:=get k ao e1
  exact .inl (il e2 hm),fun a ha=>by
  obtain ⟨o,q,_⟩:=Rl.mem ha
  exact ⟨_,q⟩⟩
 refine ⟨⟨fu Rl.nd N.nd pr,?_,fun k ao ds z1 z2=>?_,?_,fun j r z=>?_,?_,by rw [N.np]; exact Rl.ebl,Rl.ebx.trans (ext.less Rl.ebl)⟩,ext⟩
 ·rw [N.os,List.length_map,List.length_map]
 ·obtain ⟨j,q,qa⟩:=get k ao z1
  rw [N.os,List.getElem?_map,q] at z2
  have hj:j < m.os.length:=N.lt j (List.mem_of_getElem? q)
  have z2':m.os.getD j [] = ds:=Option.some.inj z2
  refine Rl.own j ao ds qa ?_
  rw [←z2',List.getD_eq_getElem?_getD,List.getElem?_eq_getElem hj]; rfl
 ·rw [N.vl]; exact Rl.vlen
 ·have h:=N.vs j r z
  cases r with
  | imm d=>exact Rl.var j (.imm d) h
  | new _=>exact h.elim
  | newT _=>exact h.elim
  | obj k =>
   obtain ⟨j',q,h⟩:=h
   obtain ⟨v,ev,a,ea,e⟩:=Rl.var j (.obj j') h
   exact ⟨v,ev,a,fwd k j' _ q ea,e⟩
  | «at» k p =>
   obtain ⟨j',q,h⟩:=h
   obtain ⟨v,ev,τ,a,ea,el,e⟩:=Rl.var j (.at j' p) h
   exact ⟨v,ev,τ,a,fwd k j' _ q ea,el,e⟩
 ·rw [N.np,List.length_map]; exact N.npl
structure Fz (k:Nat) (dd:PyData) (ρ : List Nat) (m m2:MSt):Prop where
 nd : ρ.Nodup
 lt:∀ k∈ρ,k < m.os.length
 out:k∉ρ
 pre : ρ.take m.np = List.range m.np
 npl:m.np≤ρ.length
 npk:m.np≤k
 os:m2.os = ρ.map fun k=>m.os.getD k []
 np:m2.np = m.np
 vl:m2.vs.length = m.vs.length
 vs:∀ (j:Nat) (r:R),m2.vs[j]? = some (some r)→RenR ρ m.vs[j]? r∨(r = .imm dd∧(m.vs[j]? = some (some (.obj k))∨m.vs[j]? = some (some (.at k []))))
def Fz.ren {k:Nat} {dd:PyData} {ρ : List Nat} {m m2:MSt} (F:Fz k dd ρ m m2):∃ m3,Ren ρ m m3∧m3.np = m2.np∧m3.os = m2.os∧m3.vs.length = m2.vs.length∧∀ (j:Nat) (r:R),m2.vs[j]? = some (some r)→m3.vs[j]? = some (some r)∨(r = .imm dd∧(m.vs[j]? = some (some (.obj k))∨m.vs[j]? = some (some (.at k [])))):=by
 classical
 refine ⟨{ m2 with vs:=m2.vs.mapIdx fun j o=>match o with | some r=>if RenR ρ m.vs[j]? r then some r else none | none=>none },⟨F.nd,F.lt,F.pre,F.npl,F.os,F.np,by rw [←F.vl]; simp,fun j r z=>?_⟩,rfl,rfl,by simp,fun j r z=>?_⟩
 ·simp only [List.getElem?_mapIdx] at z
  cases q:m2.vs[j]? with
  | none=>rw [q] at z; cases z
  | some o =>
   rw [q] at z
   cases o with
   | none=>cases z
   | some r' =>
    simp only [Option.map_some,Option.some.injEq] at z
    split at z
    ·cases z; assumption
    ·cases z
 ·rcases F.vs j r z with h | h
  ·left
   simp only [List.getElem?_mapIdx,z,Option.map_some,if_pos h]
  ·exact .inr h
theorem zL {α : Al} {m m2:MSt} {σ : St} {H:Hp} {De:d9} {D:Ends} {k:Nat} {dd:PyData} {ρ : List Nat} {ao:Ao} {a:Addr} {u:HO} (Rl:Rel X.kx α m σ H) (ke:EndsOk X.kx m.np α H De D) (F:Fz k dd ρ m m2) (ea : α[k]? = some ao) (hm:a∈ao.ads) (hu:H a = some u) (hfz:isFz u = true) (mu:Mu u = true)
  (den:∀ o,Pers H (upd H a (.frz o u))→Den X.kx (upd H a (.frz o u)) dd (.ref a)) (name:∀ (j:Nat) (v:V),(m.vs[j]? = some (some (.obj k))∨m.vs[j]? = some (some (.at k [])))→σ[j]? = some (some v)→v = .ref a) (hw:w De m2):tFrz (tMS X.kx w) D σ H:=by
 obtain ⟨m3,N,np3,os3,vl3,vs3⟩:=F.ren
 obtain ⟨R3,x3⟩:=vo Rl N
 refine ⟨a,u,hu,hfz,fun o=>?_⟩
 have pe:Pers H (upd H a (.frz o u)):=bh (.inr ⟨u,hu,mu⟩)
 have aα : a∈ads α:=il ea hm
 have out:a∉ads (ρ.map fun k=>α.getD k (.L 0)):=fun z=>by
  obtain ⟨i,x,e1,e2⟩:=fO z
  obtain ⟨j,h1,h2⟩:=Paired.get2 (fH Rl.len N.lt) e1
  exact fx Rl.nd ea h2 (fun z=>F.out (z▸List.mem_of_getElem? h1)) hm e2
 have xx:Ext m.np α H (ρ.map fun k=>α.getD k (.L 0)) (upd H a (.frz o u)):=⟨x3.pre,fun b ob e n=>by rw [au (fun z=>n (by rw [z]; exact aα))]; exact e,x3.new,fun b hb=>by
  by_cases eb:b = a
  ·subst eb; exact ⟨_,aA⟩
  ·rw [au eb]; exact x3.old b hb⟩
 have R4:=R3.at' pe (fun b hb=>au fun z=>out (z▸hb)) (Rl.ebx.trans (xx.less Rl.ebl))
 refine ⟨_,m2,De,⟨R4.nd,by rw [R4.len,os3],fun k ao ds z1 z2=>R4.own k ao ds z1 (by rw [os3]; exact z2),by rw [R4.vlen,vl3],fun j r z=>?_,by rw [←np3]; exact R4.npl,by rw [←np3]; exact R4.ebl,R4.ebx⟩,hw,by rw [F.np]; exact ke.ext xx⟩
 rcases vs3 j r z with h | ⟨rfl,h⟩
 ·exact R4.var j r h
 ·obtain ⟨v,ev⟩ : ∃ v,σ[j]? = some (some v):=by
   rcases h with h | h
   ·obtain ⟨v,ev,_⟩:=Rl.var j _ h; exact ⟨v,ev⟩
   ·obtain ⟨v,ev,_⟩:=Rl.var j _ h; exact ⟨v,ev⟩
  refine ⟨v,ev,?_⟩
  rw [name j v h ev]
  exact den o pe
def wFzL (w:WS):WS:=fun D m=>∃ (k j:Nat) (ds:List PyData) (ρ : List Nat) (m2:MSt),m.vs[j]? = some (some (.obj k))∧m.os[k]? = some ds∧Fz k (.list ds) ρ m m2∧w D m2
theorem CY (h:MS X st w):MS X st (wFzL w):=(GY h).wk fun D σ H ⟨α,m,De,Rl,⟨k,j0,ds,ρ,m2,ej,eo,F,hw⟩,ke⟩=>by
 obtain ⟨v,ev,a,ea,rfl⟩:=Rl.var j0 _ ej
 obtain ⟨xs,hx,g⟩:=Rl.own k _ _ ea eo
 refine zL Rl ke F ea (List.mem_singleton.mpr rfl) hx rfl rfl (fun o pe=>?_) (fun j v hj evj=>?_) hw
 ·simp only [Den]
  exact ⟨a,xs,rfl,.inl ⟨o,aA⟩,g.mono pe⟩
 ·rcases hj with hj | hj
  ·obtain ⟨v',ev',a',ea',rfl⟩:=Rl.var j _ hj
   rw [ea] at ea'; cases ea'
   rw [evj] at ev'; cases ev'; rfl
  ·obtain ⟨v',ev',τ,a',ea',_⟩:=Rl.var j _ hj
   rw [ea] at ea'; cases ea'
theorem sx (d:PyData):iA (lfD d) = some d:=by cases d <;> rfl
theorem fzKK {K:Kd} {H:Hp} {τ : List (List Nat×Addr)} {p:List Nat}:∀ {kvs:List (PyData×PyData)} {i:Nat} {es:List (Key×V)},TAtK K H τ p i (lfKV kvs) es→DenKK K H kvs es
 | [],_,_,h=>by simpa only [lfKV,List.map_nil,TAtK,DenKK] using h
 | (k,d) :: r,i,es,h=>by
  simp only [lfKV,List.map_cons,TAtK] at h
  obtain ⟨kk,v,vs,rfl,g0,g1,g2⟩:=h
  simp only [DenKK]
  exact ⟨kk,v,vs,rfl,g0,gA g1 (sx d),fzKK g2⟩
theorem xT (h:ES X st w):ES X st (wFzL w):=⟨CY h.h⟩
end
def FzVs (k:Nat) (dd:PyData) (ρ : List Nat):List (Option R)→List (Option R)→Prop
 | o :: os,q :: qs=>(RenO ρ o q∨(q = some (.imm dd)∧(o = some (.obj k)∨o = some (.at k []))))∧FzVs k dd ρ os qs
 | [],[]=>True
 | _,_=>False
theorem FzVs.len {k:Nat} {dd:PyData} {ρ : List Nat}:∀ {os qs:List (Option R)},FzVs k dd ρ os qs→qs.length = os.length
 | [],[],_=>rfl
 | _ :: _,_ :: _,h=>congrArg (· + 1) (FzVs.len h.2)
 | [],_ :: _,h=>h.elim
 | _ :: _,[],h=>h.elim
theorem FzVs.get {k:Nat} {dd:PyData} {ρ : List Nat}:∀ {os qs:List (Option R)},FzVs k dd ρ os qs→∀ (j:Nat) (r:R),qs[j]? = some (some r)→RenR ρ os[j]? r∨(r = .imm dd∧(os[j]? = some (some (.obj k))∨os[j]? = some (some (.at k []))))
 | o :: os,q :: qs,h,0,r,e=>by
  have e':q = some r:=by simpa using e
  subst e'
  rcases h.1 with h | ⟨h1,h2⟩
  ·exact .inl h
  ·cases h1
   exact .inr ⟨rfl,by simpa using h2⟩
 | o :: os,q :: qs,h,j + 1,r,e=>by simpa using FzVs.get h.2 j r (by simpa using e)
 | [],[],_,_,_,e=>by simp at e
 | [],_ :: _,h,_,_,_=>h.elim
 | _ :: _,[],h,_,_,_=>h.elim
theorem FU {k:Nat} {dd:PyData} {ρ : List Nat} {m m2:MSt} (nd:decide ρ.Nodup = true) (lt:(ρ.all fun k=>Nat.blt k m.os.length) = true) (out:(ρ.all fun i=>i != k) = true) (pre : ρ.take m.np = List.range m.np) (npl:Nat.ble m.np ρ.length = true) (npk:Nat.ble m.np k = true) (os:m2.os = ρ.map fun k=>m.os.getD k []) (np:m2.np = m.np) (vs:FzVs k dd ρ m.vs m2.vs):Fz k dd ρ m m2 :=
 ⟨of_decide_eq_true nd,fun k hk=>Nat.blt_eq.mp (List.all_eq_true.mp lt k hk),fun z=>by simpa using List.all_eq_true.mp out k z,pre,Nat.le_of_ble_eq_true npl,Nat.le_of_ble_eq_true npk,os,np,vs.len,fun j r e=>vs.get j r e⟩
theorem GA {w:WS} {D:d9} {m:MSt} (k j:Nat) (ds:List PyData) (ρ : List Nat) (m2:MSt) (e1:m.vs[j]? = some (some (.obj k))) (e2:m.os[k]? = some ds) (F:Fz k (.list ds) ρ m m2) (h:w D m2):wFzL w D m:=⟨k,j,ds,ρ,m2,e1,e2,F,h⟩
noncomputable instance instDecPyData:DecidableEq PyData:=fun a b=>Classical.propDecidable (a = b)
mutual
def ip:PyData→Nat
 | .int _=>1
 | .str _=>1
 | .tuple ds=>dE ds + 1
 | _=>0
def dE:List PyData→Nat
 | []=>0
 | d :: ds=>ip d + dE ds
end
def kyD (d:PyData):Bool:=(match d with | .tuple _=>true | _=>false) && (hkD d && (d.canLay0 && decide (d.depth≤7)))
theorem ix {d:PyData} (h:kyD d = true):∃ ds,d = .tuple ds∧hkA ds = true∧d.canLay0 = true∧d.depth≤7:=by
 unfold kyD at h
 rw [Bool.and_eq_true,Bool.and_eq_true,Bool.and_eq_true,decide_eq_true_eq] at h
 cases d with
 | tuple ds=>exact ⟨ds,rfl,by simpa only [hkD] using h.2.1,h.2.2.1,h.2.2.2⟩
 | _=>simp at h
section
variable {w:World} {prog:Program}
theorem lv (w:World):∀ a b:List PyData,fV w (a++b) = fV w a++fV w b
 | [],b=>by simp [fV]
 | d :: a,b=>by simp only [List.cons_append,fV,lv w a b]
theorem jU:∀ a b:List PyData,dE (a++b) = dE a + dE b
 | [],b=>by simp [dE]
 | d :: a,b=>by simp only [List.cons_append,dE,jU a b]; omega
theorem ny:∀ {ds:List PyData} {d:PyData},hkA ds = true→d∈ds→hkD d = true
 | x :: ds,d,h,hm=>by
  simp only [hkA,Bool.and_eq_true] at h
  obtain rfl | hm:=List.mem_cons.mp hm
  ·exact h.1
  ·exact ny h.2 hm
theorem iu {ds:List PyData} {d:PyData} (h:d∈ds):d.depth≤PyData.depthAll ds:=by
 induction ds with
 | nil=>cases h
 | cons x ds ih =>
  show _≤max x.depth (PyData.depthAll ds)
  obtain rfl | h:=List.mem_cons.mp h
  ·omega
  ·have:=ih h; omega
mutual
theorem jS:∀ (d:PyData) {A:Around} {E:Value→Shared→Prop} {s:Shared} {v:Value} {as:List Addr} {Q:Int→Shared→Prop},hkD d = true→Reads s.heap v d as→A.units + d.depth < cLine→Q (gv w d) { s with toks:=s.toks + ip d }→wpAny (model prog w) A (pyHash v) Q E s
 | .int i,A,E,s,v,as,Q,_,r,_,h=>by
  cases r
  exact wpAny_pyHash_int (by simpa only [gv,ip] using h)
 | .str x,A,E,s,v,as,Q,_,r,_,h=>by
  cases r
  exact wpAny_pyHash_str (by simpa only [gv,ip] using h)
 | .tuple ds,A,E,s,v,as,Q,hk,r,hu,h=>by
  cases r with
  | @tuple a o vs n _ _ ho hc hd hr =>
   have hT:s.TypeIs (.ref a) "tuple" := ⟨o,ho,hc⟩
   have hu0:A.units < cLine:=Nat.lt_of_le_of_lt (Nat.le_add_right _ _) hu
   have sp:∀ {P:Option Value→Shared→Prop},P (some (.builtin "tuple.__hash__")) s→wpAny (model prog w) A (specialOf (.ref a) "__hash__") P E s:=fun p=>wpAny_specialOf hT F.slot_tuple_hash.lookup p
   simp only [gv,ip] at h
   refine wpAny_bind (m:=cRoomFor "hash" [.ref a]) (wpAny_cRoomFor_or (.inr hu0) (wpAny_bind (m:=specialOf _ _) (sp ?_)))
   rw [if_neg (show ¬ (some (Value.builtin "tuple.__hash__") == some Value.none) = true by rw [beq_builtin_none]; decide)]
   refine wpAny_bind (m:=specialOf _ _) (sp (wpAny_bind (m:=callSpecialIfBoundUnlessNone? (.ref a) "__hash__" _) ?_))
   refine wpAny_callSpecialIfBoundUnlessNone?_slot hT F.slot_tuple_hash (wpAny_call_entry F.slot_tuple_hash hT F.entry_tuple_hash (wpAny_bind (m:=Builtin.Tuple.tupleItemsOf (.ref a)) (wpAny_tupleItemsOf ho hd ?_)) (F.args_tuple_hash_1 _))
   refine wpAny_bind ?_
   rw [←Array.forIn_toList]
   refine wpAny_forIn_list _
    (fun rest (b:Array Int) s'=>∃ done left bs,ds = done++left∧ReadsAll s.heap rest left bs∧b.toList = fV w done∧s' = { s with toks:=s.toks + dE done })
    _ ?_ ?_ _ _ ⟨[],ds,_,rfl,hr,by simp [fV],by simp [dE]⟩
   ·rintro x rest b s' ⟨done,left,bs,hds,hl,hb,rfl⟩
    cases hl with
    | @cons _ _ d ds' as1 bs1 r1 r2 =>
     have hm:d∈ds:=by rw [hds]; simp
     refine wpAny_bind (oQ ds d hm (ny (by simpa only [hkD] using hk) hm) (s:={ s with toks:=s.toks + dE done }) r1 ?_ ?_)
     ·have:=iu hm
      have e:(PyData.tuple ds).depth = PyData.depthAll ds + 1:=rfl
      show A.units + 1 + d.depth < cLine
      omega
     ·have fin:∃ done' left' bs',ds = done'++left'∧ReadsAll s.heap rest left' bs'∧(b.push (gv w d)).toList = fV w done'∧({ s with toks:=s.toks + dE done + ip d }:Shared) = { s with toks:=s.toks + dE done' }:=by
       refine ⟨done++[d],ds',_,by rw [hds]; simp,r2,?_,?_⟩
       ·rw [Array.toList_push,hb,lv]; simp [fV]
       ·rw [jU,Nat.add_assoc]; simp [dE]
      first
       | exact wpAny_pure fin
       | exact wpAny_bind (wpAny_pure (wpAny_pure fin))
   ·rintro b s' ⟨done,left,bs,hds,hl,hb,rfl⟩
    cases hl
    rw [List.append_nil] at hds
    subst hds
    change wpAny _ _ (retInt (Builtin.Tuple.tupleHashOf (b.toList:List Int))) _ _ _
    rw [hb]
    refine wpAny_ret_mkInt ?_
    show wpAny _ _ (if (decide (-(2:Int) ^ 63≤Builtin.Tuple.tupleHashOf (fV w ds)) && decide (Builtin.Tuple.tupleHashOf (fV w ds) < 2 ^ 63)) = true then _ else _) Q E _
    unfold reduceHash at h
    by_cases hr:(decide (-(2:Int) ^ 63≤Builtin.Tuple.tupleHashOf (fV w ds)) && decide (Builtin.Tuple.tupleHashOf (fV w ds) < 2 ^ 63)) = true
    ·rw [if_pos hr]
     rw [if_pos hr] at h
     refine wpAny_pure ?_
     simpa [Nat.add_assoc] using h
    ·rw [if_neg hr]
     rw [if_neg hr] at h
     refine wpAny_bind (m:=rule _) (wpAny_rule (wpAny_pure ?_))
     simpa [Nat.add_assoc] using h
 | .none,_,_,_,_,_,_,hk,_,_,_=>by simp only [hkD] at hk; cases hk
 | .bool _,_,_,_,_,_,_,hk,_,_,_=>by simp only [hkD] at hk; cases hk
 | .list _,_,_,_,_,_,_,hk,_,_,_=>by simp only [hkD] at hk; cases hk
 | .dict _,_,_,_,_,_,_,hk,_,_,_=>by simp only [hkD] at hk; cases hk
theorem oQ:∀ (ds:List PyData) (d:PyData),d∈ds→∀ {A:Around} {E:Value→Shared→Prop} {s:Shared} {v:Value} {as:List Addr} {Q:Int→Shared→Prop},hkD d = true→Reads s.heap v d as→A.units + d.depth < cLine→Q (gv w d) { s with toks:=s.toks + ip d }→wpAny (model prog w) A (pyHash v) Q E s
 | x :: ds,d,hm=>by
  intro hk r hu h
  rcases List.mem_cons.mp hm with e | hm'
  ·rw [e] at hk r hu h; exact jS x hk r hu h
  ·exact oQ ds d hm' hk r hu h
end
mutual
theorem rj:∀ (a b:PyData),hkD a = true→hkD b = true→PyData.eqv a b = decide (a = b)
 | .int i,b,_,hb=>by
  cases b with
  | int j =>
   show decide (i = j) = _
   by_cases h:i = j
   ·subst h; rw [decide_eq_true rfl,decide_eq_true rfl]
   ·rw [decide_eq_false h,decide_eq_false (fun z=>h (by cases z; rfl))]
  | str _=>rw [decide_eq_false (fun z=>by cases z)]; rfl
  | tuple _=>rw [decide_eq_false (fun z=>by cases z)]; rfl
  | none=>simp only [hkD] at hb; cases hb
  | bool _=>simp only [hkD] at hb; cases hb
  | list _=>simp only [hkD] at hb; cases hb
  | dict _=>simp only [hkD] at hb; cases hb
 | .str i,b,_,hb=>by
  cases b with
  | str j =>
   show decide (i = j) = _
   by_cases h:i = j
   ·subst h; rw [decide_eq_true rfl,decide_eq_true rfl]
   ·rw [decide_eq_false h,decide_eq_false (fun z=>h (by cases z; rfl))]
  | int _=>rw [decide_eq_false (fun z=>by cases z)]; rfl
  | tuple _=>rw [decide_eq_false (fun z=>by cases z)]; rfl
  | none=>simp only [hkD] at hb; cases hb
  | bool _=>simp only [hkD] at hb; cases hb
  | list _=>simp only [hkD] at hb; cases hb
  | dict _=>simp only [hkD] at hb; cases hb
 | .tuple ds,b,ha,hb=>by
  cases b with
  | tuple es =>
   simp only [PyData.eqv]
   rw [sn ds es (by simpa only [hkD] using ha) (by simpa only [hkD] using hb)]
   by_cases h:ds = es
   ·subst h; rw [decide_eq_true rfl,decide_eq_true rfl]
   ·rw [decide_eq_false h,decide_eq_false (fun z=>h (by cases z; rfl))]
  | int _=>rw [decide_eq_false (fun z=>by cases z)]; rfl
  | str _=>rw [decide_eq_false (fun z=>by cases z)]; rfl
  | none=>simp only [hkD] at hb; cases hb
  | bool _=>simp only [hkD] at hb; cases hb
  | list _=>simp only [hkD] at hb; cases hb
  | dict _=>simp only [hkD] at hb; cases hb
 | .none,_,ha,_=>by simp only [hkD] at ha; cases ha
 | .bool _,_,ha,_=>by simp only [hkD] at ha; cases ha
 | .list _,_,ha,_=>by simp only [hkD] at ha; cases ha
 | .dict _,_,ha,_=>by simp only [hkD] at ha; cases ha
theorem sn:∀ (a b:List PyData),hkA a = true→hkA b = true→PyData.eqvAll a b = decide (a = b)
 | [],[],_,_=>by rw [decide_eq_true rfl]; rfl
 | [],_ :: _,_,_=>by rw [decide_eq_false (fun z=>by cases z)]; rfl
 | _ :: _,[],_,_=>by rw [decide_eq_false (fun z=>by cases z)]; rfl
 | x :: a,y :: b,ha,hb=>by
  simp only [hkA,Bool.and_eq_true] at ha hb
  simp only [PyData.eqvAll]
  rw [rj x y ha.1 hb.1,sn a b ha.2 hb.2]
  by_cases h1:x = y
  ·by_cases h2:a = b
   ·subst h1 h2; rw [decide_eq_true rfl,decide_eq_true rfl,decide_eq_true rfl]; rfl
   ·rw [decide_eq_false h2,Bool.and_false,decide_eq_false (fun z=>h2 (by cases z; rfl))]
  ·rw [decide_eq_false h1,Bool.false_and,decide_eq_false (fun z=>h1 (by cases z; rfl))]
end
mutual
theorem Reads.hkeep {h h':Heap} {d:Addr} {o:Obj} {es:Array DictEntry} {ep:Nat} (ho:h.get? d = some o) (hd:o.data = .dict es ep) (hs:Heap.SameBut d h h'):∀ (k:PyData) {v:Value} {as:List Addr},hkD k = true→Reads h v k as→Reads h' v k as
 | .int _,_,_,_,r=>by cases r; exact .int _ _
 | .str _,_,_,_,r=>by cases r; exact .str _ _
 | .tuple ds,_,_,hk,r=>by
  cases r with
  | @tuple a o' vs n _ _ h1 h2 h3 h4 =>
   have hne:a≠d:=by
    rintro rfl
    rw [ho] at h1; cases h1
    rw [hd] at h3; cases h3
   exact .tuple ((hs.2 a hne).trans h1) h2 h3 (ReadsAll.hkeep ho hd hs ds (by simpa only [hkD] using hk) h4)
 | .none,_,_,hk,_=>by simp only [hkD] at hk; cases hk
 | .bool _,_,_,hk,_=>by simp only [hkD] at hk; cases hk
 | .list _,_,_,hk,_=>by simp only [hkD] at hk; cases hk
 | .dict _,_,_,hk,_=>by simp only [hkD] at hk; cases hk
theorem ReadsAll.hkeep {h h':Heap} {d:Addr} {o:Obj} {es:Array DictEntry} {ep:Nat} (ho:h.get? d = some o) (hd:o.data = .dict es ep) (hs:Heap.SameBut d h h'):∀ (ks:List PyData) {vs:List Value} {as:List Addr},hkA ks = true→ReadsAll h vs ks as→ReadsAll h' vs ks as
 | [],_,_,_,r=>by cases r; exact .nil
 | k :: ks,_,_,hk,r=>by
  simp only [hkA,Bool.and_eq_true] at hk
  cases r with
  | cons r1 r2=>exact .cons (Reads.hkeep ho hd hs k hk.1 r1) (ReadsAll.hkeep ho hd hs ks hk.2 r2)
end
mutual
theorem ja:∀ (d:PyData) {A:Around} {E:Value→Shared→Prop} {s:Shared} {v:Value} {as:List Addr} {n:Nat} {Q:Bool→Shared→Prop},hkD d = true→Reads s.heap v d as→d.depth≤n→Q true s→wpAny (model prog w) A (eqIsQuiet n v) Q E s
 | .int _,_,_,_,_,_,_,_,_,r,_,h=>by cases r; rw [eqIsQuiet_byValue _ rfl]; exact wpAny_pure h
 | .str _,_,_,_,_,_,_,_,_,r,_,h=>by cases r; rw [eqIsQuiet_byValue _ rfl]; exact wpAny_pure h
 | .tuple ds,A,E,s,v,as,n,Q,hk,r,hn,h=>by
  cases r with
  | @tuple a o vs nn _ _ ho hc hd hr =>
   have hT:s.TypeIs (.ref a) "tuple" := ⟨o,ho,hc⟩
   have e:(PyData.tuple ds).depth = PyData.depthAll ds + 1:=rfl
   cases n with
   | zero=>omega
   | succ n =>
    unfold eqIsQuiet
    refine wpAny_bind (m:=specialOf _ _) (wpAny_specialOf hT F.slot_tuple_eq.lookup (wpAny_bind (m:=isInstance (.ref a) (.type "tuple")) (wpAny_isInstance hT isSubtype_tuple_tuple ?_)))
    simp only [if_false,Bool.false_eq_true,Bool.not_true]
    refine wpAny_bind (m:=seqItems? (.ref a)) (wpAny_seqItems ho hd ?_)
    refine wpAny_bind ?_
    show wpAny _ _ (forIn vs _ _) _ _ s
    rw [←Array.forIn_toList]
    refine wpAny_forIn_list _ (fun rest r s'=>r.1 = none∧s' = s∧∃ left bs,(∀ d∈left,d∈ds)∧ReadsAll s.heap rest left bs) _ ?_ ?_ _ _ ⟨rfl,rfl,ds,_,fun _ h=>h,hr⟩
    ·rintro x rest r s' ⟨hr',rfl,left,bs,hsub,hl⟩
     cases hl with
     | @cons _ _ d ds' as1 bs1 r1 r2 =>
      have hm:d∈ds:=hsub d List.mem_cons_self
      refine wpAny_bind (l9 ds d hm (ny (by simpa only [hkD] using hk) hm) r1 (by have:=iu hm; omega) ?_)
      simp only [if_false,Bool.false_eq_true,Bool.not_true]
      exact wpAny_pure ⟨rfl,rfl,ds',_,fun z hz=>hsub z (List.mem_cons_of_mem _ hz),r2⟩
    ·rintro ⟨r1,r2⟩ s' ⟨hr',rfl,_⟩
     simp only at hr'
     subst hr'
     exact wpAny_pure h
 | .none,_,_,_,_,_,_,_,hk,_,_,_=>by simp only [hkD] at hk; cases hk
 | .bool _,_,_,_,_,_,_,_,hk,_,_,_=>by simp only [hkD] at hk; cases hk
 | .list _,_,_,_,_,_,_,_,hk,_,_,_=>by simp only [hkD] at hk; cases hk
 | .dict _,_,_,_,_,_,_,_,hk,_,_,_=>by simp only [hkD] at hk; cases hk
theorem l9:∀ (ds:List PyData) (d:PyData),d∈ds→∀ {A:Around} {E:Value→Shared→Prop} {s:Shared} {v:Value} {as:List Addr} {n:Nat} {Q:Bool→Shared→Prop},hkD d = true→Reads s.heap v d as→d.depth≤n→Q true s→wpAny (model prog w) A (eqIsQuiet n v) Q E s
 | x :: ds,d,hm=>by
  intro hk r hu h
  rcases List.mem_cons.mp hm with e | hm'
  ·rw [e] at hk r hu; exact ja x hk r hu h
  ·exact l9 ds d hm' hk r hu h
end
theorem oo {d:PyData} (h:kyD d = true):hkD d = true:=by
 obtain ⟨ds,rfl,h1,_⟩:=ix h
 simpa only [hkD] using h1
noncomputable def nh (prog:Program) (w:World):HeapKind prog w PyData where
 is:=fun h d a=>(∃ as,Reads h (.ref a) d as)∧kyD d = true
 hash:=gv w
 draws:=ip
 room:=fun A=>A.units + 20 < cLine
 inj:=fun {h a x y} ⟨⟨as,r1⟩,k1⟩ ⟨⟨bs,r2⟩,k2⟩=>by
  obtain ⟨ds,rfl,_,hl,_⟩:=ix k1
  exact SeqAt.Reads.unique _ _ _ _ _ hl r1 r2
 keeps:=fun ⟨⟨as,r⟩,k⟩ ho hd hs=>⟨⟨as,Reads.hkeep ho hd hs _ (oo k) r⟩,k⟩
 pyHash:=fun {A E s k a Q} hu ⟨⟨as,r⟩,hk⟩ h=>by
  obtain ⟨ds,e,_,_,hd⟩:=ix hk
  exact jS k (oo hk) r (by omega) h
 eqBool:=fun {A E s x y a b Q} hu ⟨⟨as,r1⟩,k1⟩ ⟨⟨bs,r2⟩,k2⟩ h=>by
  obtain ⟨ds,e1,_,l1,d1⟩:=ix k1
  obtain ⟨es,e2,_,l2,d2⟩:=ix k2
  refine SeqAt.eqAt_reads x y A s _ _ _ _ r1 r2 l1 l2 (by omega) prog w E Q ?_
  rw [rj x y (oo k1) (oo k2)]
  exact h
 quiet:=fun {A E s k a Q} ⟨⟨as,r⟩,hk⟩ h=>by
  obtain ⟨ds,e,_,_,hd⟩:=ix hk
  exact ja k (oo hk) r (by omega) h
end
def dA (k:PyData):List (PyData×PyData)→Option PyData
 | []=>none
 | (k',d) :: r=>if PyData.eqv k' k = true then some d else dA k r
def putP (k d:PyData):List (PyData×PyData)→List (PyData×PyData)
 | []=>[(k,d)]
 | (k',d') :: r=>if PyData.eqv k' k = true then (k',d) :: r else (k',d') :: putP k d r
def kyA (kvs:List (PyData×PyData)):Bool:=kvs.all fun kv=>kyD kv.1
def kdD:PyData→Bool
 | .int _=>true
 | .str _=>true
 | _=>false
def oneK (kvs:List (PyData×PyData)) (k:PyData):Bool:=(isKd kvs && kdD k) || (kyA kvs && kyD k)
theorem dU (kvs:List (PyData×PyData)):isKd kvs = kvs.all fun kv=>kdD kv.1:=by
 unfold isKd
 congr 1
theorem za {k:PyData} (h:kdD k = true):∃ kk:Key,k = keyD kk:=by
 cases k with
 | int i=>exact ⟨.inl i,rfl⟩
 | str x=>exact ⟨.inr x,rfl⟩
 | _=>cases h
theorem zo (a b:Key):PyData.eqv (keyD a) (keyD b) = decide (a = b):=by
 cases a <;> cases b <;> simp [keyD,PyData.eqv,Bool.beq_eq_decide_eq]
def IsDc (K:Kd) (H:Hp) (a:Addr) (kvs:List (PyData×PyData)):Prop :=
 (∃ es,Rd H a (.dK es)∧DenKK K H kvs es)∨∃ es,Rd H a (dX a es)∧isKd kvs = false∧(kvs.map (·.1)).Nodup∧DenKV K H kvs es
section
variable {K:Kd} {H H':Hp}
theorem fzKV {τ : List (List Nat×Addr)} {p:List Nat}:∀ {kvs:List (PyData×PyData)} {i:Nat} {es:List (Int×V×V)},TAtD K H τ p i (lfKV kvs) es→DenKV K H kvs es
 | [],_,_,h=>by simpa only [lfKV,List.map_nil,TAtD,DenKV] using h
 | (k,d) :: r,i,es,h=>by
  simp only [lfKV,List.map_cons,TAtD] at h
  obtain ⟨u,v,vs,rfl,g0,g1,g2⟩:=h
  simp only [DenKV]
  exact ⟨u,v,vs,rfl,g0,gA g1 (sx d),fzKV g2⟩
theorem rG (kvs:List (PyData×PyData)):(lfKV kvs).map (·.1) = kvs.map (·.1):=by
 unfold lfKV; rw [List.map_map]; rfl
theorem nw (kvs:List (PyData×PyData)):isKd (lfKV kvs) = isKd kvs:=by
 unfold isKd lfKV
 rw [List.all_map]; rfl
theorem wX {kvs:List (PyData×PyData)} (h:isKd kvs = true∨kyA kvs = true):fzOf kvs = none∧excC kvs = none:=by
 cases kvs with
 | nil=>exact ⟨rfl,rfl⟩
 | cons x r =>
  obtain ⟨k,d⟩:=x
  cases k with
  | none =>
   rcases h with h | h
   ·simp [isKd] at h
   ·simp [kyA,kyD] at h
  | int _=>exact ⟨rfl,rfl⟩
  | str _=>exact ⟨rfl,rfl⟩
  | bool _=>exact ⟨rfl,rfl⟩
  | list _=>exact ⟨rfl,rfl⟩
  | tuple _=>exact ⟨rfl,rfl⟩
  | dict _=>exact ⟨rfl,rfl⟩
end
def dcM (m:MSt) (kvs:List (PyData×PyData)):R→Prop
 | .imm (.dict es)=>es = kvs
 | .at k p=>p = []∧m.os[k]? = some [.dict (lfKV kvs)]
 | _=>False
theorem RelR.dc {K:Kx} {α : Al} {m:MSt} {σ : St} {H0 H:Hp} {r:R} {v:V} {kvs:List (PyData×PyData)} (R:Rel K α m σ H) (h:RelR K α H0 H r v) (e:dcM m kvs r) (hk:isKd kvs = true∨kyA kvs = true):∃ a,v = .ref a∧IsDc K H a kvs:=by
 obtain ⟨n1,n2⟩:=wX hk
 cases r with
 | imm d =>
  cases d with
  | dict es =>
   have e':es = kvs:=e
   subst e'
   have h':Den K H (.dict es) v:=h
   simp only [Den] at h'
   obtain ⟨a,rfl,h'⟩:=h'
   refine ⟨a,rfl,?_⟩
   rcases h' with ⟨xs,⟨o,f⟩,kk,g⟩ | ⟨xs,o,f,g⟩ | ⟨c,xs,ec,_⟩
   ·exact .inr ⟨xs,.inr ⟨o,f⟩,kk.1,kk.2.1,g⟩
   ·exact .inl ⟨xs,.inr ⟨o,f⟩,g⟩
   ·rw [n2] at ec; cases ec
  | none=>exact e.elim
  | bool _=>exact e.elim
  | int _=>exact e.elim
  | str _=>exact e.elim
  | list _=>exact e.elim
  | tuple _=>exact e.elim
 | «at» k p =>
  obtain ⟨rfl,eo⟩:=e
  obtain ⟨τ,a,e1,e2,rfl⟩:=h
  obtain ⟨⟨t1,v0,z,g,a0,el,ev⟩,_⟩:=R.own k _ _ e1 eo
  cases z
  rw [e2] at el; cases el
  subst ev
  refine ⟨a,rfl,?_⟩
  have n3:fzOf (lfKV kvs) = none∧excC (lfKV kvs) = none:=wX (by
   rcases hk with hk | hk
   ·exact .inl (by rw [nw]; exact hk)
   ·refine .inr ?_
    unfold kyA lfKV at *
    rw [List.all_map]; exact hk)
  simp only [TAt] at g
  rcases g with ⟨d,e1,_⟩ | ⟨_,_,b,es,e1,e3,e4,kk,g⟩ | ⟨_,_,b,es,e1,e3,e4,g⟩ | ⟨c,b,dx,C,xs,e0,_⟩
  ·rw [n3.1] at e1; cases e1
  ·cases e3
   rw [e2] at e1
   exact .inr ⟨es,.inl e4,by rw [←nw]; exact kk.1,by rw [←rG]; exact kk.2.1,fzKV g⟩
  ·cases e3
   exact .inl ⟨es,.inl e4,fzKK g⟩
  ·rw [n3.2] at e0; cases e0
 | obj _=>exact e.elim
 | new _=>exact e.elim
 | newT _=>exact e.elim
section
variable {X:Cx} {pins:List (Addr×Obj)} {σ : St} {H:Hp} {s:Shared}
abbrev PxV (K:Kd) (H:Hp):List (PyData×PyData)→List (PyData×Addr×Value)→Prop:=Paired fun p q=>p.1 = q.1∧Den K H p.1 (.ref q.2.1)∧∃ v,Den K H p.2 v∧RelV v q.2.2
theorem PxV.keys {K:Kd} {H:Hp} {kvs:List (PyData×PyData)} {xs:List (PyData×Addr×Value)} (p:PxV K H kvs xs):xs.map (·.1) = kvs.map (·.1):=by
 induction p with
 | nil=>rfl
 | cons h t ih=>rw [List.map_cons,List.map_cons,ih,h.1]
theorem xl {K:Kd} {k:PyData} {u:V} (hk:kyD k = true) (h:Den K H k u):∃ b,u = .ref b:=by
 obtain ⟨ds,rfl,_⟩:=ix hk
 simp only [Den] at h
 obtain ⟨a,xs,e,_⟩:=h
 exact ⟨a,e⟩
theorem uc {k:PyData} (hk:kyD k = true):k.hasDict = false:=by
 obtain ⟨ds,rfl,_,hl,_⟩:=ix hk
 exact PyData.hasDict_of_canLay _ hl
theorem Inv.ky (I:Inv X pins σ H s) {k:PyData} {b:Addr} (hk:kyD k = true) (h:Den X.kd H k (.ref b)):(nh X.prog X.w).is s.heap k b:=⟨h.reads I (uc hk) (show RelV (.ref b) (.ref b) from rfl),hk⟩
abbrev ExV (w:World):List (Int×V×V)→List (PyData×Addr×Value)→Prop:=Paired fun e q=>e.1 = gv w q.1∧e.2.1 = .ref q.2.1∧RelV e.2.2 q.2.2
theorem Inv.dcE (I:Inv X pins σ H s) {a:Addr} {kvs:List (PyData×PyData)} {es:List (Int×V×V)} (rd:Rd H a (dX a es)) (g:DenKV X.kd H kvs es) (nd:(kvs.map (·.1)).Nodup) (hk:kyA kvs = true):(a == sysModules) = false∧es.length≤sizeLine∧∃ xs,s.heap.DictOfH (nh X.prog X.w) a xs∧PxV X.kd H kvs xs∧ExV X.w es xs:=by
 obtain ⟨⟨hs,hz,o,ents,ep,h1,h2,h3,h4⟩,_⟩:=(show ObjOk X.prog X.w H s.heap a (dX a es) from rd.ok I.hok)
 have key:∀ {kvs:List (PyData×PyData)} {es:List (Int×V×V)} {ents:List DictEntry},kyA kvs = true→DenKV X.kd H kvs es→Paired (fun (e:Int×V×V) (d:DictEntry)=>d.hash = e.1∧RelV e.2.1 d.key∧RelV e.2.2 d.val) es ents→∃ xs,ents = xs.map (entryOfKey (nh X.prog X.w))∧PxV X.kd H kvs xs∧ExV X.w es xs:=by
  intro kvs
  induction kvs with
  | nil =>
   intro es ents _ g p
   simp only [DenKV] at g
   subst g
   cases p
   exact ⟨[],rfl,.nil,.nil⟩
  | cons x r ih =>
   intro es ents hk g p
   obtain ⟨k,d⟩:=x
   rw [kyA,List.all_cons,Bool.and_eq_true] at hk
   simp only [DenKV] at g
   obtain ⟨u,v,vs,rfl,g0,g1,g2⟩:=g
   cases p with
   | cons p1 p2 =>
    rename_i en ents'
    obtain ⟨xs,e1,e2,e3⟩:=ih hk.2 g2 p2
    obtain ⟨b,rfl⟩:=xl hk.1 g0
    obtain ⟨p3,p4,p5⟩:=p1
    obtain ⟨eh,ek,ev⟩:=en
    cases (show ek = Value.ref b from p4)
    refine ⟨(k,b,ev) :: xs,?_,.cons ⟨rfl,g0,v,g1,p5⟩ e2,.cons ⟨rfl,rfl,p5⟩ e3⟩
    rw [List.map_cons,←e1]
    congr 1
    show DictEntry.mk eh (.ref b) ev = ⟨gv X.w k,.ref b,ev⟩
    rw [show eh = gv X.w k from p3]
 obtain ⟨xs,e1,e2,e3⟩:=key hk g h4
 refine ⟨hs,hz,xs,⟨o,ents,ep,h1,h2,h3,e1,fun x hx=>?_,by rw [e2.keys]; exact nd⟩,e2,e3⟩
 have all:∀ {kvs:List (PyData×PyData)} {xs:List (PyData×Addr×Value)},kyA kvs = true→PxV X.kd H kvs xs→∀ x∈xs,(nh X.prog X.w).is s.heap x.1 x.2.1:=by
  intro kvs xs hk p
  induction p with
  | nil=>intro x hx; cases hx
  | @cons q x0 qs xs0 h t ih =>
   rw [kyA,List.all_cons,Bool.and_eq_true] at hk
   intro x hx
   obtain rfl | hx:=List.mem_cons.mp hx
   ·rw [←h.1]; exact I.ky hk.1 h.2.1
   ·exact ih hk.2 x hx
 exact all hk e2 x hx
theorem Inv.dc0 (I:Inv X pins σ H s) {a:Addr} (rd:Rd H a (.dK [])):(a == sysModules) = false∧s.heap.DictOfH (nh X.prog X.w) a []:=by
 obtain ⟨_,hs,vs,kv,dd⟩:=qt I.hok rd
 cases kv
 obtain ⟨o,ents,ep,h1,h2,h3,h4⟩:=dd
 refine ⟨hs,o,ents,ep,h1,h2,h3,?_,⟨(fun x hx=>absurd hx (by simp)),List.nodup_nil⟩⟩
 have e0:ents.toList = []:=by
  obtain ⟨_,hp,_⟩:=h4
  exact List.eq_nil_of_length_eq_zero (by have:=hp.length; simpa using this)
 rw [e0]; rfl
theorem Gy {kvs:List (PyData×PyData)} {es:List (Key×V)} {K:Kd} (g:DenKK K H kvs es) (hk:kyA kvs = true):kvs = []∧es = []:=by
 cases kvs with
 | nil=>simp only [DenKK] at g; exact ⟨rfl,g⟩
 | cons x r =>
  obtain ⟨k,d⟩:=x
  simp only [DenKK] at g
  obtain ⟨kk,v,vs,_,⟨ek,_⟩,_⟩:=g
  rw [kyA,List.all_cons,Bool.and_eq_true] at hk
  have hk1:kyD k = true:=hk.1
  rw [ek] at hk1
  cases kk <;> cases hk1
theorem Inv.dcX (I:Inv X pins σ H s) {a:Addr} {kvs:List (PyData×PyData)} (h:IsDc X.kd H a kvs) (hk:kyA kvs = true):(a == sysModules) = false∧∃ xs,s.heap.DictOfH (nh X.prog X.w) a xs∧PxV X.kd H kvs xs:=by
 rcases h with ⟨es,rd,g⟩ | ⟨es,rd,_,nd,g⟩
 ·obtain ⟨rfl,rfl⟩:=Gy g hk
  obtain ⟨hs,dd⟩:=I.dc0 rd
  exact ⟨hs,[],dd,.nil⟩
 ·obtain ⟨hs,_,xs,dd,p,_⟩:=I.dcE rd g nd hk
  exact ⟨hs,xs,dd,p⟩
theorem PxV.val {K:Kd} {kvs:List (PyData×PyData)} {xs:List (PyData×Addr×Value)} {k:PyData} (hk:kyA kvs = true) (hkk:kyD k = true) (p:PxV K H kvs xs) :
  (dA k kvs = none∧atKey xs k = none)∨∃ d v q,dA k kvs = some d∧atKey xs k = some q∧Den K H d v∧RelV v q.2:=by
 induction p with
 | nil=>exact (.inl ⟨rfl,rfl⟩)
 | @cons x q xs0 qs h t ih =>
  rw [kyA,List.all_cons,Bool.and_eq_true] at hk
  obtain ⟨k',d⟩:=x
  obtain ⟨h1,h2,v,h3,h4⟩:=h
  have h1':k' = q.1:=h1
  have he:PyData.eqv k' k = decide (k' = k):=rj _ _ (oo hk.1) (oo hkk)
  unfold dA
  by_cases e:k' = k
  ·have b:atKey (q :: qs) k = some q.2:=by simp [atKey,List.find?_cons,←h1',e]
   rw [he,decide_eq_true e,if_pos rfl]
   exact .inr ⟨d,v,q.2,rfl,b,h3,h4⟩
  ·have b:atKey (q :: qs) k = atKey qs k:=by simp [atKey,List.find?_cons,←h1',e]
   rw [he,decide_eq_false e,if_neg (by decide),b]
   exact ih hk.2
theorem DenKK.val {K:Kd} {kvs:List (PyData×PyData)} {es:List (Key×V)} {kk:Key} (g:DenKK K H kvs es) :
  (dA (keyD kk) kvs = none∧valV es kk = none)∨∃ d v,dA (keyD kk) kvs = some d∧valV es kk = some v∧Den K H d v:=by
 induction kvs generalizing es with
 | nil=>simp only [DenKK] at g; subst g; exact .inl ⟨rfl,rfl⟩
 | cons x r ih =>
  obtain ⟨k,d⟩:=x
  simp only [DenKK] at g
  obtain ⟨k0,v,vs,rfl,⟨rfl,_⟩,g1,g2⟩:=g
  unfold dA
  rw [zo]
  by_cases e:k0 = kk
  ·rw [decide_eq_true e,if_pos rfl]
   exact .inr ⟨d,v,rfl,cV (p:=(k0,v)) e,g1⟩
  ·rw [decide_eq_false e,if_neg (by decide),cU (p:=(k0,v)) e]
   exact ih g2
theorem uf {kvs:List (PyData×PyData)} {k:PyData} (h:oneK kvs k = true):(isKd kvs = true∧kdD k = true)∨(kyA kvs = true∧kyD k = true):=by
 unfold oneK at h
 rw [Bool.or_eq_true,Bool.and_eq_true,Bool.and_eq_true] at h
 exact h
theorem Inv.dcT (I:Inv X pins σ H s) {a:Addr} {kvs:List (PyData×PyData)} (h:IsDc X.kd H a kvs):s.TypeIs (.ref a) "dict" ∧ ∀ b,Value.ref a = .ref b→∃ ob,s.heap.get? b = some ob∧ob.dict = none:=by
 rcases h with ⟨es,rd,g⟩ | ⟨es,rd,_,nd,g⟩
 ·obtain ⟨_,hs,vs,kv,o,_,_,h1,h2,_⟩:=qt I.hok rd
  exact ⟨⟨o,h1,h2.1⟩,fun b e=>by cases e; exact ⟨o,h1,h2.2.1⟩⟩
 ·obtain ⟨⟨hs,hz,o,ents,ep,h1,h2,h3,h4⟩,_⟩:=(show ObjOk X.prog X.w H s.heap a (dX a es) from rd.ok I.hok)
  exact ⟨⟨o,h1,h2.1⟩,fun b e=>by cases e; exact ⟨o,h1,h2.2.1⟩⟩
theorem sk {K:Kd} {kk:Key} {y:V} (h:Den K H (keyD kk) y):y = kV kk:=by
 cases kk with
 | inl i=>exact aH h
 | inr x=>exact bm h
section
variable {a:Addr} {kvs:List (PyData×PyData)} {k:PyData} {y z:V} {u dflt:Value} {A:Around} {E:Value→Shared→Prop}
theorem xU {Q:Value→Shared→Prop} (hu:A.units + 64 < cLine) (I:Inv X pins σ H s) (h:IsDc X.kd H a kvs) (ok:oneK kvs k = true) (hk:Den X.kd H k y) (ry:RelV y u) (rz:RelV z dflt)
  (fin:∀ v w' s',Inv X pins σ H s'→RelV v w'→((∃ d,dA k kvs = some d∧Den X.kd H d v)∨(dA k kvs = none∧v = z))→Q w' s'):wpAny (model X.prog X.w) A (call (.builtin "dict.get") [.ref a,u,dflt]) Q E s:=by
 have hT:=(I.dcT h).1
 rcases uf ok with ⟨o1,o2⟩ | ⟨o1,o2⟩
 ·obtain ⟨kk,rfl⟩:=za o2
  have ey:=sk hk
  subst ey
  rcases h with ⟨es,rd,g⟩ | ⟨es,rd,kd,nd,g⟩
  ·obtain ⟨z0,hd,vs,rel,dd⟩:=qt I.hok rd
   refine call_meetsIn PySem.F.slot_dict_get hT PySem.F.entry_dict_get (PySem.F.args_dict_get_3 _ _ _) (meets_dict_get_default (bR X.prog X.w) a (qX ry) hd dflt) ⟨_,dd.mapOf,?_⟩
   have rv:=rel.val kk
   rcases g.val (kk:=kk) with ⟨e1,e2⟩ | ⟨d,v,e1,e2,e3⟩
   ·rw [e2] at rv
    have e4:valueAt vs kk = none:=RelO.none_of rv
    show Q ((valueAt vs kk).getD dflt) _
    rw [e4]
    exact fin z dflt _ (I.tok _) rz (.inr ⟨e1,rfl⟩)
   ·rw [e2] at rv
    obtain ⟨w',e4,e5⟩:=RelO.some_of rv
    show Q ((valueAt vs kk).getD dflt) _
    rw [e4]
    exact fin v w' _ (I.tok _) e5 (.inl ⟨d,e1,e3⟩)
  ·rw [o1] at kd; cases kd
 ·obtain ⟨hs,xs,dd,p⟩:=I.dcX h o1
  obtain ⟨b,rfl⟩:=xl o2 hk
  cases (show u = Value.ref b from ry)
  refine call_meetsIn PySem.F.slot_dict_get hT PySem.F.entry_dict_get (PySem.F.args_dict_get_3 _ _ _) (meetsH_dict_get_default (nh X.prog X.w) a b hs dflt) ⟨(by show A.units + 1 + 20 < cLine; omega),k,xs,I.ky o2 hk,dd,?_⟩
  rcases p.val o1 o2 with ⟨e1,e2⟩ | ⟨d,v,q,e1,e2,e3,e4⟩
  ·rw [e2]
   exact fin z dflt _ (I.tok _) rz (.inr ⟨e1,rfl⟩)
  ·rw [e2]
   exact fin v q.2 _ (I.tok _) e4 (.inl ⟨d,e1,e3⟩)
end
end
section
variable {X:Cx} {a:Expr} {wa:WE} {pos:Pos}
def zW:WE:=fun m K=>K (.newT (.dict [])) m
theorem yd:ME X (.Dict [] [] pos) zW:=pe_dnewK.wk fun σ H Q ⟨α,m,Kc,Rl,hw,fin⟩=>by
 intro p hp
 refine fin _ m _ _ hw rfl (Rl.lay hp) ⟨[([],p)],p,rfl,rfl,by simp,fun b hb=>by simp at hb; subst hb; exact hp,⟨⟨_,.ref p,rfl,?_,p,rfl,rfl⟩,fun b hb=>by simp at hb; subst hb; exact ⟨_,aA,rfl⟩⟩⟩ (b9 hp)
 simp only [TAt]
 refine .inr (.inr (.inl ⟨rfl,rfl,p,[],rfl,rfl,aA,?_⟩))
 simp only [TAtK]
theorem vp:EE X (.Dict [] [] pos) zW:=⟨yd⟩
end
section
variable {m:MSt} {K:R→MSt→Prop} {w:WE} {P:PyData→Prop}
theorem BQ (h:K (.newT (.dict [])) m):zW m K:=h
end
section
variable {K:Kd} {H:Hp} {τ : List (List Nat×Addr)} {p:List Nat}
theorem h9:∀ {ds:List PyData} {i:Nat} {xs:List V},DenAll K H ds xs→TAtL K H τ p i (ds.map lfD) xs
 | [],_,_,h=>by simpa only [List.map_nil,TAtL,DenAll] using h
 | d :: ds,i,_,h=>by
  simp only [DenAll] at h
  obtain ⟨v,vs,rfl,h1,h2⟩:=h
  simp only [List.map_cons,TAtL]
  exact ⟨v,vs,rfl,m5 h1,h9 h2⟩
end
section
variable {K:Kx} {α : Al} {m:MSt} {σ : St} {H:Hp} {k:Nat} {p:List Nat} {τ : List (List Nat×Addr)} {a:Addr} {t:PyData} {ts ds:List PyData}
theorem Rel.listN (Rl:Rel K α m σ H) (e1 : α[k]? = some (.T τ)) (e2 : τ.lookup p = some a) (e3:m.os[k]? = some [t]) (e4:getT t p = some (.list ts)):∃ xs,H a = some (.lst xs)∧TAtL K H τ p 0 ts xs:=by
 obtain ⟨⟨t1,v0,z,g,_⟩,_⟩:=Rl.own k (.T τ) _ e1 e3
 cases z
 obtain ⟨v',g'⟩:=g.get e4
 rw [List.nil_append] at g'
 simp only [TAt] at g'
 obtain ⟨a',xs,ea,_,ed,gk⟩:=g'
 rw [e2] at ea; cases ea
 exact ⟨xs,ed,gk⟩
theorem Rel.setLs {xs xs':List V} {ds':List PyData} (Rl:Rel K α m σ H) (e1 : α[k]? = some (.T τ)) (e2 : τ.lookup p = some a) (e3:m.os[k]? = some [t]) (e4:getT t p = some (.list ts)) (ok:okW t p = true) (hx:H a = some (.lst xs)) (g':DenAll K H ds' xs') :
  Rel K α { m with os:=m.os.set k [setT t p (.list (ds'.map lfD))] } σ (upd H a (.lst xs'))∧Frm α H (upd H a (.lst xs')):=by
 obtain ⟨⟨t1,v0,z,g,a0,ea0,ev0⟩,mu⟩:=Rl.own k (.T τ) _ e1 e3
 cases z
 have pe:Pers H (upd H a (.lst xs')):=bh (.inr ⟨_,hx,rfl⟩)
 have nd:(τ.map (·.2)).Nodup:=((fo α).mp Rl.nd).1 (.T τ) (List.mem_of_getElem? e1)
 have new:TAt K (upd H a (.lst xs')) τ p (.list (ds'.map lfD)) (.ref a):=by
  simp only [TAt]
  exact ⟨a,xs',e2,rfl,aA,h9 (g'.mono pe)⟩
 have all:TAt K (upd H a (.lst xs')) τ [] (setT t p (.list (ds'.map lfD))) v0:=TAt.set nd pe g e4 ok (by rw [List.nil_append]; exact e2) (by rw [List.nil_append]; exact new) fun u hu'=>by
  rw [List.nil_append] at hu'
  simp only [TAt] at hu'
  obtain ⟨a',_,ea',eu,_⟩:=hu'
  rw [e2] at ea'; cases ea'
  exact eu
 exact Rl.setW e1 pe (ds':=[setT t p (.list (ds'.map lfD))]) (fun b hb=>au fun eb=>hb (eb▸bq e2)) ⟨⟨_,v0,rfl,all,a0,ea0,ev0⟩,fun b hb=>by
  by_cases eb:b = a
  ·subst eb; exact ⟨_,aA,rfl⟩
  ·rw [au eb]; exact mu b hb⟩
end
section
variable {X:Cx} {o e:Expr} {wo:WE} {apos cpos:Pos}
def y7 (m:MSt) (k:Nat) (p:List Nat) (P:List PyData→(List PyData→MSt)→Prop):Prop:=∃ t ts ds,m.os[k]? = some [t]∧getT t p = some (.list ts)∧cA ts = some ds∧okW t p = true∧P ds fun ds'=>{ m with os:=m.os.set k [setT t p (.list (ds'.map lfD))] }
def kA:WM:=fun r rs m K=>onAt (fun k p=>on1 (f7 fun d=>y7 m k p fun ds f=>ds.length < sizeLine∧K (.imm .none) (f (ds++[d]))) rs) r
theorem qu:MtM X "list.append" (mM X.kx kA):=by
 rintro pins s σ' H x xs v us Q I rx rv ⟨α,m,σ,H0,H1,r,rs,Kc,Rl,h1,h2,ho,fin⟩
 obtain ⟨k,p,τ,a,rfl,e1,e2,rfl,ho⟩:=kq h1 ho
 obtain ⟨r2,v2,rfl,rfl,h2,ho⟩:=cv h2 ho
 obtain ⟨d,rfl,hd,t,ts,ds,e3,e4,e5,ok,hz,ho⟩:=io h2 ho
 obtain ⟨ys,q,g0⟩:=Rl.listN e1 e2 e3 e4
 have g:=dw g0 e5
 obtain ⟨R2,F2⟩:=Rl.setLs e1 e2 e3 e4 ok q (g.append (DenAll.cons hd DenAll.nil))
 exact jk pins s σ' H _ _ v us Q I rx rv ⟨a,ys,_,rfl,rfl,q,by rw [←g.length]; exact hz,fin _ _ _ _ ho rfl R2 ow F2⟩
def m8:WM:=fun r rs m K=>onAt (fun k p=>on1 (h7 fun i=>y7 m k p fun ds f=>∃ j d,(-(2 ^ 63)≤i∧i < 2 ^ 63)∧seqIndex? i ds.length = some j∧ds[j]? = some d∧K (.imm d) (f (ds.eraseIdx j))) rs) r
theorem uo:MtM X "list.pop" (mM X.kx m8):=by
 rintro pins s σ' H x xs v us Q I rx rv ⟨α,m,σ,H0,H1,r,rs,Kc,Rl,h1,h2,ho,fin⟩
 obtain ⟨k,p,τ,a,rfl,e1,e2,rfl,ho⟩:=kq h1 ho
 obtain ⟨r2,v2,rfl,rfl,h2,ho⟩:=cv h2 ho
 obtain ⟨i,rfl,rfl,t,ts,ds,e3,e4,e5,ok,j,d,⟨b1,b2⟩,e6,e7,ho⟩:=jf h2 ho
 obtain ⟨ys,q,g0⟩:=Rl.listN e1 e2 e3 e4
 have g:=dw g0 e5
 obtain ⟨R2,F2⟩:=Rl.setLs e1 e2 e3 e4 ok q (g.eraseIdx j)
 obtain ⟨w,z1,z2⟩:=g.get e7
 exact ot pins s σ' H _ _ v us Q I rx rv ⟨a,ys,i,j,w,rfl,rfl,q,b1,b2,by rw [←g.length]; exact e6,z1,fin _ _ _ _ ho rfl R2 (ib (z2.mono (Rl.pers F2))) F2⟩
def yY:WM:=fun r rs m K=>onAt (fun k p=>rs = []∧y7 m k p fun ds f=>∃ d,ds[ds.length - 1]? = some d∧K (.imm d) (f ds.dropLast)) r
theorem DenAll.dropLast {K:Kd} {H:Hp} {ds:List PyData} {xs:List V} (g:DenAll K H ds xs):DenAll K H ds.dropLast xs.dropLast:=by
 rw [List.dropLast_eq_take,List.dropLast_eq_take,←g.length]
 exact g.take _
theorem xN:MtM X "list.pop" (mM X.kx yY):=by
 rintro pins s σ' H x xs v us Q I rx rv ⟨α,m,σ,H0,H1,r,rs,Kc,Rl,h1,h2,ho,fin⟩
 obtain ⟨k,p,τ,a,rfl,e1,e2,rfl,rfl,t,ts,ds,e3,e4,e5,ok,d,e7,ho⟩:=kq h1 ho
 cases h2
 obtain ⟨ys,q,g0⟩:=Rl.listN e1 e2 e3 e4
 have g:=dw g0 e5
 obtain ⟨R2,F2⟩:=Rl.setLs e1 e2 e3 e4 ok q g.dropLast
 obtain ⟨w,z1,z2⟩:=g.get e7
 exact CW pins s σ' H _ _ v us Q I rx rv ⟨a,ys,w,rfl,rfl,q,by rw [←g.length]; exact z1,fin _ _ _ _ ho rfl R2 (ib (z2.mono (Rl.pers F2))) F2⟩
def wML0 (ob:WM) (wo:WE):WE:=fun m K=>wo m fun r m1=>(∃ ds,lsOf m1 r = some ds)∧ob r [] m1 K
theorem Br {name:Str} {id:String} {ob:WM} (slot:Slot "list" name id) (hty:typeOf (.builtin id) = pure (.type "method_descriptor")) (hm:MtM X id (mM X.kx ob)) (ho:ME X o wo)
  (hbase:attributeBase o name X.env (eval o X.env) = eval o X.env:=by rfl) (hline:(apos.endLine == cpos.line) = true:=by rfl):ME X (.Call (.Attribute o name apos) [] [] cpos) (wML0 ob wo) :=
 (Dm PySem.F.plainAttrs_list slot hty hm ho hbase hline).wk fun σ H Q ⟨α,m,Kc,Rl,hw,fin⟩=>by
 refine ⟨α,m,_,Rl,hw,fun r m1 v H1 k n1 Rl1 rr F1=>?_⟩
 obtain ⟨⟨ds,el⟩,k⟩:=k
 obtain ⟨a,xs,rfl,f,g⟩:=rr.list Rl1 el
 exact ⟨.inl ⟨rfl,xs,f⟩,α,m1,σ,H,H1,r,[],Kc,Rl1,rr,.nil,k,fun r m' v H' k n Rl' rr' F=>fin r m' v H' k (n.trans n1) Rl' (rr'.base Rl1 F1) (F1.trans F)⟩
def ph:WO:=fun r1 r2 m K=>onAt (fun k p=>h7 (fun i=>∃ t ts j t',m.os[k]? = some [t]∧getT t p = some (.list ts)∧ixN ts.length i = some j∧ts[j]? = some t'∧K (dy k p j t')) r2) r1
theorem TAtL.get' {K:Kd} {H:Hp} {τ : List (List Nat×Addr)} {p:List Nat}:∀ {ts:List PyData} {i j:Nat} {xs:List V} {t:PyData},TAtL K H τ p i ts xs→ts[j]? = some t→∃ v,xs[j]? = some v∧TAt K H τ (p++[i + j]) t v
 | [],_,_,_,_,_,e=>by simp at e
 | t :: ts,i,0,_,_,h,e=>by
  simp only [TAtL] at h
  obtain ⟨v,vs,rfl,h1,_⟩:=h
  simp at e
  subst e
  exact ⟨v,rfl,h1⟩
 | t :: ts,i,j + 1,_,_,h,e=>by
  simp only [TAtL] at h
  obtain ⟨v,vs,rfl,_,h2⟩:=h
  obtain ⟨w,z1,z2⟩:=TAtL.get' h2 (j:=j) (by simpa using e)
  exact ⟨w,by simpa using z1,by rw [show i + (j + 1) = i + 1 + j by omega]; exact z2⟩
theorem TAtL.len {K:Kd} {H:Hp} {τ : List (List Nat×Addr)} {p:List Nat}:∀ {ts:List PyData} {i:Nat} {xs:List V},TAtL K H τ p i ts xs→ts.length = xs.length
 | [],_,_,h=>by simp only [TAtL] at h; subst h; rfl
 | t :: ts,i,_,h=>by
  simp only [TAtL] at h
  obtain ⟨v,vs,rfl,_,h2⟩:=h
  simp [TAtL.len h2]
theorem uZ:IxR X (rM X.kx ph):=by
 rintro value slice pins s σ' H x y v u Q I rx ry ⟨α,m,σ,H0,H1,r1,r2,Kc,Rl,h1,h2,ho,fin⟩ hsub
 obtain ⟨k,p,τ,a,rfl,e1,e2,rfl,ho⟩:=kq h1 ho
 obtain ⟨i,rfl,rfl,t,ts,j,t',e3,e4,e5,e6,ho⟩:=jf h2 ho
 obtain ⟨ys,q,g⟩:=Rl.listN e1 e2 e3 e4
 obtain ⟨w,z1,z2⟩:=g.get' e6
 rw [Nat.zero_add] at z2
 refine tu value slice pins s σ' H _ _ v u Q I rx ry ⟨a,ys,i,w,rfl,rfl,SqL.of q,?_,fin _ _ H ho Rl (ie Rl e1 z2) (Frm.refl _ _)⟩ hsub
 unfold atI
 rw [←g.len,e5]
 exact z1
theorem BC {a b:Expr} {wa wb:WE} {pos:Pos} (ha:ME X a wa) (hb:ME X b wb) (hs:jC b:=by intro _ _; rfl):ME X (.Subscript a b pos) (wBin ph wa wb):=(DA uZ ha hb hs).wk fun _ _ _ h=>lQ h
end
structure SrcN where
 k:Nat
 p:List Nat
 t:PyData
 ts:List PyData
def tU (K:Kd) (α : Al) (s:SrcN) (J:It):Prop:=getT s.t s.p = some (.list s.ts)∧∃ τ a,α[s.k]? = some (.T τ)∧τ.lookup s.p = some a∧J = Itl K.K a
def SrcN.np (s:SrcN) (m:MSt):Nat:=max m.np (s.k + 1)
def SrcN.ok (s:SrcN) (m:MSt):Prop:=m.os[s.k]? = some [s.t]
def iw (s:SrcN) (i0:Nat) (w:WS):WS:=fun D m1=>∃ P:Nat→MSt→Prop,P 0 (m1.setN (s.np m1)) ∧
 (∀ (i:Nat) (t:PyData) (m:MSt),s.ts[i]? = some t→m.np = s.np m1→P i m→s.ok m∧w { nx:=P (i + 1),ct:=P (i + 1),bk:=fun m'=>D.nx (m'.setN m1.np),rt:=fun r m'=>D.rt r (m'.setN m1.np) } (m.setV i0 (dy s.k s.p i t))) ∧
 ∀ m,m.np = s.np m1→P s.ts.length m→s.ok m∧D.nx (m.setN m1.np)
theorem qQ {K:Kx} {α : Al} {m:MSt} {σ : St} {H:Hp} {v:V} (Rl:Rel K α m σ H) {k:Nat} {p:List Nat} {j:Nat} {τ : List (List Nat×Addr)} {t:PyData} (e1 : α[k]? = some (.T τ)) (h:TAt K H τ (p++[j]) t v):RelS K α H (dy k p j t) v:=by
 have:=ie (Hb:=H) Rl e1 h
 unfold dy at this ⊢
 cases e:iA t with
 | some d=>rw [e] at this; exact this
 | none=>rw [e] at this; exact this
theorem pz {K:Kx} {s:SrcN} {i0:Nat} {w:WS} {J:It} {α : Al} {m1:MSt} {σ : St} {H:Hp} {De:d9} {D:Ends} (Rl:Rel K α m1 σ H) (hJ:tU K α s J) (h:iw s i0 w De m1) (k:EndsOk K m1.np α H De D) {tb:TS}
  (hb:∀ α' m' σ' H' De' D',α'.take (s.np m1) = α.take (s.np m1)→m'.np = s.np m1→Rel K α' m' σ' H'→w De' m'→EndsOk K m'.np α' H' De' D'→tb D' σ' H'):mZ J (gQ i0) tb D σ H:=by
 obtain ⟨P,p0,turn,fin⟩:=h
 obtain ⟨et,τ,a,ea,el,rfl⟩:=hJ
 have npk:s.np m1≤α.length:=by
  have:=(List.getElem?_eq_some_iff.mp ea).1
  have:=Rl.npl
  show max m1.np (s.k + 1)≤α.length
  omega
 have nple:m1.np≤s.np m1:=Nat.le_max_left _ _
 have hC:∀ α' m' σ' H',Rel K α' m' σ' H'→Ext (s.np m1) α H α' H'→s.ok m'→α'[s.k]? = some (.T τ)∧∃ xs,H' a = some (.lst xs)∧TAtL K H' τ s.p 0 s.ts xs:=fun α' m' σ' H' R' x ok=>by
  have hj:s.k < s.np m1:=by show s.k < max _ _; omega
  have ea' : α'[s.k]? = some (.T τ):=by
   have:=congrArg (fun l=>l[s.k]?) x.pre
   simp only [List.getElem?_take,if_pos hj] at this
   rw [this]; exact ea
  exact ⟨ea',R'.listN ea' el ok et⟩
 have back:∀ {α':Al} {m':MSt} {σ':St} {H':Hp},Rel K α' m' σ' H'→m'.np = s.np m1→Ext (s.np m1) α H α' H'→Rel K α' (m'.setN m1.np) σ' H':=fun R' n x=>R'.setN (by
  have:=R'.npl
  rw [n] at this; omega) Rl.ebl
 refine ⟨fun i n σ' H'=>n = s.ts.length - i∧i≤s.ts.length∧∃ α' m',P i m'∧m'.np = s.np m1∧Rel K α' m' σ' H'∧Ext (s.np m1) α H α' H',⟨s.ts.length,by simp,Nat.zero_le _,α,_,p0,rfl,Rl.setN npk (Nat.le_trans Rl.ebl nple),.of Rl (Frm.refl _ _)⟩,?_⟩
 rintro i n σ' H' ⟨rfl,hi,α',m',p,hn,R',x⟩
 by_cases hlt:i < s.ts.length
 ·have hd:s.ts[i]? = some s.ts[i]:=List.getElem?_eq_getElem hlt
  obtain ⟨ok,hg⟩:=turn i _ m' hd hn p
  obtain ⟨ea',xs,hx,gx⟩:=hC α' m' σ' H' R' x ok
  obtain ⟨x0,z1,z2⟩:=gx.get' hd
  rw [Nat.zero_add] at z2
  refine .inr ⟨⟨xs,x0,SqL.of hx,z1⟩,fun σ2 H2=>∃ α2 m2,P (i + 1) m2∧m2.np = s.np m1∧Rel K α2 m2 σ2 H2∧Ext (s.np m1) α H α2 H2,fun σ2 H2 h2=>⟨s.ts.length - (i + 1),by omega,rfl,hlt,h2⟩,fun v H2 y=>?_⟩
  obtain ⟨rfl,y⟩:=y
  have ev:x0 = v:=by
   have:=y xs (SqL.of hx)
   rw [z1] at this
   exact Option.some.inj this
  subst ev
  have R3:Rel K α' (m'.setV i0 (dy s.k s.p i s.ts[i])) (σ'.set i0 (some x0)) H2:=bX R' (qQ R' ea' z2)
  have x2:Ext (s.np m1) α H α' H2:=x
  generalize hm3:m'.setV i0 (dy s.k s.p i s.ts[i]) = m3 at R3 hg
  have n3:m3.np = m'.np:=by rw [←hm3]; rfl
  refine hb α' m3 _ H2 _ _ x2.pre (n3.trans hn) R3 hg ?_
  have n3':m3.np = s.np m1:=n3.trans hn
  have x3:Ext m3.np α H α' H2:=by rw [n3']; exact x2
  refine ⟨fun α4 m4 σ4 H4 q4 n4 R4 x4=>⟨α4,m4,q4,n4.trans n3',R4,?_⟩,fun r α4 m4 σ4 v4 H4 q4 n4 R4 rr x4=>?_,fun α4 m4 σ4 H4 q4 n4 R4 x4=>?_,fun α4 m4 σ4 H4 q4 n4 R4 x4=>⟨α4,m4,q4,n4.trans n3',R4,?_⟩⟩
  ·rw [←n3']; exact x3.trans x4
  ·have x5:Ext (s.np m1) α H α4 H4:=by rw [←n3']; exact x3.trans x4
   exact k.rt r α4 (m4.setN m1.np) σ4 v4 H4 q4 rfl (back R4 (n4.trans n3') x5) (rr.ext x3) (x5.less nple)
  ·have x5:Ext (s.np m1) α H α4 H4:=by rw [←n3']; exact x3.trans x4
   exact k.nx α4 (m4.setN m1.np) σ4 H4 q4 rfl (back R4 (n4.trans n3') x5) (x5.less nple)
  ·rw [←n3']; exact x3.trans x4
 ·have e:i = s.ts.length:=by omega
  subst e
  obtain ⟨ok,q⟩:=fin m' hn p
  obtain ⟨_,xs,hx,gx⟩:=hC α' m' σ' H' R' x ok
  have stop:(Itl K.toKd.K a).stop s.ts.length H':=⟨xs,SqL.of hx,by rw [gx.len]; exact Nat.le_refl _⟩
  exact .inl ⟨stop,k.nx α' (m'.setN m1.np) σ' H' q rfl (back R' hn x) (x.less nple)⟩
section
variable {K:Kx}
theorem oN {own:List Str} {ps:List Nat} {s:SrcN} {i0:Nat} {w:WS} {J:It} {α : Al} {m m1:MSt} {σ : St} {H H1:Hp} {l:Addr} {Kc:R→MSt→Prop} {Q:VK} {tb:TS} (Rl:Rel K α m σ H) (n1:m1.np = m.np) (Rl1:Rel K α m1 σ H1) (F1:Frm α H H1) (hJ:tU K α s J) (hl:H1 l = none)
  (h:iw s i0 w { nx:=fun m'=>Kc (.new (m'.os.getD m1.os.length [])) { m1 with os:=m'.os.take m1.os.length },rt:=fun _ _=>False } (dI own ps m1))
  (fin:∀ r m' v H',Kc r m'→m'.np = m.np→Rel K α m' σ H'→RelR K α H H' r v→Frm α H H'→Q v H')
  (hb:∀ α' m' σ' H' De' D',α'[m1.os.length]? = some (.L l)→m1.os.length < m'.np→Rel K α' m' σ' H'→w De' m'→EndsOk K m'.np α' H' De' D'→tb D' σ' H') :
  mZ J (gQ i0) tb { nx:=fun _ H'=>Q (.ref l) H',rt:=fun _ _=>False } (dl own ps σ) (upd H1 l (.lst [])):=by
 have pα : l∉ads α:=Rl1.out hl
 have pe:Pers H1 (upd H1 l (.lst [])):=bh (.inl hl)
 have hlen : α.length = m1.os.length:=Rl1.len
 have at0:(α++[.L l])[m1.os.length]? = some (.L l):=by rw [List.getElem?_append_right (by omega),←hlen]; simp
 have Rl1':Rel K α m1 σ (upd H1 l (.lst [])):=Rl1.lay hl
 obtain ⟨Rm,extm⟩:=iJ (ao:=.L l) (ds:=[]) Rl1' ⟨m1,σ,Rl1⟩ (b9 hl) (by simp [Ao.ads]) (fun b hb=>by cases List.mem_singleton.mp hb; exact hl) ⟨[],aA,DenAll.nil⟩
 have R0:Rel K (α++[.L l]) (dI own ps m1) (dl own ps σ) (upd H1 l (.lst [])):=by
  refine ⟨Rm.nd,by simp [dI,hlen],Rm.own,by simp [dl,dI,kU],fun i r z=>?_,by simp [dI,hlen],by have:=Rl1.ebl; have:=Rl1.npl; show K.eb.np≤m1.os.length + 1; omega,Rm.ebx⟩
  have z':(kU own ps m1.vs)[i]? = some (some r):=z
  unfold kU at z'
  by_cases hi:i < own.length
  ·rw [List.getElem?_append_left (by simpa using hi),List.getElem?_map] at z'
   cases q:own[i]? with
   | none=>rw [q] at z'; cases z'
   | some y=>rw [q] at z'; cases z'
  ·rw [List.getElem?_append_right (by simpa using hi),List.length_map,List.getElem?_map] at z'
   cases q:ps[i - own.length]? with
   | none=>rw [q] at z'; cases z'
   | some p =>
    rw [q] at z'
    have z2:(m1.vs[p]?).join = some r:=Option.some.inj z'
    have hv:m1.vs[p]? = some (some r):=by
     cases y:m1.vs[p]? with
     | none=>rw [y] at z2; cases z2
     | some y'=>rw [y] at z2; cases y' with
      | none=>cases z2
      | some y'=>cases z2; rfl
    obtain ⟨v,ev,rv⟩:=Rm.var p r hv
    refine ⟨v,?_,rv⟩
    unfold dl
    rw [List.getElem?_append_right (by simpa using hi),List.length_map,List.getElem?_map,q]
    show some ((σ[p]?).join) = some (some v)
    rw [ev]; rfl
 have hJ':tU K (α++[.L l]) s J:=by
  obtain ⟨et,τ,a,ea,el,rfl⟩:=hJ
  exact ⟨et,τ,a,by rw [List.getElem?_append_left (List.getElem?_eq_some_iff.mp ea).1]; exact ea,el,rfl⟩
 have npq:m1.os.length < s.np (dI own ps m1):=Nat.lt_of_lt_of_le (Nat.lt_succ_self _) (Nat.le_max_left _ _)
 refine pz R0 hJ' h ⟨fun α' m' σ' H' q n R' x=>?_,fun _ _ _ _ _ _ z=>z.elim,fun _ _ _ _ z=>z.elim,fun _ _ _ _ z=>z.elim⟩ fun α' m' σ' H' De' D' hp hnp R' h' k'=>hb α' m' σ' H' De' D' ?_ (by rw [hnp]; exact npq) R' h' k'
 ·
  have n':m'.np = m1.os.length + 1:=n
  have x':Ext (m1.os.length + 1) (α++[.L l]) (upd H1 l (.lst [])) α' H':=x
  have F':Frm α H1 H':=fun b o e nb=>by
   have hbl:b≠l:=aK e hl
   refine x'.frm b o (by rw [au hbl]; exact e) fun z=>?_
   rw [fC] at z
   rcases List.mem_append.mp z with z | z
   ·exact nb z
   ·exact hbl (by simpa [ads,Ao.ads] using z)
  have pe':Pers H1 H':=Rl1.pers F'
  have same:∀ k,k < m1.os.length + 1→α'[k]? = (α++[.L l])[k]?:=fun k hk=>by
   have:=congrArg (fun z=>z[k]?) x'.pre
   simp only [List.getElem?_take,if_pos hk] at this
   exact this
  have hlen':m1.os.length + 1≤m'.os.length:=by
   have:=R'.npl
   rw [n',R'.len] at this
   exact this
  have hq:m1.os.length < m'.os.length:=by omega
  have eq1:m'.os[m1.os.length]? = some (m'.os.getD m1.os.length []):=by
   rw [List.getD_eq_getElem?_getD,List.getElem?_eq_getElem hq]; rfl
  obtain ⟨xs,y1,y2⟩:=R'.own m1.os.length (.L l) _ (by rw [same _ (Nat.lt_succ_self _)]; exact at0) eq1
  have own':∀ (k:Nat) (a:Ao) (es:List PyData),α[k]? = some a→(m'.os.take m1.os.length)[k]? = some es→OwnAt K H' a es:=fun k a es z1 z2'=>by
   rw [List.getElem?_take] at z2'
   have hk:k < m1.os.length:=by rw [←hlen]; exact (List.getElem?_eq_some_iff.mp z1).1
   rw [if_pos hk] at z2'
   exact R'.own k a es (by rw [same k (by omega),List.getElem?_append_left (by omega)]; exact z1) z2'
  have tl:(m'.os.take m1.os.length).length = α.length:=by rw [List.length_take]; omega
  have old':Ext K.eb.np α H1 α H':=⟨rfl,F',fun _ h=>.inl h,fun a ha=>by
   obtain ⟨k,ao,e1,hm⟩:=fO ha
   have hk:k < (m'.os.take m1.os.length).length:=by rw [tl]; exact (List.getElem?_eq_some_iff.mp e1).1
   obtain ⟨o,q,_⟩:=(own' k ao _ e1 (List.getElem?_eq_getElem hk)).mem hm
   exact ⟨o,q⟩⟩
  refine fin _ _ (.ref l) H' q n1 ⟨Rl1.nd,tl.symm,own',Rl1.vlen,fun i r z=>?_,Rl1.npl,Rl1.ebl,Rl1.ebx.trans old'⟩ ?_ (F1.trans F')
  ·obtain ⟨v,ev,rv⟩:=Rl1.var i r z
   refine ⟨v,ev,?_⟩
   cases r with
   | imm d=>exact Den.mono pe' rv
   | obj k=>exact rv
   | «at» k p=>exact rv
   | new ds=>exact rv
   | newT t=>exact rv
  ·refine ⟨l,xs,rfl,?_,y1,y2⟩
   cases z:H l with
   | none=>rfl
   | some o =>
    have:=F1 l o z pα
    rw [hl] at this; cases this
 ·have:=congrArg (fun z=>z[m1.os.length]?) hp
  simp only [List.getElem?_take,if_pos npq] at this
  rw [this]; exact at0
end
section
variable {X:Cx} {scope sc:Scope} {own fr:List Str} {ps:List Nat} {elt iter:Expr} {ifs:List Expr} {pos np:Pos} {tt:WT} {we wo:WE} {x:Str}
def ji (wo:WE) (own:List Str) (ps:List Nat) (tt:WT) (we:WE):WE:=fun m K=>wo m fun r m1=>onAt (fun k p=>∃ t ts,m1.os[k]? = some [t]∧getT t p = some (.list ts) ∧
 iw ⟨k,p,t,ts⟩ 0 (wIfT tt (nY m1.os.length we)) { nx:=fun m'=>K (.new (m'.os.getD m1.os.length [])) { m1 with os:=m'.os.take m1.os.length },rt:=fun _ _=>False } (dI own ps m1)) r
theorem vq (S:bo own fr scope sc) (hi:ME X iter wo) (hg:∀ cl s H C ex,PG (aQ X scope cl (own++fr) s H C ex) (.Name x np) (gQ 0)) (ht:∀ cl s H C ex,PTs (aQ X scope cl (own++fr) s H C ex) ifs (tMT X.kx tt))
  (he:∀ cl s H C ex,ME (aQ X scope cl (own++fr) s H C ex) elt we) (hsc:X.env.scope = sc:=by rfl) (hps:ps.map (fun i=>X.N[i]?) = fr.map some:=by rfl) (hc:X.calm = true:=by rfl) (hs:∀ x,foldedSetIterable iter X.env x = pure x:=by intro _; rfl) :
  ME X (.ListComp elt [⟨.Name x np,iter,ifs,0⟩] scope pos) (ji wo own ps tt we):=(j2 S (o4 (tg:=.Name x np) hi) hg ht he hsc hps hc hs).wk fun σ H Q h=>by
 obtain ⟨α,m,Kc,Rl,hw,fin⟩:=h
 refine ⟨α,m,_,Rl,hw,fun r m1 v H1 k n1 Rl1 rr F1=>?_⟩
 obtain ⟨kk,p,τ,a,rfl,e1,e2,rfl,t,ts,e3,e4,k⟩:=kq rr k
 obtain ⟨xs,hx,gx⟩:=Rl1.listN e1 e2 e3 e4
 refine ⟨a,rfl,.inl ⟨⟨xs,SqL.of hx⟩,fun l hl=>?_⟩⟩
 exact oN Rl n1 Rl1 F1 ⟨e4,τ,a,e1,e2,rfl⟩ hl k fin fun α' m' σ' H' De' D' ha hnp R' h' k'=>uh R' h' k' fun m2 H2 n2 R2 h2 k2=>nV ha R2 h2 k2
end
def oa (i:Nat):List Addr→List (List Nat×Addr)
 | []=>[]
 | a :: as=>([i],a) :: oa (i + 1) as
theorem gz:∀ (i:Nat) (as:List Addr),(oa i as).map (·.2) = as
 | _,[]=>rfl
 | i,a :: as=>by rw [oa,List.map_cons,gz]
theorem jV:∀ {as:List Addr} {i j:Nat} {a:Addr},as[j]? = some a→(oa i as).lookup [i + j] = some a
 | [],_,_,_,e=>by simp at e
 | a :: as,i,0,b,e=>by
  simp at e
  subst e
  simp [oa,List.lookup]
 | a :: as,i,j + 1,b,e=>by
  have h:=jV (i:=i + 1) (j:=j) (as:=as) (a:=b) (by simpa using e)
  rw [oa,List.lookup_cons]
  have:([i + (j + 1)] == [i]) = false:=by simp
  rw [this,show i + (j + 1) = i + 1 + j by omega]
  exact h
theorem ox {H H':Hp} (old:∀ b o,H b = some o→H' b = some o):Pers H H':=⟨fun b xs q=>old b _ q,fun b o u q=>old b _ q⟩
section
variable {X:Cx} {scope sc:Scope} {own fr:List Str} {ps:List Nat} {iter:Expr} {pos np lpos:Pos} {wi:WI} {x:Str}
def Am (wi:WI):WE:=fun m K=>wi m fun s m1=>s.own = none∧s.ds.length≤1000∧K (.newT (.list (List.replicate s.ds.length (.list [])))) m1
theorem zd {K:Kd} {H:Hp} {τ : List (List Nat×Addr)} {as:List Addr} (hs:∀ a∈as,H a = some (.lst [])) (el:∀ j a,as[j]? = some a→τ.lookup [j] = some a):TAtL K H τ [] 0 (List.replicate as.length (.list [])) (as.map .ref):=by
 have go:∀ (bs:List Addr) (i:Nat),(∀ a∈bs,H a = some (.lst []))→(∀ j a,bs[j]? = some a→τ.lookup [i + j] = some a)→TAtL K H τ [] i (List.replicate bs.length (.list [])) (bs.map .ref):=by
  intro bs
  induction bs with
  | nil=>intro i _ _; simp only [List.length_nil,List.replicate_zero,List.map_nil,TAtL]
  | cons b bs ih =>
   intro i h1 h2
   simp only [List.length_cons,List.replicate_succ,List.map_cons,TAtL]
   refine ⟨.ref b,_,rfl,?_,ih (i + 1) (fun a ha=>h1 a (List.mem_cons_of_mem _ ha)) fun j a e=>by rw [show i + 1 + j = i + (j + 1) by omega]; exact h2 (j + 1) a (by simpa using e)⟩
   simp only [TAt]
   exact ⟨b,[],by rw [List.nil_append]; exact h2 0 b rfl,rfl,h1 b List.mem_cons_self,by simp only [TAtL]⟩
 exact go as 0 hs fun j a e=>by rw [Nat.zero_add]; exact el j a e
theorem y9 (S:bo own fr scope sc) (hi:MI X (.Name x np) iter wi) (hg:∀ cl s H C ex,PG (aQ X scope cl (own++fr) s H C ex) (.Name x np) (gQ 0))
  (hsc:X.env.scope = sc:=by rfl) (hps:ps.map (fun i=>X.N[i]?) = fr.map some:=by rfl) (hc:X.calm = true:=by rfl) (hs:∀ x,foldedSetIterable iter X.env x = pure x:=by intro _; rfl) :
  ME X (.ListComp (.List [] lpos) [⟨.Name x np,iter,[],0⟩] scope pos) (Am wi):=(j2 (tt:=fun σ H Q=>Q true H) (te:=tLst tNil) S hi hg (fun _ _ _ _ _=>re) (fun _ _ _ _ _=>xy wM) hsc hps hc hs).wk fun σ H Q h=>by
 obtain ⟨α,m,Kc,Rl,hw,fin⟩:=h
 refine ⟨α,m,_,Rl,hw,fun s m1 J H1 k n1 Rl1 F1 hJ l hl=>?_⟩
 obtain ⟨eo,hz,k⟩:=k
 unfold lM at hJ
 rw [eo] at hJ
 obtain ⟨C,wk,c0,cm⟩:=hJ
 refine ⟨fun i n σ' H'=>n = s.ds.length - i∧i≤s.ds.length∧∃ as:List Addr,as.length = i∧(l :: as).Nodup∧(∀ a∈as,H1 a = none)∧H' l = some (.lst (as.map .ref))∧(∀ a∈as,H' a = some (.lst []))∧∀ b o,H1 b = some o→H' b = some o,⟨_,rfl,Nat.zero_le _,[],rfl,by simp,by simp,aA,by simp,fun b o e=>by rw [au (aK e hl)]; exact e⟩,?_⟩
 rintro i n σ' H' ⟨rfl,hi,as,ea,nd,fresh,hl',hs,old⟩
 have c:C H':=cm H1 H' c0 (ox old)
 by_cases hlt:i < s.ds.length
 ·refine .inr ⟨wk.go i H' hlt c,fun σ2 H2=>∃ as:List Addr,as.length = i + 1∧(l :: as).Nodup∧(∀ a∈as,H1 a = none)∧H2 l = some (.lst (as.map .ref))∧(∀ a∈as,H2 a = some (.lst []))∧∀ b o,H1 b = some o→H2 b = some o,fun σ2 H2 h2=>⟨s.ds.length - (i + 1),by omega,rfl,hlt,h2⟩,fun v H2 y=>?_⟩
  obtain ⟨grow,_⟩:=wk.yld i H' v H2 hlt c y
  unfold gQ tIfT
  dsimp only
  rw [if_pos rfl]
  refine ⟨Nat.zero_le _,fun p hp=>⟨as.map .ref,?_,?_,as++[p],?_,?_,?_,?_,?_,?_⟩⟩
  ·have:p≠l:=fun z=>by have:=grow l _ hl'; rw [←z,hp] at this; cases this
   rw [au (Ne.symm this)]
   exact grow l _ hl'
  ·rw [List.length_map,ea,sizeLine_eq]; omega
  ·rw [List.length_append,ea]; rfl
  ·rw [List.nodup_cons] at nd ⊢
   have pl:l≠p:=fun z=>by have:=grow l _ hl'; rw [z,hp] at this; cases this
   refine ⟨fun z=>?_,?_⟩
   ·rcases List.mem_append.mp z with z | z
    ·exact nd.1 z
    ·exact pl (List.mem_singleton.mp z)
   ·rw [List.nodup_append]
    refine ⟨nd.2,by simp,fun a ha b hb=>?_⟩
    rw [List.mem_singleton.mp hb]
    intro z
    have:=grow a _ (hs a ha)
    rw [z,hp] at this; cases this
  ·intro a ha
   obtain ha | ha:=List.mem_append.mp ha
   ·exact fresh a ha
   ·rw [List.mem_singleton.mp ha]
    cases q:H1 p with
    | none=>rfl
    | some o =>
     have:=grow p o (old p o q)
     rw [hp] at this; cases this
  ·rw [aA,List.map_append]; rfl
  ·intro a ha
   have al:a≠l:=fun z=>by
    rw [List.nodup_cons] at nd
    obtain ha | ha:=List.mem_append.mp ha
    ·exact nd.1 (z▸ha)
    ·have:=grow l _ hl'
     rw [←z,List.mem_singleton.mp ha,hp] at this; cases this
   rw [au al]
   obtain ha | ha:=List.mem_append.mp ha
   ·have ap:a≠p:=fun z=>by have:=grow a _ (hs a ha); rw [z,hp] at this; cases this
    rw [au ap]
    exact grow a _ (hs a ha)
   ·rw [List.mem_singleton.mp ha]; exact aA
  ·intro b o e
   have q:=grow b o (old b o e)
   rw [au (aK e hl),au fun z=>by rw [z,hp] at q; cases q]
   exact q
 ·have e:i = s.ds.length:=by omega
  refine .inl ⟨by rw [e]; exact wk.stop H' c,?_⟩
  have F':Frm α H1 H':=fun b o e _=>old b o e
  have Rl':Rel X.kx α m1 σ H':=Rl1.at (ox old) (fun b hb=>by obtain ⟨o,q,_⟩:=Rl1.mem hb; rw [q]; exact old b o q) F'
  have new0:∀ b,H1 b = none→H b = none∨b∈ads α:=fun b q=>by
   cases z:H b with
   | none=>exact .inl rfl
   | some o =>
    by_cases hb:b∈ads α
    ·exact .inr hb
    ·have:=F1 b o z hb
     rw [q] at this; cases this
  have new1:∀ b,H1 b = none→H b = none:=fun b q=>by
   rcases new0 b q with z | z
   ·exact z
   ·obtain ⟨o,q2,_⟩:=Rl1.mem z
    rw [q] at q2; cases q2
  refine fin _ m1 (.ref l) H' k n1 Rl' ⟨([],l) :: oa 0 as,l,rfl,rfl,?_,?_,⟨⟨_,.ref l,rfl,?_,l,rfl,rfl⟩,?_⟩⟩ (F1.trans F')
  ·rw [List.map_cons,gz]; exact nd
  ·rw [List.map_cons,gz]
   intro b hb
   obtain rfl | hb:=List.mem_cons.mp hb
   ·exact new1 _ hl
   ·exact new1 _ (fresh b hb)
  ·simp only [TAt]
   refine ⟨l,as.map .ref,rfl,rfl,hl',?_⟩
   rw [←e,←ea]
   refine zd hs fun j a z=>?_
   rw [List.lookup_cons]
   have:([j] == ([]:List Nat)) = false:=rfl
   rw [this]
   have:=jV (i:=0) z
   rw [Nat.zero_add] at this
   exact this
  ·rw [List.map_cons,gz]
   intro b hb
   obtain rfl | hb:=List.mem_cons.mp hb
   ·exact ⟨_,hl',rfl⟩
   ·exact ⟨_,hs b hb,rfl⟩
end
section
variable {K:Kd} {H:Hp} {τ τ':List (List Nat×Addr)} {w:List Nat}
mutual
theorem TAt.shift (e:∀ q a,τ.lookup q = some a→τ'.lookup (w++q) = some a):∀ {t:PyData} {p:List Nat} {v:V},TAt K H τ p t v→TAt K H τ' (w++p) t v
 | .none,_,_,h=>by simp only [TAt] at h ⊢; exact h
 | .bool _,_,_,h=>by simp only [TAt] at h ⊢; exact h
 | .int _,_,_,h=>by simp only [TAt] at h ⊢; exact h
 | .str _,_,_,h=>by simp only [TAt] at h ⊢; exact h
 | .tuple _,_,_,h=>by simp only [TAt] at h ⊢; exact h
 | .list ts,p,_,h=>by
  simp only [TAt] at h ⊢
  obtain ⟨a,xs,e1,e2,e3,g⟩:=h
  exact ⟨a,xs,e _ _ e1,e2,e3,TAtL.shift e g⟩
 | .dict kvs,p,_,h=>by
  simp only [TAt] at h ⊢
  rcases h with ⟨d,e1,h⟩ | ⟨z1,z2,a,es,e1,e2,e3,k,g⟩ | ⟨z1,z2,a,es,e1,e2,e3,g⟩ | ⟨c,a,dx,C,xs,e0,e1,e2,e3,k,g⟩
  ·exact .inl ⟨d,e1,h⟩
  ·exact .inr (.inl ⟨z1,z2,a,es,e _ _ e1,e2,e3,k,TAtD.shift e g⟩)
  ·exact .inr (.inr (.inl ⟨z1,z2,a,es,e _ _ e1,e2,e3,TAtK.shift e g⟩))
  ·exact .inr (.inr (.inr ⟨c,a,dx,C,xs,e0,e _ _ e1,e2,e3,k,TAtF.shift e g⟩))
theorem TAtL.shift (e:∀ q a,τ.lookup q = some a→τ'.lookup (w++q) = some a):∀ {ts:List PyData} {p:List Nat} {i:Nat} {xs:List V},TAtL K H τ p i ts xs→TAtL K H τ' (w++p) i ts xs
 | [],_,_,_,h=>by simpa only [TAtL] using h
 | t :: ts,p,i,_,h=>by
  simp only [TAtL] at h ⊢
  obtain ⟨v,vs,e1,g1,g2⟩:=h
  exact ⟨v,vs,e1,by rw [List.append_assoc]; exact TAt.shift e g1,TAtL.shift e g2⟩
theorem TAtD.shift (e:∀ q a,τ.lookup q = some a→τ'.lookup (w++q) = some a):∀ {ts:List (PyData×PyData)} {p:List Nat} {i:Nat} {xs:List (Int×V×V)},TAtD K H τ p i ts xs→TAtD K H τ' (w++p) i ts xs
 | [],_,_,_,h=>by simpa only [TAtD] using h
 | (k,t) :: ts,p,i,_,h=>by
  simp only [TAtD] at h ⊢
  obtain ⟨u,v,vs,e1,g0,g1,g2⟩:=h
  exact ⟨u,v,vs,e1,g0,by rw [List.append_assoc]; exact TAt.shift e g1,TAtD.shift e g2⟩
theorem TAtK.shift (e:∀ q a,τ.lookup q = some a→τ'.lookup (w++q) = some a):∀ {ts:List (PyData×PyData)} {p:List Nat} {i:Nat} {xs:List (Key×V)},TAtK K H τ p i ts xs→TAtK K H τ' (w++p) i ts xs
 | [],_,_,_,h=>by simpa only [TAtK] using h
 | (k,t) :: ts,p,i,_,h=>by
  simp only [TAtK] at h ⊢
  obtain ⟨u,v,vs,e1,g0,g1,g2⟩:=h
  exact ⟨u,v,vs,e1,g0,by rw [List.append_assoc]; exact TAt.shift e g1,TAtK.shift e g2⟩
theorem TAtF.shift (e:∀ q a,τ.lookup q = some a→τ'.lookup (w++q) = some a):∀ {ts:List (PyData×PyData)} {p:List Nat} {i:Nat} {xs:List (Str×V)},TAtF K H τ p i ts xs→TAtF K H τ' (w++p) i ts xs
 | [],_,_,_,h=>by simpa only [TAtF] using h
 | (.str f,t) :: ts,p,i,_,h=>by
  simp only [TAtF] at h ⊢
  obtain ⟨v,vs,e1,g1,g2⟩:=h
  exact ⟨v,vs,e1,by rw [List.append_assoc]; exact TAt.shift e g1,TAtF.shift e g2⟩
 | (.none,d) :: r,_,_,_,h=>by simp only [TAtF] at h ⊢; exact TAtF.shift e h
 | (.bool _,d) :: r,_,_,_,h=>by simp only [TAtF] at h
 | (.int _,d) :: r,_,_,_,h=>by simp only [TAtF] at h
 | (.list _,d) :: r,_,_,_,h=>by simp only [TAtF] at h
 | (.tuple _,d) :: r,_,_,_,h=>by simp only [TAtF] at h
 | (.dict _,d) :: r,_,_,_,h=>by simp only [TAtF] at h
end
end
def trR:R→Option PyData
 | .imm d=>some (lfD d)
 | .new ds=>some (.list (ds.map lfD))
 | .newT t=>some t
 | _=>none
structure Di (K:Kd) (H:Hp) (r1 r2:R) (v1 v2:V) (τ : List (List Nat×Addr)):Prop where
 key:∀ k,r1 = .imm k→Den K H k v1
 sub:∀ t,trR r2 = some t→TAt K H τ [] t v2
 mu:∀ a∈τ.map (·.2),∃ o,H a = some o∧Mu o = true
inductive PsOk (K:Kd) (H:Hp):List (R×R)→List (V×V)→List (List (List Nat×Addr))→Prop where
 | nil:PsOk K H [] [] []
 | cons {r1 r2:R} {v1 v2:V} {τ : List (List Nat×Addr)} {ps:List (R×R)} {vs:List (V×V)} {τs:List (List (List Nat×Addr))}:Di K H r1 r2 v1 v2 τ→PsOk K H ps vs τs→PsOk K H ((r1,r2) :: ps) ((v1,v2) :: vs) (τ :: τs)
def allA:List (List (List Nat×Addr))→List Addr
 | []=>[]
 | τ :: τs=>τ.map (·.2)++allA τs
theorem BR {K:Kd} {α : Al} {Hb H:Hp} {r:R} {v:V} (h:RelR K α Hb H r v):∃ τ : List (List Nat×Addr),(∀ t,trR r = some t→TAt K H τ [] t v)∧(τ.map (·.2)).Nodup∧(∀ a∈τ.map (·.2),∃ o,H a = some o∧Mu o = true)∧∀ a∈τ.map (·.2),Hb a = none:=by
 cases r with
 | imm d=>exact ⟨[],fun t e=>(by cases e; exact m5 h),List.nodup_nil,fun _ z=>(by simp at z),fun _ z=>(by simp at z)⟩
 | new ds =>
  obtain ⟨a,xs,rfl,n,q,g⟩:=h
  refine ⟨[([],a)],fun t e=>?_,by simp,fun b z=>?_,fun b z=>?_⟩
  ·cases e
   simp only [TAt]
   exact ⟨a,xs,rfl,rfl,q,h9 g⟩
  ·simp at z; subst z; exact ⟨_,q,rfl⟩
  ·simp at z; subst z; exact n
 | newT t =>
  obtain ⟨τ,a,rfl,e1,nd,n,⟨t1,v0,z,g,a0,e2,e3⟩,mu⟩:=h
  cases z
  rw [e1] at e2; cases e2
  subst e3
  exact ⟨τ,fun t e=>(by cases e; exact g),nd,mu,n⟩
 | obj _=>exact ⟨[],fun t e=>(by cases e),List.nodup_nil,fun _ z=>(by simp at z),fun _ z=>(by simp at z)⟩
 | «at» _ _=>exact ⟨[],fun t e=>(by cases e),List.nodup_nil,fun _ z=>(by simp at z),fun _ z=>(by simp at z)⟩
theorem PsOk.some {K:Kd} {H:Hp} {ps:List (R×R)} {vs:List (V×V)} {τs:List (List (List Nat×Addr))} (h:PsOk K H ps vs τs):∀ a∈allA τs,∃ o,H a = some o∧Mu o = true:=by
 induction h with
 | nil=>intro a ha; cases ha
 | cons h t ih =>
  intro a ha
  rcases List.mem_append.mp ha with z | z
  ·exact h.mu a z
  ·exact ih a z
theorem mi {K:Kx}:∀ {ws:List (WE×WE)} {α : Al} {m:MSt} {σ : St} {H:Hp} {Kc:List (R×R)→MSt→Prop} {Q:List (V×V)→Hp→Prop},Rel K α m σ H→i5 ws m Kc →
  (∀ ps m' vs H' τs,Kc ps m'→m'.np = m.np→Rel K α m' σ H'→PsOk K H' ps vs τs→(allA τs).Nodup→(∀ a∈allA τs,H a = none)→Frm α H H'→Q vs H')→pd (ws.map fun w=>(tM K w.1,tM K w.2)) σ H Q
 | [],α,m,σ,H,Kc,Q,Rl,h,fin=>fin _ m _ H [] h rfl Rl .nil List.nodup_nil (fun _ z=>by cases z) (Frm.refl _ _)
 | (wk,wv) :: r,α,m,σ,H,Kc,Q,Rl,h,fin =>
  ⟨α,m,_,Rl,h,fun r1 m1 v1 H1 k1 n1 Rl1 rr1 F1=>⟨α,m1,_,Rl1,k1,fun r2 m2 v2 H2 k2 n2 Rl2 rr2 F2 =>
   mi Rl2 k2 fun ps m3 vs H3 τs k3 n3 Rl3 rs nd fr F3=>by
    obtain ⟨τ,s1,s2,s3,s4⟩:=BR rr2
    have out:∀ a∈τ.map (·.2),a∉ads α:=fun a ha z=>by
     obtain ⟨o,q,_⟩:=Rl1.mem z
     rw [s4 a ha] at q; cases q
    have keep:∀ a∈τ.map (·.2),H3 a = H2 a:=fun a ha=>by
     obtain ⟨o,q,_⟩:=s3 a ha
     rw [q]; exact F3 a o q (out a ha)
    have back:∀ {Hx Hy:Hp},Frm α Hx Hy→(∀ a,a∈ads α→Hy a≠none)→∀ a,Hy a = none→Hx a = none:=fun {Hx Hy} F g a q=>by
     cases z:Hx a with
     | none=>rfl
     | some o =>
      by_cases ha:a∈ads α
      ·exact (g a ha q).elim
      ·have:=F a o z ha
       rw [q] at this; cases this
    have b1:=back F1 fun a ha z=>by obtain ⟨o,q,_⟩:=Rl1.mem ha; rw [z] at q; cases q
    have b2:=back (F1.trans F2) fun a ha z=>by obtain ⟨o,q,_⟩:=Rl2.mem ha; rw [z] at q; cases q
    have pe:=Rl2.pers F3
    refine fin _ m3 _ H3 (τ :: τs) k3 (n3.trans (n2.trans n1)) Rl3 (.cons ⟨fun k e=>?_,fun t e=>?_,fun a ha=>?_⟩ rs) ?_ (fun a ha=>?_) ((F1.trans F2).trans F3)
    ·subst e
     exact Den.mono pe (Den.mono (Rl1.pers F2) (show Den K H1 k v1 from rr1))
    ·exact TAt.monoP pe (fun q a z=>keep a (bq (by simpa using z))) (s1 t e)
    ·rw [keep a ha]; exact s3 a ha
    ·show (τ.map (·.2)++allA τs).Nodup
     rw [List.nodup_append]
     refine ⟨s2,nd,fun a ha b hb z=>?_⟩
     obtain ⟨o,q,_⟩:=s3 a ha
     rw [z,fr b hb] at q; cases q
    ·rcases List.mem_append.mp ha with z | z
     ·exact b1 a (s4 a z)
     ·exact b2 a (fr a z)⟩⟩
def iq:List (R×R)→Option (List (PyData×PyData))
 | []=>some []
 | (.imm (.int i),r) :: l=>match trR r,iq l with | some t,some l'=>some ((.int i,t) :: l') | _,_=>none
 | (.imm (.str x),r) :: l=>match trR r,iq l with | some t,some l'=>some ((.str x,t) :: l') | _,_=>none
 | _ :: _=>none
theorem yE {K:Kd} {H:Hp} {ps:List (R×R)} {vs:List (V×V)} {τs:List (List (List Nat×Addr))} (h:PsOk K H ps vs τs):∀ {kvs:List (PyData×PyData)} {i:Nat} {τ':List (List Nat×Addr)},iq ps = some kvs→l5 kvs = true→(∀ (j:Nat) (τ : List (List Nat×Addr)) (q:List Nat) (a:Addr),τs[j]? = some τ→τ.lookup q = some a→τ'.lookup ((i + j) :: q) = some a) →
  ∃ es:List (Key×V),vs = es.map (fun kv=>(kV kv.1,kv.2))∧TAtK K H τ' [] i kvs es∧∀ kk,(kvs.all fun kv=>!gj kv.1 (keyD kk)) = true→∀ x∈es,x.1≠kk:=by
 induction h with
 | nil=>intro kvs i τ' e _ _; cases e; exact ⟨[],rfl,by simp only [TAtK],fun _ _ _ h=>by cases h⟩
 | @cons r1 r2 v1 v2 τ ps vs τs h t ih =>
  intro kvs i τ' e nk lk
  have go:∀ (kk:Key) (t2:PyData) (kvs':List (PyData×PyData)),r1 = .imm (keyD kk)→trR r2 = some t2→iq ps = some kvs'→kvs = (keyD kk,t2) :: kvs'→∃ es:List (Key×V),(v1,v2) :: vs = es.map (fun kv=>(kV kv.1,kv.2))∧TAtK K H τ' [] i kvs es∧∀ kk,(kvs.all fun kv=>!gj kv.1 (keyD kk)) = true→∀ x∈es,x.1≠kk:=by
   clear e
   intro kk t2 kvs' z1 z2 z3 e
   subst e
   simp only [l5,Bool.and_eq_true] at nk
   obtain ⟨es,ee,g,un⟩:=ih (i:=i + 1) (τ':=τ') z3 nk.2 fun j τ q a e1 e2=>by
    rw [show i + 1 + j = i + (j + 1) by omega]
    exact lk (j + 1) τ q a (by simpa using e1) e2
   have e1:v1 = kV kk:=sk (h.key _ z1)
   subst e1
   refine ⟨(kk,v2) :: es,by rw [List.map_cons,←ee],?_,fun k' hk x hx=>?_⟩
   ·simp only [TAtK]
    refine ⟨kk,v2,es,rfl,⟨rfl,un kk nk.1⟩,?_,g⟩
    have:=TAt.shift (τ':=τ') (w:=[i]) (fun q a e=>lk 0 τ q a rfl e) (h.sub t2 z2)
    simpa using this
   ·rw [List.all_cons,Bool.and_eq_true,jB] at hk
    rcases List.mem_cons.mp hx with z | z
    ·subst z; simpa using hk.1
    ·exact un k' hk.2 x z
  unfold iq at e
  split at e
  ·rename_i z; cases z
  ·rename_i i' r l z
   cases z
   split at e
   ·rename_i t2 l' q1 q2
    exact go (.inl i') t2 l' rfl q1 q2 (Option.some.inj e).symm
   ·cases e
  ·rename_i x r l z
   cases z
   split at e
   ·rename_i t2 l' q1 q2
    exact go (.inr x) t2 l' rfl q1 q2 (Option.some.inj e).symm
   ·cases e
  ·cases e
def lR (i:Nat):List (List (List Nat×Addr))→List (List Nat×Addr)
 | []=>[]
 | τ :: τs=>τ.map (fun qa=>(i :: qa.1,qa.2))++lR (i + 1) τs
theorem fj:∀ (i:Nat) (τs:List (List (List Nat×Addr))),(lR i τs).map (·.2) = allA τs
 | _,[]=>rfl
 | i,τ :: τs=>by rw [lR,List.map_append,fj,List.map_map]; rfl
theorem pq {i:Nat} {q:List Nat}:∀ τ : List (List Nat×Addr),(τ.map fun qa=>(i :: qa.1,qa.2)).lookup (i :: q) = τ.lookup q
 | []=>rfl
 | (r,b) :: τ=>by
  rw [List.map_cons,List.lookup_cons,List.lookup_cons,pq τ]
  have:((i :: q) == (i :: r)) = (q == r):=by simp
  rw [this]
theorem jb {i j:Nat} {q:List Nat} (h:j≠i):∀ τ : List (List Nat×Addr),(τ.map fun qa=>(i :: qa.1,qa.2)).lookup (j :: q) = none
 | []=>rfl
 | (r,b) :: τ=>by
  rw [List.map_cons,List.lookup_cons,jb h τ]
  have:((j :: q) == (i :: r)) = false:=by simp [h]
  rw [this]
theorem ou {β γ : Type} [BEq β] {a b:List (β×γ)} {k : β}:(a++b).lookup k = (a.lookup k).or (b.lookup k):=by
 induction a with
 | nil=>simp
 | cons x a ih =>
  obtain ⟨k',v⟩:=x
  rw [List.cons_append,List.lookup_cons,List.lookup_cons,ih]
  split <;> simp
theorem jO:∀ {τs:List (List (List Nat×Addr))} {i j:Nat} {τ : List (List Nat×Addr)} {q:List Nat} {a:Addr},τs[j]? = some τ→τ.lookup q = some a→(lR i τs).lookup ((i + j) :: q) = some a
 | [],_,_,_,_,_,e,_=>by simp at e
 | τ0 :: τs,i,0,τ,q,a,e,h=>by
  simp at e
  subst e
  rw [lR,ou,Nat.add_zero,pq,h]; rfl
 | τ0 :: τs,i,j + 1,τ,q,a,e,h=>by
  rw [lR,ou,jb (by omega)]
  have:=jO (i:=i + 1) (j:=j) (τs:=τs) (by simpa using e) h
  rw [show i + 1 + j = i + (j + 1) by omega] at this
  rw [this]; rfl
section
variable {X:Cx} {pos:Pos}
def kI (P:List (PyData×PyData)→Prop):Option (List (PyData×PyData))→Prop
 | some kvs=>l5 kvs = true∧kvs.length≤15∧P kvs
 | none=>False
def uy (ws:List (WE×WE)):WE:=fun m K=>i5 ws m fun ps m'=>kI (fun kvs=>K (.newT (.dict kvs)) m') (iq ps)
theorem vc {keys:List (Option Expr)} {values:List Expr} {ws:List (WE×WE)} (h:MPs X pos keys values ws) (hall:keys.all (·.isSome) = true:=by rfl) (hl:keys.length = values.length:=by rfl) (h0:keys≠[]:=by exact fun z=>by cases z) (h15:keys.length≤15:=by decide):ME X (.Dict keys values pos) (uy ws) :=
 (yy h hall hl h0 h15).wk fun σ H Q ⟨α,m,Kc,Rl,hw,fin⟩=>by
 intro p hp
 refine mi (Rl.lay hp) hw fun ps m1 vs H1 τs k1 n1 Rl1 rp nd fr F1=>?_
 cases e:iq ps with
 | none=>rw [e] at k1; exact k1.elim
 | some kvs =>
  rw [e] at k1
  obtain ⟨nk,hl,k1⟩:=k1
  have hpα : p∉ads α:=Rl.out hp
  have e1:H1 p = some (.dK []):=F1 p _ aA hpα
  have pn:p∉allA τs:=fun z=>by have:=fr p z; rw [aA] at this; cases this
  obtain ⟨es,ee,g,_⟩:=yE (i:=0) (τ':=([],p) :: lR 0 τs) rp e nk fun j τ q a z1 z2=>by
   rw [List.lookup_cons]
   have:(((0 + j) :: q) == ([]:List Nat)) = false:=rfl
   rw [this]
   exact jO z1 z2
  refine ⟨e1,es,ee,by rw [←g.len]; exact hl,?_⟩
  have em:im [] es = es:=by
   have:=mt (more:=es) (kvs:=[]) g.nodup fun x _=>rfl
   rwa [List.nil_append] at this
  rw [em]
  have pe:Pers H1 (upd H1 p (.dK es)):=bh (.inr ⟨_,e1,rfl⟩)
  have frm:Frm α H (upd H1 p (.dK es)):=fun b ob eb nb=>by
   have ne:b≠p:=aK eb hp
   rw [au ne]
   exact F1 b ob (by rw [au ne]; exact eb) nb
  have old:Ext X.kx.eb.np α H α (upd H1 p (.dK es)):=⟨rfl,frm,fun _ h=>.inl h,fun b hb=>by
   have hbp:b≠p:=fun e=>hpα (e▸hb)
   rw [au hbp]
   obtain ⟨o',e',_⟩:=Rl1.mem hb
   exact ⟨o',e'⟩⟩
  refine fin _ m1 _ _ k1 n1 (Rl1.at' pe (fun b hb=>au fun e=>hpα (e▸hb)) (Rl.ebx.trans old)) ⟨([],p) :: lR 0 τs,p,rfl,rfl,?_,?_,⟨⟨_,.ref p,rfl,?_,p,rfl,rfl⟩,?_⟩⟩ frm
  ·rw [List.map_cons,fj,List.nodup_cons]
   exact ⟨pn,nd⟩
  ·rw [List.map_cons,fj]
   intro b hb
   obtain rfl | hb:=List.mem_cons.mp hb
   ·exact hp
   ·have hbp:b≠p:=fun z=>pn (z▸hb)
    have:=fr b hb
    rwa [au hbp] at this
  ·obtain ⟨z1,z2⟩:=k8 g.kd
   simp only [TAt]
   refine .inr (.inr (.inl ⟨z1,z2,p,es,rfl,rfl,aA,TAtK.monoP pe (fun i q b zb=>?_) g⟩))
   rw [List.nil_append,List.lookup_cons] at zb
   have:((i :: q) == ([]:List Nat)) = false:=rfl
   rw [this] at zb
   have hb:b∈allA τs:=by rw [←fj 0]; exact bq zb
   exact au fun z=>pn (z▸hb)
  ·rw [List.map_cons,fj]
   intro b hb
   obtain rfl | hb:=List.mem_cons.mp hb
   ·exact ⟨_,aA,rfl⟩
   ·have hbp:b≠p:=fun z=>pn (z▸hb)
    rw [au hbp]
    exact rp.some b hb
end
section
variable {X:Cx} {scope sc:Scope} {own fr:List Str} {ps:List Nat} {elt iter o:Expr} {ifs:List Expr} {pos np lpos spos py apos cpos:Pos} {tt:WT} {we wo:WE} {wi:WI} {x y:Str} {i:Nat}
theorem vO {σ : St} {H:Hp} {Q:VK} (h:tM X.kx (ji wo own ps tt we) σ H Q):v7 (iSeq X.K (tM X.kx wo)) own ps (tl1 (gQ 0) (tMT X.kx tt) (tM X.kx we)) σ H Q:=by
 obtain ⟨α,m,Kc,Rl,hw,fin⟩:=h
 refine ⟨α,m,_,Rl,hw,fun r m1 v H1 k n1 Rl1 rr F1=>?_⟩
 obtain ⟨kk,p,τ,a,rfl,e1,e2,rfl,t,ts,e3,e4,k⟩:=kq rr k
 obtain ⟨xs,hx,gx⟩:=Rl1.listN e1 e2 e3 e4
 refine ⟨a,rfl,.inl ⟨⟨xs,SqL.of hx⟩,fun l hl=>?_⟩⟩
 exact oN Rl n1 Rl1 F1 ⟨e4,τ,a,e1,e2,rfl⟩ hl k fin fun α' m' σ' H' De' D' ha hnp R' h' k'=>uh R' h' k' fun m2 H2 n2 R2 h2 k2=>nV ha R2 h2 k2
theorem vP (S:bo own fr scope sc) (hN:X.N.Nodup) (hy:X.N[i]? = some y) (hlc:X.env.scope.names.lookup y = some .local) (hi:ME X iter wo) (hg:∀ cl s H C ex,PG (aQ X scope cl (own++fr) s H C ex) (.Name x np) (gQ 0)) (ht:∀ cl s H C ex,PTs (aQ X scope cl (own++fr) s H C ex) ifs (tMT X.kx tt))
  (he:∀ cl s H C ex,ME (aQ X scope cl (own++fr) s H C ex) elt we) (hsw:swapsWith (.ListComp elt [⟨.Name x np,iter,ifs,0⟩] scope pos) (some (.Name y py)) spos.line X.env = pure true:=by rfl)
  (hsc:X.env.scope = sc:=by rfl) (hps:ps.map (fun i=>X.N[i]?) = fr.map some:=by rfl) (hc:X.calm = true:=by rfl) (hs:∀ x,foldedSetIterable iter X.env x = pure x:=by intro _; rfl) :
  MS X (.Assign [.Name y py] (.ListComp elt [⟨.Name x np,iter,ifs,0⟩] scope pos) spos) (wSet i (ji wo own ps tt we)):=(pc S hN hy hlc (o4 (tg:=.Name x np) hi) hg ht he hsw hsc hps hc hs).wk fun D σ H ⟨α,m,De,Rl,hw,k⟩ =>
 vO ⟨α,m,_,Rl,hw,fun r m' v H' q n Rl' rr F=>nv (Q:=D.nx) Rl' n F rr q k.nx ⟨m,σ,Rl⟩⟩
structure EGN (X:Cx) (t:Expr):Prop where
 h:PG X t (gQ 0)
theorem gn {x:Str} (hN:X.N.Nodup) (hi:X.N[0]? = some x) (hx:Loc X.env.scope x) (hf:X.fn x = true∨X.env.scope.names.lookup x = some .local:=by first | exact .inl rfl | exact .inr rfl | assumption):EGN X (.Name x pos):=⟨nC hN hi hx hf⟩
theorem ll (S:bo own fr scope sc) (hi:EE X iter wo) (hg:∀ cl s H C ex,EGN (aQ X scope cl (own++fr) s H C ex) (.Name x np)) (ht:∀ cl s H C ex,ETs (aQ X scope cl (own++fr) s H C ex) ifs tt)
  (he:∀ cl s H C ex,EE (aQ X scope cl (own++fr) s H C ex) elt we) (hsc:X.env.scope = sc:=by rfl) (hps:ps.map (fun i=>X.N[i]?) = fr.map some:=by rfl) (hc:X.calm = true:=by rfl) (hs:∀ x,foldedSetIterable iter X.env x = pure x:=by intro _; rfl) :
  EE X (.ListComp elt [⟨.Name x np,iter,ifs,0⟩] scope pos) (ji wo own ps tt we):=⟨vq S hi.h (fun cl s H C ex=>(hg cl s H C ex).h) (fun cl s H C ex=>(ht cl s H C ex).h) (fun cl s H C ex=>(he cl s H C ex).h) hsc hps hc hs⟩
theorem rF (S:bo own fr scope sc) (hN:X.N.Nodup) (hy:X.N[i]? = some y) (hlc:X.env.scope.names.lookup y = some .local) (hi:EE X iter wo) (hg:∀ cl s H C ex,EGN (aQ X scope cl (own++fr) s H C ex) (.Name x np)) (ht:∀ cl s H C ex,ETs (aQ X scope cl (own++fr) s H C ex) ifs tt)
  (he:∀ cl s H C ex,EE (aQ X scope cl (own++fr) s H C ex) elt we) (hsw:swapsWith (.ListComp elt [⟨.Name x np,iter,ifs,0⟩] scope pos) (some (.Name y py)) spos.line X.env = pure true:=by rfl)
  (hsc:X.env.scope = sc:=by rfl) (hps:ps.map (fun i=>X.N[i]?) = fr.map some:=by rfl) (hc:X.calm = true:=by rfl) (hs:∀ x,foldedSetIterable iter X.env x = pure x:=by intro _; rfl) :
  ES X (.Assign [.Name y py] (.ListComp elt [⟨.Name x np,iter,ifs,0⟩] scope pos) spos) (wSet i (ji wo own ps tt we)):=⟨vP S hN hy hlc hi.h (fun cl s H C ex=>(hg cl s H C ex).h) (fun cl s H C ex=>(ht cl s H C ex).h) (fun cl s H C ex=>(he cl s H C ex).h) hsw hsc hps hc hs⟩
theorem vy (S:bo own fr scope sc) (hi:EI X (.Name x np) iter wi) (hg:∀ cl s H C ex,EGN (aQ X scope cl (own++fr) s H C ex) (.Name x np))
  (hsc:X.env.scope = sc:=by rfl) (hps:ps.map (fun i=>X.N[i]?) = fr.map some:=by rfl) (hc:X.calm = true:=by rfl) (hs:∀ x,foldedSetIterable iter X.env x = pure x:=by intro _; rfl) :
  EE X (.ListComp (.List [] lpos) [⟨.Name x np,iter,[],0⟩] scope pos) (Am wi):=⟨y9 S hi.h (fun cl s H C ex=>(hg cl s H C ex).h) hsc hps hc hs⟩
theorem rb {keys:List (Option Expr)} {values:List Expr} {ws:List (WE×WE)} (h:EPs X pos keys values ws) (hall:keys.all (·.isSome) = true:=by rfl) (hl:keys.length = values.length:=by rfl) (h0:keys≠[]:=by exact fun z=>by cases z) (h15:keys.length≤15:=by decide):EE X (.Dict keys values pos) (uy ws):=⟨vc h.h hall hl h0 h15⟩
theorem Ak {name:Str} {id:String} {ob:WM} (slot:Slot "list" name id) (hty:typeOf (.builtin id) = pure (.type "method_descriptor")) (hm:MtM X id (mM X.kx ob)) (ho:EE X o wo)
  (hbase:attributeBase o name X.env (eval o X.env) = eval o X.env:=by rfl) (hline:(apos.endLine == cpos.line) = true:=by rfl):EE X (.Call (.Attribute o name apos) [] [] cpos) (wML0 ob wo):=⟨Br slot hty hm ho.h hbase hline⟩
theorem i8 {a b:Expr} {wa wb:WE} {pos:Pos} (ha:EE X a wa) (hb:EE X b wb) (hs:jC b:=by intro _ _; rfl):EE X (.Subscript a b pos) (wBin ph wa wb):=⟨BC ha.h hb.h hs⟩
end
theorem dJ {X:Cx}:MtM X "list.append" (mM X.kx kA):=qu
theorem qR {X:Cx}:MtM X "list.pop" (mM X.kx m8):=uo
theorem vG {X:Cx}:MtM X "list.pop" (mM X.kx yY):=xN
section
variable {m:MSt} {Q:R→MSt→Prop} {wo we:WE} {wi:WI} {tt:WT} {own:List Str} {ps:List Nat}
theorem vA (h:wo m fun r m1=>onAt (fun k p=>∃ t ts,m1.os[k]? = some [t]∧getT t p = some (.list ts)∧iw ⟨k,p,t,ts⟩ 0 (wIfT tt (nY m1.os.length we)) { nx:=fun m'=>Q (.new (m'.os.getD m1.os.length [])) { m1 with os:=m'.os.take m1.os.length },rt:=fun _ _=>False } (dI own ps m1)) r):ji wo own ps tt we m Q:=h
theorem mW {s:SrcN} {i0:Nat} {w:WS} {D:d9} {m1:MSt} (P:Nat→MSt→Prop) (p0:P 0 (m1.setN (s.np m1)))
  (step:∀ (i:Nat) (t:PyData) (m:MSt),s.ts[i]? = some t→m.np = s.np m1→P i m→s.ok m∧w { nx:=P (i + 1),ct:=P (i + 1),bk:=fun m'=>D.nx (m'.setN m1.np),rt:=fun r m'=>D.rt r (m'.setN m1.np) } (m.setV i0 (dy s.k s.p i t)))
  (fin:∀ m,m.np = s.np m1→P s.ts.length m→s.ok m∧D.nx (m.setN m1.np)):iw s i0 w D m1:=⟨P,p0,step,fin⟩
theorem A8 (h:wi m fun s m1=>s.own = none∧s.ds.length≤1000∧Q (.newT (.list (List.replicate s.ds.length (.list [])))) m1):Am wi m Q:=h
theorem yg {ws:List (WE×WE)} (h:i5 ws m fun ps m'=>kI (fun kvs=>Q (.newT (.dict kvs)) m') (iq ps)):uy ws m Q:=h
theorem qj {P:List (PyData×PyData)→Prop} {o:Option (List (PyData×PyData))} {kvs:List (PyData×PyData)} (e:o = some kvs) (e1:l5 kvs = true) (e2:kvs.length≤15) (h:P kvs):kI P o:=by subst e; exact ⟨e1,e2,h⟩
theorem GC {ob:WM} (h:wo m fun r m1=>(∃ ds,lsOf m1 r = some ds)∧ob r [] m1 Q):wML0 ob wo m Q:=h
theorem gf {k:Nat} {p:List Nat} {t d:PyData} {ts ds:List PyData} (e1:m.os[k]? = some [t]) (e2:getT t p = some (.list ts)) (e3:cA ts = some ds) (e4:okW t p = true) (hz:ds.length < sizeLine) (h:Q (.imm .none) { m with os:=m.os.set k [setT t p (.list ((ds++[d]).map lfD))] }):kA (.at k p) [.imm d] m Q:=⟨t,ts,ds,e1,e2,e3,e4,hz,h⟩
theorem vY {k:Nat} {p:List Nat} {t d:PyData} {ts ds:List PyData} {i:Int} {j:Nat} (e1:m.os[k]? = some [t]) (e2:getT t p = some (.list ts)) (e3:cA ts = some ds) (e4:okW t p = true) (b1 : -(2 ^ 63)≤i) (b2:i < 2 ^ 63) (ej:seqIndex? i ds.length = some j) (ed:ds[j]? = some d) (h:Q (.imm d) { m with os:=m.os.set k [setT t p (.list ((ds.eraseIdx j).map lfD))] }):m8 (.at k p) [.imm (.int i)] m Q:=⟨t,ts,ds,e1,e2,e3,e4,j,d,⟨b1,b2⟩,ej,ed,h⟩
theorem CF {k:Nat} {p:List Nat} {t d:PyData} {ts ds:List PyData} (e1:m.os[k]? = some [t]) (e2:getT t p = some (.list ts)) (e3:cA ts = some ds) (e4:okW t p = true) (ed:ds[ds.length - 1]? = some d) (h:Q (.imm d) { m with os:=m.os.set k [setT t p (.list (ds.dropLast.map lfD))] }):yY (.at k p) [] m Q:=⟨rfl,t,ts,ds,e1,e2,e3,e4,d,ed,h⟩
theorem iR {k:Nat} {p:List Nat} {t t':PyData} {ts:List PyData} {i:Int} {j:Nat} {Kr:R→Prop} (e1:m.os[k]? = some [t]) (e2:getT t p = some (.list ts)) (e3:ixN ts.length i = some j) (e4:ts[j]? = some t') (h:Kr (dy k p j t')):ph (.at k p) (.imm (.int i)) m Kr:=⟨t,ts,j,t',e1,e2,e3,e4,h⟩
end
section
variable {X:Cx} {o e e2:Expr} {es:List Expr} {wo:WE} {ws:WA} {apos cpos:Pos}
def DK (K:Kd) (to:TE) (t:TA):TE:=fun σ H Q=>to σ H fun x H1=>∃ a kvs0,x = .ref a∧IsDc K H1 a kvs0∧t σ H1 fun xs H2=>∃ kvs k y z,xs = [y,z]∧IsDc K H2 a kvs∧oneK kvs k = true∧Den K H2 k y∧∀ v,((∃ d,dA k kvs = some d∧Den K H2 d v)∨(dA k kvs = none∧v = z))→Q v H2
theorem vE {to:TE} {t:TA} (hu:X.A.units + 64 < cLine) (ho:PE X o to) (ha:PA X (e :: es) t)
  (hbase:attributeBase o "get" X.env (eval o X.env) = eval o X.env:=by rfl)
  (hfew:((backTo cpos (starEach (e :: es) X.env)).all (fun x=>!x.1) && (backToKw cpos (keywordEach [] X.env)).all (fun x=>x.1.isSome)
   && decide ((e :: es).length + ([]:List Keyword).length + (if ([]:List Keyword).isEmpty then 0 else 1) < 30)) = true:=by rfl)
  (hline:(apos.endLine == cpos.line) = true:=by rfl) (hs:starEach (e :: es) X.env = (false,eval e X.env) :: starEach es X.env:=by rfl) (hplain:(backTo cpos (starEach es X.env)).any (·.1) = false:=by rfl) :
  PE X (.Call (.Attribute o "get" apos) (e :: es) [] cpos) (DK X.kd to t):=by
 intro pins s σ H Q I h
 refine wpAny_Call_method_late hbase hfew hline rfl (thn (ho pins s σ H _ I h) fun v s1 ⟨x,H1,I1,r1,q1⟩=>?_)
 obtain ⟨a,kvs0,rfl,dc0,q1⟩:=q1
 cases (show v = Value.ref a from r1)
 obtain ⟨h1,h2⟩:=I1.dcT dc0
 refine ⟨"dict", "dict.get",PySem.F.plainAttrs_dict,PySem.F.slot_dict_get,PySem.F.type_dict_get,h1,h2,?_⟩
 have hA:=ha cpos pins s1 σ H1 _ I1 q1
 rw [hs] at hA ⊢
 refine Calls.callWith_builtin (by show (false || (backTo cpos (starEach es X.env)).any (·.1)) = false; rw [hplain] <;> rfl) (Calls.evalArgs_plain ?_)
 refine thn hA fun us s2 ⟨vs,H2,I2,r2,q2⟩=>?_
 obtain ⟨kvs,k,y,z,rfl,dc,ok,hk,fin⟩:=q2
 cases r2 with
 | cons ry r2 =>
  cases r2 with
  | cons rz r2 =>
   cases r2
   exact xU hu I2 dc ok hk ry rz fun v w' s' I' rv hv=>⟨v,H2,I',rv,fin v hv⟩
def rB (wo:WE) (ws:WA):WE:=fun m K=>wo m fun ro m1=>∃ kvs0,dcM m1 kvs0 ro∧(isKd kvs0 = true∨kyA kvs0 = true)∧ws m1 fun rs m2=>∃ kvs k z,rs = [.imm k,.imm z]∧dcM m2 kvs ro∧oneK kvs k = true∧K (.imm ((dA k kvs).getD z)) m2
theorem v5 (hu:X.A.units + 64 < cLine) (ho:ME X o wo) (ha:MA X (e :: es) ws)
  (hbase:attributeBase o "get" X.env (eval o X.env) = eval o X.env:=by rfl)
  (hfew:((backTo cpos (starEach (e :: es) X.env)).all (fun x=>!x.1) && (backToKw cpos (keywordEach [] X.env)).all (fun x=>x.1.isSome)
   && decide ((e :: es).length + ([]:List Keyword).length + (if ([]:List Keyword).isEmpty then 0 else 1) < 30)) = true:=by rfl)
  (hline:(apos.endLine == cpos.line) = true:=by rfl) (hs:starEach (e :: es) X.env = (false,eval e X.env) :: starEach es X.env:=by first | exact aU rfl | rfl) (hplain:(backTo cpos (starEach es X.env)).any (·.1) = false:=by rfl) :
  ME X (.Call (.Attribute o "get" apos) (e :: es) [] cpos) (rB wo ws):=(vE hu ho ha hbase hfew hline hs hplain).wk fun σ H Q ⟨α,m,Kc,Rl,hw,fin⟩=>by
 refine ⟨α,m,_,Rl,hw,fun r m1 v H1 k n1 Rl1 rr F1=>?_⟩
 obtain ⟨kvs0,e0,k0,k⟩:=k
 obtain ⟨a,rfl,dc0⟩:=RelR.dc Rl1 rr e0 k0
 refine ⟨a,kvs0,rfl,dc0,α,m1,_,Rl1,k,fun rs m2 vs H2 k2 n2 Rl2 rr2 F2=>?_⟩
 obtain ⟨kvs,kk,z,rfl,e1,ok,k2⟩:=k2
 have hk:isKd kvs = true∨kyA kvs = true:=by
  rcases uf ok with z | z
  ·exact .inl z.1
  ·exact .inr z.1
 obtain ⟨a',ea,dc⟩:=RelR.dc Rl2 (rr.keep Rl Rl1 F2) e1 hk
 cases ea
 cases rr2 with
 | cons hy rr2 =>
  cases rr2 with
  | cons hz rr2 =>
   cases rr2
   refine ⟨kvs,kk,_,_,rfl,dc,ok,hy,fun v hv=>fin _ m2 v H2 k2 (n2.trans n1) Rl2 ?_ (F1.trans F2)⟩
   rcases hv with ⟨d,ed,hd⟩ | ⟨ed,rfl⟩
   ·rw [ed]; exact hd
   ·rw [ed]; exact hz
theorem lY (hu:X.A.units + 64 < cLine) (ho:EE X o wo) (ha:EA X (e :: es) ws)
  (hbase:attributeBase o "get" X.env (eval o X.env) = eval o X.env:=by rfl)
  (hfew:((backTo cpos (starEach (e :: es) X.env)).all (fun x=>!x.1) && (backToKw cpos (keywordEach [] X.env)).all (fun x=>x.1.isSome)
   && decide ((e :: es).length + ([]:List Keyword).length + (if ([]:List Keyword).isEmpty then 0 else 1) < 30)) = true:=by rfl)
  (hline:(apos.endLine == cpos.line) = true:=by rfl) (hs:starEach (e :: es) X.env = (false,eval e X.env) :: starEach es X.env:=by first | exact aU rfl | rfl) (hplain:(backTo cpos (starEach es X.env)).any (·.1) = false:=by rfl) :
  EE X (.Call (.Attribute o "get" apos) (e :: es) [] cpos) (rB wo ws):=⟨v5 hu ho.h ha.h hbase hfew hline hs hplain⟩
end
section
variable {X:Cx} {iter:Expr} {wo:WE} {w:WS} {body:List Stmt} {pos np:Pos} {x:Str} {i0:Nat}
def zy (wo:WE) (i0:Nat) (w:WS):WS:=fun D m=>wo m fun r m1=>onAt (fun k p=>∃ t ts,m1.os[k]? = some [t]∧getT t p = some (.list ts)∧iw ⟨k,p,t,ts⟩ i0 w D m1) r
theorem Ah (hi:ME X iter wo) (hg:PG X (.Name x np) (gQ i0)) (hb:MSs X body w) (hp:PassesOwn (model X.prog X.w) X.A X.env X.xe) (hc:X.calm = true:=by rfl)
  (hs:∀ x,foldedSetIterable iter X.env x = pure x:=by intro _; rfl):MS X (.For (.Name x np) iter body [] pos) (zy wo i0 w):=(wx hp hc (o4 (tg:=.Name x np) hi) hg hb hs).wk fun D σ H ⟨α,m,De,Rl,hw,k⟩=>by
 refine ⟨α,m,_,Rl,hw,fun r m1 v H1 q n1 Rl1 rr F1=>?_⟩
 obtain ⟨kk,p,τ,a,rfl,e1,e2,rfl,t,ts,e3,e4,q⟩:=kq rr q
 obtain ⟨xs,hx,gx⟩:=Rl1.listN e1 e2 e3 e4
 refine ⟨a,rfl,.inl ⟨⟨xs,SqL.of hx⟩,?_⟩⟩
 exact pz Rl1 ⟨e4,τ,a,e1,e2,rfl⟩ q (by rw [n1]; exact k.ext (.of Rl1 F1)) fun α' m' σ' H' De' D' _ _ R' h' k'=>⟨α',m',De',R',h',k'⟩
structure EGi (X:Cx) (t:Expr) (i0:Nat):Prop where
 h:PG X t (gQ i0)
theorem mr (hN:X.N.Nodup) (hi:X.N[i0]? = some x) (hx:Loc X.env.scope x) (hf:X.fn x = true∨X.env.scope.names.lookup x = some .local:=by first | exact .inl rfl | exact .inr rfl | assumption):EGi X (.Name x pos) i0:=⟨nC hN hi hx hf⟩
theorem p6 (hi:EE X iter wo) (hg:EGi X (.Name x np) i0) (hb:ESs X body w) (hp:PassesOwn (model X.prog X.w) X.A X.env X.xe) (hc:X.calm = true:=by rfl)
  (hs:∀ x,foldedSetIterable iter X.env x = pure x:=by intro _; rfl):ES X (.For (.Name x np) iter body [] pos) (zy wo i0 w):=⟨Ah hi.h hg.h hb.h hp hc hs⟩
theorem xu {D:d9} {m:MSt} (h:wo m fun r m1=>onAt (fun k p=>∃ t ts,m1.os[k]? = some [t]∧getT t p = some (.list ts)∧iw ⟨k,p,t,ts⟩ i0 w D m1) r):zy wo i0 w D m:=h
theorem sU {ws:WA} {m:MSt} {Q:R→MSt→Prop} (h:wo m fun ro m1=>∃ kvs0,dcM m1 kvs0 ro∧(isKd kvs0 = true∨kyA kvs0 = true)∧ws m1 fun rs m2=>∃ kvs k z,rs = [.imm k,.imm z]∧dcM m2 kvs ro∧oneK kvs k = true∧Q (.imm ((dA k kvs).getD z)) m2):rB wo ws m Q:=h
end
end L2
namespace K
open PySem L2
local macro_rules | `(tactic| walk_at "x1") => `(tactic| first
 | with_reducible apply iG | with_reducible apply Fc | ((with_reducible refine' zH ?xe ?_); (case xe=>rfl)) | with_reducible apply x_c
 | with_reducible apply DG | with_reducible apply wY | with_reducible apply yw | with_reducible apply zK | with_reducible apply yr | with_reducible apply Io
 | with_reducible apply C7 | with_reducible apply Dl | with_reducible apply x_lt | with_reducible apply x_le | with_reducible apply x_gt | with_reducible apply x_ge | with_reducible apply FQ | with_reducible apply Gw | with_reducible apply E9 | with_reducible apply CK | with_reducible apply x_isT | ((with_reducible refine' x_nd ?xe ?_); (case xe=>first | rfl | assumption)) | with_reducible apply x_rev | with_reducible apply x_min | with_reducible apply x_max | ((with_reducible refine' Gc ?_)) | with_reducible apply AE | with_reducible apply x_mt | with_reducible apply x_ts
 | ((with_reducible refine' bp ?xe ?_); (case xe=>rfl)) | ((with_reducible refine' e9 ?xf ?xe ?_); (case xf=>rfl); (case xe=>rfl)) | ((with_reducible refine' nr ?xe ?_); (case xe=>rfl)) | ((with_reducible refine' js ?xe ?_); (case xe=>rfl))
 | ((with_reducible refine' uO ?xe ?_); (case xe=>omega)) | ((with_reducible refine' BA ?xe ?_); (case xe=>exact cfd (by omega) (by omega))) | ((with_reducible refine' zf ?xe ?_); (case xe=>exact GI (by omega))) | ((with_reducible refine' Ik ?xe ?_); (case xe=>exact ⟨by decide,by decide,by decide⟩))
 | with_reducible apply uK | with_reducible apply gF | with_reducible apply x_bindO | with_reducible apply FO | with_reducible apply F9 | with_reducible apply Bg
 | with_reducible apply Dv | ((with_reducible refine' qz ?xe ?xf ?_); (case xe=>rfl); (case xf=>rfl))
 | with_reducible apply FI | with_reducible apply x_or | with_reducible apply Fj | with_reducible apply Bz | with_reducible apply x_orV | with_reducible apply x_notV
 | with_reducible apply Cw | with_reducible apply Fu | with_reducible apply x_cb | with_reducible apply BW | ((with_reducible refine' FM ?xe ?xf ?_); (case xe=>rfl); (case xf=>decide))
 | with_reducible apply Gf | with_reducible apply Ii | ((with_reducible refine' Gj ?xe ?xf ?_); (case xe=>rfl); (case xf=>exact of_decide_eq_true rfl)) | with_reducible apply Ij
 | with_reducible apply Az | with_reducible apply CV | with_reducible apply vM | with_reducible apply Bu | with_reducible apply x_disp | with_reducible apply AZ | with_reducible apply yX | with_reducible apply j6 | with_reducible apply x_bindA | ((with_reducible refine' CI ?xa ?xb ?xc ?xd ?xe ?_); (case xa=>rfl); (case xb=>rfl); (case xc=>rfl); (case xd=>rfl); (case xe=>rfl)) | ((with_reducible refine' yH ?xa ?xb ?xc ?xd ?xe ?_); (case xa=>rfl); (case xb=>rfl); (case xc=>rfl); (case xd=>rfl); (case xe=>rfl)) | ((with_reducible refine' x6 ?xa ?xb ?xc ?xd ?xe ?xf ?_); (case xa=>rfl); (case xb=>rfl); (case xc=>rfl); (case xd=>rfl); (case xe=>exact of_decide_eq_true rfl); (case xf=>rfl)) | ((with_reducible refine' x_onPairs ?xa ?xb ?xc ?xd ?_); (case xa=>rfl); (case xb=>rfl); (case xc=>exact of_decide_eq_true rfl); (case xd=>rfl))
 | with_reducible apply x_callX | ((with_reducible refine' x_agsX ?xe ?xf ?_); (case xe=>rfl); (case xf=>decide)) | with_reducible apply x_raise | with_reducible apply x_raiseI | with_reducible apply x_excI | with_reducible apply x_excP | with_reducible apply x_xf | with_reducible apply x_isX | with_reducible apply x_isXs | ((with_reducible refine' x_rz ?xe ?_); (case xe=>exact of_decide_eq_true rfl))
 | ((with_reducible refine' x_onAgs ?xa ?xb ?_); (case xa=>rfl); (case xb=>decide)) | with_reducible apply x_tupR | with_reducible apply x_dixD | with_reducible apply x_immT | with_reducible apply x_fsC | with_reducible apply x_fsN | with_reducible apply x_trI | with_reducible apply x_trN | with_reducible apply x_trT | with_reducible apply x_fldI | ((with_reducible refine' x_fgot ?xa ?xb ?xc ?xd ?xe ?_); (case xa=>rfl); (case xb=>rfl); (case xc=>rfl); (case xd=>rfl); (case xe=>rfl)) | ((with_reducible refine' x_fgotN ?xa ?xb ?xc ?xd ?xe ?_); (case xa=>rfl); (case xb=>rfl); (case xc=>rfl); (case xd=>rfl); (case xe=>rfl)) | with_reducible apply x_meth | ((with_reducible refine' x_insR ?xa ?xb ?xc ?_); (case xa=>rfl); (case xb=>rfl); (case xc=>rfl)) | with_reducible apply x_make | ((with_reducible refine' x_onImms ?xa ?_); (case xa=>rfl)) | with_reducible apply x_reps | with_reducible apply x_dputT | with_reducible apply A8 | with_reducible apply yg | with_reducible apply GC | ((with_reducible refine' qj ?xa ?xb ?xc ?_); (case xa=>rfl); (case xb=>rfl); (case xc=>exact of_decide_eq_true rfl))
 | with_reducible apply x_un | with_reducible apply FV | with_reducible apply Ie | with_reducible apply x_intI | with_reducible apply Cj
 | with_reducible apply G9 | with_reducible apply Dk | with_reducible apply Ci | ((with_reducible refine' Cv ?xe ?_); (case xe=>rfl)) | with_reducible apply x_lenN
 | with_reducible apply FY | with_reducible apply FJ | with_reducible apply D9 | with_reducible apply x_retN | with_reducible apply x_chain
 | with_reducible apply x_ml | ((with_reducible refine' x_ls ?xe ?_); (case xe=>rfl))
 | with_reducible apply x_isN | with_reducible apply x_isB | with_reducible apply u8
 | with_reducible apply x_gM | with_reducible apply Bh | with_reducible apply zp | with_reducible apply Cg
 | ((with_reducible refine' yC ?xe ?_); (case xe=>rfl)) | with_reducible apply BU | ((with_reducible refine' DT ?xe ?_); (case xe=>rfl)) | ((with_reducible refine' yu ?xe ?_); (case xe=>rfl)) | with_reducible apply yk
 | with_reducible apply x_sl | with_reducible apply vk | with_reducible apply DI
 | with_reducible apply Fq | with_reducible apply B9 | with_reducible apply Db | with_reducible apply Bj | ((with_reducible refine' Da ?xe ?_); (case xe=>rfl)) | with_reducible apply Bx | with_reducible apply x_rng2
 | with_reducible apply xR | with_reducible apply x_comp2 | with_reducible apply Im | with_reducible apply vW | with_reducible apply DE | with_reducible apply db | with_reducible apply bV)
local macro_rules | `(tactic| walk_at "xs") => `(tactic| repeat walk_at "x1")
local macro_rules | `(tactic| walk_at "xn") => `(tactic| first | dsimp only [mapR, cu, List.set, MSt.setV, MSt.setN, List.take, List.length, List.append, dI, kU, Nat.reduceAdd, List.getD_cons_succ, List.getD_cons_zero, List.nil_append, List.cons_append, setT, lfD] | dsimp only [mapR, cu, List.set, MSt.setV, MSt.setN, List.take, List.length, List.append, dI, kU, Nat.reduceAdd, List.getD_cons_succ, List.getD_cons_zero, List.nil_append, List.cons_append] | skip)
local macro_rules | `(tactic| walk_at "sc") => `(tactic| exact ⟨rfl, rfl, rfl, by decide +kernel, rfl, by decide +kernel, by decide +kernel⟩)
local macro_rules | `(tactic| walk_at "xx") => `(tactic| (walk_at "xn"; walk_at "xs"))
def top (i:Nat):Stmt:=PySem.Challenge.pw_shorterline_k13_how_long_each_stayed.main.body.getD i (.Pass ⟨0,0,0,0⟩)
abbrev j4:Stmt:=top 1
abbrev de:Stmt:=top 3
abbrev c7:Stmt:=top 5
abbrev kW:Stmt:=top 6
abbrev c9:Stmt:=top 7
abbrev jY:Stmt:=top 8
abbrev fq:Stmt:=top 10
abbrev g9:Stmt:=top 11
abbrev kj:Stmt:=top 12
abbrev ka:Stmt:=top 13
abbrev d5:Stmt:=top 14
abbrev j8:Stmt:=top 15
abbrev fh:Stmt:=top 16
abbrev lg:Stmt:=top 17
abbrev jw:Stmt:=top 18
abbrev du:Stmt:=top 20
abbrev bP:Stmt:=top 21
abbrev dm:Stmt:=top 22
abbrev ft:Stmt:=top 23
abbrev dG:Stmt:=top 24
abbrev on:Stmt:=top 25
abbrev kw:Stmt:=top 26
abbrev uH:Stmt:=top 27
abbrev ii:Stmt:=top 29
abbrev h8:Stmt:=top 30
abbrev dn:Stmt:=top 31
abbrev jz:Stmt:=top 32
abbrev dF:Stmt:=top 33
abbrev gy:Stmt:=top 34
abbrev fI:Stmt:=top 35
abbrev gH:Stmt:=top 36
abbrev fw:Stmt:=top 37
abbrev dL:Stmt:=top 38
abbrev gI:Stmt:=top 39
abbrev gq:Stmt:=top 40
abbrev iP:Stmt:=top 41
abbrev cB:Stmt:=top 42
abbrev slaw:Stmt:=top 43
structure Bl (mg:Str→Option Value):Prop where
 len:mg "len" = none
 abs:mg "abs" = none
 range:mg "range" = none
 list:mg "list" = none
 tuple:mg "tuple" = none
 int:mg "int" = none
 sum:mg "sum" = none
 zip:mg "zip" = none
 min:mg "min" = none
 max:mg "max" = none
 enumerate:mg "enumerate" = none
 repr:mg "repr" = none
theorem sy:aB ["one", "other"] ["one", "other"] (ab j4):=by walk_at "sc"
theorem scplace_of_lines:aB ["hall", "lines", "place", "many", "server"] ["hall", "lines"] (ab de):=by walk_at "sc"
theorem scfirst_shortest:aB ["lines", "order", "best", "line"] ["lines", "order"] (ab c7):=by walk_at "sc"
theorem scwait_at:aB ["hall", "lines", "line", "top", "bottom"] ["hall", "lines", "line"] (ab kW):=by walk_at "sc"
theorem scfirst_quickest:aB ["hall", "lines", "order", "best", "least", "line", "wait"] ["hall", "lines", "order"] (ab c9):=by walk_at "sc"
theorem scsent_to:aB ["hall", "rule", "stand", "order", "lines", "turn", "word"] ["hall", "rule", "stand", "order"] (ab jY):=by walk_at "sc"
theorem lb:aB ["hall"] ["hall"] (ab fq):=by walk_at "sc"
theorem m6:aB ["lines", "line", "more"] ["lines", "line", "more"] (ab g9):=by walk_at "sc"
theorem sN:aB ["hall", "lines", "line"] ["hall", "lines", "line"] (ab kj):=by walk_at "sc"
theorem sf:aB ["lines", "line"] ["lines", "line"] (ab ka):=by walk_at "sc"
theorem iy:aB ["hall", "lines"] ["hall", "lines"] (ab d5):=by walk_at "sc"
theorem scsettled:aB ["hall", "lines", "shift"] ["hall", "lines"] (ab j8):=by walk_at "sc"
theorem kH:aB ["hall", "rule", "turn"] ["hall", "rule", "turn"] (ab fh):=by walk_at "sc"
theorem t7:aB ["hall", "rule", "stand", "move"] ["hall", "rule", "stand", "move"] (ab lg):=by walk_at "sc"
theorem scmoved_on:aB ["hall", "rule", "stand", "move", "lines", "turn", "word", "line"] ["hall", "rule", "stand", "move"] (ab jw):=by walk_at "sc"
theorem sccounts_behind:aB ["counts", "word", "came", "taken", "away", "served"] ["counts", "word"] (ab du):=by walk_at "sc"
theorem scaskers_settled:aB ["hall", "askers", "shift", "longest", "void"] ["hall", "askers"] (ab bP):=by walk_at "sc"
theorem scaskers_behind:aB ["hall", "askers", "line", "word", "number"] ["hall", "askers", "line", "word", "number"] (ab dm):=by walk_at "sc"
theorem j7:aB ["hall"] ["hall"] (ab ft):=by walk_at "sc"
theorem scscene_behind:aB ["hall", "rule", "scene", "move", "stand", "counts", "askers", "line", "behind", "word"] ["hall", "rule", "scene", "move"] (ab dG):=by walk_at "sc"
theorem scwalked:aB ["hall", "rule", "run", "stands", "move"] ["hall", "rule", "run"] (ab on):=by walk_at "sc"
theorem sccounted:aB ["hall", "rule", "run", "stand", "counts", "move", "word"] ["hall", "rule", "run"] (ab kw):=by walk_at "sc"
theorem scstays:aB ["hall", "rule", "run", "scene", "found", "at", "move", "left", "ahead", "word", "number"] ["hall", "rule", "run"] (ab uH):=by walk_at "sc"
theorem n5:aB ["_law_script"] ["_law_script"] (ab ii):=by walk_at "sc"
theorem sc_law_draw:aB ["_law_feed_here", "_law_many", "_law_found", "_law_cell", "_law_mixed"] ["_law_feed_here", "_law_many"] (ab h8):=by walk_at "sc"
theorem sc_law_shuffled:aB ["_law_feed_here", "_law_some", "_law_left", "_law_found", "_law_k"] ["_law_feed_here", "_law_some"] (ab dn):=by walk_at "sc"
theorem sc_law_cut:aB ["_law_top", "_law_bottom", "_law_one", "_law_other"] ["_law_top", "_law_bottom"] (ab jz):=by walk_at "sc"
theorem sc_law_hall:aB ["_law_feed_here", "_law_most", "_law_many", "_law_way", "_law_first", "_law_heavy", "_law_wide", "_law_servers", "_law_k", "_law_one", "_law_come", "_law_rest", "_law_whole", "_law_told"] ["_law_feed_here", "_law_most"] (ab dF):=by walk_at "sc"
theorem sc_law_all:aB ["_law_hall_here", "_law_found", "_law_speed", "_law_room", "_law_longer", "_law_lines"] ["_law_hall_here"] (ab gy):=by walk_at "sc"
theorem sc_law_rule:aB ["_law_feed_here", "_law_hall_here", "_law_word"] ["_law_feed_here", "_law_hall_here"] (ab fI):=by walk_at "sc"
theorem sc_law_sent:aB ["_law_hall_here", "_law_rule_here", "_law_lines", "_law_turn", "_law_order", "_law_some", "_law_ranked", "_law_k", "_law_price", "_law_best", "_law_one", "_law_before", "_law_now"] ["_law_hall_here", "_law_rule_here", "_law_lines", "_law_turn", "_law_order"] (ab gH):=by walk_at "sc"
theorem sc_law_go:aB ["_law_hall_here", "_law_rule_here", "_law_world_here", "_law_move_here", "_law_word", "_law_lines", "_law_line", "_law_sizes", "_law_asker"] ["_law_hall_here", "_law_rule_here", "_law_world_here", "_law_move_here"] (ab fw):=by walk_at "sc"
theorem lm:aB ["_law_hall_here"] ["_law_hall_here"] (ab dL):=by walk_at "sc"
theorem sc_law_move:aB ["_law_feed_here", "_law_hall_here", "_law_way", "_law_many", "_law_kind", "_law_word"] ["_law_feed_here", "_law_hall_here", "_law_way"] (ab gI):=by walk_at "sc"
theorem sc_law_run:aB ["_law_feed_here", "_law_hall_here", "_law_many", "_law_way"] ["_law_feed_here", "_law_hall_here", "_law_many"] (ab gq):=by walk_at "sc"
theorem sc_law_due:aB ["_law_hall_here", "_law_rule_here", "_law_run_here", "_law_world_here", "_law_there", "_law_move_here", "_law_line", "_law_asker", "_law_found"] ["_law_hall_here", "_law_rule_here", "_law_run_here"] (ab iP):=by walk_at "sc"
theorem sc_law_right:aB ["_law_hall_here", "_law_rule_here", "_law_run_here", "_law_kept", "_law_told", "_law_there", "_law_came", "_law_taken", "_law_away", "_law_served", "_law_left"] ["_law_hall_here", "_law_rule_here", "_law_run_here"] (ab cB):=by walk_at "sc"
theorem sclaw:aB ["_law_script", "_law_feed_here", "_law_k", "_law_hall_here", "_law_rule_here", "_law_many"] ["_law_script"] (ab slaw):=by walk_at "sc"
def wT (A:List (List Nat)) (t c:Nat) (aw go:List Nat):PyData:=.dict [(.str "lines",.list (A.map fun x=>.list (natD x))),(.str "turn",.int (t:Int)),(.str "came",.int (c:Int)),(.str "away",.list (natD aw)),(.str "gone",.list (natD go))]
def r4:SpM:=fun as K=>∃ h:Hall,as = [.imm h.d]∧h.Ok∧K (.newT (wT (List.replicate h.ss.length []) 0 0 [] [])) []
def awB (aw:List Nat) (w:Wd) (c:Nat):List Nat:=match w with
 | .away=>aw++[c]
 | _=>aw
def goB (go:List Nat) (w:Wd) (n:Nat):List Nat:=match w with
 | .served=>go++[n]
 | _=>go
def AV:SpM:=fun as K=>∃ (h:Hall) (r:Rule) (x:Sc) (aw go:List Nat) (mv:Mv),as = [.imm h.d,.imm r.d,.tr (wT x.A x.t x.c.c aw go),.imm mv.d]∧h.Ok∧r.Ok h∧x.Ok h r∧mv.Ok h∧x.c.c≤10000∧go.length≤10000∧aw.length≤10000 ∧
 K (.imm (.str (wdOf h r x mv).s)) [[wT (x.nx h r mv).A (x.nx h r mv).t (x.nx h r mv).c.c (awB aw (wdOf h r x mv) x.c.c) (goB go (wdOf h r x mv) (dg h r x mv))]]
theorem ma {A:List (List Nat)} {i:Nat} (h:i < A.length):(A.map fun x=>PyData.list (natD x))[i]? = some (.list (natD (A.getD i []))):=by
 rw [List.getElem?_map,aD (List.getElem?_eq_getElem h),List.getElem?_eq_getElem h]; rfl
theorem fW {A:List (List Nat)} {t c:Nat} {aw go:List Nat} {i:Nat} (h:i < A.length):getT (wT A t c aw go) [0,i] = some (.list (natD (A.getD i []))):=by
 show (chD (.list (A.map fun x=>.list (natD x))) i).bind (fun t'=>getT t' []) = _
 have:chD (.list (A.map fun x=>PyData.list (natD x))) i = (A.map fun x=>PyData.list (natD x))[i]?:=rfl
 rw [this,ma h]; rfl
theorem bA (l:List Nat):cA (natD l) = some (natD l):=by
 induction l with
 | nil=>rfl
 | cons x l ih=>show (match iA (.int (x:Int)),cA (natD l) with | some d,some ds=>some (d :: ds) | _,_=>none) = _; rw [ih]; rfl
theorem mQ {A:List (List Nat)} {t c:Nat} {aw go:List Nat} {i:Nat} {vs:List (Option L2.R)} {os:List (List PyData)} {np:Nat} (h:i < A.length):lsOf ⟨vs,[wT A t c aw go] :: os,np⟩ (.at 0 [0,i]) = some (natD (A.getD i [])):=by
 show ndL ⟨vs,[wT A t c aw go] :: os,np⟩ 0 [0,i] = _
 unfold ndL
 show (match getT (wT A t c aw go) [0,i] with | some (.list ts)=>cA ts | _=>none) = _
 rw [fW h]
 exact bA _
theorem uR {A:List (List Nat)} {i:Nat} (h:i < A.length):natD ((szs A).take (i + 1)) = natD ((szs A).take i)++[.int ((A.getD i []).length:Int)]:=by
 have e:(szs A)[i]? = some (A.getD i []).length:=by
  unfold szs
  rw [List.getElem?_map,aD (List.getElem?_eq_getElem h),List.getElem?_eq_getElem h]; rfl
 rw [List.take_succ,e]
 unfold natD
 rw [List.map_append]; rfl
theorem D5 {A:List (List Nat)} {t c:Nat} {aw go:List Nat} {Q:L2.R→MSt→Prop} {vs:List (Option L2.R)} {x:Str} (hA:A.length≤1000) (h:Q (.new (natD (szs A))) ⟨vs,[[wT A t c aw go]],1⟩) :
  ∃ t' ts,(⟨vs,[[wT A t c aw go]],1⟩ : MSt).os[0]? = some [t']∧getT t' ([]++[0]) = some (.list ts)∧iw ⟨0,[]++[0],t',ts⟩ 0 (wIfT i6 (nY (⟨vs,[[wT A t c aw go]],1⟩ : MSt).os.length (wCB oLen (r9 (wVar 0) wNil)))) { nx:=fun m'=>Q (.new (m'.os.getD (⟨vs,[[wT A t c aw go]],1⟩ : MSt).os.length [])) { vs:=(⟨vs,[[wT A t c aw go]],1⟩ : MSt).vs,os:=m'.os.take (⟨vs,[[wT A t c aw go]],1⟩ : MSt).os.length,np:=(⟨vs,[[wT A t c aw go]],1⟩ : MSt).np },rt:=fun _ _=>False } (dI [x] [] ⟨vs,[[wT A t c aw go]],1⟩):=by
 refine ⟨wT A t c aw go,A.map fun x=>.list (natD x),rfl,rfl,?_⟩
 refine mW (fun i m=>∃ a,m = MSt.mk [a] [[wT A t c aw go],natD ((szs A).take i)] 2) ⟨none,rfl⟩ ?_ ?_
 ·rintro i t' m e hnp ⟨a,rfl⟩
  refine ⟨rfl,?_⟩
  have hi:i < A.length:=by
   have:=(List.getElem?_eq_some_iff.mp e).1
   simpa using this
  have et:t' = .list (natD (A.getD i [])):=by
   have e':(A.map fun x=>PyData.list (natD x))[i]? = some t':=e
   rw [ma hi] at e'
   exact (Option.some.inj e').symm
  subst et
  walk_at "xs"
  refine ⟨natD (A.getD i []),mQ hi,?_⟩
  walk_at "xs"
  refine ⟨_,rfl,?_,some (.at 0 [0,i]),?_⟩
  ·unfold natD; rw [List.length_map,List.length_take,sizeLine_eq]; omega
  ·have e2:((natD (A.getD i [])).length:Int) = ((A.getD i []).length:Int):=by unfold natD; rw [List.length_map]
   rw [uR hi,←e2]
   rfl
 ·rintro m hnp ⟨a,rfl⟩
  refine ⟨rfl,?_⟩
  have e:(szs A).take (List.map (fun x=>PyData.list (natD x)) A).length = szs A:=by
   rw [List.length_map,←bw]; exact List.take_length
  have k':=h
  rw [←e] at k'
  exact k'
theorem nU {A:List (List Nat)} {t c i:Nat} {aw go:List Nat} {Q:L2.R→MSt→Prop} {vs:List (Option L2.R)} {x:Str} (e:vs[i]? = some (some (.at 0 []))) (hA:A.length≤1000) (h:Q (.new (natD (szs A))) ⟨vs,[[wT A t c aw go]],1⟩) :
  ji (wDIx (wVar i) (wC (.str "lines"))) [x] [] i6 (wCB oLen (r9 (wVar 0) wNil)) ⟨vs,[[wT A t c aw go]],1⟩ Q:=by
 refine vA (Az (zH e ?_))
 walk_at "xs"
 exact D5 (Q:=Q) hA h
theorem oh (l:List Nat):(natD l).map lfD = natD l:=by
 unfold natD
 rw [List.map_map]; rfl
theorem pH {A:List (List Nat)} {t c i:Nat} {aw go x:List Nat}:setT (wT A t c aw go) [0,i] (.list ((natD x).map lfD)) = wT (A.set i x) t c aw go:=by
 rw [oh]
 unfold wT
 rw [List.map_set]
 rfl
theorem o6 {A:List (List Nat)} {t c i:Nat} {aw go:List Nat}:okW (wT A t c aw go) [0,i] = true:=by
 show ((isKd _ || _) && okW _ _) = true
 rw [Bool.and_eq_true]
 exact ⟨rfl,rfl⟩
theorem jm:∀ l:List Nat,eraL (natD l) = some (natD l)
 | []=>rfl
 | x :: l=>by
  show (match eraT (.int (x:Int)),eraL (natD l) with | some d,some ds=>some (d :: ds) | _,_=>none) = _
  rw [jm l]; rfl
theorem mj:∀ A:List (List Nat),eraL (A.map fun x=>.list (natD x)) = some (A.map fun x=>.list (natD x))
 | []=>rfl
 | x :: A=>by
  show (match (eraL (natD x)).map PyData.list,eraL (A.map fun x=>.list (natD x)) with | some d,some ds=>some (d :: ds) | _,_=>none) = _
  rw [mj A,jm x]; rfl
theorem Bi {A:List (List Nat)} {t c:Nat} {aw go:List Nat} {vs:List (Option L2.R)} {os:List (List PyData)} {np:Nat}:asD ⟨vs,[wT A t c aw go] :: os,np⟩ (.at 0 [0]) = some (.list (A.map fun x=>.list (natD x))):=by
 show (eraL (A.map fun x=>.list (natD x))).map PyData.list = _
 rw [mj]; rfl
theorem z6 {A:List (List Nat)} {t c i:Nat} {aw go:List Nat} {vs:List (Option L2.R)} {os:List (List PyData)} {np:Nat} (h:i < A.length):asD ⟨vs,[wT A t c aw go] :: os,np⟩ (.at 0 [0,i]) = some (.list (natD (A.getD i []))):=by
 show (match ndT ⟨vs,[wT A t c aw go] :: os,np⟩ 0 [0,i] with | some (.list ts)=>(eraL ts).map PyData.list | _=>none) = _
 have:ndT ⟨vs,[wT A t c aw go] :: os,np⟩ 0 [0,i] = getT (wT A t c aw go) [0,i]:=rfl
 rw [this,fW h]
 show (eraL (natD (A.getD i []))).map PyData.list = _
 rw [jm]; rfl
theorem rg (A:List (List Nat)):∀ y∈A.map fun x=>PyData.list (natD x),Shp 1 y:=fun y hy=>by
 obtain ⟨x,_,rfl⟩:=List.mem_map.mp hy
 exact kf (k:=0) (bW x)
theorem nq (x:List Nat):PyData.eqv (.list (natD x)) (.list []) = decide (x.length = 0):=by
 cases x with
 | nil=>rfl
 | cons a x=>rfl
theorem u7 (A:List (List Nat)):(A.map fun x=>PyData.list (natD x)).any (fun y=>PyData.eqv y (.list [])) = decide (0∈szs A):=by
 rw [Bool.eq_iff_iff]
 rw [List.any_eq_true,decide_eq_true_eq]
 constructor
 ·rintro ⟨y,hy,e⟩
  obtain ⟨x,hx,rfl⟩:=List.mem_map.mp hy
  rw [nq,decide_eq_true_eq] at e
  rw [←e]
  exact List.mem_map_of_mem hx
 ·intro h0
  obtain ⟨x,hx,e⟩:=List.mem_map.mp h0
  exact ⟨_,List.mem_map_of_mem hx,by rw [nq]; exact decide_eq_true e⟩
theorem j1 (l:List Nat):(natD l).dropLast = natD l.dropLast:=by
 unfold natD; rw [List.dropLast_eq_take,List.dropLast_eq_take,List.map_take,List.length_map]
theorem f8 (l:List Nat) (x:Nat):natD l++[.int (x:Int)] = natD (l++[x]):=by
 unfold natD; rw [List.map_append]; rfl
theorem oq (l:List Nat):(natD l).eraseIdx 0 = natD (l.drop 1):=by
 cases l <;> rfl
theorem xP {A:List (List Nat)} {t c:Nat} {aw go:List Nat} {vs:List (Option L2.R)} {os:List (List PyData)} {np:Nat}:lsOf ⟨vs,[wT A t c aw go] :: os,np⟩ (.at 0 [4]) = some (natD go):=bA go
theorem yx {A:List (List Nat)} {t c:Nat} {aw go:List Nat} {vs:List (Option L2.R)} {os:List (List PyData)} {np:Nat}:lsOf ⟨vs,[wT A t c aw go] :: os,np⟩ (.at 0 [3]) = some (natD aw):=bA aw
theorem i7 {A:List (List Nat)} {i:Nat} (h:i < A.length):A.getD i []∈A:=by
 rw [aD (List.getElem?_eq_getElem h)]; exact List.getElem_mem h
def rJ:SpM:=fun as K=>∃ (h:Hall) (r:Rule) (R:List Mv),as = [.imm h.d,.imm r.d,.imm (runD R)]∧h.Ok∧r.Ok h∧(∀ mv∈R,mv.Ok2 h)∧R.length≤200∧K (.imm (.bool true)) []
def xg:SpM:=fun as K=>∃ (fd:List PyData) (c:Nat) (h:Hall) (many:Nat),as = [.own fd,.imm h.d,.imm (.int (many:Int))]∧h.Ok∧FeedD c fd∧c < 700000000∧many≤200∧∀ (R:List Mv) (fd':List PyData),R.length = many→(∀ mv∈R,mv.Ok2 h)→FeedD (c + 1300) fd'→K (.imm (runD R)) [fd']
theorem zh {w:Str} (h:w∈(["come", "done", "still"]:List Str)):Fine 90 1 (.str w):=by
 refine ⟨rfl,rfl,?_,Nat.zero_le _⟩
 simp only [List.mem_cons,List.not_mem_nil,or_false] at h
 rcases h with rfl | rfl | rfl <;> decide +kernel
theorem mvF {h:Hall} (ho:h.Ok) {mv:Mv} (hm:mv.Ok2 h):Fine 210 2 mv.d:=by
 have n4:=ho.n4
 cases mv with
 | come o =>
  refine (ba (n:=90) (k:=1) (c:=2) (ds:=[.str "come",lnD o]) (fun d hd=>?_) (by exact Nat.le_refl 2)).mono (by decide) (by decide)
  obtain rfl | hd:=List.mem_cons.mp hd
  ·exact zh (by decide +kernel)
  ·rw [List.mem_singleton.mp hd]
   exact (lV (c:=4) (by have:=hm.2 o rfl; omega) fun x hx=>by have:=hm.1.lt x hx; omega).mono (by decide) (by decide)
 | done k =>
  refine (ba (n:=90) (k:=1) (c:=2) (ds:=[.str "done",.int (k:Int)]) (fun d hd=>?_) (by exact Nat.le_refl 2)).mono (by decide) (by decide)
  obtain rfl | hd:=List.mem_cons.mp hd
  ·exact zh (by decide +kernel)
  ·rw [List.mem_singleton.mp hd]
   have:k < h.ss.length:=hm.1
   exact (fy (by omega)).mono (by decide) (by decide)
 | still =>
  refine (ba (n:=90) (k:=1) (c:=1) (ds:=[.str "still"]) (fun d hd=>?_) (by decide)).mono (by decide) (by decide)
  rw [List.mem_singleton.mp hd]
  exact zh (by decide +kernel)
theorem runF {h:Hall} (ho:h.Ok) {R:List Mv} (hR:∀ mv∈R,mv.Ok2 h) (hl:R.length≤200):Fine 80000 4 (runD R):=by
 refine (ba (n:=210) (k:=2) (c:=200) (fun d hd=>?_) (by rw [List.length_map]; exact hl)).mono (by decide) (by decide)
 obtain ⟨mv,hm,rfl⟩:=List.mem_map.mp hd
 exact mvF ho (hR mv hm)
theorem w4 {h:Hall} (ho:h.Ok) {r:Rule} (hr:r.Ok h) {R:List Mv} (hR:∀ mv∈R,mv.Ok2 h) (hl:R.length≤200):Fine 300000 5 (.list [h.d,r.d,runD R]):=by
 refine (sW (n:=80000) (k:=4) (c:=3) (fun d hd=>?_) (by exact Nat.le_refl 3)).mono (by decide) (by decide)
 obtain rfl | hd:=List.mem_cons.mp hd
 ·exact ho.fine.mono (by decide) (by decide)
 obtain rfl | hd:=List.mem_cons.mp hd
 ·exact (Rule.Ok.fine ho hr).mono (by decide) (by decide)
 ·rw [List.mem_singleton.mp hd]; exact runF ho hR hl
theorem lJ {h:Hall} {r:Rule}:∀ {R:List Mv} {p:List Nat×Nat},(bM h r p R).length = R.length + 1
 | [],_=>rfl
 | mv :: R,p=>by show (bM h r _ R).length + 1 = _; rw [lJ]; rfl
theorem oJ {h:Hall} {r:Rule}:∀ {R:List Mv} {p:List Nat×Nat} {x:Cn},x.t + x.a = x.c→(cP h r p x R).t + (cP h r p x R).a = (cP h r p x R).c
 | [],_,_,h=>h
 | mv :: R,p,x,e=>by
  refine oJ (R:=R) ?_
  cases (bc h r p.1 p.2 mv).2.2 <;> show _ = _ <;> simp only [Cn.b] <;> omega
theorem sg {l:List Nat} {y:Nat} (e:l[l.length - 1]? = some y):l.drop (l.length - 1) = [y]:=by
 have:=(List.getElem?_eq_some_iff.mp e).1
 rw [fi e,show l.length - 1 + 1 = l.length by omega,List.drop_length]
theorem zk {A:List (List Nat)} {p1 p2 y:Nat} (h:p1≠p2) (e0:(A.getD p2 []).length = 0) (e:(A.getD p1 [])[(A.getD p1 []).length - 1]? = some y):(A.set p1 (A.getD p1 []).dropLast).set p2 ((A.set p1 (A.getD p1 []).dropLast).getD p2 []++[y]) = cb A (p1,p2):=by
 have g2:(A.set p1 (A.getD p1 []).dropLast).getD p2 [] = []:=by
  rw [List.getD_eq_getElem?_getD,List.getElem?_set_ne h,←List.getD_eq_getElem?_getD]
  exact List.eq_nil_of_length_eq_zero e0
 unfold cb
 rw [g2,sg e,List.nil_append,List.set_comm _ _ h]
def DB:SpM:=fun as K=>∃ (h:Hall) (r:Rule) (R:List Mv),as = [.imm h.d,.imm r.d,.imm (runD R)]∧h.Ok∧r.Ok h∧(∀ mv∈R,mv.Ok2 h)∧R.length≤200∧K (.imm (.tuple ((bQ h r (sc0 h) [] R).map Fo.d))) []
theorem AG {k:PyData} {z:Int} (h:kdD k = true):PyData.eqv k (.int z) = gj k (.int z):=by
 cases k with
 | int a=>simp only [PyData.eqv,gj]; rw [Bool.beq_eq_decide_eq]
 | str x=>rfl
 | _=>cases h
theorem n9 (z v:Int):∀ {kvs:List (PyData×PyData)},isKd kvs = true→putD (.int z) (.int v) (lfKV kvs) = lfKV (putP (.int z) (.int v) kvs)∧isKd (putP (.int z) (.int v) kvs) = true∧(putP (.int z) (.int v) kvs).length≤kvs.length + 1
 | [],_=>⟨rfl,rfl,Nat.le_refl _⟩
 | (k,d) :: r,h=>by
  rw [dU,List.all_cons,Bool.and_eq_true] at h
  have hr:isKd r = true:=by rw [dU]; exact h.2
  obtain ⟨e1,e2,e3⟩:=n9 z v hr
  have hk:kdD k = true:=h.1
  show putD (.int z) (.int v) ((k,lfD d) :: lfKV r) = _∧_
  unfold putD putP
  rw [AG hk]
  by_cases q:gj k (.int z) = true
  ·rw [if_pos q,if_pos q]
   refine ⟨rfl,?_,?_⟩
   ·rw [dU,List.all_cons,Bool.and_eq_true]; exact h
   ·simp
  ·rw [if_neg q,if_neg q]
   refine ⟨?_,?_,?_⟩
   ·rw [e1]; rfl
   ·rw [dU,List.all_cons,Bool.and_eq_true]; exact ⟨hk,by rw [←dU]; exact e2⟩
   ·rw [List.length_cons,List.length_cons]; omega
theorem lZ (z v y:Int):∀ {kvs:List (PyData×PyData)},isKd kvs = true→dA (.int y) (putP (.int z) (.int v) kvs) = if y = z then some (.int v) else dA (.int y) kvs
 | [],_=>by
  show (if PyData.eqv (.int z) (.int y) = true then some (PyData.int v) else none) = _
  simp only [PyData.eqv,beq_iff_eq]
  by_cases e:y = z
  ·subst e; simp [dA]
  ·rw [if_neg e,if_neg (fun q=>e q.symm)]; rfl
 | (k,d) :: r,h=>by
  rw [dU,List.all_cons,Bool.and_eq_true] at h
  have hr:isKd r = true:=by rw [dU]; exact h.2
  have ih:=lZ z v y hr
  have hk:kdD k = true:=h.1
  unfold putP
  by_cases q:PyData.eqv k (.int z) = true
  ·rw [if_pos q]
   unfold dA
   have ek:k = .int z:=by
    cases k with
    | int a=>simp only [PyData.eqv,beq_iff_eq] at q; rw [q]
    | str _=>cases q
    | _=>cases hk
   subst ek
   simp only [PyData.eqv,beq_iff_eq]
   by_cases e:y = z
   ·subst e; simp
   ·rw [if_neg e,if_neg (fun q=>e q.symm),if_neg (fun q=>e q.symm)]
  ·rw [if_neg q]
   unfold dA
   rw [ih]
   by_cases e:y = z
   ·subst e
    rw [if_neg q,if_pos rfl,if_pos rfl]
   ·rw [if_neg e,if_neg e]
theorem d6:∀ {A:List (List Nat)} {i:Nat} {x:List Nat},i < A.length→((A.set i x).flatten++A.getD i []).Perm (A.flatten++x)
 | [],_,_,h=>by simp at h
 | a :: A,0,x,_=>by
  show ((x++A.flatten)++a).Perm ((a++A.flatten)++x)
  refine (List.perm_append_comm (l₁:=x++A.flatten) (l₂:=a)).trans ?_
  rw [List.append_assoc]
  exact List.Perm.append_left a List.perm_append_comm
 | a :: A,i + 1,x,h=>by
  have ih:=d6 (A:=A) (i:=i) (x:=x) (by simpa using h)
  show ((a++(A.set i x).flatten)++A.getD i []).Perm ((a++A.flatten)++x)
  rw [List.append_assoc,List.append_assoc]
  exact List.Perm.append_left a ih
theorem qT {A:List (List Nat)} {p1 p2:Nat} (h:p1≠p2) (l1:p1 < A.length) (l2:p2 < A.length) (e0:(A.getD p2 []).length = 0):(cb A (p1,p2)).flatten.Perm A.flatten:=by
 have e2:A.getD p2 [] = []:=List.eq_nil_of_length_eq_zero e0
 have a1:=d6 (A:=A) (x:=(A.getD p1 []).drop ((A.getD p1 []).length - 1)) l2
 rw [e2,List.append_nil] at a1
 have a2:=d6 (A:=A.set p2 ((A.getD p1 []).drop ((A.getD p1 []).length - 1))) (i:=p1) (x:=(A.getD p1 []).dropLast) (by rw [List.length_set]; exact l1)
 have g:(A.set p2 ((A.getD p1 []).drop ((A.getD p1 []).length - 1))).getD p1 [] = A.getD p1 []:=by
  rw [List.getD_eq_getElem?_getD,List.getElem?_set_ne (Ne.symm h),←List.getD_eq_getElem?_getD]
 rw [g] at a2
 have eq:A.getD p1 [] = (A.getD p1 []).dropLast++(A.getD p1 []).drop ((A.getD p1 []).length - 1):=by
  rw [List.dropLast_eq_take,List.take_append_drop]
 have a3:((cb A (p1,p2)).flatten++A.getD p1 []).Perm (A.flatten++A.getD p1 []):=by
  refine a2.trans ((List.Perm.append_right _ a1).trans ?_)
  rw [List.append_assoc]
  apply List.Perm.append_left
  conv=>rhs; rw [eq]
  exact List.perm_append_comm
 exact (List.perm_append_right_iff _).mp a3
theorem lp {h:Hall}:∀ (n:Nat) (A:List (List Nat)),(askN h n A).flatten.Perm A.flatten
 | 0,A=>List.Perm.refl _
 | n + 1,A=>by
  simp only [askN]
  cases e:br h (szs A) with
  | none=>exact List.Perm.refl _
  | some p =>
   obtain ⟨es,l1,l2,hc,hlen⟩:=c5 e
   obtain ⟨m0,m1,m2,m3,m4⟩:=ce e
   rw [bw] at l1 l2
   have e0:(A.getD p.2 []).length = 0:=by
    have:(szs A).getD p.2 0 = 0:=aD m3
    rwa [e8] at this
   exact (lp n _).trans (qT (p1:=p.1) (p2:=p.2) m4 l1 l2 e0)
theorem i9 (h:Hall) (A:List (List Nat)):(bO h A).flatten.Perm A.flatten:=lp _ _
structure T13 (x:Sc) (F:List Fo) (f:Nat→Nat) (aw go:List Nat) (rem:Nat):Prop where
 ln:F.length = x.c.c
 nd:x.A.flatten.Nodup
 inA:∀ z∈x.A.flatten,z < x.c.c∧F[z]? = some (some (((f z + rem:Nat):Int),false))∧z∉aw∧z∉go
 inW:∀ z∈aw,z < x.c.c∧F[z]? = some none
 inG:∀ z∈go,z < x.c.c∧z∉aw∧F[z]? = some (some ((f z:Int),true))
 all:∀ z,z < x.c.c→z∈aw∨z∈go∨z∈x.A.flatten
 f0:∀ z,x.c.c≤z→f z = 0
def fN (f:Nat→Nat) (L:List Nat):Nat→Nat:=fun z=>f z + L.count z
theorem qe {L:List Nat} (h:L.Nodup) (z:Nat):L.count z = if z∈L then 1 else 0:=by
 by_cases q:z∈L
 ·rw [if_pos q]
  have h1:=List.count_pos_iff.mpr q
  have h2:=List.nodup_iff_count.mp h z
  omega
 ·rw [if_neg q]; exact List.count_eq_zero.mpr q
theorem T13.nx {h:Hall} {r:Rule} (ho:h.Ok) (hr:r.Ok h) {x:Sc} {F:List Fo} {f:Nat→Nat} {aw go:List Nat} {rem:Nat} (X:x.Ok h r) (T:T13 x F f aw go (rem + 1)) {mv:Mv} (hm:mv.Ok h) :
  T13 (x.nx h r mv) (foB F (wdOf h r x mv) (dg h r x mv) (rem + 1)) (fN f (x.nx h r mv).A.flatten) (awB aw (wdOf h r x mv) x.c.c) (goB go (wdOf h r x mv) (dg h r x mv)) rem:=by
 have hA:x.A.length = h.ss.length:=by rw [←bw,X.sz]; exact X.st.ln.1
 have hk:kOf h r x.l x.t mv < x.A.length:=by rw [hA]; exact pC ho hr X.st hm
 have P:(x.nx h r mv).A.flatten.Perm (askB x.A (kOf h r x.l x.t mv) (wdOf h r x mv) x.c.c).flatten:=i9 h _
 have ec:(x.nx h r mv).c = x.c.b (wdOf h r x mv):=rfl
 have ltF:∀ {z:Nat} {q:Fo},F[z]? = some q→z < F.length:=fun e=>(List.getElem?_eq_some_iff.mp e).1
 cases e:wdOf h r x mv with
 | taken =>
  rw [e] at P ec
  have P2:(x.nx h r mv).A.flatten.Perm (x.A.flatten++[x.c.c]):=by
   refine P.trans ?_
   have:=d6 (A:=x.A) (i:=kOf h r x.l x.t mv) (x:=x.A.getD (kOf h r x.l x.t mv) []++[x.c.c]) hk
   have q:((x.A.set (kOf h r x.l x.t mv) (x.A.getD (kOf h r x.l x.t mv) []++[x.c.c])).flatten++x.A.getD (kOf h r x.l x.t mv) []).Perm ((x.A.flatten++[x.c.c])++x.A.getD (kOf h r x.l x.t mv) []):=by
    refine this.trans ?_
    rw [List.append_assoc]
    exact List.Perm.append_left _ List.perm_append_comm
   exact (List.perm_append_right_iff _).mp q
  have cN:x.c.c∉x.A.flatten:=fun q=>by have:=(T.inA _ q).1; omega
  have nd2:(x.A.flatten++[x.c.c]).Nodup:=by
   rw [List.nodup_append]
   exact ⟨T.nd,by simp,fun a ha b hb z=>cN (by rw [List.mem_singleton.mp hb] at z; exact z▸ha)⟩
  have cnt:∀ z,fN f (x.nx h r mv).A.flatten z = f z + if z∈x.A.flatten++[x.c.c] then 1 else 0:=fun z=>by
   unfold fN; rw [P2.count_eq,qe nd2]
  have cc:(x.nx h r mv).c.c = x.c.c + 1:=by rw [ec]; rfl
  have old:∀ {z:Nat} {q:Fo},F[z]? = some q→(F++[some (((rem + 1:Nat):Int),false)])[z]? = some q:=fun z=>by rw [List.getElem?_append_left (ltF z)]; exact z
  refine ⟨by rw [cc]; show (F++[_]).length = _; rw [List.length_append,T.ln]; rfl,P2.nodup_iff.mpr nd2,fun z hz=>?_,fun z hz=>?_,fun z hz=>?_,fun z hz=>?_,fun z hz=>?_⟩
  ·have hz':=P2.mem_iff.mp hz
   rw [cnt z,if_pos hz']
   rcases List.mem_append.mp hz' with q | q
   ·obtain ⟨a1,a2,a3,a4⟩:=T.inA z q
    exact ⟨by omega,by rw [show f z + 1 + rem = f z + (rem + 1) by omega]; exact old a2,a3,a4⟩
   ·rw [List.mem_singleton.mp q,T.f0 _ (Nat.le_refl _)]
    refine ⟨by omega,?_,fun q=>?_,fun q=>?_⟩
    ·rw [←T.ln]
     show (F++[_])[F.length]? = _
     rw [List.getElem?_concat_length,show 0 + 1 + rem = rem + 1 by omega]
    ·have:=(T.inW _ q).1; omega
    ·have:=(T.inG _ q).1; omega
  ·obtain ⟨a1,a2⟩:=T.inW z hz
   exact ⟨by omega,old a2⟩
  ·obtain ⟨a1,a2,a3⟩:=T.inG z hz
   have hn:z∉x.A.flatten++[x.c.c]:=fun q=>by
    rcases List.mem_append.mp q with q | q
    ·exact (T.inA z q).2.2.2 hz
    ·rw [List.mem_singleton.mp q] at a1; omega
   rw [cnt z,if_neg hn]
   exact ⟨by omega,a2,old a3⟩
  ·rw [cc] at hz
   rcases Nat.lt_succ_iff_lt_or_eq.mp hz with q | q
   ·rcases T.all z q with a | a | a
    ·exact .inl a
    ·exact .inr (.inl a)
    ·exact .inr (.inr (P2.mem_iff.mpr (List.mem_append_left _ a)))
   ·exact .inr (.inr (P2.mem_iff.mpr (List.mem_append_right _ (by rw [q]; exact List.mem_singleton_self _))))
  ·rw [cc] at hz
   have hn:z∉x.A.flatten++[x.c.c]:=fun q=>by
    rcases List.mem_append.mp q with q | q
    ·have:=(T.inA z q).1; omega
    ·have:=List.mem_singleton.mp q; omega
   rw [cnt z,if_neg hn,T.f0 z (by omega)]
 | away =>
  rw [e] at P ec
  have P2:(x.nx h r mv).A.flatten.Perm x.A.flatten:=P
  have cnt:∀ z,fN f (x.nx h r mv).A.flatten z = f z + if z∈x.A.flatten then 1 else 0:=fun z=>by
   unfold fN; rw [P2.count_eq,qe T.nd]
  have cc:(x.nx h r mv).c.c = x.c.c + 1:=by rw [ec]; rfl
  have old:∀ {z:Nat} {q:Fo},F[z]? = some q→(F++[(none:Fo)])[z]? = some q:=fun z=>by rw [List.getElem?_append_left (ltF z)]; exact z
  refine ⟨by rw [cc]; show (F++[_]).length = _; rw [List.length_append,T.ln]; rfl,P2.nodup_iff.mpr T.nd,fun z hz=>?_,fun z hz=>?_,fun z hz=>?_,fun z hz=>?_,fun z hz=>?_⟩
  ·have hz':=P2.mem_iff.mp hz
   rw [cnt z,if_pos hz']
   obtain ⟨a1,a2,a3,a4⟩:=T.inA z hz'
   refine ⟨by omega,by rw [show f z + 1 + rem = f z + (rem + 1) by omega]; exact old a2,fun q=>?_,a4⟩
   rcases List.mem_append.mp (show z∈aw++[x.c.c] from q) with q | q
   ·exact a3 q
   ·have:=List.mem_singleton.mp q; omega
  ·rcases List.mem_append.mp (show z∈aw++[x.c.c] from hz) with q | q
   ·obtain ⟨a1,a2⟩:=T.inW z q
    exact ⟨by omega,old a2⟩
   ·rw [List.mem_singleton.mp q]
    refine ⟨by omega,?_⟩
    rw [←T.ln]
    exact List.getElem?_concat_length
  ·obtain ⟨a1,a2,a3⟩:=T.inG z hz
   have hn:z∉x.A.flatten:=fun q=>(T.inA z q).2.2.2 hz
   rw [cnt z,if_neg hn]
   refine ⟨by omega,fun q=>?_,old a3⟩
   rcases List.mem_append.mp (show z∈aw++[x.c.c] from q) with q | q
   ·exact a2 q
   ·have:=List.mem_singleton.mp q; omega
  ·rw [cc] at hz
   rcases Nat.lt_succ_iff_lt_or_eq.mp hz with q | q
   ·rcases T.all z q with a | a | a
    ·exact .inl (List.mem_append_left _ a)
    ·exact .inr (.inl a)
    ·exact .inr (.inr (P2.mem_iff.mpr a))
   ·exact .inl (List.mem_append_right _ (by rw [q]; exact List.mem_singleton_self _))
  ·rw [cc] at hz
   have hn:z∉x.A.flatten:=fun q=>by have:=(T.inA z q).1; omega
   rw [cnt z,if_neg hn,T.f0 z (by omega)]
 | served =>
  obtain ⟨k0,rfl,n,L,ek⟩:=gi X hm e
  rw [e] at P ec
  have g0:x.A.getD k0 [] = n :: L:=aD ek
  have en:dg h r x (.done k0) = n:=by
   show (x.A.getD k0 []).getD 0 0 = n
   rw [g0]; rfl
  have P1:(x.nx h r (.done k0)).A.flatten.Perm (x.A.set k0 L).flatten:=by
   refine P.trans (List.Perm.of_eq ?_)
   show (x.A.set k0 ((x.A.getD k0 []).drop 1)).flatten = _
   rw [g0]; rfl
  have P3:x.A.flatten.Perm (n :: (x.A.set k0 L).flatten):=by
   have:=d6 (A:=x.A) (i:=k0) (x:=L) hk
   rw [g0] at this
   have q:(x.A.flatten++L).Perm ((n :: (x.A.set k0 L).flatten)++L):=by
    refine this.symm.trans ?_
    show ((x.A.set k0 L).flatten++(n :: L)).Perm (n :: ((x.A.set k0 L).flatten++L))
    exact List.perm_middle
   exact (List.perm_append_right_iff _).mp q
  have nd3:(n :: (x.A.set k0 L).flatten).Nodup:=P3.nodup_iff.mp T.nd
  rw [List.nodup_cons] at nd3
  have inN:n∈x.A.flatten:=P3.mem_iff.mpr List.mem_cons_self
  obtain ⟨b1,b2,b3,b4⟩:=T.inA n inN
  have cnt:∀ z,fN f (x.nx h r (.done k0)).A.flatten z = f z + if z∈(x.A.set k0 L).flatten then 1 else 0:=fun z=>by
   unfold fN; rw [P1.count_eq,qe nd3.2]
  have cc:(x.nx h r (.done k0)).c.c = x.c.c:=by rw [ec]; rfl
  have fe:foB F .served (dg h r x (.done k0)) (rem + 1) = F.set n (some ((f n:Int),true)):=by
   rw [en]
   show F.set n (some ((((F.getD n none).getD (0,false)).1 - ((rem + 1:Nat):Int)),true)) = _
   rw [aD b2]
   show F.set n (some (((f n + (rem + 1):Nat):Int) - ((rem + 1:Nat):Int),true)) = _
   rw [show ((f n + (rem + 1):Nat):Int) - ((rem + 1:Nat):Int) = (f n:Int) by omega]
  have ge:goB go .served (dg h r x (.done k0)) = go++[n]:=by rw [en]; rfl
  rw [fe,ge]
  have oth:∀ {z:Nat},z≠n→(F.set n (some ((f n:Int),true)))[z]? = F[z]?:=fun q=>List.getElem?_set_ne (Ne.symm q)
  refine ⟨by rw [cc,List.length_set]; exact T.ln,P1.nodup_iff.mpr nd3.2,fun z hz=>?_,fun z hz=>?_,fun z hz=>?_,fun z hz=>?_,fun z hz=>?_⟩
  ·have hz':=P1.mem_iff.mp hz
   have zn:z≠n:=fun q=>nd3.1 (q▸hz')
   obtain ⟨a1,a2,a3,a4⟩:=T.inA z (P3.mem_iff.mpr (List.mem_cons_of_mem _ hz'))
   rw [cnt z,if_pos hz',oth zn]
   refine ⟨by omega,by rw [show f z + 1 + rem = f z + (rem + 1) by omega]; exact a2,a3,fun q=>?_⟩
   rcases List.mem_append.mp q with q | q
   ·exact a4 q
   ·exact zn (List.mem_singleton.mp q)
  ·obtain ⟨a1,a2⟩:=T.inW z hz
   have zn:z≠n:=fun q=>b3 (q▸hz)
   rw [oth zn]
   exact ⟨by omega,a2⟩
  ·rcases List.mem_append.mp hz with q | q
   ·obtain ⟨a1,a2,a3⟩:=T.inG z q
    have zn:z≠n:=fun w=>b4 (w▸q)
    have hn:z∉(x.A.set k0 L).flatten:=fun w=>(T.inA z (P3.mem_iff.mpr (List.mem_cons_of_mem _ w))).2.2.2 q
    rw [cnt z,if_neg hn,oth zn]
    exact ⟨by omega,a2,a3⟩
   ·rw [List.mem_singleton.mp q,cnt n,if_neg nd3.1,List.getElem?_set_self (ltF b2)]
    exact ⟨by omega,b3,rfl⟩
  ·rw [cc] at hz
   rcases T.all z hz with a | a | a
   ·exact .inl a
   ·exact .inr (.inl (List.mem_append_left _ a))
   ·rcases List.mem_cons.mp (P3.mem_iff.mp a) with q | q
    ·exact .inr (.inl (List.mem_append_right _ (by rw [q]; exact List.mem_singleton_self _)))
    ·exact .inr (.inr (P1.mem_iff.mpr q))
  ·rw [cc] at hz
   have hn:z∉(x.A.set k0 L).flatten:=fun w=>by have:=(T.inA z (P3.mem_iff.mpr (List.mem_cons_of_mem _ w))).1; omega
   rw [cnt z,if_neg hn,T.f0 z hz]
 | none =>
  rw [e] at P ec
  have P2:(x.nx h r mv).A.flatten.Perm x.A.flatten:=P
  have cnt:∀ z,fN f (x.nx h r mv).A.flatten z = f z + if z∈x.A.flatten then 1 else 0:=fun z=>by
   unfold fN; rw [P2.count_eq,qe T.nd]
  have cc:(x.nx h r mv).c.c = x.c.c:=by rw [ec]; rfl
  refine ⟨by rw [cc]; exact T.ln,P2.nodup_iff.mpr T.nd,fun z hz=>?_,fun z hz=>?_,fun z hz=>?_,fun z hz=>?_,fun z hz=>?_⟩
  ·have hz':=P2.mem_iff.mp hz
   rw [cnt z,if_pos hz',cc]
   obtain ⟨a1,a2,a3,a4⟩:=T.inA z hz'
   exact ⟨a1,by rw [show f z + 1 + rem = f z + (rem + 1) by omega]; exact a2,a3,a4⟩
  ·rw [cc]; exact T.inW z hz
  ·have hn:z∉x.A.flatten:=fun q=>(T.inA z q).2.2.2 hz
   rw [cnt z,if_neg hn,cc]
   exact T.inG z hz
  ·rw [cc] at hz
   rcases T.all z hz with a | a | a
   ·exact .inl a
   ·exact .inr (.inl a)
   ·exact .inr (.inr (P2.mem_iff.mpr a))
  ·rw [cc] at hz
   have hn:z∉x.A.flatten:=fun q=>by have:=(T.inA z q).1; omega
   rw [cnt z,if_neg hn,T.f0 z hz]
structure Th (kvs:List (PyData×PyData)) (f:Nat→Nat):Prop where
 kd:isKd kvs = true
 at_:∀ z:Nat,dA (.int (z:Int)) kvs = if f z = 0 then none else some (.int (f z:Int))
theorem Th.get {kvs:List (PyData×PyData)} {f:Nat→Nat} (T:Th kvs f) (z:Nat):(dA (.int (z:Int)) kvs).getD (.int 0) = .int (f z:Int):=by
 rw [T.at_ z]
 by_cases e:f z = 0
 ·rw [if_pos e,e]; rfl
 ·rw [if_neg e]; rfl
theorem Th.one {kvs:List (PyData×PyData)} {f:Nat→Nat} (T:Th kvs f) (z:Int):oneK kvs (.int z) = true:=by
 unfold oneK
 rw [T.kd]; rfl
theorem Th.put {kvs:List (PyData×PyData)} {f:Nat→Nat} (T:Th kvs f) (z:Nat):Th (putP (.int (z:Int)) (.int ((f z:Int) + 1)) kvs) (fN f [z]):=by
 refine ⟨(n9 _ _ T.kd).2.1,fun y=>?_⟩
 rw [lZ _ _ _ T.kd]
 unfold fN
 by_cases e:y = z
 ·subst e
  rw [if_pos rfl,List.count_singleton_self,if_neg (by omega)]; rfl
 ·have:¬ ((y:Int) = (z:Int)):=fun q=>e (Int.ofNat.inj q)
  have c0:List.count y [z] = 0:=List.count_eq_zero.mpr (fun q=>e (List.mem_singleton.mp q))
  rw [if_neg this,c0,T.at_ y]; rfl
theorem Cq (f:Nat→Nat) (a b:List Nat):fN (fN f a) b = fN f (a++b):=by
 funext z
 unfold fN
 rw [List.count_append]; omega
theorem BO (f:Nat→Nat):fN f [] = f:=by funext z; simp [fN]
theorem T13.first (h:Hall) (n:Nat):T13 (sc0 h) [] (fun _=>0) [] [] n:=by
 have e:(sc0 h).A.flatten = []:=by simp [sc0]
 refine ⟨rfl,by rw [e]; exact List.nodup_nil,fun z hz=>?_,fun z hz=>(by cases hz),fun z hz=>(by cases hz),fun z hz=>?_,fun _ _=>rfl⟩
 ·rw [e] at hz; cases hz
 ·exact absurd hz (Nat.not_lt_zero _)
theorem yz {A:List (List Nat)} {t c:Nat} {aw go:List Nat} {vs:List (Option L2.R)} {os:List (List PyData)} {np:Nat}:asD ⟨vs,[wT A t c aw go] :: os,np⟩ (.at 0 [3]) = some (.list (natD aw)):=by
 show (eraL (natD aw)).map PyData.list = _
 rw [jm]; rfl
theorem yh {A:List (List Nat)} {t c:Nat} {aw go:List Nat} {vs:List (Option L2.R)} {os:List (List PyData)} {np:Nat}:asD ⟨vs,[wT A t c aw go] :: os,np⟩ (.at 0 [4]) = some (.list (natD go)):=by
 show (eraL (natD go)).map PyData.list = _
 rw [jm]; rfl
theorem wJ (l:List Nat) (z:Nat):(natD l).any (fun y=>PyData.eqv y (.int (z:Int))) = decide (z∈l):=by
 rw [Bool.eq_iff_iff]
 rw [List.any_eq_true,decide_eq_true_eq]
 constructor
 ·rintro ⟨y,hy,e⟩
  obtain ⟨x,hx,rfl⟩:=List.mem_map.mp hy
  rw [bC,decide_eq_true_eq] at e
  rw [←e]; exact hx
 ·intro h0
  exact ⟨.int (z:Int),List.mem_map.mpr ⟨z,h0,rfl⟩,by rw [bC]; exact decide_eq_true rfl⟩
theorem si {A:List (List Nat)} {j:Nat} (h:j < A.length):(A.take (j + 1)).flatten = (A.take j).flatten++A.getD j []:=by
 rw [List.take_succ,List.getElem?_eq_getElem h,List.flatten_append,aD (List.getElem?_eq_getElem h)]
 simp
def fo1:Fo→Int
 | none=>0
 | some q=>q.1
def fo2:Fo→Nat
 | some (_,false)=>1
 | _=>0
def sumF (F:List Fo):Int:=(F.map fo1).sum
def unF (F:List Fo):Nat:=(F.map fo2).sum
theorem vh {F:List Fo} {i:Nat} {q q':Fo} (e:F[i]? = some q):sumF (F.set i q') = sumF F - fo1 q + fo1 q':=by
 induction F generalizing i with
 | nil=>simp at e
 | cons a F ih =>
  cases i with
  | zero =>
   simp at e
   subst e
   simp only [sumF,List.set_cons_zero,List.map_cons,List.sum_cons]
   omega
  | succ i =>
   have:=ih (i:=i) (by simpa using e)
   simp only [sumF,List.set_cons_succ,List.map_cons,List.sum_cons] at this ⊢
   omega
theorem yR {F:List Fo} {i:Nat} {q q':Fo} (e:F[i]? = some q):unF (F.set i q') + fo2 q = unF F + fo2 q':=by
 induction F generalizing i with
 | nil=>simp at e
 | cons a F ih =>
  cases i with
  | zero =>
   simp at e
   subst e
   simp only [unF,List.set_cons_zero,List.map_cons,List.sum_cons]
   omega
  | succ i =>
   have:=ih (i:=i) (by simpa using e)
   simp only [unF,List.set_cons_succ,List.map_cons,List.sum_cons] at this ⊢
   omega
theorem oO (A:List (List Nat)):A.flatten.length = (szs A).sum:=by
 unfold szs
 rw [List.length_flatten]
theorem Cy {h:Hall} {r:Rule} (ho:h.Ok) (hr:r.Ok h) {x:Sc} {F:List Fo} {f:Nat→Nat} {aw go:List Nat} {rem:Nat} (X:x.Ok h r) (T:T13 x F f aw go (rem + 1)) {mv:Mv} (hm:mv.Ok h) :
  sumF (foB F (wdOf h r x mv) (dg h r x mv) (rem + 1)) + ((rem:Int) + 1) * (x.A.flatten.length:Int) = sumF F + ((rem:Int) + 1) * ((x.nx h r mv).A.flatten.length:Int) ∧
  (x.c.t = x.c.s + unF F→(x.nx h r mv).c.t = (x.nx h r mv).c.s + unF (foB F (wdOf h r x mv) (dg h r x mv) (rem + 1))):=by
 have hA:x.A.length = h.ss.length:=by rw [←bw,X.sz]; exact X.st.ln.1
 have hk:kOf h r x.l x.t mv < x.A.length:=by rw [hA]; exact pC ho hr X.st hm
 have P:(x.nx h r mv).A.flatten.length = (askB x.A (kOf h r x.l x.t mv) (wdOf h r x mv) x.c.c).flatten.length:=(i9 h _).length_eq
 have ec:(x.nx h r mv).c = x.c.b (wdOf h r x mv):=rfl
 rw [ec,P]
 have m1:∀ n:Nat,((rem:Int) + 1) * ((n + 1:Nat):Int) = ((rem:Int) + 1) * (n:Int) + ((rem:Int) + 1):=fun n=>by
  rw [show ((n + 1:Nat):Int) = (n:Int) + 1 from rfl,Int.mul_add,Int.mul_one]
 cases e:wdOf h r x mv with
 | taken =>
  have q:=(d6 (A:=x.A) (i:=kOf h r x.l x.t mv) (x:=x.A.getD (kOf h r x.l x.t mv) []++[x.c.c]) hk).length_eq
  rw [List.length_append,List.length_append,List.length_append,List.length_singleton] at q
  have q2:(askB x.A (kOf h r x.l x.t mv) .taken x.c.c).flatten.length = x.A.flatten.length + 1:=by
   show (x.A.set _ _).flatten.length = _
   omega
  refine ⟨?_,fun u=>?_⟩
  ·rw [q2]
   show sumF (F++[some (((rem + 1:Nat):Int),false)]) + _ = _
   simp only [sumF,List.map_append,List.sum_append,List.map_cons,List.map_nil,List.sum_cons,List.sum_nil,fo1]
   rw [m1]
   omega
  ·show x.c.t + 1 = x.c.s + unF (F++[some (((rem + 1:Nat):Int),false)])
   simp only [unF,List.map_append,List.sum_append,List.map_cons,List.map_nil,List.sum_cons,List.sum_nil,fo2] at u ⊢
   omega
 | away =>
  refine ⟨?_,fun u=>?_⟩
  ·show sumF (F++[none]) + _ = _
   simp only [sumF,List.map_append,List.sum_append,List.map_cons,List.map_nil,List.sum_cons,List.sum_nil,fo1,askB]
   omega
  ·show x.c.t = x.c.s + unF (F++[none])
   simp only [unF,List.map_append,List.sum_append,List.map_cons,List.map_nil,List.sum_cons,List.sum_nil,fo2] at u ⊢
   omega
 | served =>
  obtain ⟨k0,rfl,n,L,ek⟩:=gi X hm e
  have g0:x.A.getD k0 [] = n :: L:=aD ek
  have en:dg h r x (.done k0) = n:=by
   show (x.A.getD k0 []).getD 0 0 = n
   rw [g0]; rfl
  have inN:n∈x.A.flatten:=List.mem_flatten.mpr ⟨n :: L,List.mem_of_getElem? ek,List.mem_cons_self⟩
  obtain ⟨b1,b2,b3,b4⟩:=T.inA n inN
  have q:=(d6 (A:=x.A) (i:=k0) (x:=L) hk).length_eq
  rw [List.length_append,List.length_append,g0,List.length_cons] at q
  have q2:(askB x.A (kOf h r x.l x.t (.done k0)) .served x.c.c).flatten.length + 1 = x.A.flatten.length:=by
   show (x.A.set k0 ((x.A.getD k0 []).drop 1)).flatten.length + 1 = _
   rw [g0,List.drop_one,List.tail_cons]
   omega
  have fe:foB F .served (dg h r x (.done k0)) (rem + 1) = F.set n (some ((f n:Int),true)):=by
   rw [en]
   show F.set n (some ((((F.getD n none).getD (0,false)).1 - ((rem + 1:Nat):Int)),true)) = _
   rw [aD b2]
   show F.set n (some (((f n + (rem + 1):Nat):Int) - ((rem + 1:Nat):Int),true)) = _
   rw [show ((f n + (rem + 1):Nat):Int) - ((rem + 1:Nat):Int) = (f n:Int) by omega]
  rw [fe]
  refine ⟨?_,fun u=>?_⟩
  ·rw [vh b2,←q2,m1]
   show sumF F - ((f n + (rem + 1):Nat):Int) + (f n:Int) + _ = _
   omega
  ·have:=yR (q':=some ((f n:Int),true)) b2
   simp only [fo2] at this
   show x.c.t = x.c.s + 1 + _
   omega
 | none=>exact ⟨rfl,fun u=>u⟩
theorem uI {h:Hall} {r:Rule} (ho:h.Ok) (hr:r.Ok h):∀ {R:List Mv} {x:Sc} {F:List Fo} {f:Nat→Nat} {aw go:List Nat},(∀ mv∈R,mv.Ok h)→x.Ok h r→T13 x F f aw go R.length→x.c.t = x.c.s + unF F →
  (bQ h r x F R).length = (cP h r (x.l,x.t) x.c R).c∧(cP h r (x.l,x.t) x.c R).t = (cP h r (x.l,x.t) x.c R).s + unF (bQ h r x F R) ∧
  sumF (bQ h r x F R) + (R.length:Int) * (x.A.flatten.length:Int) + (x.l.sum:Int) = sumF F + (((bM h r (x.l,x.t) R).map fun p=>p.1.sum).sum:Nat)
 | [],x,F,f,aw,go,_,X,T,u=>by
  refine ⟨T.ln,u,?_⟩
  show sumF F + (0:Nat) * _ + _ = sumF F + (([(x.l,x.t)].map fun p=>p.1.sum).sum:Nat)
  simp
 | mv :: R,x,F,f,aw,go,hR,X,T,u=>by
  have hm:=hR mv List.mem_cons_self
  obtain ⟨s1,s2⟩:=Cy ho hr X T hm
  have X':=Sc.nx_ok ho hr X hm
  obtain ⟨i1,i2,i3⟩:=uI ho hr (R:=R) (fun m q=>hR m (List.mem_cons_of_mem _ q)) X' (T13.nx ho hr X T hm) (s2 u)
  refine ⟨i1,i2,?_⟩
  have e1:(x.A.flatten.length:Int) = (x.l.sum:Int):=by rw [oO,X.sz]
  have e2:((x.nx h r mv).A.flatten.length:Int) = ((x.nx h r mv).l.sum:Int):=by rw [oO,X'.sz]
  show sumF (bQ h r (x.nx h r mv) _ R) + ((R.length + 1:Nat):Int) * _ + _ = sumF F + (((x.l.sum :: (bM h r ((x.nx h r mv).l,(x.nx h r mv).t) R).map fun p=>p.1.sum).sum:Nat):Int)
  rw [List.sum_cons]
  have m2:((R.length:Int) + 1) * ((x.nx h r mv).A.flatten.length:Int) = (R.length:Int) * ((x.nx h r mv).A.flatten.length:Int) + ((x.nx h r mv).A.flatten.length:Int):=by rw [Int.add_mul,Int.one_mul]
  have m3:((R.length + 1:Nat):Int) * (x.A.flatten.length:Int) = ((R.length:Int) + 1) * (x.A.flatten.length:Int):=rfl
  rw [m3]
  rw [m2] at s1
  omega
theorem foF {F:List Fo} {n:Nat} (hl:F.length≤1000) (hb:∀ q∈F,(fo1 q).natAbs≤1000000):Fine 80000 4 (.tuple (F.map Fo.d)):=by
 refine (ba (n:=60) (k:=1) (c:=1000) (fun d hd=>?_) (by rw [List.length_map]; exact hl)).mono (by decide) (by decide)
 rcases List.mem_map.mp hd with ⟨q,hq,rfl⟩
 cases q with
 | none=>exact fine_none.mono (by decide) (by decide)
 | some q =>
  refine (ba (n:=13) (k:=0) (c:=2) (ds:=[.int q.1,.bool q.2]) (fun d hd=>?_) (by exact Nat.le_refl 2)).mono (by decide) (by decide)
  obtain rfl | hd:=List.mem_cons.mp hd
  ·have:=hb _ hq
   exact fy (Nat.lt_of_le_of_lt this (by decide))
  ·rw [List.mem_singleton.mp hd]; exact (lS _).mono (by decide) (by decide)
theorem tx {h:Hall} {r:Rule} (ho:h.Ok) (hr:r.Ok h) {N:Nat}:∀ {R:List Mv} {x:Sc} {F:List Fo} {f:Nat→Nat} {aw go:List Nat},(∀ mv∈R,mv.Ok h)→x.Ok h r→T13 x F f aw go R.length→R.length≤N→(∀ q∈F,0≤fo1 q∧fo1 q≤(N:Int))→∀ q∈bQ h r x F R,0≤fo1 q∧fo1 q≤(N:Int)
 | [],x,F,f,aw,go,_,X,T,_,hb=>hb
 | mv :: R,x,F,f,aw,go,hR,X,T,hN,hb=>by
  have hm:=hR mv List.mem_cons_self
  refine tx ho hr (R:=R) (fun m q=>hR m (List.mem_cons_of_mem _ q)) (Sc.nx_ok ho hr X hm) (T13.nx ho hr X T hm) (by simp at hN; omega) fun q hq=>?_
  have hN':R.length + 1≤N:=hN
  cases e:wdOf h r x mv with
  | taken =>
   rw [e] at hq
   rcases List.mem_append.mp (show q∈F++[some (((R.length + 1:Nat):Int),false)] from hq) with z | z
   ·exact hb q z
   ·rw [List.mem_singleton.mp z]
    show (0:Int)≤((R.length + 1:Nat):Int)∧((R.length + 1:Nat):Int)≤(N:Int)
    omega
  | away =>
   rw [e] at hq
   rcases List.mem_append.mp (show q∈F++[none] from hq) with z | z
   ·exact hb q z
   ·rw [List.mem_singleton.mp z]
    show (0:Int)≤0∧(0:Int)≤(N:Int)
    omega
  | served =>
   obtain ⟨k0,rfl,n,L,ek⟩:=gi X hm e
   have g0:x.A.getD k0 [] = n :: L:=aD ek
   have en:dg h r x (.done k0) = n:=by
    show (x.A.getD k0 []).getD 0 0 = n
    rw [g0]; rfl
   have inN:n∈x.A.flatten:=List.mem_flatten.mpr ⟨n :: L,List.mem_of_getElem? ek,List.mem_cons_self⟩
   obtain ⟨b1,b2,b3,b4⟩:=T.inA n inN
   rw [e,en] at hq
   rcases List.mem_or_eq_of_mem_set (show q∈F.set n (some ((((F.getD n none).getD (0,false)).1 - ((R.length + 1:Nat):Int)),true)) from hq) with z | z
   ·exact hb q z
   ·rw [z,aD b2]
    have:=hb _ (List.mem_of_getElem? b2)
    have t2:(0:Int)≤((f n + (Mv.done k0 :: R).length:Nat):Int)∧((f n + (Mv.done k0 :: R).length:Nat):Int)≤(N:Int):=this
    show (0:Int)≤((f n + (R.length + 1):Nat):Int) - ((R.length + 1:Nat):Int)∧((f n + (R.length + 1):Nat):Int) - ((R.length + 1:Nat):Int)≤(N:Int)
    have t3:((f n + (R.length + 1):Nat):Int)≤(N:Int):=t2.2
    omega
  | none=>rw [e] at hq; exact hb q hq
def selO:Fo→List PyData
 | none=>[]
 | some q=>[.int q.1]
def lefO:Fo→List PyData
 | some (v,false)=>[.tuple [.int v,.bool false]]
 | _=>[]
def selF (F:List Fo):List PyData:=F.flatMap selO
def lefF (F:List Fo):List PyData:=F.flatMap lefO
theorem jj:∀ F:List Fo,∃ ns,cq (selF F) = some ns∧ns.sum = sumF F
 | []=>⟨[],rfl,rfl⟩
 | none :: F=>by
  obtain ⟨ns,e1,e2⟩:=jj F
  exact ⟨ns,e1,by rw [e2]; simp [sumF,fo1]⟩
 | some q :: F=>by
  obtain ⟨ns,e1,e2⟩:=jj F
  refine ⟨q.1 :: ns,?_,?_⟩
  ·show cq (.int q.1 :: selF F) = _
   unfold cq
   rw [e1]; rfl
  ·rw [List.sum_cons,e2]; simp [sumF,fo1]
theorem iL:∀ F:List Fo,(lefF F).length = unF F
 | []=>rfl
 | none :: F=>by
  show (lefF F).length = _
  rw [iL F]; simp [unF,fo2]
 | some (v,true) :: F=>by
  show (lefF F).length = _
  rw [iL F]; simp [unF,fo2]
 | some (v,false) :: F=>by
  show (lefF F).length + 1 = _
  rw [iL F]; simp [unF,fo2]; omega
theorem pj {F:List Fo} {i:Nat} {q:Fo} (e:F[i]? = some q):selF (F.take (i + 1)) = selF (F.take i)++selO q:=by
 unfold selF
 rw [List.take_succ,e,List.flatMap_append]
 simp
theorem kF {F:List Fo} {i:Nat} {q:Fo} (e:F[i]? = some q):lefF (F.take (i + 1)) = lefF (F.take i)++lefO q:=by
 unfold lefF
 rw [List.take_succ,e,List.flatMap_append]
 simp
theorem Dq (F:List Fo):(selF F).length≤F.length:=by
 induction F with
 | nil=>exact Nat.le_refl _
 | cons q F ih =>
  cases q with
  | none=>show (selF F).length≤F.length + 1; omega
  | some q=>show (selF F).length + 1≤F.length + 1; omega
theorem C6 (F:List Fo):(lefF F).length≤F.length:=by
 induction F with
 | nil=>exact Nat.le_refl _
 | cons q F ih =>
  match q with
  | none=>show (lefF F).length≤F.length + 1; omega
  | some (v,true)=>show (lefF F).length≤F.length + 1; omega
  | some (v,false)=>show (lefF F).length + 1≤F.length + 1; omega
theorem qb (l:List Nat):cq (natD l) = some (l.map fun (x:Nat)=>(x:Int)):=by
 have:=cE (l.map fun (x:Nat)=>(x:Int))
 rwa [List.map_map] at this
theorem nQ:∀ l:List Nat,(l.map fun (x:Nat)=>(x:Int)).sum = (l.sum:Int)
 | []=>rfl
 | x :: l=>by rw [List.map_cons,List.sum_cons,List.sum_cons,nQ l]; rfl
theorem oz {h:Hall} {r:Rule}:∀ {R:List Mv} {p:List Nat×Nat} {x:Cn},(cP h r p x R).c≤x.c + R.length
 | [],_,_=>Nat.le_refl _
 | mv :: R,p,x=>by
  have:=oz (h:=h) (r:=r) (R:=R) (p:=((bc h r p.1 p.2 mv).1,(bc h r p.1 p.2 mv).2.1)) (x:=x.b (bc h r p.1 p.2 mv).2.2)
  show (cP h r _ _ R).c≤x.c + (R.length + 1)
  have hb:(x.b (bc h r p.1 p.2 mv).2.2).c≤x.c + 1:=by cases (bc h r p.1 p.2 mv).2.2 <;> simp [Cn.b]
  omega
section
variable {P:Program} {w:World} {K:PySem.W.Frag} {mg:Str→Option Value} {base:Heap}
theorem qY (T:Bl mg) (D:DefM K mg "is_less" j4 ["one", "other"]):FnM P w K mg base "is_less" 1 2 xj:=by
 refine aZ D sy rfl (nN:=2) rfl (by decide) ?ar fun cdv A outer s H E f hr=>⟨_,(aa (ai (fX gm (af bi (ad (mv' 0) mh') (ad (mv' 1) mh')) (af bi (ad (mv' 1) mh') (ad (mv' 0) mh')) (av _)))),?_⟩
 case ar=>rintro as Kc ⟨a,b,c,d,rfl,_⟩; rfl
 rintro as Kc hl ⟨a,b,c,d,rfl,ha,hb,hc,hd,k⟩
 refine am (MSt.mk [some (.imm (.tuple [.int a,.int b])),some (.imm (.tuple [.int c,.int d]))] [] 0) rfl ?_
 walk_at "xs"
 have e:decide ((a:Int) * (d:Int) < (c:Int) * (b:Int)) = decide (a * d < c * b):=by
  rw [←Int.natCast_mul,←Int.natCast_mul]
  exact decide_eq_decide.mpr Int.ofNat_lt
 rw [e]
 exact k
theorem iC (T:Bl mg) (D:DefM K mg "place_of_lines" de ["hall", "lines"]):FnM P w K mg base "place_of_lines" 1 2 rc:=by
 refine aZ D scplace_of_lines rfl (nN:=5) rfl (by decide) ?ar fun cdv A outer s H E f hr=>⟨_,(mz' (ae (i:=2) scplace_of_lines.nd rfl (Or.inl rfl) mh')
   (mz' (ca (x9 T.zip (mc' (mv' 1) (mc' (ad (mv' 0) mh') mn'))) (bF (n:=2) (ak (ag (i:=3) scplace_of_lines.nd rfl (Or.inl rfl)) (ak (ag (i:=4) scplace_of_lines.nd rfl (Or.inl rfl)) bj))) (aa (ae (i:=2) scplace_of_lines.nd rfl (Or.inl rfl) (af aG (af bi (mv' 2) (af aG (ad (mv' 4) mh') mh')) (mv' 3)))) PassesOwn.never)
   (aa (ai (mv' 2))))),?_⟩
 case ar=>rintro as Kc ⟨h,l,rfl,_⟩; rfl
 rintro as Kc hl ⟨h,l,rfl,ho,hL,k⟩
 refine am (MSt.mk [some (.imm (.tuple [.tuple [.int h.a,.int h.b],.tuple (h.ss.map Srv.d),.bool h.mv])),some (.imm (.tuple (natD l))),none,none,none] [] 0) rfl ?_
 walk_at "xs"
 refine ⟨true,_,true,_,rfl,rfl,?_⟩
 refine bz (fun i m=>∃ a b,m = MSt.mk [some (.imm (.tuple [.tuple [.int h.a,.int h.b],.tuple (h.ss.map Srv.d),.bool h.mv])),some (.imm (.tuple (natD l))),some (.imm (.int (M7.placeF 0 (h.rs.take i) (l.take i):Nat))),a,b] [] 0) ⟨none,none,rfl⟩ ?_ ?_
 ·rintro i d m e n ⟨a,b,rfl⟩
  obtain ⟨a1,b1,e1,e2,rfl⟩:=xO e
  obtain ⟨x,ex,rfl,hi⟩:=gmap e1
  obtain ⟨s,es,rfl,hj⟩:=gmap e2
  have r6:=(ho.ok s (List.mem_of_getElem? es)).r6
  rw [M7.placeF_take (Hall.rs_get es) ex]
  dsimp only [Srv.d]
  walk_at "xs"
  ·rfl
  walk_at "xs"
  generalize M7.placeF 0 (h.rs.take i) (l.take i) = P
  have ec:(P:Int) * ((s.r:Int) + 1) + (x:Int) = ((P * (s.r + 1) + x:Nat):Int):=by
   rw [Int.natCast_add,Int.natCast_mul,Int.natCast_add]; rfl
  rw [ec]
  exact ⟨_,_,rfl⟩
 ·rintro m n ⟨a,b,rfl⟩
  have e1:min (natD l).length (h.ss.map Srv.d).length = l.length:=by rw [aF,List.length_map]; have:=hL.1; omega
  rw [dW,e1]
  have e2:h.rs.take l.length = h.rs:=by rw [hL.1,←h.rsl]; exact List.take_length
  rw [e2,List.take_length]
  walk_at "xs"
  exact k
theorem iE (T:Bl mg) (D:DefM K mg "first_shortest" c7 ["lines", "order"]):FnM P w K mg base "first_shortest" 1 2 jJ:=by
 refine aZ D scfirst_shortest rfl (nN:=4) rfl (by decide) ?ar fun cdv A outer s H E f hr=>⟨_,(mz' (ae (i:=2) scfirst_shortest.nd rfl (Or.inl rfl) (ad (mv' 1) mh'))
   (mz' (ca (bG (mv' 1)) (ag (i:=3) scfirst_shortest.nd rfl (Or.inl rfl)) (aa (aI (ah gm (ad (mv' 0) (mv' 3)) (ad (mv' 0) (mv' 2)) (av _)) (aa (ae (i:=2) scfirst_shortest.nd rfl (Or.inl rfl) (mv' 3))) az)) PassesOwn.never)
   (aa (ai (mv' 2))))),?_⟩
 case ar=>rintro as Kc ⟨l,o,rfl,_⟩; rfl
 rintro as Kc hl ⟨l,o,rfl,hO,k⟩
 obtain ⟨o0,os,rfl,h0⟩:=hO.cons
 refine am (MSt.mk [some (.imm (.tuple (natD l))),some (.imm (.tuple (natD (o0 :: os)))),none,none] [] 0) rfl ?_
 walk_at "xs"
 refine bp (aV (j:=0) (a8 rfl)) ?_
 walk_at "xs"
 refine bz (fun i m=>∃ a,m = MSt.mk [some (.imm (.tuple (natD l))),some (.imm (.tuple (natD (o0 :: os)))),some (.imm (.int (M7.pick (bZ l) o0 ((o0 :: os).take i):Nat))),a] [] 0) ⟨none,rfl⟩ ?_ ?_
 ·rintro i d m e n ⟨a,rfl⟩
  obtain ⟨j,ej,rfl,hi⟩:=gmap e
  have hj:=hO.lt j (List.mem_of_getElem? ej)
  have hb:M7.pick (bZ l) o0 ((o0 :: os).take i) < l.length:=jr hO i
  have et:(o0 :: os).take (i + 1) = (o0 :: os).take i++[j]:=by rw [List.take_add_one,ej]; rfl
  rw [et,M7.pick_app]
  generalize M7.pick (bZ l) o0 ((o0 :: os).take i) = b at hb
  walk_at "xs"
  refine bp (aV (a8 (getN rfl hj))) ?_
  walk_at "xs"
  refine bp (aV (a8 (getN rfl hb))) ?_
  walk_at "xs"
  refine ay (fun h=>?_) (fun h=>?_)
  ·walk_at "xs"
   rw [if_pos (show bZ l j b = true from decide_eq_true (by omega))]
   exact ⟨_,rfl⟩
  ·walk_at "xs"
   rw [if_neg (show ¬ bZ l j b = true by unfold bZ; rw [decide_eq_true_eq]; omega)]
   exact ⟨_,rfl⟩
 ·rintro m n ⟨a,rfl⟩
  rw [aF,List.take_length]
  walk_at "xs"
  exact k
theorem ug (T:Bl mg) (D:DefM K mg "wait_at" kW ["hall", "lines", "line"]):FnM P w K mg base "wait_at" 1 3 xp:=by
 refine aZ D scwait_at rfl (nN:=5) rfl (by decide) ?ar fun cdv A outer s H E f hr=>⟨_,(mz' (cK (ad (ad (ad (mv' 0) mh') (mv' 2)) mh') (bF (n:=2) (ak (ag (i:=3) scwait_at.nd rfl (Or.inl rfl)) (ak (ag (i:=4) scwait_at.nd rfl (Or.inl rfl)) bj))))
   (aa (ai (aC (mc' (af bi (af aG (ad (mv' 1) (mv' 2)) mh') (mv' 4)) (mc' (mv' 3) mn')))))),?_⟩
 case ar=>rintro as Kc ⟨h,l,j,rfl,_⟩; rfl
 rintro as Kc hl ⟨h,l,j,rfl,ho,hL,hj,k⟩
 obtain ⟨s,es,ea,eb,hs⟩:=h.srv hj
 have so:=ho.ok s hs
 have b2:=so.b2
 rw [ea,eb] at k
 have el:=getN hL.1 hj
 refine am (MSt.mk [some (.imm (.tuple [.tuple [.int h.a,.int h.b],.tuple (h.ss.map Srv.d),.bool h.mv])),some (.imm (.tuple (natD l))),some (.imm (.int (j:Int))),none,none] [] 0) rfl ?_
 walk_at "xs"
 refine bp (d:=s.d) (aV (by rw [List.getElem?_map,es]; rfl)) ?_
 dsimp only [Srv.d]
 walk_at "xs"
 ·rfl
 walk_at "xs"
 refine bp (aV (a8 el)) ?_
 walk_at "xs"
 have e:(((l.getD j 0:Nat):Int) + 1) * (s.b:Int) = (((l.getD j 0 + 1) * s.b:Nat):Int):=by
  rw [Int.natCast_mul,Int.natCast_add]; rfl
 rw [e]
 exact k
theorem iB (T:Bl mg) (D:DefM K mg "first_quickest" c9 ["hall", "lines", "order"]) (Gwait_at:FnM P w K mg base "wait_at" 1 3 xp) (Gis_less:FnM P w K mg base "is_less" 1 2 xj):FnM P w K mg base "first_quickest" 2 3 jQ:=by
 refine aZ D scfirst_quickest rfl (nN:=7) rfl (by decide) ?ar fun cdv A outer s H E f hr=>⟨_,(mz' (ae (i:=3) scfirst_quickest.nd rfl (Or.inl rfl) (ad (mv' 2) mh'))
   (mz' (ae (i:=4) scfirst_quickest.nd rfl (Or.inl rfl) (mf' Gwait_at (hr.mono (by decide)) (mc' (mv' 0) (mc' (mv' 1) (mc' (mv' 3) mn')))))
   (mz' (ca (bG (mv' 2)) (ag (i:=5) scfirst_quickest.nd rfl (Or.inl rfl)) (mz' (ae (i:=6) scfirst_quickest.nd rfl (Or.inl rfl) (mf' Gwait_at (hr.mono (by decide)) (mc' (mv' 0) (mc' (mv' 1) (mc' (mv' 5) mn')))))
   (aa (aI (fZ (mf' Gis_less (hr.mono (by decide)) (mc' (mv' 6) (mc' (mv' 4) mn')))) (aa (kG (i:=3) (j:=4) scfirst_quickest.nd rfl rfl (by decide) rfl rfl (mc' (mv' 5) (mc' (mv' 6) mn')) rfl)) az))) PassesOwn.never)
   (aa (ai (mv' 3)))))),?_⟩
 case ar=>rintro as Kc ⟨h,l,o,rfl,_⟩; rfl
 rintro as Kc hl ⟨h,l,o,rfl,ho,hL,hO,k⟩
 obtain ⟨o0,os,rfl,h0⟩:=hO.cons
 have bd:∀ j,j < h.ss.length→(l.getD j 0 + 1) * h.bn j < 1000000000000∧h.an j < 1000000000000:=fun j hj=>by
  obtain ⟨s,es,ea,eb,hs⟩:=h.srv hj
  have so:=ho.ok s hs
  have h6:=hL.le ho _ (List.mem_of_getElem? (getN hL.1 hj))
  rw [ea,eb]
  have:=so.a2
  have:(l.getD j 0 + 1) * s.b≤7 * 1000000:=Nat.mul_le_mul (by omega) (by have:=so.b2; omega)
  omega
 refine am (MSt.mk [some (.imm h.d),some (.imm (.tuple (natD l))),some (.imm (.tuple (natD (o0 :: os)))),none,none,none,none] [] 0) rfl ?_
 walk_at "xs"
 refine bp (aV (j:=0) (a8 rfl)) ?_
 walk_at "xs"
 refine ⟨h,l,o0,rfl,ho,hL,h0,?_⟩
 walk_at "xx"
 refine bz (fun i m=>∃ a b,m = MSt.mk [some (.imm h.d),some (.imm (.tuple (natD l))),some (.imm (.tuple (natD (o0 :: os)))),some (.imm (.int (M7.pick (ck h l) o0 ((o0 :: os).take i):Nat))),some (.imm (frD ((l.getD (M7.pick (ck h l) o0 ((o0 :: os).take i)) 0 + 1) * h.bn (M7.pick (ck h l) o0 ((o0 :: os).take i)):Nat) (h.an (M7.pick (ck h l) o0 ((o0 :: os).take i)):Nat))),a,b] [] 0) ⟨none,none,rfl⟩ ?_ ?_
 ·rintro i d m e n ⟨a,b,rfl⟩
  obtain ⟨j,ej,rfl,hi⟩:=gmap e
  have hj:=hO.lt j (List.mem_of_getElem? ej)
  have hb:M7.pick (ck h l) o0 ((o0 :: os).take i) < h.ss.length:=jr hO i
  have et:(o0 :: os).take (i + 1) = (o0 :: os).take i++[j]:=by rw [List.take_add_one,ej]; rfl
  rw [et,M7.pick_app]
  generalize M7.pick (ck h l) o0 ((o0 :: os).take i) = b at hb
  walk_at "xs"
  refine ⟨h,l,j,rfl,ho,hL,hj,?_⟩
  walk_at "xx"
  obtain ⟨b1,b2⟩:=bd j hj
  obtain ⟨b3,b4⟩:=bd b hb
  refine ⟨_,_,_,_,rfl,b1,b2,b3,b4,?_⟩
  walk_at "xx"
  refine ay (fun q=>?_) (fun q=>?_)
  ·walk_at "xs"
   rw [if_pos (show ck h l j b = true from decide_eq_true q)]
   exact ⟨_,_,rfl⟩
  ·walk_at "xs"
   rw [if_neg (show ¬ ck h l j b = true by unfold ck; rw [decide_eq_true_eq]; exact q)]
   exact ⟨_,_,rfl⟩
 ·rintro m n ⟨a,b,rfl⟩
  rw [aF,List.take_length]
  walk_at "xs"
  exact k
theorem um (T:Bl mg) (D:DefM K mg "sent_to" jY ["hall", "rule", "stand", "order"]) (Gfirst_shortest:FnM P w K mg base "first_shortest" 1 2 jJ) (Gfirst_quickest:FnM P w K mg base "first_quickest" 2 3 jQ) (Gplace_of_lines:FnM P w K mg base "place_of_lines" 1 2 rc):FnM P w K mg base "sent_to" 3 4 oT:=by
 refine aZ D scsent_to rfl (nN:=7) rfl (by decide) ?ar fun cdv A outer s H E f hr=>⟨_,(mz' (cK (mv' 2) (bF (n:=2) (ak (ag (i:=4) scsent_to.nd rfl (Or.inl rfl)) (ak (ag (i:=5) scsent_to.nd rfl (Or.inl rfl)) bj))))
   (mz' (ae (i:=6) scsent_to.nd rfl (Or.inl rfl) (ad (mv' 1) mh'))
   (mz' (aI (ah (aM hr.units) (mv' 6) ac (av _)) (aa (ai (ad (mv' 3) mh'))) az)
   (mz' (aI (ah (aM hr.units) (mv' 6) ac (av _)) (aa (ai (mv' 5))) az)
   (mz' (aI (ah (aM hr.units) (mv' 6) ac (av _)) (aa (ai (mf' Gfirst_shortest (hr.mono (by decide)) (mc' (mv' 4) (mc' (cz (bU dt (mv' 3) cF (cG mh'))) mn'))))) az)
   (mz' (aI (ah (aM hr.units) (mv' 6) ac (av _)) (aa (ai (mf' Gfirst_shortest (hr.mono (by decide)) (mc' (mv' 4) (mc' (mv' 3) mn'))))) az)
   (mz' (aI (ah (aM hr.units) (mv' 6) ac (av _)) (aa (ai (mf' Gfirst_quickest (hr.mono (by decide)) (mc' (mv' 0) (mc' (mv' 4) (mc' (mv' 3) mn')))))) az)
   (aa (ai (ad (ad (mv' 1) mh') (mf' Gplace_of_lines (hr.mono (by decide)) (mc' (mv' 0) (mc' (mv' 4) mn'))))))))))))),?_⟩
 case ar=>rintro as Kc ⟨h,r,l,t,o,rfl,_⟩; rfl
 rintro as Kc hl ⟨h,r,l,t,o,rfl,ho,hr0,hL,hO,k⟩
 have hll:=hL.1
 have hO':Ord l.length o:=by rw [hll]; exact hO
 cases r with
 | random =>
  refine am (MSt.mk [some (.imm h.d),some (.imm (.tuple [.str "random"])),some (.imm (.tuple [lnD l,.int (t:Int)])),some (.imm (.tuple (natD o))),none,none,none] [] 0) rfl ?_
  walk_at "xs"
  ·rfl
  walk_at "xs"
  refine ay (fun _=>?_) (fun z=>(z rfl).elim)
  obtain ⟨o0,os,rfl,h0⟩:=hO.cons
  walk_at "xs"
  refine bp (aV (j:=0) (a8 rfl)) ?_
  walk_at "xs"
  exact k
 | turns =>
  refine am (MSt.mk [some (.imm h.d),some (.imm (.tuple [.str "turns"])),some (.imm (.tuple [lnD l,.int (t:Int)])),some (.imm (.tuple (natD o))),none,none,none] [] 0) rfl ?_
  walk_at "xs"
  ·rfl
  walk_at "xs"
  refine ay (fun z=>absurd z (by decide +kernel)) (fun _=>?_)
  walk_at "xs"
  refine ay (fun _=>?_) (fun z=>(z rfl).elim)
  walk_at "xs"
  exact k
 | two =>
  refine am (MSt.mk [some (.imm h.d),some (.imm (.tuple [.str "two"])),some (.imm (.tuple [lnD l,.int (t:Int)])),some (.imm (.tuple (natD o))),none,none,none] [] 0) rfl ?_
  walk_at "xs"
  ·rfl
  walk_at "xs"
  refine ay (fun z=>absurd z (by decide +kernel)) (fun _=>?_)
  walk_at "xs"
  refine ay (fun z=>absurd z (by decide +kernel)) (fun _=>?_)
  walk_at "xs"
  refine ay (fun _=>?_) (fun z=>(z rfl).elim)
  walk_at "xs"
  have e:cutD (natD o) none (some 2) = natD (o.take 2):=by
   rw [show (2:Int) = ((2:Nat):Int) from rfl,kJ]; simp [natD]
  rw [e]
  obtain ⟨o0,os,rfl,h0⟩:=hO.cons
  refine ⟨l,(o0 :: os).take 2,rfl,⟨by simp,fun k hk=>hO'.lt k (List.mem_of_mem_take hk),by rw [List.length_take]; omega⟩,?_⟩
  walk_at "xn"
  exact k
 | least =>
  refine am (MSt.mk [some (.imm h.d),some (.imm (.tuple [.str "least"])),some (.imm (.tuple [lnD l,.int (t:Int)])),some (.imm (.tuple (natD o))),none,none,none] [] 0) rfl ?_
  walk_at "xs"
  ·rfl
  walk_at "xs"
  refine ay (fun z=>absurd z (by decide +kernel)) (fun _=>?_)
  walk_at "xs"
  refine ay (fun z=>absurd z (by decide +kernel)) (fun _=>?_)
  walk_at "xs"
  refine ay (fun z=>absurd z (by decide +kernel)) (fun _=>?_)
  walk_at "xs"
  refine ay (fun _=>?_) (fun z=>(z rfl).elim)
  walk_at "xs"
  refine ⟨l,o,rfl,hO',?_⟩
  walk_at "xn"
  exact k
 | quick =>
  refine am (MSt.mk [some (.imm h.d),some (.imm (.tuple [.str "quick"])),some (.imm (.tuple [lnD l,.int (t:Int)])),some (.imm (.tuple (natD o))),none,none,none] [] 0) rfl ?_
  walk_at "xs"
  ·rfl
  walk_at "xs"
  refine ay (fun z=>absurd z (by decide +kernel)) (fun _=>?_)
  walk_at "xs"
  refine ay (fun z=>absurd z (by decide +kernel)) (fun _=>?_)
  walk_at "xs"
  refine ay (fun z=>absurd z (by decide +kernel)) (fun _=>?_)
  walk_at "xs"
  refine ay (fun z=>absurd z (by decide +kernel)) (fun _=>?_)
  walk_at "xs"
  refine ay (fun _=>?_) (fun z=>(z rfl).elim)
  walk_at "xs"
  refine ⟨h,l,o,rfl,ho,hL,hO,?_⟩
  walk_at "xn"
  exact k
 | told ps =>
  refine am (MSt.mk [some (.imm h.d),some (.imm (.tuple [.str "told",.tuple (natD ps)])),some (.imm (.tuple [lnD l,.int (t:Int)])),some (.imm (.tuple (natD o))),none,none,none] [] 0) rfl ?_
  walk_at "xs"
  ·rfl
  walk_at "xs"
  refine ay (fun z=>absurd z (by decide +kernel)) (fun _=>?_)
  walk_at "xs"
  refine ay (fun z=>absurd z (by decide +kernel)) (fun _=>?_)
  walk_at "xs"
  refine ay (fun z=>absurd z (by decide +kernel)) (fun _=>?_)
  walk_at "xs"
  refine ay (fun z=>absurd z (by decide +kernel)) (fun _=>?_)
  walk_at "xs"
  refine ay (fun z=>absurd z (by decide +kernel)) (fun _=>?_)
  walk_at "xs"
  refine ⟨h,l,rfl,ho,hL,?_⟩
  walk_at "xn"
  have hlt:M7.placeF 0 h.rs l < ps.length:=by rw [hr0.1,M7.allR_cnt]; exact M7.place_lt hL.fits
  refine bp (aV (a8 (getN rfl hlt))) ?_
  exact k
theorem kl (T:Bl mg) (D:DefM K mg "first_stand" fq ["hall"]):FnM P w K mg base "first_stand" 1 1 lc:=by
 refine aZ D lb rfl (nN:=1) rfl (by decide) ?ar fun cdv A outer s H E f hr=>⟨_,(aa (ai (aC (mc' (af bi (aC (mc' mh' mn')) (aq aY (by rfl) T.len cr (mc' (ad (mv' 0) mh') mn'))) (mc' mh' mn'))))),?_⟩
 case ar=>rintro as Kc ⟨h,rfl,_⟩; rfl
 rintro as Kc hl ⟨h,rfl,ho,k⟩
 have n1:=ho.n1
 have n4:=ho.n4
 refine am (MSt.mk [some (.imm (.tuple [.tuple [.int h.a,.int h.b],.tuple (h.ss.map Srv.d),.bool h.mv]))] [] 0) rfl ?_
 walk_at "xs"
 rw [List.length_map]
 refine wG (by omega) (by omega) (by simp; omega) ?_
 walk_at "xs"
 have e:(List.replicate ((h.ss.length:Nat):Int).toNat [PyData.int 0]).flatten = natD (zer h):=by
  rw [Int.toNat_natCast]; simp [zer,natD]
 rw [e]
 exact k
theorem mR (T:Bl mg) (D:DefM K mg "with_more" g9 ["lines", "line", "more"]):FnM P w K mg base "with_more" 1 3 p7:=by
 refine aZ D m6 rfl (nN:=3) rfl (by decide) ?ar fun cdv A outer s H E f hr=>⟨_,(aa (ai (af aG (af aG (bU dt (mv' 0) cF (cG (mv' 1))) (aC (mc' (af aG (ad (mv' 0) (mv' 1)) (mv' 2)) mn'))) (bU dt (mv' 0) (cG (af aG (mv' 1) mh')) cF)))),?_⟩
 case ar=>rintro as Kc ⟨l,j,d,x,rfl,_⟩; rfl
 rintro as Kc hl ⟨l,j,d,x,rfl,hj,hl4,hx,k⟩
 refine am (MSt.mk [some (.imm (.tuple (natD l))),some (.imm (.int (j:Int))),some (.imm (.int d))] [] 0) rfl ?_
 walk_at "xs"
 refine bp (aV (a8 (getN rfl hj))) ?_
 walk_at "xs"
 rw [hx,kJ]
 refine po (by rw [sizeLine_eq,List.length_take,aF]; simp; omega) ?_
 walk_at "xs"
 rw [show (j:Int) + 1 = ((j + 1:Nat):Int) from rfl,i4]
 refine po (by rw [sizeLine_eq,List.length_append,List.length_take,List.length_drop,aF]; simp; omega) ?_
 walk_at "xs"
 have e:(natD l).take j++[.int (x:Int)]++(natD l).drop (j + 1) = natD (l.set j x):=by
  rw [←u0,List.set_eq_take_append_cons_drop,if_pos (by rw [aF]; exact hj)]
  simp
 rw [e]
 exact k
theorem qZ (T:Bl mg) (D:DefM K mg "come_to" kj ["hall", "lines", "line"]) (Gwith_more:FnM P w K mg base "with_more" 1 3 p7):FnM P w K mg base "come_to" 2 3 wz:=by
 refine aZ D sN rfl (nN:=3) rfl (by decide) ?ar fun cdv A outer s H E f hr=>⟨_,(mz' (aI (ah (aM hr.units) (ad (mv' 1) (mv' 2)) (ad (ad (ad (mv' 0) mh') (mv' 2)) mh') (av _)) (aa (ai (aC (mc' (mv' 1) (mc' ac mn'))))) az)
   (aa (ai (aC (mc' (mf' Gwith_more (hr.mono (by decide)) (mc' (mv' 1) (mc' (mv' 2) (mc' mh' mn')))) (mc' ac mn')))))),?_⟩
 case ar=>rintro as Kc ⟨h,l,j,rfl,_⟩; rfl
 rintro as Kc hl ⟨h,l,j,rfl,ho,hL,hj,k⟩
 have hll:=hL.1
 have n4:=ho.n4
 obtain ⟨s,es,ea,eb,hs⟩:=h.srv hj
 have er:h.rn j = s.r:=aD (Hall.rs_get es)
 refine am (MSt.mk [some (.imm (.tuple [.tuple [.int h.a,.int h.b],.tuple (h.ss.map Srv.d),.bool h.mv])),some (.imm (.tuple (natD l))),some (.imm (.int (j:Int)))] [] 0) rfl ?_
 walk_at "xs"
 refine bp (aV (a8 (getN hll hj))) ?_
 walk_at "xs"
 refine bp (d:=s.d) (aV (by rw [List.getElem?_map,es]; rfl)) ?_
 dsimp only [Srv.d]
 walk_at "xs"
 refine ay (fun z=>?_) (fun z=>?_)
 ·walk_at "xs"
  have e:cx h l j = (l,.away):=if_pos (by rw [er]; omega)
  rw [e] at k
  exact k
 ·walk_at "xs"
  refine ⟨l,j,1,l.getD j 0 + 1,rfl,by omega,by omega,rfl,?_⟩
  walk_at "xx"
  have e:cx h l j = (l.set j (l.getD j 0 + 1),.taken):=if_neg (by rw [er]; omega)
  rw [e] at k
  exact k
theorem q9 (T:Bl mg) (D:DefM K mg "done_at" ka ["lines", "line"]) (Gwith_more:FnM P w K mg base "with_more" 1 3 p7):FnM P w K mg base "done_at" 2 2 xH:=by
 refine aZ D sf rfl (nN:=2) rfl (by decide) ?ar fun cdv A outer s H E f hr=>⟨_,(mz' (aI (ah (aM hr.units) (ad (mv' 0) (mv' 1)) mh' (av _)) (aa (ai (aC (mc' (mv' 0) (mc' ac mn'))))) az)
   (aa (ai (aC (mc' (mf' Gwith_more (hr.mono (by decide)) (mc' (mv' 0) (mc' (mv' 1) (mc' (jN gJ mh') mn')))) (mc' ac mn')))))),?_⟩
 case ar=>rintro as Kc ⟨l,j,rfl,_⟩; rfl
 rintro as Kc hl ⟨l,j,rfl,hj,hl4,k⟩
 refine am (MSt.mk [some (.imm (.tuple (natD l))),some (.imm (.int (j:Int)))] [] 0) rfl ?_
 walk_at "xs"
 refine bp (aV (a8 (getN rfl hj))) ?_
 walk_at "xs"
 refine ay (fun z=>?_) (fun z=>?_)
 ·walk_at "xs"
  have e:cf l j = (l,.none):=if_pos (by omega)
  rw [e] at k
  exact k
 ·walk_at "xs"
  refine ⟨l,j,-1,l.getD j 0 - 1,rfl,hj,hl4,by omega,?_⟩
  walk_at "xx"
  have e:cf l j = (l.set j (l.getD j 0 - 1),.served):=if_neg (by omega)
  rw [e] at k
  exact k
theorem ly (T:Bl mg) (D:DefM K mg "next_shift" d5 ["hall", "lines"]):FnM P w K mg base "next_shift" 1 2 tm:=by
 refine aZ D iy rfl (nN:=2) rfl (by decide) ?ar fun cdv A outer s H E f hr=>⟨_,(mz' (aI (EW.pt (iM (jh (fZ (ad (mv' 0) mh'))) (iM (ah (mh hr.units) mh' (mv' 1) (by with_unfolding_all rfl)) (jc (ah gm (aq (cW rfl) (by rfl) T.max jK (mc' (mv' 1) mn')) mh' (av _)))))) (aa (ai dH)) az)
   (aa (ai (aC (mc' (xr PySem.F.slot_tuple_index PySem.F.type_tuple_index (jM hr.units) (mv' 1) (mc' (aq (cW rfl) (by rfl) T.max jK (mc' (mv' 1) mn')) mn')) (mc' (xr PySem.F.slot_tuple_index PySem.F.type_tuple_index (jM hr.units) (mv' 1) (mc' mh' mn')) mn')))))),?_⟩
 case ar=>rintro as Kc ⟨h,l,rfl,_⟩; rfl
 rintro as Kc hl ⟨h,l,rfl,hne,hl4,k⟩
 have hints:cq (natD l) = some (l.map fun (x:Nat)=>(x:Int)):=by
  have:=cE (l.map fun (x:Nat)=>(x:Int))
  rwa [List.map_map] at this
 have hnei:(l.map fun (x:Nat)=>(x:Int))≠[]:=fun z=>hne (List.map_eq_nil_iff.mp z)
 have hmax:∀ x:Int,x∈(l.map fun (x:Nat)=>(x:Int))→(∀ y∈(l.map fun (x:Nat)=>(x:Int)),y≤x)→x = (maxN l:Int):=fun x hx hy=>by
  obtain ⟨n,hn,rfl⟩:=List.mem_map.mp hx
  have h1:=kO n hn
  have h2:=hy (maxN l:Int) (List.mem_map.mpr ⟨maxN l,dQ hne,rfl⟩)
  omega
 have hin:(natD l).any (fun y=>PyData.eqv y (.int 0)) = decide (0∈l):=by
  rw [Bool.eq_iff_iff]
  rw [List.any_eq_true,decide_eq_true_eq]
  constructor
  ·rintro ⟨y,hy,e⟩
   obtain ⟨x,hx,rfl⟩:=List.mem_map.mp hy
   have e':=bC x 0
   rw [show ((0:Nat):Int) = 0 from rfl,e] at e'
   have:x = 0:=of_decide_eq_true e'.symm
   rw [←this]; exact hx
  ·intro h0
   exact ⟨.int 0,List.mem_map.mpr ⟨0,h0,rfl⟩,bC 0 0⟩
 refine am (MSt.mk [some (.imm (.tuple [.tuple [.int h.a,.int h.b],.tuple (h.ss.map Srv.d),.bool h.mv])),some (.imm (.tuple (natD l)))] [] 0) rfl ?_
 walk_at "xs"
 cases hmv:h.mv with
 | false =>
  refine db ?_
  walk_at "xs"
  have e:br h l = none:=if_neg (by rw [hmv]; exact fun z=>by cases z.1)
  rw [e] at k
  exact k
 | true =>
  refine bV ?_
  walk_at "xs"
  refine x_in (d:=.int 0) (ds:=natD l) rfl (.inr rfl) (cI 0) (bW l) (by decide) ?_
  walk_at "xs"
  rw [hin]
  by_cases h0 : 0∈l
  ·rw [decide_eq_true h0]
   refine bV ?_
   walk_at "xs"
   refine jT rfl hints hnei fun x hx hy=>?_
   rw [hmax x hx hy]
   walk_at "xs"
   refine ay (fun z=>?_) (fun z=>?_)
   ·walk_at "xs"
    have e:br h l = none:=if_neg (fun q=>by have:=q.2.2; omega)
    rw [e] at k
    exact k
   ·walk_at "xs"
    refine jT rfl hints hnei fun x hx hy=>?_
    rw [hmax x hx hy]
    have s1:=dj (dQ hne)
    have s0:=dj h0
    walk_at "xs"
    refine pZ (j:=idx l (maxN l)) (k':=0) (cI _) (bW l) (by decide) (a8 s1.1) (by rw [bC]; exact decide_eq_true rfl) (fun i y hi hy=>?_) ?_
    ·obtain ⟨z,ez,rfl,_⟩:=gmap hy
     rw [bC]; exact decide_eq_false (s1.2 i z hi ez)
    walk_at "xs"
    refine pZ (j:=idx l 0) (k':=0) (cI _) (bW l) (by decide) (a8 s0.1) (bC 0 0) (fun i y hi hy=>?_) ?_
    ·obtain ⟨z',ez,rfl,_⟩:=gmap hy
     have:=bC z' 0
     rw [show ((0:Nat):Int) = 0 from rfl] at this
     rw [this]; exact decide_eq_false (s0.2 i z' hi ez)
    walk_at "xs"
    have e:br h l = some (idx l (maxN l),idx l 0):=if_pos ⟨hmv,h0,by omega⟩
    rw [e] at k
    exact k
  ·rw [decide_eq_false h0]
   refine db ?_
   walk_at "xs"
   have e:br h l = none:=if_neg (fun q=>h0 q.2.1)
   rw [e] at k
   exact k
theorem jq (T:Bl mg) (D:DefM K mg "next_shift" d5 ["hall", "lines"]):FnM P w K mg base "next_shift" 1 2 oI:=by
 refine aZ D iy rfl (nN:=2) rfl (by decide) ?ar fun cdv A outer s H E f hr=>⟨_,(mz' (aI (EW.pt (iM (jh (fZ (ad (mv' 0) mh'))) (iM (ah (mh hr.units) mh' (mv' 1) (by with_unfolding_all rfl)) (jc (ah gm (aq (cW rfl) (by rfl) T.max jK (mc' (mv' 1) mn')) mh' (av _)))))) (aa (ai dH)) az)
   (aa (ai (aC (mc' (cg PySem.F.slot_list_index PySem.F.type_list_index (fg hr.units) (mv' 1) (mc' (aq (cW rfl) (by rfl) T.max jK (mc' (mv' 1) mn')) mn')) (mc' (cg PySem.F.slot_list_index PySem.F.type_list_index (fg hr.units) (mv' 1) (mc' mh' mn')) mn')))))),?_⟩
 case ar=>rintro as Kc ⟨h,l,rfl,_⟩; rfl
 rintro as Kc hl ⟨h,l,rfl,hne,hl4,k⟩
 have hints:cq (natD l) = some (l.map fun (x:Nat)=>(x:Int)):=by
  have:=cE (l.map fun (x:Nat)=>(x:Int))
  rwa [List.map_map] at this
 have hnei:(l.map fun (x:Nat)=>(x:Int))≠[]:=fun z=>hne (List.map_eq_nil_iff.mp z)
 have hmax:∀ x:Int,x∈(l.map fun (x:Nat)=>(x:Int))→(∀ y∈(l.map fun (x:Nat)=>(x:Int)),y≤x)→x = (maxN l:Int):=fun x hx hy=>by
  obtain ⟨n,hn,rfl⟩:=List.mem_map.mp hx
  have h1:=kO n hn
  have h2:=hy (maxN l:Int) (List.mem_map.mpr ⟨maxN l,dQ hne,rfl⟩)
  omega
 have hin:(natD l).any (fun y=>PyData.eqv y (.int 0)) = decide (0∈l):=by
  rw [Bool.eq_iff_iff]
  rw [List.any_eq_true,decide_eq_true_eq]
  constructor
  ·rintro ⟨y,hy,e⟩
   obtain ⟨x,hx,rfl⟩:=List.mem_map.mp hy
   have e':=bC x 0
   rw [show ((0:Nat):Int) = 0 from rfl,e] at e'
   have:x = 0:=of_decide_eq_true e'.symm
   rw [←this]; exact hx
  ·intro h0
   exact ⟨.int 0,List.mem_map.mpr ⟨0,h0,rfl⟩,bC 0 0⟩
 refine am (MSt.mk [some (.imm (.tuple [.tuple [.int h.a,.int h.b],.tuple (h.ss.map Srv.d),.bool h.mv])),some (.imm (.list (natD l)))] [] 0) rfl ?_
 walk_at "xs"
 cases hmv:h.mv with
 | false =>
  refine db ?_
  walk_at "xs"
  have e:br h l = none:=if_neg (by rw [hmv]; exact fun z=>by cases z.1)
  rw [e] at k
  exact k
 | true =>
  refine bV ?_
  walk_at "xs"
  refine x_in (d:=.int 0) (ds:=natD l) rfl (.inl rfl) (cI 0) (bW l) (by decide) ?_
  walk_at "xs"
  rw [hin]
  by_cases h0 : 0∈l
  ·rw [decide_eq_true h0]
   refine bV ?_
   walk_at "xs"
   refine jT rfl hints hnei fun x hx hy=>?_
   rw [hmax x hx hy]
   walk_at "xs"
   refine ay (fun z=>?_) (fun z=>?_)
   ·walk_at "xs"
    have e:br h l = none:=if_neg (fun q=>by have:=q.2.2; omega)
    rw [e] at k
    exact k
   ·walk_at "xs"
    refine jT rfl hints hnei fun x hx hy=>?_
    rw [hmax x hx hy]
    have s1:=dj (dQ hne)
    have s0:=dj h0
    walk_at "xs"
    refine iO (j:=idx l (maxN l)) (k':=0) rfl (cI _) (bW l) (by decide) (a8 s1.1) (by rw [bC]; exact decide_eq_true rfl) (fun i y hi hy=>?_) ?_
    ·obtain ⟨z,ez,rfl,_⟩:=gmap hy
     rw [bC]; exact decide_eq_false (s1.2 i z hi ez)
    walk_at "xs"
    refine iO (j:=idx l 0) (k':=0) rfl (cI _) (bW l) (by decide) (a8 s0.1) (bC 0 0) (fun i y hi hy=>?_) ?_
    ·obtain ⟨z',ez,rfl,_⟩:=gmap hy
     have:=bC z' 0
     rw [show ((0:Nat):Int) = 0 from rfl] at this
     rw [this]; exact decide_eq_false (s0.2 i z' hi ez)
    walk_at "xs"
    have e:br h l = some (idx l (maxN l),idx l 0):=if_pos ⟨hmv,h0,by omega⟩
    rw [e] at k
    exact k
  ·rw [decide_eq_false h0]
   refine db ?_
   walk_at "xs"
   have e:br h l = none:=if_neg (fun q=>h0 q.2.1)
   rw [e] at k
   exact k
theorem ue (T:Bl mg) (D:DefM K mg "settled" j8 ["hall", "lines"]) (Gnext_shift:FnM P w K mg base "next_shift" 1 2 tm) (Gwith_more:FnM P w K mg base "with_more" 1 3 p7):FnM P w K mg base "settled" 2 2 mm:=by
 refine aZ D scsettled rfl (nN:=3) rfl (by decide) ?ar fun cdv A outer s H E f hr=>⟨_,(mz' (ae (i:=2) scsettled.nd rfl (Or.inl rfl) (mf' Gnext_shift (hr.mono (by decide)) (mc' (mv' 0) (mc' (mv' 1) mn'))))
   (mz' (gc (ah fJ (mv' 2) dH (av _)) (mz' (ae (i:=1) scsettled.nd rfl (Or.inl rfl) (mf' Gwith_more (hr.mono (by decide)) (mc' (mf' Gwith_more (hr.mono (by decide)) (mc' (mv' 1) (mc' (ad (mv' 2) mh') (mc' (jN gJ mh') mn')))) (mc' (ad (mv' 2) mh') (mc' mh' mn')))))
   (aa (ae (i:=2) scsettled.nd rfl (Or.inl rfl) (mf' Gnext_shift (hr.mono (by decide)) (mc' (mv' 0) (mc' (mv' 1) mn')))))) PassesOwn.never)
   (aa (ai (mv' 1))))),?_⟩
 case ar=>rintro as Kc ⟨h,l,rfl,_⟩; rfl
 rintro as Kc hl ⟨h,l,rfl,hne,hl4,k⟩
 refine am (MSt.mk [some (.imm h.d),some (.imm (lnD l)),none] [] 0) rfl ?_
 walk_at "xs"
 refine ⟨h,l,rfl,hne,hl4,?_⟩
 walk_at "xx"
 refine kg (fun n m=>∃ l':List Nat,m = MSt.mk [some (.imm h.d),some (.imm (lnD l')),some (.imm (optP (br h l')))] [] 0∧n = l'.count 0∧cJ h n l' = cy h l∧l'≠[]∧l'.length≤1000) (l.count 0) ⟨l,rfl,rfl,rfl,hne,hl4⟩ ?_
 rintro n m hn ⟨l',rfl,rfl,hs,hne',hl'⟩
 walk_at "xs"
 cases e:br h l' with
 | none =>
  refine bV ?_
  walk_at "xs"
  rw [mE e] at hs
  rw [←hs] at k
  exact k
 | some p =>
  refine db ?_
  obtain ⟨es,l1,l2,hc,hlen⟩:=c5 e
  obtain ⟨m0,m1,m2,m3,m4⟩:=ce e
  have g1:l'.getD p.1 0 = maxN l':=aD m1
  have g2:(l'.set p.1 (maxN l' - 1)).getD p.2 0 = 0:=aD (by rw [List.getElem?_set_ne m4]; exact m3)
  dsimp only [optP]
  walk_at "xs"
  refine ⟨l',p.1,-1,maxN l' - 1,rfl,l1,hl',by omega,?_⟩
  walk_at "xx"
  refine ⟨l'.set p.1 (maxN l' - 1),p.2,1,1,rfl,by rw [List.length_set]; exact l2,by rw [List.length_set]; exact hl',by omega,?_⟩
  rw [←es]
  walk_at "xx"
  have hne2:bT l' p≠[]:=fun z=>by
   rw [z] at hlen
   exact hne' (List.eq_nil_of_length_eq_zero hlen.symm)
  refine ⟨h,bT l' p,rfl,hne2,by omega,?_⟩
  walk_at "xx"
  refine ⟨(bT l' p).count 0,by omega,bT l' p,rfl,rfl,?_,hne2,by omega⟩
  rw [←hs,←hc]
  show _ = cJ h ((bT l' p).count 0 + 1) l'
  simp only [cJ,e]
theorem j3 (T:Bl mg) (D:DefM K mg "turn_behind" fh ["hall", "rule", "turn"]):FnM P w K mg base "turn_behind" 1 3 qW:=by
 refine aZ D kH rfl (nN:=3) rfl (by decide) ?ar fun cdv A outer s H E f hr=>⟨_,(mz' (aI (ah (aM hr.units) (ad (mv' 1) mh') ac (av _)) (aa (ai (af da (af aG (mv' 2) mh') (aq aY (by rfl) T.len cr (mc' (ad (mv' 0) mh') mn'))))) az)
   (aa (ai (mv' 2)))),?_⟩
 case ar=>rintro as Kc ⟨h,r,t,rfl,_⟩; rfl
 rintro as Kc hl ⟨h,r,t,rfl,ho,k⟩
 have n1:=ho.n1
 refine am (MSt.mk [some (.imm (.tuple [.tuple [.int h.a,.int h.b],.tuple (h.ss.map Srv.d),.bool h.mv])),some (.imm r.d),some (.imm (.int (t:Int)))] [] 0) rfl ?_
 walk_at "xs"
 refine fQ r.dc (aV (j:=0) rfl) ?_
 walk_at "xs"
 refine ay (fun z=>?_) (fun z=>?_)
 ·have hr:r = .turns:=by cases r <;> first | rfl | exact absurd z (by decide +kernel) | exact absurd (show ("told" : Str) = "turns" from z) (by decide +kernel)
  subst hr
  walk_at "xs"
  refine uO (by rw [List.length_map]; omega) ?_
  rw [List.length_map]
  exact k
 ·walk_at "xs"
  have e:lw h r t = t:=by cases r <;> first | rfl | exact absurd rfl z
  rw [e] at k
  exact k
theorem tX (T:Bl mg) (D:DefM K mg "line_of" lg ["hall", "rule", "stand", "move"]) (Gsent_to:FnM P w K mg base "sent_to" 3 4 oT):FnM P w K mg base "line_of" 4 4 km:=by
 refine aZ D t7 rfl (nN:=4) rfl (by decide) ?ar fun cdv A outer s H E f hr=>⟨_,(mz' (aI (ah (aM hr.units) (ad (mv' 3) mh') ac (av _)) (aa (ai (mf' Gsent_to (hr.mono (by decide)) (mc' (mv' 0) (mc' (mv' 1) (mc' (mv' 2) (mc' (ad (mv' 3) mh') mn'))))))) az)
   (mz' (aI (ah (aM hr.units) (ad (mv' 3) mh') ac (av _)) (aa (ai (ad (mv' 3) mh'))) az)
   (aa (ai dH)))),?_⟩
 case ar=>rintro as Kc ⟨h,r,l,t,mv,rfl,_⟩; rfl
 rintro as Kc hl ⟨h,r,l,t,mv,rfl,ho,hr0,hL,hm,k⟩
 cases mv with
 | come o =>
  refine am (MSt.mk [some (.imm h.d),some (.imm r.d),some (.imm (stD l t)),some (.imm (.tuple [.str "come",lnD o]))] [] 0) rfl ?_
  walk_at "xs"
  refine ay (fun _=>?_) (fun z=>(z rfl).elim)
  walk_at "xs"
  refine ⟨h,r,l,t,o,rfl,ho,hr0,hL,hm,?_⟩
  walk_at "xn"
  exact k
 | done j =>
  refine am (MSt.mk [some (.imm h.d),some (.imm r.d),some (.imm (stD l t)),some (.imm (.tuple [.str "done",.int (j:Int)]))] [] 0) rfl ?_
  walk_at "xs"
  refine ay (fun z=>absurd z (by decide +kernel)) (fun _=>?_)
  walk_at "xs"
  refine ay (fun _=>?_) (fun z=>(z rfl).elim)
  walk_at "xs"
  exact k
 | still =>
  refine am (MSt.mk [some (.imm h.d),some (.imm r.d),some (.imm (stD l t)),some (.imm (.tuple [.str "still"]))] [] 0) rfl ?_
  walk_at "xs"
  refine ay (fun z=>absurd z (by decide +kernel)) (fun _=>?_)
  walk_at "xs"
  refine ay (fun z=>absurd z (by decide +kernel)) (fun _=>?_)
  walk_at "xs"
  exact k
theorem qv (T:Bl mg) (D:DefM K mg "moved_on" jw ["hall", "rule", "stand", "move"]) (Gline_of:FnM P w K mg base "line_of" 4 4 km) (Gcome_to:FnM P w K mg base "come_to" 2 3 wz) (Gturn_behind:FnM P w K mg base "turn_behind" 1 3 qW) (Gdone_at:FnM P w K mg base "done_at" 2 2 xH) (Gsettled:FnM P w K mg base "settled" 2 2 mm):FnM P w K mg base "moved_on" 5 4 lj:=by
 refine aZ D scmoved_on rfl (nN:=8) rfl (by decide) ?ar fun cdv A outer s H E f hr=>⟨_,(mz' (cK (mv' 2) (bF (n:=2) (ak (ag (i:=4) scmoved_on.nd rfl (Or.inl rfl)) (ak (ag (i:=5) scmoved_on.nd rfl (Or.inl rfl)) bj))))
   (mz' (ae (i:=6) scmoved_on.nd rfl (Or.inl rfl) ac)
   (mz' (ae (i:=7) scmoved_on.nd rfl (Or.inl rfl) (mf' Gline_of (hr.mono (by decide)) (mc' (mv' 0) (mc' (mv' 1) (mc' (mv' 2) (mc' (mv' 3) mn'))))))
   (mz' (aI (ah (aM hr.units) (ad (mv' 3) mh') ac (av _)) (mz' (cK (mf' Gcome_to (hr.mono (by decide)) (mc' (mv' 0) (mc' (mv' 4) (mc' (mv' 7) mn')))) (bF (n:=2) (ak (ag (i:=4) scmoved_on.nd rfl (Or.inl rfl)) (ak (ag (i:=6) scmoved_on.nd rfl (Or.inl rfl)) bj))))
   (aa (ae (i:=5) scmoved_on.nd rfl (Or.inl rfl) (mf' Gturn_behind (hr.mono (by decide)) (mc' (mv' 0) (mc' (mv' 1) (mc' (mv' 5) mn'))))))) (aa (aI (ah (aM hr.units) (ad (mv' 3) mh') ac (av _)) (aa (cK (mf' Gdone_at (hr.mono (by decide)) (mc' (mv' 4) (mc' (mv' 7) mn'))) (bF (n:=2) (ak (ag (i:=4) scmoved_on.nd rfl (Or.inl rfl)) (ak (ag (i:=6) scmoved_on.nd rfl (Or.inl rfl)) bj))))) az)))
   (aa (ai (aC (mc' (aC (mc' (mf' Gsettled (hr.mono (by decide)) (mc' (mv' 0) (mc' (mv' 4) mn'))) (mc' (mv' 5) mn'))) (mc' (mv' 6) mn'))))))))),?_⟩
 case ar=>rintro as Kc ⟨h,r,l,t,mv,rfl,_⟩; rfl
 rintro as Kc hl ⟨h,r,l,t,mv,rfl,ho,hr0,hL,hm,ht,k⟩
 have hll:=hL.1
 have n1:=ho.n1
 have n4:=ho.n4
 have ne:∀ l':List Nat,l'.length = l.length→l'≠[]:=fun l' e z=>by rw [z] at e; simp at e; omega
 cases mv with
 | come o =>
  refine am (MSt.mk [some (.imm h.d),some (.imm r.d),some (.imm (.tuple [lnD l,.int (t:Int)])),some (.imm (.tuple [.str "come",lnD o])),none,none,none,none] [] 0) rfl ?_
  walk_at "xs"
  ·rfl
  walk_at "xs"
  refine ⟨h,r,l,t,.come o,rfl,ho,hr0,hL,hm,?_⟩
  dsimp only [vb]
  walk_at "xx"
  refine ay (fun _=>?_) (fun z=>(z rfl).elim)
  walk_at "xs"
  refine ⟨h,l,sent h r l t o,rfl,ho,hL,jZ ho hr0 hL hm ht,?_⟩
  walk_at "xn"
  dsimp only [lwD]
  walk_at "xs"
  ·rfl
  walk_at "xs"
  refine ⟨h,r,t,rfl,ho,?_⟩
  walk_at "xx"
  have hlen:(cx h l (sent h r l t o)).1.length = l.length:=by unfold cx; split <;> simp
  refine ⟨h,_,rfl,ne _ hlen,by omega,?_⟩
  walk_at "xx"
  exact k
 | done j =>
  refine am (MSt.mk [some (.imm h.d),some (.imm r.d),some (.imm (.tuple [lnD l,.int (t:Int)])),some (.imm (.tuple [.str "done",.int (j:Int)])),none,none,none,none] [] 0) rfl ?_
  walk_at "xs"
  ·rfl
  walk_at "xs"
  refine ⟨h,r,l,t,.done j,rfl,ho,hr0,hL,hm,?_⟩
  dsimp only [vb]
  walk_at "xx"
  refine ay (fun z=>absurd z (by decide +kernel)) (fun _=>?_)
  walk_at "xs"
  refine ay (fun _=>?_) (fun z=>(z rfl).elim)
  walk_at "xs"
  refine ⟨l,j,rfl,by rw [hll]; exact hm,by omega,?_⟩
  walk_at "xn"
  dsimp only [lwD]
  walk_at "xs"
  ·rfl
  walk_at "xs"
  have hlen:(cf l j).1.length = l.length:=by unfold cf; split <;> simp
  refine ⟨h,_,rfl,ne _ hlen,by omega,?_⟩
  walk_at "xx"
  exact k
 | still =>
  refine am (MSt.mk [some (.imm h.d),some (.imm r.d),some (.imm (.tuple [lnD l,.int (t:Int)])),some (.imm (.tuple [.str "still"])),none,none,none,none] [] 0) rfl ?_
  walk_at "xs"
  ·rfl
  walk_at "xs"
  refine ⟨h,r,l,t,.still,rfl,ho,hr0,hL,hm,?_⟩
  dsimp only [vb]
  walk_at "xx"
  refine ay (fun z=>absurd z (by decide +kernel)) (fun _=>?_)
  walk_at "xs"
  refine ay (fun z=>absurd z (by decide +kernel)) (fun _=>?_)
  walk_at "xs"
  refine ⟨h,l,rfl,ne _ rfl,by omega,?_⟩
  walk_at "xx"
  exact k
theorem je (T:Bl mg) (D:DefM K mg "counts_behind" du ["counts", "word"]):FnM P w K mg base "counts_behind" 1 2 yI:=by
 refine aZ D sccounts_behind rfl (nN:=6) rfl (by decide) ?ar fun cdv A outer s H E f hr=>⟨_,(mz' (cK (mv' 0) (bF (n:=4) (ak (ag (i:=2) sccounts_behind.nd rfl (Or.inl rfl)) (ak (ag (i:=3) sccounts_behind.nd rfl (Or.inl rfl)) (ak (ag (i:=4) sccounts_behind.nd rfl (Or.inl rfl)) (ak (ag (i:=5) sccounts_behind.nd rfl (Or.inl rfl)) bj))))))
   (mz' (aI (ah (aM hr.units) (mv' 1) ac (av _)) (aa (ai (aC (mc' (af aG (mv' 2) mh') (mc' (af aG (mv' 3) mh') (mc' (mv' 4) (mc' (mv' 5) mn'))))))) az)
   (mz' (aI (ah (aM hr.units) (mv' 1) ac (av _)) (aa (ai (aC (mc' (af aG (mv' 2) mh') (mc' (mv' 3) (mc' (af aG (mv' 4) mh') (mc' (mv' 5) mn'))))))) az)
   (mz' (aI (ah (aM hr.units) (mv' 1) ac (av _)) (aa (ai (aC (mc' (mv' 2) (mc' (mv' 3) (mc' (mv' 4) (mc' (af aG (mv' 5) mh') mn'))))))) az)
   (aa (ai (mv' 0))))))),?_⟩
 case ar=>rintro as Kc ⟨x,w,rfl,_⟩; rfl
 rintro as Kc hl ⟨x,w,rfl,k⟩
 cases w with
 | taken =>
  refine am (MSt.mk [some (.imm (.tuple [.int (x.c:Int),.int (x.t:Int),.int (x.a:Int),.int (x.s:Int)])),some (.imm (.str "taken")),none,none,none,none] [] 0) rfl ?_
  walk_at "xs"
  ·rfl
  walk_at "xs"
  refine ay (fun _=>?_) (fun z=>(z rfl).elim)
  walk_at "xs"
  exact k
 | away =>
  refine am (MSt.mk [some (.imm (.tuple [.int (x.c:Int),.int (x.t:Int),.int (x.a:Int),.int (x.s:Int)])),some (.imm (.str "away")),none,none,none,none] [] 0) rfl ?_
  walk_at "xs"
  ·rfl
  walk_at "xs"
  refine ay (fun z=>absurd z (by decide +kernel)) (fun _=>?_)
  walk_at "xs"
  refine ay (fun _=>?_) (fun z=>(z rfl).elim)
  walk_at "xs"
  exact k
 | served =>
  refine am (MSt.mk [some (.imm (.tuple [.int (x.c:Int),.int (x.t:Int),.int (x.a:Int),.int (x.s:Int)])),some (.imm (.str "served")),none,none,none,none] [] 0) rfl ?_
  walk_at "xs"
  ·rfl
  walk_at "xs"
  refine ay (fun z=>absurd z (by decide +kernel)) (fun _=>?_)
  walk_at "xs"
  refine ay (fun z=>absurd z (by decide +kernel)) (fun _=>?_)
  walk_at "xs"
  refine ay (fun _=>?_) (fun z=>(z rfl).elim)
  walk_at "xs"
  exact k
 | none =>
  refine am (MSt.mk [some (.imm (.tuple [.int (x.c:Int),.int (x.t:Int),.int (x.a:Int),.int (x.s:Int)])),some (.imm (.str "none")),none,none,none,none] [] 0) rfl ?_
  walk_at "xs"
  ·rfl
  walk_at "xs"
  refine ay (fun z=>absurd z (by decide +kernel)) (fun _=>?_)
  walk_at "xs"
  refine ay (fun z=>absurd z (by decide +kernel)) (fun _=>?_)
  walk_at "xs"
  refine ay (fun z=>absurd z (by decide +kernel)) (fun _=>?_)
  walk_at "xs"
  exact k
theorem iz (T:Bl mg) (D:DefM K mg "askers_settled" bP ["hall", "askers"]) (Gnext_shift:FnM P w K mg base "next_shift" 1 2 oI):FnM P w K mg base "askers_settled" 2 2 xn:=by
 refine aZ D scaskers_settled rfl (nN:=5) rfl (by decide) ?ar fun cdv A outer s H E f hr=>⟨_,(mz' (ae (i:=1) scaskers_settled.nd rfl (Or.inl rfl) (a9 dB (by rfl) T.list ik (mc' (mv' 1) mn')))
   (mz' (ae (i:=2) scaskers_settled.nd rfl (Or.inl rfl) (mf' Gnext_shift (hr.mono (by decide)) (mc' (mv' 0) (mc' (cz (cp (own:=["line"]) (fr:=[]) (ps:=[]) (sc:=(ab bP)) (by exact ⟨rfl,by decide +kernel,by decide +kernel,by decide +kernel,by decide +kernel⟩) (bG (mv' 1)) (fun _ _ _ _ _=>(ag (i:=0) (show List.Nodup ((["line"]:List Str)++([]:List Str)) from by decide +kernel) rfl (Or.inl rfl))) (fun _ _ _ _ _=>cj) (fun _ _ _ _ _=>(aq aY (by rfl) T.len cr (mc' (mv' 0) mn'))))) mn'))))
   (mz' (gc (ah fJ (mv' 2) dH (av _)) (mz' (cK (mv' 2) (bF (n:=2) (ak (ag (i:=3) scaskers_settled.nd rfl (Or.inl rfl)) (ak (ag (i:=4) scaskers_settled.nd rfl (Or.inl rfl)) bj))))
   (mz' (cR (cz (bU dt (ad (mv' 1) (mv' 3)) (cG (jN gJ mh')) cF)) (mv' 1) (mv' 4))
   (mz' (cR (cz (bU dt (ad (mv' 1) (mv' 3)) cF (cG (jN gJ mh')))) (mv' 1) (mv' 3))
   (aa (ae (i:=2) scaskers_settled.nd rfl (Or.inl rfl) (mf' Gnext_shift (hr.mono (by decide)) (mc' (mv' 0) (mc' (cz (cp (own:=["line"]) (fr:=[]) (ps:=[]) (sc:=(ab bP)) (by exact ⟨rfl,by decide +kernel,by decide +kernel,by decide +kernel,by decide +kernel⟩) (bG (mv' 1)) (fun _ _ _ _ _=>(ag (i:=0) (show List.Nodup ((["line"]:List Str)++([]:List Str)) from by decide +kernel) rfl (Or.inl rfl))) (fun _ _ _ _ _=>cj) (fun _ _ _ _ _=>(aq aY (by rfl) T.len cr (mc' (mv' 0) mn'))))) mn')))))))) PassesOwn.never)
   (aa (ai (a9 bv (by rfl) T.tuple cQ (mc' (mv' 1) mn'))))))),?_⟩
 case ar=>rintro as Kc ⟨h,A,rfl,_⟩; rfl
 rintro as Kc hl ⟨h,A,rfl,hne,h4,hsz,k⟩
 have ne_sz:∀ A':List (List Nat),A'≠[]→szs A'≠[]:=fun A' z q=>z (List.map_eq_nil_iff.mp q)
 refine am (MSt.mk [some (.imm h.d),some (.obj 0),none,none,none] [akL A] 1) rfl ?_
 walk_at "xs"
 refine bH ?_
 walk_at "xx"
 walk_at "xn"
 refine gN (fun i m=>∃ a,m = MSt.mk [a] [akL A,akL A,natD ((szs A).take i)] 3) ⟨none,rfl⟩ ?_ ?_ ?_
 ·rintro i m ⟨a,rfl⟩; rfl
 ·rintro i d m e n ⟨a,rfl⟩
  obtain ⟨x,ex,rfl,hi⟩:=gmap e
  dsimp only [lnD]
  walk_at "xs"
  rw [aF]
  refine ⟨_,rfl,by rw [sizeLine_eq,aF,List.length_take,bw]; omega,some (.imm (.tuple (natD x))),?_⟩
  rw [qc ex]
  rfl
 rintro m n ⟨a,rfl⟩
 rw [gZ,←bw,List.take_length]
 walk_at "xx"
 refine ⟨h,szs A,rfl,ne_sz A hne,by rw [bw]; omega,?_⟩
 walk_at "xx"
 refine kg (fun n m=>∃ (A':List (List Nat)) (b c:Option R),m = MSt.mk [some (.imm h.d),some (.obj 1),some (.imm (optP (br h (szs A')))),b,c] [akL A,akL A'] 1∧n = (szs A').count 0∧askN h n A' = bO h A∧A'≠[]∧A'.length = A.length) ((szs A).count 0) ⟨A,none,none,rfl,rfl,rfl,hne,rfl⟩ ?_
 rintro n m hn ⟨A',b,c,rfl,rfl,hs,hne',hl'⟩
 walk_at "xs"
 cases e:br h (szs A') with
 | none =>
  refine bV ?_
  walk_at "xs"
  rw [lx e] at hs
  rw [←hs] at k
  exact k
 | some p =>
  refine db ?_
  obtain ⟨es,l1,l2,hc,hlen⟩:=c5 e
  obtain ⟨m0,m1,m2,m3,m4⟩:=ce e
  rw [bw] at l1 l2
  dsimp only [optP]
  walk_at "xs"
  ·rfl
  walk_at "xs"
  refine' e9 (ds:=akL A') ?ea (aV (k7 l1)) ?_
  case ea=>rfl
  dsimp only [lnD]
  walk_at "xs"
  rw [uF,lA,aF]
  refine' qz (ds:=akL A') (n:=p.2) ?eb ?ec ?_
  case eb=>rfl
  case ec=>rw [gZ]; exact c8 l2
  rw [show PyData.tuple (natD ((A'.getD p.1 []).drop ((A'.getD p.1 []).length - 1))) = lnD ((A'.getD p.1 []).drop ((A'.getD p.1 []).length - 1)) from rfl,k6]
  walk_at "xs"
  have g2:(A'.set p.2 ((A'.getD p.1 []).drop ((A'.getD p.1 []).length - 1))).getD p.1 [] = A'.getD p.1 []:=by
   rw [List.getD_eq_getElem?_getD,List.getElem?_set_ne (Ne.symm m4),←List.getD_eq_getElem?_getD]
  have l1':p.1 < (A'.set p.2 ((A'.getD p.1 []).drop ((A'.getD p.1 []).length - 1))).length:=by rw [List.length_set]; exact l1
  refine' e9 (ds:=akL (A'.set p.2 ((A'.getD p.1 []).drop ((A'.getD p.1 []).length - 1)))) ?ed (aV (k7 l1')) ?_
  case ed=>rfl
  rw [g2]
  dsimp only [lnD]
  walk_at "xs"
  rw [t5,uC]
  refine' qz (ds:=akL (A'.set p.2 ((A'.getD p.1 []).drop ((A'.getD p.1 []).length - 1)))) (n:=p.1) ?ef ?eg ?_
  case ef=>rfl
  case eg=>rw [gZ]; exact c8 l1'
  rw [show PyData.tuple (natD (A'.getD p.1 []).dropLast) = lnD (A'.getD p.1 []).dropLast from rfl,k6,show (A'.set p.2 ((A'.getD p.1 []).drop ((A'.getD p.1 []).length - 1))).set p.1 (A'.getD p.1 []).dropLast = cb A' p from rfl]
  have hl2:(cb A' p).length = A'.length:=by unfold cb; rw [List.length_set,List.length_set]
  have hne2:cb A' p≠[]:=fun z=>by rw [z] at hl2; exact hne' (List.eq_nil_of_length_eq_zero hl2.symm)
  have hss:=tF e
  generalize hB:cb A' p = B at hl2 hne2 hss
  walk_at "xs"
  walk_at "xn"
  refine gN (fun i m=>∃ a,m = MSt.mk [a] [akL A,akL B,natD ((szs B).take i)] 3) ⟨none,rfl⟩ ?_ ?_ ?_
  ·rintro i m ⟨a,rfl⟩; rfl
  ·rintro i d m e n ⟨a,rfl⟩
   obtain ⟨x,ex,rfl,hi⟩:=gmap e
   dsimp only [lnD]
   walk_at "xs"
   rw [aF]
   refine ⟨_,rfl,by rw [sizeLine_eq,aF,List.length_take,bw]; omega,some (.imm (.tuple (natD x))),?_⟩
   rw [qc ex]
   rfl
  rintro m n ⟨a,rfl⟩
  rw [gZ,show B.length = (szs B).length from (bw _).symm,List.take_length]
  walk_at "xx"
  refine ⟨h,szs B,rfl,ne_sz B hne2,by rw [bw]; omega,?_⟩
  walk_at "xx"
  refine ⟨(szs B).count 0,by rw [hss]; omega,B,_,_,rfl,rfl,?_,hne2,by omega⟩
  rw [←hs,←hc,←hss]
  show _ = askN h ((szs B).count 0 + 1) A'
  simp only [askN,e,hB]
theorem iU (T:Bl mg) (D:DefM K mg "askers_behind" dm ["hall", "askers", "line", "word", "number"]) (Gaskers_settled:FnM P w K mg base "askers_settled" 2 2 xn):FnM P w K mg base "askers_behind" 3 5 xm:=by
 refine aZ D scaskers_behind rfl (nN:=5) rfl (by decide) ?ar fun cdv A outer s H E f hr=>⟨_,(mz' (ae (i:=1) scaskers_behind.nd rfl (Or.inl rfl) (a9 dB (by rfl) T.list ik (mc' (mv' 1) mn')))
   (mz' (aI (ah (aM hr.units) (mv' 3) ac (av _)) (aa (cR (af aG (ad (mv' 1) (mv' 2)) (aC (mc' (mv' 4) mn'))) (mv' 1) (mv' 2))) (aa (aI (ah (aM hr.units) (mv' 3) ac (av _)) (aa (cR (cz (bU dt (ad (mv' 1) (mv' 2)) (cG mh') cF)) (mv' 1) (mv' 2))) az)))
   (aa (ai (mf' Gaskers_settled (hr.mono (by decide)) (mc' (mv' 0) (mc' (mv' 1) mn'))))))),?_⟩
 case ar=>rintro as Kc ⟨h,A,ld,j,w,num,rfl,_⟩; rfl
 rintro as Kc hl ⟨h,A,ld,j,w,num,rfl,hne,h4,hsz,hw,k⟩
 have fin:∀ (B:List (List Nat)),B.length = A.length→(∀ x∈B,x.length≤1000)→B = askB A j w num→B≠[]∧B.length≤4:=fun B e1 _ _=>⟨fun z=>by rw [z] at e1; exact hne (List.eq_nil_of_length_eq_zero e1.symm),by omega⟩
 have setl:∀ (x:List Nat),x.length≤1000→∀ y∈A.set j x,y.length≤1000:=fun x hx y hy=>by
  rcases List.mem_or_eq_of_mem_set hy with z | z
  ·have:=hsz y z; omega
  ·rw [z]; exact hx
 have gl:j < A.length→(A.getD j []).length≤900:=fun hj=>by
  rw [aD (List.getElem?_eq_getElem hj)]; exact hsz _ (List.getElem_mem hj)
 cases w with
 | taken =>
  obtain ⟨rfl,hj⟩:=hw (.inl rfl)
  have:=gl hj
  refine am (MSt.mk [some (.imm h.d),some (.imm (.tuple (akL A))),some (.imm (.int (j:Int))),some (.imm (.str "taken")),some (.imm (.int (num:Int)))] [] 0) rfl ?_
  walk_at "xs"
  refine bH ?_
  walk_at "xx"
  refine ay (fun _=>?_) (fun z=>(z rfl).elim)
  walk_at "xs"
  refine' e9 (ds:=akL A) ?ea (aV (k7 hj)) ?_
  case ea=>rfl
  dsimp only [lnD]
  walk_at "xs"
  refine po (by rw [sizeLine_eq,aF,List.length_singleton]; omega) ?_
  walk_at "xs"
  refine' qz (ds:=akL A) (n:=j) ?eb ?ec ?_
  case eb=>rfl
  case ec=>rw [gZ]; exact c8 hj
  rw [show PyData.tuple (natD (A.getD j [])++[.int (num:Int)]) = lnD (A.getD j []++[num]) from by unfold lnD; rw [kb]; rfl,k6]
  walk_at "xs"
  have hl2:∀ x∈A.set j (A.getD j []++[num]),x.length≤1000:=setl _ (by rw [List.length_append,List.length_singleton]; omega)
  obtain ⟨f1,f2⟩:=fin _ (List.length_set ..) hl2 rfl
  refine ⟨h,_,rfl,f1,f2,hl2,?_⟩
  walk_at "xn"
  exact k
 | served =>
  obtain ⟨rfl,hj⟩:=hw (.inr rfl)
  have:=gl hj
  refine am (MSt.mk [some (.imm h.d),some (.imm (.tuple (akL A))),some (.imm (.int (j:Int))),some (.imm (.str "served")),some (.imm (.int (num:Int)))] [] 0) rfl ?_
  walk_at "xs"
  refine bH ?_
  walk_at "xx"
  refine ay (fun z=>absurd z (by decide +kernel)) (fun _=>?_)
  walk_at "xs"
  refine ay (fun _=>?_) (fun z=>(z rfl).elim)
  walk_at "xs"
  refine' e9 (ds:=akL A) ?ea (aV (k7 hj)) ?_
  case ea=>rfl
  dsimp only [lnD]
  walk_at "xs"
  rw [show (1:Int) = ((1:Nat):Int) from rfl,i4,lA]
  refine' qz (ds:=akL A) (n:=j) ?eb ?ec ?_
  case eb=>rfl
  case ec=>rw [gZ]; exact c8 hj
  rw [show PyData.tuple (natD ((A.getD j []).drop 1)) = lnD ((A.getD j []).drop 1) from rfl,k6]
  walk_at "xs"
  have hl2:∀ x∈A.set j ((A.getD j []).drop 1),x.length≤1000:=setl _ (by rw [List.length_drop]; omega)
  obtain ⟨f1,f2⟩:=fin _ (List.length_set ..) hl2 rfl
  refine ⟨h,_,rfl,f1,f2,hl2,?_⟩
  walk_at "xn"
  exact k
 | away =>
  refine am (MSt.mk [some (.imm h.d),some (.imm (.tuple (akL A))),some (.imm ld),some (.imm (.str "away")),some (.imm (.int (num:Int)))] [] 0) rfl ?_
  walk_at "xs"
  refine bH ?_
  walk_at "xx"
  refine ay (fun z=>absurd z (by decide +kernel)) (fun _=>?_)
  walk_at "xs"
  refine ay (fun z=>absurd z (by decide +kernel)) (fun _=>?_)
  walk_at "xs"
  refine ⟨h,A,rfl,hne,h4,fun x hx=>by have:=hsz x hx; omega,?_⟩
  walk_at "xn"
  exact k
 | none =>
  refine am (MSt.mk [some (.imm h.d),some (.imm (.tuple (akL A))),some (.imm ld),some (.imm (.str "none")),some (.imm (.int (num:Int)))] [] 0) rfl ?_
  walk_at "xs"
  refine bH ?_
  walk_at "xx"
  refine ay (fun z=>absurd z (by decide +kernel)) (fun _=>?_)
  walk_at "xs"
  refine ay (fun z=>absurd z (by decide +kernel)) (fun _=>?_)
  walk_at "xs"
  refine ⟨h,A,rfl,hne,h4,fun x hx=>by have:=hsz x hx; omega,?_⟩
  walk_at "xn"
  exact k
theorem kM (T:Bl mg) (D:DefM K mg "first_scene" ft ["hall"]) (Gfirst_stand:FnM P w K mg base "first_stand" 1 1 lc):FnM P w K mg base "first_scene" 2 1 pk:=by
 refine aZ D j7 rfl (nN:=1) rfl (by decide) ?ar fun cdv A outer s H E f hr=>⟨_,(aa (ai (aC (mc' (mf' Gfirst_stand (hr.mono (by decide)) (mc' (mv' 0) mn')) (mc' (aC (mc' mh' (mc' mh' (mc' mh' (mc' mh' mn'))))) (mc' (af bi (aC (mc' (aC mn') mn')) (aq aY (by rfl) T.len cr (mc' (ad (mv' 0) mh') mn'))) mn')))))),?_⟩
 case ar=>rintro as Kc ⟨h,rfl,_⟩; rfl
 rintro as Kc hl ⟨h,rfl,ho,k⟩
 have n1:=ho.n1
 have n4:=ho.n4
 refine am (MSt.mk [some (.imm (.tuple [.tuple [.int h.a,.int h.b],.tuple (h.ss.map Srv.d),.bool h.mv]))] [] 0) rfl ?_
 walk_at "xs"
 refine ⟨h,rfl,ho,?_⟩
 walk_at "xx"
 rw [List.length_map]
 refine wG (by omega) (by omega) (by simp; omega) ?_
 walk_at "xs"
 have e:(List.replicate ((h.ss.length:Nat):Int).toNat [PyData.tuple []]).flatten = akL (List.replicate h.ss.length []):=by
  rw [Int.toNat_natCast]; simp [akL,lnD,natD]
 rw [e]
 exact k
theorem jD (T:Bl mg) (D:DefM K mg "scene_behind" dG ["hall", "rule", "scene", "move"]) (Gline_of:FnM P w K mg base "line_of" 4 4 km) (Gmoved_on:FnM P w K mg base "moved_on" 5 4 lj) (Gaskers_behind:FnM P w K mg base "askers_behind" 3 5 xm) (Gcounts_behind:FnM P w K mg base "counts_behind" 1 2 yI):FnM P w K mg base "scene_behind" 6 4 oy:=by
 refine aZ D scscene_behind rfl (nN:=10) rfl (by decide) ?ar fun cdv A outer s H E f hr=>⟨_,(mz' (cK (mv' 2) (bF (n:=3) (ak (ag (i:=4) scscene_behind.nd rfl (Or.inl rfl)) (ak (ag (i:=5) scscene_behind.nd rfl (Or.inl rfl)) (ak (ag (i:=6) scscene_behind.nd rfl (Or.inl rfl)) bj)))))
   (mz' (ae (i:=7) scscene_behind.nd rfl (Or.inl rfl) (mf' Gline_of (hr.mono (by decide)) (mc' (mv' 0) (mc' (mv' 1) (mc' (mv' 4) (mc' (mv' 3) mn'))))))
   (mz' (cK (mf' Gmoved_on (hr.mono (by decide)) (mc' (mv' 0) (mc' (mv' 1) (mc' (mv' 4) (mc' (mv' 3) mn'))))) (bF (n:=2) (ak (ag (i:=8) scscene_behind.nd rfl (Or.inl rfl)) (ak (ag (i:=9) scscene_behind.nd rfl (Or.inl rfl)) bj))))
   (mz' (ae (i:=6) scscene_behind.nd rfl (Or.inl rfl) (mf' Gaskers_behind (hr.mono (by decide)) (mc' (mv' 0) (mc' (mv' 6) (mc' (mv' 7) (mc' (mv' 9) (mc' (ad (mv' 5) mh') mn')))))))
   (aa (ai (aC (mc' (aC (mc' (mv' 8) (mc' (mf' Gcounts_behind (hr.mono (by decide)) (mc' (mv' 5) (mc' (mv' 9) mn'))) (mc' (mv' 6) mn')))) (mc' (mv' 9) mn'))))))))),?_⟩
 case ar=>rintro as Kc ⟨h,r,x,mv,rfl,_⟩; rfl
 rintro as Kc hl ⟨h,r,x,mv,rfl,ho,hr0,hx,hm,k⟩
 have hll:=hx.st.ln.1
 have n1:=ho.n1
 have n4:=ho.n4
 have hA:x.A.length = h.ss.length:=by rw [←bw,hx.sz]; exact hll
 have hk:=pC ho hr0 hx.st hm
 refine am (MSt.mk [some (.imm h.d),some (.imm r.d),some (.imm (.tuple [stD x.l x.t,x.c.d,akD x.A])),some (.imm mv.d),none,none,none,none,none,none] [] 0) rfl ?_
 walk_at "xs"
 ·rfl
 walk_at "xs"
 refine ⟨h,r,x.l,x.t,mv,rfl,ho,hr0,hx.st.ln,hm,?_⟩
 walk_at "xx"
 refine ⟨h,r,x.l,x.t,mv,rfl,ho,hr0,hx.st.ln,hm,hx.st.tn,?_⟩
 walk_at "xn"
 dsimp only [mvD]
 walk_at "xs"
 ·rfl
 walk_at "xs"
 refine fQ (ds:=[.int (x.c.c:Int),.int (x.c.t:Int),.int (x.c.a:Int),.int (x.c.s:Int)]) rfl rfl ?_
 walk_at "xs"
 refine ⟨h,x.A,_,kOf h r x.l x.t mv,(bc h r x.l x.t mv).2.2,x.c.c,rfl,fun z=>by rw [z] at hA; simp at hA; omega,by omega,fun y hy=>?_,fun hw=>⟨?_,by omega⟩,?_⟩
 ·obtain ⟨i,hi,rfl⟩:=List.mem_iff_getElem.mp hy
  have e1:(szs x.A)[i]? = some x.A[i].length:=szs_get? (List.getElem?_eq_getElem hi)
  rw [hx.sz] at e1
  have:=hx.st.ln.le ho _ (List.mem_of_getElem? e1)
  omega
 ·cases mv with
  | come o=>rfl
  | done j=>rfl
  | still=>rcases hw with z | z <;> cases z
 walk_at "xx"
 refine ⟨x.c,(bc h r x.l x.t mv).2.2,rfl,?_⟩
 walk_at "xx"
 exact k
theorem vv (T:Bl mg) (D:DefM K mg "walked" on ["hall", "rule", "run"]) (Gfirst_stand:FnM P w K mg base "first_stand" 1 1 lc) (Gmoved_on:FnM P w K mg base "moved_on" 5 4 lj):FnM P w K mg base "walked" 6 3 oY:=by
 refine aZ D scwalked rfl (nN:=5) rfl (by decide) ?ar fun cdv A outer s H E f hr=>⟨_,(mz' (ae (i:=3) scwalked.nd rfl (Or.inl rfl) (bf (mc' (mf' Gfirst_stand (hr.mono (by decide)) (mc' (mv' 0) mn')) mn')))
   (mz' (ca (bG (mv' 2)) (ag (i:=4) scwalked.nd rfl (Or.inl rfl)) (aa (bJ (cg PySem.F.slot_list_append PySem.F.type_list_append ci (mv' 3) (mc' (ad (mf' Gmoved_on (hr.mono (by decide)) (mc' (mv' 0) (mc' (mv' 1) (mc' (ad (mv' 3) (jN gJ mh')) (mc' (mv' 4) mn'))))) mh') mn')))) PassesOwn.never)
   (aa (ai (a9 bv (by rfl) T.tuple cQ (mc' (mv' 3) mn')))))),?_⟩
 case ar=>rintro as Kc ⟨h,r,R,rfl,_⟩; rfl
 rintro as Kc hl ⟨h,r,R,rfl,ho,hr0,hR,hlen,k⟩
 refine am (MSt.mk [some (.imm h.d),some (.imm r.d),some (.imm (runD R)),none,none] [] 0) rfl ?_
 walk_at "xs"
 refine ⟨h,rfl,ho,?_⟩
 walk_at "xx"
 refine bH ?_
 walk_at "xx"
 refine bz (fun i m=>∃ (S:List (List Nat×Nat)) (p:List Nat×Nat) (a:Option L2.R),m = MSt.mk [some (.imm h.d),some (.imm r.d),some (.imm (runD R)),some (.obj 0),a] [(S.map fun p=>stD p.1 p.2)++[stD p.1 p.2]] 0∧St h r p.1 p.2∧S.length = i∧S++bM h r p (R.drop i) = bM h r (zer h,0) R) ⟨[],(zer h,0),none,rfl,ku ho r,rfl,rfl⟩ ?_ ?_
 ·rintro i d m e n ⟨S,p,a,rfl,hS,hi2,hc⟩
  obtain ⟨mv,emv,rfl,hi⟩:=gmap e
  have hm:=hR mv (List.mem_of_getElem? emv)
  have hiR:=(List.getElem?_eq_some_iff.mp emv).1
  walk_at "xs"
  refine' e9 (ds:=(S.map fun p=>stD p.1 p.2)++[stD p.1 p.2]) ?ea (uW _ _) ?_
  case ea=>rfl
  walk_at "xs"
  refine ⟨h,r,p.1,p.2,mv,rfl,ho,hr0,hS.ln,hm,hS.tn,?_⟩
  walk_at "xn"
  dsimp only [mvD]
  walk_at "xs"
  refine' fz (ds:=(S.map fun p=>stD p.1 p.2)++[stD p.1 p.2]) ?eb (by rw [sizeLine_eq,List.length_append,List.length_map,List.length_singleton]; omega) ?_
  case eb=>rfl
  refine ⟨S++[p],((bc h r p.1 p.2 mv).1,(bc h r p.1 p.2 mv).2.1),some (.imm mv.d),?_,ki ho hr0 hS hm,by rw [List.length_append,hi2]; rfl,?_⟩
  ·rw [List.map_append]; rfl
  ·rw [←hc,fi emv,List.append_assoc]; rfl
 rintro m n ⟨S,p,a,rfl,hS,hi2,hc⟩
 rw [List.length_map,List.drop_length] at hc
 rw [←hc,List.map_append] at k
 walk_at "xs"
 exact k
theorem ut (T:Bl mg) (D:DefM K mg "counted" kw ["hall", "rule", "run"]) (Gfirst_stand:FnM P w K mg base "first_stand" 1 1 lc) (Gmoved_on:FnM P w K mg base "moved_on" 5 4 lj) (Gcounts_behind:FnM P w K mg base "counts_behind" 1 2 yI):FnM P w K mg base "counted" 6 3 mI:=by
 refine aZ D sccounted rfl (nN:=7) rfl (by decide) ?ar fun cdv A outer s H E f hr=>⟨_,(mz' (ae (i:=3) sccounted.nd rfl (Or.inl rfl) (mf' Gfirst_stand (hr.mono (by decide)) (mc' (mv' 0) mn')))
   (mz' (ae (i:=4) sccounted.nd rfl (Or.inl rfl) (aC (mc' mh' (mc' mh' (mc' mh' (mc' mh' mn'))))))
   (mz' (ca (bG (mv' 2)) (ag (i:=5) sccounted.nd rfl (Or.inl rfl)) (mz' (cK (mf' Gmoved_on (hr.mono (by decide)) (mc' (mv' 0) (mc' (mv' 1) (mc' (mv' 3) (mc' (mv' 5) mn'))))) (bF (n:=2) (ak (ag (i:=3) sccounted.nd rfl (Or.inl rfl)) (ak (ag (i:=6) sccounted.nd rfl (Or.inl rfl)) bj))))
   (aa (ae (i:=4) sccounted.nd rfl (Or.inl rfl) (mf' Gcounts_behind (hr.mono (by decide)) (mc' (mv' 4) (mc' (mv' 6) mn')))))) PassesOwn.never)
   (aa (ai (mv' 4)))))),?_⟩
 case ar=>rintro as Kc ⟨h,r,R,rfl,_⟩; rfl
 rintro as Kc hl ⟨h,r,R,rfl,ho,hr0,hR,k⟩
 refine am (MSt.mk [some (.imm h.d),some (.imm r.d),some (.imm (runD R)),none,none,none,none] [] 0) rfl ?_
 walk_at "xs"
 refine ⟨h,rfl,ho,?_⟩
 walk_at "xx"
 refine bz (fun i m=>∃ (p:List Nat×Nat) (c:Cn) (a b:Option L2.R),m = MSt.mk [some (.imm h.d),some (.imm r.d),some (.imm (runD R)),some (.imm (stD p.1 p.2)),some (.imm c.d),a,b] [] 0∧St h r p.1 p.2∧cP h r p c (R.drop i) = cP h r (zer h,0) ⟨0,0,0,0⟩ R) ⟨(zer h,0),⟨0,0,0,0⟩,none,none,rfl,ku ho r,rfl⟩ ?_ ?_
 ·rintro i d m e n ⟨p,c,a,b,rfl,S,hc⟩
  obtain ⟨mv,emv,rfl,hi⟩:=gmap e
  have hm:=hR mv (List.mem_of_getElem? emv)
  walk_at "xs"
  refine ⟨h,r,p.1,p.2,mv,rfl,ho,hr0,S.ln,hm,S.tn,?_⟩
  walk_at "xn"
  dsimp only [mvD]
  walk_at "xs"
  ·rfl
  walk_at "xs"
  refine ⟨c,(bc h r p.1 p.2 mv).2.2,rfl,?_⟩
  walk_at "xx"
  refine ⟨((bc h r p.1 p.2 mv).1,(bc h r p.1 p.2 mv).2.1),_,_,_,rfl,ki ho hr0 S hm,?_⟩
  rw [←hc,fi emv]; rfl
 rintro m n ⟨p,c,a,b,rfl,S,hc⟩
 rw [List.length_map,List.drop_length] at hc
 walk_at "xs"
 rw [←hc] at k
 exact k
theorem yl (T:Bl mg) (D:DefM K mg "stays" uH ["hall", "rule", "run"]) (Gfirst_scene:FnM P w K mg base "first_scene" 2 1 pk) (Gscene_behind:FnM P w K mg base "scene_behind" 6 4 oy):FnM P w K mg base "stays" 7 3 sw:=by
 refine aZ D scstays rfl (nN:=11) rfl (by decide) ?ar fun cdv A outer s H E f hr=>⟨_,(mz' (ae (i:=3) scstays.nd rfl (Or.inl rfl) (mf' Gfirst_scene (hr.mono (by decide)) (mc' (mv' 0) mn')))
   (mz' (ae (i:=4) scstays.nd rfl (Or.inl rfl) (bf mn'))
   (mz' (ca (vt T.enumerate (mc' (mv' 2) mn')) (bF (n:=2) (ak (ag (i:=5) scstays.nd rfl (Or.inl rfl)) (ak (ag (i:=6) scstays.nd rfl (Or.inl rfl)) bj))) (mz' (ae (i:=7) scstays.nd rfl (Or.inl rfl) (af j5 (aq aY (by rfl) T.len cr (mc' (mv' 2) mn')) (mv' 5)))
   (mz' (ae (i:=8) scstays.nd rfl (Or.inl rfl) (ad (mv' 3) mh'))
   (mz' (cK (mf' Gscene_behind (hr.mono (by decide)) (mc' (mv' 0) (mc' (mv' 1) (mc' (mv' 3) (mc' (mv' 6) mn'))))) (bF (n:=2) (ak (ag (i:=3) scstays.nd rfl (Or.inl rfl)) (ak (ag (i:=9) scstays.nd rfl (Or.inl rfl)) bj))))
   (aa (aI (ah (aM hr.units) (mv' 9) ac (av _)) (aa (bJ (cg PySem.F.slot_list_append PySem.F.type_list_append ci (mv' 4) (mc' (aC (mc' (mv' 7) (mc' jR mn'))) mn')))) (aa (aI (ah (aM hr.units) (mv' 9) ac (av _)) (aa (bJ (cg PySem.F.slot_list_append PySem.F.type_list_append ci (mv' 4) (mc' dH mn')))) (aa (aI (ah (aM hr.units) (mv' 9) ac (av _)) (mz' (ae (i:=10) scstays.nd rfl (Or.inl rfl) (ad (ad (mv' 8) (ad (mv' 6) mh')) mh'))
   (aa (cR (aC (mc' (af j5 (ad (ad (mv' 4) (mv' 10)) mh') (mv' 7)) (mc' jR mn'))) (mv' 4) (mv' 10)))) az))))))))) PassesOwn.never)
   (aa (ai (a9 bv (by rfl) T.tuple cQ (mc' (mv' 4) mn'))))))),?_⟩
 case ar=>rintro as Kc ⟨h,r,R,rfl,_⟩; rfl
 rintro as Kc hl ⟨h,r,R,rfl,ho,hr0,hR,hlen,k⟩
 refine am (MSt.mk [some (.imm h.d),some (.imm r.d),some (.imm (.tuple (R.map Mv.d))),none,none,none,none,none,none,none,none] [] 0) rfl ?_
 walk_at "xs"
 refine ⟨h,rfl,ho,?_⟩
 walk_at "xx"
 refine bH ?_
 walk_at "xx"
 refine ⟨_,R.map Mv.d,rfl,?_⟩
 refine bz (fun i m=>∃ (x:Sc) (F:List Fo) (a b c d e f:Option L2.R),m = MSt.mk [some (.imm h.d),some (.imm r.d),some (.imm (.tuple (R.map Mv.d))),some (.imm x.d),some (.obj 0),a,b,c,d,e,f] [F.map Fo.d] 0∧x.Ok h r∧FoOk x F∧F.length≤i∧bQ h r x F (R.drop i) = bQ h r (sc0 h) [] R) ⟨sc0 h,[],none,none,none,none,none,none,rfl,pf ho r,⟨rfl,fun y hy z hz=>by rw [(List.mem_replicate.mp hy).2] at hz; cases hz⟩,Nat.le_refl _,rfl⟩ ?_ ?_
 ·rintro i d m e n ⟨x,F,a,b,c,d',e',f,rfl,X,O,hF,hc⟩
  have hi:i < R.length:=by
   have:=(List.getElem?_eq_some_iff.mp e).1
   rw [di,List.length_map] at this
   exact this
  have emv:R[i]? = some R[i]:=List.getElem?_eq_getElem hi
  generalize R[i] = mv at emv
  have hm:=hR mv (List.mem_of_getElem? emv)
  rw [mx (d:=mv.d) (by rw [List.getElem?_map,emv]; rfl)] at e
  cases e
  have hL:(((R.map Mv.d).length:Nat):Int) - (i:Int) = (((R.drop (i + 1)).length + 1:Nat):Int):=by
   rw [List.length_map,List.length_drop]; omega
  rw [fi emv] at hc
  have hc:bQ h r (x.nx h r mv) (foB F (wdOf h r x mv) (dg h r x mv) ((R.drop (i + 1)).length + 1)) (R.drop (i + 1)) = bQ h r (sc0 h) [] R:=hc
  have X2:=Sc.nx_ok ho hr0 X hm
  have O2:=FoOk.nx X O hm ((R.drop (i + 1)).length + 1)
  generalize hgL:(R.drop (i + 1)).length + 1 = L at hL hc O2
  walk_at "xs"
  ·rfl
  walk_at "xs"
  rw [hL]
  refine fQ (ds:=[stD x.l x.t,x.c.d,akD x.A]) rfl rfl ?_
  walk_at "xs"
  refine ⟨h,r,x,mv,rfl,ho,hr0,X,hm,?_⟩
  walk_at "xx"
  ·rfl
  walk_at "xs"
  cases ew:wdOf h r x mv with
  | taken =>
   rw [ew] at hc O2
   dsimp only [Wd.s]
   refine ay (fun _=>?_) (fun z=>(z rfl).elim)
   walk_at "xs"
   refine' fz (ds:=F.map Fo.d) ?eb (by rw [sizeLine_eq,List.length_map]; omega) ?_
   case eb=>rfl
   refine ⟨x.nx h r mv,F++[some ((L:Int),false)],some (.imm (.int (i:Int))),some (.imm mv.d),some (.imm (.int (L:Int))),some (.imm (akD x.A)),some (.imm (.str "taken")),f,?_,X2,O2,by rw [List.length_append,List.length_singleton]; omega,hc⟩
   rw [List.map_append]; rfl
  | away =>
   rw [ew] at hc O2
   dsimp only [Wd.s]
   refine ay (fun z=>absurd z (by decide +kernel)) (fun _=>?_)
   walk_at "xs"
   refine ay (fun _=>?_) (fun z=>(z rfl).elim)
   walk_at "xs"
   refine' fz (ds:=F.map Fo.d) ?ec (by rw [sizeLine_eq,List.length_map]; omega) ?_
   case ec=>rfl
   refine ⟨x.nx h r mv,F++[none],some (.imm (.int (i:Int))),some (.imm mv.d),some (.imm (.int (L:Int))),some (.imm (akD x.A)),some (.imm (.str "away")),f,?_,X2,O2,by rw [List.length_append,List.length_singleton]; omega,hc⟩
   rw [List.map_append]; rfl
  | served =>
   obtain ⟨j,rfl,num,As,eA⟩:=gi X hm ew
   have en:dg h r x (.done j) = num:=by
    show (x.A.getD j []).getD 0 0 = num
    rw [aD eA]; rfl
   obtain ⟨q,eq⟩:=O.pr _ (List.mem_of_getElem? eA) num (List.mem_cons_self ..)
   have hnum:=(List.getElem?_eq_some_iff.mp eq).1
   rw [ew,en] at hc O2
   dsimp only [Wd.s]
   refine ay (fun z=>absurd z (by decide +kernel)) (fun _=>?_)
   walk_at "xs"
   refine ay (fun z=>absurd z (by decide +kernel)) (fun _=>?_)
   walk_at "xs"
   refine ay (fun _=>?_) (fun z=>(z rfl).elim)
   walk_at "xs"
   refine fQ (ds:=[.str "done",.int (j:Int)]) rfl rfl ?_
   refine fQ (ds:=akL x.A) rfl (aV (by unfold akL; rw [List.getElem?_map,eA]; rfl)) ?_
   walk_at "xs"
   refine fQ (x:=.int (num:Int)) (ds:=natD (num :: As)) rfl (aV (j:=0) rfl) ?_
   walk_at "xs"
   have e3:(F.map Fo.d)[num]? = some (.tuple [.int q.1,.bool q.2]):=by rw [List.getElem?_map,eq]; rfl
   refine' e9 (ds:=F.map Fo.d) ?ed (aV e3) ?_
   case ed=>rfl
   walk_at "xs"
   refine' qz (ds:=F.map Fo.d) (n:=num) ?ee ?ef ?_
   case ee=>rfl
   case ef=>exact c8 (by rw [List.length_map]; exact hnum)
   have e4:foB F .served num L = F.set num (some (q.1 - (L:Int),true)):=by
    show F.set num _ = _
    rw [aD eq]; rfl
   rw [e4] at hc O2
   refine ⟨x.nx h r (.done j),F.set num (some (q.1 - (L:Int),true)),some (.imm (.int (i:Int))),some (.imm (Mv.done j).d),some (.imm (.int (L:Int))),some (.imm (akD x.A)),some (.imm (.str "served")),some (.imm (.int (num:Int))),?_,X2,O2,by rw [List.length_set]; omega,hc⟩
   rw [List.map_set]; rfl
  | none =>
   rw [ew] at hc O2
   dsimp only [Wd.s]
   refine ay (fun z=>absurd z (by decide +kernel)) (fun _=>?_)
   walk_at "xs"
   refine ay (fun z=>absurd z (by decide +kernel)) (fun _=>?_)
   walk_at "xs"
   refine ay (fun z=>absurd z (by decide +kernel)) (fun _=>?_)
   walk_at "xs"
   exact ⟨x.nx h r mv,F,some (.imm (.int (i:Int))),some (.imm mv.d),some (.imm (.int (L:Int))),some (.imm (akD x.A)),_,f,rfl,X2,O2,by omega,hc⟩
 rintro m n ⟨x,F,a,b,c,d,e,f,rfl,X,O,hF,hc⟩
 rw [di,List.length_map,List.drop_length] at hc
 rw [←hc] at k
 walk_at "xs"
 exact k
theorem m9 (T:Bl mg) (D:DefM K mg "_law_feed" ii ["_law_script"]):FnM P w K mg base "_law_feed" 1 1 wR:=by
 refine aZ D n5 rfl (nN:=1) rfl (by decide) ?ar fun cdv A outer s H E f hr=>⟨_,(aa (ai (bf (mc' (cz (a9 dB (by rfl) T.list ik (mc' (bU dt (mv' 0) cF (cG mh')) mn'))) (mc' mh' (mc' mh' (mc' mh' mn'))))))),?_⟩
 case ar=>rintro as Kc ⟨ns,rfl,_⟩; rfl
 rintro as Kc hl ⟨ns,rfl,hn,k⟩
 refine am (MSt.mk [some (.imm (.list (ns.map .int)))] [] 0) rfl ?_
 walk_at "xs"
 have e:cutD (ns.map PyData.int) none (some 63) = ns.map .int:=uJ (n:=63) (by rw [List.length_map]; exact hn)
 rw [e]
 exact k _ ⟨ns,0,0,0,rfl,hn,by omega,by omega,by omega,by omega,by omega⟩
theorem oj (T:Bl mg) (D:DefM K mg "_law_draw" h8 ["_law_feed_here", "_law_many"]):FnM P w K mg base "_law_draw" 1 2 jv:=by
 refine aZ D sc_law_draw rfl (nN:=5) rfl (by decide) ?ar fun cdv A outer s H E f hr=>⟨_,(mz' (cR (af aG (ad (mv' 0) mh') mh') (mv' 0) mh')
   (mz' (aI (ah o5 (ad (mv' 0) mh') mh' (av _)) (mz' (ae (i:=2) sc_law_draw.nd rfl (Or.inl rfl) (af da (ad (mv' 0) mh') (mv' 1)))
   (mz' (cR (af dY (ad (mv' 0) mh') (mv' 1)) (mv' 0) mh')
   (aa (ai (mv' 2))))) az)
   (mz' (ae (i:=3) sc_law_draw.nd rfl (Or.inl rfl) mh')
   (mz' (aI (ah (jp hr.units) (ad (mv' 0) mh') (bf mn') (av _)) (aa (ae (i:=3) sc_law_draw.nd rfl (Or.inl rfl) (ad (ad (mv' 0) mh') (af da (ad (mv' 0) mh') (aq aY (by rfl) T.len cr (mc' (ad (mv' 0) mh') mn')))))) az)
   (mz' (cR (af aG (ad (mv' 0) mh') mh') (mv' 0) mh')
   (mz' (aI (EW.pt (dR (ah Cb (mv' 3) (af Ab mh' mh') (av _)) (dk (ah Dh (ad (mv' 0) mh') (aq aY (by rfl) T.len cr (mc' (ad (mv' 0) mh') mn')) (av _))))) (mz' (cR (af dY (mv' 3) (mv' 1)) (mv' 0) mh')
   (aa (ai (af da (mv' 3) (mv' 1))))) az)
   (mz' (ae (i:=4) sc_law_draw.nd rfl (Or.inl rfl) (af da (af bi (af aG (af da (mv' 3) mh') (af bi mh' (ad (mv' 0) mh'))) mh') mh'))
   (mz' (ae (i:=4) sc_law_draw.nd rfl (Or.inl rfl) (af da (af bi (af aG (af dY (mv' 4) mh') (af bi (af bi mh' (ad (mv' 0) mh')) (ad (mv' 0) mh'))) mh') mh'))
   (aa (ai (af da (af dY (mv' 4) mh') (mv' 1)))))))))))),?_⟩
 case ar=>rintro as Kc ⟨ds,m,c,rfl,_⟩; rfl
 rintro as Kc hl ⟨ds,m,c,rfl,⟨ns,p,q,r,rfl,hn,hp0,hp,hq,hr0,hr1⟩,hc,hm0,hm1,k⟩
 refine am (MSt.mk [some (.obj 0),some (.imm (.int m)),none,none,none] [[.list (ns.map .int),.int p,.int q,.int r]] 1) rfl ?_
 walk_at "xs"
 refine ay (fun h=>?_) (fun h=>?_)
 ·walk_at "xs"
  exact k _ _ (Int.emod_nonneg _ (by omega)) (Int.emod_lt_of_pos _ hm0) ⟨ns,p,q / m,r + 1,rfl,hn,hp0,by omega,Int.ediv_nonneg hq (by omega),by omega,by omega⟩
 ·walk_at "xs"
  have fin:∀ x:Int,0≤x→x < m→∀ q':Int,0≤q'→Kc (.imm (.int x)) [[.list (ns.map .int),.int (p + 1),.int q',.int (r + 1)]]:=fun x h1 h2 q' h3=>k _ _ h1 h2 ⟨ns,p + 1,q',r + 1,rfl,hn,by omega,by omega,h3,by omega,by omega⟩
  have mixed:∀ y:Int,0≤y / 64 % m∧y / 64 % m < m:=fun y=>⟨Int.emod_nonneg _ (by omega),Int.emod_lt_of_pos _ hm0⟩
  cases ns with
  | nil =>
   refine x_ne rfl rfl rfl rfl ?_
   walk_at "xs"
   refine bV ?_
   walk_at "xs"
   refine ay (fun h1=>?_) (fun h1=>?_)
   ·walk_at "xs"
    refine ay (fun h2=>?_) (fun h2=>?_)
    ·walk_at "xs"
     exact fin _ (Int.emod_nonneg _ (by omega)) (Int.emod_lt_of_pos _ hm0) _ (Int.ediv_nonneg (Int.le_trans (by decide) h1) (by omega))
    ·walk_at "xs"
     exact fin _ (mixed _).1 (mixed _).2 _ hq
   ·walk_at "xs"
    exact fin _ (mixed _).1 (mixed _).2 _ hq
  | cons n0 ns =>
   refine x_ne rfl rfl (nc _) rfl ?_
   walk_at "xs"
   refine db ?_
   walk_at "xs"
   have hl0:(0:Int) < ((List.map PyData.int (n0 :: ns)).length:Int):=by simp only [List.length_map,List.length_cons]; omega
   refine uO hl0 ?_
   obtain ⟨x,hx⟩:=uX (ns:=n0 :: ns) (i:=p % ((List.map PyData.int (n0 :: ns)).length:Int)) (Int.emod_nonneg _ (by omega)) (by have:=Int.emod_lt_of_pos p hl0; simp only [List.length_map] at this ⊢; exact this)
   refine nr hx ?_
   walk_at "xs"
   refine ay (fun h1=>?_) (fun h1=>?_)
   ·walk_at "xs"
    refine ay (fun h2=>?_) (fun h2=>?_)
    ·walk_at "xs"
     exact fin _ (Int.emod_nonneg _ (by omega)) (Int.emod_lt_of_pos _ hm0) _ (Int.ediv_nonneg (Int.le_trans (by decide) h1) (by omega))
    ·walk_at "xs"
     exact fin _ (mixed _).1 (mixed _).2 _ hq
   ·walk_at "xs"
    exact fin _ (mixed _).1 (mixed _).2 _ hq
theorem jo (T:Bl mg) (D:DefM K mg "_law_shuffled" dn ["_law_feed_here", "_law_some"]) (G_law_draw:FnM P w K mg base "_law_draw" 1 2 jv):FnM P w K mg base "_law_shuffled" 2 2 xq:=by
 refine aZ D sc_law_shuffled rfl (nN:=5) rfl (by decide) ?ar fun cdv A outer s H E f hr=>⟨_,(mz' (ae (i:=2) sc_law_shuffled.nd rfl (Or.inl rfl) (a9 dB (by rfl) T.list ik (mc' (mv' 1) mn')))
   (mz' (ae (i:=3) sc_law_shuffled.nd rfl (Or.inl rfl) (bf mn'))
   (mz' (ca (cZ (by rfl) T.range (mc' (aq aY (by rfl) T.len cr (mc' (mv' 2) mn')) mn')) (ag (i:=4) sc_law_shuffled.nd rfl (Or.inl rfl)) (aa (bJ (cg PySem.F.slot_list_append PySem.F.type_list_append ci (mv' 3) (mc' (cg PySem.F.slot_list_pop PySem.F.type_list_pop tj (mv' 2) (mc' (mf' G_law_draw (hr.mono (by decide)) (mc' (mv' 0) (mc' (aq aY (by rfl) T.len cr (mc' (mv' 2) mn')) mn'))) mn')) mn')))) PassesOwn.never)
   (aa (ai (mv' 3)))))),?_⟩
 case ar=>rintro as Kc ⟨fd,ds,c,rfl,_⟩; rfl
 rintro as Kc hl ⟨fd,ds,c,rfl,hf,hc,hd,k⟩
 refine am (MSt.mk [some (.obj 0),some (.imm (.list ds)),none,none,none] [fd] 1) rfl ?_
 walk_at "xs"
 refine bH ?_
 walk_at "xs"
 refine bH ?_
 walk_at "xs"
 refine ⟨by omega,by omega,?_⟩
 refine bz (fun i m=>∃ fd' lf fnd kk,m = MSt.mk [some (.obj 0),some (.imm (.list ds)),some (.obj 1),some (.obj 2),kk] [fd',lf,fnd] 1∧FeedD (c + i) fd'∧lf.length + i = ds.length∧fnd.length = i∧(∀ d∈lf,d∈ds)∧∀ d∈fnd,d∈ds)
  ⟨fd,ds,[],none,rfl,hf,rfl,rfl,fun _ h=>h,fun _ h=>by cases h⟩ ?_ ?_
 ·rintro i d m e n ⟨fd',lf,fnd,kk,rfl,h1,h2,h3,h4,h5⟩
  have hi:i < ds.length:=by
   have:=(List.getElem?_eq_some_iff.mp e).1
   rw [aE] at this
   omega
  walk_at "xs"
  refine ⟨fd',_,c + i,rfl,h1,by omega,by show (0:Int) < (lf.length:Int); omega,by show (lf.length:Int) < _; omega,fun r fd2 r0 r1 hf2=>?_⟩
  obtain ⟨x,ex,_⟩:=tz (xs:=lf) r0 r1
  have er:(r.toNat:Int) = r:=Int.toNat_of_nonneg r0
  have hz:lf.length≤sizeLine:=by rw [sizeLine_eq]; omega
  walk_at "xs"
  refine' zT (n:=r.toNat) (ds:=lf) (d:=x) ?ea er ex hz ?_
  case ea=>rfl
  walk_at "xs"
  have hz2:fnd.length < sizeLine:=by rw [sizeLine_eq]; omega
  refine' fz (ds:=fnd) ?eb hz2 ?_
  case eb=>rfl
  have hx:x∈lf:=List.mem_of_getElem? ex
  refine ⟨fd2,lf.eraseIdx r.toNat,fnd++[x],_,rfl,hf2,?_,?_,fun d hd'=>h4 d (List.mem_of_mem_eraseIdx hd'),fun d hd'=>?_⟩
  ·have hlt:=(List.getElem?_eq_some_iff.mp ex).1
   rw [List.length_eraseIdx_of_lt hlt]
   omega
  ·rw [List.length_append,h3]; rfl
  ·rcases List.mem_append.mp hd' with z | z
   ·exact h5 d z
   ·simp at z; subst z; exact h4 _ hx
 ·rintro m n ⟨fd',lf,fnd,kk,rfl,h1,h2,h3,h4,h5⟩
  rw [aE] at h1 h2 h3
  walk_at "xs"
  exact k _ _ (by simpa using h1) (by simpa using h3) h5
theorem qq (T:Bl mg) (D:DefM K mg "_law_cut" jz ["_law_top", "_law_bottom"]):FnM P w K mg base "_law_cut" 1 2 ze:=by
 refine aZ D sc_law_cut rfl (nN:=4) rfl (by decide) ?ar fun cdv A outer s H E f hr=>⟨_,(mz' (kG (i:=2) (j:=3) sc_law_cut.nd rfl rfl (by decide) rfl rfl (mc' (aq mH (by rfl) T.abs xI (mc' (mv' 0) mn')) (mc' (aq mH (by rfl) T.abs xI (mc' (mv' 1) mn')) mn')) rfl)
   (mz' (gc (ah o5 (mv' 3) mh' (av _)) (aa (kG (i:=2) (j:=3) sc_law_cut.nd rfl rfl (by decide) rfl rfl (mc' (mv' 3) (mc' (af da (mv' 2) (mv' 3)) mn')) rfl)) PassesOwn.never)
   (mz' (aI (ah gm (mv' 1) mh' (av _)) (aa (ae (i:=2) sc_law_cut.nd rfl (Or.inl rfl) (jN gJ (mv' 2)))) az)
   (aa (ai (aC (mc' (af dY (mv' 0) (mv' 2)) (mc' (af dY (mv' 1) (mv' 2)) mn')))))))),?_⟩
 case ar=>rintro as Kc ⟨a,b,rfl,_⟩; rfl
 rintro as Kc hl ⟨a,b,rfl,ha,hb0,hb,k⟩
 refine am (MSt.mk [some (.imm (.int a)),some (.imm (.int b)),none,none] [] 0) rfl ?_
 walk_at "xs"
 rw [if_neg (show ¬ (a:Int) < 0 by omega),if_neg (show ¬ (b:Int) < 0 by omega)]
 refine kg (fun n m=>∃ x y:Nat,m = MSt.mk [some (.imm (.int a)),some (.imm (.int b)),some (.imm (.int x)),some (.imm (.int y))] [] 0∧x.gcd y = a.gcd b∧x < 1000000000∧y < 1000000000∧n = y) b ⟨a,b,rfl,rfl,ha,hb,rfl⟩ ?_
 rintro n m hn ⟨x,y,rfl,hg,hx1,hy1,rfl⟩
 walk_at "xs"
 refine ay (fun hpos=>?_) (fun hz=>?_)
 ·walk_at "xs"
  have hy : 0 < n:=by omega
  have h2:=Nat.mod_lt x hy
  exact ⟨x % n,h2,n,x % n,rfl,by rw [Nat.gcd_comm,←Nat.gcd_rec,Nat.gcd_comm,hg],hy1,by omega,rfl⟩
 ·have hy0:n = 0:=by omega
  subst hy0
  rw [Nat.gcd_zero_right] at hg
  have hx0 : 0 < x:=by rw [hg]; exact Nat.gcd_pos_of_pos_right _ hb0
  walk_at "xs"
  refine ay (fun hneg=>by omega) (fun _=>?_)
  walk_at "xs"
  rw [hg]
  exact k
theorem mY (T:Bl mg) (D:DefM K mg "_law_hall" dF ["_law_feed_here", "_law_most"]) (G_law_draw:FnM P w K mg base "_law_draw" 1 2 jv) (G_law_cut:FnM P w K mg base "_law_cut" 1 2 ze):FnM P w K mg base "_law_hall" 2 2 rQ:=by
 refine aZ D sc_law_hall rfl (nN:=14) rfl (by decide) ?ar fun cdv A outer s H E f hr=>⟨_,(mz' (ae (i:=2) sc_law_hall.nd rfl (Or.inl rfl) (af aG mh' (mf' G_law_draw (hr.mono (by decide)) (mc' (mv' 0) (mc' (mv' 1) mn')))))
   (mz' (ae (i:=3) sc_law_hall.nd rfl (Or.inl rfl) (mf' G_law_draw (hr.mono (by decide)) (mc' (mv' 0) (mc' mh' mn'))))
   (mz' (ae (i:=4) sc_law_hall.nd rfl (Or.inl rfl) (aC (mc' (af aG mh' (mf' G_law_draw (hr.mono (by decide)) (mc' (mv' 0) (mc' mh' mn')))) (mc' (af aG mh' (mf' G_law_draw (hr.mono (by decide)) (mc' (mv' 0) (mc' mh' mn')))) mn'))))
   (mz' (ae (i:=5) sc_law_hall.nd rfl (Or.inr rfl) (ad (bf (mc' mh' (mc' mh' (mc' mh' mn')))) (mf' G_law_draw (hr.mono (by decide)) (mc' (mv' 0) (mc' mh' mn')))))
   (mz' (ae (i:=6) sc_law_hall.nd rfl (Or.inl rfl) (lu (EW.pt (dR (ah gm (mv' 2) mh' (av _)) (dk (ah (aM hr.units) (mf' G_law_draw (hr.mono (by decide)) (mc' (mv' 0) (mc' mh' mn'))) mh' (av _))))) mh' (af j5 mh' (a9 ui (by rfl) T.int D7 (mc' (fX o5 (mv' 2) mh' (av _)) mn')))))
   (mz' (ae (i:=7) sc_law_hall.nd rfl (Or.inl rfl) (bf mn'))
   (mz' (ca (cZ (by rfl) T.range (mc' (mv' 2) mn')) (ag (i:=8) sc_law_hall.nd rfl (Or.inl rfl)) (mz' (ae (i:=9) sc_law_hall.nd rfl (Or.inl rfl) (aC (mc' (af aG mh' (mf' G_law_draw (hr.mono (by decide)) (mc' (mv' 0) (mc' mh' mn')))) (mc' (af aG mh' (mf' G_law_draw (hr.mono (by decide)) (mc' (mv' 0) (mc' (mv' 6) mn')))) mn'))))
   (aa (bJ (cg PySem.F.slot_list_append PySem.F.type_list_append ci (mv' 7) (mc' (lu (ah (aM hr.units) (mv' 3) mh' (av _)) (mv' 4) (lu (ah (aM hr.units) (mv' 3) mh' (av _)) (aC (mc' (ad (mv' 4) mh') (mc' (ad (mv' 9) mh') mn'))) (mv' 9))) mn'))))) PassesOwn.never)
   (mz' (ae (i:=10) sc_law_hall.nd rfl (Or.inl rfl) (af aG mh' (mf' G_law_draw (hr.mono (by decide)) (mc' (mv' 0) (mc' mh' mn')))))
   (mz' (ae (i:=11) sc_law_hall.nd rfl (Or.inl rfl) (ad (bf (mc' mh' (mc' mh' (mc' mh' mn')))) (mf' G_law_draw (hr.mono (by decide)) (mc' (mv' 0) (mc' mh' mn')))))
   (mz' (ae (i:=12) sc_law_hall.nd rfl (Or.inr rfl) (af aG (af bi (af aG (mv' 10) (aq (jg rfl) (by rfl) T.sum oM (mc' (cp (own:=["_law_speed", "_law_room"]) (fr:=[]) (ps:=[]) (sc:=(ab dF)) (by exact ⟨rfl,by decide +kernel,by decide +kernel,by decide +kernel,by decide +kernel⟩) (bG (mv' 7)) (fun _ _ _ _ _=>(bF (n:=2) (ak (ag (i:=0) (show List.Nodup ((["_law_speed", "_law_room"]:List Str)++([]:List Str)) from by decide +kernel) rfl (Or.inl rfl)) (ak (ag (i:=1) (show List.Nodup ((["_law_speed", "_law_room"]:List Str)++([]:List Str)) from by decide +kernel) rfl (Or.inl rfl)) bj)))) (fun _ _ _ _ _=>cj) (fun _ _ _ _ _=>(mv' 0))) mn'))) (mv' 5)) (mv' 11)))
   (mz' (ae (i:=13) sc_law_hall.nd rfl (Or.inl rfl) (a9 bv (by rfl) T.tuple cQ (mc' (cp (own:=["_law_speed", "_law_room"]) (fr:=["_law_heavy", "_law_whole"]) (ps:=[5,12]) (sc:=(ab dF)) (by exact ⟨rfl,by decide +kernel,by decide +kernel,by decide +kernel,by decide +kernel⟩) (bG (mv' 7)) (fun _ _ _ _ _=>(bF (n:=2) (ak (ag (i:=0) (show List.Nodup ((["_law_speed", "_law_room"]:List Str)++(["_law_heavy", "_law_whole"]:List Str)) from by decide +kernel) rfl (Or.inl rfl)) (ak (ag (i:=1) (show List.Nodup ((["_law_speed", "_law_room"]:List Str)++(["_law_heavy", "_law_whole"]:List Str)) from by decide +kernel) rfl (Or.inl rfl)) bj)))) (fun _ _ _ _ _=>cj) (fun _ _ _ _ _=>(aC (mc' (mf' G_law_cut (hr.mono (by decide)) (mc' (af bi (mv' 0) (mv' 2)) (mc' (mv' 3) mn'))) (mc' (mv' 1) mn'))))) mn')))
   (aa (ai (aC (mc' (mf' G_law_cut (hr.mono (by decide)) (mc' (af bi (mv' 10) (mv' 5)) (mc' (mv' 12) mn'))) (mc' (mv' 13) (mc' (fX (aM hr.units) (mf' G_law_draw (hr.mono (by decide)) (mc' (mv' 0) (mc' mh' mn'))) mh' (av _)) mn'))))))))))))))))),?_⟩
 case ar=>rintro as Kc ⟨fd,c,mo,rfl,_⟩; rfl
 rintro as Kc hl ⟨fd,c,mo,rfl,hf,hc,mo1,mo4,k⟩
 refine am (MSt.mk [some (.obj 0),some (.imm (.int mo)),none,none,none,none,none,none,none,none,none,none,none,none] [fd] 1) rfl ?_
 walk_at "xs"
 refine ⟨fd,_,c,rfl,hf,by omega,by omega,by omega,fun many fd hm0 hm1 hf=>?_⟩
 walk_at "xx"
 refine ⟨fd,_,c + 1,rfl,hf,by omega,by decide,by decide,fun way fd hw0 hw1 hf=>?_⟩
 walk_at "xx"
 refine ⟨fd,_,c + 2,rfl,hf,by omega,by decide,by decide,fun sp0 fd hs0 hs1 hf=>?_⟩
 walk_at "xx"
 refine ⟨fd,_,c + 3,rfl,hf,by omega,by decide,by decide,fun rm0 fd hr0 hr1 hf=>?_⟩
 walk_at "xx"
 refine ⟨fd,_,c + 4,rfl,hf,by omega,by decide,by decide,fun hv fd hv0 hv1 hf=>?_⟩
 walk_at "xx"
 obtain ⟨heavy,eh,hh0,hh1⟩ : ∃ h:Nat,atI [PyData.int 1,PyData.int 1,PyData.int 97] hv = some (.int (h:Int))∧1≤h∧h≤97:=by
  rcases (show hv = 0∨hv = 1∨hv = 2 by omega) with rfl | rfl | rfl
  ·exact ⟨1,rfl,by decide,by decide⟩
  ·exact ⟨1,rfl,by decide,by decide⟩
  ·exact ⟨97,rfl,by decide,by decide⟩
 refine js eh ?_
 walk_at "xs"
 walk_at "xn"
 refine x_J (fun r m=>∃ (wide:Int) (fd':List PyData),r = .imm (.int wide)∧1≤wide∧wide≤6∧FeedD (c + 6) fd'∧m = MSt.mk [some (.obj 0),some (.imm (.int mo)),some (.imm (.int (1 + many))),some (.imm (.int way)),some (.imm (.tuple [.int (1 + sp0),.int (1 + rm0)])),some (.imm (.int heavy)),none,none,none,none,none,none,none,none] [fd'] 1) (fun K' J=>?_) ?_
 ·refine ql ?_
  walk_at "xs"
  refine ay (fun h3=>?_) (fun h3=>?_)
  ·walk_at "xs"
   refine ⟨fd,_,c + 5,rfl,hf,by omega,by decide,by decide,fun z fd hz0 hz1 hf=>?_⟩
   walk_at "xx"
   refine ay (fun hz=>?_) (fun hz=>?_)
   ·walk_at "xs"
    exact J _ _ ⟨6,fd,rfl,by decide,by decide,hf,rfl⟩
   ·walk_at "xs"
    refine J _ _ ⟨_,fd,rfl,?_,?_,hf,rfl⟩
    ·split <;> omega
    ·split <;> omega
  ·walk_at "xs"
   refine J _ _ ⟨_,fd,rfl,?_,?_,hf.mono (by omega),rfl⟩
   ·split <;> omega
   ·split <;> omega
 rintro _ _ ⟨wide,fd,rfl,hwd0,hwd1,hf,rfl⟩
 walk_at "xs"
 refine bH ?_
 walk_at "xx"
 refine ⟨by omega,by omega,?_⟩
 refine bz (fun i m=>∃ fd' a b sv,m = MSt.mk [some (.obj 0),some (.imm (.int mo)),some (.imm (.int (1 + many))),some (.imm (.int way)),some (.imm (.tuple [.int (1 + sp0),.int (1 + rm0)])),some (.imm (.int heavy)),some (.imm (.int wide)),some (.obj 1),a,b,none,none,none,none] [fd',sv] 1∧FeedD (c + 6 + 2 * i) fd'∧sv.length = i∧∀ d∈sv,PairD d) ⟨fd,none,none,[],rfl,hf,rfl,fun _ h=>by cases h⟩ ?_ ?_
 ·rintro i d m e n ⟨fd,a,b,sv,rfl,hf,hsl,hsv⟩
  have hi:i < (1 + many).toNat:=by
   have:=(List.getElem?_eq_some_iff.mp e).1
   rwa [aE] at this
  walk_at "xs"
  refine ⟨fd,_,c + 6 + 2 * i,rfl,hf,by omega,by decide,by decide,fun sp fd hsp0 hsp1 hf=>?_⟩
  walk_at "xx"
  refine ⟨fd,_,c + 6 + 2 * i + 1,rfl,hf,by omega,by omega,by omega,fun rm fd hrm0 hrm1 hf=>?_⟩
  walk_at "xx"
  refine x_J (fun r m=>∃ d,r = .imm d∧PairD d∧∃ kk,m = MSt.mk [some (.obj 0),some (.imm (.int mo)),some (.imm (.int (1 + many))),some (.imm (.int way)),some (.imm (.tuple [.int (1 + sp0),.int (1 + rm0)])),some (.imm (.int heavy)),some (.imm (.int wide)),some (.obj 1),kk,some (.imm (.tuple [.int (1 + sp),.int (1 + rm)])),none,none,none,none] [fd,sv] 1) (fun K' J=>?_) ?_
  ·have e0:(0:Int) + (i:Int) = i:=by omega
   refine ql ?_
   walk_at "xs"
   refine ay (fun h0=>?_) (fun h0=>?_)
   ·walk_at "xs"
    exact J _ _ ⟨_,rfl,⟨(1 + sp0).toNat,(1 + rm0).toNat,by simp; omega,by omega,by omega,by omega,by omega⟩,_,rfl⟩
   ·refine ql ?_
    walk_at "xs"
    refine ay (fun h1=>?_) (fun h1=>?_)
    ·walk_at "xs"
     exact J _ _ ⟨_,rfl,⟨(1 + sp0).toNat,(1 + rm).toNat,by simp; omega,by omega,by omega,by omega,by omega⟩,_,rfl⟩
    ·walk_at "xs"
     exact J _ _ ⟨_,rfl,⟨(1 + sp).toNat,(1 + rm).toNat,by simp; omega,by omega,by omega,by omega,by omega⟩,_,rfl⟩
  rintro _ _ ⟨d,rfl,hd,kk,rfl⟩
  walk_at "xs"
  refine' fz (ds:=sv) ?eb (by rw [sizeLine_eq]; omega) ?_
  case eb=>rfl
  walk_at "xn"
  refine ⟨fd,_,_,_,rfl,hf,by simp; omega,fun d' hd'=>?_⟩
  rcases List.mem_append.mp hd' with z | z
  ·exact hsv d' z
  ·simp at z; subst z; exact hd
 rintro m n ⟨fd,a,b,sv,rfl,hf,hsl,hsv⟩
 rw [aE] at hf hsl
 walk_at "xs"
 refine ⟨fd,_,_,rfl,hf,by omega,by decide,by decide,fun cm fd hcm0 hcm1 hf=>?_⟩
 walk_at "xx"
 refine ⟨fd,_,_,rfl,hf,by omega,by decide,by decide,fun rs fd hrs0 hrs1 hf=>?_⟩
 walk_at "xx"
 obtain ⟨rest,er,hr0,hr1⟩ : ∃ h:Int,atI [PyData.int 0,PyData.int 1,PyData.int 5] rs = some (.int h)∧0≤h∧h≤5:=by
  rcases (show rs = 0∨rs = 1∨rs = 2 by omega) with rfl | rfl | rfl
  ·exact ⟨0,rfl,by decide,by decide⟩
  ·exact ⟨1,rfl,by decide,by decide⟩
  ·exact ⟨5,rfl,by decide,by decide⟩
 refine js er ?_
 walk_at "xs"
 walk_at "xn"
 obtain ⟨ps,rfl,hps⟩:=PairD.all hsv
 rw [List.length_map] at hsl
 have hsum:=xh hps
 refine gN (fun i m=>∃ a b,m = MSt.mk [a,b] [fd,ps.map prD,((ps.take i).map fun p=>(p.1:Int)).map .int] 3) ⟨none,none,rfl⟩ ?_ ?_ ?_
 ·rintro i m ⟨a,b,rfl⟩; rfl
 ·rintro i d m e n ⟨a,b,rfl⟩
  rw [List.getElem?_map] at e
  cases q:ps[i]? with
  | none=>rw [q] at e; cases e
  | some p =>
   rw [q] at e; cases e
   have hi:i < ps.length:=(List.getElem?_eq_some_iff.mp q).1
   dsimp only [prD]
   walk_at "xs"
   ·rfl
   walk_at "xs"
   refine ⟨_,rfl,by rw [sizeLine_eq]; simp; omega,some (.imm (.int (p.1:Int))),some (.imm (.int (p.2:Int))),?_⟩
   have ee:((ps.take (i + 1)).map fun p=>(p.1:Int)).map PyData.int = ((ps.take i).map fun p=>(p.1:Int)).map PyData.int++[.int (p.1:Int)]:=by
    rw [List.take_add_one,q]; simp
   rw [ee]
   rfl
 rintro m n ⟨a',b',rfl⟩
 rw [List.length_map,List.take_length]
 walk_at "xs"
 refine ⟨_,_,rfl,cE _,?_⟩
 walk_at "xs"
 generalize (ps.map fun p=>(p.1:Int)).sum = S at hsum
 have hS:S≤20:=by omega
 have hw0 : 0≤(1 + cm + S) * (heavy:Int):=Int.mul_nonneg (by omega) (by omega)
 have hw1:(1 + cm + S) * (heavy:Int)≤28 * 97:=Int.mul_le_mul (by omega) (by omega) (by omega) (by decide)
 have hw2 : 1≤(1 + cm + S) * (heavy:Int):=by
  have:=Int.mul_le_mul (show (1:Int)≤1 + cm + S by omega) (show (1:Int)≤(heavy:Int) by omega) (by decide) (by omega)
  omega
 obtain ⟨whole,hwh⟩:=Int.eq_ofNat_of_zero_le (show 0≤(1 + cm + S) * (heavy:Int) + rest by omega)
 rw [hwh]
 have hwh0 : 0 < whole:=by omega
 have hwh1:whole < 1000000:=by omega
 have cutok:∀ a:Nat,0 < a→a≤5000→1≤a / a.gcd whole∧a / a.gcd whole < 1000000∧1≤whole / a.gcd whole∧whole / a.gcd whole < 1000000:=fun a h1 h2=>by
  have g1 : 0 < a.gcd whole:=Nat.gcd_pos_of_pos_left _ h1
  have d1:=Nat.div_pos (Nat.le_of_dvd h1 (Nat.gcd_dvd_left a whole)) g1
  have d2:=Nat.div_pos (Nat.le_of_dvd hwh0 (Nat.gcd_dvd_right a whole)) g1
  have d3:=Nat.div_le_self a (a.gcd whole)
  have d4:=Nat.div_le_self whole (a.gcd whole)
  omega
 walk_at "xs"
 walk_at "xn"
 refine gN (fun i m=>∃ a b acc,m = MSt.mk [a,b,some (.imm (.int (heavy:Int))),some (.imm (.int (whole:Int)))] [fd,ps.map prD,acc.map Srv.d] 3∧acc.length = i∧∀ s∈acc,s.Ok) ⟨none,none,[],rfl,rfl,fun _ h=>by cases h⟩ ?_ ?_ ?_
 ·rintro i m ⟨a,b,acc,rfl,_⟩; rfl
 ·rintro i d m e n ⟨a,b,acc,rfl,hal,hacc⟩
  obtain ⟨p,q,rfl,hi⟩:=gmap e
  obtain ⟨p1,p2,p3,p4⟩:=hps p (List.mem_of_getElem? q)
  have m0 : 0 < p.1 * heavy:=Nat.mul_pos (by omega) (by omega)
  have m1:p.1 * heavy≤5 * 97:=Nat.mul_le_mul (by omega) hh1
  dsimp only [prD]
  walk_at "xs"
  ·rfl
  walk_at "xs"
  refine ⟨p.1 * heavy,whole,by rw [Int.natCast_mul],by omega,hwh0,by omega,?_⟩
  walk_at "xx"
  obtain ⟨c1,c2,c3,c4⟩:=cutok (p.1 * heavy) m0 (by omega)
  refine ⟨_,rfl,by rw [sizeLine_eq,List.length_map]; omega,_,_,acc++[⟨p.1 * heavy / (p.1 * heavy).gcd whole,whole / (p.1 * heavy).gcd whole,p.2⟩],by rw [List.map_append]; rfl,by simp; omega,fun s hs=>?_⟩
  rcases List.mem_append.mp hs with z | z
  ·exact hacc s z
  ·simp at z; subst z
   exact ⟨c1,c2,c3,c4,p3,p4⟩
 rintro m n ⟨a',b',acc,rfl,hal,hacc⟩
 rw [List.length_map] at hal
 walk_at "xs"
 walk_at "xn"
 obtain ⟨cmn,rfl⟩:=Int.eq_ofNat_of_zero_le hcm0
 have m0 : 0 < (1 + cmn) * heavy:=Nat.mul_pos (by omega) (by omega)
 have m1:(1 + cmn) * heavy≤7 * 97:=Nat.mul_le_mul (by omega) hh1
 refine ⟨(1 + cmn) * heavy,whole,by rw [Int.natCast_mul,Int.natCast_add]; rfl,by omega,hwh0,by omega,?_⟩
 obtain ⟨c1,c2,c3,c4⟩:=cutok ((1 + cmn) * heavy) m0 (by omega)
 walk_at "xx"
 refine ⟨fd,_,_,rfl,hf,by omega,by decide,by decide,fun mvv fd hmv0 hmv1 hf=>?_⟩
 walk_at "xx"
 exact k ⟨_,_,acc,_⟩ fd ⟨c1,c2,c3,c4,by show 1≤acc.length; omega,by show acc.length≤4; omega,hacc⟩ (hf.mono (by omega))
theorem qy (T:Bl mg) (D:DefM K mg "_law_all" gy ["_law_hall_here"]):FnM P w K mg base "_law_all" 1 1 yq:=by
 refine aZ D sc_law_all rfl (nN:=6) rfl (by decide) ?ar fun cdv A outer s H E f hr=>⟨_,(mz' (ae (i:=1) sc_law_all.nd rfl (Or.inl rfl) (bf (mc' (aC mn') mn')))
   (mz' (ca (bG (ad (mv' 0) mh')) (bF (n:=2) (ak (ag (i:=2) sc_law_all.nd rfl (Or.inl rfl)) (ak (ag (i:=3) sc_law_all.nd rfl (Or.inl rfl)) bj))) (mz' (ae (i:=4) sc_law_all.nd rfl (Or.inl rfl) (bf mn'))
   (mz' (ca (bG (mv' 1)) (ag (i:=5) sc_law_all.nd rfl (Or.inr rfl)) (aa (bJ (cg PySem.F.slot_list_extend PySem.F.type_list_extend qF (mv' 4) (mc' (cp (own:=["_law_many"]) (fr:=["_law_lines"]) (ps:=[5]) (sc:=(ab gy)) (by exact ⟨rfl,by decide +kernel,by decide +kernel,by decide +kernel,by decide +kernel⟩) (cZ (by rfl) T.range (mc' (af aG (mv' 3) mh') mn')) (fun _ _ _ _ _=>(ag (i:=0) (show List.Nodup ((["_law_many"]:List Str)++(["_law_lines"]:List Str)) from by decide +kernel) rfl (Or.inl rfl))) (fun _ _ _ _ _=>cj) (fun _ _ _ _ _=>(af aG (mv' 1) (aC (mc' (mv' 0) mn'))))) mn')))) PassesOwn.never)
   (aa (ae (i:=1) sc_law_all.nd rfl (Or.inl rfl) (mv' 4))))) PassesOwn.never)
   (aa (ai (mv' 1))))),?_⟩
 case ar=>rintro as Kc ⟨h,rfl,_⟩; rfl
 rintro as Kc hl ⟨h,rfl,ho,k⟩
 refine am (MSt.mk [some (.imm (.tuple [.tuple [.int h.a,.int h.b],.tuple (h.ss.map Srv.d),.bool h.mv])),none,none,none,none,none] [] 0) rfl ?_
 walk_at "xs"
 refine bH ?_
 walk_at "xx"
 refine bz (fun i m=>∃ a b c,m = MSt.mk [some (.imm (.tuple [.tuple [.int h.a,.int h.b],.tuple (h.ss.map Srv.d),.bool h.mv])),some (.obj 0),a,b,none,c] [(((h.rs.take i).foldl M3.stepL [[]]).map lnD)] 0) ⟨none,none,none,rfl⟩ ?_ ?_
 ·rintro i d m e n ⟨a,b,c,rfl⟩
  obtain ⟨s,es,rfl,hi⟩:=gmap e
  have r1:=(ho.ok s (List.mem_of_getElem? es)).r1
  have r6:=(ho.ok s (List.mem_of_getElem? es)).r6
  have hrl:=h.rsl
  generalize hprev:(h.rs.take i).foldl M3.stepL [[]] = prev
  have hpl:∀ a∈prev,a.length≤4:=by
   intro a ha
   rw [←hprev] at ha
   have:=M3.allR_len (by rw [←M3.allL_eq]; exact ha)
   rw [this,List.length_take]
   have:=ho.n4
   omega
  have hpn:prev.length≤2401:=by
   rw [←hprev]
   exact M3.fold_small (by rw [List.length_take]; have:=ho.n4; omega) (fun r hr=>ho.r6 r (List.mem_of_mem_take hr))
  have hfold:((h.rs.take (i + 1)).foldl M3.stepL [[]]) = M3.stepL prev s.r:=by
   rw [List.take_add_one,Hall.rs_get es,List.foldl_append,hprev]; rfl
  rw [hfold]
  dsimp only [Srv.d]
  walk_at "xs"
  ·rfl
  walk_at "xs"
  refine bH ?_
  walk_at "xx"
  refine gN (fun i m=>∃ a,m = MSt.mk [some (.imm (.tuple [.tuple [.int h.a,.int h.b],.tuple (h.ss.map Srv.d),.bool h.mv])),some (.obj 0),some (.imm (.tuple [.int s.a,.int s.b])),some (.imm (.int s.r)),some (.obj 1),a] [prev.map lnD,(M3.stepL (prev.take i) s.r).map lnD] 1) ⟨c,rfl⟩ ?_ ?_ ?_
  ·rintro j m ⟨a,rfl⟩; rfl
  ·rintro j d m ej nj ⟨a,rfl⟩
   obtain ⟨l,el,rfl,hj⟩:=gmap ej
   have hl4:=hpl l (List.mem_of_getElem? el)
   walk_at "xs"
   refine ⟨by omega,by omega,?_⟩
   have en:((s.r:Int) + 1).toNat = s.r + 1:=by omega
   rw [en]
   walk_at "xn"
   refine bz (fun z m=>∃ b,m = MSt.mk [b,some (.imm (lnD l))] [prev.map lnD,(M3.stepL (prev.take j) s.r).map lnD,((List.range z).map fun y=>l++[y]).map lnD] 3) ⟨none,rfl⟩ ?_ ?_
   ·rintro z dz m ez nz ⟨b,rfl⟩
    obtain ⟨hz,rfl⟩:=gh ez
    walk_at "xs"
    refine po (by rw [sizeLine_eq,aF]; simp; omega) ?_
    walk_at "xs"
    refine ⟨_,rfl,by rw [sizeLine_eq]; simp; omega,some (.imm (.int (0 + (z:Int)))),?_⟩
    have ee:((List.range (z + 1)).map fun y=>l++[y]).map lnD = ((List.range z).map fun y=>l++[y]).map lnD++[.tuple (natD l++[.int (0 + (z:Int))])]:=by
     rw [List.range_succ]; simp [lnD,natD]
    rw [ee]
    rfl
   ·rintro m n ⟨b,rfl⟩
    rw [aE]
    walk_at "xs"
    have hz:((M3.stepL (prev.take j) s.r).map lnD).length + (((List.range (s.r + 1)).map fun y=>l++[y]).map lnD).length≤sizeLine:=by
     rw [sizeLine_eq,List.length_map,List.length_map,List.length_map,List.length_range,M3.stepL_length,List.length_take]
     have:min j prev.length * (s.r + 1)≤2401 * 7:=Nat.mul_le_mul (by omega) (by omega)
     omega
    refine' u9 (ds:=(M3.stepL (prev.take j) s.r).map lnD) ?eb hz ?_
    case eb=>rfl
    have ee:(M3.stepL (prev.take (j + 1)) s.r).map lnD = (M3.stepL (prev.take j) s.r).map lnD++((List.range (s.r + 1)).map fun y=>l++[y]).map lnD:=by
     rw [M3.stepL_take el,List.map_append]
    rw [ee]
    exact ⟨_,rfl⟩
  ·rintro m n ⟨a,rfl⟩
   rw [List.length_map,List.take_length]
   walk_at "xn"
   refine uK ?_
   refine zH rfl ?_
   refine rE [1] (MSt.mk [some (.imm (.tuple [.tuple [.int h.a,.int h.b],.tuple (h.ss.map Srv.d),.bool h.mv])),some (.obj 0),some (.imm (.tuple [.int s.a,.int s.b])),some (.imm (.int s.r)),none,none] [(M3.stepL prev s.r).map lnD] 0) (Dn rfl rfl rfl rfl rfl rfl ⟨rfl,⟨1,rfl,rfl⟩,rfl,rfl,trivial,trivial,trivial⟩) ⟨_,_,_,rfl⟩
 ·rintro m n ⟨a,b,c,rfl⟩
  rw [List.length_map,←h.rsl,List.take_length,show h.rs.foldl M3.stepL [[]] = M3.allL h.rs from rfl,M3.allL_eq]
  walk_at "xs"
  exact k
theorem nR (T:Bl mg) (D:DefM K mg "_law_rule" fI ["_law_feed_here", "_law_hall_here"]) (G_law_draw:FnM P w K mg base "_law_draw" 1 2 jv) (G_law_all:FnM P w K mg base "_law_all" 1 1 yq):FnM P w K mg base "_law_rule" 2 2 wZ:=by
 refine aZ D sc_law_rule rfl (nN:=3) rfl (by decide) ?ar fun cdv A outer s H E f hr=>⟨_,(mz' (ae (i:=2) sc_law_rule.nd rfl (Or.inl rfl) (ad (bf (mc' ac (mc' ac (mc' ac (mc' ac (mc' ac (mc' ac mn'))))))) (mf' G_law_draw (hr.mono (by decide)) (mc' (mv' 0) (mc' mh' mn')))))
   (mz' (aI (ah (jp hr.units) (mv' 2) ac (av _)) (aa (ai (aC (mc' (mv' 2) mn')))) az)
   (aa (ai (aC (mc' ac (mc' (a9 bv (by rfl) T.tuple cQ (mc' (cp (own:=["_law_lines"]) (fr:=["_law_feed_here", "_law_hall_here"]) (ps:=[0,1]) (sc:=(ab fI)) (by exact ⟨rfl,by decide +kernel,by decide +kernel,by decide +kernel,by decide +kernel⟩) (bG (cz (mf' G_law_all (hr.mono (by decide)) (mc' (mv' 1) mn')))) (fun _ _ _ _ _=>(ag (i:=0) (show List.Nodup ((["_law_lines"]:List Str)++(["_law_feed_here", "_law_hall_here"]:List Str)) from by decide +kernel) rfl (Or.inl rfl))) (fun _ _ _ _ _=>cj) (fun _ _ _ _ _=>(mf' G_law_draw (hr.mono (by decide)) (mc' (mv' 1) (mc' (aq aY (by rfl) T.len cr (mc' (ad (mv' 2) mh') mn')) mn'))))) mn')) mn'))))))),?_⟩
 case ar=>rintro as Kc ⟨fd,c,h,rfl,_⟩; rfl
 rintro as Kc hl ⟨fd,c,h,rfl,ho,hf,hc,k⟩
 have n1:=ho.n1
 have n4:=ho.n4
 refine am (MSt.mk [some (.obj 0),some (.imm (.tuple [.tuple [.int h.a,.int h.b],.tuple (h.ss.map Srv.d),.bool h.mv])),none] [fd] 1) rfl ?_
 walk_at "xs"
 refine ⟨fd,_,c,rfl,hf,by omega,by decide,by decide,fun r fd hr0 hr1 hf=>?_⟩
 walk_at "xx"
 have five:∀ (q:Rule) (x:Str),atI [PyData.str "random",.str "turns",.str "two",.str "least",.str "quick",.str "told"] r = some (.str x)→q.d = .tuple [.str x]→q.Ok h→x ≠ "told" → ∃ d,atI [PyData.str "random",.str "turns",.str "two",.str "least",.str "quick",.str "told"] r = some d∧((∃ x q,d = .str x∧x ≠ "told" ∧ Rule.d q = .tuple [.str x]∧q.Ok h)∨d = .str "told"):=fun q x e1 e2 e3 e4=>⟨_,e1,.inl ⟨x,q,rfl,e4,e2,e3⟩⟩
 obtain ⟨d,ed,hd⟩ : ∃ d,atI [PyData.str "random",.str "turns",.str "two",.str "least",.str "quick",.str "told"] r = some d∧((∃ x q,d = .str x∧x ≠ "told" ∧ Rule.d q = .tuple [.str x]∧q.Ok h)∨d = .str "told"):=by
  rcases (show r = 0∨r = 1∨r = 2∨r = 3∨r = 4∨r = 5 by omega) with rfl | rfl | rfl | rfl | rfl | rfl
  ·exact five .random "random" rfl rfl trivial (by decide +kernel)
  ·exact five .turns "turns" rfl rfl trivial (by decide +kernel)
  ·exact five .two "two" rfl rfl trivial (by decide +kernel)
  ·exact five .least "least" rfl rfl trivial (by decide +kernel)
  ·exact five .quick "quick" rfl rfl trivial (by decide +kernel)
  ·exact ⟨_,rfl,.inr rfl⟩
 refine js ed ?_
 rcases hd with ⟨x,q,rfl,hx,eq,qo⟩ | rfl
 ·walk_at "xs"
  rw [decide_eq_false hx]
  refine db ?_
  walk_at "xs"
  rw [←eq]
  exact k q fd qo (hf.mono (by omega))
 ·walk_at "xs"
  rw [decide_eq_true rfl]
  refine bV ?_
  walk_at "xs"
  refine ⟨h,rfl,ho,?_⟩
  walk_at "xx"
  walk_at "xn"
  have hsm:(M3.allR h.rs).length≤2401:=jI (by rw [h.rsl]; exact n4) ho.r6
  refine bz (fun i m=>∃ a fd' ps,m = MSt.mk [a,some (.obj 0),some (.imm (.tuple [.tuple [.int h.a,.int h.b],.tuple (h.ss.map Srv.d),.bool h.mv]))] [fd',natD ps] 2∧FeedD (c + 1 + i) fd'∧ps.length = i∧∀ p∈ps,p < h.ss.length) ⟨none,fd,[],rfl,hf,rfl,fun _ h=>by cases h⟩ ?_ ?_
  ·rintro i d m e n ⟨a,fd',ps,rfl,hf',hpl,hps⟩
   obtain ⟨l,el,rfl,hi⟩:=gmap e
   walk_at "xs"
   refine ⟨fd',_,_,rfl,hf',by omega,by rw [List.length_map]; omega,by rw [List.length_map]; omega,fun p fd2 hp0 hp1 hf2=>?_⟩
   rw [List.length_map] at hp1
   walk_at "xx"
   obtain ⟨pn,rfl⟩:=Int.eq_ofNat_of_zero_le hp0
   refine ⟨_,rfl,by rw [sizeLine_eq,aF]; omega,_,fd2,ps++[pn],by rw [kb]; rfl,hf2,by simp; omega,fun p hp=>?_⟩
   obtain z | z:=List.mem_append.mp hp
   ·exact hps p z
   ·simp at z; subst z; omega
  ·rintro m n ⟨a,fd',ps,rfl,hf',hpl,hps⟩
   rw [List.length_map] at hf' hpl
   walk_at "xs"
   exact k (.told ps) fd' ⟨hpl,hps⟩ (hf'.mono (by omega))
theorem oi (T:Bl mg) (D:DefM K mg "_law_sent" gH ["_law_hall_here", "_law_rule_here", "_law_lines", "_law_turn", "_law_order"]) (G_law_all:FnM P w K mg base "_law_all" 1 1 yq) (G_law_cut:FnM P w K mg base "_law_cut" 1 2 ze):FnM P w K mg base "_law_sent" 2 5 xG:=by
 refine aZ D sc_law_sent rfl (nN:=13) rfl (by decide) ?ar fun cdv A outer s H E f hr=>⟨_,(mz' (aI (ah (aM hr.units) (ad (mv' 1) mh') ac (av _)) (aa (ai (mv' 3))) az)
   (mz' (aI (ah (aM hr.units) (ad (mv' 1) mh') ac (av _)) (aa (ai (ad (ad (mv' 1) mh') (cg PySem.F.slot_list_index PySem.F.type_list_index (fg hr.units) (mf' G_law_all (hr.mono (by decide)) (mc' (mv' 0) mn')) (mc' (mv' 2) mn'))))) az)
   (mz' (ae (i:=5) sc_law_sent.nd rfl (Or.inl rfl) (a9 dB (by rfl) T.list ik (mc' (mv' 4) mn')))
   (mz' (aI (ah (aM hr.units) (ad (mv' 1) mh') ac (av _)) (aa (ae (i:=5) sc_law_sent.nd rfl (Or.inl rfl) (bU dt (mv' 5) cF (cG mh')))) az)
   (mz' (aI (ah (aM hr.units) (ad (mv' 1) mh') ac (av _)) (aa (ae (i:=5) sc_law_sent.nd rfl (Or.inl rfl) (bU dt (mv' 5) cF (cG mh')))) az)
   (mz' (ae (i:=6) sc_law_sent.nd rfl (Or.inl rfl) (bf mn'))
   (mz' (ca (bG (mv' 5)) (ag (i:=7) sc_law_sent.nd rfl (Or.inl rfl)) (mz' (ae (i:=8) sc_law_sent.nd rfl (Or.inl rfl) (ad (mv' 2) (mv' 7)))
   (mz' (aI (ah (aM hr.units) (ad (mv' 1) mh') ac (av _)) (aa (ae (i:=8) sc_law_sent.nd rfl (Or.inl rfl) (mf' G_law_cut (hr.mono (by decide)) (mc' (af bi (af aG (ad (mv' 2) (mv' 7)) mh') (ad (ad (ad (ad (mv' 0) mh') (mv' 7)) mh') mh')) (mc' (ad (ad (ad (ad (mv' 0) mh') (mv' 7)) mh') mh') mn'))))) az)
   (aa (bJ (cg PySem.F.slot_list_append PySem.F.type_list_append ci (mv' 6) (mc' (aC (mc' (mv' 8) (mc' (mv' 7) mn'))) mn')))))) PassesOwn.never)
   (mz' (ae (i:=9) sc_law_sent.nd rfl (Or.inl rfl) (ad (mv' 6) mh'))
   (mz' (ca (bG (cz (bU dt (mv' 6) (cG mh') cF))) (ag (i:=10) sc_law_sent.nd rfl (Or.inl rfl)) (mz' (kG (i:=11) (j:=12) sc_law_sent.nd rfl rfl (by decide) rfl rfl (mc' (ad (mv' 9) mh') (mc' (ad (mv' 10) mh') mn')) rfl)
   (aa (aI (EW.pt (iM (EW.pt (dR (ah (aM hr.units) (ad (mv' 1) mh') ac (av _)) (dk (ah gm (af bi (ad (mv' 12) mh') (ad (mv' 11) mh')) (af bi (ad (mv' 11) mh') (ad (mv' 12) mh')) (av _))))) (jc (EW.pt (dR (ah (jp hr.units) (ad (mv' 1) mh') ac (av _)) (dk (ah gm (mv' 12) (mv' 11) (av _)))))))) (aa (ae (i:=9) sc_law_sent.nd rfl (Or.inl rfl) (mv' 10))) az))) PassesOwn.never)
   (aa (ai (ad (mv' 9) mh')))))))))))),?_⟩
 case ar=>rintro as Kc ⟨h,r,l,t,o,rfl,_⟩; rfl
 rintro as Kc hl ⟨h,r,l,t,o,rfl,ho,hr0,hL,hO,k⟩
 have hll:=hL.1
 have plain:r.ranks∨r = .turns∨∃ ps,r = .told ps:=by
  cases r with
  | turns=>exact .inr (.inl rfl)
  | told ps=>exact .inr (.inr ⟨ps,rfl⟩)
  | random=>exact .inl trivial
  | two=>exact .inl trivial
  | least=>exact .inl trivial
  | quick=>exact .inl trivial
 rcases plain with hq | rfl | ⟨ps,rfl⟩
 ·have ed:r.d = .tuple [.str r.word]:=by cases r <;> first | rfl | exact hq.elim
  have n1:r.word ≠ "turns" := by cases r <;> first | exact hq.elim | decide +kernel
  have n2:r.word ≠ "told" := by cases r <;> first | exact hq.elim | decide +kernel
  obtain ⟨o0,S,eS,hS,hS4,eP⟩:=qL (l:=l) (t:=t) hq hO
  have hO4:=hO.le
  obtain ⟨T,hT⟩ : ∃ T,T = o0 :: S:=⟨_,rfl⟩
  rw [←hT] at eS hS hS4
  rw [←eP] at k
  rw [ed]
  refine am (MSt.mk [some (.imm (.tuple [.tuple [.int h.a,.int h.b],.tuple (h.ss.map Srv.d),.bool h.mv])),some (.imm (.tuple [.str r.word])),some (.imm (.tuple (natD l))),some (.imm (.int (t:Int))),some (.imm (.tuple (natD o))),none,none,none,none,none,none,none,none] [] 0) rfl ?_
  walk_at "xs"
  refine ay (fun z=>absurd z n1) (fun _=>?_)
  walk_at "xs"
  refine ay (fun z=>absurd z n2) (fun _=>?_)
  walk_at "xs"
  refine bH ?_
  walk_at "xn"
  refine iG ?_
  refine x_JS (fun m=>m = MSt.mk [some (.imm (.tuple [.tuple [.int h.a,.int h.b],.tuple (h.ss.map Srv.d),.bool h.mv])),some (.imm (.tuple [.str r.word])),some (.imm (.tuple (natD l))),some (.imm (.int (t:Int))),some (.imm (.tuple (natD o))),some (.obj 0),none,none,none,none,none,none,none] [natD (if r.word = "two" then o.take 2 else o)] 0) (fun N J=>?_) ?_
  ·walk_at "xs"
   refine ay (fun z=>?_) (fun z=>?_)
   ·walk_at "xs"
    have e:cutD (natD o) none (some 2) = natD (o.take 2):=by
     rw [show (2:Int) = ((2:Nat):Int) from rfl,kJ]; simp [natD]
    rw [e]
    refine jH (k:=0) rfl (Nat.le_refl _) (fun j hj=>?_) (J _ ?_)
    ·match j with
     | 0 | 1 | 2 | 3 | 4 | 6 | 7 | 8 | 9 | 10 | 11 | 12=>exact fun z=>by cases z
     | 5=>exact (hj rfl).elim
     | n + 13=>exact fun z=>by cases z
    ·rw [if_pos z]; rfl
   ·walk_at "xs"
    refine J _ ?_
    rw [if_neg z]
    try rfl
  rintro _ rfl
  walk_at "xn"
  refine iG ?_
  refine x_JS (fun m=>m = MSt.mk [some (.imm (.tuple [.tuple [.int h.a,.int h.b],.tuple (h.ss.map Srv.d),.bool h.mv])),some (.imm (.tuple [.str r.word])),some (.imm (.tuple (natD l))),some (.imm (.int (t:Int))),some (.imm (.tuple (natD o))),some (.obj 0),none,none,none,none,none,none,none] [natD T] 0) (fun N J=>?_) ?_
  ·walk_at "xs"
   refine ay (fun z=>?_) (fun z=>?_)
   ·walk_at "xs"
    have hr:r = .random:=by cases r <;> first | rfl | exact hq.elim | exact absurd z (by decide +kernel)
    subst hr
    have e:cutD (natD (if Rule.random.word = "two" then o.take 2 else o)) none (some 1) = natD T:=by
     rw [if_neg (by decide +kernel),←eS,show (1:Int) = ((1:Nat):Int) from rfl,kJ]; simp [natD,Rule.some]
    rw [e]
    refine jH (k:=0) rfl (Nat.le_refl _) (fun j hj=>?_) (J _ ?_)
    ·match j with
     | 0 | 1 | 2 | 3 | 4 | 6 | 7 | 8 | 9 | 10 | 11 | 12=>exact fun z=>by cases z
     | 5=>exact (hj rfl).elim
     | n + 13=>exact fun z=>by cases z
    ·rfl
   ·walk_at "xs"
    refine J _ ?_
    have e:(if r.word = "two" then o.take 2 else o) = T:=by
     rw [←eS]
     cases r with
     | random=>exact absurd rfl z
     | two=>exact if_pos rfl
     | least=>exact if_neg (by decide +kernel)
     | quick=>exact if_neg (by decide +kernel)
     | turns=>exact hq.elim
     | told _=>exact hq.elim
    rw [e]
    try rfl
  rintro _ rfl
  walk_at "xx"
  refine bH ?_
  walk_at "xx"
  refine gN (fun i m=>∃ a b,m = MSt.mk [some (.imm (.tuple [.tuple [.int h.a,.int h.b],.tuple (h.ss.map Srv.d),.bool h.mv])),some (.imm (.tuple [.str r.word])),some (.imm (.tuple (natD l))),some (.imm (.int (t:Int))),some (.imm (.tuple (natD o))),some (.obj 0),some (.obj 1),a,b,none,none,none,none] [natD T,(T.take i).map (df h l r)] 1) ⟨none,none,rfl⟩ ?_ ?_ ?_
  ·rintro i m ⟨a,b,rfl⟩; rfl
  ·rintro i d m e n ⟨a,b,rfl⟩
   obtain ⟨j,ej,rfl,hi⟩:=gmap e
   have hj:=hS j (List.mem_of_getElem? ej)
   obtain ⟨s,es,ea,eb,hs⟩:=h.srv hj
   have so:=ho.ok s hs
   have b2:=so.b2
   have a2:=so.a2
   have a1:=so.a1
   have el:=getN hll hj
   have h6:=hL.le ho _ (List.mem_of_getElem? el)
   walk_at "xs"
   refine bp (aV (a8 el)) ?_
   refine gF ?_
   walk_at "xn"
   refine iG ?_
   refine x_JS (fun m=>m = MSt.mk [some (.imm (.tuple [.tuple [.int h.a,.int h.b],.tuple (h.ss.map Srv.d),.bool h.mv])),some (.imm (.tuple [.str r.word])),some (.imm (.tuple (natD l))),some (.imm (.int (t:Int))),some (.imm (.tuple (natD o))),some (.obj 0),some (.obj 1),some (.imm (.int (j:Int))),some (.imm (q0 h l r j)),none,none,none,none] [natD T,(T.take i).map (df h l r)] 1) (fun N J=>?_) ?_
   ·walk_at "xs"
    refine ay (fun z=>?_) (fun z=>?_)
    ·have hr:r = .quick:=by cases r <;> first | rfl | exact hq.elim | exact absurd z (by decide +kernel)
     subst hr
     walk_at "xs"
     refine bp (aV (a8 el)) ?_
     walk_at "xs"
     refine bp (d:=s.d) (aV (by rw [List.getElem?_map,es]; rfl)) ?_
     dsimp only [Srv.d]
     walk_at "xs"
     refine bp (d:=s.d) (aV (by rw [List.getElem?_map,es]; rfl)) ?_
     dsimp only [Srv.d]
     walk_at "xs"
     have hm:(l.getD j 0 + 1) * s.b≤7 * 1000000:=Nat.mul_le_mul (by omega) (by omega)
     refine ⟨(l.getD j 0 + 1) * s.b,s.a,by rw [Int.natCast_mul,Int.natCast_add]; rfl,by omega,a1,by omega,?_⟩
     walk_at "xx"
     refine J _ ?_
     show _ = MSt.mk [_,_,_,_,_,_,_,_,some (.imm (frD ((l.getD j 0 + 1) * h.bn j / ((l.getD j 0 + 1) * h.bn j).gcd (h.an j):Nat) (h.an j / ((l.getD j 0 + 1) * h.bn j).gcd (h.an j):Nat))),_,_,_,_] _ _
     rw [ea,eb]
     rfl
    ·walk_at "xs"
     refine J _ ?_
     have ep:q0 h l r j = .int (l.getD j 0:Nat):=by cases r <;> first | rfl | exact hq.elim | exact absurd rfl z
     rw [ep]
     try rfl
   rintro _ rfl
   walk_at "xx"
   refine' fz (ds:=(T.take i).map (df h l r)) ?eb (by rw [sizeLine_eq,List.length_map,List.length_take]; omega) ?_
   case eb=>rfl
   rw [ko (df h l r) ej]
   exact ⟨_,_,rfl⟩
  rintro m n ⟨a_1,b_1,rfl⟩
  rw [aF,List.take_length]
  walk_at "xs"
  walk_at "xn"
  have e1:cutD (T.map (df h l r)) (some 1) none = S.map (df h l r):=by
   rw [show (1:Int) = ((1:Nat):Int) from rfl,i4,hT]; rfl
  have g0:(T.map (df h l r))[0]? = some (df h l r o0):=by rw [hT]; rfl
  refine' e9 (ds:=T.map (df h l r)) ?eb (aV (j:=0) g0) ?_
  case eb=>rfl
  walk_at "xs"
  rw [show cutD (T.map (df h l r)) (some 1) none = S.map (df h l r) from by rw [e1]]
  have m0:o0∈T:=by rw [hT]; exact List.mem_cons_self
  have mS:∀ k∈S,k∈T:=fun k hk=>by rw [hT]; exact List.mem_cons_of_mem _ hk
  refine bz (fun i m=>∃ a b c,m = MSt.mk [some (.imm (.tuple [.tuple [.int h.a,.int h.b],.tuple (h.ss.map Srv.d),.bool h.mv])),some (.imm (.tuple [.str r.word])),some (.imm (.tuple (natD l))),some (.imm (.int (t:Int))),some (.imm (.tuple (natD o))),some (.obj 0),some (.obj 1),a_1,b_1,some (.imm (df h l r (M7.pick (r.lt h l) o0 (S.take i)))),a,b,c] [natD T,T.map (df h l r)] 0) ⟨none,none,none,rfl⟩ ?_ ?_
  ·rintro i d m e n ⟨a,b,c,rfl⟩
   obtain ⟨j,ej,rfl,hi⟩:=gmap e
   have hj:=hS j (mS j (List.mem_of_getElem? ej))
   have hbT:M7.pick (r.lt h l) o0 (S.take i)∈T:=by
    rcases M7.pick_mem (lt:=r.lt h l) (ks:=S.take i) (b:=o0) with z | z
    ·rw [z]; exact m0
    ·exact mS _ (List.mem_of_mem_take z)
   have hb:=hS _ hbT
   have et:S.take (i + 1) = S.take i++[j]:=by rw [List.take_add_one,ej]; rfl
   rw [et,M7.pick_app]
   generalize M7.pick (r.lt h l) o0 (S.take i) = b0 at hb
   by_cases hqq:r.word = "quick"
   ·have hr:r = .quick:=by cases r <;> first | rfl | exact hq.elim | exact absurd hqq (by decide +kernel)
    subst hr
    obtain ⟨s1,es1,ea1,eb1,hs1⟩:=h.srv hj
    obtain ⟨s2,es2,ea2,eb2,hs2⟩:=h.srv hb
    have p1:=(ho.ok s1 hs1).a1
    have p2:=(ho.ok s2 hs2).a1
    have q1:=(ho.ok s1 hs1).a2
    have q2:=(ho.ok s2 hs2).a2
    have w1:=(ho.ok s1 hs1).b2
    have w2:=(ho.ok s2 hs2).b2
    have l1:=hL.le ho _ (List.mem_of_getElem? (getN hll hj))
    have l2:=hL.le ho _ (List.mem_of_getElem? (getN hll hb))
    have hm1:(l.getD j 0 + 1) * h.bn j≤7 * 1000000:=by rw [eb1]; exact Nat.mul_le_mul (by omega) (by omega)
    have hm2:(l.getD b0 0 + 1) * h.bn b0≤7 * 1000000:=by rw [eb2]; exact Nat.mul_le_mul (by omega) (by omega)
    have key:=M7.cut_less (p:=(l.getD j 0 + 1) * h.bn j) (q:=h.an j) (p':=(l.getD b0 0 + 1) * h.bn b0) (q':=h.an b0) (by rw [ea1]; exact p1) (by rw [ea2]; exact p2)
    have u1:=Nat.div_le_self ((l.getD j 0 + 1) * h.bn j) (((l.getD j 0 + 1) * h.bn j).gcd (h.an j))
    have u2:=Nat.div_le_self (h.an j) (((l.getD j 0 + 1) * h.bn j).gcd (h.an j))
    have u3:=Nat.div_le_self ((l.getD b0 0 + 1) * h.bn b0) (((l.getD b0 0 + 1) * h.bn b0).gcd (h.an b0))
    have u4:=Nat.div_le_self (h.an b0) (((l.getD b0 0 + 1) * h.bn b0).gcd (h.an b0))
    rw [ea1] at u2
    rw [ea2] at u4
    have er:∀ k,df h l .quick k = .tuple [.tuple [.int ((l.getD k 0 + 1) * h.bn k / ((l.getD k 0 + 1) * h.bn k).gcd (h.an k):Nat),.int (h.an k / ((l.getD k 0 + 1) * h.bn k).gcd (h.an k):Nat)],.int (k:Int)]:=fun k=>rfl
    have fin:∀ cc:Bool,cc = Rule.lt h l .quick j b0→(if cc = true then df h l .quick j else df h l .quick b0) = df h l .quick (if Rule.lt h l .quick j b0 = true then j else b0):=fun cc hc=>by
     subst hc; split <;> rfl
    rw [←fin _ rfl]
    have hlt:Rule.lt h l .quick j b0 = decide ((l.getD j 0 + 1) * h.bn j / ((l.getD j 0 + 1) * h.bn j).gcd (h.an j) * (h.an b0 / ((l.getD b0 0 + 1) * h.bn b0).gcd (h.an b0)) < (l.getD b0 0 + 1) * h.bn b0 / ((l.getD b0 0 + 1) * h.bn b0).gcd (h.an b0) * (h.an j / ((l.getD j 0 + 1) * h.bn j).gcd (h.an j))):=(decide_eq_decide.mpr key).symm
    rw [hlt,er j,er b0]
    rw [←ea1] at u2
    rw [←ea2] at u4
    generalize (l.getD j 0 + 1) * h.bn j / ((l.getD j 0 + 1) * h.bn j).gcd (h.an j) = N1 at u1
    generalize h.an j / ((l.getD j 0 + 1) * h.bn j).gcd (h.an j) = D1 at u2
    generalize (l.getD b0 0 + 1) * h.bn b0 / ((l.getD b0 0 + 1) * h.bn b0).gcd (h.an b0) = N2 at u3
    generalize h.an b0 / ((l.getD b0 0 + 1) * h.bn b0).gcd (h.an b0) = D2 at u4
    rw [ea1] at u2
    rw [ea2] at u4
    walk_at "xs"
    refine ay (fun _=>?_) (fun z=>(z hqq).elim)
    walk_at "xs"
    have ec:decide ((N1:Int) * (D2:Int) < (N2:Int) * (D1:Int)) = decide (N1 * D2 < N2 * D1):=by
     rw [←Int.natCast_mul,←Int.natCast_mul]
     exact decide_eq_decide.mpr Int.ofNat_lt
    rw [ec]
    refine ay (fun z=>?_) (fun z=>?_)
    ·walk_at "xs"
     rw [if_pos (decide_eq_true z)]
     exact ⟨_,_,_,rfl⟩
    ·walk_at "xs"
     rw [decide_eq_true hqq]
     refine bV ?_
     walk_at "xs"
     rw [if_neg (by rw [decide_eq_true_eq]; exact z)]
     exact ⟨_,_,_,rfl⟩
   ·have er:∀ k,df h l r k = .tuple [.int (l.getD k 0:Nat),.int (k:Int)]:=fun k=>by cases r <;> first | rfl | exact hq.elim | exact absurd rfl hqq
    have hlt:Rule.lt h l r j b0 = decide (l.getD j 0 < l.getD b0 0):=by cases r <;> first | rfl | exact hq.elim | exact absurd rfl hqq
    have fin:(if Rule.lt h l r j b0 = true then df h l r j else df h l r b0) = df h l r (if Rule.lt h l r j b0 = true then j else b0):=by split <;> rfl
    rw [←fin,hlt,er j,er b0]
    walk_at "xs"
    refine ay (fun z=>(hqq z).elim) (fun _=>?_)
    walk_at "xs"
    rw [decide_eq_false hqq]
    refine db ?_
    walk_at "xs"
    refine ay (fun z=>?_) (fun z=>?_)
    ·walk_at "xs"
     rw [if_pos (decide_eq_true (by omega))]
     exact ⟨_,_,_,rfl⟩
    ·walk_at "xs"
     rw [if_neg (by rw [decide_eq_true_eq]; omega)]
     exact ⟨_,_,_,rfl⟩
  ·rintro m n ⟨a,b,c,rfl⟩
   rw [List.length_map,List.take_length]
   dsimp only [df]
   walk_at "xs"
   exact k
 ·refine am (MSt.mk [some (.imm h.d),some (.imm (.tuple [.str "turns"])),some (.imm (.tuple (natD l))),some (.imm (.int (t:Int))),some (.imm (.tuple (natD o))),none,none,none,none,none,none,none,none] [] 0) rfl ?_
  walk_at "xs"
  refine ay (fun _=>?_) (fun z=>(z rfl).elim)
  walk_at "xs"
  exact k
 ·refine am (MSt.mk [some (.imm h.d),some (.imm (.tuple [.str "told",.tuple (natD ps)])),some (.imm (lnD l)),some (.imm (.int (t:Int))),some (.imm (.tuple (natD o))),none,none,none,none,none,none,none,none] [] 0) rfl ?_
  walk_at "xs"
  refine ay (fun z=>absurd z (by decide +kernel)) (fun _=>?_)
  walk_at "xs"
  refine ay (fun _=>?_) (fun z=>(z rfl).elim)
  walk_at "xs"
  refine ⟨h,rfl,ho,?_⟩
  walk_at "xx"
  have hp:=M7.place_at hL.fits
  refine iO (k':=1) (j:=M7.placeF 0 h.rs l) (y:=lnD l) rfl (tJ l) (fun y hy=>?_) (by decide) (by rw [List.getElem?_map,hp]; rfl) (by rw [xi]; exact decide_eq_true rfl) (fun i y hi hy=>?_) ?_
  ·obtain ⟨l',_,rfl⟩:=List.mem_map.mp hy
   exact tJ l'
  ·obtain ⟨l',el,rfl,_⟩:=gmap hy
   rw [xi]
   refine decide_eq_false fun z=>?_
   subst z
   have:=M7.place_only el
   omega
  ·walk_at "xn"
   have hlt:M7.placeF 0 h.rs l < ps.length:=by rw [hr0.1,M7.allR_cnt]; exact M7.place_lt hL.fits
   refine bp (aV (a8 (getN rfl hlt))) ?_
   exact k
theorem sD (T:Bl mg) (D:DefM K mg "_law_go" fw ["_law_hall_here", "_law_rule_here", "_law_world_here", "_law_move_here"]) (G_law_sent:FnM P w K mg base "_law_sent" 2 5 xG):FnM P w K mg base "_law_go" 4 4 AV:=by
 refine aZ D sc_law_go rfl (nN:=9) rfl (by decide) ?ar fun cdv A outer s H E f hr=>⟨_,(mz' (ae (i:=4) sc_law_go.nd rfl (Or.inl rfl) ac)
   (mz' (aI (ah (aM hr.units) (ad (mv' 3) mh') ac (av _)) (mz' (ae (i:=5) sc_law_go.nd rfl (Or.inl rfl) (a9 bv (by rfl) T.tuple cQ (mc' (ll (own:=["_law_line"]) (fr:=[]) (ps:=[]) (sc:=(ab fw)) (by exact ⟨rfl,by decide +kernel,by decide +kernel,by decide +kernel,by decide +kernel⟩) (bu hr.units (mv' 2) ac) (fun _ _ _ _ _=>(gn (show List.Nodup ((["_law_line"]:List Str)++([]:List Str)) from by decide +kernel) rfl (Or.inl rfl))) (fun _ _ _ _ _=>cj) (fun _ _ _ _ _=>(aq aY (by rfl) T.len cr (mc' (mv' 0) mn')))) mn')))
   (mz' (ae (i:=6) sc_law_go.nd rfl (Or.inl rfl) (mf' G_law_sent (hr.mono (by decide)) (mc' (mv' 0) (mc' (mv' 1) (mc' (mv' 5) (mc' (bu hr.units (mv' 2) ac) (mc' (ad (mv' 3) mh') mn')))))))
   (mz' (aI (ah (aM hr.units) (ad (mv' 1) mh') ac (av _)) (aa (jX hr.units (af da (af aG (bu hr.units (mv' 2) ac) mh') (aq aY (by rfl) T.len cr (mc' (mv' 5) mn'))) (mv' 2) ac)) az)
   (mz' (ae (i:=4) sc_law_go.nd rfl (Or.inl rfl) (lu (ah gm (ad (mv' 5) (mv' 6)) (ad (ad (ad (mv' 0) mh') (mv' 6)) mh') (av _)) ac ac))
   (mz' (aI (ah (aM hr.units) (mv' 4) ac (av _)) (aa (bJ (cg PySem.F.slot_list_append PySem.F.type_list_append dJ (i8 (bu hr.units (mv' 2) ac) (mv' 6)) (mc' (bu hr.units (mv' 2) ac) mn')))) (aa (bJ (cg PySem.F.slot_list_append PySem.F.type_list_append dJ (bu hr.units (mv' 2) ac) (mc' (bu hr.units (mv' 2) ac) mn')))))
   (aa (jX hr.units (af aG (bu hr.units (mv' 2) ac) mh') (mv' 2) ac))))))) (aa (aI (EW.pt (dR (ah (aM hr.units) (ad (mv' 3) mh') ac (av _)) (dk (ah (jp hr.units) (i8 (bu hr.units (mv' 2) ac) (ad (mv' 3) mh')) (bf mn') (av _))))) (mz' (ae (i:=4) sc_law_go.nd rfl (Or.inl rfl) ac)
   (aa (bJ (cg PySem.F.slot_list_append PySem.F.type_list_append dJ (bu hr.units (mv' 2) ac) (mc' (cg PySem.F.slot_list_pop PySem.F.type_list_pop qR (i8 (bu hr.units (mv' 2) ac) (ad (mv' 3) mh')) (mc' mh' mn')) mn'))))) az)))
   (mz' (gc (EW.pt (dR (fZ (ad (mv' 0) mh')) (dR (ah (rL hr.units) (bf mn') (bu hr.units (mv' 2) ac) (by with_unfolding_all rfl)) (dk (ah o5 (aq (cW rfl) (by rfl) T.max jK (mc' (ll (own:=["_law_line"]) (fr:=[]) (ps:=[]) (sc:=(ab fw)) (by exact ⟨rfl,by decide +kernel,by decide +kernel,by decide +kernel,by decide +kernel⟩) (bu hr.units (mv' 2) ac) (fun _ _ _ _ _=>(gn (show List.Nodup ((["_law_line"]:List Str)++([]:List Str)) from by decide +kernel) rfl (Or.inl rfl))) (fun _ _ _ _ _=>cj) (fun _ _ _ _ _=>(aq aY (by rfl) T.len cr (mc' (mv' 0) mn')))) mn')) mh' (av _)))))) (mz' (rF (i:=7) (own:=["_law_line"]) (fr:=[]) (ps:=[]) (sc:=(ab fw)) (by exact ⟨rfl,by decide +kernel,by decide +kernel,by decide +kernel,by decide +kernel⟩) sc_law_go.nd rfl rfl (bu hr.units (mv' 2) ac) (fun _ _ _ _ _=>(gn (show List.Nodup ((["_law_line"]:List Str)++([]:List Str)) from by decide +kernel) rfl (Or.inl rfl))) (fun _ _ _ _ _=>cj) (fun _ _ _ _ _=>(aq aY (by rfl) T.len cr (mc' (mv' 0) mn'))))
   (mz' (xT (ae (i:=8) sc_law_go.nd rfl (Or.inl rfl) (Ak PySem.F.slot_list_pop PySem.F.type_list_pop vG (i8 (bu hr.units (mv' 2) ac) (cg PySem.F.slot_list_index PySem.F.type_list_index (fg hr.units) (mv' 7) (mc' (aq (cW rfl) (by rfl) T.max jK (mc' (mv' 7) mn')) mn'))))))
   (aa (bJ (cg PySem.F.slot_list_append PySem.F.type_list_append dJ (i8 (bu hr.units (mv' 2) ac) (cg PySem.F.slot_list_index PySem.F.type_list_index (fg hr.units) (mv' 7) (mc' mh' mn'))) (mc' (mv' 8) mn')))))) PassesOwn.never)
   (aa (ai (mv' 4)))))),?_⟩
 case ar=>rintro as Kc ⟨h,r,x,aw,go,mv,rfl,_⟩; rfl
 rintro as Kc hl ⟨h,r,⟨l,t,cn,A⟩,aw,go,mv,rfl,ho,hr0,⟨S,hsz⟩,hm,hc,hg,haw,k⟩
 have hsz':szs A = l:=hsz
 subst hsz'
 obtain ⟨c,ec⟩ : ∃ c,c = cn.c:=⟨_,rfl⟩
 dsimp only at S hm hc
 rw [←ec] at hc
 refine am (MSt.mk [some (.imm h.d),some (.imm r.d),some (.at 0 []),some (.imm mv.d),none,none,none,none,none] [[wT A t c aw go]] 1) (by rw [ec]; rfl) ?_
 have hA:A.length = h.ss.length:=by rw [←bw]; exact S.ln.1
 have n1:=ho.n1
 have n4:=ho.n4
 have hyA:∀ y∈A,y.length≤100:=fun y hy=>by
  have:=S.ln.le ho y.length (List.mem_map_of_mem hy)
  omega
 refine iG (uK (x_c (gF ?_)))
 walk_at "xn"
 refine iG ?_
 refine x_JS (fun m=>∃ (a5 a6:Option L2.R),m = MSt.mk [some (.imm h.d),some (.imm r.d),some (.at 0 []),some (.imm mv.d),some (.imm (.str (bc h r (szs A) t mv).2.2.s)),a5,a6,none,none] [[wT (askB A (kOf h r (szs A) t mv) (bc h r (szs A) t mv).2.2 cn.c) (bc h r (szs A) t mv).2.1 (cn.b (bc h r (szs A) t mv).2.2).c (awB aw (bc h r (szs A) t mv).2.2 cn.c) (goB go (bc h r (szs A) t mv).2.2 ((A.getD (kOf h r (szs A) t mv) []).getD 0 0))]] 1∧(askB A (kOf h r (szs A) t mv) (bc h r (szs A) t mv).2.2 cn.c).length = A.length∧∀ y∈askB A (kOf h r (szs A) t mv) (bc h r (szs A) t mv).2.2 cn.c,y.length≤100) (fun N J=>?_) ?_
 ·cases mv with
  | come o =>
   refine am (MSt.mk [some (.imm (.tuple [.tuple [.int h.a,.int h.b],.tuple (h.ss.map Srv.d),.bool h.mv])),some (.imm r.d),some (.at 0 []),some (.imm (.tuple [.str "come",lnD o])),some (.imm (.str "none")),none,none,none,none] [[wT A t c aw go]] 1) rfl ?_
   walk_at "xs"
   refine ay (fun _=>?_) (fun z=>(z rfl).elim)
   walk_at "xs"
   refine nU rfl (by omega) ?_
   walk_at "xs"
   refine ⟨h,r,szs A,t,o,rfl,ho,hr0,S.ln,hm,?_⟩
   have hk:=jZ ho hr0 S.ln hm S.tn
   obtain ⟨sv,esv,hle,ern,hsv⟩:=S.ln.at hk
   obtain ⟨kS,ekS⟩ : ∃ kS,kS = sent h r (szs A) t o:=⟨_,rfl⟩
   rw [←ekS] at hk esv hle ern ⊢
   refine gF ?_
   walk_at "xn"
   refine iG ?_
   refine x_JS (fun m=>m = MSt.mk [some (.imm (.tuple [.tuple [.int h.a,.int h.b],.tuple (h.ss.map Srv.d),.bool h.mv])),some (.imm r.d),some (.at 0 []),some (.imm (.tuple [.str "come",lnD o])),some (.imm (.str "none")),some (.imm (.tuple (natD (szs A)))),some (.imm (.int (kS:Int))),none,none] [[wT A (lw h r t) c aw go]] 1) (fun N2 J2=>?_) ?_
   ·walk_at "xs"
    refine fQ r.dc (aV (j:=0) rfl) ?_
    walk_at "xs"
    refine ay (fun z=>?_) (fun z=>?_)
    ·have hr:r = .turns:=by cases r <;> first | rfl | exact absurd z (by decide +kernel) | exact absurd (show ("told" : Str) = "turns" from z) (by decide +kernel)
     subst hr
     walk_at "xs"
     refine uO (by show (0:Int) < ((natD (szs A)).length:Int); unfold natD; rw [List.length_map,bw]; omega) ?_
     walk_at "xs"
     refine J2 _ ?_
     have el:(natD (szs A)).length = h.ss.length:=by unfold natD; rw [List.length_map,bw]; exact hA
     rw [el]
     rfl
    ·walk_at "xs"
     have e:lw h r t = t:=by cases r <;> first | rfl | exact absurd rfl z
     refine J2 _ ?_
     rw [e]
   ·rintro m rfl
    have hkA:kS < A.length:=by omega
    have gl:(szs A)[kS]? = some ((szs A).getD kS 0):=getN S.ln.1 hk
    have em:bc h r (szs A) t (.come o) = (cy h (cx h (szs A) kS).1,lw h r t,(cx h (szs A) kS).2):=by rw [ekS]; rfl
    walk_at "xs"
    refine ql ?_
    walk_at "xs"
    refine bp (aV (a8 gl)) ?_
    walk_at "xs"
    refine bp (aV (v:=sv.d) (by rw [List.getElem?_map,esv]; rfl)) ?_
    dsimp only [Srv.d]
    walk_at "xs"
    refine ay (fun z=>?_) (fun z=>?_)
    ·have ec2:cx h (szs A) kS = ((szs A).set kS ((szs A).getD kS 0 + 1),.taken):=if_neg (by rw [ern]; omega)
     rw [ec2] at em
     walk_at "xs"
     walk_at "xx"
     refine ay (fun _=>?_) (fun z=>(z rfl).elim)
     walk_at "xs"
     refine iR rfl rfl (c8 (by rw [List.length_map]; exact hkA)) (ma hkA) ?_
     refine ⟨⟨_,mQ hkA⟩,?_⟩
     walk_at "xs"
     refine gf (p:=[0,kS]) rfl (fW hkA) (bA _) o6 (by unfold natD; rw [List.length_map,sizeLine_eq]; have:=hyA _ (i7 hkA); omega) ?_
     rw [f8,pH]
     walk_at "xs"
     walk_at "xx"
     have ek:kOf h r (szs A) t (.come o) = kS:=ekS.symm
     refine J _ ⟨some (.imm (.tuple (natD (szs A)))),some (.imm (.int (kS:Int))),?_,?_,?_⟩
     ·rw [em,ek,ec]; rfl
     ·rw [em]; exact List.length_set
     ·rw [em,ek]
      intro y hy
      rcases List.mem_or_eq_of_mem_set hy with hy | rfl
      ·exact hyA y hy
      ·rw [List.length_append,List.length_singleton]
       have h6:=S.ln.le ho _ (List.mem_map_of_mem (i7 hkA))
       omega
    ·have ec2:cx h (szs A) kS = (szs A,.away):=if_pos (by rw [ern]; omega)
     rw [ec2] at em
     walk_at "xs"
     walk_at "xx"
     refine ay (fun z=>absurd z (by decide +kernel)) (fun _=>?_)
     walk_at "xs"
     refine ⟨⟨_,yx⟩,?_⟩
     walk_at "xs"
     refine gf (p:=[3]) (ts:=natD aw) rfl rfl (bA _) rfl (by unfold natD; rw [List.length_map,sizeLine_eq]; omega) ?_
     rw [f8,oh]
     walk_at "xs"
     walk_at "xx"
     refine J _ ⟨some (.imm (.tuple (natD (szs A)))),some (.imm (.int (kS:Int))),?_,?_,?_⟩
     ·rw [em,ec]; rfl
     ·rw [em]; rfl
     ·rw [em]; exact hyA
  | done kk =>
   have hk:kk < h.ss.length:=hm
   have hkA:kk < A.length:=by omega
   refine am (MSt.mk [some (.imm (.tuple [.tuple [.int h.a,.int h.b],.tuple (h.ss.map Srv.d),.bool h.mv])),some (.imm r.d),some (.at 0 []),some (.imm (.tuple [.str "done",.int (kk:Int)])),some (.imm (.str "none")),none,none,none,none] [[wT A t c aw go]] 1) rfl ?_
   walk_at "xs"
   refine ay (fun z=>absurd z (by decide +kernel)) (fun _=>?_)
   walk_at "xs"
   rw [if_pos (decide_eq_true rfl)]
   walk_at "xs"
   refine iR rfl rfl (c8 (by rw [List.length_map]; exact hkA)) (ma hkA) ?_
   walk_at "xs"
   refine x_ne (d1:=.list (natD (A.getD kk []))) (d2:=.list []) (z6 hkA) rfl ((kf (k:=0) (bW _)).ok (by decide)) rfl ?_
   rw [nq]
   walk_at "xs"
   by_cases h0:(A.getD kk []).length = 0
   ·have em:bc h r (szs A) t (.done kk) = (cy h (szs A),t,.none):=by
     show (cy h (cf (szs A) kk).1,t,(cf (szs A) kk).2) = _
     unfold cf
     rw [if_pos (by rw [e8]; exact h0)]
    rw [decide_eq_true h0,if_neg (by decide)]
    walk_at "xs"
    refine J _ ⟨none,none,?_,?_,?_⟩
    ·rw [em,ec]; rfl
    ·rw [em]; rfl
    ·rw [em]; exact hyA
   ·have em:bc h r (szs A) t (.done kk) = (cy h ((szs A).set kk ((szs A).getD kk 0 - 1)),t,.served):=by
     show (cy h (cf (szs A) kk).1,t,(cf (szs A) kk).2) = _
     unfold cf
     rw [if_neg (by rw [e8]; exact h0)]
    rw [decide_eq_false h0,if_pos (show (!false) = true from rfl)]
    walk_at "xs"
    walk_at "xx"
    refine ⟨⟨_,xP⟩,?_⟩
    walk_at "xs"
    refine iR rfl rfl (c8 (by rw [List.length_map]; exact hkA)) (ma hkA) ?_
    refine ⟨⟨_,mQ hkA⟩,?_⟩
    walk_at "xs"
    obtain ⟨y0,ey0⟩ : ∃ y0,(A.getD kk [])[0]? = some y0:=⟨_,List.getElem?_eq_getElem (by omega)⟩
    refine vY (p:=[0,kk]) (j:=0) (d:=.int (y0:Int)) rfl (fW hkA) (bA _) o6 (by decide) (by decide) (kQ (c8 (k:=0) (by unfold natD; rw [List.length_map]; omega))).1 (a8 ey0) ?_
    rw [oq,pH]
    walk_at "xs"
    refine gf (p:=[4]) (ts:=natD go) rfl rfl (bA _) rfl (by unfold natD; rw [List.length_map,sizeLine_eq]; omega) ?_
    rw [f8,oh]
    walk_at "xs"
    have ey1:(A.getD kk []).getD 0 0 = y0:=aD ey0
    refine J _ ⟨none,none,?_,?_,?_⟩
    ·rw [em,ec,←ey1]; rfl
    ·rw [em]; exact List.length_set
    ·rw [em]
     intro y hy
     rcases List.mem_or_eq_of_mem_set hy with hy | rfl
     ·exact hyA y hy
     ·show ((A.getD kk []).drop 1).length≤100
      rw [List.length_drop]
      have:=hyA _ (i7 hkA)
      omega
  | still =>
   refine am (MSt.mk [some (.imm (.tuple [.tuple [.int h.a,.int h.b],.tuple (h.ss.map Srv.d),.bool h.mv])),some (.imm r.d),some (.at 0 []),some (.imm (.tuple [.str "still"])),some (.imm (.str "none")),none,none,none,none] [[wT A t c aw go]] 1) rfl ?_
   walk_at "xs"
   refine ay (fun z=>absurd z (by decide +kernel)) (fun _=>?_)
   walk_at "xs"
   rw [if_neg (show ¬ _ by decide +kernel)]
   refine bV ?_
   walk_at "xs"
   refine J _ ⟨none,none,?_,rfl,hyA⟩
   rw [ec]; rfl
 ·rintro m ⟨a5,a6,rfl,hA1,hA2⟩
  obtain ⟨A1,eA1⟩ : ∃ A1,A1 = askB A (kOf h r (szs A) t mv) (bc h r (szs A) t mv).2.2 cn.c:=⟨_,rfl⟩
  have k':Kc (.imm (.str (bc h r (szs A) t mv).2.2.s)) [[wT (bO h A1) (bc h r (szs A) t mv).2.1 (cn.b (bc h r (szs A) t mv).2.2).c (awB aw (bc h r (szs A) t mv).2.2 cn.c) (goB go (bc h r (szs A) t mv).2.2 ((A.getD (kOf h r (szs A) t mv) []).getD 0 0))]]:=by rw [eA1]; exact k
  clear k
  rw [←eA1] at hA1 hA2 ⊢
  generalize awB aw (bc h r (szs A) t mv).2.2 cn.c = aw1 at k' ⊢
  generalize goB go (bc h r (szs A) t mv).2.2 ((A.getD (kOf h r (szs A) t mv) []).getD 0 0) = go1 at k' ⊢
  generalize (bc h r (szs A) t mv).2.1 = t1 at k' ⊢
  generalize (cn.b (bc h r (szs A) t mv).2.2).c = c1 at k' ⊢
  generalize (bc h r (szs A) t mv).2.2.s = wd at k' ⊢
  have k:=k'
  refine iG ?_
  have hne0:A1≠[]:=fun z=>by rw [z] at hA1; simp at hA1; omega
  refine kg (fun n m=>∃ (b5 b6 b7 b8:Option L2.R) (A2:List (List Nat)),m = MSt.mk [some (.imm (.tuple [.tuple [.int h.a,.int h.b],.tuple (h.ss.map Srv.d),.bool h.mv])),some (.imm r.d),some (.at 0 []),some (.imm mv.d),some (.imm (.str wd)),b5,b6,b7,b8] [[wT A2 t1 c1 aw1 go1]] 1∧n = (szs A2).count 0∧askN h n A2 = bO h A1∧A2.length = A.length∧∀ y∈A2,y.length≤100) ((szs A1).count 0) ⟨a5,a6,none,none,A1,rfl,rfl,rfl,hA1,hA2⟩ ?_
  rintro n m hnp ⟨b5,b6,b7,b8,A2,rfl,rfl,hs,hl2,hy2⟩
  have fin:br h (szs A2) = none→Kc (.imm (.str wd)) [[wT A2 t1 c1 aw1 go1]]:=fun e=>by
   rw [lx e] at hs
   rw [hs]
   exact k
  have hne:szs A2≠[]:=fun z=>by
   have:=congrArg List.length z
   rw [bw] at this
   simp at this
   rw [this] at hl2; simp at hl2; omega
  walk_at "xs"
  cases hmv:h.mv with
  | false =>
   refine bV ?_
   refine bV ?_
   walk_at "xs"
   exact fin (if_neg (by rw [hmv]; exact fun z=>by cases z.1))
  | true =>
   refine db ?_
   walk_at "xs"
   refine x_in (d:=.list []) (ds:=A2.map fun x=>.list (natD x)) rfl (.inl Bi) (kf (k:=0) (fun _ z=>by cases z)) (rg A2) (by decide) ?_
   walk_at "xs"
   rw [if_neg Bool.false_ne_true,u7]
   have hints:cq (natD (szs A2)) = some ((szs A2).map fun (x:Nat)=>(x:Int)):=by
    have:=cE ((szs A2).map fun (x:Nat)=>(x:Int))
    rwa [List.map_map] at this
   have hnei:((szs A2).map fun (x:Nat)=>(x:Int))≠[]:=fun z=>hne (List.map_eq_nil_iff.mp z)
   have hmax:∀ x:Int,x∈((szs A2).map fun (x:Nat)=>(x:Int))→(∀ y∈((szs A2).map fun (x:Nat)=>(x:Int)),y≤x)→x = (maxN (szs A2):Int):=fun x hx hy=>by
    obtain ⟨n,hn,rfl⟩:=List.mem_map.mp hx
    have h1:=kO n hn
    have h2:=hy (maxN (szs A2):Int) (List.mem_map.mpr ⟨maxN (szs A2),dQ hne,rfl⟩)
    omega
   by_cases h0 : 0∈szs A2
   ·rw [decide_eq_true h0,if_pos rfl]
    walk_at "xs"
    refine nU rfl (by omega) ?_
    walk_at "xs"
    refine jT rfl hints hnei fun y hq1 hq2=>?_
    rw [hmax y hq1 hq2]
    walk_at "xs"
    refine ay (fun z=>?_) (fun z=>?_)
    ·walk_at "xs"
     refine nU rfl (by omega) ?_
     refine bH ?_
     walk_at "xn"
     refine iG ?_
     refine GA 1 7 (natD (szs A2)) [0] (MSt.mk [some (.imm (.tuple [.tuple [.int h.a,.int h.b],.tuple (h.ss.map Srv.d),.bool true])),some (.imm r.d),some (.at 0 []),some (.imm mv.d),some (.imm (.str wd)),none,none,some (.imm (.list (natD (szs A2)))),none] [[wT A2 t1 c1 aw1 go1]] 1) rfl rfl (FU rfl rfl rfl rfl rfl rfl rfl rfl ⟨.inl rfl,.inl rfl,.inl ⟨0,rfl,rfl⟩,.inl rfl,.inl rfl,.inl trivial,.inl trivial,.inr ⟨rfl,.inl rfl⟩,.inl trivial,trivial⟩) ?_
     have s1:=dj (dQ hne)
     have s0:=dj h0
     have es:br h (szs A2) = some (idx (szs A2) (maxN (szs A2)),idx (szs A2) 0):=if_pos ⟨hmv,h0,by omega⟩
     obtain ⟨es1,l1,l2,hc2,hlen2⟩:=c5 es
     obtain ⟨m0,m1,m2,m3,m4⟩:=ce es
     dsimp only at l1 l2 m1 m3 m4
     rw [bw] at l1 l2
     walk_at "xs"
     refine jT rfl hints hnei fun y hq1 hq2=>?_
     rw [hmax y hq1 hq2]
     walk_at "xs"
     refine iO (j:=idx (szs A2) (maxN (szs A2))) (k':=0) rfl (cI _) (bW _) (by decide) (a8 s1.1) (by rw [bC]; exact decide_eq_true rfl) (fun i y hi hy=>?_) ?_
     ·obtain ⟨z,ez,rfl,_⟩:=gmap hy
      rw [bC]; exact decide_eq_false (s1.2 i z hi ez)
     refine iR rfl rfl (c8 (by rw [List.length_map]; exact l1)) (ma l1) ?_
     refine ⟨⟨_,mQ l1⟩,?_⟩
     have hp1:(A2.getD (idx (szs A2) (maxN (szs A2))) []).length = maxN (szs A2):=by
      have:(szs A2).getD (idx (szs A2) (maxN (szs A2))) 0 = maxN (szs A2):=aD m1
      rw [e8] at this; exact this
     have hp2:(A2.getD (idx (szs A2) 0) []).length = 0:=by
      have:(szs A2).getD (idx (szs A2) 0) 0 = 0:=aD m3
      rw [e8] at this; exact this
     obtain ⟨y0,ey0⟩ : ∃ y0,(A2.getD (idx (szs A2) (maxN (szs A2))) [])[(A2.getD (idx (szs A2) (maxN (szs A2))) []).length - 1]? = some y0:=⟨_,List.getElem?_eq_getElem (by omega)⟩
     refine CF (p:=[0,idx (szs A2) (maxN (szs A2))]) (d:=.int (y0:Int)) rfl (fW l1) (bA _) o6 (by have:=a8 ey0; rwa [show (natD (A2.getD (idx (szs A2) (maxN (szs A2))) [])).length = (A2.getD (idx (szs A2) (maxN (szs A2))) []).length by unfold natD; rw [List.length_map]]) ?_
     rw [j1,pH]
     walk_at "xs"
     walk_at "xx"
     refine iO (j:=idx (szs A2) 0) (k':=0) rfl (cI _) (bW _) (by decide) (a8 s0.1) (bC 0 0) (fun i y hi hy=>?_) ?_
     ·obtain ⟨z',ez,rfl,_⟩:=gmap hy
      have:=bC z' 0
      rw [show ((0:Nat):Int) = 0 from rfl] at this
      rw [this]; exact decide_eq_false (s0.2 i z' hi ez)
     have l2':idx (szs A2) 0 < (A2.set (idx (szs A2) (maxN (szs A2))) (A2.getD (idx (szs A2) (maxN (szs A2))) []).dropLast).length:=by rw [List.length_set]; exact l2
     refine iR rfl rfl (c8 (by rw [List.length_map]; exact l2')) (ma l2') ?_
     refine ⟨⟨_,mQ l2'⟩,?_⟩
     walk_at "xs"
     have g2:(A2.set (idx (szs A2) (maxN (szs A2))) (A2.getD (idx (szs A2) (maxN (szs A2))) []).dropLast).getD (idx (szs A2) 0) [] = A2.getD (idx (szs A2) 0) []:=by
      rw [List.getD_eq_getElem?_getD,List.getElem?_set_ne m4,←List.getD_eq_getElem?_getD]
     refine gf (p:=[0,idx (szs A2) 0]) rfl (fW l2') (bA _) o6 (by unfold natD; rw [List.length_map,g2,hp2,sizeLine_eq]; decide) ?_
     rw [f8,pH]
     walk_at "xs"
     have e3:szs ((A2.set (idx (szs A2) (maxN (szs A2))) (A2.getD (idx (szs A2) (maxN (szs A2))) []).dropLast).set (idx (szs A2) 0) ((A2.set (idx (szs A2) (maxN (szs A2))) (A2.getD (idx (szs A2) (maxN (szs A2))) []).dropLast).getD (idx (szs A2) 0) []++[y0])) = bT (szs A2) (idx (szs A2) (maxN (szs A2)),idx (szs A2) 0):=by
      rw [kZ,kZ,es1,g2,List.length_append,hp2,List.length_dropLast,hp1]; rfl
     refine ⟨(bT (szs A2) (idx (szs A2) (maxN (szs A2)),idx (szs A2) 0)).count 0,by omega,none,none,some (.imm (.list (natD (szs A2)))),some (.imm (.int (y0:Int))),_,rfl,by rw [e3],?_,by rw [List.length_set,List.length_set]; exact hl2,fun y hy=>?_⟩
     ·rw [zk m4 hp2 ey0,←hs,←hc2]
      show _ = askN h ((bT (szs A2) _).count 0 + 1) A2
      simp only [askN,es]
     ·rcases List.mem_or_eq_of_mem_set hy with hy | rfl
      ·rcases List.mem_or_eq_of_mem_set hy with hy | rfl
       ·exact hy2 y hy
       ·rw [List.length_dropLast]
        have:=hy2 _ (i7 l1)
        omega
      ·rw [g2,List.length_append,hp2]; exact (by decide : 0 + 1≤100)
    ·walk_at "xs"
     exact fin (if_neg (fun q=>by have:=q.2.2; omega))
   ·rw [decide_eq_false h0]
    refine bV ?_
    refine bV ?_
    walk_at "xs"
    exact fin (if_neg (fun q=>h0 q.2.1))
theorem mz (T:Bl mg) (D:DefM K mg "_law_world" dL ["_law_hall_here"]):FnM P w K mg base "_law_world" 1 1 r4:=by
 refine aZ D lm rfl (nN:=1) rfl (by decide) ?ar fun cdv A outer s H E f hr=>⟨_,(aa (ai (rb (fm ac (vy (own:=["_law_server"]) (fr:=[]) (ps:=[]) (sc:=(ab dL)) (by exact ⟨rfl,by decide +kernel,by decide +kernel,by decide +kernel,by decide +kernel⟩) (bG (ad (mv' 0) mh')) (fun _ _ _ _ _=>(gn (show List.Nodup ((["_law_server"]:List Str)++([]:List Str)) from by decide +kernel) rfl (Or.inl rfl)))) (fm ac mh' (fm ac mh' (fm ac (bf mn') (fm ac (bf mn') vn)))))))),?_⟩
 case ar=>rintro as Kc ⟨h,rfl,_⟩; rfl
 rintro as Kc hl ⟨h,rfl,ho,k⟩
 refine am (MSt.mk [some (.imm (.tuple [.tuple [.int h.a,.int h.b],.tuple (h.ss.map Srv.d),.bool h.mv]))] [] 0) rfl ?_
 walk_at "xs"
 have n4:=ho.n4
 refine ⟨rfl,by show (List.map Srv.d h.ss).length≤1000; rw [List.length_map]; omega,?_⟩
 walk_at "xs"
 have e:List.replicate (List.map Srv.d h.ss).length (PyData.list []) = (List.replicate h.ss.length ([]:List Nat)).map fun x=>.list (natD x):=by
  rw [List.length_map,List.map_replicate]; rfl
 have k':retK Kc (MSt.mk [some (.imm (.tuple [.tuple [.int h.a,.int h.b],.tuple (h.ss.map Srv.d),.bool h.mv]))] [] 0) (.newT (wT (List.replicate h.ss.length []) 0 0 [] [])):=k
 unfold wT at k'
 rw [←e] at k'
 exact k'
theorem og (T:Bl mg) (D:DefM K mg "_law_move" gI ["_law_feed_here", "_law_hall_here", "_law_way"]) (G_law_draw:FnM P w K mg base "_law_draw" 1 2 jv) (G_law_shuffled:FnM P w K mg base "_law_shuffled" 2 2 xq):FnM P w K mg base "_law_move" 3 3 xo:=by
 refine aZ D sc_law_move rfl (nN:=6) rfl (by decide) ?ar fun cdv A outer s H E f hr=>⟨_,(mz' (ae (i:=3) sc_law_move.nd rfl (Or.inl rfl) (aq aY (by rfl) T.len cr (mc' (ad (mv' 1) mh') mn')))
   (mz' (ae (i:=4) sc_law_move.nd rfl (Or.inl rfl) (ad (bf (mc' (cz (bf (mc' ac (mc' ac (mc' ac (mc' ac mn')))))) (mc' (cz (bf (mc' ac (mc' ac (mc' ac (mc' ac mn')))))) (mc' (cz (bf (mc' ac (mc' ac mn')))) mn')))) (af da (mv' 2) mh')))
   (mz' (ae (i:=5) sc_law_move.nd rfl (Or.inl rfl) (ad (mv' 4) (mf' G_law_draw (hr.mono (by decide)) (mc' (mv' 0) (mc' (aq aY (by rfl) T.len cr (mc' (mv' 4) mn')) mn')))))
   (mz' (aI (ah (aM hr.units) (mv' 5) ac (av _)) (aa (ai (aC (mc' ac (mc' (a9 bv (by rfl) T.tuple cQ (mc' (mf' G_law_shuffled (hr.mono (by decide)) (mc' (mv' 0) (mc' (cz (uw T.list T.range (mc' (mv' 3) mn'))) mn'))) mn')) mn'))))) az)
   (aa (ai (lu (ah (aM hr.units) (mv' 5) ac (av _)) (aC (mc' ac (mc' (mf' G_law_draw (hr.mono (by decide)) (mc' (mv' 0) (mc' (mv' 3) mn'))) mn'))) (aC (mc' ac mn'))))))))),?_⟩
 case ar=>rintro as Kc ⟨fd,c,h,way,rfl,_⟩; rfl
 rintro as Kc hl ⟨fd,c,h,way,rfl,ho,hf,hc,hw,k⟩
 have n1:=ho.n1
 have n4:=ho.n4
 refine am (MSt.mk [some (.obj 0),some (.imm (.tuple [.tuple [.int h.a,.int h.b],.tuple (h.ss.map Srv.d),.bool h.mv])),some (.imm (.int (way:Int))),none,none,none] [fd] 1) rfl ?_
 walk_at "xs"
 obtain ⟨kd,ek,hk1,hk4,hkd⟩ : ∃ kd:List PyData,atI [PyData.list [.str "come",.str "come",.str "come",.str "done"],.list [.str "done",.str "done",.str "come",.str "still"],.list [.str "come",.str "done"]] ((way:Int) % 3) = some (.list kd)∧1≤kd.length∧kd.length≤4∧∀ d∈kd,d = .str "come" ∨ d = .str "done" ∨ d = .str "still" := by
  rcases (show (way:Int) % 3 = 0∨(way:Int) % 3 = 1∨(way:Int) % 3 = 2 by omega) with z | z | z <;> rw [z]
  ·exact ⟨_,rfl,by decide,by decide,by simp⟩
  ·exact ⟨_,rfl,by decide,by decide,by simp⟩
  ·exact ⟨_,rfl,by decide,by decide,by simp⟩
 refine js ek ?_
 refine gF ?_
 walk_at "xx"
 refine ⟨fd,_,c,rfl,hf,by omega,by omega,by omega,fun w fd hw0 hw1 hf=>?_⟩
 walk_at "xn"
 obtain ⟨d,ed,ed2⟩:=tz (xs:=kd) hw0 hw1
 refine nr ed2 ?_
 walk_at "xs"
 walk_at "xn"
 rcases hkd d (List.mem_of_getElem? ed) with rfl | rfl | rfl
 ·walk_at "xs"
  refine ay (fun _=>?_) (fun z=>(z rfl).elim)
  walk_at "xs"
  refine ⟨⟨by rw [List.length_map]; omega,by rw [List.length_map]; omega⟩,?_⟩
  walk_at "xx"
  refine ⟨fd,_,_,rfl,hf,by omega,by rw [aE,List.length_map]; omega,fun r fd' hf' hrl' hrm=>?_⟩
  rw [aE,List.length_map,Int.toNat_natCast] at hf' hrl'
  rw [List.length_map,Int.toNat_natCast] at hrm
  obtain ⟨ks,rfl,hks⟩:=rC hrm
  rw [aF] at hrl'
  have hO:Ord h.ss.length ks:=⟨fun z=>by rw [z] at hrl'; simp at hrl'; omega,hks,by omega⟩
  walk_at "xx"
  exact k (.come ks) _ ⟨hO,fun o z=>by cases z; exact hrl'⟩ (hf'.mono (by omega))
 ·walk_at "xs"
  refine ay (fun z=>absurd z (by decide +kernel)) (fun _=>?_)
  walk_at "xs"
  refine ql ?_
  walk_at "xs"
  refine ay (fun _=>?_) (fun z=>(z rfl).elim)
  walk_at "xs"
  refine ⟨fd,_,_,rfl,hf,by omega,by rw [List.length_map]; omega,by rw [List.length_map]; omega,fun z fd hz0 hz1 hf=>?_⟩
  rw [List.length_map] at hz1
  walk_at "xx"
  have:=k (.done z.toNat) fd ⟨by show z.toNat < h.ss.length; omega,fun o z=>by cases z⟩ (hf.mono (by omega))
  rw [show (Mv.done z.toNat).d = .tuple [.str "done",.int z] from by show PyData.tuple [.str "done",.int (z.toNat:Int)] = _; rw [Int.toNat_of_nonneg hz0]] at this
  exact this
 ·walk_at "xs"
  refine ay (fun z=>absurd z (by decide +kernel)) (fun _=>?_)
  walk_at "xs"
  refine ql ?_
  walk_at "xs"
  refine ay (fun z=>absurd z (by decide +kernel)) (fun _=>?_)
  walk_at "xs"
  exact k .still fd ⟨trivial,fun o z=>by cases z⟩ (hf.mono (by omega))
theorem qJ (T:Bl mg) (D:DefM K mg "_law_run" gq ["_law_feed_here", "_law_hall_here", "_law_many"]) (G_law_draw:FnM P w K mg base "_law_draw" 1 2 jv) (G_law_move:FnM P w K mg base "_law_move" 3 3 xo):FnM P w K mg base "_law_run" 4 3 xg:=by
 refine aZ D sc_law_run rfl (nN:=4) rfl (by decide) ?ar fun cdv A outer s H E f hr=>⟨_,(mz' (ae (i:=3) sc_law_run.nd rfl (Or.inr rfl) (mf' G_law_draw (hr.mono (by decide)) (mc' (mv' 0) (mc' mh' mn'))))
   (aa (ai (a9 bv (by rfl) T.tuple cQ (mc' (cp (own:=["_law_k"]) (fr:=["_law_feed_here", "_law_hall_here", "_law_way"]) (ps:=[0,1,3]) (sc:=(ab gq)) (by exact ⟨rfl,by decide +kernel,by decide +kernel,by decide +kernel,by decide +kernel⟩) (cZ (by rfl) T.range (mc' (mv' 2) mn')) (fun _ _ _ _ _=>(ag (i:=0) (show List.Nodup ((["_law_k"]:List Str)++(["_law_feed_here", "_law_hall_here", "_law_way"]:List Str)) from by decide +kernel) rfl (Or.inl rfl))) (fun _ _ _ _ _=>cj) (fun _ _ _ _ _=>(mf' G_law_move (hr.mono (by decide)) (mc' (mv' 1) (mc' (mv' 2) (mc' (af aG (mv' 3) (af bi (af dY (mv' 0) mh') (mf' G_law_draw (hr.mono (by decide)) (mc' (mv' 1) (mc' mh' mn'))))) mn')))))) mn'))))),?_⟩
 case ar=>rintro as Kc ⟨fd,c,h,many,rfl,_⟩; rfl
 rintro as Kc hl ⟨fd,c,h,many,rfl,ho,hf,hc,hm,k⟩
 refine am (MSt.mk [some (.obj 0),some (.imm h.d),some (.imm (.int (many:Int))),none] [fd] 1) rfl ?_
 walk_at "xs"
 refine ⟨fd,_,c,rfl,hf,by omega,by decide,by decide,fun way fd hw0 hw1 hf=>?_⟩
 walk_at "xx"
 walk_at "xn"
 refine ⟨by omega,by omega,?_⟩
 refine bz (fun i m=>∃ (a:Option L2.R) (fd':List PyData) (Q:List Mv),m = MSt.mk [a,some (.obj 0),some (.imm h.d),some (.imm (.int way))] [fd',Q.map Mv.d] 2∧FeedD (c + 1 + 6 * i) fd'∧Q.length = i∧∀ mv∈Q,mv.Ok2 h) ⟨none,fd,[],rfl,hf,rfl,fun _ h=>by cases h⟩ ?_ ?_
 ·rintro i d m e n ⟨a,fd,Q,rfl,hf,hQ,hQ2⟩
  obtain ⟨hi,rfl⟩:=gh e
  walk_at "xs"
  refine ⟨fd,_,_,rfl,hf,by omega,by decide,by decide,fun z fd hz0 hz1 hf=>?_⟩
  walk_at "xx"
  obtain ⟨wn,ew,hwn⟩ : ∃ wn:Nat,way + (0 + (i:Int)) / 20 * z = (wn:Int)∧wn < 1000:=by
   have h20 : 0≤(0 + (i:Int)) / 20∧(0 + (i:Int)) / 20≤11:=by omega
   rcases (show z = 0∨z = 1 by omega) with rfl | rfl
   ·exact ⟨way.toNat,by rw [Int.mul_zero]; omega,by omega⟩
   ·exact ⟨(way + (0 + (i:Int)) / 20).toNat,by rw [Int.mul_one]; omega,by omega⟩
  rw [ew]
  refine ⟨fd,_,h,wn,rfl,ho,hf,by omega,hwn,fun mv fd hmv hf=>?_⟩
  walk_at "xx"
  refine ⟨_,rfl,by rw [sizeLine_eq,List.length_map]; omega,some (.imm (.int (0 + (i:Int)))),fd,Q++[mv],?_,hf.mono (by omega),by rw [List.length_append,hQ]; rfl,fun x hx=>?_⟩
  ·rw [List.map_append]; rfl
  ·rcases List.mem_append.mp hx with z | z
   ·exact hQ2 x z
   ·rw [List.mem_singleton.mp z]; exact hmv
 rintro m n ⟨a,fd,Q,rfl,hf,hQ,hQ2⟩
 rw [aE,Int.toNat_natCast] at hQ hf
 walk_at "xx"
 exact k Q _ hQ hQ2 (hf.mono (by omega))
theorem qw (T:Bl mg) (D:DefM K mg "_law_due" iP ["_law_hall_here", "_law_rule_here", "_law_run_here"]) (G_law_world:FnM P w K mg base "_law_world" 1 1 r4) (G_law_go:FnM P w K mg base "_law_go" 4 4 AV):FnM P w K mg base "_law_due" 5 3 DB:=by
 refine aZ D sc_law_due rfl (nN:=9) rfl (by decide) ?ar fun cdv A outer s H E f hr=>⟨_,(mz' (ae (i:=3) sc_law_due.nd rfl (Or.inl rfl) (mf' G_law_world (hr.mono (by decide)) (mc' (mv' 0) mn')))
   (mz' (ae (i:=4) sc_law_due.nd rfl (Or.inl rfl) vp)
   (mz' (ca (bG (mv' 2)) (ag (i:=5) sc_law_due.nd rfl (Or.inl rfl)) (mz' (bJ (mf' G_law_go (hr.mono (by decide)) (mc' (mv' 0) (mc' (mv' 1) (mc' (mv' 3) (mc' (mv' 5) mn'))))))
   (aa (p6 (bu hr.units (mv' 3) ac) (mr (i0:=6) sc_law_due.nd rfl (Or.inl rfl)) (aa (p6 (mv' 6) (mr (i0:=7) sc_law_due.nd rfl (Or.inl rfl)) (aa (jX hr.units (af aG (lY hr.units (mv' 4) (mc' (mv' 7) (mc' mh' mn'))) mh') (mv' 4) (mv' 7))) PassesOwn.never)) PassesOwn.never))) PassesOwn.never)
   (mz' (ae (i:=8) sc_law_due.nd rfl (Or.inl rfl) (bf mn'))
   (mz' (ca (cZ (by rfl) T.range (mc' (bu hr.units (mv' 3) ac) mn')) (ag (i:=7) sc_law_due.nd rfl (Or.inl rfl)) (aa (aI (ah (rL hr.units) (mv' 7) (bu hr.units (mv' 3) ac) (by with_unfolding_all rfl)) (aa (bJ (cg PySem.F.slot_list_append PySem.F.type_list_append ci (mv' 8) (mc' dH mn')))) (aa (bJ (cg PySem.F.slot_list_append PySem.F.type_list_append ci (mv' 8) (mc' (aC (mc' (lY hr.units (mv' 4) (mc' (mv' 7) (mc' mh' mn'))) (mc' (fX (rL hr.units) (mv' 7) (bu hr.units (mv' 3) ac) (by with_unfolding_all rfl)) mn'))) mn')))))) PassesOwn.never)
   (aa (ai (a9 bv (by rfl) T.tuple cQ (mc' (mv' 8) mn'))))))))),?_⟩
 case ar=>rintro as Kc ⟨h,r,R,rfl,_⟩; rfl
 rintro as Kc hl ⟨h,r,R,rfl,ho,hr0,hR,hRl,k⟩
 have n4:=ho.n4
 refine am (MSt.mk [some (.imm h.d),some (.imm r.d),some (.imm (runD R)),none,none,none,none,none,none] [] 0) rfl ?_
 walk_at "xs"
 refine ⟨h,rfl,ho,?_⟩
 walk_at "xn"
 refine j6 ?_
 walk_at "xn"
 refine iG (uK (BQ (j6 ?_)))
 walk_at "xn"
 refine iG ?_
 refine x_JS (fun m=>∃ (a5 a6 a7:Option L2.R) (x:Sc) (f:Nat→Nat) (aw go:List Nat) (kvs:List (PyData×PyData)),m = MSt.mk [some (.imm h.d),some (.imm r.d),some (.imm (runD R)),some (.at 0 []),some (.at 1 []),a5,a6,a7,none] [[wT x.A x.t x.c.c aw go],[.dict (lfKV kvs)]] 0∧T13 x (bQ h r (sc0 h) [] R) f aw go 0∧Th kvs f∧x.c.c≤200) (fun N J=>?_) ?_
 ·walk_at "xs"
  refine bz (fun i m=>∃ (a5 a6 a7:Option L2.R) (x:Sc) (F:List Fo) (f:Nat→Nat) (aw go:List Nat) (kvs:List (PyData×PyData)),m = MSt.mk [some (.imm h.d),some (.imm r.d),some (.imm (runD R)),some (.at 0 []),some (.at 1 []),a5,a6,a7,none] [[wT x.A x.t x.c.c aw go],[.dict (lfKV kvs)]] 0∧x.Ok h r∧T13 x F f aw go (R.length - i)∧bQ h r (sc0 h) [] R = bQ h r x F (R.drop i)∧Th kvs f∧kvs.length≤1000 * i∧x.c.c≤i∧go.length≤i∧aw.length≤i) ⟨none,none,none,sc0 h,[],fun _=>0,[],[],[],rfl,pf ho r,T13.first h _,rfl,⟨rfl,fun _=>rfl⟩,Nat.le_refl _,Nat.le_refl _,Nat.le_refl _,Nat.le_refl _⟩ ?_ ?_
  ·rintro i d m e hnp ⟨a5,a6,a7,x,F,f,aw,go,kvs,rfl,X,T,es,th,hkl,hc,hg,haw⟩
   obtain ⟨mv,emv,rfl,hi⟩:=gmap e
   have hmv:=hR mv (List.mem_of_getElem? emv)
   have hi2:i < R.length:=(List.getElem?_eq_some_iff.mp emv).1
   walk_at "xs"
   refine ⟨h,r,x,aw,go,mv,rfl,ho,hr0,X,hmv.1,by omega,by omega,by omega,?_⟩
   have X':=Sc.nx_ok ho hr0 X hmv.1
   rw [show R.length - i = (R.length - (i + 1)) + 1 by omega] at T
   have T':=T13.nx ho hr0 X T hmv.1
   rw [fi emv] at es
   have es':bQ h r (sc0 h) [] R = bQ h r (x.nx h r mv) (foB F (wdOf h r x mv) (dg h r x mv) (R.length - (i + 1) + 1)) (R.drop (i + 1)):=by
    rw [es]
    show bQ h r (x.nx h r mv) (foB F (wdOf h r x mv) (dg h r x mv) ((R.drop (i + 1)).length + 1)) (R.drop (i + 1)) = _
    rw [List.length_drop]
   have hA:(x.nx h r mv).A.length = h.ss.length:=by rw [←bw,X'.sz]; exact X'.st.ln.1
   have hyA:∀ y∈(x.nx h r mv).A,y.length≤6:=fun y hy=>by
    have:=X'.st.ln.le ho y.length (by rw [←X'.sz]; exact List.mem_map_of_mem hy)
    exact this
   have hc':(x.nx h r mv).c.c≤i + 1:=by
    show (x.c.b (wdOf h r x mv)).c≤i + 1
    cases wdOf h r x mv <;> simp only [Cn.b] <;> omega
   have hg':(goB go (wdOf h r x mv) (dg h r x mv)).length≤i + 1:=by
    cases wdOf h r x mv <;> simp [goB] <;> omega
   have haw':(awB aw (wdOf h r x mv) x.c.c).length≤i + 1:=by
    cases wdOf h r x mv <;> simp [awB] <;> omega
   generalize x.nx h r mv = x' at *
   generalize awB aw (wdOf h r x mv) x.c.c = aw' at *
   generalize goB go (wdOf h r x mv) (dg h r x mv) = go' at *
   generalize foB F (wdOf h r x mv) (dg h r x mv) (R.length - (i + 1) + 1) = F' at *
   walk_at "xx"
   refine xu ?_
   walk_at "xs"
   refine ⟨_,_,rfl,rfl,?_⟩
   refine mW (fun j m=>∃ (b6 b7:Option L2.R) (kvs':List (PyData×PyData)),m = MSt.mk [some (.imm h.d),some (.imm r.d),some (.imm (runD R)),some (.at 0 []),some (.at 1 []),some (.imm mv.d),b6,b7,none] [[wT x'.A x'.t x'.c.c aw' go'],[.dict (lfKV kvs')]] 1∧Th kvs' (fN f (x'.A.take j).flatten)∧kvs'.length≤1000 * i + 10 * j) ⟨a6,a7,kvs,rfl,by rw [List.take_zero,List.flatten_nil,BO]; exact th,hkl⟩ ?_ ?_
   ·rintro j t' m ej hnj ⟨b6,b7,kvs1,rfl,th1,hk1⟩
    have hj:j < x'.A.length:=by
     have:=(List.getElem?_eq_some_iff.mp ej).1
     simpa using this
    have et:t' = .list (natD (x'.A.getD j [])):=by
     have e':(x'.A.map fun x=>PyData.list (natD x))[j]? = some t':=ej
     rw [ma hj] at e'
     exact (Option.some.inj e').symm
    subst et
    have hln:=hyA _ (i7 hj)
    refine ⟨rfl,?_⟩
    refine xu ?_
    walk_at "xs"
    refine ⟨_,natD (x'.A.getD j []),rfl,fW hj,?_⟩
    refine mW (fun q m=>∃ (b7:Option L2.R) (kvs':List (PyData×PyData)),m = MSt.mk [some (.imm h.d),some (.imm r.d),some (.imm (runD R)),some (.at 0 []),some (.at 1 []),some (.imm mv.d),some (.at 0 [0,j]),b7,none] [[wT x'.A x'.t x'.c.c aw' go'],[.dict (lfKV kvs')]] 1∧Th kvs' (fN f ((x'.A.take j).flatten++(x'.A.getD j []).take q))∧kvs'.length≤1000 * i + 10 * j + q) ⟨b7,kvs1,rfl,by rw [List.take_zero,List.append_nil]; exact th1,hk1⟩ ?_ ?_
    ·rintro q t2 m eq hnq ⟨b7,kvs2,rfl,th2,hk2⟩
     refine ⟨rfl,?_⟩
     have eq':(natD (x'.A.getD j []))[q]? = some t2:=eq
     obtain ⟨z,ez,rfl,hq⟩:=gmap eq'
     have hq2:q < (x'.A.getD j []).length:=(List.getElem?_eq_some_iff.mp ez).1
     walk_at "xs"
     refine sU ?_
     walk_at "xs"
     refine ⟨kvs2,⟨rfl,rfl⟩,.inl th2.kd,?_⟩
     walk_at "xs"
     refine ⟨kvs2,.int (z:Int),.int 0,rfl,⟨rfl,rfl⟩,th2.one _,?_⟩
     rw [th2.get z]
     walk_at "xs"
     obtain ⟨p1,p2,p3⟩:=n9 (z:Int) ((fN f ((x'.A.take j).flatten++(x'.A.getD j []).take q) z:Int) + 1) th2.kd
     refine ⟨_,lfKV kvs2,rfl,rfl,by rw [nw]; exact th2.kd,rfl,by unfold lfKV; rw [List.length_map,sizeLine_eq]; omega,?_⟩
     have pu:=th2.put z
     rw [Cq,List.append_assoc] at pu
     have et3:(x'.A.getD j []).take q++[z] = (x'.A.getD j []).take (q + 1):=by rw [List.take_succ,ez]; rfl
     rw [et3] at pu
     refine ⟨some (.imm (.int (z:Int))),_,?_,pu,by omega⟩
     rw [←p1]
     rfl
    ·rintro m hnq ⟨b7,kvs2,rfl,th2,hk2⟩
     refine ⟨rfl,?_⟩
     have el:(natD (x'.A.getD j [])).length = (x'.A.getD j []).length:=aF _
     refine ⟨some (.at 0 [0,j]),b7,kvs2,rfl,?_,?_⟩
     ·rw [si hj]
      have th3:=th2
      dsimp only at th3
      rw [el,List.take_length] at th3
      exact th3
     ·have hk3:=hk2
      dsimp only at hk3
      rw [el] at hk3
      omega
   ·rintro m hnj ⟨b6,b7,kvs1,rfl,th1,hk1⟩
    refine ⟨rfl,?_⟩
    dsimp only at th1 hk1
    rw [List.length_map] at th1 hk1
    rw [List.take_length] at th1
    exact ⟨some (.imm mv.d),b6,b7,x',F',fN f x'.A.flatten,aw',go',kvs1,rfl,X',T',es',th1,by omega,hc',hg',haw'⟩
  ·rintro m hnp ⟨a5,a6,a7,x,F,f,aw,go,kvs,rfl,X,T,es,th,hkl,hc,hg,haw⟩
   rw [List.length_map] at T es hc
   rw [List.drop_length] at es
   rw [Nat.sub_self] at T
   walk_at "xs"
   refine J _ ⟨a5,a6,a7,x,f,aw,go,kvs,rfl,?_,th,by omega⟩
   rw [es]; exact T
 ·rintro m ⟨a5,a6,a7,x,f,aw,go,kvs,rfl,T,th,hc⟩
  generalize bQ h r (sc0 h) [] R = F at k T
  walk_at "xs"
  refine bH ?_
  walk_at "xx"
  refine ⟨by omega,by omega,?_⟩
  refine bz (fun j m=>∃ (b7:Option L2.R),m = MSt.mk [some (.imm h.d),some (.imm r.d),some (.imm (runD R)),some (.at 0 []),some (.at 1 []),a5,a6,b7,some (.obj 2)] [[wT x.A x.t x.c.c aw go],[.dict (lfKV kvs)],(F.take j).map Fo.d] 0) ⟨a7,rfl⟩ ?_ ?_
  ·rintro j d m e hnp ⟨b7,rfl⟩
   obtain ⟨hj,rfl⟩:=gh e
   have hj2:j < x.c.c:=by simpa using hj
   rw [show (0:Int) + (j:Int) = (j:Int) by omega]
   have hlen:((F.take j).map Fo.d).length < sizeLine:=by rw [List.length_map,List.length_take,sizeLine_eq]; omega
   have nxt:∀ q:Fo,F[j]? = some q→(F.take (j + 1)).map Fo.d = (F.take j).map Fo.d++[q.d]:=fun q eq=>by
    rw [List.take_succ,eq,List.map_append]; rfl
   walk_at "xs"
   refine x_in (d:=.int (j:Int)) (ds:=natD aw) rfl (.inl yz) (cI _) (bW aw) (by decide) ?_
   walk_at "xs"
   rw [if_neg Bool.false_ne_true,wJ]
   by_cases h1:j∈aw
   ·rw [decide_eq_true h1,if_pos rfl]
    walk_at "xs"
    refine ⟨_,rfl,hlen,?_⟩
    walk_at "xs"
    refine ⟨some (.imm (.int (j:Int))),?_⟩
    rw [nxt none (T.inW j h1).2]
    rfl
   ·rw [decide_eq_false h1,if_neg Bool.false_ne_true]
    walk_at "xs"
    refine sU ?_
    walk_at "xs"
    refine ⟨kvs,⟨rfl,rfl⟩,.inl th.kd,?_⟩
    walk_at "xs"
    refine ⟨kvs,.int (j:Int),.int 0,rfl,⟨rfl,rfl⟩,th.one _,?_⟩
    rw [th.get j]
    walk_at "xs"
    refine x_in (d:=.int (j:Int)) (ds:=natD go) rfl (.inl yh) (cI _) (bW go) (by decide) ?_
    walk_at "xs"
    rw [if_neg Bool.false_ne_true,wJ]
    have hq:F[j]? = some (some ((f j:Int),decide (j∈go))):=by
     rcases T.all j hj2 with a | a | a
     ·exact (h1 a).elim
     ·rw [decide_eq_true a]; exact (T.inG j a).2.2
     ·obtain ⟨_,c2,_,c4⟩:=T.inA j a
      rw [decide_eq_false c4]
      rw [Nat.add_zero] at c2
      exact c2
    walk_at "xs"
    refine ⟨_,rfl,hlen,?_⟩
    walk_at "xs"
    refine ⟨some (.imm (.int (j:Int))),?_⟩
    rw [nxt _ hq]
    rfl
  ·rintro m hnp ⟨b7,rfl⟩
   walk_at "xs"
   have el:(F.take (cw 0 ((x.c.c:Int)).toNat).length) = F:=by
    rw [aE,Int.toNat_natCast,←T.ln,List.take_length]
   rw [el]
   exact k
theorem mL (T:Bl mg) (D:DefM K mg "_law_right" cB ["_law_hall_here", "_law_rule_here", "_law_run_here"]) (Gstays:FnM P w K mg base "stays" 7 3 sw) (G_law_due:FnM P w K mg base "_law_due" 5 3 DB) (Gwalked:FnM P w K mg base "walked" 6 3 oY) (Gcounted:FnM P w K mg base "counted" 6 3 mI):FnM P w K mg base "_law_right" 8 3 rJ:=by
 refine aZ D sc_law_right rfl (nN:=11) rfl (by decide) ?ar fun cdv A outer s H E f hr=>⟨_,(mz' (ae (i:=3) sc_law_right.nd rfl (Or.inl rfl) (aq (fG hr.gd hr.u200) (by rfl) T.repr kL (mc' (bf (mc' (mv' 0) (mc' (mv' 1) (mc' (mv' 2) mn')))) mn')))
   (mz' (ae (i:=4) sc_law_right.nd rfl (Or.inl rfl) (mf' Gstays (hr.mono (by decide)) (mc' (mv' 0) (mc' (mv' 1) (mc' (mv' 2) mn')))))
   (mz' (aI (EW.pt (iM (ah (jp hr.units) (aq (fG hr.gd hr.u200) (by rfl) T.repr kL (mc' (mv' 4) mn')) (aq (fG hr.gd hr.u200) (by rfl) T.repr kL (mc' (mf' G_law_due (hr.mono (by decide)) (mc' (mv' 0) (mc' (mv' 1) (mc' (mv' 2) mn')))) mn')) (av _)) (jc (ah (jp hr.units) (aq (fG hr.gd hr.u200) (by rfl) T.repr kL (mc' (bf (mc' (mv' 0) (mc' (mv' 1) (mc' (mv' 2) mn')))) mn')) (mv' 3) (av _))))) (aa (ai jR)) az)
   (mz' (ae (i:=5) sc_law_right.nd rfl (Or.inl rfl) (aq (jg rfl) (by rfl) T.sum oM (mc' (cp (own:=["_law_lines", "_law_turn"]) (fr:=[]) (ps:=[]) (sc:=(ab cB)) (by exact ⟨rfl,by decide +kernel,by decide +kernel,by decide +kernel,by decide +kernel⟩) (bG (mf' Gwalked (hr.mono (by decide)) (mc' (mv' 0) (mc' (mv' 1) (mc' (mv' 2) mn'))))) (fun _ _ _ _ _=>(bF (n:=2) (ak (ag (i:=0) (show List.Nodup ((["_law_lines", "_law_turn"]:List Str)++([]:List Str)) from by decide +kernel) rfl (Or.inl rfl)) (ak (ag (i:=1) (show List.Nodup ((["_law_lines", "_law_turn"]:List Str)++([]:List Str)) from by decide +kernel) rfl (Or.inl rfl)) bj)))) (fun _ _ _ _ _=>cj) (fun _ _ _ _ _=>(aq (qf rfl) (by rfl) T.sum oM (mc' (mv' 0) mn')))) mn')))
   (mz' (aI (ah (jp hr.units) (mv' 5) (aq (jg rfl) (by rfl) T.sum oM (mc' (cp (own:=["_law_one"]) (fr:=[]) (ps:=[]) (sc:=(ab cB)) (by exact ⟨rfl,by decide +kernel,by decide +kernel,by decide +kernel,by decide +kernel⟩) (bG (mv' 4)) (fun _ _ _ _ _=>(ag (i:=0) (show List.Nodup ((["_law_one"]:List Str)++([]:List Str)) from by decide +kernel) rfl (Or.inl rfl))) (fun _ _ _ _ _=>(pO (ah fJ (mv' 0) dH (av _)))) (fun _ _ _ _ _=>(ad (mv' 0) mh'))) mn')) (av _)) (aa (ai jR)) az)
   (mz' (cK (mf' Gcounted (hr.mono (by decide)) (mc' (mv' 0) (mc' (mv' 1) (mc' (mv' 2) mn')))) (bF (n:=4) (ak (ag (i:=6) sc_law_right.nd rfl (Or.inl rfl)) (ak (ag (i:=7) sc_law_right.nd rfl (Or.inl rfl)) (ak (ag (i:=8) sc_law_right.nd rfl (Or.inl rfl)) (ak (ag (i:=9) sc_law_right.nd rfl (Or.inl rfl)) bj))))))
   (mz' (qU (i:=10) (own:=["_law_one"]) (fr:=[]) (ps:=[]) (sc:=(ab cB)) (by exact ⟨rfl,by decide +kernel,by decide +kernel,by decide +kernel,by decide +kernel⟩) sc_law_right.nd rfl rfl (bG (mv' 4)) (fun _ _ _ _ _=>(ag (i:=0) (show List.Nodup ((["_law_one"]:List Str)++([]:List Str)) from by decide +kernel) rfl (Or.inl rfl))) (fun _ _ _ _ _=>(pO (EW.pt (dR (ah fJ (mv' 0) dH (av _)) (dk (jh (fZ (ad (mv' 0) mh')))))))) (fun _ _ _ _ _=>(mv' 0)))
   (aa (ai (tQ (fX (aM hr.units) (mv' 6) (aq aY (by rfl) T.len cr (mc' (mv' 4) mn')) (av _)) (tQ (fX (aM hr.units) (mv' 7) (af aG (mv' 9) (aq aY (by rfl) T.len cr (mc' (mv' 10) mn'))) (av _)) (z7 (fX (aM hr.units) (mv' 8) (af j5 (mv' 6) (mv' 7)) (av _)))))))))))))),?_⟩
 case ar=>rintro as Kc ⟨h,r,R,rfl,_⟩; rfl
 rintro as Kc hl ⟨h,r,R,rfl,ho,hr0,hR,hRl,k⟩
 have hR1:∀ mv∈R,mv.Ok h:=fun mv hm=>(hR mv hm).1
 have T0:=T13.first h R.length
 obtain ⟨f1,f2,f3⟩:=uI ho hr0 hR1 (pf ho r) T0 rfl
 have fb:=tx ho hr0 (N:=200) hR1 (pf ho r) T0 hRl (fun _ z=>by cases z)
 have cs:=oJ (h:=h) (r:=r) (R:=R) (p:=(zer h,0)) (x:=⟨0,0,0,0⟩) rfl
 have lenF:(bQ h r (sc0 h) [] R).length≤200:=by
  rw [f1]
  have:=oz (h:=h) (r:=r) (R:=R) (p:=((sc0 h).l,(sc0 h).t)) (x:=(sc0 h).c)
  have z:(sc0 h).c.c = 0:=rfl
  omega
 have ff:Fine 80000 4 (.tuple ((bQ h r (sc0 h) [] R).map Fo.d)):=foF (n:=0) (by omega) fun q hq=>by have:=fb q hq; omega
 refine am (MSt.mk [some (.imm h.d),some (.imm r.d),some (.imm (runD R)),none,none,none,none,none,none,none,none] [] 0) rfl ?_
 walk_at "xs"
 refine kB (w4 ho hr0 hR hRl) rfl (by decide) (by decide) ?_
 walk_at "xs"
 refine ⟨h,r,R,rfl,ho,hr0,hR1,by omega,?_⟩
 walk_at "xx"
 refine kB ff rfl (by decide) (by decide) ?_
 walk_at "xs"
 refine ⟨h,r,R,rfl,ho,hr0,hR,hRl,?_⟩
 walk_at "xx"
 refine kB ff rfl (by decide) (by decide) ?_
 refine CK ?_
 rw [decide_eq_true rfl]
 refine wY ?_
 rw [if_neg (show ¬ (!true) = true by decide)]
 walk_at "xs"
 refine kB (w4 ho hr0 hR hRl) rfl (by decide) (by decide) ?_
 walk_at "xs"
 rw [decide_eq_true rfl]
 rw [if_neg (show ¬ (!true) = true by decide)]
 walk_at "xs"
 refine ⟨h,r,R,rfl,ho,hr0,hR1,by omega,?_⟩
 walk_at "xx"
 have lenS:=lJ (h:=h) (r:=r) (R:=R) (p:=(zer h,0))
 refine bz (fun i m=>∃ a b,m = MSt.mk [a,b] [((bM h r (zer h,0) R).take i).map fun p=>PyData.int (p.1.sum:Int)] 1) ⟨none,none,rfl⟩ ?_ ?_
 ·rintro i d m e hnp ⟨a,b,rfl⟩
  obtain ⟨p,ep,rfl,hi⟩:=gmap e
  dsimp only [stD,lnD]
  walk_at "xs"
  ·rfl
  walk_at "xs"
  refine AI (ds:=natD p.1) rfl (qb _) ?_
  rw [nQ]
  walk_at "xs"
  refine ⟨_,rfl,by rw [List.length_map,List.length_take,sizeLine_eq]; omega,some (.imm (.tuple (natD p.1))),some (.imm (.int (p.2:Int))),?_⟩
  rw [List.take_succ,ep,List.map_append]
  rfl
 ·rintro m hnp ⟨a,b,rfl⟩
  walk_at "xx"
  have eS:(bM h r (zer h,0) R).take (List.map (fun p=>stD p.1 p.2) (bM h r (zer h,0) R)).length = bM h r (zer h,0) R:=by
   rw [List.length_map,List.take_length]
  rw [eS]
  have iS:cq ((bM h r (zer h,0) R).map fun p=>PyData.int (p.1.sum:Int)) = some (((bM h r (zer h,0) R).map fun p=>p.1.sum).map fun (x:Nat)=>(x:Int)):=by
   have:=qb ((bM h r (zer h,0) R).map fun p=>p.1.sum)
   unfold natD at this
   rw [List.map_map] at this
   exact this
  refine ⟨_,_,rfl,iS,?_⟩
  rw [nQ]
  generalize eF:bQ h r (sc0 h) [] R = F at *
  walk_at "xs"
  walk_at "xx"
  have hsum:((((bM h r (zer h,0) R).map fun p=>p.1.sum).sum:Nat):Int) = sumF F:=by
   have z1:(sc0 h).A.flatten.length = 0:=by simp [sc0]
   have z2:(sc0 h).l.sum = 0:=by simp [sc0,zer]
   rw [z1,z2] at f3
   have f4:sumF F + (R.length:Int) * 0 + 0 = 0 + ((((bM h r (zer h,0) R).map fun p=>p.1.sum).sum:Nat):Int):=f3
   rw [Int.mul_zero] at f4
   omega
  have f1':F.length = (cP h r (zer h,0) ⟨0,0,0,0⟩ R).c:=f1
  have f2':(cP h r (zer h,0) ⟨0,0,0,0⟩ R).t = (cP h r (zer h,0) ⟨0,0,0,0⟩ R).s + unF F:=f2
  refine bz (fun i m=>∃ a,m = MSt.mk [a] [selF (F.take i)] 1) ⟨none,rfl⟩ ?_ ?_
  ·rintro i d m e hnp ⟨a,rfl⟩
   obtain ⟨q,eq,rfl,hi⟩:=gmap e
   have hz:(selF (F.take i)).length < sizeLine:=by
    have:=Dq (F.take i)
    rw [List.length_take] at this
    rw [sizeLine_eq]; omega
   cases q with
   | none =>
    dsimp only [Fo.d]
    walk_at "xs"
    refine bV ?_
    walk_at "xs"
    refine ⟨some (.imm .none),?_⟩
    rw [pj eq]
    show _ = MSt.mk _ [selF (F.take i)++[]] 1
    rw [List.append_nil]; rfl
   | some q =>
    dsimp only [Fo.d]
    walk_at "xs"
    refine db ?_
    walk_at "xs"
    refine ⟨_,rfl,hz,some (.imm (.tuple [.int q.1,.bool q.2])),?_⟩
    rw [pj eq]; rfl
  ·rintro m hnp ⟨a,rfl⟩
   walk_at "xx"
   obtain ⟨ns,e1,e2⟩:=jj F
   have eT:F.take (List.map Fo.d F).length = F:=by rw [List.length_map,List.take_length]
   rw [eT]
   refine ⟨_,ns,rfl,e1,?_⟩
   rw [e2,hsum]
   walk_at "xs"
   rw [decide_eq_false (fun z=>z rfl)]
   refine bV ?_
   walk_at "xs"
   refine ⟨h,r,R,rfl,ho,hr0,hR1,?_⟩
   generalize cP h r (zer h,0) ⟨0,0,0,0⟩ R = cn at *
   dsimp only [Cn.d]
   walk_at "xx"
   ·rfl
   walk_at "xs"
   walk_at "xx"
   refine bz (fun i m=>∃ a,m = MSt.mk [a] [lefF (F.take i)] 1) ⟨none,rfl⟩ ?_ ?_
   ·rintro i d m e hnp ⟨a,rfl⟩
    obtain ⟨q,eq,rfl,hi⟩:=gmap e
    have hz:(lefF (F.take i)).length < sizeLine:=by
     have:=C6 (F.take i)
     rw [List.length_take] at this
     rw [sizeLine_eq]; omega
    match q,eq with
    | none,eq =>
     dsimp only [Fo.d]
     walk_at "xs"
     refine bV ?_
     refine bV ?_
     walk_at "xs"
     refine ⟨some (.imm .none),?_⟩
     rw [kF eq]
     show _ = MSt.mk _ [lefF (F.take i)++[]] 1
     rw [List.append_nil]; rfl
    | some (v,true),eq =>
     dsimp only [Fo.d]
     walk_at "xs"
     refine db ?_
     walk_at "xs"
     refine bV ?_
     walk_at "xs"
     refine ⟨some (.imm (.tuple [.int v,.bool true])),?_⟩
     rw [kF eq]
     show _ = MSt.mk _ [lefF (F.take i)++[]] 1
     rw [List.append_nil]; rfl
    | some (v,false),eq =>
     dsimp only [Fo.d]
     walk_at "xs"
     refine db ?_
     walk_at "xs"
     refine db ?_
     walk_at "xs"
     refine ⟨_,rfl,hz,some (.imm (.tuple [.int v,.bool false])),?_⟩
     rw [kF eq]; rfl
   ·rintro m hnp ⟨a,rfl⟩
    rw [eT]
    refine bH ?_
    walk_at "xx"
    rw [decide_eq_true (show (cn.c:Int) = ((List.map Fo.d F).length:Int) by rw [List.length_map,f1']),if_pos rfl]
    walk_at "xs"
    rw [decide_eq_true (show (cn.t:Int) = (cn.s:Int) + (([lefF F].getD 0 []).length:Int) by
     show (cn.t:Int) = (cn.s:Int) + ((lefF F).length:Int)
     rw [iL]; omega),if_pos rfl]
    walk_at "xs"
    rw [decide_eq_true (show (cn.a:Int) = (cn.c:Int) - (cn.t:Int) by omega)]
    exact k
theorem FZ (T:Bl mg) {ff:Addr} {fd:FuncData} (F:Fun K "law" "law" slaw ff fd) (G_law_feed:FnM P w K mg base "_law_feed" 1 1 wR) (G_law_hall:FnM P w K mg base "_law_hall" 2 2 rQ) (G_law_rule:FnM P w K mg base "_law_rule" 2 2 wZ) (G_law_draw:FnM P w K mg base "_law_draw" 1 2 jv) (G_law_run:FnM P w K mg base "_law_run" 4 3 xg) (G_law_right:FnM P w K mg base "_law_right" 8 3 rJ):FnOk P w K mg base CX0 9 ff fd ["_law_script"] (spOf ⟨K,w⟩ 1 v9):=by
 refine xJ F sclaw rfl (nN:=6) rfl (by decide) fun cdv A outer s H E f hr=>⟨_,(mz' (ae (i:=1) sclaw.nd rfl (Or.inl rfl) (mf' G_law_feed (hr.mono (by decide)) (mc' (mv' 0) mn')))
   (mz' (ca (cZ (by rfl) T.range (mc' mh' mn')) (ag (i:=2) sclaw.nd rfl (Or.inl rfl)) (mz' (ae (i:=3) sclaw.nd rfl (Or.inl rfl) (mf' G_law_hall (hr.mono (by decide)) (mc' (mv' 1) (mc' mh' mn'))))
   (mz' (ae (i:=4) sclaw.nd rfl (Or.inl rfl) (mf' G_law_rule (hr.mono (by decide)) (mc' (mv' 1) (mc' (mv' 3) mn'))))
   (mz' (ae (i:=5) sclaw.nd rfl (Or.inl rfl) (mf' G_law_draw (hr.mono (by decide)) (mc' (mv' 1) (mc' mh' mn'))))
   (mz' (aI (EW.pt (dR (ah (aM hr.units) (mv' 2) mh' (av _)) (dk (ah (aM hr.units) (mf' G_law_draw (hr.mono (by decide)) (mc' (mv' 1) (mc' mh' mn'))) mh' (av _))))) (aa (ae (i:=5) sclaw.nd rfl (Or.inl rfl) (af aG mh' (mf' G_law_draw (hr.mono (by decide)) (mc' (mv' 1) (mc' mh' mn')))))) az)
   (aa (aI (EW.pt (iM (jh (fZ (mf' G_law_right (hr.mono (by decide)) (mc' (mv' 3) (mc' (mv' 4) (mc' (mf' G_law_run (hr.mono (by decide)) (mc' (mv' 1) (mc' (mv' 3) (mc' (mv' 5) mn')))) mn')))))) (jc (jh (fZ (mf' G_law_right (hr.mono (by decide)) (mc' (mv' 3) (mc' (mv' 4) (mc' (aC mn') mn'))))))))) (aa (ai jR)) az)))))) PassesOwn.never)
   (aa (ai jR)))),?_⟩
 rintro as Kc hl ⟨ns,rfl,hn,k⟩
 refine am (MSt.mk [some (.imm (.list (ns.map .int))),none,none,none,none,none] [] 0) rfl ?_
 walk_at "xs"
 refine ⟨ns,rfl,hn,fun fd hf=>?_⟩
 walk_at "xn"
 refine bH ?_
 walk_at "xx"
 refine ⟨by decide,by decide,?_⟩
 refine bz (fun i m=>∃ a b c d fd',m = MSt.mk [some (.imm (.list (ns.map .int))),some (.obj 0),a,b,c,d] [fd'] 0∧FeedD (4000 * i) fd') ⟨none,none,none,none,fd,rfl,hf⟩ ?_ ?_
 ·rintro i d m e n ⟨a0,b0,c0,d0,fd,rfl,hf⟩
  obtain ⟨hi,rfl⟩:=gh e
  have hi4:i < 4:=hi
  walk_at "xs"
  refine ⟨fd,_,4,rfl,hf,by omega,by decide,by decide,fun h fd ho hf=>?_⟩
  walk_at "xx"
  refine ⟨fd,_,h,rfl,ho,hf,by omega,fun r fd hr0 hf=>?_⟩
  walk_at "xx"
  refine ⟨fd,_,_,rfl,hf,by omega,by decide,by decide,fun many fd hm0 hm1 hf=>?_⟩
  obtain ⟨mn,rfl⟩:=Int.eq_ofNat_of_zero_le hm0
  refine gF ?_
  walk_at "xn"
  refine iG ?_
  refine x_JS (fun m=>∃ (mn:Nat) (fd':List PyData),mn≤200∧m = MSt.mk [some (.imm (.list (ns.map .int))),some (.obj 0),some (.imm (.int (0 + (i:Int)))),some (.imm h.d),some (.imm r.d),some (.imm (.int (mn:Int)))] [fd'] 0∧FeedD (4000 * i + 2440) fd') (fun N J=>?_) ?_
  ·have skip:N (MSt.mk [some (.imm (.list (ns.map .int))),some (.obj 0),some (.imm (.int (0 + (i:Int)))),some (.imm h.d),some (.imm r.d),some (.imm (.int (mn:Int)))] [fd] 0):=J _ ⟨mn,fd,by omega,rfl,hf.mono (by omega)⟩
   walk_at "xs"
   refine ay (fun z=>?_) (fun z=>?_)
   ·walk_at "xs"
    refine ⟨fd,_,_,rfl,hf,by omega,by decide,by decide,fun y fd hy0 hy1 hf=>?_⟩
    walk_at "xx"
    refine ay (fun z=>?_) (fun z=>?_)
    ·walk_at "xs"
     refine ⟨fd,_,_,rfl,hf,by omega,by decide,by decide,fun y2 fd hz0 hz1 hf=>?_⟩
     obtain ⟨yn,rfl⟩:=Int.eq_ofNat_of_zero_le hz0
     walk_at "xx"
     exact J _ ⟨120 + yn,fd,by omega,rfl,hf.mono (by omega)⟩
    ·walk_at "xs"
     exact J _ ⟨mn,fd,by omega,rfl,hf.mono (by omega)⟩
   ·refine bV ?_
    walk_at "xs"
    exact skip
  ·rintro m ⟨mn,fd,hmn,rfl,hf⟩
   walk_at "xs"
   refine ⟨fd,_,h,mn,rfl,ho,hf,by omega,hmn,fun R fd hRl hR hf=>?_⟩
   walk_at "xx"
   refine ⟨h,r,R,rfl,ho,hr0,hR,by omega,?_⟩
   walk_at "xx"
   rw [if_neg (show ¬ (!true) = true by decide)]
   walk_at "xs"
   refine ⟨h,r,[],rfl,ho,hr0,(fun _ z=>by cases z),by decide,?_⟩
   walk_at "xx"
   rw [if_neg (show ¬ (!true) = true by decide)]
   walk_at "xs"
   exact ⟨_,_,_,_,fd,rfl,hf.mono (by omega)⟩
 rintro m n ⟨a,b,c,d,fd,rfl,hf⟩
 walk_at "xs"
 exact k
end
theorem D8 {l:PySem.W.OpenLaw} {w:World} {K:PySem.W.Frag} {h:Heap} {mg:Str→Option Value} {fa:Addr} (X:K.In h) (G:h.Ns mainGlobals mg) (hfa:mg "law" = some (.ref fa)) (dis_less:DefK K "is_less" j4) (dplace_of_lines:DefK K "place_of_lines" de) (dfirst_shortest:DefK K "first_shortest" c7) (dwait_at:DefK K "wait_at" kW) (dfirst_quickest:DefK K "first_quickest" c9) (dsent_to:DefK K "sent_to" jY) (dfirst_stand:DefK K "first_stand" fq) (dwith_more:DefK K "with_more" g9) (dcome_to:DefK K "come_to" kj) (ddone_at:DefK K "done_at" ka) (dnext_shift:DefK K "next_shift" d5) (dsettled:DefK K "settled" j8) (dturn_behind:DefK K "turn_behind" fh) (dline_of:DefK K "line_of" lg) (dmoved_on:DefK K "moved_on" jw) (dcounts_behind:DefK K "counts_behind" du) (daskers_settled:DefK K "askers_settled" bP) (daskers_behind:DefK K "askers_behind" dm) (dfirst_scene:DefK K "first_scene" ft) (dscene_behind:DefK K "scene_behind" dG) (dwalked:DefK K "walked" on) (dcounted:DefK K "counted" kw) (dstays:DefK K "stays" uH) (d_law_feed:DefK K "_law_feed" ii) (d_law_draw:DefK K "_law_draw" h8) (d_law_shuffled:DefK K "_law_shuffled" dn) (d_law_cut:DefK K "_law_cut" jz) (d_law_hall:DefK K "_law_hall" dF) (d_law_all:DefK K "_law_all" gy) (d_law_rule:DefK K "_law_rule" fI) (d_law_sent:DefK K "_law_sent" gH) (d_law_go:DefK K "_law_go" fw) (d_law_world:DefK K "_law_world" dL) (d_law_move:DefK K "_law_move" gI) (d_law_run:DefK K "_law_run" gq) (d_law_due:DefK K "_law_due" iP) (d_law_right:DefK K "_law_right" cB) (dlaw:DefK K "law" slaw) (zlen:PySem.W.nsIn K mainGlobals "len" = some none) (zabs:PySem.W.nsIn K mainGlobals "abs" = some none) (zrange:PySem.W.nsIn K mainGlobals "range" = some none) (zlist:PySem.W.nsIn K mainGlobals "list" = some none) (ztuple:PySem.W.nsIn K mainGlobals "tuple" = some none) (zint:PySem.W.nsIn K mainGlobals "int" = some none) (zsum:PySem.W.nsIn K mainGlobals "sum" = some none) (zzip:PySem.W.nsIn K mainGlobals "zip" = some none) (zmin:PySem.W.nsIn K mainGlobals "min" = some none) (zmax:PySem.W.nsIn K mainGlobals "max" = some none) (zenumerate:PySem.W.nsIn K mainGlobals "enumerate" = some none) (zrepr:PySem.W.nsIn K mainGlobals "repr" = some none)     :
  ∃ fd:FuncData,(∀ (s:Shared) (v:Value),BindsTo s fd ⟨[v],[]⟩ [("_law_script",v)])∧∀ base:Heap,K.In base→base.Ns mainGlobals mg→FnOk l.prog w K mg base CX0 9 fa fd ["_law_script"] (spOf ⟨K,w⟩ 1 v9):=by
 obtain ⟨f,fd,a,F⟩:=dlaw.ex
 have e:=hfa.symm.trans (PySem.W.mg_of X G a)
 cases e
 have T:Bl mg:=⟨PySem.W.mg_none_of X G zlen,PySem.W.mg_none_of X G zabs,PySem.W.mg_none_of X G zrange,PySem.W.mg_none_of X G zlist,PySem.W.mg_none_of X G ztuple,PySem.W.mg_none_of X G zint,PySem.W.mg_none_of X G zsum,PySem.W.mg_none_of X G zzip,PySem.W.mg_none_of X G zmin,PySem.W.mg_none_of X G zmax,PySem.W.mg_none_of X G zenumerate,PySem.W.mg_none_of X G zrepr⟩
 have Dis_less:=dis_less.m (ps:=["one", "other"]) X G fun f fd F=>F.binds fun _ _ _ _ _ _ us hl=>match us,hl with | [_,_],_=>rfl
 have Dplace_of_lines:=dplace_of_lines.m (ps:=["hall", "lines"]) X G fun f fd F=>F.binds fun _ _ _ _ _ _ us hl=>match us,hl with | [_,_],_=>rfl
 have Dfirst_shortest:=dfirst_shortest.m (ps:=["lines", "order"]) X G fun f fd F=>F.binds fun _ _ _ _ _ _ us hl=>match us,hl with | [_,_],_=>rfl
 have Dwait_at:=dwait_at.m (ps:=["hall", "lines", "line"]) X G fun f fd F=>F.binds fun _ _ _ _ _ _ us hl=>match us,hl with | [_,_,_],_=>rfl
 have Dfirst_quickest:=dfirst_quickest.m (ps:=["hall", "lines", "order"]) X G fun f fd F=>F.binds fun _ _ _ _ _ _ us hl=>match us,hl with | [_,_,_],_=>rfl
 have Dsent_to:=dsent_to.m (ps:=["hall", "rule", "stand", "order"]) X G fun f fd F=>F.binds fun _ _ _ _ _ _ us hl=>match us,hl with | [_,_,_,_],_=>rfl
 have Dfirst_stand:=dfirst_stand.m (ps:=["hall"]) X G fun f fd F=>F.binds fun _ _ _ _ _ _ us hl=>match us,hl with | [_],_=>rfl
 have Dwith_more:=dwith_more.m (ps:=["lines", "line", "more"]) X G fun f fd F=>F.binds fun _ _ _ _ _ _ us hl=>match us,hl with | [_,_,_],_=>rfl
 have Dcome_to:=dcome_to.m (ps:=["hall", "lines", "line"]) X G fun f fd F=>F.binds fun _ _ _ _ _ _ us hl=>match us,hl with | [_,_,_],_=>rfl
 have Ddone_at:=ddone_at.m (ps:=["lines", "line"]) X G fun f fd F=>F.binds fun _ _ _ _ _ _ us hl=>match us,hl with | [_,_],_=>rfl
 have Dnext_shift:=dnext_shift.m (ps:=["hall", "lines"]) X G fun f fd F=>F.binds fun _ _ _ _ _ _ us hl=>match us,hl with | [_,_],_=>rfl
 have Dsettled:=dsettled.m (ps:=["hall", "lines"]) X G fun f fd F=>F.binds fun _ _ _ _ _ _ us hl=>match us,hl with | [_,_],_=>rfl
 have Dturn_behind:=dturn_behind.m (ps:=["hall", "rule", "turn"]) X G fun f fd F=>F.binds fun _ _ _ _ _ _ us hl=>match us,hl with | [_,_,_],_=>rfl
 have Dline_of:=dline_of.m (ps:=["hall", "rule", "stand", "move"]) X G fun f fd F=>F.binds fun _ _ _ _ _ _ us hl=>match us,hl with | [_,_,_,_],_=>rfl
 have Dmoved_on:=dmoved_on.m (ps:=["hall", "rule", "stand", "move"]) X G fun f fd F=>F.binds fun _ _ _ _ _ _ us hl=>match us,hl with | [_,_,_,_],_=>rfl
 have Dcounts_behind:=dcounts_behind.m (ps:=["counts", "word"]) X G fun f fd F=>F.binds fun _ _ _ _ _ _ us hl=>match us,hl with | [_,_],_=>rfl
 have Daskers_settled:=daskers_settled.m (ps:=["hall", "askers"]) X G fun f fd F=>F.binds fun _ _ _ _ _ _ us hl=>match us,hl with | [_,_],_=>rfl
 have Daskers_behind:=daskers_behind.m (ps:=["hall", "askers", "line", "word", "number"]) X G fun f fd F=>F.binds fun _ _ _ _ _ _ us hl=>match us,hl with | [_,_,_,_,_],_=>rfl
 have Dfirst_scene:=dfirst_scene.m (ps:=["hall"]) X G fun f fd F=>F.binds fun _ _ _ _ _ _ us hl=>match us,hl with | [_],_=>rfl
 have Dscene_behind:=dscene_behind.m (ps:=["hall", "rule", "scene", "move"]) X G fun f fd F=>F.binds fun _ _ _ _ _ _ us hl=>match us,hl with | [_,_,_,_],_=>rfl
 have Dwalked:=dwalked.m (ps:=["hall", "rule", "run"]) X G fun f fd F=>F.binds fun _ _ _ _ _ _ us hl=>match us,hl with | [_,_,_],_=>rfl
 have Dcounted:=dcounted.m (ps:=["hall", "rule", "run"]) X G fun f fd F=>F.binds fun _ _ _ _ _ _ us hl=>match us,hl with | [_,_,_],_=>rfl
 have Dstays:=dstays.m (ps:=["hall", "rule", "run"]) X G fun f fd F=>F.binds fun _ _ _ _ _ _ us hl=>match us,hl with | [_,_,_],_=>rfl
 have D_law_feed:=d_law_feed.m (ps:=["_law_script"]) X G fun f fd F=>F.binds fun _ _ _ _ _ _ us hl=>match us,hl with | [_],_=>rfl
 have D_law_draw:=d_law_draw.m (ps:=["_law_feed_here", "_law_many"]) X G fun f fd F=>F.binds fun _ _ _ _ _ _ us hl=>match us,hl with | [_,_],_=>rfl
 have D_law_shuffled:=d_law_shuffled.m (ps:=["_law_feed_here", "_law_some"]) X G fun f fd F=>F.binds fun _ _ _ _ _ _ us hl=>match us,hl with | [_,_],_=>rfl
 have D_law_cut:=d_law_cut.m (ps:=["_law_top", "_law_bottom"]) X G fun f fd F=>F.binds fun _ _ _ _ _ _ us hl=>match us,hl with | [_,_],_=>rfl
 have D_law_hall:=d_law_hall.m (ps:=["_law_feed_here", "_law_most"]) X G fun f fd F=>F.binds fun _ _ _ _ _ _ us hl=>match us,hl with | [_,_],_=>rfl
 have D_law_all:=d_law_all.m (ps:=["_law_hall_here"]) X G fun f fd F=>F.binds fun _ _ _ _ _ _ us hl=>match us,hl with | [_],_=>rfl
 have D_law_rule:=d_law_rule.m (ps:=["_law_feed_here", "_law_hall_here"]) X G fun f fd F=>F.binds fun _ _ _ _ _ _ us hl=>match us,hl with | [_,_],_=>rfl
 have D_law_sent:=d_law_sent.m (ps:=["_law_hall_here", "_law_rule_here", "_law_lines", "_law_turn", "_law_order"]) X G fun f fd F=>F.binds fun _ _ _ _ _ _ us hl=>match us,hl with | [_,_,_,_,_],_=>rfl
 have D_law_go:=d_law_go.m (ps:=["_law_hall_here", "_law_rule_here", "_law_world_here", "_law_move_here"]) X G fun f fd F=>F.binds fun _ _ _ _ _ _ us hl=>match us,hl with | [_,_,_,_],_=>rfl
 have D_law_world:=d_law_world.m (ps:=["_law_hall_here"]) X G fun f fd F=>F.binds fun _ _ _ _ _ _ us hl=>match us,hl with | [_],_=>rfl
 have D_law_move:=d_law_move.m (ps:=["_law_feed_here", "_law_hall_here", "_law_way"]) X G fun f fd F=>F.binds fun _ _ _ _ _ _ us hl=>match us,hl with | [_,_,_],_=>rfl
 have D_law_run:=d_law_run.m (ps:=["_law_feed_here", "_law_hall_here", "_law_many"]) X G fun f fd F=>F.binds fun _ _ _ _ _ _ us hl=>match us,hl with | [_,_,_],_=>rfl
 have D_law_due:=d_law_due.m (ps:=["_law_hall_here", "_law_rule_here", "_law_run_here"]) X G fun f fd F=>F.binds fun _ _ _ _ _ _ us hl=>match us,hl with | [_,_,_],_=>rfl
 have D_law_right:=d_law_right.m (ps:=["_law_hall_here", "_law_rule_here", "_law_run_here"]) X G fun f fd F=>F.binds fun _ _ _ _ _ _ us hl=>match us,hl with | [_,_,_],_=>rfl
 refine ⟨fd,fun s v=>?_,fun base _ _=>?_⟩
 ·obtain ⟨oc,od,kV,doc,pm,an,cdv,ct,osl,rfl,lk,hcd⟩:=F.ex
  exact .of_eq rfl
 ·have Gis_less:=qY (P:=l.prog) (w:=w) (base:=base) T Dis_less
  have Gplace_of_lines:=iC (P:=l.prog) (w:=w) (base:=base) T Dplace_of_lines
  have Gfirst_shortest:=iE (P:=l.prog) (w:=w) (base:=base) T Dfirst_shortest
  have Gwait_at:=ug (P:=l.prog) (w:=w) (base:=base) T Dwait_at
  have Gfirst_quickest:=iB (P:=l.prog) (w:=w) (base:=base) T Dfirst_quickest Gwait_at Gis_less
  have Gsent_to:=um (P:=l.prog) (w:=w) (base:=base) T Dsent_to Gfirst_shortest Gfirst_quickest Gplace_of_lines
  have Gfirst_stand:=kl (P:=l.prog) (w:=w) (base:=base) T Dfirst_stand
  have Gwith_more:=mR (P:=l.prog) (w:=w) (base:=base) T Dwith_more
  have Gcome_to:=qZ (P:=l.prog) (w:=w) (base:=base) T Dcome_to Gwith_more
  have Gdone_at:=q9 (P:=l.prog) (w:=w) (base:=base) T Ddone_at Gwith_more
  have Gnext_shift:=ly (P:=l.prog) (w:=w) (base:=base) T Dnext_shift
  have Gnext_shift_vL:=jq (P:=l.prog) (w:=w) (base:=base) T Dnext_shift
  have Gsettled:=ue (P:=l.prog) (w:=w) (base:=base) T Dsettled Gnext_shift Gwith_more
  have Gturn_behind:=j3 (P:=l.prog) (w:=w) (base:=base) T Dturn_behind
  have Gline_of:=tX (P:=l.prog) (w:=w) (base:=base) T Dline_of Gsent_to
  have Gmoved_on:=qv (P:=l.prog) (w:=w) (base:=base) T Dmoved_on Gline_of Gcome_to Gturn_behind Gdone_at Gsettled
  have Gcounts_behind:=je (P:=l.prog) (w:=w) (base:=base) T Dcounts_behind
  have Gaskers_settled:=iz (P:=l.prog) (w:=w) (base:=base) T Daskers_settled Gnext_shift_vL
  have Gaskers_behind:=iU (P:=l.prog) (w:=w) (base:=base) T Daskers_behind Gaskers_settled
  have Gfirst_scene:=kM (P:=l.prog) (w:=w) (base:=base) T Dfirst_scene Gfirst_stand
  have Gscene_behind:=jD (P:=l.prog) (w:=w) (base:=base) T Dscene_behind Gline_of Gmoved_on Gaskers_behind Gcounts_behind
  have Gwalked:=vv (P:=l.prog) (w:=w) (base:=base) T Dwalked Gfirst_stand Gmoved_on
  have Gcounted:=ut (P:=l.prog) (w:=w) (base:=base) T Dcounted Gfirst_stand Gmoved_on Gcounts_behind
  have Gstays:=yl (P:=l.prog) (w:=w) (base:=base) T Dstays Gfirst_scene Gscene_behind
  have G_law_feed:=m9 (P:=l.prog) (w:=w) (base:=base) T D_law_feed
  have G_law_draw:=oj (P:=l.prog) (w:=w) (base:=base) T D_law_draw
  have G_law_shuffled:=jo (P:=l.prog) (w:=w) (base:=base) T D_law_shuffled G_law_draw
  have G_law_cut:=qq (P:=l.prog) (w:=w) (base:=base) T D_law_cut
  have G_law_hall:=mY (P:=l.prog) (w:=w) (base:=base) T D_law_hall G_law_draw G_law_cut
  have G_law_all:=qy (P:=l.prog) (w:=w) (base:=base) T D_law_all
  have G_law_rule:=nR (P:=l.prog) (w:=w) (base:=base) T D_law_rule G_law_draw G_law_all
  have G_law_sent:=oi (P:=l.prog) (w:=w) (base:=base) T D_law_sent G_law_all G_law_cut
  have G_law_go:=sD (P:=l.prog) (w:=w) (base:=base) T D_law_go G_law_sent
  have G_law_world:=mz (P:=l.prog) (w:=w) (base:=base) T D_law_world
  have G_law_move:=og (P:=l.prog) (w:=w) (base:=base) T D_law_move G_law_draw G_law_shuffled
  have G_law_run:=qJ (P:=l.prog) (w:=w) (base:=base) T D_law_run G_law_draw G_law_move
  have G_law_due:=qw (P:=l.prog) (w:=w) (base:=base) T D_law_due G_law_world G_law_go
  have G_law_right:=mL (P:=l.prog) (w:=w) (base:=base) T D_law_right Gstays G_law_due Gwalked Gcounted
  exact FZ T F G_law_feed G_law_hall G_law_rule G_law_draw G_law_run G_law_right
theorem walk {l:PySem.W.OpenLaw} {q:Program} {loose:List Str} {XP:(Str→Option Value)→Heap→Prop} {YP:World→Heap→Prop} {d:DefRec} {K:Params→PySem.W.Frag} (hq:PyProof.Rows.importsNone q = true) (hn:l.most = some 63) (hdf:d.params.defaults = [])
  (hY:∀ (w:World) (h:Heap),YP w h→(K w.params).In h)
  (F:∀ (w:World) (mg:Str→Option Value) (fa:Addr) (h:Heap),(K w.params).In h→h.Ns mainGlobals mg→mg d.name = some (.ref fa) →
   ∃ fd:FuncData,(∀ (s:Shared) (u:Value),BindsTo s fd ⟨[u],[]⟩ [("_law_script",u)])∧∀ base:Heap,(K w.params).In base→base.Ns mainGlobals mg→FnOk l.prog w (K w.params) mg base CX0 9 fa fd ["_law_script"] (spOf ⟨K w.params,w⟩ 1 v9)) :
  PySem.W.WalkO q loose XP YP l.row.toRowW d [] (fun f vs=>PySem.call f vs) :=
 L2.yp (n:=63) (k:=9) (x := "_law_script") (CX:=fun _=>CX0) (sp:=fun w=>spOf ⟨K w.params,w⟩ 1 v9) hq hn (by decide) hdf ⟨rfl,by decide,by decide,rfl⟩ hY F
  (fun w H a ns hl hO hS=>⟨[.imm (.list (ns.map .int))],[],fun r _=>r = .imm (.bool true),rfl,List.nodup_nil,.imm (qE hO hS) .nil,⟨ns,rfl,hl,rfl⟩,fun r outs v H' k _ rr _=>by cases k; exact iZ (show Den ⟨K w.params,w⟩ H' (.bool true) v from rr)⟩) fun _ _ _ _ _ z=>z
end K
namespace PySem.W.Fast
def tw6544712078671144058:=0
def tw7320514084795719636:=0
def tw5448173954007418928:=0
def tw16645926782031900643:=0
def tw14737611270235055819:=0
def tw17348301117701084249:=0
def tw12231842251910869483:=0
def tw4277023772093829247:=0
def tw10465994714014507840:=0
def tw14810084967744038824:=0
def tw14599933915390002172:=0
def tw10465173676705952918:=0
def tw18209325228701442727:=0
def tw15903494820611681585:=0
def tw14434088767524500245:=0
def tw16871384009371143817:=0
def tw6488255645098774028:=0
def tw8350457301747891699:=0
def tw5706133067022298220:=0
def tw10713643460441345430:=0
def tw12829642664230981031:=0
def tw7285648608460888289:=0
def tw15518129390213425934:=0
def tw11447997842736021252:=0
def tw11703116239872219987:=0
def tw8406987149270091078:=0
def tw11415630258262404572:=0
def tw5232053659528431187:=0
def tw12151220658576308786:=0
def tw6027194677905869308:=0
def tw7876575279397987474:=0
def tw9736094881013144281:=0
def tw15741877900679629471:=0
def tw610996099073332580:=0
def tw418837490289151366:=0
def tw6553984597135263185:=0
def tw3357842111446645957:=0
def tw16366387729515561039:=0
def tw11648859318010181733:=0
def tw13821800069719792413:=0
def tw4967443932971290561:=0
def tw9751781561042167698:=0
def tw15915379376601278565:=0
def tw14415182262586474366:=0
def tw11900461771750602073:=0
def tw4939176331687514023:=0
def tw8654281894010728398:=0
def tw17211448048025999023:=0
def tw9023771955168486120:=0
def tw9815250856996409755:=0
def tw13095834078050424648:=0
def tw5231669242771223005:=0
def tw670340272360626108:=0
def tw12277694512075842555:=0
def tw631311979333323599:=0
def tw6695943432152103105:=0
def tw1829420180439950189:=0
def tw16978936190280792027:=0
def tw4595004418236780463:=0
def tw16247662068357870955:=0
def tw8213109760027590626:=0
def tw4990587528304799895:=0
def tw9937072502751550614:=0
def tw15362153390954701324:=0
def tw9024869388510886701:=0
def tw4796126032561390670:=0
def tw5858337245920314006:=0
def tw8513314054489390536:=0
def tw10179191250221633275:=0
def tw2725174195464757190:=0
def tw12735745200950602359:=0
def tw13926435371401138191:=0
def tw1150646092276160235:=0
def tw3825114602309446594:=0
def tw154806549748216515:=0
def tw4255937418231068642:=0
def tw18043975830106532273:=0
def tw17853199294095516077:=0
def tw11024615980343703354:=0
def tw2855518732571573814:=0
def tw15568240936988213359:=0
def tw6324792632753505951:=0
def tw7289565612448840912:=0
def tw5456112582809000852:=0
def tw15433941221121598027:=0
def tw18010712271034726217:=0
def tw2730107432166886226:=0
def tw16859073806581687557:=0
def tw9430799430140917080:=0
def tw13579142205049360867:=0
def tw8509162783436724222:=0
def tw5732575928028071239:=0
def tw5041147830956895574:=0
def tw16912328400664270430:=0
def tw2383238020183781325:=0
def tw12683969583655000988:=0
def tw16405265861551517807:=0
end PySem.W.Fast
open PySem PySem.W PyProof.Rows
local macro_rules | `(tactic| walk_at "dk") => `(tactic| (refine' L2.DefK.of ?a ?l ?c ?k; (case a => k_is); (case l => k_is); (case c => k_is); (case k => k_is)))
set_option maxRecDepth 100000 in
set_option maxHeartbeats 0 in
theorem PySem.Challenge.cw_shorterline_k13_how_long_each_stayed_holds : PySem.Challenge.rw_shorterline_k13_how_long_each_stayed.Holds := by
 w_on; o_law; k_head; (case hw=>w_witness2)
 k_fill
 refine K.walk (l:=PySem.Challenge.rw_shorterline_k13_how_long_each_stayed) ?hq rfl rfl (fun w h Y=>PySem.W.kIn_of Y) ?F
 case hq=>kernel_rfl
 case F =>
  intro w mg fa h KX G hmg
  refine' K.D8 KX G hmg ?dis_less ?dplace_of_lines ?dfirst_shortest ?dwait_at ?dfirst_quickest ?dsent_to ?dfirst_stand ?dwith_more ?dcome_to ?ddone_at ?dnext_shift ?dsettled ?dturn_behind ?dline_of ?dmoved_on ?dcounts_behind ?daskers_settled ?daskers_behind ?dfirst_scene ?dscene_behind ?dwalked ?dcounted ?dstays ?d_law_feed ?d_law_draw ?d_law_shuffled ?d_law_cut ?d_law_hall ?d_law_all ?d_law_rule ?d_law_sent ?d_law_go ?d_law_world ?d_law_move ?d_law_run ?d_law_due ?d_law_right ?dlaw ?zlen ?zabs ?zrange ?zlist ?ztuple ?zint ?zsum ?zzip ?zmin ?zmax ?zenumerate ?zrepr
  (case dis_less=>walk_at "dk")
  (case dplace_of_lines=>walk_at "dk")
  (case dfirst_shortest=>walk_at "dk")
  (case dwait_at=>walk_at "dk")
  (case dfirst_quickest=>walk_at "dk")
  (case dsent_to=>walk_at "dk")
  (case dfirst_stand=>walk_at "dk")
  (case dwith_more=>walk_at "dk")
  (case dcome_to=>walk_at "dk")
  (case ddone_at=>walk_at "dk")
  (case dnext_shift=>walk_at "dk")
  (case dsettled=>walk_at "dk")
  (case dturn_behind=>walk_at "dk")
  (case dline_of=>walk_at "dk")
  (case dmoved_on=>walk_at "dk")
  (case dcounts_behind=>walk_at "dk")
  (case daskers_settled=>walk_at "dk")
  (case daskers_behind=>walk_at "dk")
  (case dfirst_scene=>walk_at "dk")
  (case dscene_behind=>walk_at "dk")
  (case dwalked=>walk_at "dk")
  (case dcounted=>walk_at "dk")
  (case dstays=>walk_at "dk")
  (case d_law_feed=>walk_at "dk")
  (case d_law_draw=>walk_at "dk")
  (case d_law_shuffled=>walk_at "dk")
  (case d_law_cut=>walk_at "dk")
  (case d_law_hall=>walk_at "dk")
  (case d_law_all=>walk_at "dk")
  (case d_law_rule=>walk_at "dk")
  (case d_law_sent=>walk_at "dk")
  (case d_law_go=>walk_at "dk")
  (case d_law_world=>walk_at "dk")
  (case d_law_move=>walk_at "dk")
  (case d_law_run=>walk_at "dk")
  (case d_law_due=>walk_at "dk")
  (case d_law_right=>walk_at "dk")
  (case dlaw=>walk_at "dk")
  (case zlen=>k_is)
  (case zabs=>k_is)
  (case zrange=>k_is)
  (case zlist=>k_is)
  (case ztuple=>k_is)
  (case zint=>k_is)
  (case zsum=>k_is)
  (case zzip=>k_is)
  (case zmin=>k_is)
  (case zmax=>k_is)
  (case zenumerate=>k_is)
  (case zrepr=>k_is)