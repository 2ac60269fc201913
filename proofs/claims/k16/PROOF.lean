import PyProof.Rows.All
import Wide.All
import OpenK.AllK
import Wide.FinOn
import Lean
import PyProof.EqAt
import PyProof.EqKinds
import PyProof.TupleCall
import KE.KRevIter
import PyProof.FactsAll.range
import PyProof.P3In
import PyProof.ZipIter
import PyProof.TupleIter
import PyProof.WalkInts
import PyProof.SeqI3
import PyProof.EnumFor
import PyProof.EnumMake
import PyProof.ListMulRoad
import PyProof.AutoListH
import PyProof.Rows.SortRev
import PyProof.SumWalkG
import PyProof.StrWalks
import PyProof.StrCalls2
import PyProof.StrLawsTight
import KE.KIntText
import PyProof.StrBlockG
import PyProof.Rows.StrItems
import PyProof.SliceStr2
import PyProof.StrBlockI
import PyProof.Rows.IntBool
import PyProof.StrOps2
import PyProof.ListStr
import PyProof.DictRoadsH
import PyProof.Rows.TupTab
import PyProof.P3Eq
import PyProof.StationsW
import PyProof.RulesAs
import OpenK.KOwn
import KE.KTryMore
import PyProof.NsDelKeeps
import PyProof.ExcArgsOwn
import PyProof.ExcInit
import PyProof.InstStoreFacts
import PyProof.ListRange
import PyProof.TupleOfStr
import PyProof.CollectIter
import PyProof.DictItems
import PyProof.DictWalks
import PyProof.Rows.FStr
import PyProof.FString
import PyProof.FactsAll.tuple
import KE.KSortTup
import PyProof.CollectWalk
import KE.KDictOf
import PyProof.AttrMissHeap
import PySem.Challenge.RW_shorterline_k16_whole_servers_turned_abo
set_option Elab.async false
set_option linter.all false
set_option maxRecDepth 100000
namespace L2
open PySem PySem.Spec PyProof.Rows
variable{us:List Value}{H:Hp}{a:Addr}{o:HO}{h:Heap}{P:Program}{w:World}{g':Array GenState}{i j k t':Nat}{ch fp:List Addr}{N ps:List Str}{x:Str}{M:Model}{A:Around}{E Q:Value -> Shared -> Prop}{u:Value}{X:Cx}{c e tg:Expr}{pos:Pos}{pins:List (Addr × Obj)}{σ:St}{K:PySem.W.Frag}{es:List Expr}{body:List Stmt}{f:Value -> Value -> Sem Value}{r:R2}{g:Int -> Int -> Int}{op:CmpOp}{mg:Str -> Option Value}{scope:Scope}
abbrev Key :=Sum Int Str
def keyIs:Key -> Value -> Bool
 | .inl k, v => Value.isInt k v
 | .inr x, v => Value.isStrOf x v
def keyH(w:World):Key -> Int
 | .inl k => hashInt k
 | .inr x => hashStr w x
theorem keyIs_shape:∀{k:Key}{v:Value}, keyIs k v=true -> (∃i t, k=Sum.inl i /\ v=Value.int i t) \/ (∃x t, k=Sum.inr x /\ v=Value.str x t)
 | .inl i, v, h => by
  obtain⟨t, e⟩ :=Value.isInt_shape (k :=i) (v :=v) h;exact .inl ⟨i, t, rfl, e⟩
 | .inr x, v, h => by
  obtain⟨t, e⟩ :=Value.isStrOf_shape (x :=x) (v :=v) h;exact .inr ⟨x, t, rfl, e⟩
theorem keyIs_int(i:Int)(t:Tok):keyIs (.inl i) (.int i t)=true :=by simp[keyIs, Value.isInt]
theorem keyIs_str(x:Str)(t:Tok):keyIs (.inr x) (.str x t)=true :=by simp[keyIs, Value.isStrOf]
theorem key_ll(a b:Int):decide ((Sum.inl a:Key)=Sum.inl b)=(a==b) :=by
 by_cases e:a=b
 .subst e;simp
 .have h:¬(Sum.inl a:Key)=Sum.inl b :=fun q => e (Sum.inl.inj q);rw[decide_eq_false h];exact(beq_eq_false_iff_ne.mpr e).symm
theorem key_rr(a b:Str):decide ((Sum.inr a:Key)=Sum.inr b)=decide (a=b) :=by
 by_cases e:a=b
 .subst e;simp
 .have h:¬(Sum.inr a:Key)=Sum.inr b :=fun q => e (Sum.inr.inj q);rw[decide_eq_false h, decide_eq_false e]
theorem key_lr(a:Int)(b:Str):decide ((Sum.inl a:Key)=Sum.inr b)=false :=decide_eq_false (fun q => nomatch q)
theorem key_rl(a:Str)(b:Int):decide ((Sum.inr a:Key)=Sum.inl b)=false :=decide_eq_false (fun q => nomatch q)
def mixKind(prog:Program)(w:World):PySem.KeyKind prog w Key where
 is :=keyIs
 hash :=keyH w
 inj :=fun v a b ha hb => by
  rcases keyIs_shape ha with⟨i, t, rfl, rfl⟩|⟨x, t, rfl, rfl⟩
  .rcases keyIs_shape hb with⟨j, u, rfl, e⟩|⟨y, u, rfl, e⟩
   .injection e with e1 _;rw[e1]
   .exact nomatch e
  .rcases keyIs_shape hb with⟨j, u, rfl, e⟩|⟨y, u, rfl, e⟩
   .exact nomatch e
   .injection e with e1 _;rw[e1]
 byValue :=fun k v h => by
  rcases keyIs_shape h with⟨i, t, rfl, rfl⟩|⟨x, t, rfl, rfl⟩<;>rfl
 pyHash :=fun hv h => by
  rcases keyIs_shape hv with⟨i, t, rfl, rfl⟩|⟨x, t, rfl, rfl⟩
  .exact wpAny_pyHash_int h
  .exact wpAny_pyHash_str h
 eqBool :=fun hu hv h => by
  rcases keyIs_shape hu with⟨i, t, rfl, rfl⟩|⟨x, t, rfl, rfl⟩
  .rcases keyIs_shape hv with⟨j, u, rfl, rfl⟩|⟨y, u, rfl, rfl⟩
   .rw[key_ll]at h;exact wpAny_eqBool_int h
   .rw[key_lr]at h;exact SeqAt.EqAt.int_str i t y u _ _ _ _ h
  .rcases keyIs_shape hv with⟨j, u, rfl, rfl⟩|⟨y, u, rfl, rfl⟩
   .rw[key_rl]at h;exact SeqAt.EqAt.str_int x t j u _ _ _ _ h
   .rw[key_rr]at h;exact wpAny_eqBool_str h
 «strs» :=fun k x t v h => by
  rcases keyIs_shape h with⟨i, u, rfl, e⟩|⟨y, u, rfl, e⟩
  .exact nomatch e
  .injection e with e1 _
   subst e1
   cases v<;>rfl
theorem mixKind_int(prog:Program)(w:World)(i:Int)(t:Tok):(mixKind prog w).is (.inl i) (.int i t)=true :=keyIs_int i t
theorem mixKind_str(prog:Program)(w:World)(x:Str)(t:Tok):(mixKind prog w).is (.inr x) (.str x t)=true :=keyIs_str x t
inductive V where
 |non|bl (b:Bool)|int (i:Int)|str (x:Str)|byt (b:Array UInt8)|flt (b:UInt64)|ref (a:Addr)|ty (n:String)
 deriving DecidableEq
def RelV:V -> Value -> Prop
 | .non, u => u=Value.none
 | .bl b, u => u=Value.bool b
 | .int i, u => ∃t, u=Value.int i t
 | .str x, u => ∃t, u=Value.str x t
 | .byt b, u => ∃t, u=Value.bytes b t
 | .flt b, u => ∃t, u=Value.float b t
 | .ref a, u => u=Value.ref a
 | .ty n, u => u=Value.type n
abbrev Vals:List V -> List Value -> Prop :=Paired RelV
theorem Vals.length{xs:List V}(r:Vals xs us):xs.length=us.length :=Paired.length r
theorem Vals.get:∀{xs:List V}{us:List Value}{i:Nat}{x:V}, Vals xs us -> xs[i]?=some x -> ∃u, us[i]?=some u /\ RelV x u
 |_, _, _, _, .nil, e => by simp at e
 |_, _, 0, _, .cons r _, e => by simp at e;subst e;exact⟨_, rfl, r⟩
 |_, _, i+1, x, .cons _ t, e => by
  obtain⟨u, h1, h2⟩ :=Vals.get (i :=i) (x :=x) t (by simpa using e);exact⟨u, by simpa using h1, h2⟩
theorem Vals.set{x:V}{u:Value}(r:RelV x u):∀{xs:List V}{us:List Value} (i:Nat), Vals xs us -> Vals (xs.set i x) (us.set i u)
 |_, _, _, .nil => .nil
 |_, _, 0, .cons _ t => .cons r t
 |_, _, i+1, .cons q t => .cons q (Vals.set r i t)
theorem Vals.append:∀{xs ys:List V}{us ws:List Value}, Vals xs us -> Vals ys ws -> Vals (xs ++ ys) (us ++ ws)
 |_, _, _, _, .nil, s => s
 |_, _, _, _, .cons r t, s => .cons r (Vals.append t s)
theorem Vals.take:∀{xs:List V}{us:List Value} (n:Nat), Vals xs us -> Vals (xs.take n) (us.take n)
 |_, _, 0, _ => .nil
 |_, _, _+1, .nil => .nil
 |_, _, n+1, .cons r t => .cons r (Vals.take n t)
theorem Vals.drop:∀{xs:List V}{us:List Value} (n:Nat), Vals xs us -> Vals (xs.drop n) (us.drop n)
 |_, _, 0, r => r
 |_, _, _+1, .nil => .nil
 |_, _, n+1, .cons _ t => Vals.drop n t
def RelO:Option V -> Option Value -> Prop
 |some v, some u => RelV v u
 |none, none => True
 |_, _ => False
def KV{κ:Type}:List (κ × V) -> List (κ × Value) -> Prop :=Paired fun(p:κ × V) (q:κ × Value) => p.1=q.1 /\ RelV p.2 q.2
def kV:Key -> V
 | .inl i => .int i
 | .inr x => .str x
inductive HO where
 |lst (xs:List V)
 |tup (xs:List V)
 |dK (kvs:List (Key × V))|dT (kvs:List (List Key × V))
 |set (S:Int -> Bool) (n:Nat)
 |ins (C dx:Addr) (fs:List (Str × V))
 |own (x:Addr)
 |xd (fs:List (Str × V))
 |met (f x:Addr)
 |rng (lo hi:Int)
 |frz (o:Obj) (u:HO)
 |tbl (ps:Array Value)
 |ext (φ:Heap -> Prop)
abbrev Hp :=Addr -> Option HO
def upd(H:Hp)(a:Addr)(o:HO):Hp :=fun b => if b=a then some o else H b
theorem upd_same:upd H a o a=some o :=by unfold upd;rw[if_pos rfl]
theorem upd_ne{b:Addr}(h:b ≠ a):upd H a o b=H b :=by unfold upd;rw[if_neg h]
theorem ne_of{b:Addr}{u:HO}(h:H a=some o)(h':H b=some u)(d:o ≠ u):a ≠ b :=by
 intro e;subst e;rw[h]at h';exact d (Option.some.inj h')
theorem ne_of_none{b:Addr}(h:H a=some o)(h':H b=none):a ≠ b :=by
 intro e;subst e;rw[h]at h';cases h'
def PlainT(h:Heap)(a:Addr)(items:Array Value):Prop :=∃o, h.get? a=some o /\ o.cls = .type "tuple" /\ o.dict=none /\ ∃n, o.data = .seq items n
theorem PlainT.tup{items:Array Value}(x:PlainT h a items):IsTup h a items :=let ⟨o, e, c, _, d⟩ :=x;⟨o, e, c, d⟩
theorem PlainT.new(h:Heap)(items:Array Value):PlainT (h.push {cls :=.type "tuple", data :=.seq items}) h.objs.size items :=⟨_, Heap.get?_push_size _ rfl, rfl, rfl, _, rfl⟩
section
variable (P:Program) (w:World)
def ObjOk(H:Hp)(h:Heap)(a:Addr):HO -> Prop
 | .lst xs => xs.length ≤ sizeLine /\ ∃(its:List Value) (n:Nat), Vals xs its /\ h.get? a=some {cls :=.type "list", data :=.seq its.toArray n}
 | .tup xs => xs.length ≤ sizeLine /\ ∃its:List Value, Vals xs its /\ PlainT h a its.toArray
 | .dK kvs => kvs.length ≤ sizeLine /\ (a==sysModules)=false /\ ∃vs, KV kvs vs /\ h.DictOf (mixKind P w) a vs
 | .dT kvs => kvs.length ≤ sizeLine /\ (a==sysModules)=false /\ ∃xs:List (List Key × Addr × Value),
   Paired (fun(p:List Key × V) (q:List Key × Addr × Value) => p.1=q.1 /\ H q.2.1=some (.tup (p.1.map kV)) /\ RelV p.2 q.2.2) kvs xs /\
   ∃o es ep, h.get? a=some o /\ o.ExactDict /\ o.data = .dict es ep /\ es.toList=xs.map (entryOfKey (tupleKind (mixKind P w))) /\ (xs.map (·.1)).Nodup
 | .set S n => h.SetOf (intKind P w) a S n
 | .ins C dx fs => H dx=some (.own a) /\ fs.length ≤ 1000 /\ dx ≠ a /\ h.get? a=some (PySem.W.instObj C dx) /\
   ∃mA, h.Ns1 dx mA /\ (∀f, RelO (fs.lookup f) (mA f)) /\ PySem.Within mA (fs.map (·.1))
 | .own _ => ∃o, h.get? a=some o
 | .xd fs => ∃mA, h.Ns1 a mA /\ ∀f, RelO (fs.lookup f) (mA f)
 | .rng lo hi => ∃t u v, h.get? a=some {cls :=.type "range", data :=.fields #[.int lo t, .int hi u, .int 1 v]}
 | .frz o u => h.get? a=some o /\ ObjOk H h a u
 | .tbl ps => h.get? a=some {cls :=.none, data :=.fields ps}
 | .met f x => h.get? a=some (PySem.W.methodObj (.ref f) (.ref x))
 | .ext φ => φ h /\ (∃o, h.get? a=some o) /\ ∀h1 h2:Heap, φ h1 -> (∀o, h1.get? a=some o -> h2.get? a=some o) -> φ h2
def HOk(H:Hp)(h:Heap):Prop :=∀a o, H a=some o -> ObjOk P w H h a o
end
section
variable {P:Program}{w:World}{H H':Hp}{h h':Heap}{a:Addr}{o:HO}
theorem ObjOk.lt(x:ObjOk P w H h a o):a<h.objs.size :=by
 cases o with
 |lst xs => obtain⟨_, _, _, _, e⟩ :=x;exact Heap.lt_size e
 |tup xs => obtain⟨_, _, _, p⟩ :=x;exact p.tup.lt
 |dK kvs => obtain⟨_, _, _, _, o, _, _, e, _⟩ :=x;exact Heap.lt_size e
 |dT kvs => obtain⟨_, _, _, _, o, _, _, e, _⟩ :=x;exact Heap.lt_size e
 |set S n => obtain⟨o, _, _, _, e, _⟩ :=x;exact Heap.lt_size e
 |ins C dx fs => obtain⟨_, _, _, e, _⟩ :=x;exact Heap.lt_size e
 |own y => obtain⟨_, e⟩ :=x;exact Heap.lt_size e
 |xd fs => obtain⟨_, ⟨_, _, _, e, _⟩, _⟩ :=x;exact Heap.lt_size e
 |rng lo hi => obtain⟨_, _, _, e⟩ :=x;exact Heap.lt_size e
 |frz ob u => obtain⟨e, _⟩ :=x;exact Heap.lt_size e
 |tbl ps => exact Heap.lt_size (show h.get? a=some _ from x)
 |met f y => exact Heap.lt_size (show h.get? a=some _ from x)
 |ext φ => obtain⟨_, ⟨_, e⟩, _⟩ :=x;exact Heap.lt_size e
theorem Paired.mapP{α β:Type}{F G:α -> β -> Prop}:∀{l₁:List α}{l₂:List β}, Paired F l₁ l₂ -> (∀a b, F a b -> G a b) -> Paired G l₁ l₂
 |_, _, .nil, _ => .nil
 |_, _, .cons r t, f => .cons (f _ _ r) (Paired.mapP t f)
theorem ObjOk.stay(x:ObjOk P w H h a o)(k:∀b u, (b=a \/ H b=some (.own a)) -> h.get? b=some u -> h'.get? b=some u)
  (ho:∀b, H b=some (.own a) -> H' b=some (.own a)) (ht:∀b xs, H b=some (.tup xs) -> H' b=some (.tup xs)):ObjOk P w H' h' a o :=by
 induction o with
 |lst xs => obtain⟨z, its, n, r, e⟩ :=x;exact⟨z, its, n, r, k _ _ (.inl rfl) e⟩
 |tup xs => obtain⟨z, its, r, ob, e, c⟩ :=x;exact⟨z, its, r, ob, k _ _ (.inl rfl) e, c⟩
 |dK kvs => obtain⟨z, y, vs, r, ob, es, ep, e, c⟩ :=x;exact⟨z, y, vs, r, ob, es, ep, k _ _ (.inl rfl) e, c⟩
 |dT kvs =>
  obtain⟨z, y, xs, r, ob, es, ep, e, c⟩ :=x;exact⟨z, y, xs, Paired.mapP r fun p q z => ⟨z.1, ht _ _ z.2.1, z.2.2⟩, ob, es, ep, k _ _ (.inl rfl) e, c⟩
 |set S n => obtain⟨ob, es, ep, t, e, c⟩ :=x;exact⟨ob, es, ep, t, k _ _ (.inl rfl) e, c⟩
 |ins C dx fs =>
  obtain⟨d, z, ne, e, mA, ⟨od, es, ep, e2, c⟩, r⟩ :=x;exact⟨ho _ d, z, ne, k _ _ (.inl rfl) e, mA, ⟨od, es, ep, k _ _ (.inr d) e2, c⟩, r⟩
 |own y => obtain⟨ob, e⟩ :=x;exact⟨ob, k _ _ (.inl rfl) e⟩
 |xd fs => obtain⟨mA, ⟨od, es, ep, e, c⟩, r⟩ :=x;exact⟨mA, ⟨od, es, ep, k _ _ (.inl rfl) e, c⟩, r⟩
 |rng lo hi => obtain⟨t, u, v, e⟩ :=x;exact⟨t, u, v, k _ _ (.inl rfl) e⟩
 |frz ob u ih => obtain⟨e, q⟩ :=x;exact⟨k _ _ (.inl rfl) e, ih q⟩
 |tbl ps =>
  have e:h.get? a=some {cls :=.none, data :=.fields ps} :=x;show h'.get? a=some {cls :=.none, data :=.fields ps};exact k a _ (.inl rfl) e
 |met f y =>
  have e:h.get? a=some (PySem.W.methodObj (.ref f) (.ref y)) :=x;show h'.get? a=some (PySem.W.methodObj (.ref f) (.ref y));exact k a _ (.inl rfl) e
 |ext φ => obtain⟨p, ⟨o, e⟩, st⟩ :=x;exact⟨st _ _ p fun o q => k _ _ (.inl rfl) q, ⟨o, k _ _ (.inl rfl) e⟩, st⟩
theorem HOk.lt(x:HOk P w H h)(e:H a=some o):a<h.objs.size :=(x a o e).lt
theorem HOk.fresh(x:HOk P w H h)(e:h.objs.size ≤ a):H a=none :=by
 cases q:H a with
 |none => rfl
 |some u => exact absurd (Nat.lt_of_lt_of_le (x.lt q) e) (Nat.lt_irrefl _)
theorem HOk.kept(x:HOk P w H h)(k:∀b u, h.get? b=some u -> h'.get? b=some u):HOk P w H h' :=fun a o e =>
 (x a o e).stay (fun b u _ q => k b u q) (fun _ q => q) fun _ _ q => q
theorem HOk.laid(x:HOk P w H h)(k:∀b u, h.get? b=some u -> h'.get? b=some u)(hp:h.objs.size ≤ a)(new:ObjOk P w (upd H a o) h' a o):HOk P w (upd H a o) h' :=fun b u e => by
 have hn :=x.fresh hp
 by_cases hb:b=a
 .subst hb;rw[upd_same]at e;cases e;exact new
 .rw[upd_ne hb]at e;exact(x b u e).stay (fun c v _ q => k c v q) (fun c q => by rw[upd_ne (ne_of_none q hn)];exact q) fun c xs q => by rw[upd_ne (ne_of_none q hn)];exact q
end
def Rd(H:Hp)(a:Addr)(u:HO):Prop :=H a=some u \/ ∃o, H a=some (.frz o u)
theorem Rd.ok{u:HO}(r:Rd H a u)(x:HOk P w H h):ObjOk P w H h a u :=by
 rcases r with r|⟨o, r⟩
 .exact x a u r
 .obtain⟨_, q⟩ :=x a _ r;exact q
def Mut:Option HO -> Prop
 |some (.lst _) => True
 |some (.dK _) => True
 |some (.dT _) => True
 |some (.set _ _) => True
 |some (.ins _ _ _) => True
 |some (.ext _) => True
 |_ => False
section
variable {P:Program}{w:World}{H:Hp}{h h':Heap}{x e:Addr}{o':HO}
theorem HOk.write(ok:HOk P w H h)(mu:Mut (H x))(he:e=x \/ H e=some (.own x))(k:∀b u, b ≠ e -> h.get? b=some u -> h'.get? b=some u)(heo:∃u, h'.get? e=some u)
  (new:ObjOk P w (upd H x o') h' x o'):HOk P w (upd H x o') h' :=fun b u q => by
 have nown:∀c y, H c=some (.own y) -> c ≠ x :=fun c y r z => by subst z;rw[r]at mu;exact mu
 have ntup:∀c xs, H c=some (.tup xs) -> c ≠ x :=fun c xs r z => by subst z;rw[r]at mu;exact mu
 by_cases hb:b=x
 .subst hb;rw[upd_same]at q;cases q;exact new
 .rw[upd_ne hb]at q
  by_cases hbe:b=e
  .have q':H b=some (.own x) :=by
    rcases he with z|z
    .exact absurd (hbe.trans z) hb
    .rw[hbe];exact z
   rw[q]at q';cases q';obtain⟨v, hv⟩ :=heo;exact⟨v, by rw[hbe];exact hv⟩
  .refine(ok b u q).stay (fun c v hc r => k c v ?_ r) (fun c r => by rw[upd_ne (nown c b r)];exact r) fun c xs r => by rw[upd_ne (ntup c xs r)];exact r
   rcases hc with rfl|hc
   .exact hbe
   .rintro rfl;rcases he with z|z
    .exact nown c b hc z
    .rw[hc]at z;cases z;exact hb rfl
end
structure Un(fs ex:List Addr)(H H':Hp)(h h':Heap):Prop where
 keep:∀b o, h.get? b=some o -> H b=none -> b ∉ fs -> b ∉ ex -> h'.get? b=some o
 slot:∀b o, h.get? b=some o -> H b=none -> b ∈ fs -> b ∉ ex -> ∃sl, h'.get? b=some {o with slots :=sl}
 free:∀b o, h.get? b=some o -> H b=none -> b ∉ ex -> H' b=none
 there:∀b o, h.get? b=some o -> b ∉ ex -> ∃o', h'.get? b=some o'
 tups:∀b xs, H b=some (.tup xs) -> H' b=some (.tup xs)
 frzs:∀b o u, H b=some (.frz o u) -> H' b=some (.frz o u)
 tbls:∀b ps, H b=some (.tbl ps) -> ∃more, H' b=some (.tbl (ps ++ more))
section
variable {fs fs' ex ex':List Addr}{H H1 H2:Hp}{h h1 h2 h':Heap}{a x e:Addr}{o:HO}
theorem Un.any(u:Un fs ex H H1 h h1){b:Addr}{ob:Obj}(q:h.get? b=some ob)(n:H b=none)(hx:b ∉ ex):∃sl, h1.get? b=some {ob with slots :=sl} :=by
 by_cases hb:b ∈ fs
 .exact u.slot b ob q n hb hx
 .exact⟨ob.slots, u.keep b ob q n hb hx⟩
theorem Un.kept(k:∀b u, h.get? b=some u -> h'.get? b=some u):Un fs ex H H h h' :=
 ⟨fun b ob q _ _ _ => k b ob q, fun b ob q _ _ _ => ⟨ob.slots, k b ob q⟩, fun _ _ _ n _ => n, fun b ob q _ => ⟨ob, k b ob q⟩, fun _ _ q => q, fun _ _ _ q => q, fun _ ps q => ⟨#[], by rw[q];simp⟩⟩
theorem Un.refl:Un fs ex H H h h :=Un.kept fun _ _ q => q
theorem Un.laid(k:∀b u, h.get? b=some u -> h'.get? b=some u)(hp:h.objs.size ≤ a)(hn:H a=none):Un fs ex H (upd H a o) h h' where
 keep :=fun b u q _ _ _ => k b u q
 slot :=fun b u q _ _ _ => ⟨u.slots, k b u q⟩
 free :=fun b u q n _ => by rw[upd_ne (Nat.ne_of_lt (Nat.lt_of_lt_of_le (Heap.lt_size q) hp))];exact n
 there :=fun b u q _ => ⟨u, k b u q⟩
 tups :=fun b xs q => by rw[upd_ne (ne_of_none q hn)];exact q
 frzs :=fun b u xs q => by rw[upd_ne (ne_of_none q hn)];exact q
 tbls :=fun b ps q => ⟨#[], by rw[upd_ne (ne_of_none q hn), q];simp⟩
theorem Un.write(mu:Mut (H x))(he:e=x \/ H e=some (.own x))(k:∀b u, b ≠ e -> h.get? b=some u -> h'.get? b=some u)(heo:∃u, h'.get? e=some u):Un fs ex H (upd H x o) h h' :=by
 have hx:∀b, H b=none -> b ≠ x :=fun b n z => by subst z;rw[n]at mu;exact mu
 have hb:∀b, H b=none -> b ≠ e :=fun b n z => by
  subst z;rcases he with r|r
  .exact hx b n r
  .rw[n]at r;cases r
 have hm:∀b u, H b=some u -> ¬Mut (some u) -> b ≠ x :=fun b u q nm z => by subst z;rw[q]at mu;exact nm mu
 refine⟨fun b u q n _ _ => k b u (hb b n) q, fun b u q n _ _ => ⟨u.slots, k b u (hb b n) q⟩, fun b u q n _ => by rw[upd_ne (hx b n)];exact n, fun b u q _ => ?_,
  fun b xs q => by rw[upd_ne (hm b _ q fun z => z)];exact q, fun b u xs q => by rw[upd_ne (hm b _ q fun z => z)];exact q, fun b ps q => ⟨#[], by rw[upd_ne (hm b _ q fun z => z), q];simp⟩⟩
 by_cases hbe:b=e
 .subst hbe;exact heo
 .exact⟨u, k b u hbe q⟩
end
def trk(h:Heap)(H:Hp):List Addr :=(List.range h.objs.size).filter fun a => (H a).isSome
def hidT(h:Heap)(H:Hp):Heap :=PySem.W.hideAll h (trk h H)
theorem hidT_size(h:Heap)(H:Hp):(hidT h H).objs.size=h.objs.size :=PySem.W.hideAll_size _ _
theorem hidT_get{b:Addr}{o:Obj}(e:h.get? b=some o)(n:H b=none):(hidT h H).get? b=some o :=
 PySem.W.hideAll_get _ e fun hm => by
  have q:(H b).isSome=true :=(List.mem_filter.mp hm).2;rw[n]at q;simp at q
theorem of_hidT{b:Addr}{o:Obj}(e:(hidT h H).get? b=some o):h.get? b=some o /\ H b=none :=by
 have e':h.get? b=some o :=PySem.W.of_hideAll (trk h H) e;refine⟨e', ?_⟩
 cases q:H b with
 |none => rfl
 |some x =>
  have hm:b ∈ trk h H :=List.mem_filter.mpr ⟨List.mem_range.mpr (Heap.lt_size e'), by simp[q]⟩;have z:(hidT h H).get? b=none :=PySem.W.hideAll_none (trk h H) hm;rw[z]at e;cases e
structure Mod(K:PySem.W.Frag)(mg:Str -> Option Value)(base:Heap):Prop where
 kin:K.In base
 glob:base.Ns mainGlobals mg
 blt:∃mb, base.Ns builtinsNs mb /\ ∀x:Str, x ≠ "__name__" -> mb x=bootBuiltins x
 nolimit:base.NoLimit
 sys:∃m, base.Ns sysModules m
inductive Ao where
 |L (a:Addr)|T (t:List (List Nat × Addr))
structure EB where
 np:Nat
 be:List Ao
 H:Hp
structure Cx where
 prog:Program
 w:World
 K:PySem.W.Frag
 mg:Str -> Option Value
 base:Heap
 A:Around
 N:List Str
 s₀:Shared
 H₀:Hp
 env:Env
 outer:List Env
 stack:List Env
 ex:List Addr
 fn:Str -> Bool
 calm:Bool
 pn:List (Addr × Obj)
 xe:Value -> Shared -> Prop
 eb:EB :=⟨0, [], fun _ => none⟩
def frs(l:List Env):List Addr :=l.filterMap (·.frame)
abbrev Cx.fs(X:Cx):List Addr :=frs X.outer
def Vis(sc:Scope)(x:Str):Prop :=sc.names.lookup x=some .local \/ sc.names.lookup x=some .cell \/ sc.names.lookup x=some .free
def Loc(sc:Scope)(x:Str):Prop :=sc.names.lookup x=some .local \/ sc.names.lookup x=some .cell
def Look(env:Env)(h:Heap)(m:Str -> Option Value)(x:Str)(u:Value):Prop :=
 (env.kindOf x=some .local /\ m x=some u) \/ ((env.kindOf x=some .cell \/ env.kindOf x=some .free) /\ ∃c, env.cells.lookup x=some c /\ h.IsCell c (some u))
structure Cx.Ok(X:Cx):Prop where
 mod:Mod X.K X.mg X.base
 kind:X.env.scope.kind = .function
 glob:X.env.globals=mainGlobals
 blt:X.env.builtins=builtinsNs
 above:X.s₀.heap.objs.size ≤ X.env.locals
 inj:∀x y c, X.env.cells.lookup x=some c -> X.env.cells.lookup y=some c -> x=y
 has:∀x, (X.env.kindOf x=some .cell \/ X.env.kindOf x=some .free) -> ∃c, X.env.cells.lookup x=some c
 cab:∀x c, X.fn x=true -> X.env.cells.lookup x=some c -> X.s₀.heap.objs.size ≤ c
 hd:X.calm=true -> X.A.handled=none
 frames:X.A.frames=some X.stack
 stk:X.stack=X.outer \/ (X.stack=X.env::X.outer /\ X.env.frame=some X.env.locals)
 exf:∀b ∈ X.ex, b ≠ X.env.locals /\ ∀x c, X.env.cells.lookup x=some c -> c ≠ b
 bs:∀b o, X.base.get? b=some o -> X.s₀.heap.get? b=some o /\ X.H₀ b=none
 bsz:X.base.objs.size ≤ X.s₀.heap.objs.size
 noex:∀b o, X.base.get? b=some o -> b ∉ X.ex
 exfs:∀b ∈ X.ex, b ∉ X.fs
 funs:X.s₀.heap.FunFrames X.base X.outer
 frf:∀b ∈ X.fs, X.H₀ b=none
structure Inv(X:Cx)(pins:List (Addr × Obj))(σ:List (Option V))(H:Hp)(s:Shared):Prop where
 ok:X.Ok
 os:s.os=X.s₀.os
 bare:AllBare s.gens
 base:Un X.fs X.ex X.H₀ H X.s₀.heap s.heap
 loc:∃m, s.heap.Ns X.env.locals m /\ ∀(i:Nat) (x:Str) (v:V), X.N[i]?=some x -> σ[i]?=some (some v) -> Vis X.env.scope x -> ∃u, RelV v u /\ Look X.env s.heap m x u
 cell:∀x c, X.env.cells.lookup x=some c -> ∃v, s.heap.IsCell c v
 free:H X.env.locals=none
 freeC:∀x c, X.env.cells.lookup x=some c -> H c=none
 pin:∀p ∈ X.pn ++ pins, s.heap.get? p.1=some p.2 /\ H p.1=none /\ p.1 ≠ X.env.locals /\ p.1 ∉ X.fs /\ ∀v, p.2.data ≠ .cell v
 hok:HOk X.prog X.w H s.heap
 len:σ.length=X.N.length
section
variable {X:Cx}{pins:List (Addr × Obj)}{σ:List (Option V)}{H H':Hp}{s:Shared}{h':Heap}
theorem Cx.Ok.nofr(ok:X.Ok){b:Addr}{o:Obj}(e:X.base.get? b=some o):b ∉ X.fs :=fun hb => by
 have :=(ok.funs.mem hb).1;rw[e]at this;cases this
theorem Inv.bs(I:Inv X pins σ H s):∀b o, X.base.get? b=some o -> s.heap.get? b=some o /\ H b=none :=fun b o e =>
 ⟨I.base.keep b o (I.ok.bs b o e).1 (I.ok.bs b o e).2 (I.ok.nofr e) (I.ok.noex b o e), I.base.free b o (I.ok.bs b o e).1 (I.ok.bs b o e).2 (I.ok.noex b o e)⟩
theorem Inv.bk(I:Inv X pins σ H s):∀b o, X.base.get? b=some o -> s.heap.get? b=some o :=fun b o e => (I.bs b o e).1
theorem Inv.mod(I:Inv X pins σ H s):Mod X.K X.mg X.base :=I.ok.mod
theorem Inv.kIn(I:Inv X pins σ H s):X.K.In s.heap :=I.ok.mod.kin.keeps I.bk
theorem Inv.lt(I:Inv X pins σ H s):X.env.locals<s.heap.objs.size :=let ⟨_, hn, _⟩ :=I.loc;hn.lt
theorem Inv.sz(I:Inv X pins σ H s):X.s₀.heap.objs.size ≤ s.heap.objs.size :=Nat.le_trans I.ok.above (Nat.le_of_lt I.lt)
theorem Inv.nofs(I:Inv X pins σ H s)(h:s.heap.objs.size ≤ a):a ∉ X.fs :=fun hb => by
 obtain⟨_, o, ho, _⟩ :=I.ok.funs.mem hb;exact absurd (Nat.lt_of_lt_of_le (Heap.lt_size ho) (Nat.le_trans I.sz h)) (Nat.lt_irrefl _)
theorem Inv.cne(I:Inv X pins σ H s):∀x c, X.env.cells.lookup x=some c -> c ≠ X.env.locals :=fun x c e z => by
 obtain⟨v, o, ho, hd⟩ :=I.cell x c e;obtain⟨m, ⟨o', es, ep, ho', hd', _⟩, _⟩ :=I.loc;rw[z, ho']at ho;cases ho;rw[hd']at hd;cases hd
theorem Inv.funs(I:Inv X pins σ H s):s.heap.FunFrames X.base X.outer :=by
 have all:∀(l:List Env), (∀b ∈ frs l, b ∈ X.fs) -> X.s₀.heap.FunFrames X.base l -> s.heap.FunFrames X.base l :=by
  intro l
  induction l with
  |nil => intro _ _;trivial
  |cons env r ih =>
   intro hs hl;obtain⟨hk, ⟨L, o, hf, hn, ho, hd⟩, hr⟩ :=hl;have hL:L ∈ X.fs :=hs L (by unfold frs;rw[List.filterMap_cons, hf];exact List.mem_cons_self);obtain⟨sl, e⟩ :=I.base.slot L o ho (I.ok.frf L hL) hL fun z => I.ok.exfs L z hL;exact⟨hk, ⟨L, _, hf, hn, e, hd⟩, ih (fun b hb => hs b (by unfold frs;rw[List.filterMap_cons, hf];exact List.mem_cons_of_mem _ hb)) hr⟩
 exact all X.outer (fun _ hb => hb) I.ok.funs
theorem Inv.stack(I:Inv X pins σ H s):s.heap.FunFrames X.base X.stack :=by
 rcases I.ok.stk with e|⟨e, hf⟩
 .rw[e];exact I.funs
 .rw[e];obtain⟨m, hn, _⟩ :=I.loc;refine .cons (by rw[I.ok.kind];decide) hf hn ?_ I.funs;exact Heap.get?_none_of_le (Nat.le_trans I.ok.bsz I.ok.above)
theorem Inv.stkSub(I:Inv X pins σ H s):∀b ∈ frs X.stack, b ∈ X.env.locals::X.fs :=fun b hb => by
 rcases I.ok.stk with e|⟨e, hf⟩
 .rw[e]at hb;exact List.mem_cons_of_mem _ hb
 .rw[e]at hb;unfold frs at hb;rw[List.filterMap_cons, hf]at hb;exact hb
theorem Inv.stkFree(I:Inv X pins σ H s):∀b ∈ frs X.stack, H b=none :=fun b hb => by
 rcases List.mem_cons.mp (I.stkSub b hb)with e|hb
 .rw[e];exact I.free
 .obtain⟨_, o, ho, _⟩ :=I.ok.funs.mem hb;exact I.base.free b o ho (I.ok.frf b hb) fun z => I.ok.exfs b z hb
theorem Inv.step{d':Drawn}(I:Inv X pins σ H s)
  (hch:∀b ∈ ch, (b ∈ X.ex \/ X.s₀.heap.objs.size ≤ b) /\ b ≠ X.env.locals /\ (∀x c, X.env.cells.lookup x=some c -> c ≠ b) /\ ∀p ∈ X.pn ++ pins, p.1 ≠ b)
  (keep:∀b o, b ≠ X.env.locals -> b ∉ X.fs -> b ∉ ch -> s.heap.get? b=some o -> H b=none -> h'.get? b=some o)
  (slot:∀b o, b ≠ X.env.locals -> b ∈ X.fs -> b ∉ ch -> s.heap.get? b=some o -> H b=none -> ∃sl, h'.get? b=some {o with slots :=sl}) (free:∀b o, b ∉ ch -> s.heap.get? b=some o -> H b=none -> H' b=none)
  (there:∀b o, b ∉ ch -> s.heap.get? b=some o -> ∃o', h'.get? b=some o')
  (tups:∀b xs, H b=some (.tup xs) -> H' b=some (.tup xs)) (frzs:∀b o u, H b=some (.frz o u) -> H' b=some (.frz o u)) (tbls:∀b ps, H b=some (.tbl ps) -> ∃more, H' b=some (.tbl (ps ++ more)))
  (ns:∀m, s.heap.Ns X.env.locals m -> h'.Ns X.env.locals m) (hok:HOk X.prog X.w H' h') (hg:AllBare g') :
  Inv X pins σ H' {s with heap :=h', gens :=g', drawn :=d', toks :=t' } :=by
 have neL:∀b o, X.s₀.heap.get? b=some o -> b ≠ X.env.locals :=fun b o e => Nat.ne_of_lt (Nat.lt_of_lt_of_le (Heap.lt_size e) I.ok.above);have neC:∀b o, X.s₀.heap.get? b=some o -> b ∉ X.ex -> b ∉ ch :=fun b o e hx hb => by
  rcases (hch b hb).1 with z|z
  .exact hx z
  .exact absurd (Nat.lt_of_lt_of_le (Heap.lt_size e) z) (Nat.lt_irrefl _)
 have cellK:∀x c, X.env.cells.lookup x=some c -> ∀v, s.heap.IsCell c v -> h'.IsCell c v :=fun x c e v ⟨o, ho, hd⟩ => by
  have nch:c ∉ ch :=fun z => (hch c z).2.2.1 x c e rfl
  by_cases hc:c ∈ X.fs
  .obtain⟨sl, q⟩ :=slot c o (I.cne x c e) hc nch ho (I.freeC x c e);exact⟨_, q, hd⟩
  .exact⟨o, keep c o (I.cne x c e) hc nch ho (I.freeC x c e), hd⟩
 refine⟨I.ok, I.os, hg, ⟨fun b o e n hb hx => ?_, fun b o e n hb hx => ?_, fun b o e n hx => ?_, fun b o e hx => ?_, fun b xs e => tups b xs (I.base.tups b xs e), fun b o xs e => frzs b o xs (I.base.frzs b o xs e), fun b ps e => ?_⟩, ?_, fun x c e => ?_, ?_, fun x c e => ?_, fun p hp => ?_, hok, I.len⟩
 .exact keep b o (neL b o e) hb (neC b o e hx) (I.base.keep b o e n hb hx) (I.base.free b o e n hx)
 .obtain⟨sl, e1⟩ :=I.base.slot b o e n hb hx;obtain⟨sl', e2⟩ :=slot b _ (neL b o e) hb (neC b o e hx) e1 (I.base.free b o e n hx);exact⟨sl', e2⟩
 .obtain⟨o', e1⟩ :=I.base.there b o e hx;exact free b o' (neC b o e hx) e1 (I.base.free b o e n hx)
 .obtain⟨o', e1⟩ :=I.base.there b o e hx;exact there b o' (neC b o e hx) e1
 .obtain⟨m1, e1⟩ :=I.base.tbls b ps e;obtain⟨m2, e2⟩ :=tbls b _ e1;exact⟨m1 ++ m2, by rw[e2, Array.append_assoc]⟩
 .obtain⟨m, hn, hl⟩ :=I.loc;refine⟨m, ns m hn, fun i x v e1 e2 e3 => ?_⟩;obtain⟨u, r, l⟩ :=hl i x v e1 e2 e3;refine⟨u, r, ?_⟩;rcases l with l|⟨k, c, e, z⟩
  .exact .inl l
  .exact .inr ⟨k, c, e, cellK x c e _ z⟩
 .obtain⟨v, z⟩ :=I.cell x c e;exact⟨v, cellK x c e v z⟩
 .obtain⟨m, ⟨o, _, _, ho, _⟩, _⟩ :=I.loc;exact free _ o (fun z => (hch _ z).2.1 rfl) ho I.free
 .obtain⟨v, o, ho, hd⟩ :=I.cell x c e;exact free c o (fun z => (hch c z).2.2.1 x c e rfl) ho (I.freeC x c e)
 .obtain⟨e, n, ne, nf, d⟩ :=I.pin p hp;have nch:p.1 ∉ ch :=fun z => (hch p.1 z).2.2.2 p hp rfl;exact⟨keep p.1 p.2 ne nf nch e n, free p.1 p.2 nch e n, ne, nf, d⟩
theorem Inv.un(I:Inv X pins σ H s)(u:Un X.fs [] H H' s.heap h')(hok:HOk X.prog X.w H' h'):Inv X pins σ H' {s with heap :=h', toks :=t' } :=by
 obtain⟨m, ⟨o, es, ep, ho, r⟩, _⟩ :=id I.loc;obtain⟨sl, hL⟩ :=u.any ho I.free (by simp);exact I.step (g' :=s.gens) (d' :=s.drawn) (ch :=[]) (fun _ z => nomatch z) (fun b o _ hb _ e n => u.keep b o e n hb (by simp)) (fun b o _ hb _ e n => u.slot b o e n hb (by simp)) (fun b o _ e n => u.free b o e n (by simp)) (fun b o _ e => u.there b o e (by simp)) u.tups u.frzs u.tbls (fun m' hm => by
  obtain⟨o', es', ep', ho', r'⟩ :=hm;rw[ho]at ho';cases ho';exact⟨_, es', ep', hL, r'⟩) hok I.bare
theorem Inv.call{d':Drawn}(I:Inv X pins σ H s)(u:Un (frs X.stack) ch H H' s.heap h')(hok:HOk X.prog X.w H' h')(hg:AllBare g')
  (hch:∀b ∈ ch, (b ∈ X.ex \/ X.s₀.heap.objs.size ≤ b) /\ b ≠ X.env.locals /\ (∀x c, X.env.cells.lookup x=some c -> c ≠ b) /\ ∀p ∈ X.pn ++ pins, p.1 ≠ b) :
  Inv X pins σ H' {s with heap :=h', gens :=g', drawn :=d', toks :=t' } :=by
 obtain⟨m, ⟨o, es, ep, ho, r⟩, _⟩ :=id I.loc;obtain⟨sl, hL⟩ :=u.any ho I.free fun z => (hch _ z).2.1 rfl;exact I.step (ch :=ch) hch (fun b o hL hb hc e n => u.keep b o e n (fun z => (List.mem_cons.mp (I.stkSub b z)).elim hL hb) hc) (fun b o _ _ hc e n => u.any e n hc) (fun b o hc e n => u.free b o e n hc) (fun b o hc e => u.there b o e hc) u.tups u.frzs u.tbls (fun m' hm => by
  obtain⟨o', es', ep', ho', r'⟩ :=hm;rw[ho]at ho';cases ho';exact⟨_, es', ep', hL, r'⟩) hok hg
theorem Inv.turned{it:Addr}(I:Inv X pins σ H s)(k:∀b o, b ≠ it -> s.heap.get? b=some o -> h'.get? b=some o)(hn:H it=none)(hL:it ≠ X.env.locals)
  (h1:it ∈ X.ex \/ X.s₀.heap.objs.size ≤ it) (h2:∀x c, X.env.cells.lookup x=some c -> c ≠ it) (h3:∀p ∈ X.pn ++ pins, p.1 ≠ it):Inv X pins σ H {s with heap :=h', toks :=t' } :=by
 have nit:∀b u, H b=some u -> b ≠ it :=fun b u e z => by rw[z, hn]at e;cases e
 refine I.step (g' :=s.gens) (d' :=s.drawn) (ch :=[it]) (fun b hb => ?_) (fun b o _ _ hc e _ => k b o (fun z => hc (by simp[z])) e) (fun b o _ _ hc e _ => ⟨o.slots, k b o (fun z => hc (by simp[z])) e⟩) (fun _ _ _ _ n => n)
  (fun b o hc e => ⟨o, k b o (fun z => hc (by simp[z])) e⟩) (fun _ _ e => e) (fun _ _ _ e => e) (fun b ps e => ⟨#[], by rw[e];simp⟩) (fun m hm => ?_) (fun b u e => ?_) I.bare
 .have e:b=it :=by simpa using hb
  subst e;exact⟨h1, hL, h2, h3⟩
 .obtain⟨o, es, ep, ho, r⟩ :=hm;exact⟨o, es, ep, k _ o (Ne.symm hL) ho, r⟩
 .refine(I.hok b u e).stay (fun c v hc q => k c v ?_ q) (fun _ q => q) fun _ _ q => q;rcases hc with z|z
  .rw[z];exact nit b u e
  .exact nit c _ z
theorem Inv.tok(I:Inv X pins σ H s)(t:Nat):Inv X pins σ H {s with toks :=t} :=I.un (h' :=s.heap) (t' :=t) Un.refl I.hok
theorem Inv.kept(I:Inv X pins σ H s)(k:∀b u, s.heap.get? b=some u -> h'.get? b=some u):Inv X pins σ H {s with heap :=h', toks :=t' } :=I.un (Un.kept k) (I.hok.kept k)
theorem Inv.laid(I:Inv X pins σ H s)(k:∀b u, s.heap.get? b=some u -> h'.get? b=some u)(hp:s.heap.objs.size ≤ a)(new:ObjOk X.prog X.w (upd H a o) h' a o) :
  Inv X pins σ (upd H a o) {s with heap :=h', toks :=t' } :=I.un (Un.laid k hp (I.hok.fresh hp)) (I.hok.laid k hp new)
theorem Inv.write{x e:Addr}(I:Inv X pins σ H s)(mu:Mut (H x))(he:e=x \/ H e=some (.own x))(k:∀b u, b ≠ e -> s.heap.get? b=some u -> h'.get? b=some u)(heo:∃u, h'.get? e=some u)
  (new:ObjOk X.prog X.w (upd H x o) h' x o):Inv X pins σ (upd H x o) {s with heap :=h', toks :=t' } :=I.un (Un.write mu he k heo) (I.hok.write mu he k heo new)
theorem Inv.pins_of{pins':List (Addr × Obj)}(I:Inv X pins σ H s)(h:∀p ∈ pins', s.heap.get? p.1=some p.2 /\ H p.1=none /\ p.1 ≠ X.env.locals /\ p.1 ∉ X.fs /\ ∀v, p.2.data ≠ .cell v):Inv X pins' σ H s :=
 ⟨I.ok, I.os, I.bare, I.base, I.loc, I.cell, I.free, I.freeC, fun p hp => (List.mem_append.mp hp).elim (fun z => I.pin p (List.mem_append_left _ z)) (h p), I.hok, I.len⟩
theorem nodup_ix(hN:N.Nodup)(a:N[i]?=some x)(b:N[j]?=some x):i=j :=by
 obtain⟨h1, e1⟩ :=List.getElem?_eq_some_iff.mp a;obtain⟨h2, e2⟩ :=List.getElem?_eq_some_iff.mp b;exact(List.getElem_inj hN).mp (e1.trans e2.symm)
theorem store_ok2{v:V}{Q:Unit -> Shared -> Prop}(I:Inv X pins σ H s)(hN:X.N.Nodup)(hi:X.N[i]?=some x)(hx:Loc X.env.scope x)(r:RelV v u)
  (h:∀s', Inv X pins (σ.set i (some v)) H s' -> (∃a, Heap.SameBut a s.heap s'.heap /\ (a=X.env.locals \/ X.env.cells.lookup x=some a)) -> Q () s') (hf:X.fn x=true \/ X.env.scope.names.lookup x=some .local :=by first|exact .inl rfl|exact .inr rfl|assumption):wpAny M A (storeName X.env x u) Q E s :=by
 obtain⟨m, hn, hl⟩ :=id I.loc;have hcls:(X.env.scope.kind == .class||(X.env.scope.kind == .module&&X.env.locals != X.env.globals))=false :=by rw[I.ok.kind];rfl
 have hiσ:i<σ.length :=by rw[I.len];exact(List.getElem?_eq_some_iff.mp hi).1
 have cne :=I.cne;have tracked:∀{a:Addr}{h':Heap}, (∃o, s.heap.get? a=some o /\ H a=none) -> Heap.SameBut a s.heap h' -> HOk X.prog X.w H h' :=fun {a h'} ha hs b ob e => by
  obtain⟨_, _, hfree⟩ :=ha;refine(I.hok b ob e).stay (fun c w' hc q => (hs.2 c ?_).trans q) (fun _ q => q) fun _ _ q => q;rintro rfl;rcases hc with rfl|hc
  .rw[hfree]at e;cases e
  .rw[hfree]at hc;cases hc
 rcases hx with hk|hk
 .refine wpAny_storeName_local hk hn (fun h' hn' hs => ?_) hcls;obtain⟨oL, _, _, hoL, _⟩ :=id hn;refine h _ ⟨I.ok, I.os, I.bare, ⟨fun b o e n hb hx => ?_, fun b o e n hb hx => ?_, I.base.free, fun b o e hx => ?_, I.base.tups, I.base.frzs, I.base.tbls⟩, ⟨_, hn', fun j y v' e1 e2 e3 => ?_⟩, fun y c e => ?_, I.free, I.freeC, fun p hp => ?_, tracked ⟨oL, hoL, I.free⟩ hs, by simpa using I.len⟩ ⟨_, hs, .inl rfl⟩
  .exact(hs.2 b (Nat.ne_of_lt (Nat.lt_of_lt_of_le (Heap.lt_size e) I.ok.above))).trans (I.base.keep b o e n hb hx)
  .obtain⟨sl, e1⟩ :=I.base.slot b o e n hb hx;exact⟨sl, (hs.2 b (Nat.ne_of_lt (Nat.lt_of_lt_of_le (Heap.lt_size e) I.ok.above))).trans e1⟩
  .obtain⟨o', e1⟩ :=I.base.there b o e hx;exact⟨o', (hs.2 b (Nat.ne_of_lt (Nat.lt_of_lt_of_le (Heap.lt_size e) I.ok.above))).trans e1⟩
  .by_cases hj:j=i
   .subst hj;rw[hi]at e1;cases e1;rw[List.getElem?_set_self hiσ]at e2;cases e2;exact⟨u, r, .inl ⟨hk, by simp⟩⟩
   .rw[List.getElem?_set_ne (Ne.symm hj)]at e2;obtain⟨u', r', q⟩ :=hl j y v' e1 e2 e3;refine⟨u', r', ?_⟩;rcases q with⟨k, e⟩|⟨k, c, e, z⟩
    .refine .inl ⟨k, ?_⟩;have:y ≠ x :=fun e => hj (nodup_ix hN e1 (e ▸ hi));simp[this, e]
    .exact .inr ⟨k, c, e, z.sameBut hs (cne y c e)⟩
  .obtain⟨w', z⟩ :=I.cell y c e;exact⟨w', z.sameBut hs (cne y c e)⟩
  .obtain⟨e, n, ne, nf, d⟩ :=I.pin p hp;exact⟨(hs.2 p.1 ne).trans e, n, ne, nf, d⟩
 .have hfn:X.fn x=true :=by
   rcases hf with z|z
   .exact z
   .rw[z]at hk;cases hk
  obtain⟨c, hc⟩ :=I.ok.has x (.inl hk);obtain⟨w', z⟩ :=I.cell x c hc;refine wpAny_storeName_cell I.ok.kind hk hc z (fun h' hc' hs => ?_);obtain⟨oc, hoc, hocd⟩ :=id z;refine h {s with heap :=h' } ⟨I.ok, I.os, I.bare, ⟨fun b o e n hb hx => ?_, fun b o e n hb hx => ?_, I.base.free, fun b o e hx => ?_, I.base.tups, I.base.frzs, I.base.tbls⟩, ⟨m, hn.sameBut hs (Ne.symm (cne x c hc)), fun j y v' e1 e2 e3 => ?_⟩, fun y c' e => ?_, I.free, I.freeC, fun p hp => ?_, tracked ⟨oc, hoc, I.freeC x c hc⟩ hs, by simpa using I.len⟩ ⟨c, hs, .inr hc⟩
  .exact(hs.2 b (Nat.ne_of_lt (Nat.lt_of_lt_of_le (Heap.lt_size e) (I.ok.cab x c hfn hc)))).trans (I.base.keep b o e n hb hx)
  .obtain⟨sl, e1⟩ :=I.base.slot b o e n hb hx;exact⟨sl, (hs.2 b (Nat.ne_of_lt (Nat.lt_of_lt_of_le (Heap.lt_size e) (I.ok.cab x c hfn hc)))).trans e1⟩
  .obtain⟨o', e1⟩ :=I.base.there b o e hx;exact⟨o', (hs.2 b (Nat.ne_of_lt (Nat.lt_of_lt_of_le (Heap.lt_size e) (I.ok.cab x c hfn hc)))).trans e1⟩
  .by_cases hj:j=i
   .subst hj;rw[hi]at e1;cases e1;rw[List.getElem?_set_self hiσ]at e2;cases e2;exact⟨u, r, .inr ⟨.inl hk, c, hc, hc'⟩⟩
   .rw[List.getElem?_set_ne (Ne.symm hj)]at e2;obtain⟨u', r', q⟩ :=hl j y v' e1 e2 e3;refine⟨u', r', ?_⟩;rcases q with q|⟨k, c', e, z'⟩
    .exact .inl q
    .refine .inr ⟨k, c', e, z'.sameBut hs ?_⟩;rintro rfl;exact hj (nodup_ix hN e1 (I.ok.inj _ _ _ e hc ▸ hi))
  .by_cases hcc:c'=c
   .subst hcc;exact⟨_, hc'⟩
   .obtain⟨w2, z2⟩ :=I.cell y c' e;exact⟨w2, z2.sameBut hs hcc⟩
  .obtain⟨e, n, ne, nf, d⟩ :=I.pin p hp;refine⟨(hs.2 p.1 ?_).trans e, n, ne, nf, d⟩;intro q;rw[q, hoc]at e;have q':oc=p.2 :=Option.some.inj e;exact d w' (by rw[<- q'];exact hocd)
theorem store_ok{v:V}{Q:Unit -> Shared -> Prop}(I:Inv X pins σ H s)(hN:X.N.Nodup)(hi:X.N[i]?=some x)(hx:Loc X.env.scope x)(r:RelV v u)
  (h:∀s', Inv X pins (σ.set i (some v)) H s' -> Q () s') (hf:X.fn x=true \/ X.env.scope.names.lookup x=some .local :=by first|exact .inl rfl|exact .inr rfl|assumption):wpAny M A (storeName X.env x u) Q E s :=
 store_ok2 I hN hi hx r (fun s' I' _ => h s' I') hf
theorem Inv.call'{s':Shared}(I:Inv X pins σ H s)(ho:s'.os=s.os)(u:Un (frs X.stack) ch H H' s.heap s'.heap)(hok:HOk X.prog X.w H' s'.heap)(hg:AllBare s'.gens)
  (hch:∀b ∈ ch, (b ∈ X.ex \/ X.s₀.heap.objs.size ≤ b) /\ b ≠ X.env.locals /\ (∀x c, X.env.cells.lookup x=some c -> c ≠ b) /\ ∀p ∈ X.pn ++ pins, p.1 ≠ b):Inv X pins σ H' s' :=by
 obtain⟨h', g', d', t', o'⟩ :=s';have e:o'=s.os :=ho;subst e;exact I.call (g' :=g') (t' :=t') (d' :=d') u hok hg hch
end
abbrev XK :=Value -> Option Addr -> Hp -> Prop
abbrev St :=List (Option V)
abbrev VK :=V -> Hp -> Prop
abbrev TE :=St -> Hp -> VK -> Prop
abbrev TT :=St -> Hp -> (Bool -> Hp -> Prop) -> Prop
abbrev TA :=St -> Hp -> (List V -> Hp -> Prop) -> Prop
structure Ends where
 nx:St -> Hp -> Prop
 rt:VK
 bk:St -> Hp -> Prop :=fun _ _ => False
 ct:St -> Hp -> Prop :=fun _ _ => False
abbrev TS :=Ends -> St -> Hp -> Prop
def EP(X:Cx)(pins:List (Addr × Obj))(σ:St)(Q:VK)(u:Value)(s':Shared):Prop :=∃v H', Inv X pins σ H' s' /\ RelV v u /\ Q v H'
def TP(X:Cx)(pins:List (Addr × Obj))(σ:St)(Q:Bool -> Hp -> Prop)(b:Bool)(s':Shared):Prop :=∃H', Inv X pins σ H' s' /\ Q b H'
def AP(X:Cx)(pins:List (Addr × Obj))(σ:St)(Q:List V -> Hp -> Prop)(us:List Value)(s':Shared):Prop :=∃vs H', Inv X pins σ H' s' /\ Vals vs us /\ Q vs H'
def SP(X:Cx)(pins:List (Addr × Obj))(D:Ends)(f:Flow)(s':Shared):Prop :=
 match f with
 | .next => ∃σ' H', Inv X pins σ' H' s' /\ D.nx σ' H'
 | .brk => ∃σ' H', Inv X pins σ' H' s' /\ D.bk σ' H'
 | .cont => ∃σ' H', Inv X pins σ' H' s' /\ D.ct σ' H'
 | .ret u => ∃v σ' H', Inv X pins σ' H' s' /\ RelV v u /\ D.rt v H'
def PE(X:Cx)(e:Expr)(t:TE):Prop :=
 ∀(pins:List (Addr × Obj)) (s:Shared) (σ:St) (H:Hp) (Q:VK), Inv X pins σ H s -> t σ H Q -> wpAny (model X.prog X.w) X.A (eval e X.env) (EP X pins σ Q) X.xe s
def PT(X:Cx)(e:Expr)(t:TT):Prop :=
 ∀(pins:List (Addr × Obj)) (s:Shared) (σ:St) (H:Hp) (Q:Bool -> Hp -> Prop), Inv X pins σ H s -> t σ H Q -> wpAny (model X.prog X.w) X.A (isTrue e X.env (eval e X.env)) (TP X pins σ Q) X.xe s
def PW(X:Cx)(e:Expr)(t:TT):Prop :=
 ∀(whole:Sem Value) (pins:List (Addr × Obj)) (s:Shared) (σ:St) (H:Hp) (Q:Bool -> Hp -> Prop), Inv X pins σ H s -> t σ H Q -> wpAny (model X.prog X.w) X.A (isTrue e X.env whole) (TP X pins σ Q) X.xe s
theorem PW.pt{t:TT}(h:PW X e t):PT X e t :=h _
def PA(X:Cx)(es:List Expr)(t:TA):Prop :=
 ∀(pos:Pos) (pins:List (Addr × Obj)) (s:Shared) (σ:St) (H:Hp) (Q:List V -> Hp -> Prop), Inv X pins σ H s -> t σ H Q -> wpAny (model X.prog X.w) X.A (spliced (backTo pos (starEach es X.env))) (AP X pins σ Q) X.xe s
def PS(X:Cx)(st:Stmt)(t:TS):Prop :=
 ∀(pins:List (Addr × Obj)) (s:Shared) (σ:St) (H:Hp) (D:Ends), Inv X pins σ H s -> t D σ H -> wpAny (model X.prog X.w) X.A (exec st X.env) (SP X pins D) X.xe s
def PSs(X:Cx)(st:List Stmt)(t:TS):Prop :=
 ∀(pins:List (Addr × Obj)) (s:Shared) (σ:St) (H:Hp) (D:Ends), Inv X pins σ H s -> t D σ H -> wpAny (model X.prog X.w) X.A (execs st X.env) (SP X pins D) X.xe s
theorem thn{α:Type}{t:Sem α}{Q Q':α -> Shared -> Prop}{s:Shared}(h:wpAny M A t Q E s)(hQ:∀a s, Q a s -> Q' a s):wpAny M A t Q' E s :=wpAny_mono h hQ fun _ _ x => x
section
variable {X:Cx}
def tVar(i:Nat):TE :=fun σ H Q => ∃v, σ[i]?=some (some v) /\ Q v H
def tC(v:V):TE :=fun _ H Q => Q v H
theorem pe_var(hN:X.N[i]?=some x)(hv:Vis X.env.scope x)(hd:(x==("__debug__" : Str))=false :=by decide)(hcd:(x==("__classdict__" : Str))=false :=by decide):PE X (.Name x pos) (tVar i) :=by
 intro pins s σ H Q I h;obtain⟨v, e, h⟩ :=h;obtain⟨m, hn, hl⟩ :=I.loc;obtain⟨u, r, l⟩ :=hl i x v hN e hv;have fin:EP X pins σ Q u s :=⟨v, H, I, r, h⟩;rcases l with⟨hk, hm⟩|⟨hk, c, hc, hcell⟩
 .exact wpAny_Name (wpAny_loadName_local I.ok.kind hk hn hm fin) hd
 .rcases hk with hk|hk
  .exact wpAny_Name (wpAny_loadName_cell I.ok.kind hk hc hcell fin) hd
  .exact wpAny_Name (wpAny_loadName_free I.ok.kind hk hc hcell fin hcd) hd
theorem pe_int{i j pos}:PE X (.Constant (.int i) j pos) (tC (.int i)) :=fun _ _ _ H _ I h => wpAny_Constant_int ⟨.int i, H, I.tok _, ⟨_, rfl⟩, h⟩
theorem pe_bl{b j pos}:PE X (.Constant (.bool b) j pos) (tC (.bl b)) :=fun _ _ _ H _ I h => Constant_bool ⟨.bl b, H, I, rfl, h⟩
theorem pe_non{j pos}:PE X (.Constant .none j pos) (tC .non) :=fun _ _ _ H _ I h => Constant_none ⟨.non, H, I, rfl, h⟩
theorem pe_str{x j pos}:PE X (.Constant (.str x) j pos) (tC (.str x)) :=fun _ _ _ H _ I h => Calls.Constant_str ⟨.str x, H, I.tok _, ⟨_, rfl⟩, h⟩
def Gl(X:Cx)(x:Str):Prop :=X.env.kindOf x=some .globalImplicit
theorem ld_glob{s:Shared}(I:Inv X pins σ H s)(hg:Gl X x)(hm:X.mg x=some u)(h:Q u s)
  (hd:(x==("__debug__" : Str))=false :=by decide):wpAny (model X.prog X.w) X.A (eval (.Name x pos) X.env) Q E s :=
 Calls.Name_function_global I.ok.kind hg (Calls.loadGlobal_global (by rw[I.ok.glob];exact I.mod.glob.keeps I.bk) hm h) hd
theorem ld_blt{s:Shared}(I:Inv X pins σ H s)(hg:Gl X x)(hm:X.mg x=none)(hv:bootBuiltins x=some u)(h:Q u s)
  (hn:x ≠ "__name__" :=by decide) (hd:(x==("__debug__" : Str))=false :=by decide):wpAny (model X.prog X.w) X.A (eval (.Name x pos) X.env) Q E s :=by
 obtain⟨mb, h1, h2⟩ :=I.mod.blt;exact Calls.Name_function_global I.ok.kind hg (Calls.loadGlobal_builtin (by rw[I.ok.glob];exact I.mod.glob.keeps I.bk) hm (by rw[I.ok.blt];exact h1.keeps I.bk) ((h2 x hn).trans hv) h) hd
variable {a b:Expr}{ta tb:TE}{pos:Pos}
def tB(t:TE):TT :=fun σ H Q => t σ H fun x H1 => ∃c, x = .bl c /\ Q c H1
theorem pt_val{t:TE}(h:PE X e t)(he:∀whole, isTrue e X.env whole=(do let v <- whole;standAt e.pos;holding [v] (truthy v)) :=by intro _;rfl):PT X e (tB t) :=by
 intro pins s σ H Q I hw;refine isTrue_plain (thn (h pins s σ H _ I hw) fun v s1 ⟨x, H1, I1, r1, q1⟩ => ?_) (he _);obtain⟨d, rfl, q⟩ :=q1;cases r1;exact wpAny_truthy_bool ⟨H1, I1, q⟩
variable {tA tB':TT}{rest:List Expr}
def tAnd(t u:TT):TT :=fun σ H Q => t σ H fun c H1 => if c=true then u σ H1 Q else Q false H1
def tOr(t u:TT):TT :=fun σ H Q => t σ H fun c H1 => if c=true then Q true H1 else u σ H1 Q
def tNot(t:TT):TT :=fun σ H Q => t σ H fun c H1 => Q (!c) H1
theorem pw_and1(ha:PT X a tA):PW X (.BoolOp .And [a] pos) tA :=by
 intro wh pins s σ H Q I h;refine isTrue_and (thn (ha pins s σ H Q I h) fun c s1 e => ?_)
 cases c with
 |true => exact isTrue_and_nil e
 |false => exact e
theorem pw_or1(ha:PT X a tA):PW X (.BoolOp .Or [a] pos) tA :=by
 intro wh pins s σ H Q I h;refine isTrue_or (thn (ha pins s σ H Q I h) fun c s1 e => ?_)
 cases c with
 |false => exact isTrue_or_nil e
 |true => exact e
theorem pw_and(ha:PT X a tA)(hb:PW X (.BoolOp .And (b::rest) pos) tB'):PW X (.BoolOp .And (a::b::rest) pos) (tAnd tA tB') :=by
 intro wh pins s σ H Q I h;refine isTrue_and (thn (ha pins s σ H _ I h) fun c s1 ⟨H1, I1, q1⟩ => ?_)
 cases c with
 |true => exact hb wh pins s1 σ H1 Q I1 q1
 |false => exact⟨H1, I1, q1⟩
theorem pw_or(ha:PT X a tA)(hb:PW X (.BoolOp .Or (b::rest) pos) tB'):PW X (.BoolOp .Or (a::b::rest) pos) (tOr tA tB') :=by
 intro wh pins s σ H Q I h;refine isTrue_or (thn (ha pins s σ H _ I h) fun c s1 ⟨H1, I1, q1⟩ => ?_)
 cases c with
 |true => exact⟨H1, I1, q1⟩
 |false => exact hb wh pins s1 σ H1 Q I1 q1
theorem pt_not(ha:PT X a tA):PT X (.UnaryOp .Not a pos) (tNot tA) :=by
 intro pins s σ H Q I h;exact isTrue_not (ha pins s σ H (fun c H1 => Q (!c) H1) I h)
def tIf(t:TT)(ta tb:TE):TE :=fun σ H Q => t σ H fun c H1 => if c=true then ta σ H1 Q else tb σ H1 Q
theorem pe_ifExp(hc:PT X c tA)(ha:PE X a ta)(hb:PE X b tb):PE X (.IfExp c a b pos) (tIf tA ta tb) :=by
 intro pins s σ H Q I h;refine wpAny_IfExp (thn (hc pins s σ H _ I h) fun d s1 ⟨H1, I1, q1⟩ => ?_)
 cases d with
 |true => exact ha pins s1 σ H1 Q I1 q1
 |false => exact hb pins s1 σ H1 Q I1 q1
end
def SqL(K:PySem.W.Frag)(H:Hp)(a:Addr)(xs:List V):Prop :=
 Rd H a (.lst xs) \/
  ∃(o:Obj) (its:Array Value) (n:Nat), K.lookup a=some o /\ o.cls = .type "list" /\ o.dict=none /\ o.data = .seq its n /\ its.size ≤ sizeLine /\ Vals xs its.toList
def SqT(K:PySem.W.Frag)(H:Hp)(a:Addr)(xs:List V):Prop :=
 Rd H a (.tup xs) \/
  ∃(o:Obj) (its:Array Value) (n:Nat), K.lookup a=some o /\ o.cls = .type "tuple" /\ o.dict=none /\ o.data = .seq its n /\ its.size ≤ sizeLine /\ Vals xs its.toList
def absV:Value -> Option V
 | .none => some .non
 | .bool b => some (.bl b)
 | .int i _ => some (.int i)
 | .str x _ => some (.str x)
 | .bytes b _ => some (.byt b)
 | .float b _ => some (.flt b)
 | .ref a => some (.ref a)
 | .type n => some (.ty n)
 |_ => none
theorem RelV.abs{x:V}(r:RelV x u):absV u=some x :=by
 cases x with
 |non => cases r;rfl
 |bl _ => cases r;rfl
 |int _ => obtain⟨t, rfl⟩ :=r;rfl
 |str _ => obtain⟨t, rfl⟩ :=r;rfl
 |byt _ => obtain⟨t, rfl⟩ :=r;rfl
 |flt _ => obtain⟨t, rfl⟩ :=r;rfl
 |ref _ => cases r;rfl
 |ty _ => cases r;rfl
theorem RelV.inj{x y:V}(r:RelV x u)(q:RelV y u):x=y :=Option.some.inj (r.abs.symm.trans q.abs)
theorem Vals.inj:∀{xs ys:List V}{us:List Value}, Vals xs us -> Vals ys us -> xs=ys
 |_, _, _, .nil, .nil => rfl
 |_, _, _, .cons r t, .cons r' t' => by rw[r.inj r', Vals.inj t t']
section
variable {X:Cx}{pins:List (Addr × Obj)}{σ:St}{H:Hp}{s:Shared}{a:Addr}{xs ys:List V}
theorem SqL.of(h:H a=some (.lst xs)):SqL K H a xs :=.inl (.inl h)
theorem SqT.of(h:H a=some (.tup xs)):SqT K H a xs :=.inl (.inl h)
theorem Inv.list(I:Inv X pins σ H s)(h:SqL X.K H a xs):∃its:List Value, Vals xs its /\ PlainL s.heap a its.toArray /\ xs.length ≤ sizeLine :=by
 rcases h with h|⟨o, its, n, hk, hc, hd, hs, hz, r⟩
 .obtain⟨z, its, n, r, e⟩ :=h.ok I.hok;exact⟨its, r, ⟨_, n, e, rfl, rfl, rfl⟩, z⟩
 .refine⟨its.toList, r, ⟨o, n, I.kIn a o hk, hc, hd, by simpa using hs⟩, ?_⟩;have e :=r.length;simp only[Array.length_toList]at e;omega
theorem Inv.tuple(I:Inv X pins σ H s)(h:SqT X.K H a xs):∃its:List Value, Vals xs its /\ IsTup s.heap a its.toArray /\ xs.length ≤ sizeLine :=by
 rcases h with h|⟨o, its, n, hk, hc, hd, hs, hz, r⟩
 .obtain⟨z, its, r, p⟩ :=h.ok I.hok;exact⟨its, r, p.tup, z⟩
 .refine⟨its.toList, r, ⟨o, I.kIn a o hk, hc, n, by simpa using hs⟩, ?_⟩;have e :=r.length;simp only[Array.length_toList]at e;omega
theorem Inv.tupleP(I:Inv X pins σ H s)(h:SqT X.K H a xs):∃its:List Value, Vals xs its /\ PlainT s.heap a its.toArray /\ xs.length ≤ sizeLine :=by
 rcases h with h|⟨o, its, n, hk, hc, hd, hs, hz, r⟩
 .obtain⟨z, its, r, p⟩ :=h.ok I.hok;exact⟨its, r, p, z⟩
 .refine⟨its.toList, r, ⟨o, I.kIn a o hk, hc, hd, n, by simpa using hs⟩, ?_⟩;have e :=r.length;simp only[Array.length_toList]at e;omega
theorem Inv.list_inj(I:Inv X pins σ H s)(h:SqL X.K H a xs)(h':SqL X.K H a ys):xs=ys :=by
 obtain⟨its, r, ⟨o, n, e, _, _, d⟩, _⟩ :=I.list h;obtain⟨its', r', ⟨o', n', e', _, _, d'⟩, _⟩ :=I.list h';rw[e]at e';cases e';rw[d]at d';injection d' with d1 _
 have:its=its' :=by simpa using congrArg Array.toList d1
 subst this;exact r.inj r'
theorem Inv.tuple_inj(I:Inv X pins σ H s)(h:SqT X.K H a xs)(h':SqT X.K H a ys):xs=ys :=by
 obtain⟨its, r, ⟨o, e, _, n, d⟩, _⟩ :=I.tuple h;obtain⟨its', r', ⟨o', e', _, n', d'⟩, _⟩ :=I.tuple h';rw[e]at e';cases e';rw[d]at d';injection d' with d1 _
 have:its=its' :=by simpa using congrArg Array.toList d1
 subst this;exact r.inj r'
end
abbrev Cx.wish(X:Cx)(E:Value -> Shared -> Prop):Cx :={X with xe :=E}
abbrev Cx.nox(X:Cx):Cx :=X.wish fun _ _ => False
theorem Cx.Ok.wish(ok:X.Ok)(E:Value -> Shared -> Prop):(X.wish E).Ok :=
 ⟨ok.mod, ok.kind, ok.glob, ok.blt, ok.above, ok.inj, ok.has, ok.cab, ok.hd, ok.frames, ok.stk, ok.exf, ok.bs, ok.bsz, ok.noex, ok.exfs, ok.funs, ok.frf⟩
theorem Cx.Ok.unwish(ok:(X.wish E).Ok):X.Ok :=
 ⟨ok.mod, ok.kind, ok.glob, ok.blt, ok.above, ok.inj, ok.has, ok.cab, ok.hd, ok.frames, ok.stk, ok.exf, ok.bs, ok.bsz, ok.noex, ok.exfs, ok.funs, ok.frf⟩
section
variable {X:Cx}{pins:List (Addr × Obj)}{σ:St}{H:Hp}{s:Shared}{E:Value -> Shared -> Prop}
theorem Inv.wish(I:Inv X pins σ H s)(E:Value -> Shared -> Prop):Inv (X.wish E) pins σ H s :=⟨I.ok.wish E, I.os, I.bare, I.base, I.loc, I.cell, I.free, I.freeC, I.pin, I.hok, I.len⟩
theorem Inv.unwish(I:Inv (X.wish E) pins σ H s):Inv X pins σ H s :=⟨I.ok.unwish, I.os, I.bare, I.base, I.loc, I.cell, I.free, I.freeC, I.pin, I.hok, I.len⟩
theorem SP.unwish{D:Ends}{f:Flow}{s':Shared}(h:SP (X.wish E) pins D f s'):SP X pins D f s' :=by
 cases f with
 |next => obtain⟨σ', H', I, q⟩ :=h;exact⟨σ', H', I.unwish, q⟩
 |brk => obtain⟨σ', H', I, q⟩ :=h;exact⟨σ', H', I.unwish, q⟩
 |cont => obtain⟨σ', H', I, q⟩ :=h;exact⟨σ', H', I.unwish, q⟩
 |ret u => obtain⟨v, σ', H', I, r, q⟩ :=h;exact⟨v, σ', H', I.unwish, r, q⟩
theorem PSs.nox{st:List Stmt}{t:TS}(h:PSs X.nox st t):PSs X st t :=fun pins s σ H D I hw =>
 wpAny_mono (h pins s σ H D (I.wish _) hw) (fun _ _ q => q.unwish) fun _ _ z => False.elim z
end
section
variable {X:Cx}{st:Stmt}{rest:List Stmt}{t u:TS}{e:Expr}{te:TE}{pos:Pos}
def tNext:TS :=fun D σ H => D.nx σ H
def tSeq(t u:TS):TS :=fun D σ H => t {D with nx :=u D} σ H
theorem pss_nil:PSs X [] tNext :=fun _ _ σ H _ I h => wpAny_execs_nil ⟨σ, H, I, h⟩
theorem pss_cons(h1:PS X st t)(h2:PSs X rest u):PSs X (st::rest) (tSeq t u) :=by
 intro pins s σ H D I h;refine wpAny_execs_cons (thn (h1 pins s σ H {D with nx :=u D} I h) fun f s1 q => ?_)
 cases f with
 |next =>
  obtain⟨σ', H', I', q⟩ :=q;exact h2 pins s1 σ' H' D I' q
 |ret v => exact q
 |brk => exact q
 |cont => exact q
theorem pss_one(h1:PS X st t):PSs X [st] t :=by
 intro pins s σ H D I h;refine wpAny_execs_cons (thn (h1 pins s σ H D I h) fun f s1 q => ?_)
 cases f with
 |next => exact wpAny_execs_nil q
 |ret v => exact q
 |brk => exact q
 |cont => exact q
theorem Inv.quiet{s:Shared}(I:Inv X pins σ H s):interactive X.env=false :=by simp[interactive, I.ok.kind]
def tDrop(te:TE):TS :=fun D σ H => te σ H fun _ H1 => D.nx σ H1
theorem ps_expr(he:PE X e te)(hs:swapsWith e none pos.line X.env=pure false :=by rfl):PS X (.Expr e pos) (tDrop te) :=by
 intro pins s σ H D I h;exact wpAny_Expr_any (thn (he pins s σ H _ I h) fun v s1 ⟨x, H1, I1, r1, q1⟩ => ⟨σ, H1, I1, q1⟩) I.quiet hs
def tRet(te:TE):TS :=fun D σ H => te σ H D.rt
theorem ps_ret(he:PE X e te):PS X (.Return (some e) pos) (tRet te) :=by
 intro pins s σ H D I h;exact wpAny_Return_some (thn (he pins s σ H _ I h) fun v s1 ⟨x, H1, I1, r1, q1⟩ => ⟨x, σ, H1, I1, r1, q1⟩)
def tIfS(c:TT)(t u:TS):TS :=fun D σ H => c σ H fun b H1 => if b=true then t D σ H1 else u D σ H1
theorem ps_if{a b:List Stmt}{tc:TT}(hc:PT X c tc)(ha:PSs X a t)(hb:PSs X b u):PS X (.If c a b pos) (tIfS tc t u) :=by
 intro pins s σ H D I h;refine wpAny_If (thn (hc pins s σ H _ I h) fun d s1 ⟨H1, I1, q1⟩ => ?_)
 cases d with
 |true => exact ha pins s1 σ H1 D I1 q1
 |false => exact hb pins s1 σ H1 D I1 q1
end
abbrev TG :=V -> St -> Hp -> (St -> Hp -> Prop) -> Prop
abbrev TGs :=List V -> St -> Hp -> (St -> Hp -> Prop) -> Prop
def PG(X:Cx)(target:Expr)(t:TG):Prop :=
 ∀(pins:List (Addr × Obj)) (s:Shared) (σ:St) (H:Hp) (v:V) (u:Value) (Q:St -> Hp -> Prop), Inv X pins σ H s -> RelV v u -> t v σ H Q ->
  wpAny (model X.prog X.w) X.A (assign target X.env u) (fun _ s' => ∃σ' H', Inv X pins σ' H' s' /\ Q σ' H') X.xe s
def PGs(X:Cx)(ts:List Expr)(t:TGs):Prop :=
 ∀(pins:List (Addr × Obj)) (s:Shared) (σ:St) (H:Hp) (vs:List V) (us:List Value) (Q:St -> Hp -> Prop), Inv X pins σ H s -> Vals vs us -> t vs σ H Q ->
  wpAny (model X.prog X.w) X.A (assignInOrder ((assignEach ts X.env).map (·.2)) us) (fun _ s' => ∃σ' H', Inv X pins σ' H' s' /\ Q σ' H') X.xe s
abbrev TSet :=V -> V -> V -> Hp -> (Hp -> Prop) -> Prop
def PSet(X:Cx)(t:TSet):Prop :=
 ∀(pins:List (Addr × Obj)) (s:Shared) (σ:St) (H:Hp) (o i v:V) (ov iv u:Value) (Q:Hp -> Prop), Inv X pins σ H s -> RelV o ov -> RelV i iv -> RelV v u -> t o i v H Q ->
  wpAny (model X.prog X.w) X.A (setItem ov iv u) (fun _ s' => ∃H', Inv X pins σ H' s' /\ Q H') X.xe s
section
variable {X:Cx}{pos:Pos}
def gName(i:Nat):TG :=fun v σ H Q => Q (σ.set i (some v)) H
theorem pg_name(hN:X.N.Nodup)(hi:X.N[i]?=some x)(hx:Loc X.env.scope x)(hf:X.fn x=true \/ X.env.scope.names.lookup x=some .local :=by first|exact .inl rfl|exact .inr rfl|assumption):PG X (.Name x pos) (gName i) :=by
 intro pins s σ H v u Q I r h;exact wpAny_assign_Name (store_ok I hN hi hx r (fun s' I' => ⟨_, H, I', h⟩) hf)
def gNil:TGs :=fun vs σ H Q => vs=[] /\ Q σ H
def gCons(t:TG)(u:TGs):TGs :=fun vs σ H Q => ∃v r, vs=v::r /\ t v σ H fun σ' H' => u r σ' H' Q
theorem pgs_nil:PGs X [] gNil :=by
 intro pins s σ H vs us Q I r h;obtain⟨e, h⟩ :=h;subst e;cases r;exact assignInOrder_nil ⟨σ, H, I, h⟩
theorem pgs_cons{t:TG}{u:TGs}(h1:PG X e t)(h2:PGs X es u)
  (hs:(assignEach (e::es) X.env).map (·.2)=assign e X.env::(assignEach es X.env).map (·.2) :=by rfl):PGs X (e::es) (gCons t u) :=by
 intro pins s σ H vs us Q I r h;obtain⟨v, vr, e1, h⟩ :=h;subst e1
 cases r with
 |cons r rr =>
  rw[hs];refine assignInOrder_cons (thn (h1 pins s σ H _ _ _ I r h) fun _ s1 ⟨σ1, H1, I1, q1⟩ => ?_);exact h2 pins s1 σ1 H1 _ _ Q I1 rr q1
def gTup(K:PySem.W.Frag)(n:Nat)(t:TGs):TG :=fun v σ H Q => ∃a xs, v = .ref a /\ SqT K H a xs /\ xs.length=n /\ t xs σ H Q
theorem pg_tup{t:TGs}{n:Nat}(hc:X.calm=true)(h:PGs X es t)
  (hn:(assignEach es X.env).length=n :=by rfl) (hst:(assignEach es X.env).findIdx? (·.1)=none :=by rfl):PG X (.Tuple es k pos) (gTup X.K n t) :=by
 intro pins s σ H v u Q I r hw;obtain⟨a, xs, e1, hq, hl, hw⟩ :=hw;subst e1;cases r;obtain⟨its, rv, ht, hz⟩ :=I.tuple hq;refine assign_Tuple_tuple (I.ok.hd hc) ht (by simp[hn, <- hl, rv.length]) hst fun h' hx => ?_;have I1:Inv X pins σ H {s with heap :=h' } :=I.kept (t' :=s.toks) fun b o e => hx b o (Nat.ne_of_lt (Heap.lt_size e)) e;exact h pins _ σ H xs _ Q I1 (by simpa using rv) hw
def gSub(to ti:TE)(t:TSet):TG :=fun v σ H Q => to σ H fun o H1 => ti σ H1 fun i H2 => t o i v H2 fun H3 => Q σ H3
theorem pg_sub{o i:Expr}{to ti:TE}{t:TSet}(ho:PE X o to)(hi:PE X i ti)(hs:PSet X t)
  (ha:∀v, assign (.Subscript o i pos) X.env v=(do
   let ov <- holding [v] (eval o X.env)
   let iv <- holding [v, ov] (eval i X.env)
   standAt pos
   holding [v, ov, iv] (setItem ov iv v)
   release [v, ov, iv] []) :=by intro _;rfl):PG X (.Subscript o i pos) (gSub to ti t) :=by
 intro pins s σ H v u Q I r h;rw[ha];refine wpAny_bind (wpAny_holding (thn (ho pins s σ H _ I h) fun ov s1 ⟨x, H1, I1, r1, q1⟩ => ?_));refine wpAny_bind (wpAny_holding (thn (hi pins s1 σ H1 _ I1 q1) fun iv s2 ⟨y, H2, I2, r2, q2⟩ => ?_));refine wpAny_bind (wpAny_standAt (wpAny_bind (wpAny_holding (thn (hs pins s2 σ H2 x y v ov iv u _ I2 r1 r2 r q2) fun _ s3 ⟨H3, I3, q3⟩ => ?_))));exact wpAny_release ⟨σ, H3, I3, q3⟩
def tAsg(te:TE)(g:TG):TS :=fun D σ H => te σ H fun x H1 => g x σ H1 D.nx
theorem ps_asg{te:TE}{g:TG}(he:PE X e te)(hg:PG X tg g)(hs:swapsWithSole [tg] e pos.line X.env=pure false :=by rfl)(hw:swappedStores [tg] e X.env=pure none :=by rfl)
  (h1:(assignEach [tg] X.env).map (·.2)=[assign tg X.env] :=by rfl):PS X (.Assign [tg] e pos) (tAsg te g) :=by
 intro pins s σ H D I h;refine wpAny_Assign_stores (thn (he pins s σ H _ I h) fun v s1 ⟨x, H1, I1, r1, q1⟩ => ?_) hs hw;rw[h1];exact thn (hg pins s1 σ H1 x v _ I1 r1 q1) fun _ s2 q => q
theorem ps_set{te:TE}{pos':Pos}(hN:X.N.Nodup)(hi:X.N[i]?=some x)(hx:Loc X.env.scope x)(he:PE X e te)(hs:swapsWith e (some (.Name x pos')) pos.line X.env=pure false :=by rfl)(hf:X.fn x=true \/ X.env.scope.names.lookup x=some .local :=by first|exact .inl rfl|exact .inr rfl|assumption) :
  PS X (.Assign [.Name x pos'] e pos) (tAsg te (gName i)) :=by
 intro pins s σ H D I h;refine wpAny_Assign_Name (thn (he pins s σ H _ I h) fun v s1 ⟨y, H1, I1, r1, q1⟩ => ?_) hs;exact store_ok I1 hN hi hx r1 (fun s2 I2 => ⟨_, H1, I2, q1⟩) hf
def tPar(i j:Nat)(ta:TA):TS :=fun D σ H => ta σ H fun vs H1 => ∃v w, vs=[v, w] /\ D.nx ((σ.set i (some v)).set j (some w)) H1
theorem ps_par{y:Str}{a b:Expr}{ta:TA}{px py pt:Pos}{kt k2 pt2}(hc:X.calm=true)(hN:X.N.Nodup)(hi:X.N[i]?=some x)(hj:X.N[j]?=some y)(hij:i ≠ j)
  (hx:X.env.scope.names.lookup x=some .local) (hy:X.env.scope.names.lookup y=some .local) (ha:PA X [a, b] ta)
  (hw:swappedStores [.Tuple [.Name x px, .Name y py] kt pt] (.Tuple [a, b] k2 pt2) X.env=pure (some [x, y]))
  (hs:swapsWithSole [.Tuple [.Name x px, .Name y py] kt pt] (.Tuple [a, b] k2 pt2) pos.line X.env=pure false :=by rfl) :
  PS X (.Assign [.Tuple [.Name x px, .Name y py] kt pt] (.Tuple [a, b] k2 pt2) pos) (tPar i j ta) :=by
 intro pins s σ H D I h;rw[exec_Assign_arm];refine wpAny_bind (wpAny_standAt ?_);rw[hs];refine wpAny_bind (wpAny_pure ?_);rw[if_neg (by decide)];refine wpAny_bind (Tuple_ (thn (ha _ pins s σ H _ I h) fun us s1 ⟨vs, H1, I1, r1, q1⟩ => ?_));obtain⟨v, w, e1, q1⟩ :=q1;subst e1;obtain⟨u1, u2, rfl, rv, rw'⟩:∃u1 u2, us=[u1, u2] /\ RelV v u1 /\ RelV w u2 :=by
  cases r1 with
  | cons p q =>
   cases q with
   |cons p' q' =>
    cases q';exact⟨_, _, rfl, p, p'⟩
 refine wpAny_newObj_type ?_ (by show 2 ≤ sizeLine;decide);have I2:Inv X pins σ H1 {s1 with heap :=s1.heap.push {cls :=.type "tuple", data :=.seq [u1, u2].toArray} } :=I1.kept (t' :=s1.toks) fun b o e => Heap.get?_push_of_some _ e;rw[hw];refine wpAny_bind (wpAny_pure ?_);show wpAny (model X.prog X.w) X.A (do rule "assign.swapped-stores";let items <- unpackItems (.ref s1.heap.objs.size) 2 none;assignInOrder [fun v => bindName X.env y v, fun v => bindName X.env x v] items.reverse;pure Flow.next) _ _ _;refine wpAny_bind (wpAny_rule (wpAny_bind (unpackItems_tuple (items :=#[u1, u2]) (I.ok.hd hc) (IsTup.new s1.heap _) fun h' hx' => ?_)));have I3 :=I2.kept (h' :=h') (t' :=s1.toks) fun b o e => hx' b o (Nat.ne_of_lt (Heap.lt_size e)) e;show wpAny _ _ (assignInOrder [fun v => bindName X.env y v, fun v => bindName X.env x v] [u2, u1] >>= fun _ => pure Flow.next) _ _ _;refine wpAny_bind (assignInOrder_cons (wpAny_bindName (store_ok I3 hN hj (.inl hy) rw' (fun s2 I4 => ?_) (.inr hy))));refine assignInOrder_cons (wpAny_bindName (store_ok I4 hN hi (.inl hx) rv (fun s3 I5 => assignInOrder_nil (wpAny_pure ?_)) (.inr hx)));rw[List.set_comm _ _ (Ne.symm hij)]at I5;exact⟨_, H1, I5, q1⟩
end
section
variable {X:Cx}{pos:Pos}
def tWhile(c:TT)(tb:TS):TS :=fun D σ H => ∃W:Nat -> St -> Hp -> Prop, (∃m, W m σ H) /\ ∀m σ H, W m σ H ->
 c σ H fun b H1 => if b=true then ∃N:St -> Hp -> Prop, (∀σ' H', N σ' H' -> ∃m', m'<m /\ W m' σ' H') /\ tb {D with nx :=N, ct :=N, bk :=D.nx} σ H1 else D.nx σ H1
theorem ps_while{tc:TT}{tb:TS}(hp:PassesOwn (model X.prog X.w) X.A X.env X.xe)(hc:PT X c tc)(hb:PSs X body tb):PS X (.While c body [] pos) (tWhile tc tb) :=by
 intro pins s σ H D I h;obtain⟨W, ⟨m0, w0⟩, turn⟩ :=h;refine wpAny_While (codeAny_whileLoop (fun n s' => ∃σ' H', Inv X pins σ' H' s' /\ W n σ' H') ?_ m0 ⟨σ, H, I, w0⟩);rintro n s1 ⟨σ1, H1, I1, w1⟩;refine wpAny_passesOwn hp (thn (hc pins s1 σ1 H1 _ I1 (turn n σ1 H1 w1)) fun b s2 ⟨H2, I2, q2⟩ => ?_)
 cases b with
 | true =>
  obtain⟨N, hN, q2⟩ :=q2;rw[if_pos rfl];refine wpAny_passesOwn hp (thn (hb pins s2 σ1 H2 _ I2 q2) fun f s3 q3 => ?_)
  cases f with
  |next =>
   obtain⟨σ3, H3, I3, n3⟩ :=q3;obtain⟨m', hm, w3⟩ :=hN σ3 H3 n3;exact⟨m', hm, σ3, H3, I3, w3⟩
  |cont =>
   obtain⟨σ3, H3, I3, n3⟩ :=q3;obtain⟨m', hm, w3⟩ :=hN σ3 H3 n3;exact⟨m', hm, σ3, H3, I3, w3⟩
  |brk => exact q3
  |ret v => exact q3
 |false =>
  rw[if_neg Bool.false_ne_true];exact wpAny_execs_nil ⟨σ1, H2, I2, q2⟩
end
structure It where
 go:Nat -> Hp -> Prop
 yld:Nat -> Hp -> V -> Hp -> Prop
 stop:Nat -> Hp -> Prop
def FpOk(X:Cx)(pins:List (Addr × Obj))(H:Hp)(b:Addr):Prop :=
 H b=none /\ b ≠ X.env.locals /\ b ∉ X.fs /\ (b ∈ X.ex \/ X.s₀.heap.objs.size ≤ b) /\ (∀x c, X.env.cells.lookup x=some c -> c ≠ b) /\ ∀p ∈ X.pn ++ pins, p.1 ≠ b
theorem Inv.fpOk{H':Hp}{s:Shared}{b:Addr}(I:Inv X pins σ H s)(hb:s.heap.objs.size ≤ b)(hn:H' b=none):FpOk X pins H' b :=by
 refine⟨hn, Nat.ne_of_gt (Nat.lt_of_lt_of_le I.lt hb), I.nofs hb, .inr (Nat.le_trans I.sz hb), fun x c e z => ?_, fun p hp z => ?_⟩
 .obtain⟨v, q⟩ :=I.cell x c e;exact absurd (Nat.lt_of_lt_of_le q.lt (by rw[z];exact hb)) (Nat.lt_irrefl _)
 .exact absurd (Nat.lt_of_lt_of_le (Heap.lt_size (I.pin p hp).1) (by rw[z];exact hb)) (Nat.lt_irrefl _)
structure Turn(P:Program)(w:World)(K:PySem.W.Frag)(tg:Expr)(J:It)(fp:List Addr)(it:Addr)(tn:Nat -> Heap -> Prop):Prop where
 mem:it ∈ fp
 obj:∀i h, tn i h -> ∀b ∈ fp, ∃o, h.get? b=some o /\ ∀v, o.data ≠ .cell v
 keep:∀i h h', tn i h -> (∀b ∈ fp, ∀o, h.get? b=some o -> h'.get? b=some o) -> tn i h'
 item:∀(X:Cx), X.prog=P -> X.w=w -> X.K=K -> X.calm=true -> ∀(i:Nat) (pins:List (Addr × Obj)) (s:Shared) (σ:St) (H:Hp) (E:Value -> Shared -> Prop), Inv X pins σ H s -> (∀b ∈ fp, FpOk X pins H b) -> tn i s.heap -> J.go i H ->
  wpAny (model P w) X.A (pyNext (.ref it)) (fun r s1 => ∃u, r=some u /\
   wpAny (model P w) X.A (letOwnedTupleGo tg (.ref it) u) (fun _ s2 => ∃x H', Inv X pins σ H' s2 /\ RelV x u /\ J.yld i H x H' /\ tn (i+1) s2.heap /\ ∀b ∈ fp, H' b=none) E s1) E s
 done:∀(X:Cx), X.prog=P -> X.w=w -> X.K=K -> X.calm=true -> ∀(i:Nat) (pins:List (Addr × Obj)) (s:Shared) (σ:St) (H:Hp) (E:Value -> Shared -> Prop), Inv X pins σ H s -> (∀b ∈ fp, FpOk X pins H b) -> tn i s.heap -> J.stop i H ->
  wpAny (model P w) X.A (pyNext (.ref it)) (fun r s1 => r=none /\ Inv X pins σ H s1) E s
 self:∀(A:Around) (i:Nat) (s:Shared) (Q:Value -> Shared -> Prop) (E:Value -> Shared -> Prop), tn i s.heap -> Q (.ref it) s -> wpAny (model P w) A (pyIter (.ref it)) Q E s
abbrev TI :=St -> Hp -> (It -> Hp -> Prop) -> Prop
def PIE(X:Cx)(pins:List (Addr × Obj))(σ:St)(tg:Expr)(R:It -> Hp -> Prop)(itv:Value)(s2:Shared):Prop :=
 ∃(it:Addr) (fp:List Addr) (tn:Nat -> Heap -> Prop) (J:It) (H':Hp), itv = .ref it /\ Inv X pins σ H' s2 /\ Turn X.prog X.w X.K tg J fp it tn /\ tn 0 s2.heap /\ (∀b ∈ fp, FpOk X pins H' b) /\ R J H'
def PI(X:Cx)(tg iter:Expr)(wi:TI):Prop :=
 ∀(pins:List (Addr × Obj)) (s:Shared) (σ:St) (H:Hp) (R:It -> Hp -> Prop), Inv X pins σ H s -> wi σ H R ->
  wpAny (model X.prog X.w) X.A (eval iter X.env) (fun v s1 => wpAny (model X.prog X.w) X.A (pyIter v) (PIE X pins σ tg R) X.xe s1) X.xe s
theorem go_of{s:Shared}{it:Addr}{o:Obj}{n:String}{vs:Array Value}{Q:Unit -> Shared -> Prop}(ho:s.heap.get? it=some o)(hc:o.cls = .type n)(hd:o.data = .fields vs)
  (hn:["enumerate","zip","dict_itemiterator","dict_reverseitemiterator","odict_iterator","itertools.zip_longest","itertools.pairwise"].contains n=false) (hQ:Q () s):wpAny M A (letOwnedTupleGo tg (.ref it) u) Q E s :=by
 unfold letOwnedTupleGo
 cases tg<;>first
  |exact wpAny_pure hQ
  | (cases u<;>first
    |exact wpAny_pure hQ
    | (refine wpAny_bind (wpAny_load ho ?_)
       rw[hc, hd];show wpAny M A (if (["enumerate","zip","dict_itemiterator","dict_reverseitemiterator","odict_iterator","itertools.zip_longest","itertools.pairwise"].contains n&&vs[0]?==some (rawInt _))=true then _ else _) Q E s;rw[if_neg (by intro h;rw[hn, Bool.false_and]at h;cases h)];exact wpAny_pure hQ))
def Itl(K:PySem.W.Frag)(a:Addr):It :=
 ⟨fun i H => ∃xs x, SqL K H a xs /\ xs[i]?=some x, fun i H x H' => H'=H /\ ∀xs, SqL K H a xs -> xs[i]?=some x, fun i H => ∃xs, SqL K H a xs /\ xs.length ≤ i⟩
def Itt(K:PySem.W.Frag)(a:Addr):It :=
 ⟨fun i H => ∃xs x, SqT K H a xs /\ xs[i]?=some x, fun i H x H' => H'=H /\ ∀xs, SqT K H a xs -> xs[i]?=some x, fun i H => ∃xs, SqT K H a xs /\ xs.length ≤ i⟩
def Itr(lo:Int)(n:Nat):It :=⟨fun i _ => i<n, fun i H x H' => H'=H /\ x = .int (lo+i), fun i _ => n ≤ i⟩
theorem turn_list(a it:Addr):Turn P w K tg (Itl K a) [it] it (fun i h => h.IsListIter it a i) where
 mem :=by simp
 obj :=fun i h st b hb => by
  have e:b=it :=by simpa using hb
  subst e;obtain⟨o, e, c, d⟩ :=st;exact⟨o, e, fun v z => by rw[d]at z;cases z⟩
 keep :=fun i h h' st k => st.at fun o e => k it (by simp) o e
 item :=by
  intro X hP hw hK hc i pins s σ H E I hf st hg;subst hP hw hK;obtain⟨xs, x, hq, hx⟩ :=hg;obtain⟨its, rv, p, hz⟩ :=I.list hq;obtain⟨u, hu, ru⟩ :=rv.get hx;obtain⟨f0, f1, f2, f3, f4, f5⟩ :=hf it (by simp);refine wpAny_pyNext_list_item st p.isList (x :=u) (by simpa using hu) fun h' st' sb => ?_;have I1:Inv X pins σ H {s with heap :=h' } :=I.turned (t' :=s.toks) (fun b o hb e => (sb.2 b hb).trans e) f0 f1 f3 f4 f5;obtain⟨o, e, c, d⟩ :=id st';exact⟨u, rfl, go_of (s :={s with heap :=h' }) e c d (by decide) ⟨x, H, I1, ru, ⟨rfl, fun ys hy => by rw[I.list_inj hy hq];exact hx⟩, st', fun b hb => (hf b hb).1⟩⟩
 done :=by
  intro X hP hw hK hc i pins s σ H E I hf st hg;subst hP hw hK;obtain⟨xs, hq, hx⟩ :=hg;obtain⟨its, rv, p, hz⟩ :=I.list hq;obtain⟨f0, f1, f2, f3, f4, f5⟩ :=hf it (by simp);have hl :=rv.length;exact wpAny_pyNext_list_end (I.ok.hd hc) st p.isList (by simp;omega) fun h' eb => ⟨rfl, I.turned (t' :=s.toks) (fun b o hb e => eb b o hb e) f0 f1 f3 f4 f5⟩
 self :=fun _ _ _ _ _ st h => wpAny_pyIter_listiter st h
theorem turn_tuple(a it:Addr):Turn P w K tg (Itt K a) [it] it (fun i h => h.IsTupleIter it a i) where
 mem :=by simp
 obj :=fun i h st b hb => by
  have e:b=it :=by simpa using hb
  subst e;obtain⟨o, e, c, d⟩ :=st;exact⟨o, e, fun v z => by rw[d]at z;cases z⟩
 keep :=fun i h h' st k => st.at fun o e => k it (by simp) o e
 item :=by
  intro X hP hw hK hc i pins s σ H E I hf st hg;subst hP hw hK;obtain⟨xs, x, hq, hx⟩ :=hg;obtain⟨its, rv, p, hz⟩ :=I.tuple hq;obtain⟨u, hu, ru⟩ :=rv.get hx;obtain⟨f0, f1, f2, f3, f4, f5⟩ :=hf it (by simp);refine wpAny_pyNext_tuple_item st (show s.heap.IsTuple a its.toArray from p) (x :=u) (by simpa using hu) fun h' st' sb => ?_;have I1:Inv X pins σ H {s with heap :=h' } :=I.turned (t' :=s.toks) (fun b o hb e => (sb.2 b hb).trans e) f0 f1 f3 f4 f5;obtain⟨o, e, c, d⟩ :=id st';exact⟨u, rfl, go_of (s :={s with heap :=h' }) e c d (by decide) ⟨x, H, I1, ru, ⟨rfl, fun ys hy => by rw[I.tuple_inj hy hq];exact hx⟩, st', fun b hb => (hf b hb).1⟩⟩
 done :=by
  intro X hP hw hK hc i pins s σ H E I hf st hg;subst hP hw hK;obtain⟨xs, hq, hx⟩ :=hg;obtain⟨its, rv, p, hz⟩ :=I.tuple hq;obtain⟨f0, f1, f2, f3, f4, f5⟩ :=hf it (by simp);have hl :=rv.length;exact wpAny_pyNext_tuple_end (I.ok.hd hc) st (show s.heap.IsTuple a its.toArray from p) (by simp;omega) fun h' eb => ⟨rfl, I.turned (t' :=s.toks) (fun b o hb e => eb b o hb e) f0 f1 f3 f4 f5⟩
 self :=fun _ _ _ _ _ st h => wpAny_pyIter_tupleiter st h
theorem turn_range(it:Addr)(lo:Int)(n:Nat):Turn P w K tg (Itr lo n) [it] it (fun i h => IsRangeIter h it (lo+(i:Nat)*1) ((n:Int)-(i:Nat)) 1) where
 mem :=by simp
 obj :=fun i h st b hb => by
  have e:b=it :=by simpa using hb
  subst e;exact⟨_, st, fun v z => by
   have z':Data.fields _=Data.cell v :=z;cases z'⟩
 keep :=fun i h h' st k => k it (by simp) _ st
 item :=by
  intro X hP hw hK hc i pins s σ H E I hf st hg;subst hP hw hK;obtain⟨f0, f1, f2, f3, f4, f5⟩ :=hf it (by simp);have W :=Walks.range (prog :=X.prog) (w :=X.w) (I.ok.hd hc) it lo 1 n;refine W.item i s _ _ hg st fun v h' tk hv st' kk => ?_;obtain⟨t, rfl⟩ :=hv;have I1:Inv X pins σ H {s with heap :=h', toks :=tk} :=I.turned (fun b o hb e => kk b o (by simpa using hb) e) f0 f1 f3 f4 f5;refine⟨_, rfl, go_of (s :={s with heap :=h', toks :=tk}) (n := "range_iterator") st' rfl rfl (by decide) ⟨.int (lo+i), H, I1, ⟨t, ?_⟩, ⟨rfl, rfl⟩, st', fun b hb => (hf b hb).1⟩⟩;rw[Int.mul_one]
 done :=by
  intro X hP hw hK hc i pins s σ H E I hf st hg;subst hP hw hK;obtain⟨f0, f1, f2, f3, f4, f5⟩ :=hf it (by simp);exact wpAny_pyNext_range_end (I.ok.hd hc) st (by have:n ≤ i :=hg;omega) fun h' eb => ⟨rfl, I.turned (t' :=s.toks) (fun b o hb e => eb b o hb e) f0 f1 f3 f4 f5⟩
 self :=fun _ _ _ _ _ st h => wpAny_pyIter_rangeiter st h
section
variable {X:Cx}{tg:Expr}
theorem range_it{s:Shared}{R:It -> Hp -> Prop}{lo hi:Int}{t u v:Tok}{tk:Nat}(I:Inv X pins σ H s)(h1 : -(2^62) ≤ lo)(h2:lo<2^62)(h3 : -(2^62) ≤ hi)(h4:hi<2^62)
  (q:R (Itr lo (hi-lo).toNat) H):wpAny (model X.prog X.w) X.A (pyIter (.ref s.heap.objs.size)) (PIE X pins σ tg R) E {s with heap :=s.heap.push {cls :=.type "range", data :=.fields #[.int lo t, .int hi u, .int 1 v]}, toks :=tk} :=by
 refine wpAny_pyIter_range (IsRange.new ..) (small_one h1 h2 h3 h4) ?_;have I1:Inv X pins σ H {s with heap :=s.heap.push {cls :=.type "range", data :=.fields #[.int lo t, .int hi u, .int 1 v]}, toks :=tk} :=I.kept fun b o e => Heap.get?_push_of_some _ e;refine⟨(s.heap.push {cls :=.type "range", data :=.fields #[.int lo t, .int hi u, .int 1 v]}).objs.size, [(s.heap.push {cls :=.type "range", data :=.fields #[.int lo t, .int hi u, .int 1 v]}).objs.size], _, _, H, rfl,
  I1.kept (t' :=tk) fun b o e => Heap.get?_push_of_some _ e, turn_range _ lo (hi-lo).toNat, ?_, fun b hb => ?_, q⟩
 .have e1:lo+((0:Nat):Int)*1=lo :=by simp
  have e2:(((hi-lo).toNat:Nat):Int)-((0:Nat):Int)=Builtin.Range.rangeSize lo hi 1 :=by rw[rangeSize_one];split<;>omega
  show IsRangeIter _ _ (lo+((0:Nat):Int)*1) ((((hi-lo).toNat:Nat):Int)-((0:Nat):Int)) 1;rw[e1, e2];exact Heap.get?_push_size _ rfl
 .have e:b=(s.heap.push {cls :=.type "range", data :=.fields #[.int lo t, .int hi u, .int 1 v]}).objs.size :=by simpa using hb
  subst e;exact I1.fpOk (Nat.le_refl _) (I1.hok.fresh (Nat.le_refl _))
def iRng1(ta:TA):TI :=fun σ H R => ta σ H fun vs H1 => ∃j:Int, vs=[.int j] /\ -(2^62) ≤ j /\ j<2^62 /\ R (Itr 0 j.toNat) H1
theorem pi_range1{a:Expr}{ta:TA}{p:Pos}(hg:Gl X "range")(hm:X.mg "range" = none)(ha:PA X [a] ta)(hs:starEach [a] X.env=[(false, eval a X.env)] :=by rfl):PI X tg (.Call (.Name "range" p) [a] [] pos) (iRng1 ta) :=by
 intro pins s σ H R I h;refine Call_ (ld_blt I hg hm boot_range (PyProof.Rows.callWith_type1 (thn (ha pos pins s σ H _ I h) fun us s1 ⟨vs, H1, I1, r1, q1⟩ => ?_) hs rfl));obtain⟨j, e, q1, q2, q⟩ :=q1;subst e
 cases r1 with
 |cons r rr =>
  cases rr;obtain⟨t, rfl⟩ :=r;exact call_range_1 (range_it I1 (by omega) (by omega) q1 q2 (by simpa using q))
def tFor(wi:TI)(g:TG)(tb:TS):TS :=fun D σ H => wi σ H fun J H1 => ∃W:Nat -> Nat -> St -> Hp -> Prop, (∃m, W 0 m σ H1) /\ ∀i m σ H, W i m σ H ->
 (J.stop i H /\ D.nx σ H) \/ (J.go i H /\ ∃N:St -> Hp -> Prop, (∀σ' H', N σ' H' -> ∃m', m'<m /\ W (i+1) m' σ' H') /\ ∀x H', J.yld i H x H' -> g x σ H' fun σ2 H2 => tb {D with nx :=N, ct :=N, bk :=D.nx} σ2 H2)
def pinsAt(fp:List Addr)(h:Heap):List (Addr × Obj) :=fp.filterMap fun b => (h.get? b).map fun o => (b, o)
theorem mem_pinsAt{b:Addr}{o:Obj}(hb:b ∈ fp)(e:h.get? b=some o):(b, o) ∈ pinsAt fp h :=List.mem_filterMap.mpr ⟨b, hb, by rw[e];rfl⟩
theorem of_pinsAt{p:Addr × Obj}(hp:p ∈ pinsAt fp h):p.1 ∈ fp /\ h.get? p.1=some p.2 :=by
 obtain⟨b, hb, e⟩ :=List.mem_filterMap.mp hp
 cases q:h.get? b with
 |none => rw[q]at e;cases e
 |some o =>
  rw[q]at e;have e':(b, o)=p :=Option.some.inj e;subst e';exact⟨hb, q⟩
theorem Inv.pinned{s:Shared}(I:Inv X pins σ H s)(hf:∀b ∈ fp, FpOk X pins H b)(ho:∀b ∈ fp, ∃o, s.heap.get? b=some o /\ ∀v, o.data ≠ .cell v):Inv X (pins ++ pinsAt fp s.heap) σ H s :=
 I.pins_of fun p hp => (List.mem_append.mp hp).elim (fun z => I.pin p (List.mem_append_right _ z)) fun z => by
  obtain⟨hb, e⟩ :=of_pinsAt z;obtain⟨f0, f1, f2, _⟩ :=hf p.1 hb;obtain⟨o, e', d⟩ :=ho p.1 hb;rw[e]at e';cases e';exact⟨e, f0, f1, f2, d⟩
theorem Inv.unpinned{pl:List (Addr × Obj)}{s:Shared}(I:Inv X (pins ++ pl) σ H s):Inv X pins σ H s :=I.pins_of fun p hp => I.pin p (List.mem_append_right _ (List.mem_append_left _ hp))
theorem ps_for{iter:Expr}{wi:TI}{g:TG}{tb:TS}(hp:PassesOwn (model X.prog X.w) X.A X.env X.xe)(hc:X.calm=true)(hi:PI X tg iter wi)(hg:PG X tg g)(hb:PSs X body tb)
  (hs:∀x, foldedSetIterable iter X.env x=pure x :=by intro _;rfl):PS X (.For tg iter body [] pos) (tFor wi g tb) :=by
 intro pins s σ H D I h;refine wpAny_For (thn (hi pins s σ H _ I h) fun v s1 h1 => thn h1 fun itv s2 h2 => ?_) hs;obtain⟨it, fp, tn, J, H2, e, I2, T, st2, f2, W, ⟨m0, w0⟩, turn⟩ :=h2;subst e;have stat:∀{H':Hp}, (∀b ∈ fp, H' b=none) -> ∀b ∈ fp, FpOk X pins H' b :=fun hn b hb => ⟨hn b hb, (f2 b hb).2⟩;refine codeAny_forLoop_any (fun n s' => ∃i σ' H', Inv X pins σ' H' s' /\ tn i s'.heap /\ (∀b ∈ fp, H' b=none) /\ W i n σ' H') ?_ m0 ⟨0, σ, H2, I2, st2, fun b hb => (f2 b hb).1, w0⟩;rintro n s3 ⟨i, σ3, H3, I3, st3, fr3, w3⟩;rcases turn i n σ3 H3 w3 with⟨stop, qn⟩|⟨go, N, hN, step⟩
 .refine wpAny_passesOwn hp (thn (T.done X rfl rfl rfl hc i pins s3 σ3 H3 X.xe I3 (stat fr3) st3 stop) fun r s4 ⟨hr, I4⟩ => ?_);subst hr;exact wpAny_execs_nil ⟨σ3, H3, I4, qn⟩
 .refine wpAny_passesOwn hp (thn (T.item X rfl rfl rfl hc i pins s3 σ3 H3 X.xe I3 (stat fr3) st3 go) fun r s4 ⟨u, hr, h4⟩ => ?_);subst hr;refine wpAny_passesOwn hp (thn h4 fun _ s5 ⟨x, H5, I5, r5, y5, st5, fr5⟩ => ?_);have I5' :=I5.pinned (stat fr5) (T.obj _ _ st5);refine wpAny_passesOwn hp (thn (hg _ s5 σ3 H5 x u _ I5' r5 (step x H5 y5)) fun _ s6 ⟨σ6, H6, I6, q6⟩ => ?_);refine wpAny_passesOwn hp (thn (hb _ s6 σ6 H6 _ I6 q6) fun f s7 q7 => ?_);have again:∀{σ7:St}{H7:Hp}, Inv X (pins ++ pinsAt fp s5.heap) σ7 H7 s7 -> N σ7 H7 -> ∃m, m<n /\ ∃i σ' H', Inv X pins σ' H' s7 /\ tn i s7.heap /\ (∀b ∈ fp, H' b=none) /\ W i m σ' H' :=fun {σ7 H7} I7 n7 => by
   obtain⟨m', hm, w7⟩ :=hN σ7 H7 n7;refine⟨m', hm, i+1, σ7, H7, I7.unpinned, T.keep _ _ _ st5 fun b hb o e => (I7.pin (b, o) (List.mem_append_right _ (List.mem_append_right _ (mem_pinsAt hb e)))).1, fun b hb => ?_, w7⟩;obtain⟨o, e, d⟩ :=T.obj _ _ st5 b hb;exact(I7.pin (b, o) (List.mem_append_right _ (List.mem_append_right _ (mem_pinsAt hb e)))).2.1
  cases f with
  |next => obtain⟨σ7, H7, I7, n7⟩ :=q7;exact again I7 n7
  |cont => obtain⟨σ7, H7, I7, n7⟩ :=q7;exact again I7 n7
  |brk => obtain⟨σ7, H7, I7, q7⟩ :=q7;exact⟨σ7, H7, I7.unpinned, q7⟩
  |ret v => obtain⟨x7, σ7, H7, I7, r7, q7⟩ :=q7;exact⟨x7, σ7, H7, I7.unpinned, r7, q7⟩
end
abbrev R2 :=V -> V -> Hp -> VK -> Prop
def OpR(X:Cx)(f:Value -> Value -> Sem Value)(r:R2):Prop :=
 ∀(pins:List (Addr × Obj)) (s:Shared) (σ:St) (H:Hp) (x y:V) (v u:Value) (Q:VK), Inv X pins σ H s -> RelV x v -> RelV y u -> r x y H Q ->
  wpAny (model X.prog X.w) X.A (f v u) (EP X pins σ Q) X.xe s
def UnR(X:Cx)(f:Value -> Sem Value)(r:V -> Hp -> VK -> Prop):Prop :=
 ∀(pins:List (Addr × Obj)) (s:Shared) (σ:St) (H:Hp) (x:V) (v:Value) (Q:VK), Inv X pins σ H s -> RelV x v -> r x H Q ->
  wpAny (model X.prog X.w) X.A (f v) (EP X pins σ Q) X.xe s
def CallR(X:Cx)(f:Value)(r:List V -> Hp -> VK -> Prop):Prop :=
 ∀(pins:List (Addr × Obj)) (s:Shared) (σ:St) (H:Hp) (xs:List V) (us:List Value) (Q:VK), Inv X pins σ H s -> Vals xs us -> r xs H Q ->
  wpAny (model X.prog X.w) X.A (call f us) (EP X pins σ Q) X.xe s
def tOp(r:R2)(ta tb:TE):TE :=fun σ H Q => ta σ H fun x H1 => tb σ H1 fun y H2 => r x y H2 Q
def tUn(r:V -> Hp -> VK -> Prop)(ta:TE):TE :=fun σ H Q => ta σ H fun x H1 => r x H1 Q
def rI(C:Int -> Int -> Prop)(g:Int -> Int -> V):R2 :=fun x y H Q => ∃i j, x = .int i /\ y = .int j /\ C i j /\ Q (g i j) H
def rI0(g:Int -> Int -> V):R2 :=fun x y H Q => ∃i j, x = .int i /\ y = .int j /\ Q (g i j) H
def rU(g:Int -> V):V -> Hp -> VK -> Prop :=fun x H Q => ∃i, x = .int i /\ Q (g i) H
section
variable {X:Cx}{a b c:Expr}{ta tb tc:TE}{pos:Pos}
theorem binT(ha:PE X a ta)(hb:PE X b tb){s:Shared}{R:V -> V -> Hp -> Prop}(I:Inv X pins σ H s)
  (h:ta σ H fun x H1 => tb σ H1 fun y H2 => R x y H2) 
  (hf:∀v u s2 x y H2, Inv X pins σ H2 s2 -> RelV x v -> RelV y u -> R x y H2 -> wpAny (model X.prog X.w) X.A (f v u) Q X.xe s2) :
  wpAny (model X.prog X.w) X.A (eval a X.env) (fun v s₁ => wpAny (model X.prog X.w) X.A (eval b X.env) (fun u s₂ => wpAny (model X.prog X.w) X.A (f v u) Q X.xe s₂) X.xe s₁) X.xe s :=by
 refine thn (ha pins s σ H _ I h) fun v s1 ⟨x, H1, I1, r1, q1⟩ => ?_;refine thn (hb pins s1 σ H1 _ I1 q1) fun u s2 ⟨y, H2, I2, r2, q2⟩ => ?_;exact hf v u s2 x y H2 I2 r1 r2 q2
theorem pe_op{op:Operator}(ho:OpR X (binaryOp op) r)(ha:PE X a ta)(hb:PE X b tb):PE X (.BinOp a op b pos) (tOp r ta tb) :=by
 intro pins s σ H Q I h;exact wpAny_BinOp (binT ha hb I h fun v u s2 x y H2 I2 rx ry q => ho pins s2 σ H2 x y v u Q I2 rx ry q)
theorem pe_un{op:UnaryOp}{r:V -> Hp -> VK -> Prop}(ho:UnR X (unaryOp op) r)(ha:PE X a ta):PE X (.UnaryOp op a pos) (tUn r ta) :=by
 intro pins s σ H Q I h;exact UnaryOp_ (thn (ha pins s σ H _ I h) fun v s1 ⟨x, H1, I1, r1, q1⟩ => ho pins s1 σ H1 x v Q I1 r1 q1)
theorem opI{C:Int -> Int -> Prop}
  (rule:∀(i j:Int) (t u:Tok) (s:Shared) (Q:Value -> Shared -> Prop) (E:Value -> Shared -> Prop), C i j -> Q (.int (g i j) s.toks) {s with toks :=s.toks+1} -> wpAny (model X.prog X.w) X.A (f (.int i t) (.int j u)) Q E s) :
  OpR X f (rI C fun i j => .int (g i j)) :=by
 intro pins s σ H x y v u Q I rx ry h;obtain⟨i, j, rfl, rfl, hc, q⟩ :=h;obtain⟨t, rfl⟩ :=rx;obtain⟨t', rfl⟩ :=ry;exact rule i j t t' s _ _ hc ⟨.int (g i j), H, I.tok _, ⟨_, rfl⟩, q⟩
theorem opI0
  (rule:∀(i j:Int) (t u:Tok) (s:Shared) (Q:Value -> Shared -> Prop) (E:Value -> Shared -> Prop), Q (.int (g i j) s.toks) {s with toks :=s.toks+1} -> wpAny (model X.prog X.w) X.A (f (.int i t) (.int j u)) Q E s) :
  OpR X f (rI0 fun i j => .int (g i j)) :=by
 intro pins s σ H x y v u Q I rx ry h;obtain⟨i, j, rfl, rfl, q⟩ :=h;obtain⟨t, rfl⟩ :=rx;obtain⟨t', rfl⟩ :=ry;exact rule i j t t' s _ _ ⟨.int (g i j), H, I.tok _, ⟨_, rfl⟩, q⟩
theorem opB0{g:Int -> Int -> Bool}
  (rule:∀(i j:Int) (t u:Tok) (s:Shared) (Q:Value -> Shared -> Prop) (E:Value -> Shared -> Prop), Q (.bool (g i j)) s -> wpAny (model X.prog X.w) X.A (f (.int i t) (.int j u)) Q E s) :
  OpR X f (rI0 fun i j => .bl (g i j)) :=by
 intro pins s σ H x y v u Q I rx ry h;obtain⟨i, j, rfl, rfl, q⟩ :=h;obtain⟨t, rfl⟩ :=rx;obtain⟨t', rfl⟩ :=ry;exact rule i j t t' s _ _ ⟨.bl (g i j), H, I, rfl, q⟩
def CPow(i j:Int):Prop :=0 ≤ j /\ j ≤ 1000000 /\ i.natAbs<2^64
def CMul(i j:Int):Prop :=(-(2^64)<i /\ i<2^64) \/ (-(2^64)<j /\ j<2^64)
theorem CMul.ok{i j:Int}(h:CMul i j):IntMulOk i j :=by
 rcases h with⟨h1, h2⟩|⟨h1, h2⟩
 .exact .of_left (intBits_le_64 h1 h2)
 .exact .of_right (intBits_le_64 h1 h2)
theorem op_add:OpR X (binaryOp .Add) (rI0 fun i j => .int (i+j)) :=opI0 fun _ _ _ _ _ _ _ q => add_int q
theorem op_mod:OpR X (binaryOp .Mod) (rI (fun _ j => 0<j) fun i j => .int (i%j)) :=opI fun i j _ _ _ _ _ hc q => by
 have h1:(0:Int)<j :=hc;exact mod_int' (by omega) (by rw[Int.fmod_eq_emod_of_nonneg i (by omega)];exact q)
theorem op_pow:OpR X (binaryOp .Pow) (rI CPow fun i j => .int (i^j.toNat)) :=opI fun _ _ _ _ _ _ _ hc q => pow_int_small hc.1 hc.2.1 hc.2.2 q
theorem unI{f:Value -> Sem Value}{g:Int -> Int}
  (rule:∀(i:Int) (t:Tok) (s:Shared) (Q:Value -> Shared -> Prop) (E:Value -> Shared -> Prop), Q (.int (g i) s.toks) {s with toks :=s.toks+1} -> wpAny (model X.prog X.w) X.A (f (.int i t)) Q E s) :
  UnR X f (rU fun i => .int (g i)) :=by
 intro pins s σ H x v Q I rx h;obtain⟨i, rfl, q⟩ :=h;obtain⟨t, rfl⟩ :=rx;exact rule i t s _ _ ⟨.int (g i), H, I.tok _, ⟨_, rfl⟩, q⟩
theorem un_neg:UnR X (unaryOp .USub) (rU fun i => .int (-i)) :=unI fun _ _ _ _ _ q => neg_int q
end
def scal:V -> V -> Bool
 | .non, .non => true | .non, .int _ => true | .int _, .non => true | .non, .bl _ => true | .bl _, .non => true | .non, .str _ => true | .str _, .non => true
 | .int _, .int _ => true | .bl _, .bl _ => true | .str _, .str _ => true | .byt _, .byt _ => true
 | .int _, .str _ => true | .str _, .int _ => true | .bl _, .str _ => true | .str _, .bl _ => true
 |_, _ => false
def rEq:R2 :=fun x y H Q => scal x y=true /\ Q (.bl (decide (x=y))) H
def rNe:R2 :=fun x y H Q => scal x y=true /\ Q (.bl (!decide (x=y))) H
theorem dec_int{i j:Int}:decide (V.int i=V.int j)=(i==j) :=by
 rw[Bool.eq_iff_iff];simp
theorem dec_bl{i j:Bool}:decide (V.bl i=V.bl j)=(i==j) :=by
 rw[Bool.eq_iff_iff];simp
theorem dec_str{i j:Str}:decide (V.str i=V.str j)=(i==j) :=by
 rw[Bool.eq_iff_iff];simp
theorem dec_byt{i j:Array UInt8}:decide (V.byt i=V.byt j)=(i.toList==j.toList) :=by
 rw[Bool.eq_iff_iff];cases i;cases j;simp
section
variable {X:Cx}{a b c:Expr}{ta tb tc:TE}{pos:Pos}
theorem fin_bl{s:Shared}{Q:VK}{k k':Bool}(I:Inv X pins σ H s)(q:Q (.bl k) H)(e:k=k'):EP X pins σ Q (.bool k') s :=by
 subst e;exact⟨.bl k, H, I, rfl, q⟩
theorem op_eq:OpR X (compareOp .Eq) rEq :=by
 intro pins s σ H x y v u Q I rx ry h;obtain⟨hs, q⟩ :=h
 cases x with
 |non =>
  cases rx
  cases y with
  |non => cases ry;exact PySem.EqNone.eq_none_none (fin_bl I q (by simp))
  |bl j => cases ry;exact PySem.EqNone.eq_none_bool (fin_bl I q (by simp))
  |int j => obtain⟨t', rfl⟩ :=ry;exact PySem.EqNone.eq_none_int (fin_bl I q (by simp))
  |str j => obtain⟨t', rfl⟩ :=ry;exact PySem.EqNone.eq_none_str (fin_bl I q (by simp))
  |_ => exact absurd (show false=true from hs) Bool.false_ne_true
 |bl i =>
  cases rx
  cases y with
  |non => cases ry;exact PySem.EqNone.eq_bool_none (fin_bl I q (by simp))
  |bl j => cases ry;exact eq_bool (fin_bl I q dec_bl)
  |str j => obtain⟨t', rfl⟩ :=ry;exact PySem.EqMixed.eq_bool_str (fin_bl I q (by simp))
  |_ => exact absurd (show false=true from hs) Bool.false_ne_true
 |int i =>
  obtain⟨t, rfl⟩ :=rx
  cases y with
  |non => cases ry;exact PySem.EqNone.eq_int_none (fin_bl I q (by simp))
  |int j => obtain⟨t', rfl⟩ :=ry;exact eq_int (fin_bl I q dec_int)
  |str j => obtain⟨t', rfl⟩ :=ry;exact PySem.EqMixed.eq_int_str (fin_bl I q (by simp))
  |_ => exact absurd (show false=true from hs) Bool.false_ne_true
 |str i =>
  obtain⟨t, rfl⟩ :=rx
  cases y with
  |non => cases ry;exact PySem.EqNone.eq_str_none (fin_bl I q (by simp))
  |bl j => cases ry;exact PySem.EqMixed.eq_str_bool (fin_bl I q (by simp))
  |int j => obtain⟨t', rfl⟩ :=ry;exact PySem.EqMixed.eq_str_int (fin_bl I q (by simp))
  |str j => obtain⟨t', rfl⟩ :=ry;exact eq_str (fin_bl I q dec_str)
  |_ => exact absurd (show false=true from hs) Bool.false_ne_true
 |byt i =>
  obtain⟨t, rfl⟩ :=rx
  cases y with
  |byt j => obtain⟨t', rfl⟩ :=ry;exact PySem.W.eq_bytes (fin_bl I q dec_byt)
  |_ => exact absurd (show false=true from hs) Bool.false_ne_true
 |_ => cases y<;>exact absurd (show false=true from hs) Bool.false_ne_true
theorem op_ne:OpR X (compareOp .NotEq) rNe :=by
 intro pins s σ H x y v u Q I rx ry h;obtain⟨hs, q⟩ :=h
 cases x with
 |non =>
  cases rx
  cases y with
  |non => cases ry;exact PySem.EqNone.ne_none_none (fin_bl I q (by simp))
  |bl j => cases ry;exact PySem.EqNone.ne_none_bool (fin_bl I q (by simp))
  |int j => obtain⟨t', rfl⟩ :=ry;exact PySem.EqNone.ne_none_int (fin_bl I q (by simp))
  |str j => obtain⟨t', rfl⟩ :=ry;exact PySem.EqNone.ne_none_str (fin_bl I q (by simp))
  |_ => exact absurd (show false=true from hs) Bool.false_ne_true
 |bl i =>
  cases rx
  cases y with
  |non => cases ry;exact PySem.EqNone.ne_bool_none (fin_bl I q (by simp))
  |bl j => cases ry;exact ne_bool (fin_bl I q (congrArg not dec_bl))
  |str j => obtain⟨t', rfl⟩ :=ry;exact PySem.EqMixed.ne_bool_str (fin_bl I q (by simp))
  |_ => exact absurd (show false=true from hs) Bool.false_ne_true
 |int i =>
  obtain⟨t, rfl⟩ :=rx
  cases y with
  |non => cases ry;exact PySem.EqNone.ne_int_none (fin_bl I q (by simp))
  |int j => obtain⟨t', rfl⟩ :=ry;exact ne_int (fin_bl I q (congrArg not dec_int))
  |str j => obtain⟨t', rfl⟩ :=ry;exact PySem.EqMixed.ne_int_str (fin_bl I q (by simp))
  |_ => exact absurd (show false=true from hs) Bool.false_ne_true
 |str i =>
  obtain⟨t, rfl⟩ :=rx
  cases y with
  |non => cases ry;exact PySem.EqNone.ne_str_none (fin_bl I q (by simp))
  |bl j => cases ry;exact PySem.EqMixed.ne_str_bool (fin_bl I q (by simp))
  |int j => obtain⟨t', rfl⟩ :=ry;exact PySem.EqMixed.ne_str_int (fin_bl I q (by simp))
  |str j => obtain⟨t', rfl⟩ :=ry;exact ne_str (fin_bl I q (congrArg not dec_str))
  |_ => exact absurd (show false=true from hs) Bool.false_ne_true
 |byt i =>
  obtain⟨t, rfl⟩ :=rx
  cases y with
  |byt j => obtain⟨t', rfl⟩ :=ry;exact PySem.W.ne_bytes (fin_bl I q (congrArg not dec_byt))
  |_ => exact absurd (show false=true from hs) Bool.false_ne_true
 |_ => cases y<;>exact absurd (show false=true from hs) Bool.false_ne_true
theorem op_lt:OpR X (compareOp .Lt) (rI0 fun i j => .bl (decide (i<j))) :=opB0 fun _ _ _ _ _ _ _ q => lt_int q
theorem op_le:OpR X (compareOp .LtE) (rI0 fun i j => .bl (decide (i ≤ j))) :=opB0 fun _ _ _ _ _ _ _ q => le_int q
theorem op_gt:OpR X (compareOp .Gt) (rI0 fun i j => .bl (decide (j<i))) :=opB0 fun _ _ _ _ _ _ _ q => gt_int q
theorem op_ge:OpR X (compareOp .GtE) (rI0 fun i j => .bl (decide (j ≤ i))) :=opB0 fun _ _ _ _ _ _ _ q => ge_int q
theorem op_notN:OpR X (compareOp .IsNot) (fun x y H Q => y = .non /\ Q (.bl (!decide (x = .non))) H) :=by
 intro pins s σ H x y v u Q I rx ry h;obtain⟨rfl, q⟩ :=h;cases ry;refine isnot_none_gen (fin_bl I q ?_)
 cases x<;>first
  |(cases rx;rfl)
  |(obtain⟨t, rfl⟩ :=rx;rfl)
theorem nomark(b:Expr)(h:op ≠ .In :=by decide)(h2:op ≠ .NotIn :=by decide):behindInMarks op b=false :=by
 have e1:(op==CmpOp.In)=false :=by cases op<;>first|rfl|exact absurd rfl h
 have e2:(op==CmpOp.NotIn)=false :=by cases op<;>first|rfl|exact absurd rfl h2
 cases b<;>simp[behindInMarks, e1, e2]
theorem pe_cmpR(ho:OpR X (compareOp op) r)(ha:PE X a ta)(hb:PE X b tb)(hm:behindInMarks op b=false):PE X (.Compare a [op] [b] pos) (tOp r ta tb) :=by
 intro pins s σ H Q I h;exact wpAny_Compare1 (binT ha hb I h fun v u s2 x y H2 I2 rx ry q => ho pins s2 σ H2 x y v u Q I2 rx ry q) hm
def tTest(t:TE):TT :=fun σ H Q => t σ H fun x H' => ∃k, x = .bl k /\ Q k H'
theorem pt_cmpR(ho:OpR X (compareOp op) r)(ha:PE X a ta)(hb:PE X b tb)(hm:behindInMarks op b=false):PT X (.Compare a [op] [b] pos) (tTest (tOp r ta tb)) :=by
 intro pins s σ H Q I h;refine wpAny_isTrue_Compare1 (thn (ha pins s σ H _ I h) fun v s1 ⟨x, H1, I1, r1, q1⟩ => thn (hb pins s1 σ H1 _ I1 q1) fun u s2 ⟨y, H2, I2, r2, q2⟩ =>
  thn (ho pins s2 σ H2 x y v u _ I2 r1 r2 q2) fun c s3 ⟨z, H3, I3, r3, k, e, q3⟩ => ?_) hm
 subst e;cases r3;exact wpAny_truthy_bool ⟨H3, I3, q3⟩
theorem line63:(sizeLine:Nat)<2^63 :=by rw[sizeLine_eq];decide
theorem op_add_str:OpR X (binaryOp .Add) (fun x y H Q => ∃i j, x = .str i /\ y = .str j /\ i.length+j.length ≤ sizeLine /\ Q (.str (i ++ j)) H) :=by
 intro pins s σ H x y v u Q I rx ry h;obtain⟨i, j, rfl, rfl, hz, q⟩ :=h;obtain⟨t, rfl⟩ :=rx;obtain⟨t', rfl⟩ :=ry;exact add_str (fun t' tk => ⟨.str (i ++ j), H, I.tok _, ⟨_, rfl⟩, q⟩) hz
theorem vals1{x:V}(r:Vals [x] us):∃u, us=[u] /\ RelV x u :=by
 cases r with
 |cons r1 r2 => cases r2;exact⟨_, rfl, r1⟩
theorem call_abs:CallR X (.builtin "abs") (fun xs H Q => ∃i, xs=[.int i] /\ Q (.int (if i<0 then -i else i)) H) :=by
 intro pins s σ H xs us Q I r h;obtain⟨i, rfl, q⟩ :=h;obtain⟨u, rfl, t, rfl⟩ :=vals1 r;exact call_abs_int fun u tk => ⟨.int (if i<0 then -i else i), H, I.tok _, ⟨_, rfl⟩, q⟩
theorem call_int1:CallR X (.type "int") (fun xs H Q => (∃i, xs=[.int i] /\ Q (.int i) H) \/ ∃k, xs=[.bl k] /\ Q (.int (if k then 1 else 0)) H) :=by
 intro pins s σ H xs us Q I r h;rcases h with⟨i, rfl, q⟩|⟨k, rfl, q⟩
 .obtain⟨u, rfl, t, rfl⟩ :=vals1 r;exact call_int_int ⟨.int i, H, I, ⟨_, rfl⟩, q⟩
 .obtain⟨u, rfl, r1⟩ :=vals1 r;cases r1;exact call_int_bool ⟨.int (if k then 1 else 0), H, I.tok _, ⟨_, rfl⟩, q⟩
end
theorem RelO.some_of{v:V}{o:Option Value}(r:RelO (some v) o):∃u, o=some u /\ RelV v u :=by
 cases o with
 |none => exact(show False from r).elim
 |some u => exact⟨u, rfl, r⟩
structure Room(k:Nat)(A:Around):Prop where
 hd:A.handled=none
 dp:A.depth+3*k+5<recursionLimit
 un:A.units+16*k+200<cLine
 gd:A.guards=some []
theorem Room.mono(r:Room k A)(h:j ≤ k):Room j A :=⟨r.hd, by have :=r.dp;omega, by have :=r.un;omega, r.gd⟩
theorem Room.deeper(r:Room (k+1) A)(env:Env):Room k (A.deeper env) :=
 ⟨r.hd, by have :=r.dp;show A.depth+1+3*k+5<_;omega, by have :=r.un;show A.units+3+16*k+200<_;omega, r.gd⟩
theorem Room.depth(r:Room k A):A.depth<recursionLimit :=by have :=r.dp;omega
theorem Room.units(r:Room k A):A.units+64<cLine :=by have :=r.un;omega
def tNil:TA :=fun _ H Q => Q [] H
def tCons(ta:TE)(tr:TA):TA :=fun σ H Q => ta σ H fun x H1 => tr σ H1 fun xs H2 => Q (x::xs) H2
section
variable {X:Cx}{e:Expr}{es:List Expr}{te:TE}{t:TA}{pos:Pos}
theorem pa_nil:PA X [] tNil :=fun _ _ _ _ H Q I h => Calls.spliced_nil ⟨[], H, I, .nil, h⟩
theorem pa_cons(ha:PE X e te)(hr:PA X es t)(hs:starEach (e::es) X.env=(false, eval e X.env)::starEach es X.env :=by rfl):PA X (e::es) (tCons te t) :=by
 intro pos pins s σ H Q I h;rw[hs];show wpAny _ _ (spliced ((false, eval e X.env)::backTo pos (starEach es X.env))) _ _ s;refine Calls.spliced_cons (thn (ha pins s σ H _ I h) fun u s1 ⟨x, H1, I1, r1, q1⟩ => ?_);exact thn (hr pos pins s1 σ H1 _ I1 q1) fun us s2 ⟨xs, H2, I2, r2, q2⟩ => ⟨x::xs, H2, I2, .cons r1 r2, q2⟩
def tTup(t:TA):TE :=fun σ H Q => t σ H fun xs H1 => xs.length ≤ sizeLine /\ ∀p, H1 p=none -> Q (.ref p) (upd H1 p (.tup xs))
def tLst(t:TA):TE :=fun σ H Q => t σ H fun xs H1 => xs.length ≤ sizeLine /\ ∀p, H1 p=none -> Q (.ref p) (upd H1 p (.lst xs))
theorem pe_tup{x1}(h:PA X es t):PE X (.Tuple es x1 pos) (tTup t) :=by
 intro pins s σ H Q I hq;refine wpAny_Tuple_spliced (thn (h pos pins s σ H _ I hq) fun us s1 ⟨xs, H1, I1, r, z, q⟩ => ⟨by rw[<- r.length];exact z, ?_⟩);have hf:H1 s1.heap.objs.size=none :=I1.hok.fresh (Nat.le_refl _);refine⟨.ref s1.heap.objs.size, upd H1 s1.heap.objs.size (.tup xs), I1.laid (t' :=s1.toks) (fun b u e => Heap.get?_push_of_some _ e) (Nat.le_refl _) ?_, rfl, q _ hf⟩;exact⟨z, us, r, ⟨_, Heap.get?_push_size _ rfl, rfl, rfl, _, rfl⟩⟩
theorem pe_lst(h:PA X es t):PE X (.List es pos) (tLst t) :=by
 intro pins s σ H Q I hq;refine wpAny_List_spliced (thn (h pos pins s σ H _ I hq) fun us s1 ⟨xs, H1, I1, r, z, q⟩ => ⟨by rw[<- r.length];exact z, ?_⟩);have hf:H1 s1.heap.objs.size=none :=I1.hok.fresh (Nat.le_refl _);refine⟨.ref s1.heap.objs.size, upd H1 s1.heap.objs.size (.lst xs), I1.laid (t' :=s1.toks) (fun b u e => Heap.get?_push_of_some _ e) (Nat.le_refl _) ?_, rfl, q _ hf⟩;exact⟨z, us, 0, r, Heap.get?_push_size _ rfl⟩
end
abbrev Sp :=List V -> Hp -> VK -> XK -> Prop
abbrev CXT :=List Env -> Hp -> Shared -> XK -> Value -> Shared -> Prop
structure Env0(P:Program)(w:World)(K:PySem.W.Frag)(mg:Str -> Option Value)(base:Heap)(A:Around)(outer:List Env)(s:Shared)(H:Hp):Prop where
 frames:A.frames=some outer
 mod:Mod K mg base
 bs:∀b o, base.get? b=some o -> s.heap.get? b=some o /\ H b=none
 bsz:base.objs.size ≤ s.heap.objs.size
 funs:s.heap.FunFrames base outer
 frf:∀b ∈ frs outer, H b=none
 hok:HOk P w H s.heap
 bare:AllBare s.gens
def CE(outer:List Env)(P:Program)(w:World)(H:Hp)(s:Shared)(Q:VK)(u:Value)(s':Shared):Prop :=
 ∃v H', s'.os=s.os /\ AllBare s'.gens /\ Un (frs outer) [] H H' s.heap s'.heap /\ HOk P w H' s'.heap /\ RelV v u /\ Q v H'
def CR(CX:CXT)(outer:List Env)(P:Program)(w:World)(H:Hp)(s:Shared)(Q:VK)(E:XK)(r:Result)(s':Shared):Prop :=
 match r with
 | .ok (.ret u) => CE outer P w H s Q u s'
 | .ok _ => False
 | .error e => CX outer H s E e s'
structure FnOk(P:Program)(w:World)(K:PySem.W.Frag)(mg:Str -> Option Value)(base:Heap)(CX:CXT)(k:Nat)(f:Addr)(fd:FuncData)(ps:List Str)(sp:Sp):Prop where
 len:∀vs H Q E, sp vs H Q E -> vs.length=ps.length
 run:∀(A:Around) (outer:List Env) (s:Shared) (H:Hp) (args:Args) (us:List Value) (vs:List V) (Q:VK) (E:XK), Room k A -> Env0 P w K mg base A outer s H -> BindsTo s fd args (ps.zip us) -> Vals vs us -> sp vs H Q E ->
  codeAny (model P w) A (.call (.ref f) args) (CR CX outer P w H s Q E) s
section
variable {X:Cx}{pins:List (Addr × Obj)}{σ:St}{H:Hp}{s s':Shared}
theorem Inv.env0(I:Inv X pins σ H s):Env0 X.prog X.w X.K X.mg X.base X.A X.stack s H :=
 ⟨I.ok.frames, I.ok.mod, I.bs, Nat.le_trans I.ok.bsz I.sz, I.stack, I.stkFree, I.hok, I.bare⟩
theorem Inv.after{Q:VK}(I:Inv X pins σ H s)(h:CE X.stack X.prog X.w H s Q u s'):EP X pins σ Q u s' :=by
 obtain⟨v, H', os, bare, un, hok, r, q⟩ :=h;obtain⟨hh, g, d, t, os'⟩ :=s';obtain rfl:os'=s.os :=os;exact⟨v, H', I.call (h' :=hh) (g' :=g) (d' :=d) (t' :=t) (ch :=[]) un hok bare (fun b z => absurd z (by simp)), r, q⟩
end
def tCall(sp:Sp)(dvs:List V)(E:XK)(t:TA):TE :=fun σ H Q => t σ H fun vs H1 => sp (vs ++ dvs) H1 Q E
def Binds(K:PySem.W.Frag)(fd:FuncData)(ps:List Str)(ds:List Value):Prop :=
 ∀(s:Shared) (us:List Value), K.In s.heap -> (us ++ ds).length=ps.length -> BindsTo s fd ⟨us, []⟩ (ps.zip (us ++ ds))
theorem Binds.all{fd:FuncData}(h:∀us:List Value, us.length=ps.length -> bindArgs fd ⟨us, []⟩=pure (ps.zip us)):Binds K fd ps [] :=fun s us _ hl => by
 rw[List.append_nil]at hl⊢;exact .of_eq (h us hl)
def Passes(CX:CXT)(X:Cx)(E:XK):Prop :=∀(pins:List (Addr × Obj)) (σ:St) (H:Hp) (s:Shared) (e:Value) (s':Shared), Inv X pins σ H s -> CX X.stack H s E e s' -> X.xe e s'
section
variable {X:Cx}{CX:CXT}{k:Nat}{f C:Addr}{fd:FuncData}{ps:List Str}{sp:Sp}{dvs:List V}{ds:List Value}{E:XK}{x m:Str}{p pos apos:Pos}{e o:Expr}{es:List Expr}{ta:TE}{t:TA}
theorem run_fn{s:Shared}{Q:VK}{vs:List V}(F:FnOk X.prog X.w X.K X.mg X.base CX k f fd ps sp)(hr:Room k X.A)(hb:Binds X.K fd ps ds)(hd:Vals dvs ds)(hx:Passes CX X E)
  (I:Inv X pins σ H s) (r:Vals vs us) (h:sp (vs ++ dvs) H Q E):wpAny (model X.prog X.w) X.A (call (.ref f) us) (EP X pins σ Q) X.xe s :=by
 have r2:Vals (vs ++ dvs) (us ++ ds) :=r.append hd;have hl:(us ++ ds).length=ps.length :=by rw[<- r2.length];exact F.len _ _ _ _ h
 refine wpAny_call (codeAny_mono (F.run X.A X.stack s H ⟨us, []⟩ (us ++ ds) (vs ++ dvs) Q E hr I.env0 (hb s us I.kIn hl) r2 h) fun r s' hq => ?_)
 cases r with
 |error e => exact hx pins σ H s e s' I hq
 |ok fl =>
  cases fl with
  |ret u => exact I.after hq
  |next => exact False.elim hq
  |brk => exact False.elim hq
  |cont => exact False.elim hq
theorem pe_call(F:FnOk X.prog X.w X.K X.mg X.base CX k f fd ps sp)(hr:Room k X.A)(hg:Gl X x)(hm:X.mg x=some (.ref f))(hk:PySem.W.keepIn X.K (.ref f)=true)(hb:Binds X.K fd ps ds)(hd:Vals dvs ds)(hx:Passes CX X E)
  (ha:PA X (e::es) t) (hdb:(x==("__debug__" : Str))=false :=by decide) (he:starEach (e::es) X.env=(false, eval e X.env)::starEach es X.env :=by rfl) (hpl:(backTo pos (starEach es X.env)).any (·.1)=false :=by rfl) :
  PE X (.Call (.Name x p) (e::es) [] pos) (tCall sp dvs E t) :=by
 intro pins s σ H Q I h;refine wpAny_Call_Name_kw (ld_glob I hg hm ?_ hdb);refine PySem.W.callWith_K (h₀ :=X.base) I.ok.mod.kin hk (thn (ha pos pins s σ H _ I h) fun us s1 ⟨vs, H1, I1, r, q⟩ => ⟨I1.kIn, ?_⟩) he hpl;exact run_fn F hr hb hd hx I1 r q
end
structure FnScope(N P:List Str)(sc:Scope):Prop where
 kind:sc.kind = .function
 co:sc.isCoroutine=false
 gen:sc.isGenerator=false
 nd:N.Nodup
 pre:N.take P.length=P
 par:∀x ∈ P, sc.names.lookup x=some .local \/ sc.names.lookup x=some .cell
 nofree:∀y ∈ sc.names, y.2 ≠ .free
theorem bindL_out{kindOf:Str -> Option NameKind}{x:Str}:∀{binds:List (Str × Value)}{m:Str -> Option Value}, (∀v, (x, v) ∉ binds) -> bindL kindOf binds m x=m x
 |[], _, _ => rfl
 | (n, v)::r, m, h => by
  unfold bindL;rw[bindL_out fun w hw => h w (List.mem_cons_of_mem _ hw)];split
  .have:x ≠ n :=by rintro rfl;exact h v List.mem_cons_self
   simp[this]
  .rfl
theorem bindC_out{kindOf:Str -> Option NameKind}{x:Str}:∀{binds:List (Str × Value)}{m:Str -> Option Value}, (∀v, (x, v) ∉ binds) -> bindC kindOf binds m x=m x
 |[], _, _ => rfl
 | (n, v)::r, m, h => by
  unfold bindC;rw[bindC_out fun w hw => h w (List.mem_cons_of_mem _ hw)];split
  .rfl
  .have:x ≠ n :=by rintro rfl;exact h v List.mem_cons_self
   simp[this]
theorem bindL_get{kindOf:Str -> Option NameKind}{x:Str}{v:Value}:∀{P:List Str}{vs:List Value}{i:Nat}{m:Str -> Option Value}, P.Nodup -> P[i]?=some x -> vs[i]?=some v -> kindOf x=some .local ->
  bindL kindOf (P.zip vs) m x=some v
 |[], _, _, _, _, h, _, _ => by simp at h
 |_::_, [], _, _, _, _, h, _ => by simp at h
 |p::P, w::vs, 0, m, nd, h1, h2, hk => by
  simp at h1 h2;subst h1;subst h2;show bindL kindOf ((p, w)::P.zip vs) m p=_;unfold bindL;rw[bindL_out fun v hv => (List.nodup_cons.mp nd).1 (List.of_mem_zip hv).1, if_pos hk];simp
 |p::P, w::vs, i+1, m, nd, h1, h2, hk => by
  show bindL kindOf ((p, w)::P.zip vs) m x=_;unfold bindL;exact bindL_get (i :=i) (List.nodup_cons.mp nd).2 (by simpa using h1) (by simpa using h2) hk
theorem bindC_get{kindOf:Str -> Option NameKind}{x:Str}{v:Value}:∀{P:List Str}{vs:List Value}{i:Nat}{m:Str -> Option Value}, P.Nodup -> P[i]?=some x -> vs[i]?=some v -> kindOf x ≠ some .local ->
  bindC kindOf (P.zip vs) m x=some v
 |[], _, _, _, _, h, _, _ => by simp at h
 |_::_, [], _, _, _, _, h, _ => by simp at h
 |p::P, w::vs, 0, m, nd, h1, h2, hk => by
  simp at h1 h2;subst h1;subst h2;show bindC kindOf ((p, w)::P.zip vs) m p=_;unfold bindC;rw[bindC_out fun v hv => (List.nodup_cons.mp nd).1 (List.of_mem_zip hv).1, if_neg hk];simp
 |p::P, w::vs, i+1, m, nd, h1, h2, hk => by
  show bindC kindOf ((p, w)::P.zip vs) m x=_;unfold bindC;exact bindC_get (i :=i) (List.nodup_cons.mp nd).2 (by simpa using h1) (by simpa using h2) hk
def start(N:List Str)(vs:List V):St :=vs.map some ++ List.replicate (N.length-vs.length) none
def cxOf(CX:CXT)(P:Program)(w:World)(K:PySem.W.Frag)(mg:Str -> Option Value)(base:Heap)(N:List Str)(qual:Str)(scope:Scope)(f:Addr)(cd:Value)(A:Around)(outer:List Env)(s:Shared)(H:Hp)(E:XK):Cx where
 prog :=P
 w :=w
 K :=K
 mg :=mg
 base :=base
 A :=A.deeper (envOfC qual scope s.heap.objs.size f cd)
 N :=N
 s₀ :=s
 H₀ :=H
 env :=envOfC qual scope s.heap.objs.size f cd
 outer :=outer
 stack :=envOfC qual scope s.heap.objs.size f cd::outer
 ex :=[]
 calm :=true
 fn :=fun _ => true
 pn :=[]
 xe :=fun e s' => wpAny (model P w) (A.deeper (envOfC qual scope s.heap.objs.size f cd)) (leaving (envOfC qual scope s.heap.objs.size f cd) e) (fun _ s'' => CX outer H s E e s'') (fun e' s'' => CX outer H s E e' s'') s'
theorem cell_has{sc:Scope}{n:Nat}(h:sc.names.lookup x=some .cell):∃c, (cellsFrom n sc.names []).lookup x=some c :=by
 have q :=PySem.W.cellsFrom_some sc.names n [] (.inl h);exact Option.isSome_iff_exists.mp q
theorem inv_start{CX:CXT}{base:Heap}{qual:Str}{f:Addr}{cd:Value}{outer:List Env}{s s1:Shared}{E:XK}{vs:List V}
  (S:FnScope N ps scope) (hd:A.handled=none) (e0:Env0 P w K mg base A outer s H) (hl:vs.length=ps.length) (r:Vals vs us)
  (x:InCallC s s.heap.objs.size (bindL (envOfC qual scope s.heap.objs.size f cd).kindOf (ps.zip us) fun _ => none) (cellsFrom (s.heap.objs.size+1) scope.names []) (bindC (envOfC qual scope s.heap.objs.size f cd).kindOf (ps.zip us) fun _ => none) s1) :
  Inv (cxOf CX P w K mg base N qual scope f cd A outer s H E) [] (start N vs) H s1 :=by
 have hpl:ps.length ≤ N.length :=by have :=congrArg List.length S.pre;rw[List.length_take]at this;omega
 obtain⟨h1, tk, rfl, hk⟩ :=x.done;have noA:∀b:Addr, b ∉ (cxOf CX P w K mg base N qual scope f cd A outer s H E).ex :=fun b z => absurd (show b ∈ ([]:List Addr)from z) (by simp);refine⟨⟨e0.mod, S.kind, rfl, rfl, Nat.le_refl _, fun y z c h1 h2 => ?_, fun y hy => ?_, fun y c _ h => ?_, fun _ => hd, Around.frames_deeper e0.frames, .inr ⟨rfl, rfl⟩, fun b z => absurd z (noA b), e0.bs, e0.bsz, fun b _ _ => noA b, fun b z => absurd z (noA b), e0.funs, e0.frf⟩,
  rfl, e0.bare, Un.kept hk, ⟨_, x.toInCall.ns, fun i y v h1 h2 h3 => ?_⟩, fun y c h => ⟨_, x.cell y c h⟩, e0.hok.fresh (Nat.le_refl _), fun y c h => ?_, fun p hp => absurd (show p ∈ ([]:List (Addr × Obj))from hp) (by simp), e0.hok.kept hk, ?_⟩
 .exact name_of_addr x.apart (PySem.mem_of_lookup h1) (PySem.mem_of_lookup h2)
 .have hy:scope.names.lookup y=some .cell \/ scope.names.lookup y=some .free :=hy;rcases hy with hy|hy
  .exact cell_has hy
  .exact absurd rfl (S.nofree _ (PySem.mem_of_lookup hy))
 .exact Nat.le_of_lt (x.above y c (PySem.mem_of_lookup h))
 .have hi:i<vs.length :=by
   unfold start at h2
   by_cases hi:i<vs.length
   .exact hi
   .rw[List.getElem?_append_right (by simpa using hi)]at h2;rw[List.getElem?_replicate]at h2
    split at h2<;>cases h2
  have ha:vs[i]?=some v :=by
   unfold start at h2;rw[List.getElem?_append_left (by simpa using hi), List.getElem?_map]at h2
   cases e:vs[i]? with
   |none => rw[e]at h2;cases h2
   |some a => rw[e]at h2;cases h2;rfl
  obtain⟨u, hu, rv⟩ :=r.get ha;have hp:ps[i]?=some y :=by
   rw[<- S.pre, List.getElem?_take_of_lt (by omega)];exact h1
  have ndP:ps.Nodup :=by rw[<- S.pre];exact S.nd.sublist (List.take_sublist _ _)
  refine⟨u, rv, ?_⟩;rcases S.par y (List.mem_of_getElem? hp)with k|k
  .exact .inl ⟨k, bindL_get ndP hp hu k⟩
  .obtain⟨c, e⟩ :=cell_has (n :=s.heap.objs.size+1) k;refine .inr ⟨.inl k, c, e, ?_⟩;have q :=x.cell y c e;rw[bindC_get ndP hp hu (by show scope.names.lookup y ≠ _;rw[k];decide)]at q;exact q
 .exact e0.hok.fresh (Nat.le_of_lt (x.above y c (PySem.mem_of_lookup h)))
 .unfold start;show _=N.length;rw[List.length_append, List.length_map, List.length_replicate];omega
theorem fn_of{CX:CXT}{base:Heap}{f:Addr}{name qual:Str}{params:Arguments}{dV kV doc pm cdv ct oc:Value}{an od:Option Addr}
  {osl:Array (Option Value)}{sp:Sp} (lk:K.lookup f=some ⟨oc, od, .func (PySem.W.fnOf name qual params body scope dV kV doc pm an cdv ct), osl⟩) (hcd:PySem.W.codeIn K cdv qual=true) (S:FnScope N ps scope)
  (len:∀vs H Q E, sp vs H Q E -> vs.length=ps.length)
  (hbody:∀(A:Around) (outer:List Env) (s:Shared) (H:Hp) (vs:List V) (Q:VK) (E:XK), Room k (A.deeper (envOfC qual scope s.heap.objs.size f cdv)) -> sp vs H Q E ->
   ∃t, PSs (cxOf CX P w K mg base N qual scope f cdv A outer s H E) body t /\ t {nx :=fun _ H' => Q .non H', rt :=Q} (start N vs) H) :
  FnOk P w K mg base CX (k+1) f (PySem.W.fnOf name qual params body scope dV kV doc pm an cdv ct) ps sp :=by
 refine⟨len, fun A outer s H args us vs Q E hr e0 hb r hsp => ?_⟩;have hl :=len _ _ _ _ hsp;have KX:K.In s.heap :=e0.mod.kin.keeps fun b o e => (e0.bs b o e).1;have lim:s.heap.NoLimit :=e0.mod.nolimit.keeps fun b o e => (e0.bs b o e).1;have hkind:∀y ∈ ps.zip us, scope.names.lookup y.1=some .local \/ (scope.names.lookup y.1=some .cell /\ ((cellsFrom (s.heap.objs.size+1) scope.names []).lookup y.1).isSome=true) :=fun⟨n, v⟩ hy => by
  rcases S.par n (List.of_mem_zip hy).1 with q|q
  .exact .inl q
  .exact .inr ⟨q, PySem.W.cellsFrom_some _ _ _ (.inl q)⟩
 refine codeAny_call_function hr.depth (KX _ _ lk) rfl S.co S.gen rfl (PySem.W.codeRec_of KX hcd) (hb _ _ _ _ ?_);refine wpAny_newFunctionEnv_cells S.kind hkind fun env he s1 x => ?_;subst he;refine⟨lim.keeps x.toInCall.keep, codeAny_func ?_⟩;obtain⟨t, ht, hq⟩ :=hbody A outer s H vs Q E (hr.deeper _) hsp;have I:Inv (cxOf CX P w K mg base N qual scope f cdv A outer s H E) [] (start N vs) H s1 :=inv_start S hr.hd e0 hl r x;refine wpAny_mono (ht [] s1 (start N vs) H _ I hq) (fun fl s' hs => ?_) fun e s' hs => hs;have fin:∀{σ':St}{H':Hp}{v:V}{u:Value}, Inv (cxOf CX P w K mg base N qual scope f cdv A outer s H E) [] σ' H' s' -> RelV v u -> Q v H' -> CE outer P w H s Q u s' :=
  fun {σ' H' v u} J rv q => ⟨v, H', J.os, J.bare, J.base, J.hok, rv, q⟩
 cases fl with
 |ret u =>
  obtain⟨v, σ', H', J, rv, q⟩ :=hs;exact fin J rv q
 |next =>
  obtain⟨σ', H', J, q⟩ :=hs;exact fin (v :=V.non) (u :=Value.none) J rfl q
 |brk =>
  obtain⟨_, _, _, q⟩ :=hs;exact False.elim q
 |cont =>
  obtain⟨_, _, _, q⟩ :=hs;exact False.elim q
section
variable {X:Cx}{x:Str}{p pos:Pos}{e:Expr}{es:List Expr}{t:TA}{id T:String}{r:List V -> Hp -> VK -> Prop}
def tCB(r:List V -> Hp -> VK -> Prop)(t:TA):TE :=fun σ H Q => t σ H fun vs H1 => r vs H1 Q
theorem pe_callB(hc:CallR X (.builtin id) r)(hg:Gl X x)(hm:X.mg x=none)(hv:bootBuiltins x=some (.builtin id))(ha:PA X (e::es) t)(hn:x ≠ "__name__" :=by decide)(hdb:(x==("__debug__" : Str))=false :=by decide)
  (he:starEach (e::es) X.env=(false, eval e X.env)::starEach es X.env :=by rfl) (hpl:(backTo pos (starEach es X.env)).any (·.1)=false :=by rfl):PE X (.Call (.Name x p) (e::es) [] pos) (tCB r t) :=by
 intro pins s σ H Q I h;refine wpAny_Call_Name_kw (ld_blt I hg hm hv ?_ hn hdb);exact PyProof.Rows.callWith_builtin1 (thn (ha pos pins s σ H _ I h) fun us s1 ⟨vs, H1, I1, r1, q1⟩ => hc pins s1 σ H1 vs us Q I1 r1 q1) he hpl
theorem pe_callTy(hc:CallR X (.type T) r)(hg:Gl X x)(hm:X.mg x=none)(hv:bootBuiltins x=some (.type T))(ha:PA X (e::es) t)(hn:x ≠ "__name__" :=by decide)(hdb:(x==("__debug__" : Str))=false :=by decide)
  (he:starEach (e::es) X.env=(false, eval e X.env)::starEach es X.env :=by rfl) (hpl:(backTo pos (starEach es X.env)).any (·.1)=false :=by rfl):PE X (.Call (.Name x p) (e::es) [] pos) (tCB r t) :=by
 intro pins s σ H Q I h;refine wpAny_Call_Name_kw (ld_blt I hg hm hv ?_ hn hdb);exact PyProof.Rows.callWith_type1 (thn (ha pos pins s σ H _ I h) fun us s1 ⟨vs, H1, I1, r1, q1⟩ => hc pins s1 σ H1 vs us Q I1 r1 q1) he hpl
end
end L2
namespace HT
open PySem PyProof.Rows
variable{Q:Value -> Shared -> Prop}{hi lo:Option Int}
section
variable {prog:Program}{w:World}{A:Around}{E:Value -> Shared -> Prop}{s:Shared}
theorem cat_tup{t b:Addr}{vs ws:List Value}(ht:IsTup s.heap t vs.toArray)(hb:IsTup s.heap b ws.toArray)(hv:vs ≠ [])
  (h1:ws=[] -> Q (.ref t) s) (h2:ws ≠ [] -> Q (.ref s.heap.objs.size) {s with heap :=s.heap.push {cls :=.type "tuple", data :=.seq (vs ++ ws).toArray} })
  (hsz:vs.length+ws.length ≤ sizeLine):wpAny (model prog w) A (binaryOp .Add (.ref t) (.ref b)) Q E s :=by
 obtain⟨⟨cls, dd, data, sl⟩, ho, hc, n, hd⟩ :=id ht;obtain⟨⟨cls2, dd2, data2, sl2⟩, ho2, hc2, n2, hd2⟩ :=id hb;simp only at hc hd hc2 hd2;subst hc hd hc2 hd2;have e:vs.toArray ++ ws.toArray=(vs ++ ws).toArray :=by simp
 by_cases hw:ws=[]
 .exact concat_meets ⟨_, ho, rfl⟩ ⟨_, ho2, rfl⟩ noFill_tuple_add seq_tuple_add PySem.F.slot_tuple_add PySem.F.entry_tuple_add (PySem.F.args_tuple_add_2 _ _)
   (tuple_addW1 t b vs.toArray ws.toArray n n2 dd dd2 sl sl2 (by simpa using hv) (by simp[hw])) ⟨ho, ho2, h1 hw⟩
 .refine concat_meets ⟨_, ho, rfl⟩ ⟨_, ho2, rfl⟩ noFill_tuple_add seq_tuple_add PySem.F.slot_tuple_add PySem.F.entry_tuple_add (PySem.F.args_tuple_add_2 _ _)
   (tuple_addW2 t b vs.toArray ws.toArray n n2 dd dd2 sl sl2 (by simpa using hv) (by simpa using hw) (by rw[List.size_toArray, List.size_toArray];exact hsz)) ⟨ho, ho2, ?_⟩
  rw[e];exact h2 hw
def sIx(n d:Nat):Option Int -> Nat
 |none => d
 |some v => if v<0 then(v+(n:Int)).toNat else min v.toNat n
theorem sIx_none(n d:Nat):sIx n d none=d :=rfl
theorem sIx_nat(n d k:Nat):sIx n d (some (k:Int))=min k n :=by
 show(if (k:Int)<0 then((k:Int)+(n:Int)).toNat else min (k:Int).toNat n)=min k n;rw[if_neg (by omega), Int.toNat_natCast]
theorem sIx_le(n d:Nat)(hd:d ≤ n)(o:Option Int):sIx n d o ≤ n :=by
 cases o with
 |none => exact hd
 |some v =>
  show(if v<0 then(v+(n:Int)).toNat else min v.toNat n) ≤ n
  by_cases hv:v<0
  .rw[if_pos hv];omega
  .rw[if_neg hv];exact Nat.min_le_right _ _
theorem clip_eq(v:Int)(n d:Nat):(if v<0 then max (v+(n:Int)) 0 else min v (n:Int))=((sIx n d (some v):Nat):Int) :=by
 show(if v<0 then max (v+(n:Int)) 0 else min v (n:Int))=(((if v<0 then(v+(n:Int)).toNat else min v.toNat n):Nat):Int)
 by_cases hv:v<0
 .simp only[if_pos hv];omega
 .simp only[if_neg hv];omega
theorem adjust_gen(lo hi:Option Int)(n:Nat):Builtin.Slice.sliceAdjust lo hi 1 (n:Int)=(((sIx n 0 lo:Nat):Int), ((sIx n n hi:Nat):Int)) :=by
 have h1:¬((1:Int)<0) :=by omega
 unfold Builtin.Slice.sliceAdjust;simp only[h1, if_false];refine Prod.ext ?_ ?_
 .cases lo with
  |none => rfl
  |some v => exact clip_eq v n 0
 .cases hi with
  |none => rfl
  |some v => exact clip_eq v n n
theorem places_gen(i j:Nat):Builtin.Slice.slicePlaces (i:Int) (j:Int) 1=j-i :=by
 unfold Builtin.Slice.slicePlaces;have h1:(1:Int)>0 :=by omega
 simp only[h1, if_true, Int.ediv_one]
 split<;>omega
theorem slicePart_{v:Value}{o:Option Int}{Q:Option Int -> Shared -> Prop}(p:IsPart v o)(h:Q o s):wpAny (model prog w) A (Builtin.Slice.slicePartIndex v) Q E s :=by
 cases p with
 |none => exact slicePart_none h
 |int i t => exact slicePart_int h
theorem sliceApplied_gen{sl:Addr}{vl vu:Value}{n:Nat}{Q:Int × Int × Nat -> Shared -> Prop}(hs:s.heap.IsSliceOf sl vl vu .none)(pl:IsPart vl lo)(pu:IsPart vu hi)
  (h:Q (((sIx n 0 lo:Nat):Int), 1, sIx n n hi-sIx n 0 lo) s):wpAny (model prog w) A (Builtin.Slice.sliceApplied (.ref sl) (pure (n:Int))) Q E s :=by
 obtain⟨os, hos, hcs, hds⟩ :=id hs;unfold Builtin.Slice.sliceApplied Builtin.Slice.sliceFields;refine wpAny_bind (wpAny_bind (wpAny_field hos hds (x :=vl) rfl (wpAny_bind (wpAny_field hos hds (x :=vu) rfl (wpAny_bind (wpAny_field hos hds (x :=.none) rfl (wpAny_pure ?_)))))));refine wpAny_bind (slicePart_none ?_);show wpAny _ _ (if ((1:Int)==0)=true then _ else _) _ _ s;rw[if_neg (by decide)];refine wpAny_bind (slicePart_ pl (wpAny_bind (slicePart_ pu (wpAny_bind (wpAny_pure ?_)))));show wpAny _ _ (match Builtin.Slice.sliceAdjust lo hi 1 (n:Int)with|(lo, hi) => pure (lo, (1:Int), Builtin.Slice.slicePlaces lo hi 1)) _ _ s;rw[adjust_gen lo hi n];show wpAny _ _ (pure (((sIx n 0 lo:Nat):Int), (1:Int), Builtin.Slice.slicePlaces ((sIx n 0 lo:Nat):Int) ((sIx n n hi:Nat):Int) 1)) _ _ s;rw[places_gen];exact wpAny_pure h
theorem pick_gen(xs:Array Value)(i k:Nat):((List.range k).filterMap fun(m:Nat) => xs[((i:Int)+(m:Int)*1).toNat]?).toArray=((xs.toList.drop i).take k).toArray :=by
 have e:(fun(m:Nat) => xs[((i:Int)+(m:Int)*1).toNat]?)=fun m => xs[i+m]? :=by
  funext m
  have:((i:Int)+(m:Int)*1).toNat=i+m :=by omega
  rw[this]
 rw[e];have :=pick_run xs i k;rw[List.filterMap_map]at this;have e2:((fun x => xs[x]?) ∘ fun x => i+x)=fun m => xs[i+m]? :=rfl;rw[e2]at this;rw[this]
theorem getItem_tuple_cut{t sl:Addr}{items:Array Value}{vl vu:Value}(ht:IsTup s.heap t items)(hs:s.heap.IsSliceOf sl vl vu .none)(pl:IsPart vl lo)(pu:IsPart vu hi)
  (hw:¬(sIx items.size 0 lo=0 /\ sIx items.size items.size hi=items.size))
  (h:Q (.ref s.heap.objs.size) {s with heap :=s.heap.push {cls :=.type "tuple", data :=.seq ((items.toList.drop (sIx items.size 0 lo)).take (sIx items.size items.size hi-sIx items.size 0 lo)).toArray} })
  (hsz:items.size ≤ sizeLine):wpAny (model prog w) A (getItem (.ref t) (.ref sl)) Q E s :=by
 have htake:sizeOk (.seq ((items.toList.drop (sIx items.size 0 lo)).take (sIx items.size items.size hi-sIx items.size 0 lo)).toArray) :=by
  show((items.toList.drop (sIx items.size 0 lo)).take (sIx items.size items.size hi-sIx items.size 0 lo)).toArray.size ≤ sizeLine;rw[List.size_toArray, List.length_take, List.length_drop, Array.length_toList];omega
 have hj:sIx items.size items.size hi ≤ items.size :=sIx_le _ _ (Nat.le_refl _) hi;obtain⟨os, hos, hcs, hds⟩ :=id hs;have hTs:s.TypeIs (.ref sl) "slice" :=⟨os, hos, hcs⟩;unfold getItem
 try with_reducible refine wpAny_holding ?_
 first|refine wpAny_bind (wpAny_pure ?_)|skip
 refine wpAny_bind (wpAny_sequenceKey ht.typeIs (by decide) ?_);refine wpAny_bind (wpAny_callSpecial?_slot (name :=Str.ofString "__getitem__") ht.typeIs PyProof.Rows.slot_tuple_getitem
  (wpAny_call_entry PyProof.Rows.slot_tuple_getitem ht.typeIs entry_tuple_getitem ?_ (args_tuple_getitem _ _)))
 show wpAny _ _ (Builtin.Tuple.tupleItemsOf (.ref t) >>= _) _ _ s;refine wpAny_bind (tupleItemsOf_ ht ?_);refine wpAny_bind (wpAny_typeOf hTs ?_);rw[if_pos (by decide)];refine wpAny_bind (sliceApplied_gen hs pl pu ?_);have hno:¬((((sIx items.size 0 lo:Nat):Int)==0&&(1:Int)==1&&(sIx items.size items.size hi-sIx items.size 0 lo)==items.size)=true) :=by
  intro q;rw[Bool.and_eq_true, Bool.and_eq_true]at q;have q1:((sIx items.size 0 lo:Nat):Int)=0 :=eq_of_beq q.1.1;have q2:sIx items.size items.size hi-sIx items.size 0 lo=items.size :=eq_of_beq q.2;exact hw ⟨by omega, by omega⟩
 show wpAny _ _ (if (((sIx items.size 0 lo:Nat):Int)==0&&(1:Int)==1&&(sIx items.size items.size hi-sIx items.size 0 lo)==items.size)=true then _ else _) _ _ s;rw[if_neg hno, pick_gen]
 first
  |exact wpAny_bind (m :=Builtin.Tuple.tupleExact _) (wpAny_newObj_type (wpAny_pure ⟨_, rfl, wpAny_pure h⟩) htake)
  |exact wpAny_bind (m :=Builtin.Tuple.tupleExact _) (wpAny_newObj_type (wpAny_bind (wpAny_pure (wpAny_pure ⟨_, rfl, wpAny_pure h⟩))) htake)
  |exact wpAny_bind (wpAny_bind (m :=Builtin.Tuple.tupleExact _) (wpAny_newObj_type (wpAny_pure (wpAny_pure ⟨_, rfl, wpAny_pure h⟩)) htake))
  |exact wpAny_bind (wpAny_bind (m :=Builtin.Tuple.tupleExact _) (wpAny_newObj_type (wpAny_pure ⟨_, rfl, wpAny_pure h⟩) htake))
end
end HT
namespace L2
open PySem PySem.Spec PyProof.Rows
variable{xs:List V}{n:Nat}{α:Type}{pins:List (Addr × Obj)}{σ:St}{H:Hp}{its its':List Value}
abbrev TO :=St -> Hp -> (Option Int -> Hp -> Prop) -> Prop
def PO(X:Cx)(e:Option Expr)(t:TO):Prop :=
 ∀(pins:List (Addr × Obj)) (s:Shared) (σ:St) (H:Hp) (Q:Option Int -> Hp -> Prop), Inv X pins σ H s -> t σ H Q ->
  wpAny (model X.prog X.w) X.A (evalPart e X.env) (fun u s' => ∃o H', Inv X pins σ H' s' /\ IsPart u o /\ Q o H') X.xe s
def tNoPart:TO :=fun _ H Q => Q none H
def tPart(t:TE):TO :=fun σ H Q => t σ H fun x H1 => ∃i, x = .int i /\ Q (some i) H1
theorem intsAre_of{ns:List Int}:∀{us:List Value}, Vals (ns.map V.int) us -> IntsAre us ns :=by
 induction ns with
 |nil => intro us r;rw[List.map_nil]at r;cases r;exact .nil
 | cons n ns ih =>
  intro us r;rw[List.map_cons]at r
  cases r with
  |cons r1 r2 =>
   obtain⟨t, e⟩ :=r1;subst e;exact .cons n t (ih r2)
section
variable {X:Cx}{e:Expr}{te:TE}{lo hi:Option Expr}{tl th:TO}{pos p2:Pos}
theorem po_none:PO X none tNoPart :=by
 intro pins s σ H Q I h;rw[evalPart_none];exact wpAny_pure ⟨none, H, I, .none, h⟩
theorem po_some(h:PE X e te):PO X (some e) (tPart te) :=by
 intro pins s σ H Q I hw;rw[evalPart_some];refine thn (h pins s σ H _ I hw) fun u s1 ⟨x, H1, I1, r1, q1⟩ => ?_;obtain⟨i, rfl, q⟩ :=q1;obtain⟨t, rfl⟩ :=r1;exact⟨some i, H1, I1, .int i t, q⟩
def SlR(X:Cx)(r:V -> Option Int -> Option Int -> Hp -> VK -> Prop):Prop :=
 ∀(pins:List (Addr × Obj)) (s:Shared) (σ:St) (H:Hp) (x:V) (v vl vu:Value) (lo hi:Option Int) (sl:Addr) (Q:VK), Inv X pins σ H s -> RelV x v -> s.heap.IsSliceOf sl vl vu .none -> IsPart vl lo -> IsPart vu hi -> r x lo hi H Q ->
  ∃T id, typeLookup (.type T) "__getitem__" = pure (some (.builtin id)) /\ s.TypeIs v T /\ wpAny (model X.prog X.w) X.A (getItem v (.ref sl)) (EP X pins σ Q) X.xe s
def tSl(r:V -> Option Int -> Option Int -> Hp -> VK -> Prop)(te:TE)(tl th:TO):TE :=fun σ H Q => te σ H fun x H1 => tl σ H1 fun l H2 => th σ H2 fun u H3 => r x l u H3 Q
theorem pe_slice{r:V -> Option Int -> Option Int -> Hp -> VK -> Prop}(hr:SlR X r)(he:PE X e te)(hl:PO X lo tl)(hu:PO X hi th):PE X (.Subscript e (.Slice lo hi none p2) pos) (tSl r te tl th) :=by
 intro pins s σ H Q I h;refine Subscript_ (thn (he pins s σ H _ I h) fun v s1 ⟨x, H1, I1, r1, q1⟩ => ?_);refine wpAny_Slice (thn (hl pins s1 σ H1 _ I1 q1) fun vl s2 ⟨l, H2, I2, pl, q2⟩ => thn (hu pins s2 σ H2 _ I2 q2) fun vu s3 ⟨u, H3, I3, pu, q3⟩ => ?_);rw[evalPart_none];refine wpAny_pure ?_;have I4:Inv X pins σ H3 {s3 with heap :=s3.heap.push {cls :=.type "slice", data :=.fields #[vl, vu, .none]} } :=I3.kept (t' :=s3.toks) fun b ob q => Heap.get?_push_of_some _ q;obtain⟨T, id, hT, ht, hg⟩ :=hr pins {s3 with heap :=s3.heap.push {cls :=.type "slice", data :=.fields #[vl, vu, .none]} } σ H3 x v vl vu l u s3.heap.objs.size Q I4 r1 (Heap.IsSliceOf.new ..) pl pu q3;show wpAny (model X.prog X.w) X.A (subscriptTail e (.Slice lo hi none p2) v (.ref s3.heap.objs.size)) (EP X pins σ Q) X.xe {s3 with heap :=s3.heap.push {cls :=.type "slice", data :=.fields #[vl, vu, .none]} };exact tail_any (ops :=[.ref s3.heap.objs.size, v]) ht hT hg (by with_unfolding_all rfl)
def cutV(xs:List V)(lo hi:Option Int):List V :=(xs.drop (HT.sIx xs.length 0 lo)).take (HT.sIx xs.length xs.length hi-HT.sIx xs.length 0 lo)
theorem cutV_length(xs:List V)(lo hi:Option Int):(cutV xs lo hi).length ≤ xs.length :=by
 unfold cutV;rw[List.length_take, List.length_drop];omega
def rSlT(K:PySem.W.Frag):V -> Option Int -> Option Int -> Hp -> VK -> Prop :=fun x lo hi H Q => ∃a xs, x = .ref a /\ SqT K H a xs /\
 ¬(HT.sIx xs.length 0 lo=0 /\ HT.sIx xs.length xs.length hi=xs.length) /\ ∀p, H p=none -> Q (.ref p) (upd H p (.tup (cutV xs lo hi)))
theorem sl_tup:SlR X (rSlT X.K) :=by
 intro pins s σ H x v vl vu lo hi sl Q I rx hs pl pu h;obtain⟨a, xs, rfl, hx, hw, q⟩ :=h;cases rx;obtain⟨its, r, ht, hz⟩ :=I.tuple hx;have hlen:its.toArray.size=xs.length :=by rw[List.size_toArray];exact r.length.symm
 refine⟨"tuple", _, PyProof.Rows.slot_tuple_getitem.lookup, ht.typeIs, ?_⟩;refine HT.getItem_tuple_cut ht hs pl pu (by rw[hlen];exact hw) ?_ (by rw[hlen];exact hz);rw[hlen];refine⟨.ref s.heap.objs.size, _, I.laid (t' :=s.toks) (o :=.tup (cutV xs lo hi)) (fun b ob q => Heap.get?_push_of_some _ q) (Nat.le_refl _) ?_, rfl, q _ (I.hok.fresh (Nat.le_refl _))⟩;exact⟨Nat.le_trans (cutV_length xs lo hi) hz, _, (r.drop (HT.sIx xs.length 0 lo)).take (HT.sIx xs.length xs.length hi-HT.sIx xs.length 0 lo), PlainT.new _ _⟩
def rCatT(K:PySem.W.Frag):R2 :=fun x y H Q => ∃a b xs ys, x = .ref a /\ y = .ref b /\ SqT K H a xs /\ SqT K H b ys /\ xs ≠ [] /\ xs.length+ys.length ≤ sizeLine /\
 (ys=[] -> Q (.ref a) H) /\ (ys ≠ [] -> ∀p, H p=none -> Q (.ref p) (upd H p (.tup (xs ++ ys))))
theorem Vals.nil_iff{us:List Value}(r:Vals xs us):us=[] ↔ xs=[] :=by
 cases r with
 |nil => simp
 |cons _ _ => simp
theorem op_catT:OpR X (binaryOp .Add) (rCatT X.K) :=by
 intro pins s σ H x y v u Q I rx ry h;obtain⟨a, b, xs, ys, rfl, rfl, ha, hb, hx, hz, q1, q2⟩ :=h;cases rx;cases ry;obtain⟨its, r1, p1, _⟩ :=I.tuple ha;obtain⟨its2, r2, p2, _⟩ :=I.tuple hb;refine HT.cat_tup p1 p2 (fun z => hx (r1.nil_iff.mp z)) (fun z => ⟨.ref a, H, I, rfl, q1 (r2.nil_iff.mp z)⟩) (fun z => ?_) (by rw[<- r1.length, <- r2.length];exact hz);refine⟨.ref s.heap.objs.size, _, I.laid (t' :=s.toks) (o :=.tup (xs ++ ys)) (fun b ob q => Heap.get?_push_of_some _ q) (Nat.le_refl _) ?_, rfl, q2 (fun w => z (r2.nil_iff.mpr w)) _ (I.hok.fresh (Nat.le_refl _))⟩;exact⟨by rw[List.length_append];exact hz, _, r1.append r2, PlainT.new _ _⟩
end
def ixN(n:Nat)(i:Int):Option Nat :=if 0 ≤ i then(if i<n then some i.toNat else none)else if -(n:Int) ≤ i then some (i+n).toNat else none
def atI{α:Type}(xs:List α)(i:Int):Option α :=(ixN xs.length i).bind fun j => xs[j]?
theorem ixN_seq{i:Int}{j:Nat}(h:ixN n i=some j):seqIndex? i n=some j /\ j<n /\ -(n:Int) ≤ i /\ i<n :=by
 unfold ixN at h
 by_cases h0:0 ≤ i
 .rw[if_pos h0]at h
  by_cases h1:i<n
  .rw[if_pos h1]at h;have e:i.toNat=j :=Option.some.inj h;exact⟨by rw[seqIndex_of h0 h1, e], by omega, by omega, h1⟩
  .rw[if_neg h1]at h;cases h
 .rw[if_neg h0]at h
  by_cases h1 : -(n:Int) ≤ i
  .rw[if_pos h1]at h;have e:(i+n).toNat=j :=Option.some.inj h;exact⟨by rw[seqIndex_neg (by omega) h1, e], by omega, h1, by omega⟩
  .rw[if_neg h1]at h;cases h
theorem atI_get{xs:List α}{i:Int}{v:α}(h:atI xs i=some v):∃j, seqIndex? i xs.length=some j /\ xs[j]?=some v /\ j<xs.length /\ -(xs.length:Int) ≤ i /\ i<xs.length :=by
 unfold atI at h
 cases e:ixN xs.length i with
 |none => rw[e]at h;cases h
 |some j =>
  rw[e]at h;obtain⟨h1, h2, h3, h4⟩ :=ixN_seq e;exact⟨j, h1, h, h2, h3, h4⟩
theorem atI_nat{xs:List α}{j:Nat}{v:α}(h:xs[j]?=some v):atI xs (j:Int)=some v :=by
 have hj:j<xs.length :=(List.getElem?_eq_some_iff.mp h).1;have e:ixN xs.length (j:Int)=some j :=by
  unfold ixN;rw[if_pos (by omega), if_pos (by omega)];simp
 unfold atI;rw[e];exact h
theorem atI_last(xs:List α)(v:α):atI (xs ++ [v]) (-1)=some v :=by
 have hl:(xs ++ [v]).length=xs.length+1 :=by simp
 have e:ixN (xs ++ [v]).length (-1)=some xs.length :=by
  unfold ixN;rw[hl, if_neg (by decide), if_pos (by omega)]
  congr 1
  omega
 unfold atI;rw[e];show(xs ++ [v])[xs.length]?=some v;simp
def PlainIx(b:Expr):Prop :=∀o i, subscripted b false o i=operate [o, i] (getItem o i)
def IxR(X:Cx)(r:R2):Prop :=
 ∀(value slice:Expr) (pins:List (Addr × Obj)) (s:Shared) (σ:St) (H:Hp) (x y:V) (v u:Value) (Q:VK), Inv X pins σ H s -> RelV x v -> RelV y u -> r x y H Q ->
  subscripted slice false v u=operate [v, u] (getItem v u) -> wpAny (model X.prog X.w) X.A (subscriptTail value slice v u) (EP X pins σ Q) X.xe s
def MtR(X:Cx)(id:String)(r:V -> List V -> Hp -> VK -> Prop):Prop :=
 ∀(pins:List (Addr × Obj)) (s:Shared) (σ:St) (H:Hp) (x:V) (xs:List V) (v:Value) (us:List Value) (Q:VK), Inv X pins σ H s -> RelV x v -> Vals xs us -> r x xs H Q ->
  wpAny (model X.prog X.w) X.A (call (.builtin id) (v::us)) (EP X pins σ Q) X.xe s
section
variable {X:Cx}{a b:Expr}{ta tb:TE}{pos:Pos}
theorem pe_ix{r:R2}(hr:IxR X r)(ha:PE X a ta)(hb:PE X b tb)(hs:PlainIx b):PE X (.Subscript a b pos) (tOp r ta tb) :=by
 intro pins s σ H Q I h;exact Subscript_ (binT ha hb I h fun v u s2 x y H2 I2 rx ry q => hr a b pins s2 σ H2 x y v u Q I2 rx ry q (hs _ _))
def rIxL(K:PySem.W.Frag):R2 :=fun x y H Q => ∃p xs i v, x = .ref p /\ y = .int i /\ SqL K H p xs /\ atI xs i=some v /\ Q v H
def rIxT(K:PySem.W.Frag):R2 :=fun x y H Q => ∃p xs i v, x = .ref p /\ y = .int i /\ SqT K H p xs /\ atI xs i=some v /\ Q v H
def rIxS:R2 :=fun x y H Q => ∃z i c, x = .str z /\ y = .int i /\ z.length ≤ sizeLine /\ atI z.cps.toList i=some c /\ Q (.str ⟨#[c]⟩) H
theorem ix_list:IxR X (rIxL X.K) :=by
 intro value slice pins s σ H x y v u Q I rx ry h hs;obtain⟨p, xs, i, z, rfl, rfl, hq, he, q⟩ :=h;cases rx;obtain⟨t, rfl⟩ :=ry;obtain⟨its, r, pl, hz⟩ :=I.list hq;obtain⟨j, h1, h2, h3, h4, h5⟩ :=atI_get he;obtain⟨w, ew, rw'⟩ :=r.get h2;have hl :=r.length;have hn :=line63;have fin:EP X pins σ Q w s :=⟨z, H, I, rw', q⟩
 by_cases h0:0 ≤ i
 .have hj:i.toNat=j :=by
   rw[seqIndex_of h0 h5]at h1;exact Option.some.inj h1
  exact item_listR pl.isList h0 (by omega) (by rw[hj];simpa using ew) fin hs
 .have hj:(i+(its.toArray.size:Int)).toNat=j :=by
   rw[seqIndex_neg (by omega) h4]at h1;rw[List.size_toArray, <- hl];exact Option.some.inj h1
  exact subscriptTail_builtinR (x :=w) pl.isList.typeIs slot_list_getitem.lookup
   (wpAny_getItem_list_neg (Q :=fun r s' => r=w /\ EP X pins σ Q r s') pl.isList (by omega) (by rw[List.size_toArray]<;>omega) (by omega) (by rw[hj];simpa using ew) ⟨rfl, fin⟩) hs
theorem ix_tup:IxR X (rIxT X.K) :=by
 intro value slice pins s σ H x y v u Q I rx ry h hs;obtain⟨p, xs, i, z, rfl, rfl, hq, he, q⟩ :=h;cases rx;obtain⟨t, rfl⟩ :=ry;obtain⟨its, r, pl, hz⟩ :=I.tuple hq;obtain⟨j, h1, h2, h3, h4, h5⟩ :=atI_get he;obtain⟨w, ew, rw'⟩ :=r.get h2;have hl :=r.length;have hn :=line63;have fin:EP X pins σ Q w s :=⟨z, H, I, rw', q⟩;exact subscriptTail_builtinR (x :=w) pl.typeIs slot_tuple_getitem.lookup
  (getItem_tuple (j :=j) (Q :=fun r s' => r=w /\ EP X pins σ Q r s') pl (by omega) (by omega) (by rw[List.size_toArray, <- hl];exact h1) (by simpa using ew) ⟨rfl, fin⟩) hs
theorem ix_str:IxR X rIxS :=by
 intro value slice pins s σ H x y v u Q I rx ry h hs;obtain⟨z, i, c, rfl, rfl, hz, he, q⟩ :=h;obtain⟨t, rfl⟩ :=rx;obtain⟨t', rfl⟩ :=ry;obtain⟨j, h1, h2, h3, h4, h5⟩ :=atI_get he;have hl:z.cps.toList.length=z.length :=by simp[Str.length]
 rw[hl]at h1 h4 h5;have hn :=line63;exact tail_any (typeIs_str s z t) slot_str_getitem.lookup (getItem_str (c :=c) (by
  have e1:decide (i < -(2^63:Int))=false :=decide_eq_false (by omega);have e2:decide (i≥2^63)=false :=decide_eq_false (by omega);rw[e1, e2, Bool.or_false]) (by rw[h1];simpa using h2) ⟨.str ⟨#[c]⟩, H, I.tok _, ⟨_, rfl⟩, q⟩) hs
theorem mapSeq_set(its:List Value)(n j:Nat)(u:Value):Obj.mapSeq (·.setIfInBounds j u) {cls :=.type "list", data :=.seq its.toArray n}={cls :=.type "list", data :=.seq (its.set j u).toArray n} :=by
 simp[Obj.mapSeq]
theorem Inv.lst{s:Shared}{p:Addr}(I:Inv X pins σ H s)(h:H p=some (.lst xs)) :
  ∃(its:List Value) (n:Nat), Vals xs its /\ s.heap.get? p=some {cls :=.type "list", data :=.seq its.toArray n} /\ xs.length ≤ sizeLine :=by
 obtain⟨z, its, n, r, e⟩ :=I.hok p _ h;exact⟨its, n, r, e, z⟩
theorem Inv.lstUpd{s:Shared}{p:Addr}{ys:List V}{n':Nat}{f:Obj -> Obj}(I:Inv X pins σ H s)(h:H p=some (.lst xs))
  (ho:s.heap.get? p=some {cls :=.type "list", data :=.seq its.toArray n}) (hf:f {cls :=.type "list", data :=.seq its.toArray n}={cls :=.type "list", data :=.seq its'.toArray n' }) (r:Vals ys its') (hz:ys.length ≤ sizeLine) (t:Nat) :
  Inv X pins σ (upd H p (.lst ys)) {s with heap :=s.heap.update p f, toks :=t} :=by
 have e:(s.heap.update p f).get? p=some {cls :=.type "list", data :=.seq its'.toArray n' } :=by
  rw[Heap.get?_update_self f ho (by rw[hf]<;>rfl), hf]
 refine I.write (x :=p) (e :=p) (by rw[h];trivial) (.inl rfl) (fun b u hb q => (Heap.get?_update_other _ _ (Ne.symm hb)).trans q) ⟨_, e⟩ ?_;exact⟨hz, its', n', r, e⟩
def rSetL:V -> V -> V -> Hp -> (Hp -> Prop) -> Prop :=fun o i v H Q => ∃p xs k j, o = .ref p /\ i = .int k /\ H p=some (.lst xs) /\ ixN xs.length k=some j /\ Q (upd H p (.lst (xs.set j v)))
theorem set_list:PSet X rSetL :=by
 intro pins s σ H o i v ov iv u Q I ro ri rv h;obtain⟨p, xs, k, j, rfl, rfl, hp, hj, q⟩ :=h;cases ro;obtain⟨t, rfl⟩ :=ri;obtain⟨its, n, r, ho, hz⟩ :=I.lst hp;obtain⟨h1, h2, h3, h4⟩ :=ixN_seq hj;have hl :=r.length;have hn :=line63;have I':Inv X pins σ (upd H p (.lst (xs.set j v))) {s with heap :=s.heap.update p (Obj.mapSeq (·.setIfInBounds j u))} :=
  I.lstUpd hp ho (mapSeq_set its n j u) (r.set rv j) (by rw[List.length_set];exact hz) s.toks
 by_cases h0:0 ≤ k
 .have hk:k.toNat=j :=by
   rw[seqIndex_of h0 h4]at h1;exact Option.some.inj h1
  exact PySem.W.ki_setAt ho h0 (by omega) (by rw[List.size_toArray, <- hl];exact h4) (by rw[hk];exact⟨_, I', q⟩)
 .have hk:(k+(its.toArray.size:Int)).toNat=j :=by
   rw[seqIndex_neg (by omega) h3]at h1;rw[List.size_toArray, <- hl];exact Option.some.inj h1
  exact PySem.W.ki_setBack ho (by omega) (by rw[List.size_toArray, <- hl];exact h3) (by omega) (by rw[hk];exact⟨_, I', q⟩)
theorem slice_bounds(lo hi:Option Int)(n:Nat):(sliceBounds lo hi none n).1=((HT.sIx n 0 lo:Nat):Int) /\ (sliceBounds lo hi none n).2.1=((HT.sIx n n hi:Nat):Int) /\ (sliceBounds lo hi none n).2.2=1 :=by
 refine⟨?_, ?_, rfl⟩
 .cases lo with
  |none => simp[sliceBounds, HT.sIx]
  |some i =>
   simp only[sliceBounds, HT.sIx, Option.getD_none, show(1:Int)>0 by decide, if_true]
   by_cases h:i<0
   .simp only[h, if_true]<;>omega
   .simp only[h, if_false]<;>omega
 .cases hi with
  |none => simp[sliceBounds, HT.sIx]
  |some i =>
   simp only[sliceBounds, HT.sIx, Option.getD_none, show(1:Int)>0 by decide, if_true]
   by_cases h:i<0
   .simp only[h, if_true]<;>omega
   .simp only[h, if_false]<;>omega
theorem slicePick_cut(its:List Value)(lo hi:Option Int):slicePick its.toArray lo hi none=((its.drop (HT.sIx its.length 0 lo)).take (HT.sIx its.length its.length hi-HT.sIx its.length 0 lo)).toArray :=by
 obtain⟨h1, h2, h3⟩ :=slice_bounds lo hi its.toArray.size;unfold slicePick;rw[h1, h2, h3];simp only[sliceRange_one, pick_run, List.size_toArray]<;>rfl
def rSlL(K:PySem.W.Frag):V -> Option Int -> Option Int -> Hp -> VK -> Prop :=fun x lo hi H Q => ∃a xs, x = .ref a /\ SqL K H a xs /\ ∀p, H p=none -> Q (.ref p) (upd H p (.lst (cutV xs lo hi)))
theorem sl_list:SlR X (rSlL X.K) :=by
 intro pins s σ H x v vl vu lo hi sl Q I rx hs pl pu h;obtain⟨a, xs, rfl, hx, q⟩ :=h;cases rx;obtain⟨its, r, ht, hz⟩ :=I.list hx;have hlen :=r.length;refine⟨"list", _, slot_list_getitem.lookup, ht.isList.typeIs, ?_⟩;refine wpAny_getItem_list_slice ht.isList hs pl pu .none (by simp) ?_ (by rw[List.size_toArray]<;>omega);rw[slicePick_cut, <- hlen];refine⟨.ref s.heap.objs.size, _, I.laid (t' :=s.toks) (o :=.lst (cutV xs lo hi)) (fun b ob q => Heap.get?_push_of_some _ q) (Nat.le_refl _) ?_, rfl, q _ (I.hok.fresh (Nat.le_refl _))⟩;exact⟨Nat.le_trans (cutV_length xs lo hi) hz, _, 0, (r.drop (HT.sIx xs.length 0 lo)).take (HT.sIx xs.length xs.length hi-HT.sIx xs.length 0 lo), Heap.get?_push_size _ rfl⟩
theorem call_len_seq:CallR X (.builtin "len") (fun xs H Q => ∃p ys, xs=[.ref p] /\ (SqL X.K H p ys \/ SqT X.K H p ys) /\ Q (.int ys.length) H) :=by
 intro pins s σ H xs us Q I r h;obtain⟨p, ys, rfl, hq, q⟩ :=h;obtain⟨u, rfl, rx⟩ :=vals1 r;cases rx;have hn :=line63;rcases hq with hq|hq
 .obtain⟨its, r', pl, hz⟩ :=I.list hq;have hlen :=r'.length;exact Calls.call_len_list pl.isList (by simp only[List.size_toArray]<;>omega) ⟨.int ys.length, H, I.tok _, ⟨s.toks+1, by rw[List.size_toArray, hlen]⟩, q⟩
 .obtain⟨its, r', pl, hz⟩ :=I.tuple hq;have hlen :=r'.length;exact len_tuple pl (by simp only[List.size_toArray]<;>omega) ⟨.int ys.length, H, I.tok _, ⟨s.toks+1, by rw[List.size_toArray, hlen]⟩, q⟩
theorem call_len_str:CallR X (.builtin "len") (fun xs H Q => ∃z, xs=[.str z] /\ z.length ≤ sizeLine /\ Q (.int z.length) H) :=by
 intro pins s σ H xs us Q I r h;obtain⟨z, rfl, hz, q⟩ :=h;obtain⟨u, rfl, t, rfl⟩ :=vals1 r;have hn :=line63;exact len_str (by omega) ⟨.int z.length, H, I.tok _, ⟨_, rfl⟩, q⟩
theorem call_list_of:CallR X (.type "list") (fun xs H Q => ∃p ys, xs=[.ref p] /\ (SqL X.K H p ys \/ SqT X.K H p ys) /\ ∀l, H l=none -> Q (.ref l) (upd H l (.lst ys))) :=by
 intro pins s σ H xs us Q I r h;obtain⟨p, ys, rfl, hq, q⟩ :=h;obtain⟨u, rfl, rx⟩ :=vals1 r;cases rx;have fin:∀(its:List Value), Vals ys its -> ys.length ≤ sizeLine -> ∀(h':Heap) (c':Nat), (∀b o', s.heap.get? b=some o' -> h'.get? b=some o') ->
   h'.get? s.heap.objs.size=some {cls :=.type "list", dict :=none, data :=.seq its.toArray c', slots :=#[]} -> EP X pins σ Q (.ref s.heap.objs.size) {s with heap :=h' } :=fun its r' hz h' c' kp e =>
  ⟨.ref s.heap.objs.size, _, I.laid (t' :=s.toks) kp (Nat.le_refl _) (show ObjOk X.prog X.w _ h' _ (.lst ys)from⟨hz, its, c', r', e⟩), rfl, q _ (I.hok.fresh (Nat.le_refl _))⟩
 rcases hq with hq|hq
 .obtain⟨its, r', pl, hz⟩ :=I.list hq;have hlen :=r'.length;obtain⟨o, ho, hc, n, hd⟩ :=pl.isList;exact call_list_seq p (.inl rfl) ho hc hd (fun h' c' kp e => fin its r' hz h' c' kp e) (by simp only[List.size_toArray]<;>omega)
 .obtain⟨its, r', pl, hz⟩ :=I.tuple hq;have hlen :=r'.length;obtain⟨o, ho, hc, n, hd⟩ :=pl;exact call_list_seq p (.inr rfl) ho hc hd (fun h' c' kp e => fin its r' hz h' c' kp e) (by simp only[List.size_toArray]<;>omega)
theorem call_tuple_of:CallR X (.type "tuple") (fun xs H Q => ∃p ys, xs=[.ref p] /\ ((SqL X.K H p ys /\ ∀l, H l=none -> Q (.ref l) (upd H l (.tup ys))) \/ (SqT X.K H p ys /\ Q (.ref p) H))) :=by
 intro pins s σ H xs us Q I r h;obtain⟨p, ys, rfl, h⟩ :=h;obtain⟨u, rfl, rx⟩ :=vals1 r;cases rx;rcases h with⟨hq, q⟩|⟨hq, q⟩
 .obtain⟨its, r', pl, hz⟩ :=I.list hq;have hlen :=r'.length;refine call_tuple_list pl.isList (fun h' kp => ?_) (by simp only[List.size_toArray]<;>omega);have I1:Inv X pins σ H {s with heap :=h' } :=I.kept (t' :=s.toks) kp;have I2:Inv X pins σ (upd H h'.objs.size (.tup ys)) {s with heap :=h'.push {cls :=.type "tuple", data :=.seq its.toArray} } :=
   I1.laid (t' :=s.toks) (fun b o e => Heap.get?_push_of_some _ e) (Nat.le_refl _) (show ObjOk X.prog X.w _ _ _ (.tup ys)from⟨hz, its, r', PlainT.new _ _⟩)
  exact⟨.ref h'.objs.size, _, I2, rfl, q _ (I1.hok.fresh (Nat.le_refl _))⟩
 .obtain⟨its, r', pl, hz⟩ :=I.tuple hq;exact call_tuple_same pl ⟨.ref p, H, I, rfl, q⟩
def tyV(K:PySem.W.Frag)(T:String)(x:V)(H:Hp):Prop :=match x with
 | .str _ => T = "str"
 | .int _ => T = "int"
 | .ref p => (T = "list" /\ ∃xs, SqL K H p xs) \/ (T = "tuple" /\ ∃xs, SqT K H p xs) \/
   (T = "dict" /\ ((∃kvs, H p=some (.dK kvs)) \/ ∃kvs, H p=some (.dT kvs))) \/ (T = "set" /\ ∃S n, H p=some (.set S n))
 |_ => False
theorem tyV_is{s:Shared}{T:String}{x:V}{v:Value}(I:Inv X pins σ H s)(r:RelV x v)(ty:tyV X.K T x H) :
  s.TypeIs v T /\ ∀a, v = .ref a -> ∃ob, s.heap.get? a=some ob /\ ob.dict=none :=by
 cases x with
 |str z =>
  obtain⟨t, rfl⟩ :=r
  cases (show T = "str" from ty)
  exact⟨typeIs_str s z t, fun _ e => nomatch e⟩
 |int i =>
  obtain⟨t, rfl⟩ :=r
  cases (show T = "int" from ty)
  exact⟨typeIs_int s i t, fun _ e => nomatch e⟩
 | ref p =>
  cases r;rcases ty with⟨rfl, xs, hq⟩|⟨rfl, xs, hq⟩|⟨rfl, hk⟩|⟨rfl, S, n, hk⟩
  .obtain⟨its, _, pl, _⟩ :=I.list hq;refine⟨pl.isList.typeIs, fun a e => ?_⟩;cases e;obtain⟨o, n, e, c, hd, _⟩ :=pl;exact⟨o, e, hd⟩
  .obtain⟨its, _, ⟨o, e0, hc, hd, _⟩, _⟩ :=I.tupleP hq;refine⟨⟨o, e0, hc⟩, fun a e => ?_⟩;cases e;exact⟨o, e0, hd⟩
  .have z:∃o, s.heap.get? p=some o /\ o.ExactDict :=by
    rcases hk with⟨kvs, hk⟩|⟨kvs, hk⟩
    .obtain⟨_, _, _, _, o, _, _, e, ex, _⟩ :=I.hok p _ hk;exact⟨o, e, ex⟩
    .obtain⟨_, _, _, _, o, _, _, e, ex, _⟩ :=I.hok p _ hk;exact⟨o, e, ex⟩
   obtain⟨o, e, ex⟩ :=z;refine⟨⟨o, e, ex.1⟩, fun a e2 => ?_⟩;cases e2;exact⟨o, e, ex.2.1⟩
  .obtain⟨o, _, _, _, e, ex, _⟩ :=I.hok p _ hk;refine⟨⟨o, e, ex.1⟩, fun a e2 => ?_⟩;cases e2;exact⟨o, e, ex.2.1⟩
 |_ => exact False.elim ty
def tBM(K:PySem.W.Frag)(T:String)(r:V -> List V -> Hp -> VK -> Prop)(to:TE)(t:TA):TE :=fun σ H Q => to σ H fun x H1 => tyV K T x H1 /\ t σ H1 fun xs H2 => r x xs H2 Q
variable {o e:Expr}{es:List Expr}{to:TE}{t:TA}{name:Str}{apos cpos:Pos}{T id:String}{r:V -> List V -> Hp -> VK -> Prop}
theorem pe_bm(pa:PlainAttrs T)(slot:Slot T name id)(hty:typeOf (.builtin id)=pure (.type "method_descriptor"))(hm:MtR X id r)(ho:PE X o to)(ha:PA X (e::es) t)
  (hbase:attributeBase o name X.env (eval o X.env)=eval o X.env :=by rfl)
  (hfew:((backTo cpos (starEach (e::es) X.env)).all (fun x => !x.1)&&(backToKw cpos (keywordEach [] X.env)).all (fun x => x.1.isSome)
   && decide ((e::es).length+([]:List Keyword).length+(if ([]:List Keyword).isEmpty then 0 else 1)<30))=true :=by rfl)
  (hline:(apos.endLine==cpos.line)=true :=by rfl) (hs:starEach (e::es) X.env=(false, eval e X.env)::starEach es X.env :=by rfl) (hplain:(backTo cpos (starEach es X.env)).any (·.1)=false :=by rfl) :
  PE X (.Call (.Attribute o name apos) (e::es) [] cpos) (tBM X.K T r to t) :=by
 intro pins s σ H Q I h;refine wpAny_Call_method_late hbase hfew hline rfl (thn (ho pins s σ H _ I h) fun v s1 ⟨x, H1, I1, r1, ty, q1⟩ => ?_);obtain⟨h1, h2⟩ :=tyV_is I1 r1 ty;refine⟨T, id, pa, slot, hty, h1, h2, ?_⟩;have hA :=ha cpos pins s1 σ H1 _ I1 q1;rw[hs]at hA⊢;refine Calls.callWith_builtin (by show(false||(backTo cpos (starEach es X.env)).any (·.1))=false;rw[hplain]<;>rfl) (Calls.evalArgs_plain ?_);exact thn hA fun us s2 ⟨vs, H2, I2, r2, q2⟩ => hm pins s2 σ H2 x vs v us Q I2 r1 r2 q2
end
def MtM(X:Cx)(id:String)(r:V -> List V -> Hp -> VK -> Prop):Prop :=
 ∀(pins:List (Addr × Obj)) (s:Shared) (σ:St) (H:Hp) (x:V) (xs:List V) (v:Value) (us:List Value) (Q:VK), Inv X pins σ H s -> RelV x v -> Vals xs us -> r x xs H Q ->
  wpAny (model X.prog X.w) X.A (call (.builtin id) (v::us)) (EP X pins σ Q) X.xe s
theorem Vals.one:∀{x:V}{us:List Value}, Vals [x] us -> ∃u, us=[u] /\ RelV x u
 |_, _, .cons r .nil => ⟨_, rfl, r⟩
theorem Vals.eraseIdx:∀{xs:List V}{us:List Value} (i:Nat), Vals xs us -> Vals (xs.eraseIdx i) (us.eraseIdx i)
 |_, _, _, .nil => .nil
 |_, _, 0, .cons _ t => t
 |_, _, i+1, .cons r t => .cons r (Vals.eraseIdx i t)
theorem Vals.rep{xs:List V}{us:List Value}(h:Vals xs us):∀k:Nat, Vals (List.replicate k xs).flatten (List.replicate k us).flatten
 |0 => .nil
 |k+1 => by
  rw[List.replicate_succ, List.replicate_succ, List.flatten_cons, List.flatten_cons];exact Vals.append h (Vals.rep h k)
theorem len_erase{α:Type}:∀(l:List α) (i:Nat), (l.eraseIdx i).length ≤ l.length
 |[], _ => Nat.le_refl _
 |_::_, 0 => Nat.le_succ _
 |_::r, i+1 => Nat.succ_le_succ (len_erase r i)
theorem foldl_rep(its:List Value):∀(k:Nat) (acc:List Value),
  List.foldl (fun x1 x2 => x1 ++ x2) acc.toArray (List.replicate k its.toArray)=(acc ++ (List.replicate k its).flatten).toArray
 |0, acc => by simp
 | k+1, acc => by
  have e:acc.toArray ++ its.toArray=(acc ++ its).toArray :=by simp
  have e2:(acc ++ its) ++ (List.replicate k its).flatten=acc ++ (List.replicate (k+1) its).flatten :=by
   rw[List.replicate_succ, List.flatten_cons, List.append_assoc]
  rw[<- e2, <- foldl_rep its k (acc ++ its), <- e, List.replicate_succ, List.foldl_cons]
section
variable {X:Cx}{pins:List (Addr × Obj)}{σ:St}{H:Hp}{s:Shared}{l b:Addr}{xs ys zs:List V}
theorem Inv.lset{f:Array Value -> Array Value}{t':Nat}(I:Inv X pins σ H s)(hH:H l=some (.lst xs))
  (e:s.heap.get? l=some {cls :=.type "list", data :=.seq its.toArray n}) (hf:f its.toArray=its'.toArray) (hv:Vals ys its') (hz:ys.length ≤ sizeLine) :
  Inv X pins σ (upd H l (.lst ys)) {s with heap :=s.heap.update l (Obj.mapSeq f), toks :=t' } :=by
 have q :=PySem.IsL.update e f;rw[hf]at q;refine I.write (x :=l) (e :=l) (by rw[hH];exact trivial) (.inl rfl) (fun b' u hb hu => (Heap.get?_update_other s.heap (Obj.mapSeq f) (Ne.symm hb)).trans hu) ⟨_, q⟩ ?_;exact⟨hz, its', _, hv, q⟩
theorem Inv.lnew{t':Nat}(I:Inv X pins σ H s)(hv:Vals ys its)(hz:ys.length ≤ sizeLine) :
  Inv X pins σ (upd H s.heap.objs.size (.lst ys)) {s with heap :=s.heap.push {cls :=.type "list", data :=.seq its.toArray}, toks :=t' } :=
 I.laid (fun _ _ q => Heap.get?_push_of_some _ q) (Nat.le_refl _) ⟨hz, its, 0, hv, Heap.get?_push_size _ rfl⟩
theorem Inv.fresh(I:Inv X pins σ H s):H s.heap.objs.size=none :=I.hok.fresh (Nat.le_refl _)
theorem Inv.lstM(I:Inv X pins σ H s)(hH:H l=some (.lst xs)):xs.length ≤ sizeLine /\ ∃(its:List Value) (n:Nat), Vals xs its /\ xs.length=its.length /\ s.heap.get? l=some {cls :=.type "list", data :=.seq its.toArray n} :=by
 obtain⟨z, its, n, r, e⟩ :=I.hok l _ hH;exact⟨z, its, n, r, r.length, e⟩
theorem notLongL(h:n ≤ sizeLine):Builtin.List.listTooLong n=false :=by
 unfold Builtin.List.listTooLong;exact decide_eq_false (by omega)
end
section
variable {X:Cx}
def rAppend:V -> List V -> Hp -> VK -> Prop :=fun x vs H Q => ∃l xs y, x = .ref l /\ vs=[y] /\ H l=some (.lst xs) /\ xs.length<sizeLine /\ Q .non (upd H l (.lst (xs ++ [y])))
theorem mt_append:MtM X "list.append" rAppend :=by
 intro pins s σ H x vs v us Q I rx rv h;obtain⟨l, xs, y, rfl, rfl, hH, hz, q⟩ :=h;cases rx;obtain⟨u, rfl, ru⟩ :=rv.one;obtain⟨z, its, n, r, hl, e⟩ :=I.lstM hH;refine call_meets F.slot_list_append ⟨_, e, rfl⟩ F.entry_list_append (F.args_list_append_2 _ _) (PySem.list_append l its.toArray n u (by rw[List.size_toArray];omega)) ⟨e, ?_⟩;refine⟨.non, _, I.lset (its' :=its ++ [u]) hH e (by simp) (r.append (.cons ru .nil)) ?_, rfl, q⟩;rw[List.length_append, List.length_singleton];omega
def rExtend:V -> List V -> Hp -> VK -> Prop :=fun x vs H Q => ∃l b xs zs, x = .ref l /\ vs=[.ref b] /\ H l=some (.lst xs) /\ H b=some (.lst zs) /\ xs.length+zs.length ≤ sizeLine /\ Q .non (upd H l (.lst (xs ++ zs)))
theorem mt_extend:MtM X "list.extend" rExtend :=by
 intro pins s σ H x vs v us Q I rx rv h;obtain⟨l, b, xs, zs, rfl, rfl, hH, hB, hz, q⟩ :=h;cases rx;obtain⟨u, rfl, ru⟩ :=rv.one;cases ru;obtain⟨z, its, n, r, hl, e⟩ :=I.lstM hH;obtain⟨z2, its2, n2, r2, hl2, e2⟩ :=I.lstM hB;have hsz:its.toArray.size+its2.toArray.size ≤ sizeLine :=by rw[List.size_toArray, List.size_toArray];omega
 have hlong:¬(!its.toArray.isEmpty&&Builtin.List.listTooLong (its.toArray.size+its2.toArray.size))=true :=by
  rw[notLongL hsz, Bool.and_false];exact Bool.false_ne_true
 refine call_meets F.slot_list_extend ⟨_, e, rfl⟩ F.entry_list_extend (F.args_list_extend_2 _ _)
  (AutoSeq1.list_extend_list_list_0 l its.toArray n b its2.toArray n2 hlong (by rw[List.size_toArray];omega) (by omega)) ⟨e, e2, ?_⟩
 refine⟨.non, _, I.lset (its' :=its ++ its2) hH e (by simp) (r.append r2) ?_, rfl, q⟩;rw[List.length_append];omega
def rPopAt:V -> List V -> Hp -> VK -> Prop :=fun x vs H Q => ∃l xs i k y, x = .ref l /\ vs=[.int i] /\ H l=some (.lst xs) /\ -(2^63) ≤ i /\ i<2^63 /\ seqIndex? i xs.length=some k /\ xs[k]?=some y /\ Q y (upd H l (.lst (xs.eraseIdx k)))
theorem mt_popAt:MtM X "list.pop" rPopAt :=by
 intro pins s σ H x vs v us Q I rx rv h;obtain⟨l, xs, i, k, y, rfl, rfl, hH, h1, h2, hk, hy, q⟩ :=h;cases rx;obtain⟨u, rfl, ru⟩ :=rv.one;obtain⟨t, rfl⟩ :=ru;obtain⟨z, its, n, r, hl, e⟩ :=I.lstM hH;obtain⟨w, hw, rw'⟩ :=r.get hy;refine call_meets F.slot_list_pop ⟨_, e, rfl⟩ F.entry_list_pop (F.args_list_pop_2 _ _)
  (MeetsSeq.list_pop_at l its.toArray n i t k w (fitsIndex_both h1 h2) (by rw[List.size_toArray, <- hl];exact hk) (by rw[<- Array.getElem?_toList];exact hw) (by rw[List.size_toArray];omega)) ⟨e, ?_⟩
 refine⟨y, _, I.lset (its' :=its.eraseIdx k) hH e ?_ (r.eraseIdx k) ?_, rw', q⟩
 .show its.toArray.eraseIdxIfInBounds k=(its.eraseIdx k).toArray;rw[List.eraseIdxIfInBounds_toArray]
 .have :=len_erase xs k;omega
def rRep:R2 :=fun x y H Q => ∃l k xs, x = .ref l /\ y = .int k /\ H l=some (.lst xs) /\ -(2^63) ≤ k /\ k<2^63 /\ xs.length*k.toNat ≤ sizeLine /\
 ∀p, H p=none -> Q (.ref p) (upd H p (.lst (List.replicate k.toNat xs).flatten))
theorem len_rep(xs:List α)(k:Nat):(List.replicate k xs).flatten.length=k*xs.length :=by
 induction k with
 |zero => simp
 |succ k ih => rw[List.replicate_succ, List.flatten_cons, List.length_append, ih, Nat.succ_mul, Nat.add_comm]
theorem op_rep:OpR X (binaryOp .Mult) rRep :=by
 intro pins s σ H x y v u Q I rx ry h;obtain⟨l, k, xs, rfl, rfl, hH, h1, h2, hz, q⟩ :=h;cases rx;obtain⟨t, rfl⟩ :=ry;obtain⟨z, its, n, r, hl, e⟩ :=I.lstM hH;have hlen:its.toArray.size*k.toNat ≤ sizeLine :=by rw[List.size_toArray, <- hl];exact hz
 have hcap:¬its.toArray.size*k.toNat>(2^63-1)/8 :=by
  have:(sizeLine:Nat) ≤ (2^63-1)/8 :=by decide
  omega
 have hfit:¬(!Builtin.List.listFitsIndex k)=true :=by
  rw[fitsIndex_both h1 h2];exact Bool.false_ne_true
 have hlong:¬Builtin.List.listTooLong (its.toArray.size*k.toNat)=true :=by
  rw[notLongL hlen];exact Bool.false_ne_true
 have hnew:List.foldl (fun x1 x2 => x1 ++ x2) #[] (List.replicate (if its.toArray.isEmpty=true then 0 else k.toNat) its.toArray)=(List.replicate k.toNat its).flatten.toArray :=by
  have f0:∀m:Nat, List.foldl (fun x1 x2 => x1 ++ x2) #[] (List.replicate m its.toArray)=(List.replicate m its).flatten.toArray :=fun m => by
   have :=foldl_rep its m [];rw[List.nil_append]at this;exact this
  rw[f0]
  cases its with
  |nil => simp
  |cons a r' => rw[if_neg (by simp)]
 refine wpAny_binaryOp_repeat_ref (T := "list") (U := "int") (by decide) ⟨_, e, rfl⟩ (fun s' => typeIs_int s' k t) noFill_list_mul F.fills_int_mul F.slot_int_rmul repeat_list F.slot_int_index.lookup
  (call_meets F.slot_int_rmul (typeIs_int s k t) F.entry_int_rmul (F.args_int_rmul_2 _ _) (int___rmul___int_list k t l its.toArray n)
   ⟨e, rfl, ⟨_, e, rfl⟩, call_meets F.slot_list_mul ⟨_, e, rfl⟩ F.entry_list_mul (F.args_list_mul_2 _ _) (AutoListH.list___mul___list_int_3 l its.toArray n k t hfit hcap hlong) ⟨e, ?_⟩⟩)
 rw[hnew];exact⟨.ref _, _, I.lnew (t' :=s.toks) (r.rep k.toNat) (by rw[len_rep, Nat.mul_comm];exact hz), rfl, q _ I.fresh⟩
end
end L2
namespace Att
open PySem PySem.W PySem.Calls PyProof.Rows
theorem ints_of_wellAll{P:Params}{h:Heap}:∀(ns:List Int) (vs:List Value), WellAll P h vs (ns.map WData.int) -> IntsAre vs ns :=by
 intro ns
 induction ns with
 |nil =>
  intro vs w;rw[List.map_nil]at w;cases w;exact .nil
 | cons n ns ih =>
  intro vs w;rw[List.map_cons]at w
  cases w with
  |cons a b =>
   cases a;exact .cons _ _ (ih _ b)
theorem script_of{l:OpenLaw}{n:Nat}(hn:l.most=some n){P:Params}{h:Heap}{args:List WData}{vals:List Value}
  (hpre:l.row.toRowW.claim.pre args=true) (hwl:WellAll P h vals args) :
  ∃a vs ns, vals=[Value.ref a] /\ args=[WData.list (ns.map WData.int)] /\ h.get? a=some {cls :=.type "list", data :=.seq vs.toArray} /\ IntsAre vs ns /\ ns.length ≤ n :=by
 have hsh:WShape.hasAll [] args [.list .int]=true :=(pre_splitW hpre).1;have hc:l.pre.holds [] {args :=args}=true :=(pre_splitW hpre).2;obtain⟨d, r, rfl, h1, h2⟩ :=hasAllW_cons hsh;obtain rfl :=hasAllW_nil h2;obtain⟨xs, rfl, h3⟩ :=hasW_list h1;obtain⟨ns, rfl⟩ :=items_int h3;have hlen:ns.length ≤ n :=by
  unfold OpenLaw.pre at hc;have h4:(WTm.not (.lt (.lit (.int (n:Int))) (.len (.arg 0)))).holds [] {args :=[.list (ns.map .int)]}=true :=by
   have h4 :=(holds_andW hc).1;rw[hn]at h4;exact h4
  have h5 :=condW_of h4 (w_not (w_lt w_lit (w_len_list (w_arg rfl))));rw[List.length_map]at h5;refine Nat.le_of_not_lt fun q => ?_;have q':(n:Int)<((ns.length:Nat):Int) :=by omega
  first
   |(rw[decide_eq_true q']at h5;exact absurd h5 (by decide))
   |(simp at h5;omega)
 cases hwl with
 |cons w1 w2 =>
  cases w2
  cases w1 with
  |list ho hall => exact⟨_, _, ns, rfl, rfl, ho, ints_of_wellAll ns _ hall, hlen⟩
theorem post_true(l:OpenLaw)(args:List WData):l.row.toRowW.claim.post args (.bool true) args=true :=
 postW_of (r :=l.row.toRowW) (X :=(true==true))
  (show WShape.has [] (.bool true) .bool=true by first|rfl|decide|simp[WShape.has, WShape.arms, WShape.armsAll])
  (show(WTm.eq .res (.lit (.bool true))).value [] {args :=args, res :=some (.bool true), after :=args}=some (.bool (true==true))from w_eq_bool (w_res rfl) w_lit) rfl
theorem attach_call{l:OpenLaw}{n:Nat}{q:Program}{loose:List Str}{XP:(Str -> Option Value) -> Heap -> Prop}{YP:World -> Heap -> Prop}{d:DefRec}
  (hn:l.most=some n) (hdf:d.params.defaults=[])
  (call:∀(w:World) (s₀ s₁:Shared) (mg mb:Str -> Option Value) (fa:Addr) (o:Obj) (pm cd doc:Value) (a:Addr) (vs:List Value) (ns:List Int),
   Ground q loose [] XP w s₀ mg mb s₁.heap -> YP w s₁.heap ->
   s₁.heap.get? fa=some o -> o.data = .func (docDef d.name d.params d.body d.scope pm cd doc) -> s₁.heap.CodeRec cd d.name -> mg d.name=some (.ref fa) ->
   s₁.heap.get? a=some {cls :=.type "list", data :=.seq vs.toArray} -> IntsAre vs ns -> ns.length ≤ n -> s₁.gens = #[] ->
   codeAny (model l.prog w) callerA (.call (.ref fa) ⟨[.ref a], []⟩) (fun r s' => r = .ok (.ret (.bool true)) /\ OldK s₁.heap s'.heap /\ s'.os=s₁.os /\ AllBare s'.gens) s₁) :
  WalkO q loose XP YP l.row.toRowW d [] (fun f vs => PySem.call f vs) :=by
 intro w s₀ s₁ mg mb G Y fa o pm cd doc dV kV ho hd hcd hD hmg hg args vals as hpre hlay hrd hwl hlo;obtain rfl:dV = .none :=Dflts.none hD hdf;obtain rfl:kV = .none :=Dflts.noKw hD;obtain⟨a, vs, ns, rfl, rfl, hobj, hints, hlen⟩ :=script_of hn hpre hwl;refine enter_call (codeAny_mono (call w s₀ s₁ mg mb fa o pm cd doc a vs ns G Y ho (fd_plain hd) hcd hmg hobj hints hlen hg) fun r s' hq => ?_);obtain⟨rfl, h2, h3, h4⟩ :=hq;exact⟨.inl ⟨.bool true, .bool true, [], rfl, fun _ => rfl, .bool true, post_true l _, fun _ => ⟨List.Pairwise.nil, fun _ hm => (nomatch hm)⟩⟩, h2, h3, h4⟩
end Att
namespace L2
open PySem PySem.Spec PyProof.Rows
variable{P:MSt -> Prop}{w:WS}{K:Kd}{mg:Str -> Option Value}{i j k n nN q:Nat}{a f l:Addr}{fd:FuncData}{qual x y:Str}{ns:List Int}{X:Cx}{st:Stmt}{N own ps:List Str}{od:Option Addr}{A B:Prop}{env:Env}{scope:Scope}{e elt t tg:Expr}{p pos pos':Pos}{ifs:List Expr}{tb:TS}{J:It}{fp:List Addr}{pins:List (Addr × Obj)}{σ σ':St}{H H' H0 H1 H2 Hb:Hp}{D De:MEnds}{E:Value -> Shared -> Prop}{Q:VK}{vs xs:List V}{ds ds':List PyData}{v:V}{ao:Ao}{α α' α1 β:Al}{τ:List (List Nat × Addr)}{r:R}{o:WO}{op:CmpOp}{sp:SpM}{ks:List Nat}{g:WG}{gs:WGs}{m1:MSt}{wi:WI}{ob:R -> Option Int -> Option Int -> MSt -> (R -> Prop) -> Prop}{hi lo:Option Expr}{wh wl:WO1}{as:List Ag}{Ko:Option Int -> MSt -> Prop}{Ks:Src -> MSt -> Prop}
theorem vals_ints:∀{vs:List Value}{ns:List Int}, IntsAre vs ns -> Vals (ns.map V.int) vs
 |_, _, .nil => .nil
 |_, _, .cons n t h => .cons ⟨t, rfl⟩ (vals_ints h)
def Only(H:Hp):Prop :=∀b, H b=none \/ ∃o xs, H b=some (.frz o (.lst xs))
theorem law_call{P:Program}{w:World}{K:PySem.W.Frag}{mb:Str -> Option Value}{CX:CXT}{fa:Addr}{sp:Sp}{s₁:Shared}{vs:List Value}
  (KX:K.In s₁.heap) (hns:s₁.heap.Ns mainGlobals mg) (hb:s₁.heap.Ns builtinsNs mb) (hbb:∀x:Str, x ≠ "__name__" -> mb x=bootBuiltins x) (hlim:s₁.heap.NoLimit) (hsy:∃m, s₁.heap.Ns sysModules m) (hg:s₁.gens = #[])
  (ha:s₁.heap.get? a=some {cls :=.type "list", data :=.seq vs.toArray}) (hi:IntsAre vs ns) (hl:ns.length ≤ sizeLine) (hr:Room k callerA)
  (F:∀base:Heap, K.In base -> base.Ns mainGlobals mg -> FnOk P w K mg base CX k fa fd [x] sp) (hbind:∀(s:Shared) (u:Value), BindsTo s fd ⟨[u], []⟩ [(x, u)])
  (hsp:∀H:Hp, Only H -> SqL K H a (ns.map V.int) -> sp [.ref a] H (fun v _ => v = .bl true) fun _ _ _ => False)
  (hCX:∀H e s', CX [] H s₁ (fun _ _ _ => False) e s' -> False) :
  codeAny (model P w) callerA (.call (.ref fa) ⟨[.ref a], []⟩) (fun r s' => r = .ok (.ret (.bool true)) /\ OldK s₁.heap s'.heap /\ s'.os=s₁.os /\ AllBare s'.gens) s₁ :=by
 have rv :=vals_ints hi;have lenV :=hi.length;have core:∀H:Hp, Only H -> SqL K H a (ns.map V.int) -> HOk P w H s₁.heap -> (∀b, H b ≠ none -> b=a) -> (H a ≠ none -> K.lookup a=none) ->
   codeAny (model P w) callerA (.call (.ref fa) ⟨[.ref a], []⟩) (fun r s' => r = .ok (.ret (.bool true)) /\ OldK s₁.heap s'.heap /\ s'.os=s₁.os /\ AllBare s'.gens) s₁ :=by
  intro H hO hS hok hA hK;have base_of:∀{b:Addr}{o:Obj}, s₁.heap.get? b=some o -> H b=none -> (hidT s₁.heap H).get? b=some o :=fun e n => hidT_get e n;have noA:∀{b:Addr}{o:Obj}{es:Array DictEntry}{ep:Nat}, s₁.heap.get? b=some o -> o.data = .dict es ep -> H b=none :=fun {b o es ep} e d => by
   cases q:H b with
   |none => rfl
   |some u =>
    have e':b=a :=hA b (by rw[q];simp);subst e';rw[ha]at e;cases e;have d':Data.seq vs.toArray _=Data.dict es ep :=d;cases d'
  have nsK:∀{b:Addr}{m:Str -> Option Value}, s₁.heap.Ns b m -> (hidT s₁.heap H).Ns b m :=fun {b m} ⟨o, es, ep, e, d, r⟩ => ⟨o, es, ep, base_of e (noA e d), d, r⟩;have hKb:K.In (hidT s₁.heap H) :=fun b o e => base_of (KX b o e) (by
   cases q:H b with
   |none => rfl
   |some u =>
    have e':b=a :=hA b (by rw[q];simp);subst e';rw[hK (by rw[q];simp)]at e;cases e)
  have hM:Mod K mg (hidT s₁.heap H) :=⟨hKb, nsK hns, ⟨mb, nsK hb, hbb⟩, let ⟨mc, h1, h2⟩ :=hlim;⟨mc, nsK h1, h2⟩, let ⟨m, h⟩ :=hsy;⟨m, nsK h⟩⟩;have e0:Env0 P w K mg (hidT s₁.heap H) callerA [] s₁ H :=⟨rfl, hM, fun b o e => of_hidT e, Nat.le_of_eq (hidT_size _ _), trivial, fun b hb => absurd (show b ∈ ([]:List Addr)from hb) (by simp), hok, .of_eq hg⟩;refine codeAny_mono ((F _ hKb (nsK hns)).run callerA [] s₁ H ⟨[.ref a], []⟩ [.ref a] [.ref a] _ _ hr e0 (hbind s₁ (.ref a)) (.cons rfl .nil) (hsp H hO hS)) fun r s' h => ?_
  cases r with
  |error e => exact(hCX H e s' h).elim
  | ok fl =>
   cases fl with
   |next => exact False.elim h
   |brk => exact False.elim h
   |cont => exact False.elim h
   | ret u =>
    obtain⟨v, H', os, bare, un, hok', r', q⟩ :=h;have q':v = .bl true :=q;subst q';obtain rfl:u=Value.bool true :=r';refine⟨rfl, OldK.of_keep fun b o e => ?_, os, bare⟩
    cases q:H b with
    |none => exact un.keep b o e q (by intro z;exact absurd (show b ∈ ([]:List Addr)from z) (by simp)) (by simp)
    |some u =>
     rcases hO b with z|⟨ob, xs, z⟩
     .rw[q]at z;cases z
     .have z2 :=un.frzs b ob _ z;obtain⟨e1, _⟩ :=hok b _ z;obtain⟨e2, _⟩ :=hok' b _ z2;rw[e]at e1;cases e1;exact e2
 cases hk:K.lookup a with
 |some o =>
  have e :=KX a o hk;rw[ha]at e;cases e;refine core (fun _ => none) (fun _ => .inl rfl) (.inr ⟨_, vs.toArray, _, hk, rfl, rfl, rfl, by rw[List.size_toArray, lenV];exact hl, by simpa using rv⟩) (fun b u z => by have z':(none:Option HO)=some u :=z;cases z') (fun b z => absurd rfl z) fun z => absurd rfl z
 | none =>
  refine core (fun b => if b=a then some (.frz {cls :=.type "list", data :=.seq vs.toArray} (.lst (ns.map V.int)))else none) (fun b => ?_) (.inl (.inr ⟨{cls :=.type "list", data :=.seq vs.toArray}, if_pos rfl⟩)) (fun b u z => ?_) (fun b z => ?_) fun _ => hk
  .by_cases hb:b=a
   .exact .inr ⟨_, _, if_pos hb⟩
   .exact .inl (if_neg hb)
  .by_cases hb:b=a
   .have z' :=(if_pos hb).symm.trans z;cases z';subst hb;exact⟨ha, by rw[List.length_map];exact hl, vs, _, rv, ha⟩
   .have z' :=(if_neg hb).symm.trans z;cases z'
  .by_cases hb:b=a
   .exact hb
   .exact absurd (if_neg hb) z
theorem walk_of{l:PySem.W.OpenLaw}{q:Program}{loose:List Str}{XP:(Str -> Option Value) -> Heap -> Prop}{YP:World -> Heap -> Prop}{d:DefRec}{K:Params -> PySem.W.Frag}{CX:World -> CXT}{sp:World -> Sp}
  (hq:importsNone q=true) (hn:l.most=some n) (hn2:n ≤ sizeLine) (hdf:d.params.defaults=[]) (hr:Room k callerA)
  (hY:∀(w:World) (h:Heap), YP w h -> (K w.params).In h)
  (F:∀(w:World) (mg:Str -> Option Value) (fa:Addr) (h:Heap), (K w.params).In h -> h.Ns mainGlobals mg -> mg d.name=some (.ref fa) ->
   ∃fd:FuncData, (∀(s:Shared) (u:Value), BindsTo s fd ⟨[u], []⟩ [(x, u)]) /\
    ∀base:Heap, (K w.params).In base -> base.Ns mainGlobals mg -> FnOk l.prog w (K w.params) mg base (CX w) k fa fd [x] (sp w))
  (hsp:∀(w:World) (H:Hp) (a:Addr) (ns:List Int), ns.length ≤ n -> Only H -> SqL (K w.params) H a (ns.map V.int) -> sp w [.ref a] H (fun v _ => v = .bl true) fun _ _ _ => False)
  (hCX:∀(w:World) (H:Hp) (s:Shared) (e:Value) (s':Shared), CX w [] H s (fun _ _ _ => False) e s' -> False) :
  PySem.W.WalkO q loose XP YP l.row.toRowW d [] (fun f vs => PySem.call f vs) :=by
 refine Att.attach_call hn hdf fun w s₀ s₁ mg mb fa o pm cd doc a vs ns G Y ho hd hcd hmg hobj hints hlen hg => ?_;have KX :=hY w _ Y;obtain⟨fd, hb, hF⟩ :=F w mg fa _ KX G.T.g hmg;exact law_call KX G.T.g G.T.b G.T.builtins G.T.nolimit (let ⟨m, h, _⟩ :=(G.T.seer hq).mods;⟨m, h⟩) hg hobj hints (Nat.le_trans hlen hn2) hr hF hb (fun H hO hS => hsp w H a ns hlen hO hS) fun H e s' => hCX w H s₁ e s'
def defArgs(s:Stmt):Arguments :=match s with
 | .FunctionDef _ a _ _ _ _ _ _ _ _ => a
 |_ => {posonlyargs :=[], args :=[], vararg :=none, kwonlyargs :=[], kw_defaults :=[], kwarg :=none, defaults :=[]}
def defBody(s:Stmt):List Stmt :=match s with
 | .FunctionDef _ _ b _ _ _ _ _ _ _ => b
 |_ => []
def defScope(s:Stmt):Scope :=match s with
 | .FunctionDef _ _ _ _ _ _ sc _ _ _ => sc
 |_ => {kind :=.function, names :=[], isGenerator :=false, isCoroutine :=false}
abbrev CX0:CXT :=fun _ _ _ _ _ _ => False
abbrev E0:XK :=fun _ _ _ => False
theorem pass0:Passes CX0 X E0 :=fun _ _ _ _ _ _ _ h => h.elim
structure Fun(K:PySem.W.Frag)(x qual:Str)(st:Stmt)(f:Addr)(fd:FuncData):Prop where
 ex:∃(oc:Value) (od:Option Addr) (kV doc pm:Value) (an:Option Addr) (cdv ct:Value) (osl:Array (Option Value)),
  fd=PySem.W.fnOf x qual (defArgs st) (defBody st) (defScope st) .none kV doc pm an cdv ct /\ K.lookup f=some ⟨oc, od, .func fd, osl⟩ /\ PySem.W.codeIn K cdv qual=true
 kp:PySem.W.keepIn K (.ref f)=true
section
variable {P:Program}{w:World}{K:PySem.W.Frag}{mg:Str -> Option Value}{base:Heap}
theorem Fun.ok{sp:Sp}(F:Fun K x qual st f fd)(S:FnScope N ps (defScope st))(len:∀vs H Q E, sp vs H Q E -> vs.length=ps.length)
  (hbody:∀(cdv:Value) (A:Around) (outer:List Env) (s:Shared) (H:Hp) (vs:List V) (Q:VK) (E:XK), Room k (A.deeper (envOfC qual (defScope st) s.heap.objs.size f cdv)) -> sp vs H Q E ->
   ∃t, PSs (cxOf CX0 P w K mg base N qual (defScope st) f cdv A outer s H E).nox (defBody st) t /\ t {nx :=fun _ H' => Q .non H', rt :=Q} (start N vs) H):FnOk P w K mg base CX0 (k+1) f fd ps sp :=by
 obtain⟨oc, od, kV, doc, pm, an, cdv, ct, osl, rfl, lk, hcd⟩ :=F.ex;refine fn_of lk hcd S len fun A outer s H vs Q E hr hsp => ?_;obtain⟨t, h, q⟩ :=hbody cdv A outer s H vs Q E hr hsp;exact⟨t, h.nox, q⟩
theorem Fun.binds(F:Fun K x qual st f fd)
  (h:∀(kV doc pm:Value) (an:Option Addr) (cdv ct:Value) (us:List Value), us.length=ps.length -> bindArgs (PySem.W.fnOf x qual (defArgs st) (defBody st) (defScope st) .none kV doc pm an cdv ct) ⟨us, []⟩=pure (ps.zip us)):Binds K fd ps [] :=by
 obtain⟨oc, od, kV, doc, pm, an, cdv, ct, osl, rfl, lk, hcd⟩ :=F.ex;exact .all (h kV doc pm an cdv ct)
theorem fun_mk{oc:Value}{an:Option Addr}{osl:Array (Option Value)}{kV doc pm cdv ct:Value}(l:K.lookup f=some ⟨oc, od, .func (PySem.W.fnOf x qual (defArgs st) (defBody st) (defScope st) .none kV doc pm an cdv ct), osl⟩)
  (c:PySem.W.codeIn K cdv qual=true) (k:PySem.W.keepIn K (.ref f)=true):Fun K x qual st f (PySem.W.fnOf x qual (defArgs st) (defBody st) (defScope st) .none kV doc pm an cdv ct) :=⟨⟨oc, od, kV, doc, pm, an, cdv, ct, osl, rfl, l, c⟩, k⟩
end
theorem iteF(h:B):if false=true then A else B :=by
 rw[if_neg Bool.false_ne_true];exact h
theorem iteT(h:A):if true=true then A else B :=by
 rw[if_pos rfl];exact h
def cxComp(X:Cx)(scope:Scope)(cl:List (Str × Addr))(N:List Str)(s:Shared)(H:Hp)(C:Addr)(ex:List Addr):Cx where
 prog :=X.prog
 w :=X.w
 K :=X.K
 mg :=X.mg
 base :=X.base
 A :=X.A
 N :=N
 s₀ :=s
 H₀ :=H
 env :=compEnvC scope cl C X.env
 outer :=X.stack
 stack :=X.stack
 ex :=ex
 fn :=fun _ => false
 calm :=X.calm
 eb :=X.eb
 pn :=[]
 xe :=fun _ _ => False
theorem closure_ok{env:Env}:∀{names:List (Str × NameKind)}{acc:List (Str × Addr)}, (∀y ∈ names, y.2 = .free -> ∃c, env.cells.lookup y.1=some c) -> (∀x c, acc.lookup x=some c -> env.cells.lookup x=some c) ->
  ∃cl, (forIn names acc fun(x:Str × NameKind) (cs:List (Str × Addr)) => if (x.2==NameKind.free)=true then do let c <- cellOf env x.1;pure (ForInStep.yield ((x.1, c)::cs))else pure (ForInStep.yield cs):Sem (List (Str × Addr)))=pure cl /\
   (∀x c, cl.lookup x=some c -> env.cells.lookup x=some c) /\ (∀y ∈ names, y.2 = .free -> ∃c, cl.lookup y.1=some c) /\ (∀x, (∃c, acc.lookup x=some c) -> ∃c, cl.lookup x=some c)
 |[], acc, _, ha => ⟨acc, rfl, ha, fun y hy => absurd hy (by simp), fun _ h => h⟩
 | (n, k)::r, acc, h, ha => by
  rw[List.forIn_cons]
  by_cases hk:k = .free
  .subst hk;obtain⟨c, hc⟩ :=h (n, .free) List.mem_cons_self rfl;have hc':env.cells.lookup n=some c :=hc;have e1:cellOf env n=pure c :=by unfold cellOf;rw[hc']
   obtain⟨cl, e2, h2, h3, h4⟩ :=closure_ok (env :=env) (names :=r) (acc :=(n, c)::acc) (fun y hy => h y (List.mem_cons_of_mem _ hy)) (fun x d hx => by
    rw[List.lookup_cons]at hx
    cases hb:x==n with
    |true => rw[hb]at hx;cases hx;rw[eq_of_beq hb];exact hc'
    |false => rw[hb]at hx;exact ha x d hx)
   refine⟨cl, ?_, h2, fun y hy hyk => ?_, fun x hx => h4 x ?_⟩
   .simp only[beq_self_eq_true, if_true, e1, pure_bind];exact e2
   .obtain rfl|hy :=List.mem_cons.mp hy
    .exact h4 n ⟨c, by rw[List.lookup_cons];simp⟩
    .exact h3 y hy hyk
   .obtain⟨d, hd⟩ :=hx;rw[List.lookup_cons]
    cases hb:x==n with
    |true => exact⟨c, rfl⟩
    |false => exact⟨d, hd⟩
  .have hb:(k==NameKind.free)=false :=by simpa using hk
   obtain⟨cl, e2, h2, h3, h4⟩ :=closure_ok (env :=env) (names :=r) (acc :=acc) (fun y hy => h y (List.mem_cons_of_mem _ hy)) ha;refine⟨cl, ?_, h2, fun y hy hyk => ?_, h4⟩
   .simp only[hb, Bool.false_eq_true, if_false, pure_bind];exact e2
   .obtain rfl|hy :=List.mem_cons.mp hy
    .exact absurd hyk hk
    .exact h3 y hy hyk
theorem closureFor_ok(h:∀y ∈ scope.names, y.2 = .free -> ∃c, env.cells.lookup y.1=some c) :
  ∃cl, closureFor scope env=pure cl /\ (∀x c, cl.lookup x=some c -> env.cells.lookup x=some c) /\ ∀y ∈ scope.names, y.2 = .free -> ∃c, cl.lookup y.1=some c :=by
 obtain⟨cl, e, h1, h2, _⟩ :=closure_ok (env :=env) (names :=scope.names) (acc :=[]) h (fun x c hx => by cases hx);refine⟨cl, ?_, h1, h2⟩;simp only[closureFor];have e' :=congrArg (fun(t:Sem (List (Str × Addr))) => t >>= fun cs => pure cs) e;simp only[pure_bind, bind_pure]at e'⊢;exact e'
def PTs(X:Cx)(ifs:List Expr)(t:TT):Prop :=
 ∀(pins:List (Addr × Obj)) (s:Shared) (σ:St) (H:Hp) (Q:Bool -> Hp -> Prop), Inv X pins σ H s -> t σ H Q ->
  wpAny (model X.prog X.w) X.A (forIn ifs true fun c r => if r=true then do let ok <- isTrue c X.env (eval c X.env);pure (ForInStep.yield ok)else pure (ForInStep.yield r)) (TP X pins σ Q) X.xe s
def tNoTest:TT :=fun _ H Q => Q true H
theorem pts_nil:PTs X [] tNoTest :=fun _ _ _ H _ I h => wpAny_tests_nil ⟨H, I, h⟩
def PB(X:Cx)(bd:Sem PUnit)(t:TS):Prop :=
 ∀(pins:List (Addr × Obj)) (s:Shared) (σ:St) (H:Hp) (D:Ends), Inv X pins σ H s -> t D σ H -> wpAny (model X.prog X.w) X.A bd (fun _ s' => ∃σ' H', Inv X pins σ' H' s' /\ D.nx σ' H') X.xe s
def tLoop(J:It)(g:TG)(tb:TS):TS :=fun D σ H => ∃W:Nat -> Nat -> St -> Hp -> Prop, (∃m, W 0 m σ H) /\ ∀i m σ H, W i m σ H ->
 (J.stop i H /\ D.nx σ H) \/ (J.go i H /\ ∃N:St -> Hp -> Prop, (∀σ' H', N σ' H' -> ∃m', m'<m /\ W (i+1) m' σ' H') /\ ∀x H', J.yld i H x H' -> g x σ H' fun σ2 H2 => tb {D with nx :=N, ct :=N, bk :=D.nx} σ2 H2)
def tIfT(tt:TT)(tb:TS):TS :=fun D σ H => tt σ H fun b H1 => if b=true then tb D σ H1 else D.nx σ H1
def tEmit(l:Addr)(te:TE):TS :=fun D σ H => te σ H fun x H1 => ∃xs, H1 l=some (.lst xs) /\ xs.length<sizeLine /\ D.nx σ (upd H1 l (.lst (xs ++ [x])))
theorem comp_loop{gens:List Comprehension}{d:Nat}{it:Addr}{acc:Value}{ipos:Pos}{bd:Sem PUnit}{g:TG}{tt:TT}{tn:Nat -> Heap -> Prop}
  (hturn:compTurn (.ListComp elt gens scope pos) d (.ref it) acc X.env=(do
   standAt ipos
   match <- pyNext (.ref it)with
   |none => pure (.done .next)
   | some v =>
    letOwnedTupleGo tg (.ref it) v
    assign tg X.env v
    let mut ok :=true
    for c in ifs do
     if ok then ok <- isTrue c X.env (eval c X.env)
    if ok then bd
    again (.compLoop (.ListComp elt gens scope pos) d (.ref it) acc X.env)))
  (hx:X.xe=fun _ _ => False) (hc:X.calm=true) (T:Turn X.prog X.w X.K tg J fp it tn) (hg:PG X tg g) (ht:PTs X ifs tt) (hb:PB X bd tb)
  {s:Shared}{D:Ends} (I:Inv X pins σ H s) (st:tn 0 s.heap) (f:∀b ∈ fp, FpOk X pins H b) (h:tLoop J g (tIfT tt tb) D σ H) :
  codeAny (model X.prog X.w) X.A (.compLoop (.ListComp elt gens scope pos) d (.ref it) acc X.env) (fun r s' => r = .ok .next /\ ∃σ' H', Inv X pins σ' H' s' /\ D.nx σ' H') s :=by
 obtain⟨W, ⟨m0, w0⟩, turn⟩ :=h;have stat:∀{H':Hp}, (∀b ∈ fp, H' b=none) -> ∀b ∈ fp, FpOk X pins H' b :=fun hn b hb => ⟨hn b hb, (f b hb).2⟩;have nox:∀{α:Type}{t:Sem α}{Q:α -> Shared -> Prop}{E:Value -> Shared -> Prop}{s:Shared}, wpAny (model X.prog X.w) X.A t Q X.xe s -> wpAny (model X.prog X.w) X.A t Q E s :=fun h => wpAny_mono h (fun _ _ q => q) fun _ _ z => by
  rw[hx]at z;exact z.elim
 refine codeAny_loop rfl (fun n s' => ∃i σ' H', Inv X pins σ' H' s' /\ tn i s'.heap /\ (∀b ∈ fp, H' b=none) /\ W i n σ' H') ?_ m0 ⟨0, σ, H, I, st, fun b hb => (f b hb).1, w0⟩;rintro n s3 ⟨i, σ3, H3, I3, st3, fr3, w3⟩;show wpAny _ X.A ((compTurn (.ListComp elt gens scope pos) d (.ref it) acc X.env).onRaise (fun x => do noteFrame x X.env;theTreesLotGoes x)) _ _ s3;refine wpAny_noted ?_;rw[hturn];refine wpAny_bind (m :=standAt _) (wpAny_standAt (wpAny_bind ?_));rcases turn i n σ3 H3 w3 with⟨stop, qn⟩|⟨go, N, hN, step⟩
 .refine thn (T.done X rfl rfl rfl hc i pins s3 σ3 H3 _ I3 (stat fr3) st3 stop) fun r s4 ⟨hr, I4⟩ => ?_;subst hr;exact wpAny_pure ⟨rfl, σ3, H3, I4, qn⟩
 .refine thn (T.item X rfl rfl rfl hc i pins s3 σ3 H3 _ I3 (stat fr3) st3 go) fun r s4 ⟨u, hr, h4⟩ => ?_;subst hr;refine wpAny_bind (thn h4 fun _ s5 ⟨x, H5, I5, r5, y5, st5, fr5⟩ => ?_);have I5' :=I5.pinned (stat fr5) (T.obj _ _ st5);refine wpAny_bind (nox (thn (hg _ s5 σ3 H5 x u _ I5' r5 (step x H5 y5)) fun _ s6 ⟨σ6, H6, I6, q6⟩ => ?_));refine wpAny_bind (nox (thn (ht _ s6 σ6 H6 _ I6 q6) fun ok s7 ⟨H7, I7, q7⟩ => ?_));have fin:∀{σ8:St}{H8:Hp}{s8:Shared}, Inv X (pins ++ pinsAt fp s5.heap) σ8 H8 s8 -> N σ8 H8 -> ∃m, m<n /\ ∃i σ' H', Inv X pins σ' H' s8 /\ tn i s8.heap /\ (∀b ∈ fp, H' b=none) /\ W i m σ' H' :=fun {σ8 H8 s8} I8 n8 => by
   obtain⟨m', hm, w8⟩ :=hN σ8 H8 n8;refine⟨m', hm, i+1, σ8, H8, I8.unpinned, T.keep _ _ _ st5 fun b hb o e => (I8.pin (b, o) (List.mem_append_right _ (List.mem_append_right _ (mem_pinsAt hb e)))).1, fun b hb => ?_, w8⟩;obtain⟨o, e, _⟩ :=T.obj _ _ st5 b hb;exact(I8.pin (b, o) (List.mem_append_right _ (List.mem_append_right _ (mem_pinsAt hb e)))).2.1
  cases ok with
  |false =>
   rw[if_neg Bool.false_ne_true]at q7;exact wpAny_pure ⟨rfl, fin I7 q7⟩
  |true =>
   rw[if_pos rfl]at q7;exact wpAny_bind (nox (thn (hb _ s7 σ6 H7 _ I7 q7) fun _ s8 ⟨σ8, H8, I8, q8⟩ => wpAny_pure ⟨rfl, fin I8 q8⟩))
theorem pb_emit{te:TE}(he:PE X elt te):PB X (do let _ <- call (.builtin "list.append") [.ref l, <- eval elt X.env]) (tEmit l te) :=by
 intro pins s σ H D I h;refine wpAny_bind (thn (he pins s σ H _ I h) fun u s1 ⟨x, H1, I1, r1, xs, hl, hz, q⟩ => ?_);obtain⟨hz1, its, n, rv, hv, ho⟩ :=I1.lstM hl;have hsl:s1.heap.IsList l its.toArray :=⟨_, ho, rfl, _, rfl⟩;refine wpAny_bind (thn (Q :=fun _ s' => ∃σ' H', Inv X pins σ' H' s' /\ D.nx σ' H') ?_ fun _ s' hq => wpAny_pure hq);exact thn (mt_append (X :=X) pins s1 σ H1 (.ref l) [x] (.ref l) [u] (fun v H' => v = .non /\ D.nx σ H') I1 rfl (.cons r1 .nil) ⟨l, xs, x, rfl, rfl, hl, hz, rfl, q⟩) fun v s' ⟨_, H', I', _, _, q'⟩ => ⟨σ, H', I', q'⟩
theorem lookup_relabel(env:Env)(x:Str):∀names:List (Str × NameKind), (names.map fun(n, k) => if (k==NameKind.free&&env.scope.kind == .function&&env.kindOf n==some .cell)then(n, NameKind.cell)else(n, k)).lookup x =
  (names.lookup x).map fun k => if (k==NameKind.free&&env.scope.kind == .function&&env.kindOf x==some .cell)then NameKind.cell else k
 |[] => rfl
 | (n, k)::r => by
  have ih :=lookup_relabel env x r;rw[List.map_cons];dsimp only
  cases hx:x==n with
  |true =>
   have e :=eq_of_beq hx;subst e
   by_cases hc:(k==NameKind.free&&env.scope.kind == .function&&env.kindOf x==some .cell)=true
   .rw[if_pos hc];simp only[List.lookup_cons, hx, Option.map_some, if_pos hc]
   .rw[if_neg hc];simp only[List.lookup_cons, hx, Option.map_some, if_neg hc]
  |false =>
   split
   .simp only[List.lookup_cons, hx];exact ih
   .simp only[List.lookup_cons, hx];exact ih
theorem lookup_mem{k:NameKind}:∀{names:List (Str × NameKind)}, names.lookup x=some k -> (x, k) ∈ names :=fun h => PySem.mem_of_lookup h
theorem of_relabel_free(hcell:∀y ∈ scope.names, y.2 ≠ .cell)(h:(relabel scope env).names.lookup x=some .cell \/ (relabel scope env).names.lookup x=some .free):scope.names.lookup x=some .free :=by
 unfold relabel at h;simp only[lookup_relabel]at h
 cases e:scope.names.lookup x with
 |none => rw[e]at h;rcases h with h|h<;>cases h
 | some k =>
  rw[e]at h;simp only[Option.map_some, Option.some.injEq]at h;have hk:k ≠ .cell :=hcell (x, k) (lookup_mem e)
  by_cases hf:k = .free
  .rw[hf]
  .have hb:(k==NameKind.free)=false :=by simpa using hf
   rw[hb]at h;simp only[Bool.false_and, Bool.false_eq_true, if_false]at h;rcases h with h|h
   .exact absurd h hk
   .rw[h]
theorem relabel_free(h:scope.names.lookup x=some .free):(relabel scope env).names.lookup x=some .cell \/ (relabel scope env).names.lookup x=some .free :=by
 unfold relabel;simp only[lookup_relabel, h, Option.map_some];split
 .exact .inl rfl
 .exact .inr rfl
def compSt(own:List Str)(ps:List Nat)(σ:St):St :=own.map (fun _ => none) ++ ps.map fun i => (σ[i]?).join
structure CompScope(own fr:List Str)(scope sc:Scope):Prop where
 kind:scope.kind = .function
 nocell:∀y ∈ scope.names, y.2 ≠ .cell
 names:∀y ∈ scope.names, y.2 = .local -> scope.names.lookup y.1=some .local
 there:∀y ∈ scope.names, y.2 = .free -> sc.names.lookup y.1=some .cell \/ sc.names.lookup y.1=some .free
 fr:∀x ∈ fr, scope.names.lookup x=some .free
section
variable {X:Cx}{scope sc:Scope}{own fr:List Str}{ps:List Nat}
theorem comp_core{iter:Expr}{rest:List Comprehension}{bdy:Env -> Value -> Sem PUnit}{g:TG}{tt:TT}{tb:Addr -> TS}{cl:List (Str × Addr)}{R:Value -> Addr -> Result -> Shared -> Prop}
  (S:CompScope own fr scope sc) (hsc:X.env.scope=sc) (hps:ps.map (fun i => X.N[i]?)=fr.map some) (hc:X.calm=true) (hcl1:∀x c, cl.lookup x=some c -> X.env.cells.lookup x=some c) (hcl2:∀y ∈ scope.names, y.2 = .free -> ∃c, cl.lookup y.1=some c)
  (hturn:∀env it acc, compTurn (.ListComp elt (⟨tg, iter, ifs, 0⟩::rest) scope pos) 0 it acc env=(do
   standAt iter.pos
   match <- pyNext it with
   |none => pure (.done .next)
   | some v =>
    letOwnedTupleGo tg it v
    assign tg env v
    let mut ok :=true
    for c in ifs do
     if ok=true then ok <- isTrue c env (eval c env)
    if ok then bdy env acc
    again (.compLoop (.ListComp elt (⟨tg, iter, ifs, 0⟩::rest) scope pos) 0 it acc env)))
  (hg:∀s H C ex, PG (cxComp X scope cl (own ++ fr) s H C ex) tg g) (ht:∀s H C ex, PTs (cxComp X scope cl (own ++ fr) s H C ex) ifs tt)
  (hb:∀s H C ex l, PB (cxComp X scope cl (own ++ fr) s H C ex) (bdy (compEnvC scope cl C X.env) (.ref l)) (tb l))
  {s:Shared}{it:Addr}{tn:Nat -> Heap -> Prop} (I:Inv X pins σ H s) (T:Turn X.prog X.w X.K tg J fp it tn) (st:tn 0 s.heap) (f:∀b ∈ fp, FpOk X pins H b)
  (h:∀l, H l=none -> tLoop J g (tIfT tt (tb l)) {nx :=fun _ H' => Q (.ref l) H', rt :=fun _ _ => False} (compSt own ps σ) (upd H l (.lst [])))
  (hR:∀l C H' s', (∃m, s'.heap.Ns C m) -> Inv X pins σ H' s' -> FpOk X pins H' C -> Q (.ref l) H' -> R (.ref l) C (.ok .next) s') :
  wpAny (model X.prog X.w) X.A (newList []) (fun acc s₃ => wpAny (model X.prog X.w) X.A (newFunctionEnv scope X.env.globals cl [] X.env.qual none .none (some X.env)) (fun cenv s₄ =>
   codeAny (model X.prog X.w) X.A (.compStart (.ListComp elt (⟨tg, iter, ifs, 0⟩::rest) scope pos) 0 (.ref it) acc {cenv with scope :=relabel scope X.env}) (R acc cenv.locals) s₄) E s₃) E s :=by
 refine wpAny_newObj_type (wpAny_newFunctionEnv S.nocell (by intro y hy;simp at hy) (fun h₁ hns₁ hsb₁ => ?_) S.kind);have I3:Inv X pins σ (upd H s.heap.objs.size (.lst [])) {s with heap :=s.heap.push {cls :=.type "list", data :=.seq ([]:List Value).toArray} } :=I.lnew (t' :=s.toks) (ys :=[]) .nil (Nat.zero_le _);generalize hS3:({s with heap :=s.heap.push {cls :=.type "list", data :=.seq ([]:List Value).toArray} }:Shared)=s3 at I3 hns₁ hsb₁⊢;have hsz:s3.heap.objs.size=s.heap.objs.size+1 :=by rw[<- hS3];exact Heap.size_push _ _
 have hl:H s.heap.objs.size=none :=I.hok.fresh (Nat.le_refl _);have kept0:∀b o, s.heap.get? b=some o -> s3.heap.get? b=some o :=fun b o e => by rw[<- hS3];exact Heap.get?_push_of_some _ e
 have kept1:∀b o, s3.heap.get? b=some o -> h₁.get? b=some o :=fun b o e => hsb₁.extBut b o (Nat.ne_of_lt (Heap.lt_size e)) (Heap.get?_push_of_some _ e);have fpl:∀b ∈ fp, b<s.heap.objs.size :=fun b hb => by obtain⟨o, e, _⟩ :=T.obj _ _ st b hb;exact Heap.lt_size e
 have fpH:∀b ∈ fp, (upd H s.heap.objs.size (.lst [])) b=none :=fun b hb => by rw[upd_ne (Nat.ne_of_lt (fpl b hb))];exact(f b hb).1
 have fpS:∀b ∈ fp, b ∉ frs X.stack :=fun b hb z => by
  rcases List.mem_cons.mp (I.stkSub b z)with e|e
  .exact(f b hb).2.1 e
  .exact(f b hb).2.2.1 e
 have ok':(cxComp X scope cl (own ++ fr) s3 (upd H s.heap.objs.size (.lst [])) s3.heap.objs.size fp).Ok :=by
  refine⟨I.ok.mod, S.kind, I.ok.glob, I.ok.blt, Nat.le_refl _, fun x y c h1 h2 => I.ok.inj x y c (hcl1 x c h1) (hcl1 y c h2), fun x hx => ?_, fun x c hf => (by cases hf), I.ok.hd, I.ok.frames, .inl rfl, fun b hb => ⟨?_, fun x c hx => (f b hb).2.2.2.2.1 x c (hcl1 x c hx)⟩,
   fun b o e => I3.bs b o e, Nat.le_trans I3.ok.bsz I3.sz, fun b o e hb => ?_, fun b hb => fpS b hb, I3.stack, I3.stkFree⟩
  .exact hcl2 (x, .free) (lookup_mem (of_relabel_free S.nocell hx)) rfl
  .exact Nat.ne_of_lt (Nat.lt_of_lt_of_le (fpl b hb) (by rw[hsz];exact Nat.le_succ _))
  .rcases (f b hb).2.2.2.1 with z|z
   .exact I.ok.noex b o e z
   .exact absurd (Nat.lt_of_lt_of_le (Heap.lt_size (I.ok.bs b o e).1) z) (Nat.lt_irrefl _)
 have I4:Inv (cxComp X scope cl (own ++ fr) s3 (upd H s.heap.objs.size (.lst [])) s3.heap.objs.size fp) [] (compSt own ps σ) (upd H s.heap.objs.size (.lst [])) {s3 with heap :=h₁, toks :=s3.toks+([]:List (Str × Value)).length} :=by
  refine⟨ok', rfl, I3.bare, Un.kept kept1, ⟨_, hns₁, fun i x v e1 e2 e3 => ?_⟩, fun x c e => ?_, I3.hok.fresh (Nat.le_refl _), fun x c e => I3.freeC x c (hcl1 x c e), fun p hp => absurd (show p ∈ ([]:List (Addr × Obj))from hp) (by simp), I3.hok.kept kept1, ?_⟩
  .have e1':(own ++ fr)[i]?=some x :=e1;unfold compSt at e2
   by_cases hi:i<own.length
   .rw[List.getElem?_append_left (by simpa using hi), List.getElem?_map]at e2
    cases q:own[i]? with
    |none => rw[q]at e2;cases e2
    |some z => rw[q]at e2;cases e2
   .rw[List.getElem?_append_right (by simpa using hi), List.length_map, List.getElem?_map]at e2;rw[List.getElem?_append_right (by simpa using hi)]at e1'
    cases q:ps[i-own.length]? with
    |none => rw[q]at e2;cases e2
    | some p =>
     rw[q]at e2;have e2':(σ[p]?).join=some v :=Option.some.inj e2;have hσ:σ[p]?=some (some v) :=by
      cases z:σ[p]? with
      |none => rw[z]at e2';cases e2'
      |some w => rw[z]at e2';cases w with
       |none => cases e2'
       |some w => cases e2';rfl
     have hN:X.N[p]?=some x :=by
      have z :=congrArg (fun l => l[i-own.length]?) hps;simp only[List.getElem?_map, q, e1', Option.map_some, Option.some.injEq]at z;exact z
     have hx:x ∈ fr :=List.mem_of_getElem? e1';have hfr :=S.fr x hx;have hsee :=S.there (x, .free) (lookup_mem hfr) rfl;obtain⟨m, hn, hlk⟩ :=I3.loc;obtain⟨u, ru, lk⟩ :=hlk p x v hN hσ (by rw[hsc];exact .inr hsee);refine⟨u, ru, .inr ⟨relabel_free hfr, ?_⟩⟩;rcases lk with⟨k, _⟩|⟨_, c, ec, z⟩
     .have k':X.env.scope.names.lookup x=some .local :=k;rw[hsc]at k';rcases hsee with q2|q2<;>(rw[k']at q2;cases q2)
     .obtain⟨c', ec'⟩ :=hcl2 (x, .free) (lookup_mem hfr) rfl;have :=hcl1 x c' ec';rw[ec]at this;cases this;obtain⟨o, ho, hd⟩ :=z;exact⟨c, ec', o, kept1 _ _ ho, hd⟩
  .obtain⟨v, o, ho, hd⟩ :=I3.cell x c (hcl1 x c e);exact⟨v, o, kept1 _ _ ho, hd⟩
  .show(compSt own ps σ).length=(own ++ fr).length;have :=congrArg List.length hps;rw[List.length_map, List.length_map]at this;unfold compSt;rw[List.length_append, List.length_append, List.length_map, List.length_map, this]
 have f4:∀b ∈ fp, FpOk (cxComp X scope cl (own ++ fr) s3 (upd H s.heap.objs.size (.lst [])) s3.heap.objs.size fp) [] (upd H s.heap.objs.size (.lst [])) b :=fun b hb =>
  ⟨fpH b hb, (ok'.exf b hb).1, fpS b hb, .inl hb, (ok'.exf b hb).2, fun p hp => absurd (show p ∈ ([]:List (Addr × Obj))from hp) (by simp)⟩
 have st4:tn 0 h₁ :=T.keep 0 _ _ st fun b hb o e => kept1 b o (kept0 b o e);have loop:codeAny (model X.prog X.w) X.A (.compLoop (.ListComp elt (⟨tg, iter, ifs, 0⟩::rest) scope pos) 0 (.ref it) (.ref s.heap.objs.size) (compEnvC scope cl s3.heap.objs.size X.env)) (R (.ref s.heap.objs.size) s3.heap.objs.size) {s3 with heap :=h₁, toks :=s3.toks+([]:List (Str × Value)).length} :=by
  refine codeAny_mono (comp_loop (X :=cxComp X scope cl (own ++ fr) s3 (upd H s.heap.objs.size (.lst [])) s3.heap.objs.size fp) (hturn _ _ _) rfl hc T (hg _ _ _ _) (ht _ _ _ _) (hb _ _ _ _ _) I4 st4 f4 (h _ hl)) fun r s' ⟨er, σ5, H5, I5, q5⟩ => ?_;subst er;have I6:Inv X pins σ H5 s' :=I3.call' (s' :=s') I5.os I5.base I5.hok I5.bare fun b hb => ⟨(f b hb).2.2.2.1, (f b hb).2.1, (f b hb).2.2.2.2.1, (f b hb).2.2.2.2.2⟩;have hm:∃m, s'.heap.Ns s3.heap.objs.size m :=let ⟨m, hn, _⟩ :=I5.loc;⟨m, hn⟩;exact hR _ _ H5 s' hm I6 (I3.fpOk (Nat.le_refl _) I5.free) q5
 exact codeAny_compStart_list loop (T.self _ 0 _ _ _ st4 loop)
def tComp(wi:TI)(own:List Str)(ps:List Nat)(tl:Addr -> It -> TS):TE :=fun σ H Q => wi σ H fun J H1 => ∀l, H1 l=none -> tl l J {nx :=fun _ H' => Q (.ref l) H', rt :=fun _ _ => False} (compSt own ps σ) (upd H1 l (.lst []))
def tl1(g:TG)(tt:TT)(te:TE):Addr -> It -> TS :=fun l J => tLoop J g (tIfT tt (tEmit l te))
theorem Inv.junk{s:Shared}{C:Addr}(I:Inv X pins σ H s)(f:FpOk X pins H C){h':Heap}(hs:Heap.SameBut C s.heap h'):Inv X pins σ H {s with heap :=h' } :=
 I.turned (t' :=s.toks) (it :=C) (fun b o ne e => (hs.2 b ne).trans e) f.1 f.2.1 f.2.2.2.1 f.2.2.2.2.1 f.2.2.2.2.2
variable {elt tg iter:Expr}{ifs:List Expr}{pos spos py:Pos}{wi:TI}{g:TG}{tt:TT}{te:TE}
theorem comp_has{s:Shared}(S:CompScope own fr scope sc)(hsc:X.env.scope=sc)(I:Inv X pins σ H s):∀y ∈ scope.names, y.2 = .free -> ∃c, X.env.cells.lookup y.1=some c :=fun y hy hk =>
 I.ok.has y.1 (by show X.env.scope.names.lookup y.1=_ \/ X.env.scope.names.lookup y.1=_;rw[hsc];exact S.there y hy hk)
theorem pe_comp1(S:CompScope own fr scope sc)(hi:PI X tg iter wi)(hg:∀cl s H C ex, PG (cxComp X scope cl (own ++ fr) s H C ex) tg g)(ht:∀cl s H C ex, PTs (cxComp X scope cl (own ++ fr) s H C ex) ifs tt)
  (he:∀cl s H C ex, PE (cxComp X scope cl (own ++ fr) s H C ex) elt te) (hsc:X.env.scope=sc :=by rfl) (hps:ps.map (fun i => X.N[i]?)=fr.map some :=by rfl) (hc:X.calm=true :=by rfl) (hs:∀x, foldedSetIterable iter X.env x=pure x :=by intro _;rfl) :
  PE X (.ListComp elt [⟨tg, iter, ifs, 0⟩] scope pos) (tComp wi own ps (tl1 g tt te)) :=by
 intro pins s σ H Q I h;obtain⟨cl, ec, h1, h2⟩ :=closureFor_ok (comp_has S hsc I);rw[eval_ListComp];refine wpAny_comprehension_free (use :=none) rfl hs ec S.kind S.names (thn (hi pins s σ H _ I h) fun v s1 q1 => thn q1 fun itv s2 q2 => ?_);obtain⟨it, fp, tn, J, H2, e, I2, T, st2, f2, q⟩ :=q2;subst e;exact comp_core (R :=fun acc C => compPost (model X.prog X.w) X.A X.xe none (EP X pins σ Q) acc C) (bdy :=fun env acc => do let _ <- call (.builtin "list.append") [acc, <- eval elt env]) (tb :=fun l => tEmit l te) S hsc hps hc h1 h2 (fun env it acc => compTurn_list elt tg iter ifs scope pos it acc env)
  (hg cl) (ht cl) (fun s H C ex l => pb_emit (he cl s H C ex)) I2 T st2 f2 q fun l C H' s' hm I' fk q' => by
   obtain⟨m, hn⟩ :=hm;exact⟨m, hn, fun h' hs' => ⟨.ref l, H', I'.junk fk hs', rfl, q'⟩⟩
theorem store_use{s':Shared}{C:Addr}{Q:St -> Hp -> Prop}(hN:X.N.Nodup)(hy:X.N[i]?=some y)(hlc:X.env.scope.names.lookup y=some .local)(hm:∃m, s'.heap.Ns C m)(I:Inv X pins σ H' s')(fk:FpOk X pins H' C)(q:Q (σ.set i (some (.ref l))) H') :
  wpAny (model X.prog X.w) X.A (assign (.Name y py) X.env (.ref l)) (fun _ s'' => ∃m, s''.heap.Ns C m /\ ∀h', Heap.SameBut C s''.heap h' -> ∃σ' H'', Inv X pins σ' H'' {s'' with heap :=h' } /\ Q σ' H'') E s' :=by
 obtain⟨m, hn⟩ :=hm;refine wpAny_assign_Name (store_ok2 I hN hy (.inl hlc) (v :=.ref l) rfl (fun s'' I'' ⟨a, hs, ha⟩ => ?_) (.inr hlc));have hCa:C ≠ a :=by
  rcases ha with ha|ha
  .rw[ha];exact fk.2.1
  .exact fun z => fk.2.2.2.2.1 _ _ ha z.symm
 exact⟨m, hn.sameBut hs hCa, fun h' hs' => ⟨_, H', I''.junk fk hs', q⟩⟩
theorem ps_setc1(S:CompScope own fr scope sc)(hN:X.N.Nodup)(hy:X.N[i]?=some y)(hlc:X.env.scope.names.lookup y=some .local)(hi:PI X tg iter wi)(hg:∀cl s H C ex, PG (cxComp X scope cl (own ++ fr) s H C ex) tg g)(ht:∀cl s H C ex, PTs (cxComp X scope cl (own ++ fr) s H C ex) ifs tt)
  (he:∀cl s H C ex, PE (cxComp X scope cl (own ++ fr) s H C ex) elt te) (hsw:swapsWith (.ListComp elt [⟨tg, iter, ifs, 0⟩] scope pos) (some (.Name y py)) spos.line X.env=pure true :=by rfl)
  (hsc:X.env.scope=sc :=by rfl) (hps:ps.map (fun i => X.N[i]?)=fr.map some :=by rfl) (hc:X.calm=true :=by rfl) (hs:∀x, foldedSetIterable iter X.env x=pure x :=by intro _;rfl) :
  PS X (.Assign [.Name y py] (.ListComp elt [⟨tg, iter, ifs, 0⟩] scope pos) spos) (tAsg (tComp wi own ps (tl1 g tt te)) (gName i)) :=by
 intro pins s σ H D I h;obtain⟨cl, ec, h1, h2⟩ :=closureFor_ok (comp_has S hsc I);rw[show exec _ X.env=_ from exec_Assign_Name_used _ _ _ _ hsw];refine wpAny_bind (m :=standAt _) (wpAny_standAt (wpAny_bind ?_));show wpAny _ X.A (do let _ <- comprehension (.ListComp elt [⟨tg, iter, ifs, 0⟩] scope pos) scope X.env _ (newList []) false (eval iter X.env) (some (assign (.Name y py) X.env))) _ _ s;refine wpAny_bind (wpAny_mono (wpAny_comprehension_free (use :=some (assign (.Name y py) X.env)) (Q :=fun _ s' => SP X pins D .next s') rfl hs ec S.kind S.names (thn (hi pins s σ H _ I h) fun v s1 q1 => thn q1 fun itv s2 q2 => ?_)) (fun _ s' hq => wpAny_pure (wpAny_pure hq)) fun _ _ e => e);obtain⟨it, fp, tn, J, H2, e, I2, T, st2, f2, q⟩ :=q2;subst e;exact comp_core (Q :=fun v H' => D.nx (σ.set i (some v)) H') (R :=fun acc C => compPost (model X.prog X.w) X.A X.xe (some (assign (.Name y py) X.env)) (fun _ s' => SP X pins D .next s') acc C) (bdy :=fun env acc => do let _ <- call (.builtin "list.append") [acc, <- eval elt env]) (tb :=fun l => tEmit l te) S hsc hps hc h1 h2 (fun env it acc => compTurn_list elt tg iter ifs scope pos it acc env)
  (hg cl) (ht cl) (fun s H C ex l => pb_emit (he cl s H C ex)) I2 T st2 f2 q fun l C H' s' hm I' fk q' => store_use hN hy hlc hm I' fk q'
variable {tg2 iter2:Expr}{ifs2:List Expr}{wi2:TI}{g2:TG}{tt2:TT}
end
def FzL(K:PySem.W.Frag)(H:Hp)(a:Addr)(xs:List V):Prop :=
 (∃o, H a=some (.frz o (.lst xs))) \/
  ∃(o:Obj) (its:Array Value) (n:Nat), K.lookup a=some o /\ o.cls = .type "list" /\ o.dict=none /\ o.data = .seq its n /\ its.size ≤ sizeLine /\ Vals xs its.toList
theorem FzL.sq{K:PySem.W.Frag}(h:FzL K H a xs):SqL K H a xs :=by
 rcases h with⟨o, h⟩|h
 .exact .inl (.inr ⟨o, h⟩)
 .exact .inr h
structure Kd where
 K:PySem.W.Frag
 w:World
instance:Coe Kd PySem.W.Frag :=⟨Kd.K⟩
mutual
def hashD(w:World):PyData -> Int
 | .int i => hashInt i
 | .str x => hashStr w x
 | .tuple ds => reduceHash (Builtin.Tuple.tupleHashOf (hashA w ds))
 |_ => 0
def hashA(w:World):List PyData -> List Int
 |[] => []
 |d::ds => hashD w d::hashA w ds
end
mutual
def hkD:PyData -> Bool
 | .int _ => true
 | .str _ => true
 | .tuple ds => hkA ds
 |_ => false
def hkA:List PyData -> Bool
 |[] => true
 |d::ds => hkD d&&hkA ds
end
def isKd(kvs:List (PyData × PyData)):Bool :=kvs.all fun kv => match kv.1 with| .int _ => true | .str _ => true|_ => false
def KeysOk(kvs:List (PyData × PyData)):Prop :=isKd kvs=false /\ (kvs.map (·.1)).Nodup /\ ∀k ∈ kvs.map (·.1), hkD k=true
def dXp(a:Addr)(es:List (Int × V × V))(h:Heap):Prop :=
 (a==sysModules)=false /\ es.length ≤ sizeLine /\ ∃(o:Obj) (ents:Array DictEntry) (ep:Nat), h.get? a=some o /\ o.ExactDict /\ o.data = .dict ents ep /\
  Paired (fun(e:Int × V × V) (d:DictEntry) => d.hash=e.1 /\ RelV e.2.1 d.key /\ RelV e.2.2 d.val) es ents.toList
abbrev dX(a:Addr)(es:List (Int × V × V)):HO :=.ext (dXp a es)
def FzD(H:Hp)(a:Addr)(es:List (Int × V × V)):Prop :=∃o, H a=some (.frz o (dX a es))
def ClsN(K:Kd)(c:Str)(C:Addr):Prop :=PySem.W.nsIn K.K mainGlobals c=some (some (.ref C))
def ExcAt(K:Kd)(H:Hp)(a:Addr)(c:Str)(xs:List (Str × V)):Prop :=
 ∃(o:Obj) (u:HO) (C:Addr), H a=some (.frz o u) /\ o.cls = .ref C /\ (∃vs, o.data = .fields vs) /\ ClsN K c C /\ ((o.dict=none /\ xs=[]) \/ ∃(dx:Addr) (od:Obj), o.dict=some dx /\ H dx=some (.frz od (.xd xs)))
def keyD:Key -> PyData
 | .inl i => .int i
 | .inr x => .str x
def excC:List (PyData × PyData) -> Option Str
 |(.none, .str c)::_ => some c
 |_ => none
mutual
def Den(K:Kd)(H:Hp):PyData -> V -> Prop
 | .none, v => v = .non
 | .bool b, v => v = .bl b
 | .int i, v => v = .int i
 | .str x, v => v = .str x
 | .list ds, v => ∃a xs, v = .ref a /\ FzL K H a xs /\ DenAll K H ds xs
 | .tuple ds, v => ∃a xs, v = .ref a /\ SqT K H a xs /\ DenAll K H ds xs
 | .dict kvs, v => ∃a, v = .ref a /\ ((∃es, FzD H a es /\ KeysOk kvs /\ DenKV K H kvs es) \/ (∃es o, H a=some (.frz o (.dK es)) /\ DenKK K H kvs es) \/ ∃c xs, excC kvs=some c /\ ExcAt K H a c xs /\ DenXF K H kvs xs)
def DenAll(K:Kd)(H:Hp):List PyData -> List V -> Prop
 |[], xs => xs=[]
 |d::ds, xs => ∃v vs, xs=v::vs /\ Den K H d v /\ DenAll K H ds vs
def DenKV(K:Kd)(H:Hp):List (PyData × PyData) -> List (Int × V × V) -> Prop
 |[], es => es=[]
 |(k, d)::r, es => ∃u v vs, es=(hashD K.w k, u, v)::vs /\ Den K H k u /\ Den K H d v /\ DenKV K H r vs
def DenKK(K:Kd)(H:Hp):List (PyData × PyData) -> List (Key × V) -> Prop
 |[], es => es=[]
 |(k, d)::r, es => ∃kk v vs, es=(kk, v)::vs /\ (k=keyD kk /\ ∀x ∈ vs, x.1 ≠ kk) /\ Den K H d v /\ DenKK K H r vs
def DenXF(K:Kd)(H:Hp):List (PyData × PyData) -> List (Str × V) -> Prop
 |[], xs => xs=[]
 |(k, d)::r, xs => match k with
  | .str f => ∃v vs, xs=(f, v)::vs /\ Den K H d v /\ DenXF K H r vs
  |_ => DenXF K H r xs
end
structure Pers(H H':Hp):Prop where
 tups:∀b xs, H b=some (.tup xs) -> H' b=some (.tup xs)
 frzs:∀b o u, H b=some (.frz o u) -> H' b=some (.frz o u)
theorem Pers.refl(H:Hp):Pers H H :=⟨fun _ _ e => e, fun _ _ _ e => e⟩
theorem Pers.trans(a:Pers H H1)(b:Pers H1 H2):Pers H H2 :=⟨fun c xs e => b.tups c xs (a.tups c xs e), fun c o u e => b.frzs c o u (a.frzs c o u e)⟩
section
variable {K:Kd}{H H':Hp}
theorem FzL.mono(p:Pers H H')(h:FzL K H a xs):FzL K H' a xs :=by
 rcases h with⟨o, h⟩|h
 .exact .inl ⟨o, p.frzs _ _ _ h⟩
 .exact .inr h
theorem SqT.mono(p:Pers H H')(h:SqT K H a xs):SqT K H' a xs :=by
 rcases h with(h|⟨o, h⟩)|h
 .exact .inl (.inl (p.tups _ _ h))
 .exact .inl (.inr ⟨o, p.frzs _ _ _ h⟩)
 .exact .inr h
mutual
theorem Den.mono(p:Pers H H'):∀{d:PyData}{v:V}, Den K H d v -> Den K H' d v
 | .none, _, h => h
 | .bool _, _, h => h
 | .int _, _, h => h
 | .str _, _, h => h
 | .list ds, _, h => by
  simp only[Den]at h⊢;obtain⟨a, xs, e, f, g⟩ :=h;exact⟨a, xs, e, f.mono p, DenAll.mono p g⟩
 | .tuple ds, _, h => by
  simp only[Den]at h⊢;obtain⟨a, xs, e, f, g⟩ :=h;exact⟨a, xs, e, f.mono p, DenAll.mono p g⟩
 | .dict kvs, _, h => by
  simp only[Den]at h⊢;obtain⟨a, e, h⟩ :=h;refine⟨a, e, ?_⟩;rcases h with⟨es, ⟨o, f⟩, kk, g⟩|⟨es, o, f, g⟩|⟨c, xs, ec, ⟨o, u, C, f1, f2, f0, f3, f4⟩, g⟩
  .exact .inl ⟨es, ⟨o, p.frzs _ _ _ f⟩, kk, DenKV.mono p g⟩
  .exact .inr (.inl ⟨es, o, p.frzs _ _ _ f, DenKK.mono p g⟩)
  .refine .inr <| .inr ⟨c, xs, ec, ⟨o, u, C, p.frzs _ _ _ f1, f2, f0, f3, ?_⟩, DenXF.mono p g⟩;rcases f4 with f4|⟨dx, od, f5, f6⟩
   .exact .inl f4
   .exact .inr ⟨dx, od, f5, p.frzs _ _ _ f6⟩
theorem DenAll.mono(p:Pers H H'):∀{ds:List PyData}{xs:List V}, DenAll K H ds xs -> DenAll K H' ds xs
 |[], _, h => h
 |d::ds, _, h => by
  simp only[DenAll]at h⊢;obtain⟨v, vs, e, f, g⟩ :=h;exact⟨v, vs, e, Den.mono p f, DenAll.mono p g⟩
theorem DenKV.mono(p:Pers H H'):∀{ds:List (PyData × PyData)}{xs:List (Int × V × V)}, DenKV K H ds xs -> DenKV K H' ds xs
 |[], _, h => by simpa only[DenKV]using h
 |(k, d)::r, _, h => by
  simp only[DenKV]at h⊢;obtain⟨u, v, vs, e, f1, f2, g⟩ :=h;exact⟨u, v, vs, e, Den.mono p f1, Den.mono p f2, DenKV.mono p g⟩
theorem DenKK.mono(p:Pers H H'):∀{ds:List (PyData × PyData)}{xs:List (Key × V)}, DenKK K H ds xs -> DenKK K H' ds xs
 |[], _, h => by simpa only[DenKK]using h
 |(k, d)::r, _, h => by
  simp only[DenKK]at h⊢;obtain⟨u, v, vs, e, f1, f2, g⟩ :=h;exact⟨u, v, vs, e, f1, Den.mono p f2, DenKK.mono p g⟩
theorem DenXF.mono(p:Pers H H'):∀{ds:List (PyData × PyData)}{xs:List (Str × V)}, DenXF K H ds xs -> DenXF K H' ds xs
 |[], _, h => by simpa only[DenXF]using h
 |(.str f, d)::r, _, h => by
  simp only[DenXF]at h⊢;obtain⟨v, vs, e, f1, g⟩ :=h;exact⟨v, vs, e, Den.mono p f1, DenXF.mono p g⟩
 |(.none, d)::r, _, h => by simp only[DenXF]at h⊢;exact DenXF.mono p h
 |(.bool _, d)::r, _, h => by simp only[DenXF]at h⊢;exact DenXF.mono p h
 |(.int _, d)::r, _, h => by simp only[DenXF]at h⊢;exact DenXF.mono p h
 |(.list _, d)::r, _, h => by simp only[DenXF]at h⊢;exact DenXF.mono p h
 |(.tuple _, d)::r, _, h => by simp only[DenXF]at h⊢;exact DenXF.mono p h
 |(.dict _, d)::r, _, h => by simp only[DenXF]at h⊢;exact DenXF.mono p h
end
theorem DenAll.nil:DenAll K H [] [] :=by simp only[DenAll]
theorem DenAll.cons{d:PyData}(h:Den K H d v)(t:DenAll K H ds vs):DenAll K H (d::ds) (v::vs) :=by
 simp only[DenAll];exact⟨v, vs, rfl, h, t⟩
theorem DenAll.paired:∀{ds:List PyData}{xs:List V}, DenAll K H ds xs -> Paired (Den K H) ds xs
 |[], _, h => by simp only[DenAll]at h;subst h;exact .nil
 |d::ds, _, h => by
  simp only[DenAll]at h;obtain⟨v, vs, e, f, g⟩ :=h;subst e;exact .cons f g.paired
theorem denAll_of:∀{ds:List PyData}{xs:List V}, Paired (Den K H) ds xs -> DenAll K H ds xs
 |_, _, .nil => DenAll.nil
 |_, _, .cons f t => DenAll.cons f (denAll_of t)
theorem DenAll.length(h:DenAll K H ds xs):ds.length=xs.length :=h.paired.length
theorem Paired.get'{α β:Type}{F:α -> β -> Prop}:∀{l₁:List α}{l₂:List β}{i:Nat}{a:α}, Paired F l₁ l₂ -> l₁[i]?=some a -> ∃b, l₂[i]?=some b /\ F a b
 |_, _, _, _, .nil, e => by simp at e
 |_, _, 0, _, .cons f _, e => by simp at e;subst e;exact⟨_, rfl, f⟩
 |_, _, i+1, a, .cons _ t, e => by
  obtain⟨b, h1, h2⟩ :=Paired.get' (i :=i) (a :=a) t (by simpa using e);exact⟨b, by simpa using h1, h2⟩
theorem DenAll.get{d:PyData}(h:DenAll K H ds xs)(e:ds[i]?=some d):∃v, xs[i]?=some v /\ Den K H d v :=Paired.get' h.paired e
theorem Paired.get2{α β:Type}{F:α -> β -> Prop}:∀{l₁:List α}{l₂:List β}{i:Nat}{b:β}, Paired F l₁ l₂ -> l₂[i]?=some b -> ∃a, l₁[i]?=some a /\ F a b
 |_, _, _, _, .nil, e => by simp at e
 |_, _, 0, _, .cons f _, e => by simp at e;subst e;exact⟨_, rfl, f⟩
 |_, _, i+1, b, .cons _ t, e => by
  obtain⟨a, h1, h2⟩ :=Paired.get2 (i :=i) (b :=b) t (by simpa using e);exact⟨a, by simpa using h1, h2⟩
theorem DenAll.get2(h:DenAll K H ds xs)(e:xs[i]?=some v):∃d, ds[i]?=some d /\ Den K H d v :=Paired.get2 h.paired e
theorem Paired.append'{α β:Type}{F:α -> β -> Prop}:∀{a b:List α}{c d:List β}, Paired F a c -> Paired F b d -> Paired F (a ++ b) (c ++ d)
 |_, _, _, _, .nil, s => s
 |_, _, _, _, .cons r t, s => .cons r (Paired.append' t s)
theorem DenAll.append{es:List PyData}{ys:List V}(h:DenAll K H ds xs)(g:DenAll K H es ys):DenAll K H (ds ++ es) (xs ++ ys) :=denAll_of (Paired.append' h.paired g.paired)
theorem Paired.set'{α β:Type}{F:α -> β -> Prop}{a:α}{b:β}(f:F a b):∀{l₁:List α}{l₂:List β} (i:Nat), Paired F l₁ l₂ -> Paired F (l₁.set i a) (l₂.set i b)
 |_, _, _, .nil => .nil
 |_, _, 0, .cons _ t => .cons f t
 |_, _, i+1, .cons q t => .cons q (Paired.set' f i t)
theorem DenAll.set{d:PyData}(h:DenAll K H ds xs)(f:Den K H d v)(i:Nat):DenAll K H (ds.set i d) (xs.set i v) :=denAll_of (Paired.set' f i h.paired)
theorem Paired.take'{α β:Type}{F:α -> β -> Prop}:∀{l₁:List α}{l₂:List β} (n:Nat), Paired F l₁ l₂ -> Paired F (l₁.take n) (l₂.take n)
 |_, _, 0, _ => .nil
 |_, _, _+1, .nil => .nil
 |_, _, n+1, .cons r t => .cons r (Paired.take' n t)
theorem Paired.drop'{α β:Type}{F:α -> β -> Prop}:∀{l₁:List α}{l₂:List β} (n:Nat), Paired F l₁ l₂ -> Paired F (l₁.drop n) (l₂.drop n)
 |_, _, 0, h => h
 |_, _, _+1, .nil => .nil
 |_, _, n+1, .cons _ t => Paired.drop' n t
theorem DenAll.take(h:DenAll K H ds xs)(n:Nat):DenAll K H (ds.take n) (xs.take n) :=denAll_of (Paired.take' n h.paired)
theorem DenAll.drop(h:DenAll K H ds xs)(n:Nat):DenAll K H (ds.drop n) (xs.drop n) :=denAll_of (Paired.drop' n h.paired)
theorem Paired.erase'{α β:Type}{F:α -> β -> Prop}:∀{l₁:List α}{l₂:List β} (n:Nat), Paired F l₁ l₂ -> Paired F (l₁.eraseIdx n) (l₂.eraseIdx n)
 |_, _, _, .nil => by simp;exact .nil
 |_, _, 0, .cons _ t => t
 |_, _, n+1, .cons r t => .cons r (Paired.erase' n t)
theorem DenAll.eraseIdx(h:DenAll K H ds xs)(n:Nat):DenAll K H (ds.eraseIdx n) (xs.eraseIdx n) :=denAll_of (Paired.erase' n h.paired)
theorem DenAll.ints:∀ns:List Int, DenAll K H (ns.map .int) (ns.map V.int)
 |[] => DenAll.nil
 |n::ns => DenAll.cons (by simp only[Den]) (DenAll.ints ns)
end
def fzOf:List (PyData × PyData) -> Option PyData
 |[(.none, .list ds)] => some (.list ds)
 |[(.none, .dict es)] => some (.dict es)
 |_ => none
mutual
def TAt(K:Kd)(H:Hp)(τ:List (List Nat × Addr))(p:List Nat):PyData -> V -> Prop
 | .list ts, v => ∃a xs, τ.lookup p=some a /\ v = .ref a /\ H a=some (.lst xs) /\ TAtL K H τ p 0 ts xs
 | .dict kvs, v => (∃d, fzOf kvs=some d /\ Den K H d v) \/
   (fzOf kvs=none /\ excC kvs=none /\ ∃a es, τ.lookup p=some a /\ v = .ref a /\ H a=some (dX a es) /\ KeysOk kvs /\ TAtD K H τ p 0 kvs es) \/
   (fzOf kvs=none /\ excC kvs=none /\ ∃a es, τ.lookup p=some a /\ v = .ref a /\ H a=some (.dK es) /\ TAtK K H τ p 0 kvs es) \/
   ∃c a dx C xs, excC kvs=some c /\ τ.lookup p=some a /\ v = .ref a /\ H a=some (.ins C dx xs) /\ ClsN K c C /\ TAtF K H τ p 0 kvs xs
 | .none, v => Den K H .none v
 | .bool b, v => Den K H (.bool b) v
 | .int i, v => Den K H (.int i) v
 | .str x, v => Den K H (.str x) v
 | .tuple ds, v => Den K H (.tuple ds) v
def TAtL(K:Kd)(H:Hp)(τ:List (List Nat × Addr))(p:List Nat)(i:Nat):List PyData -> List V -> Prop
 |[], xs => xs=[]
 |t::ts, xs => ∃v vs, xs=v::vs /\ TAt K H τ (p ++ [i]) t v /\ TAtL K H τ p (i+1) ts vs
def TAtD(K:Kd)(H:Hp)(τ:List (List Nat × Addr))(p:List Nat)(i:Nat):List (PyData × PyData) -> List (Int × V × V) -> Prop
 |[], es => es=[]
 |(k, t)::r, es => ∃u v vs, es=(hashD K.w k, u, v)::vs /\ Den K H k u /\ TAt K H τ (p ++ [i]) t v /\ TAtD K H τ p (i+1) r vs
def TAtK(K:Kd)(H:Hp)(τ:List (List Nat × Addr))(p:List Nat)(i:Nat):List (PyData × PyData) -> List (Key × V) -> Prop
 |[], es => es=[]
 |(k, t)::r, es => ∃kk v vs, es=(kk, v)::vs /\ (k=keyD kk /\ ∀x ∈ vs, x.1 ≠ kk) /\ TAt K H τ (p ++ [i]) t v /\ TAtK K H τ p (i+1) r vs
def TAtF(K:Kd)(H:Hp)(τ:List (List Nat × Addr))(p:List Nat)(i:Nat):List (PyData × PyData) -> List (Str × V) -> Prop
 |[], xs => xs=[]
 |(k, t)::r, xs => match k with
  | .str f => ∃v vs, xs=(f, v)::vs /\ TAt K H τ (p ++ [i]) t v /\ TAtF K H τ p (i+1) r vs
  | .none => TAtF K H τ p (i+1) r xs
  |_ => False
end
theorem mem_of_look{β γ:Type}[BEq β][LawfulBEq β]{l:List (β × γ)}{p:β}{a:γ}(h:l.lookup p=some a):a ∈ l.map (·.2) :=by
 induction l with
 |nil => cases h
 |cons x l ih =>
  rw[List.lookup_cons]at h
  split at h
  .cases h;simp
  .exact List.mem_map.mpr (let ⟨y, h1, h2⟩ :=List.mem_map.mp (ih h);⟨y, List.mem_cons_of_mem _ h1, h2⟩)
section
variable {K:Kd}{H H':Hp}{τ:List (List Nat × Addr)}
mutual
theorem TAt.mono(pe:Pers H H')(e:∀a ∈ τ.map (·.2), H' a=H a):∀{d:PyData}{p:List Nat}{v:V}, TAt K H τ p d v -> TAt K H' τ p d v
 | .none, _, _, h => by simp only[TAt]at h⊢;exact h.mono pe
 | .bool _, _, _, h => by simp only[TAt]at h⊢;exact h.mono pe
 | .int _, _, _, h => by simp only[TAt]at h⊢;exact h.mono pe
 | .str _, _, _, h => by simp only[TAt]at h⊢;exact h.mono pe
 | .tuple _, _, _, h => by simp only[TAt]at h⊢;exact h.mono pe
 | .list ts, _, _, h => by
  simp only[TAt]at h⊢;obtain⟨a, xs, e1, e2, e3, g⟩ :=h;exact⟨a, xs, e1, e2, (e a (mem_of_look e1)).trans e3, TAtL.mono pe e g⟩
 | .dict kvs, _, _, h => by
  simp only[TAt]at h⊢;rcases h with⟨d, e1, h⟩|⟨z1, z2, a, es, e1, e2, e3, k, g⟩|⟨z1, z2, a, es, e1, e2, e3, g⟩|⟨c, a, dx, C, xs, e0, e1, e2, e3, k, g⟩
  .exact .inl ⟨d, e1, h.mono pe⟩
  .exact .inr (.inl ⟨z1, z2, a, es, e1, e2, (e a (mem_of_look e1)).trans e3, k, TAtD.mono pe e g⟩)
  .exact .inr (.inr (.inl ⟨z1, z2, a, es, e1, e2, (e a (mem_of_look e1)).trans e3, TAtK.mono pe e g⟩))
  .exact .inr (.inr <| .inr ⟨c, a, dx, C, xs, e0, e1, e2, (e a (mem_of_look e1)).trans e3, k, TAtF.mono pe e g⟩)
theorem TAtL.mono(pe:Pers H H')(e:∀a ∈ τ.map (·.2), H' a=H a):∀{ds:List PyData}{p:List Nat}{i:Nat}{xs:List V}, TAtL K H τ p i ds xs -> TAtL K H' τ p i ds xs
 |[], _, _, _, h => by simpa only[TAtL]using h
 |t::ts, _, _, _, h => by
  simp only[TAtL]at h⊢;obtain⟨v, vs, e1, g1, g2⟩ :=h;exact⟨v, vs, e1, TAt.mono pe e g1, TAtL.mono pe e g2⟩
theorem TAtD.mono(pe:Pers H H')(e:∀a ∈ τ.map (·.2), H' a=H a):∀{ds:List (PyData × PyData)}{p:List Nat}{i:Nat}{xs:List (Int × V × V)}, TAtD K H τ p i ds xs -> TAtD K H' τ p i ds xs
 |[], _, _, _, h => by simpa only[TAtD]using h
 |(k, t)::r, _, _, _, h => by
  simp only[TAtD]at h⊢;obtain⟨u, v, vs, e1, g0, g1, g2⟩ :=h;exact⟨u, v, vs, e1, g0.mono pe, TAt.mono pe e g1, TAtD.mono pe e g2⟩
theorem TAtK.mono(pe:Pers H H')(e:∀a ∈ τ.map (·.2), H' a=H a):∀{ds:List (PyData × PyData)}{p:List Nat}{i:Nat}{xs:List (Key × V)}, TAtK K H τ p i ds xs -> TAtK K H' τ p i ds xs
 |[], _, _, _, h => by simpa only[TAtK]using h
 |(k, t)::r, _, _, _, h => by
  simp only[TAtK]at h⊢;obtain⟨u, v, vs, e1, g0, g1, g2⟩ :=h;exact⟨u, v, vs, e1, g0, TAt.mono pe e g1, TAtK.mono pe e g2⟩
theorem TAtF.mono(pe:Pers H H')(e:∀a ∈ τ.map (·.2), H' a=H a):∀{ds:List (PyData × PyData)}{p:List Nat}{i:Nat}{xs:List (Str × V)}, TAtF K H τ p i ds xs -> TAtF K H' τ p i ds xs
 |[], _, _, _, h => by simpa only[TAtF]using h
 |(.str f, t)::r, _, _, _, h => by
  simp only[TAtF]at h⊢;obtain⟨v, vs, e1, g1, g2⟩ :=h;exact⟨v, vs, e1, TAt.mono pe e g1, TAtF.mono pe e g2⟩
 |(.none, d)::r, _, _, _, h => by simp only[TAtF]at h⊢;exact TAtF.mono pe e h
 |(.bool _, d)::r, _, _, _, h => by simp only[TAtF]at h
 |(.int _, d)::r, _, _, _, h => by simp only[TAtF]at h
 |(.list _, d)::r, _, _, _, h => by simp only[TAtF]at h
 |(.tuple _, d)::r, _, _, _, h => by simp only[TAtF]at h
 |(.dict _, d)::r, _, _, _, h => by simp only[TAtF]at h
end
end
abbrev Cx.kd(X:Cx):Kd :=⟨X.K, X.w⟩
section
variable {X:Cx}{pins:List (Addr × Obj)}{σ:St}{H:Hp}{s:Shared}
mutual
theorem Den.reads(I:Inv X pins σ H s):∀{d:PyData}{v:V}{u:Value}, d.hasDict=false -> Den X.kd H d v -> RelV v u -> ∃as, Reads s.heap u d as
 | .none, v, u, _, h, r => by simp only[Den]at h;subst h;cases r;exact⟨_, .none⟩
 | .bool b, v, u, nd, h, r => by simp only[Den]at h;subst h;cases r;exact⟨_, .bool b⟩
 | .int i, v, u, nd, h, r => by simp only[Den]at h;subst h;obtain⟨t, rfl⟩ :=r;exact⟨_, .int i t⟩
 | .str x, v, u, nd, h, r => by simp only[Den]at h;subst h;obtain⟨t, rfl⟩ :=r;exact⟨_, .str x t⟩
 | .list ds, v, u, nd, h, r => by
  simp only[Den]at h;obtain⟨a, xs, rfl, f, g⟩ :=h;cases r;obtain⟨its, rv, ⟨o, n, e, c, _, dd⟩, _⟩ :=I.list f.sq;obtain⟨as, h2⟩ :=DenAll.reads I (by simpa only[PyData.hasDict]using nd) g rv;exact⟨_, .list e c dd (by simpa using h2)⟩
 | .tuple ds, v, u, nd, h, r => by
  simp only[Den]at h;obtain⟨a, xs, rfl, f, g⟩ :=h;cases r;obtain⟨its, rv, ⟨o, e, c, n, dd⟩, _⟩ :=I.tuple f;obtain⟨as, h2⟩ :=DenAll.reads I (by simpa only[PyData.hasDict]using nd) g rv;exact⟨_, .tuple e c dd (by simpa using h2)⟩
 | .dict _, v, u, nd, h, r => by simp[PyData.hasDict]at nd
theorem DenAll.reads(I:Inv X pins σ H s):∀{ds:List PyData}{xs:List V}{us:List Value}, PyData.hasDictAll ds=false -> DenAll X.kd H ds xs -> Vals xs us -> ∃as, ReadsAll s.heap us ds as
 |[], xs, us, _, h, r => by simp only[DenAll]at h;subst h;cases r;exact⟨_, .nil⟩
 | d::ds, xs, us, nd, h, r => by
  simp only[PyData.hasDictAll, Bool.or_eq_false_iff]at nd;simp only[DenAll]at h;obtain⟨v, vs, rfl, f, g⟩ :=h
  cases r with
  |cons r1 r2 =>
   obtain⟨a1, h1⟩ :=Den.reads I nd.1 f r1;obtain⟨a2, h2⟩ :=DenAll.reads I nd.2 g r2;exact⟨_, .cons h1 h2⟩
end
theorem Inv.freeze(I:Inv X pins σ H s)(h:H a=some (.lst xs)):∃o, Inv X pins σ (upd H a (.frz o (.lst xs))) s :=by
 obtain⟨hz, its, n, rv, e⟩ :=I.hok a _ h;refine⟨{cls :=.type "list", data :=.seq its.toArray n}, I.un (h' :=s.heap) (t' :=s.toks) ⟨fun b ob q _ _ _ => q, fun b ob q _ _ _ => ⟨ob.slots, q⟩, fun b ob q z _ => ?_, fun b ob q _ => ⟨ob, q⟩, fun b ys q => ?_, fun b ob u q => ?_, fun b ps q => ⟨#[], ?_⟩⟩ fun b ob q => ?_⟩
 .rw[upd_ne (Ne.symm (ne_of_none h z))];exact z
 .rw[upd_ne (ne_of q h (by intro z;cases z))];exact q
 .rw[upd_ne (ne_of q h (by intro z;cases z))];exact q
 .rw[upd_ne (ne_of q h (by intro z;cases z)), q];simp
 .by_cases hb:b=a
  .subst hb;rw[upd_same]at q;cases q;exact⟨e, hz, its, n, rv, e⟩
  .rw[upd_ne hb]at q;exact(I.hok b ob q).stay (fun _ _ _ z => z) (fun c z => by rw[upd_ne (ne_of z h (by intro z;cases z))];exact z) fun c ys z => by rw[upd_ne (ne_of z h (by intro z;cases z))];exact z
end
def isStar:Expr -> Bool
 | .Starred .. => true
 |_ => false
theorem star_cons{es:List Expr}(h:isStar e=false):starEach (e::es) env=(false, eval e env)::starEach es env :=by
 cases e<;>first|rfl|cases h
theorem star_one(h:isStar e=false):starEach [e] env=[(false, eval e env)] :=star_cons h
inductive R where
 |imm (d:PyData)|obj (k:Nat)|new (ds:List PyData)|at (k:Nat) (p:List Nat)|newT (t:PyData)
structure MSt where
 vs:List (Option R)
 os:List (List PyData)
 np:Nat
structure Kx extends Kd where
 eb:EB
instance:Coe Kx Kd :=⟨Kx.toKd⟩
abbrev Cx.kx(X:Cx):Kx :=⟨X.kd, X.eb⟩
abbrev Al :=List Ao
def Ao.ads:Ao -> List Addr
 | .L a => [a]
 | .T t => t.map (·.2)
def ads(α:Al):List Addr :=α.flatMap Ao.ads
theorem ads_append(α β:Al):ads (α ++ β)=ads α ++ ads β :=by unfold ads;rw[List.flatMap_append]
def Mu:HO -> Bool
 | .tup _ => false
 | .frz _ _ => false
 |_ => true
def OwnAt(K:Kd)(H:Hp):Ao -> List PyData -> Prop
 | .L a, ds => ∃xs, H a=some (.lst xs) /\ DenAll K H ds xs
 | .T τ, ds => (∃t v, ds=[t] /\ TAt K H τ [] t v /\ ∃a, τ.lookup []=some a /\ v = .ref a) /\ ∀a ∈ τ.map (·.2), ∃o, H a=some o /\ Mu o=true
theorem OwnAt.mem(h:OwnAt K H ao ds)(ha:a ∈ ao.ads):∃o, H a=some o /\ Mu o=true :=by
 cases ao with
 |L b => cases List.mem_singleton.mp ha;obtain⟨xs, e, _⟩ :=h;exact⟨_, e, rfl⟩
 |T τ => exact h.2 a ha
theorem OwnAt.mono(h:OwnAt K H ao ds)(pe:Pers H H')(e:∀a ∈ ao.ads, H' a=H a):OwnAt K H' ao ds :=by
 cases ao with
 |L b =>
  obtain⟨xs, q, g⟩ :=h;exact⟨xs, (e b (List.mem_singleton.mpr rfl)).trans q, g.mono pe⟩
 |T τ =>
  obtain⟨⟨t, v, e1, g, r⟩, m⟩ :=h;exact⟨⟨t, v, e1, g.mono pe e, r⟩, fun a ha => by rw[e a ha];exact m a ha⟩
def RelS(K:Kd)(α:Al)(H:Hp):R -> V -> Prop
 | .imm d, v => Den K H d v
 | .obj k, v => ∃a, α[k]?=some (.L a) /\ v = .ref a
 | .at k p, v => ∃τ a, α[k]?=some (.T τ) /\ τ.lookup p=some a /\ v = .ref a
 | .new _, _ => False
 | .newT _, _ => False
def RelR(K:Kd)(α:Al)(Hb H:Hp):R -> V -> Prop
 | .imm d, v => Den K H d v
 | .obj k, v => ∃a, α[k]?=some (.L a) /\ v = .ref a
 | .at k p, v => ∃τ a, α[k]?=some (.T τ) /\ τ.lookup p=some a /\ v = .ref a
 | .new ds, v => ∃a xs, v = .ref a /\ Hb a=none /\ H a=some (.lst xs) /\ DenAll K H ds xs
 | .newT t, v => ∃τ a, v = .ref a /\ τ.lookup []=some a /\ (τ.map (·.2)).Nodup /\ (∀b ∈ τ.map (·.2), Hb b=none) /\ OwnAt K H (.T τ) [t]
def Frm(α:Al)(H H':Hp):Prop :=∀b o, H b=some o -> b ∉ ads α -> H' b=some o
theorem Frm.refl(α:Al)(H:Hp):Frm α H H :=fun _ _ e _ => e
theorem Frm.trans(a:Frm α H H1)(b:Frm α H1 H2):Frm α H H2 :=fun c o e n => b c o (a c o e n) n
structure Ext(np:Nat)(α:Al)(H:Hp)(α':Al)(H':Hp):Prop where
 pre:α'.take np=α.take np
 frm:Frm α H H'
 new:∀a ∈ ads α', a ∈ ads α \/ H a=none
 old:∀a ∈ ads α, ∃o, H' a=some o
theorem Ext.trans{np:Nat}{α2:Al}(x:Ext np α H α1 H1)(y:Ext np α1 H1 α2 H2):Ext np α H α2 H2 :=by
 have out:∀b o, H b=some o -> b ∉ ads α -> b ∉ ads α1 :=fun b o e n hb => by
  rcases x.new b hb with z|z
  .exact n z
  .rw[e]at z;cases z
 refine⟨y.pre.trans x.pre, fun b o e n => y.frm b o (x.frm b o e n) (out b o e n), fun a ha => ?_, fun a ha => ?_⟩
 .rcases y.new a ha with z|z
  .exact x.new a z
  .cases q:H a with
   |none => exact .inr rfl
   |some o =>
    by_cases hm:a ∈ ads α
    .exact .inl hm
    .have :=x.frm a o q hm;rw[z]at this;cases this
 .obtain⟨o, e⟩ :=x.old a ha
  by_cases hm:a ∈ ads α1
  .exact y.old a hm
  .exact⟨o, y.frm a o e hm⟩
theorem Ext.nil{np:Nat}(x:Ext np α H α1 H1)(h:H1 a=none):H a=none :=by
 cases q:H a with
 |none => rfl
 |some o =>
  by_cases hm:a ∈ ads α
  .obtain⟨o', e⟩ :=x.old a hm;rw[h]at e;cases e
  .have :=x.frm a o q hm;rw[h]at this;cases this
theorem Ext.less{np n1:Nat}(x:Ext n1 α H α' H')(h:np ≤ n1):Ext np α H α' H' :=by
 refine⟨?_, x.frm, x.new, x.old⟩;have :=congrArg (List.take np) x.pre;rw[List.take_take, List.take_take, Nat.min_eq_left h]at this;exact this
structure Rel(K:Kx)(α:Al)(m:MSt)(σ:St)(H:Hp):Prop where
 nd:(ads α).Nodup
 len:α.length=m.os.length
 own:∀(k:Nat) (ao:Ao) (ds:List PyData), α[k]?=some ao -> m.os[k]?=some ds -> OwnAt K H ao ds
 vlen:σ.length=m.vs.length
 var:∀(i:Nat) (r:R), m.vs[i]?=some (some r) -> ∃v, σ[i]?=some (some v) /\ RelS K α H r v
 npl:m.np ≤ α.length
 ebl:K.eb.np ≤ m.np
 ebx:Ext K.eb.np K.eb.be K.eb.H α H
section
variable {K:Kx}{α:Al}{m m':MSt}{σ:St}{H H0 H1 H':Hp}{r:R}{v:V}
theorem RelS.rr{K:Kd}(h:RelS K α H r v):RelR K α Hb H r v :=by
 cases r with
 |imm d => exact h
 |obj k => exact h
 | «at» k p => exact h
 |new ds => exact h.elim
 |newT t => exact h.elim
theorem Rel.mem(R:Rel K α m σ H)(ha:a ∈ ads α):∃o, H a=some o /\ Mu o=true :=by
 obtain⟨ao, h1, h2⟩ :=List.mem_flatMap.mp ha;obtain⟨k, hk, e⟩ :=List.mem_iff_getElem.mp h1;have h1:α[k]?=some ao :=by rw[List.getElem?_eq_getElem hk, e]
 have h2':m.os[k]?=some (m.os[k]'(by rw[<- R.len];exact hk)) :=List.getElem?_eq_getElem _;exact(R.own k ao _ h1 h2').mem h2
theorem Rel.out(R:Rel K α m σ H)(h:H a=none):a ∉ ads α :=fun ha => by
 obtain⟨xs, q, _⟩ :=R.mem ha;rw[h]at q;cases q
theorem Rel.pers(R:Rel K α m σ H)(F:Frm α H H'):Pers H H' where
 tups :=fun b xs e => F b _ e fun ha => by obtain⟨ys, q, z⟩ :=R.mem ha;rw[e]at q;cases q;cases z
 frzs :=fun b o u e => F b _ e fun ha => by obtain⟨ys, q, z⟩ :=R.mem ha;rw[e]at q;cases q;cases z
theorem Ext.of{np:Nat}(R:Rel K α m σ H')(F:Frm α H H'):Ext np α H α H' :=
 ⟨rfl, F, fun _ h => .inl h, fun a ha => let ⟨xs, q, _⟩ :=R.mem ha;⟨_, q⟩⟩
theorem OwnAt.keep{K:Kd}(h:OwnAt K H1 ao ds)(pe:Pers H1 H)(F:Frm α H1 H)(n:∀b ∈ ao.ads, b ∉ ads α):OwnAt K H ao ds :=
 h.mono pe fun a ha => by
  obtain⟨o, e, _⟩ :=h.mem ha;rw[e];exact F a o e (n a ha)
theorem RelR.keep(R0:Rel K α m σ H0)(R1:Rel K α m' σ H1)(F:Frm α H1 H)(h:RelR K α H0 H1 r v):RelR K α H0 H r v :=by
 cases r with
 |imm d => exact Den.mono (R1.pers F) h
 |obj k => exact h
 | «at» k p => exact h
 |new ds =>
  obtain⟨a, xs, e, n, q, g⟩ :=h;exact⟨a, xs, e, n, F a _ q (R0.out n), g.mono (R1.pers F)⟩
 |newT t =>
  obtain⟨τ, a, e, e1, nd, n, g⟩ :=h;exact⟨τ, a, e, e1, nd, n, g.keep (R1.pers F) F fun b hb => R0.out (n b hb)⟩
theorem RelR.base(R:Rel K α m σ H)(F:Frm α H0 H)(h:RelR K α H H' r v):RelR K α H0 H' r v :=by
 have old:∀a, H a=none -> H0 a=none :=fun a n => by
  cases z:H0 a with
  |none => rfl
  |some o =>
   have :=F a o z (R.out n);rw[n]at this;cases this
 cases r with
 |imm d => exact h
 |obj k => exact h
 | «at» k p => exact h
 |new ds =>
  obtain⟨a, xs, e, n, q, g⟩ :=h;exact⟨a, xs, e, old a n, q, g⟩
 |newT t =>
  obtain⟨τ, a, e, e1, nd, n, g⟩ :=h;exact⟨τ, a, e, e1, nd, fun b hb => old b (n b hb), g⟩
def chD:PyData -> Nat -> Option PyData
 | .list ts, i => ts[i]?
 | .dict kvs, i => match kvs[i]? with
  |some (.none, _) => none
  |some (_, t) => some t
  |none => none
 |_, _ => none
def getT:PyData -> List Nat -> Option PyData
 |t, [] => some t
 |t, i::p => (chD t i).bind fun t' => getT t' p
def leafD:PyData -> Option PyData
 | .list _ => none
 | .dict kvs => fzOf kvs
 |d => some d
def leavesD:List PyData -> Option (List PyData)
 |[] => some []
 |t::ts => match leafD t, leavesD ts with|some d, some ds => some (d::ds)|_, _ => none
def ndL(m:MSt)(k:Nat)(p:List Nat):Option (List PyData) :=match m.os[k]? with
 |some [t] => match getT t p with
  |some (.list ts) => leavesD ts
  |_ => none
 |_ => none
theorem leaf_den{K:Kd}{p:List Nat}{t d:PyData}(h:TAt K H τ p t v)(e:leafD t=some d):Den K H d v :=by
 cases t with
 |list ts => cases e
 | dict kvs =>
  have e':fzOf kvs=some d :=e;simp only[TAt]at h;rcases h with⟨d', e1, h⟩|⟨z, _⟩|⟨z, _⟩|⟨c, a, dx, C, xs, e0, _⟩
  .rw[e']at e1;cases e1;exact h
  .rw[e']at z;cases z
  .rw[e']at z;cases z
  .exfalso;unfold fzOf at e';unfold excC at e0
   split at e'<;>simp_all
 |none => cases e;simpa only[TAt]using h
 |bool _ => cases e;simpa only[TAt]using h
 |int _ => cases e;simpa only[TAt]using h
 |str _ => cases e;simpa only[TAt]using h
 |tuple _ => cases e;simpa only[TAt]using h
theorem leaves_den{K:Kd}{τ:List (List Nat × Addr)}{p:List Nat}:∀{ts ds:List PyData}{i:Nat}{xs:List V}, TAtL K H τ p i ts xs -> leavesD ts=some ds -> DenAll K H ds xs
 |[], ds, i, xs, h, e => by
  cases e;simp only[TAtL]at h;subst h;exact DenAll.nil
 | t::ts, ds, i, xs, h, e => by
  simp only[TAtL]at h;obtain⟨v, vs, rfl, g1, g2⟩ :=h;simp only[leavesD]at e
  cases q1:leafD t with
  |none => rw[q1]at e;cases e
  | some d =>
   cases q2:leavesD ts with
   |none => rw[q1, q2]at e;cases e
   |some ds' =>
    rw[q1, q2]at e;cases e;exact DenAll.cons (leaf_den g1 q1) (leaves_den g2 q2)
theorem TAtL.get{K:Kd}{τ:List (List Nat × Addr)}{p:List Nat}:∀{ts:List PyData}{i j:Nat}{xs:List V}{t:PyData}, TAtL K H τ p i ts xs -> ts[j]?=some t -> ∃v, xs[j]?=some v /\ TAt K H τ (p ++ [i+j]) t v
 |[], _, _, _, _, _, e => by simp at e
 |t::ts, i, 0, xs, t', h, e => by
  simp only[TAtL]at h;obtain⟨v, vs, rfl, g1, _⟩ :=h;simp at e;subst e;exact⟨v, rfl, g1⟩
 |t::ts, i, j+1, xs, t', h, e => by
  simp only[TAtL]at h;obtain⟨v, vs, rfl, _, g2⟩ :=h;obtain⟨v', e1, e2⟩ :=TAtL.get (j :=j) g2 (by simpa using e);exact⟨v', by simpa using e1, by rw[show i+(j+1)=i+1+j by omega];exact e2⟩
theorem TAtD.get{K:Kd}{τ:List (List Nat × Addr)}{p:List Nat}:∀{ts:List (PyData × PyData)}{i j:Nat}{xs:List (Int × V × V)}{k t:PyData}, TAtD K H τ p i ts xs -> ts[j]?=some (k, t) -> ∃u v, xs[j]?=some (hashD K.w k, u, v) /\ Den K H k u /\ TAt K H τ (p ++ [i+j]) t v
 |[], _, _, _, _, _, _, e => by simp at e
 |(k, t)::ts, i, 0, xs, k', t', h, e => by
  simp only[TAtD]at h;obtain⟨u, v, vs, rfl, g0, g1, _⟩ :=h;simp at e;obtain⟨rfl, rfl⟩ :=e;exact⟨u, v, rfl, g0, g1⟩
 |(k, t)::ts, i, j+1, xs, k', t', h, e => by
  simp only[TAtD]at h;obtain⟨u, v, vs, rfl, _, _, g2⟩ :=h;obtain⟨u', v', e1, e0, e2⟩ :=TAtD.get (j :=j) g2 (by simpa using e);exact⟨u', v', by simpa using e1, e0, by rw[show i+(j+1)=i+1+j by omega];exact e2⟩
theorem TAtK.get{K:Kd}{τ:List (List Nat × Addr)}{p:List Nat}:∀{ts:List (PyData × PyData)}{i j:Nat}{xs:List (Key × V)}{k t:PyData}, TAtK K H τ p i ts xs -> ts[j]?=some (k, t) -> ∃v, TAt K H τ (p ++ [i+j]) t v
 |[], _, _, _, _, _, _, e => by simp at e
 |(k, t)::ts, i, 0, xs, k', t', h, e => by
  simp only[TAtK]at h;obtain⟨u, v, vs, rfl, g0, g1, _⟩ :=h;simp at e;obtain⟨rfl, rfl⟩ :=e;exact⟨v, g1⟩
 |(k, t)::ts, i, j+1, xs, k', t', h, e => by
  simp only[TAtK]at h;obtain⟨u, v, vs, rfl, _, _, g2⟩ :=h;obtain⟨v', e2⟩ :=TAtK.get (j :=j) g2 (by simpa using e);exact⟨v', by rw[show i+(j+1)=i+1+j by omega];exact e2⟩
theorem TAtF.get{K:Kd}{τ:List (List Nat × Addr)}{p:List Nat}:∀{ts:List (PyData × PyData)}{i j:Nat}{xs:List (Str × V)}{f:Str}{t:PyData}, TAtF K H τ p i ts xs -> ts[j]?=some (.str f, t) -> ∃v, (f, v) ∈ xs /\ TAt K H τ (p ++ [i+j]) t v
 |[], _, _, _, _, _, _, e => by simp at e
 |(k, t)::ts, i, 0, xs, f, t', h, e => by
  simp at e;obtain⟨rfl, rfl⟩ :=e;simp only[TAtF]at h;obtain⟨v, vs, rfl, g1, _⟩ :=h;exact⟨v, List.mem_cons_self, g1⟩
 | (k, t)::ts, i, j+1, xs, f, t', h, e => by
  have go:∀{ys:List (Str × V)}, TAtF K H τ p (i+1) ts ys -> ∃v, (f, v) ∈ ys /\ TAt K H τ (p ++ [i+(j+1)]) t' v :=fun {ys} g2 => by
   obtain⟨v', e1, e2⟩ :=TAtF.get (j :=j) g2 (by simpa using e);exact⟨v', e1, by rw[show i+(j+1)=i+1+j by omega];exact e2⟩
  cases k with
  |str f' =>
   simp only[TAtF]at h;obtain⟨v, vs, rfl, _, g2⟩ :=h;obtain⟨v', e1, e2⟩ :=go g2;exact⟨v', List.mem_cons_of_mem _ e1, e2⟩
  |none => simp only[TAtF]at h;exact go h
  |bool _ => simp only[TAtF]at h
  |int _ => simp only[TAtF]at h
  |list _ => simp only[TAtF]at h
  |tuple _ => simp only[TAtF]at h
  |dict _ => simp only[TAtF]at h
theorem TAtF.key{K:Kd}{p:List Nat}:∀{ts:List (PyData × PyData)}{i:Nat}{xs:List (Str × V)}{k t:PyData}, TAtF K H τ p i ts xs -> (k, t) ∈ ts -> k ≠ .none -> ∃f, k = .str f
 |[], _, _, _, _, _, e, _ => by simp at e
 | (k, t)::ts, i, xs, k', t', h, e, kn => by
  cases k with
  |str f' =>
   simp only[TAtF]at h;obtain⟨v, vs, rfl, _, g2⟩ :=h;rcases List.mem_cons.mp e with e|e
   .cases e;exact⟨_, rfl⟩
   .exact g2.key e kn
  |none =>
   simp only[TAtF]at h;rcases List.mem_cons.mp e with e|e
   .cases e;exact(kn rfl).elim
   .exact h.key e kn
  |bool _ => simp only[TAtF]at h
  |int _ => simp only[TAtF]at h
  |list _ => simp only[TAtF]at h
  |tuple _ => simp only[TAtF]at h
  |dict _ => simp only[TAtF]at h
theorem TAt.get{K:Kd}{τ:List (List Nat × Addr)}:∀{q p:List Nat}{t t':PyData}{v:V}, TAt K H τ p t v -> getT t q=some t' -> ∃v', TAt K H τ (p ++ q) t' v'
 |[], p, t, t', v, h, e => by cases e;exact⟨v, by rw[List.append_nil];exact h⟩
 | i::q, p, t, t', v, h, e => by
  simp only[getT]at e
  cases z:chD t i with
  |none => rw[z]at e;cases e
  | some t1 =>
   rw[z]at e;have e':getT t1 q=some t' :=e;have step:∃v1, TAt K H τ (p ++ [i]) t1 v1 :=by
    cases t with
    |list ts =>
     simp only[TAt]at h;obtain⟨a, xs, _, _, _, g⟩ :=h;obtain⟨v1, _, g1⟩ :=g.get (j :=i) z;exact⟨v1, by rw[Nat.zero_add]at g1;exact g1⟩
    | dict kvs =>
     simp only[chD]at z
     cases zi:kvs[i]? with
     |none => rw[zi]at z;cases z
     | some kt =>
      obtain⟨k, t2⟩ :=kt;rw[zi]at z;have kn:k ≠ .none :=fun q => by subst q;cases z
      have e2:t2=t1 :=by
       split at z<;>simp_all
      subst e2;simp only[TAt]at h;rcases h with⟨d, e1, _⟩|⟨_, _, a, es, _, _, _, _, g⟩|⟨_, _, a, es, _, _, _, g⟩|⟨c, a, dx, C, xs, e0, _, _, _, _, g⟩
      .exfalso;unfold fzOf at e1
       split at e1
       .cases i<;>simp at zi;exact kn zi.1.symm
       .cases i<;>simp at zi;exact kn zi.1.symm
       .cases e1
      .obtain⟨u, v1, _, _, g1⟩ :=g.get (j :=i) zi;exact⟨v1, by rw[Nat.zero_add]at g1;exact g1⟩
      .obtain⟨v1, g1⟩ :=g.get (j :=i) zi;exact⟨v1, by rw[Nat.zero_add]at g1;exact g1⟩
      .obtain⟨f, rfl⟩ :=g.key (List.mem_of_getElem? zi) kn;obtain⟨v1, _, g1⟩ :=g.get (j :=i) zi;exact⟨v1, by rw[Nat.zero_add]at g1;exact g1⟩
    |none => cases z
    |bool _ => cases z
    |int _ => cases z
    |str _ => cases z
    |tuple _ => cases z
   obtain⟨v1, h1⟩ :=step;obtain⟨v', h2⟩ :=TAt.get h1 e';exact⟨v', by rw[List.append_assoc]at h2;exact h2⟩
def lsOf(m:MSt):R -> Option (List PyData)
 | .imm (.list ds) => some ds
 | .obj k => m.os[k]?
 | .new ds => some ds
 | .at k p => ndL m k p
 |_ => none
mutual
def eraT:PyData -> Option PyData
 | .list ts => (eraL ts).map .list
 | .dict kvs => fzOf kvs
 | .none => some .none
 | .bool b => some (.bool b)
 | .int i => some (.int i)
 | .str x => some (.str x)
 | .tuple ds => some (.tuple ds)
def eraL:List PyData -> Option (List PyData)
 |[] => some []
 |t::ts => match eraT t, eraL ts with|some d, some ds => some (d::ds)|_, _ => none
end
def ndT(m:MSt)(k:Nat)(p:List Nat):Option PyData :=match m.os[k]? with
 |some [t] => getT t p
 |_ => none
def asD(m:MSt):R -> Option PyData
 | .imm d => some d
 | .obj k => (m.os[k]?).map .list
 | .new ds => some (.list ds)
 | .at k p => match ndT m k p with
  |some (.list ts) => (eraL ts).map .list
  |_ => none
 | .newT _ => none
theorem RelR.node(R:Rel K α m σ H){p:List Nat}(h:RelR K α H0 H (.at k p) v){t:PyData}(e:ndT m k p=some t):∃τ a v', α[k]?=some (.T τ) /\ τ.lookup p=some a /\ v = .ref a /\ TAt K H τ p t v' :=by
 obtain⟨τ, a, e1, e2, e3⟩ :=h;unfold ndT at e
 split at e
 .rename_i t0 e0;obtain⟨⟨t1, v0, e4, g, _⟩, _⟩ :=R.own k (.T τ) _ e1 e0;cases e4;obtain⟨v', g'⟩ :=g.get e;exact⟨τ, a, v', e1, e2, e3, by simpa using g'⟩
 .cases e
theorem RelR.list(R:Rel K α m σ H)(h:RelR K α H0 H r v)(e:lsOf m r=some ds):∃a xs, v = .ref a /\ SqL K H a xs /\ DenAll K H ds xs :=by
 cases r with
 | imm d =>
  cases d with
  |list es =>
   cases e;have h':Den K H (.list ds) v :=h;simp only[Den]at h';obtain⟨a, xs, e1, f, g⟩ :=h';exact⟨a, xs, e1, f.sq, g⟩
  |none => cases e
  |bool _ => cases e
  |int _ => cases e
  |str _ => cases e
  |tuple _ => cases e
  |dict _ => cases e
 |obj k =>
  obtain⟨a, e1, rfl⟩ :=h;obtain⟨xs, q, g⟩ :=R.own k _ ds e1 e;exact⟨a, xs, rfl, SqL.of q, g⟩
 |new es =>
  cases e;obtain⟨a, xs, e1, n, q, g⟩ :=h;exact⟨a, xs, e1, SqL.of q, g⟩
 | «at» k p =>
  have e':ndL m k p=some ds :=e;obtain⟨ts, e1, e2⟩:∃ts, ndT m k p=some (.list ts) /\ leavesD ts=some ds :=by
   unfold ndL at e';unfold ndT
   split at e'
   .split at e'
    .rename_i h0 _ ts h1;exact⟨ts, h1, e'⟩
    .cases e'
   .cases e'
  obtain⟨τ, a, v', _, ea, rfl, g⟩ :=RelR.node R h e1;simp only[TAt]at g;obtain⟨a', xs, ea', _, q, g⟩ :=g;rw[ea]at ea';cases ea';exact⟨a, xs, rfl, SqL.of q, leaves_den g e2⟩
 |newT _ => cases e
end
section
variable {X:Cx}{pins:List (Addr × Obj)}{σ:St}{H:Hp}{s:Shared}{τ:List (List Nat × Addr)}
mutual
theorem TAt.reads(I:Inv X pins σ H s):∀{t d:PyData}{p:List Nat}{v:V}{u:Value}, eraT t=some d -> d.hasDict=false -> TAt X.kd H τ p t v -> RelV v u -> ∃as, Reads s.heap u d as
 | .none, d, p, v, u, e, nd, h, r => by simp only[eraT]at e;cases e;simp only[TAt]at h;exact h.reads I nd r
 | .bool b, d, p, v, u, e, nd, h, r => by simp only[eraT]at e;cases e;simp only[TAt]at h;exact h.reads I nd r
 | .int i, d, p, v, u, e, nd, h, r => by simp only[eraT]at e;cases e;simp only[TAt]at h;exact h.reads I nd r
 | .str x, d, p, v, u, e, nd, h, r => by simp only[eraT]at e;cases e;simp only[TAt]at h;exact h.reads I nd r
 | .tuple ds, d, p, v, u, e, nd, h, r => by simp only[eraT]at e;cases e;simp only[TAt]at h;exact h.reads I nd r
 | .dict kvs, d, p, v, u, e, nd, h, r => by
  simp only[eraT]at e;exact(leaf_den h (show leafD (.dict kvs)=some d from e)).reads I nd r
 | .list ts, d, p, v, u, e, nd, h, r => by
  simp only[eraT]at e
  cases q:eraL ts with
  |none => rw[q]at e;cases e
  |some ds =>
   rw[q]at e;cases e;simp only[TAt]at h;obtain⟨a, xs, _, rfl, f, g⟩ :=h;cases r;obtain⟨its, rv, ⟨o, n, e, c, _, dd⟩, _⟩ :=I.list (SqL.of f);obtain⟨as, h2⟩ :=TAtL.reads I q (by simpa only[PyData.hasDict]using nd) g rv;exact⟨_, .list e c dd (by simpa using h2)⟩
theorem TAtL.reads(I:Inv X pins σ H s):∀{ts ds:List PyData}{p:List Nat}{i:Nat}{xs:List V}{us:List Value}, eraL ts=some ds -> PyData.hasDictAll ds=false -> TAtL X.kd H τ p i ts xs -> Vals xs us -> ∃as, ReadsAll s.heap us ds as
 |[], ds, p, i, xs, us, e, nd, h, r => by
  simp only[eraL]at e;cases e;simp only[TAtL]at h;subst h
  cases r;exact⟨_, .nil⟩
 | t::ts, ds, p, i, xs, us, e, nd, h, r => by
  simp only[eraL]at e
  cases q1:eraT t with
  |none => rw[q1]at e;cases e
  | some d =>
   cases q2:eraL ts with
   |none => rw[q1, q2]at e;cases e
   | some ds' =>
    rw[q1, q2]at e;cases e;simp only[PyData.hasDictAll, Bool.or_eq_false_iff]at nd;simp only[TAtL]at h;obtain⟨v, vs, rfl, g1, g2⟩ :=h
    cases r with
    |cons r1 r2 =>
     obtain⟨a1, h1⟩ :=TAt.reads I q1 nd.1 g1 r1;obtain⟨a2, h2⟩ :=TAtL.reads I q2 nd.2 g2 r2;exact⟨_, .cons h1 h2⟩
end
end
theorem RelR.reads{s:Shared}{m:MSt}{u:Value}{d:PyData}(I:Inv X pins σ H s)(R:Rel X.kx α m σ' H)(h:RelR X.kd α H0 H r v)(rv:RelV v u)(e:asD m r=some d)(nd:d.hasDict=false):∃as, Reads s.heap u d as :=by
 have li:∀{ds:List PyData}, lsOf m r=some ds -> PyData.hasDictAll ds=false -> ∃as, Reads s.heap u (.list ds) as :=fun {ds} e nd => by
  obtain⟨a, xs, rfl, f, g⟩ :=RelR.list R h e;cases rv;obtain⟨its, rv, ⟨o, n, e, c, _, dd⟩, _⟩ :=I.list f;obtain⟨as, h2⟩ :=DenAll.reads I nd g rv;exact⟨_, .list e c dd (by simpa using h2)⟩
 cases r with
 |imm d' => cases e;exact Den.reads I nd h rv
 | obj k =>
  cases q:m.os[k]? with
  |none => simp[asD, q]at e
  |some ds =>
   simp[asD, q]at e;subst e;exact li q (by simpa only[PyData.hasDict]using nd)
 |new ds => cases e;exact li rfl (by simpa only[PyData.hasDict]using nd)
 | «at» k p =>
  obtain⟨ts, ds, q, q2, rfl⟩:∃ts ds, ndT m k p=some (.list ts) /\ eraL ts=some ds /\ d = .list ds :=by
   unfold asD at e;simp only at e
   split at e
   .rename_i ts q
    cases q2:eraL ts with
    |none => rw[q2]at e;cases e
    |some ds => rw[q2]at e;cases e;exact⟨ts, ds, q, q2, rfl⟩
   .cases e
  obtain⟨τ, a, v', _, ea, rfl, g⟩ :=RelR.node R h q;have g' :=g;simp only[TAt]at g';obtain⟨a', xs, ea', e3, _⟩ :=g';rw[ea]at ea';cases ea';subst e3;exact TAt.reads I (by simp only[eraT, q2, Option.map]) nd g rv
 |newT _ => cases e
abbrev WE :=MSt -> (R -> MSt -> Prop) -> Prop
abbrev WT :=MSt -> (Bool -> MSt -> Prop) -> Prop
abbrev WA :=MSt -> (List R -> MSt -> Prop) -> Prop
def tM(K:Kx)(w:WE):TE :=fun σ H Q => ∃α m Kc, Rel K α m σ H /\ w m Kc /\ ∀r m' v H', Kc r m' -> m'.np=m.np -> Rel K α m' σ H' -> RelR K α H H' r v -> Frm α H H' -> Q v H'
def tMT(K:Kx)(w:WT):TT :=fun σ H Q => ∃α m Kc, Rel K α m σ H /\ w m Kc /\ ∀b m' H', Kc b m' -> m'.np=m.np -> Rel K α m' σ H' -> Frm α H H' -> Q b H'
inductive RelRs(K:Kd)(α:Al)(Hb H:Hp):List R -> List V -> Prop where
 |nil:RelRs K α Hb H [] []
 |cons {r:R}{rs:List R}{v:V}{vs:List V}:RelR K α Hb H r v -> RelRs K α Hb H rs vs -> RelRs K α Hb H (r::rs) (v::vs)
def tMA(K:Kx)(w:WA):TA :=fun σ H Q => ∃α m Kc, Rel K α m σ H /\ w m Kc /\ ∀rs m' vs H', Kc rs m' -> m'.np=m.np -> Rel K α m' σ H' -> RelRs K α H H' rs vs -> Frm α H H' -> Q vs H'
theorem PE.wk{t t':TE}(h:PE X e t)(k:∀σ H Q, t' σ H Q -> t σ H Q):PE X e t' :=fun pins s σ H Q I q => h pins s σ H Q I (k _ _ _ q)
theorem PT.wk{t t':TT}(h:PT X e t)(k:∀σ H Q, t' σ H Q -> t σ H Q):PT X e t' :=fun pins s σ H Q I q => h pins s σ H Q I (k _ _ _ q)
theorem PW.wk{t t':TT}(h:PW X e t)(k:∀σ H Q, t' σ H Q -> t σ H Q):PW X e t' :=fun wh pins s σ H Q I q => h wh pins s σ H Q I (k _ _ _ q)
theorem PA.wk{e:List Expr}{t t':TA}(h:PA X e t)(k:∀σ H Q, t' σ H Q -> t σ H Q):PA X e t' :=fun pos pins s σ H Q I q => h pos pins s σ H Q I (k _ _ _ q)
theorem PS.wk{e:Stmt}{t t':TS}(h:PS X e t)(k:∀D σ H, t' D σ H -> t D σ H):PS X e t' :=fun pins s σ H D I q => h pins s σ H D I (k _ _ _ q)
theorem PSs.wk{e:List Stmt}{t t':TS}(h:PSs X e t)(k:∀D σ H, t' D σ H -> t D σ H):PSs X e t' :=fun pins s σ H D I q => h pins s σ H D I (k _ _ _ q)
abbrev ME(X:Cx)(e:Expr)(w:WE):Prop :=PE X e (tM X.kx w)
abbrev MT(X:Cx)(e:Expr)(w:WT):Prop :=PT X e (tMT X.kx w)
abbrev MW(X:Cx)(e:Expr)(w:WT):Prop :=PW X e (tMT X.kx w)
abbrev MA(X:Cx)(es:List Expr)(w:WA):Prop :=PA X es (tMA X.kx w)
section
variable {X:Cx}{a b c:Expr}{es:List Expr}{wa wb wc:WE}{pos:Pos}
def wVar(i:Nat):WE :=fun m K => ∃r, m.vs[i]?=some (some r) /\ K r m
def wC(d:PyData):WE :=fun m K => K (.imm d) m
theorem me_of{t:TE}{w:WE}(h:PE X a t)(k:∀α m σ H Kc Q, Rel X.kx α m σ H -> w m Kc -> (∀r m' v H', Kc r m' -> m'.np=m.np -> Rel X.kx α m' σ H' -> RelR X.kx α H H' r v -> Frm α H H' -> Q v H') -> t σ H Q):ME X a w :=
 h.wk fun σ H Q ⟨α, m, Kc, Rl, hw, fin⟩ => k α m σ H Kc Q Rl hw fin
theorem me_c{d:PyData}(h:PE X a (tC v))(hd:∀(K:Kd) H, Den K H d v):ME X a (wC d) :=
 me_of h fun α m σ H Kc Q Rl hw fin => fin _ m v H hw rfl Rl (hd _ _) (Frm.refl _ _)
theorem me_int{i j pos}:ME X (.Constant (.int i) j pos) (wC (.int i)) :=me_c pe_int fun _ _ => by simp only[Den]
theorem me_bl{i j pos}:ME X (.Constant (.bool i) j pos) (wC (.bool i)) :=me_c pe_bl fun _ _ => by simp only[Den]
theorem me_str{i j pos}:ME X (.Constant (.str i) j pos) (wC (.str i)) :=me_c pe_str fun _ _ => by simp only[Den]
theorem me_non{j pos}:ME X (.Constant .none j pos) (wC .none) :=me_c pe_non fun _ _ => by simp only[Den]
theorem me_var(h:PE X a (tVar i)):ME X a (wVar i) :=
 me_of h fun α m σ H Kc Q Rl hw fin => by
  obtain⟨r, e, k⟩ :=hw;obtain⟨v, ev, rv⟩ :=Rl.var i r e;exact⟨v, ev, fin r m v H k rfl Rl rv.rr (Frm.refl _ _)⟩
theorem mv(i:Nat){pos:Pos}(hN:X.N[i]?=some x :=by rfl)(hv:Vis X.env.scope x :=by first|exact Or.inl rfl|exact Or.inr (Or.inl rfl)|exact Or.inr (Or.inr rfl))(hd:(x==("__debug__" : Str))=false :=by decide)(hcd:(x==("__classdict__" : Str))=false :=by decide):ME X (.Name x pos) (wVar i) :=me_var (pe_var hN hv hd hcd)
abbrev WO :=R -> R -> MSt -> (R -> Prop) -> Prop
def rM(K:Kx)(o:WO):R2 :=fun x y H Q => ∃α m σ H0 H1 r1 r2 Kc, Rel K α m σ H /\ RelR K α H0 H r1 x /\ RelR K α H1 H r2 y /\ o r1 r2 m Kc /\ ∀r v H', Kc r -> Rel K α m σ H' -> RelR K α H H' r v -> Frm α H H' -> Q v H'
def wBin(o:WO)(wa wb:WE):WE :=fun m K => wa m fun r1 m1 => wb m1 fun r2 m2 => o r1 r2 m2 fun r => K r m2
theorem bin_rd(h:tM X.kx (wBin o wa wb) σ H Q):tOp (rM X.kx o) (tM X.kx wa) (tM X.kx wb) σ H Q :=by
 obtain⟨α, m, Kc, Rl, hw, fin⟩ :=h;refine⟨α, m, _, Rl, hw, fun r1 m1 x H1 k1 n1 Rl1 rr1 F1 => ⟨α, m1, _, Rl1, k1, fun r2 m2 y H2 k2 n2 Rl2 rr2 F2 => ?_⟩⟩;refine⟨α, m2, σ, H, H1, r1, r2, _, Rl2, rr1.keep Rl Rl1 F2, rr2, k2, fun r v H' k Rl' rr F => ?_⟩;exact fin r m2 v H' k (n2.trans n1) Rl' (rr.base Rl2 (F1.trans F2)) ((F1.trans F2).trans F)
theorem me_bin{op:Operator}(ho:OpR X (binaryOp op) (rM X.kx o))(ha:ME X a wa)(hb:ME X b wb):ME X (.BinOp a op b pos) (wBin o wa wb) :=(pe_op ho ha hb).wk fun _ _ _ h => bin_rd h
theorem me_cmp(ho:OpR X (compareOp op) (rM X.kx o))(ha:ME X a wa)(hb:ME X b wb)(hm:behindInMarks op b=false):ME X (.Compare a [op] [b] pos) (wBin o wa wb) :=(pe_cmpR ho ha hb hm).wk fun _ _ _ h => bin_rd h
def onBl(P:Bool -> Prop):R -> Prop
 | .imm (.bool k) => P k
 |_ => False
theorem rel_bl{K:Kx}{P:Bool -> Prop}(rr:RelR K α Hb H r v)(h:onBl P r):∃b, r = .imm (.bool b) /\ v = .bl b /\ P b :=by
 cases r with
 |obj _ => exact h.elim
 |new _ => exact h.elim
 | «at» _ _ => exact h.elim
 |newT _ => exact h.elim
 | imm d =>
  cases d with
  |bool b =>
   have e:Den K H (.bool b) v :=rr;simp only[Den]at e;exact⟨b, rfl, e, h⟩
  |none => exact h.elim
  |int _ => exact h.elim
  |str _ => exact h.elim
  |list _ => exact h.elim
  |tuple _ => exact h.elim
  |dict _ => exact h.elim
def wTest(w:WE):WT :=fun m K => w m fun r m' => onBl (fun k => K k m') r
theorem test_rd{t:TE}{Q:Bool -> Hp -> Prop}{w:WE}(k:∀Q', tM X.kx w σ H Q' -> t σ H Q')(h:tMT X.kx (wTest w) σ H Q):tTest t σ H Q :=by
 obtain⟨α, m, Kc, Rl, hw, fin⟩ :=h;refine k _ ⟨α, m, _, Rl, hw, fun r m' v H' kk n1 Rl' rr F => ?_⟩;obtain⟨b, er, ev, kk⟩ :=rel_bl rr kk;exact⟨b, ev, fin b m' H' kk n1 Rl' F⟩
theorem mt_cmp(ho:OpR X (compareOp op) (rM X.kx o))(ha:ME X a wa)(hb:ME X b wb)(hm:behindInMarks op b=false):MT X (.Compare a [op] [b] pos) (wTest (wBin o wa wb)) :=(pt_cmpR ho ha hb hm).wk fun _ _ _ h => test_rd (fun _ => bin_rd) h
theorem mt_val(ha:ME X a wa)(he:∀whole, isTrue a X.env whole=(do let v <- whole;standAt a.pos;holding [v] (truthy v)) :=by intro _;rfl):MT X a (wTest wa) :=(pt_val ha he).wk fun _ _ _ h => test_rd (t :=tM X.kx wa) (fun _ h => h) h
end
section
variable {X:Cx}{a b c:Expr}{es:List Expr}{wa wb wc:WE}{pos:Pos}
variable {wt wu:WT}{rest:List Expr}
def wAnd(t u:WT):WT :=fun m K => t m fun c m1 => if c=true then u m1 K else K false m1
def wOr(t u:WT):WT :=fun m K => t m fun c m1 => if c=true then K true m1 else u m1 K
def wNot(t:WT):WT :=fun m K => t m fun c m1 => K (!c) m1
theorem mw_and1(ha:MT X a wt):MW X (.BoolOp .And [a] pos) wt :=pw_and1 ha
theorem mw_or1(ha:MT X a wt):MW X (.BoolOp .Or [a] pos) wt :=pw_or1 ha
theorem mw_and(ha:MT X a wt)(hb:MW X (.BoolOp .And (b::rest) pos) wu):MW X (.BoolOp .And (a::b::rest) pos) (wAnd wt wu) :=(pw_and ha hb).wk fun σ H Q ⟨α, m, Kc, Rl, hw, fin⟩ => by
 refine⟨α, m, _, Rl, hw, fun bb m1 H1 k n1 Rl1 F1 => ?_⟩
 cases bb with
 |true => rw[if_pos rfl]at k⊢;exact⟨α, m1, Kc, Rl1, k, fun b2 m2 H2 k2 n2 Rl2 F2 => fin b2 m2 H2 k2 (n2.trans n1) Rl2 (F1.trans F2)⟩
 |false => rw[if_neg Bool.false_ne_true]at k⊢;exact fin _ m1 H1 k n1 Rl1 F1
theorem mw_or(ha:MT X a wt)(hb:MW X (.BoolOp .Or (b::rest) pos) wu):MW X (.BoolOp .Or (a::b::rest) pos) (wOr wt wu) :=(pw_or ha hb).wk fun σ H Q ⟨α, m, Kc, Rl, hw, fin⟩ => by
 refine⟨α, m, _, Rl, hw, fun bb m1 H1 k n1 Rl1 F1 => ?_⟩
 cases bb with
 |true => rw[if_pos rfl]at k⊢;exact fin _ m1 H1 k n1 Rl1 F1
 |false => rw[if_neg Bool.false_ne_true]at k⊢;exact⟨α, m1, Kc, Rl1, k, fun b2 m2 H2 k2 n2 Rl2 F2 => fin b2 m2 H2 k2 (n2.trans n1) Rl2 (F1.trans F2)⟩
theorem mt_not(ha:MT X a wt):MT X (.UnaryOp .Not a pos) (wNot wt) :=(pt_not ha).wk fun σ H Q ⟨α, m, Kc, Rl, hw, fin⟩ =>
 ⟨α, m, _, Rl, hw, fun bb m1 H1 k n1 Rl1 F1 => fin _ m1 H1 k n1 Rl1 F1⟩
theorem den_bl(b:Bool):Den K H (.bool b) (.bl b) :=by simp only[Den]
theorem den_int(b:Int):Den K H (.int b) (.int b) :=by simp only[Den]
theorem den_str(b:Str):Den K H (.str b) (.str b) :=by simp only[Den]
theorem den_non:Den K H .none .non :=by simp only[Den]
def wIfE(t:WT)(wa wb:WE):WE :=fun m K => t m fun c m1 => if c=true then wa m1 K else wb m1 K
theorem me_if(ht:MT X t wt)(ha:ME X a wa)(hb:ME X b wb):ME X (.IfExp t a b pos) (wIfE wt wa wb) :=(pe_ifExp ht ha hb).wk fun σ H Q ⟨α, m, Kc, Rl, hw, fin⟩ => by
 refine⟨α, m, _, Rl, hw, fun bb m1 H1 k n1 Rl1 F1 => ?_⟩
 cases bb with
 |true => rw[if_pos rfl]at k⊢;exact⟨α, m1, Kc, Rl1, k, fun r m2 v H2 k2 n2 Rl2 rr2 F2 => fin r m2 v H2 k2 (n2.trans n1) Rl2 (rr2.base Rl1 F1) (F1.trans F2)⟩
 |false => rw[if_neg Bool.false_ne_true]at k⊢;exact⟨α, m1, Kc, Rl1, k, fun r m2 v H2 k2 n2 Rl2 rr2 F2 => fin r m2 v H2 k2 (n2.trans n1) Rl2 (rr2.base Rl1 F1) (F1.trans F2)⟩
abbrev WU :=R -> MSt -> (R -> Prop) -> Prop
def uM(K:Kx)(o:WU):V -> Hp -> VK -> Prop :=fun x H Q => ∃α m σ H0 r1 Kc, Rel K α m σ H /\ RelR K α H0 H r1 x /\ o r1 m Kc /\ ∀r v H', Kc r -> Rel K α m σ H' -> RelR K α H H' r v -> Frm α H H' -> Q v H'
def wUn(o:WU)(wa:WE):WE :=fun m K => wa m fun r1 m1 => o r1 m1 fun r => K r m1
theorem me_un{op:UnaryOp}{o:WU}(ho:UnR X (unaryOp op) (uM X.kx o))(ha:ME X a wa):ME X (.UnaryOp op a pos) (wUn o wa) :=(pe_un ho ha).wk fun σ H Q ⟨α, m, Kc, Rl, hw, fin⟩ =>
 ⟨α, m, _, Rl, hw, fun r1 m1 x H1 k1 n1 Rl1 rr1 F1 => ⟨α, m1, σ, H, r1, _, Rl1, rr1, k1, fun r v H' k Rl' rr F => fin r m1 v H' k n1 Rl' (rr.base Rl1 F1) (F1.trans F)⟩⟩
def tFz(t:TE):TE :=fun σ H Q => t σ H fun v H1 => Q v H1 \/ ∃a xs, H1 a=some (.lst xs) /\ ∀o, Q v (upd H1 a (.frz o (.lst xs)))
theorem pe_fz{t:TE}(h:PE X a t):PE X a (tFz t) :=by
 intro pins s σ H Q I q;refine thn (h pins s σ H _ I q) fun u s1 ⟨v, H1, I1, r1, q1⟩ => ?_;rcases q1 with q1|⟨p, xs, e, q1⟩
 .exact⟨v, H1, I1, r1, q1⟩
 .obtain⟨o, I2⟩ :=I1.freeze e;exact⟨v, _, I2, r1, q1 o⟩
theorem Rel.at{K:Kx}{m:MSt}(R:Rel K α m σ H)(p:Pers H H')(e:∀a ∈ ads α, H' a=H a)(x:Frm α H H'):Rel K α m σ H' :=by
 refine⟨R.nd, R.len, fun k ao ds h1 h2 => ?_, R.vlen, fun i r h => ?_, R.npl, R.ebl, R.ebx.trans ⟨rfl, x, fun _ h => .inl h, fun a ha => ?_⟩⟩
 .exact(R.own k ao ds h1 h2).mono p fun a ha => e a (List.mem_flatMap.mpr ⟨ao, List.mem_of_getElem? h1, ha⟩)
 .obtain⟨v, ev, rv⟩ :=R.var i r h;refine⟨v, ev, ?_⟩
  cases r with
  |imm d => exact Den.mono p rv
  |obj k => exact rv
  | «at» k p => exact rv
  |new ds => exact rv
  |newT t => exact rv
 .obtain⟨o, q, _⟩ :=R.mem ha;exact⟨o, (e a ha).trans q⟩
theorem Rel.at'{K:Kx}{m:MSt}(R:Rel K α m σ H)(p:Pers H H')(e:∀a ∈ ads α, H' a=H a)(x:Ext K.eb.np K.eb.be K.eb.H α H'):Rel K α m σ H' :=by
 refine⟨R.nd, R.len, fun k ao ds h1 h2 => ?_, R.vlen, fun i r h => ?_, R.npl, R.ebl, x⟩
 .exact(R.own k ao ds h1 h2).mono p fun a ha => e a (List.mem_flatMap.mpr ⟨ao, List.mem_of_getElem? h1, ha⟩)
 .obtain⟨v, ev, rv⟩ :=R.var i r h;refine⟨v, ev, ?_⟩
  cases r with
  |imm d => exact Den.mono p rv
  |obj k => exact rv
  | «at» k p => exact rv
  |new ds => exact rv
  |newT t => exact rv
theorem pers_upd{a:Addr}{o:HO}(h:H a=none \/ ∃u, H a=some u /\ Mu u=true):Pers H (upd H a o) where
 tups :=fun b xs e => by
  rw[upd_ne];exact e;rintro rfl;rcases h with h|⟨ys, h, z⟩<;>(rw[e]at h;cases h)
  cases z
 frzs :=fun b o u e => by
  rw[upd_ne];exact e;rintro rfl;rcases h with h|⟨ys, h, z⟩<;>(rw[e]at h;cases h)
  cases z
theorem pers_lst{a:Addr}{o:HO}(h:H a=some (.lst xs)):Pers H (upd H a o) :=pers_upd (.inr ⟨_, h, rfl⟩)
theorem frm_upd{a:Addr}{o:HO}(h:H a=none):Frm α H (upd H a o) :=fun b ob e _ => by
 rw[upd_ne (ne_of_none e h)];exact e
theorem Rel.lay{K:Kx}{m:MSt}{a:Addr}{o:HO}(R:Rel K α m σ H)(h:H a=none):Rel K α m σ (upd H a o) :=
 R.at (pers_upd (.inl h)) (fun b hb => upd_ne fun e => R.out h (e ▸ hb)) (frm_upd h)
def wImm(w:WE):WE :=fun m K => w m fun r m' => match r with| .imm d => K (.imm d) m' | .new ds => K (.imm (.list ds)) m'|_ => False
theorem me_imm(ha:ME X a wa):ME X a (wImm wa) :=(pe_fz ha).wk fun σ H Q ⟨α, m, Kc, Rl, hw, fin⟩ => by
 refine⟨α, m, _, Rl, hw, fun r m1 v H1 k n1 Rl1 rr F1 => ?_⟩
 cases r with
 |imm d => exact .inl (fin _ m1 v H1 k n1 Rl1 rr F1)
 |obj _ => exact k.elim
 | «at» _ _ => exact k.elim
 |newT _ => exact k.elim
 | new ds =>
  obtain⟨p, xs, ev, n, q, g⟩ :=rr;refine .inr ⟨p, xs, q, fun o => ?_⟩;have pe:Pers H1 (upd H1 p (.frz o (.lst xs))) :=pers_lst q;have fr:Frm α H (upd H1 p (.frz o (.lst xs))) :=fun b ob e nb => by
   rw[upd_ne (ne_of_none e n)];exact F1 b ob e nb
  have old:Ext X.kx.eb.np α H α (upd H1 p (.frz o (.lst xs))) :=⟨rfl, fr, fun _ h => .inl h, fun b hb => by
   have hbp:b ≠ p :=fun e => Rl.out n (e ▸ hb);rw[upd_ne hbp];obtain⟨o', e', _⟩ :=Rl1.mem hb;exact⟨o', e'⟩⟩
  refine fin _ m1 v _ k n1 (Rl1.at' pe (fun b hb => upd_ne fun e => Rl.out n (e ▸ hb)) (Rl.ebx.trans old)) (show Den X.kx _ (.list ds) v from ?_) fun b ob e nb => ?_
  .simp only[Den];exact⟨p, xs, ev, .inl ⟨o, upd_same⟩, g.mono pe⟩
  .rw[upd_ne (ne_of_none e n)];exact F1 b ob e nb
def wNil:WA :=fun m K => K [] m
def wCons(w:WE)(ws:WA):WA :=fun m K => w m fun r m1 => ws m1 fun rs m2 => K (r::rs) m2
theorem RelRs.base{K:Kx}{m:MSt}(Rl:Rel K α m σ H)(F:Frm α H0 H):∀{rs:List R}{vs:List V}, RelRs K α H H' rs vs -> RelRs K α H0 H' rs vs
 |_, _, .nil => .nil
 |_, _, .cons h t => .cons (h.base Rl F) (t.base Rl F)
variable {ws:WA}
theorem ma_nil:MA X [] wNil :=(pa_nil (X :=X)).wk fun σ H Q ⟨α, m, Kc, Rl, hw, fin⟩ => fin _ m _ H hw rfl Rl .nil (Frm.refl _ _)
theorem ma_cons(ha:ME X a wa)(hr:MA X es ws)(hs:starEach (a::es) X.env=(false, eval a X.env)::starEach es X.env :=by first|exact star_cons rfl|rfl):MA X (a::es) (wCons wa ws) :=(pa_cons ha hr hs).wk fun σ H Q ⟨α, m, Kc, Rl, hw, fin⟩ =>
 ⟨α, m, _, Rl, hw, fun r m1 v H1 k n1 Rl1 rr F1 => ⟨α, m1, _, Rl1, k, fun rs m2 vs H2 k2 n2 Rl2 rr2 F2 => fin _ m2 _ H2 k2 (n2.trans n1) Rl2 (.cons (rr.keep Rl Rl1 F2) (rr2.base Rl1 F1)) (F1.trans F2)⟩⟩
def immAll:List R -> Option (List PyData)
 |[] => some []
 | .imm d::rs => (immAll rs).map (d :: ·)
 |_::_ => none
theorem RelRs.imm{K:Kx}:∀{rs:List R}{vs:List V}{ds:List PyData}, RelRs K α H0 H rs vs -> immAll rs=some ds -> DenAll K H ds vs
 |_, _, _, .nil, e => by cases e;exact DenAll.nil
 |_, _, ds, .cons (r :=.imm d) (rs :=rs) h t, e => by
  simp only[immAll]at e
  cases q:immAll rs with
  |none => rw[q]at e;cases e
  |some ds' => rw[q]at e;cases e;exact DenAll.cons h (t.imm q)
 |_, _, _, .cons (r :=.obj _) h t, e => by cases e
 |_, _, _, .cons (r :=.new _) h t, e => by cases e
 |_, _, _, .cons (r :=.at _ _) h t, e => by cases e
 |_, _, _, .cons (r :=.newT _) h t, e => by cases e
def onAll(P:List PyData -> Prop):Option (List PyData) -> Prop
 |some ds => ds.length ≤ sizeLine /\ P ds
 |none => False
def wTup(ws:WA):WE :=fun m K => ws m fun rs m' => onAll (fun ds => K (.imm (.tuple ds)) m') (immAll rs)
def wLst(ws:WA):WE :=fun m K => ws m fun rs m' => onAll (fun ds => K (.new ds) m') (immAll rs)
theorem me_tup{x1}(h:MA X es ws):ME X (.Tuple es x1 pos) (wTup ws) :=(pe_tup h).wk fun σ H Q ⟨α, m, Kc, Rl, hw, fin⟩ => by
 refine⟨α, m, _, Rl, hw, fun rs m1 vs H1 k n1 Rl1 rr F1 => ?_⟩
 cases e:immAll rs with
 |none => rw[e]at k;exact k.elim
 |some ds =>
  rw[e]at k;obtain⟨hz, k⟩ :=k;have g :=rr.imm e;refine⟨by rw[<- g.length];exact hz, fun p hp => fin _ m1 _ _ k n1 (Rl1.lay hp) (show Den X.kx _ (.tuple ds) (.ref p)from ?_) (F1.trans (frm_upd hp))⟩;simp only[Den];exact⟨p, vs, rfl, SqT.of upd_same, g.mono (pers_upd (.inl hp))⟩
theorem me_lst(h:MA X es ws):ME X (.List es pos) (wLst ws) :=(pe_lst h).wk fun σ H Q ⟨α, m, Kc, Rl, hw, fin⟩ => by
 refine⟨α, m, _, Rl, hw, fun rs m1 vs H1 k n1 Rl1 rr F1 => ?_⟩
 cases e:immAll rs with
 |none => rw[e]at k;exact k.elim
 |some ds =>
  rw[e]at k;obtain⟨hz, k⟩ :=k;have g :=rr.imm e;refine⟨by rw[<- g.length];exact hz, fun p hp => fin _ m1 _ _ k n1 (Rl1.lay hp) ((RelR.base Rl1 F1 (show RelR X.kx α H1 _ (.new ds) (.ref p)from⟨p, vs, rfl, hp, upd_same, g.mono (pers_upd (.inl hp))⟩))) (F1.trans (frm_upd hp))⟩
abbrev WC :=List R -> MSt -> (R -> Prop) -> Prop
def cM(K:Kx)(o:WC):List V -> Hp -> VK -> Prop :=fun xs H Q => ∃α m σ H0 rs Kc, Rel K α m σ H /\ RelRs K α H0 H rs xs /\ o rs m Kc /\ ∀r v H', Kc r -> Rel K α m σ H' -> RelR K α H H' r v -> Frm α H H' -> Q v H'
def wCB(o:WC)(ws:WA):WE :=fun m K => ws m fun rs m1 => o rs m1 fun r => K r m1
theorem cb_rd{o:WC}(h:tM X.kx (wCB o ws) σ H Q):tCB (cM X.kx o) (tMA X.kx ws) σ H Q :=by
 obtain⟨α, m, Kc, Rl, hw, fin⟩ :=h;exact⟨α, m, _, Rl, hw, fun rs m1 vs H1 k n1 Rl1 rr F1 => ⟨α, m1, σ, H, rs, _, Rl1, rr, k, fun r v H' k Rl' rr' F => fin r m1 v H' k n1 Rl' (rr'.base Rl1 F1) (F1.trans F)⟩⟩
theorem me_callB{id:String}{o:WC}(hc:CallR X (.builtin id) (cM X.kx o))(hg:Gl X x)(hm:X.mg x=none)(hv:bootBuiltins x=some (.builtin id))(ha:MA X (a::es) ws)(hn:x ≠ "__name__" :=by decide)(hdb:(x==("__debug__" : Str))=false :=by decide)
  (he:starEach (a::es) X.env=(false, eval a X.env)::starEach es X.env :=by first|exact star_cons rfl|rfl) (hpl:(backTo pos (starEach es X.env)).any (·.1)=false :=by rfl):ME X (.Call (.Name x p) (a::es) [] pos) (wCB o ws) :=(pe_callB hc hg hm hv ha hn hdb he hpl).wk fun _ _ _ h => cb_rd h
theorem me_callTy{T:String}{o:WC}(hc:CallR X (.type T) (cM X.kx o))(hg:Gl X x)(hm:X.mg x=none)(hv:bootBuiltins x=some (.type T))(ha:MA X (a::es) ws)(hn:x ≠ "__name__" :=by decide)(hdb:(x==("__debug__" : Str))=false :=by decide)
  (he:starEach (a::es) X.env=(false, eval a X.env)::starEach es X.env :=by first|exact star_cons rfl|rfl) (hpl:(backTo pos (starEach es X.env)).any (·.1)=false :=by rfl):ME X (.Call (.Name x p) (a::es) [] pos) (wCB o ws) :=(pe_callTy hc hg hm hv ha hn hdb he hpl).wk fun _ _ _ h => cb_rd h
end
inductive Ag where
 |imm (d:PyData)|own (ds:List PyData)|tr (t:PyData)
abbrev SpM :=List Ag -> (R -> List (List PyData) -> Prop) -> Prop
inductive RelAs(K:Kd)(H:Hp):List Ag -> List V -> Al -> Prop where
 |nil:RelAs K H [] [] []
 |imm {d:PyData}{v:V}{as:List Ag}{vs:List V}{β:Al}:Den K H d v -> RelAs K H as vs β -> RelAs K H (.imm d::as) (v::vs) β
 |own {ds:List PyData}{a:Addr}{as:List Ag}{vs:List V}{β:Al}:OwnAt K H (.L a) ds -> RelAs K H as vs β -> RelAs K H (.own ds::as) (.ref a::vs) (.L a::β)
 |tr {t:PyData}{a:Addr}{τ:List (List Nat × Addr)}{as:List Ag}{vs:List V}{β:Al}:OwnAt K H (.T τ) [t] -> τ.lookup []=some a -> RelAs K H as vs β -> RelAs K H (.tr t::as) (.ref a::vs) (.T τ::β)
theorem RelAs.length:∀{as:List Ag}{vs:List V}{β:Al}, RelAs K H as vs β -> as.length=vs.length
 |_, _, _, .nil => rfl
 |_, _, _, .imm _ t => by simp[t.length]
 |_, _, _, .own _ t => by simp[t.length]
 |_, _, _, .tr _ _ t => by simp[t.length]
structure OutsAt(K:Kd)(H:Hp)(β:Al)(outs:List (List PyData)):Prop where
 len:outs.length=β.length
 at_:∀(j:Nat) (ao:Ao) (ds:List PyData), β[j]?=some ao -> outs[j]?=some ds -> OwnAt K H ao ds
def spOf(K:Kd)(n:Nat)(sp:SpM):Sp :=fun vs H Q _ => ∃as β Kc, as.length=n /\ (ads β).Nodup /\ RelAs K H as vs β /\ sp as Kc /\ ∀r outs v H', Kc r outs -> OutsAt K H' β outs -> RelR K β H H' r v -> Frm β H H' -> Q v H'
theorem spOf.len{E:XK}(h:spOf K n sp vs H Q E):vs.length=n :=by
 obtain⟨as, β, Kc, hl, _, r, _⟩ :=h;rw[<- r.length];exact hl
def toAgs(m:MSt):List R -> Option (List Ag × List Nat)
 |[] => some ([], [])
 | .imm d::rs => match toAgs m rs with|some (as, ks) => some (.imm d::as, ks)|none => none
 | .obj k::rs => match m.os[k]?, toAgs m rs with|some ds, some (as, ks) => some (.own ds::as, k::ks)|_, _ => none
 | .at k []::rs => match m.os[k]?, toAgs m rs with|some [t], some (as, ks) => some (.tr t::as, k::ks)|_, _ => none
 |_::_ => none
def setAll:List (List PyData) -> List Nat -> List (List PyData) -> List (List PyData)
 |os, k::ks, o::outs => setAll (os.set k o) ks outs
 |os, _, _ => os
def mapR(ks:List Nat):R -> R
 | .imm d => .imm d
 | .new ds => .new ds
 | .obj j => .obj (ks.getD j 0)
 | .at j p => .at (ks.getD j 0) p
 | .newT t => .newT t
def wCall(sp:SpM)(ws:WA):WE :=fun m K => ws m fun rs m1 => match toAgs m1 rs with
 |some (as, ks) => ks.Nodup /\ sp as fun r outs => K (mapR ks r) {m1 with os :=setAll m1.os ks outs}
 |none => False
theorem setAll_len:∀(ks:List Nat) (os outs:List (List PyData)), (setAll os ks outs).length=os.length
 |[], _, _ => by simp[setAll]
 |_::_, _, [] => by simp[setAll]
 |k::ks, os, o::outs => by simp[setAll, setAll_len ks]
theorem setAll_out:∀(ks:List Nat) (os outs:List (List PyData)) (k:Nat), k ∉ ks -> (setAll os ks outs)[k]?=os[k]?
 |[], _, _, _, _ => by simp[setAll]
 |_::_, _, [], _, _ => by simp[setAll]
 |k'::ks, os, o::outs, k, h => by
  rw[List.mem_cons]at h;rw[not_or]at h;show(setAll (os.set k' o) ks outs)[k]?=_;rw[setAll_out ks _ _ k h.2, List.getElem?_set_ne (Ne.symm h.1)]
theorem setAll_in:∀(ks:List Nat) (os outs:List (List PyData)) (j k:Nat) (ds:List PyData), ks.Nodup -> ks[j]?=some k -> outs[j]?=some ds -> k<os.length -> (setAll os ks outs)[k]?=some ds
 |[], _, _, _, _, _, _, h, _, _ => by simp at h
 |_::_, _, [], _, _, _, _, _, h, _ => by simp at h
 |k'::ks, os, o::outs, 0, k, ds, nd, h1, h2, hk => by
  simp at h1 h2;subst h1;subst h2;show(setAll (os.set k' o) ks outs)[k']?=_;rw[setAll_out ks _ _ k' (List.nodup_cons.mp nd).1, List.getElem?_set_self hk]
 |k'::ks, os, o::outs, j+1, k, ds, nd, h1, h2, hk => by
  exact setAll_in ks (os.set k' o) outs j k ds (List.nodup_cons.mp nd).2 (by simpa using h1) (by simpa using h2) (by simpa using hk)
theorem ads_iff(α:Al):(ads α).Nodup ↔ (∀ao ∈ α, ao.ads.Nodup) /\ α.Pairwise fun x y => ∀a ∈ x.ads, ∀b ∈ y.ads, a ≠ b :=List.pairwise_flatMap
theorem ads_disj(nd:(ads α).Nodup){x y:Ao}(hi:α[i]?=some x)(hj:α[j]?=some y)(h:i ≠ j)(hx:a ∈ x.ads)(hy:a ∈ y.ads):False :=by
 have pw :=((ads_iff α).mp nd).2;obtain⟨p1, q1⟩ :=List.getElem?_eq_some_iff.mp hi;obtain⟨p2, q2⟩ :=List.getElem?_eq_some_iff.mp hj;subst q1 q2;rcases Nat.lt_or_gt_of_ne h with l|l
 .exact List.pairwise_iff_getElem.mp pw i j p1 p2 l a hx a hy rfl
 .exact List.pairwise_iff_getElem.mp pw j i p2 p1 l a hy a hx rfl
theorem ads_in{x:Ao}(hi:α[i]?=some x)(h:a ∈ x.ads):a ∈ ads α :=List.mem_flatMap.mpr ⟨x, List.mem_of_getElem? hi, h⟩
theorem ads_at(h:a ∈ ads α):∃(i:Nat) (x:Ao), α[i]?=some x /\ a ∈ x.ads :=by
 obtain⟨ao, h1, h2⟩ :=List.mem_flatMap.mp h;obtain⟨k, hk, e⟩ :=List.mem_iff_getElem.mp h1;exact⟨k, ao, by rw[List.getElem?_eq_getElem hk, e], h2⟩
section
variable {K:Kx}{α:Al}{m:MSt}{σ:St}{H H0 H':Hp}
theorem toAgs_rel(Rl:Rel K α m σ H):∀{rs:List R}{vs:List V}{as:List Ag}{ks:List Nat}, RelRs K α H0 H rs vs -> toAgs m rs=some (as, ks) -> ∃β, RelAs K H as vs β /\ Paired (fun(k:Nat) (ao:Ao) => α[k]?=some ao) ks β
 |_, _, _, _, .nil, e => by cases e;exact⟨[], .nil, .nil⟩
 | _, _, as, ks, .cons (r :=.imm d) (rs :=rs) h t, e => by
  simp only[toAgs]at e
  cases q:toAgs m rs with
  |none => rw[q]at e;cases e
  |some p =>
   obtain⟨as', ks'⟩ :=p;rw[q]at e;cases e;obtain⟨β, h1, h2⟩ :=toAgs_rel Rl t q;exact⟨β, .imm h h1, h2⟩
 | _, _, as, ks, .cons (r :=.obj k) (rs :=rs) h t, e => by
  simp only[toAgs]at e
  cases q1:m.os[k]? with
  |none => rw[q1]at e;cases e
  | some ds =>
   cases q:toAgs m rs with
   |none => rw[q1, q]at e;cases e
   |some p =>
    obtain⟨as', ks'⟩ :=p;rw[q1, q]at e;cases e;obtain⟨β, h1, h2⟩ :=toAgs_rel Rl t q;obtain⟨a, ea, rfl⟩ :=h;exact⟨.L a::β, .own (Rl.own k _ ds ea q1) h1, .cons ea h2⟩
 |_, _, as, ks, .cons (r :=.at k []) (rs :=rs) h t, e => by
  simp only[toAgs]at e
  split at e
  .rename_i t' as' ks' q1 q;cases e;obtain⟨β, h1, h2⟩ :=toAgs_rel Rl t q;obtain⟨τ, a, ea, el, rfl⟩ :=h;exact⟨.T τ::β, .tr (Rl.own k _ _ ea q1) el h1, .cons ea h2⟩
  .cases e
 |_, _, _, _, .cons (r :=.at _ (_::_)) h t, e => by cases e
 |_, _, _, _, .cons (r :=.new _) h t, e => by cases e
 |_, _, _, _, .cons (r :=.newT _) h t, e => by cases e
theorem paired_nodup(nd:(ads α).Nodup)(h:ks.Nodup)(p:Paired (fun(k:Nat) (ao:Ao) => α[k]?=some ao) ks β):(ads β).Nodup :=by
 have one :=((ads_iff α).mp nd).1
 induction p with
 |nil => exact List.nodup_nil
 | @cons k ao ks β e t ih =>
  have ih' :=ih (List.nodup_cons.mp h).2;rw[ads_iff]at ih'⊢;refine⟨fun x hx => ?_, List.pairwise_cons.mpr ⟨fun y hy a ha b hb z => ?_, ih'.2⟩⟩
  .rcases List.mem_cons.mp hx with rfl|hx
   .exact one _ (List.mem_of_getElem? e)
   .exact ih'.1 x hx
  .subst z;obtain⟨j, hj, ej⟩ :=List.mem_iff_getElem.mp hy;obtain⟨k', e1, e2⟩ :=Paired.get2 t (i :=j) (b :=y) (by rw[List.getElem?_eq_getElem hj, ej]);have ek:k=k' :=Classical.byContradiction fun ne => ads_disj nd e e2 ne ha hb;exact(List.nodup_cons.mp h).1 (ek ▸ List.mem_of_getElem? e1)
theorem call_rel(Rl:Rel K α m σ H){outs:List (List PyData)}(nd:ks.Nodup)(p:Paired (fun(k:Nat) (ao:Ao) => α[k]?=some ao) ks β)(O:OutsAt K H' β outs)(F:Frm β H H') :
  Rel K α {m with os :=setAll m.os ks outs} σ H' /\ Frm α H H' :=by
 have sub:∀a ∈ ads β, ∃k ao, k ∈ ks /\ α[k]?=some ao /\ a ∈ ao.ads :=fun a ha => by
  obtain⟨j, ao, ej, hm⟩ :=ads_at ha;obtain⟨k', e1, e2⟩ :=Paired.get2 p ej;exact⟨k', ao, List.mem_of_getElem? e1, e2, hm⟩
 have Fα:Frm α H H' :=fun b o e n => F b o e fun z => by
  obtain⟨k, ao, _, e2, hm⟩ :=sub b z;exact n (ads_in e2 hm)
 have pe :=Rl.pers Fα;have own':∀(k:Nat) (ao:Ao) (ds:List PyData), α[k]?=some ao -> (setAll m.os ks outs)[k]?=some ds -> OwnAt K H' ao ds :=fun k ao ds e1 e2' => by
  have hk:k<m.os.length :=by rw[<- Rl.len];exact(List.getElem?_eq_some_iff.mp e1).1
  by_cases hm:k ∈ ks
  .obtain⟨j, hj, ej⟩ :=List.mem_iff_getElem.mp hm;have z1:ks[j]?=some k :=by rw[List.getElem?_eq_getElem hj, ej]
   obtain⟨a', z2, z3⟩ :=Paired.get' p z1;rw[e1]at z3;cases z3;have hj2:j<outs.length :=by rw[O.len];exact(List.getElem?_eq_some_iff.mp z2).1
   have z4:outs[j]?=some outs[j] :=List.getElem?_eq_getElem hj2;rw[setAll_in ks m.os outs j k _ nd z1 z4 hk]at e2';cases e2';exact O.at_ j _ _ z2 z4
  .rw[setAll_out ks _ _ k hm]at e2';have q :=Rl.own k ao ds e1 e2';refine q.mono pe fun a ha => ?_;obtain⟨o, eo, _⟩ :=q.mem ha;rw[eo];refine F a o eo fun z => ?_;obtain⟨k2, ao2, hk2, e3, hm2⟩ :=sub a z;exact ads_disj Rl.nd e1 e3 (fun z => hm (z ▸ hk2)) ha hm2
 refine⟨⟨Rl.nd, by show α.length=(setAll m.os ks outs).length;rw[setAll_len];exact Rl.len, own', Rl.vlen, fun i r h => ?_, Rl.npl, Rl.ebl, Rl.ebx.trans ⟨rfl, Fα, fun _ h => .inl h, fun a ha => ?_⟩⟩, Fα⟩
 .obtain⟨v, ev, rv⟩ :=Rl.var i r h;refine⟨v, ev, ?_⟩
  cases r with
  |imm d => exact Den.mono pe rv
  |obj k => exact rv
  | «at» k p => exact rv
  |new ds => exact rv
  |newT t => exact rv
 .obtain⟨k, ao, e1, hm⟩ :=ads_at ha;have hk:k<(setAll m.os ks outs).length :=by rw[setAll_len, <- Rl.len];exact(List.getElem?_eq_some_iff.mp e1).1
  obtain⟨o, q, _⟩ :=(own' k ao _ e1 (List.getElem?_eq_getElem hk)).mem hm;exact⟨o, q⟩
theorem call_res{K:Kd}(p:Paired (fun(k:Nat) (ao:Ao) => α[k]?=some ao) ks β)(h:RelR K β H H' r v):RelR K α H H' (mapR ks r) v :=by
 have get:∀{j:Nat}{ao:Ao}, β[j]?=some ao -> α[ks.getD j 0]?=some ao :=fun {j ao} ea => by
  obtain⟨k, z1, z2⟩ :=Paired.get2 p ea;rw[List.getD_eq_getElem?_getD, z1];exact z2
 cases r with
 |imm d => exact h
 |new ds => exact h
 |newT t => exact h
 |obj j =>
  obtain⟨a, ea, e⟩ :=h;exact⟨a, get ea, e⟩
 | «at» j q =>
  obtain⟨τ, a, ea, el, e⟩ :=h;exact⟨τ, a, get ea, el, e⟩
end
section
variable {X:Cx}{a:Expr}{es:List Expr}{ws:WA}{pos p:Pos}{k n:Nat}{f:Addr}{fd:FuncData}{ps:List Str}{sp:SpM}{x:Str}{CX:CXT}
theorem call_rd{E:XK}(h:tM X.kx (wCall sp ws) σ H Q)(hn:∀as Kc, sp as Kc -> as.length=n):tCall (spOf X.kd n sp) [] E (tMA X.kx ws) σ H Q :=by
 obtain⟨α, m, Kc, Rl, hw, fin⟩ :=h;refine⟨α, m, _, Rl, hw, fun rs m1 vs H1 kk n1 Rl1 rr F1 => ?_⟩
 cases e:toAgs m1 rs with
 |none => rw[e]at kk;exact kk.elim
 |some q =>
  obtain⟨as, ks⟩ :=q;rw[e]at kk;obtain⟨nd, hsp⟩ :=kk;obtain⟨β, ra, pa⟩ :=toAgs_rel Rl1 rr e;refine⟨as, β, _, hn _ _ hsp, paired_nodup Rl1.nd nd pa, by rw[List.append_nil];exact ra, hsp, fun r outs v H' kk2 O rr2 F => ?_⟩;obtain⟨Rl2, F2⟩ :=call_rel Rl1 nd pa O F;exact fin _ _ v H' kk2 n1 Rl2 ((call_res pa rr2).base Rl1 F1) (F1.trans F2)
theorem me_call{E:XK}(F:FnOk X.prog X.w X.K X.mg X.base CX k f fd ps (spOf X.kd n sp))(hr:Room k X.A)(hg:Gl X x)(hm:X.mg x=some (.ref f))(hk:PySem.W.keepIn X.K (.ref f)=true)(hb:Binds X.K fd ps [])(hx:Passes CX X E)(hn:∀as Kc, sp as Kc -> as.length=n)
  (ha:MA X (a::es) ws) (hdb:(x==("__debug__" : Str))=false :=by decide) (he:starEach (a::es) X.env=(false, eval a X.env)::starEach es X.env :=by first|exact star_cons rfl|rfl) (hpl:(backTo pos (starEach es X.env)).any (·.1)=false :=by rfl) :
  ME X (.Call (.Name x p) (a::es) [] pos) (wCall sp ws) :=(pe_call (E :=E) F hr hg hm hk hb .nil hx ha hdb he hpl).wk fun _ _ _ h => call_rd h hn
end
structure MEnds where
 nx:MSt -> Prop
 rt:R -> MSt -> Prop
 bk:MSt -> Prop :=fun _ => False
 ct:MSt -> Prop :=fun _ => False
abbrev WS :=MEnds -> MSt -> Prop
theorem RelR.ext{np:Nat}{α2:Al}(x:Ext np α H α1 H1)(h:RelR K α2 H1 H2 r v):RelR K α2 H H2 r v :=by
 cases r with
 |imm d => exact h
 |obj k => exact h
 | «at» k p => exact h
 |new ds =>
  obtain⟨a, xs, e, n, q, g⟩ :=h;exact⟨a, xs, e, x.nil n, q, g⟩
 |newT t =>
  obtain⟨τ, a, e, e1, nd, n, g⟩ :=h;exact⟨τ, a, e, e1, nd, fun b hb => x.nil (n b hb), g⟩
structure EndsOk(K:Kx)(np:Nat)(α:Al)(H:Hp)(De:MEnds)(D:Ends):Prop where
 nx:∀α' m' σ' H', De.nx m' -> m'.np=np -> Rel K α' m' σ' H' -> Ext np α H α' H' -> D.nx σ' H'
 rt:∀r α' m' σ' v H', De.rt r m' -> m'.np=np -> Rel K α' m' σ' H' -> RelR K α' H H' r v -> Ext np α H α' H' -> D.rt v H'
 bk:∀α' m' σ' H', De.bk m' -> m'.np=np -> Rel K α' m' σ' H' -> Ext np α H α' H' -> D.bk σ' H'
 ct:∀α' m' σ' H', De.ct m' -> m'.np=np -> Rel K α' m' σ' H' -> Ext np α H α' H' -> D.ct σ' H'
theorem EndsOk.ext{K:Kx}{np:Nat}{D:Ends}(h:EndsOk K np α H De D)(x:Ext np α H α1 H1):EndsOk K np α1 H1 De D where
 nx :=fun α' m' σ' H' k n R y => h.nx α' m' σ' H' k n R (x.trans y)
 rt :=fun r α' m' σ' v H' k n R rr y => h.rt r α' m' σ' v H' k n R (rr.ext x) (x.trans y)
 bk :=fun α' m' σ' H' k n R y => h.bk α' m' σ' H' k n R (x.trans y)
 ct :=fun α' m' σ' H' k n R y => h.ct α' m' σ' H' k n R (x.trans y)
def tMS(K:Kx)(w:WS):TS :=fun D σ H => ∃α m De, Rel K α m σ H /\ w De m /\ EndsOk K m.np α H De D
abbrev MS(X:Cx)(st:Stmt)(w:WS):Prop :=PS X st (tMS X.kx w)
abbrev MSs(X:Cx)(st:List Stmt)(w:WS):Prop :=PSs X st (tMS X.kx w)
section
variable {X:Cx}{a b c e:Expr}{es:List Expr}{wa wb wc we:WE}{pos:Pos}{st:Stmt}{rest:List Stmt}{w u:WS}
def wNext:WS :=fun D m => D.nx m
def wSeq(w u:WS):WS :=fun D m => w {D with nx :=fun m' => u D m' } m
theorem mss_nil:MSs X [] wNext :=(pss_nil (X :=X)).wk fun D σ H ⟨α, m, De, Rl, hw, k⟩ => k.nx α m σ H hw rfl Rl (.of Rl (Frm.refl _ _))
theorem mss_cons(h1:MS X st w)(h2:MSs X rest u):MSs X (st::rest) (wSeq w u) :=(pss_cons h1 h2).wk fun D σ H ⟨α, m, De, Rl, hw, k⟩ =>
 ⟨α, m, _, Rl, hw, ⟨fun α' m' σ' H' q n R y => ⟨α', m', De, R, q, by rw[n];exact k.ext y⟩, k.rt, k.bk, k.ct⟩⟩
theorem mss_one(h1:MS X st w):MSs X [st] w :=(pss_one h1).wk fun D σ H h => h
end
section
variable {X:Cx}{a b c e:Expr}{es:List Expr}{wa wb wc we:WE}{ws:WA}{wt:WT}{pos:Pos}{st:Stmt}{rest body body2:List Stmt}{w u:WS}
def wRet(we:WE):WS :=fun D m => we m fun r m' => D.rt r m'
theorem ms_ret(he:ME X e we):MS X (.Return (some e) pos) (wRet we) :=(ps_ret he).wk fun D σ H ⟨α, m, De, Rl, hw, k⟩ =>
 ⟨α, m, _, Rl, hw, fun r m' v H' q n Rl' rr F => k.rt r α m' σ v H' q n Rl' rr (.of Rl' F)⟩
def wDrop(we:WE):WS :=fun D m => we m fun _ m' => D.nx m'
theorem ms_expr(he:ME X e we)(hs:swapsWith e none pos.line X.env=pure false :=by rfl):MS X (.Expr e pos) (wDrop we) :=(ps_expr he hs).wk fun D σ H ⟨α, m, De, Rl, hw, k⟩ =>
 ⟨α, m, _, Rl, hw, fun r m' v H' q n Rl' rr F => k.nx α m' σ H' q n Rl' (.of Rl' F)⟩
def wIfS(t:WT)(w u:WS):WS :=fun D m => t m fun c m' => if c=true then w D m' else u D m'
theorem ms_if(ht:MT X t wt)(h1:MSs X body w)(h2:MSs X body2 u):MS X (.If t body body2 pos) (wIfS wt w u) :=(ps_if ht h1 h2).wk fun D σ H ⟨α, m, De, Rl, hw, k⟩ => by
 refine⟨α, m, _, Rl, hw, fun bb m' H' q n Rl' F => ?_⟩;have k':EndsOk X.kx m'.np α H' De D :=by rw[n];exact k.ext (.of Rl' F)
 cases bb with
 |true => rw[if_pos rfl]at q;exact iteT ⟨α, m', De, Rl', q, k'⟩
 |false => rw[if_neg Bool.false_ne_true]at q;exact iteF ⟨α, m', De, Rl', q, k'⟩
def MSt.setV(m:MSt)(i:Nat)(r:R):MSt :={m with vs :=m.vs.set i (some r)}
def RenR(ρ:List Nat)(o:Option (Option R)):R -> Prop
 | .imm d => o=some (some (.imm d))
 | .obj k => ∃j, ρ[k]?=some j /\ o=some (some (.obj j))
 | .at k p => ∃j, ρ[k]?=some j /\ o=some (some (.at j p))
 | .new _ => False
 | .newT _ => False
structure Ren(ρ:List Nat)(m m2:MSt):Prop where
 nd:ρ.Nodup
 lt:∀k ∈ ρ, k<m.os.length
 pre:ρ.take m.np=List.range m.np
 npl:m.np ≤ ρ.length
 os:m2.os=ρ.map fun k => m.os.getD k []
 np:m2.np=m.np
 vl:m2.vs.length=m.vs.length
 vs:∀(j:Nat) (r:R), m2.vs[j]?=some (some r) -> RenR ρ m.vs[j]? r
def upR(D:MSt -> Prop)(m:MSt):Prop :=D m \/ ∃ρ m2, Ren ρ m m2 /\ D m2
def bindR(i:Nat)(D:MSt -> Prop)(m:MSt):R -> Prop
 | .imm d => upR D (m.setV i (.imm d))
 | .obj k => upR D (m.setV i (.obj k))
 | .at k p => upR D (m.setV i (.at k p))
 | .new ds => upR D {vs :=m.vs.set i (some (.obj m.os.length)), os :=m.os ++ [ds], np :=m.np} \/
   ∃k, m.vs[i]?=some (some (.obj k)) /\ m.np ≤ k /\ (∀j:Nat, j ≠ i -> m.vs[j]? ≠ some (some (.obj k))) /\ D {m with os :=m.os.set k ds}
 | .newT t => upR D {vs :=m.vs.set i (some (.at m.os.length [])), os :=m.os ++ [[t]], np :=m.np}
theorem paired_ren{α:Al}{n:Nat}(hl:α.length=n):∀{ρ:List Nat}, (∀k ∈ ρ, k<n) -> Paired (fun(k:Nat) (ao:Ao) => α[k]?=some ao) ρ (ρ.map fun k => α.getD k (.L 0))
 |[], _ => .nil
 | k::ρ, h => .cons (by
   have hk:k<α.length :=by rw[hl];exact h k List.mem_cons_self
   show α[k]?=some (α.getD k (.L 0));rw[List.getD_eq_getElem?_getD, List.getElem?_eq_getElem hk];rfl) (paired_ren hl fun j hj => h j (List.mem_cons_of_mem _ hj))
theorem ren_rel{K:Kx}{m m2:MSt}{ρ:List Nat}(Rl:Rel K α m σ H)(N:Ren ρ m m2):∃α2, Rel K α2 m2 σ H /\ Ext m.np α H α2 H :=by
 have pr :=paired_ren Rl.len N.lt;have get:∀(k:Nat) (ao:Ao), (ρ.map fun k => α.getD k (.L 0))[k]?=some ao -> ∃j:Nat, ρ[k]?=some j /\ α[j]?=some ao :=fun k ao z => by
  obtain⟨j, h1, h2⟩ :=Paired.get2 pr z;exact⟨j, h1, h2⟩
 have fwd:∀(k j:Nat) (ao:Ao), ρ[k]?=some j -> α[j]?=some ao -> (ρ.map fun k => α.getD k (.L 0))[k]?=some ao :=fun k j ao z1 z2 => by
  obtain⟨ao', z3, z4⟩ :=Paired.get' pr z1;rw[z2]at z4;cases z4;exact z3
 have pre':(ρ.map fun k => α.getD k (.L 0)).take m.np=α.take m.np :=by
  apply List.ext_getElem?;intro l;rw[List.getElem?_take, List.getElem?_take]
  by_cases hl:l<m.np
  .rw[if_pos hl, if_pos hl];have:ρ[l]?=some l :=by
    have e :=congrArg (·[l]?) N.pre;simp only[List.getElem?_take, if_pos hl]at e;rw[e, List.getElem?_range hl]
   have hl2:l<α.length :=Nat.lt_of_lt_of_le hl Rl.npl;rw[fwd l l α[l] this (List.getElem?_eq_getElem hl2), List.getElem?_eq_getElem hl2]
  .rw[if_neg hl, if_neg hl]
 have ext:Ext m.np α H (ρ.map fun k => α.getD k (.L 0)) H :=⟨pre', Frm.refl _ _, fun a ha => by
  obtain⟨k, ao, e1, hm⟩ :=ads_at ha;obtain⟨j, _, e2⟩ :=get k ao e1;exact .inl (ads_in e2 hm), fun a ha => by
  obtain⟨o, q, _⟩ :=Rl.mem ha;exact⟨_, q⟩⟩
 refine⟨ρ.map fun k => α.getD k (.L 0), ⟨paired_nodup Rl.nd N.nd pr, ?_, fun k ao ds z1 z2 => ?_, ?_, fun j r z => ?_, ?_, by rw[N.np];exact Rl.ebl, Rl.ebx.trans (ext.less Rl.ebl)⟩, ext⟩
 .rw[N.os, List.length_map, List.length_map]
 .obtain⟨j, q, qa⟩ :=get k ao z1;rw[N.os, List.getElem?_map, q]at z2;have hj:j<m.os.length :=N.lt j (List.mem_of_getElem? q);have z2':m.os.getD j []=ds :=Option.some.inj z2;refine Rl.own j ao ds qa ?_;rw[<- z2', List.getD_eq_getElem?_getD, List.getElem?_eq_getElem hj];rfl
 .rw[N.vl];exact Rl.vlen
 .have h :=N.vs j r z
  cases r with
  |imm d => exact Rl.var j (.imm d) h
  |new _ => exact h.elim
  |newT _ => exact h.elim
  |obj k =>
   obtain⟨j', q, h⟩ :=h;obtain⟨v, ev, a, ea, e⟩ :=Rl.var j (.obj j') h;exact⟨v, ev, a, fwd k j' _ q ea, e⟩
  | «at» k p =>
   obtain⟨j', q, h⟩ :=h;obtain⟨v, ev, τ, a, ea, el, e⟩ :=Rl.var j (.at j' p) h;exact⟨v, ev, τ, a, fwd k j' _ q ea, el, e⟩
 .rw[N.np, List.length_map];exact N.npl
def wSet(i:Nat)(we:WE):WS :=fun D m => we m fun r m' => bindR i D.nx m' r
theorem rel_setV{K:Kx}{m:MSt}(Rl:Rel K α m σ H)(h:RelS K α H r v):Rel K α (m.setV i r) (σ.set i (some v)) H :=by
 refine⟨Rl.nd, Rl.len, Rl.own, ?_, fun j r' e => ?_, Rl.npl, Rl.ebl, Rl.ebx⟩
 .show(σ.set i (some v)).length=(m.vs.set i (some r)).length;rw[List.length_set, List.length_set];exact Rl.vlen
 .have e':(m.vs.set i (some r))[j]?=some (some r') :=e
  by_cases hj:i=j
  .subst hj
   by_cases hi:i<m.vs.length
   .rw[List.getElem?_set_self hi]at e';cases e';exact⟨v, List.getElem?_set_self (by rw[Rl.vlen];exact hi), h⟩
   .rw[List.getElem?_eq_none (by rw[List.length_set];omega)]at e';cases e'
  .rw[List.getElem?_set_ne hj]at e'⊢;exact Rl.var j r' e'
theorem rel_more{K:Kx}{m:MSt}(Rl:Rel K α m σ H)(R0:∃m0 σ0, Rel K α m0 σ0 H0)(F:Frm α H0 H)(nd:ao.ads.Nodup)(hn:∀b ∈ ao.ads, H0 b=none)(g:OwnAt K H ao ds) :
  Rel K (α ++ [ao]) {m with os :=m.os ++ [ds]} σ H /\ ∀np, np ≤ α.length -> Ext np α H0 (α ++ [ao]) H :=by
 obtain⟨m0, σ0, Rl0⟩ :=R0;have pα:∀b ∈ ao.ads, b ∉ ads α :=fun b hb => Rl0.out (hn b hb);have one:ads [ao]=ao.ads :=by simp[ads]
 have ext:∀np, np ≤ α.length -> Ext np α H0 (α ++ [ao]) H :=fun np hnp => ⟨by rw[List.take_append_of_le_length hnp], F, fun a ha => by
  rw[ads_append, one]at ha;rcases List.mem_append.mp ha with z|z
  .exact .inl z
  .exact .inr (hn a z), fun a ha => by
  obtain⟨o, q, _⟩ :=Rl.mem ha;exact⟨_, q⟩⟩
 refine⟨⟨?_, by simp[Rl.len], fun k a es z1 z2 => ?_, Rl.vlen, fun j r' z => ?_, by have :=Rl.npl;show m.np ≤ (α ++ [ao]).length;rw[List.length_append];omega, Rl.ebl, Rl0.ebx.trans (ext _ ?_)⟩, ext⟩
 .rw[ads_append, one];exact List.nodup_append.mpr ⟨Rl.nd, nd, fun x hx y hy e => pα y hy (e ▸ hx)⟩
 .have z2':(m.os ++ [ds])[k]?=some es :=z2
  by_cases hk:k<α.length
  .rw[List.getElem?_append_left hk]at z1;rw[List.getElem?_append_left (by rw[<- Rl.len];exact hk)]at z2';exact Rl.own k a es z1 z2'
  .rw[List.getElem?_append_right (by omega)]at z1;rw[List.getElem?_append_right (by rw[<- Rl.len];omega)]at z2';have hk0:k-α.length=0 :=by
    have :=(List.getElem?_eq_some_iff.mp z1).1;simp at this;omega
   rw[hk0]at z1;rw[<- Rl.len, hk0]at z2';simp at z1 z2';subst z1;subst z2';exact g
 .obtain⟨v, ev, rv⟩ :=Rl.var j r' z;refine⟨v, ev, ?_⟩
  cases r' with
  |imm d => exact rv
  |new _ => exact rv
  |newT _ => exact rv
  |obj k =>
   obtain⟨a, ea, e⟩ :=rv;exact⟨a, by rw[List.getElem?_append_left (List.getElem?_eq_some_iff.mp ea).1];exact ea, e⟩
  | «at» k p =>
   obtain⟨τ, a, ea, e⟩ :=rv;exact⟨τ, a, by rw[List.getElem?_append_left (List.getElem?_eq_some_iff.mp ea).1];exact ea, e⟩
 .exact Nat.le_trans Rl.ebl Rl.npl
theorem bind_rd{K:Kx}{m:MSt}{Q:St -> Hp -> Prop}{np:Nat}(Rl:Rel K α m σ H)(n:m.np=np)(F:Frm α H0 H)(h:RelR K α H0 H r v)(q:bindR i P m r)
  (k:∀α' m' σ' H', P m' -> m'.np=np -> Rel K α' m' σ' H' -> Ext np α H0 α' H' -> Q σ' H') (R0:∃m0 σ0, Rel K α m0 σ0 H0):Q (σ.set i (some v)) H :=by
 have up:∀α' m' σ' H', upR P m' -> m'.np=np -> Rel K α' m' σ' H' -> Ext np α H0 α' H' -> Q σ' H' :=fun α' m' σ' H' q n R x => by
  rcases q with q|⟨ρ, m2, N, q⟩
  .exact k α' m' σ' H' q n R x
  .obtain⟨α2, R2, x2⟩ :=ren_rel R N;rw[n]at x2;exact k α2 m2 σ' H' q (N.np.trans n) R2 (x.trans x2)
 have npα:np ≤ α.length :=by rw[<- n];exact Rl.npl
 cases r with
 |imm d => exact up α _ _ H q n (rel_setV Rl (r :=.imm d) h) (.of (rel_setV (i :=i) Rl (r :=.imm d) h) F)
 |obj j => exact up α _ _ H q n (rel_setV Rl (r :=.obj j) h) (.of (rel_setV (i :=i) Rl (r :=.obj j) h) F)
 | «at» j p => exact up α _ _ H q n (rel_setV Rl (r :=.at j p) h) (.of (rel_setV (i :=i) Rl (r :=.at j p) h) F)
 |newT t =>
  obtain⟨τ, p, rfl, el, nd, hn, g⟩ :=h;obtain⟨base, ext⟩ :=rel_more Rl R0 F (ao :=.T τ) nd hn g;exact up (α ++ [.T τ]) _ _ H q n (rel_setV base (r :=.at m.os.length []) ⟨τ, p, by rw[List.getElem?_append_right (by rw[Rl.len];exact Nat.le_refl _), <- Rl.len];simp, el, rfl⟩) (ext np npα)
 | new ds =>
  obtain⟨p, xs, rfl, hn, hp, g⟩ :=h;have R0' :=R0;obtain⟨m0, σ0, Rl0⟩ :=R0';have pα:p ∉ ads α :=Rl0.out hn;rcases q with q|⟨j, e1, e2, e3, q⟩
  .
   obtain⟨base, ext⟩ :=rel_more Rl R0 F (ao :=.L p) (by simp[Ao.ads]) (fun b hb => by cases List.mem_singleton.mp hb;exact hn) ⟨xs, hp, g⟩;exact up (α ++ [.L p]) _ _ H q n (rel_setV base (r :=.obj m.os.length) ⟨p, by rw[List.getElem?_append_right (by rw[Rl.len];exact Nat.le_refl _), <- Rl.len];simp, rfl⟩) (ext np npα)
  .
   obtain⟨aj, eaj⟩:∃aj, α[j]?=some (.L aj) :=by
    obtain⟨v, _, a, ea, _⟩ :=Rl.var i _ e1;exact⟨a, ea⟩
   have hj:j<α.length :=(List.getElem?_eq_some_iff.mp eaj).1;have hi:i<m.vs.length :=(List.getElem?_eq_some_iff.mp e1).1;have ndS:(ads (α.set j (.L p))).Nodup :=by
    have z :=(ads_iff α).mp Rl.nd;rw[ads_iff];refine⟨fun ao ha => ?_, List.pairwise_iff_getElem.mpr fun i1 i2 h1 h2 hlt a ha b hb e => ?_⟩
    .rcases List.mem_or_eq_of_mem_set ha with y|y
     .exact z.1 ao y
     .subst y;simp[Ao.ads]
    .subst e;rw[List.length_set]at h1 h2;have mem:∀(l:Nat) (hl:l<α.length), a ∈ (α[l]).ads -> a ∈ ads α :=fun l hl h => ads_in (List.getElem?_eq_getElem hl) h
     by_cases c1:j=i1
     .subst c1;rw[List.getElem_set_self]at ha;rw[List.getElem_set_ne (by omega)]at hb
      cases List.mem_singleton.mp ha
      exact pα (mem i2 h2 hb)
     .rw[List.getElem_set_ne c1]at ha
      by_cases c2:j=i2
      .subst c2;rw[List.getElem_set_self]at hb
       cases List.mem_singleton.mp hb
       exact pα (mem i1 h1 ha)
      .rw[List.getElem_set_ne c2]at hb;exact ads_disj Rl.nd (List.getElem?_eq_getElem h1) (List.getElem?_eq_getElem h2) (Nat.ne_of_lt hlt) ha hb
   have ext:Ext np α H0 (α.set j (.L p)) H :=by
    refine⟨?_, F, fun a ha => ?_, fun a ha => ?_⟩
    .apply List.ext_getElem?;intro l;rw[List.getElem?_take, List.getElem?_take]
     by_cases hl:l<np
     .rw[if_pos hl, if_pos hl, List.getElem?_set_ne (by omega)]
     .rw[if_neg hl, if_neg hl]
    .obtain⟨l, ao, el, hm⟩ :=ads_at ha
     by_cases c1:j=l
     .subst c1;rw[List.getElem?_set_self hj]at el;cases el
      cases List.mem_singleton.mp hm
      exact .inr hn
     .rw[List.getElem?_set_ne c1]at el;exact .inl (ads_in el hm)
    .obtain⟨o, q, _⟩ :=Rl.mem ha;exact⟨_, q⟩
   have Rl':Rel K (α.set j (.L p)) {m with os :=m.os.set j ds} (σ.set i (some (.ref p))) H :=by
    refine⟨ndS, by simp[Rl.len], fun k a es z1 z2 => ?_, by rw[List.length_set];exact Rl.vlen, fun l r' z => ?_, by rw[List.length_set];exact Rl.npl, Rl.ebl, Rl0.ebx.trans (ext.less (by have :=Rl.ebl;omega))⟩
    .have z2':(m.os.set j ds)[k]?=some es :=z2
     by_cases c1:j=k
     .subst c1;rw[List.getElem?_set_self hj]at z1;rw[List.getElem?_set_self (by rw[<- Rl.len];exact hj)]at z2'
      cases z1;cases z2'
      exact⟨xs, hp, g⟩
     .rw[List.getElem?_set_ne c1]at z1 z2';exact Rl.own k a es z1 z2'
    .have z':m.vs[l]?=some (some r') :=z
     by_cases hl:i=l
     .subst hl;rw[e1]at z';cases z';exact⟨.ref p, List.getElem?_set_self (by rw[Rl.vlen];exact hi), p, List.getElem?_set_self hj, rfl⟩
     .obtain⟨v, ev, rv⟩ :=Rl.var l r' z';refine⟨v, by rw[List.getElem?_set_ne hl];exact ev, ?_⟩
      cases r' with
      |imm d => exact rv
      |new _ => exact rv
      |newT _ => exact rv
      |obj k =>
       obtain⟨a, ea, e⟩ :=rv;refine⟨a, ?_, e⟩;rw[List.getElem?_set_ne]
       .exact ea
       .rintro rfl;exact e3 l (Ne.symm hl) z'
      | «at» k p' =>
       obtain⟨τ, a, ea, e⟩ :=rv;refine⟨τ, a, ?_, e⟩;rw[List.getElem?_set_ne]
       .exact ea
       .rintro rfl;rw[eaj]at ea;cases ea
   exact k (α.set j (.L p)) _ _ H q n Rl' ext
theorem ms_set(hN:X.N.Nodup)(hi:X.N[i]?=some x)(hx:Loc X.env.scope x)(he:ME X e we)(hs:swapsWith e (some (.Name x pos')) pos.line X.env=pure false :=by rfl)(hf:X.fn x=true \/ X.env.scope.names.lookup x=some .local :=by first|exact .inl rfl|exact .inr rfl|assumption) :
  MS X (.Assign [.Name x pos'] e pos) (wSet i we) :=(ps_set hN hi hx he hs hf).wk fun D σ H ⟨α, m, De, Rl, hw, k⟩ =>
 ⟨α, m, _, Rl, hw, fun r m' v H' q n Rl' rr F => bind_rd (Q :=D.nx) Rl' n F rr q k.nx ⟨m, σ, Rl⟩⟩
abbrev WG :=PyData -> MSt -> (MSt -> Prop) -> Prop
abbrev WGs :=List PyData -> MSt -> (MSt -> Prop) -> Prop
def tMG(K:Kx)(g:WG):TG :=fun v σ H Q => ∃α m d Kc, Rel K α m σ H /\ Den K H d v /\ g d m Kc /\ ∀m' σ', Kc m' -> m'.np=m.np -> Rel K α m' σ' H -> Q σ' H
def tMGs(K:Kx)(g:WGs):TGs :=fun vs σ H Q => ∃α m ds Kc, Rel K α m σ H /\ DenAll K H ds vs /\ g ds m Kc /\ ∀m' σ', Kc m' -> m'.np=m.np -> Rel K α m' σ' H -> Q σ' H
theorem PG.wk{X:Cx}{e:Expr}{t t':TG}(h:PG X e t)(k:∀v σ H Q, t' v σ H Q -> t v σ H Q):PG X e t' :=fun pins s σ H v u Q I r q => h pins s σ H v u Q I r (k _ _ _ _ q)
theorem PGs.wk{X:Cx}{e:List Expr}{t t':TGs}(h:PGs X e t)(k:∀v σ H Q, t' v σ H Q -> t v σ H Q):PGs X e t' :=fun pins s σ H v u Q I r q => h pins s σ H v u Q I r (k _ _ _ _ q)
abbrev MG(X:Cx)(e:Expr)(g:WG):Prop :=PG X e (tMG X.kx g)
abbrev MGs(X:Cx)(es:List Expr)(g:WGs):Prop :=PGs X es (tMGs X.kx g)
def gM(i:Nat):WG :=fun d m K => K (m.setV i (.imm d))
def gMNil:WGs :=fun ds m K => ds=[] /\ K m
def gMCons(g:WG)(gs:WGs):WGs :=fun ds m K => match ds with|d::r => g d m fun m' => gs r m' K|[] => False
def gMTup(n:Nat)(gs:WGs):WG :=fun d m K => match d with| .tuple ds => ds.length=n /\ gs ds m K|_ => False
theorem mg_name(hN:X.N.Nodup)(hi:X.N[i]?=some x)(hx:Loc X.env.scope x)(hf:X.fn x=true \/ X.env.scope.names.lookup x=some .local :=by first|exact .inl rfl|exact .inr rfl|assumption):MG X (.Name x pos) (gM i) :=(pg_name hN hi hx hf).wk fun v σ H Q ⟨α, m, d, Kc, Rl, hd, hw, fin⟩ =>
 fin _ _ hw rfl (rel_setV Rl hd)
theorem mgs_nil:MGs X [] gMNil :=(pgs_nil (X :=X)).wk fun v σ H Q ⟨α, m, d, Kc, Rl, hd, hw, fin⟩ => by
 obtain⟨rfl, hw⟩ :=hw;simp only[DenAll]at hd;exact⟨hd, fin m σ hw rfl Rl⟩
theorem mgs_cons{e:Expr}{es:List Expr}(h1:MG X e g)(h2:MGs X es gs)
  (hs:(assignEach (e::es) X.env).map (·.2)=assign e X.env::(assignEach es X.env).map (·.2) :=by rfl):MGs X (e::es) (gMCons g gs) :=(pgs_cons h1 h2 hs).wk fun v σ H Q ⟨α, m, ds, Kc, Rl, hd, hw, fin⟩ => by
 cases ds with
 |nil => exact hw.elim
 |cons d r =>
  simp only[DenAll]at hd;obtain⟨x, vr, rfl, h3, h4⟩ :=hd;exact⟨x, vr, rfl, α, m, d, _, Rl, h3, hw, fun m' σ' k n Rl' => ⟨α, m', r, _, Rl', h4, k, fun m2 σ2 k2 n2 Rl2 => fin m2 σ2 k2 (n2.trans n) Rl2⟩⟩
theorem mg_tup{es:List Expr}(h:MGs X es gs)(hc:X.calm=true :=by rfl)
  (hn:(assignEach es X.env).length=n :=by rfl) (hst:(assignEach es X.env).findIdx? (·.1)=none :=by rfl):MG X (.Tuple es k pos) (gMTup n gs) :=(pg_tup hc h hn hst).wk fun v σ H Q ⟨α, m, d, Kc, Rl, hd, hw, fin⟩ => by
 cases d with
 |tuple ds =>
  simp only[Den]at hd;obtain⟨a, xs, e, f, g⟩ :=hd;exact⟨a, xs, e, f, g.length.symm.trans hw.1, α, m, ds, Kc, Rl, g, hw.2, fin⟩
 |none => exact hw.elim
 |bool _ => exact hw.elim
 |int _ => exact hw.elim
 |str _ => exact hw.elim
 |list _ => exact hw.elim
 |dict _ => exact hw.elim
def onImm(P:PyData -> Prop):R -> Prop
 | .imm d => P d
 |_ => False
theorem on_imm{K:Kx}{P:PyData -> Prop}(rr:RelR K α Hb H r v)(h:onImm P r):∃d, r = .imm d /\ Den K H d v /\ P d :=by
 cases r with
 |imm d => exact⟨d, rfl, rr, h⟩
 |obj _ => exact h.elim
 |new _ => exact h.elim
 | «at» _ _ => exact h.elim
 |newT _ => exact h.elim
def wAsg(we:WE)(g:WG):WS :=fun D m => we m fun r m' => onImm (fun d => g d m' D.nx) r
theorem ms_asg(he:ME X e we)(hg:MG X tg g)(hs:swapsWithSole [tg] e pos.line X.env=pure false :=by rfl)(hw:swappedStores [tg] e X.env=pure none :=by rfl)
  (h1:(assignEach [tg] X.env).map (·.2)=[assign tg X.env] :=by rfl):MS X (.Assign [tg] e pos) (wAsg we g) :=(ps_asg he hg hs hw h1).wk fun D σ H ⟨α, m, De, Rl, hw, k⟩ => by
 refine⟨α, m, _, Rl, hw, fun r m' v H' q n Rl' rr F => ?_⟩;obtain⟨d, er, hd, q⟩ :=on_imm rr q;exact⟨α, m', d, _, Rl', hd, q, fun m2 σ2 q2 n2 Rl2 => k.nx α m2 σ2 H' q2 (n2.trans n) Rl2 (.of Rl2 F)⟩
def wPar(i j:Nat)(ws:WA):WS :=fun D m => ws m fun rs m' => match rs with|[.imm d1, .imm d2] => D.nx ((m'.setV i (.imm d1)).setV j (.imm d2))|_ => False
theorem ms_par{px py pt:Pos}{kt k2 pt2}(hN:X.N.Nodup)(hi:X.N[i]?=some x)(hj:X.N[j]?=some y)(hij:i ≠ j)
  (hx:X.env.scope.names.lookup x=some .local) (hy:X.env.scope.names.lookup y=some .local) (ha:MA X [a, b] ws)
  (hw:swappedStores [.Tuple [.Name x px, .Name y py] kt pt] (.Tuple [a, b] k2 pt2) X.env=pure (some [x, y])) (hc:X.calm=true :=by rfl)
  (hs:swapsWithSole [.Tuple [.Name x px, .Name y py] kt pt] (.Tuple [a, b] k2 pt2) pos.line X.env=pure false :=by rfl) :
  MS X (.Assign [.Tuple [.Name x px, .Name y py] kt pt] (.Tuple [a, b] k2 pt2) pos) (wPar i j ws) :=(ps_par hc hN hi hj hij hx hy ha hw hs).wk fun D σ H ⟨α, m, De, Rl, hw, k⟩ => by
 refine⟨α, m, _, Rl, hw, fun rs m' vs H' q n Rl' rr F => ?_⟩;obtain⟨d1, d2, er, q⟩:∃d1 d2, rs=[.imm d1, .imm d2] /\ De.nx ((m'.setV i (.imm d1)).setV j (.imm d2)) :=by
  split at q
  .exact⟨_, _, rfl, q⟩
  .exact q.elim
 subst er
 cases rr with
 |cons h1 rr =>
  cases rr with
  |cons h2 rr =>
  cases rr;exact⟨_, _, rfl, k.nx α _ _ H' q n (rel_setV (rel_setV Rl' (r :=.imm d1) h1) (r :=.imm d2) h2) (.of Rl' F)⟩
end
structure Src where
 ds:List PyData
 own:Option Nat
structure Wks(K:Kd)(J:It)(ds:List PyData)(C:Hp -> Prop):Prop where
 stop:∀H, C H -> J.stop ds.length H
 go:∀i H, i<ds.length -> C H -> J.go i H
 yld:∀i H x H', i<ds.length -> C H -> J.yld i H x H' -> (∀b o, H b=some o -> H' b=some o) /\ ∃d, ds[i]?=some d /\ Den K H' d x
def SrcOk(K:Kd)(α:Al)(H:Hp)(s:Src)(J:It):Prop :=
 match s.own with
 |none => ∃C:Hp -> Prop, Wks K J s.ds C /\ C H /\ ∀H1 H2, C H1 -> Pers H1 H2 -> C H2
 |some k => ∃a, α[k]?=some (.L a) /\ Wks K J s.ds fun H => ∃xs, H a=some (.lst xs) /\ DenAll K H s.ds xs
abbrev WI :=MSt -> (Src -> MSt -> Prop) -> Prop
def tMI(K:Kx)(w:WI):TI :=fun σ H Rq => ∃α m Kc, Rel K α m σ H /\ w m Kc /\ ∀s m' J H', Kc s m' -> m'.np=m.np -> Rel K α m' σ H' -> Frm α H H' -> SrcOk K α H' s J -> Rq J H'
theorem PI.wk{t t':TI}(h:PI X tg e t)(k:∀σ H Q, t' σ H Q -> t σ H Q):PI X tg e t' :=fun pins s σ H Q I q => h pins s σ H Q I (k _ _ _ q)
abbrev MI(X:Cx)(tg e:Expr)(w:WI):Prop :=PI X tg e (tMI X.kx w)
section
variable {X:Cx}{tg a b c e iter:Expr}{es:List Expr}{wa wb wc we:WE}{ws:WA}{wt:WT}{pos:Pos}{st:Stmt}{rest body body2:List Stmt}{w u:WS}
def iSeq(K:PySem.W.Frag)(tl:TE):TI :=fun σ H Rq => tl σ H fun x H1 => ∃a, x = .ref a /\ (((∃xs, SqL K H1 a xs) /\ Rq (Itl K a) H1) \/ ((∃xs, SqT K H1 a xs) /\ Rq (Itt K a) H1))
theorem pi_seq{l:Expr}{tl:TE}(hl:PE X l tl):PI X tg l (iSeq X.K tl) :=by
 intro pins s σ H Rq I h;refine thn (hl pins s σ H _ I h) fun v s1 ⟨x, H1, I1, r1, q1⟩ => ?_;obtain⟨a, e, q⟩ :=q1;subst e;cases r1;rcases q with⟨⟨xs, hq⟩, q⟩|⟨⟨xs, hq⟩, q⟩
 .obtain⟨its, rv, p, hz⟩ :=I1.list hq;refine wpAny_pyIter_list p.isList ?_;refine⟨s1.heap.objs.size, [s1.heap.objs.size], _, _, H1, rfl, I1.kept (t' :=s1.toks) fun b o e => Heap.get?_push_of_some _ e, turn_list a _, ⟨_, Heap.get?_push_size _ rfl, rfl, rfl⟩, fun b hb => ?_, q⟩;have e:b=s1.heap.objs.size :=by simpa using hb
  subst e;exact I1.fpOk (Nat.le_refl _) (I1.hok.fresh (Nat.le_refl _))
 .obtain⟨its, rv, p, hz⟩ :=I1.tuple hq;refine wpAny_pyIter_tuple (show s1.heap.IsTuple a its.toArray from p) ?_;refine⟨s1.heap.objs.size, [s1.heap.objs.size], _, _, H1, rfl, I1.kept (t' :=s1.toks) fun b o e => Heap.get?_push_of_some _ e, turn_tuple a _, ⟨_, Heap.get?_push_size _ rfl, rfl, rfl⟩, fun b hb => ?_, q⟩;have e:b=s1.heap.objs.size :=by simpa using hb
  subst e;exact I1.fpOk (Nat.le_refl _) (I1.hok.fresh (Nat.le_refl _))
def srcR(m:MSt)(K:Src -> MSt -> Prop):R -> Prop
 | .imm (.list ds) => K ⟨ds, none⟩ m
 | .imm (.tuple ds) => K ⟨ds, none⟩ m
 | .obj k => ∃ds, m.os[k]?=some ds /\ K ⟨ds, some k⟩ m
 |_ => False
def wiSeq(we:WE):WI :=fun m K => we m fun r m' => srcR m' K r
theorem wks_list{a:Addr}:Wks K (Itl K a) ds fun H => ∃xs, SqL K H a xs /\ DenAll K H ds xs where
 stop :=fun H ⟨xs, q, g⟩ => ⟨xs, q, by rw[g.length];exact Nat.le_refl _⟩
 go :=fun i H hi ⟨xs, q, g⟩ => ⟨xs, xs[i]'(by rw[<- g.length];exact hi), q, List.getElem?_eq_getElem _⟩
 yld :=fun i H x H' hi ⟨xs, q, g⟩ y => by
  obtain⟨e, y⟩ :=y;subst e;obtain⟨d, h1, h2⟩ :=g.get2 (y xs q);exact⟨fun _ _ z => z, d, h1, h2⟩
theorem wks_tup{a:Addr}:Wks K (Itt K a) ds fun H => ∃xs, SqT K H a xs /\ DenAll K H ds xs where
 stop :=fun H ⟨xs, q, g⟩ => ⟨xs, q, by rw[g.length];exact Nat.le_refl _⟩
 go :=fun i H hi ⟨xs, q, g⟩ => ⟨xs, xs[i]'(by rw[<- g.length];exact hi), q, List.getElem?_eq_getElem _⟩
 yld :=fun i H x H' hi ⟨xs, q, g⟩ y => by
  obtain⟨e, y⟩ :=y;subst e;obtain⟨d, h1, h2⟩ :=g.get2 (y xs q);exact⟨fun _ _ z => z, d, h1, h2⟩
theorem Wks.imp{C C':Hp -> Prop}(h:Wks K J ds C)(k:∀H, C' H -> C H):Wks K J ds C' :=⟨fun H c => h.stop H (k H c), fun i H hi c => h.go i H hi (k H c), fun i H x H' hi c => h.yld i H x H' hi (k H c)⟩
theorem mi_seq(he:ME X e we):MI X tg e (wiSeq we) :=(pi_seq (tg :=tg) he).wk fun σ H Rq ⟨α, m, Kc, Rl, hw, fin⟩ => by
 refine⟨α, m, _, Rl, hw, fun r m' v H' k n Rl' rr F => ?_⟩
 cases r with
 |new _ => exact k.elim
 | «at» _ _ => exact k.elim
 |newT _ => exact k.elim
 |obj j =>
  obtain⟨ds, e1, k⟩ :=k;obtain⟨p, ep, rfl⟩ :=rr;obtain⟨xs, q, g⟩ :=Rl'.own j _ ds ep e1;exact⟨p, rfl, .inl ⟨⟨xs, SqL.of q⟩, fin _ m' _ H' k n Rl' F ⟨p, ep, wks_list.imp fun H ⟨xs, q, g⟩ => ⟨xs, SqL.of q, g⟩⟩⟩⟩
 | imm d =>
  cases d with
  |list ds =>
   have h:Den X.kx H' (.list ds) v :=rr;simp only[Den]at h;obtain⟨p, xs, rfl, f, g⟩ :=h;refine⟨p, rfl, .inl ⟨⟨xs, f.sq⟩, fin _ m' _ H' k n Rl' F ⟨fun H => ∃xs, FzL X.kx H p xs /\ DenAll X.kx H ds xs, wks_list.imp fun H ⟨xs, q, g⟩ => ⟨xs, q.sq, g⟩, ⟨xs, f, g⟩, fun H1 H2 ⟨xs, q, g⟩ pe => ⟨xs, q.mono pe, g.mono pe⟩⟩⟩⟩
  |tuple ds =>
   have h:Den X.kx H' (.tuple ds) v :=rr;simp only[Den]at h;obtain⟨p, xs, rfl, f, g⟩ :=h;refine⟨p, rfl, .inr ⟨⟨xs, f⟩, fin _ m' _ H' k n Rl' F ⟨fun H => ∃xs, SqT X.kx H p xs /\ DenAll X.kx H ds xs, wks_tup, ⟨xs, f, g⟩, fun H1 H2 ⟨xs, q, g⟩ pe => ⟨xs, q.mono pe, g.mono pe⟩⟩⟩⟩
  |none => exact k.elim
  |bool _ => exact k.elim
  |int _ => exact k.elim
  |str _ => exact k.elim
  |dict _ => exact k.elim
def rangeD(lo:Int)(n:Nat):List PyData :=(List.range n).map fun(i:Nat) => PyData.int (lo+(i:Int))
theorem rangeD_length(lo:Int)(n:Nat):(rangeD lo n).length=n :=by simp[rangeD]
theorem rangeD_get{lo:Int}(h:i<n):(rangeD lo n)[i]?=some (.int (lo+(i:Int))) :=by simp[rangeD, h]
theorem wks_range{lo:Int}:Wks K (Itr lo n) (rangeD lo n) fun _ => True where
 stop :=fun H _ => by rw[rangeD_length];exact Nat.le_refl _
 go :=fun i H hi _ => by rw[rangeD_length]at hi;exact hi
 yld :=fun i H x H' hi _ y => by
  rw[rangeD_length]at hi;obtain⟨e, y⟩ :=y;subst e y;exact⟨fun _ _ z => z, _, rangeD_get hi, den_int _⟩
def wiRng1(ws:WA):WI :=fun m K => ws m fun rs m' => match rs with|[.imm (.int j)] => -(2^62) ≤ j /\ j<2^62 /\ K ⟨rangeD 0 j.toNat, none⟩ m'|_ => False
theorem int_of_den{i:Int}(h:Den K H (.int i) v):v = .int i :=by simpa only[Den]using h
theorem mi_range1(hg:Gl X "range")(hm:X.mg "range" = none)(ha:MA X [a] ws)(hs:starEach [a] X.env=[(false, eval a X.env)] :=by first|exact star_one rfl|rfl):MI X tg (.Call (.Name "range" p) [a] [] pos) (wiRng1 ws) :=(pi_range1 (tg :=tg) hg hm ha hs).wk fun σ H Rq ⟨α, m, Kc, Rl, hw, fin⟩ => by
 refine⟨α, m, _, Rl, hw, fun rs m' vs H' k n Rl' rr F => ?_⟩;obtain⟨j, er, k1, k2, kf⟩:∃j:Int, rs=[.imm (.int j)] /\ -(2^62) ≤ j /\ j<2^62 /\ Kc ⟨rangeD 0 j.toNat, none⟩ m' :=by
  split at k
  .exact⟨_, rfl, k⟩
  .exact k.elim
 subst er
 cases rr with
 |cons h1 rr =>
  cases rr;have e :=int_of_den (show Den X.kx H' (.int j) _ from h1);subst e;exact⟨j, rfl, k1, k2, fin _ m' _ H' kf n Rl' F ⟨fun _ => True, wks_range, trivial, fun _ _ _ _ => trivial⟩⟩
def MSt.setN(m:MSt)(n:Nat):MSt :={m with np :=n}
def Src.np(s:Src)(m:MSt):Nat :=match s.own with|none => m.np|some k => max m.np (k+1)
def Src.ok(s:Src)(m:MSt):Prop :=match s.own with|none => True|some k => m.os[k]?=some s.ds
def wLoop(s:Src)(g:WG)(w:WS):WS :=fun D m1 => ∃P:Nat -> MSt -> Prop, P 0 (m1.setN (s.np m1)) /\
 (∀(i:Nat) (d:PyData) (m:MSt), s.ds[i]?=some d -> m.np=s.np m1 -> P i m -> s.ok m /\ g d m fun m2 => w {nx :=P (i+1), ct :=P (i+1), bk :=fun m' => D.nx (m'.setN m1.np), rt :=fun r m' => D.rt r (m'.setN m1.np)} m2) /\
 ∀m, m.np=s.np m1 -> P s.ds.length m -> s.ok m /\ D.nx (m.setN m1.np)
def wFor(wi:WI)(g:WG)(w:WS):WS :=fun D m => wi m fun s m1 => wLoop s g w D m1
theorem Rel.setN{K:Kx}{m:MSt}(R:Rel K α m σ H)(h:n ≤ α.length)(he:K.eb.np ≤ n):Rel K α (m.setN n) σ H :=⟨R.nd, R.len, R.own, R.vlen, R.var, h, he, R.ebx⟩
theorem loop_rd{K:Kx}{s:Src}{w:WS}{D:Ends}(Rl:Rel K α m1 σ H)(hJ:SrcOk K α H s J)(h:wLoop s g w De m1)(k:EndsOk K m1.np α H De D)
  (hb:∀α' m' σ' H' De' D', α'.take (s.np m1)=α.take (s.np m1) -> m'.np=s.np m1 -> Rel K α' m' σ' H' -> w De' m' -> EndsOk K m'.np α' H' De' D' -> tb D' σ' H'):tLoop J (tMG K g) tb D σ H :=by
 obtain⟨P, p0, turn, fin⟩ :=h;have npk:s.np m1 ≤ α.length :=by
  unfold Src.np;unfold SrcOk at hJ
  cases e:s.own with
  |none => exact Rl.npl
  |some j =>
   rw[e]at hJ;obtain⟨a, ea, _⟩ :=hJ;have :=(List.getElem?_eq_some_iff.mp ea).1;have :=Rl.npl;show max m1.np (j+1) ≤ α.length;omega
 have nple:m1.np ≤ s.np m1 :=by
  unfold Src.np;split
  .exact Nat.le_refl _
  .exact Nat.le_max_left _ _
 obtain⟨C, wk, hC⟩:∃C:Hp -> Prop, Wks K J s.ds C /\ ∀α' m' σ' H', Rel K α' m' σ' H' -> Ext (s.np m1) α H α' H' -> s.ok m' -> C H' :=by
  unfold SrcOk at hJ
  cases e:s.own with
  |none =>
   rw[e]at hJ;obtain⟨C, wk, c0, cm⟩ :=hJ;exact⟨C, wk, fun α' m' σ' H' _ x _ => cm H H' c0 (Rl.pers x.frm)⟩
  | some j =>
   rw[e]at hJ;obtain⟨a, ea, wk⟩ :=hJ;refine⟨_, wk, fun α' m' σ' H' R' x ok => ?_⟩;have hj:j<s.np m1 :=by unfold Src.np;rw[e];show j<max _ _;omega
   have ea':α'[j]?=some (.L a) :=by
    have :=congrArg (fun l => l[j]?) x.pre;simp only[List.getElem?_take, if_pos hj]at this;rw[this];exact ea
   unfold Src.ok at ok;rw[e]at ok;exact R'.own j _ s.ds ea' ok
 have back:∀{α':Al}{m':MSt}{σ':St}{H':Hp}, Rel K α' m' σ' H' -> m'.np=s.np m1 -> Ext (s.np m1) α H α' H' -> Rel K α' (m'.setN m1.np) σ' H' :=fun R' n x => R'.setN (by
  have :=R'.npl;rw[n]at this;omega) Rl.ebl
 refine⟨fun i n σ' H' => n=s.ds.length-i /\ i ≤ s.ds.length /\ ∃α' m', P i m' /\ m'.np=s.np m1 /\ Rel K α' m' σ' H' /\ Ext (s.np m1) α H α' H', ⟨s.ds.length, by simp, Nat.zero_le _, α, _, p0, rfl, Rl.setN npk (Nat.le_trans Rl.ebl nple), .of Rl (Frm.refl _ _)⟩, ?_⟩;rintro i n σ' H' ⟨rfl, hi, α', m', p, hn, R', x⟩
 by_cases hlt:i<s.ds.length
 .have hd:s.ds[i]?=some s.ds[i] :=List.getElem?_eq_getElem hlt;obtain⟨ok, hg⟩ :=turn i _ m' hd hn p;have c :=hC α' m' σ' H' R' x ok;refine .inr ⟨wk.go i H' hlt c, fun σ2 H2 => ∃α2 m2, P (i+1) m2 /\ m2.np=s.np m1 /\ Rel K α2 m2 σ2 H2 /\ Ext (s.np m1) α H α2 H2, fun σ2 H2 h2 => ⟨s.ds.length-(i+1), by omega, rfl, hlt, h2⟩, fun v H2 y => ?_⟩;obtain⟨grow, d, e1, e2⟩ :=wk.yld i H' v H2 hlt c y;rw[hd]at e1;cases e1;have F2:Frm α' H' H2 :=fun b o z _ => grow b o z;have R2:Rel K α' m' σ' H2 :=R'.at (R'.pers F2) (fun b hb => by
   obtain⟨ys, z, _⟩ :=R'.mem hb;rw[z];exact grow b _ z) F2
  have x2:Ext (s.np m1) α H α' H2 :=x.trans (.of R2 F2);refine⟨α', m', _, _, R2, e2, hg, fun m3 σ3 q3 n3 R3 => hb α' m3 σ3 H2 _ _ x2.pre (n3.trans hn) R3 q3 ?_⟩;have n3':m3.np=s.np m1 :=n3.trans hn;have x3:Ext m3.np α H α' H2 :=by rw[n3'];exact x2
  refine⟨fun α4 m4 σ4 H4 q4 n4 R4 x4 => ⟨α4, m4, q4, n4.trans n3', R4, ?_⟩, fun r α4 m4 σ4 v4 H4 q4 n4 R4 rr x4 => ?_, fun α4 m4 σ4 H4 q4 n4 R4 x4 => ?_, fun α4 m4 σ4 H4 q4 n4 R4 x4 => ⟨α4, m4, q4, n4.trans n3', R4, ?_⟩⟩
  .rw[<- n3'];exact x3.trans x4
  .have x5:Ext (s.np m1) α H α4 H4 :=by rw[<- n3'];exact x3.trans x4
   exact k.rt r α4 (m4.setN m1.np) σ4 v4 H4 q4 rfl (back R4 (n4.trans n3') x5) (rr.ext x3) (x5.less nple)
  .have x5:Ext (s.np m1) α H α4 H4 :=by rw[<- n3'];exact x3.trans x4
   exact k.nx α4 (m4.setN m1.np) σ4 H4 q4 rfl (back R4 (n4.trans n3') x5) (x5.less nple)
  .rw[<- n3'];exact x3.trans x4
 .have e:i=s.ds.length :=by omega
  subst e;obtain⟨ok, q⟩ :=fin m' hn p;exact .inl ⟨wk.stop H' (hC α' m' σ' H' R' x ok), k.nx α' (m'.setN m1.np) σ' H' q rfl (back R' hn x) (x.less nple)⟩
theorem ms_for(hi:MI X tg iter wi)(hg:MG X tg g)(hb:MSs X body w)(hp:PassesOwn (model X.prog X.w) X.A X.env X.xe)(hc:X.calm=true :=by rfl)
  (hs:∀x, foldedSetIterable iter X.env x=pure x :=by intro _;rfl):MS X (.For tg iter body [] pos) (wFor wi g w) :=(ps_for hp hc hi hg hb hs).wk fun D σ H ⟨α, m, De, Rl, hw, k⟩ =>
 ⟨α, m, _, Rl, hw, fun s m' J H' q n Rl' F hJ => loop_rd Rl' hJ q (by rw[n];exact k.ext (.of Rl' F)) fun α' m' σ' H' De' D' _ _ R' h' k' => ⟨α', m', De', R', h', k'⟩⟩
def wWhile(t:WT)(w:WS):WS :=fun D m0 => ∃P:Nat -> MSt -> Prop, (∃n, P n m0) /\ ∀n m, m.np=m0.np -> P n m -> t m fun c m' => if c=true then w {D with nx :=fun m2 => ∃n', n'<n /\ P n' m2, ct :=fun m2 => ∃n', n'<n /\ P n' m2, bk :=D.nx} m' else D.nx m'
theorem ms_while(ht:MT X t wt)(hb:MSs X body w)(hp:PassesOwn (model X.prog X.w) X.A X.env X.xe):MS X (.While t body [] pos) (wWhile wt w) :=(ps_while hp ht hb).wk fun D σ H ⟨α, m, De, Rl, ⟨P, ⟨n0, p0⟩, turn⟩, k⟩ => by
 refine⟨fun n σ' H' => ∃α' m', P n m' /\ m'.np=m.np /\ Rel X.kx α' m' σ' H' /\ Ext m.np α H α' H', ⟨n0, α, m, p0, rfl, Rl, .of Rl (Frm.refl _ _)⟩, ?_⟩;rintro n σ1 H1 ⟨α1, m1, p1, n1, R1, x1⟩;refine⟨α1, m1, _, R1, turn n m1 n1 p1, fun bb m2 H2 q n2 R2 F2 => ?_⟩;have x2:Ext m.np α H α1 H2 :=x1.trans (.of R2 F2);have n2':m2.np=m.np :=n2.trans n1
 cases bb with
 |true =>
  rw[if_pos rfl]at q;refine iteT ⟨fun σ3 H3 => ∃n', n'<n /\ ∃α' m', P n' m' /\ m'.np=m.np /\ Rel X.kx α' m' σ3 H3 /\ Ext m.np α H α' H3, fun σ3 H3 ⟨n', hl, z⟩ => ⟨n', hl, z⟩, α1, m2, _, R2, q, ?_⟩;rw[n2'];exact⟨fun α' m' σ' H' ⟨n', hl, q⟩ nn R' y => ⟨n', hl, α', m', q, nn, R', x2.trans y⟩, fun r α' m' σ' v H' q nn R' rr y => k.rt r α' m' σ' v H' q nn R' (rr.ext x2) (x2.trans y), fun α' m' σ' H' q nn R' y => k.nx α' m' σ' H' q nn R' (x2.trans y), fun α' m' σ' H' ⟨n', hl, q⟩ nn R' y => ⟨n', hl, α', m', q, nn, R', x2.trans y⟩⟩
 |false =>
  rw[if_neg Bool.false_ne_true]at q;exact iteF (k.nx α1 m2 σ1 H2 q n2' R2 x2)
end
section
variable {K:Kx}{α:Al}{m:MSt}{σ:St}{H:Hp}
theorem Rel.setW(R:Rel K α m σ H)(ha:α[q]?=some ao)(pe:Pers H H')(F:∀b, b ∉ ao.ads -> H' b=H b)(g:OwnAt K H' ao ds'):Rel K α {m with os :=m.os.set q ds' } σ H' /\ Frm α H H' :=by
 have Fα:Frm α H H' :=fun b o e nb => by rw[F b fun z => nb (ads_in ha z)];exact e
 have own':∀(k:Nat) (a:Ao) (es:List PyData), α[k]?=some a -> (m.os.set q ds')[k]?=some es -> OwnAt K H' a es :=fun k a es z1 z2' => by
  by_cases c:q=k
  .subst c;rw[ha]at z1;cases z1;rw[List.getElem?_set_self (by rw[<- R.len];exact(List.getElem?_eq_some_iff.mp ha).1)]at z2';cases z2';exact g
  .rw[List.getElem?_set_ne c]at z2';exact(R.own k a es z1 z2').mono pe fun b hb => F b fun z => ads_disj R.nd ha z1 c z hb
 refine⟨⟨R.nd, by simp[R.len], own', R.vlen, fun i r h => ?_, R.npl, R.ebl, R.ebx.trans ⟨rfl, Fα, fun _ h => .inl h, fun a ha => ?_⟩⟩, Fα⟩
 .obtain⟨v, ev, rv⟩ :=R.var i r h;refine⟨v, ev, ?_⟩
  cases r with
  |imm d => exact Den.mono pe rv
  |obj k => exact rv
  | «at» k p => exact rv
  |new ds => exact rv
  |newT t => exact rv
 .obtain⟨k, ao, e1, hm⟩ :=ads_at ha;have hk:k<(m.os.set q ds').length :=by rw[List.length_set, <- R.len];exact(List.getElem?_eq_some_iff.mp e1).1
  obtain⟨o, q, _⟩ :=(own' k ao _ e1 (List.getElem?_eq_getElem hk)).mem hm;exact⟨o, q⟩
theorem Rel.setO{xs':List V}(R:Rel K α m σ H)(ha:α[q]?=some (.L l))(hl:H l=some (.lst xs))(g:DenAll K H ds' xs'):Rel K α {m with os :=m.os.set q ds' } σ (upd H l (.lst xs')) /\ Frm α H (upd H l (.lst xs')) :=by
 have pe:Pers H (upd H l (.lst xs')) :=pers_lst hl;exact R.setW ha pe (fun b hb => upd_ne fun e => hb (List.mem_singleton.mpr e)) ⟨xs', upd_same, g.mono pe⟩
end
def compV(own:List Str)(ps:List Nat)(vs:List (Option R)):List (Option R) :=own.map (fun _ => none) ++ ps.map fun i => (vs[i]?).join
def compM(own:List Str)(ps:List Nat)(m:MSt):MSt :=⟨compV own ps m.vs, m.os ++ [[]], m.os.length+1⟩
def wIfT(tt:WT)(w:WS):WS :=fun D m => tt m fun b m' => if b=true then w D m' else D.nx m'
def wEmit(q:Nat)(we:WE):WS :=fun D m => we m fun r m' => onImm (fun d => ∃ds, m'.os[q]?=some ds /\ ds.length<sizeLine /\ D.nx {m' with os :=m'.os.set q (ds ++ [d])}) r
def wComp1(wi:WI)(own:List Str)(ps:List Nat)(g:WG)(tt:WT)(we:WE):WE :=fun m K => wi m fun s m1 =>
 wLoop s g (wIfT tt (wEmit m1.os.length we)) {nx :=fun m' => K (.new (m'.os.getD m1.os.length [])) {m1 with os :=m'.os.take m1.os.length}, rt :=fun _ _ => False} (compM own ps m1)
def wNoTest:WT :=fun m K => K true m
section
variable {K:Kx}
theorem emit_rd{we:WE}{m:MSt}{D:Ends}(ha:α[q]?=some (.L l))(Rl:Rel K α m σ H)(h:wEmit q we De m)(k:EndsOk K m.np α H De D):tEmit l (tM K we) D σ H :=by
 refine⟨α, m, _, Rl, h, fun r m' v H' kk n R' rr F => ?_⟩;obtain⟨d, er, hd, ds, e1, hz, kk⟩ :=on_imm rr kk;obtain⟨xs, hx, g⟩ :=R'.own q _ ds ha e1;obtain⟨R2, F2⟩ :=R'.setO ha hx (g.append (DenAll.cons hd DenAll.nil));exact⟨xs, hx, by rw[<- g.length];exact hz, k.nx α _ σ _ kk n R2 (.of R2 (F.trans F2))⟩
theorem ift_rd{tt:WT}{m:MSt}{D:Ends}(Rl:Rel K α m σ H)(h:wIfT tt w De m)(k:EndsOk K m.np α H De D)
  (hb:∀m' H', m'.np=m.np -> Rel K α m' σ H' -> w De m' -> EndsOk K m'.np α H' De D -> tb D σ H'):tIfT (tMT K tt) tb D σ H :=by
 refine⟨α, m, _, Rl, h, fun bb m' H' q n R' F => ?_⟩;have k':EndsOk K m'.np α H' De D :=by rw[n];exact k.ext (.of R' F)
 cases bb with
 |true => rw[if_pos rfl]at q;exact iteT (hb m' H' n R' q k')
 |false => rw[if_neg Bool.false_ne_true]at q;exact iteF (k'.nx α m' σ H' q rfl R' (.of R' (Frm.refl _ _)))
theorem comp_rd{ps:List Nat}{s:Src}{m:MSt}{Kc:R -> MSt -> Prop}(Rl:Rel K α m σ H)(n1:m1.np=m.np)(Rl1:Rel K α m1 σ H1)(F1:Frm α H H1)(hJ:SrcOk K α H1 s J)(hl:H1 l=none)
  (h:wLoop s g w {nx :=fun m' => Kc (.new (m'.os.getD m1.os.length [])) {m1 with os :=m'.os.take m1.os.length}, rt :=fun _ _ => False} (compM own ps m1))
  (fin:∀r m' v H', Kc r m' -> m'.np=m.np -> Rel K α m' σ H' -> RelR K α H H' r v -> Frm α H H' -> Q v H')
  (hb:∀α' m' σ' H' De' D', α'[m1.os.length]?=some (.L l) -> m1.os.length<m'.np -> Rel K α' m' σ' H' -> w De' m' -> EndsOk K m'.np α' H' De' D' -> tb D' σ' H') :
  tLoop J (tMG K g) tb {nx :=fun _ H' => Q (.ref l) H', rt :=fun _ _ => False} (compSt own ps σ) (upd H1 l (.lst [])) :=by
 have pα:l ∉ ads α :=Rl1.out hl;have pe:Pers H1 (upd H1 l (.lst [])) :=pers_upd (.inl hl);have hlen:α.length=m1.os.length :=Rl1.len;have at0:(α ++ [.L l])[m1.os.length]?=some (.L l) :=by rw[List.getElem?_append_right (by omega), <- hlen];simp
 have Rl1':Rel K α m1 σ (upd H1 l (.lst [])) :=Rl1.lay hl;obtain⟨Rm, extm⟩ :=rel_more (ao :=.L l) (ds :=[]) Rl1' ⟨m1, σ, Rl1⟩ (frm_upd hl) (by simp[Ao.ads]) (fun b hb => by cases List.mem_singleton.mp hb;exact hl) ⟨[], upd_same, DenAll.nil⟩;have R0:Rel K (α ++ [.L l]) (compM own ps m1) (compSt own ps σ) (upd H1 l (.lst [])) :=by
  refine⟨Rm.nd, by simp[compM, hlen], Rm.own, by simp[compSt, compM, compV], fun i r z => ?_, by simp[compM, hlen], by have :=Rl1.ebl;have :=Rl1.npl;show K.eb.np ≤ m1.os.length+1;omega, Rm.ebx⟩;have z':(compV own ps m1.vs)[i]?=some (some r) :=z;unfold compV at z'
  by_cases hi:i<own.length
  .rw[List.getElem?_append_left (by simpa using hi), List.getElem?_map]at z'
   cases q:own[i]? with
   |none => rw[q]at z';cases z'
   |some y => rw[q]at z';cases z'
  .rw[List.getElem?_append_right (by simpa using hi), List.length_map, List.getElem?_map]at z'
   cases q:ps[i-own.length]? with
   |none => rw[q]at z';cases z'
   | some p =>
    rw[q]at z';have z2:(m1.vs[p]?).join=some r :=Option.some.inj z';have hv:m1.vs[p]?=some (some r) :=by
     cases y:m1.vs[p]? with
     |none => rw[y]at z2;cases z2
     |some y' => rw[y]at z2;cases y' with
      |none => cases z2
      |some y' => cases z2;rfl
    obtain⟨v, ev, rv⟩ :=Rm.var p r hv;refine⟨v, ?_, rv⟩;unfold compSt;rw[List.getElem?_append_right (by simpa using hi), List.length_map, List.getElem?_map, q];show some ((σ[p]?).join)=some (some v);rw[ev];rfl
 have hJ':SrcOk K (α ++ [.L l]) (upd H1 l (.lst [])) s J :=by
  unfold SrcOk at hJ⊢
  cases e:s.own with
  |none =>
   rw[e]at hJ;obtain⟨C, wk, c0, cm⟩ :=hJ;exact⟨C, wk, cm _ _ c0 pe, cm⟩
  |some j =>
   rw[e]at hJ;obtain⟨a, ea, wk⟩ :=hJ;exact⟨a, by rw[List.getElem?_append_left (List.getElem?_eq_some_iff.mp ea).1];exact ea, wk⟩
 have npq:m1.os.length<s.np (compM own ps m1) :=by
  unfold Src.np;split
  .exact Nat.lt_succ_self _
  .exact Nat.lt_of_lt_of_le (Nat.lt_succ_self _) (Nat.le_max_left _ _)
 refine loop_rd R0 hJ' h ⟨fun α' m' σ' H' q n R' x => ?_, fun _ _ _ _ _ _ z => z.elim, fun _ _ _ _ z => z.elim, fun _ _ _ _ z => z.elim⟩ fun α' m' σ' H' De' D' hp hnp R' h' k' => hb α' m' σ' H' De' D' ?_ (by rw[hnp];exact npq) R' h' k'
 .
  have n':m'.np=m1.os.length+1 :=n;have x':Ext (m1.os.length+1) (α ++ [.L l]) (upd H1 l (.lst [])) α' H' :=x;have F':Frm α H1 H' :=fun b o e nb => by
   have hbl:b ≠ l :=ne_of_none e hl;refine x'.frm b o (by rw[upd_ne hbl];exact e) fun z => ?_;rw[ads_append]at z;rcases List.mem_append.mp z with z|z
   .exact nb z
   .exact hbl (by simpa[ads, Ao.ads]using z)
  have pe':Pers H1 H' :=Rl1.pers F';have same:∀k, k<m1.os.length+1 -> α'[k]?=(α ++ [.L l])[k]? :=fun k hk => by
   have :=congrArg (fun z => z[k]?) x'.pre;simp only[List.getElem?_take, if_pos hk]at this;exact this
  have hlen':m1.os.length+1 ≤ m'.os.length :=by
   have :=R'.npl;rw[n', R'.len]at this;exact this
  have hq:m1.os.length<m'.os.length :=by omega
  have eq1:m'.os[m1.os.length]?=some (m'.os.getD m1.os.length []) :=by
   rw[List.getD_eq_getElem?_getD, List.getElem?_eq_getElem hq];rfl
  obtain⟨xs, y1, y2⟩ :=R'.own m1.os.length (.L l) _ (by rw[same _ (Nat.lt_succ_self _)];exact at0) eq1;have own':∀(k:Nat) (a:Ao) (es:List PyData), α[k]?=some a -> (m'.os.take m1.os.length)[k]?=some es -> OwnAt K H' a es :=fun k a es z1 z2' => by
   rw[List.getElem?_take]at z2';have hk:k<m1.os.length :=by rw[<- hlen];exact(List.getElem?_eq_some_iff.mp z1).1
   rw[if_pos hk]at z2';exact R'.own k a es (by rw[same k (by omega), List.getElem?_append_left (by omega)];exact z1) z2'
  have tl:(m'.os.take m1.os.length).length=α.length :=by rw[List.length_take];omega
  have old':Ext K.eb.np α H1 α H' :=⟨rfl, F', fun _ h => .inl h, fun a ha => by
   obtain⟨k, ao, e1, hm⟩ :=ads_at ha;have hk:k<(m'.os.take m1.os.length).length :=by rw[tl];exact(List.getElem?_eq_some_iff.mp e1).1
   obtain⟨o, q, _⟩ :=(own' k ao _ e1 (List.getElem?_eq_getElem hk)).mem hm;exact⟨o, q⟩⟩
  refine fin _ _ (.ref l) H' q n1 ⟨Rl1.nd, tl.symm, own', Rl1.vlen, fun i r z => ?_, Rl1.npl, Rl1.ebl, Rl1.ebx.trans old'⟩ ?_ (F1.trans F')
  .obtain⟨v, ev, rv⟩ :=Rl1.var i r z;refine⟨v, ev, ?_⟩
   cases r with
   |imm d => exact Den.mono pe' rv
   |obj k => exact rv
   | «at» k p => exact rv
   |new ds => exact rv
   |newT t => exact rv
  .refine⟨l, xs, rfl, ?_, y1, y2⟩
   cases z:H l with
   |none => rfl
   |some o =>
    have :=F1 l o z pα;rw[hl]at this;cases this
 .have :=congrArg (fun z => z[m1.os.length]?) hp;simp only[List.getElem?_take, if_pos npq]at this;rw[this];exact at0
end
section
variable {X:Cx}{scope sc:Scope}{own fr:List Str}{ps:List Nat}{elt tg iter tg2 iter2:Expr}{ifs ifs2:List Expr}{pos spos py:Pos}{wi wi2:WI}{g g2:WG}{tt tt2:WT}{we:WE}
theorem comp1_rd(h:tM X.kx (wComp1 wi own ps g tt we) σ H Q):tComp (tMI X.kx wi) own ps (tl1 (tMG X.kx g) (tMT X.kx tt) (tM X.kx we)) σ H Q :=by
 obtain⟨α, m, Kc, Rl, hw, fin⟩ :=h;refine⟨α, m, _, Rl, hw, fun s m1 J H1 k n1 Rl1 F1 hJ l hl => ?_⟩;exact comp_rd Rl n1 Rl1 F1 hJ hl k fin fun α' m' σ' H' De' D' ha hnp R' h' k' => ift_rd R' h' k' fun m2 H2 n2 R2 h2 k2 => emit_rd ha R2 h2 k2
theorem me_comp1(S:CompScope own fr scope sc)(hi:MI X tg iter wi)(hg:∀cl s H C ex, MG (cxComp X scope cl (own ++ fr) s H C ex) tg g)(ht:∀cl s H C ex, PTs (cxComp X scope cl (own ++ fr) s H C ex) ifs (tMT X.kx tt))
  (he:∀cl s H C ex, ME (cxComp X scope cl (own ++ fr) s H C ex) elt we) (hsc:X.env.scope=sc :=by rfl) (hps:ps.map (fun i => X.N[i]?)=fr.map some :=by rfl) (hc:X.calm=true :=by rfl) (hs:∀x, foldedSetIterable iter X.env x=pure x :=by intro _;rfl) :
  ME X (.ListComp elt [⟨tg, iter, ifs, 0⟩] scope pos) (wComp1 wi own ps g tt we) :=(pe_comp1 S hi hg ht he hsc hps hc hs).wk fun _ _ _ h => comp1_rd h
theorem mts_nil:PTs X [] (tMT X.kx wNoTest) :=fun pins s σ H Q I ⟨α, m, Kc, Rl, hw, fin⟩ => pts_nil pins s σ H Q I (fin true m H hw rfl Rl (Frm.refl _ _))
theorem ms_setc1(S:CompScope own fr scope sc)(hN:X.N.Nodup)(hy:X.N[i]?=some y)(hlc:X.env.scope.names.lookup y=some .local)(hi:MI X tg iter wi)(hg:∀cl s H C ex, MG (cxComp X scope cl (own ++ fr) s H C ex) tg g)(ht:∀cl s H C ex, PTs (cxComp X scope cl (own ++ fr) s H C ex) ifs (tMT X.kx tt))
  (he:∀cl s H C ex, ME (cxComp X scope cl (own ++ fr) s H C ex) elt we) (hsw:swapsWith (.ListComp elt [⟨tg, iter, ifs, 0⟩] scope pos) (some (.Name y py)) spos.line X.env=pure true :=by rfl)
  (hsc:X.env.scope=sc :=by rfl) (hps:ps.map (fun i => X.N[i]?)=fr.map some :=by rfl) (hc:X.calm=true :=by rfl) (hs:∀x, foldedSetIterable iter X.env x=pure x :=by intro _;rfl) :
  MS X (.Assign [.Name y py] (.ListComp elt [⟨tg, iter, ifs, 0⟩] scope pos) spos) (wSet i (wComp1 wi own ps g tt we)) :=(ps_setc1 S hN hy hlc hi hg ht he hsw hsc hps hc hs).wk fun D σ H ⟨α, m, De, Rl, hw, k⟩ =>
 comp1_rd ⟨α, m, _, Rl, hw, fun r m' v H' q n Rl' rr F => bind_rd (Q :=D.nx) Rl' n F rr q k.nx ⟨m, σ, Rl⟩⟩
end
theorem str_of_den{i:Str}(h:Den K H (.str i) v):v = .str i :=by simpa only[Den]using h
theorem bl_of_den{i:Bool}(h:Den K H (.bool i) v):v = .bl i :=by simpa only[Den]using h
theorem non_of_den(h:Den K H .none v):v = .non :=by simpa only[Den]using h
theorem rr_int(i:Int):RelR K α Hb H (.imm (.int i)) (.int i) :=den_int (K :=K) (H :=H) i
theorem rr_bl(i:Bool):RelR K α Hb H (.imm (.bool i)) (.bl i) :=den_bl (K :=K) (H :=H) i
theorem rr_str(i:Str):RelR K α Hb H (.imm (.str i)) (.str i) :=den_str (K :=K) (H :=H) i
theorem rr_non:RelR K α Hb H (.imm .none) .non :=den_non (K :=K) (H :=H)
theorem rr_of{d:PyData}(h:Den K H d v):RelR K α Hb H (.imm d) v :=h
theorem tup_of_den(h:Den K H (.tuple ds) v):∃a xs, v = .ref a /\ SqT K H a xs /\ DenAll K H ds xs :=by simpa only[Den]using h
theorem den_tup(f:SqT K H a xs)(g:DenAll K H ds xs):Den K H (.tuple ds) (.ref a) :=by simp only[Den];exact⟨a, xs, rfl, f, g⟩
section
variable {X:Cx}
def oAdd:WO
 | .imm (.int i), .imm (.int j), _, K => K (.imm (.int (i+j)))
 | .imm (.str x), .imm (.str y), _, K => x.length+y.length ≤ sizeLine /\ K (.imm (.str (x ++ y)))
 | .imm (.tuple a), .imm (.tuple b), _, K => a.length+b.length ≤ sizeLine /\ K (.imm (.tuple (a ++ b)))
 |r1, r2, m, K => ∃xs ys, lsOf m r1=some xs /\ lsOf m r2=some ys /\ xs.length+ys.length ≤ sizeLine /\ K (.new (xs ++ ys))
theorem op_addM:OpR X (binaryOp .Add) (rM X.kx oAdd) :=by
 rintro pins s σ' H x y v u Q I rx ry ⟨α, m, σ, H0, H1, r1, r2, Kc, Rl, h1, h2, ho, fin⟩;unfold oAdd at ho
 split at ho
 .rename_i _ _ i j;have e1 :=int_of_den (show Den X.kx H (.int i) x from h1);have e2 :=int_of_den (show Den X.kx H (.int j) y from h2);subst e1 e2;exact op_add pins s σ' H _ _ v u Q I rx ry ⟨i, j, rfl, rfl, fin _ _ H ho Rl (rr_int _) (Frm.refl _ _)⟩
 .rename_i _ _ i j;have e1 :=str_of_den (show Den X.kx H (.str i) x from h1);have e2 :=str_of_den (show Den X.kx H (.str j) y from h2);subst e1 e2;exact op_add_str pins s σ' H _ _ v u Q I rx ry ⟨i, j, rfl, rfl, ho.1, fin _ _ H ho.2 Rl (rr_str _) (Frm.refl _ _)⟩
 .rename_i _ _ ds es;obtain⟨a, xs, rfl, f1, g1⟩ :=tup_of_den (show Den X.kx H (.tuple ds) x from h1);obtain⟨b, ys, rfl, f2, g2⟩ :=tup_of_den (show Den X.kx H (.tuple es) y from h2);obtain⟨hz, ho⟩ :=ho
  by_cases hx:xs=[]
  .subst hx
   cases rx;cases ry
   obtain⟨its, rv1, p1, _⟩ :=I.tuple f1;obtain⟨its2, rv2, p2, _⟩ :=I.tuple f2;cases rv1;obtain⟨⟨cls, dd, data, sl⟩, ho1, hc, n, hd⟩ :=id p1;obtain⟨⟨cls2, dd2, data2, sl2⟩, ho2, hc2, n2, hd2⟩ :=id p2;simp only at hc hd hc2 hd2;subst hc hd hc2 hd2;have e0:ds=[] :=by cases ds with|nil => rfl|cons _ _ => have :=g1.length;simp at this
   subst e0;exact concat_meets ⟨_, ho1, rfl⟩ ⟨_, ho2, rfl⟩ noFill_tuple_add seq_tuple_add PySem.F.slot_tuple_add PySem.F.entry_tuple_add (PySem.F.args_tuple_add_2 _ _)
    (tuple_addW0 a b _ its2.toArray n n2 dd dd2 sl sl2 (by simp)) ⟨ho1, ho2, ⟨.ref b, H, I, rfl, fin _ _ H ho Rl (show Den X.kx H (.tuple ([] ++ es)) (.ref b)from h2) (Frm.refl _ _)⟩⟩
  .refine op_catT pins s σ' H _ _ v u Q I rx ry ⟨a, b, xs, ys, rfl, rfl, f1, f2, hx, by rw[<- g1.length, <- g2.length];exact hz, fun e => ?_, fun e p hp => ?_⟩
   .subst e;have e0:es=[] :=by cases es with|nil => rfl|cons _ _ => have :=g2.length;simp at this
    subst e0;exact fin _ _ H (by rw[List.append_nil]at ho;exact ho) Rl (rr_of h1) (Frm.refl _ _)
   .exact fin _ _ _ ho (Rl.lay hp) (rr_of<|den_tup (SqT.of upd_same) ((g1.append g2).mono (pers_upd (.inl hp)))) (frm_upd hp)
 .obtain⟨ds, es, e1, e2, hz, ho⟩ :=ho;obtain⟨a, xs, rfl, f1, g1⟩ :=h1.list Rl e1;obtain⟨b, ys, rfl, f2, g2⟩ :=h2.list Rl e2
  cases rx;cases ry
  obtain⟨its, rv1, ⟨⟨cls, dd, data, sl⟩, n, ho1, hc, hdd, hd⟩, _⟩ :=I.list f1;obtain⟨its2, rv2, ⟨⟨cls2, dd2, data2, sl2⟩, n2, ho2, hc2, hdd2, hd2⟩, _⟩ :=I.list f2;simp only at hc hd hc2 hd2;subst hc hd hc2 hd2;have hzz:xs.length+ys.length ≤ sizeLine :=by rw[<- g1.length, <- g2.length];exact hz
  refine concat_meets ⟨_, ho1, rfl⟩ ⟨_, ho2, rfl⟩ noFill_list_add seq_list_add PySem.F.slot_list_add PySem.F.entry_list_add (PySem.F.args_list_add_2 _ _) (list_addW a b its.toArray its2.toArray n n2 dd dd2 sl sl2 (by have :=rv1.length;have :=rv2.length;simp only[List.size_toArray];omega)) ⟨ho1, ho2, ?_⟩;have ea:its.toArray ++ its2.toArray=(its ++ its2).toArray :=by simp
  rw[ea];have hp:H s.heap.objs.size=none :=I.fresh;exact⟨.ref _, _, I.lnew (t' :=s.toks) (rv1.append rv2) (by rw[List.length_append];omega), rfl, fin _ _ _ ho (Rl.lay hp) ⟨_, xs ++ ys, rfl, hp, upd_same, (g1.append g2).mono (pers_upd (.inl hp))⟩ (frm_upd hp)⟩
def oII(C:Int -> Int -> Prop)(g:Int -> Int -> Int):WO
 | .imm (.int i), .imm (.int j), _, K => C i j /\ K (.imm (.int (g i j)))
 |_, _, _, _ => False
def oIB(g:Int -> Int -> Bool):WO
 | .imm (.int i), .imm (.int j), _, K => K (.imm (.bool (g i j)))
 |_, _, _, _ => False
theorem oII_ok{f:Value -> Value -> Sem Value}{C:Int -> Int -> Prop}{g:Int -> Int -> Int}(h:OpR X f (rI C fun i j => .int (g i j))):OpR X f (rM X.kx (oII C g)) :=by
 rintro pins s σ' H x y v u Q I rx ry ⟨α, m, σ, H0, H1, r1, r2, Kc, Rl, h1, h2, ho, fin⟩;unfold oII at ho
 split at ho
 .rename_i _ _ i j;have e1 :=int_of_den (show Den X.kx H (.int i) x from h1);have e2 :=int_of_den (show Den X.kx H (.int j) y from h2);subst e1 e2;exact h pins s σ' H _ _ v u Q I rx ry ⟨i, j, rfl, rfl, ho.1, fin _ _ H ho.2 Rl (rr_int _) (Frm.refl _ _)⟩
 .exact ho.elim
theorem oIB_ok{f:Value -> Value -> Sem Value}{g:Int -> Int -> Bool}(h:OpR X f (rI0 fun i j => .bl (g i j))):OpR X f (rM X.kx (oIB g)) :=by
 rintro pins s σ' H x y v u Q I rx ry ⟨α, m, σ, H0, H1, r1, r2, Kc, Rl, h1, h2, ho, fin⟩;unfold oIB at ho
 split at ho
 .rename_i _ _ i j;have e1 :=int_of_den (show Den X.kx H (.int i) x from h1);have e2 :=int_of_den (show Den X.kx H (.int j) y from h2);subst e1 e2;exact h pins s σ' H _ _ v u Q I rx ry ⟨i, j, rfl, rfl, fin _ _ H ho Rl (rr_bl _) (Frm.refl _ _)⟩
 .exact ho.elim
def oSub:WO :=oII (fun _ _ => True) fun i j => i-j
theorem op_subM:OpR X (binaryOp .Sub) (rM X.kx oSub) :=oII_ok (opI fun _ _ _ _ _ _ _ _ q => sub_int q)
def oMul:WO :=oII IntMulOk fun i j => i*j
theorem op_mulM:OpR X (binaryOp .Mult) (rM X.kx oMul) :=oII_ok (opI fun _ _ _ _ _ _ _ hc q => mul_int q hc)
def CFd(_ j:Int):Prop :=0<j /\ j.natAbs.log2<9000
def oFdiv:WO :=oII CFd fun i j => i/j
theorem op_fdivM:OpR X (binaryOp .FloorDiv) (rM X.kx oFdiv) :=oII_ok (opI fun i j _ _ _ _ _ hc q => floordiv_int (by have :=hc.1;omega) (by rw[Int.fdiv_eq_ediv_of_nonneg _ (by have :=hc.1;omega)];exact q) (.inl (PyProof.noPylong_of_log2 hc.2)))
def oMod:WO :=oII (fun _ j => 0<j) fun i j => i%j
theorem op_modM:OpR X (binaryOp .Mod) (rM X.kx oMod) :=oII_ok op_mod
def oPow:WO :=oII CPow fun i j => i^j.toNat
theorem op_powM:OpR X (binaryOp .Pow) (rM X.kx oPow) :=oII_ok op_pow
def oLt:WO :=oIB fun i j => decide (i<j)
def oLe:WO :=oIB fun i j => decide (i ≤ j)
def oGt:WO :=oIB fun i j => decide (j<i)
def oGe:WO :=oIB fun i j => decide (j ≤ i)
theorem op_ltM:OpR X (compareOp .Lt) (rM X.kx oLt) :=oIB_ok op_lt
theorem op_leM:OpR X (compareOp .LtE) (rM X.kx oLe) :=oIB_ok op_le
theorem op_gtM:OpR X (compareOp .Gt) (rM X.kx oGt) :=oIB_ok op_gt
theorem op_geM:OpR X (compareOp .GtE) (rM X.kx oGe) :=oIB_ok op_ge
def eqD(f:Bool -> Bool):WO :=fun r1 r2 m K => match asD m r1, asD m r2 with
 |some d1, some d2 => SeqAt.shaped d1=true /\ SeqAt.shaped d2=true /\ K (.imm (.bool (f (PyData.eqv d1 d2))))
 |_, _ => False
def eqS(f:Bool -> Bool):WO :=fun r1 r2 m K => ∃x y:Str, r1 = .imm (.str x) /\ r2 = .imm (.str y) /\ K (.imm (.bool (f (decide (x=y)))))
def eqSs(f:Bool -> Bool):WO :=fun r1 r2 m K => ∃xs ys:List Str, lsOf m r1=some (xs.map .str) /\ lsOf m r2=some (ys.map .str) /\ xs.length=ys.length /\ K (.imm (.bool (f (decide (xs=ys)))))
def oEq:WO :=fun r1 r2 m K => eqD id r1 r2 m K \/ eqS id r1 r2 m K \/ eqSs id r1 r2 m K
def oNe:WO :=fun r1 r2 m K => eqD (!·) r1 r2 m K \/ eqS (!·) r1 r2 m K
theorem denAll_strs{K:Kd}{H:Hp}:∀{ns:List Str}{xs:List V}, DenAll K H (ns.map .str) xs -> xs=ns.map V.str
 |[], _, h => by simpa only[List.map_nil, DenAll]using h
 |n::ns, _, h => by
  simp only[List.map_cons, DenAll]at h;obtain⟨v, vs, rfl, h1, h2⟩ :=h;have e :=str_of_den (K :=K) (H :=H) h1;rw[e, denAll_strs h2];rfl
theorem vals_str:∀{ns:List Str}{us:List Value}{j:Nat}{u:Value}, Vals (ns.map V.str) us -> us[j]?=some u -> ∃x t, ns[j]?=some x /\ u = .str x t
 |[], _, _, _, .nil, e => by simp at e
 |n::ns, _, 0, _, .cons r _, e => by
  simp at e;subst e;obtain⟨t, h⟩ :=r;exact⟨n, t, rfl, h⟩
 |n::ns, _, j+1, u, .cons _ t, e => by
  obtain⟨x, tk, h1, h2⟩ :=vals_str (j :=j) (u :=u) t (by simpa using e);exact⟨x, tk, by simpa using h1, h2⟩
theorem all_eq_strs(xs ys:List Str)(h:xs.length=ys.length):(List.range xs.length).all (fun j => decide (xs.getD j Str.empty=ys.getD j Str.empty))=decide (xs=ys) :=by
 rw[Bool.eq_iff_iff, List.all_eq_true, decide_eq_true_eq];constructor
 .intro q;apply List.ext_getElem h;intro i h1 h2;have :=q i (by simpa using h1);rw[decide_eq_true_eq, List.getD_eq_getElem?_getD, List.getD_eq_getElem?_getD, List.getElem?_eq_getElem h1, List.getElem?_eq_getElem h2]at this;exact this
 .rintro rfl j _;exact decide_eq_true rfl
theorem eq_strs{s:Shared}{x y:V}{v u:Value}{m:MSt}{r1 r2:R}{xs ys:List Str}(I:Inv X pins σ' H s)(Rl:Rel X.kx α m σ H)(h1:RelR X.kx α H0 H r1 x)(h2:RelR X.kx α H1 H r2 y)(rx:RelV x v)(ry:RelV y u)
  (e1:lsOf m r1=some (xs.map .str)) (e2:lsOf m r2=some (ys.map .str)) (hl:xs.length=ys.length) (hu:X.A.units+64<cLine):∃l b its its2, v = .ref l /\ u = .ref b /\ s.heap.IsList l its /\ s.heap.IsList b its2 /\ its.size=xs.length /\ its2.size=xs.length /\
   ∀j (z1:j<its.size) (z2:j<its2.size), SeqAt.EqAt X.A.in1 s its[j] its2[j] (decide (xs.getD j Str.empty=ys.getD j Str.empty)) :=by
 obtain⟨a, zs, rfl, f1, g1⟩ :=h1.list Rl e1;obtain⟨b, ws, rfl, f2, g2⟩ :=h2.list Rl e2;have q1 :=denAll_strs g1;have q2 :=denAll_strs g2;subst q1 q2
 cases rx;cases ry
 obtain⟨its, rv1, p1, _⟩ :=I.list f1;obtain⟨its2, rv2, p2, _⟩ :=I.list f2;have l1 :=rv1.length;have l2 :=rv2.length;rw[List.length_map]at l1 l2;refine⟨a, b, its.toArray, its2.toArray, rfl, rfl, p1.isList, p2.isList, by simp[l1], by simp[<- l2, hl], fun j z1 z2 => ?_⟩;obtain⟨x, t, h3, h4⟩ :=vals_str rv1 (j :=j) (u :=its.toArray[j]) (by rw[List.getElem_toArray, List.getElem?_eq_getElem]);obtain⟨y, t', h5, h6⟩ :=vals_str rv2 (j :=j) (u :=its2.toArray[j]) (by rw[List.getElem_toArray, List.getElem?_eq_getElem]);rw[h4, h6, List.getD_eq_getElem?_getD, List.getD_eq_getElem?_getD, h3, h5];have :=SeqAt.EqAt.str_str (A :=X.A.in1) (s :=s) x t y t';have e:(x==y)=decide (x=y) :=by rw[Bool.beq_eq_decide_eq]
 rw[e]at this;exact this
theorem op_eqM(hu:X.A.units+64<cLine):OpR X (compareOp .Eq) (rM X.kx oEq) :=by
 rintro pins s σ' H x y v u Q I rx ry ⟨α, m, σ, H0, H1, r1, r2, Kc, Rl, h1, h2, ho, fin⟩;rcases ho with ho|⟨z, t, rfl, rfl, ho⟩|⟨xs, ys, e1, e2, hl, ho⟩
 .unfold eqD at ho
  split at ho
  .rename_i d1 d2 e1 e2;obtain⟨as, q1⟩ :=h1.reads I Rl rx e1 (PyData.hasDict_of_canLay _ (SeqAt.canLay_of_shaped ho.1));obtain⟨bs, q2⟩ :=h2.reads I Rl ry e2 (PyData.hasDict_of_canLay _ (SeqAt.canLay_of_shaped ho.2.1));exact eq_dataH q1 q2 ho.1 ho.2.1 hu ⟨.bl _, H, I, rfl, fin _ _ H ho.2.2 Rl (rr_bl _) (Frm.refl _ _)⟩
  .exact ho.elim
 .have e1 :=str_of_den (show Den X.kx H (.str z) x from h1);have e2 :=str_of_den (show Den X.kx H (.str t) y from h2);subst e1 e2;refine op_eq pins s σ' H _ _ v u Q I rx ry ⟨rfl, ?_⟩;rw[dec_str, Bool.beq_eq_decide_eq];exact fin _ _ H ho Rl (rr_bl _) (Frm.refl _ _)
 .obtain⟨l, b, its, its2, rfl, rfl, p1, p2, s1, s2, he⟩ :=eq_strs I Rl h1 h2 rx ry e1 e2 hl hu;refine SeqAt.eq_listAt p1 p2 (s1.trans s2.symm) (by omega) he ?_;rw[s1, all_eq_strs xs ys hl];exact⟨.bl _, H, I, rfl, fin _ _ H ho Rl (rr_bl _) (Frm.refl _ _)⟩
theorem op_neM(hu:X.A.units+64<cLine):OpR X (compareOp .NotEq) (rM X.kx oNe) :=by
 rintro pins s σ' H x y v u Q I rx ry ⟨α, m, σ, H0, H1, r1, r2, Kc, Rl, h1, h2, ho, fin⟩;rcases ho with ho|⟨z, t, rfl, rfl, ho⟩
 .unfold eqD at ho
  split at ho
  .rename_i d1 d2 e1 e2;obtain⟨as, q1⟩ :=h1.reads I Rl rx e1 (PyData.hasDict_of_canLay _ (SeqAt.canLay_of_shaped ho.1));obtain⟨bs, q2⟩ :=h2.reads I Rl ry e2 (PyData.hasDict_of_canLay _ (SeqAt.canLay_of_shaped ho.2.1));exact ne_dataH q1 q2 ho.1 ho.2.1 hu ⟨.bl _, H, I, rfl, fin _ _ H ho.2.2 Rl (rr_bl _) (Frm.refl _ _)⟩
  .exact ho.elim
 .have e1 :=str_of_den (show Den X.kx H (.str z) x from h1);have e2 :=str_of_den (show Den X.kx H (.str t) y from h2);subst e1 e2;refine op_ne pins s σ' H _ _ v u Q I rx ry ⟨rfl, ?_⟩;rw[dec_str, Bool.beq_eq_decide_eq];exact fin _ _ H ho Rl (rr_bl _) (Frm.refl _ _)
def isNone:R -> Bool
 | .imm .none => true
 |_ => false
def oIsNotN:WO :=fun r1 r2 _ K => r2 = .imm .none /\ K (.imm (.bool (!isNone r1)))
theorem isNone_rel(h:RelR K α Hb H r v):decide (v = .non)=isNone r :=by
 cases r with
 |obj k => obtain⟨a, _, rfl⟩ :=h;rfl
 |new ds => obtain⟨a, _, rfl, _⟩ :=h;rfl
 | «at» k p => obtain⟨τ, a, _, _, rfl⟩ :=h;rfl
 |newT t => obtain⟨τ, a, rfl, _⟩ :=h;rfl
 |imm d =>
  cases d with
  |none => have e :=non_of_den (show Den K H .none v from h);subst e;rfl
  |bool b => have e :=bl_of_den (show Den K H (.bool b) v from h);subst e;rfl
  |int b => have e :=int_of_den (show Den K H (.int b) v from h);subst e;rfl
  |str b => have e :=str_of_den (show Den K H (.str b) v from h);subst e;rfl
  |list ds => have h':Den K H (.list ds) v :=h;simp only[Den]at h';obtain⟨a, _, rfl, _⟩ :=h';rfl
  |tuple ds => obtain⟨a, _, rfl, _⟩ :=tup_of_den (show Den K H (.tuple ds) v from h);rfl
  |dict es => have h':Den K H (.dict es) v :=h;simp only[Den]at h';obtain⟨a, rfl, _⟩ :=h';rfl
theorem op_isNotNM:OpR X (compareOp .IsNot) (rM X.kx oIsNotN) :=by
 rintro pins s σ' H x y v u Q I rx ry ⟨α, m, σ, H0, H1, r1, r2, Kc, Rl, h1, h2, ho, fin⟩;obtain⟨e, ho⟩ :=ho;subst e;have ey :=non_of_den (show Den X.kx H .none y from h2);exact op_notN pins s σ' H _ _ v u Q I rx ry ⟨ey, by rw[isNone_rel h1];exact fin _ _ H ho Rl (rr_bl _) (Frm.refl _ _)⟩
def uNeg:WU
 | .imm (.int i), _, K => K (.imm (.int (-i)))
 |_, _, _ => False
theorem un_negM:UnR X (unaryOp .USub) (uM X.kx uNeg) :=by
 rintro pins s σ' H x v Q I rx ⟨α, m, σ, H0, r1, Kc, Rl, h1, ho, fin⟩;unfold uNeg at ho
 split at ho
 .rename_i _ i;have e1 :=int_of_den (show Den X.kx H (.int i) x from h1);subst e1;exact un_neg pins s σ' H _ v Q I rx ⟨i, rfl, fin _ _ H ho Rl (rr_int _) (Frm.refl _ _)⟩
 .exact ho.elim
def itemAt(m:MSt)(K:R -> Prop):R -> R -> Prop
 | .imm (.tuple ds), .imm (.int i) => ∃d, atI ds i=some d /\ K (.imm d)
 | .imm (.str x), .imm (.int i) => ∃c, x.length ≤ sizeLine /\ atI x.cps.toList i=some c /\ K (.imm (.str ⟨#[c]⟩))
 |r, .imm (.int i) => ∃ds d, lsOf m r=some ds /\ atI ds i=some d /\ K (.imm d)
 |_, _ => False
def oItem:WO :=fun r1 r2 m K => itemAt m K r1 r2
theorem atI_den{K:Kx}{i:Int}{d:PyData}(g:DenAll K H ds xs)(e:atI ds i=some d):∃v, atI xs i=some v /\ Den K H d v :=by
 unfold atI at e⊢;rw[<- g.length]
 cases q:ixN ds.length i with
 |none => rw[q]at e;cases e
 |some j =>
  rw[q]at e;obtain⟨v, h1, h2⟩ :=g.get (show ds[j]?=some d from e);exact⟨v, h1, h2⟩
theorem ix_item:IxR X (rM X.kx oItem) :=by
 rintro value slice pins s σ' H x y v u Q I rx ry ⟨α, m, σ, H0, H1, r1, r2, Kc, Rl, h1, h2, ho, fin⟩ hsub;have ho':itemAt m Kc r1 r2 :=ho;unfold itemAt at ho'
 split at ho'
 .rename_i ds i;obtain⟨d, e, k⟩ :=ho';obtain⟨a, xs, rfl, f, g⟩ :=tup_of_den (show Den X.kx H (.tuple ds) x from h1);have e2 :=int_of_den (show Den X.kx H (.int i) y from h2);obtain⟨z, z1, z2⟩ :=atI_den g e;exact ix_tup value slice pins s σ' H _ _ v u Q I rx ry ⟨a, xs, i, z, rfl, e2, f, z1, fin _ _ H k Rl (rr_of z2) (Frm.refl _ _)⟩ hsub
 .rename_i w i;obtain⟨c, hz, e, k⟩ :=ho';have e1 :=str_of_den (show Den X.kx H (.str w) x from h1);have e2 :=int_of_den (show Den X.kx H (.int i) y from h2);exact ix_str value slice pins s σ' H _ _ v u Q I rx ry ⟨w, i, c, e1, e2, hz, e, fin _ _ H k Rl (rr_str _) (Frm.refl _ _)⟩ hsub
 .rename_i i _ _;obtain⟨ds, d, el, e, k⟩ :=ho';obtain⟨a, xs, rfl, f, g⟩ :=h1.list Rl el;have e2 :=int_of_den (show Den X.kx H (.int i) y from h2);obtain⟨z, z1, z2⟩ :=atI_den g e;exact ix_list value slice pins s σ' H _ _ v u Q I rx ry ⟨a, xs, i, z, rfl, e2, f, z1, fin _ _ H k Rl (rr_of z2) (Frm.refl _ _)⟩ hsub
 .exact ho'.elim
theorem me_ix{a b:Expr}{wa wb:WE}(ha:ME X a wa)(hb:ME X b wb)(hs:PlainIx b :=by intro _ _;rfl):ME X (.Subscript a b pos) (wBin oItem wa wb) :=(pe_ix ix_item ha hb hs).wk fun _ _ _ h => bin_rd h
end
def onInt(P:Int -> Prop):R -> Prop
 | .imm (.int i) => P i
 |_ => False
def onObj(P:Nat -> Prop):R -> Prop
 | .obj k => P k
 |_ => False
def on1(P:R -> Prop):List R -> Prop
 |[r] => P r
 |_ => False
section
variable {K:Kx}{α:Al}{Hb H:Hp}{r:R}{v:V}
theorem on_int{P:Int -> Prop}(rr:RelR K α Hb H r v)(h:onInt P r):∃i, r = .imm (.int i) /\ v = .int i /\ P i :=by
 unfold onInt at h
 split at h
 .exact⟨_, rfl, int_of_den (K :=K) (H :=H) rr, h⟩
 .exact h.elim
theorem on_obj{P:Nat -> Prop}(rr:RelR K α Hb H r v)(h:onObj P r):∃k a, r = .obj k /\ α[k]?=some (.L a) /\ v = .ref a /\ P k :=by
 unfold onObj at h
 split at h
 .obtain⟨a, e1, e2⟩ :=rr;exact⟨_, a, rfl, e1, e2, h⟩
 .exact h.elim
theorem on_one{P:R -> Prop}{rs:List R}(rr:RelRs K α Hb H rs xs)(h:on1 P rs):∃r v, rs=[r] /\ xs=[v] /\ RelR K α Hb H r v /\ P r :=by
 cases rr with
 |nil => exact h.elim
 |cons h1 t =>
  cases t with
  |nil => exact⟨_, _, rfl, rfl, h1, h⟩
  |cons _ _ => exact h.elim
end
section
variable {X:Cx}{o a b c e:Expr}{es:List Expr}{wo wa wb wc we wi:WE}{ws:WA}{pos apos cpos:Pos}
abbrev WM :=R -> List R -> MSt -> (R -> MSt -> Prop) -> Prop
def mM(K:Kx)(ob:WM):V -> List V -> Hp -> VK -> Prop :=fun x xs H Q => ∃α m σ H0 H1 r rs Kc, Rel K α m σ H /\ RelR K α H0 H r x /\ RelRs K α H1 H rs xs /\ ob r rs m Kc /\ ∀r m' v H', Kc r m' -> m'.np=m.np -> Rel K α m' σ H' -> RelR K α H H' r v -> Frm α H H' -> Q v H'
def wML(ob:WM)(wo:WE)(ws:WA):WE :=fun m K => wo m fun r m1 => (∃ds, lsOf m1 r=some ds) /\ ws m1 fun rs m2 => ob r rs m2 K
theorem ml_rd{ob:WM}(h:tM X.kx (wML ob wo ws) σ H Q):tBM X.K "list" (mM X.kx ob) (tM X.kx wo) (tMA X.kx ws) σ H Q :=by
 obtain⟨α, m, Kc, Rl, hw, fin⟩ :=h;refine⟨α, m, _, Rl, hw, fun r m1 v H1 k n1 Rl1 rr F1 => ?_⟩;obtain⟨⟨ds, el⟩, k⟩ :=k;obtain⟨a, xs, rfl, f, g⟩ :=rr.list Rl1 el;refine⟨.inl ⟨rfl, xs, f⟩, α, m1, _, Rl1, k, fun rs m2 vs H2 k2 n2 Rl2 rr2 F2 => ?_⟩;exact⟨α, m2, σ, H, H1, r, rs, Kc, Rl2, rr.keep Rl Rl1 F2, rr2, k2, fun r m' v H' k n Rl' rr' F => fin r m' v H' k (n.trans (n2.trans n1)) Rl' (rr'.base Rl2 (F1.trans F2)) ((F1.trans F2).trans F)⟩
theorem me_ml{name:Str}{id:String}{ob:WM}(slot:Slot "list" name id)(hty:typeOf (.builtin id)=pure (.type "method_descriptor"))(hm:MtM X id (mM X.kx ob))(ho:ME X o wo)(ha:MA X (e::es) ws)
  (hbase:attributeBase o name X.env (eval o X.env)=eval o X.env :=by rfl)
  (hfew:((backTo cpos (starEach (e::es) X.env)).all (fun x => !x.1)&&(backToKw cpos (keywordEach [] X.env)).all (fun x => x.1.isSome)
   && decide ((e::es).length+([]:List Keyword).length+(if ([]:List Keyword).isEmpty then 0 else 1)<30))=true :=by rfl)
  (hline:(apos.endLine==cpos.line)=true :=by rfl) (hs:starEach (e::es) X.env=(false, eval e X.env)::starEach es X.env :=by first|exact star_cons rfl|rfl) (hplain:(backTo cpos (starEach es X.env)).any (·.1)=false :=by rfl) :
  ME X (.Call (.Attribute o name apos) (e::es) [] cpos) (wML ob wo ws) :=(pe_bm PySem.F.plainAttrs_list slot hty hm ho ha hbase hfew hline hs hplain).wk fun _ _ _ h => ml_rd h
def oAppend:WM :=fun r rs m K => onObj (fun k => on1 (onImm fun d => ∃ds, m.os[k]?=some ds /\ ds.length<sizeLine /\ K (.imm .none) {m with os :=m.os.set k (ds ++ [d])}) rs) r
theorem mt_appendM:MtM X "list.append" (mM X.kx oAppend) :=by
 rintro pins s σ' H x xs v us Q I rx rv ⟨α, m, σ, H0, H1, r, rs, Kc, Rl, h1, h2, ho, fin⟩;obtain⟨k, a, rfl, ea, rfl, ho⟩ :=on_obj h1 ho;obtain⟨r2, v2, rfl, rfl, h2, ho⟩ :=on_one h2 ho;obtain⟨d, rfl, hd, ds, e1, hz, ho⟩ :=on_imm h2 ho;obtain⟨ys, q, g⟩ :=Rl.own _ _ ds ea e1;obtain⟨R2, F2⟩ :=Rl.setO ea q (g.append (DenAll.cons hd DenAll.nil));exact mt_append pins s σ' H _ _ v us Q I rx rv ⟨a, ys, _, rfl, rfl, q, by rw[<- g.length];exact hz, fin _ _ _ _ ho rfl R2 rr_non F2⟩
def oPopAt:WM :=fun r rs m K => onObj (fun k => on1 (onInt fun i => ∃ds j d, m.os[k]?=some ds /\ (-(2^63) ≤ i /\ i<2^63) /\ seqIndex? i ds.length=some j /\ ds[j]?=some d /\ K (.imm d) {m with os :=m.os.set k (ds.eraseIdx j)}) rs) r
theorem mt_popAtM:MtM X "list.pop" (mM X.kx oPopAt) :=by
 rintro pins s σ' H x xs v us Q I rx rv ⟨α, m, σ, H0, H1, r, rs, Kc, Rl, h1, h2, ho, fin⟩;obtain⟨k, a, rfl, ea, rfl, ho⟩ :=on_obj h1 ho;obtain⟨r2, v2, rfl, rfl, h2, ho⟩ :=on_one h2 ho;obtain⟨i, rfl, rfl, ds, j, d, e1, ⟨b1, b2⟩, e2, e3, ho⟩ :=on_int h2 ho;obtain⟨ys, q, g⟩ :=Rl.own _ _ ds ea e1;obtain⟨R2, F2⟩ :=Rl.setO ea q (g.eraseIdx j);obtain⟨w, z1, z2⟩ :=g.get e3;exact mt_popAt pins s σ' H _ _ v us Q I rx rv ⟨a, ys, i, j, w, rfl, rfl, q, b1, b2, by rw[<- g.length];exact e2, z1, fin _ _ _ _ ho rfl R2 (rr_of (z2.mono (Rl.pers F2))) F2⟩
def wSetI(we wo wi:WE):WS :=fun D m => we m fun rv m1 => onImm (fun d => wo m1 fun ro m2 => wi m2 fun ri m3 => onObj (fun k => onInt (fun z => ∃ds j, m3.os[k]?=some ds /\ ixN ds.length z=some j /\ D.nx {m3 with os :=m3.os.set k (ds.set j d)}) ri) ro) rv
theorem ms_setI{b i:Expr}(he:ME X e we)(ho:ME X b wo)(hi:ME X i wi)(hs:swapsWithSole [.Subscript b i pos'] e pos.line X.env=pure false :=by rfl)(hw:swappedStores [.Subscript b i pos'] e X.env=pure none :=by rfl)
  (h1:(assignEach [.Subscript b i pos'] X.env).map (·.2)=[assign (.Subscript b i pos') X.env] :=by rfl) (ha:∀v, assign (.Subscript b i pos') X.env v=(do
   let ov <- holding [v] (eval b X.env)
   let iv <- holding [v, ov] (eval i X.env)
   standAt pos'
   holding [v, ov, iv] (setItem ov iv v)
   release [v, ov, iv] []) :=by intro _;rfl):MS X (.Assign [.Subscript b i pos'] e pos) (wSetI we wo wi) :=(ps_asg he (pg_sub ho hi set_list ha) hs hw h1).wk fun D σ H ⟨α, m, De, Rl, hw, k⟩ => by
 refine⟨α, m, _, Rl, hw, fun r m1 v H1 q n1 Rl1 rr F1 => ?_⟩;obtain⟨d, er, hd, q⟩ :=on_imm rr q;refine⟨α, m1, _, Rl1, q, fun ro m2 ov H2 q2 n2 Rl2 rr2 F2 => ⟨α, m2, _, Rl2, q2, fun ri m3 iv H3 q3 n3 Rl3 rr3 F3 => ?_⟩⟩;obtain⟨kk, p, rfl, ea, rfl, q3⟩ :=on_obj rr2 q3;obtain⟨z, rfl, rfl, ds, j, e1, e2, q3⟩ :=on_int rr3 q3;obtain⟨ys, q, g⟩ :=Rl3.own _ _ ds ea e1;have hd3:Den X.kx H3 d v :=(hd.mono (Rl1.pers F2)).mono (Rl2.pers F3);obtain⟨R4, F4⟩ :=Rl3.setO ea q (g.set hd3 j);exact⟨p, ys, z, j, rfl, rfl, q, by rw[<- g.length];exact e2, k.nx α _ σ _ q3 (n3.trans (n2.trans n1)) R4 (.of R4 (((F1.trans F2).trans F3).trans F4))⟩
def lenR(m:MSt)(K:R -> Prop):R -> Prop
 | .imm (.str x) => x.length ≤ sizeLine /\ K (.imm (.int x.length))
 | .imm (.tuple ds) => K (.imm (.int ds.length))
 |r => ∃ds, lsOf m r=some ds /\ K (.imm (.int ds.length))
def oLen:WC :=fun rs m K => on1 (lenR m K) rs
theorem call_lenM:CallR X (.builtin "len") (cM X.kx oLen) :=by
 rintro pins s σ' H xs us Q I rv ⟨α, m, σ, H0, rs, Kc, Rl, h, ho, fin⟩;obtain⟨r, v, rfl, rfl, h1, ho⟩ :=on_one h ho;unfold lenR at ho
 split at ho
 .rename_i x _;have e :=str_of_den (show Den X.kx H (.str x) _ from h1);subst e;exact call_len_str pins s σ' H _ us Q I rv ⟨x, rfl, ho.1, fin _ _ H ho.2 Rl (rr_int _) (Frm.refl _ _)⟩
 .rename_i ds _;obtain⟨a, ys, rfl, f, g⟩ :=tup_of_den (show Den X.kx H (.tuple ds) _ from h1);exact call_len_seq pins s σ' H _ us Q I rv ⟨a, ys, rfl, .inr f, by rw[<- g.length];exact fin _ _ H ho Rl (rr_int _) (Frm.refl _ _)⟩
 .obtain⟨ds, el, ho⟩ :=ho;obtain⟨a, ys, rfl, f, g⟩ :=h1.list Rl el;exact call_len_seq pins s σ' H _ us Q I rv ⟨a, ys, rfl, .inl f, by rw[<- g.length];exact fin _ _ H ho Rl (rr_int _) (Frm.refl _ _)⟩
def oAbs:WC :=fun rs m K => on1 (onInt fun i => K (.imm (.int (if i<0 then -i else i)))) rs
theorem call_absM:CallR X (.builtin "abs") (cM X.kx oAbs) :=by
 rintro pins s σ' H xs us Q I rv ⟨α, m, σ, H0, rs, Kc, Rl, h, ho, fin⟩;obtain⟨r, v, rfl, rfl, h1, ho⟩ :=on_one h ho;obtain⟨i, rfl, rfl, ho⟩ :=on_int h1 ho;exact call_abs pins s σ' H _ us Q I rv ⟨i, rfl, fin _ _ H ho Rl (rr_int _) (Frm.refl _ _)⟩
def intR(K:R -> Prop):R -> Prop
 | .imm (.int i) => K (.imm (.int i))
 | .imm (.bool b) => K (.imm (.int (if b then 1 else 0)))
 |_ => False
def oInt:WC :=fun rs m K => on1 (intR K) rs
theorem call_intM:CallR X (.type "int") (cM X.kx oInt) :=by
 rintro pins s σ' H xs us Q I rv ⟨α, m, σ, H0, rs, Kc, Rl, h, ho, fin⟩;obtain⟨r, v, rfl, rfl, h1, ho⟩ :=on_one h ho;unfold intR at ho
 split at ho
 .rename_i i _;have e :=int_of_den (show Den X.kx H (.int i) _ from h1);subst e;exact call_int1 pins s σ' H _ us Q I rv (.inl ⟨i, rfl, fin _ _ H ho Rl (rr_int _) (Frm.refl _ _)⟩)
 .rename_i i _;have e :=bl_of_den (show Den X.kx H (.bool i) _ from h1);subst e;exact call_int1 pins s σ' H _ us Q I rv (.inr ⟨i, rfl, fin _ _ H ho Rl (rr_int _) (Frm.refl _ _)⟩)
 .exact ho.elim
def sqOf(m:MSt):R -> Option (List PyData)
 | .imm (.tuple ds) => some ds
 |r => lsOf m r
theorem RelR.seq{K:Kx}{m:MSt}(Rl:Rel K α m σ H)(h:RelR K α H0 H r v)(e:sqOf m r=some ds):∃a xs, v = .ref a /\ (SqL K H a xs \/ SqT K H a xs) /\ DenAll K H ds xs :=by
 unfold sqOf at e
 split at e
 .cases e;obtain⟨a, ys, e, f, g⟩ :=tup_of_den (show Den K H (.tuple ds) _ from h);exact⟨a, ys, e, .inr f, g⟩
 .obtain⟨a, ys, e, f, g⟩ :=h.list Rl e;exact⟨a, ys, e, .inl f, g⟩
def oList:WC :=fun rs m K => on1 (fun r => ∃ds, sqOf m r=some ds /\ K (.new ds)) rs
theorem call_listM:CallR X (.type "list") (cM X.kx oList) :=by
 rintro pins s σ' H xs us Q I rv ⟨α, m, σ, H0, rs, Kc, Rl, h, ho, fin⟩;obtain⟨r, v, rfl, rfl, h1, ho⟩ :=on_one h ho
 .obtain⟨ds, e, ho⟩ :=ho;obtain⟨a, ys, rfl, f, g⟩ :=h1.seq Rl e;exact call_list_of pins s σ' H _ us Q I rv ⟨a, ys, rfl, f, fun l hl => fin _ _ _ ho (Rl.lay hl) ⟨l, ys, rfl, hl, upd_same, g.mono (pers_upd (.inl hl))⟩ (frm_upd hl)⟩
def oTuple:WC :=fun rs m K => on1 (fun r => ∃ds, sqOf m r=some ds /\ K (.imm (.tuple ds))) rs
theorem call_tupleM:CallR X (.type "tuple") (cM X.kx oTuple) :=by
 rintro pins s σ' H xs us Q I rv ⟨α, m, σ, H0, rs, Kc, Rl, h, ho, fin⟩;obtain⟨r, v, rfl, rfl, h1, ho⟩ :=on_one h ho
 .obtain⟨ds, e, ho⟩ :=ho;obtain⟨a, ys, rfl, f, g⟩ :=h1.seq Rl e;refine call_tuple_of pins s σ' H _ us Q I rv ⟨a, ys, rfl, ?_⟩;rcases f with f|f
  .exact .inl ⟨f, fun l hl => fin _ _ _ ho (Rl.lay hl) (rr_of (den_tup (SqT.of upd_same) (g.mono (pers_upd (.inl hl))))) (frm_upd hl)⟩
  .exact .inr ⟨f, fin _ _ _ ho Rl (rr_of (den_tup f g)) (Frm.refl _ _)⟩
def sM(K:Kx)(o:R -> Option Int -> Option Int -> MSt -> (R -> Prop) -> Prop):V -> Option Int -> Option Int -> Hp -> VK -> Prop :=fun x lo hi H Q => ∃α m σ H0 r Kc, Rel K α m σ H /\ RelR K α H0 H r x /\ o r lo hi m Kc /\ ∀r v H', Kc r -> Rel K α m σ H' -> RelR K α H H' r v -> Frm α H H' -> Q v H'
def cutD(xs:List PyData)(lo hi:Option Int):List PyData :=(xs.drop (HT.sIx xs.length 0 lo)).take (HT.sIx xs.length xs.length hi-HT.sIx xs.length 0 lo)
theorem cut_den(g:DenAll K H ds xs)(lo hi:Option Int):DenAll K H (cutD ds lo hi) (cutV xs lo hi) :=by
 unfold cutD cutV;rw[<- g.length];exact(g.drop _).take _
def oCutL:R -> Option Int -> Option Int -> MSt -> (R -> Prop) -> Prop :=fun r lo hi m K => ∃ds, lsOf m r=some ds /\ K (.new (cutD ds lo hi))
theorem sl_listM:SlR X (sM X.kx oCutL) :=by
 intro pins s σ' H x v vl vu lo hi sl Q I rx hs pl pu hq;obtain⟨α, m, σ, H0, r, Kc, Rl, h, ⟨ds, e, k⟩, fin⟩ :=hq;obtain⟨a, ys, rfl, f, g⟩ :=h.list Rl e;exact sl_list pins s σ' H _ v vl vu lo hi sl Q I rx hs pl pu ⟨a, ys, rfl, f, fun p hp => fin _ _ _ k (Rl.lay hp) ⟨p, _, rfl, hp, upd_same, (cut_den g lo hi).mono (pers_upd (.inl hp))⟩ (frm_upd hp)⟩
def WO1 :=MSt -> (Option Int -> MSt -> Prop) -> Prop
def tMO(K:Kx)(w:WO1):TO :=fun σ H Q => ∃α m Kc, Rel K α m σ H /\ w m Kc /\ ∀r m' H', Kc r m' -> m'.np=m.np -> Rel K α m' σ H' -> Frm α H H' -> Q r H'
def wNoPart:WO1 :=fun m K => K none m
def wPart(w:WE):WO1 :=fun m K => w m fun r m' => onInt (fun i => K (some i) m') r
theorem PO.wk{X:Cx}{e:Option Expr}{t t':TO}(h:PO X e t)(k:∀σ H Q, t' σ H Q -> t σ H Q):PO X e t' :=fun pins s σ H Q I q => h pins s σ H Q I (k _ _ _ q)
abbrev MO(X:Cx)(e:Option Expr)(w:WO1):Prop :=PO X e (tMO X.kx w)
theorem mo_none:MO X none wNoPart :=(po_none (X :=X)).wk fun σ H Q ⟨α, m, Kc, Rl, hw, fin⟩ => fin none m H hw rfl Rl (Frm.refl _ _)
theorem mo_some(he:ME X e we):MO X (some e) (wPart we) :=(po_some he).wk fun σ H Q ⟨α, m, Kc, Rl, hw, fin⟩ => by
 refine⟨α, m, _, Rl, hw, fun r m1 v H1 k n1 Rl1 rr F1 => ?_⟩;obtain⟨i, rfl, rfl, k⟩ :=on_int rr k;exact⟨i, rfl, fin _ m1 H1 k n1 Rl1 F1⟩
def wSl(ob:R -> Option Int -> Option Int -> MSt -> (R -> Prop) -> Prop)(we:WE)(wl wh:WO1):WE :=fun m K => we m fun r m1 => wl m1 fun l m2 => wh m2 fun u m3 => ob r l u m3 fun r' => K r' m3
theorem me_slice{p2:Pos}(hr:SlR X (sM X.kx ob))(he:ME X e we)(hl:MO X lo wl)(hu:MO X hi wh):ME X (.Subscript e (.Slice lo hi none p2) pos) (wSl ob we wl wh) :=(pe_slice hr he hl hu).wk fun σ H Q ⟨α, m, Kc, Rl, hw, fin⟩ =>
 ⟨α, m, _, Rl, hw, fun r m1 v H1 k n1 Rl1 rr F1 => ⟨α, m1, _, Rl1, k, fun l m2 H2 k2 n2 Rl2 F2 => ⟨α, m2, _, Rl2, k2, fun u m3 H3 k3 n3 Rl3 F3 => ⟨α, m3, σ, H, r, _, Rl3, (rr.keep Rl Rl1 F2).keep Rl Rl2 F3, k3, fun r' v' H' k4 Rl4 rr4 F4 => fin r' m3 v' H' k4 (n3.trans (n2.trans n1)) Rl4 (rr4.base Rl3 ((F1.trans F2).trans F3)) (((F1.trans F2).trans F3).trans F4)⟩⟩⟩⟩
end
def agV:Nat -> List Ag -> List (Option R)
 |_, [] => []
 |k, .imm d::as => some (.imm d)::agV k as
 |k, .own _::as => some (.obj k)::agV (k+1) as
 |k, .tr _::as => some (.at k [])::agV (k+1) as
def agO:List Ag -> List (List PyData)
 |[] => []
 | .imm _::as => agO as
 | .own ds::as => ds::agO as
 | .tr t::as => [t]::agO as
def mstart(n:Nat)(as:List Ag):MSt :=⟨agV 0 as ++ List.replicate (n-as.length) none, agO as, (agO as).length⟩
def outR(m:MSt):R -> R
 | .imm d => .imm d
 | .new ds => .new ds
 | .newT t => .newT t
 | .obj k => if k<m.np then .obj k else .new (m.os.getD k [])
 | .at k p => if k<m.np then .at k p else match p, m.os[k]? with
  |[], some [t] => .newT t
  |_, _ => .at k p
theorem agV_length:∀(k:Nat) (as:List Ag), (agV k as).length=as.length
 |_, [] => rfl
 |k, .imm d::as => by simp[agV, agV_length k as]
 |k, .own _::as => by simp[agV, agV_length (k+1) as]
 |k, .tr _::as => by simp[agV, agV_length (k+1) as]
section
variable {K:Kx}{H:Hp}
theorem RelAs.facts{K:Kd}:∀{as:List Ag}{vs:List V}{β:Al}{pre:Al}, RelAs K H as vs β ->
  (agO as).length=β.length /\ (∀(k:Nat) (ao:Ao) (ds:List PyData), β[k]?=some ao -> (agO as)[k]?=some ds -> OwnAt K H ao ds) /\
   ∀(i:Nat) (r:R), (agV pre.length as)[i]?=some (some r) -> ∃v, vs[i]?=some v /\ RelS K (pre ++ β) H r v
 |_, _, _, _, .nil => ⟨rfl, fun k a ds h => by simp at h, fun i r h => by simp[agV]at h⟩
 | _, _, β, pre, .imm (as :=as) hd t => by
  obtain⟨h1, h2, h3⟩ :=t.facts (pre :=pre);refine⟨h1, h2, fun i r h => ?_⟩
  cases i with
  |zero => simp[agV]at h;subst h;exact⟨_, rfl, hd⟩
  |succ i =>
   obtain⟨v, e, q⟩ :=h3 i r (by simpa[agV]using h);exact⟨v, by simpa using e, q⟩
 | _, _, _, pre, .own (a :=a) (β :=β) ha t => by
  obtain⟨h1, h2, h3⟩ :=t.facts (pre :=pre ++ [.L a]);refine⟨by simp[agO, h1], fun k b ds z1 z2 => ?_, fun i r h => ?_⟩
  .cases k with
   |zero => simp[agO]at z1 z2;subst z1;subst z2;exact ha
   |succ k => exact h2 k b ds (by simpa using z1) (by simpa[agO]using z2)
  .cases i with
   |zero => simp[agV]at h;subst h;exact⟨_, rfl, a, by simp, rfl⟩
   |succ i =>
    obtain⟨v, e, q⟩ :=h3 i r (by simpa[agV]using h);refine⟨v, by simpa using e, ?_⟩;rw[List.append_assoc]at q;exact q
 | _, _, _, pre, .tr (a :=a) (τ :=τ) (β :=β) ha el t => by
  obtain⟨h1, h2, h3⟩ :=t.facts (pre :=pre ++ [.T τ]);refine⟨by simp[agO, h1], fun k b ds z1 z2 => ?_, fun i r h => ?_⟩
  .cases k with
   |zero => simp[agO]at z1 z2;subst z1;subst z2;exact ha
   |succ k => exact h2 k b ds (by simpa using z1) (by simpa[agO]using z2)
  .cases i with
   |zero => simp[agV]at h;subst h;exact⟨_, rfl, τ, a, by simp, el, rfl⟩
   |succ i =>
    obtain⟨v, e, q⟩ :=h3 i r (by simpa[agV]using h);refine⟨v, by simpa using e, ?_⟩;rw[List.append_assoc]at q;exact q
theorem entry_rel(hN:N.length=nN)(hle:n ≤ nN)(hl:as.length=n)(nd:(ads β).Nodup)(ra:RelAs K H as vs β)(hb:K.eb.np ≤ (agO as).length)(hx:Ext K.eb.np K.eb.be K.eb.H β H):Rel K β (mstart nN as) (start N vs) H :=by
 obtain⟨h1, h2, h3⟩ :=ra.facts (pre :=[]);have hvl:as.length=vs.length :=ra.length;refine⟨nd, by rw[<- h1];rfl, h2, ?_, fun i r e => ?_, by rw[<- h1];exact Nat.le_refl _, hb, hx⟩
 .unfold start mstart;simp only[List.length_append, List.length_map, List.length_replicate, agV_length];omega
 .have e':(agV 0 as ++ List.replicate (nN-as.length) none)[i]?=some (some r) :=e
  by_cases hi:i<as.length
  .rw[List.getElem?_append_left (by rw[agV_length];exact hi)]at e';obtain⟨v, ev, q⟩ :=h3 i r e';refine⟨v, ?_, by simpa using q⟩;unfold start;rw[List.getElem?_append_left (by rw[List.length_map];omega), List.getElem?_map, ev];rfl
  .rw[List.getElem?_append_right (by rw[agV_length];omega), List.getElem?_replicate]at e'
   split at e'<;>cases e'
theorem end_outs{m':MSt}(ra:RelAs K H as vs β)(hn:m'.np=(agO as).length)(R':Rel K α' m' σ' H')(x:Ext (agO as).length β H α' H'):OutsAt K H' β (m'.os.take m'.np) /\ Frm β H H' /\ β=α'.take (agO as).length :=by
 obtain⟨h1, h2, h3⟩ :=ra.facts (pre :=[]);have e1:α'.take (agO as).length=β :=by rw[x.pre, h1, List.take_length]
 refine⟨⟨?_, fun j a ds z1 z2 => ?_⟩, x.frm, e1.symm⟩
 .have :=R'.npl;rw[R'.len]at this;rw[List.length_take, hn, <- h1];omega
 .rw[<- e1, List.getElem?_take]at z1;rw[hn, List.getElem?_take]at z2
  by_cases hj:j<(agO as).length
  .rw[if_pos hj]at z1 z2;exact R'.own j a ds z1 z2
  .rw[if_neg hj]at z1;cases z1
theorem end_res{m':MSt}(hn:m'.np=(agO as).length)(R':Rel K α' m' σ' H')(x:Ext (agO as).length β H α' H')(eβ:β=α'.take (agO as).length)(rr:RelR K α' H H' r v)
  (ok:∀k p, r = .at k p -> k<m'.np \/ (p=[] /\ ∃t, m'.os[k]?=some [t])):RelR K β H H' (outR m' r) v :=by
 have out:∀{k:Nat}{ao:Ao}, ¬k<m'.np -> α'[k]?=some ao -> ∀b ∈ ao.ads, H b=none :=fun {k ao} hk ea b hb => by
  rcases x.new b (ads_in ea hb)with z|z
  .exfalso;rw[eβ]at z;obtain⟨j, ao', ej, hm⟩ :=ads_at z;rw[List.getElem?_take]at ej
   by_cases hj:j<(agO as).length
   .rw[if_pos hj]at ej;exact ads_disj R'.nd ea ej (by omega) hb hm
   .rw[if_neg hj]at ej;cases ej
  .exact z
 have inb:∀{k:Nat}{ao:Ao}, k<m'.np -> α'[k]?=some ao -> β[k]?=some ao :=fun {k ao} hk ea => by
  rw[eβ, List.getElem?_take, if_pos (by rw[<- hn];exact hk)];exact ea
 cases r with
 |imm d => exact rr
 |new ds => exact rr
 |newT t => exact rr
 | obj k =>
  obtain⟨a, ea, rfl⟩ :=rr;unfold outR
  by_cases hk:k<m'.np
  .simp only[hk, if_true];exact⟨a, inb hk ea, rfl⟩
  .simp only[hk, if_false];have hk2:k<m'.os.length :=by rw[<- R'.len];exact(List.getElem?_eq_some_iff.mp ea).1
   have e3:m'.os[k]?=some (m'.os.getD k []) :=by rw[List.getD_eq_getElem?_getD, List.getElem?_eq_getElem hk2];rfl
   obtain⟨xs, y1, y2⟩ :=R'.own k _ _ ea e3;exact⟨a, xs, rfl, out hk ea a (List.mem_singleton.mpr rfl), y1, y2⟩
 | «at» k p =>
  obtain⟨τ, a, ea, el, rfl⟩ :=rr;unfold outR
  by_cases hk:k<m'.np
  .simp only[hk, if_true];exact⟨τ, a, inb hk ea, el, rfl⟩
  .simp only[hk, if_false];rcases ok k p rfl with z|⟨rfl, t, et⟩
   .exact(hk z).elim
   .rw[et];have g :=R'.own k _ _ ea et;exact⟨τ, a, rfl, el, ((ads_iff α').mp R'.nd).1 _ (List.mem_of_getElem? ea), out hk ea, g⟩
def okR(m:MSt):R -> Prop
 | .at k p => k<m.np \/ (p=[] /\ ∃t, m.os[k]?=some [t])
 |_ => True
theorem okR.at{m:MSt}(h:okR m r):∀k p, r = .at k p -> k<m.np \/ (p=[] /\ ∃t, m.os[k]?=some [t]) :=fun k p e => by subst e;exact h
def retK(Kc:R -> List (List PyData) -> Prop)(m:MSt):R -> Prop
 | .at k p => okR m (.at k p) /\ Kc (outR m (.at k p)) (m.os.take m.np)
 | .imm d => Kc (.imm d) (m.os.take m.np)
 | .new ds => Kc (.new ds) (m.os.take m.np)
 | .obj k => Kc (outR m (.obj k)) (m.os.take m.np)
 | .newT t => Kc (.newT t) (m.os.take m.np)
theorem retK.ok{Kc:R -> List (List PyData) -> Prop}{m:MSt}(h:retK Kc m r):okR m r /\ Kc (outR m r) (m.os.take m.np) :=by
 cases r with
 | «at» k p => exact h
 |imm d => exact⟨trivial, h⟩
 |new ds => exact⟨trivial, h⟩
 |obj k => exact⟨trivial, h⟩
 |newT t => exact⟨trivial, h⟩
theorem fn_m{E:XK}(he:K.eb=⟨0, [], fun _ => none⟩)(h:spOf K n sp vs H Q E)(hN:N.length=nN)(hle:n ≤ nN)
  (hw:∀as Kc, as.length=n -> sp as Kc -> w {nx :=fun m => Kc (.imm .none) (m.os.take m.np), rt :=fun r m => retK Kc m r} (mstart nN as)):tMS K w {nx :=fun _ H' => Q .non H', rt :=Q} (start N vs) H :=by
 obtain⟨as, β, Kc, hl, nd, ra, hsp, fin⟩ :=h;have R0:Rel K β (mstart nN as) (start N vs) H :=entry_rel hN hle hl nd ra (by rw[he];exact Nat.zero_le _) (by rw[he];exact⟨rfl, fun _ _ z => (by cases z), fun _ _ => .inr rfl, fun a ha => (by cases ha)⟩);refine⟨β, mstart nN as, _, R0, hw as Kc hl hsp, ⟨fun α' m' σ' H' q hn R' x => ?_, fun r α' m' σ' v H' q hn R' rr x => ?_, fun _ _ _ _ z => z.elim, fun _ _ _ _ z => z.elim⟩⟩
 .obtain⟨O, F, _⟩ :=end_outs ra hn R' x;exact fin _ _ .non H' q O rr_non F
 .obtain⟨O, F, eβ⟩ :=end_outs ra hn R' x;have q' :=retK.ok q;exact fin _ _ v H' q'.2 O (end_res hn R' x eβ rr q'.1.at) F
end
structure FnM(P:Program)(w:World)(K:PySem.W.Frag)(mg:Str -> Option Value)(base:Heap)(x:Str)(k n:Nat)(sp:SpM):Prop where
 ex:∃(f:Addr) (fd:FuncData) (ps:List Str), FnOk P w K mg base CX0 k f fd ps (spOf ⟨K, w⟩ n sp) /\ mg x=some (.ref f) /\ PySem.W.keepIn K (.ref f)=true /\ Binds K fd ps []
 ar:∀as Kc, sp as Kc -> as.length=n
structure DefM(K:PySem.W.Frag)(mg:Str -> Option Value)(x:Str)(st:Stmt)(ps:List Str):Prop where
 ex:∃(f:Addr) (fd:FuncData), Fun K x x st f fd /\ mg x=some (.ref f) /\ Binds K fd ps []
theorem mk_fn{P:Program}{w:World}{K:PySem.W.Frag}{base:Heap}(D:DefM K mg x st ps)(S:FnScope N ps (defScope st))(hn:ps.length=n)(hN:N.length=nN)(hle:n ≤ nN)(ar:∀as Kc, sp as Kc -> as.length=n)
  (hbody:∀(cdv:Value) (A:Around) (outer:List Env) (s:Shared) (H:Hp) (E:XK) (f:Addr), Room k (A.deeper (envOfC x (defScope st) s.heap.objs.size f cdv)) ->
   ∃ww, MSs (cxOf CX0 P w K mg base N x (defScope st) f cdv A outer s H E).nox (defBody st) ww /\ ∀as Kc, as.length=n -> sp as Kc -> ww {nx :=fun m => Kc (.imm .none) (m.os.take m.np), rt :=fun r m => retK Kc m r} (mstart nN as)) :
  FnM P w K mg base x (k+1) n sp :=by
 obtain⟨f, fd, F, hm, hb⟩ :=D.ex;refine⟨⟨f, fd, ps, F.ok S (fun vs H Q E h => by rw[hn];exact h.len) (fun cdv A outer s H vs Q E hr h => ?_), hm, F.kp, hb⟩, ar⟩;obtain⟨ww, h1, h2⟩ :=hbody cdv A outer s H E f hr;exact⟨_, h1, fn_m (K :=(cxOf CX0 P w K mg base N x (defScope st) f cdv A outer s H E).nox.kx) rfl h hN hle h2⟩
section
variable {X:Cx}{a:Expr}{es:List Expr}{ws:WA}{pos p:Pos}{k n:Nat}{sp:SpM}{x:Str}
theorem me_callF(F:FnM X.prog X.w X.K X.mg X.base x k n sp)(hr:Room k X.A)(ha:MA X (a::es) ws)(hg:Gl X x :=by rfl)(hdb:(x==("__debug__" : Str))=false :=by decide)(he:starEach (a::es) X.env=(false, eval a X.env)::starEach es X.env :=by first|exact star_cons rfl|rfl)(hpl:(backTo pos (starEach es X.env)).any (·.1)=false :=by rfl) :
  ME X (.Call (.Name x p) (a::es) [] pos) (wCall sp ws) :=by
 obtain⟨f, fd, ps, G, hm, hk, hb⟩ :=F.ex;exact me_call (E :=E0) G hr hg hm hk hb pass0 F.ar ha hdb he hpl
theorem bt_len:bootBuiltins "len" = some (.builtin "len") :=by decide +kernel
theorem bt_abs:bootBuiltins "abs" = some (.builtin "abs") :=by decide +kernel
theorem bt_sum:bootBuiltins "sum" = some (.builtin "sum") :=by decide +kernel
theorem bt_max:bootBuiltins "max" = some (.builtin "max") :=by decide +kernel
theorem bt_list:bootBuiltins "list" = some (.type "list") :=by decide +kernel
theorem bt_tuple:bootBuiltins "tuple" = some (.type "tuple") :=by decide +kernel
theorem bt_int:bootBuiltins "int" = some (.type "int") :=by decide +kernel
theorem bt_enumerate:bootBuiltins "enumerate" = some (.type "enumerate") :=by decide +kernel
end
section
variable {m:MSt}{K:R -> MSt -> Prop}{Kb:Bool -> MSt -> Prop}{Ka:List R -> MSt -> Prop}{Kr:R -> Prop}{D:MEnds}{wa wb wc we wo wi:WE}{ws:WA}{wt wu:WT}{w u:WS}{o:WO}{d:PyData}{r r1 r2:R}{i j:Int}{k:Nat}
theorem x_seq(h:w {D with nx :=fun m' => u D m' } m):wSeq w u D m :=h
theorem x_next(h:D.nx m):wNext D m :=h
theorem x_bin(h:wa m fun r1 m1 => wb m1 fun r2 m2 => o r1 r2 m2 fun r => K r m2):wBin o wa wb m K :=h
theorem x_var(e:m.vs[n]?=some (some r))(h:K r m):wVar n m K :=⟨r, e, h⟩
theorem x_c(h:K (.imm d) m):wC d m K :=h
theorem x_ret(h:we m fun r m' => D.rt r m'):wRet we D m :=h
theorem x_drop(h:we m fun _ m' => D.nx m'):wDrop we D m :=h
theorem x_ifS(h:wt m fun c m' => if c=true then w D m' else u D m'):wIfS wt w u D m :=h
theorem x_ifE(h:wt m fun c m' => if c=true then wa m' K else wb m' K):wIfE wt wa wb m K :=h
theorem x_test(h:we m fun r m' => onBl (fun k => Kb k m') r):wTest we m Kb :=h
theorem x_and(h:wt m fun c m1 => if c=true then wu m1 Kb else Kb false m1):wAnd wt wu m Kb :=h
theorem x_or(h:wt m fun c m1 => if c=true then Kb true m1 else wu m1 Kb):wOr wt wu m Kb :=h
theorem x_not(h:wt m fun c m1 => Kb (!c) m1):wNot wt m Kb :=h
theorem x_onBl{P:Bool -> Prop}{b:Bool}(h:P b):onBl P (.imm (.bool b)) :=h
theorem x_onInt{P:Int -> Prop}(h:P i):onInt P (.imm (.int i)) :=h
theorem x_onObj{P:Nat -> Prop}(h:P k):onObj P (.obj k) :=h
theorem x_onImm{P:PyData -> Prop}(h:P d):onImm P (.imm d) :=h
theorem x_on1{P:R -> Prop}(h:P r):on1 P [r] :=h
theorem x_iteT(h:A):if true=true then A else B :=by rw[if_pos rfl];exact h
theorem x_iteF(h:B):if false=true then A else B :=by rw[if_neg Bool.false_ne_true];exact h
theorem x_ite{c:Prop}[Decidable c](h1:c -> A)(h2:¬c -> B):if decide c=true then A else B :=by
 by_cases h:c
 .rw[if_pos (decide_eq_true h)];exact h1 h
 .rw[if_neg (by rw[decide_eq_false h];exact Bool.false_ne_true)];exact h2 h
theorem x_un{ob:WU}(h:wa m fun r1 m1 => ob r1 m1 fun r => K r m1):wUn ob wa m K :=h
theorem x_neg(h:Kr (.imm (.int (-i)))):uNeg (.imm (.int i)) m Kr :=h
theorem x_imm(h:we m fun r m' => match r with| .imm d => K (.imm d) m' | .new ds => K (.imm (.list ds)) m'|_ => False):wImm we m K :=h
theorem x_nil(h:Ka [] m):wNil m Ka :=h
theorem x_cons(h:we m fun r m1 => ws m1 fun rs m2 => Ka (r::rs) m2):wCons we ws m Ka :=h
theorem x_tup(h:ws m fun rs m' => onAll (fun ds => K (.imm (.tuple ds)) m') (immAll rs)):wTup ws m K :=h
theorem x_lst(h:ws m fun rs m' => onAll (fun ds => K (.new ds) m') (immAll rs)):wLst ws m K :=h
theorem x_all{rs:List R}{P:List PyData -> Prop}(e:immAll rs=some ds)(hz:ds.length ≤ sizeLine)(h:P ds):onAll P (immAll rs) :=by rw[e];exact⟨hz, h⟩
theorem x_cb{oc:WC}(h:ws m fun rs m1 => oc rs m1 fun r => K r m1):wCB oc ws m K :=h
theorem x_call(h:ws m fun rs m1 => match toAgs m1 rs with|some (as, ks) => ks.Nodup /\ sp as fun r outs => K (mapR ks r) {m1 with os :=setAll m1.os ks outs}|none => False):wCall sp ws m K :=h
theorem x_ags{rs:List R}{P:List Ag -> List Nat -> Prop}(e:toAgs m rs=some (as, ks))(hn:ks.Nodup)(h:P as ks):match toAgs m rs with|some (as, ks) => ks.Nodup /\ P as ks|none => False :=by rw[e];exact⟨hn, h⟩
theorem x_set(h:we m fun r m' => bindR n D.nx m' r):wSet n we D m :=h
theorem x_bindI(h:P (m.setV n (.imm d))):bindR n P m (.imm d) :=.inl h
theorem x_bindN(h:P {vs :=m.vs.set n (some (.obj m.os.length)), os :=m.os ++ [ds], np :=m.np}):bindR n P m (.new ds) :=.inl (.inl h)
theorem x_asg(h:we m fun r m' => onImm (fun d => g d m' D.nx) r):wAsg we g D m :=h
theorem x_par{n':Nat}(h:ws m fun rs m' => match rs with|[.imm d1, .imm d2] => D.nx ((m'.setV n (.imm d1)).setV n' (.imm d2))|_ => False):wPar n n' ws D m :=h
theorem x_setI(h:we m fun rv m1 => onImm (fun d => wo m1 fun ro m2 => wi m2 fun ri m3 => onObj (fun k => onInt (fun z => ∃ds j, m3.os[k]?=some ds /\ ixN ds.length z=some j /\ D.nx {m3 with os :=m3.os.set k (ds.set j d)}) ri) ro) rv):wSetI we wo wi D m :=h
theorem x_put{k:Nat}{z:Int}{P:List PyData -> Nat -> Prop}(e1:m.os[k]?=some ds)(e2:ixN ds.length z=some n)(h:P ds n):∃ds j, m.os[k]?=some ds /\ ixN ds.length z=some j /\ P ds j :=⟨ds, n, e1, e2, h⟩
theorem x_ml{ob:WM}(h:wo m fun r m1 => (∃ds, lsOf m1 r=some ds) /\ ws m1 fun rs m2 => ob r rs m2 K):wML ob wo ws m K :=h
theorem x_ls{P:Prop}(e:lsOf m r=some ds)(h:P):(∃ds, lsOf m r=some ds) /\ P :=⟨⟨ds, e⟩, h⟩
theorem x_append(e:m.os[k]?=some ds)(hz:ds.length<sizeLine)(h:K (.imm .none) {m with os :=m.os.set k (ds ++ [d])}):oAppend (.obj k) [.imm d] m K :=⟨ds, e, hz, h⟩
theorem x_popAt(e:m.os[k]?=some ds)(hn:(n:Int)=i)(e2:ds[n]?=some d)(hs:ds.length ≤ sizeLine)(h:K (.imm d) {m with os :=m.os.set k (ds.eraseIdx n)}):oPopAt (.obj k) [.imm (.int i)] m K :=by
 subst hn;have hl:n<ds.length :=(List.getElem?_eq_some_iff.mp e2).1;have hs':ds.length ≤ 16777216 :=by rw[sizeLine_eq]at hs;exact hs
 refine⟨ds, n, d, e, ⟨by omega, by omega⟩, ?_, e2, h⟩;exact(ixN_seq (n :=ds.length) (i :=(n:Int)) (j :=n) (by unfold ixN;rw[if_pos (by omega), if_pos (by omega)];simp)).1
theorem x_addI(h:Kr (.imm (.int (i+j)))):oAdd (.imm (.int i)) (.imm (.int j)) m Kr :=h
theorem x_addT{a b:List PyData}(hz:a.length+b.length ≤ sizeLine)(h:Kr (.imm (.tuple (a ++ b)))):oAdd (.imm (.tuple a)) (.imm (.tuple b)) m Kr :=⟨hz, h⟩
theorem x_subI(h:Kr (.imm (.int (i-j)))):oSub (.imm (.int i)) (.imm (.int j)) m Kr :=⟨trivial, h⟩
theorem x_fdiv(hc:CFd i j)(h:Kr (.imm (.int (i/j)))):oFdiv (.imm (.int i)) (.imm (.int j)) m Kr :=⟨hc, h⟩
theorem x_mod(hc:0<j)(h:Kr (.imm (.int (i%j)))):oMod (.imm (.int i)) (.imm (.int j)) m Kr :=⟨hc, h⟩
theorem x_pow(hc:CPow i j)(h:Kr (.imm (.int (i^j.toNat)))):oPow (.imm (.int i)) (.imm (.int j)) m Kr :=⟨hc, h⟩
theorem x_lt(h:Kr (.imm (.bool (decide (i<j))))):oLt (.imm (.int i)) (.imm (.int j)) m Kr :=h
theorem x_le(h:Kr (.imm (.bool (decide (i ≤ j))))):oLe (.imm (.int i)) (.imm (.int j)) m Kr :=h
theorem x_gt(h:Kr (.imm (.bool (decide (j<i))))):oGt (.imm (.int i)) (.imm (.int j)) m Kr :=h
theorem x_ge(h:Kr (.imm (.bool (decide (j ≤ i))))):oGe (.imm (.int i)) (.imm (.int j)) m Kr :=h
theorem x_eq{d1 d2:PyData}(e1:asD m r1=some d1)(e2:asD m r2=some d2)(s1:SeqAt.shaped d1=true)(s2:SeqAt.shaped d2=true)(h:Kr (.imm (.bool (PyData.eqv d1 d2)))):oEq r1 r2 m Kr :=by refine Or.inl ?_;unfold eqD;rw[e1, e2];exact⟨s1, s2, h⟩
theorem x_ne{d1 d2:PyData}(e1:asD m r1=some d1)(e2:asD m r2=some d2)(s1:SeqAt.shaped d1=true)(s2:SeqAt.shaped d2=true)(h:Kr (.imm (.bool (!PyData.eqv d1 d2)))):oNe r1 r2 m Kr :=by refine Or.inl ?_;unfold eqD;rw[e1, e2];exact⟨s1, s2, h⟩
theorem x_eqI(h:Kr (.imm (.bool (decide (i=j))))):oEq (.imm (.int i)) (.imm (.int j)) m Kr :=x_eq rfl rfl rfl rfl (by simp only[PyData.eqv];rw[Bool.beq_eq_decide_eq];exact h)
theorem x_eqS(h:Kr (.imm (.bool (decide (x=y))))):oEq (.imm (.str x)) (.imm (.str y)) m Kr :=Or.inr (Or.inl ⟨x, y, rfl, rfl, h⟩)
theorem x_neS(h:Kr (.imm (.bool (!decide (x=y))))):oNe (.imm (.str x)) (.imm (.str y)) m Kr :=Or.inr ⟨x, y, rfl, rfl, h⟩
theorem x_isNotN(h:Kr (.imm (.bool (!isNone r)))):oIsNotN r (.imm .none) m Kr :=⟨rfl, h⟩
theorem x_itemT(e:atI ds i=some d)(h:Kr (.imm d)):oItem (.imm (.tuple ds)) (.imm (.int i)) m Kr :=⟨d, e, h⟩
theorem x_itemL(e:atI ds i=some d)(h:Kr (.imm d)):oItem (.imm (.list ds)) (.imm (.int i)) m Kr :=⟨ds, d, rfl, e, h⟩
theorem x_itemO(e1:m.os[k]?=some ds)(e:atI ds i=some d)(h:Kr (.imm d)):oItem (.obj k) (.imm (.int i)) m Kr :=⟨ds, d, e1, e, h⟩
theorem x_itemN(e:atI ds i=some d)(h:Kr (.imm d)):oItem (.new ds) (.imm (.int i)) m Kr :=⟨ds, d, rfl, e, h⟩
theorem x_len{rs:List R}(h:on1 (lenR m Kr) rs):oLen rs m Kr :=h
theorem x_lenT(h:Kr (.imm (.int ds.length))):lenR m Kr (.imm (.tuple ds)) :=h
theorem x_lenL(h:Kr (.imm (.int ds.length))):lenR m Kr (.imm (.list ds)) :=⟨ds, rfl, h⟩
theorem x_lenO(e:m.os[k]?=some ds)(h:Kr (.imm (.int ds.length))):lenR m Kr (.obj k) :=⟨ds, e, h⟩
theorem x_abs(h:Kr (.imm (.int (if i<0 then -i else i)))):oAbs [.imm (.int i)] m Kr :=h
theorem x_intB{b:Bool}(h:Kr (.imm (.int (if b then 1 else 0)))):oInt [.imm (.bool b)] m Kr :=h
theorem x_list(e:sqOf m r=some ds)(h:Kr (.new ds)):oList [r] m Kr :=⟨ds, e, h⟩
theorem x_tuple(e:sqOf m r=some ds)(h:Kr (.imm (.tuple ds))):oTuple [r] m Kr :=⟨ds, e, h⟩
theorem x_sl(h:we m fun r m1 => wl m1 fun l m2 => wh m2 fun u m3 => ob r l u m3 fun r' => K r' m3):wSl ob we wl wh m K :=h
theorem x_noPart(h:Ko none m):wNoPart m Ko :=h
theorem x_part(h:we m fun r m' => onInt (fun i => Ko (some i) m') r):wPart we m Ko :=h
theorem x_gM(h:P (m.setV n (.imm d))):gM n d m P :=h
theorem x_gNil(h:P m):gMNil [] m P :=⟨rfl, h⟩
theorem x_gCons(h:g d m fun m' => gs ds m' P):gMCons g gs (d::ds) m P :=h
theorem x_gTup(e:ds.length=n)(h:gs ds m P):gMTup n gs (.tuple ds) m P :=⟨e, h⟩
theorem x_for{wi:WI}(h:wi m fun s m1 => wLoop s g w D m1):wFor wi g w D m :=h
theorem x_iseq(h:we m fun r m' => srcR m' Ks r):wiSeq we m Ks :=h
theorem x_srcL(h:Ks ⟨ds, none⟩ m):srcR m Ks (.imm (.list ds)) :=h
theorem x_srcT(h:Ks ⟨ds, none⟩ m):srcR m Ks (.imm (.tuple ds)) :=h
theorem x_srcO(e:m.os[k]?=some ds)(h:Ks ⟨ds, some k⟩ m):srcR m Ks (.obj k) :=⟨ds, e, h⟩
theorem x_rng1(h:ws m fun rs m' => match rs with|[.imm (.int j)] => -(2^62) ≤ j /\ j<2^62 /\ Ks ⟨rangeD 0 j.toNat, none⟩ m'|_ => False):wiRng1 ws m Ks :=h
theorem x_ifT(h:wt m fun b m' => if b=true then w D m' else D.nx m'):wIfT wt w D m :=h
theorem x_noTest(h:Kb true m):wNoTest m Kb :=h
theorem x_emit(h:we m fun r m' => onImm (fun d => ∃ds, m'.os[q]?=some ds /\ ds.length<sizeLine /\ D.nx {m' with os :=m'.os.set q (ds ++ [d])}) r):wEmit q we D m :=h
end
theorem x_start{m:MSt}(m':MSt)(e:m=m')(h:w D m'):w D m :=e ▸ h
theorem mulok{i j:Int}(h:(-18446744073709551616<i /\ i<18446744073709551616) \/ (-18446744073709551616<j /\ j<18446744073709551616)):IntMulOk i j :=CMul.ok (by unfold CMul;exact h)
theorem cfd{i j:Int}(h0:0<j)(h1:j<1152921504606846976):CFd i j :=⟨h0, by
 have:j.natAbs<2^60 :=by omega
 have :=(Nat.log2_lt (by omega)).mpr this;omega⟩
theorem canLay_ints:∀ns:List Int, PyData.canLayAll0 (ns.map .int)=true
 |[] => rfl
 |n::ns => by simp only[List.map_cons, PyData.canLayAll0, PyData.canLay0, canLay_ints ns, Bool.and_self]
theorem depth_ints:∀ns:List Int, PyData.depthAll (ns.map .int) ≤ 1
 |[] => Nat.zero_le 1
 |n::ns => by
  have :=depth_ints ns;rw[List.map_cons];simp only[PyData.depthAll, PyData.depth];omega
theorem shaped_ints(ns:List Int):SeqAt.shaped (.list (ns.map .int))=true :=by
 have h :=depth_ints ns;have h2:(PyData.list (ns.map .int)).depth ≤ 64 :=by simp only[PyData.depth];omega
 have h3:(PyData.list (ns.map .int)).canLay0=true :=by simp only[PyData.canLay0, canLay_ints]
 unfold SeqAt.shaped;rw[h3, decide_eq_true h2];rfl
theorem atI_lt{α:Type}{xs:List α}{i:Int}(h0:0 ≤ i)(h1:i<xs.length):∃d, xs[i.toNat]?=some d /\ atI xs i=some d :=by
 have hl:i.toNat<xs.length :=by omega
 refine⟨xs[i.toNat], List.getElem?_eq_getElem hl, ?_⟩;unfold atI ixN;rw[if_pos h0, if_pos h1];exact List.getElem?_eq_getElem hl
theorem atI_ints{i:Int}(h0:0 ≤ i)(h1:i<ns.length):∃x:Int, atI (ns.map PyData.int) i=some (.int x) :=by
 obtain⟨d, e, h⟩ :=atI_lt (xs :=ns.map PyData.int) h0 (by rw[List.length_map];exact h1);rw[List.getElem?_map]at e
 cases q:ns[i.toNat]? with
 |none => rw[q]at e;cases e
 |some x => rw[q]at e;cases e;exact⟨x, h⟩
section
variable {X:Cx}{tg a b c e:Expr}{es:List Expr}{wo wa wb wc we wi:WE}{ws:WA}{pos p p2:Pos}
def intsOf:List PyData -> Option (List Int)
 |[] => some []
 | .int i::ds => (intsOf ds).map (i :: ·)
 |_::_ => none
theorem intsOf_map(h:intsOf ds=some ns):ds=ns.map .int :=by
 induction ds generalizing ns with
 |nil => cases h;rfl
 | cons d ds ih =>
  cases d with
  |int i =>
   simp only[intsOf]at h
   cases q:intsOf ds with
   |none => rw[q]at h;cases h
   |some ms => rw[q]at h;cases h;rw[ih q];rfl
  |none => cases h
  |bool _ => cases h
  |str _ => cases h
  |list _ => cases h
  |tuple _ => cases h
  |dict _ => cases h
theorem intsOf_ints:∀ns:List Int, intsOf (ns.map .int)=some ns
 |[] => rfl
 |n::ns => by simp only[List.map_cons, intsOf, intsOf_ints ns, Option.map_some]
theorem denAll_ints{K:Kd}{H:Hp}:∀{ns:List Int}{xs:List V}, DenAll K H (ns.map .int) xs -> xs=ns.map V.int
 |[], _, h => by simpa only[List.map_nil, DenAll]using h
 |n::ns, _, h => by
  simp only[List.map_cons, DenAll]at h;obtain⟨v, vs, rfl, h1, h2⟩ :=h;have e :=int_of_den (K :=K) (H :=H) h1;rw[e, denAll_ints h2];rfl
def oSum:WC :=fun rs m K => on1 (fun r => ∃ds ns, lsOf m r=some ds /\ intsOf ds=some ns /\ K (.imm (.int ns.sum))) rs
theorem call_sumM(hc:X.calm=true):CallR X (.builtin "sum") (cM X.kx oSum) :=by
 rintro pins s σ' H xs us Q I rv ⟨α, m, σ, H0, rs, Kc, Rl, h, ho, fin⟩;obtain⟨r, v, rfl, rfl, h1, ds, ns, el, ei, ho⟩ :=on_one h ho;obtain⟨a, ys, rfl, f, g⟩ :=h1.list Rl el;rw[intsOf_map ei]at g;have ey :=denAll_ints g;subst ey;obtain⟨u, rfl, ru⟩ :=rv.one;cases ru;obtain⟨its, rv1, pl, _⟩ :=I.list f;have hi :=intsAre_of rv1;have hall:AllInts its.toArray :=hi.allInts;obtain⟨xs, ex⟩ :=hall.items;have hl:s.heap.IsList a (intItems xs) :=by rw[<- ex];exact pl.isList
 refine sum_intListG (I.ok.hd hc) hl fun h' tk t' hk => ?_;have e1:preSum (numAt xs) xs.size=ns.sum :=by
  have e2:(numsOf its).sum=ns.sum :=by rw[hi.numsOf]
  rw[<- e2];have e3 :=congrArg Array.toList ex;have e4:its=(intItems xs).toList :=by simpa using e3
  rw[e4, nums_intItems, preSum_eq, List.take_of_length_le (by simp)]
 rw[e1];exact⟨.int ns.sum, H, I.kept (t' :=tk) hk, ⟨_, rfl⟩, fin _ _ H ho Rl (rr_int _) (Frm.refl _ _)⟩
end
section
variable {X:Cx}{tg a:Expr}{ws:WA}{p p2 pos pos2:Pos}
def tListR(ta:TA):TE :=fun σ H Q => ta σ H fun vs H1 => ∃j:Int, vs=[.int j] /\ -(2^62) ≤ j /\ j ≤ 16777216 /\ ∀l, H1 l=none -> Q (.ref l) (upd H1 l (.lst ((List.range j.toNat).map fun(i:Nat) => V.int (i:Int))))
theorem pe_listR{ta:TA}(hc:X.calm=true)(hgr:Gl X "list")(hmr:X.mg "list" = none)(hg:Gl X "range")(hm:X.mg "range" = none)(ha:PA X [a] ta)(hs:starEach [a] X.env=[(false, eval a X.env)] :=by first|exact star_one rfl|rfl)
  (hs2:starEach [.Call (.Name "range" p2) [a] [] pos2] X.env=[(false, eval (.Call (.Name "range" p2) [a] [] pos2) X.env)] :=by rfl):PE X (.Call (.Name "list" p) [.Call (.Name "range" p2) [a] [] pos2] [] pos) (tListR ta) :=by
 intro pins s σ H Q I h;refine Call_ (ld_blt I hgr hmr bt_list (PyProof.Rows.callWith_type1 ?_ hs2 rfl));rw[hs2];refine Calls.spliced_cons ?_;refine Call_ (ld_blt I hg hm boot_range (PyProof.Rows.callWith_type1 (thn (ha pos2 pins s σ H _ I h) fun us s1 ⟨vs, H1, I1, r1, q1⟩ => ?_) hs rfl));obtain⟨j, e, q1, q2, q⟩ :=q1;subst e
 cases r1 with
 | cons r rr =>
  cases rr;obtain⟨t, rfl⟩ :=r;refine call_range_1 ?_;refine Calls.spliced_nil ?_;have I2:Inv X pins σ H1 {s1 with heap :=s1.heap.push {cls :=.type "range", data :=.fields #[.int 0 s1.toks, .int j t, .int 1 (s1.toks+1)]}, toks :=s1.toks+1+1} :=I1.kept fun b o e => Heap.get?_push_of_some _ e;have hr:IsRange (s1.heap.push {cls :=.type "range", data :=.fields #[.int 0 s1.toks, .int j t, .int 1 (s1.toks+1)]}) s1.heap.objs.size 0 j 1 s1.toks t (s1.toks+1) :=IsRange.new ..;generalize hS:({s1 with heap :=s1.heap.push {cls :=.type "range", data :=.fields #[.int 0 s1.toks, .int j t, .int 1 (s1.toks+1)]}, toks :=s1.toks+1+1}:Shared)=s2 at I2⊢;have hr2:IsRange s2.heap s1.heap.objs.size 0 j 1 s1.toks t (s1.toks+1) :=by rw[<- hS];exact hr
  refine call_list_range (n :=j.toNat) (I.ok.hd hc) hr2 (small_one (by decide) (by decide) (by omega) (by omega)) (by rw[rangeSize_one];split<;>omega) (by omega) fun h' tk acc' c' hk hS' hacc => ?_;have hp:H1 s2.heap.objs.size=none :=I2.fresh;have hv:Vals ((List.range j.toNat).map fun(i:Nat) => V.int (i:Int)) acc'.toList :=by
   have hl:acc'.toList.length=j.toNat :=by simpa using hacc.1
   have:∀(n:Nat) (l:List Value), l.length=n -> ∀k:Nat, (∀i v, l[i]?=some v -> ∃t, v=Value.int (0+((k+i:Nat):Int)*1) t) -> Vals ((List.range' k n).map fun(i:Nat) => V.int (i:Int)) l :=by
    intro n
    induction n with
    |zero => intro l h0 k _;cases l with|nil => exact .nil|cons _ _ => simp at h0
    | succ n ih =>
     intro l h0 k hh
     cases l with
     |nil => simp at h0
     |cons v l =>
      rw[List.range'_succ, List.map_cons];refine .cons ?_ (ih l (by simpa using h0) (k+1) fun i v hi => ?_)
      .obtain⟨t, e⟩ :=hh 0 v rfl;exact⟨t, by rw[e];congr 1;omega⟩
      .obtain⟨t, e⟩ :=hh (i+1) v (by simpa using hi);exact⟨t, by rw[e];congr 1;omega⟩
   have :=this j.toNat acc'.toList hl 0 fun i v hi => by
    obtain⟨t, e⟩ :=hacc.2 i v (by simpa using hi);exact⟨t, by rw[e];congr 1;omega⟩
   rw[List.range_eq_range'];exact this
  refine⟨.ref s2.heap.objs.size, _, I2.laid (t' :=tk) (o :=.lst _) hk (Nat.le_refl _) ⟨?_, acc'.toList, c', hv, by simpa using hS'⟩, rfl, q _ hp⟩;rw[List.length_map, List.length_range, sizeLine_eq];omega
def wListR(ws:WA):WE :=fun m K => ws m fun rs m' => on1 (onInt fun j => (-(2^62) ≤ j /\ j ≤ 16777216) /\ K (.new (rangeD 0 j.toNat)) m') rs
theorem me_listR(hmr:X.mg "list" = none)(hm:X.mg "range" = none)(ha:MA X [a] ws)(hc:X.calm=true :=by rfl)(hgr:Gl X "list" :=by rfl)(hg:Gl X "range" :=by rfl)(hs:starEach [a] X.env=[(false, eval a X.env)] :=by first|exact star_one rfl|rfl)
  (hs2:starEach [.Call (.Name "range" p2) [a] [] pos2] X.env=[(false, eval (.Call (.Name "range" p2) [a] [] pos2) X.env)] :=by rfl):ME X (.Call (.Name "list" p) [.Call (.Name "range" p2) [a] [] pos2] [] pos) (wListR ws) :=(pe_listR hc hgr hmr hg hm ha hs hs2).wk fun σ H Q ⟨α, m, Kc, Rl, hw, fin⟩ => by
 refine⟨α, m, _, Rl, hw, fun rs m' vs H' k n Rl' rr F => ?_⟩;obtain⟨r, v, rfl, rfl, h1, k⟩ :=on_one rr k;obtain⟨j, rfl, rfl, ⟨k1, k2⟩, k⟩ :=on_int h1 k;refine⟨j, rfl, k1, k2, fun l hl => fin _ m' _ _ k n (Rl'.lay hl) (RelR.base Rl' F (show RelR X.kx α H' _ (.new (rangeD 0 j.toNat)) (.ref l)from⟨l, _, rfl, hl, upd_same, ?_⟩)) (F.trans (frm_upd hl))⟩;have e:rangeD 0 j.toNat=((List.range j.toNat).map fun(i:Nat) => (i:Int)).map PyData.int :=by simp[rangeD]
 have e2:((List.range j.toNat).map fun(i:Nat) => V.int (i:Int))=((List.range j.toNat).map fun(i:Nat) => (i:Int)).map V.int :=by simp
 rw[e, e2];exact DenAll.ints _
theorem x_listR{m:MSt}{K:R -> MSt -> Prop}(h:ws m fun rs m' => on1 (onInt fun j => (-(2^62) ≤ j /\ j ≤ 16777216) /\ K (.new (rangeD 0 j.toNat)) m') rs):wListR ws m K :=h
end
theorem x_loop0(P:Nat -> MSt -> Prop)(p0:P 0 m1)
  (step:∀(i:Nat) (d:PyData) (m:MSt), ds[i]?=some d -> m.np=m1.np -> P i m -> g d m fun m2 => w {nx :=P (i+1), ct :=P (i+1), bk :=fun m' => D.nx (m'.setN m1.np), rt :=fun r m' => D.rt r (m'.setN m1.np)} m2)
  (fin:∀m, m.np=m1.np -> P ds.length m -> D.nx m):wLoop ⟨ds, none⟩ g w D m1 :=by
 refine⟨P, p0, fun i d m e n p => ⟨trivial, step i d m e n p⟩, fun m n p => ⟨trivial, ?_⟩⟩;have e:m.setN m1.np=m :=by
  obtain⟨a, b, c⟩ :=m;have n':c=m1.np :=n;subst n';rfl
 rw[e];exact fin m n p
theorem x_loopO(P:Nat -> MSt -> Prop)(p0:P 0 (m1.setN (max m1.np (k+1))))
  (ok:∀i m, P i m -> m.os[k]?=some ds)
  (step:∀(i:Nat) (d:PyData) (m:MSt), ds[i]?=some d -> m.np=max m1.np (k+1) -> P i m -> g d m fun m2 => w {nx :=P (i+1), ct :=P (i+1), bk :=fun m' => D.nx (m'.setN m1.np), rt :=fun r m' => D.rt r (m'.setN m1.np)} m2)
  (fin:∀m, m.np=max m1.np (k+1) -> P ds.length m -> D.nx (m.setN m1.np)):wLoop ⟨ds, some k⟩ g w D m1 :=
 ⟨P, p0, fun i d m e n p => ⟨ok i m p, step i d m e n p⟩, fun m n p => ⟨ok _ m p, fin m n p⟩⟩
theorem x_while{t:WT}{m0:MSt}(P:Nat -> MSt -> Prop)(n0:Nat)(p0:P n0 m0)
  (step:∀n m, m.np=m0.np -> P n m -> t m fun c m' => if c=true then w {D with nx :=fun m2 => ∃n', n'<n /\ P n' m2, ct :=fun m2 => ∃n', n'<n /\ P n' m2, bk :=D.nx} m' else D.nx m'):wWhile t w D m0 :=⟨P, ⟨n0, p0⟩, step⟩
theorem cutD_all(h:ds.length ≤ n):cutD ds none (some (n:Int))=ds :=by
 unfold cutD;rw[HT.sIx_none, HT.sIx_nat, Nat.min_eq_right h, Nat.sub_zero, List.drop_zero, List.take_length]
theorem x_comp1{m:MSt}{K:R -> MSt -> Prop}{ps:List Nat}{tt:WT}{we:WE}(h:wi m fun s m1 => wLoop s g (wIfT tt (wEmit m1.os.length we)) {nx :=fun m' => K (.new (m'.os.getD m1.os.length [])) {m1 with os :=m'.os.take m1.os.length}, rt :=fun _ _ => False} (compM own ps m1)):wComp1 wi own ps g tt we m K :=h
theorem ixN_nat(h:k<n):ixN n (k:Int)=some k :=by
 unfold ixN;rw[if_pos (by omega), if_pos (by omega)];simp
theorem getD_of{α:Type}{xs:List α}{d x:α}(h:xs[k]?=some x):xs.getD k d=x :=by
 rw[List.getD_eq_getElem?_getD, h];rfl
theorem x_J{w:WE}{m:MSt}{K:R -> MSt -> Prop}(Φ:R -> MSt -> Prop)(h:∀K':R -> MSt -> Prop, (∀r m', Φ r m' -> K' r m') -> w m K')(J:∀r m', Φ r m' -> K r m'):w m K :=h K J
theorem x_JS{m:MSt}(Φ:MSt -> Prop)(h:∀N:MSt -> Prop, (∀m', Φ m' -> N m') -> w {D with nx :=N} m)(J:∀m', Φ m' -> D.nx m'):w D m :=h D.nx J
structure Shp(k:Nat)(d:PyData):Prop where
 cl:d.canLay0=true
 dp:d.depth ≤ k
theorem Shp.mono{k':Nat}{d:PyData}(h:Shp k d)(hk:k ≤ k'):Shp k' d :=⟨h.cl, Nat.le_trans h.dp hk⟩
theorem Shp.ok{d:PyData}(h:Shp k d)(hk:k ≤ 64):SeqAt.shaped d=true :=by
 unfold SeqAt.shaped;rw[h.cl, decide_eq_true (Nat.le_trans h.dp hk)];rfl
theorem shp_none:Shp 0 .none :=⟨rfl, Nat.le_refl _⟩
theorem shp_bool(b:Bool):Shp 0 (.bool b) :=⟨rfl, Nat.le_refl _⟩
theorem shp_int(i:Int):Shp 0 (.int i) :=⟨rfl, Nat.le_refl _⟩
theorem shp_all{k:Nat}:∀{ds:List PyData}, (∀d ∈ ds, Shp k d) -> PyData.canLayAll0 ds=true /\ PyData.depthAll ds ≤ k
 |[], _ => ⟨rfl, by simp[PyData.depthAll]⟩
 |d::ds, h => by
  obtain⟨h1, h2⟩ :=shp_all fun d' h' => h d' (List.mem_cons_of_mem _ h');have h0 :=h d List.mem_cons_self;refine⟨?_, ?_⟩
  .simp only[PyData.canLayAll0];rw[h0.cl, h1];rfl
  .show max d.depth (PyData.depthAll ds) ≤ k;have :=h0.dp;omega
theorem shp_tuple(h:∀d ∈ ds, Shp k d):Shp (k+1) (.tuple ds) :=by
 obtain⟨h1, h2⟩ :=shp_all h;exact⟨by simp only[PyData.canLay0];exact h1, by show PyData.depthAll ds+1 ≤ _;omega⟩
theorem script_den(hO:Only H)(h:SqL K H a (ns.map V.int)):Den K H (.list (ns.map .int)) (.ref a) :=by
 simp only[Den];refine⟨a, _, rfl, ?_, DenAll.ints _⟩;rcases h with(h|⟨o, h⟩)|h
 .rcases hO a with z|⟨o, xs, z⟩
  .rw[h]at z;cases z
  .rw[h]at z;cases z
 .exact .inl ⟨o, h⟩
 .exact .inr h
theorem mk_fnE{P:Program}{w:World}{K:PySem.W.Frag}{base:Heap}(F:Fun K x x st f fd)(S:FnScope N ps (defScope st))(hn:ps.length=n)(hN:N.length=nN)(hle:n ≤ nN)
  (hbody:∀(cdv:Value) (A:Around) (outer:List Env) (s:Shared) (H:Hp) (E:XK) (f:Addr), Room k (A.deeper (envOfC x (defScope st) s.heap.objs.size f cdv)) ->
   ∃ww, MSs (cxOf CX0 P w K mg base N x (defScope st) f cdv A outer s H E).nox (defBody st) ww /\ ∀as Kc, as.length=n -> sp as Kc -> ww {nx :=fun m => Kc (.imm .none) (m.os.take m.np), rt :=fun r m => retK Kc m r} (mstart nN as)) :
  FnOk P w K mg base CX0 (k+1) f fd ps (spOf ⟨K, w⟩ n sp) :=by
 refine F.ok S (fun vs H Q E h => by rw[hn];exact h.len) (fun cdv A outer s H vs Q E hr h => ?_);obtain⟨ww, h1, h2⟩ :=hbody cdv A outer s H E f hr;exact⟨_, h1, fn_m (K :=(cxOf CX0 P w K mg base N x (defScope st) f cdv A outer s H E).nox.kx) rfl h hN hle h2⟩
structure DefK(K:PySem.W.Frag)(x:Str)(st:Stmt):Prop where
 ex:∃(f:Addr) (fd:FuncData), PySem.W.nsIn K mainGlobals x=some (some (.ref f)) /\ Fun K x x st f fd
theorem DefK.of{K:PySem.W.Frag}{oc kV doc pm cdv ct:Value}{an:Option Addr}{sl:Array (Option Value)}(a:PySem.W.nsIn K mainGlobals x=some (some (.ref f)))
  (l:K.lookup f=some ⟨oc, od, .func (PySem.W.fnOf x x (defArgs st) (defBody st) (defScope st) .none kV doc pm an cdv ct), sl⟩) (c:PySem.W.codeIn K cdv x=true) (k:PySem.W.keepIn K (.ref f)=true):DefK K x st :=⟨f, _, a, fun_mk l c k⟩
theorem DefK.m{K:PySem.W.Frag}{h:Heap}(D:DefK K x st)(X:K.In h)(G:h.Ns mainGlobals mg)(b:∀(f:Addr) (fd:FuncData), Fun K x x st f fd -> Binds K fd ps []):DefM K mg x st ps :=by
 obtain⟨f, fd, a, F⟩ :=D.ex;exact⟨f, fd, F, PySem.W.mg_of X G a, b f fd F⟩
structure EE(X:Cx)(e:Expr)(w:WE):Prop where
 h:ME X e w
structure ET(X:Cx)(e:Expr)(w:WT):Prop where
 h:MT X e w
structure EW(X:Cx)(e:Expr)(w:WT):Prop where
 h:MW X e w
structure EA(X:Cx)(es:List Expr)(w:WA):Prop where
 h:MA X es w
structure ES(X:Cx)(st:Stmt)(w:WS):Prop where
 h:MS X st w
structure ESs(X:Cx)(st:List Stmt)(w:WS):Prop where
 h:MSs X st w
structure EI(X:Cx)(tg e:Expr)(w:WI):Prop where
 h:MI X tg e w
structure EG(X:Cx)(t:Expr)(w:WG):Prop where
 h:MG X t w
structure EGs(X:Cx)(ts:List Expr)(w:WGs):Prop where
 h:MGs X ts w
structure EO(X:Cx)(e:Option Expr)(w:WO1):Prop where
 h:MO X e w
structure ETs(X:Cx)(ifs:List Expr)(w:WT):Prop where
 h:PTs X ifs (tMT X.kx w)
theorem EW.pt{w:WT}(h:EW X e w):ET X e w :=⟨h.h.pt⟩
section
variable {X:Cx}{a b c:Expr}{es:List Expr}{wa wb wc:WE}{pos:Pos}
theorem mh'{i j pos}:EE X (.Constant (.int i) j pos) (wC (.int i)) :=⟨me_int⟩
theorem me_bl'{i j pos}:EE X (.Constant (.bool i) j pos) (wC (.bool i)) :=⟨me_bl⟩
theorem me_str'{i j pos}:EE X (.Constant (.str i) j pos) (wC (.str i)) :=⟨me_str⟩
theorem me_non'{j pos}:EE X (.Constant .none j pos) (wC .none) :=⟨me_non⟩
theorem mv'(i:Nat){pos:Pos}(hN:X.N[i]?=some x :=by rfl)(hv:Vis X.env.scope x :=by first|exact Or.inl rfl|exact Or.inr (Or.inl rfl)|exact Or.inr (Or.inr rfl))(hd:(x==("__debug__" : Str))=false :=by decide)(hcd:(x==("__classdict__" : Str))=false :=by decide):EE X (.Name x pos) (wVar i) :=⟨mv i hN hv hd hcd⟩
theorem me_bin'{op:Operator}(ho:OpR X (binaryOp op) (rM X.kx o))(ha:EE X a wa)(hb:EE X b wb):EE X (.BinOp a op b pos) (wBin o wa wb) :=⟨me_bin ho ha.h hb.h⟩
theorem me_cmp'(ho:OpR X (compareOp op) (rM X.kx o))(ha:EE X a wa)(hb:EE X b wb)(hm:behindInMarks op b=false):EE X (.Compare a [op] [b] pos) (wBin o wa wb) :=⟨me_cmp ho ha.h hb.h hm⟩
theorem mt_cmp'(ho:OpR X (compareOp op) (rM X.kx o))(ha:EE X a wa)(hb:EE X b wb)(hm:behindInMarks op b=false):ET X (.Compare a [op] [b] pos) (wTest (wBin o wa wb)) :=⟨mt_cmp ho ha.h hb.h hm⟩
theorem mt_val'(ha:EE X a wa)(he:∀whole, isTrue a X.env whole=(do let v <- whole;standAt a.pos;holding [v] (truthy v)) :=by intro _;rfl):ET X a (wTest wa) :=⟨mt_val ha.h he⟩
end
section
variable {X:Cx}{a b c:Expr}{es:List Expr}{wa wb wc:WE}{pos:Pos}
variable {wt wu:WT}{rest:List Expr}
theorem mw_and1'(ha:ET X a wt):EW X (.BoolOp .And [a] pos) wt :=⟨mw_and1 ha.h⟩
theorem mw_or1'(ha:ET X a wt):EW X (.BoolOp .Or [a] pos) wt :=⟨mw_or1 ha.h⟩
theorem mw_and'(ha:ET X a wt)(hb:EW X (.BoolOp .And (b::rest) pos) wu):EW X (.BoolOp .And (a::b::rest) pos) (wAnd wt wu) :=⟨mw_and ha.h hb.h⟩
theorem mw_or'(ha:ET X a wt)(hb:EW X (.BoolOp .Or (b::rest) pos) wu):EW X (.BoolOp .Or (a::b::rest) pos) (wOr wt wu) :=⟨mw_or ha.h hb.h⟩
theorem mt_not'(ha:ET X a wt):ET X (.UnaryOp .Not a pos) (wNot wt) :=⟨mt_not ha.h⟩
theorem me_if'(ht:ET X t wt)(ha:EE X a wa)(hb:EE X b wb):EE X (.IfExp t a b pos) (wIfE wt wa wb) :=⟨me_if ht.h ha.h hb.h⟩
theorem me_un'{op:UnaryOp}{o:WU}(ho:UnR X (unaryOp op) (uM X.kx o))(ha:EE X a wa):EE X (.UnaryOp op a pos) (wUn o wa) :=⟨me_un ho ha.h⟩
theorem me_imm'(ha:EE X a wa):EE X a (wImm wa) :=⟨me_imm ha.h⟩
end
section
variable {X:Cx}{a b c:Expr}{es:List Expr}{wa wb wc:WE}{pos:Pos}
variable {wt wu:WT}{rest:List Expr}
variable {ws:WA}
theorem mn'  : EA X [] wNil :=⟨ma_nil⟩
theorem mc'(ha:EE X a wa)(hr:EA X es ws)(hs:starEach (a::es) X.env=(false, eval a X.env)::starEach es X.env :=by first|exact star_cons rfl|rfl):EA X (a::es) (wCons wa ws) :=⟨ma_cons ha.h hr.h hs⟩
theorem me_tup'{x1}(h:EA X es ws):EE X (.Tuple es x1 pos) (wTup ws) :=⟨me_tup h.h⟩
theorem me_lst'(h:EA X es ws):EE X (.List es pos) (wLst ws) :=⟨me_lst h.h⟩
theorem me_callB'{id:String}{o:WC}(hc:CallR X (.builtin id) (cM X.kx o))(hg:Gl X x)(hm:X.mg x=none)(hv:bootBuiltins x=some (.builtin id))(ha:EA X (a::es) ws)(hn:x ≠ "__name__" :=by decide)(hdb:(x==("__debug__" : Str))=false :=by decide)(he:starEach (a::es) X.env=(false, eval a X.env)::starEach es X.env :=by first|exact star_cons rfl|rfl)(hpl:(backTo pos (starEach es X.env)).any (·.1)=false :=by rfl):EE X (.Call (.Name x p) (a::es) [] pos) (wCB o ws) :=⟨me_callB hc hg hm hv ha.h hn hdb he hpl⟩
theorem me_callTy'{T:String}{o:WC}(hc:CallR X (.type T) (cM X.kx o))(hg:Gl X x)(hm:X.mg x=none)(hv:bootBuiltins x=some (.type T))(ha:EA X (a::es) ws)(hn:x ≠ "__name__" :=by decide)(hdb:(x==("__debug__" : Str))=false :=by decide)(he:starEach (a::es) X.env=(false, eval a X.env)::starEach es X.env :=by first|exact star_cons rfl|rfl)(hpl:(backTo pos (starEach es X.env)).any (·.1)=false :=by rfl):EE X (.Call (.Name x p) (a::es) [] pos) (wCB o ws) :=⟨me_callTy hc hg hm hv ha.h hn hdb he hpl⟩
end
section
variable {X:Cx}{a b c e:Expr}{es:List Expr}{wa wb wc we:WE}{pos:Pos}{st:Stmt}{rest:List Stmt}{w u:WS}
theorem mss_nil'  : ESs X [] wNext :=⟨mss_nil⟩
theorem mz'(h1:ES X st w)(h2:ESs X rest u):ESs X (st::rest) (wSeq w u) :=⟨mss_cons h1.h h2.h⟩
theorem mss_one'(h1:ES X st w):ESs X [st] w :=⟨mss_one h1.h⟩
end
section
variable {X:Cx}{a b c e:Expr}{es:List Expr}{wa wb wc we:WE}{ws:WA}{wt:WT}{pos:Pos}{st:Stmt}{rest body body2:List Stmt}{w u:WS}
theorem ms_ret'(he:EE X e we):ES X (.Return (some e) pos) (wRet we) :=⟨ms_ret he.h⟩
theorem ms_expr'(he:EE X e we)(hs:swapsWith e none pos.line X.env=pure false :=by rfl):ES X (.Expr e pos) (wDrop we) :=⟨ms_expr he.h hs⟩
theorem ms_if'(ht:ET X t wt)(h1:ESs X body w)(h2:ESs X body2 u):ES X (.If t body body2 pos) (wIfS wt w u) :=⟨ms_if ht.h h1.h h2.h⟩
theorem ms_set'(hN:X.N.Nodup)(hi:X.N[i]?=some x)(hx:Loc X.env.scope x)(he:EE X e we)(hs:swapsWith e (some (.Name x pos')) pos.line X.env=pure false :=by rfl)(hf:X.fn x=true \/ X.env.scope.names.lookup x=some .local :=by first|exact .inl rfl|exact .inr rfl|assumption):ES X (.Assign [.Name x pos'] e pos) (wSet i we) :=⟨ms_set hN hi hx he.h hs hf⟩
theorem mg_name'(hN:X.N.Nodup)(hi:X.N[i]?=some x)(hx:Loc X.env.scope x)(hf:X.fn x=true \/ X.env.scope.names.lookup x=some .local :=by first|exact .inl rfl|exact .inr rfl|assumption):EG X (.Name x pos) (gM i) :=⟨mg_name hN hi hx hf⟩
theorem mgs_nil'  : EGs X [] gMNil :=⟨mgs_nil⟩
theorem mgs_cons'{e:Expr}{es:List Expr}(h1:EG X e g)(h2:EGs X es gs)(hs:(assignEach (e::es) X.env).map (·.2)=assign e X.env::(assignEach es X.env).map (·.2) :=by rfl):EGs X (e::es) (gMCons g gs) :=⟨mgs_cons h1.h h2.h hs⟩
theorem mg_tup'{es:List Expr}(h:EGs X es gs)(hc:X.calm=true :=by rfl)(hn:(assignEach es X.env).length=n :=by rfl)(hst:(assignEach es X.env).findIdx? (·.1)=none :=by rfl):EG X (.Tuple es k pos) (gMTup n gs) :=⟨mg_tup h.h hc hn hst⟩
theorem ms_asg'(he:EE X e we)(hg:EG X tg g)(hs:swapsWithSole [tg] e pos.line X.env=pure false :=by rfl)(hw:swappedStores [tg] e X.env=pure none :=by rfl)(h1:(assignEach [tg] X.env).map (·.2)=[assign tg X.env] :=by rfl):ES X (.Assign [tg] e pos) (wAsg we g) :=⟨ms_asg he.h hg.h hs hw h1⟩
theorem ms_par'{px py pt:Pos}{kt k2 pt2}(hN:X.N.Nodup)(hi:X.N[i]?=some x)(hj:X.N[j]?=some y)(hij:i ≠ j)(hx:X.env.scope.names.lookup x=some .local)(hy:X.env.scope.names.lookup y=some .local)(ha:EA X [a, b] ws)(hw:swappedStores [.Tuple [.Name x px, .Name y py] kt pt] (.Tuple [a, b] k2 pt2) X.env=pure (some [x, y]))(hc:X.calm=true :=by rfl)(hs:swapsWithSole [.Tuple [.Name x px, .Name y py] kt pt] (.Tuple [a, b] k2 pt2) pos.line X.env=pure false :=by rfl):ES X (.Assign [.Tuple [.Name x px, .Name y py] kt pt] (.Tuple [a, b] k2 pt2) pos) (wPar i j ws) :=⟨ms_par hN hi hj hij hx hy ha.h hw hc hs⟩
end
section
variable {X:Cx}{tg a b c e iter:Expr}{es:List Expr}{wa wb wc we:WE}{ws:WA}{wt:WT}{pos:Pos}{st:Stmt}{rest body body2:List Stmt}{w u:WS}
theorem mi_seq'(he:EE X e we):EI X tg e (wiSeq we) :=⟨mi_seq he.h⟩
theorem mi_range1'(hg:Gl X "range")(hm:X.mg "range" = none)(ha:EA X [a] ws)(hs:starEach [a] X.env=[(false, eval a X.env)] :=by first|exact star_one rfl|rfl):EI X tg (.Call (.Name "range" p) [a] [] pos) (wiRng1 ws) :=⟨mi_range1 hg hm ha.h hs⟩
theorem ms_for'(hi:EI X tg iter wi)(hg:EG X tg g)(hb:ESs X body w)(hp:PassesOwn (model X.prog X.w) X.A X.env X.xe)(hc:X.calm=true :=by rfl)(hs:∀x, foldedSetIterable iter X.env x=pure x :=by intro _;rfl):ES X (.For tg iter body [] pos) (wFor wi g w) :=⟨ms_for hi.h hg.h hb.h hp hc hs⟩
theorem ms_while'(ht:ET X t wt)(hb:ESs X body w)(hp:PassesOwn (model X.prog X.w) X.A X.env X.xe):ES X (.While t body [] pos) (wWhile wt w) :=⟨ms_while ht.h hb.h hp⟩
end
section
variable {X:Cx}{scope sc:Scope}{own fr:List Str}{ps:List Nat}{elt tg iter tg2 iter2:Expr}{ifs ifs2:List Expr}{pos spos py:Pos}{wi wi2:WI}{g g2:WG}{tt tt2:WT}{we:WE}
theorem me_comp1'(S:CompScope own fr scope sc)(hi:EI X tg iter wi)(hg:∀cl s H C ex, EG (cxComp X scope cl (own ++ fr) s H C ex) tg g)(ht:∀cl s H C ex, ETs (cxComp X scope cl (own ++ fr) s H C ex) ifs tt)(he:∀cl s H C ex, EE (cxComp X scope cl (own ++ fr) s H C ex) elt we)(hsc:X.env.scope=sc :=by rfl)(hps:ps.map (fun i => X.N[i]?)=fr.map some :=by rfl)(hc:X.calm=true :=by rfl)(hs:∀x, foldedSetIterable iter X.env x=pure x :=by intro _;rfl):EE X (.ListComp elt [⟨tg, iter, ifs, 0⟩] scope pos) (wComp1 wi own ps g tt we) :=⟨me_comp1 S hi.h (fun cl s H C ex => (hg cl s H C ex).h) (fun cl s H C ex => (ht cl s H C ex).h) (fun cl s H C ex => (he cl s H C ex).h) hsc hps hc hs⟩
theorem mts_nil'  : ETs X [] wNoTest :=⟨mts_nil⟩
theorem ms_setc1'(S:CompScope own fr scope sc)(hN:X.N.Nodup)(hy:X.N[i]?=some y)(hlc:X.env.scope.names.lookup y=some .local)(hi:EI X tg iter wi)(hg:∀cl s H C ex, EG (cxComp X scope cl (own ++ fr) s H C ex) tg g)(ht:∀cl s H C ex, ETs (cxComp X scope cl (own ++ fr) s H C ex) ifs tt)(he:∀cl s H C ex, EE (cxComp X scope cl (own ++ fr) s H C ex) elt we)(hsw:swapsWith (.ListComp elt [⟨tg, iter, ifs, 0⟩] scope pos) (some (.Name y py)) spos.line X.env=pure true :=by rfl)(hsc:X.env.scope=sc :=by rfl)(hps:ps.map (fun i => X.N[i]?)=fr.map some :=by rfl)(hc:X.calm=true :=by rfl)(hs:∀x, foldedSetIterable iter X.env x=pure x :=by intro _;rfl):ES X (.Assign [.Name y py] (.ListComp elt [⟨tg, iter, ifs, 0⟩] scope pos) spos) (wSet i (wComp1 wi own ps g tt we)) :=⟨ms_setc1 S hN hy hlc hi.h (fun cl s H C ex => (hg cl s H C ex).h) (fun cl s H C ex => (ht cl s H C ex).h) (fun cl s H C ex => (he cl s H C ex).h) hsw hsc hps hc hs⟩
end
section
variable {X:Cx}
theorem me_ix'{a b:Expr}{wa wb:WE}(ha:EE X a wa)(hb:EE X b wb)(hs:PlainIx b :=by intro _ _;rfl):EE X (.Subscript a b pos) (wBin oItem wa wb) :=⟨me_ix ha.h hb.h hs⟩
end
section
variable {X:Cx}{o a b c e:Expr}{es:List Expr}{wo wa wb wc we wi:WE}{ws:WA}{pos apos cpos:Pos}
theorem me_ml'{name:Str}{id:String}{ob:WM}(slot:Slot "list" name id)(hty:typeOf (.builtin id)=pure (.type "method_descriptor"))(hm:MtM X id (mM X.kx ob))(ho:EE X o wo)(ha:EA X (e::es) ws)(hbase:attributeBase o name X.env (eval o X.env)=eval o X.env :=by rfl)(hfew:((backTo cpos (starEach (e::es) X.env)).all (fun x => !x.1)&&(backToKw cpos (keywordEach [] X.env)).all (fun x => x.1.isSome)
   && decide ((e::es).length+([]:List Keyword).length+(if ([]:List Keyword).isEmpty then 0 else 1)<30))=true :=by rfl) (hline:(apos.endLine==cpos.line)=true :=by rfl) (hs:starEach (e::es) X.env=(false, eval e X.env)::starEach es X.env :=by first|exact star_cons rfl|rfl) (hplain:(backTo cpos (starEach es X.env)).any (·.1)=false :=by rfl):EE X (.Call (.Attribute o name apos) (e::es) [] cpos) (wML ob wo ws) :=⟨me_ml slot hty hm ho.h ha.h hbase hfew hline hs hplain⟩
theorem ms_setI'{b i:Expr}(he:EE X e we)(ho:EE X b wo)(hi:EE X i wi)(hs:swapsWithSole [.Subscript b i pos'] e pos.line X.env=pure false :=by rfl)(hw:swappedStores [.Subscript b i pos'] e X.env=pure none :=by rfl)(h1:(assignEach [.Subscript b i pos'] X.env).map (·.2)=[assign (.Subscript b i pos') X.env] :=by rfl)(ha:∀v, assign (.Subscript b i pos') X.env v=(do
   let ov <- holding [v] (eval b X.env)
   let iv <- holding [v, ov] (eval i X.env)
   standAt pos'
   holding [v, ov, iv] (setItem ov iv v)
   release [v, ov, iv] []) :=by intro _;rfl):ES X (.Assign [.Subscript b i pos'] e pos) (wSetI we wo wi) :=⟨ms_setI he.h ho.h hi.h hs hw h1 ha⟩
theorem mo_none'  : EO X none wNoPart :=⟨mo_none⟩
theorem mo_some'(he:EE X e we):EO X (some e) (wPart we) :=⟨mo_some he.h⟩
theorem me_slice'{p2:Pos}(hr:SlR X (sM X.kx ob))(he:EE X e we)(hl:EO X lo wl)(hu:EO X hi wh):EE X (.Subscript e (.Slice lo hi none p2) pos) (wSl ob we wl wh) :=⟨me_slice hr he.h hl.h hu.h⟩
end
section
variable {X:Cx}{a:Expr}{es:List Expr}{ws:WA}{pos p:Pos}{k n:Nat}{sp:SpM}{x:Str}
theorem mf'(F:FnM X.prog X.w X.K X.mg X.base x k n sp)(hr:Room k X.A)(ha:EA X (a::es) ws)(hg:Gl X x :=by rfl)(hdb:(x==("__debug__" : Str))=false :=by decide)(he:starEach (a::es) X.env=(false, eval a X.env)::starEach es X.env :=by first|exact star_cons rfl|rfl)(hpl:(backTo pos (starEach es X.env)).any (·.1)=false :=by rfl):EE X (.Call (.Name x p) (a::es) [] pos) (wCall sp ws) :=⟨me_callF F hr ha.h hg hdb he hpl⟩
end
section
variable {X:Cx}{tg a:Expr}{ws:WA}{p p2 pos pos2:Pos}
theorem me_listR'(hmr:X.mg "list" = none)(hm:X.mg "range" = none)(ha:EA X [a] ws)(hc:X.calm=true :=by rfl)(hgr:Gl X "list" :=by rfl)(hg:Gl X "range" :=by rfl)(hs:starEach [a] X.env=[(false, eval a X.env)] :=by first|exact star_one rfl|rfl)(hs2:starEach [.Call (.Name "range" p2) [a] [] pos2] X.env=[(false, eval (.Call (.Name "range" p2) [a] [] pos2) X.env)] :=by rfl):EE X (.Call (.Name "list" p) [.Call (.Name "range" p2) [a] [] pos2] [] pos) (wListR ws) :=⟨me_listR hmr hm ha.h hc hgr hg hs hs2⟩
end
theorem mk_fn'{P:Program}{w:World}{K:PySem.W.Frag}{base:Heap}(D:DefM K mg x st ps)(S:FnScope N ps (defScope st))(hn:ps.length=n)(hN:N.length=nN)(hle:n ≤ nN)(ar:∀as Kc, sp as Kc -> as.length=n)
  (hbody:∀(cdv:Value) (A:Around) (outer:List Env) (s:Shared) (H:Hp) (E:XK) (f:Addr), Room k (A.deeper (envOfC x (defScope st) s.heap.objs.size f cdv)) ->
   ∃ww, ESs (cxOf CX0 P w K mg base N x (defScope st) f cdv A outer s H E).nox (defBody st) ww /\ ∀as Kc, as.length=n -> sp as Kc -> ww {nx :=fun m => Kc (.imm .none) (m.os.take m.np), rt :=fun r m => retK Kc m r} (mstart nN as)) :
  FnM P w K mg base x (k+1) n sp :=mk_fn D S hn hN hle ar fun cdv A outer s H E f hr => let ⟨ww, h1, h2⟩ :=hbody cdv A outer s H E f hr;⟨ww, h1.h, h2⟩
theorem mk_fnE'{P:Program}{w:World}{K:PySem.W.Frag}{base:Heap}(F:Fun K x x st f fd)(S:FnScope N ps (defScope st))(hn:ps.length=n)(hN:N.length=nN)(hle:n ≤ nN)
  (hbody:∀(cdv:Value) (A:Around) (outer:List Env) (s:Shared) (H:Hp) (E:XK) (f:Addr), Room k (A.deeper (envOfC x (defScope st) s.heap.objs.size f cdv)) ->
   ∃ww, ESs (cxOf CX0 P w K mg base N x (defScope st) f cdv A outer s H E).nox (defBody st) ww /\ ∀as Kc, as.length=n -> sp as Kc -> ww {nx :=fun m => Kc (.imm .none) (m.os.take m.np), rt :=fun r m => retK Kc m r} (mstart nN as)) :
  FnOk P w K mg base CX0 (k+1) f fd ps (spOf ⟨K, w⟩ n sp) :=mk_fnE F S hn hN hle fun cdv A outer s H E f hr => let ⟨ww, h1, h2⟩ :=hbody cdv A outer s H E f hr;⟨ww, h1.h, h2⟩
end L2
namespace HT
open PySem PySem.Spec PyProof.Rows
section
variable {prog:Program}{w:World}{A:Around}{E:Value -> Shared -> Prop}{s:Shared}
theorem cut_whole{t sl:Addr}{items:Array Value}{vl vu:Value}{lo hi:Option Int}{Q:Value -> Shared -> Prop}(ht:IsTup s.heap t items)(hs:s.heap.IsSliceOf sl vl vu .none)(pl:IsPart vl lo)(pu:IsPart vu hi)
  (hw:sIx items.size 0 lo=0 /\ sIx items.size items.size hi=items.size) (h:Q (.ref t) s):wpAny (model prog w) A (getItem (.ref t) (.ref sl)) Q E s :=by
 obtain⟨os, hos, hcs, hds⟩ :=id hs;have hTs:s.TypeIs (.ref sl) "slice" :=⟨os, hos, hcs⟩;unfold getItem
 try with_reducible refine wpAny_holding ?_
 first|(refine wpAny_bind (wpAny_pure ?_))|skip
 refine wpAny_bind (wpAny_sequenceKey ht.typeIs (by decide) (wpAny_bind (wpAny_callSpecial?_slot (name :=Str.ofString "__getitem__") ht.typeIs PyProof.Rows.slot_tuple_getitem (wpAny_call_entry PyProof.Rows.slot_tuple_getitem ht.typeIs entry_tuple_getitem ?_ (args_tuple_getitem _ _)))));show wpAny _ _ (Builtin.Tuple.tupleItemsOf (.ref t) >>= _) _ _ s;refine wpAny_bind (tupleItemsOf_ ht (wpAny_bind (wpAny_typeOf hTs ?_)));rw[if_pos (by decide)];refine wpAny_bind (sliceApplied_gen hs pl pu ?_);have hyes:(((sIx items.size 0 lo:Nat):Int)==0&&(1:Int)==1&&(sIx items.size items.size hi-sIx items.size 0 lo)==items.size)=true :=by
  rw[hw.1, hw.2];simp
 show wpAny _ _ (if (((sIx items.size 0 lo:Nat):Int)==0&&(1:Int)==1&&(sIx items.size items.size hi-sIx items.size 0 lo)==items.size)=true then _ else _) _ _ s;rw[if_pos hyes];refine wpAny_bind ?_;unfold Builtin.Tuple.tupleIsExact;refine wpAny_bind (wpAny_typeOf ht.typeIs (wpAny_pure ?_));rw[if_pos (by rfl)];exact wpAny_bind (wpAny_rule (wpAny_pure ⟨_, rfl, wpAny_pure h⟩))
end
end HT
namespace L2
open PySem PySem.Spec PyProof.Rows
variable{hi lo:Option Int}{Kr:R -> Prop}{ds es:List PyData}{i k n:Nat}{K:R -> MSt -> Prop}{X:Cx}{pins:List (Addr × Obj)}{σ:St}{H:Hp}{h h':Heap}{t t1 t2:Bool}{a i1 i2 it l l1 l2 z:Addr}{items its xs ys:Array Value}{Q:Value -> Shared -> Prop}{f:Value}{elts:List Expr}{P:MSt -> Prop}
section
variable {X:Cx}
def oCut:R -> Option Int -> Option Int -> MSt -> (R -> Prop) -> Prop :=fun r lo hi m K => (∃ds, lsOf m r=some ds /\ K (.new (cutD ds lo hi))) \/ ∃ds, r = .imm (.tuple ds) /\ K (.imm (.tuple (cutD ds lo hi)))
theorem sl_cutM:SlR X (sM X.kx oCut) :=by
 intro pins s σ' H x v vl vu lo hi sl Q I rx hs pl pu hq;obtain⟨α, m, σ, H0, r, Kc, Rl, h, k|⟨ds, rfl, k⟩, fin⟩ :=hq
 .exact sl_listM pins s σ' H x v vl vu lo hi sl Q I rx hs pl pu ⟨α, m, σ, H0, r, Kc, Rl, h, k, fin⟩
 .obtain⟨a, xs, rfl, f, g⟩ :=tup_of_den (show Den X.kx H (.tuple ds) x from h)
  by_cases hw:HT.sIx xs.length 0 lo=0 /\ HT.sIx xs.length xs.length hi=xs.length
  .cases rx;obtain⟨its, rv, ht, hz⟩ :=I.tuple f;have hlen:its.toArray.size=xs.length :=by rw[List.size_toArray];exact rv.length.symm
   refine⟨"tuple", _, PyProof.Rows.slot_tuple_getitem.lookup, ht.typeIs, ?_⟩;refine HT.cut_whole ht hs pl pu (by rw[hlen];exact hw) ⟨.ref a, H, I, rfl, fin _ _ H k Rl (rr_of (den_tup f ?_)) (Frm.refl _ _)⟩;have e:cutD ds lo hi=ds :=by
    unfold cutD;rw[g.length, hw.1, hw.2, List.drop_zero, Nat.sub_zero, <- g.length, List.take_length]
   rw[e];exact g
  .exact sl_tup pins s σ' H _ v vl vu lo hi sl Q I rx hs pl pu ⟨a, xs, rfl, f, hw, fun p hp => fin _ _ _ k (Rl.lay hp) (rr_of (den_tup (SqT.of upd_same) ((cut_den g lo hi).mono (pers_upd (.inl hp))))) (frm_upd hp)⟩
theorem x_cutL'{m:MSt}{r:R}(e:lsOf m r=some ds)(h:Kr (.new (cutD ds lo hi))):oCut r lo hi m Kr :=.inl ⟨ds, e, h⟩
theorem x_cutT{m:MSt}(h:Kr (.imm (.tuple (cutD ds lo hi)))):oCut (.imm (.tuple ds)) lo hi m Kr :=.inr ⟨ds, rfl, h⟩
theorem cutD_to(n:Nat):cutD ds none (some (n:Int))=ds.take n :=by
 unfold cutD;rw[HT.sIx_none, HT.sIx_nat, Nat.sub_zero, List.drop_zero]
 by_cases h:n ≤ ds.length
 .rw[Nat.min_eq_left h]
 .rw[Nat.min_eq_right (by omega), List.take_length, List.take_of_length_le (by omega)]
theorem cutD_from(n:Nat):cutD ds (some (n:Int)) none=ds.drop n :=by
 unfold cutD;rw[HT.sIx_none, HT.sIx_nat]
 by_cases h:n ≤ ds.length
 .rw[Nat.min_eq_left h, List.take_of_length_le (by rw[List.length_drop];omega)]
 .rw[Nat.min_eq_right (by omega), List.drop_length, List.drop_eq_nil_of_le (by omega), List.take_nil]
def oIn(neg:Bool):WO :=fun r1 r2 m K => ∃d ds, asD m r1=some d /\ (asD m r2=some (.list ds) \/ asD m r2=some (.tuple ds)) /\ d.canLay0=true /\ PyData.canLayAll0 ds=true /\ d.depth ≤ 60 /\ K (.imm (.bool (if neg then !ds.any (fun y => PyData.eqv y d)else ds.any fun y => PyData.eqv y d)))
theorem op_notInM(hu:X.A.units+64<cLine):OpR X (compareOp .NotIn) (rM X.kx (oIn true)) :=by
 rintro pins s σ' H x y v u Q I rx ry ⟨α, m, σ, H0, H1, r1, r2, Kc, Rl, h1, h2, ⟨d, ds, e1, e2, c1, c2, dp, ho⟩, fin⟩;obtain⟨as, q1⟩ :=h1.reads I Rl rx e1 (PyData.hasDict_of_canLay _ c1);have fin':EP X pins σ' Q (.bool (!ds.any fun y => PyData.eqv y d)) s :=⟨.bl _, H, I, rfl, fin _ _ H ho Rl (rr_bl _) (Frm.refl _ _)⟩;have hm:X.A.units+1+min (PyData.depthAll ds) d.depth<cLine :=by have :=Nat.min_le_right (PyData.depthAll ds) d.depth;omega
 rcases e2 with e2|e2
 .obtain⟨bs, q2⟩ :=h2.reads I Rl ry e2 (by simp only[PyData.hasDict];exact PyData.hasDictAll_of_canLayAll _ c2);exact SeqAt.notIn_list_reads q2 q1 c2 c1 hm fin'
 .obtain⟨bs, q2⟩ :=h2.reads I Rl ry e2 (by simp only[PyData.hasDict];exact PyData.hasDictAll_of_canLayAll _ c2);exact SeqAt.notIn_tuple_reads q2 q1 c2 c1 hm fin'
theorem x_in{m:MSt}{r1 r2:R}{neg:Bool}{d:PyData}{k':Nat}(e1:asD m r1=some d)(e2:asD m r2=some (.list ds) \/ asD m r2=some (.tuple ds))(s1:Shp k d)(s2:∀y ∈ ds, Shp k' y)(hk:k ≤ 60)(h:Kr (.imm (.bool (if neg then !ds.any (fun y => PyData.eqv y d)else ds.any fun y => PyData.eqv y d)))):oIn neg r1 r2 m Kr :=
 ⟨d, ds, e1, e2, s1.cl, (shp_all s2).1, Nat.le_trans s1.dp hk, h⟩
def onNew(P:List PyData -> Prop):R -> Prop
 | .new ds => P ds
 |_ => False
def oExtend:WM :=fun r rs m K => onObj (fun k => on1 (onNew fun es => ∃ds, m.os[k]?=some ds /\ ds.length+es.length ≤ sizeLine /\ K (.imm .none) {m with os :=m.os.set k (ds ++ es)}) rs) r
theorem mt_extendM:MtM X "list.extend" (mM X.kx oExtend) :=by
 rintro pins s σ' H x xs v us Q I rx rv ⟨α, m, σ, H0, H1, r, rs, Kc, Rl, h1, h2, ho, fin⟩;obtain⟨k, a, rfl, ea, rfl, ho⟩ :=on_obj h1 ho;obtain⟨r2, v2, rfl, rfl, h2, ho⟩ :=on_one h2 ho
 cases r2 with
 |imm _ => exact ho.elim
 |obj _ => exact ho.elim
 | «at» _ _ => exact ho.elim
 |newT _ => exact ho.elim
 |new es =>
  obtain⟨ds, e1, hz, ho⟩ :=ho;obtain⟨b, zs, rfl, hb0, hb, gb⟩ :=h2;obtain⟨ys, q, g⟩ :=Rl.own _ _ ds ea e1;obtain⟨R2, F2⟩ :=Rl.setO ea q (g.append gb);exact mt_extend pins s σ' H _ _ v us Q I rx rv ⟨a, b, ys, zs, rfl, rfl, q, hb, by rw[<- g.length, <- gb.length];exact hz, fin _ _ _ _ ho rfl R2 rr_non F2⟩
theorem x_extend{m:MSt}(e:m.os[k]?=some ds)(hz:ds.length+es.length ≤ sizeLine)(h:K (.imm .none) {m with os :=m.os.set k (ds ++ es)}):oExtend (.obj k) [.new es] m K :=⟨ds, e, hz, h⟩
def oIndex:WM :=fun r rs m K => on1 (onImm fun d => ∃ds j, lsOf m r=some ds /\ d.canLay0=true /\ PyData.canLayAll0 ds=true /\ d.depth ≤ 60 /\ (∃y, ds[j]?=some y /\ PyData.eqv y d=true) /\ (∀(i:Nat) y, i<j -> ds[i]?=some y -> PyData.eqv y d=false) /\ K (.imm (.int (j:Nat))) m) rs
theorem mt_indexM(hu:X.A.units+64<cLine):MtM X "list.index" (mM X.kx oIndex) :=by
 rintro pins s σ' H x xs v us Q I rx rv ⟨α, m, σ, H0, H1, r, rs, Kc, Rl, h1, h2, ho, fin⟩;obtain⟨r2, v2, rfl, rfl, h2, ho⟩ :=on_one h2 ho;obtain⟨d, rfl, hd, ds, j, el, c1, c2, dp, ⟨y, ey, eq⟩, hno, ho⟩ :=on_imm h2 ho;obtain⟨a, zs, rfl, f, g⟩ :=h1.list Rl el;cases rx;obtain⟨u, rfl, ru⟩ :=rv.one;obtain⟨bs, qd⟩ :=Den.reads I (PyData.hasDict_of_canLay _ c1) hd ru;obtain⟨its, rvv, pl, hz⟩ :=I.list f;obtain⟨o, n, ho1, hc, hdict⟩ :=pl;obtain⟨as, rds⟩ :=DenAll.reads I (PyData.hasDictAll_of_canLayAll _ c2) g rvv;have hm:X.A.units+1+min (PyData.depthAll ds) d.depth<cLine :=by have :=Nat.min_le_right (PyData.depthAll ds) d.depth;omega
 have hmap :=SeqAt.readsAll_map ds _ _ c2 rds;have hl:its.length=ds.length :=by rw[<- hmap, List.length_map]
 have hj:j<its.length :=by rw[hl];exact(List.getElem?_eq_some_iff.mp ey).1
 have ro:∀(i:Nat) (hi:i<its.length) y, ds[i]?=some y -> SeqAt.readOf s.heap its[i]=y :=fun i hi y e => by
  rw[<- hmap, List.getElem?_map, List.getElem?_eq_getElem hi]at e;exact Option.some.inj e
 obtain⟨cls, dd, data, sl⟩ :=o;obtain⟨hdict, hdata⟩ :=hdict;dsimp only at hc hdata;subst hc;subst hdata;have hsm:(j:Int)<2^63-1 :=by
  have h16 :=hz;rw[sizeLine_eq]at h16;have :=rvv.length;omega
 refine call_meets PySem.F.slot_list_index ⟨_, ho1, rfl⟩ PySem.F.entry_list_index (PySem.F.args_list_index_2 _ _)
  (SeqAt.list_indexAt a its.toArray _ dd sl u (fun y => PyData.eqv (SeqAt.readOf s.heap y) d) j (by simpa using hj) hsm ?_ ?_) ⟨ho1, SeqAt.items_eqAt (by simpa using rds) qd c2 c1 hm, ?_⟩
 .show PyData.eqv (SeqAt.readOf s.heap its[j]) d=true;rw[ro j hj y ey];exact eq
 .intro i hi hlt;have hi':i<its.length :=by simpa using hi
  show PyData.eqv (SeqAt.readOf s.heap its[i]) d=false;have hi2:i<ds.length :=by rw[<- hl];exact hi'
  rw[ro i hi' _ (List.getElem?_eq_getElem hi2)];exact hno i _ hlt (List.getElem?_eq_getElem hi2)
 .exact⟨.int (j:Nat), H, I.tok _, ⟨_, rfl⟩, fin _ _ _ H ho rfl Rl (rr_int _) (Frm.refl _ _)⟩
theorem x_index{m:MSt}{r:R}{d y:PyData}{j k':Nat}(e:lsOf m r=some ds)(s1:Shp k d)(s2:∀y ∈ ds, Shp k' y)(hk:k ≤ 60)(ey:ds[j]?=some y)(eq:PyData.eqv y d=true)(hno:∀(i:Nat) y, i<j -> ds[i]?=some y -> PyData.eqv y d=false)(h:K (.imm (.int (j:Nat))) m):oIndex r [.imm d] m K :=
 ⟨ds, j, e, s1.cl, (shp_all s2).1, Nat.le_trans s1.dp hk, ⟨y, ey, eq⟩, hno, h⟩
end
theorem Inv.turneds{s:Shared}{t':Nat}{ch:List Addr}(I:Inv X pins σ H s)(k:∀b o, b ∉ ch -> s.heap.get? b=some o -> h'.get? b=some o)(hf:∀b ∈ ch, FpOk X pins H b):Inv X pins σ H {s with heap :=h', toks :=t' } :=by
 have nit:∀b u, H b=some u -> b ∉ ch :=fun b u e z => by have :=(hf b z).1;rw[this]at e;cases e
 have nl:X.env.locals ∉ ch :=fun z => (hf _ z).2.1 rfl;refine I.step (g' :=s.gens) (d' :=s.drawn) (ch :=ch) (fun b hb => ?_) (fun b o _ _ hc e _ => k b o hc e) (fun b o _ _ hc e _ => ⟨o.slots, k b o hc e⟩) (fun _ _ _ _ n => n)
  (fun b o hc e => ⟨o, k b o hc e⟩) (fun _ _ e => e) (fun _ _ _ e => e) (fun b ps e => ⟨#[], by rw[e];simp⟩) (fun m hm => ?_) (fun b u e => ?_) I.bare
 .obtain⟨_, f1, _, f3, f4, f5⟩ :=hf b hb;exact⟨f3, f1, f4, f5⟩
 .obtain⟨o, es, ep, ho, r⟩ :=hm;exact⟨o, es, ep, k _ o nl ho, r⟩
 .refine(I.hok b u e).stay (fun c v hc q => k c v ?_ q) (fun _ q => q) fun _ _ q => q;rcases hc with z|z
  .rw[z];exact nit b u e
  .exact nit c _ z
def SubI(t:Bool)(h:Heap)(i l:Addr)(k:Nat):Prop :=if t then h.IsTupleIter i l k else h.IsListIter i l k
def SubS(t:Bool)(h:Heap)(l:Addr)(its:Array Value):Prop :=if t then h.IsTuple l its else h.IsList l its
theorem SubI.ext{b i:Addr}(x:SubI t h i l k)(e:Heap.ExtBut b h h')(n:i ≠ b):SubI t h' i l k :=by
 cases t
 .exact Heap.IsListIter.extBut (show h.IsListIter i l k from x) e n
 .exact Heap.IsTupleIter.extBut (show h.IsTupleIter i l k from x) e n
theorem SubI.obj{i:Addr}(x:SubI t h i l k):∃o vs, h.get? i=some o /\ o.data = .fields vs :=by
 cases t
 .obtain⟨o, e, _, d⟩ :=(show h.IsListIter i l k from x);exact⟨o, _, e, d⟩
 .obtain⟨o, e, _, d⟩ :=(show h.IsTupleIter i l k from x);exact⟨o, _, e, d⟩
theorem SubI.keep{i:Addr}(x:SubI t h i l k)(e:∀o, h.get? i=some o -> h'.get? i=some o):SubI t h' i l k :=by
 cases t
 .obtain⟨o, q, r⟩ :=(show h.IsListIter i l k from x);exact⟨o, e o q, r⟩
 .obtain⟨o, q, r⟩ :=(show h.IsTupleIter i l k from x);exact⟨o, e o q, r⟩
theorem SubS.keep(x:SubS t h l its)(e:∀o, h.get? l=some o -> h'.get? l=some o):SubS t h' l its :=by
 cases t
 .obtain⟨o, q, r⟩ :=(show h.IsList l its from x);exact⟨o, e o q, r⟩
 .obtain⟨o, q, r⟩ :=(show h.IsTuple l its from x);exact⟨o, e o q, r⟩
theorem SubS.ext{b:Addr}(x:SubS t h l its)(e:Heap.ExtBut b h h')(n:l ≠ b):SubS t h' l its :=x.keep fun o q => e l o n q
section
variable {prog:Program}{w:World}{A:Around}{E:Value -> Shared -> Prop}{s:Shared}
theorem stop_now{α:Type}{Q:α -> Shared -> Prop}(hh:A.handled=none)(h:∀h' e, (∀b o, s.heap.get? b=some o -> h'.get? b=some o) -> (∃o, h'.get? e=some o /\ o.cls = .type "StopIteration") -> E (.ref e) {s with heap :=h' }) :
  wpAny (model prog w) A (do raiseNew (<- newExc (.type "StopIteration") []):Sem α) Q E s :=by
 refine wpAny_bind (m :=newExc (.type "StopIteration") []) ?_;refine wpAny_bind (m :=newTuple []) (wpAny_newObj_type ?_ (by size_fits));refine wpAny_bind (m :=firstArgMember (.type "StopIteration") []) (wpAny_of_eq (a :=Value.none) (by rfl) (wpAny_newObj_type ?_ (by size_fits)));refine wpAny_bind (m :=handled) (wpAny_handled ?_);rw[hh];refine wpAny_bind (wpAny_pure (wpAny_throw (h _ _ (fun b o q => Heap.get?_push_of_some _ (Heap.get?_push_of_some _ q)) ⟨_, Heap.get?_push_size _ rfl, rfl⟩)))
theorem ti_at(hit:s.heap.IsTupleIter it l i)(h:Q (.ref l) s):wpAny (model prog w) A (field (.ref it) 0) Q E s :=let ⟨_, ho, _, hd⟩ :=hit;wpAny_field ho hd (x :=.ref l) rfl h
theorem ti_no(hit:s.heap.IsTupleIter it l i)(h:Q (.int i 0) s):wpAny (model prog w) A (field (.ref it) 1) Q E s :=let ⟨_, ho, _, hd⟩ :=hit;wpAny_field ho hd (x :=.int i 0) rfl h
theorem ti_of{Q:Option (Array Value) -> Shared -> Prop}(hl:s.heap.IsTuple l items)(h:Q (some items) s):wpAny (model prog w) A (seqItems? (.ref l)) Q E s :=let ⟨_, ho, _, _, hd⟩ :=hl;wpAny_seqItems ho hd h
theorem tup_turn{Q:Option Value -> Shared -> Prop}(hit:s.heap.IsTupleIter it l i)(hl:s.heap.IsTuple l items)
  (hs:∀x, items[i]?=some x -> ∀h', h'.IsTupleIter it l (i+1) -> Heap.SameBut it s.heap h' -> Q (some x) {s with heap :=h' })
  (hE:items[i]?=none -> A.handled=none /\ ∀h' e, Heap.ExtBut it s.heap h' -> (∃o, h'.get? e=some o /\ o.cls = .type "StopIteration") -> E (.ref e) {s with heap :=h' }) :
  wpAny (model prog w) A (callSpecial? (.ref it) "__next__" []) Q E s :=by
 refine wpAny_callSpecial?_slot (name :=Str.ofString "__next__") hit.typeIs F.slot_tuple_iterator_next (wpAny_call_entry F.slot_tuple_iterator_next hit.typeIs F.entry_tuple_iterator_next ?_ (F.args_tuple_iterator_next_1 _))
 wp_walk using ti_at hit, ti_no hit, ti_of hl
 rcases id hit with⟨o, ho, hc, hd⟩;rw[Int.toNat_natCast]
 cases q:items[i]? with
 | some x =>
  have new:(s.heap.update it (Obj.mapFields (·.setIfInBounds 1 (rawInt ((i:Int)+1))))).IsTupleIter it l (i+1) :=by
   refine⟨_, Heap.get?_update_self _ ho (Obj.isFreed_of_fields (Obj.data_mapFields hd _)), ?_, ?_⟩
   .exact(Obj.cls_mapFields ..).trans hc
   .rw[Obj.data_mapFields hd];simp[rawInt]
  exact wpAny_bind (m :=setField (.ref it) 1 _) (wpAny_setField ho hd (by simp) (wpAny_pure ⟨x, rfl, hs x q _ new (Heap.SameBut.update ..)⟩))
 |none =>
  obtain⟨hh, hE⟩ :=hE q;refine wpAny_bind (m :=rule _) (wpAny_rule (wpAny_bind (m :=setField (.ref it) 0 _) (wpAny_setField ho hd (by simp) ?_)));exact stop_now (A :=A.in1) hh fun h' e k x => hE h' e (fun b ob nb z => k b ob ((Heap.SameBut.update ..).extBut b ob nb z)) x
theorem sub_item{x:Value}(hit:SubI t s.heap it l i)(hl:SubS t s.heap l items)(hx:items[i]?=some x)
  (hQ:∀h', SubI t h' it l (i+1) -> Heap.SameBut it s.heap h' -> Q x {s with heap :=h' }):wpAny (model prog w) A (Builtin.SmallTypes.nextOf (.ref it)) Q E s :=by
 cases t with
 |false => exact wpAny_nextOf_list_item (show s.heap.IsListIter it l i from hit) (show s.heap.IsList l items from hl) hx hQ
 |true => exact wpAny_bind (m :=callSpecial? (.ref it) "__next__" []) (tup_turn (show s.heap.IsTupleIter it l i from hit) (show s.heap.IsTuple l items from hl) (fun y ey h' a b => by rw[hx]at ey;cases ey;exact wpAny_pure (hQ h' a b)) fun no => by rw[hx]at no;cases no)
theorem sub_end(hh:A.handled=none)(hit:SubI t s.heap it l i)(hl:SubS t s.heap l items)(hx:items[i]?=none)
  (hE:∀h' e, Heap.ExtBut it s.heap h' -> (∃o, h'.get? e=some o /\ o.cls = .type "StopIteration") -> E (.ref e) {s with heap :=h' }):wpAny (model prog w) A (Builtin.SmallTypes.nextOf (.ref it)) Q E s :=by
 cases t with
 |false => exact wpAny_nextOf_list_end hh (show s.heap.IsListIter it l i from hit) (show s.heap.IsList l items from hl) hx hE
 |true => exact wpAny_bind (m :=callSpecial? (.ref it) "__next__" []) (tup_turn (show s.heap.IsTupleIter it l i from hit) (show s.heap.IsTuple l items from hl) (fun y ey => by rw[hx]at ey;cases ey) fun _ => ⟨hh, hE⟩)
structure Apart(z TI TO i1 i2 l1 l2:Addr):Prop where
 d:[z, TI, TO, i1, i2].Nodup
 m1:l1 ∉ [z, TI, TO, i1, i2]
 m2:l2 ∉ [z, TI, TO, i1, i2]
theorem Apart.old{TI TO:Addr}(D:Apart z TI TO i1 i2 l1 l2):ZipApart z TI TO i1 i2 l1 l2 :=by
 obtain⟨d, m1, m2⟩ :=D;simp only[List.nodup_cons, List.mem_cons, List.not_mem_nil, not_or, or_false, List.nodup_nil, and_true, not_false_eq_true]at d m1 m2;obtain⟨⟨a1, a2, a3, a4⟩, ⟨b1, b2, b3⟩, ⟨c1, c2⟩, d1⟩ :=d;exact⟨Ne.symm a1, Ne.symm a2, Ne.symm a3, Ne.symm a4, b1, b2, b3, c1, c2, d1, m1.1, m1.2.2.1, m1.2.2.2.1, m1.2.2.2.2, m2.1, m2.2.2.1, m2.2.2.2.1, m2.2.2.2.2⟩
structure ZipAt(t1 t2:Bool)(z TI TO i1 i2 l1 l2:Addr)(k:Nat)(h:Heap):Prop where
 z:IsZip h z TI TO .none
 ti:IsPair h TI (.ref i1) (.ref i2)
 to:∃a b, IsPair h TO a b
 s1:SubI t1 h i1 l1 k
 s2:SubI t2 h i2 l2 k
theorem zf0{TI TO:Addr}(hz:IsZip s.heap z TI TO f)(h:Q f s):wpAny (model prog w) A (field (.ref z) 0) Q E s :=wpAny_field hz rfl (x :=f) rfl h
theorem zf2{TI TO:Addr}(hz:IsZip s.heap z TI TO f)(h:Q (.bool false) s):wpAny (model prog w) A (field (.ref z) 2) Q E s :=wpAny_field hz rfl (x :=.bool false) rfl h
theorem zf3{TI TO:Addr}(hz:IsZip s.heap z TI TO f)(h:Q (.ref TI) s):wpAny (model prog w) A (field (.ref z) 3) Q E s :=wpAny_field hz rfl (x :=.ref TI) rfl h
theorem zip_item{TI TO:Addr}{x y:Value}{Q:Option Value -> Shared -> Prop}(D0:Apart z TI TO i1 i2 l1 l2)(Z:ZipAt t1 t2 z TI TO i1 i2 l1 l2 k s.heap)
  (hl1:SubS t1 s.heap l1 xs) (hl2:SubS t2 s.heap l2 ys) (hx:xs[k]?=some x) (hy:ys[k]?=some y)
  (hQ:∀h', IsZip h' z TI TO (rawInt s.heap.objs.size) -> IsPair h' TO x y -> SubI t1 h' i1 l1 (k+1) -> SubI t2 h' i2 l2 (k+1) -> IsPair h' s.heap.objs.size x y -> h'.objs.size=s.heap.objs.size+1 ->
   (∀c o, c ∉ [z, TO, i1, i2] -> s.heap.get? c=some o -> h'.get? c=some o) -> Q (some (.ref s.heap.objs.size)) {s with heap :=h' }):wpAny (model prog w) A (pyNext (.ref z)) Q E s :=by
 have D :=D0.old;obtain⟨hz, hTI, ⟨a, b, hTO⟩, h1, h2⟩ :=Z;have hT:s.TypeIs (.ref z) "zip" :=(⟨_, hz, rfl⟩);unfold pyNext;refine wpAny_bind (wpAny_attempt (wpAny_callSpecial?_slot (name :=Str.ofString "__next__") hT F.slot_zip_next (wpAny_call_entry F.slot_zip_next hT F.entry_zip_next ?_ (F.args_zip_next_1 _))));refine wpAny_bind (m :=field (.ref z) 2) (zf2 hz (wpAny_bind (m :=field (.ref z) 3) (zf3 hz (wpAny_bind (wpAny_seqItems hTI rfl ?_)))));refine wpAny_bind (m :=Builtin.SmallTypes.ownedTupleIsFree (.ref z)) (wpAny_bind (m :=field (.ref z) 0) (zf0 hz (wpAny_pure ?_)));simp only[if_true];refine wpAny_bind (wpAny_rule (wpAny_bind (wpAny_field hz rfl (x :=.ref TO) rfl (wpAny_bind (wpAny_setField_rec hz (by simp) fun g1 hz1 s1 => ?_)))));replace hz1:IsZip g1 z TI TO .ellipsis :=hz1;refine wpAny_bind ?_;simp only[List.forIn_cons, List.forIn_nil, List.zipIdx_cons, List.zipIdx_nil];refine wpAny_bind (wpAny_bind (wpAny_onRaise (wpAny_bind (m :=Builtin.SmallTypes.nextOf (.ref i1)) ?_)));refine(sub_item (h1.ext s1.extBut D.i1z) (hl1.ext s1.extBut D.l1z) hx fun g2 n1 s2 => wpAny_pure ?_);have hTO2:IsPair g2 TO a b :=s2.extBut _ _ D.TOi1 (s1.extBut _ _ D.TOz hTO);refine wpAny_bind (wpAny_seqItems hTO2 rfl (wpAny_bind (wpAny_updateSeq_pair hTO2 fun g3 hTO3 s3 => ?_)));replace hTO3:IsPair g3 TO x b :=hTO3;refine wpAny_bind (wpAny_letGo (wpAny_pure (wpAny_bind (wpAny_bind (wpAny_onRaise ?_)))));refine wpAny_bind (m :=Builtin.SmallTypes.nextOf (.ref i2)) (sub_item (((h2.ext s1.extBut D.i2z).ext s2.extBut D.i12.symm).ext s3.extBut D.TOi2.symm) (((hl2.ext s1.extBut D.l2z).ext s2.extBut D.l2i1).ext s3.extBut D.l2TO) hy fun g4 n2 s4 => wpAny_pure ?_);have hTO4:IsPair g4 TO x b :=s4.extBut _ _ D.TOi2 hTO3;refine wpAny_bind (wpAny_seqItems hTO4 rfl (wpAny_bind (wpAny_updateSeq_pair hTO4 fun g5 hTO5 s5 => ?_)));replace hTO5:IsPair g5 TO x y :=hTO5;refine wpAny_bind (wpAny_letGo (wpAny_pure (wpAny_pure (wpAny_bind (wpAny_seqItems hTO5 rfl (wpAny_bind (wpAny_newTuple ?_)))))));have hsz:g5.objs.size=s.heap.objs.size :=by rw[s5.1, s4.1, s3.1, s2.1, s1.1]
 have hz5:IsZip g5 z TI TO .ellipsis :=s5.extBut _ _ D.TOz.symm (s4.extBut _ _ D.i2z.symm (s3.extBut _ _ D.TOz.symm (s2.extBut _ _ D.i1z.symm hz1)));have k5:∀c o, c ∉ [z, TO, i1, i2] -> s.heap.get? c=some o -> g5.get? c=some o :=fun c o hc e => by
  simp only[List.mem_cons, List.not_mem_nil, not_or, or_false]at hc;exact s5.extBut _ _ hc.2.1 (s4.extBut _ _ hc.2.2.2 (s3.extBut _ _ hc.2.1 (s2.extBut _ _ hc.2.2.1 (s1.extBut _ _ hc.1 e))))
 have n15:SubI t1 g5 i1 l1 (k+1) :=((n1.ext s3.extBut D.TOi1.symm).ext s4.extBut D.i12).ext s5.extBut D.TOi1.symm;have n25:SubI t2 g5 i2 l2 (k+1) :=n2.ext s5.extBut D.TOi2.symm;have zlt:z<g5.objs.size :=Heap.lt_size hz5;refine wpAny_bind (m :=Builtin.SmallTypes.ownedTupleHandOut (.ref z) (.ref g5.objs.size)) ?_;have hz6:IsZip (g5.push {cls :=.type "tuple", data :=.seq #[x, y]}) z TI TO .ellipsis :=Heap.get?_push_of_some _ hz5;refine wpAny_bind (m :=setField (.ref z) 0 _) (wpAny_setField_rec hz6 (by simp) fun g7 hz7 s7 => ?_);replace hz7:IsZip g7 z TI TO (rawInt g5.objs.size) :=hz7;refine wpAny_setField_rec hz7 (by simp) fun g8 hz8 s8 => ?_;replace hz8:IsZip g8 z TI TO (rawInt g5.objs.size) :=hz8;have up:∀c o, c ≠ z -> g5.get? c=some o -> g8.get? c=some o :=fun c o c1 e => s8.extBut _ _ c1 (s7.extBut _ _ c1 (Heap.get?_push_of_some _ e));have hT8:IsPair g8 g5.objs.size x y :=s8.extBut _ _ (Nat.ne_of_gt zlt) (s7.extBut _ _ (Nat.ne_of_gt zlt) (Heap.get?_push_size _ rfl));have z8:g8.objs.size=g5.objs.size+1 :=by rw[s8.1, s7.1, Heap.size_push]
 rw[hsz]at hz8 hT8 z8;have fin:wpAny (model prog w) A (pure (some (Value.ref g5.objs.size))) Q E {s with heap :=g8} :=by
  rw[hsz];exact wpAny_pure (hQ g8 hz8 (up _ _ D.TOz hTO5) (n15.keep fun o e => up _ o D.i1z e) (n25.keep fun o e => up _ o D.i2z e) hT8 z8 fun c o hc e => up c o (fun q => hc (by simp[q])) (k5 c o hc e))
 exact wpAny_pure ⟨_, rfl, fin⟩
theorem zip_end{TI TO:Addr}{Q:Option Value -> Shared -> Prop}(hh:A.handled=none)(D0:Apart z TI TO i1 i2 l1 l2)(Z:ZipAt t1 t2 z TI TO i1 i2 l1 l2 k s.heap)
  (hl1:SubS t1 s.heap l1 xs) (hl2:SubS t2 s.heap l2 ys) (hend:xs[k]?=none \/ ys[k]?=none)
  (hQ:∀h', (∀c o, c ∉ [z, TO, i1, i2] -> s.heap.get? c=some o -> h'.get? c=some o) -> Q none {s with heap :=h' }):wpAny (model prog w) A (pyNext (.ref z)) Q E s :=by
 have D :=D0.old;obtain⟨hz, hTI, ⟨a, b, hTO⟩, h1, h2⟩ :=Z;have hT:s.TypeIs (.ref z) "zip" :=(⟨_, hz, rfl⟩);have out:∀{c:Addr}, c ∉ [z, TO, i1, i2] -> c ≠ z /\ c ≠ TO /\ c ≠ i1 /\ c ≠ i2 :=fun hc => by simpa only[List.mem_cons, List.not_mem_nil, not_or, or_false]using hc
 have fin:∀h' e, (∀c o, c ∉ [z, TO, i1, i2] -> s.heap.get? c=some o -> h'.get? c=some o) -> (∃o, h'.get? e=some o /\ o.cls = .type "StopIteration") ->
   wpAny (model prog w) A (do if <- isInstance (.ref e) (.type "StopIteration")then pure none else throw (.ref e):Sem (Option Value)) Q E {s with heap :=h' } :=fun h' e hk ⟨o, ho, hc⟩ =>
  wpAny_bind (wpAny_isInstance (T := "StopIteration") (b :=true) ⟨o, ho, hc⟩ isSubtype_stop (wpAny_pure (hQ _ hk)))
 unfold pyNext;refine wpAny_bind (wpAny_attempt (wpAny_callSpecial?_slot (name :=Str.ofString "__next__") hT F.slot_zip_next (wpAny_call_entry F.slot_zip_next hT F.entry_zip_next ?_ (F.args_zip_next_1 _))));refine wpAny_bind (m :=field (.ref z) 2) (zf2 hz (wpAny_bind (m :=field (.ref z) 3) (zf3 hz (wpAny_bind (wpAny_seqItems hTI rfl ?_)))));refine wpAny_bind (m :=Builtin.SmallTypes.ownedTupleIsFree (.ref z)) (wpAny_bind (m :=field (.ref z) 0) (zf0 hz (wpAny_pure ?_)));simp only[if_true];refine wpAny_bind (wpAny_rule (wpAny_bind (wpAny_field hz rfl (x :=.ref TO) rfl (wpAny_bind (wpAny_setField_rec hz (by simp) fun g1 hz1 s1 => ?_)))));replace hz1:IsZip g1 z TI TO .ellipsis :=hz1;refine wpAny_bind ?_;simp only[List.forIn_cons, List.forIn_nil, List.zipIdx_cons, List.zipIdx_nil];refine wpAny_bind (wpAny_bind (wpAny_onRaise (wpAny_bind (m :=Builtin.SmallTypes.nextOf (.ref i1)) ?_)))
 cases hx:xs[k]? with
 |none =>
  refine(sub_end hh (h1.ext s1.extBut D.i1z) (hl1.ext s1.extBut D.l1z) hx fun g2 e s2 he => ?_);obtain⟨oe, hoe, hce⟩ :=he;have hz2:IsZip g2 z TI TO .ellipsis :=s2 _ _ D.i1z.symm hz1;have hez:e ≠ z :=fun q => by subst q;rw[hz2]at hoe;cases hoe;simp at hce
  refine wpAny_setField_rec hz2 (by simp) fun g3 _ s3 => fin g3 e (fun c o hc q => ?_) ⟨oe, s3.extBut _ _ hez hoe, hce⟩;obtain⟨c1, _, c3, _⟩ :=out hc;exact s3.extBut _ _ c1 (s2 _ _ c3 (s1.extBut _ _ c1 q))
 |some x =>
  have hy:ys[k]?=none :=by rcases hend with q|q;rw[hx]at q;cases q;exact q
  refine(sub_item (h1.ext s1.extBut D.i1z) (hl1.ext s1.extBut D.l1z) hx fun g2 n1 s2 => wpAny_pure ?_);have hTO2:IsPair g2 TO a b :=s2.extBut _ _ D.TOi1 (s1.extBut _ _ D.TOz hTO);refine wpAny_bind (wpAny_seqItems hTO2 rfl (wpAny_bind (wpAny_updateSeq_pair hTO2 fun g3 hTO3 s3 => ?_)));refine wpAny_bind (wpAny_letGo (wpAny_pure (wpAny_bind (wpAny_bind (wpAny_onRaise ?_)))));refine wpAny_bind (m :=Builtin.SmallTypes.nextOf (.ref i2)) (sub_end hh (((h2.ext s1.extBut D.i2z).ext s2.extBut D.i12.symm).ext s3.extBut D.TOi2.symm) (((hl2.ext s1.extBut D.l2z).ext s2.extBut D.l2i1).ext s3.extBut D.l2TO) hy fun g4 e s4 he => ?_);obtain⟨oe, hoe, hce⟩ :=he;have hz4:IsZip g4 z TI TO .ellipsis :=s4 _ _ D.i2z.symm (s3.extBut _ _ D.TOz.symm (s2.extBut _ _ D.i1z.symm hz1));have hez:e ≠ z :=fun q => by subst q;rw[hz4]at hoe;cases hoe;simp at hce
  refine wpAny_setField_rec hz4 (by simp) fun g5 _ s5 => fin g5 e (fun c o hc q => ?_) ⟨oe, s5.extBut _ _ hez hoe, hce⟩;obtain⟨c1, c2, c3, c4⟩ :=out hc;exact s5.extBut _ _ c1 (s4 _ _ c4 (s3.extBut _ _ c2 (s2.extBut _ _ c3 (s1.extBut _ _ c1 q))))
end
def zit(t:Bool):String :=if t then "tuple_iterator" else "list_iterator"
abbrev itO(t:Bool)(l:Addr):Obj :={cls :=.type (zit t), data :=.fields #[.ref l, .int 0 0]}
abbrev zA(t1:Bool)(h:Heap)(l1:Addr):Heap :=h.push (itO t1 l1)
abbrev zB(t1 t2:Bool)(h:Heap)(l1 l2:Addr):Heap :=(zA t1 h l1).push (itO t2 l2)
abbrev zC(t1 t2:Bool)(h:Heap)(l1 l2:Addr):Heap :=(zB t1 t2 h l1 l2).push {cls :=.type "tuple", data :=.seq #[.ref h.objs.size, .ref (zA t1 h l1).objs.size]}
abbrev zD(t1 t2:Bool)(h:Heap)(l1 l2:Addr):Heap :=(zC t1 t2 h l1 l2).push {cls :=.type "tuple", data :=.seq #[.none, .none]}
abbrev zE(t1 t2:Bool)(h:Heap)(l1 l2:Addr):Heap :=(zD t1 t2 h l1 l2).push {cls :=.type "zip", data :=.fields #[.none, .bool false, .bool false, .ref (zB t1 t2 h l1 l2).objs.size, .ref (zC t1 t2 h l1 l2).objs.size]}
theorem pyIter_sub{prog:Program}{w:World}{A:Around}{E:Value -> Shared -> Prop}{s:Shared}(h:SubS t s.heap l its)
  (hQ:Q (.ref s.heap.objs.size) {s with heap :=s.heap.push (itO t l)}):wpAny (model prog w) A (pyIter (.ref l)) Q E s :=by
 cases t
 .exact wpAny_pyIter_list (show s.heap.IsList l its from h) hQ
 .exact wpAny_pyIter_tuple (show s.heap.IsTuple l its from h) hQ
theorem zip_new(t1 t2:Bool)(l1 l2:Addr)(xs ys:Array Value) :
  Meets (Builtin.«zip.__new__» ⟨[.type "zip", .ref l1, .ref l2], []⟩) (fun _ R s => SubS t1 s.heap l1 xs /\ SubS t2 s.heap l2 ys /\ R (.ok (.ret (.ref (zD t1 t2 s.heap l1 l2).objs.size))) {s with heap :=zE t1 t2 s.heap l1 l2}) :=
 .of_wp fun prog w A R s h => by
  rcases s with⟨hp, g, d, tk, os⟩;rcases h with⟨hl1, hl2, h⟩;have hsub :=sub_zip;have hL1:SubS t1 (Shared.heap ⟨hp, g, d, tk, os⟩) l1 xs :=hl1;have hL2:SubS t2 (Shared.heap ⟨hp.push (itO t1 l1), g, d, tk, os⟩) l2 ys :=hl2.keep fun o e => Heap.get?_push_of_some _ e
  wp_walk using pyIter_sub hL1, pyIter_sub hL2
  exact⟨_, rfl, h⟩
section
variable {prog:Program}{w:World}{A:Around}{E:Value -> Shared -> Prop}{s:Shared}
theorem call_zip(hl1:SubS t1 s.heap l1 xs)(hl2:SubS t2 s.heap l2 ys)
  (h:∀h', ZipAt t1 t2 (s.heap.objs.size+4) (s.heap.objs.size+2) (s.heap.objs.size+3) s.heap.objs.size (s.heap.objs.size+1) l1 l2 0 h' -> (∀c o, s.heap.get? c=some o -> h'.get? c=some o) -> Q (.ref (s.heap.objs.size+4)) {s with heap :=h' }):wpAny (model prog w) A (call (.type "zip") [.ref l1, .ref l2]) Q E s :=by
 refine callType_new F.called_zip (by decide) (F.typeCall_zip_2 _ _) (F.newCall_zip_2 _ _) (fun obj => F.args_object_init_3 obj _ _) F.entry_zip_new (zip_new t1 t2 l1 l2 xs ys) ⟨hl1, hl2, ?_⟩;have z1:(zA t1 s.heap l1).objs.size=s.heap.objs.size+1 :=Heap.size_push ..;have z2:(zB t1 t2 s.heap l1 l2).objs.size=s.heap.objs.size+2 :=by rw[Heap.size_push, z1]
 have z3:(zC t1 t2 s.heap l1 l2).objs.size=s.heap.objs.size+3 :=by rw[Heap.size_push, z2]
 have z4:(zD t1 t2 s.heap l1 l2).objs.size=s.heap.objs.size+4 :=by rw[Heap.size_push, z3]
 have up1:∀c o, (zD t1 t2 s.heap l1 l2).get? c=some o -> (zE t1 t2 s.heap l1 l2).get? c=some o :=fun c o e => Heap.get?_push_of_some _ e;have up2:∀c o, (zC t1 t2 s.heap l1 l2).get? c=some o -> (zE t1 t2 s.heap l1 l2).get? c=some o :=fun c o e => up1 c o (Heap.get?_push_of_some _ e);have up3:∀c o, (zB t1 t2 s.heap l1 l2).get? c=some o -> (zE t1 t2 s.heap l1 l2).get? c=some o :=fun c o e => up2 c o (Heap.get?_push_of_some _ e);have up4:∀c o, (zA t1 s.heap l1).get? c=some o -> (zE t1 t2 s.heap l1 l2).get? c=some o :=fun c o e => up3 c o (Heap.get?_push_of_some _ e);have g5:(zE t1 t2 s.heap l1 l2).get? (s.heap.objs.size+4)=some {cls :=.type "zip", data :=.fields #[.none, .bool false, .bool false, .ref (s.heap.objs.size+2), .ref (s.heap.objs.size+3)]} :=by
  rw[<- z4, <- z3, <- z2];exact Heap.get?_push_size _ rfl
 have g4:(zE t1 t2 s.heap l1 l2).get? (s.heap.objs.size+3)=some {cls :=.type "tuple", data :=.seq #[.none, .none]} :=by
  rw[<- z3];exact up1 _ _ (Heap.get?_push_size _ rfl)
 have g3:(zE t1 t2 s.heap l1 l2).get? (s.heap.objs.size+2)=some {cls :=.type "tuple", data :=.seq #[.ref s.heap.objs.size, .ref (s.heap.objs.size+1)]} :=by
  rw[<- z2, <- z1];exact up2 _ _ (Heap.get?_push_size _ rfl)
 have g2:(zE t1 t2 s.heap l1 l2).get? (s.heap.objs.size+1)=some (itO t2 l2) :=by
  rw[<- z1];exact up3 _ _ (Heap.get?_push_size _ rfl)
 have g1:(zE t1 t2 s.heap l1 l2).get? s.heap.objs.size=some (itO t1 l1) :=up4 _ _ (Heap.get?_push_size _ rfl);have sub:∀{t:Bool}{i l:Addr}, (zE t1 t2 s.heap l1 l2).get? i=some (itO t l) -> SubI t (zE t1 t2 s.heap l1 l2) i l 0 :=fun {t i l} e => by
  cases t
  .exact⟨_, e, rfl, rfl⟩
  .exact⟨_, e, rfl, rfl⟩
 show _ /\ _;rw[z4];exact⟨⟨_, g5, rfl⟩, h _ ⟨g5, g3, ⟨_, _, g4⟩, sub g1, sub g2⟩ fun c o x => up4 c o (Heap.get?_push_of_some _ x)⟩
end
theorem apart_new{l1 l2:Nat}(h1:l1<n)(h2:l2<n):Apart (n+4) (n+2) (n+3) n (n+1) l1 l2 where
 d :=by
  show List.Nodup ([n+4, n+2, n+3, n, n+1]:List Nat);simp only[List.nodup_cons, List.mem_cons, List.not_mem_nil, or_false, not_or, List.nodup_nil, and_true, not_false_eq_true];omega
 m1 :=by
  show ¬(l1 ∈ ([n+4, n+2, n+3, n, n+1]:List Nat));simp only[List.mem_cons, List.not_mem_nil, or_false, not_or];omega
 m2 :=by
  show ¬(l2 ∈ ([n+4, n+2, n+3, n, n+1]:List Nat));simp only[List.mem_cons, List.not_mem_nil, or_false, not_or];omega
def SqB(t:Bool)(K:PySem.W.Frag)(H:Hp)(a:Addr)(xs:List V):Prop :=if t then SqT K H a xs else SqL K H a xs
def Itz(t1 t2:Bool)(K:PySem.W.Frag)(a b:Addr):It where
 go :=fun i H => ∃xs ys x y, SqB t1 K H a xs /\ SqB t2 K H b ys /\ xs[i]?=some x /\ ys[i]?=some y
 yld :=fun i H v H' => ∃T x y, v = .ref T /\ H T=none /\ H'=upd H T (.tup [x, y]) /\ (∀xs, SqB t1 K H a xs -> xs[i]?=some x) /\ ∀ys, SqB t2 K H b ys -> ys[i]?=some y
 stop :=fun i H => ∃xs ys, SqB t1 K H a xs /\ SqB t2 K H b ys /\ (xs.length ≤ i \/ ys.length ≤ i)
theorem Inv.sqb{s:Shared}{xs:List V}(I:Inv X pins σ H s)(h:SqB t X.kx H a xs):∃its:List Value, Vals xs its /\ SubS t s.heap a its.toArray /\ xs.length ≤ sizeLine :=by
 cases t
 .obtain⟨its, r, p, z⟩ :=I.list (show SqL X.kx H a xs from h);exact⟨its, r, p.isList, z⟩
 .obtain⟨its, r, p, z⟩ :=I.tuple (show SqT X.kx H a xs from h);exact⟨its, r, p, z⟩
theorem Inv.sqb_inj{s:Shared}{xs ys:List V}(I:Inv X pins σ H s)(h:SqB t X.kx H a xs)(h':SqB t X.kx H a ys):xs=ys :=by
 cases t
 .exact I.list_inj (show SqL X.kx H a xs from h) (show SqL X.kx H a ys from h')
 .exact I.tuple_inj (show SqT X.kx H a xs from h) (show SqT X.kx H a ys from h')
theorem turn_zip{P:Program}{w:World}{K:PySem.W.Frag}{x1:Nat}{pos:Pos}{b TI TO:Addr}(D:Apart z TI TO i1 i2 a b):Turn P w K (.Tuple elts x1 pos) (Itz t1 t2 K a b) [z, TI, TO, i1, i2] z (fun i h => ZipAt t1 t2 z TI TO i1 i2 a b i h) where
 mem :=by simp
 obj :=fun i h st c hc => by
  obtain⟨hz, hTI, ⟨u, v, hTO⟩, h1, h2⟩ :=st;simp only[List.mem_cons, List.not_mem_nil, or_false]at hc;rcases hc with rfl|rfl|rfl|rfl|rfl
  .exact⟨_, hz, fun v q => by cases q⟩
  .exact⟨_, hTI, fun v q => by cases q⟩
  .exact⟨_, hTO, fun v q => by cases q⟩
  .obtain⟨o, vs, e, d⟩ :=h1.obj;exact⟨o, e, fun v q => by rw[d]at q;cases q⟩
  .obtain⟨o, vs, e, d⟩ :=h2.obj;exact⟨o, e, fun v q => by rw[d]at q;cases q⟩
 keep :=fun i h h' st k => by
  obtain⟨hz, hTI, ⟨u, v, hTO⟩, h1, h2⟩ :=st;exact⟨k z (by simp) _ hz, k TI (by simp) _ hTI, ⟨u, v, k TO (by simp) _ hTO⟩, h1.keep fun o e => k i1 (by simp) o e, h2.keep fun o e => k i2 (by simp) o e⟩
 item :=by
  intro X hP hw hK hc i pins s σ H E I hf st hg;subst hP hw hK;obtain⟨xs, ys, x, y, hq1, hq2, hx, hy⟩ :=hg;obtain⟨its1, rv1, p1, _⟩ :=I.sqb hq1;obtain⟨its2, rv2, p2, _⟩ :=I.sqb hq2;obtain⟨u1, e1, ru1⟩ :=rv1.get hx;obtain⟨u2, e2, ru2⟩ :=rv2.get hy;refine zip_item D st p1 p2 (x :=u1) (y :=u2) (by simpa using e1) (by simpa using e2) fun h' a1 a2 a3 a4 a5 a6 a7 => ⟨.ref s.heap.objs.size, rfl, ?_⟩;refine wpAny_letOwnedTupleGo_zip (s :={s with heap :=h' }) a1 fun h2 b1 sb => ?_;have hfT:H s.heap.objs.size=none :=I.hok.fresh (Nat.le_refl _);have sfp:∀c ∈ [z, TI, TO, i1, i2], c<s.heap.objs.size :=fun c hc => by
   obtain⟨hz, hTI, ⟨u, v, hTO⟩, h1, h2⟩ :=st;simp only[List.mem_cons, List.not_mem_nil, or_false]at hc;rcases hc with rfl|rfl|rfl|rfl|rfl
   .exact Heap.lt_size hz
   .exact Heap.lt_size hTI
   .exact Heap.lt_size hTO
   .obtain⟨o, vs, e, d⟩ :=h1.obj;exact Heap.lt_size e
   .obtain⟨o, vs, e, d⟩ :=h2.obj;exact Heap.lt_size e
  have nz:∀c ∈ [z, TI, TO, i1, i2], c ≠ s.heap.objs.size :=fun c hc => Nat.ne_of_lt (sfp c hc);have dd :=D.old;have up:∀c o, c ≠ z -> h'.get? c=some o -> h2.get? c=some o :=fun c o n e => sb.extBut c o n e;have T2:IsPair h2 s.heap.objs.size u1 u2 :=up _ _ (Ne.symm (nz z (by simp))) a5;have I0:Inv X pins σ (upd H s.heap.objs.size (.tup [x, y])) {s with heap :=s.heap.push {cls :=.type "tuple", data :=.seq #[u1, u2]}, toks :=s.toks} :=
   I.laid (o :=.tup [x, y]) (fun c o e => Heap.get?_push_of_some _ e) (Nat.le_refl _) ⟨by show 2 ≤ sizeLine;rw[sizeLine_eq];decide, [u1, u2], .cons ru1 (.cons ru2 .nil), PlainT.new _ _⟩
  have Il:Inv X pins σ (upd H s.heap.objs.size (.tup [x, y])) {s with heap :=h2, toks :=s.toks} :=by
   refine Inv.turneds (s :={s with heap :=s.heap.push {cls :=.type "tuple", data :=.seq #[u1, u2]}, toks :=s.toks}) (h' :=h2) (t' :=s.toks) (ch :=[z, TI, TO, i1, i2]) I0 (fun c o hc e => ?_) fun c hc => ?_
   .rcases Heap.get?_push_cases e with⟨rfl, rfl⟩|e
    .exact T2
    .exact up c o (fun q => hc (by simp[q])) (a7 c o (fun q => hc (by simp only[List.mem_cons, List.not_mem_nil, or_false]at q⊢;rcases q with q|q|q|q<;>simp[q])) e)
   .obtain⟨f0, f1⟩ :=hf c hc;exact⟨by rw[upd_ne (nz c hc)];exact f0, f1⟩
  refine⟨.ref s.heap.objs.size, upd H s.heap.objs.size (.tup [x, y]), Il, rfl, ⟨_, x, y, rfl, hfT, rfl, fun zs hz => by rw[I.sqb_inj hz hq1];exact hx, fun zs hz => by rw[I.sqb_inj hz hq2];exact hy⟩, ⟨b1, up _ _ dd.TIz (a7 _ _ (by simp only[List.mem_cons, List.not_mem_nil, or_false, not_or];exact⟨dd.TIz, dd.TITO, dd.TIi1, dd.TIi2⟩) st.ti), ⟨_, _, up _ _ dd.TOz a2⟩, a3.keep fun o e => up _ o dd.i1z e, a4.keep fun o e => up _ o dd.i2z e⟩, fun c hc => ?_⟩;rw[upd_ne (nz c hc)];exact(hf c hc).1
 done :=by
  intro X hP hw hK hc i pins s σ H E I hf st hg;subst hP hw hK;obtain⟨xs, ys, hq1, hq2, he⟩ :=hg;obtain⟨its1, rv1, p1, _⟩ :=I.sqb hq1;obtain⟨its2, rv2, p2, _⟩ :=I.sqb hq2;have l1 :=rv1.length;have l2 :=rv2.length;refine zip_end (I.ok.hd hc) D st p1 p2 (by rcases he with q|q;(left;simp;omega);(right;simp;omega)) fun h' hk => ⟨rfl, I.turneds (t' :=s.toks) (ch :=[z, TI, TO, i1, i2]) (fun c o hc e => hk c o (fun q => hc (by simp only[List.mem_cons, List.not_mem_nil, or_false]at q⊢;rcases q with q|q|q|q<;>simp[q])) e) hf⟩
 self :=fun _ _ _ _ _ st h => wpAny_pyIter_zip st.z h
section
variable {X:Cx}{elts:List Expr}{x1:Nat}{tpos:Pos}{a b:Expr}{ws:WA}{p pos:Pos}
def iZip(K:PySem.W.Frag)(ta:TA):TI :=fun σ H Rq => ta σ H fun vs H1 => ∃t1 t2 l1 l2, vs=[.ref l1, .ref l2] /\ (∃xs, SqB t1 K H1 l1 xs) /\ (∃ys, SqB t2 K H1 l2 ys) /\ Rq (Itz t1 t2 K l1 l2) H1
theorem bt_zip':bootBuiltins "zip" = some (.type "zip") :=by decide +kernel
theorem pi_zip{ta:TA}(hg:Gl X "zip")(hm:X.mg "zip" = none)(ha:PA X [a, b] ta)(hs:starEach [a, b] X.env=[(false, eval a X.env), (false, eval b X.env)] :=by first|exact(star_cons rfl).trans (congrArg _ (star_one rfl))|rfl)(hs2:starEach [b] X.env=[(false, eval b X.env)] :=by first|exact star_one rfl|rfl):PI X (.Tuple elts x1 tpos) (.Call (.Name "zip" p) [a, b] [] pos) (iZip X.K ta) :=by
 intro pins s σ H Rq I h;refine Call_ (ld_blt I hg hm bt_zip' (PyProof.Rows.callWith_type1 (thn (ha pos pins s σ H _ I h) fun us s1 ⟨vs, H1, I1, r1, q1⟩ => ?_) (by rw[hs, hs2]) (by rw[hs2];rfl)));obtain⟨t1, t2, l1, l2, e, ⟨xs, h1⟩, ⟨ys, h2⟩, q⟩ :=q1;subst e
 cases r1 with
 | cons r rr =>
  cases rr with
  | cons r' rr =>
   cases rr;cases r;cases r';obtain⟨its1, rv1, p1, _⟩ :=I1.sqb h1;obtain⟨its2, rv2, p2, _⟩ :=I1.sqb h2;refine call_zip p1 p2 fun h' Z hk => ?_;refine wpAny_pyIter_zip Z.z ?_;have lt:∀{t:Bool}{l:Addr}{its:Array Value}, SubS t s1.heap l its -> l<s1.heap.objs.size :=fun {t l its} p => by
    cases t
    .obtain⟨o, e, _⟩ :=(show s1.heap.IsList l its from p);exact Heap.lt_size e
    .obtain⟨o, e, _⟩ :=(show s1.heap.IsTuple l its from p);exact Heap.lt_size e
   refine⟨s1.heap.objs.size+4, _, _, _, H1, rfl, I1.kept (t' :=s1.toks) hk, turn_zip (apart_new (lt p1) (lt p2)), Z, fun c hc => ?_, q⟩;have hle:s1.heap.objs.size ≤ c :=by
    have hc':c ∈ ([s1.heap.objs.size+4, s1.heap.objs.size+2, s1.heap.objs.size+3, s1.heap.objs.size, s1.heap.objs.size+1]:List Nat) :=hc;simp only[List.mem_cons, List.not_mem_nil, or_false]at hc';rcases hc' with rfl|rfl|rfl|rfl|rfl<;>first|exact Nat.le_add_right _ _|exact Nat.le_refl _
   exact I1.fpOk hle (I1.hok.fresh hle)
def imS:R -> Option (Bool × List PyData)
 | .imm (.tuple ds) => some (true, ds)
 | .imm (.list ds) => some (false, ds)
 |_ => none
def zipD(ds es:List PyData):List PyData :=(ds.zip es).map fun p => .tuple [p.1, p.2]
def wiZip(ws:WA):WI :=fun m K => ws m fun rs m' => match rs with|[r1, r2] => ∃t1 ds t2 es, imS r1=some (t1, ds) /\ imS r2=some (t2, es) /\ K ⟨zipD ds es, none⟩ m'|_ => False
theorem sqb_of{K:Kd}{α:Al}{H0:Hp}{r:R}{v:V}(h:RelR K α H0 H r v)(e:imS r=some (t, ds)):∃l xs, v = .ref l /\ DenAll K H ds xs /\ (SqB t K H l xs) /\ ∀H1, Pers H H1 -> SqB t K H1 l xs :=by
 unfold imS at e
 split at e
 .cases e;obtain⟨l, xs, e, f, g⟩ :=tup_of_den (show Den K H (.tuple ds) v from h);exact⟨l, xs, e, g, f, fun H1 p => f.mono p⟩
 .cases e;have h':Den K H (.list ds) v :=h;simp only[Den]at h';obtain⟨l, xs, e, f, g⟩ :=h';exact⟨l, xs, e, g, f.sq, fun H1 p => (f.mono p).sq⟩
 .cases e
theorem zipD_length(ds es:List PyData):(zipD ds es).length=min ds.length es.length :=by simp[zipD]
theorem zipD_get{d e:PyData}(h1:ds[i]?=some d)(h2:es[i]?=some e):(zipD ds es)[i]?=some (.tuple [d, e]) :=by
 unfold zipD;rw[List.getElem?_map, (List.getElem?_zip_eq_some (z :=(d, e))).mpr ⟨h1, h2⟩];rfl
theorem wks_zip{K:Kd}:Wks K (Itz t1 t2 K l1 l2) (zipD ds es) fun H => ∃xs ys, SqB t1 K H l1 xs /\ SqB t2 K H l2 ys /\ DenAll K H ds xs /\ DenAll K H es ys where
 stop :=fun H ⟨xs, ys, q1, q2, g1, g2⟩ => ⟨xs, ys, q1, q2, by rw[zipD_length, <- g1.length, <- g2.length];omega⟩
 go :=fun i H hi ⟨xs, ys, q1, q2, g1, g2⟩ => by
  rw[zipD_length]at hi;exact⟨xs, ys, xs[i]'(by rw[<- g1.length];omega), ys[i]'(by rw[<- g2.length];omega), q1, q2, List.getElem?_eq_getElem _, List.getElem?_eq_getElem _⟩
 yld :=fun i H x H' hi ⟨xs, ys, q1, q2, g1, g2⟩ y => by
  obtain⟨T, u, v, rfl, hT, rfl, e1, e2⟩ :=y;obtain⟨d, h1, k1⟩ :=g1.get2 (e1 xs q1);obtain⟨e, h2, k2⟩ :=g2.get2 (e2 ys q2);have gr:∀b o, H b=some o -> upd H T (.tup [u, v]) b=some o :=fun b o q => by rw[upd_ne (ne_of_none q hT)];exact q
  have pe:Pers H (upd H T (.tup [u, v])) :=⟨fun b xs q => gr b _ q, fun b o u q => gr b _ q⟩;refine⟨gr, _, zipD_get h1 h2, ?_⟩;exact den_tup (SqT.of upd_same) (DenAll.cons (k1.mono pe) (DenAll.cons (k2.mono pe) DenAll.nil))
theorem mi_zip(hm:X.mg "zip" = none)(ha:MA X [a, b] ws)(hg:Gl X "zip" :=by rfl)(hs:starEach [a, b] X.env=[(false, eval a X.env), (false, eval b X.env)] :=by first|exact(star_cons rfl).trans (congrArg _ (star_one rfl))|rfl)(hs2:starEach [b] X.env=[(false, eval b X.env)] :=by first|exact star_one rfl|rfl):MI X (.Tuple elts x1 tpos) (.Call (.Name "zip" p) [a, b] [] pos) (wiZip ws) :=(pi_zip hg hm ha hs hs2).wk fun σ H Rq ⟨α, m, Kc, Rl, hw, fin⟩ => by
 refine⟨α, m, _, Rl, hw, fun rs m' vs H' k n Rl' rr F => ?_⟩
 cases rr with
 |nil => exact k.elim
 |cons h1 rr =>
  cases rr with
  |nil => exact k.elim
  |cons h2 rr =>
  cases rr with
  |cons _ _ => exact k.elim
  |nil =>
  obtain⟨t1, ds, t2, es, e1, e2, k⟩ :=k;obtain⟨l1, xs, rfl, g1, q1, p1⟩ :=sqb_of h1 e1;obtain⟨l2, ys, rfl, g2, q2, p2⟩ :=sqb_of h2 e2;refine⟨t1, t2, l1, l2, rfl, ⟨xs, q1⟩, ⟨ys, q2⟩, fin _ m' _ H' k n Rl' F ⟨fun H => ∃xs ys, SqB t1 X.kx H l1 xs /\ SqB t2 X.kx H l2 ys /\ DenAll X.kx H ds xs /\ DenAll X.kx H es ys /\ (∀H1, Pers H H1 -> SqB t1 X.kx H1 l1 xs) /\ ∀H1, Pers H H1 -> SqB t2 X.kx H1 l2 ys, wks_zip.imp fun H ⟨xs, ys, a, b, c, d, _⟩ => ⟨xs, ys, a, b, c, d⟩, ⟨xs, ys, q1, q2, g1, g2, p1, p2⟩, fun Ha Hb ⟨xs, ys, a, b, c, d, pa, pb⟩ pe => ⟨xs, ys, pa Hb pe, pb Hb pe, c.mono pe, d.mono pe, fun H1 p => pa H1 (pe.trans p), fun H1 p => pb H1 (pe.trans p)⟩⟩⟩
theorem x_zip{m:MSt}{Ks:Src -> MSt -> Prop}(h:ws m fun rs m' => match rs with|[r1, r2] => ∃t1 ds t2 es, imS r1=some (t1, ds) /\ imS r2=some (t2, es) /\ Ks ⟨zipD ds es, none⟩ m'|_ => False):wiZip ws m Ks :=h
end
theorem mi_zip'{x1:Nat}{tpos:Pos}{a b:Expr}{ws:WA}{p pos:Pos}(hm:X.mg "zip" = none)(ha:EA X [a, b] ws)(hg:Gl X "zip" :=by rfl)(hs:starEach [a, b] X.env=[(false, eval a X.env), (false, eval b X.env)] :=by first|exact(star_cons rfl).trans (congrArg _ (star_one rfl))|rfl)(hs2:starEach [b] X.env=[(false, eval b X.env)] :=by first|exact star_one rfl|rfl):EI X (.Tuple elts x1 tpos) (.Call (.Name "zip" p) [a, b] [] pos) (wiZip ws) :=⟨mi_zip hm ha.h hg hs hs2⟩
theorem gmap{α β:Type}{xs:List α}{y:β}{f:α -> β}(h:(xs.map f)[i]?=some y):∃x, xs[i]?=some x /\ y=f x /\ i<xs.length :=by
 rw[List.getElem?_map]at h
 cases q:xs[i]? with
 |none => rw[q]at h;cases h
 |some x => rw[q]at h;exact⟨x, rfl, (Option.some.inj h).symm, (List.getElem?_eq_some_iff.mp q).1⟩
theorem get_range{lo:Int}{d:PyData}(h:(rangeD lo n)[i]?=some d):i<n /\ d = .int (lo+(i:Int)) :=by
 have hi:i<n :=by
  have :=(List.getElem?_eq_some_iff.mp h).1;rwa[rangeD_length]at this
 rw[rangeD_get hi]at h;exact⟨hi, (Option.some.inj h).symm⟩
theorem x_bindRen{m:MSt}(ρ:List Nat)(m2:MSt)(N:Ren ρ (m.setV n (.obj k)) m2)(h:P m2):bindR n P m (.obj k) :=.inr ⟨ρ, m2, N, h⟩
theorem x_bindNRen{m:MSt}(ρ:List Nat)(m2:MSt)(N:Ren ρ {vs :=m.vs.set n (some (.obj m.os.length)), os :=m.os ++ [ds], np :=m.np} m2)(h:P m2):bindR n P m (.new ds) :=.inl (.inr ⟨ρ, m2, N, h⟩)
def RenO(ρ:List Nat)(o:Option R):Option R -> Prop
 |none => True
 |some r => RenR ρ (some o) r
def RenVs(ρ:List Nat):List (Option R) -> List (Option R) -> Prop
 |o::os, q::qs => RenO ρ o q /\ RenVs ρ os qs
 |[], [] => True
 |_, _ => False
theorem RenVs.len{ρ:List Nat}:∀{os qs:List (Option R)}, RenVs ρ os qs -> qs.length=os.length
 |[], [], _ => rfl
 |_::_, _::_, h => congrArg (· + 1) (RenVs.len h.2)
 |[], _::_, h => h.elim
 |_::_, [], h => h.elim
theorem RenVs.get{ρ:List Nat}:∀{os qs:List (Option R)}, RenVs ρ os qs -> ∀(j:Nat) (r:R), qs[j]?=some (some r) -> RenR ρ os[j]? r
 |o::os, q::qs, h, 0, r, e => by
  have e':q=some r :=by simpa using e
  subst e';exact h.1
 |o::os, q::qs, h, j+1, r, e => by simpa using RenVs.get h.2 j r (by simpa using e)
 |[], [], _, _, _, e => by simp at e
 |[], _::_, h, _, _, _ => h.elim
 |_::_, [], h, _, _, _ => h.elim
theorem ren_of{ρ:List Nat}{m m2:MSt}(nd:decide ρ.Nodup=true)(lt:(ρ.all fun k => Nat.blt k m.os.length)=true)(pre:ρ.take m.np=List.range m.np)(npl:Nat.ble m.np ρ.length=true)(os:m2.os=ρ.map fun k => m.os.getD k [])(np:m2.np=m.np)(vs:RenVs ρ m.vs m2.vs):Ren ρ m m2 :=
 ⟨of_decide_eq_true nd, fun k hk => Nat.blt_eq.mp (List.all_eq_true.mp lt k hk), pre, Nat.le_of_ble_eq_true npl, os, np, vs.len, fun j r e => vs.get j r e⟩
theorem get_zip{d:PyData}(h:(zipD ds es)[i]?=some d):∃a b, ds[i]?=some a /\ es[i]?=some b /\ d = .tuple [a, b] :=by
 obtain⟨p, h1, rfl, _⟩ :=gmap h;obtain⟨h2, h3⟩ :=List.getElem?_zip_eq_some.mp h1;exact⟨p.1, p.2, h2, h3, rfl⟩
end L2
namespace M3
def stepL(xs:List (List Nat))(r:Nat):List (List Nat) :=xs.flatMap fun a => (List.range (r+1)).map fun k => a ++ [k]
def allL(rs:List Nat):List (List Nat) :=rs.foldl stepL [[]]
def allR:List Nat -> List (List Nat)
 |[] => [[]]
 |r::rs => (List.range (r+1)).flatMap fun k => (allR rs).map (k :: ·)
theorem fold_step:∀(rs:List Nat) (xs:List (List Nat)), rs.foldl stepL xs=xs.flatMap fun a => (allR rs).map (a ++ ·)
 |[], xs => by
  simp[allR]
 |r::rs, xs => by
  rw[List.foldl_cons, fold_step rs];simp only[stepL, allR, List.flatMap_assoc, List.map_flatMap, List.flatMap_map, List.map_map]
  congr 1
  funext a
  congr 1
  funext k
  congr 1
  funext l
  simp
theorem allL_eq(rs:List Nat):allL rs=allR rs :=by
 unfold allL;rw[fold_step];simp
theorem allR_len:∀{rs l:List Nat}, l ∈ allR rs -> l.length=rs.length
 |[], l, h => by simp[allR]at h;subst h;rfl
 |r::rs, l, h => by
  simp only[allR, List.mem_flatMap, List.mem_map]at h;obtain⟨k, _, l', h, rfl⟩ :=h;simp[allR_len h]
theorem stepL_length(xs:List (List Nat))(r:Nat):(stepL xs r).length=xs.length*(r+1) :=by
 unfold stepL
 induction xs with
 |nil => simp
 |cons a xs ih =>
  rw[List.flatMap_cons, List.length_append, ih, List.length_map, List.length_range, List.length_cons, Nat.succ_mul];omega
theorem fold_len:∀{rs:List Nat}{xs:List (List Nat)}, (∀r ∈ rs, r ≤ 6) -> (rs.foldl stepL xs).length ≤ xs.length*7^rs.length
 |[], xs, _ => by simp
 |r::rs, xs, h => by
  rw[List.foldl_cons];refine Nat.le_trans (fold_len fun r' h' => h r' (List.mem_cons_of_mem _ h')) ?_;rw[stepL_length, List.length_cons, Nat.pow_succ, Nat.mul_assoc, Nat.mul_comm (7^rs.length)];refine Nat.mul_le_mul_left _ (Nat.mul_le_mul_right _ ?_);have :=h r List.mem_cons_self;omega
theorem fold_small{rs:List Nat}(h4:rs.length ≤ 4)(h:∀r ∈ rs, r ≤ 6):(rs.foldl stepL [[]]).length ≤ 2401 :=by
 refine Nat.le_trans (fold_len h) ?_;have:7^rs.length ≤ 7^4 :=Nat.pow_le_pow_right (by decide) h4;simpa using this
theorem stepL_take{xs:List (List Nat)}{r j:Nat}{l:List Nat}(h:xs[j]?=some l):stepL (xs.take (j+1)) r=stepL (xs.take j) r ++ (List.range (r+1)).map fun y => l ++ [y] :=by
 unfold stepL;rw[List.take_add_one, h, List.flatMap_append];simp
end M3
set_option maxHeartbeats 4100000
namespace K
open PySem L2
variable{h:Hall}
def FeedD(c:Nat)(ds:List PyData):Prop :=∃(ns:List Int) (p q r:Int), ds=[.list (ns.map .int), .int p, .int q, .int r] /\ ns.length ≤ 63 /\ 0 ≤ p /\ p ≤ c /\ 0 ≤ q /\ 0 ≤ r /\ r ≤ c
theorem FeedD.mono{c c':Nat}{ds:List PyData}(h:FeedD c ds)(hc:c ≤ c'):FeedD c' ds :=by
 obtain⟨ns, p, q, r, e, h1, h2, h3, h4, h5, h6⟩ :=h;exact⟨ns, p, q, r, e, h1, h2, by omega, h4, h5, by omega⟩
def spFeed:SpM :=fun as K => ∃ns:List Int, as=[.imm (.list (ns.map .int))] /\ ns.length ≤ 63 /\ ∀ds, FeedD 0 ds -> K (.new ds) []
def spDraw:SpM :=fun as K => ∃(ds:List PyData) (m:Int) (c:Nat), as=[.own ds, .imm (.int m)] /\ FeedD c ds /\ c<1000000000 /\ 0<m /\ m<1099511627776 /\ ∀(r:Int) (ds':List PyData), 0 ≤ r -> r<m -> FeedD (c+1) ds' -> K (.imm (.int r)) [ds']
def spLaw:SpM :=fun as K => ∃ns:List Int, as=[.imm (.list (ns.map .int))] /\ ns.length ≤ 63 /\ K (.imm (.bool true)) []
def frD(a b:Int):PyData :=.tuple [.int a, .int b]
def spCut:SpM :=fun as K => ∃a b:Nat, as=[.imm (.int a), .imm (.int b)] /\ a<1000000000 /\ 0<b /\ b<1000000000 /\ K (.imm (frD (a/a.gcd b:Nat) (b/a.gcd b:Nat))) []
structure Srv where
 a:Nat
 b:Nat
 r:Nat
def Srv.d(s:Srv):PyData :=.tuple [.tuple [.int s.a, .int s.b], .int s.r]
structure Srv.Ok(s:Srv):Prop where
 a1:1 ≤ s.a
 a2:s.a<1000000
 b1:1 ≤ s.b
 b2:s.b<1000000
 r1:1 ≤ s.r
 r6:s.r ≤ 6
structure Hall where
 a:Nat
 b:Nat
 ss:List Srv
 mv:Bool
def Hall.d(h:Hall):PyData :=.tuple [.tuple [.int h.a, .int h.b], .tuple (h.ss.map Srv.d), .bool h.mv]
structure Hall.Ok(h:Hall):Prop where
 a1:1 ≤ h.a
 a2:h.a<1000000
 b1:1 ≤ h.b
 b2:h.b<1000000
 n1:1 ≤ h.ss.length
 n4:h.ss.length ≤ 4
 ok:∀s ∈ h.ss, s.Ok
def Hall.rs(h:Hall):List Nat :=h.ss.map Srv.r
theorem Hall.rsl(h:Hall):h.rs.length=h.ss.length :=by simp[Hall.rs]
theorem Hall.Ok.r6(o:h.Ok):∀r ∈ h.rs, r ≤ 6 :=fun r hr => by
 obtain⟨s, hs, rfl⟩ :=List.mem_map.mp hr;exact(o.ok s hs).r6
theorem Hall.rs_get{i:Nat}{s:Srv}(e:h.ss[i]?=some s):h.rs[i]?=some s.r :=by simp[Hall.rs, e]
def PairD(d:PyData):Prop :=∃a b:Nat, d = .tuple [.int (a:Int), .int (b:Int)] /\ 1 ≤ a /\ a ≤ 5 /\ 1 ≤ b /\ b ≤ 6
def prD(p:Nat × Nat):PyData :=.tuple [.int (p.1:Int), .int (p.2:Int)]
theorem PairD.all:∀{sv:List PyData}, (∀d ∈ sv, PairD d) -> ∃ps:List (Nat × Nat), sv=ps.map prD /\ ∀p ∈ ps, 1 ≤ p.1 /\ p.1 ≤ 5 /\ 1 ≤ p.2 /\ p.2 ≤ 6
 |[], _ => ⟨[], rfl, fun _ h => by cases h⟩
 |d::sv, h => by
  obtain⟨a, b, rfl, h1, h2, h3, h4⟩ :=h d List.mem_cons_self;obtain⟨ps, rfl, hp⟩ :=PairD.all fun d' h' => h d' (List.mem_cons_of_mem _ h');refine⟨(a, b)::ps, rfl, fun p hp' => ?_⟩;rcases List.mem_cons.mp hp' with rfl|z
  .exact⟨h1, h2, h3, h4⟩
  .exact hp p z
theorem sum_le:∀{ps:List (Nat × Nat)}, (∀p ∈ ps, 1 ≤ p.1 /\ p.1 ≤ 5 /\ 1 ≤ p.2 /\ p.2 ≤ 6) -> 0 ≤ (ps.map fun p => (p.1:Int)).sum /\ (ps.map fun p => (p.1:Int)).sum ≤ 5*(ps.length:Int)
 |[], _ => ⟨by decide, by decide⟩
 |p::ps, h => by
  have h1 :=h p List.mem_cons_self;have h2 :=sum_le fun q hq => h q (List.mem_cons_of_mem _ hq);rw[List.map_cons, List.sum_cons, List.length_cons];omega
def spHall:SpM :=fun as K => ∃(fd:List PyData) (c:Nat), as=[.own fd, .imm (.int 4)] /\ FeedD c fd /\ c<900000000 /\ ∀(h:Hall) (fd':List PyData), h.Ok -> FeedD (c+20) fd' -> K (.imm h.d) [fd']
def natD(l:List Nat):List PyData :=l.map fun(k:Nat) => .int (k:Int)
def lnD(l:List Nat):PyData :=.tuple (natD l)
theorem natD_length(l:List Nat):(natD l).length=l.length :=by simp[natD]
theorem natD_get{l:List Nat}{i x:Nat}(h:l[i]?=some x):(natD l)[i]?=some (.int (x:Int)) :=by simp[natD, h]
theorem natD_app(a b:List Nat):natD (a ++ b)=natD a ++ natD b :=by simp[natD]
def spAll:SpM :=fun as K => ∃h:Hall, as=[.imm h.d] /\ h.Ok /\ K (.new ((M3.allR h.rs).map lnD)) []
theorem lnD_shp(l:List Nat):Shp 1 (lnD l) :=shp_tuple (k :=0) fun d hd => by
 simp[natD]at hd;obtain⟨x, hx, rfl⟩ :=hd;exact shp_int _
inductive Rule where
 |random|turns|two|least|quick
 |told (ps:List Nat)
def Rule.word:Rule -> Str
 | .random => "random" | .turns => "turns" | .two => "two" | .least => "least" | .quick => "quick" | .told _ => "told"
def Rule.d:Rule -> PyData
 | .told ps => .tuple [.str "told", lnD ps]
 |r => .tuple [.str r.word]
def Rule.Ok(h:Hall):Rule -> Prop
 | .told ps => ps.length=(M3.allR h.rs).length /\ ∀p ∈ ps, p<h.ss.length
 |_ => True
theorem allR_small{rs:List Nat}(h4:rs.length ≤ 4)(h:∀r ∈ rs, r ≤ 6):(M3.allR rs).length ≤ 2401 :=by
 rw[<- M3.allL_eq];exact M3.fold_small h4 h
def spRule:SpM :=fun as K => ∃(fd:List PyData) (c:Nat) (h:Hall), as=[.own fd, .imm h.d] /\ h.Ok /\ FeedD c fd /\ c<900000000 /\ ∀(r:Rule) (fd':List PyData), r.Ok h -> FeedD (c+2410) fd' -> K (.imm r.d) [fd']
def Lines(h:Hall)(l:List Nat):Prop :=l.length=h.ss.length /\ ∀(i:Nat) s x, h.ss[i]?=some s -> l[i]?=some x -> x ≤ s.r
theorem Lines.le{l:List Nat}(o:h.Ok)(k:Lines h l):∀x ∈ l, x ≤ 6 :=fun x hx => by
 obtain⟨i, hi, rfl⟩ :=List.mem_iff_getElem.mp hx;have hi':i<h.ss.length :=by rw[<- k.1];exact hi
 have :=k.2 i _ _ (List.getElem?_eq_getElem hi') (List.getElem?_eq_getElem hi);have :=(o.ok _ (List.getElem_mem hi')).r6;omega
end K
namespace M7
open M3
def placeF:Nat -> List Nat -> List Nat -> Nat
 |acc, r::rs, x::l => placeF (acc*(r+1)+x) rs l
 |acc, _, _ => acc
def cnt:List Nat -> Nat
 |[] => 1
 |r::rs => (r+1)*cnt rs
theorem allR_cnt:∀rs:List Nat, (allR rs).length=cnt rs
 |[] => rfl
 | r::rs => by
  have ih :=allR_cnt rs;have:∀n:Nat, ((List.range n).flatMap fun k => (allR rs).map (k :: ·)).length=n*cnt rs :=by
   intro n
   induction n with
   |zero => simp
   |succ n ihn => rw[List.range_succ, List.flatMap_append, List.length_append, ihn];simp[ih, Nat.succ_mul]
  exact this (r+1)
theorem placeF_acc:∀{rs l:List Nat}{acc:Nat}, l.length=rs.length -> placeF acc rs l=acc*cnt rs+placeF 0 rs l
 |[], [], acc, _ => by simp[placeF, cnt]
 |r::rs, x::l, acc, h => by
  have h':l.length=rs.length :=by simpa using h
  simp only[placeF, cnt];rw[placeF_acc h', placeF_acc (acc :=0*(r+1)+x) h', Nat.add_mul, Nat.mul_assoc];simp[Nat.add_assoc]
 |[], _::_, _, h => by simp at h
 |_::_, [], _, h => by simp at h
theorem placeF_cons{r x:Nat}{rs l:List Nat}(h:l.length=rs.length):placeF 0 (r::rs) (x::l)=x*cnt rs+placeF 0 rs l :=by
 simp only[placeF];rw[placeF_acc h];simp
theorem blocks{N:Nat}(f:Nat -> List (List Nat))(hf:∀k, (f k).length=N):∀(n k j:Nat), k<n -> j<N -> ((List.range n).flatMap f)[k*N+j]?=(f k)[j]?
 |0, k, j, h, _ => by omega
 | n+1, k, j, h, hj => by
  have hl:((List.range n).flatMap f).length=n*N :=by
   clear h hj
   induction n with
   |zero => simp
   |succ n ih => rw[List.range_succ, List.flatMap_append, List.length_append, ih];simp[hf, Nat.succ_mul]
  rw[List.range_succ, List.flatMap_append]
  by_cases hk:k<n
  .have:k*N+j<n*N :=by
    have :=Nat.mul_le_mul_right N (show k+1 ≤ n by omega);rw[Nat.succ_mul]at this;omega
   rw[List.getElem?_append_left (by omega), blocks f hf n k j hk hj]
  .have e:k=n :=by omega
   subst e;rw[List.getElem?_append_right (by omega), hl];simp
def Fits:List Nat -> List Nat -> Prop
 |r::rs, x::l => x ≤ r /\ Fits rs l
 |[], [] => True
 |_, _ => False
theorem Fits.len:∀{rs l:List Nat}, Fits rs l -> l.length=rs.length
 |[], [], _ => rfl
 |_::_, _::_, h => congrArg (· + 1) h.2.len
 |[], _::_, h => h.elim
 |_::_, [], h => h.elim
theorem place_lt:∀{rs l:List Nat}, Fits rs l -> placeF 0 rs l<cnt rs
 |[], [], _ => by simp[placeF, cnt]
 |r::rs, x::l, h => by
  rw[placeF_cons h.2.len, cnt];have :=place_lt h.2;have h2 :=Nat.mul_le_mul_right (cnt rs) (show x+1 ≤ r+1 by have :=h.1;omega);rw[Nat.succ_mul]at h2;omega
 |[], _::_, h => h.elim
 |_::_, [], h => h.elim
theorem place_at:∀{rs l:List Nat}, Fits rs l -> (allR rs)[placeF 0 rs l]?=some l
 |[], [], _ => rfl
 |r::rs, x::l, h => by
  rw[placeF_cons h.2.len];show((List.range (r+1)).flatMap fun k => (allR rs).map (k :: ·))[_]?=_;rw[blocks (N :=cnt rs) (fun k => (allR rs).map (k :: ·)) (fun k => by rw[List.length_map, allR_cnt]) (r+1) x _ (by have :=h.1;omega) (place_lt h.2), List.getElem?_map, place_at h.2];rfl
 |[], _::_, h => h.elim
 |_::_, [], h => h.elim
theorem place_only:∀{rs:List Nat}{i:Nat}{l:List Nat}, (allR rs)[i]?=some l -> i=placeF 0 rs l
 |[], 0, l, h => by
  have:l=[] :=by simpa[allR]using h.symm
  subst this;rfl
 |[], i+1, l, h => by simp[allR]at h
 | r::rs, i, l, h => by
  have hi :=(List.getElem?_eq_some_iff.mp h).1;rw[allR_cnt, cnt]at hi;have hN:0<cnt rs :=Nat.pos_of_ne_zero fun z => by rw[z]at hi;simp at hi
  have hk:i/cnt rs<r+1 :=Nat.div_lt_of_lt_mul (by rw[Nat.mul_comm];exact hi);have hj :=Nat.mod_lt i hN;have e:i=i/cnt rs*cnt rs+i%cnt rs :=by rw[Nat.mul_comm];exact(Nat.div_add_mod i (cnt rs)).symm
  have h' :=blocks (N :=cnt rs) (fun k => (allR rs).map (k :: ·)) (fun k => by rw[List.length_map, allR_cnt]) (r+1) _ _ hk hj;rw[<- e]at h';have h2:((List.range (r+1)).flatMap fun k => (allR rs).map (k :: ·))[i]?=some l :=h;rw[h2, List.getElem?_map]at h'
  cases q:(allR rs)[i%cnt rs]? with
  |none => rw[q]at h';cases h'
  |some l' =>
   rw[q]at h';have:l=(i/cnt rs)::l' :=Option.some.inj h';subst this;have ih :=place_only q;have hl:l'.length=rs.length :=allR_len (List.mem_of_getElem? q);rw[placeF_cons hl, <- ih, Nat.mul_comm];exact(Nat.div_add_mod i (cnt rs)).symm
def pick(lt:Nat -> Nat -> Bool):Nat -> List Nat -> Nat
 |b, [] => b
 |b, k::ks => pick lt (if lt k b then k else b) ks
theorem pick_mem{lt:Nat -> Nat -> Bool}:∀{ks:List Nat}{b:Nat}, pick lt b ks=b \/ pick lt b ks ∈ ks
 |[], b => .inl rfl
 | k::ks, b => by
  simp only[pick];rcases pick_mem (lt :=lt) (ks :=ks) (b :=if lt k b then k else b)with h|h
  .rw[h]
   by_cases q:lt k b=true
   .rw[if_pos q];exact .inr List.mem_cons_self
   .rw[if_neg q];exact .inl rfl
  .exact .inr (List.mem_cons_of_mem _ h)
theorem pick_app{lt:Nat -> Nat -> Bool}:∀{ks:List Nat}{b k:Nat}, pick lt b (ks ++ [k])=if lt k (pick lt b ks)then k else pick lt b ks
 |[], b, k => rfl
 |j::ks, b, k => by simp only[List.cons_append, pick];exact pick_app
theorem placeF_take:∀{rs l:List Nat}{i acc r x:Nat}, rs[i]?=some r -> l[i]?=some x -> placeF acc (rs.take (i+1)) (l.take (i+1))=placeF acc (rs.take i) (l.take i)*(r+1)+x
 |r0::rs, x0::l, 0, acc, r, x, h1, h2 => by
  have e1:r0=r :=by simpa using h1
  have e2:x0=x :=by simpa using h2
  subst e1 e2;simp[placeF]
 |r0::rs, x0::l, i+1, acc, r, x, h1, h2 => by
  simp only[List.take_succ_cons, placeF];exact placeF_take (by simpa using h1) (by simpa using h2)
 |[], _, _, _, _, _, h1, _ => by simp at h1
 |_::_, [], _, _, _, _, _, h2 => by simp at h2
end M7
namespace K
open PySem L2 M7
variable{n:Nat}
def Hall.an(h:Hall)(k:Nat):Nat :=(h.ss.map Srv.a).getD k 0
def Hall.bn(h:Hall)(k:Nat):Nat :=(h.ss.map Srv.b).getD k 0
def shorter(l:List Nat)(k b:Nat):Bool :=decide (l.getD k 0<l.getD b 0)
def quicker(h:Hall)(l:List Nat)(k b:Nat):Bool :=decide ((l.getD k 0+1)*h.bn k*h.an b<(l.getD b 0+1)*h.bn b*h.an k)
def sent(h:Hall)(r:Rule)(l:List Nat)(t:Nat)(o:List Nat):Nat :=match r with
 | .random => o.headD 0
 | .turns => t
 | .two => pick (shorter l) (o.headD 0) (o.take 2)
 | .least => pick (shorter l) (o.headD 0) o
 | .quick => pick (quicker h l) (o.headD 0) o
 | .told ps => ps.getD (placeF 0 h.rs l) 0
structure Ord(n:Nat)(o:List Nat):Prop where
 ne:o ≠ []
 lt:∀k ∈ o, k<n
 le:o.length ≤ 4
theorem Lines.fits{h:Hall}{l:List Nat}(k:Lines h l):Fits h.rs l :=by
 obtain⟨k1, k2⟩ :=k;unfold Hall.rs;generalize h.ss=ss at k1 k2
 induction ss generalizing l with
 |nil => cases l with
  |nil => trivial
  |cons _ _ => simp at k1
 |cons s ss ih => cases l with
  |nil => simp at k1
  |cons x l => exact⟨k2 0 s x rfl rfl, ih (by simpa using k1) fun i s x e1 e2 => k2 (i+1) s x (by simpa using e1) (by simpa using e2)⟩
theorem getN{l:List Nat}{k:Nat}(hl:l.length=n)(hk:k<n):l[k]?=some (l.getD k 0) :=by
 rw[getD_of (List.getElem?_eq_getElem (show k<l.length by omega))];exact List.getElem?_eq_getElem _
theorem Hall.srv{h:Hall}{k:Nat}(hk:k<h.ss.length):∃s, h.ss[k]?=some s /\ h.an k=s.a /\ h.bn k=s.b /\ s ∈ h.ss :=by
 refine⟨h.ss[k], List.getElem?_eq_getElem hk, ?_, ?_, List.getElem_mem hk⟩
 .exact getD_of (by rw[List.getElem?_map, List.getElem?_eq_getElem hk];rfl)
 .exact getD_of (by rw[List.getElem?_map, List.getElem?_eq_getElem hk];rfl)
def spLess:SpM :=fun as K => ∃a b c d:Nat, as=[.imm (frD a b), .imm (frD c d)] /\ a<1000000000000 /\ b<1000000000000 /\ c<1000000000000 /\ d<1000000000000 /\ K (.imm (.bool (decide (a*d<c*b)))) []
def spPlace:SpM :=fun as K => ∃(h:Hall) (l:List Nat), as=[.imm h.d, .imm (lnD l)] /\ h.Ok /\ Lines h l /\ K (.imm (.int (placeF 0 h.rs l:Nat))) []
def spShortest:SpM :=fun as K => ∃(l o:List Nat), as=[.imm (lnD l), .imm (lnD o)] /\ Ord l.length o /\ K (.imm (.int (pick (shorter l) (o.headD 0) o:Nat))) []
def spWait:SpM :=fun as K => ∃(h:Hall) (l:List Nat) (k:Nat), as=[.imm h.d, .imm (lnD l), .imm (.int (k:Int))] /\ h.Ok /\ Lines h l /\ k<h.ss.length /\ K (.imm (frD ((l.getD k 0+1)*h.bn k:Nat) (h.an k:Nat))) []
def spQuickest:SpM :=fun as K => ∃(h:Hall) (l o:List Nat), as=[.imm h.d, .imm (lnD l), .imm (lnD o)] /\ h.Ok /\ Lines h l /\ Ord h.ss.length o /\ K (.imm (.int (pick (quicker h l) (o.headD 0) o:Nat))) []
def stD(l:List Nat)(t:Nat):PyData :=.tuple [lnD l, .int (t:Int)]
def spSentTo:SpM :=fun as K => ∃(h:Hall) (r:Rule) (l:List Nat) (t:Nat) (o:List Nat), as=[.imm h.d, .imm r.d, .imm (stD l t), .imm (lnD o)] /\ h.Ok /\ r.Ok h /\ Lines h l /\ Ord h.ss.length o /\ K (.imm (.int (sent h r l t o:Nat))) []
theorem Ord.cons{o:List Nat}(h:Ord n o):∃k ks, o=k::ks /\ k<n :=by
 cases o with
 |nil => exact(h.ne rfl).elim
 |cons k ks => exact⟨k, ks, rfl, h.lt k List.mem_cons_self⟩
theorem pick_lt{lt:Nat -> Nat -> Bool}{o:List Nat}(h:Ord n o)(i:Nat):pick lt (o.headD 0) (o.take i)<n :=by
 obtain⟨k, ks, rfl, hk⟩ :=h.cons;rcases pick_mem (lt :=lt) (ks :=(k::ks).take i) (b :=k)with e|e
 .show pick lt k _<n;rw[e];exact hk
 .exact h.lt _ (List.mem_of_mem_take e)
theorem eqv_nats:∀a b:List Nat, PyData.eqvAll (natD a) (natD b)=decide (a=b)
 |[], [] => by simp[natD, PyData.eqvAll]
 |[], y::b => by simp[natD, PyData.eqvAll]
 |x::a, [] => by simp[natD, PyData.eqvAll]
 |x::a, y::b => by
  have ih :=eqv_nats a b;unfold natD at ih;simp only[natD, List.map_cons, PyData.eqvAll, PyData.eqv, ih]
  by_cases h:x=y
  .subst h;simp
  .have:¬((x:Int)=(y:Int)) :=fun z => h (Int.ofNat.inj z);simp[h, this]
theorem eqv_ln(a b:List Nat):PyData.eqv (lnD a) (lnD b)=decide (a=b) :=by
 simp only[lnD, PyData.eqv];exact eqv_nats a b
theorem rangeD_mem{d:PyData}(h:d ∈ rangeD 0 n):∃k:Nat, d = .int (k:Int) /\ k<n :=by
 unfold rangeD at h;simp at h;obtain⟨k, hk, rfl⟩ :=h;exact⟨k, rfl, hk⟩
theorem nats_of:∀{n:Nat}{r:List PyData}, (∀d ∈ r, d ∈ rangeD 0 n) -> ∃ks:List Nat, r=natD ks /\ ∀k ∈ ks, k<n
 |n, [], _ => ⟨[], rfl, fun _ h => by cases h⟩
 |n, d::r, h => by
  obtain⟨k, rfl, hk⟩ :=rangeD_mem (h d List.mem_cons_self);obtain⟨ks, rfl, hks⟩ :=nats_of fun d' h' => h d' (List.mem_cons_of_mem _ h');refine⟨k::ks, rfl, fun k' h' => ?_⟩;rcases List.mem_cons.mp h' with rfl|z
  .exact hk
  .exact hks _ z
def Rule.tl:Rule -> List PyData
 | .told ps => [lnD ps]
 |_ => []
theorem Rule.dc(r:Rule):r.d = .tuple (.str r.word::r.tl) :=by cases r<;>rfl
theorem x_itemD{m:MSt}{Kr:R -> Prop}{d x:PyData}{ds:List PyData}{i:Int}(e:d = .tuple ds)(h:atI ds i=some x)(k:Kr (.imm x)):oItem (.imm d) (.imm (.int i)) m Kr :=by
 subst e;exact x_itemT h k
end K
namespace L2
open PySem PySem.Spec PyProof.Rows
variable{t:Bool}{e it l:Addr}{items:Array Value}{Q:Option Value -> Shared -> Prop}{ns:List Int}{i:Nat}{ds:List PyData}{Kr:R -> Prop}{ob:WM}{K:R -> MSt -> Prop}
theorem walks_sub{prog:Program}{w:World}{A:Around}(t:Bool)(hh:A.handled=none)(I ax:Addr)(hne:ax ≠ I)(items:Array Value):Walks prog w A I [I, ax] [I] items.size (fun i v => items[i]?=some v) (fun i h => SubI t h I ax i /\ SubS t h ax items) :=by
 cases t
 .exact Walks.list hh I ax hne items
 .exact Walks.tuple hh I ax hne items
section
variable {prog:Program}{w:World}{A:Around}{E:Value -> Shared -> Prop}{s:Shared}
theorem iter_sub{Q:Value -> Shared -> Prop}(hl:SubS t s.heap l items)
  (h:∀s2:Shared, s2={s with heap :=s.heap.push (itO t l)} -> (SubI t s2.heap s.heap.objs.size l 0 /\ SubS t s2.heap l items) -> (∀b ∈ [s.heap.objs.size, l], b<s2.heap.objs.size) -> l ≠ s.heap.objs.size -> Q (.ref s.heap.objs.size) s2):wpAny (model prog w) A (pyIter (.ref l)) Q E s :=by
 have hlt:l<s.heap.objs.size :=by
  cases t
  .obtain⟨_, e, _⟩ :=(show s.heap.IsList l items from hl);exact Heap.lt_size e
  .obtain⟨_, e, _⟩ :=(show s.heap.IsTuple l items from hl);exact Heap.lt_size e
 refine pyIter_sub hl (h _ rfl ⟨?_, hl.keep fun o e => Heap.get?_push_of_some _ e⟩ (fun b hb => ?_) (Nat.ne_of_lt hlt))
 .cases t
  .exact⟨_, Heap.get?_push_size _ rfl, rfl, rfl⟩
  .exact⟨_, Heap.get?_push_size _ rfl, rfl, rfl⟩
 .show b<(s.heap.push _).objs.size;rw[Heap.size_push];simp only[List.not_mem_nil, or_false, List.mem_cons]at hb;rcases hb with rfl|rfl
  .exact Nat.lt_succ_self _
  .exact Nat.lt_succ_of_lt hlt
theorem sub_kept{h':Heap}(hk:∀b o, b ∉ [s.heap.objs.size] -> (s.heap.push (itO t l)).get? b=some o -> h'.get? b=some o):∀b o, s.heap.get? b=some o -> h'.get? b=some o :=fun b o e =>
 hk b o (fun hm => absurd (Heap.lt_size e) (by rw[List.mem_singleton.mp hm];exact Nat.lt_irrefl _)) (Heap.get?_push_of_some _ e)
theorem ints_at(hi:IntsAre items.toList ns):∀(i:Nat) (v:Value), items[i]?=some v -> ∃t, v = .int (ns.getD i 0) t :=fun i v e => hi.int_at i v (by simpa using e)
end
section
variable {X:Cx}
def rMax(K:PySem.W.Frag):List V -> Hp -> VK -> Prop :=fun xs H Q => ∃t l ns, xs=[.ref l] /\ SqB t K H l (ns.map V.int) /\ ns ≠ [] /\ ∀x, x ∈ ns -> (∀y ∈ ns, y ≤ x) -> Q (.int x) H
theorem best_mem{b:Nat}(hb:b ≤ ns.length-1)(hne:ns ≠ []):ns.getD b 0 ∈ ns :=by
 have hl:b<ns.length :=by
  have:ns.length ≠ 0 :=fun z => hne (List.eq_nil_of_length_eq_zero z);omega
 rw[getD_of (List.getElem?_eq_getElem hl)];exact List.getElem_mem hl
theorem call_max1(hc:X.calm=true):CallR X (.builtin "max") (rMax X.K) :=by
 rintro pins s σ H xs us Q I rv ⟨t, l, ns, ex, hq, hne, q⟩;subst ex;obtain⟨u, rfl, ru⟩ :=rv.one;cases ru;obtain⟨its, rvv, pl, _⟩ :=I.sqb hq;have hi:IntsAre its.toArray.toList ns :=intsAre_of rvv;have hl:its.length=ns.length :=by have :=rvv.length;rw[List.length_map]at this;omega
 refine call_max_walk (iter_sub pl fun s2 e st hfp hlI => ?_);subst e;refine⟨s.heap.objs.size, [s.heap.objs.size, l], [s.heap.objs.size], its.toArray.size, fun i v => its.toArray[i]?=some v, fun i h => SubI t h s.heap.objs.size l i /\ SubS t h l its.toArray, _, rfl, walks_sub (A :=X.A.in1) t (I.ok.hd hc) _ l hlI its.toArray, st, hfp, ?_, CmpOf.ints_gt (fun i => ns.getD i 0) (ints_at hi), fun v h' tk hP hk => ?_⟩
 .have:ns.length ≠ 0 :=fun z => hne (List.eq_nil_of_length_eq_zero z);rw[List.size_toArray];omega
 .obtain⟨tt, rfl⟩ :=ints_at hi _ v hP;rw[List.size_toArray, hl]at *;obtain⟨b1, b2⟩ :=PySem.argBest_gt (fun i => ns.getD i 0) (ns.length-1);refine⟨.int _, H, I.kept (t' :=tk) (sub_kept hk), ⟨_, rfl⟩, q _ (best_mem b1 hne) fun y hy => ?_⟩;obtain⟨j, hj, rfl⟩ :=List.mem_iff_getElem.mp hy;have :=b2 j (by omega);rwa[getD_of (List.getElem?_eq_getElem hj)]at this
end
section
variable {prog:Program}{w:World}{A:Around}{E:Value -> Shared -> Prop}{s:Shared}
structure EnumAt(t:Bool)(e it l:Addr)(k:Nat)(h:Heap):Prop where
 e:∃old, IsEnum h e it (k:Int) old
 s:SubI t h it l k
theorem enum_item{x:Value}(Z:EnumAt t e it l i s.heap)(hl:SubS t s.heap l items)(hx:items[i]?=some x)(hne:e ≠ it)
  (hQ:∀h', IsEnumOut h' e it ((i:Int)+1) x s.heap.objs.size -> SubI t h' it l (i+1) -> IsPair h' s.heap.objs.size (.int i s.toks) x -> h'.objs.size=s.heap.objs.size+1 ->
   (∀b o, b ∉ [e, it] -> s.heap.get? b=some o -> h'.get? b=some o) -> Q (some (.ref s.heap.objs.size)) {s with heap :=h', toks :=s.toks+1}):wpAny (model prog w) A (pyNext (.ref e)) Q E s :=by
 obtain⟨⟨old, he⟩, hit⟩ :=Z;have hT:s.TypeIs (.ref e) "enumerate" :=(⟨_, he, rfl⟩);unfold pyNext;refine wpAny_bind (wpAny_attempt (wpAny_callSpecial?_slot (name :=Str.ofString "__next__") hT F.slot_enumerate_next (wpAny_call_entry F.slot_enumerate_next hT F.entry_enumerate_next ?_ (F.args_enumerate_next_1 _))));rcases s with⟨hp, g, d, tk, os⟩;refine wpAny_bind (m :=field (.ref e) 2) (wpAny_field he rfl (x :=.ref it) rfl (wpAny_bind (sub_item hit hl hx fun g1 n1 s1 => ?_)));replace s1:Heap.SameBut it hp g1 :=s1;have e1:IsEnum g1 e it i old :=(s1.2 e hne).trans he;show wpAny _ _ (field (.ref e) 3 >>= _) _ _ ⟨g1, g, d, tk, os⟩;refine wpAny_bind (wpAny_field e1 rfl (x :=rawInt i) rfl ?_);show wpAny _ _ (field (.ref e) 4 >>= _) _ _ ⟨g1, g, d, tk, os⟩;refine wpAny_bind (wpAny_field e1 rfl (x :=.none) rfl ?_);refine wpAny_bind (m :=mkInt i) (wpAny_mkInt ?_);show wpAny _ _ (setField (.ref e) 3 (rawInt ((i:Int)+1)) >>= _) _ _ ⟨g1, g, d, tk+1, os⟩;refine wpAny_bind (wpAny_setField_rec e1 (by simp) fun g2 e2 s2 => ?_);replace s2:Heap.SameBut e g1 g2 :=s2;replace e2:IsEnum g2 e it ((i:Int)+1) old :=e2;show wpAny _ _ (setField (.ref e) 4 .none >>= _) _ _ ⟨g2, g, d, tk+1, os⟩;refine wpAny_bind (wpAny_setField_rec e2 (by simp) fun g3 e3 s3 => ?_);replace s3:Heap.SameBut e g2 g3 :=s3;replace e3:IsEnum g3 e it ((i:Int)+1) old :=e3;refine wpAny_bind (m :=newTuple [.int i tk, x]) (wpAny_newTuple ?_);have e4:IsEnum (g3.push {cls :=.type "tuple", data :=.seq #[.int i tk, x]}) e it ((i:Int)+1) old :=Heap.get?_push_of_some _ e3;have hsz:g3.objs.size=hp.objs.size :=by rw[s3.1, s2.1, s1.1]
 have young:e<hp.objs.size :=Heap.lt_size he;have t4:(g3.push {cls :=.type "tuple", data :=.seq #[.int i tk, x]}).get? hp.objs.size=some {cls :=.type "tuple", data :=.seq #[.int i tk, x]} :=by rw[<- hsz];exact Heap.get?_push_size _ rfl
 have z4:(g3.push {cls :=.type "tuple", data :=.seq #[.int i tk, x]}).objs.size=hp.objs.size+1 :=by rw[Heap.size_push, hsz]
 have k4:∀b o, b ∉ [e, it] -> hp.get? b=some o -> (g3.push {cls :=.type "tuple", data :=.seq #[.int i tk, x]}).get? b=some o :=fun b o hb q => by
  simp only[List.mem_cons, List.not_mem_nil, not_or, or_false]at hb;exact Heap.get?_push_of_some _ (s3.extBut b o hb.1 (s2.extBut b o hb.1 (s1.extBut b o hb.2 q)))
 have n4:SubI t (g3.push {cls :=.type "tuple", data :=.seq #[.int i tk, x]}) it l (i+1) :=((n1.ext s2.extBut (Ne.symm hne)).ext s3.extBut (Ne.symm hne)).keep fun o q => Heap.get?_push_of_some _ q;generalize g3.push {cls :=.type "tuple", data :=.seq #[.int i tk, x]}=g4 at e4 t4 z4 k4 n4;show wpAny _ _ (Builtin.SmallTypes.ownedTupleIsFree (.ref e) >>= _) _ _ ⟨g4, g, d, tk+1, os⟩;rw[hsz];refine wpAny_bind (m :=Builtin.SmallTypes.ownedTupleIsFree (.ref e)) (wpAny_bind (m :=field (.ref e) 0) (wpAny_field e4 rfl (x :=.none) rfl (wpAny_pure ?_)));simp only[if_true];refine wpAny_bind (wpAny_rule (wpAny_bind (wpAny_field e4 rfl (x :=old) rfl (wpAny_bind (wpAny_setField_rec e4 (by simp) fun g5 e5 s5 => ?_)))));replace s5:Heap.SameBut e g4 g5 :=s5;replace e5:IsEnum g5 e it ((i:Int)+1) x :=e5;show wpAny _ _ (Builtin.SmallTypes.ownedTupleHandOut (.ref e) (.ref hp.objs.size) >>= _) _ _ ⟨g5, g, d, tk+1, os⟩;refine wpAny_bind (m :=Builtin.SmallTypes.ownedTupleHandOut (.ref e) (.ref hp.objs.size)) ?_;refine wpAny_bind (m :=setField (.ref e) 0 _) (wpAny_setField_rec e5 (by simp) fun g6 e6 s6 => ?_);replace s6:Heap.SameBut e g5 g6 :=s6;replace e6:IsEnumOut g6 e it ((i:Int)+1) x hp.objs.size :=e6;refine wpAny_setField_rec e6 (by simp) fun g7 e7 s7 => ?_;replace s7:Heap.SameBut e g6 g7 :=s7;replace e7:IsEnumOut g7 e it ((i:Int)+1) x hp.objs.size :=e7;have up:∀b o, b ≠ e -> g4.get? b=some o -> g7.get? b=some o :=fun b o n q => s7.extBut b o n (s6.extBut b o n (s5.extBut b o n q));refine wpAny_bind (wpAny_letGo (wpAny_pure ⟨_, rfl, wpAny_pure (hQ g7 e7 (n4.keep fun o q => up _ o (Ne.symm hne) q) (up _ _ (Nat.ne_of_gt young) t4) (by rw[s7.1, s6.1, s5.1, z4]) fun b o hb q => up b o (fun z => hb (by simp[z])) (k4 b o hb q))⟩))
theorem enum_end(hh:A.handled=none)(Z:EnumAt t e it l i s.heap)(hl:SubS t s.heap l items)(hx:items[i]?=none)
  (hQ:∀hz, Heap.ExtBut it s.heap hz -> Q none {s with heap :=hz}):wpAny (model prog w) A (pyNext (.ref e)) Q E s :=by
 obtain⟨⟨old, he⟩, hit⟩ :=Z;have hT:s.TypeIs (.ref e) "enumerate" :=(⟨_, he, rfl⟩);unfold pyNext;refine wpAny_bind (wpAny_attempt (wpAny_callSpecial?_slot (name :=Str.ofString "__next__") hT F.slot_enumerate_next (wpAny_call_entry F.slot_enumerate_next hT F.entry_enumerate_next ?_ (F.args_enumerate_next_1 _))));refine wpAny_bind (m :=field (.ref e) 2) (wpAny_field he rfl (x :=.ref it) rfl (wpAny_bind (sub_end hh hit hl hx fun h' x he' hx' => ?_)));obtain⟨o, ho, hc⟩ :=hx';exact wpAny_bind (wpAny_isInstance (T := "StopIteration") (b :=true) ⟨o, ho, hc⟩ isSubtype_stop (wpAny_pure (hQ _ he')))
end
open AutoSeq1 (wpAny_loadPart') in
set_option maxHeartbeats 1100000 in
theorem enum_new(t:Bool)(l:Addr)(items:Array Value) :
  Meets (Builtin.«enumerate.__new__» ⟨[.type "enumerate", .ref l], []⟩) (fun _ R s => SubS t s.heap l items /\
   R (.ok (.ret (.ref (s.heap.push (itO t l)).objs.size))) {s with heap :=(s.heap.push (itO t l)).push {cls :=.type "enumerate", data :=.fields #[.none, .bool false, .ref s.heap.objs.size, rawInt 0, .none, .none]} }) :=
 .of_wp fun prog w A R s h => by
  rcases s with⟨hp, g, d, tk, os⟩;rcases h with⟨hl, h⟩;have hsub :=sub_enumerate;have hL:SubS t (Shared.heap ⟨hp, g, d, tk, os⟩) l items :=hl
  wp_walk
  refine wpAny_stack_any fun st => ?_;refine wpAny_pure ?_;split
  .rename_i c _ _ _ _ _
   cases c==Value.type "enumerate"
   .wp_walk using pyIter_sub hL
    exact⟨_, rfl, h⟩
   .wp_walk using pyIter_sub hL
    exact⟨_, rfl, h⟩
  .wp_walk using pyIter_sub hL
   exact⟨_, rfl, h⟩
section
variable {prog:Program}{w:World}{A:Around}{E:Value -> Shared -> Prop}{s:Shared}
theorem call_enum{Q:Value -> Shared -> Prop}(hL:SubS t s.heap l items)
  (h:∀h', EnumAt t (s.heap.objs.size+1) s.heap.objs.size l 0 h' -> (∀b o, s.heap.get? b=some o -> h'.get? b=some o) -> Q (.ref (s.heap.objs.size+1)) {s with heap :=h' }):wpAny (model prog w) A (call (.type "enumerate") [.ref l]) Q E s :=by
 refine callType_new F.called_enumerate (by decide) (F.typeCall_enumerate_1 _) (F.newCall_enumerate_1 _) (fun obj => F.args_object_init_2 obj _) F.entry_enumerate_new (enum_new t l items) ⟨hL, ?_⟩;have hz:(s.heap.push (itO t l)).objs.size=s.heap.objs.size+1 :=Heap.size_push ..;show _ /\ _;rw[hz];have he:((s.heap.push (itO t l)).push {cls :=.type "enumerate", data :=.fields #[.none, .bool false, .ref s.heap.objs.size, rawInt 0, .none, .none]}).get? (s.heap.objs.size+1)=some {cls :=.type "enumerate", data :=.fields #[.none, .bool false, .ref s.heap.objs.size, rawInt 0, .none, .none]} :=by
  rw[<- hz];exact Heap.get?_push_size _ rfl
 have hi:((s.heap.push (itO t l)).push {cls :=.type "enumerate", data :=.fields #[.none, .bool false, .ref s.heap.objs.size, rawInt 0, .none, .none]}).get? s.heap.objs.size=some (itO t l) :=Heap.get?_push_of_some _ (Heap.get?_push_size _ rfl);refine⟨⟨_, he, rfl⟩, h _ ⟨⟨.none, he⟩, ?_⟩ fun b o x => Heap.get?_push_of_some _ (Heap.get?_push_of_some _ x)⟩;cases t
 .exact⟨_, hi, rfl, rfl⟩
 .exact⟨_, hi, rfl, rfl⟩
end
def Ite(t:Bool)(K:PySem.W.Frag)(a:Addr):It where
 go :=fun i H => ∃xs x, SqB t K H a xs /\ xs[i]?=some x
 yld :=fun i H v H' => ∃T x, v = .ref T /\ H T=none /\ H'=upd H T (.tup [.int (i:Int), x]) /\ ∀xs, SqB t K H a xs -> xs[i]?=some x
 stop :=fun i H => ∃xs, SqB t K H a xs /\ xs.length ≤ i
theorem turn_enum{P:Program}{w:World}{K:PySem.W.Frag}{elts:List Expr}{x1:Nat}{pos:Pos}{a:Addr}(hne:e ≠ it):Turn P w K (.Tuple elts x1 pos) (Ite t K a) [e, it] e (fun i h => EnumAt t e it a i h) where
 mem :=by simp
 obj :=fun i h st c hc => by
  obtain⟨⟨old, he⟩, h1⟩ :=st;simp only[List.mem_cons, List.not_mem_nil, or_false]at hc;rcases hc with rfl|rfl
  .exact⟨_, he, fun v q => by cases q⟩
  .obtain⟨o, vs, e, d⟩ :=h1.obj;exact⟨o, e, fun v q => by rw[d]at q;cases q⟩
 keep :=fun i h h' st k => by
  obtain⟨⟨old, he⟩, h1⟩ :=st;exact⟨⟨old, k e (by simp) _ he⟩, h1.keep fun o q => k it (by simp) o q⟩
 item :=by
  intro X hP hw hK hc i pins s σ H E I hf st hg;subst hP hw hK;obtain⟨xs, x, hq, hx⟩ :=hg;obtain⟨its, rv, p, _⟩ :=I.sqb hq;obtain⟨u, eu, ru⟩ :=rv.get hx;refine enum_item st p (x :=u) (by simpa using eu) hne fun h' a1 a2 a3 a4 a5 => ⟨.ref s.heap.objs.size, rfl, ?_⟩;refine wpAny_letOwnedTupleGo_enum (s :={s with heap :=h', toks :=s.toks+1}) a1 fun h2 b1 sb => ?_;have hfT:H s.heap.objs.size=none :=I.hok.fresh (Nat.le_refl _);have sfp:∀c ∈ [e, it], c<s.heap.objs.size :=fun c hc => by
   obtain⟨⟨old, he⟩, h1⟩ :=st;simp only[List.mem_cons, List.not_mem_nil, or_false]at hc;rcases hc with rfl|rfl
   .exact Heap.lt_size he
   .obtain⟨o, vs, e, d⟩ :=h1.obj;exact Heap.lt_size e
  have nz:∀c ∈ [e, it], c ≠ s.heap.objs.size :=fun c hc => Nat.ne_of_lt (sfp c hc);have up:∀c o, c ≠ e -> h'.get? c=some o -> h2.get? c=some o :=fun c o n q => sb.extBut c o n q;have T2:IsPair h2 s.heap.objs.size (.int i s.toks) u :=up _ _ (Ne.symm (nz e (by simp))) a3;have I0:Inv X pins σ (upd H s.heap.objs.size (.tup [.int (i:Int), x])) {s with heap :=s.heap.push {cls :=.type "tuple", data :=.seq #[.int i s.toks, u]}, toks :=s.toks+1} :=
   I.laid (o :=.tup [.int (i:Int), x]) (fun c o q => Heap.get?_push_of_some _ q) (Nat.le_refl _) ⟨by show 2 ≤ sizeLine;rw[sizeLine_eq];decide, [.int i s.toks, u], .cons ⟨_, rfl⟩ (.cons ru .nil), PlainT.new _ _⟩
  have Il:Inv X pins σ (upd H s.heap.objs.size (.tup [.int (i:Int), x])) {s with heap :=h2, toks :=s.toks+1} :=by
   refine Inv.turneds (s :={s with heap :=s.heap.push {cls :=.type "tuple", data :=.seq #[.int i s.toks, u]}, toks :=s.toks+1}) (h' :=h2) (t' :=s.toks+1) (ch :=[e, it]) I0 (fun c o hc q => ?_) fun c hc => ?_
   .rcases Heap.get?_push_cases q with⟨rfl, rfl⟩|q
    .exact T2
    .exact up c o (fun z => hc (by simp[z])) (a5 c o hc q)
   .obtain⟨f0, f1⟩ :=hf c hc;exact⟨by rw[upd_ne (nz c hc)];exact f0, f1⟩
  refine⟨.ref s.heap.objs.size, upd H s.heap.objs.size (.tup [.int (i:Int), x]), Il, rfl, ⟨_, x, rfl, hfT, rfl, fun zs hz => by rw[I.sqb_inj hz hq];exact hx⟩, ⟨⟨u, ?_⟩, a2.keep fun o q => up _ o (Ne.symm hne) q⟩, fun c hc => ?_⟩
  .have:((i+1:Nat):Int)=(i:Int)+1 :=by omega
   rw[this];exact b1
  .rw[upd_ne (nz c hc)];exact(hf c hc).1
 done :=by
  intro X hP hw hK hc i pins s σ H E I hf st hg;subst hP hw hK;obtain⟨xs, hq, he⟩ :=hg;obtain⟨its, rv, p, _⟩ :=I.sqb hq;have l1 :=rv.length;exact enum_end (I.ok.hd hc) st p (by simp;omega) fun h' hk => ⟨rfl, I.turneds (t' :=s.toks) (ch :=[e, it]) (fun c o hc q => hk c o (fun z => hc (by simp[z])) q) hf⟩
 self :=fun _ _ _ _ _ st h => by obtain⟨⟨old, he⟩, _⟩ :=st;exact wpAny_pyIter_enum he h
section
variable {X:Cx}{elts:List Expr}{x1:Nat}{tpos:Pos}{a:Expr}{ws:WA}{p pos:Pos}
def iEnum(K:PySem.W.Frag)(ta:TA):TI :=fun σ H Rq => ta σ H fun vs H1 => ∃t l, vs=[.ref l] /\ (∃xs, SqB t K H1 l xs) /\ Rq (Ite t K l) H1
theorem pi_enum{ta:TA}(hg:Gl X "enumerate")(hm:X.mg "enumerate" = none)(ha:PA X [a] ta)(hs:starEach [a] X.env=[(false, eval a X.env)] :=by first|exact star_one rfl|rfl):PI X (.Tuple elts x1 tpos) (.Call (.Name "enumerate" p) [a] [] pos) (iEnum X.K ta) :=by
 intro pins s σ H Rq I h;refine Call_ (ld_blt I hg hm bt_enumerate (PyProof.Rows.callWith_type1 (thn (ha pos pins s σ H _ I h) fun us s1 ⟨vs, H1, I1, r1, q1⟩ => ?_) hs rfl));obtain⟨t, l, e, ⟨xs, h1⟩, q⟩ :=q1;subst e
 cases r1 with
 | cons r rr =>
  cases rr;cases r;obtain⟨its, rv, pp, _⟩ :=I1.sqb h1;refine call_enum pp fun h' Z hk => ?_;obtain⟨old, he⟩ :=Z.e;refine wpAny_pyIter_enum he ⟨s1.heap.objs.size+1, _, _, _, H1, rfl, I1.kept (t' :=s1.toks) hk, turn_enum (Nat.succ_ne_self _), Z, fun c hc => ?_, q⟩;have hle:s1.heap.objs.size ≤ c :=by
   have hc':c ∈ ([s1.heap.objs.size+1, s1.heap.objs.size]:List Nat) :=hc;simp only[List.mem_cons, List.not_mem_nil, or_false]at hc';rcases hc' with rfl|rfl<;>first|exact Nat.le_add_right _ _|exact Nat.le_refl _
  exact I1.fpOk hle (I1.hok.fresh hle)
def enumD(ds:List PyData):List PyData :=zipD (rangeD 0 ds.length) ds
def wiEnum(ws:WA):WI :=fun m K => ws m fun rs m' => on1 (fun r => ∃t ds, imS r=some (t, ds) /\ K ⟨enumD ds, none⟩ m') rs
theorem enumD_length(ds:List PyData):(enumD ds).length=ds.length :=by unfold enumD;rw[zipD_length, rangeD_length];omega
theorem enumD_get{d:PyData}(h:ds[i]?=some d):(enumD ds)[i]?=some (.tuple [.int (i:Int), d]) :=by
 have hi :=(List.getElem?_eq_some_iff.mp h).1;have :=zipD_get (rangeD_get (lo :=0) hi) h;rw[Int.zero_add]at this;exact this
theorem wks_enum{K:Kd}:Wks K (Ite t K l) (enumD ds) fun H => ∃xs, SqB t K H l xs /\ DenAll K H ds xs where
 stop :=fun H ⟨xs, q, g⟩ => ⟨xs, q, by rw[enumD_length, g.length];exact Nat.le_refl _⟩
 go :=fun i H hi ⟨xs, q, g⟩ => by
  rw[enumD_length]at hi;exact⟨xs, xs[i]'(by rw[<- g.length];exact hi), q, List.getElem?_eq_getElem _⟩
 yld :=fun i H x H' hi ⟨xs, q, g⟩ y => by
  obtain⟨T, u, rfl, hT, rfl, e1⟩ :=y;obtain⟨d, h1, k1⟩ :=g.get2 (e1 xs q);have gr:∀b o, H b=some o -> upd H T (.tup [.int (i:Int), u]) b=some o :=fun b o q => by rw[upd_ne (ne_of_none q hT)];exact q
  have pe:Pers H (upd H T (.tup [.int (i:Int), u])) :=⟨fun b xs q => gr b _ q, fun b o u q => gr b _ q⟩;exact⟨gr, _, enumD_get h1, den_tup (SqT.of upd_same) (DenAll.cons (den_int _) (DenAll.cons (k1.mono pe) DenAll.nil))⟩
theorem mi_enum(hm:X.mg "enumerate" = none)(ha:MA X [a] ws)(hg:Gl X "enumerate" :=by rfl)(hs:starEach [a] X.env=[(false, eval a X.env)] :=by first|exact star_one rfl|rfl):MI X (.Tuple elts x1 tpos) (.Call (.Name "enumerate" p) [a] [] pos) (wiEnum ws) :=(pi_enum hg hm ha hs).wk fun σ H Rq ⟨α, m, Kc, Rl, hw, fin⟩ => by
 refine⟨α, m, _, Rl, hw, fun rs m' vs H' k n Rl' rr F => ?_⟩;obtain⟨r, v, rfl, rfl, h1, t, ds, e1, k⟩ :=on_one rr k;obtain⟨l, xs, rfl, g1, q1, p1⟩ :=sqb_of h1 e1;refine⟨t, l, rfl, ⟨xs, q1⟩, fin _ m' _ H' k n Rl' F ⟨fun H => ∃xs, SqB t X.kx H l xs /\ DenAll X.kx H ds xs /\ ∀H1, Pers H H1 -> SqB t X.kx H1 l xs, wks_enum.imp fun H ⟨xs, a, c, _⟩ => ⟨xs, a, c⟩, ⟨xs, q1, g1, p1⟩, fun Ha Hb ⟨xs, a, c, pa⟩ pe => ⟨xs, pa Hb pe, c.mono pe, fun H1 p => pa H1 (pe.trans p)⟩⟩⟩
theorem mi_enum'(hm:X.mg "enumerate" = none)(ha:EA X [a] ws)(hg:Gl X "enumerate" :=by rfl)(hs:starEach [a] X.env=[(false, eval a X.env)] :=by first|exact star_one rfl|rfl):EI X (.Tuple elts x1 tpos) (.Call (.Name "enumerate" p) [a] [] pos) (wiEnum ws) :=⟨mi_enum hm ha.h hg hs⟩
theorem x_enum{m:MSt}{Ks:Src -> MSt -> Prop}(h:ws m fun rs m' => on1 (fun r => ∃t ds, imS r=some (t, ds) /\ Ks ⟨enumD ds, none⟩ m') rs):wiEnum ws m Ks :=h
end
section
variable {X:Cx}
def oMax1:WC :=fun rs m K => on1 (fun r => ∃ds ns, sqOf m r=some ds /\ intsOf ds=some ns /\ ns ≠ [] /\ ∀x, x ∈ ns -> (∀y ∈ ns, y ≤ x) -> K (.imm (.int x))) rs
theorem call_max1M(hc:X.calm=true):CallR X (.builtin "max") (cM X.kx oMax1) :=by
 rintro pins s σ' H xs us Q I rv ⟨α, m, σ, H0, rs, Kc, Rl, h, ho, fin⟩;obtain⟨r, v, rfl, rfl, h1, ds, ns, e1, e2, hne, ho⟩ :=on_one h ho;obtain⟨a, ys, rfl, f, g⟩ :=h1.seq Rl e1;rw[intsOf_map e2]at g;have ey :=denAll_ints g;subst ey;have go:∀x, x ∈ ns -> (∀y ∈ ns, y ≤ x) -> Q (.int x) H :=fun x h1 h2 => fin _ _ H (ho x h1 h2) Rl (rr_int _) (Frm.refl _ _);rcases f with f|f
 .exact call_max1 hc pins s σ' H _ us Q I rv ⟨false, a, ns, rfl, f, hne, go⟩
 .exact call_max1 hc pins s σ' H _ us Q I rv ⟨true, a, ns, rfl, f, hne, go⟩
theorem x_max1{m:MSt}{r:R}(e1:sqOf m r=some ds)(e2:intsOf ds=some ns)(hne:ns ≠ [])(h:∀x, x ∈ ns -> (∀y ∈ ns, y ≤ x) -> Kr (.imm (.int x))):oMax1 [r] m Kr :=⟨ds, ns, e1, e2, hne, h⟩
end
open SeqAt in
open AutoSeq1 (wpAny_loadPart') in
theorem tup_indexAt(l:Addr)(items:Array Value)(n:Nat)(dd:Option Addr)(sl:Array (Option Value))(x:Value)(e:Value -> Bool)(j:Nat)(hj:j<items.size)(hit:e items[j]=true)(hno:∀m (hm:m<items.size), m<j -> e items[m]=false) :
  Meets (Builtin.«tuple.index» ⟨[.ref l, x], []⟩)
   (fun A R s => s.heap.get? l=some {cls :=.type "tuple", dict :=dd, data :=.seq items n, slots :=sl} /\ (∀y, y ∈ items -> EqAt A.in1 s y x (e y)) /\ R (.ok (.ret (.int j s.toks))) {s with toks :=s.toks+1}) :=
 .of_wp fun prog w A R s h => by
  rcases s with⟨hp, g, d, tk, os⟩;rcases h with⟨hl, he, h⟩
  (wp_walk using wpAny_loadPart' hl)
  refine(show wpAny (model prog w) A.in1 (forIn ([:min items.size items.size]:Std.Legacy.Range) _ _) _ _ _ from ?_);simp only[Std.Legacy.Range.forIn_eq_forIn_range'];have e1:List.range' (0:Nat) (min items.size items.size) 1=List.range' 0 items.size 1 :=by rw[Nat.min_self]
  refine wpAny_forIn_list _ (fun rest (b:Option _ × Unit) s' => b.1=none /\ s'=⟨hp, g, d, tk, os⟩ /\ ∃i, i ≤ j /\ rest=List.range' i (items.size-i) 1) _ ?turn ?fin _ _ ?start
  case turn =>
   rintro i rest b s' ⟨hb, rfl, i0, hi0, hr⟩;have hlt:i0<items.size :=by omega
   have hs:items.size-i0=(items.size-(i0+1))+1 :=by omega
   rw[hs, List.range'_succ]at hr;cases hr;rw[show items[i]?=some items[i]from Array.getElem?_eq_getElem hlt];refine wpAny_bind (he items[i] (Array.getElem_mem hlt) prog w _ _ ?_)
   by_cases hij:i=j
   .subst hij;rw[hit]
    wp_walk
    exact⟨_, rfl, h⟩
   .rw[hno i hlt (by omega)]
    wp_walk
    exact⟨rfl, rfl, i+1, by omega, rfl⟩
  case fin =>
   rintro⟨b1, b2⟩ s' ⟨hb, rfl, i0, hi0, hr⟩;have :=congrArg List.length hr;simp at this;omega
  case start =>
   refine⟨rfl, rfl, 0, Nat.zero_le _, ?_⟩;simp[Std.Legacy.Range.size]
section
variable {X:Cx}{o e:Expr}{es:List Expr}{wo:WE}{ws:WA}{apos cpos:Pos}
def wMT(ob:WM)(wo:WE)(ws:WA):WE :=fun m K => wo m fun r m1 => (∃ds, r = .imm (.tuple ds)) /\ ws m1 fun rs m2 => ob r rs m2 K
theorem me_tm{name:Str}{id:String}(slot:Slot "tuple" name id)(hty:typeOf (.builtin id)=pure (.type "method_descriptor"))(hm:MtM X id (mM X.kx ob))(ho:ME X o wo)(ha:MA X (e::es) ws)
  (hbase:attributeBase o name X.env (eval o X.env)=eval o X.env :=by rfl)
  (hfew:((backTo cpos (starEach (e::es) X.env)).all (fun x => !x.1)&&(backToKw cpos (keywordEach [] X.env)).all (fun x => x.1.isSome)
   && decide ((e::es).length+([]:List Keyword).length+(if ([]:List Keyword).isEmpty then 0 else 1)<30))=true :=by rfl)
  (hline:(apos.endLine==cpos.line)=true :=by rfl) (hs:starEach (e::es) X.env=(false, eval e X.env)::starEach es X.env :=by first|exact star_cons rfl|rfl) (hplain:(backTo cpos (starEach es X.env)).any (·.1)=false :=by rfl) :
  ME X (.Call (.Attribute o name apos) (e::es) [] cpos) (wMT ob wo ws) :=(pe_bm PySem.F.plainAttrs_tuple slot hty hm ho ha hbase hfew hline hs hplain).wk fun σ H Q ⟨α, m, Kc, Rl, hw, fin⟩ => by
 refine⟨α, m, _, Rl, hw, fun r m1 v H1 k n1 Rl1 rr F1 => ?_⟩;obtain⟨⟨ds, rfl⟩, k⟩ :=k;obtain⟨a, xs, rfl, f, g⟩ :=tup_of_den (show Den X.kx H1 (.tuple ds) v from rr);refine⟨.inr (.inl ⟨rfl, xs, f⟩), α, m1, _, Rl1, k, fun rs m2 vs H2 k2 n2 Rl2 rr2 F2 => ?_⟩;exact⟨α, m2, σ, H, H1, .imm (.tuple ds), rs, Kc, Rl2, rr.keep Rl Rl1 F2, rr2, k2, fun r m' v H' k n Rl' rr' F => fin r m' v H' k (n.trans (n2.trans n1)) Rl' (rr'.base Rl2 (F1.trans F2)) ((F1.trans F2).trans F)⟩
theorem me_tm'{name:Str}{id:String}(slot:Slot "tuple" name id)(hty:typeOf (.builtin id)=pure (.type "method_descriptor"))(hm:MtM X id (mM X.kx ob))(ho:EE X o wo)(ha:EA X (e::es) ws)
  (hbase:attributeBase o name X.env (eval o X.env)=eval o X.env :=by rfl)
  (hfew:((backTo cpos (starEach (e::es) X.env)).all (fun x => !x.1)&&(backToKw cpos (keywordEach [] X.env)).all (fun x => x.1.isSome)
   && decide ((e::es).length+([]:List Keyword).length+(if ([]:List Keyword).isEmpty then 0 else 1)<30))=true :=by rfl)
  (hline:(apos.endLine==cpos.line)=true :=by rfl) (hs:starEach (e::es) X.env=(false, eval e X.env)::starEach es X.env :=by first|exact star_cons rfl|rfl) (hplain:(backTo cpos (starEach es X.env)).any (·.1)=false :=by rfl) :
  EE X (.Call (.Attribute o name apos) (e::es) [] cpos) (wMT ob wo ws) :=⟨me_tm slot hty hm ho.h ha.h hbase hfew hline hs hplain⟩
theorem x_mt{m:MSt}(h:wo m fun r m1 => (∃ds, r = .imm (.tuple ds)) /\ ws m1 fun rs m2 => ob r rs m2 K):wMT ob wo ws m K :=h
theorem x_ts{P:Prop}(h:P):(∃es, R.imm (.tuple ds) = .imm (.tuple es)) /\ P :=⟨⟨ds, rfl⟩, h⟩
def oIndexT:WM :=fun r rs m K => on1 (onImm fun d => ∃ds j, r = .imm (.tuple ds) /\ d.canLay0=true /\ PyData.canLayAll0 ds=true /\ d.depth ≤ 60 /\ (∃y, ds[j]?=some y /\ PyData.eqv y d=true) /\ (∀(i:Nat) y, i<j -> ds[i]?=some y -> PyData.eqv y d=false) /\ K (.imm (.int (j:Nat))) m) rs
theorem mt_indexTM(hu:X.A.units+64<cLine):MtM X "tuple.index" (mM X.kx oIndexT) :=by
 rintro pins s σ' H x xs v us Q I rx rv ⟨α, m, σ, H0, H1, r, rs, Kc, Rl, h1, h2, ho, fin⟩;obtain⟨r2, v2, rfl, rfl, h2, ho⟩ :=on_one h2 ho;obtain⟨d, rfl, hd, ds, j, rfl, c1, c2, dp, ⟨y, ey, eq⟩, hno, ho⟩ :=on_imm h2 ho;obtain⟨a, zs, rfl, f, g⟩ :=tup_of_den (show Den X.kx H (.tuple ds) x from h1);cases rx;obtain⟨u, rfl, ru⟩ :=rv.one;obtain⟨bs, qd⟩ :=Den.reads I (PyData.hasDict_of_canLay _ c1) hd ru;obtain⟨its, rvv, ⟨o, ho1, hc, hdict, n, hdata⟩, hz⟩ :=I.tupleP f;obtain⟨as, rds⟩ :=DenAll.reads I (PyData.hasDictAll_of_canLayAll _ c2) g rvv;have hm:X.A.units+1+min (PyData.depthAll ds) d.depth<cLine :=by have :=Nat.min_le_right (PyData.depthAll ds) d.depth;omega
 have hmap :=SeqAt.readsAll_map ds _ _ c2 rds;have hl:its.length=ds.length :=by rw[<- hmap, List.length_map]
 have hj:j<its.length :=by rw[hl];exact(List.getElem?_eq_some_iff.mp ey).1
 have ro:∀(i:Nat) (hi:i<its.length) y, ds[i]?=some y -> SeqAt.readOf s.heap its[i]=y :=fun i hi y e => by
  rw[<- hmap, List.getElem?_map, List.getElem?_eq_getElem hi]at e;exact Option.some.inj e
 obtain⟨cls, dd, data, sl⟩ :=o;dsimp only at hc hdata;subst hc;subst hdata;refine call_meets PySem.F.slot_tuple_index ⟨_, ho1, rfl⟩ PySem.F.entry_tuple_index (PySem.F.args_tuple_index_2 _ _)
  (tup_indexAt a its.toArray _ dd sl u (fun y => PyData.eqv (SeqAt.readOf s.heap y) d) j (by simpa using hj) ?_ ?_) ⟨ho1, SeqAt.items_eqAt (by simpa using rds) qd c2 c1 hm, ?_⟩
 .show PyData.eqv (SeqAt.readOf s.heap its[j]) d=true;rw[ro j hj y ey];exact eq
 .intro i hi hlt;have hi':i<its.length :=by simpa using hi
  show PyData.eqv (SeqAt.readOf s.heap its[i]) d=false;have hi2:i<ds.length :=by rw[<- hl];exact hi'
  rw[ro i hi' _ (List.getElem?_eq_getElem hi2)];exact hno i _ hlt (List.getElem?_eq_getElem hi2)
 .exact⟨.int (j:Nat), H, I.tok _, ⟨_, rfl⟩, fin _ _ _ H ho rfl Rl (rr_int _) (Frm.refl _ _)⟩
theorem x_indexT{m:MSt}{d y:PyData}{j k k':Nat}(s1:Shp k d)(s2:∀y ∈ ds, Shp k' y)(hk:k ≤ 60)(ey:ds[j]?=some y)(eq:PyData.eqv y d=true)(hno:∀(i:Nat) y, i<j -> ds[i]?=some y -> PyData.eqv y d=false)(h:K (.imm (.int (j:Nat))) m):oIndexT (.imm (.tuple ds)) [.imm d] m K :=
 ⟨ds, j, rfl, s1.cl, (shp_all s2).1, Nat.le_trans s1.dp hk, ⟨y, ey, eq⟩, hno, h⟩
end
theorem noFill_tup:fillsNumberSlot (.type "tuple") "mul" = pure false :=
 PySem.fillsNumberSlot_seq (id := "tuple.__mul__") (r :=some (.builtin "tuple.__rmul__")) PySem.F.slot_tuple_mul.lookup (by decide +kernel) PySem.F.slot_tuple_rmul.lookup (by decide +kernel)
theorem rep_tup:seqRepeat? (.type "tuple")=pure (some (.builtin "tuple.__mul__")) :=by
 unfold seqRepeat?;rw[PySem.seqSlot_of (T := "tuple") (name := "__mul__") (id := "tuple.__mul__") PySem.F.slot_tuple_mul.lookup (by decide +kernel), PySem.seqSlot_of (T := "tuple") (name := "__rmul__") (id := "tuple.__rmul__") PySem.F.slot_tuple_rmul.lookup (by decide +kernel)];rfl
theorem rmul_tup(a:Int)(t:Tok)(l:Addr)(items:Array Value)(n:Nat)(dd:Option Addr)(sl:Array (Option Value)) :
  Meets (Builtin.«int.__rmul__» ⟨[.int a t, .ref l], []⟩) (fun _ R s => s.heap.get? l=some {cls :=.type "tuple", dict :=dd, data :=.seq items n, slots :=sl} /\ R (.ok (.ret Value.notImplemented)) s) :=
 .of_wp fun prog w A R s h => by
  rcases s with⟨hp, g, d, tk, os⟩;rcases h with⟨hl, h⟩
  wp_walk
  exact⟨_, rfl, h⟩
open AutoSeq1 (wpAny_loadPart') in
theorem mul_tup(l:Addr)(items:Array Value)(n:Nat)(dd:Option Addr)(sl:Array (Option Value))(k:Int)(t:Tok)(h1:0 ≤ k)(h2:k<2^20)(hz:items.size*k.toNat ≤ 1000000) :
  Meets (Builtin.«tuple.__mul__» ⟨[.ref l, .int k t], []⟩) (fun _ R s => s.heap.get? l=some {cls :=.type "tuple", dict :=dd, data :=.seq items n, slots :=sl} /\
   if (items.isEmpty||k==1)=true then R (.ok (.ret (.ref l))) s else R (.ok (.ret (.ref s.heap.objs.size))) {s with heap :=s.heap.push {cls :=.type "tuple", data :=.seq ((List.replicate k.toNat items).foldl (fun x1 x2 => x1 ++ x2) #[])} }) :=
 .of_wp fun prog w A R s h => by
  rcases s with⟨hp, g, d, tk, os⟩;rcases h with⟨hl, h⟩
  (wp_walk using wpAny_loadPart' hl)
  have hT:(⟨hp, g, d, tk, os⟩:Shared).TypeIs (.ref l) "tuple" :=(⟨_, hl, rfl⟩);have hIs:IsTup (⟨hp, g, d, tk, os⟩:Shared).heap l items :=⟨_, hl, rfl, n, rfl⟩;have hsz:((items.size:Nat):Int)*k ≤ 1000000 :=by
   have ek:k=((k.toNat:Nat):Int) :=by omega
   rw[ek, <- Int.natCast_mul];omega
  rw[if_neg (show ¬_ by simp only[decide_eq_true_eq, Bool.or_eq_true];omega)];refine wpAny_bind (tupleItemsOf_ hIs ?_)
  by_cases hc:(items.isEmpty||k==1)=true
  .rw[if_pos hc]at h⊢;refine wpAny_bind ?_;unfold Builtin.Tuple.tupleIsExact;refine wpAny_bind (wpAny_typeOf hT (wpAny_pure ?_));rw[if_pos (by rfl)];exact wpAny_bind (wpAny_rule (wpAny_pure ⟨_, rfl, h⟩))
  .rw[if_neg hc]at h⊢;have he:items.isEmpty=false :=by
    cases q:items.isEmpty with
    |false => rfl
    |true => rw[q]at hc;exact(hc rfl).elim
   by_cases hk0:k=0
   .subst hk0;show wpAny _ _ (if (decide ((0:Int) ≤ 0)||items.isEmpty)=true then _ else _) _ _ _;rw[if_pos (by rfl)];exact wpAny_bind (m :=Builtin.Tuple.tupleExact #[]) (wpAny_newObj_type (wpAny_pure ⟨_, rfl, h⟩) (by show(0:Nat) ≤ sizeLine;exact Nat.zero_le _))
   have e1:(decide (k ≤ 0)||items.isEmpty)=false :=by rw[he, decide_eq_false (by omega)];rfl
   have hlen:∀(m:Nat) (acc:Array Value), (List.foldl (fun x1 x2 => x1 ++ x2) acc (List.replicate m items)).size=acc.size+m*items.size :=by
    intro m
    induction m with
    |zero => intro acc;simp
    |succ m ih => intro acc;rw[List.replicate_succ, List.foldl_cons, ih, Array.size_append, Nat.succ_mul];omega
   have hbig:((List.replicate k.toNat items).foldl (fun x1 x2 => x1 ++ x2) #[]).size ≤ sizeLine :=by
    rw[hlen, sizeLine_eq, Nat.mul_comm];simp;omega
   show wpAny _ _ (if (decide (k ≤ 0)||items.isEmpty)=true then _ else _) _ _ _;rw[if_neg (by rw[e1];exact Bool.false_ne_true)];show wpAny _ _ (if ((items.size:Nat):Int)*k>(2^63-1)/8 then _ else _) _ _ _;rw[if_neg (by omega)];show wpAny _ _ (if Builtin.Tuple.tupleTooMany (((items.size:Nat):Int)*k)=true then _ else _) _ _ _;rw[if_neg (by unfold Builtin.Tuple.tupleTooMany;rw[decide_eq_true_eq, sizeLine_eq];omega)];exact wpAny_bind (m :=Builtin.Tuple.tupleExact _) (wpAny_newObj_type (wpAny_pure ⟨_, rfl, h⟩) hbig)
section
variable {X:Cx}
def rRepT(K:PySem.W.Frag):R2 :=fun x y H Q => ∃a xs k, x = .ref a /\ y = .int k /\ SqT K H a xs /\ 0 ≤ k /\ k<2^20 /\ xs.length*k.toNat ≤ 1000000 /\
 if (xs.isEmpty||k==1)=true then Q (.ref a) H else ∀p, H p=none -> Q (.ref p) (upd H p (.tup (List.replicate k.toNat xs).flatten))
theorem op_repT:OpR X (binaryOp .Mult) (rRepT X.K) :=by
 intro pins s σ H x y v u Q I rx ry h;obtain⟨a, xs, k, rfl, rfl, hq, h1, h2, hz, q⟩ :=h;cases rx;obtain⟨t, rfl⟩ :=ry;obtain⟨its, r, ⟨o, ho, hc, hd, n, hdt⟩, hsz⟩ :=I.tupleP hq;obtain⟨cls, dd, data, sl⟩ :=o;dsimp only at hc hdt;subst hc hdt;have hl:xs.length=its.length :=r.length;have hem:its.toArray.isEmpty=xs.isEmpty :=by
  cases its with
  |nil => have:xs=[] :=List.eq_nil_of_length_eq_zero (by simpa using hl);subst this;rfl
  |cons _ _ => cases xs with
   |nil => simp at hl
   |cons _ _ => rfl
 have hnew:List.foldl (fun x1 x2 => x1 ++ x2) #[] (List.replicate k.toNat its.toArray)=(List.replicate k.toNat its).flatten.toArray :=by
  have :=foldl_rep its k.toNat [];rw[List.nil_append]at this;exact this
 refine wpAny_binaryOp_repeat_ref (T := "tuple") (U := "int") (by decide) ⟨_, ho, rfl⟩ (fun s' => typeIs_int s' k t) noFill_tup PySem.F.fills_int_mul PySem.F.slot_int_rmul rep_tup PySem.F.slot_int_index.lookup
  (call_meets PySem.F.slot_int_rmul (typeIs_int s k t) PySem.F.entry_int_rmul (PySem.F.args_int_rmul_2 _ _) (rmul_tup k t a its.toArray n dd sl)
   ⟨ho, rfl, ⟨_, ho, rfl⟩, call_meets PySem.F.slot_tuple_mul ⟨_, ho, rfl⟩ PySem.F.entry_tuple_mul (PySem.F.args_tuple_mul_2 _ _) (mul_tup a its.toArray n dd sl k t h1 h2 (by rw[List.size_toArray, <- hl];exact hz)) ⟨ho, ?_⟩⟩)
 rw[hem, hnew]
 by_cases hc:(xs.isEmpty||k==1)=true
 .rw[if_pos hc]at q⊢;exact⟨.ref a, H, I, rfl, q⟩
 .rw[if_neg hc]at q⊢;have hp:H s.heap.objs.size=none :=I.hok.fresh (Nat.le_refl _);refine⟨.ref s.heap.objs.size, _, I.laid (t' :=s.toks) (o :=.tup (List.replicate k.toNat xs).flatten) (fun b ob e => Heap.get?_push_of_some _ e) (Nat.le_refl _) ⟨?_, _, r.rep k.toNat, PlainT.new _ _⟩, rfl, q _ hp⟩;rw[len_rep, Nat.mul_comm, sizeLine_eq];omega
def oMulS:WO
 | .imm (.int i), .imm (.int j), _, K => IntMulOk i j /\ K (.imm (.int (i*j)))
 | .imm (.tuple ds), .imm (.int k), _, K => 0 ≤ k /\ k<2^20 /\ ds.length*k.toNat ≤ 1000000 /\ K (.imm (.tuple (List.replicate k.toNat ds).flatten))
 | .new ds, .imm (.int k), _, K => 0 ≤ k /\ k<2^20 /\ ds.length*k.toNat ≤ 1000000 /\ K (.new (List.replicate k.toNat ds).flatten)
 |_, _, _, _ => False
theorem denAll_rep{K:Kd}{H:Hp}{ds:List PyData}{xs:List V}(g:DenAll K H ds xs):∀k:Nat, DenAll K H (List.replicate k ds).flatten (List.replicate k xs).flatten
 |0 => by simp only[List.replicate_zero, List.flatten_nil, DenAll]
 |k+1 => by rw[List.replicate_succ, List.replicate_succ, List.flatten_cons, List.flatten_cons];exact g.append (denAll_rep g k)
theorem op_mulSM:OpR X (binaryOp .Mult) (rM X.kx oMulS) :=by
 rintro pins s σ' H x y v u Q I rx ry ⟨α, m, σ, H0, H1, r1, r2, Kc, Rl, h1, h2, ho, fin⟩;unfold oMulS at ho
 split at ho
 .rename_i i j;exact op_mulM pins s σ' H x y v u Q I rx ry ⟨α, m, σ, H0, H1, .imm (.int i), .imm (.int j), Kc, Rl, h1, h2, ho, fin⟩
 .rename_i ds k;obtain⟨k1, k2, k3, ho⟩ :=ho;obtain⟨a, xs, rfl, f, g⟩ :=tup_of_den (show Den X.kx H (.tuple ds) x from h1);have e2 :=int_of_den (show Den X.kx H (.int k) y from h2);subst e2;refine op_repT pins s σ' H _ _ v u Q I rx ry ⟨a, xs, k, rfl, rfl, f, k1, k2, by rw[<- g.length];exact k3, ?_⟩
  by_cases hc:(xs.isEmpty||k==1)=true
  .rw[if_pos hc];refine fin _ _ H ho Rl (rr_of (den_tup f ?_)) (Frm.refl _ _);have e:(List.replicate k.toNat ds).flatten=ds :=by
    rw[Bool.or_eq_true]at hc;rcases hc with hc|hc
    .have hx:xs=[] :=List.isEmpty_iff.mp hc;have hd:ds=[] :=List.eq_nil_of_length_eq_zero (by rw[g.length, hx];rfl);subst hd;simp
    .have:k=1 :=by simpa using hc
     subst this;simp
   rw[e];exact g
  .rw[if_neg hc];exact fun p hp => fin _ _ _ ho (Rl.lay hp) (rr_of (den_tup (SqT.of upd_same) ((denAll_rep g k.toNat).mono (pers_upd (.inl hp))))) (frm_upd hp)
 .rename_i ds k;obtain⟨k1, k2, k3, ho⟩ :=ho;obtain⟨a, xs, rfl, hb, hH, g⟩ :=h1;have e2 :=int_of_den (show Den X.kx H (.int k) y from h2);subst e2;refine op_rep pins s σ' H _ _ v u Q I rx ry ⟨a, k, xs, rfl, rfl, hH, by omega, by omega, by rw[<- g.length, sizeLine_eq];omega, fun p hp => ?_⟩;exact fin _ _ _ ho (Rl.lay hp) ⟨p, _, rfl, hp, upd_same, (denAll_rep g k.toNat).mono (pers_upd (.inl hp))⟩ (frm_upd hp)
 .exact ho.elim
theorem x_mulI'{m:MSt}{i j:Int}(hc:IntMulOk i j)(h:Kr (.imm (.int (i*j)))):oMulS (.imm (.int i)) (.imm (.int j)) m Kr :=⟨hc, h⟩
theorem x_mulT{m:MSt}{k:Int}(h1:0 ≤ k)(h2:k<2^20)(h3:ds.length*k.toNat ≤ 1000000)(h:Kr (.imm (.tuple (List.replicate k.toNat ds).flatten))):oMulS (.imm (.tuple ds)) (.imm (.int k)) m Kr :=⟨h1, h2, h3, h⟩
end
end L2
namespace K
open PySem L2 M7
variable{l:List Nat}{h:Hall}{p:Nat × Nat}{r:Rule}{i k t:Nat}{A:List (List Nat)}{x:Sc}
inductive Mv where
 |come (o:List Nat)|done (k:Nat)|still
def Mv.d:Mv -> PyData
 | .come o => .tuple [.str "come", lnD o]
 | .done k => .tuple [.str "done", .int (k:Int)]
 | .still => .tuple [.str "still"]
def Mv.Ok(h:Hall):Mv -> Prop
 | .come o => Ord h.ss.length o
 | .done k => k<h.ss.length
 | .still => True
inductive Wd where
 |taken|away|served|none
def Wd.s:Wd -> Str
 | .taken => "taken" | .away => "away" | .served => "served" | .none => "none"
def Hall.rn(h:Hall)(k:Nat):Nat :=h.rs.getD k 0
def comeTo(h:Hall)(l:List Nat)(k:Nat):List Nat × Wd :=if l.getD k 0=h.rn k then(l, .away)else(l.set k (l.getD k 0+1), .taken)
def doneAt(l:List Nat)(k:Nat):List Nat × Wd :=if l.getD k 0=0 then(l, .none)else(l.set k (l.getD k 0-1), .served)
def idx(l:List Nat)(x:Nat):Nat :=l.findIdx (fun y => y==x)
def maxN(l:List Nat):Nat :=l.foldl max 0
def shiftF(h:Hall)(l:List Nat):Option (Nat × Nat) :=if h.mv=true /\ 0 ∈ l /\ 2 ≤ maxN l then some (idx l (maxN l), idx l 0)else none
def shifted(l:List Nat)(p:Nat × Nat):List Nat :=(l.set p.1 (l.getD p.1 0-1)).set p.2 ((l.set p.1 (l.getD p.1 0-1)).getD p.2 0+1)
def settleN(h:Hall):Nat -> List Nat -> List Nat
 |0, l => l
 |n+1, l => match shiftF h l with
  |none => l
  |some p => settleN h n (shifted l p)
def settle(h:Hall)(l:List Nat):List Nat :=settleN h (l.count 0) l
theorem maxN_fold:∀(l:List Nat) (a:Nat), a ≤ l.foldl max a /\ (∀x ∈ l, x ≤ l.foldl max a) /\ (l.foldl max a=a \/ l.foldl max a ∈ l)
 |[], a => ⟨Nat.le_refl _, (fun _ h => by cases h), .inl rfl⟩
 | y::l, a => by
  obtain⟨h1, h2, h3⟩ :=maxN_fold l (max a y);refine⟨Nat.le_trans (Nat.le_max_left a y) h1, fun x hx => ?_, ?_⟩
  .rcases List.mem_cons.mp hx with rfl|hx
   .exact Nat.le_trans (Nat.le_max_right a x) h1
   .exact h2 x hx
  .rcases h3 with h3|h3
   .show(List.foldl max (max a y) l=a) \/ _;rw[h3]
    by_cases hy:a ≤ y
    .right;show List.foldl max (max a y) l ∈ y::l;rw[h3, Nat.max_eq_right hy];exact List.mem_cons_self
    .left;exact Nat.max_eq_left (by omega)
   .exact .inr (List.mem_cons_of_mem _ h3)
theorem maxN_le:∀x ∈ l, x ≤ maxN l :=(maxN_fold l 0).2.1
theorem maxN_mem(h:l ≠ []):maxN l ∈ l :=by
 rcases (maxN_fold l 0).2.2 with e|e
 .cases l with
  |nil => exact(h rfl).elim
  |cons x l =>
   have:x ≤ maxN (x::l) :=maxN_le x List.mem_cons_self;have e':maxN (x::l)=0 :=e;have hx:x=0 :=by omega
   rw[e', <- hx];exact List.mem_cons_self
 .exact e
theorem idx_spec{x:Nat}(h:x ∈ l):l[idx l x]?=some x /\ ∀i y, i<idx l x -> l[i]?=some y -> y ≠ x :=by
 have hlt:idx l x<l.length :=List.findIdx_lt_length_of_exists ⟨x, h, by simp⟩;refine⟨?_, fun i y hi hy e => ?_⟩
 .rw[List.getElem?_eq_getElem hlt];have :=List.findIdx_getElem (w :=hlt);simp at this;exact congrArg some this
 .subst e;have :=List.not_of_lt_findIdx hi;have hi':i<l.length :=by have:idx l y<l.length :=hlt;omega
  rw[List.getElem?_eq_getElem hi']at hy;simp at this;exact this (Option.some.inj hy)
theorem eqv_int(a b:Nat):PyData.eqv (.int (a:Int)) (.int (b:Int))=decide (a=b) :=by
 simp only[PyData.eqv]
 by_cases h:a=b
 .subst h;simp
 .have:¬((a:Int)=(b:Int)) :=fun z => h (Int.ofNat.inj z);simp[h, this]
theorem natD_shp(l:List Nat):∀y ∈ natD l, Shp 0 y :=fun y hy => by
 obtain⟨x, _, rfl⟩ :=List.mem_map.mp hy;exact shp_int _
theorem natD_set(l:List Nat)(k x:Nat):(natD l).set k (.int (x:Int))=natD (l.set k x) :=by
 unfold natD;rw[List.map_set]
def spMore:SpM :=fun as K => ∃(l:List Nat) (k:Nat) (d:Int) (x:Nat), as=[.imm (lnD l), .imm (.int (k:Int)), .imm (.int d)] /\ k<l.length /\ l.length ≤ 1000 /\ (l.getD k 0:Int)+d=(x:Int) /\ K (.imm (lnD (l.set k x))) []
def lwD(p:List Nat × Wd):PyData :=.tuple [lnD p.1, .str p.2.s]
def spCome:SpM :=fun as K => ∃(h:Hall) (l:List Nat) (k:Nat), as=[.imm h.d, .imm (lnD l), .imm (.int (k:Int))] /\ h.Ok /\ Lines h l /\ k<h.ss.length /\ K (.imm (lwD (comeTo h l k))) []
def spDone:SpM :=fun as K => ∃(l:List Nat) (k:Nat), as=[.imm (lnD l), .imm (.int (k:Int))] /\ k<l.length /\ l.length ≤ 1000 /\ K (.imm (lwD (doneAt l k))) []
def optP:Option (Nat × Nat) -> PyData
 |none => .none
 |some p => .tuple [.int (p.1:Int), .int (p.2:Int)]
def spShift:SpM :=fun as K => ∃(h:Hall) (l:List Nat), as=[.imm h.d, .imm (lnD l)] /\ l ≠ [] /\ l.length ≤ 1000 /\ K (.imm (optP (shiftF h l))) []
def spSettled:SpM :=fun as K => ∃(h:Hall) (l:List Nat), as=[.imm h.d, .imm (lnD l)] /\ l ≠ [] /\ l.length ≤ 1000 /\ K (.imm (lnD (settle h l))) []
theorem shift_some(e:shiftF h l=some p):h.mv=true /\ l[p.1]?=some (maxN l) /\ 2 ≤ maxN l /\ l[p.2]?=some 0 /\ p.1 ≠ p.2 :=by
 unfold shiftF at e
 split at e
 .rename_i q;obtain⟨q1, q2, q3⟩ :=q;have hne:l ≠ [] :=fun z => by rw[z]at q2;cases q2
  have s1 :=(idx_spec (maxN_mem hne)).1;have s0 :=(idx_spec q2).1;cases e;refine⟨q1, s1, q3, s0, fun z => ?_⟩;have z':idx l (maxN l)=idx l 0 :=z;rw[z', s0]at s1;have :=Option.some.inj s1;omega
 .cases e
theorem shifted_at(e:shiftF h l=some p):shifted l p=(l.set p.1 (maxN l-1)).set p.2 1 /\ p.1<l.length /\ p.2<l.length /\ (shifted l p).count 0+1=l.count 0 /\ (shifted l p).length=l.length :=by
 obtain⟨h0, h1, h2, h3, h4⟩ :=shift_some e;have l1 :=(List.getElem?_eq_some_iff.mp h1).1;have l2 :=(List.getElem?_eq_some_iff.mp h3).1;have g1:l.getD p.1 0=maxN l :=getD_of h1;have g2:(l.set p.1 (maxN l-1)).getD p.2 0=0 :=getD_of (by rw[List.getElem?_set_ne h4];exact h3);have es:shifted l p=(l.set p.1 (maxN l-1)).set p.2 1 :=by unfold shifted;rw[g1, g2]
 have v1:l[p.1]=maxN l :=by rw[List.getElem?_eq_getElem l1]at h1;exact Option.some.inj h1
 have v2:l[p.2]=0 :=by rw[List.getElem?_eq_getElem l2]at h3;exact Option.some.inj h3
 refine⟨es, l1, l2, ?_, by rw[es, List.length_set, List.length_set]⟩;have c0:0<l.count 0 :=List.count_pos_iff.mpr (List.mem_of_getElem? h3);have l2':p.2<(l.set p.1 (maxN l-1)).length :=by rw[List.length_set];exact l2
 have v2':(l.set p.1 (maxN l-1))[p.2]=0 :=by rw[List.getElem_set_ne h4];exact v2
 rw[es, List.count_set l2', List.count_set l1, v2', v1];have d1:(maxN l==0)=false :=by simp;omega
 have d2:(maxN l-1==0)=false :=by simp;omega
 rw[d1, d2];simp;omega
theorem settleN_none(e:shiftF h l=none):∀n, settleN h n l=l
 |0 => rfl
 |n+1 => by simp[settleN, e]
def turnB(h:Hall)(r:Rule)(t:Nat):Nat :=match r with
 | .turns => (t+1)%h.ss.length
 |_ => t
def spTurnB:SpM :=fun as K => ∃(h:Hall) (r:Rule) (t:Nat), as=[.imm h.d, .imm r.d, .imm (.int (t:Int))] /\ h.Ok /\ K (.imm (.int (turnB h r t:Nat))) []
def lineD(h:Hall)(r:Rule)(l:List Nat)(t:Nat):Mv -> PyData
 | .come o => .int (sent h r l t o:Nat)
 | .done k => .int (k:Int)
 | .still => .none
def spLineOf:SpM :=fun as K => ∃(h:Hall) (r:Rule) (l:List Nat) (t:Nat) (mv:Mv), as=[.imm h.d, .imm r.d, .imm (stD l t), .imm mv.d] /\ h.Ok /\ r.Ok h /\ Lines h l /\ mv.Ok h /\ K (.imm (lineD h r l t mv)) []
def moved(h:Hall)(r:Rule)(l:List Nat)(t:Nat):Mv -> List Nat × Nat × Wd
 | .come o => (settle h (comeTo h l (sent h r l t o)).1, turnB h r t, (comeTo h l (sent h r l t o)).2)
 | .done k => (settle h (doneAt l k).1, t, (doneAt l k).2)
 | .still => (settle h l, t, .none)
def mvD(p:List Nat × Nat × Wd):PyData :=.tuple [stD p.1 p.2.1, .str p.2.2.s]
def spMoved:SpM :=fun as K => ∃(h:Hall) (r:Rule) (l:List Nat) (t:Nat) (mv:Mv), as=[.imm h.d, .imm r.d, .imm (stD l t), .imm mv.d] /\ h.Ok /\ r.Ok h /\ Lines h l /\ mv.Ok h /\ (r = .turns -> t<h.ss.length) /\ K (.imm (mvD (moved h r l t mv))) []
theorem sent_lt{o:List Nat}(ho:h.Ok)(hr:r.Ok h)(hL:Lines h l)(hO:Ord h.ss.length o)(ht:r = .turns -> t<h.ss.length):sent h r l t o<h.ss.length :=by
 cases r with
 |random => obtain⟨k0, k1, rfl, h0⟩ :=hO.cons;exact h0
 |turns => exact ht rfl
 |two => exact pick_lt (lt :=shorter l) hO 2
 |least => have :=pick_lt (lt :=shorter l) hO o.length;rw[List.take_length]at this;exact this
 |quick => have :=pick_lt (lt :=quicker h l) hO o.length;rw[List.take_length]at this;exact this
 |told ps =>
  have hlt:placeF 0 h.rs l<ps.length :=by rw[hr.1, allR_cnt];exact place_lt hL.fits
  exact hr.2 _ (List.mem_of_getElem? (getN rfl hlt))
def spShiftL:SpM :=fun as K => ∃(h:Hall) (l:List Nat), as=[.imm h.d, .imm (.list (natD l))] /\ l ≠ [] /\ l.length ≤ 1000 /\ K (.imm (optP (shiftF h l))) []
theorem Lines.set{x:Nat}(hL:Lines h l)(hx:∀s, h.ss[k]?=some s -> x ≤ s.r):Lines h (l.set k x) :=by
 refine⟨by rw[List.length_set];exact hL.1, fun i s y e1 e2 => ?_⟩
 by_cases hi:k=i
 .subst hi;have hlt:k<l.length :=by rw[hL.1];exact(List.getElem?_eq_some_iff.mp e1).1
  rw[List.getElem?_set_self hlt]at e2;cases e2;exact hx s e1
 .rw[List.getElem?_set_ne hi]at e2;exact hL.2 i s y e1 e2
theorem Lines.at(hL:Lines h l)(hk:k<h.ss.length):∃s, h.ss[k]?=some s /\ l.getD k 0 ≤ s.r /\ h.rn k=s.r /\ s ∈ h.ss :=by
 obtain⟨s, es, ea, eb, hs⟩ :=h.srv hk;exact⟨s, es, hL.2 k s _ es (getN hL.1 hk), getD_of (Hall.rs_get es), hs⟩
theorem come_lines(hL:Lines h l)(hk:k<h.ss.length):Lines h (comeTo h l k).1 :=by
 obtain⟨s, es, hle, er, hs⟩ :=hL.at hk;unfold comeTo;split
 .exact hL
 .rename_i hne;refine hL.set fun s' e' => ?_;rw[es]at e';cases e';omega
theorem done_lines(hL:Lines h l)(hk:k<h.ss.length):Lines h (doneAt l k).1 :=by
 obtain⟨s, es, hle, er, hs⟩ :=hL.at hk;unfold doneAt;split
 .exact hL
 .refine hL.set fun s' e' => ?_;rw[es]at e';cases e';omega
theorem settleN_lines{h:Hall}(ho:h.Ok):∀(n:Nat) (l:List Nat), Lines h l -> Lines h (settleN h n l)
 |0, l, hL => hL
 | n+1, l, hL => by
  simp only[settleN]
  cases e:shiftF h l with
  |none => exact hL
  |some p =>
   obtain⟨es, l1, l2, hc, hlen⟩ :=shifted_at e;obtain⟨m0, m1, m2, m3, m4⟩ :=shift_some e;refine settleN_lines ho n _ ?_;rw[es];refine(hL.set (k :=p.1) (x :=maxN l-1) fun s e1 => ?_).set fun s e1 => (ho.ok s (List.mem_of_getElem? e1)).r1;have :=hL.2 p.1 s _ e1 m1;omega
theorem settle_lines(ho:h.Ok)(hL:Lines h l):Lines h (settle h l) :=settleN_lines ho _ _ hL
structure St(h:Hall)(r:Rule)(l:List Nat)(t:Nat):Prop where
 ln:Lines h l
 tn:r = .turns -> t<h.ss.length
 ts:t<4
theorem turnB_lt(ho:h.Ok)(hs:t<4)(ht:r = .turns -> t<h.ss.length):(r = .turns -> turnB h r t<h.ss.length) /\ turnB h r t<4 :=by
 have n1 :=ho.n1;have n4 :=ho.n4
 cases r with
 |turns =>
  have :=Nat.mod_lt (t+1) (show h.ss.length>0 by omega);exact⟨fun _ => this, by show(t+1)%h.ss.length<4;omega⟩
 |_ => exact⟨(fun z => by cases z), hs⟩
theorem moved_st(ho:h.Ok)(hr:r.Ok h)(S:St h r l t){mv:Mv}(hm:mv.Ok h):St h r (moved h r l t mv).1 (moved h r l t mv).2.1 :=by
 cases mv with
 |come o =>
  have :=turnB_lt ho S.ts S.tn;exact⟨settle_lines ho (come_lines S.ln (sent_lt ho hr S.ln hm S.tn)), this.1, this.2⟩
 |done k => exact⟨settle_lines ho (done_lines S.ln hm), S.tn, S.ts⟩
 |still => exact⟨settle_lines ho S.ln, S.tn, S.ts⟩
def zer(h:Hall):List Nat :=List.replicate h.ss.length 0
theorem first_st(ho:h.Ok)(r:Rule):St h r (zer h) 0 :=by
 refine⟨⟨by simp[zer], fun i s x e1 e2 => ?_⟩, fun _ => ho.n1, by decide⟩;have:x=0 :=by
  have :=List.mem_of_getElem? e2;unfold zer at this;exact(List.mem_replicate.mp this).2
 omega
def spFirst:SpM :=fun as K => ∃h:Hall, as=[.imm h.d] /\ h.Ok /\ K (.imm (stD (zer h) 0)) []
structure Cn where
 c:Nat
 t:Nat
 a:Nat
 s:Nat
def Cn.d(x:Cn):PyData :=.tuple [.int (x.c:Int), .int (x.t:Int), .int (x.a:Int), .int (x.s:Int)]
def Cn.b(x:Cn):Wd -> Cn
 | .taken => ⟨x.c+1, x.t+1, x.a, x.s⟩
 | .away => ⟨x.c+1, x.t, x.a+1, x.s⟩
 | .served => ⟨x.c, x.t, x.a, x.s+1⟩
 | .none => x
def spCnt:SpM :=fun as K => ∃(x:Cn) (w:Wd), as=[.imm x.d, .imm (.str w.s)] /\ K (.imm (x.b w).d) []
def akL(A:List (List Nat)):List PyData :=A.map lnD
def akD(A:List (List Nat)):PyData :=.tuple (akL A)
def szs(A:List (List Nat)):List Nat :=A.map List.length
def askStep(A:List (List Nat))(p:Nat × Nat):List (List Nat) :=(A.set p.2 ((A.getD p.1 []).drop ((A.getD p.1 []).length-1))).set p.1 (A.getD p.1 []).dropLast
def askN(h:Hall):Nat -> List (List Nat) -> List (List Nat)
 |0, A => A
 |n+1, A => match shiftF h (szs A)with
  |none => A
  |some p => askN h n (askStep A p)
def askSettle(h:Hall)(A:List (List Nat)):List (List Nat) :=askN h ((szs A).count 0) A
theorem askN_none(e:shiftF h (szs A)=none):∀n, askN h n A=A
 |0 => rfl
 |n+1 => by simp[askN, e]
theorem ask_szs(e:shiftF h (szs A)=some p):szs (askStep A p)=shifted (szs A) p :=by
 obtain⟨es, l1, l2, hc, hlen⟩ :=shifted_at e;obtain⟨m0, m1, m2, m3, m4⟩ :=shift_some e;have hl:(A.getD p.1 []).length=maxN (szs A) :=by
  obtain⟨x, ex, e2, _⟩ :=gmap m1;rw[getD_of ex];exact e2.symm
 rw[es];unfold askStep szs;rw[List.map_set, List.map_set, List.length_dropLast, List.length_drop, hl];have:maxN (szs A)-(maxN (szs A)-1)=1 :=by omega
 rw[this];exact(List.set_comm _ _ m4).symm
def spAskS:SpM :=fun as K => ∃(h:Hall) (A:List (List Nat)), as=[.imm h.d, .own (akL A)] /\ A ≠ [] /\ A.length ≤ 4 /\ (∀x ∈ A, x.length ≤ 1000) /\ K (.imm (akD (askSettle h A))) [akL A]
def askB(A:List (List Nat))(k:Nat)(w:Wd)(num:Nat):List (List Nat) :=match w with
 | .taken => A.set k (A.getD k [] ++ [num])
 | .served => A.set k ((A.getD k []).drop 1)
 |_ => A
theorem szs_len(A:List (List Nat)):(szs A).length=A.length :=by simp[szs]
theorem akL_len(A:List (List Nat)):(akL A).length=A.length :=by simp[akL]
theorem akL_get(hk:k<A.length):(akL A)[k]?=some (lnD (A.getD k [])) :=by
 unfold akL;rw[List.getElem?_map, getD_of (List.getElem?_eq_getElem hk), List.getElem?_eq_getElem hk];rfl
theorem akL_set(A:List (List Nat))(k:Nat)(x:List Nat):(akL A).set k (lnD x)=akL (A.set k x) :=by unfold akL;rw[List.map_set]
theorem szs_get:(szs A).getD k 0=(A.getD k []).length :=by
 by_cases hk:k<A.length
 .rw[getD_of (x :=(A.getD k []).length) (by unfold szs;rw[List.getElem?_map, getD_of (List.getElem?_eq_getElem hk), List.getElem?_eq_getElem hk];rfl)]
 .rw[List.getD_eq_getElem?_getD, List.getD_eq_getElem?_getD, List.getElem?_eq_none (by rw[szs_len];omega), List.getElem?_eq_none (by omega)];rfl
theorem szs_set(A:List (List Nat))(k:Nat)(x:List Nat):szs (A.set k x)=(szs A).set k x.length :=by unfold szs;rw[List.map_set]
theorem askN_szs{h:Hall}:∀(n:Nat) (A:List (List Nat)), szs (askN h n A)=settleN h n (szs A)
 |0, A => rfl
 |n+1, A => by
  simp only[askN, settleN]
  cases e:shiftF h (szs A)with
  |none => rfl
  |some p => show szs (askN h n (askStep A p))=settleN h n (shifted (szs A) p);rw[askN_szs n, ask_szs e]
theorem askSettle_szs(h:Hall)(A:List (List Nat)):szs (askSettle h A)=settle h (szs A) :=askN_szs _ _
theorem askN_mem{h:Hall}:∀(n:Nat) (A:List (List Nat)), ∀x ∈ askN h n A, ∀y ∈ x, ∃z ∈ A, y ∈ z
 |0, A => fun x hx y hy => ⟨x, hx, hy⟩
 | n+1, A => by
  intro x hx y hy;simp only[askN]at hx
  cases e:shiftF h (szs A)with
  |none => rw[e]at hx;exact⟨x, hx, hy⟩
  | some p =>
   rw[e]at hx;obtain⟨z, hz, hy⟩ :=askN_mem n (askStep A p) x hx y hy;obtain⟨m0, m1, m2, m3, m4⟩ :=shift_some e;obtain⟨x0, ex, e2, _⟩ :=gmap m1;have hg:A.getD p.1 [] ∈ A :=by rw[getD_of ex];exact List.mem_of_getElem? ex
   unfold askStep at hz;rcases List.mem_or_eq_of_mem_set hz with hz|rfl
   .rcases List.mem_or_eq_of_mem_set hz with hz|rfl
    .exact⟨z, hz, hy⟩
    .exact⟨_, hg, List.mem_of_mem_drop hy⟩
   .exact⟨_, hg, (List.dropLast_subset _ hy)⟩
def spAskB:SpM :=fun as K => ∃(h:Hall) (A:List (List Nat)) (ld:PyData) (k:Nat) (w:Wd) (num:Nat), as=[.imm h.d, .imm (akD A), .imm ld, .imm (.str w.s), .imm (.int (num:Int))] /\ A ≠ [] /\ A.length ≤ 4 /\ (∀x ∈ A, x.length ≤ 900) /\ (w = .taken \/ w = .served -> ld = .int (k:Int) /\ k<A.length) /\ K (.imm (akD (askSettle h (askB A k w num)))) []
structure Sc where
 l:List Nat
 t:Nat
 c:Cn
 A:List (List Nat)
def Sc.d(x:Sc):PyData :=.tuple [stD x.l x.t, x.c.d, akD x.A]
structure Sc.Ok(h:Hall)(r:Rule)(x:Sc):Prop where
 st:St h r x.l x.t
 sz:szs x.A=x.l
def kOf(h:Hall)(r:Rule)(l:List Nat)(t:Nat):Mv -> Nat
 | .come o => sent h r l t o
 | .done k => k
 | .still => 0
def Sc.nx(h:Hall)(r:Rule)(x:Sc)(mv:Mv):Sc :=
 ⟨(moved h r x.l x.t mv).1, (moved h r x.l x.t mv).2.1, x.c.b (moved h r x.l x.t mv).2.2, askSettle h (askB x.A (kOf h r x.l x.t mv) (moved h r x.l x.t mv).2.2 x.c.c)⟩
def sc0(h:Hall):Sc :=⟨zer h, 0, ⟨0, 0, 0, 0⟩, List.replicate h.ss.length []⟩
theorem sc0_ok(ho:h.Ok)(r:Rule):(sc0 h).Ok h r :=⟨first_st ho r, by simp[sc0, szs, zer]⟩
theorem kOf_lt(ho:h.Ok)(hr:r.Ok h)(S:St h r l t){mv:Mv}(hm:mv.Ok h):kOf h r l t mv<h.ss.length :=by
 cases mv with
 |come o => exact sent_lt ho hr S.ln hm S.tn
 |done k => exact hm
 |still => exact ho.n1
theorem Sc.nx_ok(ho:h.Ok)(hr:r.Ok h)(X:x.Ok h r){mv:Mv}(hm:mv.Ok h):(x.nx h r mv).Ok h r :=by
 refine⟨moved_st ho hr X.st hm, ?_⟩;show szs (askSettle h _)=_;rw[askSettle_szs];have hk :=kOf_lt ho hr X.st hm
 cases mv with
 |come o =>
  show settle h (szs (askB x.A (sent h r x.l x.t o) (comeTo h x.l (sent h r x.l x.t o)).2 x.c.c))=settle h (comeTo h x.l (sent h r x.l x.t o)).1
  congr 1
  unfold comeTo;split
  .exact X.sz
  .show szs (x.A.set _ _)=_;rw[szs_set, X.sz, List.length_append, <- szs_get, X.sz];rfl
 |done k =>
  show settle h (szs (askB x.A k (doneAt x.l k).2 x.c.c))=settle h (doneAt x.l k).1
  congr 1
  unfold doneAt;split
  .exact X.sz
  .show szs (x.A.set _ _)=_;rw[szs_set, X.sz, List.length_drop, <- szs_get, X.sz]
 |still =>
  show settle h (szs x.A)=settle h x.l;rw[X.sz]
def wdOf(h:Hall)(r:Rule)(x:Sc)(mv:Mv):Wd :=(moved h r x.l x.t mv).2.2
def spScene0:SpM :=fun as K => ∃h:Hall, as=[.imm h.d] /\ h.Ok /\ K (.imm (sc0 h).d) []
def spSceneB:SpM :=fun as K => ∃(h:Hall) (r:Rule) (x:Sc) (mv:Mv), as=[.imm h.d, .imm r.d, .imm x.d, .imm mv.d] /\ h.Ok /\ r.Ok h /\ x.Ok h r /\ mv.Ok h /\ K (.imm (.tuple [(x.nx h r mv).d, .str (wdOf h r x mv).s])) []
def runD(R:List Mv):PyData :=.tuple (R.map Mv.d)
def standsF(h:Hall)(r:Rule):List Nat × Nat -> List Mv -> List (List Nat × Nat)
 |p, [] => [p]
 |p, mv::R => p::standsF h r ((moved h r p.1 p.2 mv).1, (moved h r p.1 p.2 mv).2.1) R
def spWalked:SpM :=fun as K => ∃(h:Hall) (r:Rule) (R:List Mv), as=[.imm h.d, .imm r.d, .imm (runD R)] /\ h.Ok /\ r.Ok h /\ (∀mv ∈ R, mv.Ok h) /\ R.length ≤ 100000 /\ K (.imm (.tuple ((standsF h r (zer h, 0) R).map fun p => stD p.1 p.2))) []
def countF(h:Hall)(r:Rule):List Nat × Nat -> Cn -> List Mv -> Cn
 |_, c, [] => c
 |p, c, mv::R => countF h r ((moved h r p.1 p.2 mv).1, (moved h r p.1 p.2 mv).2.1) (c.b (moved h r p.1 p.2 mv).2.2) R
def spCounted:SpM :=fun as K => ∃(h:Hall) (r:Rule) (R:List Mv), as=[.imm h.d, .imm r.d, .imm (runD R)] /\ h.Ok /\ r.Ok h /\ (∀mv ∈ R, mv.Ok h) /\ K (.imm (countF h r (zer h, 0) ⟨0, 0, 0, 0⟩ R).d) []
theorem cutD_last(ds:List PyData):cutD ds (some (-1)) none=ds.drop (ds.length-1) :=by
 unfold cutD;have e1:HT.sIx ds.length ds.length none=ds.length :=by simp[HT.sIx]
 have e2:HT.sIx ds.length 0 (some (-1))=ds.length-1 :=by
  simp only[HT.sIx];rw[if_pos (by decide)];omega
 rw[e1, e2, List.take_of_length_le (by rw[List.length_drop];omega)]
theorem cutD_init(ds:List PyData):cutD ds none (some (-1))=ds.dropLast :=by
 unfold cutD;have e1:HT.sIx ds.length 0 none=0 :=by simp[HT.sIx]
 have e2:HT.sIx ds.length ds.length (some (-1))=ds.length-1 :=by
  simp only[HT.sIx];rw[if_pos (by decide)];omega
 rw[e1, e2, List.drop_zero, Nat.sub_zero, List.dropLast_eq_take]
theorem natD_drop(l:List Nat)(n:Nat):(natD l).drop n=natD (l.drop n) :=by unfold natD;rw[List.map_drop]
theorem natD_init(l:List Nat):(natD l).dropLast=natD l.dropLast :=by unfold natD;rw[List.map_dropLast]
theorem szs_get?{x:List Nat}(h:A[i]?=some x):(szs A)[i]?=some x.length :=by simp[szs, h]
theorem take_nat{x:List Nat}(h:A[i]?=some x):natD ((szs A).take (i+1))=natD ((szs A).take i) ++ [.int (x.length:Int)] :=by
 rw[List.take_add_one, szs_get? h, natD_app];rfl
theorem drop_cons{α:Type}{R:List α}{x:α}(e:R[i]?=some x):R.drop i=x::R.drop (i+1) :=by
 obtain⟨hi, rfl⟩ :=List.getElem?_eq_some_iff.mp e;exact List.drop_eq_getElem_cons hi
theorem standsF_len(h:Hall)(r:Rule):∀(p:List Nat × Nat) (R:List Mv), (standsF h r p R).length=R.length+1
 |p, [] => rfl
 |p, mv::R => by simp[standsF, standsF_len h r _ R]
abbrev Fo :=Option (Int × Bool)
def Fo.d:Fo -> PyData
 |none => .none
 |some p => .tuple [.int p.1, .bool p.2]
def foB(F:List Fo)(w:Wd)(num:Nat)(left:Nat):List Fo :=match w with
 | .taken => F ++ [some ((left:Int), false)]
 | .away => F ++ [none]
 | .served => F.set num (some ((((F.getD num none).getD (0, false)).1-(left:Int)), true))
 | .none => F
def numOf(h:Hall)(r:Rule)(x:Sc)(mv:Mv):Nat :=(x.A.getD (kOf h r x.l x.t mv) []).getD 0 0
def staysF(h:Hall)(r:Rule):Sc -> List Fo -> List Mv -> List Fo
 |_, F, [] => F
 |x, F, mv::R => staysF h r (x.nx h r mv) (foB F (wdOf h r x mv) (numOf h r x mv) (R.length+1)) R
structure FoOk(x:Sc)(F:List Fo):Prop where
 ln:F.length=x.c.c
 pr:∀y ∈ x.A, ∀z ∈ y, ∃q, F[z]?=some (some q)
theorem wd_served{mv:Mv}(X:x.Ok h r)(hm:mv.Ok h)(e:wdOf h r x mv = .served):∃k, mv = .done k /\ ∃n L, x.A[k]?=some (n::L) :=by
 cases mv with
 |come o =>
  exfalso;have e':(comeTo h x.l (sent h r x.l x.t o)).2 = .served :=e;unfold comeTo at e'
  split at e'<;>cases e'
 | done k =>
  refine⟨k, rfl, ?_⟩;have e':(doneAt x.l k).2 = .served :=e;unfold doneAt at e'
  split at e'
  .cases e'
  .rename_i hne;have h1:(x.A.getD k []).length ≠ 0 :=by rw[<- szs_get, X.sz];exact hne
   cases e2:x.A[k]? with
   |none => rw[List.getD_eq_getElem?_getD, e2]at h1;exact absurd rfl h1
   |some L =>
    rw[getD_of e2]at h1
    cases L with
    |nil => exact absurd rfl h1
    |cons n L => exact⟨n, L, rfl⟩
 |still => cases e
theorem FoOk.nx{F:List Fo}(X:x.Ok h r)(O:FoOk x F){mv:Mv}(hm:mv.Ok h)(left:Nat):FoOk (x.nx h r mv) (foB F (wdOf h r x mv) (numOf h r x mv) left) :=by
 have key:∀(w:Wd) (k num:Nat) (F':List Fo), (∀y ∈ askB x.A k w x.c.c, ∀z ∈ y, ∃q, F'[z]?=some (some q)) -> ∀y ∈ askSettle h (askB x.A k w x.c.c), ∀z ∈ y, ∃q, F'[z]?=some (some q) :=by
  intro w k num F' hF y hy z hz;obtain⟨y', hy', hz'⟩ :=askN_mem _ _ y hy z hz;exact hF y' hy' z hz'
 show FoOk ⟨_, _, x.c.b (wdOf h r x mv), askSettle h (askB x.A (kOf h r x.l x.t mv) (wdOf h r x mv) x.c.c)⟩ _;generalize kOf h r x.l x.t mv=k
 cases e:wdOf h r x mv with
 | taken =>
  refine⟨by show(F ++ [_]).length=x.c.c+1;rw[List.length_append, O.ln];rfl, key _ _ 0 _ fun y hy z hz => ?_⟩;have old:∀y ∈ x.A, ∀z ∈ y, ∃q, (F ++ [some ((left:Int), false)])[z]?=some (some q) :=fun y hy z hz => by
   obtain⟨q, hq⟩ :=O.pr y hy z hz;exact⟨q, by rw[List.getElem?_append_left (List.getElem?_eq_some_iff.mp hq).1];exact hq⟩
  rcases List.mem_or_eq_of_mem_set (show y ∈ x.A.set k (x.A.getD k [] ++ [x.c.c])from hy)with hy|rfl
  .exact old y hy z hz
  .rcases List.mem_append.mp hz with hz|hz
   .cases e2:x.A[k]? with
    |none => rw[List.getD_eq_getElem?_getD, e2]at hz;cases hz
    |some L => rw[getD_of e2]at hz;exact old L (List.mem_of_getElem? e2) z hz
   .rw[List.mem_singleton.mp hz, <- O.ln];exact⟨_, List.getElem?_concat_length⟩
 |away =>
  refine⟨by show(F ++ [_]).length=x.c.c+1;rw[List.length_append, O.ln];rfl, key _ _ 0 _ fun y hy z hz => ?_⟩;obtain⟨q, hq⟩ :=O.pr y hy z hz;exact⟨q, by show(F ++ [none])[z]?=_;rw[List.getElem?_append_left (List.getElem?_eq_some_iff.mp hq).1];exact hq⟩
 | served =>
  refine⟨by show(F.set _ _).length=x.c.c;rw[List.length_set, O.ln], key _ _ 0 _ fun y hy z hz => ?_⟩;have old:∀y ∈ x.A, ∀z ∈ y, ∃q, (foB F .served (numOf h r x mv) left)[z]?=some (some q) :=fun y hy z hz => by
   obtain⟨q, hq⟩ :=O.pr y hy z hz;show ∃q, (F.set _ _)[z]?=_
   by_cases hn:numOf h r x mv=z
   .rw[hn, List.getElem?_set_self (List.getElem?_eq_some_iff.mp hq).1];exact⟨_, rfl⟩
   .rw[List.getElem?_set_ne hn];exact⟨q, hq⟩
  rcases List.mem_or_eq_of_mem_set (show y ∈ x.A.set k ((x.A.getD k []).drop 1)from hy)with hy|rfl
  .exact old y hy z hz
  .have hz :=List.mem_of_mem_drop hz
   cases e2:x.A[k]? with
   |none => rw[List.getD_eq_getElem?_getD, e2]at hz;cases hz
   |some L => rw[getD_of e2]at hz;exact old L (List.mem_of_getElem? e2) z hz
 |none => exact⟨O.ln, key _ _ 0 _ O.pr⟩
def spStays:SpM :=fun as K => ∃(h:Hall) (r:Rule) (R:List Mv), as=[.imm h.d, .imm r.d, .imm (runD R)] /\ h.Ok /\ r.Ok h /\ (∀mv ∈ R, mv.Ok h) /\ R.length ≤ 100000 /\ K (.imm (.tuple ((staysF h r (sc0 h) [] R).map Fo.d))) []
def Mv.Ok2(h:Hall)(mv:Mv):Prop :=mv.Ok h /\ ∀o, mv = .come o -> o.length=h.ss.length
def spMove:SpM :=fun as K => ∃(fd:List PyData) (c:Nat) (h:Hall) (way:Nat), as=[.own fd, .imm h.d, .imm (.int (way:Int))] /\ h.Ok /\ FeedD c fd /\ c<800000000 /\ way<1000 /\ ∀(mv:Mv) (fd':List PyData), mv.Ok2 h -> FeedD (c+5) fd' -> K (.imm mv.d) [fd']
def spRun:SpM :=fun as K => ∃(fd:List PyData) (c:Nat) (h:Hall) (many:Nat), as=[.own fd, .imm h.d, .imm (.int (many:Int))] /\ h.Ok /\ FeedD c fd /\ c<700000000 /\ many ≤ 41 /\ ∀(R:List Mv) (fd':List PyData), R.length=many -> (∀mv ∈ R, mv.Ok2 h) -> FeedD (c+300) fd' -> K (.imm (runD R)) [fd']
theorem shp_refl{d:PyData}(h:Shp k d):PyData.eqv d d=true :=PySem.SeqAt.eqv_refl d h.cl
theorem stD_shp(l:List Nat)(t:Nat):Shp 2 (stD l t) :=shp_tuple (k :=1) fun d hd => by
 simp at hd;rcases hd with rfl|rfl
 .exact lnD_shp l
 .exact(shp_int _).mono (by decide)
theorem stands_shp(S:List (List Nat × Nat)):Shp 3 (.tuple (S.map fun p => stD p.1 p.2)) :=shp_tuple (k :=2) fun d hd => by
 obtain⟨p, _, rfl⟩ :=List.mem_map.mp hd;exact stD_shp _ _
theorem Cn.shp(c:Cn):Shp 1 c.d :=shp_tuple (k :=0) fun d hd => by
 simp at hd;rcases hd with rfl|rfl|rfl|rfl<;>exact shp_int _
theorem Fo.shp(f:Fo):Shp 1 f.d :=by
 cases f with
 |none => exact shp_none.mono (by decide)
 | some p =>
  exact shp_tuple (k :=0) fun d hd => by
   simp at hd;rcases hd with rfl|rfl
   .exact shp_int _
   .exact shp_bool _
theorem stays_shp(F:List Fo):Shp 2 (.tuple (F.map Fo.d)) :=shp_tuple (k :=1) fun d hd => by
 obtain⟨f, _, rfl⟩ :=List.mem_map.mp hd;exact f.shp
end K
namespace L2
open PySem PySem.Spec PyProof.Rows
variable{w:World}{kvs:List (List Key × V)}{Q:Value -> Shared -> Prop}
section
variable {κ:Type} [DecidableEq κ]
def valV(kvs:List (κ × V))(k:κ):Option V :=(kvs.find? fun kv => decide (kv.1=k)).map (·.2)
theorem valV_pos{p:κ × V}{r:List (κ × V)}{k:κ}(e:p.1=k):valV (p::r) k=some p.2 :=by simp[valV, List.find?_cons, e]
theorem valV_neg{p:κ × V}{r:List (κ × V)}{k:κ}(e:¬p.1=k):valV (p::r) k=valV r k :=by simp[valV, List.find?_cons, e]
theorem KV.val{kvs:List (κ × V)}{vs:List (κ × Value)}(r:KV kvs vs)(k:κ):RelO (valV kvs k) (valueAt vs k) :=by
 unfold KV at r
 induction r with
 |nil => exact True.intro
 | @cons p q ps qs h t ih =>
  obtain⟨h1, h2⟩ :=h
  by_cases e:p.1=k
  .have e':q.1=k :=h1.symm.trans e;have b:valueAt (q::qs) k=some q.2 :=by simp[valueAt, List.find?_cons, e']
   rw[valV_pos e, b];exact h2
  .have e':¬q.1=k :=fun z => e (h1.trans z);have b:valueAt (q::qs) k=valueAt qs k :=by simp[valueAt, List.find?_cons, e']
   rw[valV_neg e, b];exact ih
end
theorem kV_is{P:Program}{k:Key}{u:Value}(r:RelV (kV k) u):(mixKind P w).is k u=true :=by
 cases k with
 |inl i => obtain⟨t, e⟩ :=(show ∃t, u=Value.int i t from r);subst e;exact mixKind_int P w i t
 |inr x => obtain⟨t, e⟩ :=(show ∃t, u=Value.str x t from r);subst e;exact mixKind_str P w x t
theorem items_are{P:Program}{w:World}:∀{ks:List Key}{us:List Value}, Vals (ks.map kV) us -> ItemsAre (mixKind P w) ks us
 |[], _, r => by rw[List.map_nil]at r;cases r;exact .nil
 |k::ks, _, r => by
  rw[List.map_cons]at r
  cases r with
  |cons h t => exact .cons (kV_is h) (items_are t)
abbrev KT(H:Hp):List (List Key × V) -> List (List Key × Addr × Value) -> Prop :=Paired fun p q => p.1=q.1 /\ H q.2.1=some (.tup (p.1.map kV)) /\ RelV p.2 q.2.2
theorem KT.val{H:Hp}{xs:List (List Key × Addr × Value)}(r:KT H kvs xs)(k:List Key):RelO (valV kvs k) ((atKey xs k).map (·.2)) :=by
 induction r with
 |nil => exact True.intro
 | @cons p q ps qs h t ih =>
  obtain⟨h1, _, h2⟩ :=h
  by_cases e:p.1=k
  .have e':q.1=k :=h1.symm.trans e;have b:atKey (q::qs) k=some q.2 :=by simp[atKey, List.find?_cons, e']
   rw[valV_pos e, b];exact h2
  .have e':¬q.1=k :=fun z => e (h1.trans z);have b:atKey (q::qs) k=atKey qs k :=by simp[atKey, List.find?_cons, e']
   rw[valV_neg e, b];exact ih
section
variable {P:Program}{w:World}{H:Hp}{h:Heap}{a:Addr}
theorem rd_of{u:HO}(ok:HOk P w H h)(e:Rd H a u):ObjOk P w H h a u :=e.ok ok
theorem dk_rd{kvs:List (Key × V)}(ok:HOk P w H h)(e:Rd H a (.dK kvs)):kvs.length ≤ sizeLine /\ (a==sysModules)=false /\ ∃vs, KV kvs vs /\ h.DictOf (mixKind P w) a vs :=
 show ObjOk P w H h a (.dK kvs)from rd_of ok e
theorem key_of{ks:List Key}(ok:HOk P w H h)(e:H a=some (.tup (ks.map kV))):(tupleKind (mixKind P w)).is h ks a :=by
 obtain⟨_, its, r, o, h1, h2, hd, n, h3⟩ :=(show ObjOk P w H h a (.tup (ks.map kV))from ok a _ e);exact⟨o, its.toArray, n, h1, h2, h3, by simpa using items_are r⟩
theorem dt_rd(ok:HOk P w H h)(e:Rd H a (.dT kvs)):kvs.length ≤ sizeLine /\ (a==sysModules)=false /\
  ∃xs, KT H kvs xs /\ h.DictOfH (tupleKind (mixKind P w)) a xs :=by
 obtain⟨z, y, xs, r, o, es, ep, h1, h2, h3, h4, h5⟩ :=(show ObjOk P w H h a (.dT kvs)from rd_of ok e);refine⟨z, y, xs, r, o, es, ep, h1, h2, h3, h4, fun x hx => ?_, h5⟩;have all:∀{l:List (List Key × V)}{m:List (List Key × Addr × Value)}, KT H l m -> ∀x ∈ m, (tupleKind (mixKind P w)).is h x.1 x.2.1 :=by
  intro l m q
  induction q with
  |nil => intro x hx;exact nomatch hx
  | @cons p q ps qs hq t ih =>
   intro x hx;rcases List.mem_cons.mp hx with e|hx
   .subst e;exact key_of ok (by rw[<- hq.1];exact hq.2.1)
   .exact ih x hx
 exact all r x hx
end
def DGet(H:Hp)(a:Addr)(y:V)(r:Option V):Prop :=
 (∃kvs k, Rd H a (.dK kvs) /\ y=kV k /\ r=valV kvs k) \/ ∃kvs k b, Rd H a (.dT kvs) /\ y = .ref b /\ H b=some (.tup (k.map kV)) /\ r=valV kvs k
section
variable {X:Cx}{pins:List (Addr × Obj)}{σ:St}{H:Hp}{s:Shared}{a:Addr}{y v:V}{u r:Value}{o:Option V}{A:Around}{E:Value -> Shared -> Prop}
theorem Inv.big(I:Inv X pins σ H s):sysModules<s.heap.objs.size :=by
 have h:mainGlobals<s.heap.objs.size :=(I.mod.glob.keeps I.bk).lt;exact Nat.lt_trans (by decide) h
theorem d_getItem(hu:A.units+1<cLine)(I:Inv X pins σ H s)(g:DGet H a y (some v))(ry:RelV y u)(h:∀w' s', Inv X pins σ H s' -> RelV v w' -> Q w' s') :
  wpAny (model X.prog X.w) A (getItem (.ref a) u) Q E s :=by
 rcases g with⟨kvs, k, e, ey, l⟩|⟨kvs, k, b, e, ey, eb, l⟩
 .subst ey;obtain⟨z, hd, vs, rel, dd⟩ :=dk_rd I.hok e;obtain⟨w', hw, rw'⟩ :=RelO.some_of (v :=v) (o :=valueAt vs k) (by rw[l];exact rel.val k);exact wpAny_getItem_of (kV_is ry) dd.mapOf hw (h w' _ (I.tok _) rw')
 .subst ey
  cases (show u=Value.ref b from ry)
  obtain⟨z, hd, xs, rel, dd⟩ :=dt_rd I.hok e;obtain⟨w', hw, rw'⟩ :=RelO.some_of (v :=v) (o :=(atKey xs k).map (·.2)) (by rw[l];exact rel.val k);obtain⟨p, hp, hp2⟩ :=Option.map_eq_some_iff.mp hw;refine wpAny_getItem_heap (tupleKind_room_in1 hu) (key_of I.hok eb) dd hp ?_;rw[hp2];exact h w' _ (I.tok _) rw'
theorem d_write{h':Heap}{t':Nat}{ob:HO}(I:Inv X pins σ H s)(mu:Mut (H a))(hs:Heap.SameBut a s.heap h')(he:∃q, h'.get? a=some q)(new:ObjOk X.prog X.w (upd H a ob) h' a ob) :
  Inv X pins σ (upd H a ob) {s with heap :=h', toks :=t' } :=
 I.write (x :=a) (e :=a) mu (.inl rfl) (fun b q hb z => (hs.2 b hb).trans z) he new
end
def NoSl(i:Expr):Prop :=∀ov iv, subscripted i false ov iv=operate [ov, iv] (getItem ov iv)
theorem subD_of{prog:Program}{A:Around}{E:Value -> Shared -> Prop}{s:Shared}{env:Env}{value slice:Expr}{pos:Pos}{T id:String}
  (hl:typeLookup (.type T) "__getitem__" = pure (some (.builtin id))) (hs:NoSl slice)
  (h:wpAny (model prog w) A (eval value env) (fun o s₁ => wpAny (model prog w) A (eval slice env) (fun i s₂ => s₂.TypeIs o T /\ wpAny (model prog w) A (getItem o i) Q E s₂) E s₁) E s) :
  wpAny (model prog w) A (eval (.Subscript value slice pos) env) Q E s :=by
 refine Subscript_ (wpAny_mono h (fun o s₁ h₁ => wpAny_mono h₁ (fun i s₂ h₂ => ?_) fun _ _ x => x) fun _ _ x => x);obtain⟨hT, h₂⟩ :=h₂;unfold subscriptTail;refine wpAny_bind ?_;rw[getitemInPython_of_ne hT.not_modules];refine wpAny_bind (wpAny_specialOf hT hl ?_);have fin:wpAny (model prog w) A (subscripted slice false o i) (fun r s₃ => wpAny (model prog w) A (letTemporaryGo value o r >>= fun _ => pure r) Q E s₃) E s₂ :=by
  rw[hs o i];exact wpAny_operating (wpAny_mono h₂ (fun r s₃ h₃ => wpAny_bind (wpAny_letTemporaryGo (wpAny_pure h₃))) fun _ _ x => x)
 first
  |exact wpAny_pure (wpAny_bind fin)
  |exact wpAny_bind (wpAny_pure (wpAny_bind fin))
  |exact wpAny_bind fin
theorem dk_empty{P:Program}{H:Hp}(h:Heap)(hb:sysModules<h.objs.size):ObjOk P w H (h.push {cls :=.type "dict", data :=.dict #[]}) h.objs.size (.dK []) :=
 ⟨Nat.zero_le _, beq_eq_false_iff_ne.mpr (Ne.symm (Nat.ne_of_lt hb)), [], .nil, Heap.DictOf.new h⟩
def lfD:PyData -> PyData
 | .list ds => .dict [(.none, .list ds)]
 | .dict ds => .dict [(.none, .dict ds)]
 |d => d
section
variable {X:Cx}{o i e:Expr}{wo wi we:WE}{pos pos':Pos}
def lfKV(kvs:List (PyData × PyData)):List (PyData × PyData) :=kvs.map fun kv => (kv.1, lfD kv.2)
end
end L2
namespace L2
open PySem PySem.Spec PyProof.Rows
variable{a:Addr}{k:PyData}{kvs:List (PyData × PyData)}{K:Kd}{xs:List (PyData × Addr × Value)}{es:List (Key × V)}
def isFz:HO -> Bool
 | .lst _ => true
 | .dK _ => true
 | .ext _ => true
 |_ => false
section
variable {X:Cx}{pins:List (Addr × Obj)}{σ:St}{H:Hp}{s:Shared}
theorem Inv.freezeU{u:HO}(I:Inv X pins σ H s)(h:H a=some u)(hu:isFz u=true):∃o, Inv X pins σ (upd H a (.frz o u)) s :=by
 have ok :=I.hok a u h;obtain⟨o, e⟩:∃o, s.heap.get? a=some o :=by
  cases u with
  |lst xs => obtain⟨_, its, n, _, e⟩ :=ok;exact⟨_, e⟩
  |dK kvs => obtain⟨_, _, vs, _, o, _, _, e, _⟩ :=ok;exact⟨_, e⟩
  |ext φ => exact ok.2.1
  |_ => cases hu
 have nt:∀{b:Addr}{v:HO}, H b=some v -> v ≠ u -> b ≠ a :=fun q z => ne_of q h z;refine⟨o, I.un (h' :=s.heap) (t' :=s.toks) ⟨fun b ob q _ _ _ => q, fun b ob q _ _ _ => ⟨ob.slots, q⟩, fun b ob q z _ => ?_, fun b ob q _ => ⟨ob, q⟩, fun b ys q => ?_, fun b ob v q => ?_, fun b ps q => ⟨#[], ?_⟩⟩ fun b ob q => ?_⟩
 .rw[upd_ne (Ne.symm (ne_of_none h z))];exact z
 .rw[upd_ne (nt q (by intro z;subst z;cases hu))];exact q
 .rw[upd_ne (nt q (by intro z;subst z;cases hu))];exact q
 .rw[upd_ne (nt q (by intro z;subst z;cases hu)), q];simp
 .have stay:∀{c:Addr}{v:HO}, ObjOk X.prog X.w H s.heap c v -> ObjOk X.prog X.w (upd H a (.frz o u)) s.heap c v :=fun x => x.stay (fun _ _ _ z => z) (fun c z => by rw[upd_ne (nt z (by intro z;subst z;cases hu))];exact z) fun c ys z => by rw[upd_ne (nt z (by intro z;subst z;cases hu))];exact z
  by_cases hb:b=a
  .subst hb;rw[upd_same]at q;cases q;exact⟨e, stay ok⟩
  .rw[upd_ne hb]at q;exact stay (I.hok b ob q)
end
section
variable {X:Cx}{st:Stmt}{w:WS}
theorem lf_leaf(d:PyData):leafD (lfD d)=some d :=by cases d<;>rfl
theorem fzKK{K:Kd}{H:Hp}{τ:List (List Nat × Addr)}{p:List Nat}:∀{kvs:List (PyData × PyData)}{i:Nat}{es:List (Key × V)}, TAtK K H τ p i (lfKV kvs) es -> DenKK K H kvs es
 |[], _, _, h => by simpa only[lfKV, List.map_nil, TAtK, DenKK]using h
 |(k, d)::r, i, es, h => by
  simp only[lfKV, List.map_cons, TAtK]at h;obtain⟨kk, v, vs, rfl, g0, g1, g2⟩ :=h;simp only[DenKK];exact⟨kk, v, vs, rfl, g0, leaf_den g1 (lf_leaf d), fzKK g2⟩
end
noncomputable instance instDecPyData:DecidableEq PyData :=fun a b => Classical.propDecidable (a=b)
mutual
def drawsD:PyData -> Nat
 | .int _ => 1
 | .str _ => 1
 | .tuple ds => drawsA ds+1
 |_ => 0
def drawsA:List PyData -> Nat
 |[] => 0
 |d::ds => drawsD d+drawsA ds
end
def kyD(d:PyData):Bool :=(match d with| .tuple _ => true|_ => false)&&(hkD d&&(d.canLay0&&decide (d.depth ≤ 7)))
theorem ky_tup{d:PyData}(h:kyD d=true):∃ds, d = .tuple ds /\ hkA ds=true /\ d.canLay0=true /\ d.depth ≤ 7 :=by
 unfold kyD at h;rw[Bool.and_eq_true, Bool.and_eq_true, Bool.and_eq_true, decide_eq_true_eq]at h
 cases d with
 |tuple ds => exact⟨ds, rfl, by simpa only[hkD]using h.2.1, h.2.2.1, h.2.2.2⟩
 |_ => simp at h
section
variable {w:World}{prog:Program}
theorem hashA_app(w:World):∀a b:List PyData, hashA w (a ++ b)=hashA w a ++ hashA w b
 |[], b => by simp[hashA]
 |d::a, b => by simp only[List.cons_append, hashA, hashA_app w a b]
theorem drawsA_app:∀a b:List PyData, drawsA (a ++ b)=drawsA a+drawsA b
 |[], b => by simp[drawsA]
 |d::a, b => by simp only[List.cons_append, drawsA, drawsA_app a b];omega
theorem hkA_mem:∀{ds:List PyData}{d:PyData}, hkA ds=true -> d ∈ ds -> hkD d=true
 |x::ds, d, h, hm => by
  simp only[hkA, Bool.and_eq_true]at h;obtain rfl|hm :=List.mem_cons.mp hm
  .exact h.1
  .exact hkA_mem h.2 hm
theorem depthAll_mem{ds:List PyData}{d:PyData}(h:d ∈ ds):d.depth ≤ PyData.depthAll ds :=by
 induction ds with
 |nil => cases h
 |cons x ds ih =>
  show _ ≤ max x.depth (PyData.depthAll ds);obtain rfl|h :=List.mem_cons.mp h
  .omega
  .have :=ih h;omega
mutual
theorem hash_reads:∀(d:PyData) {A:Around}{E:Value -> Shared -> Prop}{s:Shared}{v:Value}{as:List Addr}{Q:Int -> Shared -> Prop}, hkD d=true -> Reads s.heap v d as -> A.units+d.depth<cLine -> Q (hashD w d) {s with toks :=s.toks+drawsD d} -> wpAny (model prog w) A (pyHash v) Q E s
 | .int i, A, E, s, v, as, Q, _, r, _, h => by
  cases r;exact wpAny_pyHash_int (by simpa only[hashD, drawsD]using h)
 | .str x, A, E, s, v, as, Q, _, r, _, h => by
  cases r;exact wpAny_pyHash_str (by simpa only[hashD, drawsD]using h)
 | .tuple ds, A, E, s, v, as, Q, hk, r, hu, h => by
  cases r with
  | @tuple a o vs n _ _ ho hc hd hr =>
   have hT:s.TypeIs (.ref a) "tuple" :=⟨o, ho, hc⟩;have hu0:A.units<cLine :=Nat.lt_of_le_of_lt (Nat.le_add_right _ _) hu;have sp:∀{P:Option Value -> Shared -> Prop}, P (some (.builtin "tuple.__hash__")) s -> wpAny (model prog w) A (specialOf (.ref a) "__hash__") P E s :=fun p => wpAny_specialOf hT F.slot_tuple_hash.lookup p;simp only[hashD, drawsD]at h;refine wpAny_bind (m :=cRoomFor "hash" [.ref a]) (wpAny_cRoomFor_or (.inr hu0) (wpAny_bind (m :=specialOf _ _) (sp ?_)));rw[if_neg (show ¬(some (Value.builtin "tuple.__hash__")==some Value.none)=true by rw[beq_builtin_none];decide)];refine wpAny_bind (m :=specialOf _ _) (sp (wpAny_bind (m :=callSpecialIfBoundUnlessNone? (.ref a) "__hash__" _) ?_));refine wpAny_callSpecialIfBoundUnlessNone?_slot hT F.slot_tuple_hash (wpAny_call_entry F.slot_tuple_hash hT F.entry_tuple_hash (wpAny_bind (m :=Builtin.Tuple.tupleItemsOf (.ref a)) (wpAny_tupleItemsOf ho hd ?_)) (F.args_tuple_hash_1 _));refine wpAny_bind ?_;rw[<- Array.forIn_toList];refine wpAny_forIn_list _
    (fun rest (b:Array Int) s' => ∃done left bs, ds=done ++ left /\ ReadsAll s.heap rest left bs /\ b.toList=hashA w done /\ s'={s with toks :=s.toks+drawsA done})
    _ ?_ ?_ _ _ ⟨[], ds, _, rfl, hr, by simp[hashA], by simp[drawsA]⟩
   .rintro x rest b s' ⟨done, left, bs, hds, hl, hb, rfl⟩
    cases hl with
    | @cons _ _ d ds' as1 bs1 r1 r2 =>
     have hm:d ∈ ds :=by rw[hds];simp
     refine wpAny_bind (hash_mem ds d hm (hkA_mem (by simpa only[hkD]using hk) hm) (s :={s with toks :=s.toks+drawsA done}) r1 ?_ ?_)
     .have :=depthAll_mem hm;have e:(PyData.tuple ds).depth=PyData.depthAll ds+1 :=rfl;show A.units+1+d.depth<cLine;omega
     .have fin:∃done' left' bs', ds=done' ++ left' /\ ReadsAll s.heap rest left' bs' /\ (b.push (hashD w d)).toList=hashA w done' /\ ({s with toks :=s.toks+drawsA done+drawsD d}:Shared)={s with toks :=s.toks+drawsA done' } :=by
       refine⟨done ++ [d], ds', _, by rw[hds];simp, r2, ?_, ?_⟩
       .rw[Array.toList_push, hb, hashA_app];simp[hashA]
       .rw[drawsA_app, Nat.add_assoc];simp[drawsA]
      first
       |exact wpAny_pure fin
       |exact wpAny_bind (wpAny_pure (wpAny_pure fin))
   .rintro b s' ⟨done, left, bs, hds, hl, hb, rfl⟩;cases hl;rw[List.append_nil]at hds;subst hds;change wpAny _ _ (retInt (Builtin.Tuple.tupleHashOf (b.toList:List Int))) _ _ _;rw[hb];refine wpAny_ret_mkInt ?_;show wpAny _ _ (if (decide (-(2:Int)^63 ≤ Builtin.Tuple.tupleHashOf (hashA w ds))&&decide (Builtin.Tuple.tupleHashOf (hashA w ds)<2^63))=true then _ else _) Q E _;unfold reduceHash at h
    by_cases hr:(decide (-(2:Int)^63 ≤ Builtin.Tuple.tupleHashOf (hashA w ds))&&decide (Builtin.Tuple.tupleHashOf (hashA w ds)<2^63))=true
    .rw[if_pos hr];rw[if_pos hr]at h;refine wpAny_pure ?_;simpa[Nat.add_assoc]using h
    .rw[if_neg hr];rw[if_neg hr]at h;refine wpAny_bind (m :=rule _) (wpAny_rule (wpAny_pure ?_));simpa[Nat.add_assoc]using h
 | .none, _, _, _, _, _, _, hk, _, _, _ => by simp only[hkD]at hk;cases hk
 | .bool _, _, _, _, _, _, _, hk, _, _, _ => by simp only[hkD]at hk;cases hk
 | .list _, _, _, _, _, _, _, hk, _, _, _ => by simp only[hkD]at hk;cases hk
 | .dict _, _, _, _, _, _, _, hk, _, _, _ => by simp only[hkD]at hk;cases hk
theorem hash_mem:∀(ds:List PyData) (d:PyData), d ∈ ds -> ∀{A:Around}{E:Value -> Shared -> Prop}{s:Shared}{v:Value}{as:List Addr}{Q:Int -> Shared -> Prop}, hkD d=true -> Reads s.heap v d as -> A.units+d.depth<cLine -> Q (hashD w d) {s with toks :=s.toks+drawsD d} -> wpAny (model prog w) A (pyHash v) Q E s
 |x::ds, d, hm => by
  intro hk r hu h;rcases List.mem_cons.mp hm with e|hm'
  .rw[e]at hk r hu h;exact hash_reads x hk r hu h
  .exact hash_mem ds d hm' hk r hu h
end
mutual
theorem eqv_hk:∀(a b:PyData), hkD a=true -> hkD b=true -> PyData.eqv a b=decide (a=b)
 | .int i, b, _, hb => by
  cases b with
  |int j =>
   show decide (i=j)=_
   by_cases h:i=j
   .subst h;rw[decide_eq_true rfl, decide_eq_true rfl]
   .rw[decide_eq_false h, decide_eq_false (fun z => h (by cases z;rfl))]
  |str _ => rw[decide_eq_false (fun z => by cases z)];rfl
  |tuple _ => rw[decide_eq_false (fun z => by cases z)];rfl
  |none => simp only[hkD]at hb;cases hb
  |bool _ => simp only[hkD]at hb;cases hb
  |list _ => simp only[hkD]at hb;cases hb
  |dict _ => simp only[hkD]at hb;cases hb
 | .str i, b, _, hb => by
  cases b with
  |str j =>
   show decide (i=j)=_
   by_cases h:i=j
   .subst h;rw[decide_eq_true rfl, decide_eq_true rfl]
   .rw[decide_eq_false h, decide_eq_false (fun z => h (by cases z;rfl))]
  |int _ => rw[decide_eq_false (fun z => by cases z)];rfl
  |tuple _ => rw[decide_eq_false (fun z => by cases z)];rfl
  |none => simp only[hkD]at hb;cases hb
  |bool _ => simp only[hkD]at hb;cases hb
  |list _ => simp only[hkD]at hb;cases hb
  |dict _ => simp only[hkD]at hb;cases hb
 | .tuple ds, b, ha, hb => by
  cases b with
  |tuple es =>
   simp only[PyData.eqv];rw[eqvA_hk ds es (by simpa only[hkD]using ha) (by simpa only[hkD]using hb)]
   by_cases h:ds=es
   .subst h;rw[decide_eq_true rfl, decide_eq_true rfl]
   .rw[decide_eq_false h, decide_eq_false (fun z => h (by cases z;rfl))]
  |int _ => rw[decide_eq_false (fun z => by cases z)];rfl
  |str _ => rw[decide_eq_false (fun z => by cases z)];rfl
  |none => simp only[hkD]at hb;cases hb
  |bool _ => simp only[hkD]at hb;cases hb
  |list _ => simp only[hkD]at hb;cases hb
  |dict _ => simp only[hkD]at hb;cases hb
 | .none, _, ha, _ => by simp only[hkD]at ha;cases ha
 | .bool _, _, ha, _ => by simp only[hkD]at ha;cases ha
 | .list _, _, ha, _ => by simp only[hkD]at ha;cases ha
 | .dict _, _, ha, _ => by simp only[hkD]at ha;cases ha
theorem eqvA_hk:∀(a b:List PyData), hkA a=true -> hkA b=true -> PyData.eqvAll a b=decide (a=b)
 |[], [], _, _ => by rw[decide_eq_true rfl];rfl
 |[], _::_, _, _ => by rw[decide_eq_false (fun z => by cases z)];rfl
 |_::_, [], _, _ => by rw[decide_eq_false (fun z => by cases z)];rfl
 | x::a, y::b, ha, hb => by
  simp only[hkA, Bool.and_eq_true]at ha hb;simp only[PyData.eqvAll];rw[eqv_hk x y ha.1 hb.1, eqvA_hk a b ha.2 hb.2]
  by_cases h1:x=y
  .by_cases h2:a=b
   .subst h1 h2;rw[decide_eq_true rfl, decide_eq_true rfl, decide_eq_true rfl];rfl
   .rw[decide_eq_false h2, Bool.and_false, decide_eq_false (fun z => h2 (by cases z;rfl))]
  .rw[decide_eq_false h1, Bool.false_and, decide_eq_false (fun z => h1 (by cases z;rfl))]
end
mutual
theorem Reads.hkeep{h h':Heap}{d:Addr}{o:Obj}{es:Array DictEntry}{ep:Nat}(ho:h.get? d=some o)(hd:o.data = .dict es ep)(hs:Heap.SameBut d h h'):∀(k:PyData) {v:Value}{as:List Addr}, hkD k=true -> Reads h v k as -> Reads h' v k as
 | .int _, _, _, _, r => by cases r;exact .int _ _
 | .str _, _, _, _, r => by cases r;exact .str _ _
 | .tuple ds, _, _, hk, r => by
  cases r with
  | @tuple a o' vs n _ _ h1 h2 h3 h4 =>
   have hne:a ≠ d :=by
    rintro rfl;rw[ho]at h1;cases h1;rw[hd]at h3;cases h3
   exact .tuple ((hs.2 a hne).trans h1) h2 h3 (ReadsAll.hkeep ho hd hs ds (by simpa only[hkD]using hk) h4)
 | .none, _, _, hk, _ => by simp only[hkD]at hk;cases hk
 | .bool _, _, _, hk, _ => by simp only[hkD]at hk;cases hk
 | .list _, _, _, hk, _ => by simp only[hkD]at hk;cases hk
 | .dict _, _, _, hk, _ => by simp only[hkD]at hk;cases hk
theorem ReadsAll.hkeep{h h':Heap}{d:Addr}{o:Obj}{es:Array DictEntry}{ep:Nat}(ho:h.get? d=some o)(hd:o.data = .dict es ep)(hs:Heap.SameBut d h h'):∀(ks:List PyData) {vs:List Value}{as:List Addr}, hkA ks=true -> ReadsAll h vs ks as -> ReadsAll h' vs ks as
 |[], _, _, _, r => by cases r;exact .nil
 |k::ks, _, _, hk, r => by
  simp only[hkA, Bool.and_eq_true]at hk
  cases r with
  |cons r1 r2 => exact .cons (Reads.hkeep ho hd hs k hk.1 r1) (ReadsAll.hkeep ho hd hs ks hk.2 r2)
end
mutual
theorem quiet_reads:∀(d:PyData) {A:Around}{E:Value -> Shared -> Prop}{s:Shared}{v:Value}{as:List Addr}{n:Nat}{Q:Bool -> Shared -> Prop}, hkD d=true -> Reads s.heap v d as -> d.depth ≤ n -> Q true s -> wpAny (model prog w) A (eqIsQuiet n v) Q E s
 | .int _, _, _, _, _, _, _, _, _, r, _, h => by cases r;rw[eqIsQuiet_byValue _ rfl];exact wpAny_pure h
 | .str _, _, _, _, _, _, _, _, _, r, _, h => by cases r;rw[eqIsQuiet_byValue _ rfl];exact wpAny_pure h
 | .tuple ds, A, E, s, v, as, n, Q, hk, r, hn, h => by
  cases r with
  | @tuple a o vs nn _ _ ho hc hd hr =>
   have hT:s.TypeIs (.ref a) "tuple" :=⟨o, ho, hc⟩;have e:(PyData.tuple ds).depth=PyData.depthAll ds+1 :=rfl
   cases n with
   |zero => omega
   | succ n =>
    unfold eqIsQuiet;refine wpAny_bind (m :=specialOf _ _) (wpAny_specialOf hT F.slot_tuple_eq.lookup (wpAny_bind (m :=isInstance (.ref a) (.type "tuple")) (wpAny_isInstance hT isSubtype_tuple_tuple ?_)));simp only[if_false, Bool.false_eq_true, Bool.not_true];refine wpAny_bind (m :=seqItems? (.ref a)) (wpAny_seqItems ho hd ?_);refine wpAny_bind ?_;show wpAny _ _ (forIn vs _ _) _ _ s;rw[<- Array.forIn_toList];refine wpAny_forIn_list _ (fun rest r s' => r.1=none /\ s'=s /\ ∃left bs, (∀d ∈ left, d ∈ ds) /\ ReadsAll s.heap rest left bs) _ ?_ ?_ _ _ ⟨rfl, rfl, ds, _, fun _ h => h, hr⟩
    .rintro x rest r s' ⟨hr', rfl, left, bs, hsub, hl⟩
     cases hl with
     | @cons _ _ d ds' as1 bs1 r1 r2 =>
      have hm:d ∈ ds :=hsub d List.mem_cons_self;refine wpAny_bind (quiet_mem ds d hm (hkA_mem (by simpa only[hkD]using hk) hm) r1 (by have :=depthAll_mem hm;omega) ?_);simp only[if_false, Bool.false_eq_true, Bool.not_true];exact wpAny_pure ⟨rfl, rfl, ds', _, fun z hz => hsub z (List.mem_cons_of_mem _ hz), r2⟩
    .rintro⟨r1, r2⟩ s' ⟨hr', rfl, _⟩;simp only at hr';subst hr';exact wpAny_pure h
 | .none, _, _, _, _, _, _, _, hk, _, _, _ => by simp only[hkD]at hk;cases hk
 | .bool _, _, _, _, _, _, _, _, hk, _, _, _ => by simp only[hkD]at hk;cases hk
 | .list _, _, _, _, _, _, _, _, hk, _, _, _ => by simp only[hkD]at hk;cases hk
 | .dict _, _, _, _, _, _, _, _, hk, _, _, _ => by simp only[hkD]at hk;cases hk
theorem quiet_mem:∀(ds:List PyData) (d:PyData), d ∈ ds -> ∀{A:Around}{E:Value -> Shared -> Prop}{s:Shared}{v:Value}{as:List Addr}{n:Nat}{Q:Bool -> Shared -> Prop}, hkD d=true -> Reads s.heap v d as -> d.depth ≤ n -> Q true s -> wpAny (model prog w) A (eqIsQuiet n v) Q E s
 |x::ds, d, hm => by
  intro hk r hu h;rcases List.mem_cons.mp hm with e|hm'
  .rw[e]at hk r hu;exact quiet_reads x hk r hu h
  .exact quiet_mem ds d hm' hk r hu h
end
theorem ky_hk{d:PyData}(h:kyD d=true):hkD d=true :=by
 obtain⟨ds, rfl, h1, _⟩ :=ky_tup h;simpa only[hkD]using h1
noncomputable def dkind (prog:Program) (w:World):HeapKind prog w PyData where
 is :=fun h d a => (∃as, Reads h (.ref a) d as) /\ kyD d=true
 hash :=hashD w
 draws :=drawsD
 room :=fun A => A.units+20<cLine
 inj :=fun {h a x y} ⟨⟨as, r1⟩, k1⟩ ⟨⟨bs, r2⟩, k2⟩ => by
  obtain⟨ds, rfl, _, hl, _⟩ :=ky_tup k1;exact SeqAt.Reads.unique _ _ _ _ _ hl r1 r2
 keeps :=fun⟨⟨as, r⟩, k⟩ ho hd hs => ⟨⟨as, Reads.hkeep ho hd hs _ (ky_hk k) r⟩, k⟩
 pyHash :=fun {A E s k a Q} hu ⟨⟨as, r⟩, hk⟩ h => by
  obtain⟨ds, e, _, _, hd⟩ :=ky_tup hk;exact hash_reads k (ky_hk hk) r (by omega) h
 eqBool :=fun {A E s x y a b Q} hu ⟨⟨as, r1⟩, k1⟩ ⟨⟨bs, r2⟩, k2⟩ h => by
  obtain⟨ds, e1, _, l1, d1⟩ :=ky_tup k1;obtain⟨es, e2, _, l2, d2⟩ :=ky_tup k2;refine SeqAt.eqAt_reads x y A s _ _ _ _ r1 r2 l1 l2 (by omega) prog w E Q ?_;rw[eqv_hk x y (ky_hk k1) (ky_hk k2)];exact h
 quiet :=fun {A E s k a Q} ⟨⟨as, r⟩, hk⟩ h => by
  obtain⟨ds, e, _, _, hd⟩ :=ky_tup hk;exact quiet_reads k (ky_hk hk) r (by omega) h
end
def lookP(k:PyData):List (PyData × PyData) -> Option PyData
 |[] => none
 |(k', d)::r => if PyData.eqv k' k=true then some d else lookP k r
def putP(k d:PyData):List (PyData × PyData) -> List (PyData × PyData)
 |[] => [(k, d)]
 |(k', d')::r => if PyData.eqv k' k=true then(k', d)::r else(k', d')::putP k d r
def kyA(kvs:List (PyData × PyData)):Bool :=kvs.all fun kv => kyD kv.1
def kdD:PyData -> Bool
 | .int _ => true
 | .str _ => true
 |_ => false
def oneK(kvs:List (PyData × PyData))(k:PyData):Bool :=(isKd kvs&&kdD k)||(kyA kvs&&kyD k)
theorem kdD_key(h:kdD k=true):∃kk:Key, k=keyD kk :=by
 cases k with
 |int i => exact⟨.inl i, rfl⟩
 |str x => exact⟨.inr x, rfl⟩
 |_ => cases h
theorem eqv_key(a b:Key):PyData.eqv (keyD a) (keyD b)=decide (a=b) :=by
 cases a<;>cases b<;>simp[keyD, PyData.eqv, Bool.beq_eq_decide_eq]
def IsDc(K:Kd)(H:Hp)(a:Addr)(kvs:List (PyData × PyData)):Prop :=
 (∃es, Rd H a (.dK es) /\ DenKK K H kvs es) \/ ∃es, Rd H a (dX a es) /\ isKd kvs=false /\ (kvs.map (·.1)).Nodup /\ DenKV K H kvs es
section
variable {K:Kd}{H H':Hp}
theorem fzKV{τ:List (List Nat × Addr)}{p:List Nat}:∀{kvs:List (PyData × PyData)}{i:Nat}{es:List (Int × V × V)}, TAtD K H τ p i (lfKV kvs) es -> DenKV K H kvs es
 |[], _, _, h => by simpa only[lfKV, List.map_nil, TAtD, DenKV]using h
 |(k, d)::r, i, es, h => by
  simp only[lfKV, List.map_cons, TAtD]at h;obtain⟨u, v, vs, rfl, g0, g1, g2⟩ :=h;simp only[DenKV];exact⟨u, v, vs, rfl, g0, leaf_den g1 (lf_leaf d), fzKV g2⟩
theorem lfKV_keys(kvs:List (PyData × PyData)):(lfKV kvs).map (·.1)=kvs.map (·.1) :=by
 unfold lfKV;rw[List.map_map];rfl
theorem isKd_lf(kvs:List (PyData × PyData)):isKd (lfKV kvs)=isKd kvs :=by
 unfold isKd lfKV;rw[List.all_map];rfl
theorem not_fz(h:isKd kvs=true \/ kyA kvs=true):fzOf kvs=none /\ excC kvs=none :=by
 cases kvs with
 |nil => exact⟨rfl, rfl⟩
 | cons x r =>
  obtain⟨k, d⟩ :=x
  cases k with
  |none =>
   rcases h with h|h
   .simp[isKd]at h
   .simp[kyA, kyD]at h
  |int _ => exact⟨rfl, rfl⟩
  |str _ => exact⟨rfl, rfl⟩
  |bool _ => exact⟨rfl, rfl⟩
  |list _ => exact⟨rfl, rfl⟩
  |tuple _ => exact⟨rfl, rfl⟩
  |dict _ => exact⟨rfl, rfl⟩
end
def dcM(m:MSt)(kvs:List (PyData × PyData)):R -> Prop
 | .imm (.dict es) => es=kvs
 | .at k p => p=[] /\ m.os[k]?=some [.dict (lfKV kvs)]
 |_ => False
theorem RelR.dc{K:Kx}{α:Al}{m:MSt}{σ:St}{H0 H:Hp}{r:R}{v:V}(R:Rel K α m σ H)(h:RelR K α H0 H r v)(e:dcM m kvs r)(hk:isKd kvs=true \/ kyA kvs=true):∃a, v = .ref a /\ IsDc K H a kvs :=by
 obtain⟨n1, n2⟩ :=not_fz hk
 cases r with
 | imm d =>
  cases d with
  |dict es =>
   have e':es=kvs :=e;subst e';have h':Den K H (.dict es) v :=h;simp only[Den]at h';obtain⟨a, rfl, h'⟩ :=h';refine⟨a, rfl, ?_⟩;rcases h' with⟨xs, ⟨o, f⟩, kk, g⟩|⟨xs, o, f, g⟩|⟨c, xs, ec, _⟩
   .exact .inr ⟨xs, .inr ⟨o, f⟩, kk.1, kk.2.1, g⟩
   .exact .inl ⟨xs, .inr ⟨o, f⟩, g⟩
   .rw[n2]at ec;cases ec
  |none => exact e.elim
  |bool _ => exact e.elim
  |int _ => exact e.elim
  |str _ => exact e.elim
  |list _ => exact e.elim
  |tuple _ => exact e.elim
 | «at» k p =>
  obtain⟨rfl, eo⟩ :=e;obtain⟨τ, a, e1, e2, rfl⟩ :=h;obtain⟨⟨t1, v0, z, g, a0, el, ev⟩, _⟩ :=R.own k _ _ e1 eo;cases z;rw[e2]at el;cases el;subst ev;refine⟨a, rfl, ?_⟩;have n3:fzOf (lfKV kvs)=none /\ excC (lfKV kvs)=none :=not_fz (by
   rcases hk with hk|hk
   .exact .inl (by rw[isKd_lf];exact hk)
   .refine .inr ?_;unfold kyA lfKV at *;rw[List.all_map];exact hk)
  simp only[TAt]at g;rcases g with⟨d, e1, _⟩|⟨_, _, b, es, e1, e3, e4, kk, g⟩|⟨_, _, b, es, e1, e3, e4, g⟩|⟨c, b, dx, C, xs, e0, _⟩
  .rw[n3.1]at e1;cases e1
  .cases e3;rw[e2]at e1;exact .inr ⟨es, .inl e4, by rw[<- isKd_lf];exact kk.1, by rw[<- lfKV_keys];exact kk.2.1, fzKV g⟩
  .cases e3;exact .inl ⟨es, .inl e4, fzKK g⟩
  .rw[n3.2]at e0;cases e0
 |obj _ => exact e.elim
 |new _ => exact e.elim
 |newT _ => exact e.elim
theorem DenKV.len{K:Kd}{H:Hp}:∀{kvs:List (PyData × PyData)}{es:List (Int × V × V)}, DenKV K H kvs es -> kvs.length=es.length
 |[], _, g => by simp only[DenKV]at g;subst g;rfl
 |(k, d)::r, _, g => by
  simp only[DenKV]at g;obtain⟨u, v, vs, rfl, _, _, g⟩ :=g;simp[DenKV.len g]
section
variable {X:Cx}{pins:List (Addr × Obj)}{σ:St}{H:Hp}{s:Shared}
abbrev PxV(K:Kd)(H:Hp):List (PyData × PyData) -> List (PyData × Addr × Value) -> Prop :=Paired fun p q => p.1=q.1 /\ Den K H p.1 (.ref q.2.1) /\ ∃v, Den K H p.2 v /\ RelV v q.2.2
theorem PxV.keys{H:Hp}(p:PxV K H kvs xs):xs.map (·.1)=kvs.map (·.1) :=by
 induction p with
 |nil => rfl
 |cons h t ih => rw[List.map_cons, List.map_cons, ih, h.1]
theorem ky_ref{u:V}(hk:kyD k=true)(h:Den K H k u):∃b, u = .ref b :=by
 obtain⟨ds, rfl, _⟩ :=ky_tup hk;simp only[Den]at h;obtain⟨a, xs, e, _⟩ :=h;exact⟨a, e⟩
theorem ky_nodict(hk:kyD k=true):k.hasDict=false :=by
 obtain⟨ds, rfl, _, hl, _⟩ :=ky_tup hk;exact PyData.hasDict_of_canLay _ hl
theorem Inv.ky(I:Inv X pins σ H s){b:Addr}(hk:kyD k=true)(h:Den X.kd H k (.ref b)):(dkind X.prog X.w).is s.heap k b :=⟨h.reads I (ky_nodict hk) (show RelV (.ref b) (.ref b)from rfl), hk⟩
abbrev ExV(w:World):List (Int × V × V) -> List (PyData × Addr × Value) -> Prop :=Paired fun e q => e.1=hashD w q.1 /\ e.2.1 = .ref q.2.1 /\ RelV e.2.2 q.2.2
theorem Inv.dcE(I:Inv X pins σ H s){es:List (Int × V × V)}(rd:Rd H a (dX a es))(g:DenKV X.kd H kvs es)(nd:(kvs.map (·.1)).Nodup)(hk:kyA kvs=true):(a==sysModules)=false /\ es.length ≤ sizeLine /\ ∃xs, s.heap.DictOfH (dkind X.prog X.w) a xs /\ PxV X.kd H kvs xs /\ ExV X.w es xs :=by
 obtain⟨⟨hs, hz, o, ents, ep, h1, h2, h3, h4⟩, _⟩ :=(show ObjOk X.prog X.w H s.heap a (dX a es)from rd.ok I.hok);have key:∀{kvs:List (PyData × PyData)}{es:List (Int × V × V)}{ents:List DictEntry}, kyA kvs=true -> DenKV X.kd H kvs es -> Paired (fun(e:Int × V × V) (d:DictEntry) => d.hash=e.1 /\ RelV e.2.1 d.key /\ RelV e.2.2 d.val) es ents -> ∃xs, ents=xs.map (entryOfKey (dkind X.prog X.w)) /\ PxV X.kd H kvs xs /\ ExV X.w es xs :=by
  intro kvs
  induction kvs with
  |nil =>
   intro es ents _ g p;simp only[DenKV]at g;subst g;cases p;exact⟨[], rfl, .nil, .nil⟩
  | cons x r ih =>
   intro es ents hk g p;obtain⟨k, d⟩ :=x;rw[kyA, List.all_cons, Bool.and_eq_true]at hk;simp only[DenKV]at g;obtain⟨u, v, vs, rfl, g0, g1, g2⟩ :=g
   cases p with
   |cons p1 p2 =>
    rename_i en ents';obtain⟨xs, e1, e2, e3⟩ :=ih hk.2 g2 p2;obtain⟨b, rfl⟩ :=ky_ref hk.1 g0;obtain⟨p3, p4, p5⟩ :=p1;obtain⟨eh, ek, ev⟩ :=en
    cases (show ek=Value.ref b from p4)
    refine⟨(k, b, ev)::xs, ?_, .cons ⟨rfl, g0, v, g1, p5⟩ e2, .cons ⟨rfl, rfl, p5⟩ e3⟩;rw[List.map_cons, <- e1]
    congr 1
    show DictEntry.mk eh (.ref b) ev=⟨hashD X.w k, .ref b, ev⟩;rw[show eh=hashD X.w k from p3]
 obtain⟨xs, e1, e2, e3⟩ :=key hk g h4;refine⟨hs, hz, xs, ⟨o, ents, ep, h1, h2, h3, e1, fun x hx => ?_, by rw[e2.keys];exact nd⟩, e2, e3⟩;have all:∀{kvs:List (PyData × PyData)}{xs:List (PyData × Addr × Value)}, kyA kvs=true -> PxV X.kd H kvs xs -> ∀x ∈ xs, (dkind X.prog X.w).is s.heap x.1 x.2.1 :=by
  intro kvs xs hk p
  induction p with
  |nil => intro x hx;cases hx
  | @cons q x0 qs xs0 h t ih =>
   rw[kyA, List.all_cons, Bool.and_eq_true]at hk;intro x hx;obtain rfl|hx :=List.mem_cons.mp hx
   .rw[<- h.1];exact I.ky hk.1 h.2.1
   .exact ih hk.2 x hx
 exact all hk e2 x hx
theorem Inv.dc0(I:Inv X pins σ H s)(rd:Rd H a (.dK [])):(a==sysModules)=false /\ s.heap.DictOfH (dkind X.prog X.w) a [] :=by
 obtain⟨_, hs, vs, kv, dd⟩ :=dk_rd I.hok rd;cases kv;obtain⟨o, ents, ep, h1, h2, h3, h4⟩ :=dd;refine⟨hs, o, ents, ep, h1, h2, h3, ?_, ⟨(fun x hx => absurd hx (by simp)), List.nodup_nil⟩⟩;have e0:ents.toList=[] :=by
  obtain⟨_, hp, _⟩ :=h4;exact List.eq_nil_of_length_eq_zero (by have :=hp.length;simpa using this)
 rw[e0];rfl
theorem kd_ky(g:DenKK K H kvs es)(hk:kyA kvs=true):kvs=[] /\ es=[] :=by
 cases kvs with
 |nil => simp only[DenKK]at g;exact⟨rfl, g⟩
 |cons x r =>
  obtain⟨k, d⟩ :=x;simp only[DenKK]at g;obtain⟨kk, v, vs, _, ⟨ek, _⟩, _⟩ :=g;rw[kyA, List.all_cons, Bool.and_eq_true]at hk;have hk1:kyD k=true :=hk.1;rw[ek]at hk1
  cases kk<;>cases hk1
theorem Inv.dcX(I:Inv X pins σ H s)(h:IsDc X.kd H a kvs)(hk:kyA kvs=true):(a==sysModules)=false /\ ∃xs, s.heap.DictOfH (dkind X.prog X.w) a xs /\ PxV X.kd H kvs xs :=by
 rcases h with⟨es, rd, g⟩|⟨es, rd, _, nd, g⟩
 .obtain⟨rfl, rfl⟩ :=kd_ky g hk;obtain⟨hs, dd⟩ :=I.dc0 rd;exact⟨hs, [], dd, .nil⟩
 .obtain⟨hs, _, xs, dd, p, _⟩ :=I.dcE rd g nd hk;exact⟨hs, xs, dd, p⟩
theorem PxV.val(hk:kyA kvs=true)(hkk:kyD k=true)(p:PxV K H kvs xs) :
  (lookP k kvs=none /\ atKey xs k=none) \/ ∃d v q, lookP k kvs=some d /\ atKey xs k=some q /\ Den K H d v /\ RelV v q.2 :=by
 induction p with
 |nil => exact(.inl ⟨rfl, rfl⟩)
 | @cons x q xs0 qs h t ih =>
  rw[kyA, List.all_cons, Bool.and_eq_true]at hk;obtain⟨k', d⟩ :=x;obtain⟨h1, h2, v, h3, h4⟩ :=h;have h1':k'=q.1 :=h1;have he:PyData.eqv k' k=decide (k'=k) :=eqv_hk _ _ (ky_hk hk.1) (ky_hk hkk);unfold lookP
  by_cases e:k'=k
  .have b:atKey (q::qs) k=some q.2 :=by simp[atKey, List.find?_cons, <- h1', e]
   rw[he, decide_eq_true e, if_pos rfl];exact .inr ⟨d, v, q.2, rfl, b, h3, h4⟩
  .have b:atKey (q::qs) k=atKey qs k :=by simp[atKey, List.find?_cons, <- h1', e]
   rw[he, decide_eq_false e, if_neg (by decide), b];exact ih hk.2
theorem DenKK.val{kk:Key}(g:DenKK K H kvs es) :
  (lookP (keyD kk) kvs=none /\ valV es kk=none) \/ ∃d v, lookP (keyD kk) kvs=some d /\ valV es kk=some v /\ Den K H d v :=by
 induction kvs generalizing es with
 |nil => simp only[DenKK]at g;subst g;exact .inl ⟨rfl, rfl⟩
 |cons x r ih =>
  obtain⟨k, d⟩ :=x;simp only[DenKK]at g;obtain⟨k0, v, vs, rfl, ⟨rfl, _⟩, g1, g2⟩ :=g;unfold lookP;rw[eqv_key]
  by_cases e:k0=kk
  .rw[decide_eq_true e, if_pos rfl];exact .inr ⟨d, v, rfl, valV_pos (p :=(k0, v)) e, g1⟩
  .rw[decide_eq_false e, if_neg (by decide), valV_neg (p :=(k0, v)) e];exact ih g2
theorem DGet.kr{H:Hp}{kvs:List (Key × V)}{k:Key}(e:Rd H a (.dK kvs)):DGet H a (kV k) (valV kvs k) :=.inl ⟨kvs, k, e, rfl, rfl⟩
theorem oneK_or(h:oneK kvs k=true):(isKd kvs=true /\ kdD k=true) \/ (kyA kvs=true /\ kyD k=true) :=by
 unfold oneK at h;rw[Bool.or_eq_true, Bool.and_eq_true, Bool.and_eq_true]at h;exact h
theorem Inv.dcT(I:Inv X pins σ H s)(h:IsDc X.kd H a kvs):s.TypeIs (.ref a) "dict" /\ ∀b, Value.ref a = .ref b -> ∃ob, s.heap.get? b=some ob /\ ob.dict=none :=by
 rcases h with⟨es, rd, g⟩|⟨es, rd, _, nd, g⟩
 .obtain⟨_, hs, vs, kv, o, _, _, h1, h2, _⟩ :=dk_rd I.hok rd;exact⟨⟨o, h1, h2.1⟩, fun b e => by cases e;exact⟨o, h1, h2.2.1⟩⟩
 .obtain⟨⟨hs, hz, o, ents, ep, h1, h2, h3, h4⟩, _⟩ :=(show ObjOk X.prog X.w H s.heap a (dX a es)from rd.ok I.hok);exact⟨⟨o, h1, h2.1⟩, fun b e => by cases e;exact⟨o, h1, h2.2.1⟩⟩
theorem den_key{kk:Key}{y:V}(h:Den K H (keyD kk) y):y=kV kk :=by
 cases kk with
 |inl i => exact int_of_den h
 |inr x => exact str_of_den h
section
variable {a:Addr}{kvs:List (PyData × PyData)}{k:PyData}{y z:V}{u dflt:Value}{A:Around}{E:Value -> Shared -> Prop}
theorem dc_getItem{d:PyData}{Q:Value -> Shared -> Prop}(hu:A.units+64<cLine)(I:Inv X pins σ H s)(h:IsDc X.kd H a kvs)(ok:oneK kvs k=true)(hk:Den X.kd H k y)(ry:RelV y u)(hl:lookP k kvs=some d)
  (fin:∀v w' s', Inv X pins σ H s' -> RelV v w' -> Den X.kd H d v -> Q w' s'):wpAny (model X.prog X.w) A (getItem (.ref a) u) Q E s :=by
 rcases oneK_or ok with⟨o1, o2⟩|⟨o1, o2⟩
 .obtain⟨kk, rfl⟩ :=kdD_key o2;have ey :=den_key hk;subst ey;rcases h with⟨es, rd, g⟩|⟨es, rd, kd, nd, g⟩
  .rcases g.val (kk :=kk)with⟨e1, e2⟩|⟨d', v, e1, e2, e3⟩
   .rw[hl]at e1;cases e1
   .rw[hl]at e1;cases e1;exact d_getItem (by omega) I (by rw[<- e2];exact DGet.kr rd) ry fun w' s' I' rw' => fin v w' s' I' rw' e3
  .rw[o1]at kd;cases kd
 .obtain⟨hs, xs, dd, p⟩ :=I.dcX h o1;obtain⟨b, rfl⟩ :=ky_ref o2 hk
  cases (show u=Value.ref b from ry)
  rcases p.val o1 o2 with⟨e1, e2⟩|⟨d', v, q, e1, e2, e3, e4⟩
  .rw[hl]at e1;cases e1
  .rw[hl]at e1;cases e1;exact wpAny_getItem_heap (knd :=dkind X.prog X.w) (by show A.units+1+20<cLine;omega) (I.ky o2 hk) dd e2 (fin v q.2 _ (I.tok _) e4 e3)
end
end
end L2
namespace L2
open PySem PySem.Spec PyProof.Rows
open Sem (wp)
def tDIxD(K:Kd)(to ti:TE):TE :=fun σ H Q => to σ H fun x H1 => ti σ H1 fun y H2 => ∃a kvs k d, x = .ref a /\ IsDc K H2 a kvs /\ oneK kvs k=true /\ Den K H2 k y /\ lookP k kvs=some d /\ ∀v, Den K H2 d v -> Q v H2
section
variable {X:Cx}{o i:Expr}{wo wi:WE}{pos:Pos}{to ti:TE}
theorem pe_dixD(hu:X.A.units+64<cLine)(ho:PE X o to)(hi:PE X i ti)(hs:NoSl i):PE X (.Subscript o i pos) (tDIxD X.kd to ti) :=by
 intro pins s σ H Q I h;refine subD_of PySem.F.slot_dict_getitem.lookup hs (thn (ho pins s σ H _ I h) fun u s1 ⟨x, H1, I1, rx, q1⟩ => thn (hi pins s1 σ H1 _ I1 q1) fun iv s2 ⟨y, H2, I2, ry, a, kvs, k, d, ex, dc, ok, hk, hl, q2⟩ => ?_);subst ex;obtain rfl:u=Value.ref a :=rx;exact⟨(I2.dcT dc).1, dc_getItem hu I2 dc ok hk ry hl fun v w' s' I' rv hd => ⟨v, H2, I', rv, q2 v hd⟩⟩
def wDIxD(wo wi:WE):WE :=fun m K => wo m fun ro m1 => wi m1 fun ri m2 => onImm (fun k => ∃kvs d, dcM m2 kvs ro /\ oneK kvs k=true /\ lookP k kvs=some d /\ K (.imm d) m2) ri
theorem me_dixD(hu:X.A.units+64<cLine)(ho:ME X o wo)(hi:ME X i wi)(hs:NoSl i :=by intro _ _;rfl):ME X (.Subscript o i pos) (wDIxD wo wi) :=(pe_dixD hu ho hi hs).wk fun σ H Q ⟨α, m, Kc, Rl, hw, fin⟩ => by
 refine⟨α, m, _, Rl, hw, fun ro m1 v1 H1 k1 n1 Rl1 rr1 F1 => ⟨α, m1, _, Rl1, k1, fun ri m2 v2 H2 k2 n2 Rl2 rr2 F2 => ?_⟩⟩;obtain⟨k, rfl, hk, kvs, d, e1, ok, el, k2⟩ :=on_imm rr2 k2;obtain⟨a, rfl, dc⟩ :=RelR.dc Rl2 (rr1.keep Rl Rl1 F2) e1 (by
  rcases oneK_or ok with z|z
  .exact .inl z.1
  .exact .inr z.1)
 exact⟨a, kvs, k, d, rfl, dc, ok, hk, el, fun v hd => fin _ m2 v H2 k2 (n2.trans n1) Rl2 hd (F1.trans F2)⟩
theorem me_dixD'(hu:X.A.units+64<cLine)(ho:EE X o wo)(hi:EE X i wi)(hs:NoSl i :=by intro _ _;rfl):EE X (.Subscript o i pos) (wDIxD wo wi) :=⟨me_dixD hu ho.h hi.h hs⟩
end
theorem x_dixD{m:MSt}{Q:R -> MSt -> Prop}{wo wi:WE}(h:wo m fun ro m1 => wi m1 fun ri m2 => onImm (fun k => ∃kvs d, dcM m2 kvs ro /\ oneK kvs k=true /\ lookP k kvs=some d /\ Q (.imm d) m2) ri):wDIxD wo wi m Q :=h
end L2
set_option maxHeartbeats 1100000
namespace L2
open PySem PySem.Spec PyProof.Rows
open Sem (wp)
variable{k:PyData}{kvs:List (PyData × PyData)}
noncomputable def putX (k:PyData) (b:Addr) (r:Value):List (PyData × Addr × Value) -> List (PyData × Addr × Value)
 |[] => [(k, b, r)]
 |x::xs => if x.1=k then(x.1, x.2.1, r)::xs else x::putX k b r xs
theorem putAt_id{k:PyData}{r:Value}:∀{xs:List (PyData × Addr × Value)}, k ∉ xs.map (·.1) -> xs.map (putAt k r)=xs
 |[], _ => rfl
 |x::xs, h => by
  rw[List.map_cons, List.mem_cons, not_or]at h;rw[List.map_cons, putAt_id h.2];unfold putAt;rw[if_neg (fun z => h.1 z.symm)]
theorem stored_putX{k:PyData}{b:Addr}{r:Value}:∀{xs:List (PyData × Addr × Value)}, (xs.map (·.1)).Nodup -> storedH xs k b r=putX k b r xs
 |[], _ => rfl
 | x::xs, h => by
  rw[List.map_cons, List.nodup_cons]at h
  by_cases e:x.1=k
  .have a:atKey (x::xs) k=some x.2 :=by simp[atKey, List.find?_cons, e]
   rw[storedH_old a, List.map_cons, putAt_id (by rw[<- e];exact h.1)];unfold putX putAt;rw[if_pos e, if_pos e]
  .have a:atKey (x::xs) k=atKey xs k :=by simp[atKey, List.find?_cons, e]
   have ih :=stored_putX (k :=k) (b :=b) (r :=r) h.2;unfold putX;rw[if_neg e, <- ih];unfold storedH;rw[a];split
   .rw[List.map_cons]
    congr 1
    unfold putAt;rw[if_neg e]
   .rfl
noncomputable def putE (w:World) (k:PyData) (y v:V):List (PyData × PyData) -> List (Int × V × V) -> List (Int × V × V)
 |(k', _)::r, e::es => if k'=k then(e.1, e.2.1, v)::es else e::putE w k y v r es
 |_, _ => [(hashD w k, y, v)]
theorem putP_ky{d k' d':PyData}{r:List (PyData × PyData)}(h:kyD k'=true)(hk:kyD k=true):putP k d ((k', d')::r)=if k'=k then(k', d)::r else(k', d')::putP k d r :=by
 show(if PyData.eqv k' k=true then _ else _)=_;rw[eqv_hk _ _ (ky_hk h) (ky_hk hk)]
 by_cases e:k'=k
 .rw[if_pos e, if_pos (decide_eq_true e)]
 .rw[if_neg e, if_neg (by rw[decide_eq_false e];decide)]
theorem putE_len(w:World)(k:PyData)(y v:V):∀(kvs:List (PyData × PyData)) (es:List (Int × V × V)), kvs.length=es.length -> (putE w k y v kvs es).length ≤ es.length+1
 |[], [], _ => Nat.le_refl _
 |(k', d')::r, e::es, h => by
  unfold putE;split
  .simp
  .rw[List.length_cons, List.length_cons];have :=putE_len w k y v r es (by simpa using h);omega
 |[], _::_, h => by simp at h
 |_::_, [], h => by simp at h
theorem putE_den{K:Kd}{H:Hp}{k d:PyData}{y v:V}(hk:kyD k=true)(dk:Den K H k y)(dd:Den K H d v):∀{kvs:List (PyData × PyData)}{es:List (Int × V × V)}, kyA kvs=true -> DenKV K H kvs es -> DenKV K H (putP k d kvs) (putE K.w k y v kvs es)
 |[], es, _, g => by
  simp only[DenKV]at g;subst g;show DenKV K H [(k, d)] [(hashD K.w k, y, v)];simp only[DenKV];exact⟨y, v, [], rfl, dk, dd, rfl⟩
 |(k', d')::r, es, ha, g => by
  rw[kyA, List.all_cons, Bool.and_eq_true]at ha;simp only[DenKV]at g;obtain⟨u, v', vs, rfl, g0, g1, g2⟩ :=g;rw[putP_ky ha.1 hk];unfold putE
  by_cases e:k'=k
  .rw[if_pos e, if_pos e];simp only[DenKV];exact⟨u, v, vs, rfl, g0, dd, g2⟩
  .rw[if_neg e, if_neg e];simp only[DenKV];exact⟨u, v', _, rfl, g0, g1, putE_den hk dk dd ha.2 g2⟩
theorem putE_ex{w:World}{b:Addr}{v:V}{r:Value}(rv:RelV v r):∀{kvs:List (PyData × PyData)}{es:List (Int × V × V)}{xs:List (PyData × Addr × Value)}, xs.map (·.1)=kvs.map (·.1) -> ExV w es xs -> ExV w (putE w k (.ref b) v kvs es) (putX k b r xs) :=by
 intro kvs
 induction kvs with
 |nil =>
  intro es xs hk ex;have:xs=[] :=by simpa using hk
  subst this;cases ex;exact .cons ⟨rfl, rfl, rv⟩ .nil
 | cons q kvs ih =>
  intro es xs hk ex;obtain⟨k', d'⟩ :=q
  cases ex with
  |nil => simp at hk
  |cons h t =>
   simp only[List.map_cons, List.cons.injEq]at hk;unfold putE putX
   by_cases c:k'=k
   .rw[if_pos c, if_pos (hk.1.trans c)];exact .cons ⟨h.1, h.2.1, rv⟩ t
   .rw[if_neg c, if_neg (fun z => c (hk.1.symm.trans z))];exact .cons h (ih hk.2 t)
def DxM(K:Kd)(H:Hp)(a:Addr)(kvs:List (PyData × PyData))(es:List (Int × V × V)):Prop :=
 DenKV K H kvs es /\ (kvs.map (·.1)).Nodup /\ kyA kvs=true /\ ((H a=some (dX a es) /\ kvs ≠ []) \/ (H a=some (.dK []) /\ kvs=[]))
section
variable {X:Cx}{pins:List (Addr × Obj)}{σ:St}{H:Hp}{s:Shared}{a:Addr}{kvs:List (PyData × PyData)}{es:List (Int × V × V)}{k d:PyData}{y v:V}{u r:Value}{A:Around}{E:Value -> Shared -> Prop}
theorem DxM.is(I:Inv X pins σ H s)(h:DxM X.kd H a kvs es):(a==sysModules)=false /\ ∃xs, s.heap.DictOfH (dkind X.prog X.w) a xs /\ PxV X.kd H kvs xs /\ ExV X.w es xs :=by
 obtain⟨g, nd, ky, ⟨q, _⟩|⟨q, rfl⟩⟩ :=h
 .obtain⟨hs, _, xs, dd, p, e⟩ :=I.dcE (.inl q) g nd ky;exact⟨hs, xs, dd, p, e⟩
 .obtain⟨hs, dd⟩ :=I.dc0 (.inl q);simp only[DenKV]at g;subst g;exact⟨hs, [], dd, .nil, .nil⟩
theorem dx_set{Q:Unit -> Shared -> Prop}(hu:A.units+20<cLine)(I:Inv X pins σ H s)(h:DxM X.kd H a kvs es)(hk:kyD k=true)(dk:Den X.kd H k y)(ry:RelV y u)(rv:RelV v r)(hl:kvs.length<sizeLine)
  (fin:∀s', Inv X pins σ (upd H a (dX a (putE X.w k y v kvs es))) s' -> Q () s'):wpAny (model X.prog X.w) A (dictSet a u r) Q E s :=by
 obtain⟨hs, xs, dd, px, ex⟩ :=h.is I;obtain⟨b, rfl⟩ :=ky_ref hk dk
 cases (show u=Value.ref b from ry)
 have le:es.length=kvs.length :=h.1.len.symm;have lx:xs.length=kvs.length :=by have :=congrArg List.length px.keys;simpa using this
 refine wpAny_dictSet_heap (knd :=dkind X.prog X.w) hu (I.ky hk dk) dd (fun h' dd' hsb => fin _ ?_) (by omega);rw[stored_putX (by rw[px.keys];exact h.2.1)]at dd';obtain⟨o, ents, ep, h1, h2, h3, h4, h5, h6⟩ :=dd';have mu:Mut (H a) :=by
  rcases h.2.2.2 with⟨q, _⟩|⟨q, _⟩
  .rw[q];exact trivial
  .rw[q];exact trivial
 refine d_write I mu hsb ⟨o, h1⟩ ⟨⟨hs, ?_, o, ents, ep, h1, h2, h3, ?_⟩, ⟨o, h1⟩, fun ha hb φ kk => ?_⟩
 .have :=putE_len X.w k (.ref b) v kvs es le.symm;omega
 .rw[h4];have :=putE_ex (w :=X.w) (k :=k) (b :=b) rv px.keys ex;generalize putE X.w k (.ref b) v kvs es=l1 at this;generalize putX k b r xs=l2 at this;clear h4 h5 h6
  induction this with
  |nil => exact .nil
  |cons q _ ih => exact .cons ⟨q.1.symm, by rw[q.2.1];rfl, q.2.2⟩ ih
 .obtain⟨z1, z2, o', ents', ep', z3, z4⟩ :=φ;exact⟨z1, z2, o', ents', ep', kk o' z3, z4⟩
end
section
variable {X:Cx}{o i e:Expr}{wo wi we:WE}{pos pos':Pos}{td ty tv:TE}
theorem putP_keys{k d:PyData}(hk:kyD k=true):∀{kvs:List (PyData × PyData)}, kyA kvs=true -> (putP k d kvs).map (·.1)=if k ∈ kvs.map (·.1)then kvs.map (·.1)else kvs.map (·.1) ++ [k]
 |[], _ => rfl
 | (k', d')::r, h => by
  rw[kyA, List.all_cons, Bool.and_eq_true]at h;rw[putP_ky h.1 hk]
  by_cases e:k'=k
  .rw[if_pos e, if_pos (by simp[e])];rfl
  .rw[if_neg e, List.map_cons, putP_keys hk h.2]
   by_cases c:k ∈ r.map (·.1)
   .rw[if_pos c, if_pos (by simp[c])];rfl
   .rw[if_neg c, if_neg (by simp only[List.map_cons, List.mem_cons, not_or];exact⟨fun z => e z.symm, c⟩)];rfl
theorem putP_nodup{d:PyData}(hk:kyD k=true)(h:kyA kvs=true)(nd:(kvs.map (·.1)).Nodup):((putP k d kvs).map (·.1)).Nodup :=by
 rw[putP_keys hk h];split
 .exact nd
 .rename_i c;exact List.nodup_append.mpr ⟨nd, by simp, fun a ha b hb => by simp at hb;subst hb;exact fun z => c (z ▸ ha)⟩
theorem putP_kyA{d:PyData}(hk:kyD k=true)(h:kyA kvs=true):kyA (putP k d kvs)=true :=by
 have e:∀l:List (PyData × PyData), kyA l=(l.map (·.1)).all kyD :=fun l => by unfold kyA;rw[List.all_map];rfl
 rw[e, putP_keys hk h];rw[e]at h;split
 .exact h
 .rw[List.all_append, h];simp[hk]
theorem putP_ne(k d:PyData)(kvs:List (PyData × PyData)):putP k d kvs ≠ [] :=by
 cases kvs with
 |nil => intro h;cases h
 |cons x r =>
  obtain⟨k', d'⟩ :=x;show(if _ then _ else _) ≠ _
  split<;>simp
theorem ky_notKd(h:kyA kvs=true)(n:kvs ≠ []):isKd kvs=false :=by
 cases kvs with
 |nil => exact(n rfl).elim
 |cons x r =>
  obtain⟨k, d⟩ :=x;rw[kyA, List.all_cons, Bool.and_eq_true]at h;obtain⟨ds, rfl, _⟩ :=ky_tup h.1;rfl
theorem ky_keysOk(h:kyA kvs=true)(n:kvs ≠ [])(nd:(kvs.map (·.1)).Nodup):KeysOk kvs :=
 ⟨ky_notKd h n, nd, fun k hk => by
  obtain⟨x, hx, rfl⟩ :=List.mem_map.mp hk;exact ky_hk (List.all_eq_true.mp h x hx)⟩
end
end L2
namespace L2
open PySem PySem.Spec PyProof.Rows
variable{T z:Addr}{o:Obj}{xs ys:Array Value}{Q:Option Value -> Shared -> Prop}{h:Heap}
section
variable {prog:Program}{w:World}{A:Around}{E:Value -> Shared -> Prop}{s:Shared}{it d:Addr}{es:Array DictEntry}{i ep:Nat}{ok ov:Value}
theorem alive_{a:Addr}{Q:Option Obj -> Shared -> Prop}(h:Q (s.heap.get? a) s):wpAny (model prog w) A (loadIfAlive a) Q E s :=fun _ _ _ => h
end
section
variable {prog:Program}{w:World}{A:Around}{E:Value -> Shared -> Prop}{s:Shared}
def ZOut(h:Heap)(z TI TO T:Addr)(b:Bool):Prop :=h.get? z=some {cls :=.type "zip", data :=.fields #[rawInt T, .bool b, .bool false, .ref TI, .ref TO]}
theorem for_pair{M:Type -> Type}[Monad M][LawfulMonad M]{α β:Type}{a b:α}{x:β}{f:α -> β -> M (ForInStep β)}:forIn #[a, b] x f=(f a x >>= fun r => match r with| .done y => pure y | .yield y => f b y >>= fun r => match r with| .done y => pure y | .yield y => pure y) :=by
 rw[<- Array.forIn_toList];simp only[List.forIn_cons, List.forIn_nil];rfl
theorem zfree_no{TI TO:Addr}{b:Bool}{Q:Bool -> Shared -> Prop}(hz:ZOut s.heap z TI TO T b)(hT:s.heap.get? T=some o)
  (hQ:∀h', ZOut h' z TI TO T true -> h'.objs.size=s.heap.objs.size -> (∀c o, c ≠ z -> s.heap.get? c=some o -> h'.get? c=some o) -> Q false {s with heap :=h' }):wpAny (model prog w) A (Builtin.SmallTypes.ownedTupleIsFree (.ref z)) Q E s :=by
 refine wpAny_bind (m :=field (.ref z) 0) (wpAny_field hz rfl (x :=rawInt T) rfl (wpAny_bind (m :=loadIfAlive _) (alive_ ?_)));rw[show((T:Int)).toNat=T by omega, hT];show wpAny _ _ (field (.ref z) 1 >>= _) _ _ _;refine wpAny_bind (m :=field (.ref z) 1) (wpAny_field hz rfl (x :=.bool b) rfl ?_)
 cases b with
 |true => exact wpAny_pure (hQ s.heap hz rfl fun _ _ _ q => q)
 |false => exact wpAny_bind (m :=setField (.ref z) 1 (.bool true)) (wpAny_setField_rec hz (by simp) fun q1 i1 s1 => wpAny_pure (hQ q1 i1 s1.1 fun c o nc q => s1.extBut c o nc q))
theorem zout_item{t1 t2:Bool}{TI TO i1 i2 l1 l2:Addr}{b:Bool}{k:Nat}{x y:Value}(D0:Apart z TI TO i1 i2 l1 l2)(hz:ZOut s.heap z TI TO T b)(hT:s.heap.get? T=some o)
  (hTI:IsPair s.heap TI (.ref i1) (.ref i2)) (h1:SubI t1 s.heap i1 l1 k) (h2:SubI t2 s.heap i2 l2 k) (hl1:SubS t1 s.heap l1 xs) (hl2:SubS t2 s.heap l2 ys) (hx:xs[k]?=some x) (hy:ys[k]?=some y)
  (hQ:∀h', ZOut h' z TI TO T true -> SubI t1 h' i1 l1 (k+1) -> SubI t2 h' i2 l2 (k+1) -> IsPair h' s.heap.objs.size x y -> h'.objs.size=s.heap.objs.size+1 ->
   (∀c o, c ∉ [z, i1, i2] -> s.heap.get? c=some o -> h'.get? c=some o) -> Q (some (.ref s.heap.objs.size)) {s with heap :=h' }):wpAny (model prog w) A (pyNext (.ref z)) Q E s :=by
 have D :=D0.old;have hty:s.TypeIs (.ref z) "zip" :=(⟨_, hz, rfl⟩);unfold pyNext;refine wpAny_bind (wpAny_attempt (wpAny_callSpecial?_slot (name :=Str.ofString "__next__") hty F.slot_zip_next (wpAny_call_entry F.slot_zip_next hty F.entry_zip_next ?_ (F.args_zip_next_1 _))));refine wpAny_bind (m :=field (.ref z) 2) (wpAny_field hz rfl (x :=.bool false) rfl (wpAny_bind (m :=field (.ref z) 3) (wpAny_field hz rfl (x :=.ref TI) rfl (wpAny_bind (wpAny_seqItems hTI rfl ?_)))));refine wpAny_bind (m :=Builtin.SmallTypes.ownedTupleIsFree (.ref z)) (zfree_no hz hT fun g1 z1 e1 k1 => ?_);rw[if_neg Bool.false_ne_true];refine wpAny_bind ?_;rw[for_pair];refine wpAny_bind (wpAny_bind (wpAny_holding (wpAny_bind (m :=Builtin.SmallTypes.nextOf (.ref i1)) ?_)));have hl1':SubS t1 g1 l1 xs :=hl1.keep fun o e => k1 _ o D.l1z e;have hl2':SubS t2 g1 l2 ys :=hl2.keep fun o e => k1 _ o D.l2z e;refine(sub_item (s :={s with heap :=g1}) (h1.keep fun o e => k1 _ o D.i1z e) hl1' hx fun g2 n1 s2 => wpAny_pure ?_);refine wpAny_pure (wpAny_bind (wpAny_bind (wpAny_holding (wpAny_bind (m :=Builtin.SmallTypes.nextOf (.ref i2)) ?_))));refine(sub_item (s :={s with heap :=g2}) ((h2.keep fun o e => k1 _ o D.i2z e).ext s2.extBut D.i12.symm) (hl2'.ext s2.extBut D.l2i1) hy fun g3 n2 s3 => wpAny_pure ?_);refine wpAny_pure (wpAny_pure (wpAny_bind (wpAny_newTuple (hsz :=by show 2 ≤ sizeLine;rw[sizeLine_eq];decide) ?_)));have zs:g3.objs.size=s.heap.objs.size :=by rw[s3.1];show g2.objs.size=_;rw[s2.1];exact e1
 have up:∀c o, c ∉ [z, i1, i2] -> s.heap.get? c=some o -> g3.get? c=some o :=fun c o hc e => by
  simp only[List.mem_cons, List.not_mem_nil, not_or, or_false]at hc;exact s3.extBut _ _ hc.2.2 (s2.extBut _ _ hc.2.1 (k1 _ _ hc.1 e))
 have z3:ZOut g3 z TI TO T true :=s3.extBut _ _ D.i2z.symm (s2.extBut _ _ D.i1z.symm z1);have n13:SubI t1 g3 i1 l1 (k+1) :=n1.ext s3.extBut D.i12;have fin:wpAny (model prog w) A (pure (some (Value.ref g3.objs.size))) Q E {s with heap :=g3.push {cls :=.type "tuple", data :=.seq #[x, y]} } :=by
  refine wpAny_pure ?_;have q :=hQ (g3.push {cls :=.type "tuple", data :=.seq #[x, y]}) (Heap.get?_push_of_some _ z3) (n13.keep fun o e => Heap.get?_push_of_some _ e) (n2.keep fun o e => Heap.get?_push_of_some _ e) (zs ▸ Heap.get?_push_size _ rfl) (by rw[Heap.size_push, zs]) fun c o hc e => Heap.get?_push_of_some _ (up c o hc e);rw[<- zs]at q;exact q
 exact wpAny_pure ⟨_, rfl, fin⟩
theorem zout_end{t1:Bool}{TI TO i1 i2 l1 l2:Addr}{b:Bool}{k:Nat}(hh:A.handled=none)(D0:Apart z TI TO i1 i2 l1 l2)(hz:ZOut s.heap z TI TO T b)(hT:s.heap.get? T=some o)
  (hTI:IsPair s.heap TI (.ref i1) (.ref i2)) (h1:SubI t1 s.heap i1 l1 k) (hl1:SubS t1 s.heap l1 xs) (hx:xs[k]?=none)
  (hQ:∀h', (∀c o, c ∉ [z, i1, i2] -> s.heap.get? c=some o -> h'.get? c=some o) -> Q none {s with heap :=h' }):wpAny (model prog w) A (pyNext (.ref z)) Q E s :=by
 have D :=D0.old;have hty:s.TypeIs (.ref z) "zip" :=(⟨_, hz, rfl⟩);unfold pyNext;refine wpAny_bind (wpAny_attempt (wpAny_callSpecial?_slot (name :=Str.ofString "__next__") hty F.slot_zip_next (wpAny_call_entry F.slot_zip_next hty F.entry_zip_next ?_ (F.args_zip_next_1 _))));refine wpAny_bind (m :=field (.ref z) 2) (wpAny_field hz rfl (x :=.bool false) rfl (wpAny_bind (m :=field (.ref z) 3) (wpAny_field hz rfl (x :=.ref TI) rfl (wpAny_bind (wpAny_seqItems hTI rfl ?_)))));refine wpAny_bind (m :=Builtin.SmallTypes.ownedTupleIsFree (.ref z)) (zfree_no hz hT fun g1 z1 e1 k1 => ?_);rw[if_neg Bool.false_ne_true];refine wpAny_bind ?_;rw[for_pair];refine wpAny_bind (wpAny_bind (wpAny_holding (wpAny_bind (m :=Builtin.SmallTypes.nextOf (.ref i1)) ?_)));refine(sub_end (s :={s with heap :=g1}) hh (h1.keep fun o e => k1 _ o D.i1z e) (hl1.keep fun o e => k1 _ o D.l1z e) hx fun g2 e s2 he => ?_);obtain⟨oe, hoe, hce⟩ :=he;refine wpAny_bind (wpAny_isInstance (T := "StopIteration") (b :=true) ⟨oe, hoe, hce⟩ isSubtype_stop (wpAny_pure (hQ _ fun c o hc q => ?_)));simp only[List.mem_cons, List.not_mem_nil, not_or, or_false]at hc;exact s2 _ _ hc.2.1 (k1 _ _ hc.1 q)
structure ZS(t1 t2:Bool)(z TI TO i1 i2 l1 l2:Addr)(fp:List Addr)(k:Nat)(h:Heap):Prop where
 ti:IsPair h TI (.ref i1) (.ref i2)
 to:∃a b, IsPair h TO a b
 s1:SubI t1 h i1 l1 k
 s2:SubI t2 h i2 l2 k
 zz:(fp=[z, TI, TO, i1, i2] /\ IsZip h z TI TO .none) \/ ∃T b o, fp=[T, z, TI, TO, i1, i2] /\ ZOut h z TI TO T b /\ h.get? T=some o /\ T ∉ [z, TI, TO, i1, i2] /\ ∀v, o.data ≠ .cell v
variable {t1 t2:Bool}{z TI TO i1 i2 l1 l2:Addr}{fp:List Addr}{k:Nat}
theorem ZS.sub(Z:ZS t1 t2 z TI TO i1 i2 l1 l2 fp k h):∀b ∈ [z, TI, TO, i1, i2], b ∈ fp :=fun b hb => by
 rcases Z.zz with⟨e, _⟩|⟨T, _, _, e, _⟩
 .rw[e];exact hb
 .rw[e];exact List.mem_cons_of_mem _ hb
theorem ZS.keep{h':Heap}(Z:ZS t1 t2 z TI TO i1 i2 l1 l2 fp k h)(kp:∀b ∈ fp, ∀o, h.get? b=some o -> h'.get? b=some o):ZS t1 t2 z TI TO i1 i2 l1 l2 fp k h' :=by
 have sb :=Z.sub;obtain⟨a, b, hto⟩ :=Z.to;refine⟨kp TI (sb TI (by simp)) _ Z.ti, ⟨a, b, kp TO (sb TO (by simp)) _ hto⟩, Z.s1.keep fun o e => kp i1 (sb i1 (by simp)) o e, Z.s2.keep fun o e => kp i2 (sb i2 (by simp)) o e, ?_⟩;rcases Z.zz with⟨e, q⟩|⟨T, b, o, e, q1, q2, q3⟩
 .exact .inl ⟨e, kp z (sb z (by simp)) _ q⟩
 .exact .inr ⟨T, b, o, e, kp z (sb z (by simp)) _ q1, kp T (by rw[e];exact List.mem_cons_self) _ q2, q3⟩
theorem ZS.obj(Z:ZS t1 t2 z TI TO i1 i2 l1 l2 fp k h):∀b ∈ fp, ∃o, h.get? b=some o /\ ∀v, o.data ≠ .cell v :=fun b hb => by
 have five:(∃o, h.get? z=some o /\ ∀v, o.data ≠ .cell v) -> b ∈ [z, TI, TO, i1, i2] -> ∃o, h.get? b=some o /\ ∀v, o.data ≠ .cell v :=fun hz hc => by
  simp only[List.mem_cons, List.not_mem_nil, or_false]at hc;rcases hc with rfl|rfl|rfl|rfl|rfl
  .exact hz
  .exact⟨_, Z.ti, fun v q => by cases q⟩
  .obtain⟨_, _, q⟩ :=Z.to;exact⟨_, q, fun v q => by cases q⟩
  .obtain⟨o, vs, e, d⟩ :=Z.s1.obj;exact⟨o, e, fun v q => by rw[d]at q;cases q⟩
  .obtain⟨o, vs, e, d⟩ :=Z.s2.obj;exact⟨o, e, fun v q => by rw[d]at q;cases q⟩
 rcases Z.zz with⟨e, q⟩|⟨T, c, o, e, q1, q2, q3⟩
 .exact five ⟨_, q, fun v z => by cases z⟩ (e ▸ hb)
 .rw[e]at hb;rcases List.mem_cons.mp hb with y|y
  .rw[y];exact⟨o, q2, q3.2⟩
  .exact five ⟨_, q1, fun v z => by cases z⟩ y
theorem ZS.lt(Z:ZS t1 t2 z TI TO i1 i2 l1 l2 fp k h):∀b ∈ fp, b<h.objs.size :=fun b hb => let ⟨_, e, _⟩ :=Z.obj b hb;Heap.lt_size e
theorem zs_item{x y:Value}(D:Apart z TI TO i1 i2 l1 l2)(Z:ZS t1 t2 z TI TO i1 i2 l1 l2 fp k s.heap)(hl1:SubS t1 s.heap l1 xs)(hl2:SubS t2 s.heap l2 ys)(hx:xs[k]?=some x)(hy:ys[k]?=some y)
  (hQ:∀h' fp', ZS t1 t2 z TI TO i1 i2 l1 l2 fp' (k+1) h' -> (fp'=fp \/ fp'=[s.heap.objs.size, z, TI, TO, i1, i2]) -> IsPair h' s.heap.objs.size x y -> (∀c o, c ∉ fp -> s.heap.get? c=some o -> h'.get? c=some o) -> Q (some (.ref s.heap.objs.size)) {s with heap :=h' }):wpAny (model prog w) A (pyNext (.ref z)) Q E s :=by
 have d :=D.old;have sb :=Z.sub;have out:∀{L:List Addr}{c:Addr}, (∀b ∈ L, b ∈ [z, TI, TO, i1, i2]) -> c ∉ fp -> c ∉ L :=fun hL hc q => hc (sb _ (hL _ q));obtain⟨a, b, hto⟩ :=Z.to;rcases Z.zz with⟨e, q⟩|⟨T, c, o, e, q1, q2, q3⟩
 .refine zip_item D ⟨q, Z.ti, Z.to, Z.s1, Z.s2⟩ hl1 hl2 hx hy fun h' a1 a2 a3 a4 a5 a6 a7 => hQ h' _ ⟨a7 _ _ ?_ Z.ti, ⟨_, _, a2⟩, a3, a4, .inr ⟨_, _, _, rfl, a1, a5, fun q => Nat.lt_irrefl _ (Z.lt _ (sb _ q)), fun v q => by cases q⟩⟩ (.inr rfl) a5 fun c o hc q => a7 c o (out (L :=[z, TO, i1, i2]) (fun b hb => ?_) hc) q
  .simp only[List.mem_cons, List.not_mem_nil, or_false, not_or];exact⟨d.TIz, d.TITO, d.TIi1, d.TIi2⟩
  .simp only[List.mem_cons, List.not_mem_nil, or_false]at hb⊢;rcases hb with z|z|z|z<;>simp[z]
 .refine zout_item D q1 q2 Z.ti Z.s1 Z.s2 hl1 hl2 hx hy fun h' a1 a3 a4 a5 a6 a7 => ?_;have n3:∀b ∈ [z, i1, i2], b ∈ [z, TI, TO, i1, i2] :=fun b hb => by
   simp only[List.mem_cons, List.not_mem_nil, or_false]at hb⊢;rcases hb with z|z|z<;>simp[z]
  refine hQ h' fp ⟨a7 _ _ ?_ Z.ti, ⟨a, b, a7 _ _ ?_ hto⟩, a3, a4, .inr ⟨T, true, o, e, a1, a7 _ _ (fun q => q3.1 (n3 _ q)) q2, q3⟩⟩ (.inl rfl) a5 fun c o hc q => a7 c o (out n3 hc) q
  .simp only[List.mem_cons, List.not_mem_nil, or_false, not_or];exact⟨d.TIz, d.TIi1, d.TIi2⟩
  .simp only[List.mem_cons, List.not_mem_nil, or_false, not_or];exact⟨d.TOz, d.TOi1, d.TOi2⟩
theorem zs_end(hh:A.handled=none)(D:Apart z TI TO i1 i2 l1 l2)(Z:ZS t1 t2 z TI TO i1 i2 l1 l2 fp k s.heap)(hl1:SubS t1 s.heap l1 xs)(hl2:SubS t2 s.heap l2 ys)(hx:xs[k]?=none)
  (hQ:∀h', (∀c o, c ∉ fp -> s.heap.get? c=some o -> h'.get? c=some o) -> Q none {s with heap :=h' }):wpAny (model prog w) A (pyNext (.ref z)) Q E s :=by
 have sb :=Z.sub;rcases Z.zz with⟨e, q⟩|⟨T, c, o, e, q1, q2, q3⟩
 .exact zip_end hh D ⟨q, Z.ti, Z.to, Z.s1, Z.s2⟩ hl1 hl2 (.inl hx) fun h' kp => hQ h' fun c o hc q => kp c o (fun y => hc (sb c (by simp only[List.mem_cons, List.not_mem_nil, or_false]at y⊢;rcases y with y|y|y|y<;>simp[y]))) q
 .exact zout_end hh D q1 q2 Z.ti Z.s1 hl1 hx fun h' kp => hQ h' fun c o hc q => kp c o (fun y => hc (sb c (by simp only[List.mem_cons, List.not_mem_nil, or_false]at y⊢;rcases y with y|y|y<;>simp[y]))) q
end
theorem ent_uloop:entryFor table "dict.update.loop" = some Builtin.«dict.update.loop» :=entryFor_of_tree (by kernel_rfl)
theorem plain_uloop:plainId "dict.update.loop" = true :=by decide +kernel
def putZ(kvs:List (PyData × PyData))(ps:List (PyData × PyData)):List (PyData × PyData) :=ps.foldl (fun kv p => putP p.1 p.2 kv) kvs
theorem putP_length(k d:PyData):∀kvs:List (PyData × PyData), (putP k d kvs).length ≤ kvs.length+1
 |[] => Nat.le_refl _
 |p::r => by
  show(if PyData.eqv p.1 k=true then(p.1, d)::r else p::putP k d r).length ≤ r.length+1+1;split
  .show r.length+1 ≤ _;omega
  .have :=putP_length k d r;show(putP k d r).length+1 ≤ _;omega
theorem putZ_ne{ds es:List PyData}(h:ds ≠ [])(e:ds.length=es.length):putZ [] (ds.zip es) ≠ [] :=by
 have key:∀(ps kvs:List (PyData × PyData)), kvs ≠ [] -> putZ kvs ps ≠ [] :=by
  intro ps
  induction ps with
  |nil => intro kvs h;exact h
  |cons q ps ih => intro kvs _;exact ih _ (putP_ne _ _ _)
 cases ds with
 |nil => exact(h rfl).elim
 |cons x ds => cases es with
  |nil => cases e
  |cons y es => exact key (ds.zip es) (putP x y []) (putP_ne _ _ _)
section
variable {X:Cx}{pins:List (Addr × Obj)}{σ:St}{A:Around}{t1 t2:Bool}{z TI TO i1 i2 l1 l2 d:Addr}{ds es:List PyData}{xs ys:List V}
theorem DxM.put{H:Hp}{kvs:List (PyData × PyData)}{ee:List (Int × V × V)}{k dv:PyData}{y v:V}(h:DxM X.kd H d kvs ee)(hk:kyD k=true)(dk:Den X.kd H k y)(dd:Den X.kd H dv v):DxM X.kd (upd H d (dX d (putE X.w k y v kvs ee))) d (putP k dv kvs) (putE X.w k y v kvs ee) /\ Pers H (upd H d (dX d (putE X.w k y v kvs ee))) :=by
 have pe:Pers H (upd H d (dX d (putE X.w k y v kvs ee))) :=by
  refine pers_upd (.inr ?_);rcases h.2.2.2 with⟨q, _⟩|⟨q, _⟩
  .exact⟨_, q, rfl⟩
  .exact⟨_, q, rfl⟩
 exact⟨⟨(putE_den hk dk dd h.2.2.1 h.1).mono pe, putP_nodup hk h.2.2.1 h.2.1, putP_kyA hk h.2.2.1, .inl ⟨upd_same, putP_ne _ _ _⟩⟩, pe⟩
theorem upd_loop(hu:A.units+40<cLine)(hh:A.handled=none)(D:Apart z TI TO i1 i2 l1 l2){G:Hp -> Prop}(gm:∀H H', Pers H H' -> G H -> G H')(gu:∀H, G H -> SqB t1 X.kx H l1 xs /\ SqB t2 X.kx H l2 ys /\ DenAll X.kx H ds xs /\ DenAll X.kx H es ys)
  (hky:∀x ∈ ds, kyD x=true) (hle:ds.length=es.length) {R:Result -> Shared -> Prop}:∀(n k:Nat) (s:Shared) (H:Hp) (kvs:List (PyData × PyData)) (ee:List (Int × V × V)) (fp:List Addr), ds.length-k=n -> k ≤ ds.length -> Inv X pins σ H s -> (∀b ∈ fp, FpOk X pins H b) -> ZS t1 t2 z TI TO i1 i2 l1 l2 fp k s.heap -> G H -> DxM X.kd H d kvs ee -> kvs.length ≤ k ->
  (∀s' H' ee', Inv X pins σ H' s' -> DxM X.kd H' d (putZ kvs ((ds.zip es).drop k)) ee' -> (∀b, b ≠ d -> H' b=H b) -> R (.ok (.ret .none)) s') -> codeAny (model X.prog X.w) A (.builtin "dict.update.loop" ⟨[.ref d, .ref z, rawInt (k:Int), .none], []⟩) R s
 |0, k, s, H, kvs, ee, fp, hn, hk, I, hf, Z, g, dx, hl, fin => by
  obtain⟨q1, q2, d1, d2⟩ :=gu H g;obtain⟨its1, rv1, p1, _⟩ :=I.sqb q1;obtain⟨its2, rv2, p2, _⟩ :=I.sqb q2;refine codeAny_builtin ent_uloop ((Around.under_plainId plain_uloop _).symm ▸ ?_);have l1 :=rv1.length;have l2 :=d1.length;refine wpAny_bind (m :=pyNext (.ref z)) (zs_end hh D Z p1 p2 (by simp;omega) fun h' kp => ?_);have I1:Inv X pins σ H {s with heap :=h' } :=I.turneds (t' :=s.toks) (ch :=fp) kp hf;have e:(ds.zip es).drop k=[] :=List.drop_eq_nil_of_le (by rw[List.length_zip];omega);rw[e]at fin;refine wpAny_bind (m :=Builtin.Dict.addKeywords d []) (wpAny_pure (wpAny_pure (fin _ H ee I1 dx fun _ _ => rfl)))
 | n+1, k, s, H, kvs, ee, fp, hn, hk, I, hf, Z, g, dx, hl, fin => by
  obtain⟨q1, q2, d1, d2⟩ :=gu H g;obtain⟨its1, rv1, p1, sz1⟩ :=I.sqb q1;obtain⟨its2, rv2, p2, _⟩ :=I.sqb q2;have l1 :=d1.length;have l2 :=d2.length;obtain⟨kd, ek⟩:∃kd, ds[k]?=some kd :=⟨_, List.getElem?_eq_getElem (by omega)⟩;obtain⟨vd, ev⟩:∃vd, es[k]?=some vd :=⟨_, List.getElem?_eq_getElem (by omega)⟩;obtain⟨x, ex, dx1⟩ :=d1.get ek;obtain⟨y, ey, dy1⟩ :=d2.get ev;obtain⟨u1, e1, ru1⟩ :=rv1.get ex;obtain⟨u2, e2, ru2⟩ :=rv2.get ey;refine codeAny_builtin ent_uloop ((Around.under_plainId plain_uloop _).symm ▸ ?_);refine wpAny_bind (m :=pyNext (.ref z)) (zs_item D Z p1 p2 (x :=u1) (y :=u2) (by simpa using e1) (by simpa using e2) fun h' fp' Z' hfp pr kp => ?_);have I1:Inv X pins σ H {s with heap :=h' } :=I.turneds (t' :=s.toks) (ch :=fp) kp hf;have hf':∀b ∈ fp', FpOk X pins H b :=fun b hb => by
   rcases hfp with e|e
   .exact hf b (e ▸ hb)
   .rw[e]at hb;rcases List.mem_cons.mp hb with q|q
    .rw[q];exact I.fpOk (Nat.le_refl _) (I.hok.fresh (Nat.le_refl _))
    .exact hf b (Z.sub b q)
  have I2 :=I1.pinned hf' Z'.obj;have ky :=hky kd (List.mem_of_getElem? ek);refine wpAny_bind (wpAny_holding (wpAny_bind (wpAny_tryCatch ?_)));unfold Builtin.Dict.pairItems;refine wpAny_bind (m :=typeOf _) (wpAny_typeOf (T := "tuple") ⟨_, pr, rfl⟩ ?_);rw[if_pos (by decide)];refine wpAny_bind (wpAny_seqItems pr rfl (wpAny_pure ?_));refine wpAny_holding (dx_set (by show A.units+_+20<cLine;omega) I2 dx ky dx1 ru1 ru2 (by omega) fun s' I' => ?_);obtain⟨dx', pe⟩ :=dx.put ky dx1 dy1;have pin :=fun b (hb:b ∈ fp') o (e:h'.get? b=some o) => I'.pin (b, o) (List.mem_append_right _ (List.mem_append_right _ (mem_pinsAt hb e)));have Z2 :=Z'.keep (h' :=s'.heap) fun b hb o e => (pin b hb o e).1;have hf2:∀b ∈ fp', FpOk X pins (upd H d (dX d (putE X.w kd x y kvs ee))) b :=fun b hb => by
   obtain⟨o, e, _⟩ :=Z'.obj b hb;exact⟨(pin b hb o e).2.1, (hf' b hb).2⟩
  have ez:(ds.zip es).drop k=(kd, vd)::(ds.zip es).drop (k+1) :=by
   have q:(ds.zip es)[k]?=some (kd, vd) :=List.getElem?_zip_eq_some.mpr ⟨ek, ev⟩;obtain⟨hk', eq⟩ :=List.getElem?_eq_some_iff.mp q;rw[List.drop_eq_getElem_cons hk', eq]
  rw[ez]at fin;refine wpAny_pure ⟨plainId_quiet plain_uloop _, ?_⟩;rw[show(k:Int)+1=((k+1:Nat):Int) by omega];have lp :=putP_length kd vd kvs;exact upd_loop hu hh D gm gu hky hle n (k+1) s' _ _ _ fp' (by omega) (by omega) I'.unpinned hf2 Z2 (gm _ _ pe g) dx' (by omega) fun s2 H2 e2 J2 x2 b2 => fin s2 H2 e2 J2 x2 fun b nb => (b2 b nb).trans (upd_ne nb)
end
theorem zga:entryFor table "zip.__getattribute__" = some Builtin.«object.__getattribute__» :=entryFor_alias (id' := "object.__getattribute__") (by kernel_rfl) (by decide +kernel) (by decide +kernel) (by kernel_rfl)
theorem zgn:typeLookup (.type "zip") "__getattr__" = pure none :=by rw[typeLookup_type, builtinLookup_eq_fast];kernel_rfl
theorem zkn:typeLookup (.type "zip") "keys" = pure none :=by rw[typeLookup_type, builtinLookup_eq_fast];kernel_rfl
theorem zip_miss(z:Addr)(vs:Array Value)(u:Tok):Meets (Builtin.«object.__getattribute__» ⟨[.ref z, .str "keys" u], []⟩) (fun A R s => s.heap.get? z=some {cls :=.type "zip", data :=.fields vs} /\ raisesAttr (.ref z) "keys" A R s) :=
 Meets.of_wp fun P w A R s ⟨hz, hr⟩ => by
  have ty:s.TypeIs (.ref z) "zip" :=⟨_, hz, rfl⟩;have no :=zkn;cases s
  wp_walk
  all_goals exact wpAny_raiseAttrError hr.1 hr.2 (attrMsg_fits (by decide +kernel) (by size_fits))
section
variable {prog:Program}{w:World}{A:Around}{E:Value -> Shared -> Prop}{s:Shared}{z:Addr}{vs:Array Value}
theorem zip_ask{u:Tok}{Q:Value -> Shared -> Prop}(hz:s.heap.get? z=some {cls :=.type "zip", data :=.fields vs})(hA:A.handled=none)(h:∀h' tk e, Heap.NewAttrErr s.heap h' e (.ref z) "keys" -> E (.ref e) {s with heap :=h', toks :=tk}):wpAny (model prog w) A (call (.builtin "zip.__getattribute__") ([.ref z] ++ [.str "keys" u])) Q E s :=
 call_meets F.slot_zip_getattribute ⟨_, hz, rfl⟩ zga (F.args_zip_getattribute_2 _ _) (zip_miss z vs u) ⟨hz, hA, h⟩
theorem zip_nokeys(hz:s.heap.get? z=some {cls :=.type "zip", data :=.fields vs})(hA:A.handled=none)
  (h:∀h' tk, (∀b o, s.heap.get? b=some o -> h'.get? b=some o) -> Q none {s with heap :=h', toks :=tk}):wpAny (model prog w) A (getAttr? (.ref z) "keys") Q E s :=by
 have lk :=F.slot_zip_getattribute.lookup;have bd :=F.slot_zip_getattribute.bind (.ref z);have sub :=sub_AttributeError;have no :=zgn;cases s
 repeat (first|with_reducible refine zip_ask hz hA fun h' tk' e x => ?_|wp_step)
 obtain⟨t', u', he⟩ :=x.there
 wp_walk
 exact h _ _ x.keeps
end
theorem bt_dict:bootBuiltins "dict" = some (.type "dict") :=by decide +kernel
section
variable {X:Cx}{pins:List (Addr × Obj)}{σ:St}{A:Around}{E:Value -> Shared -> Prop}{s:Shared}{t1 t2:Bool}{z TI TO i1 i2 l1 l2:Addr}{ds es:List PyData}{xs ys:List V}{H1:Hp}
theorem di_upd{d:Addr}{v:Value}{Q:Fin -> Shared -> Prop}(ty:s.TypeIs (.ref d) "dict")(h:wpAny (model X.prog X.w) A (Builtin.Dict.updateFrom "dict.__init__" d v [] .none) Q E s):wpAny (model X.prog X.w) A (Builtin.«dict.__init__» ⟨[.ref d, v], []⟩) Q E s :=
 wpAny_bind (m :=Builtin.Dict.selfAndRest _ _) (wpAny_bind (wpAny_notOrdered_dict ty (wpAny_pure h)))
theorem uf_zip{d:Addr}{vs:Array Value}{Q:Fin -> Shared -> Prop}(hz:s.heap.get? z=some {cls :=.type "zip", data :=.fields vs})(hh:A.handled=none)
  (h:∀h' tk, (∀b o, s.heap.get? b=some o -> h'.get? b=some o) -> wpAny (model X.prog X.w) A (pyIter (.ref z)) (fun it s' => wpAny (model X.prog X.w) A (again (.builtin "dict.update.loop" ⟨[.ref d, it, rawInt 0, .none], []⟩)) Q E s') E {s with heap :=h', toks :=tk}):wpAny (model X.prog X.w) A (Builtin.Dict.updateFrom "dict.__init__" d (.ref z) [] .none) Q E s :=
 wpAny_bind (m :=typeOf (.ref z)) (wpAny_typeOf (T := "zip") ⟨_, hz, rfl⟩ (wpAny_ite_true rfl (wpAny_bind (zip_nokeys hz hh fun h' tk kp => wpAny_ite_true rfl (wpAny_bind (wpAny_rule (wpAny_bind (h h' tk kp))))))))
theorem call_dictZ{Q:Value -> Shared -> Prop}(hu:A.units+64<cLine)(hh:A.handled=none)(D:Apart z TI TO i1 i2 l1 l2)(gu:∀H, Pers H1 H -> SqB t1 X.kx H l1 xs /\ SqB t2 X.kx H l2 ys /\ DenAll X.kx H ds xs /\ DenAll X.kx H es ys)
  (hky:∀x ∈ ds, kyD x=true) (hle:ds.length=es.length) (I:Inv X pins σ H1 s) (Z:ZipAt t1 t2 z TI TO i1 i2 l1 l2 0 s.heap) (hf:∀b ∈ [z, TI, TO, i1, i2], FpOk X pins H1 b)
  (fin:∀s' H' ee p, H1 p=none -> Inv X pins σ H' s' -> DxM X.kd H' p (putZ [] (ds.zip es)) ee -> (∀b, b ≠ p -> H' b=H1 b) -> Q (.ref p) s'):wpAny (model X.prog X.w) A (call (.type "dict") [.ref z]) Q E s :=by
 have fr:H1 s.heap.objs.size=none :=I.hok.fresh (Nat.le_refl _);refine callType_codes (Q₁ :=fun obj s₁ => obj = .ref s.heap.objs.size /\ s₁={s with heap :=s.heap.push {cls :=.type "dict", data :=.dict #[]} }) PySem.F.kt_called_dict (PySem.F.kt_typeCall_dict_1 _) PySem.F.entry_dict_init (kt_code_dict_new _ ⟨rfl, rfl⟩) ?_;rintro obj s₁ ⟨rfl, rfl⟩;have I1 :=I.laid (a :=s.heap.objs.size) (o :=.dK []) (h' :=s.heap.push {cls :=.type "dict", data :=.dict #[]}) (t' :=s.toks) (fun _ _ q => Heap.get?_push_of_some _ q) (Nat.le_refl _) (dk_empty s.heap I.big);have pe:Pers H1 (upd H1 s.heap.objs.size (.dK [])) :=pers_upd (.inl fr);have ty:Shared.TypeIs {s with heap :=s.heap.push {cls :=.type "dict", data :=.dict #[]} } (.ref s.heap.objs.size) "dict" :=⟨_, Heap.get?_push_size _ rfl, rfl⟩;have Z0:ZS t1 t2 z TI TO i1 i2 l1 l2 [z, TI, TO, i1, i2] 0 s.heap :=⟨Z.ti, Z.to, Z.s1, Z.s2, .inl ⟨rfl, Z.z⟩⟩;have Z1 :=Z0.keep (h' :=s.heap.push {cls :=.type "dict", data :=.dict #[]}) fun b _ o q => Heap.get?_push_of_some _ q;have hz1:(s.heap.push {cls :=.type "dict", data :=.dict #[]}).get? z=some _ :=Heap.get?_push_of_some _ Z.z;refine⟨ty, PySem.F.args_dict_init_2 _ _, ?_⟩;refine di_upd ty (uf_zip hz1 hh fun h2 tk kp => ?_);have Z2 :=Z1.keep (h' :=h2) fun b _ o q => kp b o q;have hz2:IsZip h2 z TI TO .none :=by
  rcases Z2.zz with⟨_, q⟩|⟨T, b, o, e, _⟩
  .exact q
  .exact absurd (congrArg List.length e) (by simp)
 refine wpAny_pyIter_zip hz2 ?_;have I2:Inv X pins σ (upd H1 s.heap.objs.size (.dK [])) {s with heap :=h2, toks :=tk} :=I1.kept (t' :=tk) kp;have hf2:∀b ∈ [z, TI, TO, i1, i2], FpOk X pins (upd H1 s.heap.objs.size (.dK [])) b :=fun b hb => ⟨(upd_ne (Nat.ne_of_lt (Z0.lt b hb))).trans (hf b hb).1, (hf b hb).2⟩;refine wpAny_pure ⟨plainId_quiet plain_uloop _, ?_⟩;refine upd_loop (X :=X) (pins :=pins) (σ :=σ) (A :=A.in1) (by show A.units+1+40<cLine;omega) hh D (G :=Pers H1) (fun _ _ p q => q.trans p) gu hky hle ds.length 0 {s with heap :=h2, toks :=tk} _ [] [] _ rfl (Nat.zero_le _) I2 hf2 Z2 pe ⟨by simp only[DenKV], List.nodup_nil, rfl, .inr ⟨upd_same, rfl⟩⟩ (Nat.zero_le _) fun s' H' ee I' dx hb => ?_;exact⟨rfl, fin s' H' ee _ fr I' dx fun b nb => (hb b nb).trans (upd_ne nb)⟩
end
def tDictZ(K:Kx)(ta:TA):TE :=fun σ H Q => ta σ H fun vs H1 => ∃t1 t2 l1 l2 ds es xs ys, vs=[.ref l1, .ref l2] /\ (∀H2, Pers H1 H2 -> SqB t1 K H2 l1 xs /\ SqB t2 K H2 l2 ys /\ DenAll K H2 ds xs /\ DenAll K H2 es ys) /\ (∀x ∈ ds, kyD x=true) /\ ds.length=es.length /\ ds ≠ [] /\
 ∀p ob ee, H1 p=none -> DenKV K (upd H1 p (.frz ob (dX p ee))) (putZ [] (ds.zip es)) ee -> ((putZ [] (ds.zip es)).map (·.1)).Nodup -> kyA (putZ [] (ds.zip es))=true -> putZ [] (ds.zip es) ≠ [] -> Q (.ref p) (upd H1 p (.frz ob (dX p ee)))
section
variable {X:Cx}{a b:Expr}{ta:TA}{ws:WA}{p p0 pos pos0:Pos}
theorem pe_dictZ(hu:X.A.units+64<cLine)(hc:X.calm=true)(hgd:Gl X "dict")(hmd:X.mg "dict" = none)(hg:Gl X "zip")(hm:X.mg "zip" = none)(ha:PA X [a, b] ta)
  (hs:starEach [a, b] X.env=[(false, eval a X.env), (false, eval b X.env)]) (hs2:starEach [b] X.env=[(false, eval b X.env)]) (hst:starEach [.Call (.Name "zip" p) [a, b] [] pos] X.env=[(false, eval (.Call (.Name "zip" p) [a, b] [] pos) X.env)]):PE X (.Call (.Name "dict" p0) [.Call (.Name "zip" p) [a, b] [] pos] [] pos0) (tDictZ X.kx ta) :=by
 intro pins s σ H Q I h;refine Call_ (ld_blt I hgd hmd bt_dict (PyProof.Rows.callWith_type1 ?_ hst rfl));rw[hst];refine Calls.spliced_cons ?_;refine Call_ (ld_blt I hg hm bt_zip' (PyProof.Rows.callWith_type1 (thn (ha pos pins s σ H _ I h) fun us s1 ⟨vs, H1, I1, r1, q1⟩ => ?_) (by rw[hs, hs2]) (by rw[hs2];rfl)));obtain⟨t1, t2, l1, l2, ds, es, xs, ys, rfl, gu, hky, hle, hne, q⟩ :=q1
 cases r1 with
 | cons r rr =>
  cases rr with
  | cons r' rr =>
   cases rr;cases r;cases r';obtain⟨g1, g2, _, _⟩ :=gu H1 (.refl _);obtain⟨its1, rv1, p1, _⟩ :=I1.sqb g1;obtain⟨its2, rv2, p2, _⟩ :=I1.sqb g2;refine call_zip p1 p2 fun h' Z hk => ?_;refine Calls.spliced_nil ?_;have lt:∀{t:Bool}{l:Addr}{its:Array Value}, SubS t s1.heap l its -> l<s1.heap.objs.size :=fun {t l its} p => by
    cases t
    .exact let ⟨_, e, _⟩ :=(show s1.heap.IsList l its from p);Heap.lt_size e
    .exact let ⟨_, e, _⟩ :=(show s1.heap.IsTuple l its from p);Heap.lt_size e
   have I2:Inv X pins σ H1 {s1 with heap :=h' } :=I1.kept (t' :=s1.toks) hk;refine call_dictZ hu (I1.ok.hd hc) (apart_new (lt p1) (lt p2)) gu hky hle I2 Z (fun c hc' => ?_) fun s' H' ee p hp I' dx hb => ?_
   .have hle:s1.heap.objs.size ≤ c :=by
     have hc2:c ∈ ([s1.heap.objs.size+4, s1.heap.objs.size+2, s1.heap.objs.size+3, s1.heap.objs.size, s1.heap.objs.size+1]:List Nat) :=hc';simp only[List.mem_cons, List.not_mem_nil, or_false]at hc2;rcases hc2 with rfl|rfl|rfl|rfl|rfl<;>first|exact Nat.le_refl _|exact Nat.le_add_right _ _
    exact I1.fpOk hle (I1.hok.fresh hle)
   .have hz:H' p=some (dX p ee) :=by
     rcases dx.2.2.2 with⟨q, _⟩|⟨_, q⟩
     .exact q
     .exact absurd q (putZ_ne hne hle)
    obtain⟨ob, I3⟩ :=I'.freezeU hz rfl;have e1:upd H' p (.frz ob (dX p ee))=upd H1 p (.frz ob (dX p ee)) :=by
     funext c
     by_cases w:c=p
     .rw[w, upd_same, upd_same]
     .rw[upd_ne w, upd_ne w];exact hb c w
    have pf:Pers H' (upd H' p (.frz ob (dX p ee))) :=pers_upd (.inr ⟨_, hz, rfl⟩);rw[e1]at I3 pf;exact⟨.ref p, _, I3, rfl, q p ob ee hp (dx.1.mono pf) dx.2.1 dx.2.2.1 (putZ_ne hne hle)⟩
def wDictZ(ws:WA):WE :=fun m K => ws m fun rs m' => match rs with|[r1, r2] => ∃t1 ds t2 es, imS r1=some (t1, ds) /\ imS r2=some (t2, es) /\ (∀x ∈ ds, kyD x=true) /\ ds.length=es.length /\ ds ≠ [] /\ K (.imm (.dict (putZ [] (ds.zip es)))) m'|_ => False
theorem me_dictZ(hu:X.A.units+64<cLine)(hmd:X.mg "dict" = none)(hm:X.mg "zip" = none)(ha:MA X [a, b] ws)(hc:X.calm=true :=by rfl)(hgd:Gl X "dict" :=by rfl)(hg:Gl X "zip" :=by rfl)(hs:starEach [a, b] X.env=[(false, eval a X.env), (false, eval b X.env)] :=by first|exact(star_cons rfl).trans (congrArg _ (star_one rfl))|rfl)(hs2:starEach [b] X.env=[(false, eval b X.env)] :=by first|exact star_one rfl|rfl)
  (hst:starEach [.Call (.Name "zip" p) [a, b] [] pos] X.env=[(false, eval (.Call (.Name "zip" p) [a, b] [] pos) X.env)] :=by first|exact star_one rfl|rfl):ME X (.Call (.Name "dict" p0) [.Call (.Name "zip" p) [a, b] [] pos] [] pos0) (wDictZ ws) :=(pe_dictZ hu hc hgd hmd hg hm ha hs hs2 hst).wk fun σ H Q ⟨α, m, Kc, Rl, hw, fin⟩ => by
 refine⟨α, m, _, Rl, hw, fun rs m' vs H' k n Rl' rr F => ?_⟩
 cases rr with
 |nil => exact k.elim
 | cons h1 rr =>
  cases rr with
  |nil => exact k.elim
  |cons h2 rr =>
  cases rr with
  |cons _ _ => exact k.elim
  |nil =>
  obtain⟨t1, ds, t2, es, e1, e2, hky, hle, hne, k⟩ :=k;obtain⟨l1, xs, rfl, g1, q1, p1⟩ :=sqb_of h1 e1;obtain⟨l2, ys, rfl, g2, q2, p2⟩ :=sqb_of h2 e2;refine⟨t1, t2, l1, l2, ds, es, xs, ys, rfl, fun H2 pe => ⟨p1 H2 pe, p2 H2 pe, g1.mono pe, g2.mono pe⟩, hky, hle, hne, fun c ob ee hp dk nd ky ne => ?_⟩;have hpα:c ∉ ads α :=Rl'.out hp;have pe:Pers H' (upd H' c (.frz ob (dX c ee))) :=pers_upd (.inl hp);have fr:Frm α H (upd H' c (.frz ob (dX c ee))) :=fun b o eb nb => by
   have q :=F b o eb nb;have ne:b ≠ c :=fun e => by rw[e, hp]at q;cases q
   rw[upd_ne ne];exact q
  have old:Ext X.kx.eb.np α H α (upd H' c (.frz ob (dX c ee))) :=⟨rfl, fr, fun _ h => .inl h, fun b hb => by
   have hbp:b ≠ c :=fun e => hpα (e ▸ hb);rw[upd_ne hbp];obtain⟨o', e', _⟩ :=Rl'.mem hb;exact⟨o', e'⟩⟩
  refine fin _ m' _ _ k n (Rl'.at' pe (fun b hb => upd_ne fun e => hpα (e ▸ hb)) (Rl.ebx.trans old)) (show Den X.kx _ (.dict (putZ [] (ds.zip es))) (.ref c)from ?_) fr;simp only[Den];exact⟨c, rfl, .inl ⟨_, ⟨ob, upd_same⟩, ky_keysOk ky ne nd, dk⟩⟩
theorem me_dictZ'(hu:X.A.units+64<cLine)(hmd:X.mg "dict" = none)(hm:X.mg "zip" = none)(ha:EA X [a, b] ws)(hc:X.calm=true :=by rfl)(hgd:Gl X "dict" :=by rfl)(hg:Gl X "zip" :=by rfl)(hs:starEach [a, b] X.env=[(false, eval a X.env), (false, eval b X.env)] :=by first|exact(star_cons rfl).trans (congrArg _ (star_one rfl))|rfl)(hs2:starEach [b] X.env=[(false, eval b X.env)] :=by first|exact star_one rfl|rfl)
  (hst:starEach [.Call (.Name "zip" p) [a, b] [] pos] X.env=[(false, eval (.Call (.Name "zip" p) [a, b] [] pos) X.env)] :=by first|exact star_one rfl|rfl):EE X (.Call (.Name "dict" p0) [.Call (.Name "zip" p) [a, b] [] pos] [] pos0) (wDictZ ws) :=⟨me_dictZ hu hmd hm ha.h hc hgd hg hs hs2 hst⟩
theorem x_dictZ{m:MSt}{K:R -> MSt -> Prop}(h:ws m fun rs m' => match rs with|[r1, r2] => ∃t1 ds t2 es, imS r1=some (t1, ds) /\ imS r2=some (t2, es) /\ (∀x ∈ ds, kyD x=true) /\ ds.length=es.length /\ ds ≠ [] /\ K (.imm (.dict (putZ [] (ds.zip es)))) m'|_ => False):wDictZ ws m K :=h
end
end L2
namespace K
open PySem L2 M7
variable{i k n:Nat}{l o:List Nat}
structure Pm(n:Nat)(o:List Nat):Prop where
 pm:o.Perm (List.range n)
theorem Pm.ln(P:Pm n o):o.length=n :=by rw[P.pm.length_eq, List.length_range]
theorem Pm.lt(P:Pm n o):∀k ∈ o, k<n :=fun k hk => List.mem_range.mp (P.pm.mem_iff.mp hk)
theorem Pm.mem(P:Pm n o)(hk:k<n):k ∈ o :=P.pm.mem_iff.mpr (List.mem_range.mpr hk)
theorem Pm.at(P:Pm n o)(hk:k<n):o[idx o k]?=some k /\ idx o k<n :=by
 have e :=(idx_spec (P.mem hk)).1;exact⟨e, by rw[<- P.ln];exact(List.getElem?_eq_some_iff.mp e).1⟩
theorem Pm.inj(P:Pm n o){j:Nat}(h1:o[i]?=some k)(h2:o[j]?=some k):i=j :=by
 obtain⟨l1, e1⟩ :=List.getElem?_eq_some_iff.mp h1;obtain⟨l2, e2⟩:∃l2, o[j]=k :=List.getElem?_eq_some_iff.mp h2;have pw :=List.pairwise_iff_getElem.mp (P.pm.nodup_iff.mpr List.nodup_range);rcases Nat.lt_trichotomy i j with z|z|z
 .exact absurd (e1.trans e2.symm) (pw i j l1 l2 z)
 .exact z
 .exact absurd (e2.trans e1.symm) (pw j i l2 l1 z)
def tn{α:Type}(d:α)(o:List Nat)(l:List α):List α :=o.map fun k => l.getD k d
section
variable {α:Type}{d:α}{n:Nat}{o:List Nat}{l:List α}{k:Nat}
theorem tn_len(P:Pm n o):(tn d o l).length=n :=by unfold tn;rw[List.length_map, P.ln]
theorem tn_get?{j:Nat}(e:o[i]?=some j):(tn d o l)[i]?=some (l.getD j d) :=by unfold tn;rw[List.getElem?_map, e];rfl
theorem tn_get(P:Pm n o)(hk:k<n):(tn d o l).getD (idx o k) d=l.getD k d :=getD_of (tn_get? (P.at hk).1)
theorem tn_set(P:Pm n o)(hl:l.length=n)(hk:k<n)(x:α):tn d o (l.set k x)=(tn d o l).set (idx o k) x :=by
 refine List.ext_getElem? fun i => ?_
 by_cases hi:i<n
 .obtain⟨j, ej⟩:∃j, o[i]?=some j :=⟨_, List.getElem?_eq_getElem (by rw[P.ln];exact hi)⟩;rw[tn_get? ej]
  by_cases c:j=k
  .subst c;rw[P.inj ej (P.at hk).1, List.getElem?_set_self (by rw[tn_len P];exact(P.at hk).2), List.getD_eq_getElem?_getD, List.getElem?_set_self (by omega)];rfl
  .have ne:idx o k ≠ i :=fun z => c (by have :=(P.at hk).1;rw[z, ej]at this;exact Option.some.inj this);rw[List.getElem?_set_ne ne, tn_get? ej, List.getD_eq_getElem?_getD, List.getElem?_set_ne (Ne.symm c), <- List.getD_eq_getElem?_getD]
 .rw[List.getElem?_eq_none (by rw[tn_len P];omega), List.getElem?_eq_none (by rw[List.length_set, tn_len P];omega)]
theorem tn_map{β:Type}{f:α -> β}(P:Pm n o)(hl:l.length=n)(e:β):tn e o (l.map f)=(tn d o l).map f :=by
 unfold tn;rw[List.map_map];refine List.map_congr_left fun k hk => ?_;have :=P.lt k hk;rw[List.getD_eq_getElem?_getD, List.getElem?_map, List.getElem?_eq_getElem (by omega)];show f _=f (l.getD k d);rw[List.getD_eq_getElem?_getD, List.getElem?_eq_getElem (by omega)];rfl
theorem tn_rep(P:Pm n o)(x:α):tn x o (List.replicate n x)=List.replicate n x :=by
 refine List.ext_getElem? fun i => ?_
 by_cases hi:i<n
 .obtain⟨j, ej⟩:∃j, o[i]?=some j :=⟨_, List.getElem?_eq_getElem (by rw[P.ln];exact hi)⟩;rw[tn_get? ej, List.getElem?_replicate, if_pos hi, List.getD_eq_getElem?_getD, List.getElem?_replicate]
  split<;>rfl
 .rw[List.getElem?_eq_none (by rw[tn_len P];omega), List.getElem?_eq_none (by rw[List.length_replicate];omega)]
end
def bk(n:Nat)(o l:List Nat):List Nat :=(List.range n).map fun j => l.getD (idx o j) 0
theorem bk_tn(P:Pm n o)(hl:l.length=n):bk n o (tn 0 o l)=l :=by
 unfold bk;refine List.ext_getElem? fun i => ?_
 by_cases hi:i<n
 .rw[List.getElem?_map, List.getElem?_range hi];show some ((tn 0 o l).getD (idx o i) 0)=_;rw[tn_get P hi, List.getD_eq_getElem?_getD, List.getElem?_eq_getElem (by omega)];rfl
 .rw[List.getElem?_eq_none (by simpa using hi), List.getElem?_eq_none (by omega)]
def s0:Srv :=⟨0, 0, 0⟩
def hT(h:Hall)(o:List Nat):Hall :=⟨h.a, h.b, tn s0 o h.ss, h.mv⟩
section
variable {h:Hall}{o:List Nat}{r:Rule}{l:List Nat}{t:Nat}
theorem hT_len(P:Pm h.ss.length o):(hT h o).ss.length=h.ss.length :=tn_len P
theorem hT_ok(ho:h.Ok)(P:Pm h.ss.length o):(hT h o).Ok :=by
 refine⟨ho.a1, ho.a2, ho.b1, ho.b2, by rw[hT_len P];exact ho.n1, by rw[hT_len P];exact ho.n4, fun s hs => ?_⟩;obtain⟨k, hk, rfl⟩ :=List.mem_map.mp hs;have :=P.lt k hk;rw[List.getD_eq_getElem?_getD, List.getElem?_eq_getElem this];exact ho.ok _ (List.getElem_mem _)
theorem hT_rn(P:Pm h.ss.length o)(hk:k<h.ss.length):(hT h o).rn (idx o k)=h.rn k :=by
 unfold Hall.rn Hall.rs hT;rw[<- tn_map (f :=Srv.r) (d :=s0) P rfl 0];exact tn_get P hk
theorem hT_an(P:Pm h.ss.length o)(hk:k<h.ss.length):(hT h o).an (idx o k)=h.an k :=by
 unfold Hall.an hT;rw[<- tn_map (f :=Srv.a) (d :=s0) P rfl 0];exact tn_get P hk
theorem hT_bn(P:Pm h.ss.length o)(hk:k<h.ss.length):(hT h o).bn (idx o k)=h.bn k :=by
 unfold Hall.bn hT;rw[<- tn_map (f :=Srv.b) (d :=s0) P rfl 0];exact tn_get P hk
theorem hT_lines(P:Pm h.ss.length o)(L:Lines h l):Lines (hT h o) (tn 0 o l) :=by
 refine⟨by rw[tn_len P, hT_len P], fun i s x e1 e2 => ?_⟩;have hi:i<o.length :=by have :=(List.getElem?_eq_some_iff.mp e1).1;rw[hT_len P]at this;rw[P.ln];exact this
 obtain⟨j, ej⟩:∃j, o[i]?=some j :=⟨_, List.getElem?_eq_getElem hi⟩;have hj :=P.lt j (List.mem_of_getElem? ej);have e1':(tn s0 o h.ss)[i]?=some s :=e1;rw[tn_get? ej, List.getD_eq_getElem?_getD, List.getElem?_eq_getElem hj]at e1';rw[tn_get? ej]at e2;have hs:h.ss[j]?=some s :=by rw[List.getElem?_eq_getElem hj];exact e1'
 have hx:l[j]?=some x :=by
  rw[List.getD_eq_getElem?_getD, List.getElem?_eq_getElem (by rw[L.1];exact hj)]at e2;rw[List.getElem?_eq_getElem (by rw[L.1];exact hj)];exact e2
 exact L.2 j s x hs hx
def rT(h:Hall)(o:List Nat):Rule -> Rule
 | .told ps => .told ((M3.allR (hT h o).rs).map fun l => idx o (ps.getD (placeF 0 h.rs (bk h.ss.length o l)) 0))
 |r => r
def mvT(o:List Nat):Mv -> Mv
 | .come p => .come (p.map (idx o))
 | .done k => .done (idx o k)
 | .still => .still
theorem mvT_ok(P:Pm h.ss.length o){mv:Mv}(hm:mv.Ok h):(mvT o mv).Ok (hT h o) :=by
 cases mv with
 |come p =>
  refine⟨fun z => hm.ne (List.map_eq_nil_iff.mp z), fun k hk => ?_, by rw[List.length_map];exact hm.le⟩;obtain⟨j, hj, rfl⟩ :=List.mem_map.mp hk;rw[hT_len P];exact(P.at (hm.lt j hj)).2
 |done k => show _<_;rw[hT_len P];exact(P.at hm).2
 |still => trivial
theorem pick_T{f g:Nat -> Nat -> Bool}{n:Nat}(e:∀a b, a<n -> b<n -> g (idx o a) (idx o b)=f a b):∀{p:List Nat}{b:Nat}, b<n -> (∀k ∈ p, k<n) -> pick g (idx o b) (p.map (idx o))=idx o (pick f b p)
 |[], _, _, _ => rfl
 |k::p, b, hb, hp => by
  have hk :=hp k List.mem_cons_self;show pick g (if g (idx o k) (idx o b)then idx o k else idx o b) (p.map (idx o))=idx o (pick f (if f k b then k else b) p);rw[e k b hk hb]
  cases f k b with
  |true => exact pick_T e hk fun z hz => hp z (List.mem_cons_of_mem _ hz)
  |false => exact pick_T e hb fun z hz => hp z (List.mem_cons_of_mem _ hz)
theorem headD_T{p:List Nat}(hp:p ≠ []):(p.map (idx o)).headD 0=idx o (p.headD 0) :=by
 cases p with
 |nil => exact(hp rfl).elim
 |cons a p => rfl
def OneT(h:Hall)(r:Rule):Prop :=r = .turns -> h.ss.length=1
theorem sent_T(ho:h.Ok)(hr:r.Ok h)(P:Pm h.ss.length o)(O:OneT h r)(S:St h r l t){p:List Nat}(hp:Ord h.ss.length p):sent (hT h o) (rT h o r) (tn 0 o l) t (p.map (idx o))=idx o (sent h r l t p) :=by
 have hd:p.headD 0<h.ss.length :=by
  cases p with
  |nil => exact(hp.ne rfl).elim
  |cons a p => exact hp.lt a List.mem_cons_self
 have gs:∀a, a<h.ss.length -> (tn 0 o l).getD (idx o a) 0=l.getD a 0 :=fun a ha => tn_get P ha
 cases r with
 |random => exact headD_T hp.ne
 |turns =>
  have n1 :=O rfl;have t0:t=0 :=by have :=S.tn rfl;omega
  show t=idx o t;have :=(P.at (k :=t) (by omega)).2;omega
 |two =>
  show pick (shorter (tn 0 o l)) ((p.map (idx o)).headD 0) ((p.map (idx o)).take 2)=idx o (pick (shorter l) (p.headD 0) (p.take 2));rw[headD_T hp.ne, <- List.map_take];exact pick_T (n :=h.ss.length) (fun a b ha hb => by unfold shorter;rw[gs a ha, gs b hb]) hd fun k hk => hp.lt k (List.mem_of_mem_take hk)
 |least =>
  show pick (shorter (tn 0 o l)) ((p.map (idx o)).headD 0) (p.map (idx o))=idx o (pick (shorter l) (p.headD 0) p);rw[headD_T hp.ne];exact pick_T (n :=h.ss.length) (fun a b ha hb => by unfold shorter;rw[gs a ha, gs b hb]) hd hp.lt
 |quick =>
  show pick (quicker (hT h o) (tn 0 o l)) ((p.map (idx o)).headD 0) (p.map (idx o))=idx o (pick (quicker h l) (p.headD 0) p);rw[headD_T hp.ne];exact pick_T (n :=h.ss.length) (fun a b ha hb => by unfold quicker;rw[gs a ha, gs b hb, hT_an P ha, hT_an P hb, hT_bn P ha, hT_bn P hb]) hd hp.lt
 |told ps =>
  have pl :=place_at (hT_lines P S.ln).fits;show((M3.allR (hT h o).rs).map fun l => idx o (ps.getD (placeF 0 h.rs (bk h.ss.length o l)) 0)).getD (placeF 0 (hT h o).rs (tn 0 o l)) 0=idx o (ps.getD (placeF 0 h.rs l) 0);rw[getD_of (by rw[List.getElem?_map, pl];rfl)];show idx o (ps.getD (placeF 0 h.rs (bk h.ss.length o (tn 0 o l))) 0)=_;rw[bk_tn P S.ln.1]
theorem settle_no(hm:h.mv=false)(l:List Nat):settle h l=l :=settleN_none (by unfold shiftF;rw[if_neg (by rw[hm];simp)]) _
theorem ask_no(hm:h.mv=false)(A:List (List Nat)):askSettle h A=A :=askN_none (by unfold shiftF;rw[if_neg (by rw[hm];simp)]) _
theorem come_T(P:Pm h.ss.length o)(L:Lines h l)(hk:k<h.ss.length):comeTo (hT h o) (tn 0 o l) (idx o k)=(tn 0 o (comeTo h l k).1, (comeTo h l k).2) :=by
 unfold comeTo;rw[tn_get P hk, hT_rn P hk]
 by_cases c:l.getD k 0=h.rn k
 .rw[if_pos c, if_pos c]
 .rw[if_neg c, if_neg c, tn_set P L.1 hk]
theorem done_T(P:Pm h.ss.length o)(L:Lines h l)(hk:k<h.ss.length):doneAt (tn 0 o l) (idx o k)=(tn 0 o (doneAt l k).1, (doneAt l k).2) :=by
 unfold doneAt;rw[tn_get P hk]
 by_cases c:l.getD k 0=0
 .rw[if_pos c, if_pos c]
 .rw[if_neg c, if_neg c, tn_set P L.1 hk]
theorem turnB_T(P:Pm h.ss.length o):turnB (hT h o) (rT h o r) t=turnB h r t :=by
 cases r with
 |turns => show(t+1)%(hT h o).ss.length=(t+1)%h.ss.length;rw[hT_len P]
 |_ => rfl
theorem moved_T(ho:h.Ok)(hm:h.mv=false)(hr:r.Ok h)(P:Pm h.ss.length o)(O:OneT h r)(S:St h r l t){mv:Mv}(hv:mv.Ok h):moved (hT h o) (rT h o r) (tn 0 o l) t (mvT o mv)=(tn 0 o (moved h r l t mv).1, (moved h r l t mv).2.1, (moved h r l t mv).2.2) :=by
 have sT :=settle_no (h :=hT h o) hm;have sN :=settle_no (h :=h) hm
 cases mv with
 |come p =>
  show(settle (hT h o) (comeTo (hT h o) (tn 0 o l) (sent (hT h o) (rT h o r) (tn 0 o l) t (p.map (idx o)))).1, turnB (hT h o) (rT h o r) t, (comeTo (hT h o) (tn 0 o l) (sent (hT h o) (rT h o r) (tn 0 o l) t (p.map (idx o)))).2)=(tn 0 o (settle h (comeTo h l (sent h r l t p)).1), turnB h r t, (comeTo h l (sent h r l t p)).2);rw[sent_T ho hr P O S hv, come_T P S.ln (sent_lt ho hr S.ln hv S.tn), sT, sN, turnB_T P]
 |done k =>
  show(settle (hT h o) (doneAt (tn 0 o l) (idx o k)).1, t, (doneAt (tn 0 o l) (idx o k)).2)=(tn 0 o (settle h (doneAt l k).1), t, (doneAt l k).2);rw[done_T P S.ln hv, sT, sN]
 |still =>
  show(settle (hT h o) (tn 0 o l), t, Wd.none)=(tn 0 o (settle h l), t, Wd.none);rw[sT, sN]
theorem rT_ok(ho:h.Ok)(hr:r.Ok h)(P:Pm h.ss.length o):(rT h o r).Ok (hT h o) :=by
 cases r with
 |told ps =>
  refine⟨by rw[List.length_map], fun q hq => ?_⟩;obtain⟨l, _, rfl⟩ :=List.mem_map.mp hq;rw[hT_len P];refine(P.at ?_).2
  cases e:ps[placeF 0 h.rs (bk h.ss.length o l)]? with
  |none => rw[List.getD_eq_getElem?_getD, e];exact ho.n1
  |some x => rw[List.getD_eq_getElem?_getD, e];exact hr.2 x (List.mem_of_getElem? e)
 |_ => exact trivial
theorem zer_T(P:Pm h.ss.length o):zer (hT h o)=tn 0 o (zer h) :=by
 unfold zer;rw[hT_len P, tn_rep P]
theorem stands_T(ho:h.Ok)(hm:h.mv=false)(hr:r.Ok h)(P:Pm h.ss.length o)(O:OneT h r):∀{R:List Mv}{p:List Nat × Nat}, (∀mv ∈ R, mv.Ok h) -> St h r p.1 p.2 -> standsF (hT h o) (rT h o r) (tn 0 o p.1, p.2) (R.map (mvT o))=(standsF h r p R).map fun q => (tn 0 o q.1, q.2)
 |[], _, _, _ => rfl
 |mv::R, p, hR, S => by
  have hv :=hR mv List.mem_cons_self;have ih :=stands_T ho hm hr P O (R :=R) (p :=((moved h r p.1 p.2 mv).1, (moved h r p.1 p.2 mv).2.1)) (fun z hz => hR z (List.mem_cons_of_mem _ hz)) (moved_st ho hr S hv);show(tn 0 o p.1, p.2)::standsF (hT h o) (rT h o r) ((moved (hT h o) (rT h o r) (tn 0 o p.1) p.2 (mvT o mv)).1, (moved (hT h o) (rT h o r) (tn 0 o p.1) p.2 (mvT o mv)).2.1) (R.map (mvT o))=_;rw[moved_T ho hm hr P O S hv, ih];rfl
theorem count_T(ho:h.Ok)(hm:h.mv=false)(hr:r.Ok h)(P:Pm h.ss.length o)(O:OneT h r):∀{R:List Mv}{p:List Nat × Nat}{c:Cn}, (∀mv ∈ R, mv.Ok h) -> St h r p.1 p.2 -> countF (hT h o) (rT h o r) (tn 0 o p.1, p.2) c (R.map (mvT o))=countF h r p c R
 |[], _, _, _, _ => rfl
 |mv::R, p, c, hR, S => by
  have hv :=hR mv List.mem_cons_self;have ih :=count_T ho hm hr P O (R :=R) (p :=((moved h r p.1 p.2 mv).1, (moved h r p.1 p.2 mv).2.1)) (c :=c.b (moved h r p.1 p.2 mv).2.2) (fun z hz => hR z (List.mem_cons_of_mem _ hz)) (moved_st ho hr S hv);show countF (hT h o) (rT h o r) ((moved (hT h o) (rT h o r) (tn 0 o p.1) p.2 (mvT o mv)).1, (moved (hT h o) (rT h o r) (tn 0 o p.1) p.2 (mvT o mv)).2.1) (c.b (moved (hT h o) (rT h o r) (tn 0 o p.1) p.2 (mvT o mv)).2.2) (R.map (mvT o))=_;rw[moved_T ho hm hr P O S hv];exact ih
def scT(o:List Nat)(x:Sc):Sc :=⟨tn 0 o x.l, x.t, x.c, tn [] o x.A⟩
theorem kOf_T(ho:h.Ok)(hr:r.Ok h)(P:Pm h.ss.length o)(O:OneT h r)(S:St h r l t){mv:Mv}(hv:mv.Ok h)(ns:mv ≠ .still):kOf (hT h o) (rT h o r) (tn 0 o l) t (mvT o mv)=idx o (kOf h r l t mv) :=by
 cases mv with
 |come p => exact sent_T ho hr P O S hv
 |done k => rfl
 |still => exact(ns rfl).elim
theorem ask_T(P:Pm h.ss.length o){A:List (List Nat)}(hA:A.length=h.ss.length)(hk:k<h.ss.length)(w:Wd)(num:Nat):askB (tn [] o A) (idx o k) w num=tn [] o (askB A k w num) :=by
 cases w with
 |taken => show(tn [] o A).set _ ((tn [] o A).getD (idx o k) [] ++ [num])=tn [] o (A.set k _);rw[tn_get P hk, tn_set P hA hk]
 |served => show(tn [] o A).set _ (((tn [] o A).getD (idx o k) []).drop 1)=tn [] o (A.set k _);rw[tn_get P hk, tn_set P hA hk]
 |away => rfl
 |none => rfl
theorem nx_T(ho:h.Ok)(hm:h.mv=false)(hr:r.Ok h)(P:Pm h.ss.length o)(O:OneT h r){x:Sc}(X:x.Ok h r){mv:Mv}(hv:mv.Ok h):(scT o x).nx (hT h o) (rT h o r) (mvT o mv)=scT o (x.nx h r mv) :=by
 have S :=X.st;have hA:x.A.length=h.ss.length :=by rw[<- szs_len, X.sz];exact S.ln.1
 have m :=moved_T ho hm hr P O S hv;show Sc.mk (moved (hT h o) (rT h o r) (tn 0 o x.l) x.t (mvT o mv)).1 (moved (hT h o) (rT h o r) (tn 0 o x.l) x.t (mvT o mv)).2.1 (x.c.b (moved (hT h o) (rT h o r) (tn 0 o x.l) x.t (mvT o mv)).2.2) (askSettle (hT h o) (askB (tn [] o x.A) (kOf (hT h o) (rT h o r) (tn 0 o x.l) x.t (mvT o mv)) (moved (hT h o) (rT h o r) (tn 0 o x.l) x.t (mvT o mv)).2.2 x.c.c))=Sc.mk (tn 0 o (moved h r x.l x.t mv).1) (moved h r x.l x.t mv).2.1 (x.c.b (moved h r x.l x.t mv).2.2) (tn [] o (askSettle h (askB x.A (kOf h r x.l x.t mv) (moved h r x.l x.t mv).2.2 x.c.c)));rw[m, ask_no (h :=hT h o) hm, ask_no (h :=h) hm]
 by_cases ns:mv = .still
 .subst ns;rfl
 .rw[kOf_T ho hr P O S hv ns, ask_T P hA (kOf_lt ho hr S hv)]
theorem stays_T(ho:h.Ok)(hm:h.mv=false)(hr:r.Ok h)(P:Pm h.ss.length o)(O:OneT h r):∀{R:List Mv}{x:Sc}{F:List Fo}, (∀mv ∈ R, mv.Ok h) -> x.Ok h r -> staysF (hT h o) (rT h o r) (scT o x) F (R.map (mvT o))=staysF h r x F R
 |[], _, _, _, _ => rfl
 | mv::R, x, F, hR, X => by
  have hv :=hR mv List.mem_cons_self;have S :=X.st;have ih :=stays_T ho hm hr P O (R :=R) (x :=x.nx h r mv) (F :=foB F (wdOf h r x mv) (numOf h r x mv) (R.length+1)) (fun z hz => hR z (List.mem_cons_of_mem _ hz)) (Sc.nx_ok ho hr X hv);show staysF (hT h o) (rT h o r) ((scT o x).nx (hT h o) (rT h o r) (mvT o mv)) (foB F (wdOf (hT h o) (rT h o r) (scT o x) (mvT o mv)) (numOf (hT h o) (rT h o r) (scT o x) (mvT o mv)) ((R.map (mvT o)).length+1)) (R.map (mvT o))=staysF h r (x.nx h r mv) (foB F (wdOf h r x mv) (numOf h r x mv) (R.length+1)) R;have ew:wdOf (hT h o) (rT h o r) (scT o x) (mvT o mv)=wdOf h r x mv :=by
   show(moved (hT h o) (rT h o r) (tn 0 o x.l) x.t (mvT o mv)).2.2=_;rw[moved_T ho hm hr P O S hv];rfl
  rw[nx_T ho hm hr P O X hv, List.length_map, ew]
  by_cases ns:mv = .still
  .subst ns;exact ih
  .have en:numOf (hT h o) (rT h o r) (scT o x) (mvT o mv)=numOf h r x mv :=by
    show((tn [] o x.A).getD (kOf (hT h o) (rT h o r) (tn 0 o x.l) x.t (mvT o mv)) []).getD 0 0=_;rw[kOf_T ho hr P O S hv ns, tn_get P (kOf_lt ho hr S hv)];rfl
   rw[en];exact ih
theorem sc0_T(P:Pm h.ss.length o):sc0 (hT h o)=scT o (sc0 h) :=by
 unfold sc0 scT;rw[zer_T P, hT_len P, tn_rep P]
end
theorem ln_hk(l:List Nat):hkD (lnD l)=true :=by
 show hkA (natD l)=true
 induction l with
 |nil => rfl
 |cons x l ih => show(hkD (.int (x:Int))&&hkA (natD l))=true;rw[ih];rfl
theorem ln_ky(l:List Nat):kyD (lnD l)=true :=by
 have lay:PyData.canLayAll0 (natD l)=true :=by
  have :=canLay_ints (l.map fun(x:Nat) => (x:Int));rwa[List.map_map]at this
 have dep:PyData.depthAll (natD l) ≤ 1 :=by
  have :=depth_ints (l.map fun(x:Nat) => (x:Int));rwa[List.map_map]at this
 unfold kyD;rw[ln_hk l, show(lnD l).canLay0=true from lay, decide_eq_true (show(lnD l).depth ≤ 7 by show PyData.depthAll (natD l)+1 ≤ 7;omega)];rfl
theorem putP_new{k d:PyData}:∀{kvs:List (PyData × PyData)}, (∀q ∈ kvs, PyData.eqv q.1 k=false) -> putP k d kvs=kvs ++ [(k, d)]
 |[], _ => rfl
 |q::r, h => by
  show(if PyData.eqv q.1 k=true then(q.1, d)::r else q::putP k d r)=_;rw[if_neg (by rw[h q List.mem_cons_self];decide), putP_new fun z hz => h z (List.mem_cons_of_mem _ hz)];rfl
theorem putZ_new:∀{ps kvs:List (PyData × PyData)}, (∀p ∈ ps, ∀q ∈ kvs, PyData.eqv q.1 p.1=false) -> ps.Pairwise (fun a b => PyData.eqv a.1 b.1=false) -> putZ kvs ps=kvs ++ ps
 |[], kvs, _, _ => (List.append_nil _).symm
 | p::ps, kvs, h, pw => by
  obtain⟨w1, w2⟩ :=List.pairwise_cons.mp pw;show putZ (putP p.1 p.2 kvs) ps=_;rw[putP_new (h p List.mem_cons_self), putZ_new (fun z hz q hq => ?_) w2, List.append_assoc]
  .rfl
  .rcases List.mem_append.mp hq with e|e
   .exact h z (List.mem_cons_of_mem _ hz) q e
   .rw[List.mem_singleton.mp e];exact w1 z hz
theorem lookP_nth{k v:PyData}(kk:PyData.eqv k k=true):∀{ps:List (PyData × PyData)}{i:Nat}, ps[i]?=some (k, v) -> (∀(j:Nat) q, j<i -> ps[j]?=some q -> PyData.eqv q.1 k=false) -> lookP k ps=some v
 |[], _, e, _ => by cases e
 |q::r, 0, e, _ => by
  cases (Option.some.inj e:q=(k, v))
  show(if PyData.eqv k k=true then some v else _)=_;rw[if_pos kk]
 |q::r, i+1, e, h => by
  show(if PyData.eqv q.1 k=true then some q.2 else lookP k r)=_;rw[if_neg (by rw[h 0 q (Nat.succ_pos _) rfl];decide)];exact lookP_nth kk (i :=i) e fun j z hj ez => h (j+1) z (Nat.succ_lt_succ hj) ez
theorem lookZ{ks:List (List Nat)}{vs:List PyData}{v:PyData}(inj:∀(i j:Nat) a, ks[i]?=some a -> ks[j]?=some a -> i=j)(e1:ks[i]?=some l)(e2:vs[i]?=some v):lookP (lnD l) (putZ [] ((ks.map lnD).zip vs))=some v :=by
 have get:∀{j:Nat}{q:PyData × PyData}, ((ks.map lnD).zip vs)[j]?=some q -> ∃a, ks[j]?=some a /\ q.1=lnD a :=fun {j q} e => by
  obtain⟨q1, _⟩ :=List.getElem?_zip_eq_some.mp e;rw[List.getElem?_map]at q1
  cases w:ks[j]? with
  |none => rw[w]at q1;cases q1
  |some a => rw[w]at q1;exact⟨a, rfl, (Option.some.inj q1).symm⟩
 have ne:∀{j m:Nat}{q z:PyData × PyData}, ((ks.map lnD).zip vs)[j]?=some q -> ((ks.map lnD).zip vs)[m]?=some z -> j ≠ m -> PyData.eqv q.1 z.1=false :=fun {j m q z} e f h => by
  obtain⟨a, a1, a2⟩ :=get e;obtain⟨b, b1, b2⟩:∃b, ks[m]?=some b /\ z.1=lnD b :=get f;rw[a2, b2, eqv_ln];exact decide_eq_false fun c => h (inj j m a a1 (by rw[b1, c]))
 have eq:((ks.map lnD).zip vs)[i]?=some (lnD l, v) :=List.getElem?_zip_eq_some.mpr ⟨by rw[List.getElem?_map, e1];rfl, e2⟩;rw[putZ_new (fun _ _ q hq => by cases hq) (List.pairwise_iff_getElem.mpr fun j m hj hm h => ne (List.getElem?_eq_getElem hj) (List.getElem?_eq_getElem hm) (Nat.ne_of_lt h)), List.nil_append];exact lookP_nth (by rw[eqv_ln];exact decide_eq_true rfl) eq fun j q hj e => ne e eq (Nat.ne_of_lt hj)
theorem all_inj{rs:List Nat}:∀(i j:Nat) a, (M3.allR rs)[i]?=some a -> (M3.allR rs)[j]?=some a -> i=j :=fun i j a h1 h2 => (place_only h1).trans (place_only h2).symm
def bkz(n:Nat)(o l:List Nat)(z:Nat):List Nat :=(List.range n).map fun j => if idx o j<z then l.getD (idx o j) 0 else 0
theorem bkz_zero(n:Nat)(o l:List Nat):bkz n o l 0=List.replicate n 0 :=by
 unfold bkz;refine List.ext_getElem? fun i => ?_;rw[List.getElem?_map, List.getElem?_replicate]
 by_cases hi:i<n
 .rw[List.getElem?_range hi, if_pos hi];rfl
 .rw[List.getElem?_eq_none (by simpa using hi), if_neg hi];rfl
theorem bkz_all(P:Pm n o):bkz n o l n=bk n o l :=by
 unfold bkz bk;refine List.map_congr_left fun j hj => ?_;rw[if_pos (P.at (List.mem_range.mp hj)).2]
theorem bkz_succ(P:Pm n o){z:Nat}(e:o[z]?=some k):(bkz n o l z).set k (l.getD z 0)=bkz n o l (z+1) :=by
 have hk :=P.lt k (List.mem_of_getElem? e);have ez:idx o k=z :=P.inj (P.at hk).1 e;unfold bkz;refine List.ext_getElem? fun i => ?_
 by_cases c:k=i
 .subst c;rw[List.getElem?_set_self (by simpa using hk), List.getElem?_map, List.getElem?_range hk];show _=some (if idx o k<z+1 then l.getD (idx o k) 0 else 0);rw[if_pos (by omega), ez]
 .rw[List.getElem?_set_ne c, List.getElem?_map, List.getElem?_map]
  by_cases hi:i<n
  .rw[List.getElem?_range hi];show some (if idx o i<z then l.getD (idx o i) 0 else 0)=some (if idx o i<z+1 then l.getD (idx o i) 0 else 0);have ne:idx o i ≠ z :=fun w => c (by have :=(P.at hi).1;rw[w, e]at this;exact Option.some.inj this)
   by_cases d:idx o i<z
   .rw[if_pos d, if_pos (by omega)]
   .rw[if_neg d, if_neg (by omega)]
  .rw[List.getElem?_eq_none (by simpa using hi)];rfl
theorem bk_lines{h:Hall}(P:Pm h.ss.length o)(L:Lines (hT h o) l):Lines h (bk h.ss.length o l) :=by
 refine⟨by unfold bk;rw[List.length_map, List.length_range], fun j s x e1 e2 => ?_⟩;have hj:j<h.ss.length :=(List.getElem?_eq_some_iff.mp e1).1;unfold bk at e2;rw[List.getElem?_map, List.getElem?_range hj]at e2;have a :=P.at hj;have es:(hT h o).ss[idx o j]?=some s :=by
  show(tn s0 o h.ss)[idx o j]?=_;rw[tn_get? a.1, List.getD_eq_getElem?_getD, e1];rfl
 have hl:idx o j<l.length :=by rw[L.1, hT_len P];exact a.2
 refine L.2 (idx o j) s x es ?_;rw[List.getElem?_eq_getElem hl];have:l.getD (idx o j) 0=x :=Option.some.inj e2;rw[<- this, List.getD_eq_getElem?_getD, List.getElem?_eq_getElem hl];rfl
theorem allR_bdH:∀{rs l:List Nat}, l ∈ M3.allR rs -> ∀(i r x:Nat), rs[i]?=some r -> l[i]?=some x -> x ≤ r
 |[], l, hl, i, r, x, e1, e2 => by cases e1
 |r0::rs, l, hl, i, r, x, e1, e2 => by
  simp only[M3.allR, List.mem_flatMap, List.mem_range, List.mem_map]at hl;obtain⟨k, hk, l', hl', rfl⟩ :=hl
  cases i with
  |zero => have h1 :=Option.some.inj e1;have h2 :=Option.some.inj e2;omega
  |succ i => exact allR_bdH hl' i r x e1 e2
theorem allR_linesH{h:Hall}(hl:l ∈ M3.allR h.rs):Lines h l :=⟨by rw[M3.allR_len hl, h.rsl], fun i s x e1 e2 => allR_bdH hl i s.r x (Hall.rs_get e1) e2⟩
def spShufP:SpM :=fun as K => ∃(fd ds:List PyData) (c:Nat), as=[.own fd, .imm (.list ds)] /\ FeedD c fd /\ c<900000000 /\ ds.length ≤ 1000 /\ ∀(r fd':List PyData), FeedD (c+ds.length) fd' -> r.length=ds.length -> (∀d ∈ r, d ∈ ds) -> r.Perm ds -> K (.new r) [fd']
def spTurnH:SpM :=fun as K => ∃(h:Hall) (o:List Nat), as=[.imm h.d, .imm (lnD o)] /\ h.Ok /\ Pm h.ss.length o /\ K (.imm (hT h o).d) []
def spTurnR:SpM :=fun as K => ∃(h:Hall) (o:List Nat) (r:Rule), as=[.imm h.d, .imm (hT h o).d, .imm (lnD o), .imm r.d] /\ h.Ok /\ r.Ok h /\ Pm h.ss.length o /\ K (.imm (rT h o r).d) []
def spTurnM:SpM :=fun as K => ∃(h:Hall) (o:List Nat) (mv:Mv), as=[.imm (lnD o), .imm mv.d] /\ h.Ok /\ Pm h.ss.length o /\ mv.Ok h /\ K (.imm (mvT o mv).d) []
def spRightT:SpM :=fun as K => ∃(fd:List PyData) (c:Nat) (h:Hall) (r:Rule) (R:List Mv), as=[.own fd, .imm h.d, .imm r.d, .imm (runD R)] /\ h.Ok /\ h.mv=false /\ r.Ok h /\ OneT h r /\ (∀mv ∈ R, mv.Ok h) /\ R.length ≤ 60 /\ FeedD c fd /\ c<800000000 /\ ∀fd', FeedD (c+4) fd' -> K (.imm (.bool true)) [fd']
end K
namespace L2
open PySem PySem.Spec PyProof.Rows
variable{scope:Scope}{E:Value -> Shared -> Prop}{cl:List (Str × Addr)}
def cxCompC(X:Cx)(scope:Scope)(cl:List (Str × Addr))(N:List Str)(s:Shared)(H:Hp)(C:Addr)(ex:List Addr):Cx :={cxComp X scope cl N s H C ex with fn :=fun x => scope.names.lookup x==some .cell}
structure CompScopeC(own fr:List Str)(scope sc:Scope):Prop where
 kind:scope.kind = .function
 all:∀y ∈ scope.names, scope.names.lookup y.1=some y.2
 there:∀y ∈ scope.names, y.2 = .free -> sc.names.lookup y.1=some .cell \/ sc.names.lookup y.1=some .free
 fr:∀x ∈ fr, scope.names.lookup x=some .free
theorem cells_app:∀(names:List (Str × NameKind)) (n:Nat) (acc:List (Str × Addr)), cellsFrom n names acc=cellsFrom n names [] ++ acc
 |[], _, _ => rfl
 |(x, k)::r, n, acc => by
  unfold cellsFrom;split
  .rw[cells_app r (n+1) ((x, n)::acc), cells_app r (n+1) [(x, n)], List.append_assoc];rfl
  .exact cells_app r n acc
theorem cells_mem:∀{names:List (Str × NameKind)}{n:Nat}{x:Str}{c:Addr}, (x, c) ∈ cellsFrom n names [] -> (x, NameKind.cell) ∈ names
 |[], _, _, _, h => absurd h List.not_mem_nil
 | (y, k)::r, n, x, c, h => by
  unfold cellsFrom at h
  split at h
  .rename_i hk;rw[cells_app, List.mem_append]at h;rcases h with h|h
   .exact List.mem_cons_of_mem _ (cells_mem h)
   .cases List.mem_singleton.mp h
    rw[show k = .cell from eq_of_beq hk];exact List.mem_cons_self
  .exact List.mem_cons_of_mem _ (cells_mem h)
theorem of_relabelC{env:Env}{x:Str}(h:(relabel scope env).names.lookup x=some .cell \/ (relabel scope env).names.lookup x=some .free):scope.names.lookup x=some .free \/ scope.names.lookup x=some .cell :=by
 unfold relabel at h;simp only[lookup_relabel]at h
 cases e:scope.names.lookup x with
 |none => rw[e]at h;rcases h with h|h<;>cases h
 |some k =>
  rw[e]at h;simp only[Option.map_some, Option.some.injEq]at h
  cases k with
  |free => exact .inl rfl
  |cell => exact .inr rfl
  |_ => rcases h with h|h<;>cases h
theorem new_cenv{M:Model}{A:Around}{s:Shared}{globals:Addr}{qual:Str}{env:Env}{Q:Env -> Shared -> Prop}
  (h:Q {scope, locals :=s.heap.objs.size, globals, cells :=cellsFrom (s.heap.objs.size+1) scope.names cl, qual, func :=none, code :=env.code, frame :=env.frame, builtins :=env.builtins} {s with heap :=pushCells (s.heap.push {cls :=.type "dict", data :=.dict #[]}) scope.names}) :
  wpAny M A (newFunctionEnv scope globals cl [] qual none .none (some env)) Q E s :=by
 refine wpAny_bind (m :=alloc {cls :=.type "dict", data :=.dict #[]}) (wpAny_alloc (wpAny_bind (wpAny_layCells _ (fun name kind cells => by cases hkc:kind==NameKind.cell<;>simp[hkc]) _ _ _ _ ?_)));rw[show({s with heap :=s.heap.push {cls :=.type "dict", data :=.dict #[]} }:Shared).heap.objs.size=s.heap.objs.size+1 from Heap.size_push ..];exact wpAny_bind (m :=pure _) (wpAny_pure (wpAny_pure h))
section
variable {X:Cx}{scope sc:Scope}{own fr:List Str}{ps:List Nat}
theorem comp_coreC{elt tg iter:Expr}{ifs:List Expr}{rest:List Comprehension}{pos:Pos}{bdy:Env -> Value -> Sem PUnit}{g:TG}{tt:TT}{tb:Addr -> TS}{R:Value -> Addr -> Result -> Shared -> Prop}
  (S:CompScopeC own fr scope sc) (hsc:X.env.scope=sc) (hps:ps.map (fun i => X.N[i]?)=fr.map some) (hc:X.calm=true) (hcl1:∀x c, cl.lookup x=some c -> X.env.cells.lookup x=some c) (hcl2:∀y ∈ scope.names, y.2 = .free -> ∃c, cl.lookup y.1=some c)
  (hturn:∀env it acc, compTurn (.ListComp elt (⟨tg, iter, ifs, 0⟩::rest) scope pos) 0 it acc env=(do
   standAt iter.pos
   match <- pyNext it with
   |none => pure (.done .next)
   | some v =>
    letOwnedTupleGo tg it v
    assign tg env v
    let mut ok :=true
    for c in ifs do
     if ok=true then ok <- isTrue c env (eval c env)
    if ok then bdy env acc
    again (.compLoop (.ListComp elt (⟨tg, iter, ifs, 0⟩::rest) scope pos) 0 it acc env)))
  (hg:∀cl s H C ex, PG (cxCompC X scope cl (own ++ fr) s H C ex) tg g) (ht:∀cl s H C ex, PTs (cxCompC X scope cl (own ++ fr) s H C ex) ifs tt)
  (hb:∀cl s H C ex l, PB (cxCompC X scope cl (own ++ fr) s H C ex) (bdy (compEnvC scope cl C X.env) (.ref l)) (tb l))
  {pins:List (Addr × Obj)}{s:Shared}{σ:St}{H:Hp}{Q:VK}{it:Addr}{fp:List Addr}{tn:Nat -> Heap -> Prop}{J:It} (I:Inv X pins σ H s) (T:Turn X.prog X.w X.K tg J fp it tn) (st:tn 0 s.heap) (f:∀b ∈ fp, FpOk X pins H b)
  (h:∀l, H l=none -> tLoop J g (tIfT tt (tb l)) {nx :=fun _ H' => Q (.ref l) H', rt :=fun _ _ => False} (compSt own ps σ) (upd H l (.lst [])))
  (hR:∀l C H' s', (∃m, s'.heap.Ns C m) -> Inv X pins σ H' s' -> FpOk X pins H' C -> Q (.ref l) H' -> R (.ref l) C (.ok .next) s') :
  wpAny (model X.prog X.w) X.A (newList []) (fun acc s₃ => wpAny (model X.prog X.w) X.A (newFunctionEnv scope X.env.globals cl [] X.env.qual none .none (some X.env)) (fun cenv s₄ =>
   codeAny (model X.prog X.w) X.A (.compStart (.ListComp elt (⟨tg, iter, ifs, 0⟩::rest) scope pos) 0 (.ref it) acc {cenv with scope :=relabel scope X.env}) (R acc cenv.locals) s₄) E s₃) E s :=by
 refine wpAny_newObj_type (new_cenv ?_);have I3:Inv X pins σ (upd H s.heap.objs.size (.lst [])) {s with heap :=s.heap.push {cls :=.type "list", data :=.seq ([]:List Value).toArray} } :=I.lnew (t' :=s.toks) (ys :=[]) .nil (Nat.zero_le _);generalize hS3:({s with heap :=s.heap.push {cls :=.type "list", data :=.seq ([]:List Value).toArray} }:Shared)=s3 at I3⊢;have hsz:s3.heap.objs.size=s.heap.objs.size+1 :=by rw[<- hS3];exact Heap.size_push _ _
 have hl:H s.heap.objs.size=none :=I.hok.fresh (Nat.le_refl _);have kept0:∀b o, s.heap.get? b=some o -> s3.heap.get? b=some o :=fun b o e => by rw[<- hS3];exact Heap.get?_push_of_some _ e
 obtain⟨h₁, hh₁⟩:∃h₁, h₁=pushCells (s3.heap.push {cls :=.type "dict", data :=.dict #[]}) scope.names :=⟨_, rfl⟩;have kept1:∀b o, s3.heap.get? b=some o -> h₁.get? b=some o :=fun b o e => by rw[hh₁];exact pushCells_keeps _ _ b o (Heap.get?_push_of_some _ e)
 have hns₁:h₁.Ns s3.heap.objs.size (fun _ => none) :=by rw[hh₁];exact(Heap.Ns.new s3.heap (.type "dict")).keeps (pushCells_keeps _ _)
 have ck:CellsOk h₁ (s3.heap.objs.size+1) (cellsFrom (s3.heap.objs.size+1) scope.names []) :=by
  have :=cellsFrom_ok scope.names (s3.heap.push {cls :=.type "dict", data :=.dict #[]}) (s3.heap.objs.size+1) [] ⟨fun _ _ hm => (nomatch hm), List.Pairwise.nil⟩ (by rw[Heap.size_push];exact Nat.le_refl _);rw[Heap.size_push]at this;rw[hh₁];exact this
 rw[<- hh₁];obtain⟨cl2, hcl2e⟩:∃cl2, cl2=cellsFrom (s3.heap.objs.size+1) scope.names cl :=⟨_, rfl⟩;rw[<- hcl2e];have oldlt:∀x c, cl.lookup x=some c -> c<s3.heap.objs.size :=fun x c e => by
  obtain⟨v, o, ho, _⟩ :=I3.cell x c (hcl1 x c e);exact Heap.lt_size ho
 have two:∀x c, cl2.lookup x=some c -> ((x, c) ∈ cellsFrom (s3.heap.objs.size+1) scope.names [] /\ s3.heap.objs.size+1 ≤ c /\ h₁.IsCell c none) \/ cl.lookup x=some c :=fun x c e => by
  rw[hcl2e, cells_app, List.lookup_append]at e
  cases z:(cellsFrom (s3.heap.objs.size+1) scope.names []).lookup x with
  |none => rw[z]at e;exact .inr e
  |some c' =>
   rw[z]at e
   cases (Option.some.inj e:c'=c)
   have m :=mem_of_lookup z;exact .inl ⟨m, (ck.empty x _ m).2, (ck.empty x _ m).1⟩
 have some2:∀x c, cl.lookup x=some c -> ∃c', cl2.lookup x=some c' :=fun x c e => by
  rw[hcl2e, cells_app, List.lookup_append, e]
  cases (cellsFrom (s3.heap.objs.size+1) scope.names []).lookup x with
  |none => exact⟨_, rfl⟩
  |some c' => exact⟨_, rfl⟩
 have free2:∀x, scope.names.lookup x=some .free -> cl2.lookup x=cl.lookup x :=fun x e => by
  rw[hcl2e, cells_app, List.lookup_append]
  cases z:(cellsFrom (s3.heap.objs.size+1) scope.names []).lookup x with
  |none => rfl
  |some c' =>
   have q :=S.all _ (cells_mem (mem_of_lookup z));have q':scope.names.lookup x=some .cell :=q;rw[e]at q';cases q'
 have cell2:∀x, scope.names.lookup x=some .cell -> ∃c, cl2.lookup x=some c /\ s3.heap.objs.size+1 ≤ c :=fun x e => by
  obtain⟨c, ec⟩ :=cell_has (n :=s3.heap.objs.size+1) e;refine⟨c, ?_, (ck.empty x c (mem_of_lookup ec)).2⟩;rw[hcl2e, cells_app, List.lookup_append, ec];rfl
 have fpl:∀b ∈ fp, b<s.heap.objs.size :=fun b hb => by obtain⟨o, e, _⟩ :=T.obj _ _ st b hb;exact Heap.lt_size e
 have fpH:∀b ∈ fp, (upd H s.heap.objs.size (.lst [])) b=none :=fun b hb => by rw[upd_ne (Nat.ne_of_lt (fpl b hb))];exact(f b hb).1
 have fpS:∀b ∈ fp, b ∉ frs X.stack :=fun b hb z => by
  rcases List.mem_cons.mp (I.stkSub b z)with e|e
  .exact(f b hb).2.1 e
  .exact(f b hb).2.2.1 e
 have ok':(cxCompC X scope cl2 (own ++ fr) s3 (upd H s.heap.objs.size (.lst [])) s3.heap.objs.size fp).Ok :=by
  refine⟨I.ok.mod, S.kind, I.ok.glob, I.ok.blt, Nat.le_refl _, fun x y c h1 h2 => ?_, fun x hx => ?_, fun x c hf hx => ?_, I.ok.hd, I.ok.frames, .inl rfl, fun b hb => ⟨?_, fun x c hx => ?_⟩,
   fun b o e => I3.bs b o e, Nat.le_trans I3.ok.bsz I3.sz, fun b o e hb => ?_, fun b hb => fpS b hb, I3.stack, I3.stkFree⟩
  .rcases two x c h1 with⟨m1, g1, _⟩|o1
   .rcases two y c h2 with⟨m2, _, _⟩|o2
    .exact name_of_addr ck.apart m1 m2
    .exact absurd (Nat.lt_of_lt_of_le (oldlt y c o2) (Nat.le_trans (Nat.le_succ _) g1)) (Nat.lt_irrefl _)
   .rcases two y c h2 with⟨m2, g2, _⟩|o2
    .exact absurd (Nat.lt_of_lt_of_le (oldlt x c o1) (Nat.le_trans (Nat.le_succ _) g2)) (Nat.lt_irrefl _)
    .exact I.ok.inj x y c (hcl1 x c o1) (hcl1 y c o2)
  .rcases of_relabelC hx with z|z
   .obtain⟨c, ec⟩ :=hcl2 (x, .free) (lookup_mem z) rfl;exact some2 x c ec
   .obtain⟨c, ec, _⟩ :=cell2 x z;exact⟨c, ec⟩
  .obtain⟨c', ec, le⟩ :=cell2 x (eq_of_beq hf);have hx':cl2.lookup x=some c :=hx;rw[ec]at hx';cases hx';exact Nat.le_trans (Nat.le_succ _) le
  .exact Nat.ne_of_lt (Nat.lt_of_lt_of_le (fpl b hb) (by rw[hsz];exact Nat.le_succ _))
  .rcases two x c hx with⟨_, g1, _⟩|o1
   .exact Nat.ne_of_gt (Nat.lt_of_lt_of_le (fpl b hb) (Nat.le_trans (by rw[hsz];exact Nat.le_succ _) (Nat.le_trans (Nat.le_succ _) g1)))
   .exact(f b hb).2.2.2.2.1 x c (hcl1 x c o1)
  .rcases (f b hb).2.2.2.1 with z|z
   .exact I.ok.noex b o e z
   .exact absurd (Nat.lt_of_lt_of_le (Heap.lt_size (I.ok.bs b o e).1) z) (Nat.lt_irrefl _)
 have I4:Inv (cxCompC X scope cl2 (own ++ fr) s3 (upd H s.heap.objs.size (.lst [])) s3.heap.objs.size fp) [] (compSt own ps σ) (upd H s.heap.objs.size (.lst [])) {s3 with heap :=h₁} :=by
  refine⟨ok', rfl, I3.bare, Un.kept kept1, ⟨_, hns₁, fun i x v e1 e2 e3 => ?_⟩, fun x c e => ?_, I3.hok.fresh (Nat.le_refl _), fun x c e => ?_, fun p hp => absurd (show p ∈ ([]:List (Addr × Obj))from hp) (by simp), I3.hok.kept kept1, ?_⟩
  .have e1':(own ++ fr)[i]?=some x :=e1;unfold compSt at e2
   by_cases hi:i<own.length
   .rw[List.getElem?_append_left (by simpa using hi), List.getElem?_map]at e2
    cases q:own[i]? with
    |none => rw[q]at e2;cases e2
    |some z => rw[q]at e2;cases e2
   .rw[List.getElem?_append_right (by simpa using hi), List.length_map, List.getElem?_map]at e2;rw[List.getElem?_append_right (by simpa using hi)]at e1'
    cases q:ps[i-own.length]? with
    |none => rw[q]at e2;cases e2
    | some p =>
     rw[q]at e2;have e2':(σ[p]?).join=some v :=Option.some.inj e2;have hσ:σ[p]?=some (some v) :=by
      cases z:σ[p]? with
      |none => rw[z]at e2';cases e2'
      |some w => rw[z]at e2';cases w with
       |none => cases e2'
       |some w => cases e2';rfl
     have hN:X.N[p]?=some x :=by
      have z :=congrArg (fun l => l[i-own.length]?) hps;simp only[List.getElem?_map, q, e1', Option.map_some, Option.some.injEq]at z;exact z
     have hx:x ∈ fr :=List.mem_of_getElem? e1';have hfr :=S.fr x hx;have hsee :=S.there (x, .free) (lookup_mem hfr) rfl;obtain⟨m, hn, hlk⟩ :=I3.loc;obtain⟨u, ru, lk⟩ :=hlk p x v hN hσ (by rw[hsc];exact .inr hsee);refine⟨u, ru, .inr ⟨relabel_free hfr, ?_⟩⟩;rcases lk with⟨k, _⟩|⟨_, c, ec, z⟩
     .have k':X.env.scope.names.lookup x=some .local :=k;rw[hsc]at k';rcases hsee with q2|q2<;>(rw[k']at q2;cases q2)
     .obtain⟨c', ec'⟩ :=hcl2 (x, .free) (lookup_mem hfr) rfl;have :=hcl1 x c' ec';rw[ec]at this;cases this;obtain⟨o, ho, hd⟩ :=z;exact⟨c, (free2 x hfr).trans ec', o, kept1 _ _ ho, hd⟩
  .rcases two x c e with⟨_, _, ic⟩|o1
   .exact⟨_, ic⟩
   .obtain⟨v, o, ho, hd⟩ :=I3.cell x c (hcl1 x c o1);exact⟨v, o, kept1 _ _ ho, hd⟩
  .rcases two x c e with⟨_, g1, _⟩|o1
   .exact I3.hok.fresh (by omega)
   .exact I3.freeC x c (hcl1 x c o1)
  .show(compSt own ps σ).length=(own ++ fr).length;have :=congrArg List.length hps;rw[List.length_map, List.length_map]at this;unfold compSt;rw[List.length_append, List.length_append, List.length_map, List.length_map, this]
 have f4:∀b ∈ fp, FpOk (cxCompC X scope cl2 (own ++ fr) s3 (upd H s.heap.objs.size (.lst [])) s3.heap.objs.size fp) [] (upd H s.heap.objs.size (.lst [])) b :=fun b hb =>
  ⟨fpH b hb, (ok'.exf b hb).1, fpS b hb, .inl hb, (ok'.exf b hb).2, fun p hp => absurd (show p ∈ ([]:List (Addr × Obj))from hp) (by simp)⟩
 have st4:tn 0 h₁ :=T.keep 0 _ _ st fun b hb o e => kept1 b o (kept0 b o e);have loop:codeAny (model X.prog X.w) X.A (.compLoop (.ListComp elt (⟨tg, iter, ifs, 0⟩::rest) scope pos) 0 (.ref it) (.ref s.heap.objs.size) (compEnvC scope cl2 s3.heap.objs.size X.env)) (R (.ref s.heap.objs.size) s3.heap.objs.size) {s3 with heap :=h₁} :=by
  refine codeAny_mono (comp_loop (X :=cxCompC X scope cl2 (own ++ fr) s3 (upd H s.heap.objs.size (.lst [])) s3.heap.objs.size fp) (hturn _ _ _) rfl hc T (hg _ _ _ _ _) (ht _ _ _ _ _) (hb _ _ _ _ _ _) I4 st4 f4 (h _ hl)) fun r s' ⟨er, σ5, H5, I5, q5⟩ => ?_;subst er;have I6:Inv X pins σ H5 s' :=I3.call' (s' :=s') I5.os I5.base I5.hok I5.bare fun b hb => ⟨(f b hb).2.2.2.1, (f b hb).2.1, (f b hb).2.2.2.2.1, (f b hb).2.2.2.2.2⟩;have hm:∃m, s'.heap.Ns s3.heap.objs.size m :=let ⟨m, hn, _⟩ :=I5.loc;⟨m, hn⟩;exact hR _ _ H5 s' hm I6 (I3.fpOk (Nat.le_refl _) I5.free) q5
 exact codeAny_compStart_list loop (T.self _ 0 _ _ _ st4 loop)
variable {elt tg iter:Expr}{ifs:List Expr}{pos spos py:Pos}
theorem pe_comp1C{wi:TI}{g:TG}{tt:TT}{te:TE}(S:CompScopeC own fr scope sc)(hi:PI X tg iter wi)(hg:∀cl s H C ex, PG (cxCompC X scope cl (own ++ fr) s H C ex) tg g)(ht:∀cl s H C ex, PTs (cxCompC X scope cl (own ++ fr) s H C ex) ifs tt)
  (he:∀cl s H C ex, PE (cxCompC X scope cl (own ++ fr) s H C ex) elt te) (hsc:X.env.scope=sc) (hps:ps.map (fun i => X.N[i]?)=fr.map some) (hc:X.calm=true) (hs:∀x, foldedSetIterable iter X.env x=pure x):PE X (.ListComp elt [⟨tg, iter, ifs, 0⟩] scope pos) (tComp wi own ps (tl1 g tt te)) :=by
 intro pins s σ H Q I h;have has:∀y ∈ scope.names, y.2 = .free -> ∃c, X.env.cells.lookup y.1=some c :=fun y hy hk => I.ok.has y.1 (by show X.env.scope.names.lookup y.1=_ \/ X.env.scope.names.lookup y.1=_;rw[hsc];exact S.there y hy hk);obtain⟨cl, ec, h1, h2⟩ :=closureFor_ok has;rw[eval_ListComp];refine wpAny_comprehension_free (use :=none) rfl hs ec S.kind (fun y hy e => (S.all y hy).trans (by rw[e])) (thn (hi pins s σ H _ I h) fun v s1 q1 => thn q1 fun itv s2 q2 => ?_);obtain⟨it, fp, tn, J, H2, e, I2, T, st2, f2, q⟩ :=q2;subst e;exact comp_coreC (R :=fun acc C => compPost (model X.prog X.w) X.A X.xe none (EP X pins σ Q) acc C) (bdy :=fun env acc => do let _ <- call (.builtin "list.append") [acc, <- eval elt env]) (tb :=fun l => tEmit l te) S hsc hps hc h1 h2 (fun env it acc => compTurn_list elt tg iter ifs scope pos it acc env)
  hg ht (fun cl s H C ex l => pb_emit (he cl s H C ex)) I2 T st2 f2 q fun l C H' s' hm I' fk q' => by
   obtain⟨m, hn⟩ :=hm;exact⟨m, hn, fun h' hs' => ⟨.ref l, H', I'.junk fk hs', rfl, q'⟩⟩
variable {wi:WI}{g:WG}{tt:WT}{we:WE}
theorem me_comp1C'(S:CompScopeC own fr scope sc)(hi:EI X tg iter wi)(hg:∀cl s H C ex, EG (cxCompC X scope cl (own ++ fr) s H C ex) tg g)(ht:∀cl s H C ex, ETs (cxCompC X scope cl (own ++ fr) s H C ex) ifs tt)
  (he:∀cl s H C ex, EE (cxCompC X scope cl (own ++ fr) s H C ex) elt we) (hsc:X.env.scope=sc :=by rfl) (hps:ps.map (fun i => X.N[i]?)=fr.map some :=by rfl) (hc:X.calm=true :=by rfl) (hs:∀x, foldedSetIterable iter X.env x=pure x :=by intro _;rfl) :
  EE X (.ListComp elt [⟨tg, iter, ifs, 0⟩] scope pos) (wComp1 wi own ps g tt we) :=⟨(pe_comp1C S hi.h (fun cl s H C ex => (hg cl s H C ex).h) (fun cl s H C ex => (ht cl s H C ex).h) (fun cl s H C ex => (he cl s H C ex).h) hsc hps hc hs).wk fun _ _ _ h => comp1_rd h⟩
theorem me_comp1N'(hk:scope.kind = .function)(hn:∀y ∈ scope.names, y.2 ≠ .cell)(hm:∀y ∈ scope.names, y.2 = .local -> scope.names.lookup y.1=some .local)(hf:∀y ∈ scope.names, y.2 = .free -> y.1 ∈ fr)(hfr:∀x ∈ fr, scope.names.lookup x=some .free)(hx:∀x ∈ fr, X.env.scope.names.lookup x=some .cell \/ X.env.scope.names.lookup x=some .free)
  (hi:EI X tg iter wi) (hg:∀cl s H C ex, EG (cxComp X scope cl (own ++ fr) s H C ex) tg g) (ht:∀cl s H C ex, ETs (cxComp X scope cl (own ++ fr) s H C ex) ifs tt)
  (he:∀cl s H C ex, EE (cxComp X scope cl (own ++ fr) s H C ex) elt we) (hps:ps.map (fun i => X.N[i]?)=fr.map some :=by rfl) (hc:X.calm=true :=by rfl) (hs:∀x, foldedSetIterable iter X.env x=pure x :=by intro _;rfl) :
  EE X (.ListComp elt [⟨tg, iter, ifs, 0⟩] scope pos) (wComp1 wi own ps g tt we) :=me_comp1' (sc :=X.env.scope) ⟨hk, hn, hm, fun y hy e => hx y.1 (hf y hy e), hfr⟩ hi hg ht he rfl hps hc hs
end
end L2
namespace K
open PySem L2
variable{n:Nat}{o:List Nat}{l:PySem.W.OpenLaw}
local macro_rules | `(tactic| walk_at "x1") => `(tactic| first
 |(with_reducible first|apply x_seq|apply x_bin)|((with_reducible refine' x_var ?xe ?_);(case xe => rfl))|(with_reducible first|apply x_c|apply x_test|apply x_onBl|apply x_onInt|apply x_onObj|apply x_onImm|apply x_on1|apply x_addI|apply x_subI|apply x_lt|apply x_le|apply x_gt|apply x_ge|apply x_eqI|apply x_neI|apply x_eqS|apply x_neS|apply x_isT)|((with_reducible refine' x_nd ?xe ?_);(case xe => first|rfl|assumption))|(with_reducible first|apply x_rev|apply x_min|apply x_max)|((with_reducible refine' x_zip ?_))|(with_reducible first|apply x_enum|apply x_mt|apply x_ts)
 |((with_reducible refine' x_itemT ?xe ?_);(case xe => rfl))|((with_reducible refine' x_itemO ?xf ?xe ?_);(case xf => rfl);(case xe => rfl))|((with_reducible refine' x_itemL ?xe ?_);(case xe => rfl))|((with_reducible refine' x_itemN ?xe ?_);(case xe => rfl))
 |((with_reducible refine' x_mod ?xe ?_);(case xe => omega))|((with_reducible refine' x_fdiv ?xe ?_);(case xe => exact cfd (by omega) (by omega)))|((with_reducible refine' x_mulI' ?xe ?_);(case xe => exact mulok (by omega)))|((with_reducible refine' x_pow ?xe ?_);(case xe => exact⟨by decide, by decide, by decide⟩))
 |(with_reducible first|apply x_set|apply x_bindI|apply x_bindO|apply x_ret|apply x_ifS|apply x_next|apply x_setI)|((with_reducible refine' x_put ?xe ?xf ?_);(case xe => rfl);(case xf => rfl))
 |(with_reducible first|apply x_and|apply x_or|apply x_not|apply x_andV|apply x_orV|apply x_notV|apply x_cons|apply x_nil|apply x_cb|apply x_call)|((with_reducible refine' x_ags ?xe ?xf ?_);(case xe => rfl);(case xf => decide))
 |(with_reducible first|apply x_tup|apply x_lst)|((with_reducible refine' x_all ?xe ?xf ?_);(case xe => rfl);(case xf => exact of_decide_eq_true rfl))|(with_reducible first|apply x_imm|apply x_dix|apply x_onAt|apply x_onKeyS|apply x_dput|apply x_disp|apply x_pNil|apply x_pCons|apply x_bindNT|apply x_bindA)|((with_reducible refine' x_dgot ?xa ?xb ?xc ?xd ?xe ?_);(case xa => rfl);(case xb => rfl);(case xc => rfl);(case xd => rfl);(case xe => rfl))|((with_reducible refine' x_dgotN ?xa ?xb ?xc ?xd ?xe ?_);(case xa => rfl);(case xb => rfl);(case xc => rfl);(case xd => rfl);(case xe => rfl))|((with_reducible refine' x_dputs ?xa ?xb ?xc ?xd ?xe ?xf ?_);(case xa => rfl);(case xb => rfl);(case xc => rfl);(case xd => rfl);(case xe => exact of_decide_eq_true rfl);(case xf => rfl))|((with_reducible refine' x_onPairs ?xa ?xb ?xc ?xd ?_);(case xa => rfl);(case xb => rfl);(case xc => exact of_decide_eq_true rfl);(case xd => rfl))
 |with_reducible apply x_callX|((with_reducible refine' x_agsX ?xe ?xf ?_);(case xe => rfl);(case xf => decide))|(with_reducible first|apply x_raise|apply x_raiseI|apply x_excI|apply x_excP|apply x_xf|apply x_isX|apply x_isXs)|((with_reducible refine' x_rz ?xe ?_);(case xe => exact of_decide_eq_true rfl))
 |((with_reducible refine' x_onAgs ?xa ?xb ?_);(case xa => rfl);(case xb => decide))|(with_reducible first|apply x_tupR|apply x_dixD|apply x_immT|apply x_fsC|apply x_fsN|apply x_trI|apply x_trN|apply x_trT|apply x_fldI)|((with_reducible refine' x_fgot ?xa ?xb ?xc ?xd ?xe ?_);(case xa => rfl);(case xb => rfl);(case xc => rfl);(case xd => rfl);(case xe => rfl))|((with_reducible refine' x_fgotN ?xa ?xb ?xc ?xd ?xe ?_);(case xa => rfl);(case xb => rfl);(case xc => rfl);(case xd => rfl);(case xe => rfl))|with_reducible apply x_meth|((with_reducible refine' x_insR ?xa ?xb ?xc ?_);(case xa => rfl);(case xb => rfl);(case xc => rfl))|with_reducible apply x_make|((with_reducible refine' x_onImms ?xa ?_);(case xa => rfl))|(with_reducible first|apply x_reps|apply x_dputT|apply x_empt|apply x_dispT|apply x_ml0)|((with_reducible refine' x_onPairsT ?xa ?xb ?xc ?_);(case xa => rfl);(case xb => rfl);(case xc => exact of_decide_eq_true rfl))
 |(with_reducible first|apply x_un|apply x_neg|apply x_abs|apply x_intI|apply x_intB|apply x_len|apply x_lenT|apply x_lenL)|((with_reducible refine' x_lenO ?xe ?_);(case xe => rfl))|(with_reducible first|apply x_lenN|apply x_asg|apply x_par|apply x_drop|apply x_retN|apply x_chain|apply x_ml)|((with_reducible refine' x_ls ?xe ?_);(case xe => rfl))
 |(with_reducible first|apply x_isN|apply x_isB|apply x_isNotN|apply x_gM|apply x_gNil|apply x_gCons|apply x_gTup)
 |((with_reducible refine' x_cutL' ?xe ?_);(case xe => rfl))|with_reducible apply x_cutT|((with_reducible refine' x_list ?xe ?_);(case xe => rfl))|((with_reducible refine' x_tuple ?xe ?_);(case xe => rfl))|(with_reducible first|apply x_listR|apply x_sl|apply x_noPart|apply x_part|apply x_for|apply x_iseq|apply x_srcL|apply x_srcT)|((with_reducible refine' x_srcO ?xe ?_);(case xe => rfl))|(with_reducible first|apply x_rng1|apply x_rng2|apply x_comp1|apply x_comp2|apply x_ifT|apply x_noTest|apply x_emit|apply x_iteT)|with_reducible apply x_iteF)
local macro_rules | `(tactic| walk_at "xs") => `(tactic| repeat walk_at "x1")
local macro_rules | `(tactic| walk_at "xn") => `(tactic| first | dsimp only [mapR, setAll, List.set, MSt.setV, MSt.setN, List.take, List.length, List.append, compM, compV, Nat.reduceAdd, List.getD_cons_succ, List.getD_cons_zero, List.nil_append, List.cons_append, setT, lfD] | dsimp only [mapR, setAll, List.set, MSt.setV, MSt.setN, List.take, List.length, List.append, compM, compV, Nat.reduceAdd, List.getD_cons_succ, List.getD_cons_zero, List.nil_append, List.cons_append] | skip)
local macro_rules | `(tactic| walk_at "sc") => `(tactic| exact ⟨rfl, rfl, rfl, by decide +kernel, rfl, by decide +kernel, by decide +kernel⟩)
local macro_rules | `(tactic| walk_at "xx") => `(tactic| (walk_at "xn"; walk_at "xs"))
def top(i:Nat):Stmt :=PySem.Challenge.pw_shorterline_k16_whole_servers_turned_abo.main.body.getD i (.Pass ⟨0, 0, 0, 0⟩)
abbrev sis_less:Stmt :=top 1
abbrev splace_of_lines:Stmt :=top 4
abbrev sfirst_shortest:Stmt :=top 6
abbrev swait_at:Stmt :=top 7
abbrev sfirst_quickest:Stmt :=top 8
abbrev ssent_to:Stmt :=top 9
abbrev sfirst_stand:Stmt :=top 11
abbrev swith_more:Stmt :=top 12
abbrev scome_to:Stmt :=top 13
abbrev sdone_at:Stmt :=top 14
abbrev snext_shift:Stmt :=top 15
abbrev ssettled:Stmt :=top 16
abbrev sturn_behind:Stmt :=top 17
abbrev sline_of:Stmt :=top 18
abbrev smoved_on:Stmt :=top 19
abbrev scounts_behind:Stmt :=top 21
abbrev saskers_settled:Stmt :=top 22
abbrev saskers_behind:Stmt :=top 23
abbrev sfirst_scene:Stmt :=top 24
abbrev sscene_behind:Stmt :=top 25
abbrev swalked:Stmt :=top 26
abbrev scounted:Stmt :=top 27
abbrev sstays:Stmt :=top 28
abbrev shall_turned:Stmt :=top 3
abbrev s_law_feed:Stmt :=top 30
abbrev s_law_draw:Stmt :=top 31
abbrev s_law_shuffled:Stmt :=top 32
abbrev s_law_cut:Stmt :=top 33
abbrev s_law_hall:Stmt :=top 34
abbrev s_law_all:Stmt :=top 35
abbrev s_law_rule:Stmt :=top 36
abbrev s_law_move:Stmt :=top 37
abbrev s_law_run:Stmt :=top 38
abbrev s_law_turned_rule:Stmt :=top 39
abbrev s_law_turned_move:Stmt :=top 40
abbrev s_law_right:Stmt :=top 41
abbrev slaw:Stmt :=top 42
structure Bl(mg:Str -> Option Value):Prop where
 len:mg "len" = none
 abs:mg "abs" = none
 range:mg "range" = none
 list:mg "list" = none
 tuple:mg "tuple" = none
 int:mg "int" = none
 sum:mg "sum" = none
 zip:mg "zip" = none
 min:mg "min" = none
 max:mg "max" = none
 enumerate:mg "enumerate" = none
 dict:mg "dict" = none
theorem scis_less:FnScope ["one","other"] ["one","other"] (defScope sis_less) :=by walk_at"sc"
theorem scplace_of_lines:FnScope ["hall","lines","place","many","server"] ["hall","lines"] (defScope splace_of_lines) :=by walk_at"sc"
theorem scfirst_shortest:FnScope ["lines","order","best","line"] ["lines","order"] (defScope sfirst_shortest) :=by walk_at"sc"
theorem scwait_at:FnScope ["hall","lines","line","top","bottom"] ["hall","lines","line"] (defScope swait_at) :=by walk_at"sc"
theorem scfirst_quickest:FnScope ["hall","lines","order","best","least","line","wait"] ["hall","lines","order"] (defScope sfirst_quickest) :=by walk_at"sc"
theorem scsent_to:FnScope ["hall","rule","stand","order","lines","turn","word"] ["hall","rule","stand","order"] (defScope ssent_to) :=by walk_at"sc"
theorem scfirst_stand:FnScope ["hall"] ["hall"] (defScope sfirst_stand) :=by walk_at"sc"
theorem scwith_more:FnScope ["lines","line","more"] ["lines","line","more"] (defScope swith_more) :=by walk_at"sc"
theorem sccome_to:FnScope ["hall","lines","line"] ["hall","lines","line"] (defScope scome_to) :=by walk_at"sc"
theorem scdone_at:FnScope ["lines","line"] ["lines","line"] (defScope sdone_at) :=by walk_at"sc"
theorem scnext_shift:FnScope ["hall","lines"] ["hall","lines"] (defScope snext_shift) :=by walk_at"sc"
theorem scsettled:FnScope ["hall","lines","shift"] ["hall","lines"] (defScope ssettled) :=by walk_at"sc"
theorem scturn_behind:FnScope ["hall","rule","turn"] ["hall","rule","turn"] (defScope sturn_behind) :=by walk_at"sc"
theorem scline_of:FnScope ["hall","rule","stand","move"] ["hall","rule","stand","move"] (defScope sline_of) :=by walk_at"sc"
theorem scmoved_on:FnScope ["hall","rule","stand","move","lines","turn","word","line"] ["hall","rule","stand","move"] (defScope smoved_on) :=by walk_at"sc"
theorem sccounts_behind:FnScope ["counts","word","came","taken","away","served"] ["counts","word"] (defScope scounts_behind) :=by walk_at"sc"
theorem scaskers_settled:FnScope ["hall","askers","shift","longest","void"] ["hall","askers"] (defScope saskers_settled) :=by walk_at"sc"
theorem scaskers_behind:FnScope ["hall","askers","line","word","number"] ["hall","askers","line","word","number"] (defScope saskers_behind) :=by walk_at"sc"
theorem scfirst_scene:FnScope ["hall"] ["hall"] (defScope sfirst_scene) :=by walk_at"sc"
theorem scscene_behind:FnScope ["hall","rule","scene","move","stand","counts","askers","line","behind","word"] ["hall","rule","scene","move"] (defScope sscene_behind) :=by walk_at"sc"
theorem scwalked:FnScope ["hall","rule","run","stands","move"] ["hall","rule","run"] (defScope swalked) :=by walk_at"sc"
theorem sccounted:FnScope ["hall","rule","run","stand","counts","move","word"] ["hall","rule","run"] (defScope scounted) :=by walk_at"sc"
theorem scstays:FnScope ["hall","rule","run","scene","found","at","move","left","ahead","word","number"] ["hall","rule","run"] (defScope sstays) :=by walk_at"sc"
theorem schall_turned:FnScope ["hall","order","come","servers","moved"] ["hall","order"] (defScope shall_turned) :=by walk_at"sc"
theorem sc_law_feed:FnScope ["_law_script"] ["_law_script"] (defScope s_law_feed) :=by walk_at"sc"
theorem sc_law_draw:FnScope ["_law_feed_here","_law_many","_law_found","_law_cell","_law_mixed"] ["_law_feed_here","_law_many"] (defScope s_law_draw) :=by walk_at"sc"
theorem sc_law_shuffled:FnScope ["_law_feed_here","_law_some","_law_left","_law_found","_law_k"] ["_law_feed_here","_law_some"] (defScope s_law_shuffled) :=by walk_at"sc"
theorem sc_law_cut:FnScope ["_law_top","_law_bottom","_law_one","_law_other"] ["_law_top","_law_bottom"] (defScope s_law_cut) :=by walk_at"sc"
theorem sc_law_hall:FnScope ["_law_feed_here","_law_most","_law_many","_law_way","_law_first","_law_heavy","_law_wide","_law_servers","_law_k","_law_one","_law_come","_law_rest","_law_whole","_law_told"] ["_law_feed_here","_law_most"] (defScope s_law_hall) :=by walk_at"sc"
theorem sc_law_all:FnScope ["_law_hall_here","_law_found","_law_speed","_law_room","_law_longer","_law_lines"] ["_law_hall_here"] (defScope s_law_all) :=by walk_at"sc"
theorem sc_law_rule:FnScope ["_law_feed_here","_law_hall_here","_law_word"] ["_law_feed_here","_law_hall_here"] (defScope s_law_rule) :=by walk_at"sc"
theorem sc_law_move:FnScope ["_law_feed_here","_law_hall_here","_law_way","_law_many","_law_kind","_law_word"] ["_law_feed_here","_law_hall_here","_law_way"] (defScope s_law_move) :=by walk_at"sc"
theorem sc_law_run:FnScope ["_law_feed_here","_law_hall_here","_law_many","_law_way"] ["_law_feed_here","_law_hall_here","_law_many"] (defScope s_law_run) :=by walk_at"sc"
theorem sc_law_turned_rule:FnScope ["_law_hall_here","_law_turned","_law_order","_law_rule_here","_law_places","_law_found","_law_lines","_law_before","_law_k"] ["_law_hall_here","_law_turned","_law_order","_law_rule_here"] (defScope s_law_turned_rule) :=by walk_at"sc"
theorem sc_law_turned_move:FnScope ["_law_order","_law_move_here"] ["_law_order","_law_move_here"] (defScope s_law_turned_move) :=by walk_at"sc"
theorem sc_law_right:FnScope ["_law_feed_here","_law_hall_here","_law_rule_here","_law_run_here","_law_order","_law_turned","_law_back","_law_other","_law_turned_run","_law_due"] ["_law_feed_here","_law_hall_here","_law_rule_here","_law_run_here"] (defScope s_law_right) :=by walk_at"sc"
theorem sclaw:FnScope ["_law_script","_law_feed_here","_law_k","_law_hall_here","_law_rule_here"] ["_law_script"] (defScope slaw) :=by walk_at"sc"
theorem era_perm{α:Type}:∀{l:List α}{i:Nat}{x:α}, l[i]?=some x -> (x::l.eraseIdx i).Perm l
 |[], _, _, e => by cases e
 |a::l, 0, x, e => by rw[<- Option.some.inj e];exact .refl _
 |a::l, i+1, x, e => (List.Perm.swap a x _).trans ((era_perm (l :=l) (i :=i) e).cons a)
theorem putZ_kyA:∀{ps kvs:List (PyData × PyData)}, kyA kvs=true -> (∀p ∈ ps, kyD p.1=true) -> kyA (putZ kvs ps)=true
 |[], _, h, _ => h
 |p::ps, kvs, h, hp => putZ_kyA (ps :=ps) (putP_kyA (hp p List.mem_cons_self) h) fun z hz => hp z (List.mem_cons_of_mem _ hz)
theorem zip_ky(ks:List (List Nat))(vs:List PyData):kyA (putZ [] ((ks.map lnD).zip vs))=true :=putZ_kyA rfl fun p hp => by
 obtain⟨l, _, e⟩ :=List.mem_map.mp (List.of_mem_zip hp).1;rw[<- e];exact ln_ky l
theorem rep_nat(n:Nat):natD (List.replicate n 0)=List.replicate n (.int 0) :=by unfold natD;rw[List.map_replicate];rfl
def unD:PyData -> Nat
 | .int i => i.toNat
 |_ => 0
theorem natD_un(a:List Nat):(natD a).map unD=a :=by
 unfold natD;rw[List.map_map];exact(List.map_congr_left fun k _ => Int.toNat_natCast k).trans (List.map_id _)
theorem rng_nat(n:Nat):rangeD 0 n=natD (List.range n) :=by
 unfold rangeD natD;exact List.map_congr_left fun k _ => congrArg PyData.int (Int.zero_add k)
theorem Pm.ofD(h:(natD o).Perm (rangeD 0 n)):Pm n o :=by
 rw[rng_nat]at h;have :=h.map unD;rw[natD_un, natD_un]at this;exact⟨this⟩
def bo(n:Nat)(o:List Nat):List Nat :=(List.range n).map (idx o)
theorem bo_pm(P:Pm n o):Pm n (bo n o) :=by
 refine⟨(P.pm.symm.map (idx o)).trans (List.Perm.of_eq ?_)⟩;refine List.ext_getElem? fun i => ?_
 by_cases hi:i<n
 .obtain⟨j, ej⟩:∃j, o[i]?=some j :=⟨_, List.getElem?_eq_getElem (by rw[P.ln];exact hi)⟩;rw[List.getElem?_map, ej, List.getElem?_range hi];exact congrArg some (P.inj (P.at (P.lt j (List.mem_of_getElem? ej))).1 ej)
 .rw[List.getElem?_eq_none (by rw[List.length_map, P.ln];omega), List.getElem?_eq_none (by simpa using hi)]
theorem bo_back{h:Hall}(P:Pm h.ss.length o):hT (hT h o) (bo h.ss.length o)=h :=by
 have e:tn s0 (bo h.ss.length o) (tn s0 o h.ss)=h.ss :=by
  refine List.ext_getElem? fun i => ?_
  by_cases hi:i<h.ss.length
  .have eb:(bo h.ss.length o)[i]?=some (idx o i) :=by unfold bo;rw[List.getElem?_map, List.getElem?_range hi];rfl
   rw[tn_get? eb, tn_get P hi, List.getD_eq_getElem?_getD, List.getElem?_eq_getElem hi];rfl
  .rw[List.getElem?_eq_none (by rw[tn_len (bo_pm P)];omega), List.getElem?_eq_none (by omega)]
 show Hall.mk h.a h.b (tn s0 (bo h.ss.length o) (tn s0 o h.ss)) h.mv=h;rw[e]
theorem hall_shp(h:Hall):Shp 4 h.d :=shp_tuple (k :=3) fun d hd => by
 simp at hd;rcases hd with rfl|rfl|rfl
 .exact(shp_tuple (k :=0) fun d hd => by simp at hd;rcases hd with rfl|rfl<;>exact shp_int _).mono (by decide)
 .refine shp_tuple (k :=2) fun d hd => ?_;obtain⟨s, _, rfl⟩ :=List.mem_map.mp hd;refine shp_tuple (k :=1) fun d hd => ?_;simp at hd;rcases hd with rfl|rfl
  .exact shp_tuple (k :=0) fun d hd => by simp at hd;rcases hd with rfl|rfl<;>exact shp_int _
  .exact(shp_int _).mono (by decide)
 .exact(shp_bool _).mono (by decide)
theorem stands_stT{h:Hall}{r:Rule}(ho:h.Ok)(hr:r.Ok h):∀{R:List Mv}{p:List Nat × Nat}, (∀mv ∈ R, mv.Ok h) -> St h r p.1 p.2 -> ∀q ∈ standsF h r p R, St h r q.1 q.2
 |[], p, _, S, q, hq => by rw[List.mem_singleton.mp hq];exact S
 |mv::R, p, hR, S, q, hq => by
  rcases List.mem_cons.mp hq with e|e
  .rw[e];exact S
  .exact stands_stT ho hr (R :=R) (p :=((moved h r p.1 p.2 mv).1, (moved h r p.1 p.2 mv).2.1)) (fun z hz => hR z (List.mem_cons_of_mem _ hz)) (moved_st ho hr S (hR mv List.mem_cons_self)) q e
def noMv(h:Hall):Hall :=⟨h.a, h.b, h.ss, false⟩
theorem noMv_ok{h:Hall}(ho:h.Ok):(noMv h).Ok :=⟨ho.a1, ho.a2, ho.b1, ho.b2, ho.n1, ho.n4, ho.ok⟩
section
variable {P:Program}{w:World}{K:PySem.W.Frag}{mg:Str -> Option Value}{base:Heap}
theorem okis_less(T:Bl mg)(D:DefM K mg "is_less" sis_less ["one","other"]):FnM P w K mg base "is_less" 1 2 spLess :=by
 refine mk_fn' D scis_less rfl (nN :=2) rfl (by decide) ?ar fun cdv A outer s H E f hr => ⟨_, (mss_one' (ms_ret' (me_cmp' op_ltM (me_bin' op_mulSM (me_ix' (mv' 0) mh') (me_ix' (mv' 1) mh')) (me_bin' op_mulSM (me_ix' (mv' 1) mh') (me_ix' (mv' 0) mh')) (nomark _)))), ?_⟩
 case ar => rintro as Kc ⟨a, b, c, d, rfl, _⟩;rfl
 rintro as Kc hl ⟨a, b, c, d, rfl, ha, hb, hc, hd, k⟩;refine x_start (MSt.mk [some (.imm (.tuple [.int a, .int b])), some (.imm (.tuple [.int c, .int d]))] [] 0) rfl ?_;walk_at"xs";have e:decide ((a:Int)*(d:Int)<(c:Int)*(b:Int))=decide (a*d<c*b) :=by
  rw[<- Int.natCast_mul, <- Int.natCast_mul];exact decide_eq_decide.mpr Int.ofNat_lt
 rw[e];exact k
theorem okplace_of_lines(T:Bl mg)(D:DefM K mg "place_of_lines" splace_of_lines ["hall","lines"]):FnM P w K mg base "place_of_lines" 1 2 spPlace :=by
 refine mk_fn' D scplace_of_lines rfl (nN :=5) rfl (by decide) ?ar fun cdv A outer s H E f hr => ⟨_, (mz' (ms_set' (i :=2) scplace_of_lines.nd rfl (Or.inl rfl) mh')
   (mz' (ms_for' (mi_zip' T.zip (mc' (mv' 1) (mc' (me_ix' (mv' 0) mh') mn'))) (mg_tup' (n :=2) (mgs_cons' (mg_name' (i :=3) scplace_of_lines.nd rfl (Or.inl rfl)) (mgs_cons' (mg_name' (i :=4) scplace_of_lines.nd rfl (Or.inl rfl)) mgs_nil'))) (mss_one' (ms_set' (i :=2) scplace_of_lines.nd rfl (Or.inl rfl) (me_bin' op_addM (me_bin' op_mulSM (mv' 2) (me_bin' op_addM (me_ix' (mv' 4) mh') mh')) (mv' 3)))) PassesOwn.never)
   (mss_one' (ms_ret' (mv' 2))))), ?_⟩
 case ar => rintro as Kc ⟨h, l, rfl, _⟩;rfl
 rintro as Kc hl ⟨h, l, rfl, ho, hL, k⟩;refine x_start (MSt.mk [some (.imm (.tuple [.tuple [.int h.a, .int h.b], .tuple (h.ss.map Srv.d), .bool h.mv])), some (.imm (.tuple (natD l))), none, none, none] [] 0) rfl ?_;walk_at"xs";refine⟨true, _, true, _, rfl, rfl, ?_⟩;refine x_loop0 (fun i m => ∃a b, m=MSt.mk [some (.imm (.tuple [.tuple [.int h.a, .int h.b], .tuple (h.ss.map Srv.d), .bool h.mv])), some (.imm (.tuple (natD l))), some (.imm (.int (M7.placeF 0 (h.rs.take i) (l.take i):Nat))), a, b] [] 0) ⟨none, none, rfl⟩ ?_ ?_
 .rintro i d m e n ⟨a, b, rfl⟩;obtain⟨a1, b1, e1, e2, rfl⟩ :=get_zip e;obtain⟨x, ex, rfl, hi⟩ :=gmap e1;obtain⟨s, es, rfl, hj⟩ :=gmap e2;have r6 :=(ho.ok s (List.mem_of_getElem? es)).r6;rw[M7.placeF_take (Hall.rs_get es) ex];dsimp only[Srv.d];walk_at"xs"
  .rfl
  walk_at"xs";generalize M7.placeF 0 (h.rs.take i) (l.take i)=P;have ec:(P:Int)*((s.r:Int)+1)+(x:Int)=((P*(s.r+1)+x:Nat):Int) :=by
   rw[Int.natCast_add, Int.natCast_mul, Int.natCast_add];rfl
  rw[ec];exact⟨_, _, rfl⟩
 .rintro m n ⟨a, b, rfl⟩;have e1:min (natD l).length (h.ss.map Srv.d).length=l.length :=by rw[natD_length, List.length_map];have :=hL.1;omega
  rw[zipD_length, e1];have e2:h.rs.take l.length=h.rs :=by rw[hL.1, <- h.rsl];exact List.take_length
  rw[e2, List.take_length];walk_at"xs";exact k
theorem okfirst_shortest(T:Bl mg)(D:DefM K mg "first_shortest" sfirst_shortest ["lines","order"]):FnM P w K mg base "first_shortest" 1 2 spShortest :=by
 refine mk_fn' D scfirst_shortest rfl (nN :=4) rfl (by decide) ?ar fun cdv A outer s H E f hr => ⟨_, (mz' (ms_set' (i :=2) scfirst_shortest.nd rfl (Or.inl rfl) (me_ix' (mv' 1) mh'))
   (mz' (ms_for' (mi_seq' (mv' 1)) (mg_name' (i :=3) scfirst_shortest.nd rfl (Or.inl rfl)) (mss_one' (ms_if' (mt_cmp' op_ltM (me_ix' (mv' 0) (mv' 3)) (me_ix' (mv' 0) (mv' 2)) (nomark _)) (mss_one' (ms_set' (i :=2) scfirst_shortest.nd rfl (Or.inl rfl) (mv' 3))) mss_nil')) PassesOwn.never)
   (mss_one' (ms_ret' (mv' 2))))), ?_⟩
 case ar => rintro as Kc ⟨l, o, rfl, _⟩;rfl
 rintro as Kc hl ⟨l, o, rfl, hO, k⟩;obtain⟨o0, os, rfl, h0⟩ :=hO.cons;refine x_start (MSt.mk [some (.imm (.tuple (natD l))), some (.imm (.tuple (natD (o0::os)))), none, none] [] 0) rfl ?_;walk_at"xs";refine x_itemT (atI_nat (j :=0) (natD_get rfl)) ?_;walk_at"xs";refine x_loop0 (fun i m => ∃a, m=MSt.mk [some (.imm (.tuple (natD l))), some (.imm (.tuple (natD (o0::os)))), some (.imm (.int (M7.pick (shorter l) o0 ((o0::os).take i):Nat))), a] [] 0) ⟨none, rfl⟩ ?_ ?_
 .rintro i d m e n ⟨a, rfl⟩;obtain⟨j, ej, rfl, hi⟩ :=gmap e;have hj :=hO.lt j (List.mem_of_getElem? ej);have hb:M7.pick (shorter l) o0 ((o0::os).take i)<l.length :=pick_lt hO i;have et:(o0::os).take (i+1)=(o0::os).take i ++ [j] :=by rw[List.take_add_one, ej];rfl
  rw[et, M7.pick_app];generalize M7.pick (shorter l) o0 ((o0::os).take i)=b at hb;walk_at"xs";refine x_itemT (atI_nat (natD_get (getN rfl hj))) ?_;walk_at"xs";refine x_itemT (atI_nat (natD_get (getN rfl hb))) ?_;walk_at"xs";refine x_ite (fun h => ?_) (fun h => ?_)
  .walk_at"xs";rw[if_pos (show shorter l j b=true from decide_eq_true (by omega))];exact⟨_, rfl⟩
  .walk_at"xs";rw[if_neg (show ¬shorter l j b=true by unfold shorter;rw[decide_eq_true_eq];omega)];exact⟨_, rfl⟩
 .rintro m n ⟨a, rfl⟩;rw[natD_length, List.take_length];walk_at"xs";exact k
theorem okwait_at(T:Bl mg)(D:DefM K mg "wait_at" swait_at ["hall","lines","line"]):FnM P w K mg base "wait_at" 1 3 spWait :=by
 refine mk_fn' D scwait_at rfl (nN :=5) rfl (by decide) ?ar fun cdv A outer s H E f hr => ⟨_, (mz' (ms_asg' (me_ix' (me_ix' (me_ix' (mv' 0) mh') (mv' 2)) mh') (mg_tup' (n :=2) (mgs_cons' (mg_name' (i :=3) scwait_at.nd rfl (Or.inl rfl)) (mgs_cons' (mg_name' (i :=4) scwait_at.nd rfl (Or.inl rfl)) mgs_nil'))))
   (mss_one' (ms_ret' (me_tup' (mc' (me_bin' op_mulSM (me_bin' op_addM (me_ix' (mv' 1) (mv' 2)) mh') (mv' 4)) (mc' (mv' 3) mn')))))), ?_⟩
 case ar => rintro as Kc ⟨h, l, j, rfl, _⟩;rfl
 rintro as Kc hl ⟨h, l, j, rfl, ho, hL, hj, k⟩;obtain⟨s, es, ea, eb, hs⟩ :=h.srv hj;have so :=ho.ok s hs;have b2 :=so.b2;rw[ea, eb]at k;have el :=getN hL.1 hj;refine x_start (MSt.mk [some (.imm (.tuple [.tuple [.int h.a, .int h.b], .tuple (h.ss.map Srv.d), .bool h.mv])), some (.imm (.tuple (natD l))), some (.imm (.int (j:Int))), none, none] [] 0) rfl ?_;walk_at"xs";refine x_itemT (d :=s.d) (atI_nat (by rw[List.getElem?_map, es];rfl)) ?_;dsimp only[Srv.d];walk_at"xs"
 .rfl
 walk_at"xs";refine x_itemT (atI_nat (natD_get el)) ?_;walk_at"xs";have e:(((l.getD j 0:Nat):Int)+1)*(s.b:Int)=(((l.getD j 0+1)*s.b:Nat):Int) :=by
  rw[Int.natCast_mul, Int.natCast_add];rfl
 rw[e];exact k
theorem okfirst_quickest(T:Bl mg)(D:DefM K mg "first_quickest" sfirst_quickest ["hall","lines","order"])(Gwait_at:FnM P w K mg base "wait_at" 1 3 spWait)(Gis_less:FnM P w K mg base "is_less" 1 2 spLess):FnM P w K mg base "first_quickest" 2 3 spQuickest :=by
 refine mk_fn' D scfirst_quickest rfl (nN :=7) rfl (by decide) ?ar fun cdv A outer s H E f hr => ⟨_, (mz' (ms_set' (i :=3) scfirst_quickest.nd rfl (Or.inl rfl) (me_ix' (mv' 2) mh'))
   (mz' (ms_set' (i :=4) scfirst_quickest.nd rfl (Or.inl rfl) (mf' Gwait_at (hr.mono (by decide)) (mc' (mv' 0) (mc' (mv' 1) (mc' (mv' 3) mn')))))
   (mz' (ms_for' (mi_seq' (mv' 2)) (mg_name' (i :=5) scfirst_quickest.nd rfl (Or.inl rfl)) (mz' (ms_set' (i :=6) scfirst_quickest.nd rfl (Or.inl rfl) (mf' Gwait_at (hr.mono (by decide)) (mc' (mv' 0) (mc' (mv' 1) (mc' (mv' 5) mn')))))
   (mss_one' (ms_if' (mt_val' (mf' Gis_less (hr.mono (by decide)) (mc' (mv' 6) (mc' (mv' 4) mn')))) (mss_one' (ms_par' (i :=3) (j :=4) scfirst_quickest.nd rfl rfl (by decide) rfl rfl (mc' (mv' 5) (mc' (mv' 6) mn')) rfl)) mss_nil'))) PassesOwn.never)
   (mss_one' (ms_ret' (mv' 3)))))), ?_⟩
 case ar => rintro as Kc ⟨h, l, o, rfl, _⟩;rfl
 rintro as Kc hl ⟨h, l, o, rfl, ho, hL, hO, k⟩;obtain⟨o0, os, rfl, h0⟩ :=hO.cons;have bd:∀j, j<h.ss.length -> (l.getD j 0+1)*h.bn j<1000000000000 /\ h.an j<1000000000000 :=fun j hj => by
  obtain⟨s, es, ea, eb, hs⟩ :=h.srv hj;have so :=ho.ok s hs;have h6 :=hL.le ho _ (List.mem_of_getElem? (getN hL.1 hj));rw[ea, eb];have :=so.a2;have:(l.getD j 0+1)*s.b ≤ 7*1000000 :=Nat.mul_le_mul (by omega) (by have :=so.b2;omega);omega
 refine x_start (MSt.mk [some (.imm h.d), some (.imm (.tuple (natD l))), some (.imm (.tuple (natD (o0::os)))), none, none, none, none] [] 0) rfl ?_;walk_at"xs";refine x_itemT (atI_nat (j :=0) (natD_get rfl)) ?_;walk_at"xs";refine⟨h, l, o0, rfl, ho, hL, h0, ?_⟩;walk_at"xx";refine x_loop0 (fun i m => ∃a b, m=MSt.mk [some (.imm h.d), some (.imm (.tuple (natD l))), some (.imm (.tuple (natD (o0::os)))), some (.imm (.int (M7.pick (quicker h l) o0 ((o0::os).take i):Nat))), some (.imm (frD ((l.getD (M7.pick (quicker h l) o0 ((o0::os).take i)) 0+1)*h.bn (M7.pick (quicker h l) o0 ((o0::os).take i)):Nat) (h.an (M7.pick (quicker h l) o0 ((o0::os).take i)):Nat))), a, b] [] 0) ⟨none, none, rfl⟩ ?_ ?_
 .rintro i d m e n ⟨a, b, rfl⟩;obtain⟨j, ej, rfl, hi⟩ :=gmap e;have hj :=hO.lt j (List.mem_of_getElem? ej);have hb:M7.pick (quicker h l) o0 ((o0::os).take i)<h.ss.length :=pick_lt hO i;have et:(o0::os).take (i+1)=(o0::os).take i ++ [j] :=by rw[List.take_add_one, ej];rfl
  rw[et, M7.pick_app];generalize M7.pick (quicker h l) o0 ((o0::os).take i)=b at hb;walk_at"xs";refine⟨h, l, j, rfl, ho, hL, hj, ?_⟩;walk_at"xx";obtain⟨b1, b2⟩ :=bd j hj;obtain⟨b3, b4⟩ :=bd b hb;refine⟨_, _, _, _, rfl, b1, b2, b3, b4, ?_⟩;walk_at"xx";refine x_ite (fun q => ?_) (fun q => ?_)
  .walk_at"xs";rw[if_pos (show quicker h l j b=true from decide_eq_true q)];exact⟨_, _, rfl⟩
  .walk_at"xs";rw[if_neg (show ¬quicker h l j b=true by unfold quicker;rw[decide_eq_true_eq];exact q)];exact⟨_, _, rfl⟩
 .rintro m n ⟨a, b, rfl⟩;rw[natD_length, List.take_length];walk_at"xs";exact k
theorem oksent_to(T:Bl mg)(D:DefM K mg "sent_to" ssent_to ["hall","rule","stand","order"])(Gfirst_shortest:FnM P w K mg base "first_shortest" 1 2 spShortest)(Gfirst_quickest:FnM P w K mg base "first_quickest" 2 3 spQuickest)(Gplace_of_lines:FnM P w K mg base "place_of_lines" 1 2 spPlace):FnM P w K mg base "sent_to" 3 4 spSentTo :=by
 refine mk_fn' D scsent_to rfl (nN :=7) rfl (by decide) ?ar fun cdv A outer s H E f hr => ⟨_, (mz' (ms_asg' (mv' 2) (mg_tup' (n :=2) (mgs_cons' (mg_name' (i :=4) scsent_to.nd rfl (Or.inl rfl)) (mgs_cons' (mg_name' (i :=5) scsent_to.nd rfl (Or.inl rfl)) mgs_nil'))))
   (mz' (ms_set' (i :=6) scsent_to.nd rfl (Or.inl rfl) (me_ix' (mv' 1) mh'))
   (mz' (ms_if' (mt_cmp' (op_eqM hr.units) (mv' 6) me_str' (nomark _)) (mss_one' (ms_ret' (me_ix' (mv' 3) mh'))) mss_nil')
   (mz' (ms_if' (mt_cmp' (op_eqM hr.units) (mv' 6) me_str' (nomark _)) (mss_one' (ms_ret' (mv' 5))) mss_nil')
   (mz' (ms_if' (mt_cmp' (op_eqM hr.units) (mv' 6) me_str' (nomark _)) (mss_one' (ms_ret' (mf' Gfirst_shortest (hr.mono (by decide)) (mc' (mv' 4) (mc' (me_imm' (me_slice' sl_cutM (mv' 3) mo_none' (mo_some' mh'))) mn'))))) mss_nil')
   (mz' (ms_if' (mt_cmp' (op_eqM hr.units) (mv' 6) me_str' (nomark _)) (mss_one' (ms_ret' (mf' Gfirst_shortest (hr.mono (by decide)) (mc' (mv' 4) (mc' (mv' 3) mn'))))) mss_nil')
   (mz' (ms_if' (mt_cmp' (op_eqM hr.units) (mv' 6) me_str' (nomark _)) (mss_one' (ms_ret' (mf' Gfirst_quickest (hr.mono (by decide)) (mc' (mv' 0) (mc' (mv' 4) (mc' (mv' 3) mn')))))) mss_nil')
   (mss_one' (ms_ret' (me_ix' (me_ix' (mv' 1) mh') (mf' Gplace_of_lines (hr.mono (by decide)) (mc' (mv' 0) (mc' (mv' 4) mn'))))))))))))), ?_⟩
 case ar => rintro as Kc ⟨h, r, l, t, o, rfl, _⟩;rfl
 rintro as Kc hl ⟨h, r, l, t, o, rfl, ho, hr0, hL, hO, k⟩;have hll :=hL.1;have hO':Ord l.length o :=by rw[hll];exact hO
 cases r with
 |random =>
  refine x_start (MSt.mk [some (.imm h.d), some (.imm (.tuple [.str "random"])), some (.imm (.tuple [lnD l, .int (t:Int)])), some (.imm (.tuple (natD o))), none, none, none] [] 0) rfl ?_;walk_at"xs"
  .rfl
  walk_at"xs";refine x_ite (fun _ => ?_) (fun z => (z rfl).elim);obtain⟨o0, os, rfl, h0⟩ :=hO.cons;walk_at"xs";refine x_itemT (atI_nat (j :=0) (natD_get rfl)) ?_;walk_at"xs";exact k
 |turns =>
  refine x_start (MSt.mk [some (.imm h.d), some (.imm (.tuple [.str "turns"])), some (.imm (.tuple [lnD l, .int (t:Int)])), some (.imm (.tuple (natD o))), none, none, none] [] 0) rfl ?_;walk_at"xs"
  .rfl
  walk_at"xs";refine x_ite (fun z => absurd z (by decide +kernel)) (fun _ => ?_);walk_at"xs";refine x_ite (fun _ => ?_) (fun z => (z rfl).elim);walk_at"xs";exact k
 | two =>
  refine x_start (MSt.mk [some (.imm h.d), some (.imm (.tuple [.str "two"])), some (.imm (.tuple [lnD l, .int (t:Int)])), some (.imm (.tuple (natD o))), none, none, none] [] 0) rfl ?_;walk_at"xs"
  .rfl
  walk_at"xs";refine x_ite (fun z => absurd z (by decide +kernel)) (fun _ => ?_);walk_at"xs";refine x_ite (fun z => absurd z (by decide +kernel)) (fun _ => ?_);walk_at"xs";refine x_ite (fun _ => ?_) (fun z => (z rfl).elim);walk_at"xs";have e:cutD (natD o) none (some 2)=natD (o.take 2) :=by
   rw[show(2:Int)=((2:Nat):Int)from rfl, cutD_to];simp[natD]
  rw[e];obtain⟨o0, os, rfl, h0⟩ :=hO.cons;refine⟨l, (o0::os).take 2, rfl, ⟨by simp, fun k hk => hO'.lt k (List.mem_of_mem_take hk), by rw[List.length_take];omega⟩, ?_⟩;walk_at"xn";exact k
 |least =>
  refine x_start (MSt.mk [some (.imm h.d), some (.imm (.tuple [.str "least"])), some (.imm (.tuple [lnD l, .int (t:Int)])), some (.imm (.tuple (natD o))), none, none, none] [] 0) rfl ?_;walk_at"xs"
  .rfl
  walk_at"xs";refine x_ite (fun z => absurd z (by decide +kernel)) (fun _ => ?_);walk_at"xs";refine x_ite (fun z => absurd z (by decide +kernel)) (fun _ => ?_);walk_at"xs";refine x_ite (fun z => absurd z (by decide +kernel)) (fun _ => ?_);walk_at"xs";refine x_ite (fun _ => ?_) (fun z => (z rfl).elim);walk_at"xs";refine⟨l, o, rfl, hO', ?_⟩;walk_at"xn";exact k
 |quick =>
  refine x_start (MSt.mk [some (.imm h.d), some (.imm (.tuple [.str "quick"])), some (.imm (.tuple [lnD l, .int (t:Int)])), some (.imm (.tuple (natD o))), none, none, none] [] 0) rfl ?_;walk_at"xs"
  .rfl
  walk_at"xs";refine x_ite (fun z => absurd z (by decide +kernel)) (fun _ => ?_);walk_at"xs";refine x_ite (fun z => absurd z (by decide +kernel)) (fun _ => ?_);walk_at"xs";refine x_ite (fun z => absurd z (by decide +kernel)) (fun _ => ?_);walk_at"xs";refine x_ite (fun z => absurd z (by decide +kernel)) (fun _ => ?_);walk_at"xs";refine x_ite (fun _ => ?_) (fun z => (z rfl).elim);walk_at"xs";refine⟨h, l, o, rfl, ho, hL, hO, ?_⟩;walk_at"xn";exact k
 |told ps =>
  refine x_start (MSt.mk [some (.imm h.d), some (.imm (.tuple [.str "told", .tuple (natD ps)])), some (.imm (.tuple [lnD l, .int (t:Int)])), some (.imm (.tuple (natD o))), none, none, none] [] 0) rfl ?_;walk_at"xs"
  .rfl
  walk_at"xs";refine x_ite (fun z => absurd z (by decide +kernel)) (fun _ => ?_);walk_at"xs";refine x_ite (fun z => absurd z (by decide +kernel)) (fun _ => ?_);walk_at"xs";refine x_ite (fun z => absurd z (by decide +kernel)) (fun _ => ?_);walk_at"xs";refine x_ite (fun z => absurd z (by decide +kernel)) (fun _ => ?_);walk_at"xs";refine x_ite (fun z => absurd z (by decide +kernel)) (fun _ => ?_);walk_at"xs";refine⟨h, l, rfl, ho, hL, ?_⟩;walk_at"xn";have hlt:M7.placeF 0 h.rs l<ps.length :=by rw[hr0.1, M7.allR_cnt];exact M7.place_lt hL.fits
  refine x_itemT (atI_nat (natD_get (getN rfl hlt))) ?_;exact k
theorem okfirst_stand(T:Bl mg)(D:DefM K mg "first_stand" sfirst_stand ["hall"]):FnM P w K mg base "first_stand" 1 1 spFirst :=by
 refine mk_fn' D scfirst_stand rfl (nN :=1) rfl (by decide) ?ar fun cdv A outer s H E f hr => ⟨_, (mss_one' (ms_ret' (me_tup' (mc' (me_bin' op_mulSM (me_tup' (mc' mh' mn')) (me_callB' call_lenM (by rfl) T.len bt_len (mc' (me_ix' (mv' 0) mh') mn'))) (mc' mh' mn'))))), ?_⟩
 case ar => rintro as Kc ⟨h, rfl, _⟩;rfl
 rintro as Kc hl ⟨h, rfl, ho, k⟩;have n1 :=ho.n1;have n4 :=ho.n4;refine x_start (MSt.mk [some (.imm (.tuple [.tuple [.int h.a, .int h.b], .tuple (h.ss.map Srv.d), .bool h.mv]))] [] 0) rfl ?_;walk_at"xs";rw[List.length_map];refine x_mulT (by omega) (by omega) (by simp;omega) ?_;walk_at"xs";have e:(List.replicate ((h.ss.length:Nat):Int).toNat [PyData.int 0]).flatten=natD (zer h) :=by
  rw[Int.toNat_natCast];simp[zer, natD]
 rw[e];exact k
theorem okwith_more(T:Bl mg)(D:DefM K mg "with_more" swith_more ["lines","line","more"]):FnM P w K mg base "with_more" 1 3 spMore :=by
 refine mk_fn' D scwith_more rfl (nN :=3) rfl (by decide) ?ar fun cdv A outer s H E f hr => ⟨_, (mss_one' (ms_ret' (me_bin' op_addM (me_bin' op_addM (me_slice' sl_cutM (mv' 0) mo_none' (mo_some' (mv' 1))) (me_tup' (mc' (me_bin' op_addM (me_ix' (mv' 0) (mv' 1)) (mv' 2)) mn'))) (me_slice' sl_cutM (mv' 0) (mo_some' (me_bin' op_addM (mv' 1) mh')) mo_none')))), ?_⟩
 case ar => rintro as Kc ⟨l, j, d, x, rfl, _⟩;rfl
 rintro as Kc hl ⟨l, j, d, x, rfl, hj, hl4, hx, k⟩;refine x_start (MSt.mk [some (.imm (.tuple (natD l))), some (.imm (.int (j:Int))), some (.imm (.int d))] [] 0) rfl ?_;walk_at"xs";refine x_itemT (atI_nat (natD_get (getN rfl hj))) ?_;walk_at"xs";rw[hx, cutD_to];refine x_addT (by rw[sizeLine_eq, List.length_take, natD_length];simp;omega) ?_;walk_at"xs";rw[show(j:Int)+1=((j+1:Nat):Int)from rfl, cutD_from];refine x_addT (by rw[sizeLine_eq, List.length_append, List.length_take, List.length_drop, natD_length];simp;omega) ?_;walk_at"xs";have e:(natD l).take j ++ [.int (x:Int)] ++ (natD l).drop (j+1)=natD (l.set j x) :=by
  rw[<- natD_set, List.set_eq_take_append_cons_drop, if_pos (by rw[natD_length];exact hj)];simp
 rw[e];exact k
theorem okcome_to(T:Bl mg)(D:DefM K mg "come_to" scome_to ["hall","lines","line"])(Gwith_more:FnM P w K mg base "with_more" 1 3 spMore):FnM P w K mg base "come_to" 2 3 spCome :=by
 refine mk_fn' D sccome_to rfl (nN :=3) rfl (by decide) ?ar fun cdv A outer s H E f hr => ⟨_, (mz' (ms_if' (mt_cmp' (op_eqM hr.units) (me_ix' (mv' 1) (mv' 2)) (me_ix' (me_ix' (me_ix' (mv' 0) mh') (mv' 2)) mh') (nomark _)) (mss_one' (ms_ret' (me_tup' (mc' (mv' 1) (mc' me_str' mn'))))) mss_nil')
   (mss_one' (ms_ret' (me_tup' (mc' (mf' Gwith_more (hr.mono (by decide)) (mc' (mv' 1) (mc' (mv' 2) (mc' mh' mn')))) (mc' me_str' mn')))))), ?_⟩
 case ar => rintro as Kc ⟨h, l, j, rfl, _⟩;rfl
 rintro as Kc hl ⟨h, l, j, rfl, ho, hL, hj, k⟩;have hll :=hL.1;have n4 :=ho.n4;obtain⟨s, es, ea, eb, hs⟩ :=h.srv hj;have er:h.rn j=s.r :=getD_of (Hall.rs_get es);refine x_start (MSt.mk [some (.imm (.tuple [.tuple [.int h.a, .int h.b], .tuple (h.ss.map Srv.d), .bool h.mv])), some (.imm (.tuple (natD l))), some (.imm (.int (j:Int)))] [] 0) rfl ?_;walk_at"xs";refine x_itemT (atI_nat (natD_get (getN hll hj))) ?_;walk_at"xs";refine x_itemT (d :=s.d) (atI_nat (by rw[List.getElem?_map, es];rfl)) ?_;dsimp only[Srv.d];walk_at"xs";refine x_ite (fun z => ?_) (fun z => ?_)
 .walk_at"xs";have e:comeTo h l j=(l, .away) :=if_pos (by rw[er];omega);rw[e]at k;exact k
 .walk_at"xs";refine⟨l, j, 1, l.getD j 0+1, rfl, by omega, by omega, rfl, ?_⟩;walk_at"xx";have e:comeTo h l j=(l.set j (l.getD j 0+1), .taken) :=if_neg (by rw[er];omega);rw[e]at k;exact k
theorem okdone_at(T:Bl mg)(D:DefM K mg "done_at" sdone_at ["lines","line"])(Gwith_more:FnM P w K mg base "with_more" 1 3 spMore):FnM P w K mg base "done_at" 2 2 spDone :=by
 refine mk_fn' D scdone_at rfl (nN :=2) rfl (by decide) ?ar fun cdv A outer s H E f hr => ⟨_, (mz' (ms_if' (mt_cmp' (op_eqM hr.units) (me_ix' (mv' 0) (mv' 1)) mh' (nomark _)) (mss_one' (ms_ret' (me_tup' (mc' (mv' 0) (mc' me_str' mn'))))) mss_nil')
   (mss_one' (ms_ret' (me_tup' (mc' (mf' Gwith_more (hr.mono (by decide)) (mc' (mv' 0) (mc' (mv' 1) (mc' (me_un' un_negM mh') mn')))) (mc' me_str' mn')))))), ?_⟩
 case ar => rintro as Kc ⟨l, j, rfl, _⟩;rfl
 rintro as Kc hl ⟨l, j, rfl, hj, hl4, k⟩;refine x_start (MSt.mk [some (.imm (.tuple (natD l))), some (.imm (.int (j:Int)))] [] 0) rfl ?_;walk_at"xs";refine x_itemT (atI_nat (natD_get (getN rfl hj))) ?_;walk_at"xs";refine x_ite (fun z => ?_) (fun z => ?_)
 .walk_at"xs";have e:doneAt l j=(l, .none) :=if_pos (by omega);rw[e]at k;exact k
 .walk_at"xs";refine⟨l, j, -1, l.getD j 0-1, rfl, hj, hl4, by omega, ?_⟩;walk_at"xx";have e:doneAt l j=(l.set j (l.getD j 0-1), .served) :=if_neg (by omega);rw[e]at k;exact k
theorem oknext_shift(T:Bl mg)(D:DefM K mg "next_shift" snext_shift ["hall","lines"]):FnM P w K mg base "next_shift" 1 2 spShift :=by
 refine mk_fn' D scnext_shift rfl (nN :=2) rfl (by decide) ?ar fun cdv A outer s H E f hr => ⟨_, (mz' (ms_if' (EW.pt (mw_or' (mt_not' (mt_val' (me_ix' (mv' 0) mh'))) (mw_or' (mt_cmp' (op_notInM hr.units) mh' (mv' 1) (by with_unfolding_all rfl)) (mw_or1' (mt_cmp' op_ltM (me_callB' (call_max1M rfl) (by rfl) T.max bt_max (mc' (mv' 1) mn')) mh' (nomark _)))))) (mss_one' (ms_ret' me_non')) mss_nil')
   (mss_one' (ms_ret' (me_tup' (mc' (me_tm' PySem.F.slot_tuple_index PySem.F.type_tuple_index (mt_indexTM hr.units) (mv' 1) (mc' (me_callB' (call_max1M rfl) (by rfl) T.max bt_max (mc' (mv' 1) mn')) mn')) (mc' (me_tm' PySem.F.slot_tuple_index PySem.F.type_tuple_index (mt_indexTM hr.units) (mv' 1) (mc' mh' mn')) mn')))))), ?_⟩
 case ar => rintro as Kc ⟨h, l, rfl, _⟩;rfl
 rintro as Kc hl ⟨h, l, rfl, hne, hl4, k⟩;have hints:intsOf (natD l)=some (l.map fun(x:Nat) => (x:Int)) :=by
  have :=intsOf_ints (l.map fun(x:Nat) => (x:Int));rwa[List.map_map]at this
 have hnei:(l.map fun(x:Nat) => (x:Int)) ≠ [] :=fun z => hne (List.map_eq_nil_iff.mp z);have hmax:∀x:Int, x ∈ (l.map fun(x:Nat) => (x:Int)) -> (∀y ∈ (l.map fun(x:Nat) => (x:Int)), y ≤ x) -> x=(maxN l:Int) :=fun x hx hy => by
  obtain⟨n, hn, rfl⟩ :=List.mem_map.mp hx;have h1 :=maxN_le n hn;have h2 :=hy (maxN l:Int) (List.mem_map.mpr ⟨maxN l, maxN_mem hne, rfl⟩);omega
 have hin:(natD l).any (fun y => PyData.eqv y (.int 0))=decide (0 ∈ l) :=by
  rw[Bool.eq_iff_iff];rw[List.any_eq_true, decide_eq_true_eq];constructor
  .rintro⟨y, hy, e⟩;obtain⟨x, hx, rfl⟩ :=List.mem_map.mp hy;have e' :=eqv_int x 0;rw[show((0:Nat):Int)=0 from rfl, e]at e';have:x=0 :=of_decide_eq_true e'.symm;rw[<- this];exact hx
  .intro h0;exact⟨.int 0, List.mem_map.mpr ⟨0, h0, rfl⟩, eqv_int 0 0⟩
 refine x_start (MSt.mk [some (.imm (.tuple [.tuple [.int h.a, .int h.b], .tuple (h.ss.map Srv.d), .bool h.mv])), some (.imm (.tuple (natD l)))] [] 0) rfl ?_;walk_at"xs"
 cases hmv:h.mv with
 |false =>
  refine x_iteT ?_;walk_at"xs";have e:shiftF h l=none :=if_neg (by rw[hmv];exact fun z => by cases z.1);rw[e]at k;exact k
 | true =>
  refine x_iteF ?_;walk_at"xs";refine x_in (d :=.int 0) (ds :=natD l) rfl (.inr rfl) (shp_int 0) (natD_shp l) (by decide) ?_;walk_at"xs";rw[hin]
  by_cases h0:0 ∈ l
  .rw[decide_eq_true h0];refine x_iteF ?_;walk_at"xs";refine x_max1 rfl hints hnei fun x hx hy => ?_;rw[hmax x hx hy];walk_at"xs";refine x_ite (fun z => ?_) (fun z => ?_)
   .walk_at"xs";have e:shiftF h l=none :=if_neg (fun q => by have :=q.2.2;omega);rw[e]at k;exact k
   .walk_at"xs";refine x_max1 rfl hints hnei fun x hx hy => ?_;rw[hmax x hx hy];have s1 :=idx_spec (maxN_mem hne);have s0 :=idx_spec h0;walk_at"xs";refine x_indexT (j :=idx l (maxN l)) (k' :=0) (shp_int _) (natD_shp l) (by decide) (natD_get s1.1) (by rw[eqv_int];exact decide_eq_true rfl) (fun i y hi hy => ?_) ?_
    .obtain⟨z, ez, rfl, _⟩ :=gmap hy;rw[eqv_int];exact decide_eq_false (s1.2 i z hi ez)
    walk_at"xs";refine x_indexT (j :=idx l 0) (k' :=0) (shp_int _) (natD_shp l) (by decide) (natD_get s0.1) (eqv_int 0 0) (fun i y hi hy => ?_) ?_
    .obtain⟨z', ez, rfl, _⟩ :=gmap hy;have :=eqv_int z' 0;rw[show((0:Nat):Int)=0 from rfl]at this;rw[this];exact decide_eq_false (s0.2 i z' hi ez)
    walk_at"xs";have e:shiftF h l=some (idx l (maxN l), idx l 0) :=if_pos ⟨hmv, h0, by omega⟩;rw[e]at k;exact k
  .rw[decide_eq_false h0];refine x_iteT ?_;walk_at"xs";have e:shiftF h l=none :=if_neg (fun q => h0 q.2.1);rw[e]at k;exact k
theorem oknext_shift_vL(T:Bl mg)(D:DefM K mg "next_shift" snext_shift ["hall","lines"]):FnM P w K mg base "next_shift" 1 2 spShiftL :=by
 refine mk_fn' D scnext_shift rfl (nN :=2) rfl (by decide) ?ar fun cdv A outer s H E f hr => ⟨_, (mz' (ms_if' (EW.pt (mw_or' (mt_not' (mt_val' (me_ix' (mv' 0) mh'))) (mw_or' (mt_cmp' (op_notInM hr.units) mh' (mv' 1) (by with_unfolding_all rfl)) (mw_or1' (mt_cmp' op_ltM (me_callB' (call_max1M rfl) (by rfl) T.max bt_max (mc' (mv' 1) mn')) mh' (nomark _)))))) (mss_one' (ms_ret' me_non')) mss_nil')
   (mss_one' (ms_ret' (me_tup' (mc' (me_ml' PySem.F.slot_list_index PySem.F.type_list_index (mt_indexM hr.units) (mv' 1) (mc' (me_callB' (call_max1M rfl) (by rfl) T.max bt_max (mc' (mv' 1) mn')) mn')) (mc' (me_ml' PySem.F.slot_list_index PySem.F.type_list_index (mt_indexM hr.units) (mv' 1) (mc' mh' mn')) mn')))))), ?_⟩
 case ar => rintro as Kc ⟨h, l, rfl, _⟩;rfl
 rintro as Kc hl ⟨h, l, rfl, hne, hl4, k⟩;have hints:intsOf (natD l)=some (l.map fun(x:Nat) => (x:Int)) :=by
  have :=intsOf_ints (l.map fun(x:Nat) => (x:Int));rwa[List.map_map]at this
 have hnei:(l.map fun(x:Nat) => (x:Int)) ≠ [] :=fun z => hne (List.map_eq_nil_iff.mp z);have hmax:∀x:Int, x ∈ (l.map fun(x:Nat) => (x:Int)) -> (∀y ∈ (l.map fun(x:Nat) => (x:Int)), y ≤ x) -> x=(maxN l:Int) :=fun x hx hy => by
  obtain⟨n, hn, rfl⟩ :=List.mem_map.mp hx;have h1 :=maxN_le n hn;have h2 :=hy (maxN l:Int) (List.mem_map.mpr ⟨maxN l, maxN_mem hne, rfl⟩);omega
 have hin:(natD l).any (fun y => PyData.eqv y (.int 0))=decide (0 ∈ l) :=by
  rw[Bool.eq_iff_iff];rw[List.any_eq_true, decide_eq_true_eq];constructor
  .rintro⟨y, hy, e⟩;obtain⟨x, hx, rfl⟩ :=List.mem_map.mp hy;have e' :=eqv_int x 0;rw[show((0:Nat):Int)=0 from rfl, e]at e';have:x=0 :=of_decide_eq_true e'.symm;rw[<- this];exact hx
  .intro h0;exact⟨.int 0, List.mem_map.mpr ⟨0, h0, rfl⟩, eqv_int 0 0⟩
 refine x_start (MSt.mk [some (.imm (.tuple [.tuple [.int h.a, .int h.b], .tuple (h.ss.map Srv.d), .bool h.mv])), some (.imm (.list (natD l)))] [] 0) rfl ?_;walk_at"xs"
 cases hmv:h.mv with
 |false =>
  refine x_iteT ?_;walk_at"xs";have e:shiftF h l=none :=if_neg (by rw[hmv];exact fun z => by cases z.1);rw[e]at k;exact k
 | true =>
  refine x_iteF ?_;walk_at"xs";refine x_in (d :=.int 0) (ds :=natD l) rfl (.inl rfl) (shp_int 0) (natD_shp l) (by decide) ?_;walk_at"xs";rw[hin]
  by_cases h0:0 ∈ l
  .rw[decide_eq_true h0];refine x_iteF ?_;walk_at"xs";refine x_max1 rfl hints hnei fun x hx hy => ?_;rw[hmax x hx hy];walk_at"xs";refine x_ite (fun z => ?_) (fun z => ?_)
   .walk_at"xs";have e:shiftF h l=none :=if_neg (fun q => by have :=q.2.2;omega);rw[e]at k;exact k
   .walk_at"xs";refine x_max1 rfl hints hnei fun x hx hy => ?_;rw[hmax x hx hy];have s1 :=idx_spec (maxN_mem hne);have s0 :=idx_spec h0;walk_at"xs";refine x_index (j :=idx l (maxN l)) (k' :=0) rfl (shp_int _) (natD_shp l) (by decide) (natD_get s1.1) (by rw[eqv_int];exact decide_eq_true rfl) (fun i y hi hy => ?_) ?_
    .obtain⟨z, ez, rfl, _⟩ :=gmap hy;rw[eqv_int];exact decide_eq_false (s1.2 i z hi ez)
    walk_at"xs";refine x_index (j :=idx l 0) (k' :=0) rfl (shp_int _) (natD_shp l) (by decide) (natD_get s0.1) (eqv_int 0 0) (fun i y hi hy => ?_) ?_
    .obtain⟨z', ez, rfl, _⟩ :=gmap hy;have :=eqv_int z' 0;rw[show((0:Nat):Int)=0 from rfl]at this;rw[this];exact decide_eq_false (s0.2 i z' hi ez)
    walk_at"xs";have e:shiftF h l=some (idx l (maxN l), idx l 0) :=if_pos ⟨hmv, h0, by omega⟩;rw[e]at k;exact k
  .rw[decide_eq_false h0];refine x_iteT ?_;walk_at"xs";have e:shiftF h l=none :=if_neg (fun q => h0 q.2.1);rw[e]at k;exact k
theorem oksettled(T:Bl mg)(D:DefM K mg "settled" ssettled ["hall","lines"])(Gnext_shift:FnM P w K mg base "next_shift" 1 2 spShift)(Gwith_more:FnM P w K mg base "with_more" 1 3 spMore):FnM P w K mg base "settled" 2 2 spSettled :=by
 refine mk_fn' D scsettled rfl (nN :=3) rfl (by decide) ?ar fun cdv A outer s H E f hr => ⟨_, (mz' (ms_set' (i :=2) scsettled.nd rfl (Or.inl rfl) (mf' Gnext_shift (hr.mono (by decide)) (mc' (mv' 0) (mc' (mv' 1) mn'))))
   (mz' (ms_while' (mt_cmp' op_isNotNM (mv' 2) me_non' (nomark _)) (mz' (ms_set' (i :=1) scsettled.nd rfl (Or.inl rfl) (mf' Gwith_more (hr.mono (by decide)) (mc' (mf' Gwith_more (hr.mono (by decide)) (mc' (mv' 1) (mc' (me_ix' (mv' 2) mh') (mc' (me_un' un_negM mh') mn')))) (mc' (me_ix' (mv' 2) mh') (mc' mh' mn')))))
   (mss_one' (ms_set' (i :=2) scsettled.nd rfl (Or.inl rfl) (mf' Gnext_shift (hr.mono (by decide)) (mc' (mv' 0) (mc' (mv' 1) mn')))))) PassesOwn.never)
   (mss_one' (ms_ret' (mv' 1))))), ?_⟩
 case ar => rintro as Kc ⟨h, l, rfl, _⟩;rfl
 rintro as Kc hl ⟨h, l, rfl, hne, hl4, k⟩;refine x_start (MSt.mk [some (.imm h.d), some (.imm (lnD l)), none] [] 0) rfl ?_;walk_at"xs";refine⟨h, l, rfl, hne, hl4, ?_⟩;walk_at"xx";refine x_while (fun n m => ∃l':List Nat, m=MSt.mk [some (.imm h.d), some (.imm (lnD l')), some (.imm (optP (shiftF h l')))] [] 0 /\ n=l'.count 0 /\ settleN h n l'=settle h l /\ l' ≠ [] /\ l'.length ≤ 1000) (l.count 0) ⟨l, rfl, rfl, rfl, hne, hl4⟩ ?_;rintro n m hn ⟨l', rfl, rfl, hs, hne', hl'⟩;walk_at"xs"
 cases e:shiftF h l' with
 |none =>
  refine x_iteF ?_;walk_at"xs";rw[settleN_none e]at hs;rw[<- hs]at k;exact k
 | some p =>
  refine x_iteT ?_;obtain⟨es, l1, l2, hc, hlen⟩ :=shifted_at e;obtain⟨m0, m1, m2, m3, m4⟩ :=shift_some e;have g1:l'.getD p.1 0=maxN l' :=getD_of m1;have g2:(l'.set p.1 (maxN l'-1)).getD p.2 0=0 :=getD_of (by rw[List.getElem?_set_ne m4];exact m3);dsimp only[optP];walk_at"xs";refine⟨l', p.1, -1, maxN l'-1, rfl, l1, hl', by omega, ?_⟩;walk_at"xx";refine⟨l'.set p.1 (maxN l'-1), p.2, 1, 1, rfl, by rw[List.length_set];exact l2, by rw[List.length_set];exact hl', by omega, ?_⟩;rw[<- es];walk_at"xx";have hne2:shifted l' p ≠ [] :=fun z => by
   rw[z]at hlen;exact hne' (List.eq_nil_of_length_eq_zero hlen.symm)
  refine⟨h, shifted l' p, rfl, hne2, by omega, ?_⟩;walk_at"xx";refine⟨(shifted l' p).count 0, by omega, shifted l' p, rfl, rfl, ?_, hne2, by omega⟩;rw[<- hs, <- hc];show _=settleN h ((shifted l' p).count 0+1) l';simp only[settleN, e]
theorem okturn_behind(T:Bl mg)(D:DefM K mg "turn_behind" sturn_behind ["hall","rule","turn"]):FnM P w K mg base "turn_behind" 1 3 spTurnB :=by
 refine mk_fn' D scturn_behind rfl (nN :=3) rfl (by decide) ?ar fun cdv A outer s H E f hr => ⟨_, (mz' (ms_if' (mt_cmp' (op_eqM hr.units) (me_ix' (mv' 1) mh') me_str' (nomark _)) (mss_one' (ms_ret' (me_bin' op_modM (me_bin' op_addM (mv' 2) mh') (me_callB' call_lenM (by rfl) T.len bt_len (mc' (me_ix' (mv' 0) mh') mn'))))) mss_nil')
   (mss_one' (ms_ret' (mv' 2)))), ?_⟩
 case ar => rintro as Kc ⟨h, r, t, rfl, _⟩;rfl
 rintro as Kc hl ⟨h, r, t, rfl, ho, k⟩;have n1 :=ho.n1;refine x_start (MSt.mk [some (.imm (.tuple [.tuple [.int h.a, .int h.b], .tuple (h.ss.map Srv.d), .bool h.mv])), some (.imm r.d), some (.imm (.int (t:Int)))] [] 0) rfl ?_;walk_at"xs";refine x_itemD r.dc (atI_nat (j :=0) rfl) ?_;walk_at"xs";refine x_ite (fun z => ?_) (fun z => ?_)
 .have hr:r = .turns :=by cases r<;>first|rfl|exact absurd z (by decide +kernel)|exact absurd (show("told" : Str) = "turns" from z) (by decide +kernel)
  subst hr;walk_at"xs";refine x_mod (by rw[List.length_map];omega) ?_;rw[List.length_map];exact k
 .walk_at"xs";have e:turnB h r t=t :=by cases r<;>first|rfl|exact absurd rfl z
  rw[e]at k;exact k
theorem okline_of(T:Bl mg)(D:DefM K mg "line_of" sline_of ["hall","rule","stand","move"])(Gsent_to:FnM P w K mg base "sent_to" 3 4 spSentTo):FnM P w K mg base "line_of" 4 4 spLineOf :=by
 refine mk_fn' D scline_of rfl (nN :=4) rfl (by decide) ?ar fun cdv A outer s H E f hr => ⟨_, (mz' (ms_if' (mt_cmp' (op_eqM hr.units) (me_ix' (mv' 3) mh') me_str' (nomark _)) (mss_one' (ms_ret' (mf' Gsent_to (hr.mono (by decide)) (mc' (mv' 0) (mc' (mv' 1) (mc' (mv' 2) (mc' (me_ix' (mv' 3) mh') mn'))))))) mss_nil')
   (mz' (ms_if' (mt_cmp' (op_eqM hr.units) (me_ix' (mv' 3) mh') me_str' (nomark _)) (mss_one' (ms_ret' (me_ix' (mv' 3) mh'))) mss_nil')
   (mss_one' (ms_ret' me_non')))), ?_⟩
 case ar => rintro as Kc ⟨h, r, l, t, mv, rfl, _⟩;rfl
 rintro as Kc hl ⟨h, r, l, t, mv, rfl, ho, hr0, hL, hm, k⟩
 cases mv with
 |come o =>
  refine x_start (MSt.mk [some (.imm h.d), some (.imm r.d), some (.imm (stD l t)), some (.imm (.tuple [.str "come", lnD o]))] [] 0) rfl ?_;walk_at"xs";refine x_ite (fun _ => ?_) (fun z => (z rfl).elim);walk_at"xs";refine⟨h, r, l, t, o, rfl, ho, hr0, hL, hm, ?_⟩;walk_at"xn";exact k
 |done j =>
  refine x_start (MSt.mk [some (.imm h.d), some (.imm r.d), some (.imm (stD l t)), some (.imm (.tuple [.str "done", .int (j:Int)]))] [] 0) rfl ?_;walk_at"xs";refine x_ite (fun z => absurd z (by decide +kernel)) (fun _ => ?_);walk_at"xs";refine x_ite (fun _ => ?_) (fun z => (z rfl).elim);walk_at"xs";exact k
 |still =>
  refine x_start (MSt.mk [some (.imm h.d), some (.imm r.d), some (.imm (stD l t)), some (.imm (.tuple [.str "still"]))] [] 0) rfl ?_;walk_at"xs";refine x_ite (fun z => absurd z (by decide +kernel)) (fun _ => ?_);walk_at"xs";refine x_ite (fun z => absurd z (by decide +kernel)) (fun _ => ?_);walk_at"xs";exact k
theorem okmoved_on(T:Bl mg)(D:DefM K mg "moved_on" smoved_on ["hall","rule","stand","move"])(Gline_of:FnM P w K mg base "line_of" 4 4 spLineOf)(Gcome_to:FnM P w K mg base "come_to" 2 3 spCome)(Gturn_behind:FnM P w K mg base "turn_behind" 1 3 spTurnB)(Gdone_at:FnM P w K mg base "done_at" 2 2 spDone)(Gsettled:FnM P w K mg base "settled" 2 2 spSettled):FnM P w K mg base "moved_on" 5 4 spMoved :=by
 refine mk_fn' D scmoved_on rfl (nN :=8) rfl (by decide) ?ar fun cdv A outer s H E f hr => ⟨_, (mz' (ms_asg' (mv' 2) (mg_tup' (n :=2) (mgs_cons' (mg_name' (i :=4) scmoved_on.nd rfl (Or.inl rfl)) (mgs_cons' (mg_name' (i :=5) scmoved_on.nd rfl (Or.inl rfl)) mgs_nil'))))
   (mz' (ms_set' (i :=6) scmoved_on.nd rfl (Or.inl rfl) me_str')
   (mz' (ms_set' (i :=7) scmoved_on.nd rfl (Or.inl rfl) (mf' Gline_of (hr.mono (by decide)) (mc' (mv' 0) (mc' (mv' 1) (mc' (mv' 2) (mc' (mv' 3) mn'))))))
   (mz' (ms_if' (mt_cmp' (op_eqM hr.units) (me_ix' (mv' 3) mh') me_str' (nomark _)) (mz' (ms_asg' (mf' Gcome_to (hr.mono (by decide)) (mc' (mv' 0) (mc' (mv' 4) (mc' (mv' 7) mn')))) (mg_tup' (n :=2) (mgs_cons' (mg_name' (i :=4) scmoved_on.nd rfl (Or.inl rfl)) (mgs_cons' (mg_name' (i :=6) scmoved_on.nd rfl (Or.inl rfl)) mgs_nil'))))
   (mss_one' (ms_set' (i :=5) scmoved_on.nd rfl (Or.inl rfl) (mf' Gturn_behind (hr.mono (by decide)) (mc' (mv' 0) (mc' (mv' 1) (mc' (mv' 5) mn'))))))) (mss_one' (ms_if' (mt_cmp' (op_eqM hr.units) (me_ix' (mv' 3) mh') me_str' (nomark _)) (mss_one' (ms_asg' (mf' Gdone_at (hr.mono (by decide)) (mc' (mv' 4) (mc' (mv' 7) mn'))) (mg_tup' (n :=2) (mgs_cons' (mg_name' (i :=4) scmoved_on.nd rfl (Or.inl rfl)) (mgs_cons' (mg_name' (i :=6) scmoved_on.nd rfl (Or.inl rfl)) mgs_nil'))))) mss_nil')))
   (mss_one' (ms_ret' (me_tup' (mc' (me_tup' (mc' (mf' Gsettled (hr.mono (by decide)) (mc' (mv' 0) (mc' (mv' 4) mn'))) (mc' (mv' 5) mn'))) (mc' (mv' 6) mn'))))))))), ?_⟩
 case ar => rintro as Kc ⟨h, r, l, t, mv, rfl, _⟩;rfl
 rintro as Kc hl ⟨h, r, l, t, mv, rfl, ho, hr0, hL, hm, ht, k⟩;have hll :=hL.1;have n1 :=ho.n1;have n4 :=ho.n4;have ne:∀l':List Nat, l'.length=l.length -> l' ≠ [] :=fun l' e z => by rw[z]at e;simp at e;omega
 cases mv with
 |come o =>
  refine x_start (MSt.mk [some (.imm h.d), some (.imm r.d), some (.imm (.tuple [lnD l, .int (t:Int)])), some (.imm (.tuple [.str "come", lnD o])), none, none, none, none] [] 0) rfl ?_;walk_at"xs"
  .rfl
  walk_at"xs";refine⟨h, r, l, t, .come o, rfl, ho, hr0, hL, hm, ?_⟩;dsimp only[lineD];walk_at"xx";refine x_ite (fun _ => ?_) (fun z => (z rfl).elim);walk_at"xs";refine⟨h, l, sent h r l t o, rfl, ho, hL, sent_lt ho hr0 hL hm ht, ?_⟩;walk_at"xn";dsimp only[lwD];walk_at"xs"
  .rfl
  walk_at"xs";refine⟨h, r, t, rfl, ho, ?_⟩;walk_at"xx";have hlen:(comeTo h l (sent h r l t o)).1.length=l.length :=by unfold comeTo;split<;>simp
  refine⟨h, _, rfl, ne _ hlen, by omega, ?_⟩;walk_at"xx";exact k
 |done j =>
  refine x_start (MSt.mk [some (.imm h.d), some (.imm r.d), some (.imm (.tuple [lnD l, .int (t:Int)])), some (.imm (.tuple [.str "done", .int (j:Int)])), none, none, none, none] [] 0) rfl ?_;walk_at"xs"
  .rfl
  walk_at"xs";refine⟨h, r, l, t, .done j, rfl, ho, hr0, hL, hm, ?_⟩;dsimp only[lineD];walk_at"xx";refine x_ite (fun z => absurd z (by decide +kernel)) (fun _ => ?_);walk_at"xs";refine x_ite (fun _ => ?_) (fun z => (z rfl).elim);walk_at"xs";refine⟨l, j, rfl, by rw[hll];exact hm, by omega, ?_⟩;walk_at"xn";dsimp only[lwD];walk_at"xs"
  .rfl
  walk_at"xs";have hlen:(doneAt l j).1.length=l.length :=by unfold doneAt;split<;>simp
  refine⟨h, _, rfl, ne _ hlen, by omega, ?_⟩;walk_at"xx";exact k
 |still =>
  refine x_start (MSt.mk [some (.imm h.d), some (.imm r.d), some (.imm (.tuple [lnD l, .int (t:Int)])), some (.imm (.tuple [.str "still"])), none, none, none, none] [] 0) rfl ?_;walk_at"xs"
  .rfl
  walk_at"xs";refine⟨h, r, l, t, .still, rfl, ho, hr0, hL, hm, ?_⟩;dsimp only[lineD];walk_at"xx";refine x_ite (fun z => absurd z (by decide +kernel)) (fun _ => ?_);walk_at"xs";refine x_ite (fun z => absurd z (by decide +kernel)) (fun _ => ?_);walk_at"xs";refine⟨h, l, rfl, ne _ rfl, by omega, ?_⟩;walk_at"xx";exact k
theorem okcounts_behind(T:Bl mg)(D:DefM K mg "counts_behind" scounts_behind ["counts","word"]):FnM P w K mg base "counts_behind" 1 2 spCnt :=by
 refine mk_fn' D sccounts_behind rfl (nN :=6) rfl (by decide) ?ar fun cdv A outer s H E f hr => ⟨_, (mz' (ms_asg' (mv' 0) (mg_tup' (n :=4) (mgs_cons' (mg_name' (i :=2) sccounts_behind.nd rfl (Or.inl rfl)) (mgs_cons' (mg_name' (i :=3) sccounts_behind.nd rfl (Or.inl rfl)) (mgs_cons' (mg_name' (i :=4) sccounts_behind.nd rfl (Or.inl rfl)) (mgs_cons' (mg_name' (i :=5) sccounts_behind.nd rfl (Or.inl rfl)) mgs_nil'))))))
   (mz' (ms_if' (mt_cmp' (op_eqM hr.units) (mv' 1) me_str' (nomark _)) (mss_one' (ms_ret' (me_tup' (mc' (me_bin' op_addM (mv' 2) mh') (mc' (me_bin' op_addM (mv' 3) mh') (mc' (mv' 4) (mc' (mv' 5) mn'))))))) mss_nil')
   (mz' (ms_if' (mt_cmp' (op_eqM hr.units) (mv' 1) me_str' (nomark _)) (mss_one' (ms_ret' (me_tup' (mc' (me_bin' op_addM (mv' 2) mh') (mc' (mv' 3) (mc' (me_bin' op_addM (mv' 4) mh') (mc' (mv' 5) mn'))))))) mss_nil')
   (mz' (ms_if' (mt_cmp' (op_eqM hr.units) (mv' 1) me_str' (nomark _)) (mss_one' (ms_ret' (me_tup' (mc' (mv' 2) (mc' (mv' 3) (mc' (mv' 4) (mc' (me_bin' op_addM (mv' 5) mh') mn'))))))) mss_nil')
   (mss_one' (ms_ret' (mv' 0))))))), ?_⟩
 case ar => rintro as Kc ⟨x, w, rfl, _⟩;rfl
 rintro as Kc hl ⟨x, w, rfl, k⟩
 cases w with
 |taken =>
  refine x_start (MSt.mk [some (.imm (.tuple [.int (x.c:Int), .int (x.t:Int), .int (x.a:Int), .int (x.s:Int)])), some (.imm (.str "taken")), none, none, none, none] [] 0) rfl ?_;walk_at"xs"
  .rfl
  walk_at"xs";refine x_ite (fun _ => ?_) (fun z => (z rfl).elim);walk_at"xs";exact k
 |away =>
  refine x_start (MSt.mk [some (.imm (.tuple [.int (x.c:Int), .int (x.t:Int), .int (x.a:Int), .int (x.s:Int)])), some (.imm (.str "away")), none, none, none, none] [] 0) rfl ?_;walk_at"xs"
  .rfl
  walk_at"xs";refine x_ite (fun z => absurd z (by decide +kernel)) (fun _ => ?_);walk_at"xs";refine x_ite (fun _ => ?_) (fun z => (z rfl).elim);walk_at"xs";exact k
 |served =>
  refine x_start (MSt.mk [some (.imm (.tuple [.int (x.c:Int), .int (x.t:Int), .int (x.a:Int), .int (x.s:Int)])), some (.imm (.str "served")), none, none, none, none] [] 0) rfl ?_;walk_at"xs"
  .rfl
  walk_at"xs";refine x_ite (fun z => absurd z (by decide +kernel)) (fun _ => ?_);walk_at"xs";refine x_ite (fun z => absurd z (by decide +kernel)) (fun _ => ?_);walk_at"xs";refine x_ite (fun _ => ?_) (fun z => (z rfl).elim);walk_at"xs";exact k
 |none =>
  refine x_start (MSt.mk [some (.imm (.tuple [.int (x.c:Int), .int (x.t:Int), .int (x.a:Int), .int (x.s:Int)])), some (.imm (.str "none")), none, none, none, none] [] 0) rfl ?_;walk_at"xs"
  .rfl
  walk_at"xs";refine x_ite (fun z => absurd z (by decide +kernel)) (fun _ => ?_);walk_at"xs";refine x_ite (fun z => absurd z (by decide +kernel)) (fun _ => ?_);walk_at"xs";refine x_ite (fun z => absurd z (by decide +kernel)) (fun _ => ?_);walk_at"xs";exact k
theorem okaskers_settled(T:Bl mg)(D:DefM K mg "askers_settled" saskers_settled ["hall","askers"])(Gnext_shift:FnM P w K mg base "next_shift" 1 2 spShiftL):FnM P w K mg base "askers_settled" 2 2 spAskS :=by
 refine mk_fn' D scaskers_settled rfl (nN :=5) rfl (by decide) ?ar fun cdv A outer s H E f hr => ⟨_, (mz' (ms_set' (i :=1) scaskers_settled.nd rfl (Or.inl rfl) (me_callTy' call_listM (by rfl) T.list bt_list (mc' (mv' 1) mn')))
   (mz' (ms_set' (i :=2) scaskers_settled.nd rfl (Or.inl rfl) (mf' Gnext_shift (hr.mono (by decide)) (mc' (mv' 0) (mc' (me_imm' (me_comp1' (own :=["line"]) (fr :=[]) (ps :=[]) (sc :=(defScope saskers_settled)) (by exact⟨rfl, by decide +kernel, by decide +kernel, by decide +kernel, by decide +kernel⟩) (mi_seq' (mv' 1)) (fun _ _ _ _ _ => (mg_name' (i :=0) (show List.Nodup ((["line"]:List Str) ++ ([]:List Str))from by decide +kernel) rfl (Or.inl rfl))) (fun _ _ _ _ _ => mts_nil') (fun _ _ _ _ _ => (me_callB' call_lenM (by rfl) T.len bt_len (mc' (mv' 0) mn'))))) mn'))))
   (mz' (ms_while' (mt_cmp' op_isNotNM (mv' 2) me_non' (nomark _)) (mz' (ms_asg' (mv' 2) (mg_tup' (n :=2) (mgs_cons' (mg_name' (i :=3) scaskers_settled.nd rfl (Or.inl rfl)) (mgs_cons' (mg_name' (i :=4) scaskers_settled.nd rfl (Or.inl rfl)) mgs_nil'))))
   (mz' (ms_setI' (me_imm' (me_slice' sl_cutM (me_ix' (mv' 1) (mv' 3)) (mo_some' (me_un' un_negM mh')) mo_none')) (mv' 1) (mv' 4))
   (mz' (ms_setI' (me_imm' (me_slice' sl_cutM (me_ix' (mv' 1) (mv' 3)) mo_none' (mo_some' (me_un' un_negM mh')))) (mv' 1) (mv' 3))
   (mss_one' (ms_set' (i :=2) scaskers_settled.nd rfl (Or.inl rfl) (mf' Gnext_shift (hr.mono (by decide)) (mc' (mv' 0) (mc' (me_imm' (me_comp1' (own :=["line"]) (fr :=[]) (ps :=[]) (sc :=(defScope saskers_settled)) (by exact⟨rfl, by decide +kernel, by decide +kernel, by decide +kernel, by decide +kernel⟩) (mi_seq' (mv' 1)) (fun _ _ _ _ _ => (mg_name' (i :=0) (show List.Nodup ((["line"]:List Str) ++ ([]:List Str))from by decide +kernel) rfl (Or.inl rfl))) (fun _ _ _ _ _ => mts_nil') (fun _ _ _ _ _ => (me_callB' call_lenM (by rfl) T.len bt_len (mc' (mv' 0) mn'))))) mn')))))))) PassesOwn.never)
   (mss_one' (ms_ret' (me_callTy' call_tupleM (by rfl) T.tuple bt_tuple (mc' (mv' 1) mn'))))))), ?_⟩
 case ar => rintro as Kc ⟨h, A, rfl, _⟩;rfl
 rintro as Kc hl ⟨h, A, rfl, hne, h4, hsz, k⟩;have ne_sz:∀A':List (List Nat), A' ≠ [] -> szs A' ≠ [] :=fun A' z q => z (List.map_eq_nil_iff.mp q);refine x_start (MSt.mk [some (.imm h.d), some (.obj 0), none, none, none] [akL A] 1) rfl ?_;walk_at"xs";refine x_bindN ?_;walk_at"xx";walk_at"xn";refine x_loopO (fun i m => ∃a, m=MSt.mk [a] [akL A, akL A, natD ((szs A).take i)] 3) ⟨none, rfl⟩ ?_ ?_ ?_
 .rintro i m ⟨a, rfl⟩;rfl
 .rintro i d m e n ⟨a, rfl⟩;obtain⟨x, ex, rfl, hi⟩ :=gmap e;dsimp only[lnD];walk_at"xs";rw[natD_length];refine⟨_, rfl, by rw[sizeLine_eq, natD_length, List.length_take, szs_len];omega, some (.imm (.tuple (natD x))), ?_⟩;rw[take_nat ex];rfl
 rintro m n ⟨a, rfl⟩;rw[akL_len, <- szs_len, List.take_length];walk_at"xx";refine⟨h, szs A, rfl, ne_sz A hne, by rw[szs_len];omega, ?_⟩;walk_at"xx";refine x_while (fun n m => ∃(A':List (List Nat)) (b c:Option R), m=MSt.mk [some (.imm h.d), some (.obj 1), some (.imm (optP (shiftF h (szs A')))), b, c] [akL A, akL A'] 1 /\ n=(szs A').count 0 /\ askN h n A'=askSettle h A /\ A' ≠ [] /\ A'.length=A.length) ((szs A).count 0) ⟨A, none, none, rfl, rfl, rfl, hne, rfl⟩ ?_;rintro n m hn ⟨A', b, c, rfl, rfl, hs, hne', hl'⟩;walk_at"xs"
 cases e:shiftF h (szs A')with
 |none =>
  refine x_iteF ?_;walk_at"xs";rw[askN_none e]at hs;rw[<- hs]at k;exact k
 | some p =>
  refine x_iteT ?_;obtain⟨es, l1, l2, hc, hlen⟩ :=shifted_at e;obtain⟨m0, m1, m2, m3, m4⟩ :=shift_some e;rw[szs_len]at l1 l2;dsimp only[optP];walk_at"xs"
  .rfl
  walk_at"xs";refine' x_itemO (ds :=akL A') ?ea (atI_nat (akL_get l1)) ?_
  case ea => rfl
  dsimp only[lnD];walk_at"xs";rw[cutD_last, natD_drop, natD_length];refine' x_put (ds :=akL A') (n :=p.2) ?eb ?ec ?_
  case eb => rfl
  case ec => rw[akL_len];exact ixN_nat l2
  rw[show PyData.tuple (natD ((A'.getD p.1 []).drop ((A'.getD p.1 []).length-1)))=lnD ((A'.getD p.1 []).drop ((A'.getD p.1 []).length-1))from rfl, akL_set];walk_at"xs";have g2:(A'.set p.2 ((A'.getD p.1 []).drop ((A'.getD p.1 []).length-1))).getD p.1 []=A'.getD p.1 [] :=by
   rw[List.getD_eq_getElem?_getD, List.getElem?_set_ne (Ne.symm m4), <- List.getD_eq_getElem?_getD]
  have l1':p.1<(A'.set p.2 ((A'.getD p.1 []).drop ((A'.getD p.1 []).length-1))).length :=by rw[List.length_set];exact l1
  refine' x_itemO (ds :=akL (A'.set p.2 ((A'.getD p.1 []).drop ((A'.getD p.1 []).length-1)))) ?ed (atI_nat (akL_get l1')) ?_
  case ed => rfl
  rw[g2];dsimp only[lnD];walk_at"xs";rw[cutD_init, natD_init];refine' x_put (ds :=akL (A'.set p.2 ((A'.getD p.1 []).drop ((A'.getD p.1 []).length-1)))) (n :=p.1) ?ef ?eg ?_
  case ef => rfl
  case eg => rw[akL_len];exact ixN_nat l1'
  rw[show PyData.tuple (natD (A'.getD p.1 []).dropLast)=lnD (A'.getD p.1 []).dropLast from rfl, akL_set, show(A'.set p.2 ((A'.getD p.1 []).drop ((A'.getD p.1 []).length-1))).set p.1 (A'.getD p.1 []).dropLast=askStep A' p from rfl];have hl2:(askStep A' p).length=A'.length :=by unfold askStep;rw[List.length_set, List.length_set]
  have hne2:askStep A' p ≠ [] :=fun z => by rw[z]at hl2;exact hne' (List.eq_nil_of_length_eq_zero hl2.symm)
  have hss :=ask_szs e;generalize hB:askStep A' p=B at hl2 hne2 hss;walk_at"xs";walk_at"xn";refine x_loopO (fun i m => ∃a, m=MSt.mk [a] [akL A, akL B, natD ((szs B).take i)] 3) ⟨none, rfl⟩ ?_ ?_ ?_
  .rintro i m ⟨a, rfl⟩;rfl
  .rintro i d m e n ⟨a, rfl⟩;obtain⟨x, ex, rfl, hi⟩ :=gmap e;dsimp only[lnD];walk_at"xs";rw[natD_length];refine⟨_, rfl, by rw[sizeLine_eq, natD_length, List.length_take, szs_len];omega, some (.imm (.tuple (natD x))), ?_⟩;rw[take_nat ex];rfl
  rintro m n ⟨a, rfl⟩;rw[akL_len, show B.length=(szs B).length from(szs_len _).symm, List.take_length];walk_at"xx";refine⟨h, szs B, rfl, ne_sz B hne2, by rw[szs_len];omega, ?_⟩;walk_at"xx";refine⟨(szs B).count 0, by rw[hss];omega, B, _, _, rfl, rfl, ?_, hne2, by omega⟩;rw[<- hs, <- hc, <- hss];show _=askN h ((szs B).count 0+1) A';simp only[askN, e, hB]
theorem okaskers_behind(T:Bl mg)(D:DefM K mg "askers_behind" saskers_behind ["hall","askers","line","word","number"])(Gaskers_settled:FnM P w K mg base "askers_settled" 2 2 spAskS):FnM P w K mg base "askers_behind" 3 5 spAskB :=by
 refine mk_fn' D scaskers_behind rfl (nN :=5) rfl (by decide) ?ar fun cdv A outer s H E f hr => ⟨_, (mz' (ms_set' (i :=1) scaskers_behind.nd rfl (Or.inl rfl) (me_callTy' call_listM (by rfl) T.list bt_list (mc' (mv' 1) mn')))
   (mz' (ms_if' (mt_cmp' (op_eqM hr.units) (mv' 3) me_str' (nomark _)) (mss_one' (ms_setI' (me_bin' op_addM (me_ix' (mv' 1) (mv' 2)) (me_tup' (mc' (mv' 4) mn'))) (mv' 1) (mv' 2))) (mss_one' (ms_if' (mt_cmp' (op_eqM hr.units) (mv' 3) me_str' (nomark _)) (mss_one' (ms_setI' (me_imm' (me_slice' sl_cutM (me_ix' (mv' 1) (mv' 2)) (mo_some' mh') mo_none')) (mv' 1) (mv' 2))) mss_nil')))
   (mss_one' (ms_ret' (mf' Gaskers_settled (hr.mono (by decide)) (mc' (mv' 0) (mc' (mv' 1) mn'))))))), ?_⟩
 case ar => rintro as Kc ⟨h, A, ld, j, w, num, rfl, _⟩;rfl
 rintro as Kc hl ⟨h, A, ld, j, w, num, rfl, hne, h4, hsz, hw, k⟩;have fin:∀(B:List (List Nat)), B.length=A.length -> (∀x ∈ B, x.length ≤ 1000) -> B=askB A j w num -> B ≠ [] /\ B.length ≤ 4 :=fun B e1 _ _ => ⟨fun z => by rw[z]at e1;exact hne (List.eq_nil_of_length_eq_zero e1.symm), by omega⟩;have setl:∀(x:List Nat), x.length ≤ 1000 -> ∀y ∈ A.set j x, y.length ≤ 1000 :=fun x hx y hy => by
  rcases List.mem_or_eq_of_mem_set hy with z|z
  .have :=hsz y z;omega
  .rw[z];exact hx
 have gl:j<A.length -> (A.getD j []).length ≤ 900 :=fun hj => by
  rw[getD_of (List.getElem?_eq_getElem hj)];exact hsz _ (List.getElem_mem hj)
 cases w with
 |taken =>
  obtain⟨rfl, hj⟩ :=hw (.inl rfl);have :=gl hj;refine x_start (MSt.mk [some (.imm h.d), some (.imm (.tuple (akL A))), some (.imm (.int (j:Int))), some (.imm (.str "taken")), some (.imm (.int (num:Int)))] [] 0) rfl ?_;walk_at"xs";refine x_bindN ?_;walk_at"xx";refine x_ite (fun _ => ?_) (fun z => (z rfl).elim);walk_at"xs";refine' x_itemO (ds :=akL A) ?ea (atI_nat (akL_get hj)) ?_
  case ea => rfl
  dsimp only[lnD];walk_at"xs";refine x_addT (by rw[sizeLine_eq, natD_length, List.length_singleton];omega) ?_;walk_at"xs";refine' x_put (ds :=akL A) (n :=j) ?eb ?ec ?_
  case eb => rfl
  case ec => rw[akL_len];exact ixN_nat hj
  rw[show PyData.tuple (natD (A.getD j []) ++ [.int (num:Int)])=lnD (A.getD j [] ++ [num])from by unfold lnD;rw[natD_app];rfl, akL_set];walk_at"xs";have hl2:∀x ∈ A.set j (A.getD j [] ++ [num]), x.length ≤ 1000 :=setl _ (by rw[List.length_append, List.length_singleton];omega);obtain⟨f1, f2⟩ :=fin _ (List.length_set ..) hl2 rfl;refine⟨h, _, rfl, f1, f2, hl2, ?_⟩;walk_at"xn";exact k
 |served =>
  obtain⟨rfl, hj⟩ :=hw (.inr rfl);have :=gl hj;refine x_start (MSt.mk [some (.imm h.d), some (.imm (.tuple (akL A))), some (.imm (.int (j:Int))), some (.imm (.str "served")), some (.imm (.int (num:Int)))] [] 0) rfl ?_;walk_at"xs";refine x_bindN ?_;walk_at"xx";refine x_ite (fun z => absurd z (by decide +kernel)) (fun _ => ?_);walk_at"xs";refine x_ite (fun _ => ?_) (fun z => (z rfl).elim);walk_at"xs";refine' x_itemO (ds :=akL A) ?ea (atI_nat (akL_get hj)) ?_
  case ea => rfl
  dsimp only[lnD];walk_at"xs";rw[show(1:Int)=((1:Nat):Int)from rfl, cutD_from, natD_drop];refine' x_put (ds :=akL A) (n :=j) ?eb ?ec ?_
  case eb => rfl
  case ec => rw[akL_len];exact ixN_nat hj
  rw[show PyData.tuple (natD ((A.getD j []).drop 1))=lnD ((A.getD j []).drop 1)from rfl, akL_set];walk_at"xs";have hl2:∀x ∈ A.set j ((A.getD j []).drop 1), x.length ≤ 1000 :=setl _ (by rw[List.length_drop];omega);obtain⟨f1, f2⟩ :=fin _ (List.length_set ..) hl2 rfl;refine⟨h, _, rfl, f1, f2, hl2, ?_⟩;walk_at"xn";exact k
 |away =>
  refine x_start (MSt.mk [some (.imm h.d), some (.imm (.tuple (akL A))), some (.imm ld), some (.imm (.str "away")), some (.imm (.int (num:Int)))] [] 0) rfl ?_;walk_at"xs";refine x_bindN ?_;walk_at"xx";refine x_ite (fun z => absurd z (by decide +kernel)) (fun _ => ?_);walk_at"xs";refine x_ite (fun z => absurd z (by decide +kernel)) (fun _ => ?_);walk_at"xs";refine⟨h, A, rfl, hne, h4, fun x hx => by have :=hsz x hx;omega, ?_⟩;walk_at"xn";exact k
 |none =>
  refine x_start (MSt.mk [some (.imm h.d), some (.imm (.tuple (akL A))), some (.imm ld), some (.imm (.str "none")), some (.imm (.int (num:Int)))] [] 0) rfl ?_;walk_at"xs";refine x_bindN ?_;walk_at"xx";refine x_ite (fun z => absurd z (by decide +kernel)) (fun _ => ?_);walk_at"xs";refine x_ite (fun z => absurd z (by decide +kernel)) (fun _ => ?_);walk_at"xs";refine⟨h, A, rfl, hne, h4, fun x hx => by have :=hsz x hx;omega, ?_⟩;walk_at"xn";exact k
theorem okfirst_scene(T:Bl mg)(D:DefM K mg "first_scene" sfirst_scene ["hall"])(Gfirst_stand:FnM P w K mg base "first_stand" 1 1 spFirst):FnM P w K mg base "first_scene" 2 1 spScene0 :=by
 refine mk_fn' D scfirst_scene rfl (nN :=1) rfl (by decide) ?ar fun cdv A outer s H E f hr => ⟨_, (mss_one' (ms_ret' (me_tup' (mc' (mf' Gfirst_stand (hr.mono (by decide)) (mc' (mv' 0) mn')) (mc' (me_tup' (mc' mh' (mc' mh' (mc' mh' (mc' mh' mn'))))) (mc' (me_bin' op_mulSM (me_tup' (mc' (me_tup' mn') mn')) (me_callB' call_lenM (by rfl) T.len bt_len (mc' (me_ix' (mv' 0) mh') mn'))) mn')))))), ?_⟩
 case ar => rintro as Kc ⟨h, rfl, _⟩;rfl
 rintro as Kc hl ⟨h, rfl, ho, k⟩;have n1 :=ho.n1;have n4 :=ho.n4;refine x_start (MSt.mk [some (.imm (.tuple [.tuple [.int h.a, .int h.b], .tuple (h.ss.map Srv.d), .bool h.mv]))] [] 0) rfl ?_;walk_at"xs";refine⟨h, rfl, ho, ?_⟩;walk_at"xx";rw[List.length_map];refine x_mulT (by omega) (by omega) (by simp;omega) ?_;walk_at"xs";have e:(List.replicate ((h.ss.length:Nat):Int).toNat [PyData.tuple []]).flatten=akL (List.replicate h.ss.length []) :=by
  rw[Int.toNat_natCast];simp[akL, lnD, natD]
 rw[e];exact k
theorem okscene_behind(T:Bl mg)(D:DefM K mg "scene_behind" sscene_behind ["hall","rule","scene","move"])(Gline_of:FnM P w K mg base "line_of" 4 4 spLineOf)(Gmoved_on:FnM P w K mg base "moved_on" 5 4 spMoved)(Gaskers_behind:FnM P w K mg base "askers_behind" 3 5 spAskB)(Gcounts_behind:FnM P w K mg base "counts_behind" 1 2 spCnt):FnM P w K mg base "scene_behind" 6 4 spSceneB :=by
 refine mk_fn' D scscene_behind rfl (nN :=10) rfl (by decide) ?ar fun cdv A outer s H E f hr => ⟨_, (mz' (ms_asg' (mv' 2) (mg_tup' (n :=3) (mgs_cons' (mg_name' (i :=4) scscene_behind.nd rfl (Or.inl rfl)) (mgs_cons' (mg_name' (i :=5) scscene_behind.nd rfl (Or.inl rfl)) (mgs_cons' (mg_name' (i :=6) scscene_behind.nd rfl (Or.inl rfl)) mgs_nil')))))
   (mz' (ms_set' (i :=7) scscene_behind.nd rfl (Or.inl rfl) (mf' Gline_of (hr.mono (by decide)) (mc' (mv' 0) (mc' (mv' 1) (mc' (mv' 4) (mc' (mv' 3) mn'))))))
   (mz' (ms_asg' (mf' Gmoved_on (hr.mono (by decide)) (mc' (mv' 0) (mc' (mv' 1) (mc' (mv' 4) (mc' (mv' 3) mn'))))) (mg_tup' (n :=2) (mgs_cons' (mg_name' (i :=8) scscene_behind.nd rfl (Or.inl rfl)) (mgs_cons' (mg_name' (i :=9) scscene_behind.nd rfl (Or.inl rfl)) mgs_nil'))))
   (mz' (ms_set' (i :=6) scscene_behind.nd rfl (Or.inl rfl) (mf' Gaskers_behind (hr.mono (by decide)) (mc' (mv' 0) (mc' (mv' 6) (mc' (mv' 7) (mc' (mv' 9) (mc' (me_ix' (mv' 5) mh') mn')))))))
   (mss_one' (ms_ret' (me_tup' (mc' (me_tup' (mc' (mv' 8) (mc' (mf' Gcounts_behind (hr.mono (by decide)) (mc' (mv' 5) (mc' (mv' 9) mn'))) (mc' (mv' 6) mn')))) (mc' (mv' 9) mn'))))))))), ?_⟩
 case ar => rintro as Kc ⟨h, r, x, mv, rfl, _⟩;rfl
 rintro as Kc hl ⟨h, r, x, mv, rfl, ho, hr0, hx, hm, k⟩;have hll :=hx.st.ln.1;have n1 :=ho.n1;have n4 :=ho.n4;have hA:x.A.length=h.ss.length :=by rw[<- szs_len, hx.sz];exact hll
 have hk :=kOf_lt ho hr0 hx.st hm;refine x_start (MSt.mk [some (.imm h.d), some (.imm r.d), some (.imm (.tuple [stD x.l x.t, x.c.d, akD x.A])), some (.imm mv.d), none, none, none, none, none, none] [] 0) rfl ?_;walk_at"xs"
 .rfl
 walk_at"xs";refine⟨h, r, x.l, x.t, mv, rfl, ho, hr0, hx.st.ln, hm, ?_⟩;walk_at"xx";refine⟨h, r, x.l, x.t, mv, rfl, ho, hr0, hx.st.ln, hm, hx.st.tn, ?_⟩;walk_at"xn";dsimp only[mvD];walk_at"xs"
 .rfl
 walk_at"xs";refine x_itemD (ds :=[.int (x.c.c:Int), .int (x.c.t:Int), .int (x.c.a:Int), .int (x.c.s:Int)]) rfl rfl ?_;walk_at"xs";refine⟨h, x.A, _, kOf h r x.l x.t mv, (moved h r x.l x.t mv).2.2, x.c.c, rfl, fun z => by rw[z]at hA;simp at hA;omega, by omega, fun y hy => ?_, fun hw => ⟨?_, by omega⟩, ?_⟩
 .obtain⟨i, hi, rfl⟩ :=List.mem_iff_getElem.mp hy;have e1:(szs x.A)[i]?=some x.A[i].length :=szs_get? (List.getElem?_eq_getElem hi);rw[hx.sz]at e1;have :=hx.st.ln.le ho _ (List.mem_of_getElem? e1);omega
 .cases mv with
  |come o => rfl
  |done j => rfl
  |still => rcases hw with z|z<;>cases z
 walk_at"xx";refine⟨x.c, (moved h r x.l x.t mv).2.2, rfl, ?_⟩;walk_at"xx";exact k
theorem okwalked(T:Bl mg)(D:DefM K mg "walked" swalked ["hall","rule","run"])(Gfirst_stand:FnM P w K mg base "first_stand" 1 1 spFirst)(Gmoved_on:FnM P w K mg base "moved_on" 5 4 spMoved):FnM P w K mg base "walked" 6 3 spWalked :=by
 refine mk_fn' D scwalked rfl (nN :=5) rfl (by decide) ?ar fun cdv A outer s H E f hr => ⟨_, (mz' (ms_set' (i :=3) scwalked.nd rfl (Or.inl rfl) (me_lst' (mc' (mf' Gfirst_stand (hr.mono (by decide)) (mc' (mv' 0) mn')) mn')))
   (mz' (ms_for' (mi_seq' (mv' 2)) (mg_name' (i :=4) scwalked.nd rfl (Or.inl rfl)) (mss_one' (ms_expr' (me_ml' PySem.F.slot_list_append PySem.F.type_list_append mt_appendM (mv' 3) (mc' (me_ix' (mf' Gmoved_on (hr.mono (by decide)) (mc' (mv' 0) (mc' (mv' 1) (mc' (me_ix' (mv' 3) (me_un' un_negM mh')) (mc' (mv' 4) mn'))))) mh') mn')))) PassesOwn.never)
   (mss_one' (ms_ret' (me_callTy' call_tupleM (by rfl) T.tuple bt_tuple (mc' (mv' 3) mn')))))), ?_⟩
 case ar => rintro as Kc ⟨h, r, R, rfl, _⟩;rfl
 rintro as Kc hl ⟨h, r, R, rfl, ho, hr0, hR, hlen, k⟩;refine x_start (MSt.mk [some (.imm h.d), some (.imm r.d), some (.imm (runD R)), none, none] [] 0) rfl ?_;walk_at"xs";refine⟨h, rfl, ho, ?_⟩;walk_at"xx";refine x_bindN ?_;walk_at"xx";refine x_loop0 (fun i m => ∃(S:List (List Nat × Nat)) (p:List Nat × Nat) (a:Option L2.R), m=MSt.mk [some (.imm h.d), some (.imm r.d), some (.imm (runD R)), some (.obj 0), a] [(S.map fun p => stD p.1 p.2) ++ [stD p.1 p.2]] 0 /\ St h r p.1 p.2 /\ S.length=i /\ S ++ standsF h r p (R.drop i)=standsF h r (zer h, 0) R) ⟨[], (zer h, 0), none, rfl, first_st ho r, rfl, rfl⟩ ?_ ?_
 .rintro i d m e n ⟨S, p, a, rfl, hS, hi2, hc⟩;obtain⟨mv, emv, rfl, hi⟩ :=gmap e;have hm :=hR mv (List.mem_of_getElem? emv);have hiR :=(List.getElem?_eq_some_iff.mp emv).1;walk_at"xs";refine' x_itemO (ds :=(S.map fun p => stD p.1 p.2) ++ [stD p.1 p.2]) ?ea (atI_last _ _) ?_
  case ea => rfl
  walk_at"xs";refine⟨h, r, p.1, p.2, mv, rfl, ho, hr0, hS.ln, hm, hS.tn, ?_⟩;walk_at"xn";dsimp only[mvD];walk_at"xs";refine' x_append (ds :=(S.map fun p => stD p.1 p.2) ++ [stD p.1 p.2]) ?eb (by rw[sizeLine_eq, List.length_append, List.length_map, List.length_singleton];omega) ?_
  case eb => rfl
  refine⟨S ++ [p], ((moved h r p.1 p.2 mv).1, (moved h r p.1 p.2 mv).2.1), some (.imm mv.d), ?_, moved_st ho hr0 hS hm, by rw[List.length_append, hi2];rfl, ?_⟩
  .rw[List.map_append];rfl
  .rw[<- hc, drop_cons emv, List.append_assoc];rfl
 rintro m n ⟨S, p, a, rfl, hS, hi2, hc⟩;rw[List.length_map, List.drop_length]at hc;rw[<- hc, List.map_append]at k;walk_at"xs";exact k
theorem okcounted(T:Bl mg)(D:DefM K mg "counted" scounted ["hall","rule","run"])(Gfirst_stand:FnM P w K mg base "first_stand" 1 1 spFirst)(Gmoved_on:FnM P w K mg base "moved_on" 5 4 spMoved)(Gcounts_behind:FnM P w K mg base "counts_behind" 1 2 spCnt):FnM P w K mg base "counted" 6 3 spCounted :=by
 refine mk_fn' D sccounted rfl (nN :=7) rfl (by decide) ?ar fun cdv A outer s H E f hr => ⟨_, (mz' (ms_set' (i :=3) sccounted.nd rfl (Or.inl rfl) (mf' Gfirst_stand (hr.mono (by decide)) (mc' (mv' 0) mn')))
   (mz' (ms_set' (i :=4) sccounted.nd rfl (Or.inl rfl) (me_tup' (mc' mh' (mc' mh' (mc' mh' (mc' mh' mn'))))))
   (mz' (ms_for' (mi_seq' (mv' 2)) (mg_name' (i :=5) sccounted.nd rfl (Or.inl rfl)) (mz' (ms_asg' (mf' Gmoved_on (hr.mono (by decide)) (mc' (mv' 0) (mc' (mv' 1) (mc' (mv' 3) (mc' (mv' 5) mn'))))) (mg_tup' (n :=2) (mgs_cons' (mg_name' (i :=3) sccounted.nd rfl (Or.inl rfl)) (mgs_cons' (mg_name' (i :=6) sccounted.nd rfl (Or.inl rfl)) mgs_nil'))))
   (mss_one' (ms_set' (i :=4) sccounted.nd rfl (Or.inl rfl) (mf' Gcounts_behind (hr.mono (by decide)) (mc' (mv' 4) (mc' (mv' 6) mn')))))) PassesOwn.never)
   (mss_one' (ms_ret' (mv' 4)))))), ?_⟩
 case ar => rintro as Kc ⟨h, r, R, rfl, _⟩;rfl
 rintro as Kc hl ⟨h, r, R, rfl, ho, hr0, hR, k⟩;refine x_start (MSt.mk [some (.imm h.d), some (.imm r.d), some (.imm (runD R)), none, none, none, none] [] 0) rfl ?_;walk_at"xs";refine⟨h, rfl, ho, ?_⟩;walk_at"xx";refine x_loop0 (fun i m => ∃(p:List Nat × Nat) (c:Cn) (a b:Option L2.R), m=MSt.mk [some (.imm h.d), some (.imm r.d), some (.imm (runD R)), some (.imm (stD p.1 p.2)), some (.imm c.d), a, b] [] 0 /\ St h r p.1 p.2 /\ countF h r p c (R.drop i)=countF h r (zer h, 0) ⟨0, 0, 0, 0⟩ R) ⟨(zer h, 0), ⟨0, 0, 0, 0⟩, none, none, rfl, first_st ho r, rfl⟩ ?_ ?_
 .rintro i d m e n ⟨p, c, a, b, rfl, S, hc⟩;obtain⟨mv, emv, rfl, hi⟩ :=gmap e;have hm :=hR mv (List.mem_of_getElem? emv);walk_at"xs";refine⟨h, r, p.1, p.2, mv, rfl, ho, hr0, S.ln, hm, S.tn, ?_⟩;walk_at"xn";dsimp only[mvD];walk_at"xs"
  .rfl
  walk_at"xs";refine⟨c, (moved h r p.1 p.2 mv).2.2, rfl, ?_⟩;walk_at"xx";refine⟨((moved h r p.1 p.2 mv).1, (moved h r p.1 p.2 mv).2.1), _, _, _, rfl, moved_st ho hr0 S hm, ?_⟩;rw[<- hc, drop_cons emv];rfl
 rintro m n ⟨p, c, a, b, rfl, S, hc⟩;rw[List.length_map, List.drop_length]at hc;walk_at"xs";rw[<- hc]at k;exact k
theorem okstays(T:Bl mg)(D:DefM K mg "stays" sstays ["hall","rule","run"])(Gfirst_scene:FnM P w K mg base "first_scene" 2 1 spScene0)(Gscene_behind:FnM P w K mg base "scene_behind" 6 4 spSceneB):FnM P w K mg base "stays" 7 3 spStays :=by
 refine mk_fn' D scstays rfl (nN :=11) rfl (by decide) ?ar fun cdv A outer s H E f hr => ⟨_, (mz' (ms_set' (i :=3) scstays.nd rfl (Or.inl rfl) (mf' Gfirst_scene (hr.mono (by decide)) (mc' (mv' 0) mn')))
   (mz' (ms_set' (i :=4) scstays.nd rfl (Or.inl rfl) (me_lst' mn'))
   (mz' (ms_for' (mi_enum' T.enumerate (mc' (mv' 2) mn')) (mg_tup' (n :=2) (mgs_cons' (mg_name' (i :=5) scstays.nd rfl (Or.inl rfl)) (mgs_cons' (mg_name' (i :=6) scstays.nd rfl (Or.inl rfl)) mgs_nil'))) (mz' (ms_set' (i :=7) scstays.nd rfl (Or.inl rfl) (me_bin' op_subM (me_callB' call_lenM (by rfl) T.len bt_len (mc' (mv' 2) mn')) (mv' 5)))
   (mz' (ms_set' (i :=8) scstays.nd rfl (Or.inl rfl) (me_ix' (mv' 3) mh'))
   (mz' (ms_asg' (mf' Gscene_behind (hr.mono (by decide)) (mc' (mv' 0) (mc' (mv' 1) (mc' (mv' 3) (mc' (mv' 6) mn'))))) (mg_tup' (n :=2) (mgs_cons' (mg_name' (i :=3) scstays.nd rfl (Or.inl rfl)) (mgs_cons' (mg_name' (i :=9) scstays.nd rfl (Or.inl rfl)) mgs_nil'))))
   (mss_one' (ms_if' (mt_cmp' (op_eqM hr.units) (mv' 9) me_str' (nomark _)) (mss_one' (ms_expr' (me_ml' PySem.F.slot_list_append PySem.F.type_list_append mt_appendM (mv' 4) (mc' (me_tup' (mc' (mv' 7) (mc' me_bl' mn'))) mn')))) (mss_one' (ms_if' (mt_cmp' (op_eqM hr.units) (mv' 9) me_str' (nomark _)) (mss_one' (ms_expr' (me_ml' PySem.F.slot_list_append PySem.F.type_list_append mt_appendM (mv' 4) (mc' me_non' mn')))) (mss_one' (ms_if' (mt_cmp' (op_eqM hr.units) (mv' 9) me_str' (nomark _)) (mz' (ms_set' (i :=10) scstays.nd rfl (Or.inl rfl) (me_ix' (me_ix' (mv' 8) (me_ix' (mv' 6) mh')) mh'))
   (mss_one' (ms_setI' (me_tup' (mc' (me_bin' op_subM (me_ix' (me_ix' (mv' 4) (mv' 10)) mh') (mv' 7)) (mc' me_bl' mn'))) (mv' 4) (mv' 10)))) mss_nil'))))))))) PassesOwn.never)
   (mss_one' (ms_ret' (me_callTy' call_tupleM (by rfl) T.tuple bt_tuple (mc' (mv' 4) mn'))))))), ?_⟩
 case ar => rintro as Kc ⟨h, r, R, rfl, _⟩;rfl
 rintro as Kc hl ⟨h, r, R, rfl, ho, hr0, hR, hlen, k⟩;refine x_start (MSt.mk [some (.imm h.d), some (.imm r.d), some (.imm (.tuple (R.map Mv.d))), none, none, none, none, none, none, none, none] [] 0) rfl ?_;walk_at"xs";refine⟨h, rfl, ho, ?_⟩;walk_at"xx";refine x_bindN ?_;walk_at"xx";refine⟨_, R.map Mv.d, rfl, ?_⟩;refine x_loop0 (fun i m => ∃(x:Sc) (F:List Fo) (a b c d e f:Option L2.R), m=MSt.mk [some (.imm h.d), some (.imm r.d), some (.imm (.tuple (R.map Mv.d))), some (.imm x.d), some (.obj 0), a, b, c, d, e, f] [F.map Fo.d] 0 /\ x.Ok h r /\ FoOk x F /\ F.length ≤ i /\ staysF h r x F (R.drop i)=staysF h r (sc0 h) [] R) ⟨sc0 h, [], none, none, none, none, none, none, rfl, sc0_ok ho r, ⟨rfl, fun y hy z hz => by rw[(List.mem_replicate.mp hy).2]at hz;cases hz⟩, Nat.le_refl _, rfl⟩ ?_ ?_
 .rintro i d m e n ⟨x, F, a, b, c, d', e', f, rfl, X, O, hF, hc⟩;have hi:i<R.length :=by
   have :=(List.getElem?_eq_some_iff.mp e).1;rw[enumD_length, List.length_map]at this;exact this
  have emv:R[i]?=some R[i] :=List.getElem?_eq_getElem hi;generalize R[i]=mv at emv;have hm :=hR mv (List.mem_of_getElem? emv);rw[enumD_get (d :=mv.d) (by rw[List.getElem?_map, emv];rfl)]at e;cases e;have hL:(((R.map Mv.d).length:Nat):Int)-(i:Int)=(((R.drop (i+1)).length+1:Nat):Int) :=by
   rw[List.length_map, List.length_drop];omega
  rw[drop_cons emv]at hc;have hc:staysF h r (x.nx h r mv) (foB F (wdOf h r x mv) (numOf h r x mv) ((R.drop (i+1)).length+1)) (R.drop (i+1))=staysF h r (sc0 h) [] R :=hc;have X2 :=Sc.nx_ok ho hr0 X hm;have O2 :=FoOk.nx X O hm ((R.drop (i+1)).length+1);generalize hgL:(R.drop (i+1)).length+1=L at hL hc O2;walk_at"xs"
  .rfl
  walk_at"xs";rw[hL];refine x_itemD (ds :=[stD x.l x.t, x.c.d, akD x.A]) rfl rfl ?_;walk_at"xs";refine⟨h, r, x, mv, rfl, ho, hr0, X, hm, ?_⟩;walk_at"xx"
  .rfl
  walk_at"xs"
  cases ew:wdOf h r x mv with
  |taken =>
   rw[ew]at hc O2;dsimp only[Wd.s];refine x_ite (fun _ => ?_) (fun z => (z rfl).elim);walk_at"xs";refine' x_append (ds :=F.map Fo.d) ?eb (by rw[sizeLine_eq, List.length_map];omega) ?_
   case eb => rfl
   refine⟨x.nx h r mv, F ++ [some ((L:Int), false)], some (.imm (.int (i:Int))), some (.imm mv.d), some (.imm (.int (L:Int))), some (.imm (akD x.A)), some (.imm (.str "taken")), f, ?_, X2, O2, by rw[List.length_append, List.length_singleton];omega, hc⟩;rw[List.map_append];rfl
  |away =>
   rw[ew]at hc O2;dsimp only[Wd.s];refine x_ite (fun z => absurd z (by decide +kernel)) (fun _ => ?_);walk_at"xs";refine x_ite (fun _ => ?_) (fun z => (z rfl).elim);walk_at"xs";refine' x_append (ds :=F.map Fo.d) ?ec (by rw[sizeLine_eq, List.length_map];omega) ?_
   case ec => rfl
   refine⟨x.nx h r mv, F ++ [none], some (.imm (.int (i:Int))), some (.imm mv.d), some (.imm (.int (L:Int))), some (.imm (akD x.A)), some (.imm (.str "away")), f, ?_, X2, O2, by rw[List.length_append, List.length_singleton];omega, hc⟩;rw[List.map_append];rfl
  | served =>
   obtain⟨j, rfl, num, As, eA⟩ :=wd_served X hm ew;have en:numOf h r x (.done j)=num :=by
    show(x.A.getD j []).getD 0 0=num;rw[getD_of eA];rfl
   obtain⟨q, eq⟩ :=O.pr _ (List.mem_of_getElem? eA) num (List.mem_cons_self ..);have hnum :=(List.getElem?_eq_some_iff.mp eq).1;rw[ew, en]at hc O2;dsimp only[Wd.s];refine x_ite (fun z => absurd z (by decide +kernel)) (fun _ => ?_);walk_at"xs";refine x_ite (fun z => absurd z (by decide +kernel)) (fun _ => ?_);walk_at"xs";refine x_ite (fun _ => ?_) (fun z => (z rfl).elim);walk_at"xs";refine x_itemD (ds :=[.str "done", .int (j:Int)]) rfl rfl ?_;refine x_itemD (ds :=akL x.A) rfl (atI_nat (by unfold akL;rw[List.getElem?_map, eA];rfl)) ?_;walk_at"xs";refine x_itemD (x :=.int (num:Int)) (ds :=natD (num::As)) rfl (atI_nat (j :=0) rfl) ?_;walk_at"xs";have e3:(F.map Fo.d)[num]?=some (.tuple [.int q.1, .bool q.2]) :=by rw[List.getElem?_map, eq];rfl
   refine' x_itemO (ds :=F.map Fo.d) ?ed (atI_nat e3) ?_
   case ed => rfl
   walk_at"xs";refine' x_put (ds :=F.map Fo.d) (n :=num) ?ee ?ef ?_
   case ee => rfl
   case ef => exact ixN_nat (by rw[List.length_map];exact hnum)
   have e4:foB F .served num L=F.set num (some (q.1-(L:Int), true)) :=by
    show F.set num _=_;rw[getD_of eq];rfl
   rw[e4]at hc O2;refine⟨x.nx h r (.done j), F.set num (some (q.1-(L:Int), true)), some (.imm (.int (i:Int))), some (.imm (Mv.done j).d), some (.imm (.int (L:Int))), some (.imm (akD x.A)), some (.imm (.str "served")), some (.imm (.int (num:Int))), ?_, X2, O2, by rw[List.length_set];omega, hc⟩;rw[List.map_set];rfl
  |none =>
   rw[ew]at hc O2;dsimp only[Wd.s];refine x_ite (fun z => absurd z (by decide +kernel)) (fun _ => ?_);walk_at"xs";refine x_ite (fun z => absurd z (by decide +kernel)) (fun _ => ?_);walk_at"xs";refine x_ite (fun z => absurd z (by decide +kernel)) (fun _ => ?_);walk_at"xs";exact⟨x.nx h r mv, F, some (.imm (.int (i:Int))), some (.imm mv.d), some (.imm (.int (L:Int))), some (.imm (akD x.A)), _, f, rfl, X2, O2, by omega, hc⟩
 rintro m n ⟨x, F, a, b, c, d, e, f, rfl, X, O, hF, hc⟩;rw[enumD_length, List.length_map, List.drop_length]at hc;rw[<- hc]at k;walk_at"xs";exact k
theorem okhall_turned(T:Bl mg)(D:DefM K mg "hall_turned" shall_turned ["hall","order"]):FnM P w K mg base "hall_turned" 1 2 spTurnH :=by
 refine mk_fn' D schall_turned rfl (nN :=5) rfl (by decide) ?ar fun cdv A outer s H E f hr => ⟨_, (mz' (ms_asg' (mv' 0) (mg_tup' (n :=3) (mgs_cons' (mg_name' (i :=2) schall_turned.nd rfl (Or.inl rfl)) (mgs_cons' (mg_name' (i :=3) schall_turned.nd rfl (Or.inr rfl)) (mgs_cons' (mg_name' (i :=4) schall_turned.nd rfl (Or.inl rfl)) mgs_nil')))))
   (mss_one' (ms_ret' (me_tup' (mc' (mv' 2) (mc' (me_callTy' call_tupleM (by rfl) T.tuple bt_tuple (mc' (me_comp1' (own :=["number"]) (fr :=["servers"]) (ps :=[3]) (sc :=(defScope shall_turned)) (by exact⟨rfl, by decide +kernel, by decide +kernel, by decide +kernel, by decide +kernel⟩) (mi_seq' (mv' 1)) (fun _ _ _ _ _ => (mg_name' (i :=0) (show List.Nodup ((["number"]:List Str) ++ (["servers"]:List Str))from by decide +kernel) rfl (Or.inl rfl))) (fun _ _ _ _ _ => mts_nil') (fun _ _ _ _ _ => (me_ix' (mv' 1) (mv' 0)))) mn')) (mc' (mv' 4) mn'))))))), ?_⟩
 case ar => rintro as Kc ⟨h, o, rfl, _⟩;rfl
 rintro as Kc hl ⟨h, o, rfl, ho, P, k⟩;have n4 :=ho.n4;have ln :=P.ln;refine x_start (MSt.mk [some (.imm (.tuple [.tuple [.int h.a, .int h.b], .tuple (h.ss.map Srv.d), .bool h.mv])), some (.imm (.tuple (natD o))), none, none, none] [] 0) rfl ?_;walk_at"xs"
 .rfl
 walk_at"xs";refine x_loop0 (fun i m => ∃kk, m=MSt.mk [kk, some (.imm (.tuple (h.ss.map Srv.d)))] [((tn s0 o h.ss).take i).map Srv.d] 1) ⟨none, rfl⟩ ?_ ?_
 .rintro i d m e n ⟨kk, rfl⟩;obtain⟨j, ej, rfl, hi⟩ :=gmap e;have hj :=P.lt j (List.mem_of_getElem? ej);have es:h.ss[j]?=some h.ss[j] :=List.getElem?_eq_getElem hj;walk_at"xs";refine x_itemT (atI_nat (by rw[List.getElem?_map, es];rfl)) ?_;walk_at"xs";refine⟨_, rfl, by rw[sizeLine_eq, List.length_map, List.length_take];omega, some (.imm (.int (j:Int))), ?_⟩;rw[List.take_add_one, tn_get? ej, List.getD_eq_getElem?_getD, es, List.map_append];rfl
 .rintro m n ⟨kk, rfl⟩;rw[natD_length, ln, List.take_of_length_le (Nat.le_of_eq (tn_len P))];walk_at"xs";exact k
theorem ok_law_feed(T:Bl mg)(D:DefM K mg "_law_feed" s_law_feed ["_law_script"]):FnM P w K mg base "_law_feed" 1 1 spFeed :=by
 refine mk_fn' D sc_law_feed rfl (nN :=1) rfl (by decide) ?ar fun cdv A outer s H E f hr => ⟨_, (mss_one' (ms_ret' (me_lst' (mc' (me_imm' (me_callTy' call_listM (by rfl) T.list bt_list (mc' (me_slice' sl_cutM (mv' 0) mo_none' (mo_some' mh')) mn'))) (mc' mh' (mc' mh' (mc' mh' mn'))))))), ?_⟩
 case ar => rintro as Kc ⟨ns, rfl, _⟩;rfl
 rintro as Kc hl ⟨ns, rfl, hn, k⟩;refine x_start (MSt.mk [some (.imm (.list (ns.map .int)))] [] 0) rfl ?_;walk_at"xs";have e:cutD (ns.map PyData.int) none (some 63)=ns.map .int :=cutD_all (n :=63) (by rw[List.length_map];exact hn);rw[e];exact k _ ⟨ns, 0, 0, 0, rfl, hn, by omega, by omega, by omega, by omega, by omega⟩
theorem ok_law_draw(T:Bl mg)(D:DefM K mg "_law_draw" s_law_draw ["_law_feed_here","_law_many"]):FnM P w K mg base "_law_draw" 1 2 spDraw :=by
 refine mk_fn' D sc_law_draw rfl (nN :=5) rfl (by decide) ?ar fun cdv A outer s H E f hr => ⟨_, (mz' (ms_setI' (me_bin' op_addM (me_ix' (mv' 0) mh') mh') (mv' 0) mh')
   (mz' (ms_if' (mt_cmp' op_gtM (me_ix' (mv' 0) mh') mh' (nomark _)) (mz' (ms_set' (i :=2) sc_law_draw.nd rfl (Or.inl rfl) (me_bin' op_modM (me_ix' (mv' 0) mh') (mv' 1)))
   (mz' (ms_setI' (me_bin' op_fdivM (me_ix' (mv' 0) mh') (mv' 1)) (mv' 0) mh')
   (mss_one' (ms_ret' (mv' 2))))) mss_nil')
   (mz' (ms_set' (i :=3) sc_law_draw.nd rfl (Or.inl rfl) mh')
   (mz' (ms_if' (mt_cmp' (op_neM hr.units) (me_ix' (mv' 0) mh') (me_lst' mn') (nomark _)) (mss_one' (ms_set' (i :=3) sc_law_draw.nd rfl (Or.inl rfl) (me_ix' (me_ix' (mv' 0) mh') (me_bin' op_modM (me_ix' (mv' 0) mh') (me_callB' call_lenM (by rfl) T.len bt_len (mc' (me_ix' (mv' 0) mh') mn')))))) mss_nil')
   (mz' (ms_setI' (me_bin' op_addM (me_ix' (mv' 0) mh') mh') (mv' 0) mh')
   (mz' (ms_if' (EW.pt (mw_and' (mt_cmp' op_geM (mv' 3) (me_bin' op_powM mh' mh') (nomark _)) (mw_and1' (mt_cmp' op_leM (me_ix' (mv' 0) mh') (me_callB' call_lenM (by rfl) T.len bt_len (mc' (me_ix' (mv' 0) mh') mn')) (nomark _))))) (mz' (ms_setI' (me_bin' op_fdivM (mv' 3) (mv' 1)) (mv' 0) mh')
   (mss_one' (ms_ret' (me_bin' op_modM (mv' 3) (mv' 1))))) mss_nil')
   (mz' (ms_set' (i :=4) sc_law_draw.nd rfl (Or.inl rfl) (me_bin' op_modM (me_bin' op_mulSM (me_bin' op_addM (me_bin' op_modM (mv' 3) mh') (me_bin' op_mulSM mh' (me_ix' (mv' 0) mh'))) mh') mh'))
   (mz' (ms_set' (i :=4) sc_law_draw.nd rfl (Or.inl rfl) (me_bin' op_modM (me_bin' op_mulSM (me_bin' op_addM (me_bin' op_fdivM (mv' 4) mh') (me_bin' op_mulSM (me_bin' op_mulSM mh' (me_ix' (mv' 0) mh')) (me_ix' (mv' 0) mh'))) mh') mh'))
   (mss_one' (ms_ret' (me_bin' op_modM (me_bin' op_fdivM (mv' 4) mh') (mv' 1)))))))))))), ?_⟩
 case ar => rintro as Kc ⟨ds, m, c, rfl, _⟩;rfl
 rintro as Kc hl ⟨ds, m, c, rfl, ⟨ns, p, q, r, rfl, hn, hp0, hp, hq, hr0, hr1⟩, hc, hm0, hm1, k⟩;refine x_start (MSt.mk [some (.obj 0), some (.imm (.int m)), none, none, none] [[.list (ns.map .int), .int p, .int q, .int r]] 1) rfl ?_;walk_at"xs";refine x_ite (fun h => ?_) (fun h => ?_)
 .walk_at"xs";exact k _ _ (Int.emod_nonneg _ (by omega)) (Int.emod_lt_of_pos _ hm0) ⟨ns, p, q/m, r+1, rfl, hn, hp0, by omega, Int.ediv_nonneg hq (by omega), by omega, by omega⟩
 .walk_at"xs";have fin:∀x:Int, 0 ≤ x -> x<m -> ∀q':Int, 0 ≤ q' -> Kc (.imm (.int x)) [[.list (ns.map .int), .int (p+1), .int q', .int (r+1)]] :=fun x h1 h2 q' h3 => k _ _ h1 h2 ⟨ns, p+1, q', r+1, rfl, hn, by omega, by omega, h3, by omega, by omega⟩;have mixed:∀y:Int, 0 ≤ y/64%m /\ y/64%m<m :=fun y => ⟨Int.emod_nonneg _ (by omega), Int.emod_lt_of_pos _ hm0⟩
  cases ns with
  | nil =>
   refine x_ne rfl rfl rfl rfl ?_;walk_at"xs";refine x_iteF ?_;walk_at"xs";refine x_ite (fun h1 => ?_) (fun h1 => ?_)
   .walk_at"xs";refine x_ite (fun h2 => ?_) (fun h2 => ?_)
    .walk_at"xs";exact fin _ (Int.emod_nonneg _ (by omega)) (Int.emod_lt_of_pos _ hm0) _ (Int.ediv_nonneg (Int.le_trans (by decide) h1) (by omega))
    .walk_at"xs";exact fin _ (mixed _).1 (mixed _).2 _ hq
   .walk_at"xs";exact fin _ (mixed _).1 (mixed _).2 _ hq
  | cons n0 ns =>
   refine x_ne rfl rfl (shaped_ints _) rfl ?_;walk_at"xs";refine x_iteT ?_;walk_at"xs";have hl0:(0:Int)<((List.map PyData.int (n0::ns)).length:Int) :=by simp only[List.length_map, List.length_cons];omega
   refine x_mod hl0 ?_;obtain⟨x, hx⟩ :=atI_ints (ns :=n0::ns) (i :=p%((List.map PyData.int (n0::ns)).length:Int)) (Int.emod_nonneg _ (by omega)) (by have :=Int.emod_lt_of_pos p hl0;simp only[List.length_map]at this⊢;exact this);refine x_itemL hx ?_;walk_at"xs";refine x_ite (fun h1 => ?_) (fun h1 => ?_)
   .walk_at"xs";refine x_ite (fun h2 => ?_) (fun h2 => ?_)
    .walk_at"xs";exact fin _ (Int.emod_nonneg _ (by omega)) (Int.emod_lt_of_pos _ hm0) _ (Int.ediv_nonneg (Int.le_trans (by decide) h1) (by omega))
    .walk_at"xs";exact fin _ (mixed _).1 (mixed _).2 _ hq
   .walk_at"xs";exact fin _ (mixed _).1 (mixed _).2 _ hq
theorem ok_law_shuffled(T:Bl mg)(D:DefM K mg "_law_shuffled" s_law_shuffled ["_law_feed_here","_law_some"])(G_law_draw:FnM P w K mg base "_law_draw" 1 2 spDraw):FnM P w K mg base "_law_shuffled" 2 2 spShufP :=by
 refine mk_fn' D sc_law_shuffled rfl (nN :=5) rfl (by decide) ?ar fun cdv A outer s H E f hr => ⟨_, (mz' (ms_set' (i :=2) sc_law_shuffled.nd rfl (Or.inl rfl) (me_callTy' call_listM (by rfl) T.list bt_list (mc' (mv' 1) mn')))
   (mz' (ms_set' (i :=3) sc_law_shuffled.nd rfl (Or.inl rfl) (me_lst' mn'))
   (mz' (ms_for' (mi_range1' (by rfl) T.range (mc' (me_callB' call_lenM (by rfl) T.len bt_len (mc' (mv' 2) mn')) mn')) (mg_name' (i :=4) sc_law_shuffled.nd rfl (Or.inl rfl)) (mss_one' (ms_expr' (me_ml' PySem.F.slot_list_append PySem.F.type_list_append mt_appendM (mv' 3) (mc' (me_ml' PySem.F.slot_list_pop PySem.F.type_list_pop mt_popAtM (mv' 2) (mc' (mf' G_law_draw (hr.mono (by decide)) (mc' (mv' 0) (mc' (me_callB' call_lenM (by rfl) T.len bt_len (mc' (mv' 2) mn')) mn'))) mn')) mn')))) PassesOwn.never)
   (mss_one' (ms_ret' (mv' 3)))))), ?_⟩
 case ar => rintro as Kc ⟨fd, ds, c, rfl, _⟩;rfl
 rintro as Kc hl ⟨fd, ds, c, rfl, hf, hc, hd, k⟩;refine x_start (MSt.mk [some (.obj 0), some (.imm (.list ds)), none, none, none] [fd] 1) rfl ?_;walk_at"xs";refine x_bindN ?_;walk_at"xs";refine x_bindN ?_;walk_at"xs";refine⟨by omega, by omega, ?_⟩;refine x_loop0 (fun i m => ∃fd' lf fnd kk, m=MSt.mk [some (.obj 0), some (.imm (.list ds)), some (.obj 1), some (.obj 2), kk] [fd', lf, fnd] 1 /\ FeedD (c+i) fd' /\ lf.length+i=ds.length /\ fnd.length=i /\ (∀d ∈ lf, d ∈ ds) /\ (∀d ∈ fnd, d ∈ ds) /\ (fnd ++ lf).Perm ds)
  ⟨fd, ds, [], none, rfl, hf, rfl, rfl, fun _ h => h, (fun _ h => by cases h), .refl _⟩ ?_ ?_
 .rintro i d m e n ⟨fd', lf, fnd, kk, rfl, h1, h2, h3, h4, h5, h6⟩;have hi:i<ds.length :=by
   have :=(List.getElem?_eq_some_iff.mp e).1;rw[rangeD_length]at this;omega
  walk_at"xs";refine⟨fd', _, c+i, rfl, h1, by omega, by show(0:Int)<(lf.length:Int);omega, by show(lf.length:Int)<_;omega, fun r fd2 r0 r1 hf2 => ?_⟩;obtain⟨x, ex, _⟩ :=atI_lt (xs :=lf) r0 r1;have er:(r.toNat:Int)=r :=Int.toNat_of_nonneg r0;have hz:lf.length ≤ sizeLine :=by rw[sizeLine_eq];omega
  walk_at"xs";refine' x_popAt (n :=r.toNat) (ds :=lf) (d :=x) ?ea er ex hz ?_
  case ea => rfl
  walk_at"xs";have hz2:fnd.length<sizeLine :=by rw[sizeLine_eq];omega
  refine' x_append (ds :=fnd) ?eb hz2 ?_
  case eb => rfl
  have hx:x ∈ lf :=List.mem_of_getElem? ex;refine⟨fd2, lf.eraseIdx r.toNat, fnd ++ [x], _, rfl, hf2, ?_, ?_, fun d hd' => h4 d (List.mem_of_mem_eraseIdx hd'), fun d hd' => ?_, ?_⟩
  .have hlt :=(List.getElem?_eq_some_iff.mp ex).1;rw[List.length_eraseIdx_of_lt hlt];omega
  .rw[List.length_append, h3];rfl
  .rcases List.mem_append.mp hd' with z|z
   .exact h5 d z
   .simp at z;subst z;exact h4 _ hx
  .rw[List.append_assoc];exact(List.Perm.append_left fnd (era_perm ex)).trans h6
 .rintro m n ⟨fd', lf, fnd, kk, rfl, h1, h2, h3, h4, h5, h6⟩;rw[rangeD_length]at h1 h2 h3;walk_at"xs";have z2:lf.length+ds.length=ds.length :=by simpa using h2
  have l0:lf=[] :=List.length_eq_zero_iff.mp (by omega);rw[l0, List.append_nil]at h6;exact k _ _ (by simpa using h1) (by simpa using h3) h5 h6
theorem ok_law_cut(T:Bl mg)(D:DefM K mg "_law_cut" s_law_cut ["_law_top","_law_bottom"]):FnM P w K mg base "_law_cut" 1 2 spCut :=by
 refine mk_fn' D sc_law_cut rfl (nN :=4) rfl (by decide) ?ar fun cdv A outer s H E f hr => ⟨_, (mz' (ms_par' (i :=2) (j :=3) sc_law_cut.nd rfl rfl (by decide) rfl rfl (mc' (me_callB' call_absM (by rfl) T.abs bt_abs (mc' (mv' 0) mn')) (mc' (me_callB' call_absM (by rfl) T.abs bt_abs (mc' (mv' 1) mn')) mn')) rfl)
   (mz' (ms_while' (mt_cmp' op_gtM (mv' 3) mh' (nomark _)) (mss_one' (ms_par' (i :=2) (j :=3) sc_law_cut.nd rfl rfl (by decide) rfl rfl (mc' (mv' 3) (mc' (me_bin' op_modM (mv' 2) (mv' 3)) mn')) rfl)) PassesOwn.never)
   (mz' (ms_if' (mt_cmp' op_ltM (mv' 1) mh' (nomark _)) (mss_one' (ms_set' (i :=2) sc_law_cut.nd rfl (Or.inl rfl) (me_un' un_negM (mv' 2)))) mss_nil')
   (mss_one' (ms_ret' (me_tup' (mc' (me_bin' op_fdivM (mv' 0) (mv' 2)) (mc' (me_bin' op_fdivM (mv' 1) (mv' 2)) mn')))))))), ?_⟩
 case ar => rintro as Kc ⟨a, b, rfl, _⟩;rfl
 rintro as Kc hl ⟨a, b, rfl, ha, hb0, hb, k⟩;refine x_start (MSt.mk [some (.imm (.int a)), some (.imm (.int b)), none, none] [] 0) rfl ?_;walk_at"xs";rw[if_neg (show ¬(a:Int)<0 by omega), if_neg (show ¬(b:Int)<0 by omega)];refine x_while (fun n m => ∃x y:Nat, m=MSt.mk [some (.imm (.int a)), some (.imm (.int b)), some (.imm (.int x)), some (.imm (.int y))] [] 0 /\ x.gcd y=a.gcd b /\ x<1000000000 /\ y<1000000000 /\ n=y) b ⟨a, b, rfl, rfl, ha, hb, rfl⟩ ?_;rintro n m hn ⟨x, y, rfl, hg, hx1, hy1, rfl⟩;walk_at"xs";refine x_ite (fun hpos => ?_) (fun hz => ?_)
 .walk_at"xs";have hy:0<n :=by omega
  have h2 :=Nat.mod_lt x hy;exact⟨x%n, h2, n, x%n, rfl, by rw[Nat.gcd_comm, <- Nat.gcd_rec, Nat.gcd_comm, hg], hy1, by omega, rfl⟩
 .have hy0:n=0 :=by omega
  subst hy0;rw[Nat.gcd_zero_right]at hg;have hx0:0<x :=by rw[hg];exact Nat.gcd_pos_of_pos_right _ hb0
  walk_at"xs";refine x_ite (fun hneg => by omega) (fun _ => ?_);walk_at"xs";rw[hg];exact k
theorem ok_law_hall(T:Bl mg)(D:DefM K mg "_law_hall" s_law_hall ["_law_feed_here","_law_most"])(G_law_draw:FnM P w K mg base "_law_draw" 1 2 spDraw)(G_law_cut:FnM P w K mg base "_law_cut" 1 2 spCut):FnM P w K mg base "_law_hall" 2 2 spHall :=by
 refine mk_fn' D sc_law_hall rfl (nN :=14) rfl (by decide) ?ar fun cdv A outer s H E f hr => ⟨_, (mz' (ms_set' (i :=2) sc_law_hall.nd rfl (Or.inl rfl) (me_bin' op_addM mh' (mf' G_law_draw (hr.mono (by decide)) (mc' (mv' 0) (mc' (mv' 1) mn')))))
   (mz' (ms_set' (i :=3) sc_law_hall.nd rfl (Or.inl rfl) (mf' G_law_draw (hr.mono (by decide)) (mc' (mv' 0) (mc' mh' mn'))))
   (mz' (ms_set' (i :=4) sc_law_hall.nd rfl (Or.inl rfl) (me_tup' (mc' (me_bin' op_addM mh' (mf' G_law_draw (hr.mono (by decide)) (mc' (mv' 0) (mc' mh' mn')))) (mc' (me_bin' op_addM mh' (mf' G_law_draw (hr.mono (by decide)) (mc' (mv' 0) (mc' mh' mn')))) mn'))))
   (mz' (ms_set' (i :=5) sc_law_hall.nd rfl (Or.inr rfl) (me_ix' (me_lst' (mc' mh' (mc' mh' (mc' mh' mn')))) (mf' G_law_draw (hr.mono (by decide)) (mc' (mv' 0) (mc' mh' mn')))))
   (mz' (ms_set' (i :=6) sc_law_hall.nd rfl (Or.inl rfl) (me_if' (EW.pt (mw_and' (mt_cmp' op_ltM (mv' 2) mh' (nomark _)) (mw_and1' (mt_cmp' (op_eqM hr.units) (mf' G_law_draw (hr.mono (by decide)) (mc' (mv' 0) (mc' mh' mn'))) mh' (nomark _))))) mh' (me_bin' op_subM mh' (me_callTy' call_intM (by rfl) T.int bt_int (mc' (me_cmp' op_gtM (mv' 2) mh' (nomark _)) mn')))))
   (mz' (ms_set' (i :=7) sc_law_hall.nd rfl (Or.inl rfl) (me_lst' mn'))
   (mz' (ms_for' (mi_range1' (by rfl) T.range (mc' (mv' 2) mn')) (mg_name' (i :=8) sc_law_hall.nd rfl (Or.inl rfl)) (mz' (ms_set' (i :=9) sc_law_hall.nd rfl (Or.inl rfl) (me_tup' (mc' (me_bin' op_addM mh' (mf' G_law_draw (hr.mono (by decide)) (mc' (mv' 0) (mc' mh' mn')))) (mc' (me_bin' op_addM mh' (mf' G_law_draw (hr.mono (by decide)) (mc' (mv' 0) (mc' (mv' 6) mn')))) mn'))))
   (mss_one' (ms_expr' (me_ml' PySem.F.slot_list_append PySem.F.type_list_append mt_appendM (mv' 7) (mc' (me_if' (mt_cmp' (op_eqM hr.units) (mv' 3) mh' (nomark _)) (mv' 4) (me_if' (mt_cmp' (op_eqM hr.units) (mv' 3) mh' (nomark _)) (me_tup' (mc' (me_ix' (mv' 4) mh') (mc' (me_ix' (mv' 9) mh') mn'))) (mv' 9))) mn'))))) PassesOwn.never)
   (mz' (ms_set' (i :=10) sc_law_hall.nd rfl (Or.inl rfl) (me_bin' op_addM mh' (mf' G_law_draw (hr.mono (by decide)) (mc' (mv' 0) (mc' mh' mn')))))
   (mz' (ms_set' (i :=11) sc_law_hall.nd rfl (Or.inl rfl) (me_ix' (me_lst' (mc' mh' (mc' mh' (mc' mh' mn')))) (mf' G_law_draw (hr.mono (by decide)) (mc' (mv' 0) (mc' mh' mn')))))
   (mz' (ms_set' (i :=12) sc_law_hall.nd rfl (Or.inr rfl) (me_bin' op_addM (me_bin' op_mulSM (me_bin' op_addM (mv' 10) (me_callB' (call_sumM rfl) (by rfl) T.sum bt_sum (mc' (me_comp1' (own :=["_law_speed","_law_room"]) (fr :=[]) (ps :=[]) (sc :=(defScope s_law_hall)) (by exact⟨rfl, by decide +kernel, by decide +kernel, by decide +kernel, by decide +kernel⟩) (mi_seq' (mv' 7)) (fun _ _ _ _ _ => (mg_tup' (n :=2) (mgs_cons' (mg_name' (i :=0) (show List.Nodup ((["_law_speed","_law_room"]:List Str) ++ ([]:List Str))from by decide +kernel) rfl (Or.inl rfl)) (mgs_cons' (mg_name' (i :=1) (show List.Nodup ((["_law_speed","_law_room"]:List Str) ++ ([]:List Str))from by decide +kernel) rfl (Or.inl rfl)) mgs_nil')))) (fun _ _ _ _ _ => mts_nil') (fun _ _ _ _ _ => (mv' 0))) mn'))) (mv' 5)) (mv' 11)))
   (mz' (ms_set' (i :=13) sc_law_hall.nd rfl (Or.inl rfl) (me_callTy' call_tupleM (by rfl) T.tuple bt_tuple (mc' (me_comp1' (own :=["_law_speed","_law_room"]) (fr :=["_law_heavy","_law_whole"]) (ps :=[5, 12]) (sc :=(defScope s_law_hall)) (by exact⟨rfl, by decide +kernel, by decide +kernel, by decide +kernel, by decide +kernel⟩) (mi_seq' (mv' 7)) (fun _ _ _ _ _ => (mg_tup' (n :=2) (mgs_cons' (mg_name' (i :=0) (show List.Nodup ((["_law_speed","_law_room"]:List Str) ++ (["_law_heavy","_law_whole"]:List Str))from by decide +kernel) rfl (Or.inl rfl)) (mgs_cons' (mg_name' (i :=1) (show List.Nodup ((["_law_speed","_law_room"]:List Str) ++ (["_law_heavy","_law_whole"]:List Str))from by decide +kernel) rfl (Or.inl rfl)) mgs_nil')))) (fun _ _ _ _ _ => mts_nil') (fun _ _ _ _ _ => (me_tup' (mc' (mf' G_law_cut (hr.mono (by decide)) (mc' (me_bin' op_mulSM (mv' 0) (mv' 2)) (mc' (mv' 3) mn'))) (mc' (mv' 1) mn'))))) mn')))
   (mss_one' (ms_ret' (me_tup' (mc' (mf' G_law_cut (hr.mono (by decide)) (mc' (me_bin' op_mulSM (mv' 10) (mv' 5)) (mc' (mv' 12) mn'))) (mc' (mv' 13) (mc' (me_cmp' (op_eqM hr.units) (mf' G_law_draw (hr.mono (by decide)) (mc' (mv' 0) (mc' mh' mn'))) mh' (nomark _)) mn'))))))))))))))))), ?_⟩
 case ar => rintro as Kc ⟨fd, c, rfl, _⟩;rfl
 rintro as Kc hl ⟨fd, c, rfl, hf, hc, k⟩;refine x_start (MSt.mk [some (.obj 0), some (.imm (.int 4)), none, none, none, none, none, none, none, none, none, none, none, none] [fd] 1) rfl ?_;walk_at"xs";refine⟨fd, _, c, rfl, hf, by omega, by decide, by decide, fun many fd hm0 hm1 hf => ?_⟩;walk_at"xx";refine⟨fd, _, c+1, rfl, hf, by omega, by decide, by decide, fun way fd hw0 hw1 hf => ?_⟩;walk_at"xx";refine⟨fd, _, c+2, rfl, hf, by omega, by decide, by decide, fun sp0 fd hs0 hs1 hf => ?_⟩;walk_at"xx";refine⟨fd, _, c+3, rfl, hf, by omega, by decide, by decide, fun rm0 fd hr0 hr1 hf => ?_⟩;walk_at"xx";refine⟨fd, _, c+4, rfl, hf, by omega, by decide, by decide, fun hv fd hv0 hv1 hf => ?_⟩;walk_at"xx";obtain⟨heavy, eh, hh0, hh1⟩:∃h:Nat, atI [PyData.int 1, PyData.int 1, PyData.int 97] hv=some (.int (h:Int)) /\ 1 ≤ h /\ h ≤ 97 :=by
  rcases (show hv=0 \/ hv=1 \/ hv=2 by omega)with rfl|rfl|rfl
  .exact⟨1, rfl, by decide, by decide⟩
  .exact⟨1, rfl, by decide, by decide⟩
  .exact⟨97, rfl, by decide, by decide⟩
 refine x_itemN eh ?_;walk_at"xs";walk_at"xn";refine x_J (fun r m => ∃(wide:Int) (fd':List PyData), r = .imm (.int wide) /\ 1 ≤ wide /\ wide ≤ 6 /\ FeedD (c+6) fd' /\ m=MSt.mk [some (.obj 0), some (.imm (.int 4)), some (.imm (.int (1+many))), some (.imm (.int way)), some (.imm (.tuple [.int (1+sp0), .int (1+rm0)])), some (.imm (.int heavy)), none, none, none, none, none, none, none, none] [fd'] 1) (fun K' J => ?_) ?_
 .refine x_ifE ?_;walk_at"xs";refine x_ite (fun h3 => ?_) (fun h3 => ?_)
  .walk_at"xs";refine⟨fd, _, c+5, rfl, hf, by omega, by decide, by decide, fun z fd hz0 hz1 hf => ?_⟩;walk_at"xx";refine x_ite (fun hz => ?_) (fun hz => ?_)
   .walk_at"xs";exact J _ _ ⟨6, fd, rfl, by decide, by decide, hf, rfl⟩
   .walk_at"xs";refine J _ _ ⟨_, fd, rfl, ?_, ?_, hf, rfl⟩
    .split<;>omega
    .split<;>omega
  .walk_at"xs";refine J _ _ ⟨_, fd, rfl, ?_, ?_, hf.mono (by omega), rfl⟩
   .split<;>omega
   .split<;>omega
 rintro _ _ ⟨wide, fd, rfl, hwd0, hwd1, hf, rfl⟩;walk_at"xs";refine x_bindN ?_;walk_at"xx";refine⟨by omega, by omega, ?_⟩;refine x_loop0 (fun i m => ∃fd' a b sv, m=MSt.mk [some (.obj 0), some (.imm (.int 4)), some (.imm (.int (1+many))), some (.imm (.int way)), some (.imm (.tuple [.int (1+sp0), .int (1+rm0)])), some (.imm (.int heavy)), some (.imm (.int wide)), some (.obj 1), a, b, none, none, none, none] [fd', sv] 1 /\ FeedD (c+6+2*i) fd' /\ sv.length=i /\ ∀d ∈ sv, PairD d) ⟨fd, none, none, [], rfl, hf, rfl, fun _ h => by cases h⟩ ?_ ?_
 .rintro i d m e n ⟨fd, a, b, sv, rfl, hf, hsl, hsv⟩;have hi:i<(1+many).toNat :=by
   have :=(List.getElem?_eq_some_iff.mp e).1;rwa[rangeD_length]at this
  walk_at"xs";refine⟨fd, _, c+6+2*i, rfl, hf, by omega, by decide, by decide, fun sp fd hsp0 hsp1 hf => ?_⟩;walk_at"xx";refine⟨fd, _, c+6+2*i+1, rfl, hf, by omega, by omega, by omega, fun rm fd hrm0 hrm1 hf => ?_⟩;walk_at"xx";refine x_J (fun r m => ∃d, r = .imm d /\ PairD d /\ ∃kk, m=MSt.mk [some (.obj 0), some (.imm (.int 4)), some (.imm (.int (1+many))), some (.imm (.int way)), some (.imm (.tuple [.int (1+sp0), .int (1+rm0)])), some (.imm (.int heavy)), some (.imm (.int wide)), some (.obj 1), kk, some (.imm (.tuple [.int (1+sp), .int (1+rm)])), none, none, none, none] [fd, sv] 1) (fun K' J => ?_) ?_
  .have e0:(0:Int)+(i:Int)=i :=by omega
   refine x_ifE ?_;walk_at"xs";refine x_ite (fun h0 => ?_) (fun h0 => ?_)
   .walk_at"xs";exact J _ _ ⟨_, rfl, ⟨(1+sp0).toNat, (1+rm0).toNat, by simp;omega, by omega, by omega, by omega, by omega⟩, _, rfl⟩
   .refine x_ifE ?_;walk_at"xs";refine x_ite (fun h1 => ?_) (fun h1 => ?_)
    .walk_at"xs";exact J _ _ ⟨_, rfl, ⟨(1+sp0).toNat, (1+rm).toNat, by simp;omega, by omega, by omega, by omega, by omega⟩, _, rfl⟩
    .walk_at"xs";exact J _ _ ⟨_, rfl, ⟨(1+sp).toNat, (1+rm).toNat, by simp;omega, by omega, by omega, by omega, by omega⟩, _, rfl⟩
  rintro _ _ ⟨d, rfl, hd, kk, rfl⟩;walk_at"xs";refine' x_append (ds :=sv) ?eb (by rw[sizeLine_eq];omega) ?_
  case eb => rfl
  walk_at"xn";refine⟨fd, _, _, _, rfl, hf, by simp;omega, fun d' hd' => ?_⟩;rcases List.mem_append.mp hd' with z|z
  .exact hsv d' z
  .simp at z;subst z;exact hd
 rintro m n ⟨fd, a, b, sv, rfl, hf, hsl, hsv⟩;rw[rangeD_length]at hf hsl;walk_at"xs";refine⟨fd, _, _, rfl, hf, by omega, by decide, by decide, fun cm fd hcm0 hcm1 hf => ?_⟩;walk_at"xx";refine⟨fd, _, _, rfl, hf, by omega, by decide, by decide, fun rs fd hrs0 hrs1 hf => ?_⟩;walk_at"xx";obtain⟨rest, er, hr0, hr1⟩:∃h:Int, atI [PyData.int 0, PyData.int 1, PyData.int 5] rs=some (.int h) /\ 0 ≤ h /\ h ≤ 5 :=by
  rcases (show rs=0 \/ rs=1 \/ rs=2 by omega)with rfl|rfl|rfl
  .exact⟨0, rfl, by decide, by decide⟩
  .exact⟨1, rfl, by decide, by decide⟩
  .exact⟨5, rfl, by decide, by decide⟩
 refine x_itemN er ?_;walk_at"xs";walk_at"xn";obtain⟨ps, rfl, hps⟩ :=PairD.all hsv;rw[List.length_map]at hsl;have hsum :=sum_le hps;refine x_loopO (fun i m => ∃a b, m=MSt.mk [a, b] [fd, ps.map prD, ((ps.take i).map fun p => (p.1:Int)).map .int] 3) ⟨none, none, rfl⟩ ?_ ?_ ?_
 .rintro i m ⟨a, b, rfl⟩;rfl
 .rintro i d m e n ⟨a, b, rfl⟩;rw[List.getElem?_map]at e
  cases q:ps[i]? with
  |none => rw[q]at e;cases e
  | some p =>
   rw[q]at e;cases e;have hi:i<ps.length :=(List.getElem?_eq_some_iff.mp q).1;dsimp only[prD];walk_at"xs"
   .rfl
   walk_at"xs";refine⟨_, rfl, by rw[sizeLine_eq];simp;omega, some (.imm (.int (p.1:Int))), some (.imm (.int (p.2:Int))), ?_⟩;have ee:((ps.take (i+1)).map fun p => (p.1:Int)).map PyData.int=((ps.take i).map fun p => (p.1:Int)).map PyData.int ++ [.int (p.1:Int)] :=by
    rw[List.take_add_one, q];simp
   rw[ee];rfl
 rintro m n ⟨a', b', rfl⟩;rw[List.length_map, List.take_length];walk_at"xs";refine⟨_, _, rfl, intsOf_ints _, ?_⟩;walk_at"xs";generalize (ps.map fun p => (p.1:Int)).sum=S at hsum;have hS:S ≤ 20 :=by omega
 have hw0:0 ≤ (1+cm+S)*(heavy:Int) :=Int.mul_nonneg (by omega) (by omega);have hw1:(1+cm+S)*(heavy:Int) ≤ 28*97 :=Int.mul_le_mul (by omega) (by omega) (by omega) (by decide);have hw2:1 ≤ (1+cm+S)*(heavy:Int) :=by
  have :=Int.mul_le_mul (show(1:Int) ≤ 1+cm+S by omega) (show(1:Int) ≤ (heavy:Int) by omega) (by decide) (by omega);omega
 obtain⟨whole, hwh⟩ :=Int.eq_ofNat_of_zero_le (show 0 ≤ (1+cm+S)*(heavy:Int)+rest by omega);rw[hwh];have hwh0:0<whole :=by omega
 have hwh1:whole<1000000 :=by omega
 have cutok:∀a:Nat, 0<a -> a ≤ 5000 -> 1 ≤ a/a.gcd whole /\ a/a.gcd whole<1000000 /\ 1 ≤ whole/a.gcd whole /\ whole/a.gcd whole<1000000 :=fun a h1 h2 => by
  have g1:0<a.gcd whole :=Nat.gcd_pos_of_pos_left _ h1;have d1 :=Nat.div_pos (Nat.le_of_dvd h1 (Nat.gcd_dvd_left a whole)) g1;have d2 :=Nat.div_pos (Nat.le_of_dvd hwh0 (Nat.gcd_dvd_right a whole)) g1;have d3 :=Nat.div_le_self a (a.gcd whole);have d4 :=Nat.div_le_self whole (a.gcd whole);omega
 walk_at"xs";walk_at"xn";refine x_loopO (fun i m => ∃a b acc, m=MSt.mk [a, b, some (.imm (.int (heavy:Int))), some (.imm (.int (whole:Int)))] [fd, ps.map prD, acc.map Srv.d] 3 /\ acc.length=i /\ ∀s ∈ acc, s.Ok) ⟨none, none, [], rfl, rfl, fun _ h => by cases h⟩ ?_ ?_ ?_
 .rintro i m ⟨a, b, acc, rfl, _⟩;rfl
 .rintro i d m e n ⟨a, b, acc, rfl, hal, hacc⟩;obtain⟨p, q, rfl, hi⟩ :=gmap e;obtain⟨p1, p2, p3, p4⟩ :=hps p (List.mem_of_getElem? q);have m0:0<p.1*heavy :=Nat.mul_pos (by omega) (by omega);have m1:p.1*heavy ≤ 5*97 :=Nat.mul_le_mul (by omega) hh1;dsimp only[prD];walk_at"xs"
  .rfl
  walk_at"xs";refine⟨p.1*heavy, whole, by rw[Int.natCast_mul], by omega, hwh0, by omega, ?_⟩;walk_at"xx";obtain⟨c1, c2, c3, c4⟩ :=cutok (p.1*heavy) m0 (by omega);refine⟨_, rfl, by rw[sizeLine_eq, List.length_map];omega, _, _, acc ++ [⟨p.1*heavy/(p.1*heavy).gcd whole, whole/(p.1*heavy).gcd whole, p.2⟩], by rw[List.map_append];rfl, by simp;omega, fun s hs => ?_⟩;rcases List.mem_append.mp hs with z|z
  .exact hacc s z
  .simp at z;subst z;exact⟨c1, c2, c3, c4, p3, p4⟩
 rintro m n ⟨a', b', acc, rfl, hal, hacc⟩;rw[List.length_map]at hal;walk_at"xs";walk_at"xn";obtain⟨cmn, rfl⟩ :=Int.eq_ofNat_of_zero_le hcm0;have m0:0<(1+cmn)*heavy :=Nat.mul_pos (by omega) (by omega);have m1:(1+cmn)*heavy ≤ 7*97 :=Nat.mul_le_mul (by omega) hh1;refine⟨(1+cmn)*heavy, whole, by rw[Int.natCast_mul, Int.natCast_add];rfl, by omega, hwh0, by omega, ?_⟩;obtain⟨c1, c2, c3, c4⟩ :=cutok ((1+cmn)*heavy) m0 (by omega);walk_at"xx";refine⟨fd, _, _, rfl, hf, by omega, by decide, by decide, fun mvv fd hmv0 hmv1 hf => ?_⟩;walk_at"xx";exact k ⟨_, _, acc, _⟩ fd ⟨c1, c2, c3, c4, by show 1 ≤ acc.length;omega, by show acc.length ≤ 4;omega, hacc⟩ (hf.mono (by omega))
theorem ok_law_all(T:Bl mg)(D:DefM K mg "_law_all" s_law_all ["_law_hall_here"]):FnM P w K mg base "_law_all" 1 1 spAll :=by
 refine mk_fn' D sc_law_all rfl (nN :=6) rfl (by decide) ?ar fun cdv A outer s H E f hr => ⟨_, (mz' (ms_set' (i :=1) sc_law_all.nd rfl (Or.inl rfl) (me_lst' (mc' (me_tup' mn') mn')))
   (mz' (ms_for' (mi_seq' (me_ix' (mv' 0) mh')) (mg_tup' (n :=2) (mgs_cons' (mg_name' (i :=2) sc_law_all.nd rfl (Or.inl rfl)) (mgs_cons' (mg_name' (i :=3) sc_law_all.nd rfl (Or.inl rfl)) mgs_nil'))) (mz' (ms_set' (i :=4) sc_law_all.nd rfl (Or.inl rfl) (me_lst' mn'))
   (mz' (ms_for' (mi_seq' (mv' 1)) (mg_name' (i :=5) sc_law_all.nd rfl (Or.inr rfl)) (mss_one' (ms_expr' (me_ml' PySem.F.slot_list_extend PySem.F.type_list_extend mt_extendM (mv' 4) (mc' (me_comp1' (own :=["_law_many"]) (fr :=["_law_lines"]) (ps :=[5]) (sc :=(defScope s_law_all)) (by exact⟨rfl, by decide +kernel, by decide +kernel, by decide +kernel, by decide +kernel⟩) (mi_range1' (by rfl) T.range (mc' (me_bin' op_addM (mv' 3) mh') mn')) (fun _ _ _ _ _ => (mg_name' (i :=0) (show List.Nodup ((["_law_many"]:List Str) ++ (["_law_lines"]:List Str))from by decide +kernel) rfl (Or.inl rfl))) (fun _ _ _ _ _ => mts_nil') (fun _ _ _ _ _ => (me_bin' op_addM (mv' 1) (me_tup' (mc' (mv' 0) mn'))))) mn')))) PassesOwn.never)
   (mss_one' (ms_set' (i :=1) sc_law_all.nd rfl (Or.inl rfl) (mv' 4))))) PassesOwn.never)
   (mss_one' (ms_ret' (mv' 1))))), ?_⟩
 case ar => rintro as Kc ⟨h, rfl, _⟩;rfl
 rintro as Kc hl ⟨h, rfl, ho, k⟩;refine x_start (MSt.mk [some (.imm (.tuple [.tuple [.int h.a, .int h.b], .tuple (h.ss.map Srv.d), .bool h.mv])), none, none, none, none, none] [] 0) rfl ?_;walk_at"xs";refine x_bindN ?_;walk_at"xx";refine x_loop0 (fun i m => ∃a b c, m=MSt.mk [some (.imm (.tuple [.tuple [.int h.a, .int h.b], .tuple (h.ss.map Srv.d), .bool h.mv])), some (.obj 0), a, b, none, c] [(((h.rs.take i).foldl M3.stepL [[]]).map lnD)] 0) ⟨none, none, none, rfl⟩ ?_ ?_
 .rintro i d m e n ⟨a, b, c, rfl⟩;obtain⟨s, es, rfl, hi⟩ :=gmap e;have r1 :=(ho.ok s (List.mem_of_getElem? es)).r1;have r6 :=(ho.ok s (List.mem_of_getElem? es)).r6;have hrl :=h.rsl;generalize hprev:(h.rs.take i).foldl M3.stepL [[]]=prev;have hpl:∀a ∈ prev, a.length ≤ 4 :=by
   intro a ha;rw[<- hprev]at ha;have :=M3.allR_len (by rw[<- M3.allL_eq];exact ha);rw[this, List.length_take];have :=ho.n4;omega
  have hpn:prev.length ≤ 2401 :=by
   rw[<- hprev];exact M3.fold_small (by rw[List.length_take];have :=ho.n4;omega) (fun r hr => ho.r6 r (List.mem_of_mem_take hr))
  have hfold:((h.rs.take (i+1)).foldl M3.stepL [[]])=M3.stepL prev s.r :=by
   rw[List.take_add_one, Hall.rs_get es, List.foldl_append, hprev];rfl
  rw[hfold];dsimp only[Srv.d];walk_at"xs"
  .rfl
  walk_at"xs";refine x_bindN ?_;walk_at"xx";refine x_loopO (fun i m => ∃a, m=MSt.mk [some (.imm (.tuple [.tuple [.int h.a, .int h.b], .tuple (h.ss.map Srv.d), .bool h.mv])), some (.obj 0), some (.imm (.tuple [.int s.a, .int s.b])), some (.imm (.int s.r)), some (.obj 1), a] [prev.map lnD, (M3.stepL (prev.take i) s.r).map lnD] 1) ⟨c, rfl⟩ ?_ ?_ ?_
  .rintro j m ⟨a, rfl⟩;rfl
  .rintro j d m ej nj ⟨a, rfl⟩;obtain⟨l, el, rfl, hj⟩ :=gmap ej;have hl4 :=hpl l (List.mem_of_getElem? el);walk_at"xs";refine⟨by omega, by omega, ?_⟩;have en:((s.r:Int)+1).toNat=s.r+1 :=by omega
   rw[en];walk_at"xn";refine x_loop0 (fun z m => ∃b, m=MSt.mk [b, some (.imm (lnD l))] [prev.map lnD, (M3.stepL (prev.take j) s.r).map lnD, ((List.range z).map fun y => l ++ [y]).map lnD] 3) ⟨none, rfl⟩ ?_ ?_
   .rintro z dz m ez nz ⟨b, rfl⟩;obtain⟨hz, rfl⟩ :=get_range ez;walk_at"xs";refine x_addT (by rw[sizeLine_eq, natD_length];simp;omega) ?_;walk_at"xs";refine⟨_, rfl, by rw[sizeLine_eq];simp;omega, some (.imm (.int (0+(z:Int)))), ?_⟩;have ee:((List.range (z+1)).map fun y => l ++ [y]).map lnD=((List.range z).map fun y => l ++ [y]).map lnD ++ [.tuple (natD l ++ [.int (0+(z:Int))])] :=by
     rw[List.range_succ];simp[lnD, natD]
    rw[ee];rfl
   .rintro m n ⟨b, rfl⟩;rw[rangeD_length];walk_at"xs";have hz:((M3.stepL (prev.take j) s.r).map lnD).length+(((List.range (s.r+1)).map fun y => l ++ [y]).map lnD).length ≤ sizeLine :=by
     rw[sizeLine_eq, List.length_map, List.length_map, List.length_map, List.length_range, M3.stepL_length, List.length_take];have:min j prev.length*(s.r+1) ≤ 2401*7 :=Nat.mul_le_mul (by omega) (by omega);omega
    refine' x_extend (ds :=(M3.stepL (prev.take j) s.r).map lnD) ?eb hz ?_
    case eb => rfl
    have ee:(M3.stepL (prev.take (j+1)) s.r).map lnD=(M3.stepL (prev.take j) s.r).map lnD ++ ((List.range (s.r+1)).map fun y => l ++ [y]).map lnD :=by
     rw[M3.stepL_take el, List.map_append]
    rw[ee];exact⟨_, rfl⟩
  .rintro m n ⟨a, rfl⟩;rw[List.length_map, List.take_length];walk_at"xn";refine x_set ?_;refine x_var rfl ?_;refine x_bindRen [1] (MSt.mk [some (.imm (.tuple [.tuple [.int h.a, .int h.b], .tuple (h.ss.map Srv.d), .bool h.mv])), some (.obj 0), some (.imm (.tuple [.int s.a, .int s.b])), some (.imm (.int s.r)), none, none] [(M3.stepL prev s.r).map lnD] 0) (ren_of rfl rfl rfl rfl rfl rfl ⟨rfl, ⟨1, rfl, rfl⟩, rfl, rfl, trivial, trivial, trivial⟩) ⟨_, _, _, rfl⟩
 .rintro m n ⟨a, b, c, rfl⟩;rw[List.length_map, <- h.rsl, List.take_length, show h.rs.foldl M3.stepL [[]]=M3.allL h.rs from rfl, M3.allL_eq];walk_at"xs";exact k
theorem ok_law_rule(T:Bl mg)(D:DefM K mg "_law_rule" s_law_rule ["_law_feed_here","_law_hall_here"])(G_law_draw:FnM P w K mg base "_law_draw" 1 2 spDraw)(G_law_all:FnM P w K mg base "_law_all" 1 1 spAll):FnM P w K mg base "_law_rule" 2 2 spRule :=by
 refine mk_fn' D sc_law_rule rfl (nN :=3) rfl (by decide) ?ar fun cdv A outer s H E f hr => ⟨_, (mz' (ms_set' (i :=2) sc_law_rule.nd rfl (Or.inl rfl) (me_ix' (me_lst' (mc' me_str' (mc' me_str' (mc' me_str' (mc' me_str' (mc' me_str' (mc' me_str' mn'))))))) (mf' G_law_draw (hr.mono (by decide)) (mc' (mv' 0) (mc' mh' mn')))))
   (mz' (ms_if' (mt_cmp' (op_neM hr.units) (mv' 2) me_str' (nomark _)) (mss_one' (ms_ret' (me_tup' (mc' (mv' 2) mn')))) mss_nil')
   (mss_one' (ms_ret' (me_tup' (mc' me_str' (mc' (me_callTy' call_tupleM (by rfl) T.tuple bt_tuple (mc' (me_comp1' (own :=["_law_lines"]) (fr :=["_law_feed_here","_law_hall_here"]) (ps :=[0, 1]) (sc :=(defScope s_law_rule)) (by exact⟨rfl, by decide +kernel, by decide +kernel, by decide +kernel, by decide +kernel⟩) (mi_seq' (me_imm' (mf' G_law_all (hr.mono (by decide)) (mc' (mv' 1) mn')))) (fun _ _ _ _ _ => (mg_name' (i :=0) (show List.Nodup ((["_law_lines"]:List Str) ++ (["_law_feed_here","_law_hall_here"]:List Str))from by decide +kernel) rfl (Or.inl rfl))) (fun _ _ _ _ _ => mts_nil') (fun _ _ _ _ _ => (mf' G_law_draw (hr.mono (by decide)) (mc' (mv' 1) (mc' (me_callB' call_lenM (by rfl) T.len bt_len (mc' (me_ix' (mv' 2) mh') mn')) mn'))))) mn')) mn'))))))), ?_⟩
 case ar => rintro as Kc ⟨fd, c, h, rfl, _⟩;rfl
 rintro as Kc hl ⟨fd, c, h, rfl, ho, hf, hc, k⟩;have n1 :=ho.n1;have n4 :=ho.n4;refine x_start (MSt.mk [some (.obj 0), some (.imm (.tuple [.tuple [.int h.a, .int h.b], .tuple (h.ss.map Srv.d), .bool h.mv])), none] [fd] 1) rfl ?_;walk_at"xs";refine⟨fd, _, c, rfl, hf, by omega, by decide, by decide, fun r fd hr0 hr1 hf => ?_⟩;walk_at"xx";have five:∀(q:Rule) (x:Str), atI [PyData.str "random", .str "turns", .str "two", .str "least", .str "quick", .str "told"] r=some (.str x) -> q.d = .tuple [.str x] -> q.Ok h -> x ≠ "told" -> ∃d, atI [PyData.str "random", .str "turns", .str "two", .str "least", .str "quick", .str "told"] r=some d /\ ((∃x q, d = .str x /\ x ≠ "told" /\ Rule.d q = .tuple [.str x] /\ q.Ok h) \/ d = .str "told") :=fun q x e1 e2 e3 e4 => ⟨_, e1, .inl ⟨x, q, rfl, e4, e2, e3⟩⟩;obtain⟨d, ed, hd⟩:∃d, atI [PyData.str "random", .str "turns", .str "two", .str "least", .str "quick", .str "told"] r=some d /\ ((∃x q, d = .str x /\ x ≠ "told" /\ Rule.d q = .tuple [.str x] /\ q.Ok h) \/ d = .str "told") :=by
  rcases (show r=0 \/ r=1 \/ r=2 \/ r=3 \/ r=4 \/ r=5 by omega)with rfl|rfl|rfl|rfl|rfl|rfl
  .exact five .random "random" rfl rfl trivial (by decide +kernel)
  .exact five .turns "turns" rfl rfl trivial (by decide +kernel)
  .exact five .two "two" rfl rfl trivial (by decide +kernel)
  .exact five .least "least" rfl rfl trivial (by decide +kernel)
  .exact five .quick "quick" rfl rfl trivial (by decide +kernel)
  .exact⟨_, rfl, .inr rfl⟩
 refine x_itemN ed ?_;rcases hd with⟨x, q, rfl, hx, eq, qo⟩|rfl
 .walk_at"xs";rw[decide_eq_false hx];refine x_iteT ?_;walk_at"xs";rw[<- eq];exact k q fd qo (hf.mono (by omega))
 .walk_at"xs";rw[decide_eq_true rfl];refine x_iteF ?_;walk_at"xs";refine⟨h, rfl, ho, ?_⟩;walk_at"xx";walk_at"xn";have hsm:(M3.allR h.rs).length ≤ 2401 :=allR_small (by rw[h.rsl];exact n4) ho.r6;refine x_loop0 (fun i m => ∃a fd' ps, m=MSt.mk [a, some (.obj 0), some (.imm (.tuple [.tuple [.int h.a, .int h.b], .tuple (h.ss.map Srv.d), .bool h.mv]))] [fd', natD ps] 2 /\ FeedD (c+1+i) fd' /\ ps.length=i /\ ∀p ∈ ps, p<h.ss.length) ⟨none, fd, [], rfl, hf, rfl, fun _ h => by cases h⟩ ?_ ?_
  .rintro i d m e n ⟨a, fd', ps, rfl, hf', hpl, hps⟩;obtain⟨l, el, rfl, hi⟩ :=gmap e;walk_at"xs";refine⟨fd', _, _, rfl, hf', by omega, by rw[List.length_map];omega, by rw[List.length_map];omega, fun p fd2 hp0 hp1 hf2 => ?_⟩;rw[List.length_map]at hp1;walk_at"xx";obtain⟨pn, rfl⟩ :=Int.eq_ofNat_of_zero_le hp0;refine⟨_, rfl, by rw[sizeLine_eq, natD_length];omega, _, fd2, ps ++ [pn], by rw[natD_app];rfl, hf2, by simp;omega, fun p hp => ?_⟩;obtain z|z :=List.mem_append.mp hp
   .exact hps p z
   .simp at z;subst z;omega
  .rintro m n ⟨a, fd', ps, rfl, hf', hpl, hps⟩;rw[List.length_map]at hf' hpl;walk_at"xs";exact k (.told ps) fd' ⟨hpl, hps⟩ (hf'.mono (by omega))
theorem ok_law_move(T:Bl mg)(D:DefM K mg "_law_move" s_law_move ["_law_feed_here","_law_hall_here","_law_way"])(G_law_draw:FnM P w K mg base "_law_draw" 1 2 spDraw)(G_law_shuffled:FnM P w K mg base "_law_shuffled" 2 2 spShufP):FnM P w K mg base "_law_move" 3 3 spMove :=by
 refine mk_fn' D sc_law_move rfl (nN :=6) rfl (by decide) ?ar fun cdv A outer s H E f hr => ⟨_, (mz' (ms_set' (i :=3) sc_law_move.nd rfl (Or.inl rfl) (me_callB' call_lenM (by rfl) T.len bt_len (mc' (me_ix' (mv' 1) mh') mn')))
   (mz' (ms_set' (i :=4) sc_law_move.nd rfl (Or.inl rfl) (me_ix' (me_lst' (mc' (me_imm' (me_lst' (mc' me_str' (mc' me_str' (mc' me_str' (mc' me_str' mn')))))) (mc' (me_imm' (me_lst' (mc' me_str' (mc' me_str' (mc' me_str' (mc' me_str' mn')))))) (mc' (me_imm' (me_lst' (mc' me_str' (mc' me_str' mn')))) mn')))) (me_bin' op_modM (mv' 2) mh')))
   (mz' (ms_set' (i :=5) sc_law_move.nd rfl (Or.inl rfl) (me_ix' (mv' 4) (mf' G_law_draw (hr.mono (by decide)) (mc' (mv' 0) (mc' (me_callB' call_lenM (by rfl) T.len bt_len (mc' (mv' 4) mn')) mn')))))
   (mz' (ms_if' (mt_cmp' (op_eqM hr.units) (mv' 5) me_str' (nomark _)) (mss_one' (ms_ret' (me_tup' (mc' me_str' (mc' (me_callTy' call_tupleM (by rfl) T.tuple bt_tuple (mc' (mf' G_law_shuffled (hr.mono (by decide)) (mc' (mv' 0) (mc' (me_imm' (me_listR' T.list T.range (mc' (mv' 3) mn'))) mn'))) mn')) mn'))))) mss_nil')
   (mss_one' (ms_ret' (me_if' (mt_cmp' (op_eqM hr.units) (mv' 5) me_str' (nomark _)) (me_tup' (mc' me_str' (mc' (mf' G_law_draw (hr.mono (by decide)) (mc' (mv' 0) (mc' (mv' 3) mn'))) mn'))) (me_tup' (mc' me_str' mn'))))))))), ?_⟩
 case ar => rintro as Kc ⟨fd, c, h, way, rfl, _⟩;rfl
 rintro as Kc hl ⟨fd, c, h, way, rfl, ho, hf, hc, hw, k⟩;have n1 :=ho.n1;have n4 :=ho.n4;refine x_start (MSt.mk [some (.obj 0), some (.imm (.tuple [.tuple [.int h.a, .int h.b], .tuple (h.ss.map Srv.d), .bool h.mv])), some (.imm (.int (way:Int))), none, none, none] [fd] 1) rfl ?_;walk_at"xs";obtain⟨kd, ek, hk1, hk4, hkd⟩:∃kd:List PyData, atI [PyData.list [.str "come", .str "come", .str "come", .str "done"], .list [.str "done", .str "done", .str "come", .str "still"], .list [.str "come", .str "done"]] ((way:Int)%3)=some (.list kd) /\ 1 ≤ kd.length /\ kd.length ≤ 4 /\ ∀d ∈ kd, d = .str "come" \/ d = .str "done" \/ d = .str "still" :=by
  rcases (show(way:Int)%3=0 \/ (way:Int)%3=1 \/ (way:Int)%3=2 by omega)with z|z|z<;>rw[z]
  .exact⟨_, rfl, by decide, by decide, by simp⟩
  .exact⟨_, rfl, by decide, by decide, by simp⟩
  .exact⟨_, rfl, by decide, by decide, by simp⟩
 refine x_itemN ek ?_;refine x_bindI ?_;walk_at"xx";refine⟨fd, _, c, rfl, hf, by omega, by omega, by omega, fun w fd hw0 hw1 hf => ?_⟩;walk_at"xn";obtain⟨d, ed, ed2⟩ :=atI_lt (xs :=kd) hw0 hw1;refine x_itemL ed2 ?_;walk_at"xs";walk_at"xn";rcases hkd d (List.mem_of_getElem? ed)with rfl|rfl|rfl
 .walk_at"xs";refine x_ite (fun _ => ?_) (fun z => (z rfl).elim);walk_at"xs";refine⟨⟨by rw[List.length_map];omega, by rw[List.length_map];omega⟩, ?_⟩;walk_at"xx";refine⟨fd, _, _, rfl, hf, by omega, by rw[rangeD_length, List.length_map];omega, fun r fd' hf' hrl' hrm _ => ?_⟩;rw[rangeD_length, List.length_map, Int.toNat_natCast]at hf' hrl';rw[List.length_map, Int.toNat_natCast]at hrm;obtain⟨ks, rfl, hks⟩ :=nats_of hrm;rw[natD_length]at hrl';have hO:Ord h.ss.length ks :=⟨fun z => by rw[z]at hrl';simp at hrl';omega, hks, by omega⟩;walk_at"xx";exact k (.come ks) _ ⟨hO, fun o z => by cases z;exact hrl'⟩ (hf'.mono (by omega))
 .walk_at"xs";refine x_ite (fun z => absurd z (by decide +kernel)) (fun _ => ?_);walk_at"xs";refine x_ifE ?_;walk_at"xs";refine x_ite (fun _ => ?_) (fun z => (z rfl).elim);walk_at"xs";refine⟨fd, _, _, rfl, hf, by omega, by rw[List.length_map];omega, by rw[List.length_map];omega, fun z fd hz0 hz1 hf => ?_⟩;rw[List.length_map]at hz1;walk_at"xx";have :=k (.done z.toNat) fd ⟨by show z.toNat<h.ss.length;omega, fun o z => by cases z⟩ (hf.mono (by omega));rw[show(Mv.done z.toNat).d = .tuple [.str "done", .int z]from by show PyData.tuple [.str "done", .int (z.toNat:Int)]=_;rw[Int.toNat_of_nonneg hz0]]at this;exact this
 .walk_at"xs";refine x_ite (fun z => absurd z (by decide +kernel)) (fun _ => ?_);walk_at"xs";refine x_ifE ?_;walk_at"xs";refine x_ite (fun z => absurd z (by decide +kernel)) (fun _ => ?_);walk_at"xs";exact k .still fd ⟨trivial, fun o z => by cases z⟩ (hf.mono (by omega))
theorem ok_law_run(T:Bl mg)(D:DefM K mg "_law_run" s_law_run ["_law_feed_here","_law_hall_here","_law_many"])(G_law_draw:FnM P w K mg base "_law_draw" 1 2 spDraw)(G_law_move:FnM P w K mg base "_law_move" 3 3 spMove):FnM P w K mg base "_law_run" 4 3 spRun :=by
 refine mk_fn' D sc_law_run rfl (nN :=4) rfl (by decide) ?ar fun cdv A outer s H E f hr => ⟨_, (mz' (ms_set' (i :=3) sc_law_run.nd rfl (Or.inr rfl) (mf' G_law_draw (hr.mono (by decide)) (mc' (mv' 0) (mc' mh' mn'))))
   (mss_one' (ms_ret' (me_callTy' call_tupleM (by rfl) T.tuple bt_tuple (mc' (me_comp1' (own :=["_law_k"]) (fr :=["_law_feed_here","_law_hall_here","_law_way"]) (ps :=[0, 1, 3]) (sc :=(defScope s_law_run)) (by exact⟨rfl, by decide +kernel, by decide +kernel, by decide +kernel, by decide +kernel⟩) (mi_range1' (by rfl) T.range (mc' (mv' 2) mn')) (fun _ _ _ _ _ => (mg_name' (i :=0) (show List.Nodup ((["_law_k"]:List Str) ++ (["_law_feed_here","_law_hall_here","_law_way"]:List Str))from by decide +kernel) rfl (Or.inl rfl))) (fun _ _ _ _ _ => mts_nil') (fun _ _ _ _ _ => (mf' G_law_move (hr.mono (by decide)) (mc' (mv' 1) (mc' (mv' 2) (mc' (me_bin' op_addM (mv' 3) (me_bin' op_mulSM (me_bin' op_fdivM (mv' 0) mh') (mf' G_law_draw (hr.mono (by decide)) (mc' (mv' 1) (mc' mh' mn'))))) mn')))))) mn'))))), ?_⟩
 case ar => rintro as Kc ⟨fd, c, h, many, rfl, _⟩;rfl
 rintro as Kc hl ⟨fd, c, h, many, rfl, ho, hf, hc, hm, k⟩;refine x_start (MSt.mk [some (.obj 0), some (.imm h.d), some (.imm (.int (many:Int))), none] [fd] 1) rfl ?_;walk_at"xs";refine⟨fd, _, c, rfl, hf, by omega, by decide, by decide, fun way fd hw0 hw1 hf => ?_⟩;walk_at"xx";walk_at"xn";refine⟨by omega, by omega, ?_⟩;refine x_loop0 (fun i m => ∃(a:Option L2.R) (fd':List PyData) (Q:List Mv), m=MSt.mk [a, some (.obj 0), some (.imm h.d), some (.imm (.int way))] [fd', Q.map Mv.d] 2 /\ FeedD (c+1+6*i) fd' /\ Q.length=i /\ ∀mv ∈ Q, mv.Ok2 h) ⟨none, fd, [], rfl, hf, rfl, fun _ h => by cases h⟩ ?_ ?_
 .rintro i d m e n ⟨a, fd, Q, rfl, hf, hQ, hQ2⟩;obtain⟨hi, rfl⟩ :=get_range e;walk_at"xs";refine⟨fd, _, _, rfl, hf, by omega, by decide, by decide, fun z fd hz0 hz1 hf => ?_⟩;walk_at"xx";obtain⟨wn, ew, hwn⟩:∃wn:Nat, way+(0+(i:Int))/20*z=(wn:Int) /\ wn<1000 :=by
   have h20:0 ≤ (0+(i:Int))/20 /\ (0+(i:Int))/20 ≤ 3 :=by omega
   rcases (show z=0 \/ z=1 by omega)with rfl|rfl
   .exact⟨way.toNat, by rw[Int.mul_zero];omega, by omega⟩
   .exact⟨(way+(0+(i:Int))/20).toNat, by rw[Int.mul_one];omega, by omega⟩
  rw[ew];refine⟨fd, _, h, wn, rfl, ho, hf, by omega, hwn, fun mv fd hmv hf => ?_⟩;walk_at"xx";refine⟨_, rfl, by rw[sizeLine_eq, List.length_map];omega, some (.imm (.int (0+(i:Int)))), fd, Q ++ [mv], ?_, hf.mono (by omega), by rw[List.length_append, hQ];rfl, fun x hx => ?_⟩
  .rw[List.map_append];rfl
  .rcases List.mem_append.mp hx with z|z
   .exact hQ2 x z
   .rw[List.mem_singleton.mp z];exact hmv
 rintro m n ⟨a, fd, Q, rfl, hf, hQ, hQ2⟩;rw[rangeD_length, Int.toNat_natCast]at hQ hf;walk_at"xx";exact k Q _ hQ hQ2 (hf.mono (by omega))
theorem ok_law_turned_rule(T:Bl mg)(D:DefM K mg "_law_turned_rule" s_law_turned_rule ["_law_hall_here","_law_turned","_law_order","_law_rule_here"])(G_law_all:FnM P w K mg base "_law_all" 1 1 spAll):FnM P w K mg base "_law_turned_rule" 2 4 spTurnR :=by
 refine mk_fn' D sc_law_turned_rule rfl (nN :=9) rfl (by decide) ?ar fun cdv A outer s H E f hr => ⟨_, (mz' (ms_if' (mt_cmp' (op_neM hr.units) (me_ix' (mv' 3) mh') me_str' (nomark _)) (mss_one' (ms_ret' (mv' 3))) mss_nil')
   (mz' (ms_set' (i :=4) sc_law_turned_rule.nd rfl (Or.inl rfl) (me_dictZ' hr.units T.dict T.zip (mc' (me_imm' (mf' G_law_all (hr.mono (by decide)) (mc' (mv' 0) mn'))) (mc' (me_ix' (mv' 3) mh') mn'))))
   (mz' (ms_set' (i :=5) sc_law_turned_rule.nd rfl (Or.inl rfl) (me_lst' mn'))
   (mz' (ms_for' (mi_seq' (me_imm' (mf' G_law_all (hr.mono (by decide)) (mc' (mv' 1) mn')))) (mg_name' (i :=6) sc_law_turned_rule.nd rfl (Or.inl rfl)) (mz' (ms_setc1' (i :=7) (own :=["_law_k"]) (fr :=[]) (ps :=[]) (sc :=(defScope s_law_turned_rule)) (by exact⟨rfl, by decide +kernel, by decide +kernel, by decide +kernel, by decide +kernel⟩) sc_law_turned_rule.nd rfl rfl (mi_seq' (mv' 2)) (fun _ _ _ _ _ => (mg_name' (i :=0) (show List.Nodup ((["_law_k"]:List Str) ++ ([]:List Str))from by decide +kernel) rfl (Or.inl rfl))) (fun _ _ _ _ _ => mts_nil') (fun _ _ _ _ _ => mh'))
   (mz' (ms_for' (mi_range1' (by rfl) T.range (mc' (me_callB' call_lenM (by rfl) T.len bt_len (mc' (mv' 2) mn')) mn')) (mg_name' (i :=8) sc_law_turned_rule.nd rfl (Or.inl rfl)) (mss_one' (ms_setI' (me_ix' (mv' 6) (mv' 8)) (mv' 7) (me_ix' (mv' 2) (mv' 8)))) PassesOwn.never)
   (mss_one' (ms_expr' (me_ml' PySem.F.slot_list_append PySem.F.type_list_append mt_appendM (mv' 5) (mc' (me_tm' PySem.F.slot_tuple_index PySem.F.type_tuple_index (mt_indexTM hr.units) (mv' 2) (mc' (me_dixD' hr.units (mv' 4) (me_callTy' call_tupleM (by rfl) T.tuple bt_tuple (mc' (mv' 7) mn'))) mn')) mn')))))) PassesOwn.never)
   (mss_one' (ms_ret' (me_tup' (mc' me_str' (mc' (me_callTy' call_tupleM (by rfl) T.tuple bt_tuple (mc' (mv' 5) mn')) mn'))))))))), ?_⟩
 case ar => rintro as Kc ⟨h, o, r, rfl, _⟩;rfl
 rintro as Kc hl ⟨h, o, r, rfl, ho, hr, P, k⟩;have n4 :=ho.n4;have lo :=P.ln;have hoT :=hT_ok ho P;refine x_start (MSt.mk [some (.imm h.d), some (.imm (hT h o).d), some (.imm (.tuple (natD o))), some (.imm r.d), none, none, none, none, none] [] 0) rfl ?_
 cases r with
 | told ps =>
  have hpl :=hr.1;walk_at"xs";refine x_itemT (ds :=[.str "told", .tuple (natD ps)]) (atI_nat (j :=0) rfl) ?_;walk_at"xs";rw[decide_eq_true (rfl:("told" : Str) = "told")];refine x_iteF ?_;walk_at"xs";refine x_dictZ ?_;walk_at"xs";refine⟨h, rfl, ho, ?_⟩;walk_at"xx";refine x_itemT (ds :=[.str "told", .tuple (natD ps)]) (atI_nat (j :=1) rfl) ?_;walk_at"xs";have ne:(M3.allR h.rs).map lnD ≠ [] :=fun z => by
   have :=first_st ho .random;have q :=M7.place_at this.ln.fits;rw[List.map_eq_nil_iff.mp z]at q;cases q
  refine⟨false, (M3.allR h.rs).map lnD, true, natD ps, rfl, rfl, fun x hx => ?_, by rw[List.length_map, natD_length];exact hpl.symm, ne, ?_⟩
  .obtain⟨l, _, rfl⟩ :=List.mem_map.mp hx;exact ln_ky l
  refine x_bindI ?_;walk_at"xx";refine x_bindN ?_;walk_at"xx";refine⟨hT h o, rfl, hoT, ?_⟩;walk_at"xx";have hsm:(M3.allR (hT h o).rs).length ≤ 2401 :=allR_small (by rw[(hT h o).rsl];exact hoT.n4) hoT.r6;refine x_loop0 (fun i m => ∃a6 a8:Option L2.R, m=MSt.mk [some (.imm h.d), some (.imm (hT h o).d), some (.imm (.tuple (natD o))), some (.imm (.tuple [.str "told", .tuple (natD ps)])), some (.imm (.dict (putZ [] (((M3.allR h.rs).map lnD).zip (natD ps))))), some (.obj 0), a6, none, a8] [natD (((M3.allR (hT h o).rs).map fun l => idx o (ps.getD (M7.placeF 0 h.rs (bk h.ss.length o l)) 0)).take i)] 0 \/ ∃b, m=MSt.mk [some (.imm h.d), some (.imm (hT h o).d), some (.imm (.tuple (natD o))), some (.imm (.tuple [.str "told", .tuple (natD ps)])), some (.imm (.dict (putZ [] (((M3.allR h.rs).map lnD).zip (natD ps))))), some (.obj 0), a6, some (.obj 1), a8] [natD (((M3.allR (hT h o).rs).map fun l => idx o (ps.getD (M7.placeF 0 h.rs (bk h.ss.length o l)) 0)).take i), b] 0) ⟨none, none, .inl rfl⟩ ?_ ?_
  .rintro i d m e n ⟨a6, a8, hm⟩;obtain⟨l, el, rfl, hi⟩ :=gmap e;have hL:Lines (hT h o) l :=allR_linesH (List.mem_of_getElem? el);have hB :=bk_lines P hL;have pl :=M7.place_at hB.fits;have plt:M7.placeF 0 h.rs (bk h.ss.length o l)<ps.length :=by rw[hpl];exact(List.getElem?_eq_some_iff.mp pl).1
   have hps:ps[M7.placeF 0 h.rs (bk h.ss.length o l)]?=some (ps.getD (M7.placeF 0 h.rs (bk h.ss.length o l)) 0) :=by rw[List.getD_eq_getElem?_getD, List.getElem?_eq_getElem plt];rfl
   have hlt:ps.getD (M7.placeF 0 h.rs (bk h.ss.length o l)) 0<h.ss.length :=hr.2 _ (List.mem_of_getElem? hps);have elook :=lookZ (vs :=natD ps) all_inj pl (natD_get hps);have et:((M3.allR (hT h o).rs).map fun l => idx o (ps.getD (M7.placeF 0 h.rs (bk h.ss.length o l)) 0)).take (i+1)=((M3.allR (hT h o).rs).map fun l => idx o (ps.getD (M7.placeF 0 h.rs (bk h.ss.length o l)) 0)).take i ++ [idx o (ps.getD (M7.placeF 0 h.rs (bk h.ss.length o l)) 0)] :=by rw[List.take_add_one, List.getElem?_map, el];rfl
   have fl:(natD (((M3.allR (hT h o).rs).map fun l => idx o (ps.getD (M7.placeF 0 h.rs (bk h.ss.length o l)) 0)).take i)).length ≤ 2401 :=by rw[natD_length, List.length_take, List.length_map];omega
   rw[et, natD_app];generalize natD (((M3.allR (hT h o).rs).map fun l => idx o (ps.getD (M7.placeF 0 h.rs (bk h.ss.length o l)) 0)).take i)=fnd at *;generalize hq:ps.getD (M7.placeF 0 h.rs (bk h.ss.length o l)) 0=q at *;walk_at"xn";refine x_gM ?_;refine x_seq ?_;refine x_JS (fun m => ∃a8:Option L2.R, m=MSt.mk [some (.imm h.d), some (.imm (hT h o).d), some (.imm (.tuple (natD o))), some (.imm (.tuple [.str "told", .tuple (natD ps)])), some (.imm (.dict (putZ [] (((M3.allR h.rs).map lnD).zip (natD ps))))), some (.obj 0), some (.imm (lnD l)), some (.obj 1), a8] [fnd, natD (bkz h.ss.length o l 0)] 0) (fun N J => ?_) ?_
   .rcases hm with rfl|⟨b, rfl⟩
    .walk_at"xs";refine x_loop0 (fun j m => ∃kk:Option L2.R, m=MSt.mk [kk] [fnd, List.replicate j (.int 0)] 2) ⟨none, rfl⟩ ?_ ?_
     .rintro j d m ej nj ⟨kk, rfl⟩;have hj:j<o.length :=by have :=(List.getElem?_eq_some_iff.mp ej).1;rwa[natD_length]at this
      walk_at"xs";refine⟨_, rfl, by rw[sizeLine_eq, List.length_replicate];omega, some (.imm d), ?_⟩;rw[List.replicate_succ'];rfl
     .rintro m nj ⟨kk, rfl⟩;rw[natD_length, lo, <- rep_nat, <- bkz_zero h.ss.length o l];walk_at"xn";refine x_bindN ?_;walk_at"xn";exact J _ ⟨_, rfl⟩
    .walk_at"xs";refine x_loop0 (fun j m => ∃kk:Option L2.R, m=MSt.mk [kk] [fnd, b, List.replicate j (.int 0)] 3) ⟨none, rfl⟩ ?_ ?_
     .rintro j d m ej nj ⟨kk, rfl⟩;have hj:j<o.length :=by have :=(List.getElem?_eq_some_iff.mp ej).1;rwa[natD_length]at this
      walk_at"xs";refine⟨_, rfl, by rw[sizeLine_eq, List.length_replicate];omega, some (.imm d), ?_⟩;rw[List.replicate_succ'];rfl
     .rintro m nj ⟨kk, rfl⟩;rw[natD_length, lo, <- rep_nat, <- bkz_zero h.ss.length o l];walk_at"xn";refine x_bindNRen [0, 2] (MSt.mk [some (.imm h.d), some (.imm (hT h o).d), some (.imm (.tuple (natD o))), some (.imm (.tuple [.str "told", .tuple (natD ps)])), some (.imm (.dict (putZ [] (((M3.allR h.rs).map lnD).zip (natD ps))))), some (.obj 0), some (.imm (lnD l)), some (.obj 1), none] [fnd, natD (bkz h.ss.length o l 0)] 0) (ren_of rfl rfl rfl rfl rfl rfl ⟨rfl, rfl, rfl, rfl, rfl, ⟨0, rfl, rfl⟩, rfl, ⟨2, rfl, rfl⟩, trivial, trivial⟩) (J _ ⟨_, rfl⟩)
   rintro _ ⟨a8, rfl⟩;walk_at"xx";rw[natD_length, lo];refine⟨by omega, by omega, ?_⟩;rw[Int.toNat_natCast];refine x_loop0 (fun z m => ∃a8:Option L2.R, m=MSt.mk [some (.imm h.d), some (.imm (hT h o).d), some (.imm (.tuple (natD o))), some (.imm (.tuple [.str "told", .tuple (natD ps)])), some (.imm (.dict (putZ [] (((M3.allR h.rs).map lnD).zip (natD ps))))), some (.obj 0), some (.imm (lnD l)), some (.obj 1), a8] [fnd, natD (bkz h.ss.length o l z)] 0) ⟨a8, rfl⟩ ?_ ?_
   .rintro z d m ez nz ⟨b8, rfl⟩;obtain⟨hz, rfl⟩ :=get_range ez;obtain⟨j, ej⟩:∃j, o[z]?=some j :=⟨_, List.getElem?_eq_getElem (by omega)⟩;have hj :=P.lt j (List.mem_of_getElem? ej);have hl1 :=hL.1;rw[hT_len P]at hl1;have ey:l[z]?=some (l.getD z 0) :=by rw[List.getD_eq_getElem?_getD, List.getElem?_eq_getElem (by omega)];rfl
    rw[show(0:Int)+(z:Int)=((z:Nat):Int) by omega];walk_at"xs";refine x_itemT (ds :=natD l) (atI_nat (natD_get ey)) ?_;walk_at"xs";refine x_itemT (atI_nat (natD_get ej)) ?_;walk_at"xs";refine x_put rfl (ixN_nat (k :=j) (by rw[natD_length];unfold bkz;rw[List.length_map, List.length_range];exact hj)) ?_;rw[natD_set, bkz_succ P ej];exact⟨_, rfl⟩
   .rintro m nz ⟨b8, rfl⟩;rw[rangeD_length, bkz_all P];walk_at"xs";refine⟨_, _, rfl, by unfold oneK;rw[zip_ky, show kyD (.tuple (natD (bk h.ss.length o l)))=true from ln_ky _, Bool.and_true, Bool.or_true], elook, ?_⟩;walk_at"xs";refine x_indexT (j :=idx o q) (k' :=0) (shp_int _) (natD_shp o) (by decide) (natD_get (P.at hlt).1) (by rw[eqv_int];exact decide_eq_true rfl) (fun i y hi hy => ?_) ?_
    .obtain⟨x, ex, rfl, _⟩ :=gmap hy;rw[eqv_int];exact decide_eq_false ((idx_spec (P.mem hlt)).2 i x hi ex)
    walk_at"xs";refine⟨_, rfl, by rw[sizeLine_eq];omega, some (.imm (lnD l)), b8, .inr ⟨natD (bk h.ss.length o l), ?_⟩⟩;rfl
  .rintro m n ⟨a6, a8, hm⟩;rw[List.length_map, List.take_of_length_le (by rw[List.length_map];exact Nat.le_refl _)]at hm;rcases hm with rfl|⟨b, rfl⟩
   .walk_at"xs";exact k
   .walk_at"xs";exact k
 |random =>
  walk_at"xs";refine x_itemT (ds :=[.str "random"]) (atI_nat (j :=0) rfl) ?_;walk_at"xs";rw[decide_eq_false (show ¬(("random" : Str) = "told") by decide +kernel)];refine x_iteT ?_;walk_at"xs";exact k
 |turns =>
  walk_at"xs";refine x_itemT (ds :=[.str "turns"]) (atI_nat (j :=0) rfl) ?_;walk_at"xs";rw[decide_eq_false (show ¬(("turns" : Str) = "told") by decide +kernel)];refine x_iteT ?_;walk_at"xs";exact k
 |two =>
  walk_at"xs";refine x_itemT (ds :=[.str "two"]) (atI_nat (j :=0) rfl) ?_;walk_at"xs";rw[decide_eq_false (show ¬(("two" : Str) = "told") by decide +kernel)];refine x_iteT ?_;walk_at"xs";exact k
 |least =>
  walk_at"xs";refine x_itemT (ds :=[.str "least"]) (atI_nat (j :=0) rfl) ?_;walk_at"xs";rw[decide_eq_false (show ¬(("least" : Str) = "told") by decide +kernel)];refine x_iteT ?_;walk_at"xs";exact k
 |quick =>
  walk_at"xs";refine x_itemT (ds :=[.str "quick"]) (atI_nat (j :=0) rfl) ?_;walk_at"xs";rw[decide_eq_false (show ¬(("quick" : Str) = "told") by decide +kernel)];refine x_iteT ?_;walk_at"xs";exact k
theorem ok_law_turned_move(T:Bl mg)(D:DefM K mg "_law_turned_move" s_law_turned_move ["_law_order","_law_move_here"]):FnM P w K mg base "_law_turned_move" 1 2 spTurnM :=by
 refine mk_fn' D sc_law_turned_move rfl (nN :=2) rfl (by decide) ?ar fun cdv A outer s H E f hr => ⟨_, (mz' (ms_if' (mt_cmp' (op_eqM hr.units) (me_ix' (mv' 1) mh') me_str' (nomark _)) (mss_one' (ms_ret' (me_tup' (mc' me_str' (mc' (me_callTy' call_tupleM (by rfl) T.tuple bt_tuple (mc' (me_comp1' (own :=["_law_k"]) (fr :=["_law_order"]) (ps :=[0]) (sc :=(defScope s_law_turned_move)) (by exact⟨rfl, by decide +kernel, by decide +kernel, by decide +kernel, by decide +kernel⟩) (mi_seq' (me_ix' (mv' 1) mh')) (fun _ _ _ _ _ => (mg_name' (i :=0) (show List.Nodup ((["_law_k"]:List Str) ++ (["_law_order"]:List Str))from by decide +kernel) rfl (Or.inl rfl))) (fun _ _ _ _ _ => mts_nil') (fun _ _ _ _ _ => (me_tm' PySem.F.slot_tuple_index PySem.F.type_tuple_index (mt_indexTM hr.units) (mv' 1) (mc' (mv' 0) mn')))) mn')) mn'))))) mss_nil')
   (mss_one' (ms_ret' (me_if' (mt_cmp' (op_eqM hr.units) (me_ix' (mv' 1) mh') me_str' (nomark _)) (me_tup' (mc' me_str' (mc' (me_tm' PySem.F.slot_tuple_index PySem.F.type_tuple_index (mt_indexTM hr.units) (mv' 0) (mc' (me_ix' (mv' 1) mh') mn')) mn'))) (mv' 1))))), ?_⟩
 case ar => rintro as Kc ⟨h, o, mv, rfl, _⟩;rfl
 rintro as Kc hl ⟨h, o, mv, rfl, ho, P, hv, k⟩;have n4 :=ho.n4;have no:∀k, k<h.ss.length -> ∀(i:Nat) y, i<idx o k -> (natD o)[i]?=some y -> PyData.eqv y (.int (k:Int))=false :=fun k hk i y hi hy => by
  obtain⟨x, ex, rfl, _⟩ :=gmap hy;rw[eqv_int];exact decide_eq_false ((idx_spec (P.mem hk)).2 i x hi ex)
 cases mv with
 |come p =>
  refine x_start (MSt.mk [some (.imm (.tuple (natD o))), some (.imm (.tuple [.str "come", .tuple (natD p)]))] [] 0) rfl ?_;walk_at"xs";refine x_ite (fun _ => ?_) (fun z => (z rfl).elim);walk_at"xs";have l4 :=hv.le;refine x_loop0 (fun i m => ∃kk, m=MSt.mk [kk, some (.imm (.tuple (natD o)))] [natD ((p.map (idx o)).take i)] 1) ⟨none, rfl⟩ ?_ ?_
  .rintro i d m e n ⟨kk, rfl⟩;obtain⟨j, ej, rfl, hi⟩ :=gmap e;have hj :=hv.lt j (List.mem_of_getElem? ej);walk_at"xs";refine x_indexT (j :=idx o j) (k' :=0) (shp_int _) (natD_shp o) (by decide) (natD_get (P.at hj).1) (by rw[eqv_int];exact decide_eq_true rfl) (no j hj) ?_;walk_at"xs";refine⟨_, rfl, by rw[sizeLine_eq, natD_length, List.length_take, List.length_map];omega, some (.imm (.int (j:Int))), ?_⟩;rw[List.take_add_one, List.getElem?_map, ej, natD_app];rfl
  .rintro m n ⟨kk, rfl⟩;rw[natD_length, List.take_of_length_le (by rw[List.length_map];exact Nat.le_refl _)];walk_at"xs";exact k
 |done j =>
  refine x_start (MSt.mk [some (.imm (.tuple (natD o))), some (.imm (.tuple [.str "done", .int (j:Int)]))] [] 0) rfl ?_;walk_at"xs";refine x_ite (fun z => absurd z (by decide +kernel)) (fun _ => ?_);walk_at"xs";refine x_ifE ?_;walk_at"xs";refine x_ite (fun _ => ?_) (fun z => (z rfl).elim);walk_at"xs";refine x_indexT (j :=idx o j) (k' :=0) (shp_int _) (natD_shp o) (by decide) (natD_get (P.at hv).1) (by rw[eqv_int];exact decide_eq_true rfl) (no j hv) ?_;walk_at"xs";exact k
 |still =>
  refine x_start (MSt.mk [some (.imm (.tuple (natD o))), some (.imm (.tuple [.str "still"]))] [] 0) rfl ?_;walk_at"xs";refine x_ite (fun z => absurd z (by decide +kernel)) (fun _ => ?_);walk_at"xs";refine x_ifE ?_;walk_at"xs";refine x_ite (fun z => absurd z (by decide +kernel)) (fun _ => ?_);walk_at"xs";exact k
theorem ok_law_right(T:Bl mg)(D:DefM K mg "_law_right" s_law_right ["_law_feed_here","_law_hall_here","_law_rule_here","_law_run_here"])(G_law_shuffled:FnM P w K mg base "_law_shuffled" 2 2 spShufP)(Ghall_turned:FnM P w K mg base "hall_turned" 1 2 spTurnH)(G_law_turned_rule:FnM P w K mg base "_law_turned_rule" 2 4 spTurnR)(G_law_turned_move:FnM P w K mg base "_law_turned_move" 1 2 spTurnM)(Gwalked:FnM P w K mg base "walked" 6 3 spWalked)(Gcounted:FnM P w K mg base "counted" 6 3 spCounted)(Gstays:FnM P w K mg base "stays" 7 3 spStays):FnM P w K mg base "_law_right" 8 4 spRightT :=by
 refine mk_fn' D sc_law_right rfl (nN :=10) rfl (by decide) ?ar fun cdv A outer s H E f hr => ⟨_, (mz' (ms_set' (i :=4) sc_law_right.nd rfl (Or.inr rfl) (me_callTy' call_tupleM (by rfl) T.tuple bt_tuple (mc' (mf' G_law_shuffled (hr.mono (by decide)) (mc' (mv' 0) (mc' (me_imm' (me_listR' T.list T.range (mc' (me_callB' call_lenM (by rfl) T.len bt_len (mc' (me_ix' (mv' 1) mh') mn')) mn'))) mn'))) mn')))
   (mz' (ms_set' (i :=5) sc_law_right.nd rfl (Or.inl rfl) (mf' Ghall_turned (hr.mono (by decide)) (mc' (mv' 1) (mc' (mv' 4) mn'))))
   (mz' (ms_set' (i :=6) sc_law_right.nd rfl (Or.inl rfl) (me_callTy' call_tupleM (by rfl) T.tuple bt_tuple (mc' (me_comp1' (own :=["_law_k"]) (fr :=["_law_order"]) (ps :=[4]) (sc :=(defScope s_law_right)) (by exact⟨rfl, by decide +kernel, by decide +kernel, by decide +kernel, by decide +kernel⟩) (mi_range1' (by rfl) T.range (mc' (me_callB' call_lenM (by rfl) T.len bt_len (mc' (mv' 4) mn')) mn')) (fun _ _ _ _ _ => (mg_name' (i :=0) (show List.Nodup ((["_law_k"]:List Str) ++ (["_law_order"]:List Str))from by decide +kernel) rfl (Or.inl rfl))) (fun _ _ _ _ _ => mts_nil') (fun _ _ _ _ _ => (me_tm' PySem.F.slot_tuple_index PySem.F.type_tuple_index (mt_indexTM hr.units) (mv' 1) (mc' (mv' 0) mn')))) mn')))
   (mz' (ms_if' (mt_cmp' (op_neM hr.units) (mf' Ghall_turned (hr.mono (by decide)) (mc' (mv' 5) (mc' (mv' 6) mn'))) (mv' 1) (nomark _)) (mss_one' (ms_ret' me_bl')) mss_nil')
   (mz' (ms_set' (i :=7) sc_law_right.nd rfl (Or.inl rfl) (mf' G_law_turned_rule (hr.mono (by decide)) (mc' (mv' 1) (mc' (mv' 5) (mc' (mv' 4) (mc' (mv' 2) mn'))))))
   (mz' (ms_set' (i :=8) sc_law_right.nd rfl (Or.inl rfl) (me_callTy' call_tupleM (by rfl) T.tuple bt_tuple (mc' (me_comp1' (own :=["_law_move_here"]) (fr :=["_law_order"]) (ps :=[4]) (sc :=(defScope s_law_right)) (by exact⟨rfl, by decide +kernel, by decide +kernel, by decide +kernel, by decide +kernel⟩) (mi_seq' (mv' 3)) (fun _ _ _ _ _ => (mg_name' (i :=0) (show List.Nodup ((["_law_move_here"]:List Str) ++ (["_law_order"]:List Str))from by decide +kernel) rfl (Or.inl rfl))) (fun _ _ _ _ _ => mts_nil') (fun _ _ _ _ _ => (mf' G_law_turned_move (hr.mono (by decide)) (mc' (mv' 1) (mc' (mv' 0) mn'))))) mn')))
   (mz' (ms_set' (i :=9) sc_law_right.nd rfl (Or.inl rfl) (me_callTy' call_tupleM (by rfl) T.tuple bt_tuple (mc' (me_comp1C' (own :=["_law_lines","_law_turn"]) (fr :=["_law_order"]) (ps :=[4]) (sc :=(defScope s_law_right)) (by exact⟨rfl, by decide +kernel, by decide +kernel, by decide +kernel⟩) (mi_seq' (mf' Gwalked (hr.mono (by decide)) (mc' (mv' 1) (mc' (mv' 2) (mc' (mv' 3) mn'))))) (fun _ _ _ _ _ => (mg_tup' (n :=2) (mgs_cons' (mg_name' (i :=0) (show List.Nodup ((["_law_lines","_law_turn"]:List Str) ++ (["_law_order"]:List Str))from by decide +kernel) rfl (Or.inr rfl)) (mgs_cons' (mg_name' (i :=1) (show List.Nodup ((["_law_lines","_law_turn"]:List Str) ++ (["_law_order"]:List Str))from by decide +kernel) rfl (Or.inl rfl)) mgs_nil')))) (fun _ _ _ _ _ => mts_nil') (fun _ _ _ _ _ => (me_tup' (mc' (me_callTy' call_tupleM (by rfl) T.tuple bt_tuple (mc' (me_comp1N' (own :=["_law_k"]) (fr :=["_law_lines"]) (ps :=[0]) rfl (by decide +kernel) (by decide +kernel) (by decide +kernel) (by decide +kernel) (by intro x hx;simp only[List.mem_cons, List.not_mem_nil, or_false]at hx;rcases hx with rfl<;>first|exact .inl rfl|exact .inr rfl) (mi_seq' (mv' 2)) (fun _ _ _ _ _ => (mg_name' (i :=0) (show List.Nodup ((["_law_k"]:List Str) ++ (["_law_lines"]:List Str))from by decide +kernel) rfl (Or.inl rfl))) (fun _ _ _ _ _ => mts_nil') (fun _ _ _ _ _ => (me_ix' (mv' 1) (mv' 0)))) mn')) (mc' (mv' 1) mn'))))) mn')))
   (mz' (ms_if' (mt_cmp' (op_neM hr.units) (mf' Gwalked (hr.mono (by decide)) (mc' (mv' 5) (mc' (mv' 7) (mc' (mv' 8) mn')))) (mv' 9) (nomark _)) (mss_one' (ms_ret' me_bl')) mss_nil')
   (mz' (ms_if' (mt_cmp' (op_neM hr.units) (mf' Gcounted (hr.mono (by decide)) (mc' (mv' 5) (mc' (mv' 7) (mc' (mv' 8) mn')))) (mf' Gcounted (hr.mono (by decide)) (mc' (mv' 1) (mc' (mv' 2) (mc' (mv' 3) mn')))) (nomark _)) (mss_one' (ms_ret' me_bl')) mss_nil')
   (mss_one' (ms_ret' (me_cmp' (op_eqM hr.units) (mf' Gstays (hr.mono (by decide)) (mc' (mv' 5) (mc' (mv' 7) (mc' (mv' 8) mn')))) (mf' Gstays (hr.mono (by decide)) (mc' (mv' 1) (mc' (mv' 2) (mc' (mv' 3) mn')))) (nomark _))))))))))))), ?_⟩
 case ar => rintro as Kc ⟨fd, c, h, r, R, rfl, _⟩;rfl
 rintro as Kc hl ⟨fd, c, h, r, R, rfl, ho, hmv, hr, O, hR, R60, hf, hc, k⟩;have n1 :=ho.n1;have n4 :=ho.n4;refine x_start (MSt.mk [some (.obj 0), some (.imm h.d), some (.imm r.d), some (.imm (.tuple (R.map Mv.d))), none, none, none, none, none, none] [fd] 1) rfl ?_;walk_at"xs";refine x_itemT (ds :=[.tuple [.int (h.a:Int), .int (h.b:Int)], .tuple (h.ss.map Srv.d), .bool h.mv]) (atI_nat (j :=1) rfl) ?_;walk_at"xs";refine⟨⟨by rw[List.length_map];omega, by rw[List.length_map];omega⟩, ?_⟩;walk_at"xx";refine⟨fd, _, _, rfl, hf, by omega, by rw[rangeD_length, List.length_map];omega, fun rr fd hf hrl hrm pm => ?_⟩;rw[List.length_map, Int.toNat_natCast]at hrm pm;rw[rangeD_length, List.length_map, Int.toNat_natCast]at hf;obtain⟨o, rfl, hks⟩ :=nats_of hrm;have P :=Pm.ofD pm;have lo :=P.ln;have PB :=bo_pm P;have hoT :=hT_ok ho P;have hrT :=rT_ok ho hr P;have okT:∀mv ∈ R.map (mvT o), mv.Ok (hT h o) :=fun mv hm => by
  obtain⟨m0, h0, rfl⟩ :=List.mem_map.mp hm;exact mvT_ok P (hR m0 h0)
 walk_at"xx";refine⟨h, o, rfl, ho, P, ?_⟩;walk_at"xx";rw[natD_length, lo];refine⟨by omega, by omega, ?_⟩;rw[Int.toNat_natCast];refine x_loop0 (fun i m => ∃a:Option L2.R, m=MSt.mk [a, some (.imm (.tuple (natD o)))] [fd, natD ((bo h.ss.length o).take i)] 2) ⟨none, rfl⟩ ?_ ?_
 .rintro i d m e n ⟨a, rfl⟩;obtain⟨hi, rfl⟩ :=get_range e;have eb:(bo h.ss.length o)[i]?=some (idx o i) :=by unfold bo;rw[List.getElem?_map, List.getElem?_range hi];rfl
  rw[show(0:Int)+(i:Int)=((i:Nat):Int) by omega];walk_at"xs";refine x_indexT (j :=idx o i) (k' :=0) (shp_int _) (natD_shp o) (by decide) (natD_get (P.at hi).1) (by rw[eqv_int];exact decide_eq_true rfl) (fun j y hj hy => ?_) ?_
  .obtain⟨x, ex, rfl, _⟩ :=gmap hy;rw[eqv_int];exact decide_eq_false ((idx_spec (P.mem hi)).2 j x hj ex)
  walk_at"xs";refine⟨_, rfl, by rw[sizeLine_eq, natD_length, List.length_take];omega, some (.imm (.int (i:Int))), ?_⟩;rw[List.take_add_one, eb, natD_app];rfl
 rintro m n ⟨a, rfl⟩;rw[rangeD_length, List.take_of_length_le (Nat.le_of_eq PB.ln)];walk_at"xx";refine⟨hT h o, bo h.ss.length o, rfl, hoT, by rw[hT_len P];exact PB, ?_⟩;rw[bo_back P];walk_at"xx";refine x_ne rfl rfl ((hall_shp _).ok (by decide)) ((hall_shp _).ok (by decide)) ?_;rw[shp_refl (hall_shp _)];walk_at"xs";refine x_iteF ?_;walk_at"xs";refine⟨h, o, r, rfl, ho, hr, P, ?_⟩;walk_at"xx";refine x_loop0 (fun i m => ∃a:Option L2.R, m=MSt.mk [a, some (.imm (.tuple (natD o)))] [fd, ((R.map (mvT o)).take i).map Mv.d] 2) ⟨none, rfl⟩ ?_ ?_
 .rintro i d m e n ⟨a, rfl⟩;obtain⟨mv, em, rfl, hi⟩ :=gmap e;walk_at"xs";refine⟨h, o, mv, rfl, ho, P, hR mv (List.mem_of_getElem? em), ?_⟩;walk_at"xx";refine⟨_, rfl, by rw[sizeLine_eq, List.length_map, List.length_take, List.length_map];omega, some (.imm mv.d), ?_⟩;rw[List.take_add_one, List.getElem?_map, em, List.map_append];rfl
 rintro m n ⟨a, rfl⟩;rw[List.length_map, List.take_of_length_le (by rw[List.length_map];exact Nat.le_refl _)];walk_at"xx";refine⟨h, r, R, rfl, ho, hr, hR, by omega, ?_⟩;walk_at"xx";have hSt :=stands_stT ho hr (p :=(zer h, 0)) hR (first_st ho r);have lS :=standsF_len h r (zer h, 0) R;have eS:standsF (hT h o) (rT h o r) (zer (hT h o), 0) (R.map (mvT o))=((standsF h r (zer h, 0) R).map fun q => (tn 0 o q.1, q.2)) :=by
  rw[zer_T P];exact stands_T ho hmv hr P O (p :=(zer h, 0)) hR (first_st ho r)
 have eC:countF (hT h o) (rT h o r) (zer (hT h o), 0) ⟨0, 0, 0, 0⟩ (R.map (mvT o))=countF h r (zer h, 0) ⟨0, 0, 0, 0⟩ R :=by
  rw[zer_T P];exact count_T ho hmv hr P O (p :=(zer h, 0)) hR (first_st ho r)
 have eF:staysF (hT h o) (rT h o r) (sc0 (hT h o)) [] (R.map (mvT o))=staysF h r (sc0 h) [] R :=by
  rw[sc0_T P];exact stays_T ho hmv hr P O hR (sc0_ok ho r)
 refine x_loop0 (fun i m => ∃a b:Option L2.R, m=MSt.mk [a, b, some (.imm (.tuple (natD o)))] [fd, (((standsF h r (zer h, 0) R).map fun q => (tn 0 o q.1, q.2)).take i).map fun p => stD p.1 p.2] 2) ⟨none, none, rfl⟩ ?_ ?_
 .rintro i d m e n ⟨a, b, rfl⟩;obtain⟨⟨l, t⟩, es, rfl, hi⟩ :=gmap e;have S :=hSt _ (List.mem_of_getElem? es);have ll:l.length=h.ss.length :=S.ln.1;have il:i<R.length+1 :=by rw[<- lS];exact(List.getElem?_eq_some_iff.mp es).1
  have et:((standsF h r (zer h, 0) R).map fun q => (tn 0 o q.1, q.2)).take (i+1)=((standsF h r (zer h, 0) R).map fun q => (tn 0 o q.1, q.2)).take i ++ [(tn 0 o l, t)] :=by rw[List.take_add_one, List.getElem?_map, es];rfl
  have fl:((((standsF h r (zer h, 0) R).map fun q => (tn 0 o q.1, q.2)).take i).map fun p => stD p.1 p.2).length ≤ 61 :=by rw[List.length_map, List.length_take, List.length_map];omega
  rw[et, List.map_append];generalize ((((standsF h r (zer h, 0) R).map fun q => (tn 0 o q.1, q.2)).take i).map fun p => stD p.1 p.2)=part at *;show gMTup 2 _ (.tuple [lnD l, .int (t:Int)]) _ _;walk_at"xs"
  .rfl
  walk_at"xs";refine x_loop0 (fun j m => ∃kk:Option L2.R, m=MSt.mk [kk, some (.imm (lnD l))] [fd, part, natD ((tn 0 o l).take j)] 3) ⟨none, rfl⟩ ?_ ?_
  .rintro j d m ej nj ⟨kk, rfl⟩;obtain⟨q, eq, rfl, hj⟩ :=gmap ej;have hq :=P.lt q (List.mem_of_getElem? eq);have el:l[q]?=some (l.getD q 0) :=by rw[List.getD_eq_getElem?_getD, List.getElem?_eq_getElem (by omega)];rfl
   walk_at"xs";refine x_itemT (ds :=natD l) (atI_nat (natD_get el)) ?_;walk_at"xs";refine⟨_, rfl, by rw[sizeLine_eq, natD_length, List.length_take];omega, some (.imm (.int (q:Int))), ?_⟩;rw[List.take_add_one, tn_get? eq, natD_app];rfl
  .rintro m nj ⟨kk, rfl⟩;rw[natD_length, lo, List.take_of_length_le (Nat.le_of_eq (tn_len P))];walk_at"xx";exact⟨_, rfl, by rw[sizeLine_eq];omega, some (.imm (lnD l)), some (.imm (.int (t:Int))), rfl⟩
 rintro m n ⟨a, b, rfl⟩;rw[List.length_map, List.take_of_length_le (by rw[List.length_map];exact Nat.le_refl _)];walk_at"xx";refine⟨hT h o, rT h o r, R.map (mvT o), rfl, hoT, hrT, okT, by rw[List.length_map];omega, ?_⟩;rw[eS];walk_at"xx";refine x_ne (d2 :=.tuple (((standsF h r (zer h, 0) R).map fun q => (tn 0 o q.1, q.2)).map fun p => stD p.1 p.2)) rfl rfl ((stands_shp _).ok (by decide)) ((stands_shp _).ok (by decide)) ?_;rw[shp_refl (stands_shp _)];walk_at"xs";refine x_iteF ?_;walk_at"xs";refine⟨hT h o, rT h o r, R.map (mvT o), rfl, hoT, hrT, okT, ?_⟩;rw[eC];walk_at"xx";refine⟨h, r, R, rfl, ho, hr, hR, ?_⟩;walk_at"xx";refine x_ne rfl rfl ((Cn.shp _).ok (by decide)) ((Cn.shp _).ok (by decide)) ?_;rw[shp_refl (Cn.shp _)];walk_at"xs";refine x_iteF ?_;walk_at"xs";refine⟨hT h o, rT h o r, R.map (mvT o), rfl, hoT, hrT, okT, by rw[List.length_map];omega, ?_⟩;rw[eF];walk_at"xx";refine⟨h, r, R, rfl, ho, hr, hR, by omega, ?_⟩;walk_at"xx";refine x_eq rfl rfl ((stays_shp _).ok (by decide)) ((stays_shp _).ok (by decide)) ?_;rw[shp_refl (stays_shp _)];walk_at"xs";exact k _ (hf.mono (by omega))
theorem oklaw(T:Bl mg){ff:Addr}{fd:FuncData}(F:Fun K "law" "law" slaw ff fd)(G_law_feed:FnM P w K mg base "_law_feed" 1 1 spFeed)(G_law_hall:FnM P w K mg base "_law_hall" 2 2 spHall)(G_law_rule:FnM P w K mg base "_law_rule" 2 2 spRule)(G_law_draw:FnM P w K mg base "_law_draw" 1 2 spDraw)(G_law_run:FnM P w K mg base "_law_run" 4 3 spRun)(G_law_right:FnM P w K mg base "_law_right" 8 4 spRightT):FnOk P w K mg base CX0 9 ff fd ["_law_script"] (spOf ⟨K, w⟩ 1 spLaw) :=by
 refine mk_fnE' F sclaw rfl (nN :=5) rfl (by decide) fun cdv A outer s H E f hr => ⟨_, (mz' (ms_set' (i :=1) sclaw.nd rfl (Or.inl rfl) (mf' G_law_feed (hr.mono (by decide)) (mc' (mv' 0) mn')))
   (mz' (ms_for' (mi_range1' (by rfl) T.range (mc' mh' mn')) (mg_name' (i :=2) sclaw.nd rfl (Or.inl rfl)) (mz' (ms_set' (i :=3) sclaw.nd rfl (Or.inl rfl) (mf' G_law_hall (hr.mono (by decide)) (mc' (mv' 1) (mc' mh' mn'))))
   (mz' (ms_set' (i :=3) sclaw.nd rfl (Or.inl rfl) (me_tup' (mc' (me_ix' (mv' 3) mh') (mc' (me_ix' (mv' 3) mh') (mc' me_bl' mn')))))
   (mz' (ms_set' (i :=4) sclaw.nd rfl (Or.inl rfl) (mf' G_law_rule (hr.mono (by decide)) (mc' (mv' 1) (mc' (mv' 3) mn'))))
   (mz' (ms_if' (EW.pt (mw_and' (mt_cmp' (op_eqM hr.units) (me_ix' (mv' 4) mh') me_str' (nomark _)) (mw_and1' (mt_cmp' op_gtM (me_callB' call_lenM (by rfl) T.len bt_len (mc' (me_ix' (mv' 3) mh') mn')) mh' (nomark _))))) (mss_one' (ms_set' (i :=4) sclaw.nd rfl (Or.inl rfl) (me_tup' (mc' me_str' mn')))) mss_nil')
   (mss_one' (ms_if' (mt_not' (mt_val' (mf' G_law_right (hr.mono (by decide)) (mc' (mv' 1) (mc' (mv' 3) (mc' (mv' 4) (mc' (mf' G_law_run (hr.mono (by decide)) (mc' (mv' 1) (mc' (mv' 3) (mc' (mf' G_law_draw (hr.mono (by decide)) (mc' (mv' 1) (mc' mh' mn'))) mn')))) mn'))))))) (mss_one' (ms_ret' me_bl')) mss_nil')))))) PassesOwn.never)
   (mss_one' (ms_ret' me_bl')))), ?_⟩
 rintro as Kc hl ⟨ns, rfl, hn, k⟩;refine x_start (MSt.mk [some (.imm (.list (ns.map .int))), none, none, none, none] [] 0) rfl ?_;walk_at"xs";refine⟨ns, rfl, hn, fun fd hf => ?_⟩;walk_at"xn";refine x_bindN ?_;walk_at"xx";refine⟨by decide, by decide, ?_⟩;refine x_loop0 (fun i m => ∃(a2 a3 a4:Option L2.R) (fd:List PyData), m=MSt.mk [some (.imm (.list (ns.map .int))), some (.obj 0), a2, a3, a4] [fd] 0 /\ FeedD (3000*i) fd) ⟨none, none, none, fd, rfl, hf⟩ ?_ ?_
 .rintro i d m e n ⟨a2, a3, a4, fd, rfl, hf⟩;obtain⟨hi, rfl⟩ :=get_range e;have hi4:i<4 :=hi;walk_at"xs";refine⟨fd, _, rfl, hf, by omega, fun h fd ho hf => ?_⟩;walk_at"xn";refine x_bindI ?_;walk_at"xx";refine x_itemT (ds :=[.tuple [.int (h.a:Int), .int (h.b:Int)], .tuple (h.ss.map Srv.d), .bool h.mv]) (atI_nat (j :=0) rfl) ?_;walk_at"xs";refine x_itemT (ds :=[.tuple [.int (h.a:Int), .int (h.b:Int)], .tuple (h.ss.map Srv.d), .bool h.mv]) (atI_nat (j :=1) rfl) ?_;walk_at"xs";have ho1 :=noMv_ok ho;refine⟨fd, _, noMv h, rfl, ho1, hf, by omega, fun r fd hr hf => ?_⟩;walk_at"xn";refine x_bindI ?_;walk_at"xn";refine x_seq ?_;refine x_JS (fun m => ∃(r:Rule) (fd:List PyData), m=MSt.mk [some (.imm (.list (ns.map .int))), some (.obj 0), some (.imm (.int (0+(i:Int)))), some (.imm (.tuple [.tuple [.int (h.a:Int), .int (h.b:Int)], .tuple (h.ss.map Srv.d), .bool false])), some (.imm r.d)] [fd] 0 /\ FeedD (3000*i+2430) fd /\ r.Ok (noMv h) /\ OneT (noMv h) r) (fun N J => ?_) ?_
  .cases r with
   |random =>
    walk_at"xs";refine x_itemT (ds :=[.str "random"]) (atI_nat (j :=0) rfl) ?_;walk_at"xs";refine x_ite (fun z => absurd z (by decide +kernel)) (fun _ => ?_);walk_at"xs";exact J _ ⟨.random, fd, rfl, hf.mono (by omega), hr, fun z => by cases z⟩
   |turns =>
    walk_at"xs";refine x_itemT (ds :=[.str "turns"]) (atI_nat (j :=0) rfl) ?_;walk_at"xs";refine x_ite (fun _ => ?_) (fun z => (z rfl).elim);walk_at"xs";rw[List.length_map];refine x_ite (fun z => ?_) (fun z => ?_)
    .walk_at"xs";exact J _ ⟨.two, fd, rfl, hf.mono (by omega), trivial, fun z => by cases z⟩
    .walk_at"xs";exact J _ ⟨.turns, fd, rfl, hf.mono (by omega), hr, fun _ => by have n1 :=ho.n1;show h.ss.length=1;omega⟩
   |two =>
    walk_at"xs";refine x_itemT (ds :=[.str "two"]) (atI_nat (j :=0) rfl) ?_;walk_at"xs";refine x_ite (fun z => absurd z (by decide +kernel)) (fun _ => ?_);walk_at"xs";exact J _ ⟨.two, fd, rfl, hf.mono (by omega), hr, fun z => by cases z⟩
   |least =>
    walk_at"xs";refine x_itemT (ds :=[.str "least"]) (atI_nat (j :=0) rfl) ?_;walk_at"xs";refine x_ite (fun z => absurd z (by decide +kernel)) (fun _ => ?_);walk_at"xs";exact J _ ⟨.least, fd, rfl, hf.mono (by omega), hr, fun z => by cases z⟩
   |quick =>
    walk_at"xs";refine x_itemT (ds :=[.str "quick"]) (atI_nat (j :=0) rfl) ?_;walk_at"xs";refine x_ite (fun z => absurd z (by decide +kernel)) (fun _ => ?_);walk_at"xs";exact J _ ⟨.quick, fd, rfl, hf.mono (by omega), hr, fun z => by cases z⟩
   |told ps =>
    walk_at"xs";refine x_itemT (ds :=[.str "told", .tuple (natD ps)]) (atI_nat (j :=0) rfl) ?_;walk_at"xs";refine x_ite (fun z => absurd z (by decide +kernel)) (fun _ => ?_);walk_at"xs";exact J _ ⟨.told ps, fd, rfl, hf.mono (by omega), hr, fun z => by cases z⟩
  clear hr hf;rintro _ ⟨r, fd, rfl, hf, hr, O⟩;walk_at"xx";refine⟨fd, _, _, rfl, hf, by omega, by decide, by decide, fun y fd hy0 hy1 hf => ?_⟩;obtain⟨y, rfl⟩ :=Int.eq_ofNat_of_zero_le hy0;walk_at"xx";refine⟨fd, _, noMv h, y, rfl, ho1, hf, by omega, by omega, fun R fd hRl hR hf => ?_⟩;walk_at"xx";refine⟨fd, _, noMv h, r, R, rfl, ho1, rfl, hr, O, fun mv hm => (hR mv hm).1, by omega, hf, by omega, fun fd hf => ?_⟩;walk_at"xx";exact⟨_, _, _, fd, rfl, hf.mono (by omega)⟩
 .rintro m n ⟨a2, a3, a4, fd, rfl, hf⟩;walk_at"xs";exact k
end
theorem ar_{us:List Value}(hl:us.length=n):us=(List.range n).map fun i => us.getD i .none :=List.ext_getElem (by rw[hl, List.length_map, List.length_range]) fun i h1 h2 => by
 rw[List.getElem_map, List.getElem_range, List.getD_eq_getElem?_getD, List.getElem?_eq_getElem h1];rfl
local macro_rules | `(tactic| walk_at "dm") => `(tactic| exact fun f fd F => F.binds fun _ _ _ _ _ _ us hl => by rw [ar_ hl]; rfl)
theorem all_mk{w:World}{K:PySem.W.Frag}{h:Heap}{mg:Str -> Option Value}{fa:Addr}(X:K.In h)(G:h.Ns mainGlobals mg)(hfa:mg "law" = some (.ref fa))(dis_less:DefK K "is_less" sis_less)(dplace_of_lines:DefK K "place_of_lines" splace_of_lines)(dfirst_shortest:DefK K "first_shortest" sfirst_shortest)(dwait_at:DefK K "wait_at" swait_at)(dfirst_quickest:DefK K "first_quickest" sfirst_quickest)(dsent_to:DefK K "sent_to" ssent_to)(dfirst_stand:DefK K "first_stand" sfirst_stand)(dwith_more:DefK K "with_more" swith_more)(dcome_to:DefK K "come_to" scome_to)(ddone_at:DefK K "done_at" sdone_at)(dnext_shift:DefK K "next_shift" snext_shift)(dsettled:DefK K "settled" ssettled)(dturn_behind:DefK K "turn_behind" sturn_behind)(dline_of:DefK K "line_of" sline_of)(dmoved_on:DefK K "moved_on" smoved_on)(dcounts_behind:DefK K "counts_behind" scounts_behind)(daskers_settled:DefK K "askers_settled" saskers_settled)(daskers_behind:DefK K "askers_behind" saskers_behind)(dfirst_scene:DefK K "first_scene" sfirst_scene)(dscene_behind:DefK K "scene_behind" sscene_behind)(dwalked:DefK K "walked" swalked)(dcounted:DefK K "counted" scounted)(dstays:DefK K "stays" sstays)(dhall_turned:DefK K "hall_turned" shall_turned)(d_law_feed:DefK K "_law_feed" s_law_feed)(d_law_draw:DefK K "_law_draw" s_law_draw)(d_law_shuffled:DefK K "_law_shuffled" s_law_shuffled)(d_law_cut:DefK K "_law_cut" s_law_cut)(d_law_hall:DefK K "_law_hall" s_law_hall)(d_law_all:DefK K "_law_all" s_law_all)(d_law_rule:DefK K "_law_rule" s_law_rule)(d_law_move:DefK K "_law_move" s_law_move)(d_law_run:DefK K "_law_run" s_law_run)(d_law_turned_rule:DefK K "_law_turned_rule" s_law_turned_rule)(d_law_turned_move:DefK K "_law_turned_move" s_law_turned_move)(d_law_right:DefK K "_law_right" s_law_right)(dlaw:DefK K "law" slaw)(zlen:PySem.W.nsIn K mainGlobals "len" = some none)(zabs:PySem.W.nsIn K mainGlobals "abs" = some none)(zrange:PySem.W.nsIn K mainGlobals "range" = some none)(zlist:PySem.W.nsIn K mainGlobals "list" = some none)(ztuple:PySem.W.nsIn K mainGlobals "tuple" = some none)(zint:PySem.W.nsIn K mainGlobals "int" = some none)(zsum:PySem.W.nsIn K mainGlobals "sum" = some none)(zzip:PySem.W.nsIn K mainGlobals "zip" = some none)(zmin:PySem.W.nsIn K mainGlobals "min" = some none)(zmax:PySem.W.nsIn K mainGlobals "max" = some none)(zenumerate:PySem.W.nsIn K mainGlobals "enumerate" = some none)(zdict:PySem.W.nsIn K mainGlobals "dict" = some none)     :
  ∃fd:FuncData, (∀(s:Shared) (v:Value), BindsTo s fd ⟨[v], []⟩ [("_law_script", v)]) /\ ∀base:Heap, K.In base -> base.Ns mainGlobals mg -> FnOk l.prog w K mg base CX0 9 fa fd ["_law_script"] (spOf ⟨K, w⟩ 1 spLaw) :=by
 obtain⟨f, fd, a, F⟩ :=dlaw.ex;have e :=hfa.symm.trans (PySem.W.mg_of X G a);cases e;have T:Bl mg :=⟨PySem.W.mg_none_of X G zlen, PySem.W.mg_none_of X G zabs, PySem.W.mg_none_of X G zrange, PySem.W.mg_none_of X G zlist, PySem.W.mg_none_of X G ztuple, PySem.W.mg_none_of X G zint, PySem.W.mg_none_of X G zsum, PySem.W.mg_none_of X G zzip, PySem.W.mg_none_of X G zmin, PySem.W.mg_none_of X G zmax, PySem.W.mg_none_of X G zenumerate, PySem.W.mg_none_of X G zdict⟩;have Dis_less :=dis_less.m (ps :=["one","other"]) X G (by walk_at"dm");have Dplace_of_lines :=dplace_of_lines.m (ps :=["hall","lines"]) X G (by walk_at"dm");have Dfirst_shortest :=dfirst_shortest.m (ps :=["lines","order"]) X G (by walk_at"dm");have Dwait_at :=dwait_at.m (ps :=["hall","lines","line"]) X G (by walk_at"dm");have Dfirst_quickest :=dfirst_quickest.m (ps :=["hall","lines","order"]) X G (by walk_at"dm");have Dsent_to :=dsent_to.m (ps :=["hall","rule","stand","order"]) X G (by walk_at"dm");have Dfirst_stand :=dfirst_stand.m (ps :=["hall"]) X G (by walk_at"dm");have Dwith_more :=dwith_more.m (ps :=["lines","line","more"]) X G (by walk_at"dm");have Dcome_to :=dcome_to.m (ps :=["hall","lines","line"]) X G (by walk_at"dm");have Ddone_at :=ddone_at.m (ps :=["lines","line"]) X G (by walk_at"dm");have Dnext_shift :=dnext_shift.m (ps :=["hall","lines"]) X G (by walk_at"dm");have Dsettled :=dsettled.m (ps :=["hall","lines"]) X G (by walk_at"dm");have Dturn_behind :=dturn_behind.m (ps :=["hall","rule","turn"]) X G (by walk_at"dm");have Dline_of :=dline_of.m (ps :=["hall","rule","stand","move"]) X G (by walk_at"dm");have Dmoved_on :=dmoved_on.m (ps :=["hall","rule","stand","move"]) X G (by walk_at"dm");have Dcounts_behind :=dcounts_behind.m (ps :=["counts","word"]) X G (by walk_at"dm");have Daskers_settled :=daskers_settled.m (ps :=["hall","askers"]) X G (by walk_at"dm");have Daskers_behind :=daskers_behind.m (ps :=["hall","askers","line","word","number"]) X G (by walk_at"dm");have Dfirst_scene :=dfirst_scene.m (ps :=["hall"]) X G (by walk_at"dm");have Dscene_behind :=dscene_behind.m (ps :=["hall","rule","scene","move"]) X G (by walk_at"dm");have Dwalked :=dwalked.m (ps :=["hall","rule","run"]) X G (by walk_at"dm");have Dcounted :=dcounted.m (ps :=["hall","rule","run"]) X G (by walk_at"dm");have Dstays :=dstays.m (ps :=["hall","rule","run"]) X G (by walk_at"dm");have Dhall_turned :=dhall_turned.m (ps :=["hall","order"]) X G (by walk_at"dm");have D_law_feed :=d_law_feed.m (ps :=["_law_script"]) X G (by walk_at"dm");have D_law_draw :=d_law_draw.m (ps :=["_law_feed_here","_law_many"]) X G (by walk_at"dm");have D_law_shuffled :=d_law_shuffled.m (ps :=["_law_feed_here","_law_some"]) X G (by walk_at"dm");have D_law_cut :=d_law_cut.m (ps :=["_law_top","_law_bottom"]) X G (by walk_at"dm");have D_law_hall :=d_law_hall.m (ps :=["_law_feed_here","_law_most"]) X G (by walk_at"dm");have D_law_all :=d_law_all.m (ps :=["_law_hall_here"]) X G (by walk_at"dm");have D_law_rule :=d_law_rule.m (ps :=["_law_feed_here","_law_hall_here"]) X G (by walk_at"dm");have D_law_move :=d_law_move.m (ps :=["_law_feed_here","_law_hall_here","_law_way"]) X G (by walk_at"dm");have D_law_run :=d_law_run.m (ps :=["_law_feed_here","_law_hall_here","_law_many"]) X G (by walk_at"dm");have D_law_turned_rule :=d_law_turned_rule.m (ps :=["_law_hall_here","_law_turned","_law_order","_law_rule_here"]) X G (by walk_at"dm");have D_law_turned_move :=d_law_turned_move.m (ps :=["_law_order","_law_move_here"]) X G (by walk_at"dm");have D_law_right :=d_law_right.m (ps :=["_law_feed_here","_law_hall_here","_law_rule_here","_law_run_here"]) X G (by walk_at"dm");refine⟨fd, fun s v => ?_, fun base _ _ => ?_⟩
 .obtain⟨oc, od, kV, doc, pm, an, cdv, ct, osl, rfl, lk, hcd⟩ :=F.ex;exact .of_eq rfl
 .have Gis_less :=okis_less (P :=l.prog) (w :=w) (base :=base) T Dis_less;have Gplace_of_lines :=okplace_of_lines (P :=l.prog) (w :=w) (base :=base) T Dplace_of_lines;have Gfirst_shortest :=okfirst_shortest (P :=l.prog) (w :=w) (base :=base) T Dfirst_shortest;have Gwait_at :=okwait_at (P :=l.prog) (w :=w) (base :=base) T Dwait_at;have Gfirst_quickest :=okfirst_quickest (P :=l.prog) (w :=w) (base :=base) T Dfirst_quickest Gwait_at Gis_less;have Gsent_to :=oksent_to (P :=l.prog) (w :=w) (base :=base) T Dsent_to Gfirst_shortest Gfirst_quickest Gplace_of_lines;have Gfirst_stand :=okfirst_stand (P :=l.prog) (w :=w) (base :=base) T Dfirst_stand;have Gwith_more :=okwith_more (P :=l.prog) (w :=w) (base :=base) T Dwith_more;have Gcome_to :=okcome_to (P :=l.prog) (w :=w) (base :=base) T Dcome_to Gwith_more;have Gdone_at :=okdone_at (P :=l.prog) (w :=w) (base :=base) T Ddone_at Gwith_more;have Gnext_shift :=oknext_shift (P :=l.prog) (w :=w) (base :=base) T Dnext_shift;have Gnext_shift_vL :=oknext_shift_vL (P :=l.prog) (w :=w) (base :=base) T Dnext_shift;have Gsettled :=oksettled (P :=l.prog) (w :=w) (base :=base) T Dsettled Gnext_shift Gwith_more;have Gturn_behind :=okturn_behind (P :=l.prog) (w :=w) (base :=base) T Dturn_behind;have Gline_of :=okline_of (P :=l.prog) (w :=w) (base :=base) T Dline_of Gsent_to;have Gmoved_on :=okmoved_on (P :=l.prog) (w :=w) (base :=base) T Dmoved_on Gline_of Gcome_to Gturn_behind Gdone_at Gsettled;have Gcounts_behind :=okcounts_behind (P :=l.prog) (w :=w) (base :=base) T Dcounts_behind;have Gaskers_settled :=okaskers_settled (P :=l.prog) (w :=w) (base :=base) T Daskers_settled Gnext_shift_vL;have Gaskers_behind :=okaskers_behind (P :=l.prog) (w :=w) (base :=base) T Daskers_behind Gaskers_settled;have Gfirst_scene :=okfirst_scene (P :=l.prog) (w :=w) (base :=base) T Dfirst_scene Gfirst_stand;have Gscene_behind :=okscene_behind (P :=l.prog) (w :=w) (base :=base) T Dscene_behind Gline_of Gmoved_on Gaskers_behind Gcounts_behind;have Gwalked :=okwalked (P :=l.prog) (w :=w) (base :=base) T Dwalked Gfirst_stand Gmoved_on;have Gcounted :=okcounted (P :=l.prog) (w :=w) (base :=base) T Dcounted Gfirst_stand Gmoved_on Gcounts_behind;have Gstays :=okstays (P :=l.prog) (w :=w) (base :=base) T Dstays Gfirst_scene Gscene_behind;have Ghall_turned :=okhall_turned (P :=l.prog) (w :=w) (base :=base) T Dhall_turned;have G_law_feed :=ok_law_feed (P :=l.prog) (w :=w) (base :=base) T D_law_feed;have G_law_draw :=ok_law_draw (P :=l.prog) (w :=w) (base :=base) T D_law_draw;have G_law_shuffled :=ok_law_shuffled (P :=l.prog) (w :=w) (base :=base) T D_law_shuffled G_law_draw;have G_law_cut :=ok_law_cut (P :=l.prog) (w :=w) (base :=base) T D_law_cut;have G_law_hall :=ok_law_hall (P :=l.prog) (w :=w) (base :=base) T D_law_hall G_law_draw G_law_cut;have G_law_all :=ok_law_all (P :=l.prog) (w :=w) (base :=base) T D_law_all;have G_law_rule :=ok_law_rule (P :=l.prog) (w :=w) (base :=base) T D_law_rule G_law_draw G_law_all;have G_law_move :=ok_law_move (P :=l.prog) (w :=w) (base :=base) T D_law_move G_law_draw G_law_shuffled;have G_law_run :=ok_law_run (P :=l.prog) (w :=w) (base :=base) T D_law_run G_law_draw G_law_move;have G_law_turned_rule :=ok_law_turned_rule (P :=l.prog) (w :=w) (base :=base) T D_law_turned_rule G_law_all;have G_law_turned_move :=ok_law_turned_move (P :=l.prog) (w :=w) (base :=base) T D_law_turned_move;have G_law_right :=ok_law_right (P :=l.prog) (w :=w) (base :=base) T D_law_right G_law_shuffled Ghall_turned G_law_turned_rule G_law_turned_move Gwalked Gcounted Gstays;exact oklaw T F G_law_feed G_law_hall G_law_rule G_law_draw G_law_run G_law_right
theorem walk{q:Program}{loose:List Str}{XP:(Str -> Option Value) -> Heap -> Prop}{YP:World -> Heap -> Prop}{d:DefRec}{K:Params -> PySem.W.Frag}(hq:PyProof.Rows.importsNone q=true)(hn:l.most=some 63)(hdf:d.params.defaults=[])
  (hY:∀(w:World) (h:Heap), YP w h -> (K w.params).In h)
  (F:∀(w:World) (mg:Str -> Option Value) (fa:Addr) (h:Heap), (K w.params).In h -> h.Ns mainGlobals mg -> mg d.name=some (.ref fa) ->
   ∃fd:FuncData, (∀(s:Shared) (u:Value), BindsTo s fd ⟨[u], []⟩ [("_law_script", u)]) /\ ∀base:Heap, (K w.params).In base -> base.Ns mainGlobals mg -> FnOk l.prog w (K w.params) mg base CX0 9 fa fd ["_law_script"] (spOf ⟨K w.params, w⟩ 1 spLaw)) :
  PySem.W.WalkO q loose XP YP l.row.toRowW d [] (fun f vs => PySem.call f vs) :=
 L2.walk_of (n :=63) (k :=9) (x := "_law_script") (CX :=fun _ => CX0) (sp :=fun w => spOf ⟨K w.params, w⟩ 1 spLaw) hq hn (by decide) hdf ⟨rfl, by decide, by decide, rfl⟩ hY F
  (fun w H a ns hl hO hS => ⟨[.imm (.list (ns.map .int))], [], fun r _ => r = .imm (.bool true), rfl, List.nodup_nil, .imm (script_den hO hS) .nil, ⟨ns, rfl, hl, rfl⟩, fun r outs v H' k _ rr _ => by cases k;exact bl_of_den (show Den ⟨K w.params, w⟩ H' (.bool true) v from rr)⟩) fun _ _ _ _ _ z => z
end K
namespace PySem.W.Fast
def tw15401647110939119966:=0
def tw15593906718697177532:=0
def tw520579448053463431:=0
def tw14998304347963903989:=0
def tw11077809761143858698:=0
def tw3825765001163267124:=0
def tw6760361014133634401:=0
def tw137690713618737454:=0
def tw3520547879103995574:=0
def tw9640267367514409787:=0
def tw6100318911028019117:=0
def tw14569700096903429251:=0
def tw14081728342250547045:=0
def tw11877278106133498592:=0
def tw9160452909935649305:=0
def tw5319827551437748962:=0
def tw14837275496257192168:=0
def tw12956414772660730763:=0
def tw12582222598238490042:=0
def tw15997528298737163449:=0
def tw7514084352597067051:=0
def tw12263732780463144854:=0
def tw1823538724806870928:=0
def tw1758271804684566234:=0
def tw3125834934173746659:=0
def tw18066523047120687843:=0
def tw1076949763308936085:=0
def tw12121757387410783925:=0
def tw12182363214940786703:=0
def tw4608910652692489240:=0
def tw8757953385690135298:=0
def tw5944061840438668887:=0
def tw2687753901990366498:=0
def tw11793955614726543626:=0
def tw13915405030294697743:=0
def tw3605087223293547179:=0
def tw16678623189007790099:=0
def tw10950249298548485348:=0
def tw13861931320087057432:=0
def tw14906228653289445663:=0
def tw3913813483856423614:=0
def tw16658437700232070033:=0
def tw2835798505381072475:=0
def tw8672151601518189842:=0
def tw14161912755376835276:=0
def tw12122181298898555490:=0
def tw12285748644942782345:=0
def tw4544504154962864724:=0
def tw4967909071211300574:=0
def tw1645226706368982422:=0
def tw2194073748659515080:=0
def tw5571983031171334912:=0
def tw8885813002458022153:=0
def tw6803913914774008934:=0
def tw5830769862905619312:=0
def tw10351593511934475761:=0
def tw14677886745945535502:=0
def tw1097574776659190852:=0
def tw15567994665661265040:=0
def tw8102256391414047049:=0
def tw15956958290343045838:=0
def tw11543193869528687937:=0
def tw16969590661772769771:=0
def tw14937139673926629549:=0
def tw16872625167797047763:=0
def tw13980531946144341411:=0
def tw9525830175479997541:=0
def tw12626185316785757494:=0
def tw4648273148403236914:=0
def tw6689038976002725277:=0
def tw3665990233445752361:=0
def tw4867934118886010613:=0
def tw11303930495129836356:=0
def tw11842581500320081274:=0
def tw15878599225622935973:=0
def tw17183737144556718796:=0
def tw17284783895618104863:=0
def tw17138546099146527280:=0
def tw11254224038542078284:=0
def tw16252501281107589851:=0
def tw15575090944775832920:=0
def tw4906082887056254498:=0
def tw17528906707245227633:=0
def tw18140413014760899252:=0
def tw7693014281606297261:=0
def tw15152147483229108022:=0
def tw7575204507012870154:=0
def tw9052453417451389286:=0
def tw16055839283516047106:=0
def tw3833698015665902959:=0
def tw3941959677577748229:=0
def tw11118971991413183183:=0
def tw3002697696576952572:=0
end PySem.W.Fast
open PySem PySem.W PyProof.Rows
local macro_rules | `(tactic| walk_at "dk") => `(tactic| (refine' L2.DefK.of ?a ?l ?c ?k; (case a => k_is); (case l => k_is); (case c => k_is); (case k => k_is)))
set_option maxRecDepth 100000 in
set_option maxHeartbeats 0 in
theorem PySem.Challenge.cw_shorterline_k16_whole_servers_turned_abo_holds : PySem.Challenge.rw_shorterline_k16_whole_servers_turned_abo.Holds := by
 w_on;o_law;k_head;(case hw => w_witness2)
 k_fill
 refine K.walk (l :=PySem.Challenge.rw_shorterline_k16_whole_servers_turned_abo) ?hq rfl rfl (fun w h Y => PySem.W.kIn_of Y) ?F
 case hq => kernel_rfl
 case F =>
  intro w mg fa h KX G hmg;refine' K.all_mk KX G hmg ?dis_less ?dplace_of_lines ?dfirst_shortest ?dwait_at ?dfirst_quickest ?dsent_to ?dfirst_stand ?dwith_more ?dcome_to ?ddone_at ?dnext_shift ?dsettled ?dturn_behind ?dline_of ?dmoved_on ?dcounts_behind ?daskers_settled ?daskers_behind ?dfirst_scene ?dscene_behind ?dwalked ?dcounted ?dstays ?dhall_turned ?d_law_feed ?d_law_draw ?d_law_shuffled ?d_law_cut ?d_law_hall ?d_law_all ?d_law_rule ?d_law_move ?d_law_run ?d_law_turned_rule ?d_law_turned_move ?d_law_right ?dlaw ?zlen ?zabs ?zrange ?zlist ?ztuple ?zint ?zsum ?zzip ?zmin ?zmax ?zenumerate ?zdict
  (case dis_less => walk_at"dk")
  (case dplace_of_lines => walk_at"dk")
  (case dfirst_shortest => walk_at"dk")
  (case dwait_at => walk_at"dk")
  (case dfirst_quickest => walk_at"dk")
  (case dsent_to => walk_at"dk")
  (case dfirst_stand => walk_at"dk")
  (case dwith_more => walk_at"dk")
  (case dcome_to => walk_at"dk")
  (case ddone_at => walk_at"dk")
  (case dnext_shift => walk_at"dk")
  (case dsettled => walk_at"dk")
  (case dturn_behind => walk_at"dk")
  (case dline_of => walk_at"dk")
  (case dmoved_on => walk_at"dk")
  (case dcounts_behind => walk_at"dk")
  (case daskers_settled => walk_at"dk")
  (case daskers_behind => walk_at"dk")
  (case dfirst_scene => walk_at"dk")
  (case dscene_behind => walk_at"dk")
  (case dwalked => walk_at"dk")
  (case dcounted => walk_at"dk")
  (case dstays => walk_at"dk")
  (case dhall_turned => walk_at"dk")
  (case d_law_feed => walk_at"dk")
  (case d_law_draw => walk_at"dk")
  (case d_law_shuffled => walk_at"dk")
  (case d_law_cut => walk_at"dk")
  (case d_law_hall => walk_at"dk")
  (case d_law_all => walk_at"dk")
  (case d_law_rule => walk_at"dk")
  (case d_law_move => walk_at"dk")
  (case d_law_run => walk_at"dk")
  (case d_law_turned_rule => walk_at"dk")
  (case d_law_turned_move => walk_at"dk")
  (case d_law_right => walk_at"dk")
  (case dlaw => walk_at"dk")
  (case zlen => k_is)
  (case zabs => k_is)
  (case zrange => k_is)
  (case zlist => k_is)
  (case ztuple => k_is)
  (case zint => k_is)
  (case zsum => k_is)
  (case zzip => k_is)
  (case zmin => k_is)
  (case zmax => k_is)
  (case zenumerate => k_is)
  (case zdict => k_is)