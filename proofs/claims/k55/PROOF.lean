import PyProof.Rows.All
import Wide.All
import OpenK.AllK
import Wide.FinOn
import Lean
import PyProof.EqAt
import PyProof.EqKinds
import PyProof.TupleCall
import KE.KRevIter
import PyProof.FactsAll.range
import PyProof.P3In
import PyProof.ZipIter
import PyProof.TupleIter
import PyProof.WalkInts
import PyProof.SeqI3
import PyProof.EnumFor
import PyProof.EnumMake
import PyProof.ListMulRoad
import PyProof.Rows.SortRev
import PyProof.SumWalkG
import PyProof.StrWalks
import PyProof.StrCalls2
import PyProof.StrLawsTight
import KE.KIntText
import PyProof.StrBlockG
import PyProof.Rows.StrItems
import PyProof.StrLawsRepr
import PyProof.SliceStr2
import PyProof.StrBlockI
import PyProof.Rows.IntBool
import PyProof.Rows.FStr
import PyProof.FString
import PyProof.FactsAll.tuple
import KE.KSortTup
import PyProof.AutoListH
import PyProof.StrOps2
import PyProof.StationsW
import PyProof.RulesAs
import OpenK.KOwn
import KE.KTryMore
import PyProof.NsDelKeeps
import PyProof.ExcArgsOwn
import PyProof.ExcInit
import PyProof.InstStoreFacts
import KE.RegKIsAll
import KE.RegKTryMore
import PySem.Challenge.RW_shorterline_k55_rules_by_turns_refused
set_option Elab.async false
set_option linter.all false
set_option maxRecDepth 100000
namespace L2
open PySem PySem.Spec PyProof.Rows
abbrev Key := Sum Int Str
def keyIs : Key → Value → Bool
 | .inl k, v => Value.isInt k v
 | .inr x, v => Value.isStrOf x v
def keyH (w : World) : Key → Int
 | .inl k => hashInt k
 | .inr x => hashStr w x
theorem keyIs_shape : ∀ {k : Key} {v : Value}, keyIs k v = true → (∃ i t, k = Sum.inl i ∧ v = Value.int i t) ∨ (∃ x t, k = Sum.inr x ∧ v = Value.str x t)
 | .inl i, v, h => by
  obtain ⟨t, e⟩ := Value.isInt_shape (k := i) (v := v) h
  exact .inl ⟨i, t, rfl, e⟩
 | .inr x, v, h => by
  obtain ⟨t, e⟩ := Value.isStrOf_shape (x := x) (v := v) h
  exact .inr ⟨x, t, rfl, e⟩
theorem keyIs_int (i : Int) (t : Tok) : keyIs (.inl i) (.int i t) = true := by simp [keyIs, Value.isInt]
theorem keyIs_str (x : Str) (t : Tok) : keyIs (.inr x) (.str x t) = true := by simp [keyIs, Value.isStrOf]
theorem key_ll (a b : Int) : decide ((Sum.inl a : Key) = Sum.inl b) = (a == b) := by
 by_cases e : a = b
 ·subst e; simp
 ·have h : ¬ (Sum.inl a : Key) = Sum.inl b := fun q => e (Sum.inl.inj q)
  rw [decide_eq_false h]
  exact (beq_eq_false_iff_ne.mpr e).symm
theorem key_rr (a b : Str) : decide ((Sum.inr a : Key) = Sum.inr b) = decide (a = b) := by
 by_cases e : a = b
 ·subst e; simp
 ·have h : ¬ (Sum.inr a : Key) = Sum.inr b := fun q => e (Sum.inr.inj q)
  rw [decide_eq_false h, decide_eq_false e]
theorem key_lr (a : Int) (b : Str) : decide ((Sum.inl a : Key) = Sum.inr b) = false := decide_eq_false (fun q => nomatch q)
theorem key_rl (a : Str) (b : Int) : decide ((Sum.inr a : Key) = Sum.inl b) = false := decide_eq_false (fun q => nomatch q)
def mixKind (prog : Program) (w : World) : PySem.KeyKind prog w Key where
 is := keyIs
 hash := keyH w
 inj := fun v a b ha hb => by
  rcases keyIs_shape ha with ⟨i, t, rfl, rfl⟩ | ⟨x, t, rfl, rfl⟩
  ·rcases keyIs_shape hb with ⟨j, u, rfl, e⟩ | ⟨y, u, rfl, e⟩
   ·injection e with e1 _; rw [e1]
   ·exact nomatch e
  ·rcases keyIs_shape hb with ⟨j, u, rfl, e⟩ | ⟨y, u, rfl, e⟩
   ·exact nomatch e
   ·injection e with e1 _; rw [e1]
 byValue := fun k v h => by
  rcases keyIs_shape h with ⟨i, t, rfl, rfl⟩ | ⟨x, t, rfl, rfl⟩ <;> rfl
 pyHash := fun hv h => by
  rcases keyIs_shape hv with ⟨i, t, rfl, rfl⟩ | ⟨x, t, rfl, rfl⟩
  ·exact wpAny_pyHash_int h
  ·exact wpAny_pyHash_str h
 eqBool := fun hu hv h => by
  rcases keyIs_shape hu with ⟨i, t, rfl, rfl⟩ | ⟨x, t, rfl, rfl⟩
  ·rcases keyIs_shape hv with ⟨j, u, rfl, rfl⟩ | ⟨y, u, rfl, rfl⟩
   ·rw [key_ll] at h; exact wpAny_eqBool_int h
   ·rw [key_lr] at h; exact SeqAt.EqAt.int_str i t y u _ _ _ _ h
  ·rcases keyIs_shape hv with ⟨j, u, rfl, rfl⟩ | ⟨y, u, rfl, rfl⟩
   ·rw [key_rl] at h; exact SeqAt.EqAt.str_int x t j u _ _ _ _ h
   ·rw [key_rr] at h; exact wpAny_eqBool_str h
 «strs» := fun k x t v h => by
  rcases keyIs_shape h with ⟨i, u, rfl, e⟩ | ⟨y, u, rfl, e⟩
  ·exact nomatch e
  ·injection e with e1 _
   subst e1
   cases v <;> rfl
theorem mixKind_int (prog : Program) (w : World) (i : Int) (t : Tok) : (mixKind prog w).is (.inl i) (.int i t) = true := keyIs_int i t
theorem mixKind_str (prog : Program) (w : World) (x : Str) (t : Tok) : (mixKind prog w).is (.inr x) (.str x t) = true := keyIs_str x t
inductive V where
 | non | bl (b : Bool) | int (i : Int) | str (x : Str) | byt (b : Array UInt8) | flt (b : UInt64) | ref (a : Addr) | ty (n : String)
 deriving DecidableEq
def RelV : V → Value → Prop
 | .non, u => u = Value.none
 | .bl b, u => u = Value.bool b
 | .int i, u => ∃ t, u = Value.int i t
 | .str x, u => ∃ t, u = Value.str x t
 | .byt b, u => ∃ t, u = Value.bytes b t
 | .flt b, u => ∃ t, u = Value.float b t
 | .ref a, u => u = Value.ref a
 | .ty n, u => u = Value.type n
abbrev Vals : List V → List Value → Prop := Paired RelV
theorem Vals.length {xs : List V} {us : List Value} (r : Vals xs us) : xs.length = us.length := Paired.length r
theorem Vals.get : ∀ {xs : List V} {us : List Value} {i : Nat} {x : V}, Vals xs us → xs[i]? = some x → ∃ u, us[i]? = some u ∧ RelV x u
 | _, _, _, _, .nil, e => by simp at e
 | _, _, 0, _, .cons r _, e => by simp at e; subst e; exact ⟨_, rfl, r⟩
 | _, _, i + 1, x, .cons _ t, e => by
  obtain ⟨u, h1, h2⟩ := Vals.get (i := i) (x := x) t (by simpa using e)
  exact ⟨u, by simpa using h1, h2⟩
theorem Vals.append : ∀ {xs ys : List V} {us ws : List Value}, Vals xs us → Vals ys ws → Vals (xs ++ ys) (us ++ ws)
 | _, _, _, _, .nil, s => s
 | _, _, _, _, .cons r t, s => .cons r (Vals.append t s)
theorem Vals.take : ∀ {xs : List V} {us : List Value} (n : Nat), Vals xs us → Vals (xs.take n) (us.take n)
 | _, _, 0, _ => .nil
 | _, _, _ + 1, .nil => .nil
 | _, _, n + 1, .cons r t => .cons r (Vals.take n t)
theorem Vals.drop : ∀ {xs : List V} {us : List Value} (n : Nat), Vals xs us → Vals (xs.drop n) (us.drop n)
 | _, _, 0, r => r
 | _, _, _ + 1, .nil => .nil
 | _, _, n + 1, .cons _ t => Vals.drop n t
def RelO : Option V → Option Value → Prop
 | some v, some u => RelV v u
 | none, none => True
 | _, _ => False
def KV {κ : Type} : List (κ × V) → List (κ × Value) → Prop := Paired fun (p : κ × V) (q : κ × Value) => p.1 = q.1 ∧ RelV p.2 q.2
def kV : Key → V
 | .inl i => .int i
 | .inr x => .str x
inductive HO where
 | lst (xs : List V)
 | tup (xs : List V)
 | dK (kvs : List (Key × V)) | dT (kvs : List (List Key × V))
 | set (S : Int → Bool) (n : Nat)
 | ins (C dx : Addr) (fs : List (Str × V))
 | own (x : Addr)
 | xd (fs : List (Str × V))
 | met (f x : Addr)
 | rng (lo hi : Int)
 | frz (o : Obj) (u : HO)
 | tbl (ps : Array Value)
 | ext (φ : Heap → Prop)
abbrev Hp := Addr → Option HO
def upd (H : Hp) (a : Addr) (o : HO) : Hp := fun b => if b = a then some o else H b
theorem upd_same {H : Hp} {a : Addr} {o : HO} : upd H a o a = some o := by unfold upd; rw [if_pos rfl]
theorem upd_ne {H : Hp} {a b : Addr} {o : HO} (h : b ≠ a) : upd H a o b = H b := by unfold upd; rw [if_neg h]
theorem ne_of {H : Hp} {a b : Addr} {o u : HO} (h : H a = some o) (h' : H b = some u) (d : o ≠ u) : a ≠ b := by
 intro e; subst e; rw [h] at h'; exact d (Option.some.inj h')
theorem ne_of_none {H : Hp} {a b : Addr} {o : HO} (h : H a = some o) (h' : H b = none) : a ≠ b := by
 intro e; subst e; rw [h] at h'; cases h'
def PlainT (h : Heap) (a : Addr) (items : Array Value) : Prop := ∃ o, h.get? a = some o ∧ o.cls = .type "tuple" ∧ o.dict = none ∧ ∃ n, o.data = .seq items n
theorem PlainT.tup {h : Heap} {a : Addr} {items : Array Value} (x : PlainT h a items) : IsTup h a items := let ⟨o, e, c, _, d⟩ := x; ⟨o, e, c, d⟩
theorem PlainT.new (h : Heap) (items : Array Value) : PlainT (h.push { cls := .type "tuple", data := .seq items }) h.objs.size items := ⟨_, Heap.get?_push_size _ rfl, rfl, rfl, _, rfl⟩
section
variable (P : Program) (w : World)
def ObjOk (H : Hp) (h : Heap) (a : Addr) : HO → Prop
 | .lst xs => xs.length ≤ sizeLine ∧ ∃ (its : List Value) (n : Nat), Vals xs its ∧ h.get? a = some { cls := .type "list", data := .seq its.toArray n }
 | .tup xs => xs.length ≤ sizeLine ∧ ∃ its : List Value, Vals xs its ∧ PlainT h a its.toArray
 | .dK kvs => kvs.length ≤ sizeLine ∧ (a == sysModules) = false ∧ ∃ vs, KV kvs vs ∧ h.DictOf (mixKind P w) a vs
 | .dT kvs => kvs.length ≤ sizeLine ∧ (a == sysModules) = false ∧ ∃ xs : List (List Key × Addr × Value),
   Paired (fun (p : List Key × V) (q : List Key × Addr × Value) => p.1 = q.1 ∧ H q.2.1 = some (.tup (p.1.map kV)) ∧ RelV p.2 q.2.2) kvs xs ∧
   ∃ o es ep, h.get? a = some o ∧ o.ExactDict ∧ o.data = .dict es ep ∧ es.toList = xs.map (entryOfKey (tupleKind (mixKind P w))) ∧ (xs.map (·.1)).Nodup
 | .set S n => h.SetOf (intKind P w) a S n
 | .ins C dx fs => H dx = some (.own a) ∧ fs.length ≤ 1000 ∧ dx ≠ a ∧ h.get? a = some (PySem.W.instObj C dx) ∧
   ∃ mA, h.Ns1 dx mA ∧ (∀ f, RelO (fs.lookup f) (mA f)) ∧ PySem.Within mA (fs.map (·.1))
 | .own _ => ∃ o, h.get? a = some o
 | .xd fs => ∃ mA, h.Ns1 a mA ∧ ∀ f, RelO (fs.lookup f) (mA f)
 | .rng lo hi => ∃ t u v, h.get? a = some { cls := .type "range", data := .fields #[.int lo t, .int hi u, .int 1 v] }
 | .frz o u => h.get? a = some o ∧ ObjOk H h a u
 | .tbl ps => h.get? a = some { cls := .none, data := .fields ps }
 | .met f x => h.get? a = some (PySem.W.methodObj (.ref f) (.ref x))
 | .ext φ => φ h ∧ (∃ o, h.get? a = some o) ∧ ∀ h1 h2 : Heap, φ h1 → (∀ o, h1.get? a = some o → h2.get? a = some o) → φ h2
def HOk (H : Hp) (h : Heap) : Prop := ∀ a o, H a = some o → ObjOk P w H h a o
end
section
variable {P : Program} {w : World} {H H' : Hp} {h h' : Heap} {a : Addr} {o : HO}
theorem ObjOk.lt (x : ObjOk P w H h a o) : a < h.objs.size := by
 cases o with
 | lst xs => obtain ⟨_, _, _, _, e⟩ := x; exact Heap.lt_size e
 | tup xs => obtain ⟨_, _, _, p⟩ := x; exact p.tup.lt
 | dK kvs => obtain ⟨_, _, _, _, o, _, _, e, _⟩ := x; exact Heap.lt_size e
 | dT kvs => obtain ⟨_, _, _, _, o, _, _, e, _⟩ := x; exact Heap.lt_size e
 | set S n => obtain ⟨o, _, _, _, e, _⟩ := x; exact Heap.lt_size e
 | ins C dx fs => obtain ⟨_, _, _, e, _⟩ := x; exact Heap.lt_size e
 | own y => obtain ⟨_, e⟩ := x; exact Heap.lt_size e
 | xd fs => obtain ⟨_, ⟨_, _, _, e, _⟩, _⟩ := x; exact Heap.lt_size e
 | rng lo hi => obtain ⟨_, _, _, e⟩ := x; exact Heap.lt_size e
 | frz ob u => obtain ⟨e, _⟩ := x; exact Heap.lt_size e
 | tbl ps => exact Heap.lt_size (show h.get? a = some _ from x)
 | met f y => exact Heap.lt_size (show h.get? a = some _ from x)
 | ext φ => obtain ⟨_, ⟨_, e⟩, _⟩ := x; exact Heap.lt_size e
theorem Paired.mapP {α β : Type} {F G : α → β → Prop} : ∀ {l₁ : List α} {l₂ : List β}, Paired F l₁ l₂ → (∀ a b, F a b → G a b) → Paired G l₁ l₂
 | _, _, .nil, _ => .nil
 | _, _, .cons r t, f => .cons (f _ _ r) (Paired.mapP t f)
theorem ObjOk.stay (x : ObjOk P w H h a o) (k : ∀ b u, (b = a ∨ H b = some (.own a)) → h.get? b = some u → h'.get? b = some u)
  (ho : ∀ b, H b = some (.own a) → H' b = some (.own a)) (ht : ∀ b xs, H b = some (.tup xs) → H' b = some (.tup xs)) : ObjOk P w H' h' a o := by
 induction o with
 | lst xs => obtain ⟨z, its, n, r, e⟩ := x; exact ⟨z, its, n, r, k _ _ (.inl rfl) e⟩
 | tup xs => obtain ⟨z, its, r, ob, e, c⟩ := x; exact ⟨z, its, r, ob, k _ _ (.inl rfl) e, c⟩
 | dK kvs => obtain ⟨z, y, vs, r, ob, es, ep, e, c⟩ := x; exact ⟨z, y, vs, r, ob, es, ep, k _ _ (.inl rfl) e, c⟩
 | dT kvs =>
  obtain ⟨z, y, xs, r, ob, es, ep, e, c⟩ := x
  exact ⟨z, y, xs, Paired.mapP r fun p q z => ⟨z.1, ht _ _ z.2.1, z.2.2⟩, ob, es, ep, k _ _ (.inl rfl) e, c⟩
 | set S n => obtain ⟨ob, es, ep, t, e, c⟩ := x; exact ⟨ob, es, ep, t, k _ _ (.inl rfl) e, c⟩
 | ins C dx fs =>
  obtain ⟨d, z, ne, e, mA, ⟨od, es, ep, e2, c⟩, r⟩ := x
  exact ⟨ho _ d, z, ne, k _ _ (.inl rfl) e, mA, ⟨od, es, ep, k _ _ (.inr d) e2, c⟩, r⟩
 | own y => obtain ⟨ob, e⟩ := x; exact ⟨ob, k _ _ (.inl rfl) e⟩
 | xd fs => obtain ⟨mA, ⟨od, es, ep, e, c⟩, r⟩ := x; exact ⟨mA, ⟨od, es, ep, k _ _ (.inl rfl) e, c⟩, r⟩
 | rng lo hi => obtain ⟨t, u, v, e⟩ := x; exact ⟨t, u, v, k _ _ (.inl rfl) e⟩
 | frz ob u ih => obtain ⟨e, q⟩ := x; exact ⟨k _ _ (.inl rfl) e, ih q⟩
 | tbl ps =>
  have e : h.get? a = some { cls := .none, data := .fields ps } := x
  show h'.get? a = some { cls := .none, data := .fields ps }
  exact k a _ (.inl rfl) e
 | met f y =>
  have e : h.get? a = some (PySem.W.methodObj (.ref f) (.ref y)) := x
  show h'.get? a = some (PySem.W.methodObj (.ref f) (.ref y))
  exact k a _ (.inl rfl) e
 | ext φ => obtain ⟨p, ⟨o, e⟩, st⟩ := x; exact ⟨st _ _ p fun o q => k _ _ (.inl rfl) q, ⟨o, k _ _ (.inl rfl) e⟩, st⟩
theorem HOk.lt (x : HOk P w H h) (e : H a = some o) : a < h.objs.size := (x a o e).lt
theorem HOk.fresh (x : HOk P w H h) (e : h.objs.size ≤ a) : H a = none := by
 cases q : H a with
 | none => rfl
 | some u => exact absurd (Nat.lt_of_lt_of_le (x.lt q) e) (Nat.lt_irrefl _)
theorem HOk.kept (x : HOk P w H h) (k : ∀ b u, h.get? b = some u → h'.get? b = some u) : HOk P w H h' := fun a o e =>
 (x a o e).stay (fun b u _ q => k b u q) (fun _ q => q) fun _ _ q => q
theorem HOk.laid (x : HOk P w H h) (k : ∀ b u, h.get? b = some u → h'.get? b = some u) (hp : h.objs.size ≤ a) (new : ObjOk P w (upd H a o) h' a o) : HOk P w (upd H a o) h' := fun b u e => by
 have hn := x.fresh hp
 by_cases hb : b = a
 ·subst hb; rw [upd_same] at e; cases e; exact new
 ·rw [upd_ne hb] at e
  exact (x b u e).stay (fun c v _ q => k c v q) (fun c q => by rw [upd_ne (ne_of_none q hn)]; exact q) fun c xs q => by rw [upd_ne (ne_of_none q hn)]; exact q
end
def Rd (H : Hp) (a : Addr) (u : HO) : Prop := H a = some u ∨ ∃ o, H a = some (.frz o u)
theorem Rd.ok {P : Program} {w : World} {H : Hp} {h : Heap} {a : Addr} {u : HO} (r : Rd H a u) (x : HOk P w H h) : ObjOk P w H h a u := by
 rcases r with r | ⟨o, r⟩
 ·exact x a u r
 ·obtain ⟨_, q⟩ := x a _ r
  exact q
def Mut : Option HO → Prop
 | some (.lst _) => True
 | some (.dK _) => True
 | some (.dT _) => True
 | some (.set _ _) => True
 | some (.ins _ _ _) => True
 | some (.ext _) => True
 | _ => False
section
variable {P : Program} {w : World} {H : Hp} {h h' : Heap} {x e : Addr} {o' : HO}
theorem HOk.write (ok : HOk P w H h) (mu : Mut (H x)) (he : e = x ∨ H e = some (.own x)) (k : ∀ b u, b ≠ e → h.get? b = some u → h'.get? b = some u) (heo : ∃ u, h'.get? e = some u)
  (new : ObjOk P w (upd H x o') h' x o') : HOk P w (upd H x o') h' := fun b u q => by
 have nown : ∀ c y, H c = some (.own y) → c ≠ x := fun c y r z => by subst z; rw [r] at mu; exact mu
 have ntup : ∀ c xs, H c = some (.tup xs) → c ≠ x := fun c xs r z => by subst z; rw [r] at mu; exact mu
 by_cases hb : b = x
 ·subst hb; rw [upd_same] at q; cases q; exact new
 ·rw [upd_ne hb] at q
  by_cases hbe : b = e
  ·have q' : H b = some (.own x) := by
    rcases he with z | z
    ·exact absurd (hbe.trans z) hb
    ·rw [hbe]; exact z
   rw [q] at q'; cases q'
   obtain ⟨v, hv⟩ := heo
   exact ⟨v, by rw [hbe]; exact hv⟩
  ·refine (ok b u q).stay (fun c v hc r => k c v ?_ r) (fun c r => by rw [upd_ne (nown c b r)]; exact r) fun c xs r => by rw [upd_ne (ntup c xs r)]; exact r
   rcases hc with rfl | hc
   ·exact hbe
   ·rintro rfl
    rcases he with z | z
    ·exact nown c b hc z
    ·rw [hc] at z; cases z; exact hb rfl
end
structure Un (fs ex : List Addr) (H H' : Hp) (h h' : Heap) : Prop where
 keep : ∀ b o, h.get? b = some o → H b = none → b ∉ fs → b ∉ ex → h'.get? b = some o
 slot : ∀ b o, h.get? b = some o → H b = none → b ∈ fs → b ∉ ex → ∃ sl, h'.get? b = some { o with slots := sl }
 free : ∀ b o, h.get? b = some o → H b = none → b ∉ ex → H' b = none
 there : ∀ b o, h.get? b = some o → b ∉ ex → ∃ o', h'.get? b = some o'
 tups : ∀ b xs, H b = some (.tup xs) → H' b = some (.tup xs)
 frzs : ∀ b o u, H b = some (.frz o u) → H' b = some (.frz o u)
 tbls : ∀ b ps, H b = some (.tbl ps) → ∃ more, H' b = some (.tbl (ps ++ more))
section
variable {fs fs' ex ex' : List Addr} {H H1 H2 : Hp} {h h1 h2 h' : Heap} {a x e : Addr} {o : HO}
theorem Un.any (u : Un fs ex H H1 h h1) {b : Addr} {ob : Obj} (q : h.get? b = some ob) (n : H b = none) (hx : b ∉ ex) : ∃ sl, h1.get? b = some { ob with slots := sl } := by
 by_cases hb : b ∈ fs
 ·exact u.slot b ob q n hb hx
 ·exact ⟨ob.slots, u.keep b ob q n hb hx⟩
theorem Un.kept (k : ∀ b u, h.get? b = some u → h'.get? b = some u) : Un fs ex H H h h' :=
 ⟨fun b ob q _ _ _ => k b ob q, fun b ob q _ _ _ => ⟨ob.slots, k b ob q⟩, fun _ _ _ n _ => n, fun b ob q _ => ⟨ob, k b ob q⟩, fun _ _ q => q, fun _ _ _ q => q, fun _ ps q => ⟨#[], by rw [q]; simp⟩⟩
theorem Un.refl : Un fs ex H H h h := Un.kept fun _ _ q => q
theorem Un.laid (k : ∀ b u, h.get? b = some u → h'.get? b = some u) (hp : h.objs.size ≤ a) (hn : H a = none) : Un fs ex H (upd H a o) h h' where
 keep := fun b u q _ _ _ => k b u q
 slot := fun b u q _ _ _ => ⟨u.slots, k b u q⟩
 free := fun b u q n _ => by rw [upd_ne (Nat.ne_of_lt (Nat.lt_of_lt_of_le (Heap.lt_size q) hp))]; exact n
 there := fun b u q _ => ⟨u, k b u q⟩
 tups := fun b xs q => by rw [upd_ne (ne_of_none q hn)]; exact q
 frzs := fun b u xs q => by rw [upd_ne (ne_of_none q hn)]; exact q
 tbls := fun b ps q => ⟨#[], by rw [upd_ne (ne_of_none q hn), q]; simp⟩
theorem Un.write (mu : Mut (H x)) (he : e = x ∨ H e = some (.own x)) (k : ∀ b u, b ≠ e → h.get? b = some u → h'.get? b = some u) (heo : ∃ u, h'.get? e = some u) : Un fs ex H (upd H x o) h h' := by
 have hx : ∀ b, H b = none → b ≠ x := fun b n z => by subst z; rw [n] at mu; exact mu
 have hb : ∀ b, H b = none → b ≠ e := fun b n z => by
  subst z
  rcases he with r | r
  ·exact hx b n r
  ·rw [n] at r; cases r
 have hm : ∀ b u, H b = some u → ¬ Mut (some u) → b ≠ x := fun b u q nm z => by subst z; rw [q] at mu; exact nm mu
 refine ⟨fun b u q n _ _ => k b u (hb b n) q, fun b u q n _ _ => ⟨u.slots, k b u (hb b n) q⟩, fun b u q n _ => by rw [upd_ne (hx b n)]; exact n, fun b u q _ => ?_,
  fun b xs q => by rw [upd_ne (hm b _ q fun z => z)]; exact q, fun b u xs q => by rw [upd_ne (hm b _ q fun z => z)]; exact q, fun b ps q => ⟨#[], by rw [upd_ne (hm b _ q fun z => z), q]; simp⟩⟩
 by_cases hbe : b = e
 ·subst hbe; exact heo
 ·exact ⟨u, k b u hbe q⟩
end
def trk (h : Heap) (H : Hp) : List Addr := (List.range h.objs.size).filter fun a => (H a).isSome
def hidT (h : Heap) (H : Hp) : Heap := PySem.W.hideAll h (trk h H)
theorem hidT_size (h : Heap) (H : Hp) : (hidT h H).objs.size = h.objs.size := PySem.W.hideAll_size _ _
theorem hidT_get {h : Heap} {H : Hp} {b : Addr} {o : Obj} (e : h.get? b = some o) (n : H b = none) : (hidT h H).get? b = some o :=
 PySem.W.hideAll_get _ e fun hm => by
  have q : (H b).isSome = true := (List.mem_filter.mp hm).2
  rw [n] at q; simp at q
theorem of_hidT {h : Heap} {H : Hp} {b : Addr} {o : Obj} (e : (hidT h H).get? b = some o) : h.get? b = some o ∧ H b = none := by
 have e' : h.get? b = some o := PySem.W.of_hideAll (trk h H) e
 refine ⟨e', ?_⟩
 cases q : H b with
 | none => rfl
 | some x =>
  have hm : b ∈ trk h H := List.mem_filter.mpr ⟨List.mem_range.mpr (Heap.lt_size e'), by simp [q]⟩
  have z : (hidT h H).get? b = none := PySem.W.hideAll_none (trk h H) hm
  rw [z] at e; cases e
structure Mod (K : PySem.W.Frag) (mg : Str → Option Value) (base : Heap) : Prop where
 kin : K.In base
 glob : base.Ns mainGlobals mg
 blt : ∃ mb, base.Ns builtinsNs mb ∧ ∀ x : Str, x ≠ "__name__" → mb x = bootBuiltins x
 nolimit : base.NoLimit
 sys : ∃ m, base.Ns sysModules m
inductive Ao where
 | L (a : Addr) | T (t : List (List Nat × Addr))
structure EB where
 np : Nat
 be : List Ao
 H : Hp
structure Cx where
 prog : Program
 w : World
 K : PySem.W.Frag
 mg : Str → Option Value
 base : Heap
 A : Around
 N : List Str
 s₀ : Shared
 H₀ : Hp
 env : Env
 outer : List Env
 stack : List Env
 ex : List Addr
 fn : Str → Bool
 calm : Bool
 pn : List (Addr × Obj)
 xe : Value → Shared → Prop
 eb : EB := ⟨0, [], fun _ => none⟩
def frs (l : List Env) : List Addr := l.filterMap (·.frame)
abbrev Cx.fs (X : Cx) : List Addr := frs X.outer
def Vis (sc : Scope) (x : Str) : Prop := sc.names.lookup x = some .local ∨ sc.names.lookup x = some .cell ∨ sc.names.lookup x = some .free
def Loc (sc : Scope) (x : Str) : Prop := sc.names.lookup x = some .local ∨ sc.names.lookup x = some .cell
def Look (env : Env) (h : Heap) (m : Str → Option Value) (x : Str) (u : Value) : Prop :=
 (env.kindOf x = some .local ∧ m x = some u) ∨ ((env.kindOf x = some .cell ∨ env.kindOf x = some .free) ∧ ∃ c, env.cells.lookup x = some c ∧ h.IsCell c (some u))
structure Cx.Ok (X : Cx) : Prop where
 mod : Mod X.K X.mg X.base
 kind : X.env.scope.kind = .function
 glob : X.env.globals = mainGlobals
 blt : X.env.builtins = builtinsNs
 above : X.s₀.heap.objs.size ≤ X.env.locals
 inj : ∀ x y c, X.env.cells.lookup x = some c → X.env.cells.lookup y = some c → x = y
 has : ∀ x, (X.env.kindOf x = some .cell ∨ X.env.kindOf x = some .free) → ∃ c, X.env.cells.lookup x = some c
 cab : ∀ x c, X.fn x = true → X.env.cells.lookup x = some c → X.s₀.heap.objs.size ≤ c
 hd : X.calm = true → X.A.handled = none
 frames : X.A.frames = some X.stack
 stk : X.stack = X.outer ∨ (X.stack = X.env :: X.outer ∧ X.env.frame = some X.env.locals)
 exf : ∀ b ∈ X.ex, b ≠ X.env.locals ∧ ∀ x c, X.env.cells.lookup x = some c → c ≠ b
 bs : ∀ b o, X.base.get? b = some o → X.s₀.heap.get? b = some o ∧ X.H₀ b = none
 bsz : X.base.objs.size ≤ X.s₀.heap.objs.size
 noex : ∀ b o, X.base.get? b = some o → b ∉ X.ex
 exfs : ∀ b ∈ X.ex, b ∉ X.fs
 funs : X.s₀.heap.FunFrames X.base X.outer
 frf : ∀ b ∈ X.fs, X.H₀ b = none
structure Inv (X : Cx) (pins : List (Addr × Obj)) (σ : List (Option V)) (H : Hp) (s : Shared) : Prop where
 ok : X.Ok
 os : s.os = X.s₀.os
 bare : AllBare s.gens
 base : Un X.fs X.ex X.H₀ H X.s₀.heap s.heap
 loc : ∃ m, s.heap.Ns X.env.locals m ∧ ∀ (i : Nat) (x : Str) (v : V), X.N[i]? = some x → σ[i]? = some (some v) → Vis X.env.scope x → ∃ u, RelV v u ∧ Look X.env s.heap m x u
 cell : ∀ x c, X.env.cells.lookup x = some c → ∃ v, s.heap.IsCell c v
 free : H X.env.locals = none
 freeC : ∀ x c, X.env.cells.lookup x = some c → H c = none
 pin : ∀ p ∈ X.pn ++ pins, s.heap.get? p.1 = some p.2 ∧ H p.1 = none ∧ p.1 ≠ X.env.locals ∧ p.1 ∉ X.fs ∧ ∀ v, p.2.data ≠ .cell v
 hok : HOk X.prog X.w H s.heap
 len : σ.length = X.N.length
section
variable {X : Cx} {pins : List (Addr × Obj)} {σ : List (Option V)} {H H' : Hp} {s : Shared} {h' : Heap}
theorem Cx.Ok.nofr (ok : X.Ok) {b : Addr} {o : Obj} (e : X.base.get? b = some o) : b ∉ X.fs := fun hb => by
 have := (ok.funs.mem hb).1
 rw [e] at this; cases this
theorem Inv.bs (I : Inv X pins σ H s) : ∀ b o, X.base.get? b = some o → s.heap.get? b = some o ∧ H b = none := fun b o e =>
 ⟨I.base.keep b o (I.ok.bs b o e).1 (I.ok.bs b o e).2 (I.ok.nofr e) (I.ok.noex b o e), I.base.free b o (I.ok.bs b o e).1 (I.ok.bs b o e).2 (I.ok.noex b o e)⟩
theorem Inv.bk (I : Inv X pins σ H s) : ∀ b o, X.base.get? b = some o → s.heap.get? b = some o := fun b o e => (I.bs b o e).1
theorem Inv.mod (I : Inv X pins σ H s) : Mod X.K X.mg X.base := I.ok.mod
theorem Inv.kIn (I : Inv X pins σ H s) : X.K.In s.heap := I.ok.mod.kin.keeps I.bk
theorem Inv.lt (I : Inv X pins σ H s) : X.env.locals < s.heap.objs.size := let ⟨_, hn, _⟩ := I.loc; hn.lt
theorem Inv.sz (I : Inv X pins σ H s) : X.s₀.heap.objs.size ≤ s.heap.objs.size := Nat.le_trans I.ok.above (Nat.le_of_lt I.lt)
theorem Inv.nofs (I : Inv X pins σ H s) {a : Addr} (h : s.heap.objs.size ≤ a) : a ∉ X.fs := fun hb => by
 obtain ⟨_, o, ho, _⟩ := I.ok.funs.mem hb
 exact absurd (Nat.lt_of_lt_of_le (Heap.lt_size ho) (Nat.le_trans I.sz h)) (Nat.lt_irrefl _)
theorem Inv.cne (I : Inv X pins σ H s) : ∀ x c, X.env.cells.lookup x = some c → c ≠ X.env.locals := fun x c e z => by
 obtain ⟨v, o, ho, hd⟩ := I.cell x c e
 obtain ⟨m, ⟨o', es, ep, ho', hd', _⟩, _⟩ := I.loc
 rw [z, ho'] at ho; cases ho; rw [hd'] at hd; cases hd
theorem Inv.funs (I : Inv X pins σ H s) : s.heap.FunFrames X.base X.outer := by
 have all : ∀ (l : List Env), (∀ b ∈ frs l, b ∈ X.fs) → X.s₀.heap.FunFrames X.base l → s.heap.FunFrames X.base l := by
  intro l
  induction l with
  | nil => intro _ _; trivial
  | cons env r ih =>
   intro hs hl
   obtain ⟨hk, ⟨L, o, hf, hn, ho, hd⟩, hr⟩ := hl
   have hL : L ∈ X.fs := hs L (by unfold frs; rw [List.filterMap_cons, hf]; exact List.mem_cons_self)
   obtain ⟨sl, e⟩ := I.base.slot L o ho (I.ok.frf L hL) hL fun z => I.ok.exfs L z hL
   exact ⟨hk, ⟨L, _, hf, hn, e, hd⟩, ih (fun b hb => hs b (by unfold frs; rw [List.filterMap_cons, hf]; exact List.mem_cons_of_mem _ hb)) hr⟩
 exact all X.outer (fun _ hb => hb) I.ok.funs
theorem Inv.stack (I : Inv X pins σ H s) : s.heap.FunFrames X.base X.stack := by
 rcases I.ok.stk with e | ⟨e, hf⟩
 ·rw [e]; exact I.funs
 ·rw [e]
  obtain ⟨m, hn, _⟩ := I.loc
  refine .cons (by rw [I.ok.kind]; decide) hf hn ?_ I.funs
  exact Heap.get?_none_of_le (Nat.le_trans I.ok.bsz I.ok.above)
theorem Inv.stkSub (I : Inv X pins σ H s) : ∀ b ∈ frs X.stack, b ∈ X.env.locals :: X.fs := fun b hb => by
 rcases I.ok.stk with e | ⟨e, hf⟩
 ·rw [e] at hb; exact List.mem_cons_of_mem _ hb
 ·rw [e] at hb
  unfold frs at hb
  rw [List.filterMap_cons, hf] at hb
  exact hb
theorem Inv.stkFree (I : Inv X pins σ H s) : ∀ b ∈ frs X.stack, H b = none := fun b hb => by
 rcases List.mem_cons.mp (I.stkSub b hb) with e | hb
 ·rw [e]; exact I.free
 ·obtain ⟨_, o, ho, _⟩ := I.ok.funs.mem hb
  exact I.base.free b o ho (I.ok.frf b hb) fun z => I.ok.exfs b z hb
theorem Inv.step {g' : Array GenState} {t' : Nat} {d' : Drawn} {ch : List Addr} (I : Inv X pins σ H s)
  (hch : ∀ b ∈ ch, (b ∈ X.ex ∨ X.s₀.heap.objs.size ≤ b) ∧ b ≠ X.env.locals ∧ (∀ x c, X.env.cells.lookup x = some c → c ≠ b) ∧ ∀ p ∈ X.pn ++ pins, p.1 ≠ b)
  (keep : ∀ b o, b ≠ X.env.locals → b ∉ X.fs → b ∉ ch → s.heap.get? b = some o → H b = none → h'.get? b = some o)
  (slot : ∀ b o, b ≠ X.env.locals → b ∈ X.fs → b ∉ ch → s.heap.get? b = some o → H b = none → ∃ sl, h'.get? b = some { o with slots := sl }) (free : ∀ b o, b ∉ ch → s.heap.get? b = some o → H b = none → H' b = none)
  (there : ∀ b o, b ∉ ch → s.heap.get? b = some o → ∃ o', h'.get? b = some o')
  (tups : ∀ b xs, H b = some (.tup xs) → H' b = some (.tup xs)) (frzs : ∀ b o u, H b = some (.frz o u) → H' b = some (.frz o u)) (tbls : ∀ b ps, H b = some (.tbl ps) → ∃ more, H' b = some (.tbl (ps ++ more)))
  (ns : ∀ m, s.heap.Ns X.env.locals m → h'.Ns X.env.locals m) (hok : HOk X.prog X.w H' h') (hg : AllBare g') :
  Inv X pins σ H' { s with heap := h', gens := g', drawn := d', toks := t' } := by
 have neL : ∀ b o, X.s₀.heap.get? b = some o → b ≠ X.env.locals := fun b o e => Nat.ne_of_lt (Nat.lt_of_lt_of_le (Heap.lt_size e) I.ok.above)
 have neC : ∀ b o, X.s₀.heap.get? b = some o → b ∉ X.ex → b ∉ ch := fun b o e hx hb => by
  rcases (hch b hb).1 with z | z
  ·exact hx z
  ·exact absurd (Nat.lt_of_lt_of_le (Heap.lt_size e) z) (Nat.lt_irrefl _)
 have cellK : ∀ x c, X.env.cells.lookup x = some c → ∀ v, s.heap.IsCell c v → h'.IsCell c v := fun x c e v ⟨o, ho, hd⟩ => by
  have nch : c ∉ ch := fun z => (hch c z).2.2.1 x c e rfl
  by_cases hc : c ∈ X.fs
  ·obtain ⟨sl, q⟩ := slot c o (I.cne x c e) hc nch ho (I.freeC x c e)
   exact ⟨_, q, hd⟩
  ·exact ⟨o, keep c o (I.cne x c e) hc nch ho (I.freeC x c e), hd⟩
 refine ⟨I.ok, I.os, hg, ⟨fun b o e n hb hx => ?_, fun b o e n hb hx => ?_, fun b o e n hx => ?_, fun b o e hx => ?_, fun b xs e => tups b xs (I.base.tups b xs e), fun b o xs e => frzs b o xs (I.base.frzs b o xs e), fun b ps e => ?_⟩, ?_, fun x c e => ?_, ?_, fun x c e => ?_, fun p hp => ?_, hok, I.len⟩
 ·exact keep b o (neL b o e) hb (neC b o e hx) (I.base.keep b o e n hb hx) (I.base.free b o e n hx)
 ·obtain ⟨sl, e1⟩ := I.base.slot b o e n hb hx
  obtain ⟨sl', e2⟩ := slot b _ (neL b o e) hb (neC b o e hx) e1 (I.base.free b o e n hx)
  exact ⟨sl', e2⟩
 ·obtain ⟨o', e1⟩ := I.base.there b o e hx
  exact free b o' (neC b o e hx) e1 (I.base.free b o e n hx)
 ·obtain ⟨o', e1⟩ := I.base.there b o e hx
  exact there b o' (neC b o e hx) e1
 ·obtain ⟨m1, e1⟩ := I.base.tbls b ps e
  obtain ⟨m2, e2⟩ := tbls b _ e1
  exact ⟨m1 ++ m2, by rw [e2, Array.append_assoc]⟩
 ·obtain ⟨m, hn, hl⟩ := I.loc
  refine ⟨m, ns m hn, fun i x v e1 e2 e3 => ?_⟩
  obtain ⟨u, r, l⟩ := hl i x v e1 e2 e3
  refine ⟨u, r, ?_⟩
  rcases l with l | ⟨k, c, e, z⟩
  ·exact .inl l
  ·exact .inr ⟨k, c, e, cellK x c e _ z⟩
 ·obtain ⟨v, z⟩ := I.cell x c e
  exact ⟨v, cellK x c e v z⟩
 ·obtain ⟨m, ⟨o, _, _, ho, _⟩, _⟩ := I.loc
  exact free _ o (fun z => (hch _ z).2.1 rfl) ho I.free
 ·obtain ⟨v, o, ho, hd⟩ := I.cell x c e
  exact free c o (fun z => (hch c z).2.2.1 x c e rfl) ho (I.freeC x c e)
 ·obtain ⟨e, n, ne, nf, d⟩ := I.pin p hp
  have nch : p.1 ∉ ch := fun z => (hch p.1 z).2.2.2 p hp rfl
  exact ⟨keep p.1 p.2 ne nf nch e n, free p.1 p.2 nch e n, ne, nf, d⟩
theorem Inv.un {t' : Nat} (I : Inv X pins σ H s) (u : Un X.fs [] H H' s.heap h') (hok : HOk X.prog X.w H' h') : Inv X pins σ H' { s with heap := h', toks := t' } := by
 obtain ⟨m, ⟨o, es, ep, ho, r⟩, _⟩ := id I.loc
 obtain ⟨sl, hL⟩ := u.any ho I.free (by simp)
 exact I.step (g' := s.gens) (d' := s.drawn) (ch := []) (fun _ z => nomatch z) (fun b o _ hb _ e n => u.keep b o e n hb (by simp)) (fun b o _ hb _ e n => u.slot b o e n hb (by simp)) (fun b o _ e n => u.free b o e n (by simp)) (fun b o _ e => u.there b o e (by simp)) u.tups u.frzs u.tbls (fun m' hm => by
  obtain ⟨o', es', ep', ho', r'⟩ := hm
  rw [ho] at ho'; cases ho'
  exact ⟨_, es', ep', hL, r'⟩) hok I.bare
theorem Inv.call {g' : Array GenState} {t' : Nat} {d' : Drawn} {ch : List Addr} (I : Inv X pins σ H s) (u : Un (frs X.stack) ch H H' s.heap h') (hok : HOk X.prog X.w H' h') (hg : AllBare g')
  (hch : ∀ b ∈ ch, (b ∈ X.ex ∨ X.s₀.heap.objs.size ≤ b) ∧ b ≠ X.env.locals ∧ (∀ x c, X.env.cells.lookup x = some c → c ≠ b) ∧ ∀ p ∈ X.pn ++ pins, p.1 ≠ b) :
  Inv X pins σ H' { s with heap := h', gens := g', drawn := d', toks := t' } := by
 obtain ⟨m, ⟨o, es, ep, ho, r⟩, _⟩ := id I.loc
 obtain ⟨sl, hL⟩ := u.any ho I.free fun z => (hch _ z).2.1 rfl
 exact I.step (ch := ch) hch (fun b o hL hb hc e n => u.keep b o e n (fun z => (List.mem_cons.mp (I.stkSub b z)).elim hL hb) hc) (fun b o _ _ hc e n => u.any e n hc) (fun b o hc e n => u.free b o e n hc) (fun b o hc e => u.there b o e hc) u.tups u.frzs u.tbls (fun m' hm => by
  obtain ⟨o', es', ep', ho', r'⟩ := hm
  rw [ho] at ho'; cases ho'
  exact ⟨_, es', ep', hL, r'⟩) hok hg
theorem Inv.turned {t' : Nat} {it : Addr} (I : Inv X pins σ H s) (k : ∀ b o, b ≠ it → s.heap.get? b = some o → h'.get? b = some o) (hn : H it = none) (hL : it ≠ X.env.locals)
  (h1 : it ∈ X.ex ∨ X.s₀.heap.objs.size ≤ it) (h2 : ∀ x c, X.env.cells.lookup x = some c → c ≠ it) (h3 : ∀ p ∈ X.pn ++ pins, p.1 ≠ it) : Inv X pins σ H { s with heap := h', toks := t' } := by
 have nit : ∀ b u, H b = some u → b ≠ it := fun b u e z => by rw [z, hn] at e; cases e
 refine I.step (g' := s.gens) (d' := s.drawn) (ch := [it]) (fun b hb => ?_) (fun b o _ _ hc e _ => k b o (fun z => hc (by simp [z])) e) (fun b o _ _ hc e _ => ⟨o.slots, k b o (fun z => hc (by simp [z])) e⟩) (fun _ _ _ _ n => n)
  (fun b o hc e => ⟨o, k b o (fun z => hc (by simp [z])) e⟩) (fun _ _ e => e) (fun _ _ _ e => e) (fun b ps e => ⟨#[], by rw [e]; simp⟩) (fun m hm => ?_) (fun b u e => ?_) I.bare
 ·have e : b = it := by simpa using hb
  subst e
  exact ⟨h1, hL, h2, h3⟩
 ·obtain ⟨o, es, ep, ho, r⟩ := hm
  exact ⟨o, es, ep, k _ o (Ne.symm hL) ho, r⟩
 ·refine (I.hok b u e).stay (fun c v hc q => k c v ?_ q) (fun _ q => q) fun _ _ q => q
  rcases hc with z | z
  ·rw [z]; exact nit b u e
  ·exact nit c _ z
theorem Inv.tok (I : Inv X pins σ H s) (t : Nat) : Inv X pins σ H { s with toks := t } := I.un (h' := s.heap) (t' := t) Un.refl I.hok
theorem Inv.kept {t' : Nat} (I : Inv X pins σ H s) (k : ∀ b u, s.heap.get? b = some u → h'.get? b = some u) : Inv X pins σ H { s with heap := h', toks := t' } := I.un (Un.kept k) (I.hok.kept k)
theorem Inv.laid {a : Addr} {o : HO} {t' : Nat} (I : Inv X pins σ H s) (k : ∀ b u, s.heap.get? b = some u → h'.get? b = some u) (hp : s.heap.objs.size ≤ a) (new : ObjOk X.prog X.w (upd H a o) h' a o) :
  Inv X pins σ (upd H a o) { s with heap := h', toks := t' } := I.un (Un.laid k hp (I.hok.fresh hp)) (I.hok.laid k hp new)
theorem Inv.write {x e : Addr} {o : HO} {t' : Nat} (I : Inv X pins σ H s) (mu : Mut (H x)) (he : e = x ∨ H e = some (.own x)) (k : ∀ b u, b ≠ e → s.heap.get? b = some u → h'.get? b = some u) (heo : ∃ u, h'.get? e = some u)
  (new : ObjOk X.prog X.w (upd H x o) h' x o) : Inv X pins σ (upd H x o) { s with heap := h', toks := t' } := I.un (Un.write mu he k heo) (I.hok.write mu he k heo new)
theorem Inv.pins_of {pins' : List (Addr × Obj)} (I : Inv X pins σ H s) (h : ∀ p ∈ pins', s.heap.get? p.1 = some p.2 ∧ H p.1 = none ∧ p.1 ≠ X.env.locals ∧ p.1 ∉ X.fs ∧ ∀ v, p.2.data ≠ .cell v) : Inv X pins' σ H s :=
 ⟨I.ok, I.os, I.bare, I.base, I.loc, I.cell, I.free, I.freeC, fun p hp => (List.mem_append.mp hp).elim (fun z => I.pin p (List.mem_append_left _ z)) (h p), I.hok, I.len⟩
theorem nodup_ix {N : List Str} (hN : N.Nodup) {i j : Nat} {x : Str} (a : N[i]? = some x) (b : N[j]? = some x) : i = j := by
 obtain ⟨h1, e1⟩ := List.getElem?_eq_some_iff.mp a
 obtain ⟨h2, e2⟩ := List.getElem?_eq_some_iff.mp b
 exact (List.getElem_inj hN).mp (e1.trans e2.symm)
theorem store_ok2 {M : Model} {A : Around} {E : Value → Shared → Prop} {i : Nat} {x : Str} {v : V} {u : Value} {Q : Unit → Shared → Prop} (I : Inv X pins σ H s) (hN : X.N.Nodup) (hi : X.N[i]? = some x) (hx : Loc X.env.scope x) (r : RelV v u)
  (h : ∀ s', Inv X pins (σ.set i (some v)) H s' → (∃ a, Heap.SameBut a s.heap s'.heap ∧ (a = X.env.locals ∨ X.env.cells.lookup x = some a)) → Q () s') (hf : X.fn x = true ∨ X.env.scope.names.lookup x = some .local := by first | exact .inl rfl | exact .inr rfl | assumption) : wpAny M A (storeName X.env x u) Q E s := by
 obtain ⟨m, hn, hl⟩ := id I.loc
 have hcls : (X.env.scope.kind == .class || (X.env.scope.kind == .module && X.env.locals != X.env.globals)) = false := by rw [I.ok.kind]; rfl
 have hiσ : i < σ.length := by rw [I.len]; exact (List.getElem?_eq_some_iff.mp hi).1
 have cne := I.cne
 have tracked : ∀ {a : Addr} {h' : Heap}, (∃ o, s.heap.get? a = some o ∧ H a = none) → Heap.SameBut a s.heap h' → HOk X.prog X.w H h' := fun {a h'} ha hs b ob e => by
  obtain ⟨_, _, hfree⟩ := ha
  refine (I.hok b ob e).stay (fun c w' hc q => (hs.2 c ?_).trans q) (fun _ q => q) fun _ _ q => q
  rintro rfl
  rcases hc with rfl | hc
  ·rw [hfree] at e; cases e
  ·rw [hfree] at hc; cases hc
 rcases hx with hk | hk
 ·refine wpAny_storeName_local hk hn (fun h' hn' hs => ?_) hcls
  obtain ⟨oL, _, _, hoL, _⟩ := id hn
  refine h _ ⟨I.ok, I.os, I.bare, ⟨fun b o e n hb hx => ?_, fun b o e n hb hx => ?_, I.base.free, fun b o e hx => ?_, I.base.tups, I.base.frzs, I.base.tbls⟩, ⟨_, hn', fun j y v' e1 e2 e3 => ?_⟩, fun y c e => ?_, I.free, I.freeC, fun p hp => ?_, tracked ⟨oL, hoL, I.free⟩ hs, by simpa using I.len⟩ ⟨_, hs, .inl rfl⟩
  ·exact (hs.2 b (Nat.ne_of_lt (Nat.lt_of_lt_of_le (Heap.lt_size e) I.ok.above))).trans (I.base.keep b o e n hb hx)
  ·obtain ⟨sl, e1⟩ := I.base.slot b o e n hb hx
   exact ⟨sl, (hs.2 b (Nat.ne_of_lt (Nat.lt_of_lt_of_le (Heap.lt_size e) I.ok.above))).trans e1⟩
  ·obtain ⟨o', e1⟩ := I.base.there b o e hx
   exact ⟨o', (hs.2 b (Nat.ne_of_lt (Nat.lt_of_lt_of_le (Heap.lt_size e) I.ok.above))).trans e1⟩
  ·by_cases hj : j = i
   ·subst hj
    rw [hi] at e1; cases e1
    rw [List.getElem?_set_self hiσ] at e2
    cases e2
    exact ⟨u, r, .inl ⟨hk, by simp⟩⟩
   ·rw [List.getElem?_set_ne (Ne.symm hj)] at e2
    obtain ⟨u', r', q⟩ := hl j y v' e1 e2 e3
    refine ⟨u', r', ?_⟩
    rcases q with ⟨k, e⟩ | ⟨k, c, e, z⟩
    ·refine .inl ⟨k, ?_⟩
     have : y ≠ x := fun e => hj (nodup_ix hN e1 (e ▸ hi))
     simp [this, e]
    ·exact .inr ⟨k, c, e, z.sameBut hs (cne y c e)⟩
  ·obtain ⟨w', z⟩ := I.cell y c e
   exact ⟨w', z.sameBut hs (cne y c e)⟩
  ·obtain ⟨e, n, ne, nf, d⟩ := I.pin p hp
   exact ⟨(hs.2 p.1 ne).trans e, n, ne, nf, d⟩
 ·have hfn : X.fn x = true := by
   rcases hf with z | z
   ·exact z
   ·rw [z] at hk; cases hk
  obtain ⟨c, hc⟩ := I.ok.has x (.inl hk)
  obtain ⟨w', z⟩ := I.cell x c hc
  refine wpAny_storeName_cell I.ok.kind hk hc z (fun h' hc' hs => ?_)
  obtain ⟨oc, hoc, hocd⟩ := id z
  refine h { s with heap := h' } ⟨I.ok, I.os, I.bare, ⟨fun b o e n hb hx => ?_, fun b o e n hb hx => ?_, I.base.free, fun b o e hx => ?_, I.base.tups, I.base.frzs, I.base.tbls⟩, ⟨m, hn.sameBut hs (Ne.symm (cne x c hc)), fun j y v' e1 e2 e3 => ?_⟩, fun y c' e => ?_, I.free, I.freeC, fun p hp => ?_, tracked ⟨oc, hoc, I.freeC x c hc⟩ hs, by simpa using I.len⟩ ⟨c, hs, .inr hc⟩
  ·exact (hs.2 b (Nat.ne_of_lt (Nat.lt_of_lt_of_le (Heap.lt_size e) (I.ok.cab x c hfn hc)))).trans (I.base.keep b o e n hb hx)
  ·obtain ⟨sl, e1⟩ := I.base.slot b o e n hb hx
   exact ⟨sl, (hs.2 b (Nat.ne_of_lt (Nat.lt_of_lt_of_le (Heap.lt_size e) (I.ok.cab x c hfn hc)))).trans e1⟩
  ·obtain ⟨o', e1⟩ := I.base.there b o e hx
   exact ⟨o', (hs.2 b (Nat.ne_of_lt (Nat.lt_of_lt_of_le (Heap.lt_size e) (I.ok.cab x c hfn hc)))).trans e1⟩
  ·by_cases hj : j = i
   ·subst hj
    rw [hi] at e1; cases e1
    rw [List.getElem?_set_self hiσ] at e2
    cases e2
    exact ⟨u, r, .inr ⟨.inl hk, c, hc, hc'⟩⟩
   ·rw [List.getElem?_set_ne (Ne.symm hj)] at e2
    obtain ⟨u', r', q⟩ := hl j y v' e1 e2 e3
    refine ⟨u', r', ?_⟩
    rcases q with q | ⟨k, c', e, z'⟩
    ·exact .inl q
    ·refine .inr ⟨k, c', e, z'.sameBut hs ?_⟩
     rintro rfl
     exact hj (nodup_ix hN e1 (I.ok.inj _ _ _ e hc ▸ hi))
  ·by_cases hcc : c' = c
   ·subst hcc; exact ⟨_, hc'⟩
   ·obtain ⟨w2, z2⟩ := I.cell y c' e
    exact ⟨w2, z2.sameBut hs hcc⟩
  ·obtain ⟨e, n, ne, nf, d⟩ := I.pin p hp
   refine ⟨(hs.2 p.1 ?_).trans e, n, ne, nf, d⟩
   intro q
   rw [q, hoc] at e
   have q' : oc = p.2 := Option.some.inj e
   exact d w' (by rw [← q']; exact hocd)
theorem store_ok {M : Model} {A : Around} {E : Value → Shared → Prop} {i : Nat} {x : Str} {v : V} {u : Value} {Q : Unit → Shared → Prop} (I : Inv X pins σ H s) (hN : X.N.Nodup) (hi : X.N[i]? = some x) (hx : Loc X.env.scope x) (r : RelV v u)
  (h : ∀ s', Inv X pins (σ.set i (some v)) H s' → Q () s') (hf : X.fn x = true ∨ X.env.scope.names.lookup x = some .local := by first | exact .inl rfl | exact .inr rfl | assumption) : wpAny M A (storeName X.env x u) Q E s :=
 store_ok2 I hN hi hx r (fun s' I' _ => h s' I') hf
theorem Inv.call' {s' : Shared} {ch : List Addr} (I : Inv X pins σ H s) (ho : s'.os = s.os) (u : Un (frs X.stack) ch H H' s.heap s'.heap) (hok : HOk X.prog X.w H' s'.heap) (hg : AllBare s'.gens)
  (hch : ∀ b ∈ ch, (b ∈ X.ex ∨ X.s₀.heap.objs.size ≤ b) ∧ b ≠ X.env.locals ∧ (∀ x c, X.env.cells.lookup x = some c → c ≠ b) ∧ ∀ p ∈ X.pn ++ pins, p.1 ≠ b) : Inv X pins σ H' s' := by
 obtain ⟨h', g', d', t', o'⟩ := s'
 have e : o' = s.os := ho
 subst e
 exact I.call (g' := g') (t' := t') (d' := d') u hok hg hch
end
abbrev XK := Value → Option Addr → Hp → Prop
abbrev St := List (Option V)
abbrev VK := V → Hp → Prop
abbrev TE := St → Hp → VK → Prop
abbrev TT := St → Hp → (Bool → Hp → Prop) → Prop
abbrev TA := St → Hp → (List V → Hp → Prop) → Prop
structure Ends where
 nx : St → Hp → Prop
 rt : VK
 bk : St → Hp → Prop := fun _ _ => False
 ct : St → Hp → Prop := fun _ _ => False
abbrev TS := Ends → St → Hp → Prop
def EP (X : Cx) (pins : List (Addr × Obj)) (σ : St) (Q : VK) (u : Value) (s' : Shared) : Prop := ∃ v H', Inv X pins σ H' s' ∧ RelV v u ∧ Q v H'
def TP (X : Cx) (pins : List (Addr × Obj)) (σ : St) (Q : Bool → Hp → Prop) (b : Bool) (s' : Shared) : Prop := ∃ H', Inv X pins σ H' s' ∧ Q b H'
def AP (X : Cx) (pins : List (Addr × Obj)) (σ : St) (Q : List V → Hp → Prop) (us : List Value) (s' : Shared) : Prop := ∃ vs H', Inv X pins σ H' s' ∧ Vals vs us ∧ Q vs H'
def SP (X : Cx) (pins : List (Addr × Obj)) (D : Ends) (f : Flow) (s' : Shared) : Prop :=
 match f with
 | .next => ∃ σ' H', Inv X pins σ' H' s' ∧ D.nx σ' H'
 | .brk => ∃ σ' H', Inv X pins σ' H' s' ∧ D.bk σ' H'
 | .cont => ∃ σ' H', Inv X pins σ' H' s' ∧ D.ct σ' H'
 | .ret u => ∃ v σ' H', Inv X pins σ' H' s' ∧ RelV v u ∧ D.rt v H'
def PE (X : Cx) (e : Expr) (t : TE) : Prop :=
 ∀ (pins : List (Addr × Obj)) (s : Shared) (σ : St) (H : Hp) (Q : VK), Inv X pins σ H s → t σ H Q → wpAny (model X.prog X.w) X.A (eval e X.env) (EP X pins σ Q) X.xe s
def PT (X : Cx) (e : Expr) (t : TT) : Prop :=
 ∀ (pins : List (Addr × Obj)) (s : Shared) (σ : St) (H : Hp) (Q : Bool → Hp → Prop), Inv X pins σ H s → t σ H Q → wpAny (model X.prog X.w) X.A (isTrue e X.env (eval e X.env)) (TP X pins σ Q) X.xe s
def PW (X : Cx) (e : Expr) (t : TT) : Prop :=
 ∀ (whole : Sem Value) (pins : List (Addr × Obj)) (s : Shared) (σ : St) (H : Hp) (Q : Bool → Hp → Prop), Inv X pins σ H s → t σ H Q → wpAny (model X.prog X.w) X.A (isTrue e X.env whole) (TP X pins σ Q) X.xe s
theorem PW.pt {X : Cx} {e : Expr} {t : TT} (h : PW X e t) : PT X e t := h _
def PA (X : Cx) (es : List Expr) (t : TA) : Prop :=
 ∀ (pos : Pos) (pins : List (Addr × Obj)) (s : Shared) (σ : St) (H : Hp) (Q : List V → Hp → Prop), Inv X pins σ H s → t σ H Q → wpAny (model X.prog X.w) X.A (spliced (backTo pos (starEach es X.env))) (AP X pins σ Q) X.xe s
def PS (X : Cx) (st : Stmt) (t : TS) : Prop :=
 ∀ (pins : List (Addr × Obj)) (s : Shared) (σ : St) (H : Hp) (D : Ends), Inv X pins σ H s → t D σ H → wpAny (model X.prog X.w) X.A (exec st X.env) (SP X pins D) X.xe s
def PSs (X : Cx) (st : List Stmt) (t : TS) : Prop :=
 ∀ (pins : List (Addr × Obj)) (s : Shared) (σ : St) (H : Hp) (D : Ends), Inv X pins σ H s → t D σ H → wpAny (model X.prog X.w) X.A (execs st X.env) (SP X pins D) X.xe s
theorem thn {α : Type} {t : Sem α} {Q Q' : α → Shared → Prop} {M : Model} {A : Around} {E : Value → Shared → Prop} {s : Shared} (h : wpAny M A t Q E s) (hQ : ∀ a s, Q a s → Q' a s) : wpAny M A t Q' E s := wpAny_mono h hQ fun _ _ x => x
section
variable {X : Cx}
def tVar (i : Nat) : TE := fun σ H Q => ∃ v, σ[i]? = some (some v) ∧ Q v H
def tC (v : V) : TE := fun _ H Q => Q v H
theorem pe_var {i : Nat} {x : Str} {pos : Pos} (hN : X.N[i]? = some x) (hv : Vis X.env.scope x) (hd : (x == ("__debug__" : Str)) = false := by decide) (hcd : (x == ("__classdict__" : Str)) = false := by decide) : PE X (.Name x pos) (tVar i) := by
 intro pins s σ H Q I h
 obtain ⟨v, e, h⟩ := h
 obtain ⟨m, hn, hl⟩ := I.loc
 obtain ⟨u, r, l⟩ := hl i x v hN e hv
 have fin : EP X pins σ Q u s := ⟨v, H, I, r, h⟩
 rcases l with ⟨hk, hm⟩ | ⟨hk, c, hc, hcell⟩
 ·exact wpAny_Name (wpAny_loadName_local I.ok.kind hk hn hm fin) hd
 ·rcases hk with hk | hk
  ·exact wpAny_Name (wpAny_loadName_cell I.ok.kind hk hc hcell fin) hd
  ·exact wpAny_Name (wpAny_loadName_free I.ok.kind hk hc hcell fin hcd) hd
theorem pe_int {i j pos} : PE X (.Constant (.int i) j pos) (tC (.int i)) := fun _ _ _ H _ I h => wpAny_Constant_int ⟨.int i, H, I.tok _, ⟨_, rfl⟩, h⟩
theorem pe_bl {b j pos} : PE X (.Constant (.bool b) j pos) (tC (.bl b)) := fun _ _ _ H _ I h => Constant_bool ⟨.bl b, H, I, rfl, h⟩
theorem pe_non {j pos} : PE X (.Constant .none j pos) (tC .non) := fun _ _ _ H _ I h => Constant_none ⟨.non, H, I, rfl, h⟩
theorem pe_str {x j pos} : PE X (.Constant (.str x) j pos) (tC (.str x)) := fun _ _ _ H _ I h => Calls.Constant_str ⟨.str x, H, I.tok _, ⟨_, rfl⟩, h⟩
def Gl (X : Cx) (x : Str) : Prop := X.env.kindOf x = some .globalImplicit
theorem ld_glob {E : Value → Shared → Prop} {pins : List (Addr × Obj)} {s : Shared} {σ : St} {H : Hp} {x : Str} {u : Value} {pos : Pos} {Q : Value → Shared → Prop} (I : Inv X pins σ H s) (hg : Gl X x) (hm : X.mg x = some u) (h : Q u s)
  (hd : (x == ("__debug__" : Str)) = false := by decide) : wpAny (model X.prog X.w) X.A (eval (.Name x pos) X.env) Q E s :=
 Calls.Name_function_global I.ok.kind hg (Calls.loadGlobal_global (by rw [I.ok.glob]; exact I.mod.glob.keeps I.bk) hm h) hd
theorem ld_blt {E : Value → Shared → Prop} {pins : List (Addr × Obj)} {s : Shared} {σ : St} {H : Hp} {x : Str} {u : Value} {pos : Pos} {Q : Value → Shared → Prop} (I : Inv X pins σ H s) (hg : Gl X x) (hm : X.mg x = none) (hv : bootBuiltins x = some u) (h : Q u s)
  (hn : x ≠ "__name__" := by decide) (hd : (x == ("__debug__" : Str)) = false := by decide) : wpAny (model X.prog X.w) X.A (eval (.Name x pos) X.env) Q E s := by
 obtain ⟨mb, h1, h2⟩ := I.mod.blt
 exact Calls.Name_function_global I.ok.kind hg (Calls.loadGlobal_builtin (by rw [I.ok.glob]; exact I.mod.glob.keeps I.bk) hm (by rw [I.ok.blt]; exact h1.keeps I.bk) ((h2 x hn).trans hv) h) hd
theorem pe_bltn {x : Str} {v : V} {u : Value} {pos : Pos} (hg : Gl X x) (hm : X.mg x = none) (hv : bootBuiltins x = some u) (r : RelV v u) (hn : x ≠ "__name__" := by decide) (hd : (x == ("__debug__" : Str)) = false := by decide) : PE X (.Name x pos) (tC v) :=
 fun _ _ _ H _ I h => ld_blt I hg hm hv ⟨v, H, I, r, h⟩ hn hd
variable {a b : Expr} {ta tb : TE} {pos : Pos}
def tB (t : TE) : TT := fun σ H Q => t σ H fun x H1 => ∃ c, x = .bl c ∧ Q c H1
theorem pt_val {e : Expr} {t : TE} (h : PE X e t) (he : ∀ whole, isTrue e X.env whole = (do let v ← whole; standAt e.pos; holding [v] (truthy v)) := by intro _; rfl) : PT X e (tB t) := by
 intro pins s σ H Q I hw
 refine isTrue_plain (thn (h pins s σ H _ I hw) fun v s1 ⟨x, H1, I1, r1, q1⟩ => ?_) (he _)
 obtain ⟨d, rfl, q⟩ := q1
 cases r1
 exact wpAny_truthy_bool ⟨H1, I1, q⟩
variable {tA tB' : TT} {rest : List Expr}
def tAnd (t u : TT) : TT := fun σ H Q => t σ H fun c H1 => if c = true then u σ H1 Q else Q false H1
def tOr (t u : TT) : TT := fun σ H Q => t σ H fun c H1 => if c = true then Q true H1 else u σ H1 Q
def tNot (t : TT) : TT := fun σ H Q => t σ H fun c H1 => Q (!c) H1
theorem pw_and1 (ha : PT X a tA) : PW X (.BoolOp .And [a] pos) tA := by
 intro wh pins s σ H Q I h
 refine isTrue_and (thn (ha pins s σ H Q I h) fun c s1 e => ?_)
 cases c with
 | true => exact isTrue_and_nil e
 | false => exact e
theorem pw_or1 (ha : PT X a tA) : PW X (.BoolOp .Or [a] pos) tA := by
 intro wh pins s σ H Q I h
 refine isTrue_or (thn (ha pins s σ H Q I h) fun c s1 e => ?_)
 cases c with
 | false => exact isTrue_or_nil e
 | true => exact e
theorem pw_and (ha : PT X a tA) (hb : PW X (.BoolOp .And (b :: rest) pos) tB') : PW X (.BoolOp .And (a :: b :: rest) pos) (tAnd tA tB') := by
 intro wh pins s σ H Q I h
 refine isTrue_and (thn (ha pins s σ H _ I h) fun c s1 ⟨H1, I1, q1⟩ => ?_)
 cases c with
 | true => exact hb wh pins s1 σ H1 Q I1 q1
 | false => exact ⟨H1, I1, q1⟩
theorem pw_or (ha : PT X a tA) (hb : PW X (.BoolOp .Or (b :: rest) pos) tB') : PW X (.BoolOp .Or (a :: b :: rest) pos) (tOr tA tB') := by
 intro wh pins s σ H Q I h
 refine isTrue_or (thn (ha pins s σ H _ I h) fun c s1 ⟨H1, I1, q1⟩ => ?_)
 cases c with
 | true => exact ⟨H1, I1, q1⟩
 | false => exact hb wh pins s1 σ H1 Q I1 q1
theorem pt_not (ha : PT X a tA) : PT X (.UnaryOp .Not a pos) (tNot tA) := by
 intro pins s σ H Q I h
 exact isTrue_not (ha pins s σ H (fun c H1 => Q (!c) H1) I h)
def tOrV (ta tb : TE) : TE := fun σ H Q => ta σ H fun x H1 => ∃ c, x = .bl c ∧ if c = true then Q (.bl true) H1 else tb σ H1 Q
theorem pe_one {op} {t : TE} (h : PE X a t) : PE X (.BoolOp op [a] pos) t := fun pins s σ H Q I hw => BoolOp_one (h pins s σ H Q I hw)
theorem pe_or (ha : PE X a ta) (hb : PE X (.BoolOp .Or (b :: rest) pos) tb) : PE X (.BoolOp .Or (a :: b :: rest) pos) (tOrV ta tb) := by
 intro pins s σ H Q I h
 refine BoolOp_or (thn (ha pins s σ H _ I h) fun v s1 ⟨x, H1, I1, r1, q1⟩ => ?_)
 obtain ⟨c, rfl, q1⟩ := q1
 cases r1
 refine wpAny_truthy_bool ?_
 cases c with
 | false => exact hb pins s1 σ H1 Q I1 q1
 | true => exact ⟨.bl true, H1, I1, rfl, q1⟩
end
def SqL (K : PySem.W.Frag) (H : Hp) (a : Addr) (xs : List V) : Prop :=
 Rd H a (.lst xs) ∨
  ∃ (o : Obj) (its : Array Value) (n : Nat), K.lookup a = some o ∧ o.cls = .type "list" ∧ o.dict = none ∧ o.data = .seq its n ∧ its.size ≤ sizeLine ∧ Vals xs its.toList
def SqT (K : PySem.W.Frag) (H : Hp) (a : Addr) (xs : List V) : Prop :=
 Rd H a (.tup xs) ∨
  ∃ (o : Obj) (its : Array Value) (n : Nat), K.lookup a = some o ∧ o.cls = .type "tuple" ∧ o.dict = none ∧ o.data = .seq its n ∧ its.size ≤ sizeLine ∧ Vals xs its.toList
def absV : Value → Option V
 | .none => some .non
 | .bool b => some (.bl b)
 | .int i _ => some (.int i)
 | .str x _ => some (.str x)
 | .bytes b _ => some (.byt b)
 | .float b _ => some (.flt b)
 | .ref a => some (.ref a)
 | .type n => some (.ty n)
 | _ => none
theorem RelV.abs {x : V} {u : Value} (r : RelV x u) : absV u = some x := by
 cases x with
 | non => cases r; rfl
 | bl _ => cases r; rfl
 | int _ => obtain ⟨t, rfl⟩ := r; rfl
 | str _ => obtain ⟨t, rfl⟩ := r; rfl
 | byt _ => obtain ⟨t, rfl⟩ := r; rfl
 | flt _ => obtain ⟨t, rfl⟩ := r; rfl
 | ref _ => cases r; rfl
 | ty _ => cases r; rfl
theorem RelV.inj {x y : V} {u : Value} (r : RelV x u) (q : RelV y u) : x = y := Option.some.inj (r.abs.symm.trans q.abs)
theorem Vals.inj : ∀ {xs ys : List V} {us : List Value}, Vals xs us → Vals ys us → xs = ys
 | _, _, _, .nil, .nil => rfl
 | _, _, _, .cons r t, .cons r' t' => by rw [r.inj r', Vals.inj t t']
section
variable {X : Cx} {pins : List (Addr × Obj)} {σ : St} {H : Hp} {s : Shared} {a : Addr} {xs ys : List V}
theorem SqL.of {K : PySem.W.Frag} (h : H a = some (.lst xs)) : SqL K H a xs := .inl (.inl h)
theorem SqT.of {K : PySem.W.Frag} (h : H a = some (.tup xs)) : SqT K H a xs := .inl (.inl h)
theorem Inv.list (I : Inv X pins σ H s) (h : SqL X.K H a xs) : ∃ its : List Value, Vals xs its ∧ PlainL s.heap a its.toArray ∧ xs.length ≤ sizeLine := by
 rcases h with h | ⟨o, its, n, hk, hc, hd, hs, hz, r⟩
 ·obtain ⟨z, its, n, r, e⟩ := h.ok I.hok
  exact ⟨its, r, ⟨_, n, e, rfl, rfl, rfl⟩, z⟩
 ·refine ⟨its.toList, r, ⟨o, n, I.kIn a o hk, hc, hd, by simpa using hs⟩, ?_⟩
  have e := r.length
  simp only [Array.length_toList] at e
  omega
theorem Inv.tuple (I : Inv X pins σ H s) (h : SqT X.K H a xs) : ∃ its : List Value, Vals xs its ∧ IsTup s.heap a its.toArray ∧ xs.length ≤ sizeLine := by
 rcases h with h | ⟨o, its, n, hk, hc, hd, hs, hz, r⟩
 ·obtain ⟨z, its, r, p⟩ := h.ok I.hok
  exact ⟨its, r, p.tup, z⟩
 ·refine ⟨its.toList, r, ⟨o, I.kIn a o hk, hc, n, by simpa using hs⟩, ?_⟩
  have e := r.length
  simp only [Array.length_toList] at e
  omega
theorem Inv.tupleP (I : Inv X pins σ H s) (h : SqT X.K H a xs) : ∃ its : List Value, Vals xs its ∧ PlainT s.heap a its.toArray ∧ xs.length ≤ sizeLine := by
 rcases h with h | ⟨o, its, n, hk, hc, hd, hs, hz, r⟩
 ·obtain ⟨z, its, r, p⟩ := h.ok I.hok
  exact ⟨its, r, p, z⟩
 ·refine ⟨its.toList, r, ⟨o, I.kIn a o hk, hc, hd, n, by simpa using hs⟩, ?_⟩
  have e := r.length
  simp only [Array.length_toList] at e
  omega
theorem Inv.list_inj (I : Inv X pins σ H s) (h : SqL X.K H a xs) (h' : SqL X.K H a ys) : xs = ys := by
 obtain ⟨its, r, ⟨o, n, e, _, _, d⟩, _⟩ := I.list h
 obtain ⟨its', r', ⟨o', n', e', _, _, d'⟩, _⟩ := I.list h'
 rw [e] at e'; cases e'
 rw [d] at d'
 injection d' with d1 _
 have : its = its' := by simpa using congrArg Array.toList d1
 subst this
 exact r.inj r'
theorem Inv.tuple_inj (I : Inv X pins σ H s) (h : SqT X.K H a xs) (h' : SqT X.K H a ys) : xs = ys := by
 obtain ⟨its, r, ⟨o, e, _, n, d⟩, _⟩ := I.tuple h
 obtain ⟨its', r', ⟨o', e', _, n', d'⟩, _⟩ := I.tuple h'
 rw [e] at e'; cases e'
 rw [d] at d'
 injection d' with d1 _
 have : its = its' := by simpa using congrArg Array.toList d1
 subst this
 exact r.inj r'
end
abbrev Cx.wish (X : Cx) (E : Value → Shared → Prop) : Cx := { X with xe := E }
abbrev Cx.nox (X : Cx) : Cx := X.wish fun _ _ => False
theorem Cx.Ok.wish {X : Cx} (ok : X.Ok) (E : Value → Shared → Prop) : (X.wish E).Ok :=
 ⟨ok.mod, ok.kind, ok.glob, ok.blt, ok.above, ok.inj, ok.has, ok.cab, ok.hd, ok.frames, ok.stk, ok.exf, ok.bs, ok.bsz, ok.noex, ok.exfs, ok.funs, ok.frf⟩
theorem Cx.Ok.unwish {X : Cx} {E : Value → Shared → Prop} (ok : (X.wish E).Ok) : X.Ok :=
 ⟨ok.mod, ok.kind, ok.glob, ok.blt, ok.above, ok.inj, ok.has, ok.cab, ok.hd, ok.frames, ok.stk, ok.exf, ok.bs, ok.bsz, ok.noex, ok.exfs, ok.funs, ok.frf⟩
section
variable {X : Cx} {pins : List (Addr × Obj)} {σ : St} {H : Hp} {s : Shared} {E : Value → Shared → Prop}
theorem Inv.wish (I : Inv X pins σ H s) (E : Value → Shared → Prop) : Inv (X.wish E) pins σ H s := ⟨I.ok.wish E, I.os, I.bare, I.base, I.loc, I.cell, I.free, I.freeC, I.pin, I.hok, I.len⟩
theorem Inv.unwish (I : Inv (X.wish E) pins σ H s) : Inv X pins σ H s := ⟨I.ok.unwish, I.os, I.bare, I.base, I.loc, I.cell, I.free, I.freeC, I.pin, I.hok, I.len⟩
theorem SP.unwish {D : Ends} {f : Flow} {s' : Shared} (h : SP (X.wish E) pins D f s') : SP X pins D f s' := by
 cases f with
 | next => obtain ⟨σ', H', I, q⟩ := h; exact ⟨σ', H', I.unwish, q⟩
 | brk => obtain ⟨σ', H', I, q⟩ := h; exact ⟨σ', H', I.unwish, q⟩
 | cont => obtain ⟨σ', H', I, q⟩ := h; exact ⟨σ', H', I.unwish, q⟩
 | ret u => obtain ⟨v, σ', H', I, r, q⟩ := h; exact ⟨v, σ', H', I.unwish, r, q⟩
theorem PSs.nox {st : List Stmt} {t : TS} (h : PSs X.nox st t) : PSs X st t := fun pins s σ H D I hw =>
 wpAny_mono (h pins s σ H D (I.wish _) hw) (fun _ _ q => q.unwish) fun _ _ z => False.elim z
end
section
variable {X : Cx} {st : Stmt} {rest : List Stmt} {t u : TS} {e : Expr} {te : TE} {pos : Pos}
def tNext : TS := fun D σ H => D.nx σ H
def tSeq (t u : TS) : TS := fun D σ H => t { D with nx := u D } σ H
theorem pss_nil : PSs X [] tNext := fun _ _ σ H _ I h => wpAny_execs_nil ⟨σ, H, I, h⟩
theorem pss_cons (h1 : PS X st t) (h2 : PSs X rest u) : PSs X (st :: rest) (tSeq t u) := by
 intro pins s σ H D I h
 refine wpAny_execs_cons (thn (h1 pins s σ H { D with nx := u D } I h) fun f s1 q => ?_)
 cases f with
 | next =>
  obtain ⟨σ', H', I', q⟩ := q
  exact h2 pins s1 σ' H' D I' q
 | ret v => exact q
 | brk => exact q
 | cont => exact q
theorem pss_one (h1 : PS X st t) : PSs X [st] t := by
 intro pins s σ H D I h
 refine wpAny_execs_cons (thn (h1 pins s σ H D I h) fun f s1 q => ?_)
 cases f with
 | next => exact wpAny_execs_nil q
 | ret v => exact q
 | brk => exact q
 | cont => exact q
theorem Inv.quiet {pins : List (Addr × Obj)} {σ : St} {H : Hp} {s : Shared} (I : Inv X pins σ H s) : interactive X.env = false := by simp [interactive, I.ok.kind]
def tDrop (te : TE) : TS := fun D σ H => te σ H fun _ H1 => D.nx σ H1
theorem ps_expr (he : PE X e te) (hs : swapsWith e none pos.line X.env = pure false := by rfl) : PS X (.Expr e pos) (tDrop te) := by
 intro pins s σ H D I h
 exact wpAny_Expr_any (thn (he pins s σ H _ I h) fun v s1 ⟨x, H1, I1, r1, q1⟩ => ⟨σ, H1, I1, q1⟩) I.quiet hs
def tRet (te : TE) : TS := fun D σ H => te σ H D.rt
theorem ps_ret (he : PE X e te) : PS X (.Return (some e) pos) (tRet te) := by
 intro pins s σ H D I h
 exact wpAny_Return_some (thn (he pins s σ H _ I h) fun v s1 ⟨x, H1, I1, r1, q1⟩ => ⟨x, σ, H1, I1, r1, q1⟩)
def tIfS (c : TT) (t u : TS) : TS := fun D σ H => c σ H fun b H1 => if b = true then t D σ H1 else u D σ H1
theorem ps_if {c : Expr} {a b : List Stmt} {tc : TT} (hc : PT X c tc) (ha : PSs X a t) (hb : PSs X b u) : PS X (.If c a b pos) (tIfS tc t u) := by
 intro pins s σ H D I h
 refine wpAny_If (thn (hc pins s σ H _ I h) fun d s1 ⟨H1, I1, q1⟩ => ?_)
 cases d with
 | true => exact ha pins s1 σ H1 D I1 q1
 | false => exact hb pins s1 σ H1 D I1 q1
def tNever : TS := fun _ _ _ => False
theorem ps_never : PS X st tNever := fun _ _ _ _ _ _ h => h.elim
end
abbrev TG := V → St → Hp → (St → Hp → Prop) → Prop
abbrev TGs := List V → St → Hp → (St → Hp → Prop) → Prop
def PG (X : Cx) (target : Expr) (t : TG) : Prop :=
 ∀ (pins : List (Addr × Obj)) (s : Shared) (σ : St) (H : Hp) (v : V) (u : Value) (Q : St → Hp → Prop), Inv X pins σ H s → RelV v u → t v σ H Q →
  wpAny (model X.prog X.w) X.A (assign target X.env u) (fun _ s' => ∃ σ' H', Inv X pins σ' H' s' ∧ Q σ' H') X.xe s
def PGs (X : Cx) (ts : List Expr) (t : TGs) : Prop :=
 ∀ (pins : List (Addr × Obj)) (s : Shared) (σ : St) (H : Hp) (vs : List V) (us : List Value) (Q : St → Hp → Prop), Inv X pins σ H s → Vals vs us → t vs σ H Q →
  wpAny (model X.prog X.w) X.A (assignInOrder ((assignEach ts X.env).map (·.2)) us) (fun _ s' => ∃ σ' H', Inv X pins σ' H' s' ∧ Q σ' H') X.xe s
section
variable {X : Cx} {pos : Pos}
def gName (i : Nat) : TG := fun v σ H Q => Q (σ.set i (some v)) H
theorem pg_name {i : Nat} {x : Str} (hN : X.N.Nodup) (hi : X.N[i]? = some x) (hx : Loc X.env.scope x) (hf : X.fn x = true ∨ X.env.scope.names.lookup x = some .local := by first | exact .inl rfl | exact .inr rfl | assumption) : PG X (.Name x pos) (gName i) := by
 intro pins s σ H v u Q I r h
 exact wpAny_assign_Name (store_ok I hN hi hx r (fun s' I' => ⟨_, H, I', h⟩) hf)
def gNil : TGs := fun vs σ H Q => vs = [] ∧ Q σ H
def gCons (t : TG) (u : TGs) : TGs := fun vs σ H Q => ∃ v r, vs = v :: r ∧ t v σ H fun σ' H' => u r σ' H' Q
theorem pgs_nil : PGs X [] gNil := by
 intro pins s σ H vs us Q I r h
 obtain ⟨e, h⟩ := h
 subst e
 cases r
 exact assignInOrder_nil ⟨σ, H, I, h⟩
theorem pgs_cons {e : Expr} {es : List Expr} {t : TG} {u : TGs} (h1 : PG X e t) (h2 : PGs X es u)
  (hs : (assignEach (e :: es) X.env).map (·.2) = assign e X.env :: (assignEach es X.env).map (·.2) := by rfl) : PGs X (e :: es) (gCons t u) := by
 intro pins s σ H vs us Q I r h
 obtain ⟨v, vr, e1, h⟩ := h
 subst e1
 cases r with
 | cons r rr =>
  rw [hs]
  refine assignInOrder_cons (thn (h1 pins s σ H _ _ _ I r h) fun _ s1 ⟨σ1, H1, I1, q1⟩ => ?_)
  exact h2 pins s1 σ1 H1 _ _ Q I1 rr q1
def gTup (K : PySem.W.Frag) (n : Nat) (t : TGs) : TG := fun v σ H Q => ∃ a xs, v = .ref a ∧ SqT K H a xs ∧ xs.length = n ∧ t xs σ H Q
theorem pg_tup {es : List Expr} {k : Nat} {t : TGs} {n : Nat} (hc : X.calm = true) (h : PGs X es t)
  (hn : (assignEach es X.env).length = n := by rfl) (hst : (assignEach es X.env).findIdx? (·.1) = none := by rfl) : PG X (.Tuple es k pos) (gTup X.K n t) := by
 intro pins s σ H v u Q I r hw
 obtain ⟨a, xs, e1, hq, hl, hw⟩ := hw
 subst e1
 cases r
 obtain ⟨its, rv, ht, hz⟩ := I.tuple hq
 refine assign_Tuple_tuple (I.ok.hd hc) ht (by simp [hn, ← hl, rv.length]) hst fun h' hx => ?_
 have I1 : Inv X pins σ H { s with heap := h' } := I.kept (t' := s.toks) fun b o e => hx b o (Nat.ne_of_lt (Heap.lt_size e)) e
 exact h pins _ σ H xs _ Q I1 (by simpa using rv) hw
def tAsg (te : TE) (g : TG) : TS := fun D σ H => te σ H fun x H1 => g x σ H1 D.nx
theorem ps_set {i : Nat} {x : Str} {e : Expr} {te : TE} {pos' : Pos} (hN : X.N.Nodup) (hi : X.N[i]? = some x) (hx : Loc X.env.scope x) (he : PE X e te) (hs : swapsWith e (some (.Name x pos')) pos.line X.env = pure false := by rfl) (hf : X.fn x = true ∨ X.env.scope.names.lookup x = some .local := by first | exact .inl rfl | exact .inr rfl | assumption) :
  PS X (.Assign [.Name x pos'] e pos) (tAsg te (gName i)) := by
 intro pins s σ H D I h
 refine wpAny_Assign_Name (thn (he pins s σ H _ I h) fun v s1 ⟨y, H1, I1, r1, q1⟩ => ?_) hs
 exact store_ok I1 hN hi hx r1 (fun s2 I2 => ⟨_, H1, I2, q1⟩) hf
def tPar (i j : Nat) (ta : TA) : TS := fun D σ H => ta σ H fun vs H1 => ∃ v w, vs = [v, w] ∧ D.nx ((σ.set i (some v)).set j (some w)) H1
theorem ps_par {i j : Nat} {x y : Str} {a b : Expr} {ta : TA} {px py pt : Pos} {kt k2 pt2} (hc : X.calm = true) (hN : X.N.Nodup) (hi : X.N[i]? = some x) (hj : X.N[j]? = some y) (hij : i ≠ j)
  (hx : X.env.scope.names.lookup x = some .local) (hy : X.env.scope.names.lookup y = some .local) (ha : PA X [a, b] ta)
  (hw : swappedStores [.Tuple [.Name x px, .Name y py] kt pt] (.Tuple [a, b] k2 pt2) X.env = pure (some [x, y]))
  (hs : swapsWithSole [.Tuple [.Name x px, .Name y py] kt pt] (.Tuple [a, b] k2 pt2) pos.line X.env = pure false := by rfl) :
  PS X (.Assign [.Tuple [.Name x px, .Name y py] kt pt] (.Tuple [a, b] k2 pt2) pos) (tPar i j ta) := by
 intro pins s σ H D I h
 rw [exec_Assign_arm]
 refine wpAny_bind (wpAny_standAt ?_)
 rw [hs]
 refine wpAny_bind (wpAny_pure ?_)
 rw [if_neg (by decide)]
 refine wpAny_bind (Tuple_ (thn (ha _ pins s σ H _ I h) fun us s1 ⟨vs, H1, I1, r1, q1⟩ => ?_))
 obtain ⟨v, w, e1, q1⟩ := q1
 subst e1
 obtain ⟨u1, u2, rfl, rv, rw'⟩ : ∃ u1 u2, us = [u1, u2] ∧ RelV v u1 ∧ RelV w u2 := by
  cases r1 with
  | cons p q =>
   cases q with
   | cons p' q' =>
    cases q'
    exact ⟨_, _, rfl, p, p'⟩
 refine wpAny_newObj_type ?_ (by show 2 ≤ sizeLine; decide)
 have I2 : Inv X pins σ H1 { s1 with heap := s1.heap.push { cls := .type "tuple", data := .seq [u1, u2].toArray } } := I1.kept (t' := s1.toks) fun b o e => Heap.get?_push_of_some _ e
 rw [hw]
 refine wpAny_bind (wpAny_pure ?_)
 show wpAny (model X.prog X.w) X.A (do rule "assign.swapped-stores"; let items ← unpackItems (.ref s1.heap.objs.size) 2 none; assignInOrder [fun v => bindName X.env y v, fun v => bindName X.env x v] items.reverse; pure Flow.next) _ _ _
 refine wpAny_bind (wpAny_rule (wpAny_bind (unpackItems_tuple (items := #[u1, u2]) (I.ok.hd hc) (IsTup.new s1.heap _) fun h' hx' => ?_)))
 have I3 := I2.kept (h' := h') (t' := s1.toks) fun b o e => hx' b o (Nat.ne_of_lt (Heap.lt_size e)) e
 show wpAny _ _ (assignInOrder [fun v => bindName X.env y v, fun v => bindName X.env x v] [u2, u1] >>= fun _ => pure Flow.next) _ _ _
 refine wpAny_bind (assignInOrder_cons (wpAny_bindName (store_ok I3 hN hj (.inl hy) rw' (fun s2 I4 => ?_) (.inr hy))))
 refine assignInOrder_cons (wpAny_bindName (store_ok I4 hN hi (.inl hx) rv (fun s3 I5 => assignInOrder_nil (wpAny_pure ?_)) (.inr hx)))
 rw [List.set_comm _ _ (Ne.symm hij)] at I5
 exact ⟨_, H1, I5, q1⟩
end
section
variable {X : Cx} {pos : Pos}
def tWhile (c : TT) (tb : TS) : TS := fun D σ H => ∃ W : Nat → St → Hp → Prop, (∃ m, W m σ H) ∧ ∀ m σ H, W m σ H →
 c σ H fun b H1 => if b = true then ∃ N : St → Hp → Prop, (∀ σ' H', N σ' H' → ∃ m', m' < m ∧ W m' σ' H') ∧ tb { D with nx := N, ct := N, bk := D.nx } σ H1 else D.nx σ H1
theorem ps_while {c : Expr} {body : List Stmt} {tc : TT} {tb : TS} (hp : PassesOwn (model X.prog X.w) X.A X.env X.xe) (hc : PT X c tc) (hb : PSs X body tb) : PS X (.While c body [] pos) (tWhile tc tb) := by
 intro pins s σ H D I h
 obtain ⟨W, ⟨m0, w0⟩, turn⟩ := h
 refine wpAny_While (codeAny_whileLoop (fun n s' => ∃ σ' H', Inv X pins σ' H' s' ∧ W n σ' H') ?_ m0 ⟨σ, H, I, w0⟩)
 rintro n s1 ⟨σ1, H1, I1, w1⟩
 refine wpAny_passesOwn hp (thn (hc pins s1 σ1 H1 _ I1 (turn n σ1 H1 w1)) fun b s2 ⟨H2, I2, q2⟩ => ?_)
 cases b with
 | true =>
  obtain ⟨N, hN, q2⟩ := q2
  rw [if_pos rfl]
  refine wpAny_passesOwn hp (thn (hb pins s2 σ1 H2 _ I2 q2) fun f s3 q3 => ?_)
  cases f with
  | next =>
   obtain ⟨σ3, H3, I3, n3⟩ := q3
   obtain ⟨m', hm, w3⟩ := hN σ3 H3 n3
   exact ⟨m', hm, σ3, H3, I3, w3⟩
  | cont =>
   obtain ⟨σ3, H3, I3, n3⟩ := q3
   obtain ⟨m', hm, w3⟩ := hN σ3 H3 n3
   exact ⟨m', hm, σ3, H3, I3, w3⟩
  | brk => exact q3
  | ret v => exact q3
 | false =>
  rw [if_neg Bool.false_ne_true]
  exact wpAny_execs_nil ⟨σ1, H2, I2, q2⟩
end
structure It where
 go : Nat → Hp → Prop
 yld : Nat → Hp → V → Hp → Prop
 stop : Nat → Hp → Prop
def FpOk (X : Cx) (pins : List (Addr × Obj)) (H : Hp) (b : Addr) : Prop :=
 H b = none ∧ b ≠ X.env.locals ∧ b ∉ X.fs ∧ (b ∈ X.ex ∨ X.s₀.heap.objs.size ≤ b) ∧ (∀ x c, X.env.cells.lookup x = some c → c ≠ b) ∧ ∀ p ∈ X.pn ++ pins, p.1 ≠ b
theorem Inv.fpOk {X : Cx} {pins : List (Addr × Obj)} {σ : St} {H H' : Hp} {s : Shared} {b : Addr} (I : Inv X pins σ H s) (hb : s.heap.objs.size ≤ b) (hn : H' b = none) : FpOk X pins H' b := by
 refine ⟨hn, Nat.ne_of_gt (Nat.lt_of_lt_of_le I.lt hb), I.nofs hb, .inr (Nat.le_trans I.sz hb), fun x c e z => ?_, fun p hp z => ?_⟩
 ·obtain ⟨v, q⟩ := I.cell x c e
  exact absurd (Nat.lt_of_lt_of_le q.lt (by rw [z]; exact hb)) (Nat.lt_irrefl _)
 ·exact absurd (Nat.lt_of_lt_of_le (Heap.lt_size (I.pin p hp).1) (by rw [z]; exact hb)) (Nat.lt_irrefl _)
structure Turn (P : Program) (w : World) (K : PySem.W.Frag) (tg : Expr) (J : It) (fp : List Addr) (it : Addr) (tn : Nat → Heap → Prop) : Prop where
 mem : it ∈ fp
 obj : ∀ i h, tn i h → ∀ b ∈ fp, ∃ o, h.get? b = some o ∧ ∀ v, o.data ≠ .cell v
 keep : ∀ i h h', tn i h → (∀ b ∈ fp, ∀ o, h.get? b = some o → h'.get? b = some o) → tn i h'
 item : ∀ (X : Cx), X.prog = P → X.w = w → X.K = K → X.calm = true → ∀ (i : Nat) (pins : List (Addr × Obj)) (s : Shared) (σ : St) (H : Hp) (E : Value → Shared → Prop), Inv X pins σ H s → (∀ b ∈ fp, FpOk X pins H b) → tn i s.heap → J.go i H →
  wpAny (model P w) X.A (pyNext (.ref it)) (fun r s1 => ∃ u, r = some u ∧
   wpAny (model P w) X.A (letOwnedTupleGo tg (.ref it) u) (fun _ s2 => ∃ x H', Inv X pins σ H' s2 ∧ RelV x u ∧ J.yld i H x H' ∧ tn (i + 1) s2.heap ∧ ∀ b ∈ fp, H' b = none) E s1) E s
 done : ∀ (X : Cx), X.prog = P → X.w = w → X.K = K → X.calm = true → ∀ (i : Nat) (pins : List (Addr × Obj)) (s : Shared) (σ : St) (H : Hp) (E : Value → Shared → Prop), Inv X pins σ H s → (∀ b ∈ fp, FpOk X pins H b) → tn i s.heap → J.stop i H →
  wpAny (model P w) X.A (pyNext (.ref it)) (fun r s1 => r = none ∧ Inv X pins σ H s1) E s
 self : ∀ (A : Around) (i : Nat) (s : Shared) (Q : Value → Shared → Prop) (E : Value → Shared → Prop), tn i s.heap → Q (.ref it) s → wpAny (model P w) A (pyIter (.ref it)) Q E s
abbrev TI := St → Hp → (It → Hp → Prop) → Prop
def PIE (X : Cx) (pins : List (Addr × Obj)) (σ : St) (tg : Expr) (R : It → Hp → Prop) (itv : Value) (s2 : Shared) : Prop :=
 ∃ (it : Addr) (fp : List Addr) (tn : Nat → Heap → Prop) (J : It) (H' : Hp), itv = .ref it ∧ Inv X pins σ H' s2 ∧ Turn X.prog X.w X.K tg J fp it tn ∧ tn 0 s2.heap ∧ (∀ b ∈ fp, FpOk X pins H' b) ∧ R J H'
def PI (X : Cx) (tg iter : Expr) (wi : TI) : Prop :=
 ∀ (pins : List (Addr × Obj)) (s : Shared) (σ : St) (H : Hp) (R : It → Hp → Prop), Inv X pins σ H s → wi σ H R →
  wpAny (model X.prog X.w) X.A (eval iter X.env) (fun v s1 => wpAny (model X.prog X.w) X.A (pyIter v) (PIE X pins σ tg R) X.xe s1) X.xe s
theorem go_of {M : Model} {A : Around} {E : Value → Shared → Prop} {s : Shared} {tg : Expr} {it : Addr} {u : Value} {o : Obj} {n : String} {vs : Array Value} {Q : Unit → Shared → Prop} (ho : s.heap.get? it = some o) (hc : o.cls = .type n) (hd : o.data = .fields vs)
  (hn : ["enumerate", "zip", "dict_itemiterator", "dict_reverseitemiterator", "odict_iterator", "itertools.zip_longest", "itertools.pairwise"].contains n = false) (hQ : Q () s) : wpAny M A (letOwnedTupleGo tg (.ref it) u) Q E s := by
 unfold letOwnedTupleGo
 cases tg <;> first
  | exact wpAny_pure hQ
  | (cases u <;> first
    | exact wpAny_pure hQ
    | (refine wpAny_bind (wpAny_load ho ?_)
       rw [hc, hd]
       show wpAny M A (if (["enumerate", "zip", "dict_itemiterator", "dict_reverseitemiterator", "odict_iterator", "itertools.zip_longest", "itertools.pairwise"].contains n && vs[0]? == some (rawInt _)) = true then _ else _) Q E s
       rw [if_neg (by intro h; rw [hn, Bool.false_and] at h; cases h)]
       exact wpAny_pure hQ))
def Itl (K : PySem.W.Frag) (a : Addr) : It :=
 ⟨fun i H => ∃ xs x, SqL K H a xs ∧ xs[i]? = some x, fun i H x H' => H' = H ∧ ∀ xs, SqL K H a xs → xs[i]? = some x, fun i H => ∃ xs, SqL K H a xs ∧ xs.length ≤ i⟩
def Itt (K : PySem.W.Frag) (a : Addr) : It :=
 ⟨fun i H => ∃ xs x, SqT K H a xs ∧ xs[i]? = some x, fun i H x H' => H' = H ∧ ∀ xs, SqT K H a xs → xs[i]? = some x, fun i H => ∃ xs, SqT K H a xs ∧ xs.length ≤ i⟩
def Itr (lo : Int) (n : Nat) : It := ⟨fun i _ => i < n, fun i H x H' => H' = H ∧ x = .int (lo + i), fun i _ => n ≤ i⟩
theorem turn_list {P : Program} {w : World} {K : PySem.W.Frag} {tg : Expr} (a it : Addr) : Turn P w K tg (Itl K a) [it] it (fun i h => h.IsListIter it a i) where
 mem := by simp
 obj := fun i h st b hb => by
  have e : b = it := by simpa using hb
  subst e
  obtain ⟨o, e, c, d⟩ := st
  exact ⟨o, e, fun v z => by rw [d] at z; cases z⟩
 keep := fun i h h' st k => st.at fun o e => k it (by simp) o e
 item := by
  intro X hP hw hK hc i pins s σ H E I hf st hg
  subst hP hw hK
  obtain ⟨xs, x, hq, hx⟩ := hg
  obtain ⟨its, rv, p, hz⟩ := I.list hq
  obtain ⟨u, hu, ru⟩ := rv.get hx
  obtain ⟨f0, f1, f2, f3, f4, f5⟩ := hf it (by simp)
  refine wpAny_pyNext_list_item st p.isList (x := u) (by simpa using hu) fun h' st' sb => ?_
  have I1 : Inv X pins σ H { s with heap := h' } := I.turned (t' := s.toks) (fun b o hb e => (sb.2 b hb).trans e) f0 f1 f3 f4 f5
  obtain ⟨o, e, c, d⟩ := id st'
  exact ⟨u, rfl, go_of (s := { s with heap := h' }) e c d (by decide) ⟨x, H, I1, ru, ⟨rfl, fun ys hy => by rw [I.list_inj hy hq]; exact hx⟩, st', fun b hb => (hf b hb).1⟩⟩
 done := by
  intro X hP hw hK hc i pins s σ H E I hf st hg
  subst hP hw hK
  obtain ⟨xs, hq, hx⟩ := hg
  obtain ⟨its, rv, p, hz⟩ := I.list hq
  obtain ⟨f0, f1, f2, f3, f4, f5⟩ := hf it (by simp)
  have hl := rv.length
  exact wpAny_pyNext_list_end (I.ok.hd hc) st p.isList (by simp; omega) fun h' eb => ⟨rfl, I.turned (t' := s.toks) (fun b o hb e => eb b o hb e) f0 f1 f3 f4 f5⟩
 self := fun _ _ _ _ _ st h => wpAny_pyIter_listiter st h
theorem turn_tuple {P : Program} {w : World} {K : PySem.W.Frag} {tg : Expr} (a it : Addr) : Turn P w K tg (Itt K a) [it] it (fun i h => h.IsTupleIter it a i) where
 mem := by simp
 obj := fun i h st b hb => by
  have e : b = it := by simpa using hb
  subst e
  obtain ⟨o, e, c, d⟩ := st
  exact ⟨o, e, fun v z => by rw [d] at z; cases z⟩
 keep := fun i h h' st k => st.at fun o e => k it (by simp) o e
 item := by
  intro X hP hw hK hc i pins s σ H E I hf st hg
  subst hP hw hK
  obtain ⟨xs, x, hq, hx⟩ := hg
  obtain ⟨its, rv, p, hz⟩ := I.tuple hq
  obtain ⟨u, hu, ru⟩ := rv.get hx
  obtain ⟨f0, f1, f2, f3, f4, f5⟩ := hf it (by simp)
  refine wpAny_pyNext_tuple_item st (show s.heap.IsTuple a its.toArray from p) (x := u) (by simpa using hu) fun h' st' sb => ?_
  have I1 : Inv X pins σ H { s with heap := h' } := I.turned (t' := s.toks) (fun b o hb e => (sb.2 b hb).trans e) f0 f1 f3 f4 f5
  obtain ⟨o, e, c, d⟩ := id st'
  exact ⟨u, rfl, go_of (s := { s with heap := h' }) e c d (by decide) ⟨x, H, I1, ru, ⟨rfl, fun ys hy => by rw [I.tuple_inj hy hq]; exact hx⟩, st', fun b hb => (hf b hb).1⟩⟩
 done := by
  intro X hP hw hK hc i pins s σ H E I hf st hg
  subst hP hw hK
  obtain ⟨xs, hq, hx⟩ := hg
  obtain ⟨its, rv, p, hz⟩ := I.tuple hq
  obtain ⟨f0, f1, f2, f3, f4, f5⟩ := hf it (by simp)
  have hl := rv.length
  exact wpAny_pyNext_tuple_end (I.ok.hd hc) st (show s.heap.IsTuple a its.toArray from p) (by simp; omega) fun h' eb => ⟨rfl, I.turned (t' := s.toks) (fun b o hb e => eb b o hb e) f0 f1 f3 f4 f5⟩
 self := fun _ _ _ _ _ st h => wpAny_pyIter_tupleiter st h
theorem turn_range {P : Program} {w : World} {K : PySem.W.Frag} {tg : Expr} (it : Addr) (lo : Int) (n : Nat) : Turn P w K tg (Itr lo n) [it] it (fun i h => IsRangeIter h it (lo + (i : Nat) * 1) ((n : Int) - (i : Nat)) 1) where
 mem := by simp
 obj := fun i h st b hb => by
  have e : b = it := by simpa using hb
  subst e
  exact ⟨_, st, fun v z => by
   have z' : Data.fields _ = Data.cell v := z
   cases z'⟩
 keep := fun i h h' st k => k it (by simp) _ st
 item := by
  intro X hP hw hK hc i pins s σ H E I hf st hg
  subst hP hw hK
  obtain ⟨f0, f1, f2, f3, f4, f5⟩ := hf it (by simp)
  have W := Walks.range (prog := X.prog) (w := X.w) (I.ok.hd hc) it lo 1 n
  refine W.item i s _ _ hg st fun v h' tk hv st' kk => ?_
  obtain ⟨t, rfl⟩ := hv
  have I1 : Inv X pins σ H { s with heap := h', toks := tk } := I.turned (fun b o hb e => kk b o (by simpa using hb) e) f0 f1 f3 f4 f5
  refine ⟨_, rfl, go_of (s := { s with heap := h', toks := tk }) (n := "range_iterator") st' rfl rfl (by decide) ⟨.int (lo + i), H, I1, ⟨t, ?_⟩, ⟨rfl, rfl⟩, st', fun b hb => (hf b hb).1⟩⟩
  rw [Int.mul_one]
 done := by
  intro X hP hw hK hc i pins s σ H E I hf st hg
  subst hP hw hK
  obtain ⟨f0, f1, f2, f3, f4, f5⟩ := hf it (by simp)
  exact wpAny_pyNext_range_end (I.ok.hd hc) st (by have : n ≤ i := hg; omega) fun h' eb => ⟨rfl, I.turned (t' := s.toks) (fun b o hb e => eb b o hb e) f0 f1 f3 f4 f5⟩
 self := fun _ _ _ _ _ st h => wpAny_pyIter_rangeiter st h
section
variable {X : Cx} {tg : Expr}
theorem range_it {pins : List (Addr × Obj)} {σ : St} {H : Hp} {s : Shared} {R : It → Hp → Prop} {E : Value → Shared → Prop} {lo hi : Int} {t u v : Tok} {tk : Nat} (I : Inv X pins σ H s) (h1 : -(2 ^ 62) ≤ lo) (h2 : lo < 2 ^ 62) (h3 : -(2 ^ 62) ≤ hi) (h4 : hi < 2 ^ 62)
  (q : R (Itr lo (hi - lo).toNat) H) : wpAny (model X.prog X.w) X.A (pyIter (.ref s.heap.objs.size)) (PIE X pins σ tg R) E { s with heap := s.heap.push { cls := .type "range", data := .fields #[.int lo t, .int hi u, .int 1 v] }, toks := tk } := by
 refine wpAny_pyIter_range (IsRange.new ..) (small_one h1 h2 h3 h4) ?_
 have I1 : Inv X pins σ H { s with heap := s.heap.push { cls := .type "range", data := .fields #[.int lo t, .int hi u, .int 1 v] }, toks := tk } := I.kept fun b o e => Heap.get?_push_of_some _ e
 refine ⟨(s.heap.push { cls := .type "range", data := .fields #[.int lo t, .int hi u, .int 1 v] }).objs.size, [(s.heap.push { cls := .type "range", data := .fields #[.int lo t, .int hi u, .int 1 v] }).objs.size], _, _, H, rfl,
  I1.kept (t' := tk) fun b o e => Heap.get?_push_of_some _ e, turn_range _ lo (hi - lo).toNat, ?_, fun b hb => ?_, q⟩
 ·have e1 : lo + ((0 : Nat) : Int) * 1 = lo := by simp
  have e2 : (((hi - lo).toNat : Nat) : Int) - ((0 : Nat) : Int) = Builtin.Range.rangeSize lo hi 1 := by rw [rangeSize_one]; split <;> omega
  show IsRangeIter _ _ (lo + ((0 : Nat) : Int) * 1) ((((hi - lo).toNat : Nat) : Int) - ((0 : Nat) : Int)) 1
  rw [e1, e2]
  exact Heap.get?_push_size _ rfl
 ·have e : b = (s.heap.push { cls := .type "range", data := .fields #[.int lo t, .int hi u, .int 1 v] }).objs.size := by simpa using hb
  subst e
  exact I1.fpOk (Nat.le_refl _) (I1.hok.fresh (Nat.le_refl _))
def iRng1 (ta : TA) : TI := fun σ H R => ta σ H fun vs H1 => ∃ j : Int, vs = [.int j] ∧ -(2 ^ 62) ≤ j ∧ j < 2 ^ 62 ∧ R (Itr 0 j.toNat) H1
theorem pi_range1 {a : Expr} {ta : TA} {p pos : Pos} (hg : Gl X "range") (hm : X.mg "range" = none) (ha : PA X [a] ta) (hs : starEach [a] X.env = [(false, eval a X.env)] := by rfl) : PI X tg (.Call (.Name "range" p) [a] [] pos) (iRng1 ta) := by
 intro pins s σ H R I h
 refine Call_ (ld_blt I hg hm boot_range (PyProof.Rows.callWith_type1 (thn (ha pos pins s σ H _ I h) fun us s1 ⟨vs, H1, I1, r1, q1⟩ => ?_) hs rfl))
 obtain ⟨j, e, q1, q2, q⟩ := q1
 subst e
 cases r1 with
 | cons r rr =>
  cases rr
  obtain ⟨t, rfl⟩ := r
  exact call_range_1 (range_it I1 (by omega) (by omega) q1 q2 (by simpa using q))
def tFor (wi : TI) (g : TG) (tb : TS) : TS := fun D σ H => wi σ H fun J H1 => ∃ W : Nat → Nat → St → Hp → Prop, (∃ m, W 0 m σ H1) ∧ ∀ i m σ H, W i m σ H →
 (J.stop i H ∧ D.nx σ H) ∨ (J.go i H ∧ ∃ N : St → Hp → Prop, (∀ σ' H', N σ' H' → ∃ m', m' < m ∧ W (i + 1) m' σ' H') ∧ ∀ x H', J.yld i H x H' → g x σ H' fun σ2 H2 => tb { D with nx := N, ct := N, bk := D.nx } σ2 H2)
def pinsAt (fp : List Addr) (h : Heap) : List (Addr × Obj) := fp.filterMap fun b => (h.get? b).map fun o => (b, o)
theorem mem_pinsAt {fp : List Addr} {h : Heap} {b : Addr} {o : Obj} (hb : b ∈ fp) (e : h.get? b = some o) : (b, o) ∈ pinsAt fp h := List.mem_filterMap.mpr ⟨b, hb, by rw [e]; rfl⟩
theorem of_pinsAt {fp : List Addr} {h : Heap} {p : Addr × Obj} (hp : p ∈ pinsAt fp h) : p.1 ∈ fp ∧ h.get? p.1 = some p.2 := by
 obtain ⟨b, hb, e⟩ := List.mem_filterMap.mp hp
 cases q : h.get? b with
 | none => rw [q] at e; cases e
 | some o =>
  rw [q] at e
  have e' : (b, o) = p := Option.some.inj e
  subst e'
  exact ⟨hb, q⟩
theorem Inv.pinned {pins : List (Addr × Obj)} {σ : St} {H : Hp} {s : Shared} {fp : List Addr} (I : Inv X pins σ H s) (hf : ∀ b ∈ fp, FpOk X pins H b) (ho : ∀ b ∈ fp, ∃ o, s.heap.get? b = some o ∧ ∀ v, o.data ≠ .cell v) : Inv X (pins ++ pinsAt fp s.heap) σ H s :=
 I.pins_of fun p hp => (List.mem_append.mp hp).elim (fun z => I.pin p (List.mem_append_right _ z)) fun z => by
  obtain ⟨hb, e⟩ := of_pinsAt z
  obtain ⟨f0, f1, f2, _⟩ := hf p.1 hb
  obtain ⟨o, e', d⟩ := ho p.1 hb
  rw [e] at e'; cases e'
  exact ⟨e, f0, f1, f2, d⟩
theorem Inv.unpinned {pins pl : List (Addr × Obj)} {σ : St} {H : Hp} {s : Shared} (I : Inv X (pins ++ pl) σ H s) : Inv X pins σ H s := I.pins_of fun p hp => I.pin p (List.mem_append_right _ (List.mem_append_left _ hp))
theorem ps_for {iter : Expr} {body : List Stmt} {wi : TI} {g : TG} {tb : TS} {pos : Pos} (hp : PassesOwn (model X.prog X.w) X.A X.env X.xe) (hc : X.calm = true) (hi : PI X tg iter wi) (hg : PG X tg g) (hb : PSs X body tb)
  (hs : ∀ x, foldedSetIterable iter X.env x = pure x := by intro _; rfl) : PS X (.For tg iter body [] pos) (tFor wi g tb) := by
 intro pins s σ H D I h
 refine wpAny_For (thn (hi pins s σ H _ I h) fun v s1 h1 => thn h1 fun itv s2 h2 => ?_) hs
 obtain ⟨it, fp, tn, J, H2, e, I2, T, st2, f2, W, ⟨m0, w0⟩, turn⟩ := h2
 subst e
 have stat : ∀ {H' : Hp}, (∀ b ∈ fp, H' b = none) → ∀ b ∈ fp, FpOk X pins H' b := fun hn b hb => ⟨hn b hb, (f2 b hb).2⟩
 refine codeAny_forLoop_any (fun n s' => ∃ i σ' H', Inv X pins σ' H' s' ∧ tn i s'.heap ∧ (∀ b ∈ fp, H' b = none) ∧ W i n σ' H') ?_ m0 ⟨0, σ, H2, I2, st2, fun b hb => (f2 b hb).1, w0⟩
 rintro n s3 ⟨i, σ3, H3, I3, st3, fr3, w3⟩
 rcases turn i n σ3 H3 w3 with ⟨stop, qn⟩ | ⟨go, N, hN, step⟩
 ·refine wpAny_passesOwn hp (thn (T.done X rfl rfl rfl hc i pins s3 σ3 H3 X.xe I3 (stat fr3) st3 stop) fun r s4 ⟨hr, I4⟩ => ?_)
  subst hr
  exact wpAny_execs_nil ⟨σ3, H3, I4, qn⟩
 ·refine wpAny_passesOwn hp (thn (T.item X rfl rfl rfl hc i pins s3 σ3 H3 X.xe I3 (stat fr3) st3 go) fun r s4 ⟨u, hr, h4⟩ => ?_)
  subst hr
  refine wpAny_passesOwn hp (thn h4 fun _ s5 ⟨x, H5, I5, r5, y5, st5, fr5⟩ => ?_)
  have I5' := I5.pinned (stat fr5) (T.obj _ _ st5)
  refine wpAny_passesOwn hp (thn (hg _ s5 σ3 H5 x u _ I5' r5 (step x H5 y5)) fun _ s6 ⟨σ6, H6, I6, q6⟩ => ?_)
  refine wpAny_passesOwn hp (thn (hb _ s6 σ6 H6 _ I6 q6) fun f s7 q7 => ?_)
  have again : ∀ {σ7 : St} {H7 : Hp}, Inv X (pins ++ pinsAt fp s5.heap) σ7 H7 s7 → N σ7 H7 → ∃ m, m < n ∧ ∃ i σ' H', Inv X pins σ' H' s7 ∧ tn i s7.heap ∧ (∀ b ∈ fp, H' b = none) ∧ W i m σ' H' := fun {σ7 H7} I7 n7 => by
   obtain ⟨m', hm, w7⟩ := hN σ7 H7 n7
   refine ⟨m', hm, i + 1, σ7, H7, I7.unpinned, T.keep _ _ _ st5 fun b hb o e => (I7.pin (b, o) (List.mem_append_right _ (List.mem_append_right _ (mem_pinsAt hb e)))).1, fun b hb => ?_, w7⟩
   obtain ⟨o, e, d⟩ := T.obj _ _ st5 b hb
   exact (I7.pin (b, o) (List.mem_append_right _ (List.mem_append_right _ (mem_pinsAt hb e)))).2.1
  cases f with
  | next => obtain ⟨σ7, H7, I7, n7⟩ := q7; exact again I7 n7
  | cont => obtain ⟨σ7, H7, I7, n7⟩ := q7; exact again I7 n7
  | brk => obtain ⟨σ7, H7, I7, q7⟩ := q7; exact ⟨σ7, H7, I7.unpinned, q7⟩
  | ret v => obtain ⟨x7, σ7, H7, I7, r7, q7⟩ := q7; exact ⟨x7, σ7, H7, I7.unpinned, r7, q7⟩
end
abbrev R2 := V → V → Hp → VK → Prop
def OpR (X : Cx) (f : Value → Value → Sem Value) (r : R2) : Prop :=
 ∀ (pins : List (Addr × Obj)) (s : Shared) (σ : St) (H : Hp) (x y : V) (v u : Value) (Q : VK), Inv X pins σ H s → RelV x v → RelV y u → r x y H Q →
  wpAny (model X.prog X.w) X.A (f v u) (EP X pins σ Q) X.xe s
def UnR (X : Cx) (f : Value → Sem Value) (r : V → Hp → VK → Prop) : Prop :=
 ∀ (pins : List (Addr × Obj)) (s : Shared) (σ : St) (H : Hp) (x : V) (v : Value) (Q : VK), Inv X pins σ H s → RelV x v → r x H Q →
  wpAny (model X.prog X.w) X.A (f v) (EP X pins σ Q) X.xe s
def CallR (X : Cx) (f : Value) (r : List V → Hp → VK → Prop) : Prop :=
 ∀ (pins : List (Addr × Obj)) (s : Shared) (σ : St) (H : Hp) (xs : List V) (us : List Value) (Q : VK), Inv X pins σ H s → Vals xs us → r xs H Q →
  wpAny (model X.prog X.w) X.A (call f us) (EP X pins σ Q) X.xe s
def tOp (r : R2) (ta tb : TE) : TE := fun σ H Q => ta σ H fun x H1 => tb σ H1 fun y H2 => r x y H2 Q
def tUn (r : V → Hp → VK → Prop) (ta : TE) : TE := fun σ H Q => ta σ H fun x H1 => r x H1 Q
def rI (C : Int → Int → Prop) (g : Int → Int → V) : R2 := fun x y H Q => ∃ i j, x = .int i ∧ y = .int j ∧ C i j ∧ Q (g i j) H
def rI0 (g : Int → Int → V) : R2 := fun x y H Q => ∃ i j, x = .int i ∧ y = .int j ∧ Q (g i j) H
def rU (g : Int → V) : V → Hp → VK → Prop := fun x H Q => ∃ i, x = .int i ∧ Q (g i) H
section
variable {X : Cx} {a b c : Expr} {ta tb tc : TE} {pos : Pos}
theorem binT (ha : PE X a ta) (hb : PE X b tb) {pins : List (Addr × Obj)} {s : Shared} {σ : St} {H : Hp} {R : V → V → Hp → Prop} (I : Inv X pins σ H s)
  (h : ta σ H fun x H1 => tb σ H1 fun y H2 => R x y H2) {Q : Value → Shared → Prop} {f : Value → Value → Sem Value}
  (hf : ∀ v u s2 x y H2, Inv X pins σ H2 s2 → RelV x v → RelV y u → R x y H2 → wpAny (model X.prog X.w) X.A (f v u) Q X.xe s2) :
  wpAny (model X.prog X.w) X.A (eval a X.env) (fun v s₁ => wpAny (model X.prog X.w) X.A (eval b X.env) (fun u s₂ => wpAny (model X.prog X.w) X.A (f v u) Q X.xe s₂) X.xe s₁) X.xe s := by
 refine thn (ha pins s σ H _ I h) fun v s1 ⟨x, H1, I1, r1, q1⟩ => ?_
 refine thn (hb pins s1 σ H1 _ I1 q1) fun u s2 ⟨y, H2, I2, r2, q2⟩ => ?_
 exact hf v u s2 x y H2 I2 r1 r2 q2
theorem pe_op {op : Operator} {r : R2} (ho : OpR X (binaryOp op) r) (ha : PE X a ta) (hb : PE X b tb) : PE X (.BinOp a op b pos) (tOp r ta tb) := by
 intro pins s σ H Q I h
 exact wpAny_BinOp (binT ha hb I h fun v u s2 x y H2 I2 rx ry q => ho pins s2 σ H2 x y v u Q I2 rx ry q)
theorem pe_un {op : UnaryOp} {r : V → Hp → VK → Prop} (ho : UnR X (unaryOp op) r) (ha : PE X a ta) : PE X (.UnaryOp op a pos) (tUn r ta) := by
 intro pins s σ H Q I h
 exact UnaryOp_ (thn (ha pins s σ H _ I h) fun v s1 ⟨x, H1, I1, r1, q1⟩ => ho pins s1 σ H1 x v Q I1 r1 q1)
theorem opI {f : Value → Value → Sem Value} {C : Int → Int → Prop} {g : Int → Int → Int}
  (rule : ∀ (i j : Int) (t u : Tok) (s : Shared) (Q : Value → Shared → Prop) (E : Value → Shared → Prop), C i j → Q (.int (g i j) s.toks) { s with toks := s.toks + 1 } → wpAny (model X.prog X.w) X.A (f (.int i t) (.int j u)) Q E s) :
  OpR X f (rI C fun i j => .int (g i j)) := by
 intro pins s σ H x y v u Q I rx ry h
 obtain ⟨i, j, rfl, rfl, hc, q⟩ := h
 obtain ⟨t, rfl⟩ := rx
 obtain ⟨t', rfl⟩ := ry
 exact rule i j t t' s _ _ hc ⟨.int (g i j), H, I.tok _, ⟨_, rfl⟩, q⟩
theorem opI0 {f : Value → Value → Sem Value} {g : Int → Int → Int}
  (rule : ∀ (i j : Int) (t u : Tok) (s : Shared) (Q : Value → Shared → Prop) (E : Value → Shared → Prop), Q (.int (g i j) s.toks) { s with toks := s.toks + 1 } → wpAny (model X.prog X.w) X.A (f (.int i t) (.int j u)) Q E s) :
  OpR X f (rI0 fun i j => .int (g i j)) := by
 intro pins s σ H x y v u Q I rx ry h
 obtain ⟨i, j, rfl, rfl, q⟩ := h
 obtain ⟨t, rfl⟩ := rx
 obtain ⟨t', rfl⟩ := ry
 exact rule i j t t' s _ _ ⟨.int (g i j), H, I.tok _, ⟨_, rfl⟩, q⟩
theorem opB0 {f : Value → Value → Sem Value} {g : Int → Int → Bool}
  (rule : ∀ (i j : Int) (t u : Tok) (s : Shared) (Q : Value → Shared → Prop) (E : Value → Shared → Prop), Q (.bool (g i j)) s → wpAny (model X.prog X.w) X.A (f (.int i t) (.int j u)) Q E s) :
  OpR X f (rI0 fun i j => .bl (g i j)) := by
 intro pins s σ H x y v u Q I rx ry h
 obtain ⟨i, j, rfl, rfl, q⟩ := h
 obtain ⟨t, rfl⟩ := rx
 obtain ⟨t', rfl⟩ := ry
 exact rule i j t t' s _ _ ⟨.bl (g i j), H, I, rfl, q⟩
def CPow (i j : Int) : Prop := 0 ≤ j ∧ j ≤ 1000000 ∧ i.natAbs < 2 ^ 64
def CMul (i j : Int) : Prop := (-(2 ^ 64) < i ∧ i < 2 ^ 64) ∨ (-(2 ^ 64) < j ∧ j < 2 ^ 64)
theorem CMul.ok {i j : Int} (h : CMul i j) : IntMulOk i j := by
 rcases h with ⟨h1, h2⟩ | ⟨h1, h2⟩
 ·exact .of_left (intBits_le_64 h1 h2)
 ·exact .of_right (intBits_le_64 h1 h2)
theorem op_add : OpR X (binaryOp .Add) (rI0 fun i j => .int (i + j)) := opI0 fun _ _ _ _ _ _ _ q => add_int q
theorem op_mod : OpR X (binaryOp .Mod) (rI (fun _ j => 0 < j) fun i j => .int (i % j)) := opI fun i j _ _ _ _ _ hc q => by
 have h1 : (0 : Int) < j := hc
 exact mod_int' (by omega) (by rw [Int.fmod_eq_emod_of_nonneg i (by omega)]; exact q)
theorem op_pow : OpR X (binaryOp .Pow) (rI CPow fun i j => .int (i ^ j.toNat)) := opI fun _ _ _ _ _ _ _ hc q => pow_int_small hc.1 hc.2.1 hc.2.2 q
theorem unI {f : Value → Sem Value} {g : Int → Int}
  (rule : ∀ (i : Int) (t : Tok) (s : Shared) (Q : Value → Shared → Prop) (E : Value → Shared → Prop), Q (.int (g i) s.toks) { s with toks := s.toks + 1 } → wpAny (model X.prog X.w) X.A (f (.int i t)) Q E s) :
  UnR X f (rU fun i => .int (g i)) := by
 intro pins s σ H x v Q I rx h
 obtain ⟨i, rfl, q⟩ := h
 obtain ⟨t, rfl⟩ := rx
 exact rule i t s _ _ ⟨.int (g i), H, I.tok _, ⟨_, rfl⟩, q⟩
theorem un_neg : UnR X (unaryOp .USub) (rU fun i => .int (-i)) := unI fun _ _ _ _ _ q => neg_int q
end
def scal : V → V → Bool
 | .non, .non => true | .non, .int _ => true | .int _, .non => true | .non, .bl _ => true | .bl _, .non => true | .non, .str _ => true | .str _, .non => true
 | .int _, .int _ => true | .bl _, .bl _ => true | .str _, .str _ => true | .byt _, .byt _ => true
 | .int _, .str _ => true | .str _, .int _ => true | .bl _, .str _ => true | .str _, .bl _ => true
 | _, _ => false
def rEq : R2 := fun x y H Q => scal x y = true ∧ Q (.bl (decide (x = y))) H
def rNe : R2 := fun x y H Q => scal x y = true ∧ Q (.bl (!decide (x = y))) H
theorem dec_int {i j : Int} : decide (V.int i = V.int j) = (i == j) := by
 rw [Bool.eq_iff_iff]
 simp
theorem dec_bl {i j : Bool} : decide (V.bl i = V.bl j) = (i == j) := by
 rw [Bool.eq_iff_iff]
 simp
theorem dec_str {i j : Str} : decide (V.str i = V.str j) = (i == j) := by
 rw [Bool.eq_iff_iff]
 simp
theorem dec_byt {i j : Array UInt8} : decide (V.byt i = V.byt j) = (i.toList == j.toList) := by
 rw [Bool.eq_iff_iff]
 cases i
 cases j
 simp
section
variable {X : Cx} {a b c : Expr} {ta tb tc : TE} {pos : Pos}
theorem fin_bl {pins : List (Addr × Obj)} {σ : St} {H : Hp} {s : Shared} {Q : VK} {k k' : Bool} (I : Inv X pins σ H s) (q : Q (.bl k) H) (e : k = k') : EP X pins σ Q (.bool k') s := by
 subst e
 exact ⟨.bl k, H, I, rfl, q⟩
theorem op_eq : OpR X (compareOp .Eq) rEq := by
 intro pins s σ H x y v u Q I rx ry h
 obtain ⟨hs, q⟩ := h
 cases x with
 | non =>
  cases rx
  cases y with
  | non => cases ry; exact PySem.EqNone.eq_none_none (fin_bl I q (by simp))
  | bl j => cases ry; exact PySem.EqNone.eq_none_bool (fin_bl I q (by simp))
  | int j => obtain ⟨t', rfl⟩ := ry; exact PySem.EqNone.eq_none_int (fin_bl I q (by simp))
  | str j => obtain ⟨t', rfl⟩ := ry; exact PySem.EqNone.eq_none_str (fin_bl I q (by simp))
  | _ => exact absurd (show false = true from hs) Bool.false_ne_true
 | bl i =>
  cases rx
  cases y with
  | non => cases ry; exact PySem.EqNone.eq_bool_none (fin_bl I q (by simp))
  | bl j => cases ry; exact eq_bool (fin_bl I q dec_bl)
  | str j => obtain ⟨t', rfl⟩ := ry; exact PySem.EqMixed.eq_bool_str (fin_bl I q (by simp))
  | _ => exact absurd (show false = true from hs) Bool.false_ne_true
 | int i =>
  obtain ⟨t, rfl⟩ := rx
  cases y with
  | non => cases ry; exact PySem.EqNone.eq_int_none (fin_bl I q (by simp))
  | int j => obtain ⟨t', rfl⟩ := ry; exact eq_int (fin_bl I q dec_int)
  | str j => obtain ⟨t', rfl⟩ := ry; exact PySem.EqMixed.eq_int_str (fin_bl I q (by simp))
  | _ => exact absurd (show false = true from hs) Bool.false_ne_true
 | str i =>
  obtain ⟨t, rfl⟩ := rx
  cases y with
  | non => cases ry; exact PySem.EqNone.eq_str_none (fin_bl I q (by simp))
  | bl j => cases ry; exact PySem.EqMixed.eq_str_bool (fin_bl I q (by simp))
  | int j => obtain ⟨t', rfl⟩ := ry; exact PySem.EqMixed.eq_str_int (fin_bl I q (by simp))
  | str j => obtain ⟨t', rfl⟩ := ry; exact eq_str (fin_bl I q dec_str)
  | _ => exact absurd (show false = true from hs) Bool.false_ne_true
 | byt i =>
  obtain ⟨t, rfl⟩ := rx
  cases y with
  | byt j => obtain ⟨t', rfl⟩ := ry; exact PySem.W.eq_bytes (fin_bl I q dec_byt)
  | _ => exact absurd (show false = true from hs) Bool.false_ne_true
 | _ => cases y <;> exact absurd (show false = true from hs) Bool.false_ne_true
theorem op_ne : OpR X (compareOp .NotEq) rNe := by
 intro pins s σ H x y v u Q I rx ry h
 obtain ⟨hs, q⟩ := h
 cases x with
 | non =>
  cases rx
  cases y with
  | non => cases ry; exact PySem.EqNone.ne_none_none (fin_bl I q (by simp))
  | bl j => cases ry; exact PySem.EqNone.ne_none_bool (fin_bl I q (by simp))
  | int j => obtain ⟨t', rfl⟩ := ry; exact PySem.EqNone.ne_none_int (fin_bl I q (by simp))
  | str j => obtain ⟨t', rfl⟩ := ry; exact PySem.EqNone.ne_none_str (fin_bl I q (by simp))
  | _ => exact absurd (show false = true from hs) Bool.false_ne_true
 | bl i =>
  cases rx
  cases y with
  | non => cases ry; exact PySem.EqNone.ne_bool_none (fin_bl I q (by simp))
  | bl j => cases ry; exact ne_bool (fin_bl I q (congrArg not dec_bl))
  | str j => obtain ⟨t', rfl⟩ := ry; exact PySem.EqMixed.ne_bool_str (fin_bl I q (by simp))
  | _ => exact absurd (show false = true from hs) Bool.false_ne_true
 | int i =>
  obtain ⟨t, rfl⟩ := rx
  cases y with
  | non => cases ry; exact PySem.EqNone.ne_int_none (fin_bl I q (by simp))
  | int j => obtain ⟨t', rfl⟩ := ry; exact ne_int (fin_bl I q (congrArg not dec_int))
  | str j => obtain ⟨t', rfl⟩ := ry; exact PySem.EqMixed.ne_int_str (fin_bl I q (by simp))
  | _ => exact absurd (show false = true from hs) Bool.false_ne_true
 | str i =>
  obtain ⟨t, rfl⟩ := rx
  cases y with
  | non => cases ry; exact PySem.EqNone.ne_str_none (fin_bl I q (by simp))
  | bl j => cases ry; exact PySem.EqMixed.ne_str_bool (fin_bl I q (by simp))
  | int j => obtain ⟨t', rfl⟩ := ry; exact PySem.EqMixed.ne_str_int (fin_bl I q (by simp))
  | str j => obtain ⟨t', rfl⟩ := ry; exact ne_str (fin_bl I q (congrArg not dec_str))
  | _ => exact absurd (show false = true from hs) Bool.false_ne_true
 | byt i =>
  obtain ⟨t, rfl⟩ := rx
  cases y with
  | byt j => obtain ⟨t', rfl⟩ := ry; exact PySem.W.ne_bytes (fin_bl I q (congrArg not dec_byt))
  | _ => exact absurd (show false = true from hs) Bool.false_ne_true
 | _ => cases y <;> exact absurd (show false = true from hs) Bool.false_ne_true
theorem op_lt : OpR X (compareOp .Lt) (rI0 fun i j => .bl (decide (i < j))) := opB0 fun _ _ _ _ _ _ _ q => lt_int q
theorem op_gt : OpR X (compareOp .Gt) (rI0 fun i j => .bl (decide (j < i))) := opB0 fun _ _ _ _ _ _ _ q => gt_int q
theorem op_ge : OpR X (compareOp .GtE) (rI0 fun i j => .bl (decide (j ≤ i))) := opB0 fun _ _ _ _ _ _ _ q => ge_int q
theorem nomark (b : Expr) {op : CmpOp} (h : op ≠ .In := by decide) (h2 : op ≠ .NotIn := by decide) : behindInMarks op b = false := by
 have e1 : (op == CmpOp.In) = false := by cases op <;> first | rfl | exact absurd rfl h
 have e2 : (op == CmpOp.NotIn) = false := by cases op <;> first | rfl | exact absurd rfl h2
 cases b <;> simp [behindInMarks, e1, e2]
theorem pe_cmpR {op : CmpOp} {r : R2} (ho : OpR X (compareOp op) r) (ha : PE X a ta) (hb : PE X b tb) (hm : behindInMarks op b = false) : PE X (.Compare a [op] [b] pos) (tOp r ta tb) := by
 intro pins s σ H Q I h
 exact wpAny_Compare1 (binT ha hb I h fun v u s2 x y H2 I2 rx ry q => ho pins s2 σ H2 x y v u Q I2 rx ry q) hm
def tTest (t : TE) : TT := fun σ H Q => t σ H fun x H' => ∃ k, x = .bl k ∧ Q k H'
theorem pt_cmpR {op : CmpOp} {r : R2} (ho : OpR X (compareOp op) r) (ha : PE X a ta) (hb : PE X b tb) (hm : behindInMarks op b = false) : PT X (.Compare a [op] [b] pos) (tTest (tOp r ta tb)) := by
 intro pins s σ H Q I h
 refine wpAny_isTrue_Compare1 (thn (ha pins s σ H _ I h) fun v s1 ⟨x, H1, I1, r1, q1⟩ => thn (hb pins s1 σ H1 _ I1 q1) fun u s2 ⟨y, H2, I2, r2, q2⟩ =>
  thn (ho pins s2 σ H2 x y v u _ I2 r1 r2 q2) fun c s3 ⟨z, H3, I3, r3, k, e, q3⟩ => ?_) hm
 subst e
 cases r3
 exact wpAny_truthy_bool ⟨H3, I3, q3⟩
theorem line63 : (sizeLine : Nat) < 2 ^ 63 := by rw [sizeLine_eq]; decide
theorem op_add_str : OpR X (binaryOp .Add) (fun x y H Q => ∃ i j, x = .str i ∧ y = .str j ∧ i.length + j.length ≤ sizeLine ∧ Q (.str (i ++ j)) H) := by
 intro pins s σ H x y v u Q I rx ry h
 obtain ⟨i, j, rfl, rfl, hz, q⟩ := h
 obtain ⟨t, rfl⟩ := rx
 obtain ⟨t', rfl⟩ := ry
 exact add_str (fun t' tk => ⟨.str (i ++ j), H, I.tok _, ⟨_, rfl⟩, q⟩) hz
theorem vals1 {x : V} {us : List Value} (r : Vals [x] us) : ∃ u, us = [u] ∧ RelV x u := by
 cases r with
 | cons r1 r2 => cases r2; exact ⟨_, rfl, r1⟩
theorem vals2 {x y : V} {us : List Value} (r : Vals [x, y] us) : ∃ u w', us = [u, w'] ∧ RelV x u ∧ RelV y w' := by
 cases r with
 | cons r1 r2 =>
  cases r2 with
  | cons r3 r4 => cases r4; exact ⟨_, _, rfl, r1, r3⟩
theorem call_max2 (hc : X.calm = true) : CallR X (.builtin "max") (fun xs H Q => ∃ i j, xs = [.int i, .int j] ∧ Q (.int (if j > i then j else i)) H) := by
 intro pins s σ H xs us Q I r h
 obtain ⟨i, j, rfl, q⟩ := h
 obtain ⟨u, w', rfl, ⟨t, rfl⟩, ⟨t', rfl⟩⟩ := vals2 r
 refine max_two_ints (I.ok.hd hc) fun h' tk k => ⟨_, H, I.kept k, ?_, q⟩
 by_cases hj : j > i
 ·rw [if_pos hj, if_pos hj]; exact ⟨_, rfl⟩
 ·rw [if_neg hj, if_neg hj]; exact ⟨_, rfl⟩
end
theorem lookIn_ns {h : Heap} {dx : Addr} {mA : Str → Option Value} (n : h.Ns1 dx mA) : ∃ od, h.get? dx = some od ∧ ∀ name, PySem.W.lookIn name od = some (mA name) := by
 obtain ⟨o, es, ep, ho, hd, hk, _, hm⟩ := n
 refine ⟨o, ho, fun name => ?_⟩
 have e := hm name
 unfold nsFind findBy at e
 rw [← Array.find?_toList] at e
 unfold PySem.W.lookIn
 rw [hd]
 dsimp only
 split
 ·rename_i y q
  rw [q] at e
  exact congrArg some e
 ·rename_i q
  rw [q] at e
  have a : es.toList.any (·.refKey) = false := by
   rw [List.any_eq_false]
   intro y hy
   obtain ⟨z, t, hkey⟩ := hk y (Array.mem_toList_iff.mp hy)
   simp [DictEntry.refKey, hkey]
  have a' : ¬ es.toList.any (·.refKey) = true := by rw [a]; exact Bool.false_ne_true
  rw [if_neg a']
  exact congrArg some e
def putF (f : Str) (v : V) : List (Str × V) → List (Str × V)
 | [] => [(f, v)]
 | (g, x) :: r => if g = f then (g, v) :: r else (g, x) :: putF f v r
theorem lookup_putF (f g : Str) (v : V) : ∀ fs : List (Str × V), (putF f v fs).lookup g = if g = f then some v else fs.lookup g
 | [] => by
  show List.lookup g [(f, v)] = _
  by_cases h : g = f
  ·have hb : (g == f) = true := beq_iff_eq.mpr h
   simp only [List.lookup, hb, if_pos h]
  ·have hb : (g == f) = false := beq_eq_false_iff_ne.mpr h
   simp only [List.lookup, hb, if_neg h]
 | (k, x) :: r => by
  have ih := lookup_putF f g v r
  rw [show putF f v ((k, x) :: r) = (if k = f then (k, v) :: r else (k, x) :: putF f v r) from rfl]
  by_cases hk : k = f
  ·rw [if_pos hk]
   by_cases h : g = k
   ·have hb : (g == k) = true := beq_iff_eq.mpr h
    simp only [List.lookup, hb, if_pos (h.trans hk)]
   ·have hb : (g == k) = false := beq_eq_false_iff_ne.mpr h
    simp only [List.lookup, hb, if_neg (fun e : g = f => h (e.trans hk.symm))]
  ·rw [if_neg hk]
   by_cases h : g = k
   ·have hb : (g == k) = true := beq_iff_eq.mpr h
    simp only [List.lookup, hb, if_neg (fun e : g = f => hk (h.symm.trans e))]
   ·have hb : (g == k) = false := beq_eq_false_iff_ne.mpr h
    simp only [List.lookup, hb]
    exact ih
theorem RelO.some_of {v : V} {o : Option Value} (r : RelO (some v) o) : ∃ u, o = some u ∧ RelV v u := by
 cases o with
 | none => exact (show False from r).elim
 | some u => exact ⟨u, rfl, r⟩
theorem handed_of {v : V} {u : Value} (r : RelV v u) : PySem.W.handedIn u = true := by
 cases v with
 | non => cases (show u = Value.none from r); rfl
 | bl b => cases (show u = Value.bool b from r); rfl
 | int i => obtain ⟨t, e⟩ := (show ∃ t, u = Value.int i t from r); cases e; rfl
 | str x => obtain ⟨t, e⟩ := (show ∃ t, u = Value.str x t from r); cases e; rfl
 | byt b => obtain ⟨t, e⟩ := (show ∃ t, u = Value.bytes b t from r); cases e; rfl
 | flt b => obtain ⟨t, e⟩ := (show ∃ t, u = Value.float b t from r); cases e; rfl
 | ref a => cases (show u = Value.ref a from r); rfl
 | ty n => cases (show u = Value.type n from r); rfl
section
variable {X : Cx} {pins : List (Addr × Obj)} {σ : St} {H : Hp} {s : Shared} {a C dx : Addr} {fs : List (Str × V)} {f : Str} {v : V} {A : Around} {E : Value → Shared → Prop}
theorem attr_of {prog : Program} {w : World} {env : Env} {e : Expr} {f : Str} {pos : Pos} {s : Shared} {Q : Value → Shared → Prop} (hb : attributeBase e f env (eval e env) = eval e env)
  (h : wpAny (model prog w) A (eval e env) (fun o s₁ => wpAny (model prog w) A (getAttr o f true) Q E s₁) E s) : wpAny (model prog w) A (eval (.Attribute e f pos) env) Q E s :=
 Attribute_any_ h (by rw [arm_eval_Attribute, hb])
end
structure Room (k : Nat) (A : Around) : Prop where
 hd : A.handled = none
 dp : A.depth + 3 * k + 5 < recursionLimit
 un : A.units + 16 * k + 200 < cLine
 gd : A.guards = some []
theorem Room.mono {j k : Nat} {A : Around} (r : Room k A) (h : j ≤ k) : Room j A := ⟨r.hd, by have := r.dp; omega, by have := r.un; omega, r.gd⟩
theorem Room.deeper {k : Nat} {A : Around} (r : Room (k + 1) A) (env : Env) : Room k (A.deeper env) :=
 ⟨r.hd, by have := r.dp; show A.depth + 1 + 3 * k + 5 < _; omega, by have := r.un; show A.units + 3 + 16 * k + 200 < _; omega, r.gd⟩
theorem make_depth {A : Around} {C : Addr} {us : List Value} {kw : List (Str × Value)} : (A.under (.builtin "type.__call__" ⟨.ref C :: us, kw⟩)).depth = A.depth + 1 := by
 first | rfl | simp [Around.under, Code.weight, Code.isCreation, Code.isGuard, Code.isCaller, Code.frames, Code.isFrame, guardIds]
theorem make_units {A : Around} {C : Addr} {us : List Value} {kw : List (Str × Value)} : (A.under (.builtin "type.__call__" ⟨.ref C :: us, kw⟩)).units = A.units + 1 := by
 first | rfl | simp [Around.under, Code.cUnits, Code.frames, Code.isFrame]
theorem make_guards {A : Around} {C : Addr} {us : List Value} {kw : List (Str × Value)} : (A.under (.builtin "type.__call__" ⟨.ref C :: us, kw⟩)).guards = A.guards := by
 cases h : A.guards <;> first | (simp [Around.under, Code.guards, Code.isGuard, guardIds, pushGuards, h]; done) | (show pushGuards _ _ = _; rw [h]; rfl)
theorem Room.make {k : Nat} {A : Around} (r : Room (k + 1) A) (C : Addr) (us : List Value) (kw : List (Str × Value)) : Room k (A.under (.builtin "type.__call__" ⟨.ref C :: us, kw⟩)) :=
 ⟨r.hd, by have := r.dp; rw [make_depth]; omega, by have := r.un; rw [make_units]; omega, by rw [make_guards]; exact r.gd⟩
theorem Room.depth {k : Nat} {A : Around} (r : Room k A) : A.depth < recursionLimit := by have := r.dp; omega
theorem Room.units {k : Nat} {A : Around} (r : Room k A) : A.units + 64 < cLine := by have := r.un; omega
def tNil : TA := fun _ H Q => Q [] H
def tCons (ta : TE) (tr : TA) : TA := fun σ H Q => ta σ H fun x H1 => tr σ H1 fun xs H2 => Q (x :: xs) H2
section
variable {X : Cx} {e : Expr} {es : List Expr} {te : TE} {t : TA} {pos : Pos}
theorem pa_nil : PA X [] tNil := fun _ _ _ _ H Q I h => Calls.spliced_nil ⟨[], H, I, .nil, h⟩
theorem pa_cons (ha : PE X e te) (hr : PA X es t) (hs : starEach (e :: es) X.env = (false, eval e X.env) :: starEach es X.env := by rfl) : PA X (e :: es) (tCons te t) := by
 intro pos pins s σ H Q I h
 rw [hs]
 show wpAny _ _ (spliced ((false, eval e X.env) :: backTo pos (starEach es X.env))) _ _ s
 refine Calls.spliced_cons (thn (ha pins s σ H _ I h) fun u s1 ⟨x, H1, I1, r1, q1⟩ => ?_)
 exact thn (hr pos pins s1 σ H1 _ I1 q1) fun us s2 ⟨xs, H2, I2, r2, q2⟩ => ⟨x :: xs, H2, I2, .cons r1 r2, q2⟩
def tTup (t : TA) : TE := fun σ H Q => t σ H fun xs H1 => xs.length ≤ sizeLine ∧ ∀ p, H1 p = none → Q (.ref p) (upd H1 p (.tup xs))
def tLst (t : TA) : TE := fun σ H Q => t σ H fun xs H1 => xs.length ≤ sizeLine ∧ ∀ p, H1 p = none → Q (.ref p) (upd H1 p (.lst xs))
theorem pe_tup {x1} (h : PA X es t) : PE X (.Tuple es x1 pos) (tTup t) := by
 intro pins s σ H Q I hq
 refine wpAny_Tuple_spliced (thn (h pos pins s σ H _ I hq) fun us s1 ⟨xs, H1, I1, r, z, q⟩ => ⟨by rw [← r.length]; exact z, ?_⟩)
 have hf : H1 s1.heap.objs.size = none := I1.hok.fresh (Nat.le_refl _)
 refine ⟨.ref s1.heap.objs.size, upd H1 s1.heap.objs.size (.tup xs), I1.laid (t' := s1.toks) (fun b u e => Heap.get?_push_of_some _ e) (Nat.le_refl _) ?_, rfl, q _ hf⟩
 exact ⟨z, us, r, ⟨_, Heap.get?_push_size _ rfl, rfl, rfl, _, rfl⟩⟩
theorem pe_lst (h : PA X es t) : PE X (.List es pos) (tLst t) := by
 intro pins s σ H Q I hq
 refine wpAny_List_spliced (thn (h pos pins s σ H _ I hq) fun us s1 ⟨xs, H1, I1, r, z, q⟩ => ⟨by rw [← r.length]; exact z, ?_⟩)
 have hf : H1 s1.heap.objs.size = none := I1.hok.fresh (Nat.le_refl _)
 refine ⟨.ref s1.heap.objs.size, upd H1 s1.heap.objs.size (.lst xs), I1.laid (t' := s1.toks) (fun b u e => Heap.get?_push_of_some _ e) (Nat.le_refl _) ?_, rfl, q _ hf⟩
 exact ⟨z, us, 0, r, Heap.get?_push_size _ rfl⟩
end
abbrev Sp := List V → Hp → VK → XK → Prop
abbrev CXT := List Env → Hp → Shared → XK → Value → Shared → Prop
structure Env0 (P : Program) (w : World) (K : PySem.W.Frag) (mg : Str → Option Value) (base : Heap) (A : Around) (outer : List Env) (s : Shared) (H : Hp) : Prop where
 frames : A.frames = some outer
 mod : Mod K mg base
 bs : ∀ b o, base.get? b = some o → s.heap.get? b = some o ∧ H b = none
 bsz : base.objs.size ≤ s.heap.objs.size
 funs : s.heap.FunFrames base outer
 frf : ∀ b ∈ frs outer, H b = none
 hok : HOk P w H s.heap
 bare : AllBare s.gens
def CE (outer : List Env) (P : Program) (w : World) (H : Hp) (s : Shared) (Q : VK) (u : Value) (s' : Shared) : Prop :=
 ∃ v H', s'.os = s.os ∧ AllBare s'.gens ∧ Un (frs outer) [] H H' s.heap s'.heap ∧ HOk P w H' s'.heap ∧ RelV v u ∧ Q v H'
def CR (CX : CXT) (outer : List Env) (P : Program) (w : World) (H : Hp) (s : Shared) (Q : VK) (E : XK) (r : Result) (s' : Shared) : Prop :=
 match r with
 | .ok (.ret u) => CE outer P w H s Q u s'
 | .ok _ => False
 | .error e => CX outer H s E e s'
structure FnOk (P : Program) (w : World) (K : PySem.W.Frag) (mg : Str → Option Value) (base : Heap) (CX : CXT) (k : Nat) (f : Addr) (fd : FuncData) (ps : List Str) (sp : Sp) : Prop where
 len : ∀ vs H Q E, sp vs H Q E → vs.length = ps.length
 run : ∀ (A : Around) (outer : List Env) (s : Shared) (H : Hp) (args : Args) (us : List Value) (vs : List V) (Q : VK) (E : XK), Room k A → Env0 P w K mg base A outer s H → BindsTo s fd args (ps.zip us) → Vals vs us → sp vs H Q E →
  codeAny (model P w) A (.call (.ref f) args) (CR CX outer P w H s Q E) s
theorem Env0.make {P : Program} {w : World} {K : PySem.W.Frag} {mg : Str → Option Value} {base : Heap} {A : Around} {outer : List Env} {s : Shared} {H : Hp} (e : Env0 P w K mg base A outer s H) (C : Addr) (us : List Value) (kw : List (Str × Value)) :
  Env0 P w K mg base (A.under (.builtin "type.__call__" ⟨.ref C :: us, kw⟩)) outer s H := ⟨by first | exact e.frames | (simpa [Around.under, Code.envs, Code.isFrame, pushEnvs] using e.frames), e.mod, e.bs, e.bsz, e.funs, e.frf, e.hok, e.bare⟩
section
variable {X : Cx} {pins : List (Addr × Obj)} {σ : St} {H : Hp} {s s' : Shared}
theorem Inv.env0 (I : Inv X pins σ H s) : Env0 X.prog X.w X.K X.mg X.base X.A X.stack s H :=
 ⟨I.ok.frames, I.ok.mod, I.bs, Nat.le_trans I.ok.bsz I.sz, I.stack, I.stkFree, I.hok, I.bare⟩
theorem Inv.after {Q : VK} {u : Value} (I : Inv X pins σ H s) (h : CE X.stack X.prog X.w H s Q u s') : EP X pins σ Q u s' := by
 obtain ⟨v, H', os, bare, un, hok, r, q⟩ := h
 obtain ⟨hh, g, d, t, os'⟩ := s'
 obtain rfl : os' = s.os := os
 exact ⟨v, H', I.call (h' := hh) (g' := g) (d' := d) (t' := t) (ch := []) un hok bare (fun b z => absurd z (by simp)), r, q⟩
end
def tCall (sp : Sp) (dvs : List V) (E : XK) (t : TA) : TE := fun σ H Q => t σ H fun vs H1 => sp (vs ++ dvs) H1 Q E
def Binds (K : PySem.W.Frag) (fd : FuncData) (ps : List Str) (ds : List Value) : Prop :=
 ∀ (s : Shared) (us : List Value), K.In s.heap → (us ++ ds).length = ps.length → BindsTo s fd ⟨us, []⟩ (ps.zip (us ++ ds))
theorem Binds.all {K : PySem.W.Frag} {fd : FuncData} {ps : List Str} (h : ∀ us : List Value, us.length = ps.length → bindArgs fd ⟨us, []⟩ = pure (ps.zip us)) : Binds K fd ps [] := fun s us _ hl => by
 rw [List.append_nil] at hl ⊢
 exact .of_eq (h us hl)
def Passes (CX : CXT) (X : Cx) (E : XK) : Prop := ∀ (pins : List (Addr × Obj)) (σ : St) (H : Hp) (s : Shared) (e : Value) (s' : Shared), Inv X pins σ H s → CX X.stack H s E e s' → X.xe e s'
section
variable {X : Cx} {CX : CXT} {k : Nat} {f C : Addr} {fd : FuncData} {ps : List Str} {sp : Sp} {dvs : List V} {ds : List Value} {E : XK} {x m : Str} {p pos apos : Pos} {e o : Expr} {es : List Expr} {ta : TE} {t : TA}
theorem run_fn {pins : List (Addr × Obj)} {σ : St} {H : Hp} {s : Shared} {Q : VK} {us : List Value} {vs : List V} (F : FnOk X.prog X.w X.K X.mg X.base CX k f fd ps sp) (hr : Room k X.A) (hb : Binds X.K fd ps ds) (hd : Vals dvs ds) (hx : Passes CX X E)
  (I : Inv X pins σ H s) (r : Vals vs us) (h : sp (vs ++ dvs) H Q E) : wpAny (model X.prog X.w) X.A (call (.ref f) us) (EP X pins σ Q) X.xe s := by
 have r2 : Vals (vs ++ dvs) (us ++ ds) := r.append hd
 have hl : (us ++ ds).length = ps.length := by rw [← r2.length]; exact F.len _ _ _ _ h
 refine wpAny_call (codeAny_mono (F.run X.A X.stack s H ⟨us, []⟩ (us ++ ds) (vs ++ dvs) Q E hr I.env0 (hb s us I.kIn hl) r2 h) fun r s' hq => ?_)
 cases r with
 | error e => exact hx pins σ H s e s' I hq
 | ok fl =>
  cases fl with
  | ret u => exact I.after hq
  | next => exact False.elim hq
  | brk => exact False.elim hq
  | cont => exact False.elim hq
theorem pe_call (F : FnOk X.prog X.w X.K X.mg X.base CX k f fd ps sp) (hr : Room k X.A) (hg : Gl X x) (hm : X.mg x = some (.ref f)) (hk : PySem.W.keepIn X.K (.ref f) = true) (hb : Binds X.K fd ps ds) (hd : Vals dvs ds) (hx : Passes CX X E)
  (ha : PA X (e :: es) t) (hdb : (x == ("__debug__" : Str)) = false := by decide) (he : starEach (e :: es) X.env = (false, eval e X.env) :: starEach es X.env := by rfl) (hpl : (backTo pos (starEach es X.env)).any (·.1) = false := by rfl) :
  PE X (.Call (.Name x p) (e :: es) [] pos) (tCall sp dvs E t) := by
 intro pins s σ H Q I h
 refine wpAny_Call_Name_kw (ld_glob I hg hm ?_ hdb)
 refine PySem.W.callWith_K (h₀ := X.base) I.ok.mod.kin hk (thn (ha pos pins s σ H _ I h) fun us s1 ⟨vs, H1, I1, r, q⟩ => ⟨I1.kIn, ?_⟩) he hpl
 exact run_fn F hr hb hd hx I1 r q
end
structure FnScope (N P : List Str) (sc : Scope) : Prop where
 kind : sc.kind = .function
 co : sc.isCoroutine = false
 gen : sc.isGenerator = false
 nd : N.Nodup
 pre : N.take P.length = P
 par : ∀ x ∈ P, sc.names.lookup x = some .local ∨ sc.names.lookup x = some .cell
 nofree : ∀ y ∈ sc.names, y.2 ≠ .free
theorem bindL_out {kindOf : Str → Option NameKind} {x : Str} : ∀ {binds : List (Str × Value)} {m : Str → Option Value}, (∀ v, (x, v) ∉ binds) → bindL kindOf binds m x = m x
 | [], _, _ => rfl
 | (n, v) :: r, m, h => by
  unfold bindL
  rw [bindL_out fun w hw => h w (List.mem_cons_of_mem _ hw)]
  split
  ·have : x ≠ n := by rintro rfl; exact h v List.mem_cons_self
   simp [this]
  ·rfl
theorem bindC_out {kindOf : Str → Option NameKind} {x : Str} : ∀ {binds : List (Str × Value)} {m : Str → Option Value}, (∀ v, (x, v) ∉ binds) → bindC kindOf binds m x = m x
 | [], _, _ => rfl
 | (n, v) :: r, m, h => by
  unfold bindC
  rw [bindC_out fun w hw => h w (List.mem_cons_of_mem _ hw)]
  split
  ·rfl
  ·have : x ≠ n := by rintro rfl; exact h v List.mem_cons_self
   simp [this]
theorem bindL_get {kindOf : Str → Option NameKind} {x : Str} {v : Value} : ∀ {P : List Str} {vs : List Value} {i : Nat} {m : Str → Option Value}, P.Nodup → P[i]? = some x → vs[i]? = some v → kindOf x = some .local →
  bindL kindOf (P.zip vs) m x = some v
 | [], _, _, _, _, h, _, _ => by simp at h
 | _ :: _, [], _, _, _, _, h, _ => by simp at h
 | p :: P, w :: vs, 0, m, nd, h1, h2, hk => by
  simp at h1 h2; subst h1; subst h2
  show bindL kindOf ((p, w) :: P.zip vs) m p = _
  unfold bindL
  rw [bindL_out fun v hv => (List.nodup_cons.mp nd).1 (List.of_mem_zip hv).1, if_pos hk]
  simp
 | p :: P, w :: vs, i + 1, m, nd, h1, h2, hk => by
  show bindL kindOf ((p, w) :: P.zip vs) m x = _
  unfold bindL
  exact bindL_get (i := i) (List.nodup_cons.mp nd).2 (by simpa using h1) (by simpa using h2) hk
theorem bindC_get {kindOf : Str → Option NameKind} {x : Str} {v : Value} : ∀ {P : List Str} {vs : List Value} {i : Nat} {m : Str → Option Value}, P.Nodup → P[i]? = some x → vs[i]? = some v → kindOf x ≠ some .local →
  bindC kindOf (P.zip vs) m x = some v
 | [], _, _, _, _, h, _, _ => by simp at h
 | _ :: _, [], _, _, _, _, h, _ => by simp at h
 | p :: P, w :: vs, 0, m, nd, h1, h2, hk => by
  simp at h1 h2; subst h1; subst h2
  show bindC kindOf ((p, w) :: P.zip vs) m p = _
  unfold bindC
  rw [bindC_out fun v hv => (List.nodup_cons.mp nd).1 (List.of_mem_zip hv).1, if_neg hk]
  simp
 | p :: P, w :: vs, i + 1, m, nd, h1, h2, hk => by
  show bindC kindOf ((p, w) :: P.zip vs) m x = _
  unfold bindC
  exact bindC_get (i := i) (List.nodup_cons.mp nd).2 (by simpa using h1) (by simpa using h2) hk
def start (N : List Str) (vs : List V) : St := vs.map some ++ List.replicate (N.length - vs.length) none
def cxOf (CX : CXT) (P : Program) (w : World) (K : PySem.W.Frag) (mg : Str → Option Value) (base : Heap) (N : List Str) (qual : Str) (scope : Scope) (f : Addr) (cd : Value) (A : Around) (outer : List Env) (s : Shared) (H : Hp) (E : XK) : Cx where
 prog := P
 w := w
 K := K
 mg := mg
 base := base
 A := A.deeper (envOfC qual scope s.heap.objs.size f cd)
 N := N
 s₀ := s
 H₀ := H
 env := envOfC qual scope s.heap.objs.size f cd
 outer := outer
 stack := envOfC qual scope s.heap.objs.size f cd :: outer
 ex := []
 calm := true
 fn := fun _ => true
 pn := []
 xe := fun e s' => wpAny (model P w) (A.deeper (envOfC qual scope s.heap.objs.size f cd)) (leaving (envOfC qual scope s.heap.objs.size f cd) e) (fun _ s'' => CX outer H s E e s'') (fun e' s'' => CX outer H s E e' s'') s'
theorem cell_has {sc : Scope} {n : Nat} {x : Str} (h : sc.names.lookup x = some .cell) : ∃ c, (cellsFrom n sc.names []).lookup x = some c := by
 have q := PySem.W.cellsFrom_some sc.names n [] (.inl h)
 exact Option.isSome_iff_exists.mp q
theorem inv_start {CX : CXT} {P : Program} {w : World} {K : PySem.W.Frag} {mg : Str → Option Value} {base : Heap} {N ps : List Str} {qual : Str} {scope : Scope} {f : Addr} {cd : Value} {A : Around} {outer : List Env} {s s1 : Shared} {H : Hp} {E : XK} {us : List Value} {vs : List V}
  (S : FnScope N ps scope) (hd : A.handled = none) (e0 : Env0 P w K mg base A outer s H) (hl : vs.length = ps.length) (r : Vals vs us)
  (x : InCallC s s.heap.objs.size (bindL (envOfC qual scope s.heap.objs.size f cd).kindOf (ps.zip us) fun _ => none) (cellsFrom (s.heap.objs.size + 1) scope.names []) (bindC (envOfC qual scope s.heap.objs.size f cd).kindOf (ps.zip us) fun _ => none) s1) :
  Inv (cxOf CX P w K mg base N qual scope f cd A outer s H E) [] (start N vs) H s1 := by
 have hpl : ps.length ≤ N.length := by have := congrArg List.length S.pre; rw [List.length_take] at this; omega
 obtain ⟨h1, tk, rfl, hk⟩ := x.done
 have noA : ∀ b : Addr, b ∉ (cxOf CX P w K mg base N qual scope f cd A outer s H E).ex := fun b z => absurd (show b ∈ ([] : List Addr) from z) (by simp)
 refine ⟨⟨e0.mod, S.kind, rfl, rfl, Nat.le_refl _, fun y z c h1 h2 => ?_, fun y hy => ?_, fun y c _ h => ?_, fun _ => hd, Around.frames_deeper e0.frames, .inr ⟨rfl, rfl⟩, fun b z => absurd z (noA b), e0.bs, e0.bsz, fun b _ _ => noA b, fun b z => absurd z (noA b), e0.funs, e0.frf⟩,
  rfl, e0.bare, Un.kept hk, ⟨_, x.toInCall.ns, fun i y v h1 h2 h3 => ?_⟩, fun y c h => ⟨_, x.cell y c h⟩, e0.hok.fresh (Nat.le_refl _), fun y c h => ?_, fun p hp => absurd (show p ∈ ([] : List (Addr × Obj)) from hp) (by simp), e0.hok.kept hk, ?_⟩
 ·exact name_of_addr x.apart (PySem.mem_of_lookup h1) (PySem.mem_of_lookup h2)
 ·have hy : scope.names.lookup y = some .cell ∨ scope.names.lookup y = some .free := hy
  rcases hy with hy | hy
  ·exact cell_has hy
  ·exact absurd rfl (S.nofree _ (PySem.mem_of_lookup hy))
 ·exact Nat.le_of_lt (x.above y c (PySem.mem_of_lookup h))
 ·have hi : i < vs.length := by
   unfold start at h2
   by_cases hi : i < vs.length
   ·exact hi
   ·rw [List.getElem?_append_right (by simpa using hi)] at h2
    rw [List.getElem?_replicate] at h2
    split at h2 <;> cases h2
  have ha : vs[i]? = some v := by
   unfold start at h2
   rw [List.getElem?_append_left (by simpa using hi), List.getElem?_map] at h2
   cases e : vs[i]? with
   | none => rw [e] at h2; cases h2
   | some a => rw [e] at h2; cases h2; rfl
  obtain ⟨u, hu, rv⟩ := r.get ha
  have hp : ps[i]? = some y := by
   rw [← S.pre, List.getElem?_take_of_lt (by omega)]; exact h1
  have ndP : ps.Nodup := by rw [← S.pre]; exact S.nd.sublist (List.take_sublist _ _)
  refine ⟨u, rv, ?_⟩
  rcases S.par y (List.mem_of_getElem? hp) with k | k
  ·exact .inl ⟨k, bindL_get ndP hp hu k⟩
  ·obtain ⟨c, e⟩ := cell_has (n := s.heap.objs.size + 1) k
   refine .inr ⟨.inl k, c, e, ?_⟩
   have q := x.cell y c e
   rw [bindC_get ndP hp hu (by show scope.names.lookup y ≠ _; rw [k]; decide)] at q
   exact q
 ·exact e0.hok.fresh (Nat.le_of_lt (x.above y c (PySem.mem_of_lookup h)))
 ·unfold start
  show _ = N.length
  rw [List.length_append, List.length_map, List.length_replicate]
  omega
theorem fn_of {CX : CXT} {P : Program} {w : World} {K : PySem.W.Frag} {mg : Str → Option Value} {base : Heap} {k : Nat} {f : Addr} {name qual : Str} {params : Arguments} {body : List Stmt} {scope : Scope} {dV kV doc pm cdv ct oc : Value} {an od : Option Addr}
  {osl : Array (Option Value)} {N ps : List Str} {sp : Sp} (lk : K.lookup f = some ⟨oc, od, .func (PySem.W.fnOf name qual params body scope dV kV doc pm an cdv ct), osl⟩) (hcd : PySem.W.codeIn K cdv qual = true) (S : FnScope N ps scope)
  (len : ∀ vs H Q E, sp vs H Q E → vs.length = ps.length)
  (hbody : ∀ (A : Around) (outer : List Env) (s : Shared) (H : Hp) (vs : List V) (Q : VK) (E : XK), Room k (A.deeper (envOfC qual scope s.heap.objs.size f cdv)) → sp vs H Q E →
   ∃ t, PSs (cxOf CX P w K mg base N qual scope f cdv A outer s H E) body t ∧ t { nx := fun _ H' => Q .non H', rt := Q } (start N vs) H) :
  FnOk P w K mg base CX (k + 1) f (PySem.W.fnOf name qual params body scope dV kV doc pm an cdv ct) ps sp := by
 refine ⟨len, fun A outer s H args us vs Q E hr e0 hb r hsp => ?_⟩
 have hl := len _ _ _ _ hsp
 have KX : K.In s.heap := e0.mod.kin.keeps fun b o e => (e0.bs b o e).1
 have lim : s.heap.NoLimit := e0.mod.nolimit.keeps fun b o e => (e0.bs b o e).1
 have hkind : ∀ y ∈ ps.zip us, scope.names.lookup y.1 = some .local ∨ (scope.names.lookup y.1 = some .cell ∧ ((cellsFrom (s.heap.objs.size + 1) scope.names []).lookup y.1).isSome = true) := fun ⟨n, v⟩ hy => by
  rcases S.par n (List.of_mem_zip hy).1 with q | q
  ·exact .inl q
  ·exact .inr ⟨q, PySem.W.cellsFrom_some _ _ _ (.inl q)⟩
 refine codeAny_call_function hr.depth (KX _ _ lk) rfl S.co S.gen rfl (PySem.W.codeRec_of KX hcd) (hb _ _ _ _ ?_)
 refine wpAny_newFunctionEnv_cells S.kind hkind fun env he s1 x => ?_
 subst he
 refine ⟨lim.keeps x.toInCall.keep, codeAny_func ?_⟩
 obtain ⟨t, ht, hq⟩ := hbody A outer s H vs Q E (hr.deeper _) hsp
 have I : Inv (cxOf CX P w K mg base N qual scope f cdv A outer s H E) [] (start N vs) H s1 := inv_start S hr.hd e0 hl r x
 refine wpAny_mono (ht [] s1 (start N vs) H _ I hq) (fun fl s' hs => ?_) fun e s' hs => hs
 have fin : ∀ {σ' : St} {H' : Hp} {v : V} {u : Value}, Inv (cxOf CX P w K mg base N qual scope f cdv A outer s H E) [] σ' H' s' → RelV v u → Q v H' → CE outer P w H s Q u s' :=
  fun {σ' H' v u} J rv q => ⟨v, H', J.os, J.bare, J.base, J.hok, rv, q⟩
 cases fl with
 | ret u =>
  obtain ⟨v, σ', H', J, rv, q⟩ := hs
  exact fin J rv q
 | next =>
  obtain ⟨σ', H', J, q⟩ := hs
  exact fin (v := V.non) (u := Value.none) J rfl q
 | brk =>
  obtain ⟨_, _, _, q⟩ := hs
  exact False.elim q
 | cont =>
  obtain ⟨_, _, _, q⟩ := hs
  exact False.elim q
section
variable {X : Cx} {x : Str} {p pos : Pos} {e : Expr} {es : List Expr} {t : TA} {id T : String} {r : List V → Hp → VK → Prop}
def tCB (r : List V → Hp → VK → Prop) (t : TA) : TE := fun σ H Q => t σ H fun vs H1 => r vs H1 Q
theorem pe_callB (hc : CallR X (.builtin id) r) (hg : Gl X x) (hm : X.mg x = none) (hv : bootBuiltins x = some (.builtin id)) (ha : PA X (e :: es) t) (hn : x ≠ "__name__" := by decide) (hdb : (x == ("__debug__" : Str)) = false := by decide)
  (he : starEach (e :: es) X.env = (false, eval e X.env) :: starEach es X.env := by rfl) (hpl : (backTo pos (starEach es X.env)).any (·.1) = false := by rfl) : PE X (.Call (.Name x p) (e :: es) [] pos) (tCB r t) := by
 intro pins s σ H Q I h
 refine wpAny_Call_Name_kw (ld_blt I hg hm hv ?_ hn hdb)
 exact PyProof.Rows.callWith_builtin1 (thn (ha pos pins s σ H _ I h) fun us s1 ⟨vs, H1, I1, r1, q1⟩ => hc pins s1 σ H1 vs us Q I1 r1 q1) he hpl
theorem pe_callTy (hc : CallR X (.type T) r) (hg : Gl X x) (hm : X.mg x = none) (hv : bootBuiltins x = some (.type T)) (ha : PA X (e :: es) t) (hn : x ≠ "__name__" := by decide) (hdb : (x == ("__debug__" : Str)) = false := by decide)
  (he : starEach (e :: es) X.env = (false, eval e X.env) :: starEach es X.env := by rfl) (hpl : (backTo pos (starEach es X.env)).any (·.1) = false := by rfl) : PE X (.Call (.Name x p) (e :: es) [] pos) (tCB r t) := by
 intro pins s σ H Q I h
 refine wpAny_Call_Name_kw (ld_blt I hg hm hv ?_ hn hdb)
 exact PyProof.Rows.callWith_type1 (thn (ha pos pins s σ H _ I h) fun us s1 ⟨vs, H1, I1, r1, q1⟩ => hc pins s1 σ H1 vs us Q I1 r1 q1) he hpl
end
end L2
namespace HT
open PySem PyProof.Rows
section
variable {prog : Program} {w : World} {A : Around} {E : Value → Shared → Prop} {s : Shared}
theorem cat_tup {t b : Addr} {vs ws : List Value} {Q : Value → Shared → Prop} (ht : IsTup s.heap t vs.toArray) (hb : IsTup s.heap b ws.toArray) (hv : vs ≠ [])
  (h1 : ws = [] → Q (.ref t) s) (h2 : ws ≠ [] → Q (.ref s.heap.objs.size) { s with heap := s.heap.push { cls := .type "tuple", data := .seq (vs ++ ws).toArray } })
  (hsz : vs.length + ws.length ≤ sizeLine) : wpAny (model prog w) A (binaryOp .Add (.ref t) (.ref b)) Q E s := by
 obtain ⟨⟨cls, dd, data, sl⟩, ho, hc, n, hd⟩ := id ht
 obtain ⟨⟨cls2, dd2, data2, sl2⟩, ho2, hc2, n2, hd2⟩ := id hb
 simp only at hc hd hc2 hd2
 subst hc hd hc2 hd2
 have e : vs.toArray ++ ws.toArray = (vs ++ ws).toArray := by simp
 by_cases hw : ws = []
 ·exact concat_meets ⟨_, ho, rfl⟩ ⟨_, ho2, rfl⟩ noFill_tuple_add seq_tuple_add PySem.F.slot_tuple_add PySem.F.entry_tuple_add (PySem.F.args_tuple_add_2 _ _)
   (tuple_addW1 t b vs.toArray ws.toArray n n2 dd dd2 sl sl2 (by simpa using hv) (by simp [hw])) ⟨ho, ho2, h1 hw⟩
 ·refine concat_meets ⟨_, ho, rfl⟩ ⟨_, ho2, rfl⟩ noFill_tuple_add seq_tuple_add PySem.F.slot_tuple_add PySem.F.entry_tuple_add (PySem.F.args_tuple_add_2 _ _)
   (tuple_addW2 t b vs.toArray ws.toArray n n2 dd dd2 sl sl2 (by simpa using hv) (by simpa using hw) (by rw [List.size_toArray, List.size_toArray]; exact hsz)) ⟨ho, ho2, ?_⟩
  rw [e]
  exact h2 hw
def sIx (n d : Nat) : Option Int → Nat
 | none => d
 | some v => if v < 0 then (v + (n : Int)).toNat else min v.toNat n
theorem sIx_none (n d : Nat) : sIx n d none = d := rfl
theorem sIx_nat (n d k : Nat) : sIx n d (some (k : Int)) = min k n := by
 show (if (k : Int) < 0 then ((k : Int) + (n : Int)).toNat else min (k : Int).toNat n) = min k n
 rw [if_neg (by omega), Int.toNat_natCast]
theorem sIx_le (n d : Nat) (hd : d ≤ n) (o : Option Int) : sIx n d o ≤ n := by
 cases o with
 | none => exact hd
 | some v =>
  show (if v < 0 then (v + (n : Int)).toNat else min v.toNat n) ≤ n
  by_cases hv : v < 0
  ·rw [if_pos hv]; omega
  ·rw [if_neg hv]; exact Nat.min_le_right _ _
theorem clip_eq (v : Int) (n d : Nat) : (if v < 0 then max (v + (n : Int)) 0 else min v (n : Int)) = ((sIx n d (some v) : Nat) : Int) := by
 show (if v < 0 then max (v + (n : Int)) 0 else min v (n : Int)) = (((if v < 0 then (v + (n : Int)).toNat else min v.toNat n) : Nat) : Int)
 by_cases hv : v < 0
 ·simp only [if_pos hv]; omega
 ·simp only [if_neg hv]; omega
theorem adjust_gen (lo hi : Option Int) (n : Nat) : Builtin.Slice.sliceAdjust lo hi 1 (n : Int) = (((sIx n 0 lo : Nat) : Int), ((sIx n n hi : Nat) : Int)) := by
 have h1 : ¬ ((1 : Int) < 0) := by omega
 unfold Builtin.Slice.sliceAdjust
 simp only [h1, if_false]
 refine Prod.ext ?_ ?_
 ·cases lo with
  | none => rfl
  | some v => exact clip_eq v n 0
 ·cases hi with
  | none => rfl
  | some v => exact clip_eq v n n
theorem places_gen (i j : Nat) : Builtin.Slice.slicePlaces (i : Int) (j : Int) 1 = j - i := by
 unfold Builtin.Slice.slicePlaces
 have h1 : (1 : Int) > 0 := by omega
 simp only [h1, if_true, Int.ediv_one]
 split <;> omega
theorem slicePart_ {v : Value} {o : Option Int} {Q : Option Int → Shared → Prop} (p : IsPart v o) (h : Q o s) : wpAny (model prog w) A (Builtin.Slice.slicePartIndex v) Q E s := by
 cases p with
 | none => exact slicePart_none h
 | int i t => exact slicePart_int h
theorem sliceApplied_gen {sl : Addr} {vl vu : Value} {lo hi : Option Int} {n : Nat} {Q : Int × Int × Nat → Shared → Prop} (hs : s.heap.IsSliceOf sl vl vu .none) (pl : IsPart vl lo) (pu : IsPart vu hi)
  (h : Q (((sIx n 0 lo : Nat) : Int), 1, sIx n n hi - sIx n 0 lo) s) : wpAny (model prog w) A (Builtin.Slice.sliceApplied (.ref sl) (pure (n : Int))) Q E s := by
 obtain ⟨os, hos, hcs, hds⟩ := id hs
 unfold Builtin.Slice.sliceApplied Builtin.Slice.sliceFields
 refine wpAny_bind (wpAny_bind (wpAny_field hos hds (x := vl) rfl (wpAny_bind (wpAny_field hos hds (x := vu) rfl (wpAny_bind (wpAny_field hos hds (x := .none) rfl (wpAny_pure ?_)))))))
 refine wpAny_bind (slicePart_none ?_)
 show wpAny _ _ (if ((1 : Int) == 0) = true then _ else _) _ _ s
 rw [if_neg (by decide)]
 refine wpAny_bind (slicePart_ pl (wpAny_bind (slicePart_ pu (wpAny_bind (wpAny_pure ?_)))))
 show wpAny _ _ (match Builtin.Slice.sliceAdjust lo hi 1 (n : Int) with | (lo, hi) => pure (lo, (1 : Int), Builtin.Slice.slicePlaces lo hi 1)) _ _ s
 rw [adjust_gen lo hi n]
 show wpAny _ _ (pure (((sIx n 0 lo : Nat) : Int), (1 : Int), Builtin.Slice.slicePlaces ((sIx n 0 lo : Nat) : Int) ((sIx n n hi : Nat) : Int) 1)) _ _ s
 rw [places_gen]
 exact wpAny_pure h
theorem pick_gen (xs : Array Value) (i k : Nat) : ((List.range k).filterMap fun (m : Nat) => xs[((i : Int) + (m : Int) * 1).toNat]?).toArray = ((xs.toList.drop i).take k).toArray := by
 have e : (fun (m : Nat) => xs[((i : Int) + (m : Int) * 1).toNat]?) = fun m => xs[i + m]? := by
  funext m
  have : ((i : Int) + (m : Int) * 1).toNat = i + m := by omega
  rw [this]
 rw [e]
 have := pick_run xs i k
 rw [List.filterMap_map] at this
 have e2 : ((fun x => xs[x]?) ∘ fun x => i + x) = fun m => xs[i + m]? := rfl
 rw [e2] at this
 rw [this]
theorem getItem_tuple_cut {t sl : Addr} {items : Array Value} {vl vu : Value} {lo hi : Option Int} {Q : Value → Shared → Prop} (ht : IsTup s.heap t items) (hs : s.heap.IsSliceOf sl vl vu .none) (pl : IsPart vl lo) (pu : IsPart vu hi)
  (hw : ¬ (sIx items.size 0 lo = 0 ∧ sIx items.size items.size hi = items.size))
  (h : Q (.ref s.heap.objs.size) { s with heap := s.heap.push { cls := .type "tuple", data := .seq ((items.toList.drop (sIx items.size 0 lo)).take (sIx items.size items.size hi - sIx items.size 0 lo)).toArray } })
  (hsz : items.size ≤ sizeLine) : wpAny (model prog w) A (getItem (.ref t) (.ref sl)) Q E s := by
 have htake : sizeOk (.seq ((items.toList.drop (sIx items.size 0 lo)).take (sIx items.size items.size hi - sIx items.size 0 lo)).toArray) := by
  show ((items.toList.drop (sIx items.size 0 lo)).take (sIx items.size items.size hi - sIx items.size 0 lo)).toArray.size ≤ sizeLine
  rw [List.size_toArray, List.length_take, List.length_drop, Array.length_toList]
  omega
 have hj : sIx items.size items.size hi ≤ items.size := sIx_le _ _ (Nat.le_refl _) hi
 obtain ⟨os, hos, hcs, hds⟩ := id hs
 have hTs : s.TypeIs (.ref sl) "slice" := ⟨os, hos, hcs⟩
 unfold getItem
 try with_reducible refine wpAny_holding ?_
 first | refine wpAny_bind (wpAny_pure ?_) | skip
 refine wpAny_bind (wpAny_sequenceKey ht.typeIs (by decide) ?_)
 refine wpAny_bind (wpAny_callSpecial?_slot (name := Str.ofString "__getitem__") ht.typeIs PyProof.Rows.slot_tuple_getitem
  (wpAny_call_entry PyProof.Rows.slot_tuple_getitem ht.typeIs entry_tuple_getitem ?_ (args_tuple_getitem _ _)))
 show wpAny _ _ (Builtin.Tuple.tupleItemsOf (.ref t) >>= _) _ _ s
 refine wpAny_bind (tupleItemsOf_ ht ?_)
 refine wpAny_bind (wpAny_typeOf hTs ?_)
 rw [if_pos (by decide)]
 refine wpAny_bind (sliceApplied_gen hs pl pu ?_)
 have hno : ¬ ((((sIx items.size 0 lo : Nat) : Int) == 0 && (1 : Int) == 1 && (sIx items.size items.size hi - sIx items.size 0 lo) == items.size) = true) := by
  intro q
  rw [Bool.and_eq_true, Bool.and_eq_true] at q
  have q1 : ((sIx items.size 0 lo : Nat) : Int) = 0 := eq_of_beq q.1.1
  have q2 : sIx items.size items.size hi - sIx items.size 0 lo = items.size := eq_of_beq q.2
  exact hw ⟨by omega, by omega⟩
 show wpAny _ _ (if (((sIx items.size 0 lo : Nat) : Int) == 0 && (1 : Int) == 1 && (sIx items.size items.size hi - sIx items.size 0 lo) == items.size) = true then _ else _) _ _ s
 rw [if_neg hno, pick_gen]
 first
  | exact wpAny_bind (m := Builtin.Tuple.tupleExact _) (wpAny_newObj_type (wpAny_pure ⟨_, rfl, wpAny_pure h⟩) htake)
  | exact wpAny_bind (m := Builtin.Tuple.tupleExact _) (wpAny_newObj_type (wpAny_bind (wpAny_pure (wpAny_pure ⟨_, rfl, wpAny_pure h⟩))) htake)
  | exact wpAny_bind (wpAny_bind (m := Builtin.Tuple.tupleExact _) (wpAny_newObj_type (wpAny_pure (wpAny_pure ⟨_, rfl, wpAny_pure h⟩)) htake))
  | exact wpAny_bind (wpAny_bind (m := Builtin.Tuple.tupleExact _) (wpAny_newObj_type (wpAny_pure ⟨_, rfl, wpAny_pure h⟩) htake))
end
end HT
namespace L2
open PySem PySem.Spec PyProof.Rows
abbrev TO := St → Hp → (Option Int → Hp → Prop) → Prop
def PO (X : Cx) (e : Option Expr) (t : TO) : Prop :=
 ∀ (pins : List (Addr × Obj)) (s : Shared) (σ : St) (H : Hp) (Q : Option Int → Hp → Prop), Inv X pins σ H s → t σ H Q →
  wpAny (model X.prog X.w) X.A (evalPart e X.env) (fun u s' => ∃ o H', Inv X pins σ H' s' ∧ IsPart u o ∧ Q o H') X.xe s
def tNoPart : TO := fun _ H Q => Q none H
def tPart (t : TE) : TO := fun σ H Q => t σ H fun x H1 => ∃ i, x = .int i ∧ Q (some i) H1
theorem intsAre_of {ns : List Int} : ∀ {us : List Value}, Vals (ns.map V.int) us → IntsAre us ns := by
 induction ns with
 | nil => intro us r; rw [List.map_nil] at r; cases r; exact .nil
 | cons n ns ih =>
  intro us r
  rw [List.map_cons] at r
  cases r with
  | cons r1 r2 =>
   obtain ⟨t, e⟩ := r1
   subst e
   exact .cons n t (ih r2)
section
variable {X : Cx} {e : Expr} {te : TE} {lo hi : Option Expr} {tl th : TO} {pos p2 : Pos}
theorem po_none : PO X none tNoPart := by
 intro pins s σ H Q I h
 rw [evalPart_none]
 exact wpAny_pure ⟨none, H, I, .none, h⟩
theorem po_some (h : PE X e te) : PO X (some e) (tPart te) := by
 intro pins s σ H Q I hw
 rw [evalPart_some]
 refine thn (h pins s σ H _ I hw) fun u s1 ⟨x, H1, I1, r1, q1⟩ => ?_
 obtain ⟨i, rfl, q⟩ := q1
 obtain ⟨t, rfl⟩ := r1
 exact ⟨some i, H1, I1, .int i t, q⟩
def SlR (X : Cx) (r : V → Option Int → Option Int → Hp → VK → Prop) : Prop :=
 ∀ (pins : List (Addr × Obj)) (s : Shared) (σ : St) (H : Hp) (x : V) (v vl vu : Value) (lo hi : Option Int) (sl : Addr) (Q : VK), Inv X pins σ H s → RelV x v → s.heap.IsSliceOf sl vl vu .none → IsPart vl lo → IsPart vu hi → r x lo hi H Q →
  ∃ T id, typeLookup (.type T) "__getitem__" = pure (some (.builtin id)) ∧ s.TypeIs v T ∧ wpAny (model X.prog X.w) X.A (getItem v (.ref sl)) (EP X pins σ Q) X.xe s
def tSl (r : V → Option Int → Option Int → Hp → VK → Prop) (te : TE) (tl th : TO) : TE := fun σ H Q => te σ H fun x H1 => tl σ H1 fun l H2 => th σ H2 fun u H3 => r x l u H3 Q
theorem pe_slice {r : V → Option Int → Option Int → Hp → VK → Prop} (hr : SlR X r) (he : PE X e te) (hl : PO X lo tl) (hu : PO X hi th) : PE X (.Subscript e (.Slice lo hi none p2) pos) (tSl r te tl th) := by
 intro pins s σ H Q I h
 refine Subscript_ (thn (he pins s σ H _ I h) fun v s1 ⟨x, H1, I1, r1, q1⟩ => ?_)
 refine wpAny_Slice (thn (hl pins s1 σ H1 _ I1 q1) fun vl s2 ⟨l, H2, I2, pl, q2⟩ => thn (hu pins s2 σ H2 _ I2 q2) fun vu s3 ⟨u, H3, I3, pu, q3⟩ => ?_)
 rw [evalPart_none]
 refine wpAny_pure ?_
 have I4 : Inv X pins σ H3 { s3 with heap := s3.heap.push { cls := .type "slice", data := .fields #[vl, vu, .none] } } := I3.kept (t' := s3.toks) fun b ob q => Heap.get?_push_of_some _ q
 obtain ⟨T, id, hT, ht, hg⟩ := hr pins { s3 with heap := s3.heap.push { cls := .type "slice", data := .fields #[vl, vu, .none] } } σ H3 x v vl vu l u s3.heap.objs.size Q I4 r1 (Heap.IsSliceOf.new ..) pl pu q3
 show wpAny (model X.prog X.w) X.A (subscriptTail e (.Slice lo hi none p2) v (.ref s3.heap.objs.size)) (EP X pins σ Q) X.xe { s3 with heap := s3.heap.push { cls := .type "slice", data := .fields #[vl, vu, .none] } }
 exact tail_any (ops := [.ref s3.heap.objs.size, v]) ht hT hg (by with_unfolding_all rfl)
def cutV (xs : List V) (lo hi : Option Int) : List V := (xs.drop (HT.sIx xs.length 0 lo)).take (HT.sIx xs.length xs.length hi - HT.sIx xs.length 0 lo)
theorem cutV_length (xs : List V) (lo hi : Option Int) : (cutV xs lo hi).length ≤ xs.length := by
 unfold cutV
 rw [List.length_take, List.length_drop]
 omega
def rSlT (K : PySem.W.Frag) : V → Option Int → Option Int → Hp → VK → Prop := fun x lo hi H Q => ∃ a xs, x = .ref a ∧ SqT K H a xs ∧
 ¬ (HT.sIx xs.length 0 lo = 0 ∧ HT.sIx xs.length xs.length hi = xs.length) ∧ ∀ p, H p = none → Q (.ref p) (upd H p (.tup (cutV xs lo hi)))
theorem sl_tup : SlR X (rSlT X.K) := by
 intro pins s σ H x v vl vu lo hi sl Q I rx hs pl pu h
 obtain ⟨a, xs, rfl, hx, hw, q⟩ := h
 cases rx
 obtain ⟨its, r, ht, hz⟩ := I.tuple hx
 have hlen : its.toArray.size = xs.length := by rw [List.size_toArray]; exact r.length.symm
 refine ⟨"tuple", _, PyProof.Rows.slot_tuple_getitem.lookup, ht.typeIs, ?_⟩
 refine HT.getItem_tuple_cut ht hs pl pu (by rw [hlen]; exact hw) ?_ (by rw [hlen]; exact hz)
 rw [hlen]
 refine ⟨.ref s.heap.objs.size, _, I.laid (t' := s.toks) (o := .tup (cutV xs lo hi)) (fun b ob q => Heap.get?_push_of_some _ q) (Nat.le_refl _) ?_, rfl, q _ (I.hok.fresh (Nat.le_refl _))⟩
 exact ⟨Nat.le_trans (cutV_length xs lo hi) hz, _, (r.drop (HT.sIx xs.length 0 lo)).take (HT.sIx xs.length xs.length hi - HT.sIx xs.length 0 lo), PlainT.new _ _⟩
def rCatT (K : PySem.W.Frag) : R2 := fun x y H Q => ∃ a b xs ys, x = .ref a ∧ y = .ref b ∧ SqT K H a xs ∧ SqT K H b ys ∧ xs ≠ [] ∧ xs.length + ys.length ≤ sizeLine ∧
 (ys = [] → Q (.ref a) H) ∧ (ys ≠ [] → ∀ p, H p = none → Q (.ref p) (upd H p (.tup (xs ++ ys))))
theorem Vals.nil_iff {xs : List V} {us : List Value} (r : Vals xs us) : us = [] ↔ xs = [] := by
 cases r with
 | nil => simp
 | cons _ _ => simp
theorem op_catT : OpR X (binaryOp .Add) (rCatT X.K) := by
 intro pins s σ H x y v u Q I rx ry h
 obtain ⟨a, b, xs, ys, rfl, rfl, ha, hb, hx, hz, q1, q2⟩ := h
 cases rx
 cases ry
 obtain ⟨its, r1, p1, _⟩ := I.tuple ha
 obtain ⟨its2, r2, p2, _⟩ := I.tuple hb
 refine HT.cat_tup p1 p2 (fun z => hx (r1.nil_iff.mp z)) (fun z => ⟨.ref a, H, I, rfl, q1 (r2.nil_iff.mp z)⟩) (fun z => ?_) (by rw [← r1.length, ← r2.length]; exact hz)
 refine ⟨.ref s.heap.objs.size, _, I.laid (t' := s.toks) (o := .tup (xs ++ ys)) (fun b ob q => Heap.get?_push_of_some _ q) (Nat.le_refl _) ?_, rfl, q2 (fun w => z (r2.nil_iff.mpr w)) _ (I.hok.fresh (Nat.le_refl _))⟩
 exact ⟨by rw [List.length_append]; exact hz, _, r1.append r2, PlainT.new _ _⟩
end
def ixN (n : Nat) (i : Int) : Option Nat := if 0 ≤ i then (if i < n then some i.toNat else none) else if -(n : Int) ≤ i then some (i + n).toNat else none
def atI {α : Type} (xs : List α) (i : Int) : Option α := (ixN xs.length i).bind fun j => xs[j]?
theorem ixN_seq {n : Nat} {i : Int} {j : Nat} (h : ixN n i = some j) : seqIndex? i n = some j ∧ j < n ∧ -(n : Int) ≤ i ∧ i < n := by
 unfold ixN at h
 by_cases h0 : 0 ≤ i
 ·rw [if_pos h0] at h
  by_cases h1 : i < n
  ·rw [if_pos h1] at h
   have e : i.toNat = j := Option.some.inj h
   exact ⟨by rw [seqIndex_of h0 h1, e], by omega, by omega, h1⟩
  ·rw [if_neg h1] at h; cases h
 ·rw [if_neg h0] at h
  by_cases h1 : -(n : Int) ≤ i
  ·rw [if_pos h1] at h
   have e : (i + n).toNat = j := Option.some.inj h
   exact ⟨by rw [seqIndex_neg (by omega) h1, e], by omega, h1, by omega⟩
  ·rw [if_neg h1] at h; cases h
theorem atI_get {α : Type} {xs : List α} {i : Int} {v : α} (h : atI xs i = some v) : ∃ j, seqIndex? i xs.length = some j ∧ xs[j]? = some v ∧ j < xs.length ∧ -(xs.length : Int) ≤ i ∧ i < xs.length := by
 unfold atI at h
 cases e : ixN xs.length i with
 | none => rw [e] at h; cases h
 | some j =>
  rw [e] at h
  obtain ⟨h1, h2, h3, h4⟩ := ixN_seq e
  exact ⟨j, h1, h, h2, h3, h4⟩
theorem atI_nat {α : Type} {xs : List α} {j : Nat} {v : α} (h : xs[j]? = some v) : atI xs (j : Int) = some v := by
 have hj : j < xs.length := (List.getElem?_eq_some_iff.mp h).1
 have e : ixN xs.length (j : Int) = some j := by
  unfold ixN
  rw [if_pos (by omega), if_pos (by omega)]; simp
 unfold atI; rw [e]; exact h
def PlainIx (b : Expr) : Prop := ∀ o i, subscripted b false o i = operate [o, i] (getItem o i)
def IxR (X : Cx) (r : R2) : Prop :=
 ∀ (value slice : Expr) (pins : List (Addr × Obj)) (s : Shared) (σ : St) (H : Hp) (x y : V) (v u : Value) (Q : VK), Inv X pins σ H s → RelV x v → RelV y u → r x y H Q →
  subscripted slice false v u = operate [v, u] (getItem v u) → wpAny (model X.prog X.w) X.A (subscriptTail value slice v u) (EP X pins σ Q) X.xe s
def MtR (X : Cx) (id : String) (r : V → List V → Hp → VK → Prop) : Prop :=
 ∀ (pins : List (Addr × Obj)) (s : Shared) (σ : St) (H : Hp) (x : V) (xs : List V) (v : Value) (us : List Value) (Q : VK), Inv X pins σ H s → RelV x v → Vals xs us → r x xs H Q →
  wpAny (model X.prog X.w) X.A (call (.builtin id) (v :: us)) (EP X pins σ Q) X.xe s
section
variable {X : Cx} {a b : Expr} {ta tb : TE} {pos : Pos}
theorem pe_ix {r : R2} (hr : IxR X r) (ha : PE X a ta) (hb : PE X b tb) (hs : PlainIx b) : PE X (.Subscript a b pos) (tOp r ta tb) := by
 intro pins s σ H Q I h
 exact Subscript_ (binT ha hb I h fun v u s2 x y H2 I2 rx ry q => hr a b pins s2 σ H2 x y v u Q I2 rx ry q (hs _ _))
def rIxL (K : PySem.W.Frag) : R2 := fun x y H Q => ∃ p xs i v, x = .ref p ∧ y = .int i ∧ SqL K H p xs ∧ atI xs i = some v ∧ Q v H
def rIxT (K : PySem.W.Frag) : R2 := fun x y H Q => ∃ p xs i v, x = .ref p ∧ y = .int i ∧ SqT K H p xs ∧ atI xs i = some v ∧ Q v H
def rIxS : R2 := fun x y H Q => ∃ z i c, x = .str z ∧ y = .int i ∧ z.length ≤ sizeLine ∧ atI z.cps.toList i = some c ∧ Q (.str ⟨#[c]⟩) H
theorem ix_list : IxR X (rIxL X.K) := by
 intro value slice pins s σ H x y v u Q I rx ry h hs
 obtain ⟨p, xs, i, z, rfl, rfl, hq, he, q⟩ := h
 cases rx
 obtain ⟨t, rfl⟩ := ry
 obtain ⟨its, r, pl, hz⟩ := I.list hq
 obtain ⟨j, h1, h2, h3, h4, h5⟩ := atI_get he
 obtain ⟨w, ew, rw'⟩ := r.get h2
 have hl := r.length
 have hn := line63
 have fin : EP X pins σ Q w s := ⟨z, H, I, rw', q⟩
 by_cases h0 : 0 ≤ i
 ·have hj : i.toNat = j := by
   rw [seqIndex_of h0 h5] at h1
   exact Option.some.inj h1
  exact item_listR pl.isList h0 (by omega) (by rw [hj]; simpa using ew) fin hs
 ·have hj : (i + (its.toArray.size : Int)).toNat = j := by
   rw [seqIndex_neg (by omega) h4] at h1
   rw [List.size_toArray, ← hl]
   exact Option.some.inj h1
  exact subscriptTail_builtinR (x := w) pl.isList.typeIs slot_list_getitem.lookup
   (wpAny_getItem_list_neg (Q := fun r s' => r = w ∧ EP X pins σ Q r s') pl.isList (by omega) (by rw [List.size_toArray] <;> omega) (by omega) (by rw [hj]; simpa using ew) ⟨rfl, fin⟩) hs
theorem ix_tup : IxR X (rIxT X.K) := by
 intro value slice pins s σ H x y v u Q I rx ry h hs
 obtain ⟨p, xs, i, z, rfl, rfl, hq, he, q⟩ := h
 cases rx
 obtain ⟨t, rfl⟩ := ry
 obtain ⟨its, r, pl, hz⟩ := I.tuple hq
 obtain ⟨j, h1, h2, h3, h4, h5⟩ := atI_get he
 obtain ⟨w, ew, rw'⟩ := r.get h2
 have hl := r.length
 have hn := line63
 have fin : EP X pins σ Q w s := ⟨z, H, I, rw', q⟩
 exact subscriptTail_builtinR (x := w) pl.typeIs slot_tuple_getitem.lookup
  (getItem_tuple (j := j) (Q := fun r s' => r = w ∧ EP X pins σ Q r s') pl (by omega) (by omega) (by rw [List.size_toArray, ← hl]; exact h1) (by simpa using ew) ⟨rfl, fin⟩) hs
theorem ix_str : IxR X rIxS := by
 intro value slice pins s σ H x y v u Q I rx ry h hs
 obtain ⟨z, i, c, rfl, rfl, hz, he, q⟩ := h
 obtain ⟨t, rfl⟩ := rx
 obtain ⟨t', rfl⟩ := ry
 obtain ⟨j, h1, h2, h3, h4, h5⟩ := atI_get he
 have hl : z.cps.toList.length = z.length := by simp [Str.length]
 rw [hl] at h1 h4 h5
 have hn := line63
 exact tail_any (typeIs_str s z t) slot_str_getitem.lookup (getItem_str (c := c) (by
  have e1 : decide (i < -(2 ^ 63 : Int)) = false := decide_eq_false (by omega)
  have e2 : decide (i ≥ 2 ^ 63) = false := decide_eq_false (by omega)
  rw [e1, e2, Bool.or_false]) (by rw [h1]; simpa using h2) ⟨.str ⟨#[c]⟩, H, I.tok _, ⟨_, rfl⟩, q⟩) hs
theorem slice_bounds (lo hi : Option Int) (n : Nat) : (sliceBounds lo hi none n).1 = ((HT.sIx n 0 lo : Nat) : Int) ∧ (sliceBounds lo hi none n).2.1 = ((HT.sIx n n hi : Nat) : Int) ∧ (sliceBounds lo hi none n).2.2 = 1 := by
 refine ⟨?_, ?_, rfl⟩
 ·cases lo with
  | none => simp [sliceBounds, HT.sIx]
  | some i =>
   simp only [sliceBounds, HT.sIx, Option.getD_none, show (1 : Int) > 0 by decide, if_true]
   by_cases h : i < 0
   ·simp only [h, if_true] <;> omega
   ·simp only [h, if_false] <;> omega
 ·cases hi with
  | none => simp [sliceBounds, HT.sIx]
  | some i =>
   simp only [sliceBounds, HT.sIx, Option.getD_none, show (1 : Int) > 0 by decide, if_true]
   by_cases h : i < 0
   ·simp only [h, if_true] <;> omega
   ·simp only [h, if_false] <;> omega
theorem slicePick_cut (its : List Value) (lo hi : Option Int) : slicePick its.toArray lo hi none = ((its.drop (HT.sIx its.length 0 lo)).take (HT.sIx its.length its.length hi - HT.sIx its.length 0 lo)).toArray := by
 obtain ⟨h1, h2, h3⟩ := slice_bounds lo hi its.toArray.size
 unfold slicePick
 rw [h1, h2, h3]
 simp only [sliceRange_one, pick_run, List.size_toArray] <;> rfl
def rSlL (K : PySem.W.Frag) : V → Option Int → Option Int → Hp → VK → Prop := fun x lo hi H Q => ∃ a xs, x = .ref a ∧ SqL K H a xs ∧ ∀ p, H p = none → Q (.ref p) (upd H p (.lst (cutV xs lo hi)))
theorem sl_list : SlR X (rSlL X.K) := by
 intro pins s σ H x v vl vu lo hi sl Q I rx hs pl pu h
 obtain ⟨a, xs, rfl, hx, q⟩ := h
 cases rx
 obtain ⟨its, r, ht, hz⟩ := I.list hx
 have hlen := r.length
 refine ⟨"list", _, slot_list_getitem.lookup, ht.isList.typeIs, ?_⟩
 refine wpAny_getItem_list_slice ht.isList hs pl pu .none (by simp) ?_ (by rw [List.size_toArray] <;> omega)
 rw [slicePick_cut, ← hlen]
 refine ⟨.ref s.heap.objs.size, _, I.laid (t' := s.toks) (o := .lst (cutV xs lo hi)) (fun b ob q => Heap.get?_push_of_some _ q) (Nat.le_refl _) ?_, rfl, q _ (I.hok.fresh (Nat.le_refl _))⟩
 exact ⟨Nat.le_trans (cutV_length xs lo hi) hz, _, 0, (r.drop (HT.sIx xs.length 0 lo)).take (HT.sIx xs.length xs.length hi - HT.sIx xs.length 0 lo), Heap.get?_push_size _ rfl⟩
theorem call_len_seq : CallR X (.builtin "len") (fun xs H Q => ∃ p ys, xs = [.ref p] ∧ (SqL X.K H p ys ∨ SqT X.K H p ys) ∧ Q (.int ys.length) H) := by
 intro pins s σ H xs us Q I r h
 obtain ⟨p, ys, rfl, hq, q⟩ := h
 obtain ⟨u, rfl, rx⟩ := vals1 r
 cases rx
 have hn := line63
 rcases hq with hq | hq
 ·obtain ⟨its, r', pl, hz⟩ := I.list hq
  have hlen := r'.length
  exact Calls.call_len_list pl.isList (by simp only [List.size_toArray] <;> omega) ⟨.int ys.length, H, I.tok _, ⟨s.toks + 1, by rw [List.size_toArray, hlen]⟩, q⟩
 ·obtain ⟨its, r', pl, hz⟩ := I.tuple hq
  have hlen := r'.length
  exact len_tuple pl (by simp only [List.size_toArray] <;> omega) ⟨.int ys.length, H, I.tok _, ⟨s.toks + 1, by rw [List.size_toArray, hlen]⟩, q⟩
theorem call_len_str : CallR X (.builtin "len") (fun xs H Q => ∃ z, xs = [.str z] ∧ z.length ≤ sizeLine ∧ Q (.int z.length) H) := by
 intro pins s σ H xs us Q I r h
 obtain ⟨z, rfl, hz, q⟩ := h
 obtain ⟨u, rfl, t, rfl⟩ := vals1 r
 have hn := line63
 exact len_str (by omega) ⟨.int z.length, H, I.tok _, ⟨_, rfl⟩, q⟩
theorem call_tuple_of : CallR X (.type "tuple") (fun xs H Q => ∃ p ys, xs = [.ref p] ∧ ((SqL X.K H p ys ∧ ∀ l, H l = none → Q (.ref l) (upd H l (.tup ys))) ∨ (SqT X.K H p ys ∧ Q (.ref p) H))) := by
 intro pins s σ H xs us Q I r h
 obtain ⟨p, ys, rfl, h⟩ := h
 obtain ⟨u, rfl, rx⟩ := vals1 r
 cases rx
 rcases h with ⟨hq, q⟩ | ⟨hq, q⟩
 ·obtain ⟨its, r', pl, hz⟩ := I.list hq
  have hlen := r'.length
  refine call_tuple_list pl.isList (fun h' kp => ?_) (by simp only [List.size_toArray] <;> omega)
  have I1 : Inv X pins σ H { s with heap := h' } := I.kept (t' := s.toks) kp
  have I2 : Inv X pins σ (upd H h'.objs.size (.tup ys)) { s with heap := h'.push { cls := .type "tuple", data := .seq its.toArray } } :=
   I1.laid (t' := s.toks) (fun b o e => Heap.get?_push_of_some _ e) (Nat.le_refl _) (show ObjOk X.prog X.w _ _ _ (.tup ys) from ⟨hz, its, r', PlainT.new _ _⟩)
  exact ⟨.ref h'.objs.size, _, I2, rfl, q _ (I1.hok.fresh (Nat.le_refl _))⟩
 ·obtain ⟨its, r', pl, hz⟩ := I.tuple hq
  exact call_tuple_same pl ⟨.ref p, H, I, rfl, q⟩
def tyV (K : PySem.W.Frag) (T : String) (x : V) (H : Hp) : Prop := match x with
 | .str _ => T = "str"
 | .int _ => T = "int"
 | .ref p => (T = "list" ∧ ∃ xs, SqL K H p xs) ∨ (T = "tuple" ∧ ∃ xs, SqT K H p xs) ∨
   (T = "dict" ∧ ((∃ kvs, H p = some (.dK kvs)) ∨ ∃ kvs, H p = some (.dT kvs))) ∨ (T = "set" ∧ ∃ S n, H p = some (.set S n))
 | _ => False
theorem tyV_is {pins : List (Addr × Obj)} {σ : St} {H : Hp} {s : Shared} {T : String} {x : V} {v : Value} (I : Inv X pins σ H s) (r : RelV x v) (ty : tyV X.K T x H) :
  s.TypeIs v T ∧ ∀ a, v = .ref a → ∃ ob, s.heap.get? a = some ob ∧ ob.dict = none := by
 cases x with
 | str z =>
  obtain ⟨t, rfl⟩ := r
  cases (show T = "str" from ty)
  exact ⟨typeIs_str s z t, fun _ e => nomatch e⟩
 | int i =>
  obtain ⟨t, rfl⟩ := r
  cases (show T = "int" from ty)
  exact ⟨typeIs_int s i t, fun _ e => nomatch e⟩
 | ref p =>
  cases r
  rcases ty with ⟨rfl, xs, hq⟩ | ⟨rfl, xs, hq⟩ | ⟨rfl, hk⟩ | ⟨rfl, S, n, hk⟩
  ·obtain ⟨its, _, pl, _⟩ := I.list hq
   refine ⟨pl.isList.typeIs, fun a e => ?_⟩
   cases e
   obtain ⟨o, n, e, c, hd, _⟩ := pl
   exact ⟨o, e, hd⟩
  ·obtain ⟨its, _, ⟨o, e0, hc, hd, _⟩, _⟩ := I.tupleP hq
   refine ⟨⟨o, e0, hc⟩, fun a e => ?_⟩
   cases e
   exact ⟨o, e0, hd⟩
  ·have z : ∃ o, s.heap.get? p = some o ∧ o.ExactDict := by
    rcases hk with ⟨kvs, hk⟩ | ⟨kvs, hk⟩
    ·obtain ⟨_, _, _, _, o, _, _, e, ex, _⟩ := I.hok p _ hk
     exact ⟨o, e, ex⟩
    ·obtain ⟨_, _, _, _, o, _, _, e, ex, _⟩ := I.hok p _ hk
     exact ⟨o, e, ex⟩
   obtain ⟨o, e, ex⟩ := z
   refine ⟨⟨o, e, ex.1⟩, fun a e2 => ?_⟩
   cases e2
   exact ⟨o, e, ex.2.1⟩
  ·obtain ⟨o, _, _, _, e, ex, _⟩ := I.hok p _ hk
   refine ⟨⟨o, e, ex.1⟩, fun a e2 => ?_⟩
   cases e2
   exact ⟨o, e, ex.2.1⟩
 | _ => exact False.elim ty
def tBM (K : PySem.W.Frag) (T : String) (r : V → List V → Hp → VK → Prop) (to : TE) (t : TA) : TE := fun σ H Q => to σ H fun x H1 => tyV K T x H1 ∧ t σ H1 fun xs H2 => r x xs H2 Q
variable {o e : Expr} {es : List Expr} {to : TE} {t : TA} {name : Str} {apos cpos : Pos} {T id : String} {r : V → List V → Hp → VK → Prop}
theorem pe_bm (pa : PlainAttrs T) (slot : Slot T name id) (hty : typeOf (.builtin id) = pure (.type "method_descriptor")) (hm : MtR X id r) (ho : PE X o to) (ha : PA X (e :: es) t)
  (hbase : attributeBase o name X.env (eval o X.env) = eval o X.env := by rfl)
  (hfew : ((backTo cpos (starEach (e :: es) X.env)).all (fun x => !x.1) && (backToKw cpos (keywordEach [] X.env)).all (fun x => x.1.isSome)
   && decide ((e :: es).length + ([] : List Keyword).length + (if ([] : List Keyword).isEmpty then 0 else 1) < 30)) = true := by rfl)
  (hline : (apos.endLine == cpos.line) = true := by rfl) (hs : starEach (e :: es) X.env = (false, eval e X.env) :: starEach es X.env := by rfl) (hplain : (backTo cpos (starEach es X.env)).any (·.1) = false := by rfl) :
  PE X (.Call (.Attribute o name apos) (e :: es) [] cpos) (tBM X.K T r to t) := by
 intro pins s σ H Q I h
 refine wpAny_Call_method_late hbase hfew hline rfl (thn (ho pins s σ H _ I h) fun v s1 ⟨x, H1, I1, r1, ty, q1⟩ => ?_)
 obtain ⟨h1, h2⟩ := tyV_is I1 r1 ty
 refine ⟨T, id, pa, slot, hty, h1, h2, ?_⟩
 have hA := ha cpos pins s1 σ H1 _ I1 q1
 rw [hs] at hA ⊢
 refine Calls.callWith_builtin (by show (false || (backTo cpos (starEach es X.env)).any (·.1)) = false; rw [hplain] <;> rfl) (Calls.evalArgs_plain ?_)
 exact thn hA fun us s2 ⟨vs, H2, I2, r2, q2⟩ => hm pins s2 σ H2 x vs v us Q I2 r1 r2 q2
end
def MtM (X : Cx) (id : String) (r : V → List V → Hp → VK → Prop) : Prop :=
 ∀ (pins : List (Addr × Obj)) (s : Shared) (σ : St) (H : Hp) (x : V) (xs : List V) (v : Value) (us : List Value) (Q : VK), Inv X pins σ H s → RelV x v → Vals xs us → r x xs H Q →
  wpAny (model X.prog X.w) X.A (call (.builtin id) (v :: us)) (EP X pins σ Q) X.xe s
theorem Vals.one : ∀ {x : V} {us : List Value}, Vals [x] us → ∃ u, us = [u] ∧ RelV x u
 | _, _, .cons r .nil => ⟨_, rfl, r⟩
theorem Vals.rep {xs : List V} {us : List Value} (h : Vals xs us) : ∀ k : Nat, Vals (List.replicate k xs).flatten (List.replicate k us).flatten
 | 0 => .nil
 | k + 1 => by
  rw [List.replicate_succ, List.replicate_succ, List.flatten_cons, List.flatten_cons]
  exact Vals.append h (Vals.rep h k)
theorem foldl_rep (its : List Value) : ∀ (k : Nat) (acc : List Value),
  List.foldl (fun x1 x2 => x1 ++ x2) acc.toArray (List.replicate k its.toArray) = (acc ++ (List.replicate k its).flatten).toArray
 | 0, acc => by simp
 | k + 1, acc => by
  have e : acc.toArray ++ its.toArray = (acc ++ its).toArray := by simp
  have e2 : (acc ++ its) ++ (List.replicate k its).flatten = acc ++ (List.replicate (k + 1) its).flatten := by
   rw [List.replicate_succ, List.flatten_cons, List.append_assoc]
  rw [← e2, ← foldl_rep its k (acc ++ its), ← e, List.replicate_succ, List.foldl_cons]
section
variable {X : Cx} {pins : List (Addr × Obj)} {σ : St} {H : Hp} {s : Shared} {l b : Addr} {xs ys zs : List V}
theorem Inv.lset {its its' : List Value} {n : Nat} {f : Array Value → Array Value} {t' : Nat} (I : Inv X pins σ H s) (hH : H l = some (.lst xs))
  (e : s.heap.get? l = some { cls := .type "list", data := .seq its.toArray n }) (hf : f its.toArray = its'.toArray) (hv : Vals ys its') (hz : ys.length ≤ sizeLine) :
  Inv X pins σ (upd H l (.lst ys)) { s with heap := s.heap.update l (Obj.mapSeq f), toks := t' } := by
 have q := PySem.IsL.update e f
 rw [hf] at q
 refine I.write (x := l) (e := l) (by rw [hH]; exact trivial) (.inl rfl) (fun b' u hb hu => (Heap.get?_update_other s.heap (Obj.mapSeq f) (Ne.symm hb)).trans hu) ⟨_, q⟩ ?_
 exact ⟨hz, its', _, hv, q⟩
theorem Inv.lnew {its : List Value} {t' : Nat} (I : Inv X pins σ H s) (hv : Vals ys its) (hz : ys.length ≤ sizeLine) :
  Inv X pins σ (upd H s.heap.objs.size (.lst ys)) { s with heap := s.heap.push { cls := .type "list", data := .seq its.toArray }, toks := t' } :=
 I.laid (fun _ _ q => Heap.get?_push_of_some _ q) (Nat.le_refl _) ⟨hz, its, 0, hv, Heap.get?_push_size _ rfl⟩
theorem Inv.fresh (I : Inv X pins σ H s) : H s.heap.objs.size = none := I.hok.fresh (Nat.le_refl _)
theorem Inv.lstM (I : Inv X pins σ H s) (hH : H l = some (.lst xs)) : xs.length ≤ sizeLine ∧ ∃ (its : List Value) (n : Nat), Vals xs its ∧ xs.length = its.length ∧ s.heap.get? l = some { cls := .type "list", data := .seq its.toArray n } := by
 obtain ⟨z, its, n, r, e⟩ := I.hok l _ hH
 exact ⟨z, its, n, r, r.length, e⟩
theorem notLongL {n : Nat} (h : n ≤ sizeLine) : Builtin.List.listTooLong n = false := by
 unfold Builtin.List.listTooLong
 exact decide_eq_false (by omega)
end
section
variable {X : Cx}
def rAppend : V → List V → Hp → VK → Prop := fun x vs H Q => ∃ l xs y, x = .ref l ∧ vs = [y] ∧ H l = some (.lst xs) ∧ xs.length < sizeLine ∧ Q .non (upd H l (.lst (xs ++ [y])))
theorem mt_append : MtM X "list.append" rAppend := by
 intro pins s σ H x vs v us Q I rx rv h
 obtain ⟨l, xs, y, rfl, rfl, hH, hz, q⟩ := h
 cases rx
 obtain ⟨u, rfl, ru⟩ := rv.one
 obtain ⟨z, its, n, r, hl, e⟩ := I.lstM hH
 refine call_meets F.slot_list_append ⟨_, e, rfl⟩ F.entry_list_append (F.args_list_append_2 _ _) (PySem.list_append l its.toArray n u (by rw [List.size_toArray]; omega)) ⟨e, ?_⟩
 refine ⟨.non, _, I.lset (its' := its ++ [u]) hH e (by simp) (r.append (.cons ru .nil)) ?_, rfl, q⟩
 rw [List.length_append, List.length_singleton]
 omega
def rExtend : V → List V → Hp → VK → Prop := fun x vs H Q => ∃ l b xs zs, x = .ref l ∧ vs = [.ref b] ∧ H l = some (.lst xs) ∧ H b = some (.lst zs) ∧ xs.length + zs.length ≤ sizeLine ∧ Q .non (upd H l (.lst (xs ++ zs)))
theorem mt_extend : MtM X "list.extend" rExtend := by
 intro pins s σ H x vs v us Q I rx rv h
 obtain ⟨l, b, xs, zs, rfl, rfl, hH, hB, hz, q⟩ := h
 cases rx
 obtain ⟨u, rfl, ru⟩ := rv.one
 cases ru
 obtain ⟨z, its, n, r, hl, e⟩ := I.lstM hH
 obtain ⟨z2, its2, n2, r2, hl2, e2⟩ := I.lstM hB
 have hsz : its.toArray.size + its2.toArray.size ≤ sizeLine := by rw [List.size_toArray, List.size_toArray]; omega
 have hlong : ¬ (!its.toArray.isEmpty && Builtin.List.listTooLong (its.toArray.size + its2.toArray.size)) = true := by
  rw [notLongL hsz, Bool.and_false]
  exact Bool.false_ne_true
 refine call_meets F.slot_list_extend ⟨_, e, rfl⟩ F.entry_list_extend (F.args_list_extend_2 _ _)
  (AutoSeq1.list_extend_list_list_0 l its.toArray n b its2.toArray n2 hlong (by rw [List.size_toArray]; omega) (by omega)) ⟨e, e2, ?_⟩
 refine ⟨.non, _, I.lset (its' := its ++ its2) hH e (by simp) (r.append r2) ?_, rfl, q⟩
 rw [List.length_append]
 omega
def rRep : R2 := fun x y H Q => ∃ l k xs, x = .ref l ∧ y = .int k ∧ H l = some (.lst xs) ∧ -(2 ^ 63) ≤ k ∧ k < 2 ^ 63 ∧ xs.length * k.toNat ≤ sizeLine ∧
 ∀ p, H p = none → Q (.ref p) (upd H p (.lst (List.replicate k.toNat xs).flatten))
theorem len_rep {α : Type} (xs : List α) (k : Nat) : (List.replicate k xs).flatten.length = k * xs.length := by
 induction k with
 | zero => simp
 | succ k ih => rw [List.replicate_succ, List.flatten_cons, List.length_append, ih, Nat.succ_mul, Nat.add_comm]
theorem op_rep : OpR X (binaryOp .Mult) rRep := by
 intro pins s σ H x y v u Q I rx ry h
 obtain ⟨l, k, xs, rfl, rfl, hH, h1, h2, hz, q⟩ := h
 cases rx
 obtain ⟨t, rfl⟩ := ry
 obtain ⟨z, its, n, r, hl, e⟩ := I.lstM hH
 have hlen : its.toArray.size * k.toNat ≤ sizeLine := by rw [List.size_toArray, ← hl]; exact hz
 have hcap : ¬ its.toArray.size * k.toNat > (2 ^ 63 - 1) / 8 := by
  have : (sizeLine : Nat) ≤ (2 ^ 63 - 1) / 8 := by decide
  omega
 have hfit : ¬ (!Builtin.List.listFitsIndex k) = true := by
  rw [fitsIndex_both h1 h2]
  exact Bool.false_ne_true
 have hlong : ¬ Builtin.List.listTooLong (its.toArray.size * k.toNat) = true := by
  rw [notLongL hlen]
  exact Bool.false_ne_true
 have hnew : List.foldl (fun x1 x2 => x1 ++ x2) #[] (List.replicate (if its.toArray.isEmpty = true then 0 else k.toNat) its.toArray) = (List.replicate k.toNat its).flatten.toArray := by
  have f0 : ∀ m : Nat, List.foldl (fun x1 x2 => x1 ++ x2) #[] (List.replicate m its.toArray) = (List.replicate m its).flatten.toArray := fun m => by
   have := foldl_rep its m []
   rw [List.nil_append] at this
   exact this
  rw [f0]
  cases its with
  | nil => simp
  | cons a r' => rw [if_neg (by simp)]
 refine wpAny_binaryOp_repeat_ref (T := "list") (U := "int") (by decide) ⟨_, e, rfl⟩ (fun s' => typeIs_int s' k t) noFill_list_mul F.fills_int_mul F.slot_int_rmul repeat_list F.slot_int_index.lookup
  (call_meets F.slot_int_rmul (typeIs_int s k t) F.entry_int_rmul (F.args_int_rmul_2 _ _) (int___rmul___int_list k t l its.toArray n)
   ⟨e, rfl, ⟨_, e, rfl⟩, call_meets F.slot_list_mul ⟨_, e, rfl⟩ F.entry_list_mul (F.args_list_mul_2 _ _) (AutoListH.list___mul___list_int_3 l its.toArray n k t hfit hcap hlong) ⟨e, ?_⟩⟩)
 rw [hnew]
 exact ⟨.ref _, _, I.lnew (t' := s.toks) (r.rep k.toNat) (by rw [len_rep, Nat.mul_comm]; exact hz), rfl, q _ I.fresh⟩
end
end L2
namespace Att
open PySem PySem.W PySem.Calls PyProof.Rows
theorem ints_of_wellAll {P : Params} {h : Heap} : ∀ (ns : List Int) (vs : List Value), WellAll P h vs (ns.map WData.int) → IntsAre vs ns := by
 intro ns
 induction ns with
 | nil =>
  intro vs w
  rw [List.map_nil] at w
  cases w
  exact .nil
 | cons n ns ih =>
  intro vs w
  rw [List.map_cons] at w
  cases w with
  | cons a b =>
   cases a
   exact .cons _ _ (ih _ b)
theorem script_of {l : OpenLaw} {n : Nat} (hn : l.most = some n) {P : Params} {h : Heap} {args : List WData} {vals : List Value}
  (hpre : l.row.toRowW.claim.pre args = true) (hwl : WellAll P h vals args) :
  ∃ a vs ns, vals = [Value.ref a] ∧ args = [WData.list (ns.map WData.int)] ∧ h.get? a = some { cls := .type "list", data := .seq vs.toArray } ∧ IntsAre vs ns ∧ ns.length ≤ n := by
 have hsh : WShape.hasAll [] args [.list .int] = true := (pre_splitW hpre).1
 have hc : l.pre.holds [] { args := args } = true := (pre_splitW hpre).2
 obtain ⟨d, r, rfl, h1, h2⟩ := hasAllW_cons hsh
 obtain rfl := hasAllW_nil h2
 obtain ⟨xs, rfl, h3⟩ := hasW_list h1
 obtain ⟨ns, rfl⟩ := items_int h3
 have hlen : ns.length ≤ n := by
  unfold OpenLaw.pre at hc
  have h4 : (WTm.not (.lt (.lit (.int (n : Int))) (.len (.arg 0)))).holds [] { args := [.list (ns.map .int)] } = true := by
   have h4 := (holds_andW hc).1
   rw [hn] at h4
   exact h4
  have h5 := condW_of h4 (w_not (w_lt w_lit (w_len_list (w_arg rfl))))
  rw [List.length_map] at h5
  refine Nat.le_of_not_lt fun q => ?_
  have q' : (n : Int) < ((ns.length : Nat) : Int) := by omega
  first
   | (rw [decide_eq_true q'] at h5; exact absurd h5 (by decide))
   | (simp at h5; omega)
 cases hwl with
 | cons w1 w2 =>
  cases w2
  cases w1 with
  | list ho hall => exact ⟨_, _, ns, rfl, rfl, ho, ints_of_wellAll ns _ hall, hlen⟩
theorem post_true (l : OpenLaw) (args : List WData) : l.row.toRowW.claim.post args (.bool true) args = true :=
 postW_of (r := l.row.toRowW) (X := (true == true))
  (show WShape.has [] (.bool true) .bool = true by first | rfl | decide | simp [WShape.has, WShape.arms, WShape.armsAll])
  (show (WTm.eq .res (.lit (.bool true))).value [] { args := args, res := some (.bool true), after := args } = some (.bool (true == true)) from w_eq_bool (w_res rfl) w_lit) rfl
theorem attach_call {l : OpenLaw} {n : Nat} {q : Program} {loose : List Str} {XP : (Str → Option Value) → Heap → Prop} {YP : World → Heap → Prop} {d : DefRec}
  (hn : l.most = some n) (hdf : d.params.defaults = [])
  (call : ∀ (w : World) (s₀ s₁ : Shared) (mg mb : Str → Option Value) (fa : Addr) (o : Obj) (pm cd doc : Value) (a : Addr) (vs : List Value) (ns : List Int),
   Ground q loose [] XP w s₀ mg mb s₁.heap → YP w s₁.heap →
   s₁.heap.get? fa = some o → o.data = .func (docDef d.name d.params d.body d.scope pm cd doc) → s₁.heap.CodeRec cd d.name → mg d.name = some (.ref fa) →
   s₁.heap.get? a = some { cls := .type "list", data := .seq vs.toArray } → IntsAre vs ns → ns.length ≤ n → s₁.gens = #[] →
   codeAny (model l.prog w) callerA (.call (.ref fa) ⟨[.ref a], []⟩) (fun r s' => r = .ok (.ret (.bool true)) ∧ OldK s₁.heap s'.heap ∧ s'.os = s₁.os ∧ AllBare s'.gens) s₁) :
  WalkO q loose XP YP l.row.toRowW d [] (fun f vs => PySem.call f vs) := by
 intro w s₀ s₁ mg mb G Y fa o pm cd doc dV kV ho hd hcd hD hmg hg args vals as hpre hlay hrd hwl hlo
 obtain rfl : dV = .none := Dflts.none hD hdf
 obtain rfl : kV = .none := Dflts.noKw hD
 obtain ⟨a, vs, ns, rfl, rfl, hobj, hints, hlen⟩ := script_of hn hpre hwl
 refine enter_call (codeAny_mono (call w s₀ s₁ mg mb fa o pm cd doc a vs ns G Y ho (fd_plain hd) hcd hmg hobj hints hlen hg) fun r s' hq => ?_)
 obtain ⟨rfl, h2, h3, h4⟩ := hq
 exact ⟨.inl ⟨.bool true, .bool true, [], rfl, fun _ => rfl, .bool true, post_true l _, fun _ => ⟨List.Pairwise.nil, fun _ hm => (nomatch hm)⟩⟩, h2, h3, h4⟩
end Att
namespace L2
open PySem PySem.Spec PyProof.Rows
theorem vals_ints : ∀ {vs : List Value} {ns : List Int}, IntsAre vs ns → Vals (ns.map V.int) vs
 | _, _, .nil => .nil
 | _, _, .cons n t h => .cons ⟨t, rfl⟩ (vals_ints h)
def Only (H : Hp) : Prop := ∀ b, H b = none ∨ ∃ o xs, H b = some (.frz o (.lst xs))
theorem law_call {P : Program} {w : World} {K : PySem.W.Frag} {mg mb : Str → Option Value} {CX : CXT} {k : Nat} {fa a : Addr} {fd : FuncData} {x : Str} {sp : Sp} {s₁ : Shared} {vs : List Value} {ns : List Int}
  (KX : K.In s₁.heap) (hns : s₁.heap.Ns mainGlobals mg) (hb : s₁.heap.Ns builtinsNs mb) (hbb : ∀ x : Str, x ≠ "__name__" → mb x = bootBuiltins x) (hlim : s₁.heap.NoLimit) (hsy : ∃ m, s₁.heap.Ns sysModules m) (hg : s₁.gens = #[])
  (ha : s₁.heap.get? a = some { cls := .type "list", data := .seq vs.toArray }) (hi : IntsAre vs ns) (hl : ns.length ≤ sizeLine) (hr : Room k callerA)
  (F : ∀ base : Heap, K.In base → base.Ns mainGlobals mg → FnOk P w K mg base CX k fa fd [x] sp) (hbind : ∀ (s : Shared) (u : Value), BindsTo s fd ⟨[u], []⟩ [(x, u)])
  (hsp : ∀ H : Hp, Only H → SqL K H a (ns.map V.int) → sp [.ref a] H (fun v _ => v = .bl true) fun _ _ _ => False)
  (hCX : ∀ H e s', CX [] H s₁ (fun _ _ _ => False) e s' → False) :
  codeAny (model P w) callerA (.call (.ref fa) ⟨[.ref a], []⟩) (fun r s' => r = .ok (.ret (.bool true)) ∧ OldK s₁.heap s'.heap ∧ s'.os = s₁.os ∧ AllBare s'.gens) s₁ := by
 have rv := vals_ints hi
 have lenV := hi.length
 have core : ∀ H : Hp, Only H → SqL K H a (ns.map V.int) → HOk P w H s₁.heap → (∀ b, H b ≠ none → b = a) → (H a ≠ none → K.lookup a = none) →
   codeAny (model P w) callerA (.call (.ref fa) ⟨[.ref a], []⟩) (fun r s' => r = .ok (.ret (.bool true)) ∧ OldK s₁.heap s'.heap ∧ s'.os = s₁.os ∧ AllBare s'.gens) s₁ := by
  intro H hO hS hok hA hK
  have base_of : ∀ {b : Addr} {o : Obj}, s₁.heap.get? b = some o → H b = none → (hidT s₁.heap H).get? b = some o := fun e n => hidT_get e n
  have noA : ∀ {b : Addr} {o : Obj} {es : Array DictEntry} {ep : Nat}, s₁.heap.get? b = some o → o.data = .dict es ep → H b = none := fun {b o es ep} e d => by
   cases q : H b with
   | none => rfl
   | some u =>
    have e' : b = a := hA b (by rw [q]; simp)
    subst e'
    rw [ha] at e; cases e
    have d' : Data.seq vs.toArray _ = Data.dict es ep := d
    cases d'
  have nsK : ∀ {b : Addr} {m : Str → Option Value}, s₁.heap.Ns b m → (hidT s₁.heap H).Ns b m := fun {b m} ⟨o, es, ep, e, d, r⟩ => ⟨o, es, ep, base_of e (noA e d), d, r⟩
  have hKb : K.In (hidT s₁.heap H) := fun b o e => base_of (KX b o e) (by
   cases q : H b with
   | none => rfl
   | some u =>
    have e' : b = a := hA b (by rw [q]; simp)
    subst e'
    rw [hK (by rw [q]; simp)] at e; cases e)
  have hM : Mod K mg (hidT s₁.heap H) := ⟨hKb, nsK hns, ⟨mb, nsK hb, hbb⟩, let ⟨mc, h1, h2⟩ := hlim; ⟨mc, nsK h1, h2⟩, let ⟨m, h⟩ := hsy; ⟨m, nsK h⟩⟩
  have e0 : Env0 P w K mg (hidT s₁.heap H) callerA [] s₁ H := ⟨rfl, hM, fun b o e => of_hidT e, Nat.le_of_eq (hidT_size _ _), trivial, fun b hb => absurd (show b ∈ ([] : List Addr) from hb) (by simp), hok, .of_eq hg⟩
  refine codeAny_mono ((F _ hKb (nsK hns)).run callerA [] s₁ H ⟨[.ref a], []⟩ [.ref a] [.ref a] _ _ hr e0 (hbind s₁ (.ref a)) (.cons rfl .nil) (hsp H hO hS)) fun r s' h => ?_
  cases r with
  | error e => exact (hCX H e s' h).elim
  | ok fl =>
   cases fl with
   | next => exact False.elim h
   | brk => exact False.elim h
   | cont => exact False.elim h
   | ret u =>
    obtain ⟨v, H', os, bare, un, hok', r', q⟩ := h
    have q' : v = .bl true := q
    subst q'
    obtain rfl : u = Value.bool true := r'
    refine ⟨rfl, OldK.of_keep fun b o e => ?_, os, bare⟩
    cases q : H b with
    | none => exact un.keep b o e q (by intro z; exact absurd (show b ∈ ([] : List Addr) from z) (by simp)) (by simp)
    | some u =>
     rcases hO b with z | ⟨ob, xs, z⟩
     ·rw [q] at z; cases z
     ·have z2 := un.frzs b ob _ z
      obtain ⟨e1, _⟩ := hok b _ z
      obtain ⟨e2, _⟩ := hok' b _ z2
      rw [e] at e1; cases e1
      exact e2
 cases hk : K.lookup a with
 | some o =>
  have e := KX a o hk
  rw [ha] at e
  cases e
  refine core (fun _ => none) (fun _ => .inl rfl) (.inr ⟨_, vs.toArray, _, hk, rfl, rfl, rfl, by rw [List.size_toArray, lenV]; exact hl, by simpa using rv⟩) (fun b u z => by have z' : (none : Option HO) = some u := z; cases z') (fun b z => absurd rfl z) fun z => absurd rfl z
 | none =>
  refine core (fun b => if b = a then some (.frz { cls := .type "list", data := .seq vs.toArray } (.lst (ns.map V.int))) else none) (fun b => ?_) (.inl (.inr ⟨{ cls := .type "list", data := .seq vs.toArray }, if_pos rfl⟩)) (fun b u z => ?_) (fun b z => ?_) fun _ => hk
  ·by_cases hb : b = a
   ·exact .inr ⟨_, _, if_pos hb⟩
   ·exact .inl (if_neg hb)
  ·by_cases hb : b = a
   ·have z' := (if_pos hb).symm.trans z
    cases z'
    subst hb
    exact ⟨ha, by rw [List.length_map]; exact hl, vs, _, rv, ha⟩
   ·have z' := (if_neg hb).symm.trans z
    cases z'
  ·by_cases hb : b = a
   ·exact hb
   ·exact absurd (if_neg hb) z
theorem walk_of {l : PySem.W.OpenLaw} {n k : Nat} {q : Program} {loose : List Str} {XP : (Str → Option Value) → Heap → Prop} {YP : World → Heap → Prop} {d : DefRec} {K : Params → PySem.W.Frag} {CX : World → CXT} {sp : World → Sp} {x : Str}
  (hq : importsNone q = true) (hn : l.most = some n) (hn2 : n ≤ sizeLine) (hdf : d.params.defaults = []) (hr : Room k callerA)
  (hY : ∀ (w : World) (h : Heap), YP w h → (K w.params).In h)
  (F : ∀ (w : World) (mg : Str → Option Value) (fa : Addr) (h : Heap), (K w.params).In h → h.Ns mainGlobals mg → mg d.name = some (.ref fa) →
   ∃ fd : FuncData, (∀ (s : Shared) (u : Value), BindsTo s fd ⟨[u], []⟩ [(x, u)]) ∧
    ∀ base : Heap, (K w.params).In base → base.Ns mainGlobals mg → FnOk l.prog w (K w.params) mg base (CX w) k fa fd [x] (sp w))
  (hsp : ∀ (w : World) (H : Hp) (a : Addr) (ns : List Int), ns.length ≤ n → Only H → SqL (K w.params) H a (ns.map V.int) → sp w [.ref a] H (fun v _ => v = .bl true) fun _ _ _ => False)
  (hCX : ∀ (w : World) (H : Hp) (s : Shared) (e : Value) (s' : Shared), CX w [] H s (fun _ _ _ => False) e s' → False) :
  PySem.W.WalkO q loose XP YP l.row.toRowW d [] (fun f vs => PySem.call f vs) := by
 refine Att.attach_call hn hdf fun w s₀ s₁ mg mb fa o pm cd doc a vs ns G Y ho hd hcd hmg hobj hints hlen hg => ?_
 have KX := hY w _ Y
 obtain ⟨fd, hb, hF⟩ := F w mg fa _ KX G.T.g hmg
 exact law_call KX G.T.g G.T.b G.T.builtins G.T.nolimit (let ⟨m, h, _⟩ := (G.T.seer hq).mods; ⟨m, h⟩) hg hobj hints (Nat.le_trans hlen hn2) hr hF hb (fun H hO hS => hsp w H a ns hlen hO hS) fun H e s' => hCX w H s₁ e s'
def defArgs (s : Stmt) : Arguments := match s with
 | .FunctionDef _ a _ _ _ _ _ _ _ _ => a
 | _ => { posonlyargs := [], args := [], vararg := none, kwonlyargs := [], kw_defaults := [], kwarg := none, defaults := [] }
def defBody (s : Stmt) : List Stmt := match s with
 | .FunctionDef _ _ b _ _ _ _ _ _ _ => b
 | _ => []
def defScope (s : Stmt) : Scope := match s with
 | .FunctionDef _ _ _ _ _ _ sc _ _ _ => sc
 | _ => { kind := .function, names := [], isGenerator := false, isCoroutine := false }
abbrev CX0 : CXT := fun _ _ _ _ _ _ => False
abbrev E0 : XK := fun _ _ _ => False
theorem pass0 {X : Cx} : Passes CX0 X E0 := fun _ _ _ _ _ _ _ h => h.elim
structure Fun (K : PySem.W.Frag) (x qual : Str) (st : Stmt) (f : Addr) (fd : FuncData) : Prop where
 ex : ∃ (oc : Value) (od : Option Addr) (kV doc pm : Value) (an : Option Addr) (cdv ct : Value) (osl : Array (Option Value)),
  fd = PySem.W.fnOf x qual (defArgs st) (defBody st) (defScope st) .none kV doc pm an cdv ct ∧ K.lookup f = some ⟨oc, od, .func fd, osl⟩ ∧ PySem.W.codeIn K cdv qual = true
 kp : PySem.W.keepIn K (.ref f) = true
section
variable {P : Program} {w : World} {K : PySem.W.Frag} {mg : Str → Option Value} {base : Heap}
theorem Fun.ok {x qual : Str} {st : Stmt} {f : Addr} {fd : FuncData} {N ps : List Str} {k : Nat} {sp : Sp} (F : Fun K x qual st f fd) (S : FnScope N ps (defScope st)) (len : ∀ vs H Q E, sp vs H Q E → vs.length = ps.length)
  (hbody : ∀ (cdv : Value) (A : Around) (outer : List Env) (s : Shared) (H : Hp) (vs : List V) (Q : VK) (E : XK), Room k (A.deeper (envOfC qual (defScope st) s.heap.objs.size f cdv)) → sp vs H Q E →
   ∃ t, PSs (cxOf CX0 P w K mg base N qual (defScope st) f cdv A outer s H E).nox (defBody st) t ∧ t { nx := fun _ H' => Q .non H', rt := Q } (start N vs) H) : FnOk P w K mg base CX0 (k + 1) f fd ps sp := by
 obtain ⟨oc, od, kV, doc, pm, an, cdv, ct, osl, rfl, lk, hcd⟩ := F.ex
 refine fn_of lk hcd S len fun A outer s H vs Q E hr hsp => ?_
 obtain ⟨t, h, q⟩ := hbody cdv A outer s H vs Q E hr hsp
 exact ⟨t, h.nox, q⟩
theorem Fun.binds {x qual : Str} {st : Stmt} {f : Addr} {fd : FuncData} {ps : List Str} (F : Fun K x qual st f fd)
  (h : ∀ (kV doc pm : Value) (an : Option Addr) (cdv ct : Value) (us : List Value), us.length = ps.length → bindArgs (PySem.W.fnOf x qual (defArgs st) (defBody st) (defScope st) .none kV doc pm an cdv ct) ⟨us, []⟩ = pure (ps.zip us)) : Binds K fd ps [] := by
 obtain ⟨oc, od, kV, doc, pm, an, cdv, ct, osl, rfl, lk, hcd⟩ := F.ex
 exact .all (h kV doc pm an cdv ct)
theorem fun_mk {x qual : Str} {st : Stmt} {f : Addr} {oc : Value} {od an : Option Addr} {osl : Array (Option Value)} {kV doc pm cdv ct : Value} (l : K.lookup f = some ⟨oc, od, .func (PySem.W.fnOf x qual (defArgs st) (defBody st) (defScope st) .none kV doc pm an cdv ct), osl⟩)
  (c : PySem.W.codeIn K cdv qual = true) (k : PySem.W.keepIn K (.ref f) = true) : Fun K x qual st f (PySem.W.fnOf x qual (defArgs st) (defBody st) (defScope st) .none kV doc pm an cdv ct) := ⟨⟨oc, od, kV, doc, pm, an, cdv, ct, osl, rfl, l, c⟩, k⟩
end
theorem iteF {A B : Prop} (h : B) : if false = true then A else B := by
 rw [if_neg Bool.false_ne_true]
 exact h
theorem iteT {A B : Prop} (h : A) : if true = true then A else B := by
 rw [if_pos rfl]
 exact h
def cxComp (X : Cx) (scope : Scope) (cl : List (Str × Addr)) (N : List Str) (s : Shared) (H : Hp) (C : Addr) (ex : List Addr) : Cx where
 prog := X.prog
 w := X.w
 K := X.K
 mg := X.mg
 base := X.base
 A := X.A
 N := N
 s₀ := s
 H₀ := H
 env := compEnvC scope cl C X.env
 outer := X.stack
 stack := X.stack
 ex := ex
 fn := fun _ => false
 calm := X.calm
 eb := X.eb
 pn := []
 xe := fun _ _ => False
theorem closure_ok {env : Env} : ∀ {names : List (Str × NameKind)} {acc : List (Str × Addr)}, (∀ y ∈ names, y.2 = .free → ∃ c, env.cells.lookup y.1 = some c) → (∀ x c, acc.lookup x = some c → env.cells.lookup x = some c) →
  ∃ cl, (forIn names acc fun (x : Str × NameKind) (cs : List (Str × Addr)) => if (x.2 == NameKind.free) = true then do let c ← cellOf env x.1; pure (ForInStep.yield ((x.1, c) :: cs)) else pure (ForInStep.yield cs) : Sem (List (Str × Addr))) = pure cl ∧
   (∀ x c, cl.lookup x = some c → env.cells.lookup x = some c) ∧ (∀ y ∈ names, y.2 = .free → ∃ c, cl.lookup y.1 = some c) ∧ (∀ x, (∃ c, acc.lookup x = some c) → ∃ c, cl.lookup x = some c)
 | [], acc, _, ha => ⟨acc, rfl, ha, fun y hy => absurd hy (by simp), fun _ h => h⟩
 | (n, k) :: r, acc, h, ha => by
  rw [List.forIn_cons]
  by_cases hk : k = .free
  ·subst hk
   obtain ⟨c, hc⟩ := h (n, .free) List.mem_cons_self rfl
   have hc' : env.cells.lookup n = some c := hc
   have e1 : cellOf env n = pure c := by unfold cellOf; rw [hc']
   obtain ⟨cl, e2, h2, h3, h4⟩ := closure_ok (env := env) (names := r) (acc := (n, c) :: acc) (fun y hy => h y (List.mem_cons_of_mem _ hy)) (fun x d hx => by
    rw [List.lookup_cons] at hx
    cases hb : x == n with
    | true => rw [hb] at hx; cases hx; rw [eq_of_beq hb]; exact hc'
    | false => rw [hb] at hx; exact ha x d hx)
   refine ⟨cl, ?_, h2, fun y hy hyk => ?_, fun x hx => h4 x ?_⟩
   ·simp only [beq_self_eq_true, if_true, e1, pure_bind]
    exact e2
   ·obtain rfl | hy := List.mem_cons.mp hy
    ·exact h4 n ⟨c, by rw [List.lookup_cons]; simp⟩
    ·exact h3 y hy hyk
   ·obtain ⟨d, hd⟩ := hx
    rw [List.lookup_cons]
    cases hb : x == n with
    | true => exact ⟨c, rfl⟩
    | false => exact ⟨d, hd⟩
  ·have hb : (k == NameKind.free) = false := by simpa using hk
   obtain ⟨cl, e2, h2, h3, h4⟩ := closure_ok (env := env) (names := r) (acc := acc) (fun y hy => h y (List.mem_cons_of_mem _ hy)) ha
   refine ⟨cl, ?_, h2, fun y hy hyk => ?_, h4⟩
   ·simp only [hb, Bool.false_eq_true, if_false, pure_bind]
    exact e2
   ·obtain rfl | hy := List.mem_cons.mp hy
    ·exact absurd hyk hk
    ·exact h3 y hy hyk
theorem closureFor_ok {env : Env} {scope : Scope} (h : ∀ y ∈ scope.names, y.2 = .free → ∃ c, env.cells.lookup y.1 = some c) :
  ∃ cl, closureFor scope env = pure cl ∧ (∀ x c, cl.lookup x = some c → env.cells.lookup x = some c) ∧ ∀ y ∈ scope.names, y.2 = .free → ∃ c, cl.lookup y.1 = some c := by
 obtain ⟨cl, e, h1, h2, _⟩ := closure_ok (env := env) (names := scope.names) (acc := []) h (fun x c hx => by cases hx)
 refine ⟨cl, ?_, h1, h2⟩
 simp only [closureFor]
 have e' := congrArg (fun (t : Sem (List (Str × Addr))) => t >>= fun cs => pure cs) e
 simp only [pure_bind, bind_pure] at e' ⊢
 exact e'
def PTs (X : Cx) (ifs : List Expr) (t : TT) : Prop :=
 ∀ (pins : List (Addr × Obj)) (s : Shared) (σ : St) (H : Hp) (Q : Bool → Hp → Prop), Inv X pins σ H s → t σ H Q →
  wpAny (model X.prog X.w) X.A (forIn ifs true fun c r => if r = true then do let ok ← isTrue c X.env (eval c X.env); pure (ForInStep.yield ok) else pure (ForInStep.yield r)) (TP X pins σ Q) X.xe s
def tNoTest : TT := fun _ H Q => Q true H
theorem pts_nil {X : Cx} : PTs X [] tNoTest := fun _ _ _ H _ I h => wpAny_tests_nil ⟨H, I, h⟩
def PB (X : Cx) (bd : Sem PUnit) (t : TS) : Prop :=
 ∀ (pins : List (Addr × Obj)) (s : Shared) (σ : St) (H : Hp) (D : Ends), Inv X pins σ H s → t D σ H → wpAny (model X.prog X.w) X.A bd (fun _ s' => ∃ σ' H', Inv X pins σ' H' s' ∧ D.nx σ' H') X.xe s
def tLoop (J : It) (g : TG) (tb : TS) : TS := fun D σ H => ∃ W : Nat → Nat → St → Hp → Prop, (∃ m, W 0 m σ H) ∧ ∀ i m σ H, W i m σ H →
 (J.stop i H ∧ D.nx σ H) ∨ (J.go i H ∧ ∃ N : St → Hp → Prop, (∀ σ' H', N σ' H' → ∃ m', m' < m ∧ W (i + 1) m' σ' H') ∧ ∀ x H', J.yld i H x H' → g x σ H' fun σ2 H2 => tb { D with nx := N, ct := N, bk := D.nx } σ2 H2)
def tIfT (tt : TT) (tb : TS) : TS := fun D σ H => tt σ H fun b H1 => if b = true then tb D σ H1 else D.nx σ H1
def tEmit (l : Addr) (te : TE) : TS := fun D σ H => te σ H fun x H1 => ∃ xs, H1 l = some (.lst xs) ∧ xs.length < sizeLine ∧ D.nx σ (upd H1 l (.lst (xs ++ [x])))
theorem comp_loop {X : Cx} {elt : Expr} {gens : List Comprehension} {scope : Scope} {pos : Pos} {d : Nat} {it : Addr} {acc : Value} {tg : Expr} {ipos : Pos} {ifs : List Expr} {bd : Sem PUnit} {g : TG} {tt : TT} {tb : TS} {J : It} {fp : List Addr} {tn : Nat → Heap → Prop}
  (hturn : compTurn (.ListComp elt gens scope pos) d (.ref it) acc X.env = (do
   standAt ipos
   match ← pyNext (.ref it) with
   | none => pure (.done .next)
   | some v =>
    letOwnedTupleGo tg (.ref it) v
    assign tg X.env v
    let mut ok := true
    for c in ifs do
     if ok then ok ← isTrue c X.env (eval c X.env)
    if ok then bd
    again (.compLoop (.ListComp elt gens scope pos) d (.ref it) acc X.env)))
  (hx : X.xe = fun _ _ => False) (hc : X.calm = true) (T : Turn X.prog X.w X.K tg J fp it tn) (hg : PG X tg g) (ht : PTs X ifs tt) (hb : PB X bd tb)
  {pins : List (Addr × Obj)} {s : Shared} {σ : St} {H : Hp} {D : Ends} (I : Inv X pins σ H s) (st : tn 0 s.heap) (f : ∀ b ∈ fp, FpOk X pins H b) (h : tLoop J g (tIfT tt tb) D σ H) :
  codeAny (model X.prog X.w) X.A (.compLoop (.ListComp elt gens scope pos) d (.ref it) acc X.env) (fun r s' => r = .ok .next ∧ ∃ σ' H', Inv X pins σ' H' s' ∧ D.nx σ' H') s := by
 obtain ⟨W, ⟨m0, w0⟩, turn⟩ := h
 have stat : ∀ {H' : Hp}, (∀ b ∈ fp, H' b = none) → ∀ b ∈ fp, FpOk X pins H' b := fun hn b hb => ⟨hn b hb, (f b hb).2⟩
 have nox : ∀ {α : Type} {t : Sem α} {Q : α → Shared → Prop} {E : Value → Shared → Prop} {s : Shared}, wpAny (model X.prog X.w) X.A t Q X.xe s → wpAny (model X.prog X.w) X.A t Q E s := fun h => wpAny_mono h (fun _ _ q => q) fun _ _ z => by
  rw [hx] at z; exact z.elim
 refine codeAny_loop rfl (fun n s' => ∃ i σ' H', Inv X pins σ' H' s' ∧ tn i s'.heap ∧ (∀ b ∈ fp, H' b = none) ∧ W i n σ' H') ?_ m0 ⟨0, σ, H, I, st, fun b hb => (f b hb).1, w0⟩
 rintro n s3 ⟨i, σ3, H3, I3, st3, fr3, w3⟩
 show wpAny _ X.A ((compTurn (.ListComp elt gens scope pos) d (.ref it) acc X.env).onRaise (fun x => do noteFrame x X.env; theTreesLotGoes x)) _ _ s3
 refine wpAny_noted ?_
 rw [hturn]
 refine wpAny_bind (m := standAt _) (wpAny_standAt (wpAny_bind ?_))
 rcases turn i n σ3 H3 w3 with ⟨stop, qn⟩ | ⟨go, N, hN, step⟩
 ·refine thn (T.done X rfl rfl rfl hc i pins s3 σ3 H3 _ I3 (stat fr3) st3 stop) fun r s4 ⟨hr, I4⟩ => ?_
  subst hr
  exact wpAny_pure ⟨rfl, σ3, H3, I4, qn⟩
 ·refine thn (T.item X rfl rfl rfl hc i pins s3 σ3 H3 _ I3 (stat fr3) st3 go) fun r s4 ⟨u, hr, h4⟩ => ?_
  subst hr
  refine wpAny_bind (thn h4 fun _ s5 ⟨x, H5, I5, r5, y5, st5, fr5⟩ => ?_)
  have I5' := I5.pinned (stat fr5) (T.obj _ _ st5)
  refine wpAny_bind (nox (thn (hg _ s5 σ3 H5 x u _ I5' r5 (step x H5 y5)) fun _ s6 ⟨σ6, H6, I6, q6⟩ => ?_))
  refine wpAny_bind (nox (thn (ht _ s6 σ6 H6 _ I6 q6) fun ok s7 ⟨H7, I7, q7⟩ => ?_))
  have fin : ∀ {σ8 : St} {H8 : Hp} {s8 : Shared}, Inv X (pins ++ pinsAt fp s5.heap) σ8 H8 s8 → N σ8 H8 → ∃ m, m < n ∧ ∃ i σ' H', Inv X pins σ' H' s8 ∧ tn i s8.heap ∧ (∀ b ∈ fp, H' b = none) ∧ W i m σ' H' := fun {σ8 H8 s8} I8 n8 => by
   obtain ⟨m', hm, w8⟩ := hN σ8 H8 n8
   refine ⟨m', hm, i + 1, σ8, H8, I8.unpinned, T.keep _ _ _ st5 fun b hb o e => (I8.pin (b, o) (List.mem_append_right _ (List.mem_append_right _ (mem_pinsAt hb e)))).1, fun b hb => ?_, w8⟩
   obtain ⟨o, e, _⟩ := T.obj _ _ st5 b hb
   exact (I8.pin (b, o) (List.mem_append_right _ (List.mem_append_right _ (mem_pinsAt hb e)))).2.1
  cases ok with
  | false =>
   rw [if_neg Bool.false_ne_true] at q7
   exact wpAny_pure ⟨rfl, fin I7 q7⟩
  | true =>
   rw [if_pos rfl] at q7
   exact wpAny_bind (nox (thn (hb _ s7 σ6 H7 _ I7 q7) fun _ s8 ⟨σ8, H8, I8, q8⟩ => wpAny_pure ⟨rfl, fin I8 q8⟩))
theorem pb_emit {X : Cx} {elt : Expr} {te : TE} {l : Addr} (he : PE X elt te) : PB X (do let _ ← call (.builtin "list.append") [.ref l, ← eval elt X.env]) (tEmit l te) := by
 intro pins s σ H D I h
 refine wpAny_bind (thn (he pins s σ H _ I h) fun u s1 ⟨x, H1, I1, r1, xs, hl, hz, q⟩ => ?_)
 obtain ⟨hz1, its, n, rv, hv, ho⟩ := I1.lstM hl
 have hsl : s1.heap.IsList l its.toArray := ⟨_, ho, rfl, _, rfl⟩
 refine wpAny_bind (thn (Q := fun _ s' => ∃ σ' H', Inv X pins σ' H' s' ∧ D.nx σ' H') ?_ fun _ s' hq => wpAny_pure hq)
 exact thn (mt_append (X := X) pins s1 σ H1 (.ref l) [x] (.ref l) [u] (fun v H' => v = .non ∧ D.nx σ H') I1 rfl (.cons r1 .nil) ⟨l, xs, x, rfl, rfl, hl, hz, rfl, q⟩) fun v s' ⟨_, H', I', _, _, q'⟩ => ⟨σ, H', I', q'⟩
theorem lookup_relabel (env : Env) (x : Str) : ∀ names : List (Str × NameKind), (names.map fun (n, k) => if (k == NameKind.free && env.scope.kind == .function && env.kindOf n == some .cell) then (n, NameKind.cell) else (n, k)).lookup x =
  (names.lookup x).map fun k => if (k == NameKind.free && env.scope.kind == .function && env.kindOf x == some .cell) then NameKind.cell else k
 | [] => rfl
 | (n, k) :: r => by
  have ih := lookup_relabel env x r
  rw [List.map_cons]
  dsimp only
  cases hx : x == n with
  | true =>
   have e := eq_of_beq hx
   subst e
   by_cases hc : (k == NameKind.free && env.scope.kind == .function && env.kindOf x == some .cell) = true
   ·rw [if_pos hc]; simp only [List.lookup_cons, hx, Option.map_some, if_pos hc]
   ·rw [if_neg hc]; simp only [List.lookup_cons, hx, Option.map_some, if_neg hc]
  | false =>
   split
   ·simp only [List.lookup_cons, hx]; exact ih
   ·simp only [List.lookup_cons, hx]; exact ih
theorem lookup_mem {x : Str} {k : NameKind} : ∀ {names : List (Str × NameKind)}, names.lookup x = some k → (x, k) ∈ names := fun h => PySem.mem_of_lookup h
theorem of_relabel_free {env : Env} {scope : Scope} {x : Str} (hcell : ∀ y ∈ scope.names, y.2 ≠ .cell) (h : (relabel scope env).names.lookup x = some .cell ∨ (relabel scope env).names.lookup x = some .free) : scope.names.lookup x = some .free := by
 unfold relabel at h
 simp only [lookup_relabel] at h
 cases e : scope.names.lookup x with
 | none => rw [e] at h; rcases h with h | h <;> cases h
 | some k =>
  rw [e] at h
  simp only [Option.map_some, Option.some.injEq] at h
  have hk : k ≠ .cell := hcell (x, k) (lookup_mem e)
  by_cases hf : k = .free
  ·rw [hf]
  ·have hb : (k == NameKind.free) = false := by simpa using hf
   rw [hb] at h
   simp only [Bool.false_and, Bool.false_eq_true, if_false] at h
   rcases h with h | h
   ·exact absurd h hk
   ·rw [h]
theorem relabel_free {env : Env} {scope : Scope} {x : Str} (h : scope.names.lookup x = some .free) : (relabel scope env).names.lookup x = some .cell ∨ (relabel scope env).names.lookup x = some .free := by
 unfold relabel
 simp only [lookup_relabel, h, Option.map_some]
 split
 ·exact .inl rfl
 ·exact .inr rfl
def compSt (own : List Str) (ps : List Nat) (σ : St) : St := own.map (fun _ => none) ++ ps.map fun i => (σ[i]?).join
structure CompScope (own fr : List Str) (scope sc : Scope) : Prop where
 kind : scope.kind = .function
 nocell : ∀ y ∈ scope.names, y.2 ≠ .cell
 names : ∀ y ∈ scope.names, y.2 = .local → scope.names.lookup y.1 = some .local
 there : ∀ y ∈ scope.names, y.2 = .free → sc.names.lookup y.1 = some .cell ∨ sc.names.lookup y.1 = some .free
 fr : ∀ x ∈ fr, scope.names.lookup x = some .free
section
variable {X : Cx} {scope sc : Scope} {own fr : List Str} {ps : List Nat}
theorem comp_core {elt tg iter : Expr} {ifs : List Expr} {rest : List Comprehension} {pos : Pos} {bdy : Env → Value → Sem PUnit} {g : TG} {tt : TT} {tb : Addr → TS} {cl : List (Str × Addr)} {R : Value → Addr → Result → Shared → Prop} {E : Value → Shared → Prop}
  (S : CompScope own fr scope sc) (hsc : X.env.scope = sc) (hps : ps.map (fun i => X.N[i]?) = fr.map some) (hc : X.calm = true) (hcl1 : ∀ x c, cl.lookup x = some c → X.env.cells.lookup x = some c) (hcl2 : ∀ y ∈ scope.names, y.2 = .free → ∃ c, cl.lookup y.1 = some c)
  (hturn : ∀ env it acc, compTurn (.ListComp elt (⟨tg, iter, ifs, 0⟩ :: rest) scope pos) 0 it acc env = (do
   standAt iter.pos
   match ← pyNext it with
   | none => pure (.done .next)
   | some v =>
    letOwnedTupleGo tg it v
    assign tg env v
    let mut ok := true
    for c in ifs do
     if ok = true then ok ← isTrue c env (eval c env)
    if ok then bdy env acc
    again (.compLoop (.ListComp elt (⟨tg, iter, ifs, 0⟩ :: rest) scope pos) 0 it acc env)))
  (hg : ∀ s H C ex, PG (cxComp X scope cl (own ++ fr) s H C ex) tg g) (ht : ∀ s H C ex, PTs (cxComp X scope cl (own ++ fr) s H C ex) ifs tt)
  (hb : ∀ s H C ex l, PB (cxComp X scope cl (own ++ fr) s H C ex) (bdy (compEnvC scope cl C X.env) (.ref l)) (tb l))
  {pins : List (Addr × Obj)} {s : Shared} {σ : St} {H : Hp} {Q : VK} {it : Addr} {fp : List Addr} {tn : Nat → Heap → Prop} {J : It} (I : Inv X pins σ H s) (T : Turn X.prog X.w X.K tg J fp it tn) (st : tn 0 s.heap) (f : ∀ b ∈ fp, FpOk X pins H b)
  (h : ∀ l, H l = none → tLoop J g (tIfT tt (tb l)) { nx := fun _ H' => Q (.ref l) H', rt := fun _ _ => False } (compSt own ps σ) (upd H l (.lst [])))
  (hR : ∀ l C H' s', (∃ m, s'.heap.Ns C m) → Inv X pins σ H' s' → FpOk X pins H' C → Q (.ref l) H' → R (.ref l) C (.ok .next) s') :
  wpAny (model X.prog X.w) X.A (newList []) (fun acc s₃ => wpAny (model X.prog X.w) X.A (newFunctionEnv scope X.env.globals cl [] X.env.qual none .none (some X.env)) (fun cenv s₄ =>
   codeAny (model X.prog X.w) X.A (.compStart (.ListComp elt (⟨tg, iter, ifs, 0⟩ :: rest) scope pos) 0 (.ref it) acc { cenv with scope := relabel scope X.env }) (R acc cenv.locals) s₄) E s₃) E s := by
 refine wpAny_newObj_type (wpAny_newFunctionEnv S.nocell (by intro y hy; simp at hy) (fun h₁ hns₁ hsb₁ => ?_) S.kind)
 have I3 : Inv X pins σ (upd H s.heap.objs.size (.lst [])) { s with heap := s.heap.push { cls := .type "list", data := .seq ([] : List Value).toArray } } := I.lnew (t' := s.toks) (ys := []) .nil (Nat.zero_le _)
 generalize hS3 : ({ s with heap := s.heap.push { cls := .type "list", data := .seq ([] : List Value).toArray } } : Shared) = s3 at I3 hns₁ hsb₁ ⊢
 have hsz : s3.heap.objs.size = s.heap.objs.size + 1 := by rw [← hS3]; exact Heap.size_push _ _
 have hl : H s.heap.objs.size = none := I.hok.fresh (Nat.le_refl _)
 have kept0 : ∀ b o, s.heap.get? b = some o → s3.heap.get? b = some o := fun b o e => by rw [← hS3]; exact Heap.get?_push_of_some _ e
 have kept1 : ∀ b o, s3.heap.get? b = some o → h₁.get? b = some o := fun b o e => hsb₁.extBut b o (Nat.ne_of_lt (Heap.lt_size e)) (Heap.get?_push_of_some _ e)
 have fpl : ∀ b ∈ fp, b < s.heap.objs.size := fun b hb => by obtain ⟨o, e, _⟩ := T.obj _ _ st b hb; exact Heap.lt_size e
 have fpH : ∀ b ∈ fp, (upd H s.heap.objs.size (.lst [])) b = none := fun b hb => by rw [upd_ne (Nat.ne_of_lt (fpl b hb))]; exact (f b hb).1
 have fpS : ∀ b ∈ fp, b ∉ frs X.stack := fun b hb z => by
  rcases List.mem_cons.mp (I.stkSub b z) with e | e
  ·exact (f b hb).2.1 e
  ·exact (f b hb).2.2.1 e
 have ok' : (cxComp X scope cl (own ++ fr) s3 (upd H s.heap.objs.size (.lst [])) s3.heap.objs.size fp).Ok := by
  refine ⟨I.ok.mod, S.kind, I.ok.glob, I.ok.blt, Nat.le_refl _, fun x y c h1 h2 => I.ok.inj x y c (hcl1 x c h1) (hcl1 y c h2), fun x hx => ?_, fun x c hf => (by cases hf), I.ok.hd, I.ok.frames, .inl rfl, fun b hb => ⟨?_, fun x c hx => (f b hb).2.2.2.2.1 x c (hcl1 x c hx)⟩,
   fun b o e => I3.bs b o e, Nat.le_trans I3.ok.bsz I3.sz, fun b o e hb => ?_, fun b hb => fpS b hb, I3.stack, I3.stkFree⟩
  ·exact hcl2 (x, .free) (lookup_mem (of_relabel_free S.nocell hx)) rfl
  ·exact Nat.ne_of_lt (Nat.lt_of_lt_of_le (fpl b hb) (by rw [hsz]; exact Nat.le_succ _))
  ·rcases (f b hb).2.2.2.1 with z | z
   ·exact I.ok.noex b o e z
   ·exact absurd (Nat.lt_of_lt_of_le (Heap.lt_size (I.ok.bs b o e).1) z) (Nat.lt_irrefl _)
 have I4 : Inv (cxComp X scope cl (own ++ fr) s3 (upd H s.heap.objs.size (.lst [])) s3.heap.objs.size fp) [] (compSt own ps σ) (upd H s.heap.objs.size (.lst [])) { s3 with heap := h₁, toks := s3.toks + ([] : List (Str × Value)).length } := by
  refine ⟨ok', rfl, I3.bare, Un.kept kept1, ⟨_, hns₁, fun i x v e1 e2 e3 => ?_⟩, fun x c e => ?_, I3.hok.fresh (Nat.le_refl _), fun x c e => I3.freeC x c (hcl1 x c e), fun p hp => absurd (show p ∈ ([] : List (Addr × Obj)) from hp) (by simp), I3.hok.kept kept1, ?_⟩
  ·have e1' : (own ++ fr)[i]? = some x := e1
   unfold compSt at e2
   by_cases hi : i < own.length
   ·rw [List.getElem?_append_left (by simpa using hi), List.getElem?_map] at e2
    cases q : own[i]? with
    | none => rw [q] at e2; cases e2
    | some z => rw [q] at e2; cases e2
   ·rw [List.getElem?_append_right (by simpa using hi), List.length_map, List.getElem?_map] at e2
    rw [List.getElem?_append_right (by simpa using hi)] at e1'
    cases q : ps[i - own.length]? with
    | none => rw [q] at e2; cases e2
    | some p =>
     rw [q] at e2
     have e2' : (σ[p]?).join = some v := Option.some.inj e2
     have hσ : σ[p]? = some (some v) := by
      cases z : σ[p]? with
      | none => rw [z] at e2'; cases e2'
      | some w => rw [z] at e2'; cases w with
       | none => cases e2'
       | some w => cases e2'; rfl
     have hN : X.N[p]? = some x := by
      have z := congrArg (fun l => l[i - own.length]?) hps
      simp only [List.getElem?_map, q, e1', Option.map_some, Option.some.injEq] at z
      exact z
     have hx : x ∈ fr := List.mem_of_getElem? e1'
     have hfr := S.fr x hx
     have hsee := S.there (x, .free) (lookup_mem hfr) rfl
     obtain ⟨m, hn, hlk⟩ := I3.loc
     obtain ⟨u, ru, lk⟩ := hlk p x v hN hσ (by rw [hsc]; exact .inr hsee)
     refine ⟨u, ru, .inr ⟨relabel_free hfr, ?_⟩⟩
     rcases lk with ⟨k, _⟩ | ⟨_, c, ec, z⟩
     ·have k' : X.env.scope.names.lookup x = some .local := k
      rw [hsc] at k'
      rcases hsee with q2 | q2 <;> (rw [k'] at q2; cases q2)
     ·obtain ⟨c', ec'⟩ := hcl2 (x, .free) (lookup_mem hfr) rfl
      have := hcl1 x c' ec'
      rw [ec] at this
      cases this
      obtain ⟨o, ho, hd⟩ := z
      exact ⟨c, ec', o, kept1 _ _ ho, hd⟩
  ·obtain ⟨v, o, ho, hd⟩ := I3.cell x c (hcl1 x c e)
   exact ⟨v, o, kept1 _ _ ho, hd⟩
  ·show (compSt own ps σ).length = (own ++ fr).length
   have := congrArg List.length hps
   rw [List.length_map, List.length_map] at this
   unfold compSt
   rw [List.length_append, List.length_append, List.length_map, List.length_map, this]
 have f4 : ∀ b ∈ fp, FpOk (cxComp X scope cl (own ++ fr) s3 (upd H s.heap.objs.size (.lst [])) s3.heap.objs.size fp) [] (upd H s.heap.objs.size (.lst [])) b := fun b hb =>
  ⟨fpH b hb, (ok'.exf b hb).1, fpS b hb, .inl hb, (ok'.exf b hb).2, fun p hp => absurd (show p ∈ ([] : List (Addr × Obj)) from hp) (by simp)⟩
 have st4 : tn 0 h₁ := T.keep 0 _ _ st fun b hb o e => kept1 b o (kept0 b o e)
 have loop : codeAny (model X.prog X.w) X.A (.compLoop (.ListComp elt (⟨tg, iter, ifs, 0⟩ :: rest) scope pos) 0 (.ref it) (.ref s.heap.objs.size) (compEnvC scope cl s3.heap.objs.size X.env)) (R (.ref s.heap.objs.size) s3.heap.objs.size) { s3 with heap := h₁, toks := s3.toks + ([] : List (Str × Value)).length } := by
  refine codeAny_mono (comp_loop (X := cxComp X scope cl (own ++ fr) s3 (upd H s.heap.objs.size (.lst [])) s3.heap.objs.size fp) (hturn _ _ _) rfl hc T (hg _ _ _ _) (ht _ _ _ _) (hb _ _ _ _ _) I4 st4 f4 (h _ hl)) fun r s' ⟨er, σ5, H5, I5, q5⟩ => ?_
  subst er
  have I6 : Inv X pins σ H5 s' := I3.call' (s' := s') I5.os I5.base I5.hok I5.bare fun b hb => ⟨(f b hb).2.2.2.1, (f b hb).2.1, (f b hb).2.2.2.2.1, (f b hb).2.2.2.2.2⟩
  have hm : ∃ m, s'.heap.Ns s3.heap.objs.size m := let ⟨m, hn, _⟩ := I5.loc; ⟨m, hn⟩
  exact hR _ _ H5 s' hm I6 (I3.fpOk (Nat.le_refl _) I5.free) q5
 exact codeAny_compStart_list loop (T.self _ 0 _ _ _ st4 loop)
def tComp (wi : TI) (own : List Str) (ps : List Nat) (tl : Addr → It → TS) : TE := fun σ H Q => wi σ H fun J H1 => ∀ l, H1 l = none → tl l J { nx := fun _ H' => Q (.ref l) H', rt := fun _ _ => False } (compSt own ps σ) (upd H1 l (.lst []))
def tl1 (g : TG) (tt : TT) (te : TE) : Addr → It → TS := fun l J => tLoop J g (tIfT tt (tEmit l te))
theorem Inv.junk {pins : List (Addr × Obj)} {σ : St} {H : Hp} {s : Shared} {C : Addr} (I : Inv X pins σ H s) (f : FpOk X pins H C) {h' : Heap} (hs : Heap.SameBut C s.heap h') : Inv X pins σ H { s with heap := h' } :=
 I.turned (t' := s.toks) (it := C) (fun b o ne e => (hs.2 b ne).trans e) f.1 f.2.1 f.2.2.2.1 f.2.2.2.2.1 f.2.2.2.2.2
variable {elt tg iter : Expr} {ifs : List Expr} {pos spos py : Pos} {wi : TI} {g : TG} {tt : TT} {te : TE}
theorem comp_has {pins : List (Addr × Obj)} {σ : St} {H : Hp} {s : Shared} (S : CompScope own fr scope sc) (hsc : X.env.scope = sc) (I : Inv X pins σ H s) : ∀ y ∈ scope.names, y.2 = .free → ∃ c, X.env.cells.lookup y.1 = some c := fun y hy hk =>
 I.ok.has y.1 (by show X.env.scope.names.lookup y.1 = _ ∨ X.env.scope.names.lookup y.1 = _; rw [hsc]; exact S.there y hy hk)
theorem pe_comp1 (S : CompScope own fr scope sc) (hi : PI X tg iter wi) (hg : ∀ cl s H C ex, PG (cxComp X scope cl (own ++ fr) s H C ex) tg g) (ht : ∀ cl s H C ex, PTs (cxComp X scope cl (own ++ fr) s H C ex) ifs tt)
  (he : ∀ cl s H C ex, PE (cxComp X scope cl (own ++ fr) s H C ex) elt te) (hsc : X.env.scope = sc := by rfl) (hps : ps.map (fun i => X.N[i]?) = fr.map some := by rfl) (hc : X.calm = true := by rfl) (hs : ∀ x, foldedSetIterable iter X.env x = pure x := by intro _; rfl) :
  PE X (.ListComp elt [⟨tg, iter, ifs, 0⟩] scope pos) (tComp wi own ps (tl1 g tt te)) := by
 intro pins s σ H Q I h
 obtain ⟨cl, ec, h1, h2⟩ := closureFor_ok (comp_has S hsc I)
 rw [eval_ListComp]
 refine wpAny_comprehension_free (use := none) rfl hs ec S.kind S.names (thn (hi pins s σ H _ I h) fun v s1 q1 => thn q1 fun itv s2 q2 => ?_)
 obtain ⟨it, fp, tn, J, H2, e, I2, T, st2, f2, q⟩ := q2
 subst e
 exact comp_core (R := fun acc C => compPost (model X.prog X.w) X.A X.xe none (EP X pins σ Q) acc C) (bdy := fun env acc => do let _ ← call (.builtin "list.append") [acc, ← eval elt env]) (tb := fun l => tEmit l te) S hsc hps hc h1 h2 (fun env it acc => compTurn_list elt tg iter ifs scope pos it acc env)
  (hg cl) (ht cl) (fun s H C ex l => pb_emit (he cl s H C ex)) I2 T st2 f2 q fun l C H' s' hm I' fk q' => by
   obtain ⟨m, hn⟩ := hm
   exact ⟨m, hn, fun h' hs' => ⟨.ref l, H', I'.junk fk hs', rfl, q'⟩⟩
theorem store_use {pins : List (Addr × Obj)} {σ : St} {H' : Hp} {s' : Shared} {i : Nat} {y : Str} {l C : Addr} {Q : St → Hp → Prop} {E : Value → Shared → Prop} (hN : X.N.Nodup) (hy : X.N[i]? = some y) (hlc : X.env.scope.names.lookup y = some .local) (hm : ∃ m, s'.heap.Ns C m) (I : Inv X pins σ H' s') (fk : FpOk X pins H' C) (q : Q (σ.set i (some (.ref l))) H') :
  wpAny (model X.prog X.w) X.A (assign (.Name y py) X.env (.ref l)) (fun _ s'' => ∃ m, s''.heap.Ns C m ∧ ∀ h', Heap.SameBut C s''.heap h' → ∃ σ' H'', Inv X pins σ' H'' { s'' with heap := h' } ∧ Q σ' H'') E s' := by
 obtain ⟨m, hn⟩ := hm
 refine wpAny_assign_Name (store_ok2 I hN hy (.inl hlc) (v := .ref l) rfl (fun s'' I'' ⟨a, hs, ha⟩ => ?_) (.inr hlc))
 have hCa : C ≠ a := by
  rcases ha with ha | ha
  ·rw [ha]; exact fk.2.1
  ·exact fun z => fk.2.2.2.2.1 _ _ ha z.symm
 exact ⟨m, hn.sameBut hs hCa, fun h' hs' => ⟨_, H', I''.junk fk hs', q⟩⟩
theorem ps_setc1 {i : Nat} {y : Str} (S : CompScope own fr scope sc) (hN : X.N.Nodup) (hy : X.N[i]? = some y) (hlc : X.env.scope.names.lookup y = some .local) (hi : PI X tg iter wi) (hg : ∀ cl s H C ex, PG (cxComp X scope cl (own ++ fr) s H C ex) tg g) (ht : ∀ cl s H C ex, PTs (cxComp X scope cl (own ++ fr) s H C ex) ifs tt)
  (he : ∀ cl s H C ex, PE (cxComp X scope cl (own ++ fr) s H C ex) elt te) (hsw : swapsWith (.ListComp elt [⟨tg, iter, ifs, 0⟩] scope pos) (some (.Name y py)) spos.line X.env = pure true := by rfl)
  (hsc : X.env.scope = sc := by rfl) (hps : ps.map (fun i => X.N[i]?) = fr.map some := by rfl) (hc : X.calm = true := by rfl) (hs : ∀ x, foldedSetIterable iter X.env x = pure x := by intro _; rfl) :
  PS X (.Assign [.Name y py] (.ListComp elt [⟨tg, iter, ifs, 0⟩] scope pos) spos) (tAsg (tComp wi own ps (tl1 g tt te)) (gName i)) := by
 intro pins s σ H D I h
 obtain ⟨cl, ec, h1, h2⟩ := closureFor_ok (comp_has S hsc I)
 rw [show exec _ X.env = _ from exec_Assign_Name_used _ _ _ _ hsw]
 refine wpAny_bind (m := standAt _) (wpAny_standAt (wpAny_bind ?_))
 show wpAny _ X.A (do let _ ← comprehension (.ListComp elt [⟨tg, iter, ifs, 0⟩] scope pos) scope X.env _ (newList []) false (eval iter X.env) (some (assign (.Name y py) X.env))) _ _ s
 refine wpAny_bind (wpAny_mono (wpAny_comprehension_free (use := some (assign (.Name y py) X.env)) (Q := fun _ s' => SP X pins D .next s') rfl hs ec S.kind S.names (thn (hi pins s σ H _ I h) fun v s1 q1 => thn q1 fun itv s2 q2 => ?_)) (fun _ s' hq => wpAny_pure (wpAny_pure hq)) fun _ _ e => e)
 obtain ⟨it, fp, tn, J, H2, e, I2, T, st2, f2, q⟩ := q2
 subst e
 exact comp_core (Q := fun v H' => D.nx (σ.set i (some v)) H') (R := fun acc C => compPost (model X.prog X.w) X.A X.xe (some (assign (.Name y py) X.env)) (fun _ s' => SP X pins D .next s') acc C) (bdy := fun env acc => do let _ ← call (.builtin "list.append") [acc, ← eval elt env]) (tb := fun l => tEmit l te) S hsc hps hc h1 h2 (fun env it acc => compTurn_list elt tg iter ifs scope pos it acc env)
  (hg cl) (ht cl) (fun s H C ex l => pb_emit (he cl s H C ex)) I2 T st2 f2 q fun l C H' s' hm I' fk q' => store_use hN hy hlc hm I' fk q'
variable {tg2 iter2 : Expr} {ifs2 : List Expr} {wi2 : TI} {g2 : TG} {tt2 : TT}
end
def FzL (K : PySem.W.Frag) (H : Hp) (a : Addr) (xs : List V) : Prop :=
 (∃ o, H a = some (.frz o (.lst xs))) ∨
  ∃ (o : Obj) (its : Array Value) (n : Nat), K.lookup a = some o ∧ o.cls = .type "list" ∧ o.dict = none ∧ o.data = .seq its n ∧ its.size ≤ sizeLine ∧ Vals xs its.toList
theorem FzL.sq {K : PySem.W.Frag} {H : Hp} {a : Addr} {xs : List V} (h : FzL K H a xs) : SqL K H a xs := by
 rcases h with ⟨o, h⟩ | h
 ·exact .inl (.inr ⟨o, h⟩)
 ·exact .inr h
structure Kd where
 K : PySem.W.Frag
 w : World
instance : Coe Kd PySem.W.Frag := ⟨Kd.K⟩
mutual
def hashD (w : World) : PyData → Int
 | .int i => hashInt i
 | .str x => hashStr w x
 | .tuple ds => reduceHash (Builtin.Tuple.tupleHashOf (hashA w ds))
 | _ => 0
def hashA (w : World) : List PyData → List Int
 | [] => []
 | d :: ds => hashD w d :: hashA w ds
end
mutual
def hkD : PyData → Bool
 | .int _ => true
 | .str _ => true
 | .tuple ds => hkA ds
 | _ => false
def hkA : List PyData → Bool
 | [] => true
 | d :: ds => hkD d && hkA ds
end
def isKd (kvs : List (PyData × PyData)) : Bool := kvs.all fun kv => match kv.1 with | .int _ => true | .str _ => true | _ => false
def KeysOk (kvs : List (PyData × PyData)) : Prop := isKd kvs = false ∧ (kvs.map (·.1)).Nodup ∧ ∀ k ∈ kvs.map (·.1), hkD k = true
def dXp (a : Addr) (es : List (Int × V × V)) (h : Heap) : Prop :=
 (a == sysModules) = false ∧ es.length ≤ sizeLine ∧ ∃ (o : Obj) (ents : Array DictEntry) (ep : Nat), h.get? a = some o ∧ o.ExactDict ∧ o.data = .dict ents ep ∧
  Paired (fun (e : Int × V × V) (d : DictEntry) => d.hash = e.1 ∧ RelV e.2.1 d.key ∧ RelV e.2.2 d.val) es ents.toList
abbrev dX (a : Addr) (es : List (Int × V × V)) : HO := .ext (dXp a es)
def FzD (H : Hp) (a : Addr) (es : List (Int × V × V)) : Prop := ∃ o, H a = some (.frz o (dX a es))
def ClsN (K : Kd) (c : Str) (C : Addr) : Prop := PySem.W.nsIn K.K mainGlobals c = some (some (.ref C))
def ExcAt (K : Kd) (H : Hp) (a : Addr) (c : Str) (xs : List (Str × V)) : Prop :=
 ∃ (o : Obj) (u : HO) (C : Addr), H a = some (.frz o u) ∧ o.cls = .ref C ∧ (∃ vs, o.data = .fields vs) ∧ ClsN K c C ∧ ((o.dict = none ∧ xs = []) ∨ ∃ (dx : Addr) (od : Obj), o.dict = some dx ∧ H dx = some (.frz od (.xd xs)))
def keyD : Key → PyData
 | .inl i => .int i
 | .inr x => .str x
def excC : List (PyData × PyData) → Option Str
 | (.none, .str c) :: _ => some c
 | _ => none
mutual
def Den (K : Kd) (H : Hp) : PyData → V → Prop
 | .none, v => v = .non
 | .bool b, v => v = .bl b
 | .int i, v => v = .int i
 | .str x, v => v = .str x
 | .list ds, v => ∃ a xs, v = .ref a ∧ FzL K H a xs ∧ DenAll K H ds xs
 | .tuple ds, v => ∃ a xs, v = .ref a ∧ SqT K H a xs ∧ DenAll K H ds xs
 | .dict kvs, v => ∃ a, v = .ref a ∧ ((∃ es, FzD H a es ∧ KeysOk kvs ∧ DenKV K H kvs es) ∨ (∃ es o, H a = some (.frz o (.dK es)) ∧ DenKK K H kvs es) ∨ ∃ c xs, excC kvs = some c ∧ ExcAt K H a c xs ∧ DenXF K H kvs xs)
def DenAll (K : Kd) (H : Hp) : List PyData → List V → Prop
 | [], xs => xs = []
 | d :: ds, xs => ∃ v vs, xs = v :: vs ∧ Den K H d v ∧ DenAll K H ds vs
def DenKV (K : Kd) (H : Hp) : List (PyData × PyData) → List (Int × V × V) → Prop
 | [], es => es = []
 | (k, d) :: r, es => ∃ u v vs, es = (hashD K.w k, u, v) :: vs ∧ Den K H k u ∧ Den K H d v ∧ DenKV K H r vs
def DenKK (K : Kd) (H : Hp) : List (PyData × PyData) → List (Key × V) → Prop
 | [], es => es = []
 | (k, d) :: r, es => ∃ kk v vs, es = (kk, v) :: vs ∧ (k = keyD kk ∧ ∀ x ∈ vs, x.1 ≠ kk) ∧ Den K H d v ∧ DenKK K H r vs
def DenXF (K : Kd) (H : Hp) : List (PyData × PyData) → List (Str × V) → Prop
 | [], xs => xs = []
 | (k, d) :: r, xs => match k with
  | .str f => ∃ v vs, xs = (f, v) :: vs ∧ Den K H d v ∧ DenXF K H r vs
  | _ => DenXF K H r xs
end
structure Pers (H H' : Hp) : Prop where
 tups : ∀ b xs, H b = some (.tup xs) → H' b = some (.tup xs)
 frzs : ∀ b o u, H b = some (.frz o u) → H' b = some (.frz o u)
theorem Pers.refl (H : Hp) : Pers H H := ⟨fun _ _ e => e, fun _ _ _ e => e⟩
theorem Pers.trans {H H1 H2 : Hp} (a : Pers H H1) (b : Pers H1 H2) : Pers H H2 := ⟨fun c xs e => b.tups c xs (a.tups c xs e), fun c o u e => b.frzs c o u (a.frzs c o u e)⟩
section
variable {K : Kd} {H H' : Hp}
theorem FzL.mono {a : Addr} {xs : List V} (p : Pers H H') (h : FzL K H a xs) : FzL K H' a xs := by
 rcases h with ⟨o, h⟩ | h
 ·exact .inl ⟨o, p.frzs _ _ _ h⟩
 ·exact .inr h
theorem SqT.mono {a : Addr} {xs : List V} (p : Pers H H') (h : SqT K H a xs) : SqT K H' a xs := by
 rcases h with (h | ⟨o, h⟩) | h
 ·exact .inl (.inl (p.tups _ _ h))
 ·exact .inl (.inr ⟨o, p.frzs _ _ _ h⟩)
 ·exact .inr h
mutual
theorem Den.mono (p : Pers H H') : ∀ {d : PyData} {v : V}, Den K H d v → Den K H' d v
 | .none, _, h => h
 | .bool _, _, h => h
 | .int _, _, h => h
 | .str _, _, h => h
 | .list ds, _, h => by
  simp only [Den] at h ⊢
  obtain ⟨a, xs, e, f, g⟩ := h
  exact ⟨a, xs, e, f.mono p, DenAll.mono p g⟩
 | .tuple ds, _, h => by
  simp only [Den] at h ⊢
  obtain ⟨a, xs, e, f, g⟩ := h
  exact ⟨a, xs, e, f.mono p, DenAll.mono p g⟩
 | .dict kvs, _, h => by
  simp only [Den] at h ⊢
  obtain ⟨a, e, h⟩ := h
  refine ⟨a, e, ?_⟩
  rcases h with ⟨es, ⟨o, f⟩, kk, g⟩ | ⟨es, o, f, g⟩ | ⟨c, xs, ec, ⟨o, u, C, f1, f2, f0, f3, f4⟩, g⟩
  ·exact .inl ⟨es, ⟨o, p.frzs _ _ _ f⟩, kk, DenKV.mono p g⟩
  ·exact .inr (.inl ⟨es, o, p.frzs _ _ _ f, DenKK.mono p g⟩)
  ·refine .inr <| .inr ⟨c, xs, ec, ⟨o, u, C, p.frzs _ _ _ f1, f2, f0, f3, ?_⟩, DenXF.mono p g⟩
   rcases f4 with f4 | ⟨dx, od, f5, f6⟩
   ·exact .inl f4
   ·exact .inr ⟨dx, od, f5, p.frzs _ _ _ f6⟩
theorem DenAll.mono (p : Pers H H') : ∀ {ds : List PyData} {xs : List V}, DenAll K H ds xs → DenAll K H' ds xs
 | [], _, h => h
 | d :: ds, _, h => by
  simp only [DenAll] at h ⊢
  obtain ⟨v, vs, e, f, g⟩ := h
  exact ⟨v, vs, e, Den.mono p f, DenAll.mono p g⟩
theorem DenKV.mono (p : Pers H H') : ∀ {ds : List (PyData × PyData)} {xs : List (Int × V × V)}, DenKV K H ds xs → DenKV K H' ds xs
 | [], _, h => by simpa only [DenKV] using h
 | (k, d) :: r, _, h => by
  simp only [DenKV] at h ⊢
  obtain ⟨u, v, vs, e, f1, f2, g⟩ := h
  exact ⟨u, v, vs, e, Den.mono p f1, Den.mono p f2, DenKV.mono p g⟩
theorem DenKK.mono (p : Pers H H') : ∀ {ds : List (PyData × PyData)} {xs : List (Key × V)}, DenKK K H ds xs → DenKK K H' ds xs
 | [], _, h => by simpa only [DenKK] using h
 | (k, d) :: r, _, h => by
  simp only [DenKK] at h ⊢
  obtain ⟨u, v, vs, e, f1, f2, g⟩ := h
  exact ⟨u, v, vs, e, f1, Den.mono p f2, DenKK.mono p g⟩
theorem DenXF.mono (p : Pers H H') : ∀ {ds : List (PyData × PyData)} {xs : List (Str × V)}, DenXF K H ds xs → DenXF K H' ds xs
 | [], _, h => by simpa only [DenXF] using h
 | (.str f, d) :: r, _, h => by
  simp only [DenXF] at h ⊢
  obtain ⟨v, vs, e, f1, g⟩ := h
  exact ⟨v, vs, e, Den.mono p f1, DenXF.mono p g⟩
 | (.none, d) :: r, _, h => by simp only [DenXF] at h ⊢; exact DenXF.mono p h
 | (.bool _, d) :: r, _, h => by simp only [DenXF] at h ⊢; exact DenXF.mono p h
 | (.int _, d) :: r, _, h => by simp only [DenXF] at h ⊢; exact DenXF.mono p h
 | (.list _, d) :: r, _, h => by simp only [DenXF] at h ⊢; exact DenXF.mono p h
 | (.tuple _, d) :: r, _, h => by simp only [DenXF] at h ⊢; exact DenXF.mono p h
 | (.dict _, d) :: r, _, h => by simp only [DenXF] at h ⊢; exact DenXF.mono p h
end
theorem DenAll.nil : DenAll K H [] [] := by simp only [DenAll]
theorem DenAll.cons {d : PyData} {ds : List PyData} {v : V} {vs : List V} (h : Den K H d v) (t : DenAll K H ds vs) : DenAll K H (d :: ds) (v :: vs) := by
 simp only [DenAll]; exact ⟨v, vs, rfl, h, t⟩
theorem DenAll.paired : ∀ {ds : List PyData} {xs : List V}, DenAll K H ds xs → Paired (Den K H) ds xs
 | [], _, h => by simp only [DenAll] at h; subst h; exact .nil
 | d :: ds, _, h => by
  simp only [DenAll] at h
  obtain ⟨v, vs, e, f, g⟩ := h
  subst e
  exact .cons f g.paired
theorem denAll_of : ∀ {ds : List PyData} {xs : List V}, Paired (Den K H) ds xs → DenAll K H ds xs
 | _, _, .nil => DenAll.nil
 | _, _, .cons f t => DenAll.cons f (denAll_of t)
theorem DenAll.length {ds : List PyData} {xs : List V} (h : DenAll K H ds xs) : ds.length = xs.length := h.paired.length
theorem Paired.get' {α β : Type} {F : α → β → Prop} : ∀ {l₁ : List α} {l₂ : List β} {i : Nat} {a : α}, Paired F l₁ l₂ → l₁[i]? = some a → ∃ b, l₂[i]? = some b ∧ F a b
 | _, _, _, _, .nil, e => by simp at e
 | _, _, 0, _, .cons f _, e => by simp at e; subst e; exact ⟨_, rfl, f⟩
 | _, _, i + 1, a, .cons _ t, e => by
  obtain ⟨b, h1, h2⟩ := Paired.get' (i := i) (a := a) t (by simpa using e)
  exact ⟨b, by simpa using h1, h2⟩
theorem DenAll.get {ds : List PyData} {xs : List V} {i : Nat} {d : PyData} (h : DenAll K H ds xs) (e : ds[i]? = some d) : ∃ v, xs[i]? = some v ∧ Den K H d v := Paired.get' h.paired e
theorem Paired.get2 {α β : Type} {F : α → β → Prop} : ∀ {l₁ : List α} {l₂ : List β} {i : Nat} {b : β}, Paired F l₁ l₂ → l₂[i]? = some b → ∃ a, l₁[i]? = some a ∧ F a b
 | _, _, _, _, .nil, e => by simp at e
 | _, _, 0, _, .cons f _, e => by simp at e; subst e; exact ⟨_, rfl, f⟩
 | _, _, i + 1, b, .cons _ t, e => by
  obtain ⟨a, h1, h2⟩ := Paired.get2 (i := i) (b := b) t (by simpa using e)
  exact ⟨a, by simpa using h1, h2⟩
theorem DenAll.get2 {ds : List PyData} {xs : List V} {i : Nat} {v : V} (h : DenAll K H ds xs) (e : xs[i]? = some v) : ∃ d, ds[i]? = some d ∧ Den K H d v := Paired.get2 h.paired e
theorem Paired.append' {α β : Type} {F : α → β → Prop} : ∀ {a b : List α} {c d : List β}, Paired F a c → Paired F b d → Paired F (a ++ b) (c ++ d)
 | _, _, _, _, .nil, s => s
 | _, _, _, _, .cons r t, s => .cons r (Paired.append' t s)
theorem DenAll.append {ds es : List PyData} {xs ys : List V} (h : DenAll K H ds xs) (g : DenAll K H es ys) : DenAll K H (ds ++ es) (xs ++ ys) := denAll_of (Paired.append' h.paired g.paired)
theorem Paired.take' {α β : Type} {F : α → β → Prop} : ∀ {l₁ : List α} {l₂ : List β} (n : Nat), Paired F l₁ l₂ → Paired F (l₁.take n) (l₂.take n)
 | _, _, 0, _ => .nil
 | _, _, _ + 1, .nil => .nil
 | _, _, n + 1, .cons r t => .cons r (Paired.take' n t)
theorem Paired.drop' {α β : Type} {F : α → β → Prop} : ∀ {l₁ : List α} {l₂ : List β} (n : Nat), Paired F l₁ l₂ → Paired F (l₁.drop n) (l₂.drop n)
 | _, _, 0, h => h
 | _, _, _ + 1, .nil => .nil
 | _, _, n + 1, .cons _ t => Paired.drop' n t
theorem DenAll.take {ds : List PyData} {xs : List V} (h : DenAll K H ds xs) (n : Nat) : DenAll K H (ds.take n) (xs.take n) := denAll_of (Paired.take' n h.paired)
theorem DenAll.drop {ds : List PyData} {xs : List V} (h : DenAll K H ds xs) (n : Nat) : DenAll K H (ds.drop n) (xs.drop n) := denAll_of (Paired.drop' n h.paired)
theorem DenAll.ints : ∀ ns : List Int, DenAll K H (ns.map .int) (ns.map V.int)
 | [] => DenAll.nil
 | n :: ns => DenAll.cons (by simp only [Den]) (DenAll.ints ns)
end
def fzOf : List (PyData × PyData) → Option PyData
 | [(.none, .list ds)] => some (.list ds)
 | [(.none, .dict es)] => some (.dict es)
 | _ => none
mutual
def TAt (K : Kd) (H : Hp) (τ : List (List Nat × Addr)) (p : List Nat) : PyData → V → Prop
 | .list ts, v => ∃ a xs, τ.lookup p = some a ∧ v = .ref a ∧ H a = some (.lst xs) ∧ TAtL K H τ p 0 ts xs
 | .dict kvs, v => (∃ d, fzOf kvs = some d ∧ Den K H d v) ∨
   (fzOf kvs = none ∧ excC kvs = none ∧ ∃ a es, τ.lookup p = some a ∧ v = .ref a ∧ H a = some (dX a es) ∧ KeysOk kvs ∧ TAtD K H τ p 0 kvs es) ∨
   (fzOf kvs = none ∧ excC kvs = none ∧ ∃ a es, τ.lookup p = some a ∧ v = .ref a ∧ H a = some (.dK es) ∧ TAtK K H τ p 0 kvs es) ∨
   ∃ c a dx C xs, excC kvs = some c ∧ τ.lookup p = some a ∧ v = .ref a ∧ H a = some (.ins C dx xs) ∧ ClsN K c C ∧ TAtF K H τ p 0 kvs xs
 | .none, v => Den K H .none v
 | .bool b, v => Den K H (.bool b) v
 | .int i, v => Den K H (.int i) v
 | .str x, v => Den K H (.str x) v
 | .tuple ds, v => Den K H (.tuple ds) v
def TAtL (K : Kd) (H : Hp) (τ : List (List Nat × Addr)) (p : List Nat) (i : Nat) : List PyData → List V → Prop
 | [], xs => xs = []
 | t :: ts, xs => ∃ v vs, xs = v :: vs ∧ TAt K H τ (p ++ [i]) t v ∧ TAtL K H τ p (i + 1) ts vs
def TAtD (K : Kd) (H : Hp) (τ : List (List Nat × Addr)) (p : List Nat) (i : Nat) : List (PyData × PyData) → List (Int × V × V) → Prop
 | [], es => es = []
 | (k, t) :: r, es => ∃ u v vs, es = (hashD K.w k, u, v) :: vs ∧ Den K H k u ∧ TAt K H τ (p ++ [i]) t v ∧ TAtD K H τ p (i + 1) r vs
def TAtK (K : Kd) (H : Hp) (τ : List (List Nat × Addr)) (p : List Nat) (i : Nat) : List (PyData × PyData) → List (Key × V) → Prop
 | [], es => es = []
 | (k, t) :: r, es => ∃ kk v vs, es = (kk, v) :: vs ∧ (k = keyD kk ∧ ∀ x ∈ vs, x.1 ≠ kk) ∧ TAt K H τ (p ++ [i]) t v ∧ TAtK K H τ p (i + 1) r vs
def TAtF (K : Kd) (H : Hp) (τ : List (List Nat × Addr)) (p : List Nat) (i : Nat) : List (PyData × PyData) → List (Str × V) → Prop
 | [], xs => xs = []
 | (k, t) :: r, xs => match k with
  | .str f => ∃ v vs, xs = (f, v) :: vs ∧ TAt K H τ (p ++ [i]) t v ∧ TAtF K H τ p (i + 1) r vs
  | .none => TAtF K H τ p (i + 1) r xs
  | _ => False
end
theorem mem_of_look {β γ : Type} [BEq β] [LawfulBEq β] {l : List (β × γ)} {p : β} {a : γ} (h : l.lookup p = some a) : a ∈ l.map (·.2) := by
 induction l with
 | nil => cases h
 | cons x l ih =>
  rw [List.lookup_cons] at h
  split at h
  ·cases h; simp
  ·exact List.mem_map.mpr (let ⟨y, h1, h2⟩ := List.mem_map.mp (ih h); ⟨y, List.mem_cons_of_mem _ h1, h2⟩)
section
variable {K : Kd} {H H' : Hp} {τ : List (List Nat × Addr)}
mutual
theorem TAt.mono (pe : Pers H H') (e : ∀ a ∈ τ.map (·.2), H' a = H a) : ∀ {d : PyData} {p : List Nat} {v : V}, TAt K H τ p d v → TAt K H' τ p d v
 | .none, _, _, h => by simp only [TAt] at h ⊢; exact h.mono pe
 | .bool _, _, _, h => by simp only [TAt] at h ⊢; exact h.mono pe
 | .int _, _, _, h => by simp only [TAt] at h ⊢; exact h.mono pe
 | .str _, _, _, h => by simp only [TAt] at h ⊢; exact h.mono pe
 | .tuple _, _, _, h => by simp only [TAt] at h ⊢; exact h.mono pe
 | .list ts, _, _, h => by
  simp only [TAt] at h ⊢
  obtain ⟨a, xs, e1, e2, e3, g⟩ := h
  exact ⟨a, xs, e1, e2, (e a (mem_of_look e1)).trans e3, TAtL.mono pe e g⟩
 | .dict kvs, _, _, h => by
  simp only [TAt] at h ⊢
  rcases h with ⟨d, e1, h⟩ | ⟨z1, z2, a, es, e1, e2, e3, k, g⟩ | ⟨z1, z2, a, es, e1, e2, e3, g⟩ | ⟨c, a, dx, C, xs, e0, e1, e2, e3, k, g⟩
  ·exact .inl ⟨d, e1, h.mono pe⟩
  ·exact .inr (.inl ⟨z1, z2, a, es, e1, e2, (e a (mem_of_look e1)).trans e3, k, TAtD.mono pe e g⟩)
  ·exact .inr (.inr (.inl ⟨z1, z2, a, es, e1, e2, (e a (mem_of_look e1)).trans e3, TAtK.mono pe e g⟩))
  ·exact .inr (.inr <| .inr ⟨c, a, dx, C, xs, e0, e1, e2, (e a (mem_of_look e1)).trans e3, k, TAtF.mono pe e g⟩)
theorem TAtL.mono (pe : Pers H H') (e : ∀ a ∈ τ.map (·.2), H' a = H a) : ∀ {ds : List PyData} {p : List Nat} {i : Nat} {xs : List V}, TAtL K H τ p i ds xs → TAtL K H' τ p i ds xs
 | [], _, _, _, h => by simpa only [TAtL] using h
 | t :: ts, _, _, _, h => by
  simp only [TAtL] at h ⊢
  obtain ⟨v, vs, e1, g1, g2⟩ := h
  exact ⟨v, vs, e1, TAt.mono pe e g1, TAtL.mono pe e g2⟩
theorem TAtD.mono (pe : Pers H H') (e : ∀ a ∈ τ.map (·.2), H' a = H a) : ∀ {ds : List (PyData × PyData)} {p : List Nat} {i : Nat} {xs : List (Int × V × V)}, TAtD K H τ p i ds xs → TAtD K H' τ p i ds xs
 | [], _, _, _, h => by simpa only [TAtD] using h
 | (k, t) :: r, _, _, _, h => by
  simp only [TAtD] at h ⊢
  obtain ⟨u, v, vs, e1, g0, g1, g2⟩ := h
  exact ⟨u, v, vs, e1, g0.mono pe, TAt.mono pe e g1, TAtD.mono pe e g2⟩
theorem TAtK.mono (pe : Pers H H') (e : ∀ a ∈ τ.map (·.2), H' a = H a) : ∀ {ds : List (PyData × PyData)} {p : List Nat} {i : Nat} {xs : List (Key × V)}, TAtK K H τ p i ds xs → TAtK K H' τ p i ds xs
 | [], _, _, _, h => by simpa only [TAtK] using h
 | (k, t) :: r, _, _, _, h => by
  simp only [TAtK] at h ⊢
  obtain ⟨u, v, vs, e1, g0, g1, g2⟩ := h
  exact ⟨u, v, vs, e1, g0, TAt.mono pe e g1, TAtK.mono pe e g2⟩
theorem TAtF.mono (pe : Pers H H') (e : ∀ a ∈ τ.map (·.2), H' a = H a) : ∀ {ds : List (PyData × PyData)} {p : List Nat} {i : Nat} {xs : List (Str × V)}, TAtF K H τ p i ds xs → TAtF K H' τ p i ds xs
 | [], _, _, _, h => by simpa only [TAtF] using h
 | (.str f, t) :: r, _, _, _, h => by
  simp only [TAtF] at h ⊢
  obtain ⟨v, vs, e1, g1, g2⟩ := h
  exact ⟨v, vs, e1, TAt.mono pe e g1, TAtF.mono pe e g2⟩
 | (.none, d) :: r, _, _, _, h => by simp only [TAtF] at h ⊢; exact TAtF.mono pe e h
 | (.bool _, d) :: r, _, _, _, h => by simp only [TAtF] at h
 | (.int _, d) :: r, _, _, _, h => by simp only [TAtF] at h
 | (.list _, d) :: r, _, _, _, h => by simp only [TAtF] at h
 | (.tuple _, d) :: r, _, _, _, h => by simp only [TAtF] at h
 | (.dict _, d) :: r, _, _, _, h => by simp only [TAtF] at h
end
end
abbrev Cx.kd (X : Cx) : Kd := ⟨X.K, X.w⟩
section
variable {X : Cx} {pins : List (Addr × Obj)} {σ : St} {H : Hp} {s : Shared}
mutual
theorem Den.reads (I : Inv X pins σ H s) : ∀ {d : PyData} {v : V} {u : Value}, d.hasDict = false → Den X.kd H d v → RelV v u → ∃ as, Reads s.heap u d as
 | .none, v, u, _, h, r => by simp only [Den] at h; subst h; cases r; exact ⟨_, .none⟩
 | .bool b, v, u, nd, h, r => by simp only [Den] at h; subst h; cases r; exact ⟨_, .bool b⟩
 | .int i, v, u, nd, h, r => by simp only [Den] at h; subst h; obtain ⟨t, rfl⟩ := r; exact ⟨_, .int i t⟩
 | .str x, v, u, nd, h, r => by simp only [Den] at h; subst h; obtain ⟨t, rfl⟩ := r; exact ⟨_, .str x t⟩
 | .list ds, v, u, nd, h, r => by
  simp only [Den] at h
  obtain ⟨a, xs, rfl, f, g⟩ := h
  cases r
  obtain ⟨its, rv, ⟨o, n, e, c, _, dd⟩, _⟩ := I.list f.sq
  obtain ⟨as, h2⟩ := DenAll.reads I (by simpa only [PyData.hasDict] using nd) g rv
  exact ⟨_, .list e c dd (by simpa using h2)⟩
 | .tuple ds, v, u, nd, h, r => by
  simp only [Den] at h
  obtain ⟨a, xs, rfl, f, g⟩ := h
  cases r
  obtain ⟨its, rv, ⟨o, e, c, n, dd⟩, _⟩ := I.tuple f
  obtain ⟨as, h2⟩ := DenAll.reads I (by simpa only [PyData.hasDict] using nd) g rv
  exact ⟨_, .tuple e c dd (by simpa using h2)⟩
 | .dict _, v, u, nd, h, r => by simp [PyData.hasDict] at nd
theorem DenAll.reads (I : Inv X pins σ H s) : ∀ {ds : List PyData} {xs : List V} {us : List Value}, PyData.hasDictAll ds = false → DenAll X.kd H ds xs → Vals xs us → ∃ as, ReadsAll s.heap us ds as
 | [], xs, us, _, h, r => by simp only [DenAll] at h; subst h; cases r; exact ⟨_, .nil⟩
 | d :: ds, xs, us, nd, h, r => by
  simp only [PyData.hasDictAll, Bool.or_eq_false_iff] at nd
  simp only [DenAll] at h
  obtain ⟨v, vs, rfl, f, g⟩ := h
  cases r with
  | cons r1 r2 =>
   obtain ⟨a1, h1⟩ := Den.reads I nd.1 f r1
   obtain ⟨a2, h2⟩ := DenAll.reads I nd.2 g r2
   exact ⟨_, .cons h1 h2⟩
end
theorem Inv.freeze {a : Addr} {xs : List V} (I : Inv X pins σ H s) (h : H a = some (.lst xs)) : ∃ o, Inv X pins σ (upd H a (.frz o (.lst xs))) s := by
 obtain ⟨hz, its, n, rv, e⟩ := I.hok a _ h
 refine ⟨{ cls := .type "list", data := .seq its.toArray n }, I.un (h' := s.heap) (t' := s.toks) ⟨fun b ob q _ _ _ => q, fun b ob q _ _ _ => ⟨ob.slots, q⟩, fun b ob q z _ => ?_, fun b ob q _ => ⟨ob, q⟩, fun b ys q => ?_, fun b ob u q => ?_, fun b ps q => ⟨#[], ?_⟩⟩ fun b ob q => ?_⟩
 ·rw [upd_ne (Ne.symm (ne_of_none h z))]; exact z
 ·rw [upd_ne (ne_of q h (by intro z; cases z))]; exact q
 ·rw [upd_ne (ne_of q h (by intro z; cases z))]; exact q
 ·rw [upd_ne (ne_of q h (by intro z; cases z)), q]; simp
 ·by_cases hb : b = a
  ·subst hb
   rw [upd_same] at q
   cases q
   exact ⟨e, hz, its, n, rv, e⟩
  ·rw [upd_ne hb] at q
   exact (I.hok b ob q).stay (fun _ _ _ z => z) (fun c z => by rw [upd_ne (ne_of z h (by intro z; cases z))]; exact z) fun c ys z => by rw [upd_ne (ne_of z h (by intro z; cases z))]; exact z
end
def isStar : Expr → Bool
 | .Starred .. => true
 | _ => false
theorem star_cons {e : Expr} {es : List Expr} {env : Env} (h : isStar e = false) : starEach (e :: es) env = (false, eval e env) :: starEach es env := by
 cases e <;> first | rfl | cases h
theorem star_one {e : Expr} {env : Env} (h : isStar e = false) : starEach [e] env = [(false, eval e env)] := star_cons h
inductive R where
 | imm (d : PyData) | obj (k : Nat) | new (ds : List PyData) | at (k : Nat) (p : List Nat) | newT (t : PyData)
structure MSt where
 vs : List (Option R)
 os : List (List PyData)
 np : Nat
structure Kx extends Kd where
 eb : EB
instance : Coe Kx Kd := ⟨Kx.toKd⟩
abbrev Cx.kx (X : Cx) : Kx := ⟨X.kd, X.eb⟩
abbrev Al := List Ao
def Ao.ads : Ao → List Addr
 | .L a => [a]
 | .T t => t.map (·.2)
def ads (α : Al) : List Addr := α.flatMap Ao.ads
theorem ads_append (α β : Al) : ads (α ++ β) = ads α ++ ads β := by unfold ads; rw [List.flatMap_append]
def Mu : HO → Bool
 | .tup _ => false
 | .frz _ _ => false
 | _ => true
def OwnAt (K : Kd) (H : Hp) : Ao → List PyData → Prop
 | .L a, ds => ∃ xs, H a = some (.lst xs) ∧ DenAll K H ds xs
 | .T τ, ds => (∃ t v, ds = [t] ∧ TAt K H τ [] t v ∧ ∃ a, τ.lookup [] = some a ∧ v = .ref a) ∧ ∀ a ∈ τ.map (·.2), ∃ o, H a = some o ∧ Mu o = true
theorem OwnAt.mem {K : Kd} {H : Hp} {ao : Ao} {ds : List PyData} (h : OwnAt K H ao ds) {a : Addr} (ha : a ∈ ao.ads) : ∃ o, H a = some o ∧ Mu o = true := by
 cases ao with
 | L b => cases List.mem_singleton.mp ha; obtain ⟨xs, e, _⟩ := h; exact ⟨_, e, rfl⟩
 | T τ => exact h.2 a ha
theorem OwnAt.mono {K : Kd} {H H' : Hp} {ao : Ao} {ds : List PyData} (h : OwnAt K H ao ds) (pe : Pers H H') (e : ∀ a ∈ ao.ads, H' a = H a) : OwnAt K H' ao ds := by
 cases ao with
 | L b =>
  obtain ⟨xs, q, g⟩ := h
  exact ⟨xs, (e b (List.mem_singleton.mpr rfl)).trans q, g.mono pe⟩
 | T τ =>
  obtain ⟨⟨t, v, e1, g, r⟩, m⟩ := h
  exact ⟨⟨t, v, e1, g.mono pe e, r⟩, fun a ha => by rw [e a ha]; exact m a ha⟩
def RelS (K : Kd) (α : Al) (H : Hp) : R → V → Prop
 | .imm d, v => Den K H d v
 | .obj k, v => ∃ a, α[k]? = some (.L a) ∧ v = .ref a
 | .at k p, v => ∃ τ a, α[k]? = some (.T τ) ∧ τ.lookup p = some a ∧ v = .ref a
 | .new _, _ => False
 | .newT _, _ => False
def RelR (K : Kd) (α : Al) (Hb H : Hp) : R → V → Prop
 | .imm d, v => Den K H d v
 | .obj k, v => ∃ a, α[k]? = some (.L a) ∧ v = .ref a
 | .at k p, v => ∃ τ a, α[k]? = some (.T τ) ∧ τ.lookup p = some a ∧ v = .ref a
 | .new ds, v => ∃ a xs, v = .ref a ∧ Hb a = none ∧ H a = some (.lst xs) ∧ DenAll K H ds xs
 | .newT t, v => ∃ τ a, v = .ref a ∧ τ.lookup [] = some a ∧ (τ.map (·.2)).Nodup ∧ (∀ b ∈ τ.map (·.2), Hb b = none) ∧ OwnAt K H (.T τ) [t]
def Frm (α : Al) (H H' : Hp) : Prop := ∀ b o, H b = some o → b ∉ ads α → H' b = some o
theorem Frm.refl (α : Al) (H : Hp) : Frm α H H := fun _ _ e _ => e
theorem Frm.trans {α : Al} {H H1 H2 : Hp} (a : Frm α H H1) (b : Frm α H1 H2) : Frm α H H2 := fun c o e n => b c o (a c o e n) n
structure Ext (np : Nat) (α : Al) (H : Hp) (α' : Al) (H' : Hp) : Prop where
 pre : α'.take np = α.take np
 frm : Frm α H H'
 new : ∀ a ∈ ads α', a ∈ ads α ∨ H a = none
 old : ∀ a ∈ ads α, ∃ o, H' a = some o
theorem Ext.trans {np : Nat} {α α1 α2 : Al} {H H1 H2 : Hp} (x : Ext np α H α1 H1) (y : Ext np α1 H1 α2 H2) : Ext np α H α2 H2 := by
 have out : ∀ b o, H b = some o → b ∉ ads α → b ∉ ads α1 := fun b o e n hb => by
  rcases x.new b hb with z | z
  ·exact n z
  ·rw [e] at z; cases z
 refine ⟨y.pre.trans x.pre, fun b o e n => y.frm b o (x.frm b o e n) (out b o e n), fun a ha => ?_, fun a ha => ?_⟩
 ·rcases y.new a ha with z | z
  ·exact x.new a z
  ·cases q : H a with
   | none => exact .inr rfl
   | some o =>
    by_cases hm : a ∈ ads α
    ·exact .inl hm
    ·have := x.frm a o q hm
     rw [z] at this; cases this
 ·obtain ⟨o, e⟩ := x.old a ha
  by_cases hm : a ∈ ads α1
  ·exact y.old a hm
  ·exact ⟨o, y.frm a o e hm⟩
theorem Ext.nil {np : Nat} {α α1 : Al} {H H1 : Hp} (x : Ext np α H α1 H1) {a : Addr} (h : H1 a = none) : H a = none := by
 cases q : H a with
 | none => rfl
 | some o =>
  by_cases hm : a ∈ ads α
  ·obtain ⟨o', e⟩ := x.old a hm
   rw [h] at e; cases e
  ·have := x.frm a o q hm
   rw [h] at this; cases this
theorem Ext.less {np n1 : Nat} {α α' : Al} {H H' : Hp} (x : Ext n1 α H α' H') (h : np ≤ n1) : Ext np α H α' H' := by
 refine ⟨?_, x.frm, x.new, x.old⟩
 have := congrArg (List.take np) x.pre
 rw [List.take_take, List.take_take, Nat.min_eq_left h] at this
 exact this
structure Rel (K : Kx) (α : Al) (m : MSt) (σ : St) (H : Hp) : Prop where
 nd : (ads α).Nodup
 len : α.length = m.os.length
 own : ∀ (k : Nat) (ao : Ao) (ds : List PyData), α[k]? = some ao → m.os[k]? = some ds → OwnAt K H ao ds
 vlen : σ.length = m.vs.length
 var : ∀ (i : Nat) (r : R), m.vs[i]? = some (some r) → ∃ v, σ[i]? = some (some v) ∧ RelS K α H r v
 npl : m.np ≤ α.length
 ebl : K.eb.np ≤ m.np
 ebx : Ext K.eb.np K.eb.be K.eb.H α H
section
variable {K : Kx} {α : Al} {m m' : MSt} {σ : St} {H H0 H1 H' : Hp} {r : R} {v : V}
theorem RelS.rr {K : Kd} {Hb : Hp} (h : RelS K α H r v) : RelR K α Hb H r v := by
 cases r with
 | imm d => exact h
 | obj k => exact h
 | «at» k p => exact h
 | new ds => exact h.elim
 | newT t => exact h.elim
theorem Rel.mem (R : Rel K α m σ H) {a : Addr} (ha : a ∈ ads α) : ∃ o, H a = some o ∧ Mu o = true := by
 obtain ⟨ao, h1, h2⟩ := List.mem_flatMap.mp ha
 obtain ⟨k, hk, e⟩ := List.mem_iff_getElem.mp h1
 have h1 : α[k]? = some ao := by rw [List.getElem?_eq_getElem hk, e]
 have h2' : m.os[k]? = some (m.os[k]'(by rw [← R.len]; exact hk)) := List.getElem?_eq_getElem _
 exact (R.own k ao _ h1 h2').mem h2
theorem Rel.out (R : Rel K α m σ H) {a : Addr} (h : H a = none) : a ∉ ads α := fun ha => by
 obtain ⟨xs, q, _⟩ := R.mem ha
 rw [h] at q; cases q
theorem Rel.pers (R : Rel K α m σ H) (F : Frm α H H') : Pers H H' where
 tups := fun b xs e => F b _ e fun ha => by obtain ⟨ys, q, z⟩ := R.mem ha; rw [e] at q; cases q; cases z
 frzs := fun b o u e => F b _ e fun ha => by obtain ⟨ys, q, z⟩ := R.mem ha; rw [e] at q; cases q; cases z
theorem Ext.of {np : Nat} (R : Rel K α m σ H') (F : Frm α H H') : Ext np α H α H' :=
 ⟨rfl, F, fun _ h => .inl h, fun a ha => let ⟨xs, q, _⟩ := R.mem ha; ⟨_, q⟩⟩
theorem OwnAt.keep {K : Kd} {ao : Ao} {ds : List PyData} (h : OwnAt K H1 ao ds) (pe : Pers H1 H) (F : Frm α H1 H) (n : ∀ b ∈ ao.ads, b ∉ ads α) : OwnAt K H ao ds :=
 h.mono pe fun a ha => by
  obtain ⟨o, e, _⟩ := h.mem ha
  rw [e]; exact F a o e (n a ha)
theorem RelR.keep (R0 : Rel K α m σ H0) (R1 : Rel K α m' σ H1) (F : Frm α H1 H) (h : RelR K α H0 H1 r v) : RelR K α H0 H r v := by
 cases r with
 | imm d => exact Den.mono (R1.pers F) h
 | obj k => exact h
 | «at» k p => exact h
 | new ds =>
  obtain ⟨a, xs, e, n, q, g⟩ := h
  exact ⟨a, xs, e, n, F a _ q (R0.out n), g.mono (R1.pers F)⟩
 | newT t =>
  obtain ⟨τ, a, e, e1, nd, n, g⟩ := h
  exact ⟨τ, a, e, e1, nd, n, g.keep (R1.pers F) F fun b hb => R0.out (n b hb)⟩
theorem RelR.base (R : Rel K α m σ H) (F : Frm α H0 H) (h : RelR K α H H' r v) : RelR K α H0 H' r v := by
 have old : ∀ a, H a = none → H0 a = none := fun a n => by
  cases z : H0 a with
  | none => rfl
  | some o =>
   have := F a o z (R.out n)
   rw [n] at this; cases this
 cases r with
 | imm d => exact h
 | obj k => exact h
 | «at» k p => exact h
 | new ds =>
  obtain ⟨a, xs, e, n, q, g⟩ := h
  exact ⟨a, xs, e, old a n, q, g⟩
 | newT t =>
  obtain ⟨τ, a, e, e1, nd, n, g⟩ := h
  exact ⟨τ, a, e, e1, nd, fun b hb => old b (n b hb), g⟩
def chD : PyData → Nat → Option PyData
 | .list ts, i => ts[i]?
 | .dict kvs, i => match kvs[i]? with
  | some (.none, _) => none
  | some (_, t) => some t
  | none => none
 | _, _ => none
def getT : PyData → List Nat → Option PyData
 | t, [] => some t
 | t, i :: p => (chD t i).bind fun t' => getT t' p
def leafD : PyData → Option PyData
 | .list _ => none
 | .dict kvs => fzOf kvs
 | d => some d
def leavesD : List PyData → Option (List PyData)
 | [] => some []
 | t :: ts => match leafD t, leavesD ts with | some d, some ds => some (d :: ds) | _, _ => none
def ndL (m : MSt) (k : Nat) (p : List Nat) : Option (List PyData) := match m.os[k]? with
 | some [t] => match getT t p with
  | some (.list ts) => leavesD ts
  | _ => none
 | _ => none
theorem leaf_den {K : Kd} {τ : List (List Nat × Addr)} {p : List Nat} {t d : PyData} (h : TAt K H τ p t v) (e : leafD t = some d) : Den K H d v := by
 cases t with
 | list ts => cases e
 | dict kvs =>
  have e' : fzOf kvs = some d := e
  simp only [TAt] at h
  rcases h with ⟨d', e1, h⟩ | ⟨z, _⟩ | ⟨z, _⟩ | ⟨c, a, dx, C, xs, e0, _⟩
  ·rw [e'] at e1; cases e1; exact h
  ·rw [e'] at z; cases z
  ·rw [e'] at z; cases z
  ·exfalso
   unfold fzOf at e'
   unfold excC at e0
   split at e' <;> simp_all
 | none => cases e; simpa only [TAt] using h
 | bool _ => cases e; simpa only [TAt] using h
 | int _ => cases e; simpa only [TAt] using h
 | str _ => cases e; simpa only [TAt] using h
 | tuple _ => cases e; simpa only [TAt] using h
theorem leaves_den {K : Kd} {τ : List (List Nat × Addr)} {p : List Nat} : ∀ {ts ds : List PyData} {i : Nat} {xs : List V}, TAtL K H τ p i ts xs → leavesD ts = some ds → DenAll K H ds xs
 | [], ds, i, xs, h, e => by
  cases e
  simp only [TAtL] at h
  subst h
  exact DenAll.nil
 | t :: ts, ds, i, xs, h, e => by
  simp only [TAtL] at h
  obtain ⟨v, vs, rfl, g1, g2⟩ := h
  simp only [leavesD] at e
  cases q1 : leafD t with
  | none => rw [q1] at e; cases e
  | some d =>
   cases q2 : leavesD ts with
   | none => rw [q1, q2] at e; cases e
   | some ds' =>
    rw [q1, q2] at e; cases e
    exact DenAll.cons (leaf_den g1 q1) (leaves_den g2 q2)
theorem TAtL.get {K : Kd} {τ : List (List Nat × Addr)} {p : List Nat} : ∀ {ts : List PyData} {i j : Nat} {xs : List V} {t : PyData}, TAtL K H τ p i ts xs → ts[j]? = some t → ∃ v, xs[j]? = some v ∧ TAt K H τ (p ++ [i + j]) t v
 | [], _, _, _, _, _, e => by simp at e
 | t :: ts, i, 0, xs, t', h, e => by
  simp only [TAtL] at h
  obtain ⟨v, vs, rfl, g1, _⟩ := h
  simp at e; subst e
  exact ⟨v, rfl, g1⟩
 | t :: ts, i, j + 1, xs, t', h, e => by
  simp only [TAtL] at h
  obtain ⟨v, vs, rfl, _, g2⟩ := h
  obtain ⟨v', e1, e2⟩ := TAtL.get (j := j) g2 (by simpa using e)
  exact ⟨v', by simpa using e1, by rw [show i + (j + 1) = i + 1 + j by omega]; exact e2⟩
theorem TAtD.get {K : Kd} {τ : List (List Nat × Addr)} {p : List Nat} : ∀ {ts : List (PyData × PyData)} {i j : Nat} {xs : List (Int × V × V)} {k t : PyData}, TAtD K H τ p i ts xs → ts[j]? = some (k, t) → ∃ u v, xs[j]? = some (hashD K.w k, u, v) ∧ Den K H k u ∧ TAt K H τ (p ++ [i + j]) t v
 | [], _, _, _, _, _, _, e => by simp at e
 | (k, t) :: ts, i, 0, xs, k', t', h, e => by
  simp only [TAtD] at h
  obtain ⟨u, v, vs, rfl, g0, g1, _⟩ := h
  simp at e; obtain ⟨rfl, rfl⟩ := e
  exact ⟨u, v, rfl, g0, g1⟩
 | (k, t) :: ts, i, j + 1, xs, k', t', h, e => by
  simp only [TAtD] at h
  obtain ⟨u, v, vs, rfl, _, _, g2⟩ := h
  obtain ⟨u', v', e1, e0, e2⟩ := TAtD.get (j := j) g2 (by simpa using e)
  exact ⟨u', v', by simpa using e1, e0, by rw [show i + (j + 1) = i + 1 + j by omega]; exact e2⟩
theorem TAtK.get {K : Kd} {τ : List (List Nat × Addr)} {p : List Nat} : ∀ {ts : List (PyData × PyData)} {i j : Nat} {xs : List (Key × V)} {k t : PyData}, TAtK K H τ p i ts xs → ts[j]? = some (k, t) → ∃ v, TAt K H τ (p ++ [i + j]) t v
 | [], _, _, _, _, _, _, e => by simp at e
 | (k, t) :: ts, i, 0, xs, k', t', h, e => by
  simp only [TAtK] at h
  obtain ⟨u, v, vs, rfl, g0, g1, _⟩ := h
  simp at e; obtain ⟨rfl, rfl⟩ := e
  exact ⟨v, g1⟩
 | (k, t) :: ts, i, j + 1, xs, k', t', h, e => by
  simp only [TAtK] at h
  obtain ⟨u, v, vs, rfl, _, _, g2⟩ := h
  obtain ⟨v', e2⟩ := TAtK.get (j := j) g2 (by simpa using e)
  exact ⟨v', by rw [show i + (j + 1) = i + 1 + j by omega]; exact e2⟩
theorem TAtF.get {K : Kd} {τ : List (List Nat × Addr)} {p : List Nat} : ∀ {ts : List (PyData × PyData)} {i j : Nat} {xs : List (Str × V)} {f : Str} {t : PyData}, TAtF K H τ p i ts xs → ts[j]? = some (.str f, t) → ∃ v, (f, v) ∈ xs ∧ TAt K H τ (p ++ [i + j]) t v
 | [], _, _, _, _, _, _, e => by simp at e
 | (k, t) :: ts, i, 0, xs, f, t', h, e => by
  simp at e; obtain ⟨rfl, rfl⟩ := e
  simp only [TAtF] at h
  obtain ⟨v, vs, rfl, g1, _⟩ := h
  exact ⟨v, List.mem_cons_self, g1⟩
 | (k, t) :: ts, i, j + 1, xs, f, t', h, e => by
  have go : ∀ {ys : List (Str × V)}, TAtF K H τ p (i + 1) ts ys → ∃ v, (f, v) ∈ ys ∧ TAt K H τ (p ++ [i + (j + 1)]) t' v := fun {ys} g2 => by
   obtain ⟨v', e1, e2⟩ := TAtF.get (j := j) g2 (by simpa using e)
   exact ⟨v', e1, by rw [show i + (j + 1) = i + 1 + j by omega]; exact e2⟩
  cases k with
  | str f' =>
   simp only [TAtF] at h
   obtain ⟨v, vs, rfl, _, g2⟩ := h
   obtain ⟨v', e1, e2⟩ := go g2
   exact ⟨v', List.mem_cons_of_mem _ e1, e2⟩
  | none => simp only [TAtF] at h; exact go h
  | bool _ => simp only [TAtF] at h
  | int _ => simp only [TAtF] at h
  | list _ => simp only [TAtF] at h
  | tuple _ => simp only [TAtF] at h
  | dict _ => simp only [TAtF] at h
theorem TAtF.key {K : Kd} {τ : List (List Nat × Addr)} {p : List Nat} : ∀ {ts : List (PyData × PyData)} {i : Nat} {xs : List (Str × V)} {k t : PyData}, TAtF K H τ p i ts xs → (k, t) ∈ ts → k ≠ .none → ∃ f, k = .str f
 | [], _, _, _, _, _, e, _ => by simp at e
 | (k, t) :: ts, i, xs, k', t', h, e, kn => by
  cases k with
  | str f' =>
   simp only [TAtF] at h
   obtain ⟨v, vs, rfl, _, g2⟩ := h
   rcases List.mem_cons.mp e with e | e
   ·cases e; exact ⟨_, rfl⟩
   ·exact g2.key e kn
  | none =>
   simp only [TAtF] at h
   rcases List.mem_cons.mp e with e | e
   ·cases e; exact (kn rfl).elim
   ·exact h.key e kn
  | bool _ => simp only [TAtF] at h
  | int _ => simp only [TAtF] at h
  | list _ => simp only [TAtF] at h
  | tuple _ => simp only [TAtF] at h
  | dict _ => simp only [TAtF] at h
theorem TAt.get {K : Kd} {τ : List (List Nat × Addr)} : ∀ {q p : List Nat} {t t' : PyData} {v : V}, TAt K H τ p t v → getT t q = some t' → ∃ v', TAt K H τ (p ++ q) t' v'
 | [], p, t, t', v, h, e => by cases e; exact ⟨v, by rw [List.append_nil]; exact h⟩
 | i :: q, p, t, t', v, h, e => by
  simp only [getT] at e
  cases z : chD t i with
  | none => rw [z] at e; cases e
  | some t1 =>
   rw [z] at e
   have e' : getT t1 q = some t' := e
   have step : ∃ v1, TAt K H τ (p ++ [i]) t1 v1 := by
    cases t with
    | list ts =>
     simp only [TAt] at h
     obtain ⟨a, xs, _, _, _, g⟩ := h
     obtain ⟨v1, _, g1⟩ := g.get (j := i) z
     exact ⟨v1, by rw [Nat.zero_add] at g1; exact g1⟩
    | dict kvs =>
     simp only [chD] at z
     cases zi : kvs[i]? with
     | none => rw [zi] at z; cases z
     | some kt =>
      obtain ⟨k, t2⟩ := kt
      rw [zi] at z
      have kn : k ≠ .none := fun q => by subst q; cases z
      have e2 : t2 = t1 := by
       split at z <;> simp_all
      subst e2
      simp only [TAt] at h
      rcases h with ⟨d, e1, _⟩ | ⟨_, _, a, es, _, _, _, _, g⟩ | ⟨_, _, a, es, _, _, _, g⟩ | ⟨c, a, dx, C, xs, e0, _, _, _, _, g⟩
      ·exfalso
       unfold fzOf at e1
       split at e1
       ·cases i <;> simp at zi; exact kn zi.1.symm
       ·cases i <;> simp at zi; exact kn zi.1.symm
       ·cases e1
      ·obtain ⟨u, v1, _, _, g1⟩ := g.get (j := i) zi
       exact ⟨v1, by rw [Nat.zero_add] at g1; exact g1⟩
      ·obtain ⟨v1, g1⟩ := g.get (j := i) zi
       exact ⟨v1, by rw [Nat.zero_add] at g1; exact g1⟩
      ·obtain ⟨f, rfl⟩ := g.key (List.mem_of_getElem? zi) kn
       obtain ⟨v1, _, g1⟩ := g.get (j := i) zi
       exact ⟨v1, by rw [Nat.zero_add] at g1; exact g1⟩
    | none => cases z
    | bool _ => cases z
    | int _ => cases z
    | str _ => cases z
    | tuple _ => cases z
   obtain ⟨v1, h1⟩ := step
   obtain ⟨v', h2⟩ := TAt.get h1 e'
   exact ⟨v', by rw [List.append_assoc] at h2; exact h2⟩
def lsOf (m : MSt) : R → Option (List PyData)
 | .imm (.list ds) => some ds
 | .obj k => m.os[k]?
 | .new ds => some ds
 | .at k p => ndL m k p
 | _ => none
mutual
def eraT : PyData → Option PyData
 | .list ts => (eraL ts).map .list
 | .dict kvs => fzOf kvs
 | .none => some .none
 | .bool b => some (.bool b)
 | .int i => some (.int i)
 | .str x => some (.str x)
 | .tuple ds => some (.tuple ds)
def eraL : List PyData → Option (List PyData)
 | [] => some []
 | t :: ts => match eraT t, eraL ts with | some d, some ds => some (d :: ds) | _, _ => none
end
def ndT (m : MSt) (k : Nat) (p : List Nat) : Option PyData := match m.os[k]? with
 | some [t] => getT t p
 | _ => none
def asD (m : MSt) : R → Option PyData
 | .imm d => some d
 | .obj k => (m.os[k]?).map .list
 | .new ds => some (.list ds)
 | .at k p => match ndT m k p with
  | some (.list ts) => (eraL ts).map .list
  | _ => none
 | .newT _ => none
theorem RelR.node (R : Rel K α m σ H) {k : Nat} {p : List Nat} (h : RelR K α H0 H (.at k p) v) {t : PyData} (e : ndT m k p = some t) : ∃ τ a v', α[k]? = some (.T τ) ∧ τ.lookup p = some a ∧ v = .ref a ∧ TAt K H τ p t v' := by
 obtain ⟨τ, a, e1, e2, e3⟩ := h
 unfold ndT at e
 split at e
 ·rename_i t0 e0
  obtain ⟨⟨t1, v0, e4, g, _⟩, _⟩ := R.own k (.T τ) _ e1 e0
  cases e4
  obtain ⟨v', g'⟩ := g.get e
  exact ⟨τ, a, v', e1, e2, e3, by simpa using g'⟩
 ·cases e
theorem RelR.list (R : Rel K α m σ H) (h : RelR K α H0 H r v) {ds : List PyData} (e : lsOf m r = some ds) : ∃ a xs, v = .ref a ∧ SqL K H a xs ∧ DenAll K H ds xs := by
 cases r with
 | imm d =>
  cases d with
  | list es =>
   cases e
   have h' : Den K H (.list ds) v := h
   simp only [Den] at h'
   obtain ⟨a, xs, e1, f, g⟩ := h'
   exact ⟨a, xs, e1, f.sq, g⟩
  | none => cases e
  | bool _ => cases e
  | int _ => cases e
  | str _ => cases e
  | tuple _ => cases e
  | dict _ => cases e
 | obj k =>
  obtain ⟨a, e1, rfl⟩ := h
  obtain ⟨xs, q, g⟩ := R.own k _ ds e1 e
  exact ⟨a, xs, rfl, SqL.of q, g⟩
 | new es =>
  cases e
  obtain ⟨a, xs, e1, n, q, g⟩ := h
  exact ⟨a, xs, e1, SqL.of q, g⟩
 | «at» k p =>
  have e' : ndL m k p = some ds := e
  obtain ⟨ts, e1, e2⟩ : ∃ ts, ndT m k p = some (.list ts) ∧ leavesD ts = some ds := by
   unfold ndL at e'
   unfold ndT
   split at e'
   ·split at e'
    ·rename_i h0 _ ts h1
     exact ⟨ts, h1, e'⟩
    ·cases e'
   ·cases e'
  obtain ⟨τ, a, v', _, ea, rfl, g⟩ := RelR.node R h e1
  simp only [TAt] at g
  obtain ⟨a', xs, ea', _, q, g⟩ := g
  rw [ea] at ea'; cases ea'
  exact ⟨a, xs, rfl, SqL.of q, leaves_den g e2⟩
 | newT _ => cases e
end
section
variable {X : Cx} {pins : List (Addr × Obj)} {σ : St} {H : Hp} {s : Shared} {τ : List (List Nat × Addr)}
mutual
theorem TAt.reads (I : Inv X pins σ H s) : ∀ {t d : PyData} {p : List Nat} {v : V} {u : Value}, eraT t = some d → d.hasDict = false → TAt X.kd H τ p t v → RelV v u → ∃ as, Reads s.heap u d as
 | .none, d, p, v, u, e, nd, h, r => by simp only [eraT] at e; cases e; simp only [TAt] at h; exact h.reads I nd r
 | .bool b, d, p, v, u, e, nd, h, r => by simp only [eraT] at e; cases e; simp only [TAt] at h; exact h.reads I nd r
 | .int i, d, p, v, u, e, nd, h, r => by simp only [eraT] at e; cases e; simp only [TAt] at h; exact h.reads I nd r
 | .str x, d, p, v, u, e, nd, h, r => by simp only [eraT] at e; cases e; simp only [TAt] at h; exact h.reads I nd r
 | .tuple ds, d, p, v, u, e, nd, h, r => by simp only [eraT] at e; cases e; simp only [TAt] at h; exact h.reads I nd r
 | .dict kvs, d, p, v, u, e, nd, h, r => by
  simp only [eraT] at e
  exact (leaf_den h (show leafD (.dict kvs) = some d from e)).reads I nd r
 | .list ts, d, p, v, u, e, nd, h, r => by
  simp only [eraT] at e
  cases q : eraL ts with
  | none => rw [q] at e; cases e
  | some ds =>
   rw [q] at e
   cases e
   simp only [TAt] at h
   obtain ⟨a, xs, _, rfl, f, g⟩ := h
   cases r
   obtain ⟨its, rv, ⟨o, n, e, c, _, dd⟩, _⟩ := I.list (SqL.of f)
   obtain ⟨as, h2⟩ := TAtL.reads I q (by simpa only [PyData.hasDict] using nd) g rv
   exact ⟨_, .list e c dd (by simpa using h2)⟩
theorem TAtL.reads (I : Inv X pins σ H s) : ∀ {ts ds : List PyData} {p : List Nat} {i : Nat} {xs : List V} {us : List Value}, eraL ts = some ds → PyData.hasDictAll ds = false → TAtL X.kd H τ p i ts xs → Vals xs us → ∃ as, ReadsAll s.heap us ds as
 | [], ds, p, i, xs, us, e, nd, h, r => by
  simp only [eraL] at e; cases e
  simp only [TAtL] at h; subst h
  cases r; exact ⟨_, .nil⟩
 | t :: ts, ds, p, i, xs, us, e, nd, h, r => by
  simp only [eraL] at e
  cases q1 : eraT t with
  | none => rw [q1] at e; cases e
  | some d =>
   cases q2 : eraL ts with
   | none => rw [q1, q2] at e; cases e
   | some ds' =>
    rw [q1, q2] at e; cases e
    simp only [PyData.hasDictAll, Bool.or_eq_false_iff] at nd
    simp only [TAtL] at h
    obtain ⟨v, vs, rfl, g1, g2⟩ := h
    cases r with
    | cons r1 r2 =>
     obtain ⟨a1, h1⟩ := TAt.reads I q1 nd.1 g1 r1
     obtain ⟨a2, h2⟩ := TAtL.reads I q2 nd.2 g2 r2
     exact ⟨_, .cons h1 h2⟩
end
end
theorem RelR.reads {X : Cx} {pins : List (Addr × Obj)} {σ σ' : St} {H H0 : Hp} {s : Shared} {α : Al} {m : MSt} {r : R} {v : V} {u : Value} {d : PyData} (I : Inv X pins σ H s) (R : Rel X.kx α m σ' H) (h : RelR X.kd α H0 H r v) (rv : RelV v u) (e : asD m r = some d) (nd : d.hasDict = false) : ∃ as, Reads s.heap u d as := by
 have li : ∀ {ds : List PyData}, lsOf m r = some ds → PyData.hasDictAll ds = false → ∃ as, Reads s.heap u (.list ds) as := fun {ds} e nd => by
  obtain ⟨a, xs, rfl, f, g⟩ := RelR.list R h e
  cases rv
  obtain ⟨its, rv, ⟨o, n, e, c, _, dd⟩, _⟩ := I.list f
  obtain ⟨as, h2⟩ := DenAll.reads I nd g rv
  exact ⟨_, .list e c dd (by simpa using h2)⟩
 cases r with
 | imm d' => cases e; exact Den.reads I nd h rv
 | obj k =>
  cases q : m.os[k]? with
  | none => simp [asD, q] at e
  | some ds =>
   simp [asD, q] at e
   subst e
   exact li q (by simpa only [PyData.hasDict] using nd)
 | new ds => cases e; exact li rfl (by simpa only [PyData.hasDict] using nd)
 | «at» k p =>
  obtain ⟨ts, ds, q, q2, rfl⟩ : ∃ ts ds, ndT m k p = some (.list ts) ∧ eraL ts = some ds ∧ d = .list ds := by
   unfold asD at e
   simp only at e
   split at e
   ·rename_i ts q
    cases q2 : eraL ts with
    | none => rw [q2] at e; cases e
    | some ds => rw [q2] at e; cases e; exact ⟨ts, ds, q, q2, rfl⟩
   ·cases e
  obtain ⟨τ, a, v', _, ea, rfl, g⟩ := RelR.node R h q
  have g' := g
  simp only [TAt] at g'
  obtain ⟨a', xs, ea', e3, _⟩ := g'
  rw [ea] at ea'; cases ea'
  subst e3
  exact TAt.reads I (by simp only [eraT, q2, Option.map]) nd g rv
 | newT _ => cases e
abbrev WE := MSt → (R → MSt → Prop) → Prop
abbrev WT := MSt → (Bool → MSt → Prop) → Prop
abbrev WA := MSt → (List R → MSt → Prop) → Prop
def tM (K : Kx) (w : WE) : TE := fun σ H Q => ∃ α m Kc, Rel K α m σ H ∧ w m Kc ∧ ∀ r m' v H', Kc r m' → m'.np = m.np → Rel K α m' σ H' → RelR K α H H' r v → Frm α H H' → Q v H'
def tMT (K : Kx) (w : WT) : TT := fun σ H Q => ∃ α m Kc, Rel K α m σ H ∧ w m Kc ∧ ∀ b m' H', Kc b m' → m'.np = m.np → Rel K α m' σ H' → Frm α H H' → Q b H'
inductive RelRs (K : Kd) (α : Al) (Hb H : Hp) : List R → List V → Prop where
 | nil : RelRs K α Hb H [] []
 | cons {r : R} {rs : List R} {v : V} {vs : List V} : RelR K α Hb H r v → RelRs K α Hb H rs vs → RelRs K α Hb H (r :: rs) (v :: vs)
def tMA (K : Kx) (w : WA) : TA := fun σ H Q => ∃ α m Kc, Rel K α m σ H ∧ w m Kc ∧ ∀ rs m' vs H', Kc rs m' → m'.np = m.np → Rel K α m' σ H' → RelRs K α H H' rs vs → Frm α H H' → Q vs H'
theorem PE.wk {X : Cx} {e : Expr} {t t' : TE} (h : PE X e t) (k : ∀ σ H Q, t' σ H Q → t σ H Q) : PE X e t' := fun pins s σ H Q I q => h pins s σ H Q I (k _ _ _ q)
theorem PT.wk {X : Cx} {e : Expr} {t t' : TT} (h : PT X e t) (k : ∀ σ H Q, t' σ H Q → t σ H Q) : PT X e t' := fun pins s σ H Q I q => h pins s σ H Q I (k _ _ _ q)
theorem PW.wk {X : Cx} {e : Expr} {t t' : TT} (h : PW X e t) (k : ∀ σ H Q, t' σ H Q → t σ H Q) : PW X e t' := fun wh pins s σ H Q I q => h wh pins s σ H Q I (k _ _ _ q)
theorem PA.wk {X : Cx} {e : List Expr} {t t' : TA} (h : PA X e t) (k : ∀ σ H Q, t' σ H Q → t σ H Q) : PA X e t' := fun pos pins s σ H Q I q => h pos pins s σ H Q I (k _ _ _ q)
theorem PS.wk {X : Cx} {e : Stmt} {t t' : TS} (h : PS X e t) (k : ∀ D σ H, t' D σ H → t D σ H) : PS X e t' := fun pins s σ H D I q => h pins s σ H D I (k _ _ _ q)
theorem PSs.wk {X : Cx} {e : List Stmt} {t t' : TS} (h : PSs X e t) (k : ∀ D σ H, t' D σ H → t D σ H) : PSs X e t' := fun pins s σ H D I q => h pins s σ H D I (k _ _ _ q)
abbrev ME (X : Cx) (e : Expr) (w : WE) : Prop := PE X e (tM X.kx w)
abbrev MT (X : Cx) (e : Expr) (w : WT) : Prop := PT X e (tMT X.kx w)
abbrev MW (X : Cx) (e : Expr) (w : WT) : Prop := PW X e (tMT X.kx w)
abbrev MA (X : Cx) (es : List Expr) (w : WA) : Prop := PA X es (tMA X.kx w)
section
variable {X : Cx} {a b c : Expr} {es : List Expr} {wa wb wc : WE} {pos : Pos}
def wVar (i : Nat) : WE := fun m K => ∃ r, m.vs[i]? = some (some r) ∧ K r m
def wC (d : PyData) : WE := fun m K => K (.imm d) m
theorem me_of {t : TE} {w : WE} (h : PE X a t) (k : ∀ α m σ H Kc Q, Rel X.kx α m σ H → w m Kc → (∀ r m' v H', Kc r m' → m'.np = m.np → Rel X.kx α m' σ H' → RelR X.kx α H H' r v → Frm α H H' → Q v H') → t σ H Q) : ME X a w :=
 h.wk fun σ H Q ⟨α, m, Kc, Rl, hw, fin⟩ => k α m σ H Kc Q Rl hw fin
theorem me_c {d : PyData} {v : V} (h : PE X a (tC v)) (hd : ∀ (K : Kd) H, Den K H d v) : ME X a (wC d) :=
 me_of h fun α m σ H Kc Q Rl hw fin => fin _ m v H hw rfl Rl (hd _ _) (Frm.refl _ _)
theorem me_int {i j pos} : ME X (.Constant (.int i) j pos) (wC (.int i)) := me_c pe_int fun _ _ => by simp only [Den]
theorem me_bl {i j pos} : ME X (.Constant (.bool i) j pos) (wC (.bool i)) := me_c pe_bl fun _ _ => by simp only [Den]
theorem me_str {i j pos} : ME X (.Constant (.str i) j pos) (wC (.str i)) := me_c pe_str fun _ _ => by simp only [Den]
theorem me_non {j pos} : ME X (.Constant .none j pos) (wC .none) := me_c pe_non fun _ _ => by simp only [Den]
theorem me_var {i : Nat} (h : PE X a (tVar i)) : ME X a (wVar i) :=
 me_of h fun α m σ H Kc Q Rl hw fin => by
  obtain ⟨r, e, k⟩ := hw
  obtain ⟨v, ev, rv⟩ := Rl.var i r e
  exact ⟨v, ev, fin r m v H k rfl Rl rv.rr (Frm.refl _ _)⟩
theorem mv (i : Nat) {x : Str} {pos : Pos} (hN : X.N[i]? = some x := by rfl) (hv : Vis X.env.scope x := by first | exact Or.inl rfl | exact Or.inr (Or.inl rfl) | exact Or.inr (Or.inr rfl)) (hd : (x == ("__debug__" : Str)) = false := by decide) (hcd : (x == ("__classdict__" : Str)) = false := by decide) : ME X (.Name x pos) (wVar i) := me_var (pe_var hN hv hd hcd)
abbrev WO := R → R → MSt → (R → Prop) → Prop
def rM (K : Kx) (o : WO) : R2 := fun x y H Q => ∃ α m σ H0 H1 r1 r2 Kc, Rel K α m σ H ∧ RelR K α H0 H r1 x ∧ RelR K α H1 H r2 y ∧ o r1 r2 m Kc ∧ ∀ r v H', Kc r → Rel K α m σ H' → RelR K α H H' r v → Frm α H H' → Q v H'
def wBin (o : WO) (wa wb : WE) : WE := fun m K => wa m fun r1 m1 => wb m1 fun r2 m2 => o r1 r2 m2 fun r => K r m2
theorem bin_rd {o : WO} {σ : St} {H : Hp} {Q : VK} (h : tM X.kx (wBin o wa wb) σ H Q) : tOp (rM X.kx o) (tM X.kx wa) (tM X.kx wb) σ H Q := by
 obtain ⟨α, m, Kc, Rl, hw, fin⟩ := h
 refine ⟨α, m, _, Rl, hw, fun r1 m1 x H1 k1 n1 Rl1 rr1 F1 => ⟨α, m1, _, Rl1, k1, fun r2 m2 y H2 k2 n2 Rl2 rr2 F2 => ?_⟩⟩
 refine ⟨α, m2, σ, H, H1, r1, r2, _, Rl2, rr1.keep Rl Rl1 F2, rr2, k2, fun r v H' k Rl' rr F => ?_⟩
 exact fin r m2 v H' k (n2.trans n1) Rl' (rr.base Rl2 (F1.trans F2)) ((F1.trans F2).trans F)
theorem me_bin {op : Operator} {o : WO} (ho : OpR X (binaryOp op) (rM X.kx o)) (ha : ME X a wa) (hb : ME X b wb) : ME X (.BinOp a op b pos) (wBin o wa wb) := (pe_op ho ha hb).wk fun _ _ _ h => bin_rd h
theorem me_cmp {op : CmpOp} {o : WO} (ho : OpR X (compareOp op) (rM X.kx o)) (ha : ME X a wa) (hb : ME X b wb) (hm : behindInMarks op b = false) : ME X (.Compare a [op] [b] pos) (wBin o wa wb) := (pe_cmpR ho ha hb hm).wk fun _ _ _ h => bin_rd h
def onBl (P : Bool → Prop) : R → Prop
 | .imm (.bool k) => P k
 | _ => False
theorem rel_bl {K : Kx} {α : Al} {Hb H : Hp} {r : R} {v : V} {P : Bool → Prop} (rr : RelR K α Hb H r v) (h : onBl P r) : ∃ b, r = .imm (.bool b) ∧ v = .bl b ∧ P b := by
 cases r with
 | obj _ => exact h.elim
 | new _ => exact h.elim
 | «at» _ _ => exact h.elim
 | newT _ => exact h.elim
 | imm d =>
  cases d with
  | bool b =>
   have e : Den K H (.bool b) v := rr
   simp only [Den] at e
   exact ⟨b, rfl, e, h⟩
  | none => exact h.elim
  | int _ => exact h.elim
  | str _ => exact h.elim
  | list _ => exact h.elim
  | tuple _ => exact h.elim
  | dict _ => exact h.elim
def wTest (w : WE) : WT := fun m K => w m fun r m' => onBl (fun k => K k m') r
theorem test_rd {t : TE} {σ : St} {H : Hp} {Q : Bool → Hp → Prop} {w : WE} (k : ∀ Q', tM X.kx w σ H Q' → t σ H Q') (h : tMT X.kx (wTest w) σ H Q) : tTest t σ H Q := by
 obtain ⟨α, m, Kc, Rl, hw, fin⟩ := h
 refine k _ ⟨α, m, _, Rl, hw, fun r m' v H' kk n1 Rl' rr F => ?_⟩
 obtain ⟨b, er, ev, kk⟩ := rel_bl rr kk
 exact ⟨b, ev, fin b m' H' kk n1 Rl' F⟩
theorem mt_cmp {op : CmpOp} {o : WO} (ho : OpR X (compareOp op) (rM X.kx o)) (ha : ME X a wa) (hb : ME X b wb) (hm : behindInMarks op b = false) : MT X (.Compare a [op] [b] pos) (wTest (wBin o wa wb)) := (pt_cmpR ho ha hb hm).wk fun _ _ _ h => test_rd (fun _ => bin_rd) h
theorem mt_val (ha : ME X a wa) (he : ∀ whole, isTrue a X.env whole = (do let v ← whole; standAt a.pos; holding [v] (truthy v)) := by intro _; rfl) : MT X a (wTest wa) := (pt_val ha he).wk fun _ _ _ h => test_rd (t := tM X.kx wa) (fun _ h => h) h
end
section
variable {X : Cx} {a b c : Expr} {es : List Expr} {wa wb wc : WE} {pos : Pos}
variable {wt wu : WT} {rest : List Expr}
def wAnd (t u : WT) : WT := fun m K => t m fun c m1 => if c = true then u m1 K else K false m1
def wOr (t u : WT) : WT := fun m K => t m fun c m1 => if c = true then K true m1 else u m1 K
def wNot (t : WT) : WT := fun m K => t m fun c m1 => K (!c) m1
theorem mw_and1 (ha : MT X a wt) : MW X (.BoolOp .And [a] pos) wt := pw_and1 ha
theorem mw_or1 (ha : MT X a wt) : MW X (.BoolOp .Or [a] pos) wt := pw_or1 ha
theorem mw_and (ha : MT X a wt) (hb : MW X (.BoolOp .And (b :: rest) pos) wu) : MW X (.BoolOp .And (a :: b :: rest) pos) (wAnd wt wu) := (pw_and ha hb).wk fun σ H Q ⟨α, m, Kc, Rl, hw, fin⟩ => by
 refine ⟨α, m, _, Rl, hw, fun bb m1 H1 k n1 Rl1 F1 => ?_⟩
 cases bb with
 | true => rw [if_pos rfl] at k ⊢; exact ⟨α, m1, Kc, Rl1, k, fun b2 m2 H2 k2 n2 Rl2 F2 => fin b2 m2 H2 k2 (n2.trans n1) Rl2 (F1.trans F2)⟩
 | false => rw [if_neg Bool.false_ne_true] at k ⊢; exact fin _ m1 H1 k n1 Rl1 F1
theorem mw_or (ha : MT X a wt) (hb : MW X (.BoolOp .Or (b :: rest) pos) wu) : MW X (.BoolOp .Or (a :: b :: rest) pos) (wOr wt wu) := (pw_or ha hb).wk fun σ H Q ⟨α, m, Kc, Rl, hw, fin⟩ => by
 refine ⟨α, m, _, Rl, hw, fun bb m1 H1 k n1 Rl1 F1 => ?_⟩
 cases bb with
 | true => rw [if_pos rfl] at k ⊢; exact fin _ m1 H1 k n1 Rl1 F1
 | false => rw [if_neg Bool.false_ne_true] at k ⊢; exact ⟨α, m1, Kc, Rl1, k, fun b2 m2 H2 k2 n2 Rl2 F2 => fin b2 m2 H2 k2 (n2.trans n1) Rl2 (F1.trans F2)⟩
theorem mt_not (ha : MT X a wt) : MT X (.UnaryOp .Not a pos) (wNot wt) := (pt_not ha).wk fun σ H Q ⟨α, m, Kc, Rl, hw, fin⟩ =>
 ⟨α, m, _, Rl, hw, fun bb m1 H1 k n1 Rl1 F1 => fin _ m1 H1 k n1 Rl1 F1⟩
def wOrV (wa wb : WE) : WE := fun m K => wa m fun r m1 => onBl (fun c => if c = true then K (.imm (.bool true)) m1 else wb m1 K) r
theorem den_bl {K : Kd} {H : Hp} (b : Bool) : Den K H (.bool b) (.bl b) := by simp only [Den]
theorem den_int {K : Kd} {H : Hp} (b : Int) : Den K H (.int b) (.int b) := by simp only [Den]
theorem den_str {K : Kd} {H : Hp} (b : Str) : Den K H (.str b) (.str b) := by simp only [Den]
theorem den_non {K : Kd} {H : Hp} : Den K H .none .non := by simp only [Den]
theorem me_one {op} (h : ME X a wa) : ME X (.BoolOp op [a] pos) wa := pe_one h
theorem me_or (ha : ME X a wa) (hb : ME X (.BoolOp .Or (b :: rest) pos) wb) : ME X (.BoolOp .Or (a :: b :: rest) pos) (wOrV wa wb) := (pe_or ha hb).wk fun σ H Q ⟨α, m, Kc, Rl, hw, fin⟩ => by
 refine ⟨α, m, _, Rl, hw, fun r m1 v H1 k n1 Rl1 rr F1 => ?_⟩
 obtain ⟨bb, er, ev, kk⟩ := rel_bl rr k
 subst er ev
 refine ⟨bb, rfl, ?_⟩
 cases bb with
 | true => rw [if_pos rfl] at kk ⊢; exact fin _ m1 _ H1 kk n1 Rl1 (den_bl (K := X.kx) (H := H1) _) F1
 | false => rw [if_neg Bool.false_ne_true] at kk ⊢; exact ⟨α, m1, Kc, Rl1, kk, fun r m2 v H2 k2 n2 Rl2 rr2 F2 => fin r m2 v H2 k2 (n2.trans n1) Rl2 (rr2.base Rl1 F1) (F1.trans F2)⟩
abbrev WU := R → MSt → (R → Prop) → Prop
def uM (K : Kx) (o : WU) : V → Hp → VK → Prop := fun x H Q => ∃ α m σ H0 r1 Kc, Rel K α m σ H ∧ RelR K α H0 H r1 x ∧ o r1 m Kc ∧ ∀ r v H', Kc r → Rel K α m σ H' → RelR K α H H' r v → Frm α H H' → Q v H'
def wUn (o : WU) (wa : WE) : WE := fun m K => wa m fun r1 m1 => o r1 m1 fun r => K r m1
theorem me_un {op : UnaryOp} {o : WU} (ho : UnR X (unaryOp op) (uM X.kx o)) (ha : ME X a wa) : ME X (.UnaryOp op a pos) (wUn o wa) := (pe_un ho ha).wk fun σ H Q ⟨α, m, Kc, Rl, hw, fin⟩ =>
 ⟨α, m, _, Rl, hw, fun r1 m1 x H1 k1 n1 Rl1 rr1 F1 => ⟨α, m1, σ, H, r1, _, Rl1, rr1, k1, fun r v H' k Rl' rr F => fin r m1 v H' k n1 Rl' (rr.base Rl1 F1) (F1.trans F)⟩⟩
def tFz (t : TE) : TE := fun σ H Q => t σ H fun v H1 => Q v H1 ∨ ∃ a xs, H1 a = some (.lst xs) ∧ ∀ o, Q v (upd H1 a (.frz o (.lst xs)))
theorem pe_fz {t : TE} (h : PE X a t) : PE X a (tFz t) := by
 intro pins s σ H Q I q
 refine thn (h pins s σ H _ I q) fun u s1 ⟨v, H1, I1, r1, q1⟩ => ?_
 rcases q1 with q1 | ⟨p, xs, e, q1⟩
 ·exact ⟨v, H1, I1, r1, q1⟩
 ·obtain ⟨o, I2⟩ := I1.freeze e
  exact ⟨v, _, I2, r1, q1 o⟩
theorem Rel.at {K : Kx} {α : Al} {m : MSt} {σ : St} {H H' : Hp} (R : Rel K α m σ H) (p : Pers H H') (e : ∀ a ∈ ads α, H' a = H a) (x : Frm α H H') : Rel K α m σ H' := by
 refine ⟨R.nd, R.len, fun k ao ds h1 h2 => ?_, R.vlen, fun i r h => ?_, R.npl, R.ebl, R.ebx.trans ⟨rfl, x, fun _ h => .inl h, fun a ha => ?_⟩⟩
 ·exact (R.own k ao ds h1 h2).mono p fun a ha => e a (List.mem_flatMap.mpr ⟨ao, List.mem_of_getElem? h1, ha⟩)
 ·obtain ⟨v, ev, rv⟩ := R.var i r h
  refine ⟨v, ev, ?_⟩
  cases r with
  | imm d => exact Den.mono p rv
  | obj k => exact rv
  | «at» k p => exact rv
  | new ds => exact rv
  | newT t => exact rv
 ·obtain ⟨o, q, _⟩ := R.mem ha
  exact ⟨o, (e a ha).trans q⟩
theorem Rel.at' {K : Kx} {α : Al} {m : MSt} {σ : St} {H H' : Hp} (R : Rel K α m σ H) (p : Pers H H') (e : ∀ a ∈ ads α, H' a = H a) (x : Ext K.eb.np K.eb.be K.eb.H α H') : Rel K α m σ H' := by
 refine ⟨R.nd, R.len, fun k ao ds h1 h2 => ?_, R.vlen, fun i r h => ?_, R.npl, R.ebl, x⟩
 ·exact (R.own k ao ds h1 h2).mono p fun a ha => e a (List.mem_flatMap.mpr ⟨ao, List.mem_of_getElem? h1, ha⟩)
 ·obtain ⟨v, ev, rv⟩ := R.var i r h
  refine ⟨v, ev, ?_⟩
  cases r with
  | imm d => exact Den.mono p rv
  | obj k => exact rv
  | «at» k p => exact rv
  | new ds => exact rv
  | newT t => exact rv
theorem pers_upd {H : Hp} {a : Addr} {o : HO} (h : H a = none ∨ ∃ u, H a = some u ∧ Mu u = true) : Pers H (upd H a o) where
 tups := fun b xs e => by
  rw [upd_ne]; exact e
  rintro rfl
  rcases h with h | ⟨ys, h, z⟩ <;> (rw [e] at h; cases h)
  cases z
 frzs := fun b o u e => by
  rw [upd_ne]; exact e
  rintro rfl
  rcases h with h | ⟨ys, h, z⟩ <;> (rw [e] at h; cases h)
  cases z
theorem pers_lst {H : Hp} {a : Addr} {o : HO} {xs : List V} (h : H a = some (.lst xs)) : Pers H (upd H a o) := pers_upd (.inr ⟨_, h, rfl⟩)
theorem frm_upd {α : Al} {H : Hp} {a : Addr} {o : HO} (h : H a = none) : Frm α H (upd H a o) := fun b ob e _ => by
 rw [upd_ne (ne_of_none e h)]; exact e
theorem Rel.lay {K : Kx} {α : Al} {m : MSt} {σ : St} {H : Hp} {a : Addr} {o : HO} (R : Rel K α m σ H) (h : H a = none) : Rel K α m σ (upd H a o) :=
 R.at (pers_upd (.inl h)) (fun b hb => upd_ne fun e => R.out h (e ▸ hb)) (frm_upd h)
def wImm (w : WE) : WE := fun m K => w m fun r m' => match r with | .imm d => K (.imm d) m' | .new ds => K (.imm (.list ds)) m' | _ => False
theorem me_imm (ha : ME X a wa) : ME X a (wImm wa) := (pe_fz ha).wk fun σ H Q ⟨α, m, Kc, Rl, hw, fin⟩ => by
 refine ⟨α, m, _, Rl, hw, fun r m1 v H1 k n1 Rl1 rr F1 => ?_⟩
 cases r with
 | imm d => exact .inl (fin _ m1 v H1 k n1 Rl1 rr F1)
 | obj _ => exact k.elim
 | «at» _ _ => exact k.elim
 | newT _ => exact k.elim
 | new ds =>
  obtain ⟨p, xs, ev, n, q, g⟩ := rr
  refine .inr ⟨p, xs, q, fun o => ?_⟩
  have pe : Pers H1 (upd H1 p (.frz o (.lst xs))) := pers_lst q
  have fr : Frm α H (upd H1 p (.frz o (.lst xs))) := fun b ob e nb => by
   rw [upd_ne (ne_of_none e n)]
   exact F1 b ob e nb
  have old : Ext X.kx.eb.np α H α (upd H1 p (.frz o (.lst xs))) := ⟨rfl, fr, fun _ h => .inl h, fun b hb => by
   have hbp : b ≠ p := fun e => Rl.out n (e ▸ hb)
   rw [upd_ne hbp]
   obtain ⟨o', e', _⟩ := Rl1.mem hb
   exact ⟨o', e'⟩⟩
  refine fin _ m1 v _ k n1 (Rl1.at' pe (fun b hb => upd_ne fun e => Rl.out n (e ▸ hb)) (Rl.ebx.trans old)) (show Den X.kx _ (.list ds) v from ?_) fun b ob e nb => ?_
  ·simp only [Den]
   exact ⟨p, xs, ev, .inl ⟨o, upd_same⟩, g.mono pe⟩
  ·rw [upd_ne (ne_of_none e n)]
   exact F1 b ob e nb
def wNil : WA := fun m K => K [] m
def wCons (w : WE) (ws : WA) : WA := fun m K => w m fun r m1 => ws m1 fun rs m2 => K (r :: rs) m2
theorem RelRs.base {K : Kx} {α : Al} {m : MSt} {σ : St} {H0 H H' : Hp} (Rl : Rel K α m σ H) (F : Frm α H0 H) : ∀ {rs : List R} {vs : List V}, RelRs K α H H' rs vs → RelRs K α H0 H' rs vs
 | _, _, .nil => .nil
 | _, _, .cons h t => .cons (h.base Rl F) (t.base Rl F)
variable {ws : WA}
theorem ma_nil : MA X [] wNil := (pa_nil (X := X)).wk fun σ H Q ⟨α, m, Kc, Rl, hw, fin⟩ => fin _ m _ H hw rfl Rl .nil (Frm.refl _ _)
theorem ma_cons (ha : ME X a wa) (hr : MA X es ws) (hs : starEach (a :: es) X.env = (false, eval a X.env) :: starEach es X.env := by first | exact star_cons rfl | rfl) : MA X (a :: es) (wCons wa ws) := (pa_cons ha hr hs).wk fun σ H Q ⟨α, m, Kc, Rl, hw, fin⟩ =>
 ⟨α, m, _, Rl, hw, fun r m1 v H1 k n1 Rl1 rr F1 => ⟨α, m1, _, Rl1, k, fun rs m2 vs H2 k2 n2 Rl2 rr2 F2 => fin _ m2 _ H2 k2 (n2.trans n1) Rl2 (.cons (rr.keep Rl Rl1 F2) (rr2.base Rl1 F1)) (F1.trans F2)⟩⟩
def immAll : List R → Option (List PyData)
 | [] => some []
 | .imm d :: rs => (immAll rs).map (d :: ·)
 | _ :: _ => none
theorem RelRs.imm {K : Kx} {α : Al} {H0 H : Hp} : ∀ {rs : List R} {vs : List V} {ds : List PyData}, RelRs K α H0 H rs vs → immAll rs = some ds → DenAll K H ds vs
 | _, _, _, .nil, e => by cases e; exact DenAll.nil
 | _, _, ds, .cons (r := .imm d) (rs := rs) h t, e => by
  simp only [immAll] at e
  cases q : immAll rs with
  | none => rw [q] at e; cases e
  | some ds' => rw [q] at e; cases e; exact DenAll.cons h (t.imm q)
 | _, _, _, .cons (r := .obj _) h t, e => by cases e
 | _, _, _, .cons (r := .new _) h t, e => by cases e
 | _, _, _, .cons (r := .at _ _) h t, e => by cases e
 | _, _, _, .cons (r := .newT _) h t, e => by cases e
def onAll (P : List PyData → Prop) : Option (List PyData) → Prop
 | some ds => ds.length ≤ sizeLine ∧ P ds
 | none => False
def wTup (ws : WA) : WE := fun m K => ws m fun rs m' => onAll (fun ds => K (.imm (.tuple ds)) m') (immAll rs)
def wLst (ws : WA) : WE := fun m K => ws m fun rs m' => onAll (fun ds => K (.new ds) m') (immAll rs)
theorem me_tup {x1} (h : MA X es ws) : ME X (.Tuple es x1 pos) (wTup ws) := (pe_tup h).wk fun σ H Q ⟨α, m, Kc, Rl, hw, fin⟩ => by
 refine ⟨α, m, _, Rl, hw, fun rs m1 vs H1 k n1 Rl1 rr F1 => ?_⟩
 cases e : immAll rs with
 | none => rw [e] at k; exact k.elim
 | some ds =>
  rw [e] at k
  obtain ⟨hz, k⟩ := k
  have g := rr.imm e
  refine ⟨by rw [← g.length]; exact hz, fun p hp => fin _ m1 _ _ k n1 (Rl1.lay hp) (show Den X.kx _ (.tuple ds) (.ref p) from ?_) (F1.trans (frm_upd hp))⟩
  simp only [Den]
  exact ⟨p, vs, rfl, SqT.of upd_same, g.mono (pers_upd (.inl hp))⟩
theorem me_lst (h : MA X es ws) : ME X (.List es pos) (wLst ws) := (pe_lst h).wk fun σ H Q ⟨α, m, Kc, Rl, hw, fin⟩ => by
 refine ⟨α, m, _, Rl, hw, fun rs m1 vs H1 k n1 Rl1 rr F1 => ?_⟩
 cases e : immAll rs with
 | none => rw [e] at k; exact k.elim
 | some ds =>
  rw [e] at k
  obtain ⟨hz, k⟩ := k
  have g := rr.imm e
  refine ⟨by rw [← g.length]; exact hz, fun p hp => fin _ m1 _ _ k n1 (Rl1.lay hp) ((RelR.base Rl1 F1 (show RelR X.kx α H1 _ (.new ds) (.ref p) from ⟨p, vs, rfl, hp, upd_same, g.mono (pers_upd (.inl hp))⟩))) (F1.trans (frm_upd hp))⟩
abbrev WC := List R → MSt → (R → Prop) → Prop
def cM (K : Kx) (o : WC) : List V → Hp → VK → Prop := fun xs H Q => ∃ α m σ H0 rs Kc, Rel K α m σ H ∧ RelRs K α H0 H rs xs ∧ o rs m Kc ∧ ∀ r v H', Kc r → Rel K α m σ H' → RelR K α H H' r v → Frm α H H' → Q v H'
def wCB (o : WC) (ws : WA) : WE := fun m K => ws m fun rs m1 => o rs m1 fun r => K r m1
theorem cb_rd {o : WC} {σ : St} {H : Hp} {Q : VK} (h : tM X.kx (wCB o ws) σ H Q) : tCB (cM X.kx o) (tMA X.kx ws) σ H Q := by
 obtain ⟨α, m, Kc, Rl, hw, fin⟩ := h
 exact ⟨α, m, _, Rl, hw, fun rs m1 vs H1 k n1 Rl1 rr F1 => ⟨α, m1, σ, H, rs, _, Rl1, rr, k, fun r v H' k Rl' rr' F => fin r m1 v H' k n1 Rl' (rr'.base Rl1 F1) (F1.trans F)⟩⟩
theorem me_callB {id : String} {x : Str} {p : Pos} {o : WC} (hc : CallR X (.builtin id) (cM X.kx o)) (hg : Gl X x) (hm : X.mg x = none) (hv : bootBuiltins x = some (.builtin id)) (ha : MA X (a :: es) ws) (hn : x ≠ "__name__" := by decide) (hdb : (x == ("__debug__" : Str)) = false := by decide)
  (he : starEach (a :: es) X.env = (false, eval a X.env) :: starEach es X.env := by first | exact star_cons rfl | rfl) (hpl : (backTo pos (starEach es X.env)).any (·.1) = false := by rfl) : ME X (.Call (.Name x p) (a :: es) [] pos) (wCB o ws) := (pe_callB hc hg hm hv ha hn hdb he hpl).wk fun _ _ _ h => cb_rd h
theorem me_callTy {T : String} {x : Str} {p : Pos} {o : WC} (hc : CallR X (.type T) (cM X.kx o)) (hg : Gl X x) (hm : X.mg x = none) (hv : bootBuiltins x = some (.type T)) (ha : MA X (a :: es) ws) (hn : x ≠ "__name__" := by decide) (hdb : (x == ("__debug__" : Str)) = false := by decide)
  (he : starEach (a :: es) X.env = (false, eval a X.env) :: starEach es X.env := by first | exact star_cons rfl | rfl) (hpl : (backTo pos (starEach es X.env)).any (·.1) = false := by rfl) : ME X (.Call (.Name x p) (a :: es) [] pos) (wCB o ws) := (pe_callTy hc hg hm hv ha hn hdb he hpl).wk fun _ _ _ h => cb_rd h
end
inductive Ag where
 | imm (d : PyData) | own (ds : List PyData) | tr (t : PyData)
abbrev SpM := List Ag → (R → List (List PyData) → Prop) → Prop
inductive RelAs (K : Kd) (H : Hp) : List Ag → List V → Al → Prop where
 | nil : RelAs K H [] [] []
 | imm {d : PyData} {v : V} {as : List Ag} {vs : List V} {β : Al} : Den K H d v → RelAs K H as vs β → RelAs K H (.imm d :: as) (v :: vs) β
 | own {ds : List PyData} {a : Addr} {as : List Ag} {vs : List V} {β : Al} : OwnAt K H (.L a) ds → RelAs K H as vs β → RelAs K H (.own ds :: as) (.ref a :: vs) (.L a :: β)
 | tr {t : PyData} {a : Addr} {τ : List (List Nat × Addr)} {as : List Ag} {vs : List V} {β : Al} : OwnAt K H (.T τ) [t] → τ.lookup [] = some a → RelAs K H as vs β → RelAs K H (.tr t :: as) (.ref a :: vs) (.T τ :: β)
theorem RelAs.length {K : Kd} {H : Hp} : ∀ {as : List Ag} {vs : List V} {β : Al}, RelAs K H as vs β → as.length = vs.length
 | _, _, _, .nil => rfl
 | _, _, _, .imm _ t => by simp [t.length]
 | _, _, _, .own _ t => by simp [t.length]
 | _, _, _, .tr _ _ t => by simp [t.length]
structure OutsAt (K : Kd) (H : Hp) (β : Al) (outs : List (List PyData)) : Prop where
 len : outs.length = β.length
 at_ : ∀ (j : Nat) (ao : Ao) (ds : List PyData), β[j]? = some ao → outs[j]? = some ds → OwnAt K H ao ds
def spOf (K : Kd) (n : Nat) (sp : SpM) : Sp := fun vs H Q _ => ∃ as β Kc, as.length = n ∧ (ads β).Nodup ∧ RelAs K H as vs β ∧ sp as Kc ∧ ∀ r outs v H', Kc r outs → OutsAt K H' β outs → RelR K β H H' r v → Frm β H H' → Q v H'
theorem spOf.len {K : Kd} {n : Nat} {sp : SpM} {vs : List V} {H : Hp} {Q : VK} {E : XK} (h : spOf K n sp vs H Q E) : vs.length = n := by
 obtain ⟨as, β, Kc, hl, _, r, _⟩ := h
 rw [← r.length]; exact hl
def toAgs (m : MSt) : List R → Option (List Ag × List Nat)
 | [] => some ([], [])
 | .imm d :: rs => match toAgs m rs with | some (as, ks) => some (.imm d :: as, ks) | none => none
 | .obj k :: rs => match m.os[k]?, toAgs m rs with | some ds, some (as, ks) => some (.own ds :: as, k :: ks) | _, _ => none
 | .at k [] :: rs => match m.os[k]?, toAgs m rs with | some [t], some (as, ks) => some (.tr t :: as, k :: ks) | _, _ => none
 | _ :: _ => none
def setAll : List (List PyData) → List Nat → List (List PyData) → List (List PyData)
 | os, k :: ks, o :: outs => setAll (os.set k o) ks outs
 | os, _, _ => os
def mapR (ks : List Nat) : R → R
 | .imm d => .imm d
 | .new ds => .new ds
 | .obj j => .obj (ks.getD j 0)
 | .at j p => .at (ks.getD j 0) p
 | .newT t => .newT t
def wCall (sp : SpM) (ws : WA) : WE := fun m K => ws m fun rs m1 => match toAgs m1 rs with
 | some (as, ks) => ks.Nodup ∧ sp as fun r outs => K (mapR ks r) { m1 with os := setAll m1.os ks outs }
 | none => False
theorem setAll_len : ∀ (ks : List Nat) (os outs : List (List PyData)), (setAll os ks outs).length = os.length
 | [], _, _ => by simp [setAll]
 | _ :: _, _, [] => by simp [setAll]
 | k :: ks, os, o :: outs => by simp [setAll, setAll_len ks]
theorem setAll_out : ∀ (ks : List Nat) (os outs : List (List PyData)) (k : Nat), k ∉ ks → (setAll os ks outs)[k]? = os[k]?
 | [], _, _, _, _ => by simp [setAll]
 | _ :: _, _, [], _, _ => by simp [setAll]
 | k' :: ks, os, o :: outs, k, h => by
  rw [List.mem_cons] at h
  rw [not_or] at h
  show (setAll (os.set k' o) ks outs)[k]? = _
  rw [setAll_out ks _ _ k h.2, List.getElem?_set_ne (Ne.symm h.1)]
theorem setAll_in : ∀ (ks : List Nat) (os outs : List (List PyData)) (j k : Nat) (ds : List PyData), ks.Nodup → ks[j]? = some k → outs[j]? = some ds → k < os.length → (setAll os ks outs)[k]? = some ds
 | [], _, _, _, _, _, _, h, _, _ => by simp at h
 | _ :: _, _, [], _, _, _, _, _, h, _ => by simp at h
 | k' :: ks, os, o :: outs, 0, k, ds, nd, h1, h2, hk => by
  simp at h1 h2; subst h1; subst h2
  show (setAll (os.set k' o) ks outs)[k']? = _
  rw [setAll_out ks _ _ k' (List.nodup_cons.mp nd).1, List.getElem?_set_self hk]
 | k' :: ks, os, o :: outs, j + 1, k, ds, nd, h1, h2, hk => by
  exact setAll_in ks (os.set k' o) outs j k ds (List.nodup_cons.mp nd).2 (by simpa using h1) (by simpa using h2) (by simpa using hk)
theorem ads_iff (α : Al) : (ads α).Nodup ↔ (∀ ao ∈ α, ao.ads.Nodup) ∧ α.Pairwise fun x y => ∀ a ∈ x.ads, ∀ b ∈ y.ads, a ≠ b := List.pairwise_flatMap
theorem ads_disj {α : Al} (nd : (ads α).Nodup) {i j : Nat} {x y : Ao} (hi : α[i]? = some x) (hj : α[j]? = some y) (h : i ≠ j) {a : Addr} (hx : a ∈ x.ads) (hy : a ∈ y.ads) : False := by
 have pw := ((ads_iff α).mp nd).2
 obtain ⟨p1, q1⟩ := List.getElem?_eq_some_iff.mp hi
 obtain ⟨p2, q2⟩ := List.getElem?_eq_some_iff.mp hj
 subst q1 q2
 rcases Nat.lt_or_gt_of_ne h with l | l
 ·exact List.pairwise_iff_getElem.mp pw i j p1 p2 l a hx a hy rfl
 ·exact List.pairwise_iff_getElem.mp pw j i p2 p1 l a hy a hx rfl
theorem ads_in {α : Al} {i : Nat} {x : Ao} (hi : α[i]? = some x) {a : Addr} (h : a ∈ x.ads) : a ∈ ads α := List.mem_flatMap.mpr ⟨x, List.mem_of_getElem? hi, h⟩
theorem ads_at {α : Al} {a : Addr} (h : a ∈ ads α) : ∃ (i : Nat) (x : Ao), α[i]? = some x ∧ a ∈ x.ads := by
 obtain ⟨ao, h1, h2⟩ := List.mem_flatMap.mp h
 obtain ⟨k, hk, e⟩ := List.mem_iff_getElem.mp h1
 exact ⟨k, ao, by rw [List.getElem?_eq_getElem hk, e], h2⟩
section
variable {K : Kx} {α : Al} {m : MSt} {σ : St} {H H0 H' : Hp}
theorem toAgs_rel (Rl : Rel K α m σ H) : ∀ {rs : List R} {vs : List V} {as : List Ag} {ks : List Nat}, RelRs K α H0 H rs vs → toAgs m rs = some (as, ks) → ∃ β, RelAs K H as vs β ∧ Paired (fun (k : Nat) (ao : Ao) => α[k]? = some ao) ks β
 | _, _, _, _, .nil, e => by cases e; exact ⟨[], .nil, .nil⟩
 | _, _, as, ks, .cons (r := .imm d) (rs := rs) h t, e => by
  simp only [toAgs] at e
  cases q : toAgs m rs with
  | none => rw [q] at e; cases e
  | some p =>
   obtain ⟨as', ks'⟩ := p
   rw [q] at e; cases e
   obtain ⟨β, h1, h2⟩ := toAgs_rel Rl t q
   exact ⟨β, .imm h h1, h2⟩
 | _, _, as, ks, .cons (r := .obj k) (rs := rs) h t, e => by
  simp only [toAgs] at e
  cases q1 : m.os[k]? with
  | none => rw [q1] at e; cases e
  | some ds =>
   cases q : toAgs m rs with
   | none => rw [q1, q] at e; cases e
   | some p =>
    obtain ⟨as', ks'⟩ := p
    rw [q1, q] at e; cases e
    obtain ⟨β, h1, h2⟩ := toAgs_rel Rl t q
    obtain ⟨a, ea, rfl⟩ := h
    exact ⟨.L a :: β, .own (Rl.own k _ ds ea q1) h1, .cons ea h2⟩
 | _, _, as, ks, .cons (r := .at k []) (rs := rs) h t, e => by
  simp only [toAgs] at e
  split at e
  ·rename_i t' as' ks' q1 q
   cases e
   obtain ⟨β, h1, h2⟩ := toAgs_rel Rl t q
   obtain ⟨τ, a, ea, el, rfl⟩ := h
   exact ⟨.T τ :: β, .tr (Rl.own k _ _ ea q1) el h1, .cons ea h2⟩
  ·cases e
 | _, _, _, _, .cons (r := .at _ (_ :: _)) h t, e => by cases e
 | _, _, _, _, .cons (r := .new _) h t, e => by cases e
 | _, _, _, _, .cons (r := .newT _) h t, e => by cases e
theorem paired_nodup (nd : (ads α).Nodup) {ks : List Nat} {β : Al} (h : ks.Nodup) (p : Paired (fun (k : Nat) (ao : Ao) => α[k]? = some ao) ks β) : (ads β).Nodup := by
 have one := ((ads_iff α).mp nd).1
 induction p with
 | nil => exact List.nodup_nil
 | @cons k ao ks β e t ih =>
  have ih' := ih (List.nodup_cons.mp h).2
  rw [ads_iff] at ih' ⊢
  refine ⟨fun x hx => ?_, List.pairwise_cons.mpr ⟨fun y hy a ha b hb z => ?_, ih'.2⟩⟩
  ·rcases List.mem_cons.mp hx with rfl | hx
   ·exact one _ (List.mem_of_getElem? e)
   ·exact ih'.1 x hx
  ·subst z
   obtain ⟨j, hj, ej⟩ := List.mem_iff_getElem.mp hy
   obtain ⟨k', e1, e2⟩ := Paired.get2 t (i := j) (b := y) (by rw [List.getElem?_eq_getElem hj, ej])
   have ek : k = k' := Classical.byContradiction fun ne => ads_disj nd e e2 ne ha hb
   exact (List.nodup_cons.mp h).1 (ek ▸ List.mem_of_getElem? e1)
theorem call_rel (Rl : Rel K α m σ H) {ks : List Nat} {β : Al} {outs : List (List PyData)} (nd : ks.Nodup) (p : Paired (fun (k : Nat) (ao : Ao) => α[k]? = some ao) ks β) (O : OutsAt K H' β outs) (F : Frm β H H') :
  Rel K α { m with os := setAll m.os ks outs } σ H' ∧ Frm α H H' := by
 have sub : ∀ a ∈ ads β, ∃ k ao, k ∈ ks ∧ α[k]? = some ao ∧ a ∈ ao.ads := fun a ha => by
  obtain ⟨j, ao, ej, hm⟩ := ads_at ha
  obtain ⟨k', e1, e2⟩ := Paired.get2 p ej
  exact ⟨k', ao, List.mem_of_getElem? e1, e2, hm⟩
 have Fα : Frm α H H' := fun b o e n => F b o e fun z => by
  obtain ⟨k, ao, _, e2, hm⟩ := sub b z
  exact n (ads_in e2 hm)
 have pe := Rl.pers Fα
 have own' : ∀ (k : Nat) (ao : Ao) (ds : List PyData), α[k]? = some ao → (setAll m.os ks outs)[k]? = some ds → OwnAt K H' ao ds := fun k ao ds e1 e2' => by
  have hk : k < m.os.length := by rw [← Rl.len]; exact (List.getElem?_eq_some_iff.mp e1).1
  by_cases hm : k ∈ ks
  ·obtain ⟨j, hj, ej⟩ := List.mem_iff_getElem.mp hm
   have z1 : ks[j]? = some k := by rw [List.getElem?_eq_getElem hj, ej]
   obtain ⟨a', z2, z3⟩ := Paired.get' p z1
   rw [e1] at z3; cases z3
   have hj2 : j < outs.length := by rw [O.len]; exact (List.getElem?_eq_some_iff.mp z2).1
   have z4 : outs[j]? = some outs[j] := List.getElem?_eq_getElem hj2
   rw [setAll_in ks m.os outs j k _ nd z1 z4 hk] at e2'
   cases e2'
   exact O.at_ j _ _ z2 z4
  ·rw [setAll_out ks _ _ k hm] at e2'
   have q := Rl.own k ao ds e1 e2'
   refine q.mono pe fun a ha => ?_
   obtain ⟨o, eo, _⟩ := q.mem ha
   rw [eo]
   refine F a o eo fun z => ?_
   obtain ⟨k2, ao2, hk2, e3, hm2⟩ := sub a z
   exact ads_disj Rl.nd e1 e3 (fun z => hm (z ▸ hk2)) ha hm2
 refine ⟨⟨Rl.nd, by show α.length = (setAll m.os ks outs).length; rw [setAll_len]; exact Rl.len, own', Rl.vlen, fun i r h => ?_, Rl.npl, Rl.ebl, Rl.ebx.trans ⟨rfl, Fα, fun _ h => .inl h, fun a ha => ?_⟩⟩, Fα⟩
 ·obtain ⟨v, ev, rv⟩ := Rl.var i r h
  refine ⟨v, ev, ?_⟩
  cases r with
  | imm d => exact Den.mono pe rv
  | obj k => exact rv
  | «at» k p => exact rv
  | new ds => exact rv
  | newT t => exact rv
 ·obtain ⟨k, ao, e1, hm⟩ := ads_at ha
  have hk : k < (setAll m.os ks outs).length := by rw [setAll_len, ← Rl.len]; exact (List.getElem?_eq_some_iff.mp e1).1
  obtain ⟨o, q, _⟩ := (own' k ao _ e1 (List.getElem?_eq_getElem hk)).mem hm
  exact ⟨o, q⟩
theorem call_res {K : Kd} {ks : List Nat} {β : Al} {r : R} {v : V} (p : Paired (fun (k : Nat) (ao : Ao) => α[k]? = some ao) ks β) (h : RelR K β H H' r v) : RelR K α H H' (mapR ks r) v := by
 have get : ∀ {j : Nat} {ao : Ao}, β[j]? = some ao → α[ks.getD j 0]? = some ao := fun {j ao} ea => by
  obtain ⟨k, z1, z2⟩ := Paired.get2 p ea
  rw [List.getD_eq_getElem?_getD, z1]
  exact z2
 cases r with
 | imm d => exact h
 | new ds => exact h
 | newT t => exact h
 | obj j =>
  obtain ⟨a, ea, e⟩ := h
  exact ⟨a, get ea, e⟩
 | «at» j q =>
  obtain ⟨τ, a, ea, el, e⟩ := h
  exact ⟨τ, a, get ea, el, e⟩
end
section
variable {X : Cx} {a : Expr} {es : List Expr} {ws : WA} {pos p : Pos} {k n : Nat} {f : Addr} {fd : FuncData} {ps : List Str} {sp : SpM} {x : Str} {CX : CXT}
theorem call_rd {E : XK} {σ : St} {H : Hp} {Q : VK} (h : tM X.kx (wCall sp ws) σ H Q) (hn : ∀ as Kc, sp as Kc → as.length = n) : tCall (spOf X.kd n sp) [] E (tMA X.kx ws) σ H Q := by
 obtain ⟨α, m, Kc, Rl, hw, fin⟩ := h
 refine ⟨α, m, _, Rl, hw, fun rs m1 vs H1 kk n1 Rl1 rr F1 => ?_⟩
 cases e : toAgs m1 rs with
 | none => rw [e] at kk; exact kk.elim
 | some q =>
  obtain ⟨as, ks⟩ := q
  rw [e] at kk
  obtain ⟨nd, hsp⟩ := kk
  obtain ⟨β, ra, pa⟩ := toAgs_rel Rl1 rr e
  refine ⟨as, β, _, hn _ _ hsp, paired_nodup Rl1.nd nd pa, by rw [List.append_nil]; exact ra, hsp, fun r outs v H' kk2 O rr2 F => ?_⟩
  obtain ⟨Rl2, F2⟩ := call_rel Rl1 nd pa O F
  exact fin _ _ v H' kk2 n1 Rl2 ((call_res pa rr2).base Rl1 F1) (F1.trans F2)
theorem me_call {E : XK} (F : FnOk X.prog X.w X.K X.mg X.base CX k f fd ps (spOf X.kd n sp)) (hr : Room k X.A) (hg : Gl X x) (hm : X.mg x = some (.ref f)) (hk : PySem.W.keepIn X.K (.ref f) = true) (hb : Binds X.K fd ps []) (hx : Passes CX X E) (hn : ∀ as Kc, sp as Kc → as.length = n)
  (ha : MA X (a :: es) ws) (hdb : (x == ("__debug__" : Str)) = false := by decide) (he : starEach (a :: es) X.env = (false, eval a X.env) :: starEach es X.env := by first | exact star_cons rfl | rfl) (hpl : (backTo pos (starEach es X.env)).any (·.1) = false := by rfl) :
  ME X (.Call (.Name x p) (a :: es) [] pos) (wCall sp ws) := (pe_call (E := E) F hr hg hm hk hb .nil hx ha hdb he hpl).wk fun _ _ _ h => call_rd h hn
end
structure MEnds where
 nx : MSt → Prop
 rt : R → MSt → Prop
 bk : MSt → Prop := fun _ => False
 ct : MSt → Prop := fun _ => False
abbrev WS := MEnds → MSt → Prop
theorem RelR.ext {K : Kd} {np : Nat} {α α1 α2 : Al} {H H1 H2 : Hp} {r : R} {v : V} (x : Ext np α H α1 H1) (h : RelR K α2 H1 H2 r v) : RelR K α2 H H2 r v := by
 cases r with
 | imm d => exact h
 | obj k => exact h
 | «at» k p => exact h
 | new ds =>
  obtain ⟨a, xs, e, n, q, g⟩ := h
  exact ⟨a, xs, e, x.nil n, q, g⟩
 | newT t =>
  obtain ⟨τ, a, e, e1, nd, n, g⟩ := h
  exact ⟨τ, a, e, e1, nd, fun b hb => x.nil (n b hb), g⟩
structure EndsOk (K : Kx) (np : Nat) (α : Al) (H : Hp) (De : MEnds) (D : Ends) : Prop where
 nx : ∀ α' m' σ' H', De.nx m' → m'.np = np → Rel K α' m' σ' H' → Ext np α H α' H' → D.nx σ' H'
 rt : ∀ r α' m' σ' v H', De.rt r m' → m'.np = np → Rel K α' m' σ' H' → RelR K α' H H' r v → Ext np α H α' H' → D.rt v H'
 bk : ∀ α' m' σ' H', De.bk m' → m'.np = np → Rel K α' m' σ' H' → Ext np α H α' H' → D.bk σ' H'
 ct : ∀ α' m' σ' H', De.ct m' → m'.np = np → Rel K α' m' σ' H' → Ext np α H α' H' → D.ct σ' H'
theorem EndsOk.ext {K : Kx} {np : Nat} {α α1 : Al} {H H1 : Hp} {De : MEnds} {D : Ends} (h : EndsOk K np α H De D) (x : Ext np α H α1 H1) : EndsOk K np α1 H1 De D where
 nx := fun α' m' σ' H' k n R y => h.nx α' m' σ' H' k n R (x.trans y)
 rt := fun r α' m' σ' v H' k n R rr y => h.rt r α' m' σ' v H' k n R (rr.ext x) (x.trans y)
 bk := fun α' m' σ' H' k n R y => h.bk α' m' σ' H' k n R (x.trans y)
 ct := fun α' m' σ' H' k n R y => h.ct α' m' σ' H' k n R (x.trans y)
def tMS (K : Kx) (w : WS) : TS := fun D σ H => ∃ α m De, Rel K α m σ H ∧ w De m ∧ EndsOk K m.np α H De D
abbrev MS (X : Cx) (st : Stmt) (w : WS) : Prop := PS X st (tMS X.kx w)
abbrev MSs (X : Cx) (st : List Stmt) (w : WS) : Prop := PSs X st (tMS X.kx w)
section
variable {X : Cx} {a b c e : Expr} {es : List Expr} {wa wb wc we : WE} {pos : Pos} {st : Stmt} {rest : List Stmt} {w u : WS}
def wNext : WS := fun D m => D.nx m
def wSeq (w u : WS) : WS := fun D m => w { D with nx := fun m' => u D m' } m
theorem mss_nil : MSs X [] wNext := (pss_nil (X := X)).wk fun D σ H ⟨α, m, De, Rl, hw, k⟩ => k.nx α m σ H hw rfl Rl (.of Rl (Frm.refl _ _))
theorem mss_cons (h1 : MS X st w) (h2 : MSs X rest u) : MSs X (st :: rest) (wSeq w u) := (pss_cons h1 h2).wk fun D σ H ⟨α, m, De, Rl, hw, k⟩ =>
 ⟨α, m, _, Rl, hw, ⟨fun α' m' σ' H' q n R y => ⟨α', m', De, R, q, by rw [n]; exact k.ext y⟩, k.rt, k.bk, k.ct⟩⟩
theorem mss_one (h1 : MS X st w) : MSs X [st] w := (pss_one h1).wk fun D σ H h => h
end
section
variable {X : Cx} {a b c e : Expr} {es : List Expr} {wa wb wc we : WE} {ws : WA} {wt : WT} {pos : Pos} {st : Stmt} {rest body body2 : List Stmt} {w u : WS}
def wRet (we : WE) : WS := fun D m => we m fun r m' => D.rt r m'
theorem ms_ret (he : ME X e we) : MS X (.Return (some e) pos) (wRet we) := (ps_ret he).wk fun D σ H ⟨α, m, De, Rl, hw, k⟩ =>
 ⟨α, m, _, Rl, hw, fun r m' v H' q n Rl' rr F => k.rt r α m' σ v H' q n Rl' rr (.of Rl' F)⟩
def wDrop (we : WE) : WS := fun D m => we m fun _ m' => D.nx m'
theorem ms_expr (he : ME X e we) (hs : swapsWith e none pos.line X.env = pure false := by rfl) : MS X (.Expr e pos) (wDrop we) := (ps_expr he hs).wk fun D σ H ⟨α, m, De, Rl, hw, k⟩ =>
 ⟨α, m, _, Rl, hw, fun r m' v H' q n Rl' rr F => k.nx α m' σ H' q n Rl' (.of Rl' F)⟩
def wIfS (t : WT) (w u : WS) : WS := fun D m => t m fun c m' => if c = true then w D m' else u D m'
theorem ms_if {t : Expr} (ht : MT X t wt) (h1 : MSs X body w) (h2 : MSs X body2 u) : MS X (.If t body body2 pos) (wIfS wt w u) := (ps_if ht h1 h2).wk fun D σ H ⟨α, m, De, Rl, hw, k⟩ => by
 refine ⟨α, m, _, Rl, hw, fun bb m' H' q n Rl' F => ?_⟩
 have k' : EndsOk X.kx m'.np α H' De D := by rw [n]; exact k.ext (.of Rl' F)
 cases bb with
 | true => rw [if_pos rfl] at q; exact iteT ⟨α, m', De, Rl', q, k'⟩
 | false => rw [if_neg Bool.false_ne_true] at q; exact iteF ⟨α, m', De, Rl', q, k'⟩
def wNever : WS := fun _ _ => False
theorem ms_never : MS X st wNever := (ps_never (X := X)).wk fun D σ H ⟨α, m, De, Rl, hw, k⟩ => hw
def MSt.setV (m : MSt) (i : Nat) (r : R) : MSt := { m with vs := m.vs.set i (some r) }
def RenR (ρ : List Nat) (o : Option (Option R)) : R → Prop
 | .imm d => o = some (some (.imm d))
 | .obj k => ∃ j, ρ[k]? = some j ∧ o = some (some (.obj j))
 | .at k p => ∃ j, ρ[k]? = some j ∧ o = some (some (.at j p))
 | .new _ => False
 | .newT _ => False
structure Ren (ρ : List Nat) (m m2 : MSt) : Prop where
 nd : ρ.Nodup
 lt : ∀ k ∈ ρ, k < m.os.length
 pre : ρ.take m.np = List.range m.np
 npl : m.np ≤ ρ.length
 os : m2.os = ρ.map fun k => m.os.getD k []
 np : m2.np = m.np
 vl : m2.vs.length = m.vs.length
 vs : ∀ (j : Nat) (r : R), m2.vs[j]? = some (some r) → RenR ρ m.vs[j]? r
def upR (D : MSt → Prop) (m : MSt) : Prop := D m ∨ ∃ ρ m2, Ren ρ m m2 ∧ D m2
def bindR (i : Nat) (D : MSt → Prop) (m : MSt) : R → Prop
 | .imm d => upR D (m.setV i (.imm d))
 | .obj k => upR D (m.setV i (.obj k))
 | .at k p => upR D (m.setV i (.at k p))
 | .new ds => upR D { vs := m.vs.set i (some (.obj m.os.length)), os := m.os ++ [ds], np := m.np } ∨
   ∃ k, m.vs[i]? = some (some (.obj k)) ∧ m.np ≤ k ∧ (∀ j : Nat, j ≠ i → m.vs[j]? ≠ some (some (.obj k))) ∧ D { m with os := m.os.set k ds }
 | .newT t => upR D { vs := m.vs.set i (some (.at m.os.length [])), os := m.os ++ [[t]], np := m.np }
theorem paired_ren {α : Al} {n : Nat} (hl : α.length = n) : ∀ {ρ : List Nat}, (∀ k ∈ ρ, k < n) → Paired (fun (k : Nat) (ao : Ao) => α[k]? = some ao) ρ (ρ.map fun k => α.getD k (.L 0))
 | [], _ => .nil
 | k :: ρ, h => .cons (by
   have hk : k < α.length := by rw [hl]; exact h k List.mem_cons_self
   show α[k]? = some (α.getD k (.L 0))
   rw [List.getD_eq_getElem?_getD, List.getElem?_eq_getElem hk]; rfl) (paired_ren hl fun j hj => h j (List.mem_cons_of_mem _ hj))
theorem ren_rel {K : Kx} {α : Al} {m m2 : MSt} {σ : St} {H : Hp} {ρ : List Nat} (Rl : Rel K α m σ H) (N : Ren ρ m m2) : ∃ α2, Rel K α2 m2 σ H ∧ Ext m.np α H α2 H := by
 have pr := paired_ren Rl.len N.lt
 have get : ∀ (k : Nat) (ao : Ao), (ρ.map fun k => α.getD k (.L 0))[k]? = some ao → ∃ j : Nat, ρ[k]? = some j ∧ α[j]? = some ao := fun k ao z => by
  obtain ⟨j, h1, h2⟩ := Paired.get2 pr z
  exact ⟨j, h1, h2⟩
 have fwd : ∀ (k j : Nat) (ao : Ao), ρ[k]? = some j → α[j]? = some ao → (ρ.map fun k => α.getD k (.L 0))[k]? = some ao := fun k j ao z1 z2 => by
  obtain ⟨ao', z3, z4⟩ := Paired.get' pr z1
  rw [z2] at z4; cases z4
  exact z3
 have pre' : (ρ.map fun k => α.getD k (.L 0)).take m.np = α.take m.np := by
  apply List.ext_getElem?
  intro l
  rw [List.getElem?_take, List.getElem?_take]
  by_cases hl : l < m.np
  ·rw [if_pos hl, if_pos hl]
   have : ρ[l]? = some l := by
    have e := congrArg (·[l]?) N.pre
    simp only [List.getElem?_take, if_pos hl] at e
    rw [e, List.getElem?_range hl]
   have hl2 : l < α.length := Nat.lt_of_lt_of_le hl Rl.npl
   rw [fwd l l α[l] this (List.getElem?_eq_getElem hl2), List.getElem?_eq_getElem hl2]
  ·rw [if_neg hl, if_neg hl]
 have ext : Ext m.np α H (ρ.map fun k => α.getD k (.L 0)) H := ⟨pre', Frm.refl _ _, fun a ha => by
  obtain ⟨k, ao, e1, hm⟩ := ads_at ha
  obtain ⟨j, _, e2⟩ := get k ao e1
  exact .inl (ads_in e2 hm), fun a ha => by
  obtain ⟨o, q, _⟩ := Rl.mem ha
  exact ⟨_, q⟩⟩
 refine ⟨ρ.map fun k => α.getD k (.L 0), ⟨paired_nodup Rl.nd N.nd pr, ?_, fun k ao ds z1 z2 => ?_, ?_, fun j r z => ?_, ?_, by rw [N.np]; exact Rl.ebl, Rl.ebx.trans (ext.less Rl.ebl)⟩, ext⟩
 ·rw [N.os, List.length_map, List.length_map]
 ·obtain ⟨j, q, qa⟩ := get k ao z1
  rw [N.os, List.getElem?_map, q] at z2
  have hj : j < m.os.length := N.lt j (List.mem_of_getElem? q)
  have z2' : m.os.getD j [] = ds := Option.some.inj z2
  refine Rl.own j ao ds qa ?_
  rw [← z2', List.getD_eq_getElem?_getD, List.getElem?_eq_getElem hj]; rfl
 ·rw [N.vl]; exact Rl.vlen
 ·have h := N.vs j r z
  cases r with
  | imm d => exact Rl.var j (.imm d) h
  | new _ => exact h.elim
  | newT _ => exact h.elim
  | obj k =>
   obtain ⟨j', q, h⟩ := h
   obtain ⟨v, ev, a, ea, e⟩ := Rl.var j (.obj j') h
   exact ⟨v, ev, a, fwd k j' _ q ea, e⟩
  | «at» k p =>
   obtain ⟨j', q, h⟩ := h
   obtain ⟨v, ev, τ, a, ea, el, e⟩ := Rl.var j (.at j' p) h
   exact ⟨v, ev, τ, a, fwd k j' _ q ea, el, e⟩
 ·rw [N.np, List.length_map]; exact N.npl
def wSet (i : Nat) (we : WE) : WS := fun D m => we m fun r m' => bindR i D.nx m' r
theorem rel_setV {K : Kx} {α : Al} {m : MSt} {σ : St} {H : Hp} {i : Nat} {r : R} {v : V} (Rl : Rel K α m σ H) (h : RelS K α H r v) : Rel K α (m.setV i r) (σ.set i (some v)) H := by
 refine ⟨Rl.nd, Rl.len, Rl.own, ?_, fun j r' e => ?_, Rl.npl, Rl.ebl, Rl.ebx⟩
 ·show (σ.set i (some v)).length = (m.vs.set i (some r)).length
  rw [List.length_set, List.length_set]; exact Rl.vlen
 ·have e' : (m.vs.set i (some r))[j]? = some (some r') := e
  by_cases hj : i = j
  ·subst hj
   by_cases hi : i < m.vs.length
   ·rw [List.getElem?_set_self hi] at e'
    cases e'
    exact ⟨v, List.getElem?_set_self (by rw [Rl.vlen]; exact hi), h⟩
   ·rw [List.getElem?_eq_none (by rw [List.length_set]; omega)] at e'; cases e'
  ·rw [List.getElem?_set_ne hj] at e' ⊢
   exact Rl.var j r' e'
theorem rel_more {K : Kx} {α : Al} {m : MSt} {σ : St} {H0 H : Hp} {ao : Ao} {ds : List PyData} (Rl : Rel K α m σ H) (R0 : ∃ m0 σ0, Rel K α m0 σ0 H0) (F : Frm α H0 H) (nd : ao.ads.Nodup) (hn : ∀ b ∈ ao.ads, H0 b = none) (g : OwnAt K H ao ds) :
  Rel K (α ++ [ao]) { m with os := m.os ++ [ds] } σ H ∧ ∀ np, np ≤ α.length → Ext np α H0 (α ++ [ao]) H := by
 obtain ⟨m0, σ0, Rl0⟩ := R0
 have pα : ∀ b ∈ ao.ads, b ∉ ads α := fun b hb => Rl0.out (hn b hb)
 have one : ads [ao] = ao.ads := by simp [ads]
 have ext : ∀ np, np ≤ α.length → Ext np α H0 (α ++ [ao]) H := fun np hnp => ⟨by rw [List.take_append_of_le_length hnp], F, fun a ha => by
  rw [ads_append, one] at ha
  rcases List.mem_append.mp ha with z | z
  ·exact .inl z
  ·exact .inr (hn a z), fun a ha => by
  obtain ⟨o, q, _⟩ := Rl.mem ha
  exact ⟨_, q⟩⟩
 refine ⟨⟨?_, by simp [Rl.len], fun k a es z1 z2 => ?_, Rl.vlen, fun j r' z => ?_, by have := Rl.npl; show m.np ≤ (α ++ [ao]).length; rw [List.length_append]; omega, Rl.ebl, Rl0.ebx.trans (ext _ ?_)⟩, ext⟩
 ·rw [ads_append, one]
  exact List.nodup_append.mpr ⟨Rl.nd, nd, fun x hx y hy e => pα y hy (e ▸ hx)⟩
 ·have z2' : (m.os ++ [ds])[k]? = some es := z2
  by_cases hk : k < α.length
  ·rw [List.getElem?_append_left hk] at z1
   rw [List.getElem?_append_left (by rw [← Rl.len]; exact hk)] at z2'
   exact Rl.own k a es z1 z2'
  ·rw [List.getElem?_append_right (by omega)] at z1
   rw [List.getElem?_append_right (by rw [← Rl.len]; omega)] at z2'
   have hk0 : k - α.length = 0 := by
    have := (List.getElem?_eq_some_iff.mp z1).1
    simp at this; omega
   rw [hk0] at z1
   rw [← Rl.len, hk0] at z2'
   simp at z1 z2'
   subst z1; subst z2'
   exact g
 ·obtain ⟨v, ev, rv⟩ := Rl.var j r' z
  refine ⟨v, ev, ?_⟩
  cases r' with
  | imm d => exact rv
  | new _ => exact rv
  | newT _ => exact rv
  | obj k =>
   obtain ⟨a, ea, e⟩ := rv
   exact ⟨a, by rw [List.getElem?_append_left (List.getElem?_eq_some_iff.mp ea).1]; exact ea, e⟩
  | «at» k p =>
   obtain ⟨τ, a, ea, e⟩ := rv
   exact ⟨τ, a, by rw [List.getElem?_append_left (List.getElem?_eq_some_iff.mp ea).1]; exact ea, e⟩
 ·exact Nat.le_trans Rl.ebl Rl.npl
theorem bind_rd {K : Kx} {α : Al} {m : MSt} {σ : St} {H0 H : Hp} {i : Nat} {r : R} {v : V} {P : MSt → Prop} {Q : St → Hp → Prop} {np : Nat} (Rl : Rel K α m σ H) (n : m.np = np) (F : Frm α H0 H) (h : RelR K α H0 H r v) (q : bindR i P m r)
  (k : ∀ α' m' σ' H', P m' → m'.np = np → Rel K α' m' σ' H' → Ext np α H0 α' H' → Q σ' H') (R0 : ∃ m0 σ0, Rel K α m0 σ0 H0) : Q (σ.set i (some v)) H := by
 have up : ∀ α' m' σ' H', upR P m' → m'.np = np → Rel K α' m' σ' H' → Ext np α H0 α' H' → Q σ' H' := fun α' m' σ' H' q n R x => by
  rcases q with q | ⟨ρ, m2, N, q⟩
  ·exact k α' m' σ' H' q n R x
  ·obtain ⟨α2, R2, x2⟩ := ren_rel R N
   rw [n] at x2
   exact k α2 m2 σ' H' q (N.np.trans n) R2 (x.trans x2)
 have npα : np ≤ α.length := by rw [← n]; exact Rl.npl
 cases r with
 | imm d => exact up α _ _ H q n (rel_setV Rl (r := .imm d) h) (.of (rel_setV (i := i) Rl (r := .imm d) h) F)
 | obj j => exact up α _ _ H q n (rel_setV Rl (r := .obj j) h) (.of (rel_setV (i := i) Rl (r := .obj j) h) F)
 | «at» j p => exact up α _ _ H q n (rel_setV Rl (r := .at j p) h) (.of (rel_setV (i := i) Rl (r := .at j p) h) F)
 | newT t =>
  obtain ⟨τ, p, rfl, el, nd, hn, g⟩ := h
  obtain ⟨base, ext⟩ := rel_more Rl R0 F (ao := .T τ) nd hn g
  exact up (α ++ [.T τ]) _ _ H q n (rel_setV base (r := .at m.os.length []) ⟨τ, p, by rw [List.getElem?_append_right (by rw [Rl.len]; exact Nat.le_refl _), ← Rl.len]; simp, el, rfl⟩) (ext np npα)
 | new ds =>
  obtain ⟨p, xs, rfl, hn, hp, g⟩ := h
  have R0' := R0
  obtain ⟨m0, σ0, Rl0⟩ := R0'
  have pα : p ∉ ads α := Rl0.out hn
  rcases q with q | ⟨j, e1, e2, e3, q⟩
  ·
   obtain ⟨base, ext⟩ := rel_more Rl R0 F (ao := .L p) (by simp [Ao.ads]) (fun b hb => by cases List.mem_singleton.mp hb; exact hn) ⟨xs, hp, g⟩
   exact up (α ++ [.L p]) _ _ H q n (rel_setV base (r := .obj m.os.length) ⟨p, by rw [List.getElem?_append_right (by rw [Rl.len]; exact Nat.le_refl _), ← Rl.len]; simp, rfl⟩) (ext np npα)
  ·
   obtain ⟨aj, eaj⟩ : ∃ aj, α[j]? = some (.L aj) := by
    obtain ⟨v, _, a, ea, _⟩ := Rl.var i _ e1
    exact ⟨a, ea⟩
   have hj : j < α.length := (List.getElem?_eq_some_iff.mp eaj).1
   have hi : i < m.vs.length := (List.getElem?_eq_some_iff.mp e1).1
   have ndS : (ads (α.set j (.L p))).Nodup := by
    have z := (ads_iff α).mp Rl.nd
    rw [ads_iff]
    refine ⟨fun ao ha => ?_, List.pairwise_iff_getElem.mpr fun i1 i2 h1 h2 hlt a ha b hb e => ?_⟩
    ·rcases List.mem_or_eq_of_mem_set ha with y | y
     ·exact z.1 ao y
     ·subst y; simp [Ao.ads]
    ·subst e
     rw [List.length_set] at h1 h2
     have mem : ∀ (l : Nat) (hl : l < α.length), a ∈ (α[l]).ads → a ∈ ads α := fun l hl h => ads_in (List.getElem?_eq_getElem hl) h
     by_cases c1 : j = i1
     ·subst c1
      rw [List.getElem_set_self] at ha
      rw [List.getElem_set_ne (by omega)] at hb
      cases List.mem_singleton.mp ha
      exact pα (mem i2 h2 hb)
     ·rw [List.getElem_set_ne c1] at ha
      by_cases c2 : j = i2
      ·subst c2
       rw [List.getElem_set_self] at hb
       cases List.mem_singleton.mp hb
       exact pα (mem i1 h1 ha)
      ·rw [List.getElem_set_ne c2] at hb
       exact ads_disj Rl.nd (List.getElem?_eq_getElem h1) (List.getElem?_eq_getElem h2) (Nat.ne_of_lt hlt) ha hb
   have ext : Ext np α H0 (α.set j (.L p)) H := by
    refine ⟨?_, F, fun a ha => ?_, fun a ha => ?_⟩
    ·apply List.ext_getElem?
     intro l
     rw [List.getElem?_take, List.getElem?_take]
     by_cases hl : l < np
     ·rw [if_pos hl, if_pos hl, List.getElem?_set_ne (by omega)]
     ·rw [if_neg hl, if_neg hl]
    ·obtain ⟨l, ao, el, hm⟩ := ads_at ha
     by_cases c1 : j = l
     ·subst c1
      rw [List.getElem?_set_self hj] at el
      cases el
      cases List.mem_singleton.mp hm
      exact .inr hn
     ·rw [List.getElem?_set_ne c1] at el
      exact .inl (ads_in el hm)
    ·obtain ⟨o, q, _⟩ := Rl.mem ha
     exact ⟨_, q⟩
   have Rl' : Rel K (α.set j (.L p)) { m with os := m.os.set j ds } (σ.set i (some (.ref p))) H := by
    refine ⟨ndS, by simp [Rl.len], fun k a es z1 z2 => ?_, by rw [List.length_set]; exact Rl.vlen, fun l r' z => ?_, by rw [List.length_set]; exact Rl.npl, Rl.ebl, Rl0.ebx.trans (ext.less (by have := Rl.ebl; omega))⟩
    ·have z2' : (m.os.set j ds)[k]? = some es := z2
     by_cases c1 : j = k
     ·subst c1
      rw [List.getElem?_set_self hj] at z1
      rw [List.getElem?_set_self (by rw [← Rl.len]; exact hj)] at z2'
      cases z1; cases z2'
      exact ⟨xs, hp, g⟩
     ·rw [List.getElem?_set_ne c1] at z1 z2'
      exact Rl.own k a es z1 z2'
    ·have z' : m.vs[l]? = some (some r') := z
     by_cases hl : i = l
     ·subst hl
      rw [e1] at z'
      cases z'
      exact ⟨.ref p, List.getElem?_set_self (by rw [Rl.vlen]; exact hi), p, List.getElem?_set_self hj, rfl⟩
     ·obtain ⟨v, ev, rv⟩ := Rl.var l r' z'
      refine ⟨v, by rw [List.getElem?_set_ne hl]; exact ev, ?_⟩
      cases r' with
      | imm d => exact rv
      | new _ => exact rv
      | newT _ => exact rv
      | obj k =>
       obtain ⟨a, ea, e⟩ := rv
       refine ⟨a, ?_, e⟩
       rw [List.getElem?_set_ne]
       ·exact ea
       ·rintro rfl
        exact e3 l (Ne.symm hl) z'
      | «at» k p' =>
       obtain ⟨τ, a, ea, e⟩ := rv
       refine ⟨τ, a, ?_, e⟩
       rw [List.getElem?_set_ne]
       ·exact ea
       ·rintro rfl
        rw [eaj] at ea; cases ea
   exact k (α.set j (.L p)) _ _ H q n Rl' ext
theorem ms_set {i : Nat} {x : Str} {pos' : Pos} (hN : X.N.Nodup) (hi : X.N[i]? = some x) (hx : Loc X.env.scope x) (he : ME X e we) (hs : swapsWith e (some (.Name x pos')) pos.line X.env = pure false := by rfl) (hf : X.fn x = true ∨ X.env.scope.names.lookup x = some .local := by first | exact .inl rfl | exact .inr rfl | assumption) :
  MS X (.Assign [.Name x pos'] e pos) (wSet i we) := (ps_set hN hi hx he hs hf).wk fun D σ H ⟨α, m, De, Rl, hw, k⟩ =>
 ⟨α, m, _, Rl, hw, fun r m' v H' q n Rl' rr F => bind_rd (Q := D.nx) Rl' n F rr q k.nx ⟨m, σ, Rl⟩⟩
abbrev WG := PyData → MSt → (MSt → Prop) → Prop
abbrev WGs := List PyData → MSt → (MSt → Prop) → Prop
def tMG (K : Kx) (g : WG) : TG := fun v σ H Q => ∃ α m d Kc, Rel K α m σ H ∧ Den K H d v ∧ g d m Kc ∧ ∀ m' σ', Kc m' → m'.np = m.np → Rel K α m' σ' H → Q σ' H
def tMGs (K : Kx) (g : WGs) : TGs := fun vs σ H Q => ∃ α m ds Kc, Rel K α m σ H ∧ DenAll K H ds vs ∧ g ds m Kc ∧ ∀ m' σ', Kc m' → m'.np = m.np → Rel K α m' σ' H → Q σ' H
theorem PG.wk {X : Cx} {e : Expr} {t t' : TG} (h : PG X e t) (k : ∀ v σ H Q, t' v σ H Q → t v σ H Q) : PG X e t' := fun pins s σ H v u Q I r q => h pins s σ H v u Q I r (k _ _ _ _ q)
theorem PGs.wk {X : Cx} {e : List Expr} {t t' : TGs} (h : PGs X e t) (k : ∀ v σ H Q, t' v σ H Q → t v σ H Q) : PGs X e t' := fun pins s σ H v u Q I r q => h pins s σ H v u Q I r (k _ _ _ _ q)
abbrev MG (X : Cx) (e : Expr) (g : WG) : Prop := PG X e (tMG X.kx g)
abbrev MGs (X : Cx) (es : List Expr) (g : WGs) : Prop := PGs X es (tMGs X.kx g)
def gM (i : Nat) : WG := fun d m K => K (m.setV i (.imm d))
def gMNil : WGs := fun ds m K => ds = [] ∧ K m
def gMCons (g : WG) (gs : WGs) : WGs := fun ds m K => match ds with | d :: r => g d m fun m' => gs r m' K | [] => False
def gMTup (n : Nat) (gs : WGs) : WG := fun d m K => match d with | .tuple ds => ds.length = n ∧ gs ds m K | _ => False
theorem mg_name {i : Nat} {x : Str} (hN : X.N.Nodup) (hi : X.N[i]? = some x) (hx : Loc X.env.scope x) (hf : X.fn x = true ∨ X.env.scope.names.lookup x = some .local := by first | exact .inl rfl | exact .inr rfl | assumption) : MG X (.Name x pos) (gM i) := (pg_name hN hi hx hf).wk fun v σ H Q ⟨α, m, d, Kc, Rl, hd, hw, fin⟩ =>
 fin _ _ hw rfl (rel_setV Rl hd)
theorem mgs_nil : MGs X [] gMNil := (pgs_nil (X := X)).wk fun v σ H Q ⟨α, m, d, Kc, Rl, hd, hw, fin⟩ => by
 obtain ⟨rfl, hw⟩ := hw
 simp only [DenAll] at hd
 exact ⟨hd, fin m σ hw rfl Rl⟩
theorem mgs_cons {e : Expr} {es : List Expr} {g : WG} {gs : WGs} (h1 : MG X e g) (h2 : MGs X es gs)
  (hs : (assignEach (e :: es) X.env).map (·.2) = assign e X.env :: (assignEach es X.env).map (·.2) := by rfl) : MGs X (e :: es) (gMCons g gs) := (pgs_cons h1 h2 hs).wk fun v σ H Q ⟨α, m, ds, Kc, Rl, hd, hw, fin⟩ => by
 cases ds with
 | nil => exact hw.elim
 | cons d r =>
  simp only [DenAll] at hd
  obtain ⟨x, vr, rfl, h3, h4⟩ := hd
  exact ⟨x, vr, rfl, α, m, d, _, Rl, h3, hw, fun m' σ' k n Rl' => ⟨α, m', r, _, Rl', h4, k, fun m2 σ2 k2 n2 Rl2 => fin m2 σ2 k2 (n2.trans n) Rl2⟩⟩
theorem mg_tup {es : List Expr} {k : Nat} {gs : WGs} {n : Nat} (h : MGs X es gs) (hc : X.calm = true := by rfl)
  (hn : (assignEach es X.env).length = n := by rfl) (hst : (assignEach es X.env).findIdx? (·.1) = none := by rfl) : MG X (.Tuple es k pos) (gMTup n gs) := (pg_tup hc h hn hst).wk fun v σ H Q ⟨α, m, d, Kc, Rl, hd, hw, fin⟩ => by
 cases d with
 | tuple ds =>
  simp only [Den] at hd
  obtain ⟨a, xs, e, f, g⟩ := hd
  exact ⟨a, xs, e, f, g.length.symm.trans hw.1, α, m, ds, Kc, Rl, g, hw.2, fin⟩
 | none => exact hw.elim
 | bool _ => exact hw.elim
 | int _ => exact hw.elim
 | str _ => exact hw.elim
 | list _ => exact hw.elim
 | dict _ => exact hw.elim
def onImm (P : PyData → Prop) : R → Prop
 | .imm d => P d
 | _ => False
theorem on_imm {K : Kx} {α : Al} {Hb H : Hp} {r : R} {v : V} {P : PyData → Prop} (rr : RelR K α Hb H r v) (h : onImm P r) : ∃ d, r = .imm d ∧ Den K H d v ∧ P d := by
 cases r with
 | imm d => exact ⟨d, rfl, rr, h⟩
 | obj _ => exact h.elim
 | new _ => exact h.elim
 | «at» _ _ => exact h.elim
 | newT _ => exact h.elim
def wPar (i j : Nat) (ws : WA) : WS := fun D m => ws m fun rs m' => match rs with | [.imm d1, .imm d2] => D.nx ((m'.setV i (.imm d1)).setV j (.imm d2)) | _ => False
theorem ms_par {i j : Nat} {x y : Str} {px py pt : Pos} {kt k2 pt2} (hN : X.N.Nodup) (hi : X.N[i]? = some x) (hj : X.N[j]? = some y) (hij : i ≠ j)
  (hx : X.env.scope.names.lookup x = some .local) (hy : X.env.scope.names.lookup y = some .local) (ha : MA X [a, b] ws)
  (hw : swappedStores [.Tuple [.Name x px, .Name y py] kt pt] (.Tuple [a, b] k2 pt2) X.env = pure (some [x, y])) (hc : X.calm = true := by rfl)
  (hs : swapsWithSole [.Tuple [.Name x px, .Name y py] kt pt] (.Tuple [a, b] k2 pt2) pos.line X.env = pure false := by rfl) :
  MS X (.Assign [.Tuple [.Name x px, .Name y py] kt pt] (.Tuple [a, b] k2 pt2) pos) (wPar i j ws) := (ps_par hc hN hi hj hij hx hy ha hw hs).wk fun D σ H ⟨α, m, De, Rl, hw, k⟩ => by
 refine ⟨α, m, _, Rl, hw, fun rs m' vs H' q n Rl' rr F => ?_⟩
 match rs, rr, q with
 | [.imm d1, .imm d2], .cons h1 (.cons h2 .nil), q => exact ⟨_, _, rfl, k.nx α _ _ H' q n (rel_setV (rel_setV Rl' (r := .imm d1) h1) (r := .imm d2) h2) (.of Rl' F)⟩
end
structure Src where
 ds : List PyData
 own : Option Nat
structure Wks (K : Kd) (J : It) (ds : List PyData) (C : Hp → Prop) : Prop where
 stop : ∀ H, C H → J.stop ds.length H
 go : ∀ i H, i < ds.length → C H → J.go i H
 yld : ∀ i H x H', i < ds.length → C H → J.yld i H x H' → (∀ b o, H b = some o → H' b = some o) ∧ ∃ d, ds[i]? = some d ∧ Den K H' d x
def SrcOk (K : Kd) (α : Al) (H : Hp) (s : Src) (J : It) : Prop :=
 match s.own with
 | none => ∃ C : Hp → Prop, Wks K J s.ds C ∧ C H ∧ ∀ H1 H2, C H1 → Pers H1 H2 → C H2
 | some k => ∃ a, α[k]? = some (.L a) ∧ Wks K J s.ds fun H => ∃ xs, H a = some (.lst xs) ∧ DenAll K H s.ds xs
abbrev WI := MSt → (Src → MSt → Prop) → Prop
def tMI (K : Kx) (w : WI) : TI := fun σ H Rq => ∃ α m Kc, Rel K α m σ H ∧ w m Kc ∧ ∀ s m' J H', Kc s m' → m'.np = m.np → Rel K α m' σ H' → Frm α H H' → SrcOk K α H' s J → Rq J H'
theorem PI.wk {X : Cx} {tg e : Expr} {t t' : TI} (h : PI X tg e t) (k : ∀ σ H Q, t' σ H Q → t σ H Q) : PI X tg e t' := fun pins s σ H Q I q => h pins s σ H Q I (k _ _ _ q)
abbrev MI (X : Cx) (tg e : Expr) (w : WI) : Prop := PI X tg e (tMI X.kx w)
section
variable {X : Cx} {tg a b c e iter : Expr} {es : List Expr} {wa wb wc we : WE} {ws : WA} {wt : WT} {pos : Pos} {st : Stmt} {rest body body2 : List Stmt} {w u : WS}
def iSeq (K : PySem.W.Frag) (tl : TE) : TI := fun σ H Rq => tl σ H fun x H1 => ∃ a, x = .ref a ∧ (((∃ xs, SqL K H1 a xs) ∧ Rq (Itl K a) H1) ∨ ((∃ xs, SqT K H1 a xs) ∧ Rq (Itt K a) H1))
theorem pi_seq {l : Expr} {tl : TE} (hl : PE X l tl) : PI X tg l (iSeq X.K tl) := by
 intro pins s σ H Rq I h
 refine thn (hl pins s σ H _ I h) fun v s1 ⟨x, H1, I1, r1, q1⟩ => ?_
 obtain ⟨a, e, q⟩ := q1
 subst e
 cases r1
 rcases q with ⟨⟨xs, hq⟩, q⟩ | ⟨⟨xs, hq⟩, q⟩
 ·obtain ⟨its, rv, p, hz⟩ := I1.list hq
  refine wpAny_pyIter_list p.isList ?_
  refine ⟨s1.heap.objs.size, [s1.heap.objs.size], _, _, H1, rfl, I1.kept (t' := s1.toks) fun b o e => Heap.get?_push_of_some _ e, turn_list a _, ⟨_, Heap.get?_push_size _ rfl, rfl, rfl⟩, fun b hb => ?_, q⟩
  have e : b = s1.heap.objs.size := by simpa using hb
  subst e
  exact I1.fpOk (Nat.le_refl _) (I1.hok.fresh (Nat.le_refl _))
 ·obtain ⟨its, rv, p, hz⟩ := I1.tuple hq
  refine wpAny_pyIter_tuple (show s1.heap.IsTuple a its.toArray from p) ?_
  refine ⟨s1.heap.objs.size, [s1.heap.objs.size], _, _, H1, rfl, I1.kept (t' := s1.toks) fun b o e => Heap.get?_push_of_some _ e, turn_tuple a _, ⟨_, Heap.get?_push_size _ rfl, rfl, rfl⟩, fun b hb => ?_, q⟩
  have e : b = s1.heap.objs.size := by simpa using hb
  subst e
  exact I1.fpOk (Nat.le_refl _) (I1.hok.fresh (Nat.le_refl _))
def srcR (m : MSt) (K : Src → MSt → Prop) : R → Prop
 | .imm (.list ds) => K ⟨ds, none⟩ m
 | .imm (.tuple ds) => K ⟨ds, none⟩ m
 | .obj k => ∃ ds, m.os[k]? = some ds ∧ K ⟨ds, some k⟩ m
 | _ => False
def wiSeq (we : WE) : WI := fun m K => we m fun r m' => srcR m' K r
theorem wks_list {K : Kd} {a : Addr} {ds : List PyData} : Wks K (Itl K a) ds fun H => ∃ xs, SqL K H a xs ∧ DenAll K H ds xs where
 stop := fun H ⟨xs, q, g⟩ => ⟨xs, q, by rw [g.length]; exact Nat.le_refl _⟩
 go := fun i H hi ⟨xs, q, g⟩ => ⟨xs, xs[i]'(by rw [← g.length]; exact hi), q, List.getElem?_eq_getElem _⟩
 yld := fun i H x H' hi ⟨xs, q, g⟩ y => by
  obtain ⟨e, y⟩ := y
  subst e
  obtain ⟨d, h1, h2⟩ := g.get2 (y xs q)
  exact ⟨fun _ _ z => z, d, h1, h2⟩
theorem wks_tup {K : Kd} {a : Addr} {ds : List PyData} : Wks K (Itt K a) ds fun H => ∃ xs, SqT K H a xs ∧ DenAll K H ds xs where
 stop := fun H ⟨xs, q, g⟩ => ⟨xs, q, by rw [g.length]; exact Nat.le_refl _⟩
 go := fun i H hi ⟨xs, q, g⟩ => ⟨xs, xs[i]'(by rw [← g.length]; exact hi), q, List.getElem?_eq_getElem _⟩
 yld := fun i H x H' hi ⟨xs, q, g⟩ y => by
  obtain ⟨e, y⟩ := y
  subst e
  obtain ⟨d, h1, h2⟩ := g.get2 (y xs q)
  exact ⟨fun _ _ z => z, d, h1, h2⟩
theorem Wks.imp {K : Kd} {J : It} {ds : List PyData} {C C' : Hp → Prop} (h : Wks K J ds C) (k : ∀ H, C' H → C H) : Wks K J ds C' := ⟨fun H c => h.stop H (k H c), fun i H hi c => h.go i H hi (k H c), fun i H x H' hi c => h.yld i H x H' hi (k H c)⟩
theorem mi_seq (he : ME X e we) : MI X tg e (wiSeq we) := (pi_seq (tg := tg) he).wk fun σ H Rq ⟨α, m, Kc, Rl, hw, fin⟩ => by
 refine ⟨α, m, _, Rl, hw, fun r m' v H' k n Rl' rr F => ?_⟩
 cases r with
 | new _ => exact k.elim
 | «at» _ _ => exact k.elim
 | newT _ => exact k.elim
 | obj j =>
  obtain ⟨ds, e1, k⟩ := k
  obtain ⟨p, ep, rfl⟩ := rr
  obtain ⟨xs, q, g⟩ := Rl'.own j _ ds ep e1
  exact ⟨p, rfl, .inl ⟨⟨xs, SqL.of q⟩, fin _ m' _ H' k n Rl' F ⟨p, ep, wks_list.imp fun H ⟨xs, q, g⟩ => ⟨xs, SqL.of q, g⟩⟩⟩⟩
 | imm d =>
  cases d with
  | list ds =>
   have h : Den X.kx H' (.list ds) v := rr
   simp only [Den] at h
   obtain ⟨p, xs, rfl, f, g⟩ := h
   refine ⟨p, rfl, .inl ⟨⟨xs, f.sq⟩, fin _ m' _ H' k n Rl' F ⟨fun H => ∃ xs, FzL X.kx H p xs ∧ DenAll X.kx H ds xs, wks_list.imp fun H ⟨xs, q, g⟩ => ⟨xs, q.sq, g⟩, ⟨xs, f, g⟩, fun H1 H2 ⟨xs, q, g⟩ pe => ⟨xs, q.mono pe, g.mono pe⟩⟩⟩⟩
  | tuple ds =>
   have h : Den X.kx H' (.tuple ds) v := rr
   simp only [Den] at h
   obtain ⟨p, xs, rfl, f, g⟩ := h
   refine ⟨p, rfl, .inr ⟨⟨xs, f⟩, fin _ m' _ H' k n Rl' F ⟨fun H => ∃ xs, SqT X.kx H p xs ∧ DenAll X.kx H ds xs, wks_tup, ⟨xs, f, g⟩, fun H1 H2 ⟨xs, q, g⟩ pe => ⟨xs, q.mono pe, g.mono pe⟩⟩⟩⟩
  | none => exact k.elim
  | bool _ => exact k.elim
  | int _ => exact k.elim
  | str _ => exact k.elim
  | dict _ => exact k.elim
def rangeD (lo : Int) (n : Nat) : List PyData := (List.range n).map fun (i : Nat) => PyData.int (lo + (i : Int))
theorem rangeD_length (lo : Int) (n : Nat) : (rangeD lo n).length = n := by simp [rangeD]
theorem rangeD_get {lo : Int} {n i : Nat} (h : i < n) : (rangeD lo n)[i]? = some (.int (lo + (i : Int))) := by simp [rangeD, h]
theorem wks_range {K : Kd} {lo : Int} {n : Nat} : Wks K (Itr lo n) (rangeD lo n) fun _ => True where
 stop := fun H _ => by rw [rangeD_length]; exact Nat.le_refl _
 go := fun i H hi _ => by rw [rangeD_length] at hi; exact hi
 yld := fun i H x H' hi _ y => by
  rw [rangeD_length] at hi
  obtain ⟨e, y⟩ := y
  subst e y
  exact ⟨fun _ _ z => z, _, rangeD_get hi, den_int _⟩
def wiRng1 (ws : WA) : WI := fun m K => ws m fun rs m' => match rs with | [.imm (.int j)] => -(2 ^ 62) ≤ j ∧ j < 2 ^ 62 ∧ K ⟨rangeD 0 j.toNat, none⟩ m' | _ => False
theorem int_of_den {K : Kd} {H : Hp} {i : Int} {v : V} (h : Den K H (.int i) v) : v = .int i := by simpa only [Den] using h
theorem mi_range1 {p : Pos} (hg : Gl X "range") (hm : X.mg "range" = none) (ha : MA X [a] ws) (hs : starEach [a] X.env = [(false, eval a X.env)] := by first | exact star_one rfl | rfl) : MI X tg (.Call (.Name "range" p) [a] [] pos) (wiRng1 ws) := (pi_range1 (tg := tg) hg hm ha hs).wk fun σ H Rq ⟨α, m, Kc, Rl, hw, fin⟩ => by
 refine ⟨α, m, _, Rl, hw, fun rs m' vs H' k n Rl' rr F => ?_⟩
 match rs, rr, k with
 | [.imm (.int j)], .cons h1 .nil, k =>
  obtain ⟨k1, k2, k⟩ := k
  have e := int_of_den (show Den X.kx H' (.int j) _ from h1)
  subst e
  exact ⟨j, rfl, k1, k2, fin _ m' _ H' k n Rl' F ⟨fun _ => True, wks_range, trivial, fun _ _ _ _ => trivial⟩⟩
def MSt.setN (m : MSt) (n : Nat) : MSt := { m with np := n }
def Src.np (s : Src) (m : MSt) : Nat := match s.own with | none => m.np | some k => max m.np (k + 1)
def Src.ok (s : Src) (m : MSt) : Prop := match s.own with | none => True | some k => m.os[k]? = some s.ds
def wLoop (s : Src) (g : WG) (w : WS) : WS := fun D m1 => ∃ P : Nat → MSt → Prop, P 0 (m1.setN (s.np m1)) ∧
 (∀ (i : Nat) (d : PyData) (m : MSt), s.ds[i]? = some d → m.np = s.np m1 → P i m → s.ok m ∧ g d m fun m2 => w { nx := P (i + 1), ct := P (i + 1), bk := fun m' => D.nx (m'.setN m1.np), rt := fun r m' => D.rt r (m'.setN m1.np) } m2) ∧
 ∀ m, m.np = s.np m1 → P s.ds.length m → s.ok m ∧ D.nx (m.setN m1.np)
def wFor (wi : WI) (g : WG) (w : WS) : WS := fun D m => wi m fun s m1 => wLoop s g w D m1
theorem Rel.setN {K : Kx} {α : Al} {m : MSt} {σ : St} {H : Hp} {n : Nat} (R : Rel K α m σ H) (h : n ≤ α.length) (he : K.eb.np ≤ n) : Rel K α (m.setN n) σ H := ⟨R.nd, R.len, R.own, R.vlen, R.var, h, he, R.ebx⟩
theorem loop_rd {K : Kx} {s : Src} {g : WG} {w : WS} {J : It} {α : Al} {m1 : MSt} {σ : St} {H : Hp} {De : MEnds} {D : Ends} (Rl : Rel K α m1 σ H) (hJ : SrcOk K α H s J) (h : wLoop s g w De m1) (k : EndsOk K m1.np α H De D) {tb : TS}
  (hb : ∀ α' m' σ' H' De' D', α'.take (s.np m1) = α.take (s.np m1) → m'.np = s.np m1 → Rel K α' m' σ' H' → w De' m' → EndsOk K m'.np α' H' De' D' → tb D' σ' H') : tLoop J (tMG K g) tb D σ H := by
 obtain ⟨P, p0, turn, fin⟩ := h
 have npk : s.np m1 ≤ α.length := by
  unfold Src.np
  unfold SrcOk at hJ
  cases e : s.own with
  | none => exact Rl.npl
  | some j =>
   rw [e] at hJ
   obtain ⟨a, ea, _⟩ := hJ
   have := (List.getElem?_eq_some_iff.mp ea).1
   have := Rl.npl
   show max m1.np (j + 1) ≤ α.length
   omega
 have nple : m1.np ≤ s.np m1 := by
  unfold Src.np
  split
  ·exact Nat.le_refl _
  ·exact Nat.le_max_left _ _
 obtain ⟨C, wk, hC⟩ : ∃ C : Hp → Prop, Wks K J s.ds C ∧ ∀ α' m' σ' H', Rel K α' m' σ' H' → Ext (s.np m1) α H α' H' → s.ok m' → C H' := by
  unfold SrcOk at hJ
  cases e : s.own with
  | none =>
   rw [e] at hJ
   obtain ⟨C, wk, c0, cm⟩ := hJ
   exact ⟨C, wk, fun α' m' σ' H' _ x _ => cm H H' c0 (Rl.pers x.frm)⟩
  | some j =>
   rw [e] at hJ
   obtain ⟨a, ea, wk⟩ := hJ
   refine ⟨_, wk, fun α' m' σ' H' R' x ok => ?_⟩
   have hj : j < s.np m1 := by unfold Src.np; rw [e]; show j < max _ _; omega
   have ea' : α'[j]? = some (.L a) := by
    have := congrArg (fun l => l[j]?) x.pre
    simp only [List.getElem?_take, if_pos hj] at this
    rw [this]; exact ea
   unfold Src.ok at ok
   rw [e] at ok
   exact R'.own j _ s.ds ea' ok
 have back : ∀ {α' : Al} {m' : MSt} {σ' : St} {H' : Hp}, Rel K α' m' σ' H' → m'.np = s.np m1 → Ext (s.np m1) α H α' H' → Rel K α' (m'.setN m1.np) σ' H' := fun R' n x => R'.setN (by
  have := R'.npl
  rw [n] at this; omega) Rl.ebl
 refine ⟨fun i n σ' H' => n = s.ds.length - i ∧ i ≤ s.ds.length ∧ ∃ α' m', P i m' ∧ m'.np = s.np m1 ∧ Rel K α' m' σ' H' ∧ Ext (s.np m1) α H α' H', ⟨s.ds.length, by simp, Nat.zero_le _, α, _, p0, rfl, Rl.setN npk (Nat.le_trans Rl.ebl nple), .of Rl (Frm.refl _ _)⟩, ?_⟩
 rintro i n σ' H' ⟨rfl, hi, α', m', p, hn, R', x⟩
 by_cases hlt : i < s.ds.length
 ·have hd : s.ds[i]? = some s.ds[i] := List.getElem?_eq_getElem hlt
  obtain ⟨ok, hg⟩ := turn i _ m' hd hn p
  have c := hC α' m' σ' H' R' x ok
  refine .inr ⟨wk.go i H' hlt c, fun σ2 H2 => ∃ α2 m2, P (i + 1) m2 ∧ m2.np = s.np m1 ∧ Rel K α2 m2 σ2 H2 ∧ Ext (s.np m1) α H α2 H2, fun σ2 H2 h2 => ⟨s.ds.length - (i + 1), by omega, rfl, hlt, h2⟩, fun v H2 y => ?_⟩
  obtain ⟨grow, d, e1, e2⟩ := wk.yld i H' v H2 hlt c y
  rw [hd] at e1; cases e1
  have F2 : Frm α' H' H2 := fun b o z _ => grow b o z
  have R2 : Rel K α' m' σ' H2 := R'.at (R'.pers F2) (fun b hb => by
   obtain ⟨ys, z, _⟩ := R'.mem hb
   rw [z]; exact grow b _ z) F2
  have x2 : Ext (s.np m1) α H α' H2 := x.trans (.of R2 F2)
  refine ⟨α', m', _, _, R2, e2, hg, fun m3 σ3 q3 n3 R3 => hb α' m3 σ3 H2 _ _ x2.pre (n3.trans hn) R3 q3 ?_⟩
  have n3' : m3.np = s.np m1 := n3.trans hn
  have x3 : Ext m3.np α H α' H2 := by rw [n3']; exact x2
  refine ⟨fun α4 m4 σ4 H4 q4 n4 R4 x4 => ⟨α4, m4, q4, n4.trans n3', R4, ?_⟩, fun r α4 m4 σ4 v4 H4 q4 n4 R4 rr x4 => ?_, fun α4 m4 σ4 H4 q4 n4 R4 x4 => ?_, fun α4 m4 σ4 H4 q4 n4 R4 x4 => ⟨α4, m4, q4, n4.trans n3', R4, ?_⟩⟩
  ·rw [← n3']; exact x3.trans x4
  ·have x5 : Ext (s.np m1) α H α4 H4 := by rw [← n3']; exact x3.trans x4
   exact k.rt r α4 (m4.setN m1.np) σ4 v4 H4 q4 rfl (back R4 (n4.trans n3') x5) (rr.ext x3) (x5.less nple)
  ·have x5 : Ext (s.np m1) α H α4 H4 := by rw [← n3']; exact x3.trans x4
   exact k.nx α4 (m4.setN m1.np) σ4 H4 q4 rfl (back R4 (n4.trans n3') x5) (x5.less nple)
  ·rw [← n3']; exact x3.trans x4
 ·have e : i = s.ds.length := by omega
  subst e
  obtain ⟨ok, q⟩ := fin m' hn p
  exact .inl ⟨wk.stop H' (hC α' m' σ' H' R' x ok), k.nx α' (m'.setN m1.np) σ' H' q rfl (back R' hn x) (x.less nple)⟩
theorem ms_for {wi : WI} {g : WG} (hi : MI X tg iter wi) (hg : MG X tg g) (hb : MSs X body w) (hp : PassesOwn (model X.prog X.w) X.A X.env X.xe) (hc : X.calm = true := by rfl)
  (hs : ∀ x, foldedSetIterable iter X.env x = pure x := by intro _; rfl) : MS X (.For tg iter body [] pos) (wFor wi g w) := (ps_for hp hc hi hg hb hs).wk fun D σ H ⟨α, m, De, Rl, hw, k⟩ =>
 ⟨α, m, _, Rl, hw, fun s m' J H' q n Rl' F hJ => loop_rd Rl' hJ q (by rw [n]; exact k.ext (.of Rl' F)) fun α' m' σ' H' De' D' _ _ R' h' k' => ⟨α', m', De', R', h', k'⟩⟩
def wWhile (t : WT) (w : WS) : WS := fun D m0 => ∃ P : Nat → MSt → Prop, (∃ n, P n m0) ∧ ∀ n m, m.np = m0.np → P n m → t m fun c m' => if c = true then w { D with nx := fun m2 => ∃ n', n' < n ∧ P n' m2, ct := fun m2 => ∃ n', n' < n ∧ P n' m2, bk := D.nx } m' else D.nx m'
theorem ms_while {t : Expr} (ht : MT X t wt) (hb : MSs X body w) (hp : PassesOwn (model X.prog X.w) X.A X.env X.xe) : MS X (.While t body [] pos) (wWhile wt w) := (ps_while hp ht hb).wk fun D σ H ⟨α, m, De, Rl, ⟨P, ⟨n0, p0⟩, turn⟩, k⟩ => by
 refine ⟨fun n σ' H' => ∃ α' m', P n m' ∧ m'.np = m.np ∧ Rel X.kx α' m' σ' H' ∧ Ext m.np α H α' H', ⟨n0, α, m, p0, rfl, Rl, .of Rl (Frm.refl _ _)⟩, ?_⟩
 rintro n σ1 H1 ⟨α1, m1, p1, n1, R1, x1⟩
 refine ⟨α1, m1, _, R1, turn n m1 n1 p1, fun bb m2 H2 q n2 R2 F2 => ?_⟩
 have x2 : Ext m.np α H α1 H2 := x1.trans (.of R2 F2)
 have n2' : m2.np = m.np := n2.trans n1
 cases bb with
 | true =>
  rw [if_pos rfl] at q
  refine iteT ⟨fun σ3 H3 => ∃ n', n' < n ∧ ∃ α' m', P n' m' ∧ m'.np = m.np ∧ Rel X.kx α' m' σ3 H3 ∧ Ext m.np α H α' H3, fun σ3 H3 ⟨n', hl, z⟩ => ⟨n', hl, z⟩, α1, m2, _, R2, q, ?_⟩
  rw [n2']
  exact ⟨fun α' m' σ' H' ⟨n', hl, q⟩ nn R' y => ⟨n', hl, α', m', q, nn, R', x2.trans y⟩, fun r α' m' σ' v H' q nn R' rr y => k.rt r α' m' σ' v H' q nn R' (rr.ext x2) (x2.trans y), fun α' m' σ' H' q nn R' y => k.nx α' m' σ' H' q nn R' (x2.trans y), fun α' m' σ' H' ⟨n', hl, q⟩ nn R' y => ⟨n', hl, α', m', q, nn, R', x2.trans y⟩⟩
 | false =>
  rw [if_neg Bool.false_ne_true] at q
  exact iteF (k.nx α1 m2 σ1 H2 q n2' R2 x2)
end
section
variable {K : Kx} {α : Al} {m : MSt} {σ : St} {H : Hp}
theorem Rel.setW {H' : Hp} {q : Nat} {ao : Ao} {ds' : List PyData} (R : Rel K α m σ H) (ha : α[q]? = some ao) (pe : Pers H H') (F : ∀ b, b ∉ ao.ads → H' b = H b) (g : OwnAt K H' ao ds') : Rel K α { m with os := m.os.set q ds' } σ H' ∧ Frm α H H' := by
 have Fα : Frm α H H' := fun b o e nb => by rw [F b fun z => nb (ads_in ha z)]; exact e
 have own' : ∀ (k : Nat) (a : Ao) (es : List PyData), α[k]? = some a → (m.os.set q ds')[k]? = some es → OwnAt K H' a es := fun k a es z1 z2' => by
  by_cases c : q = k
  ·subst c
   rw [ha] at z1; cases z1
   rw [List.getElem?_set_self (by rw [← R.len]; exact (List.getElem?_eq_some_iff.mp ha).1)] at z2'
   cases z2'
   exact g
  ·rw [List.getElem?_set_ne c] at z2'
   exact (R.own k a es z1 z2').mono pe fun b hb => F b fun z => ads_disj R.nd ha z1 c z hb
 refine ⟨⟨R.nd, by simp [R.len], own', R.vlen, fun i r h => ?_, R.npl, R.ebl, R.ebx.trans ⟨rfl, Fα, fun _ h => .inl h, fun a ha => ?_⟩⟩, Fα⟩
 ·obtain ⟨v, ev, rv⟩ := R.var i r h
  refine ⟨v, ev, ?_⟩
  cases r with
  | imm d => exact Den.mono pe rv
  | obj k => exact rv
  | «at» k p => exact rv
  | new ds => exact rv
  | newT t => exact rv
 ·obtain ⟨k, ao, e1, hm⟩ := ads_at ha
  have hk : k < (m.os.set q ds').length := by rw [List.length_set, ← R.len]; exact (List.getElem?_eq_some_iff.mp e1).1
  obtain ⟨o, q, _⟩ := (own' k ao _ e1 (List.getElem?_eq_getElem hk)).mem hm
  exact ⟨o, q⟩
theorem Rel.setO {q : Nat} {l : Addr} {xs xs' : List V} {ds' : List PyData} (R : Rel K α m σ H) (ha : α[q]? = some (.L l)) (hl : H l = some (.lst xs)) (g : DenAll K H ds' xs') : Rel K α { m with os := m.os.set q ds' } σ (upd H l (.lst xs')) ∧ Frm α H (upd H l (.lst xs')) := by
 have pe : Pers H (upd H l (.lst xs')) := pers_lst hl
 exact R.setW ha pe (fun b hb => upd_ne fun e => hb (List.mem_singleton.mpr e)) ⟨xs', upd_same, g.mono pe⟩
end
def compV (own : List Str) (ps : List Nat) (vs : List (Option R)) : List (Option R) := own.map (fun _ => none) ++ ps.map fun i => (vs[i]?).join
def compM (own : List Str) (ps : List Nat) (m : MSt) : MSt := ⟨compV own ps m.vs, m.os ++ [[]], m.os.length + 1⟩
def wIfT (tt : WT) (w : WS) : WS := fun D m => tt m fun b m' => if b = true then w D m' else D.nx m'
def wEmit (q : Nat) (we : WE) : WS := fun D m => we m fun r m' => onImm (fun d => ∃ ds, m'.os[q]? = some ds ∧ ds.length < sizeLine ∧ D.nx { m' with os := m'.os.set q (ds ++ [d]) }) r
def wComp1 (wi : WI) (own : List Str) (ps : List Nat) (g : WG) (tt : WT) (we : WE) : WE := fun m K => wi m fun s m1 =>
 wLoop s g (wIfT tt (wEmit m1.os.length we)) { nx := fun m' => K (.new (m'.os.getD m1.os.length [])) { m1 with os := m'.os.take m1.os.length }, rt := fun _ _ => False } (compM own ps m1)
def wNoTest : WT := fun m K => K true m
section
variable {K : Kx}
theorem emit_rd {q : Nat} {we : WE} {α : Al} {m : MSt} {σ : St} {H : Hp} {De : MEnds} {D : Ends} {l : Addr} (ha : α[q]? = some (.L l)) (Rl : Rel K α m σ H) (h : wEmit q we De m) (k : EndsOk K m.np α H De D) : tEmit l (tM K we) D σ H := by
 refine ⟨α, m, _, Rl, h, fun r m' v H' kk n R' rr F => ?_⟩
 obtain ⟨d, er, hd, ds, e1, hz, kk⟩ := on_imm rr kk
 obtain ⟨xs, hx, g⟩ := R'.own q _ ds ha e1
 obtain ⟨R2, F2⟩ := R'.setO ha hx (g.append (DenAll.cons hd DenAll.nil))
 exact ⟨xs, hx, by rw [← g.length]; exact hz, k.nx α _ σ _ kk n R2 (.of R2 (F.trans F2))⟩
theorem ift_rd {tt : WT} {w : WS} {tb : TS} {α : Al} {m : MSt} {σ : St} {H : Hp} {De : MEnds} {D : Ends} (Rl : Rel K α m σ H) (h : wIfT tt w De m) (k : EndsOk K m.np α H De D)
  (hb : ∀ m' H', m'.np = m.np → Rel K α m' σ H' → w De m' → EndsOk K m'.np α H' De D → tb D σ H') : tIfT (tMT K tt) tb D σ H := by
 refine ⟨α, m, _, Rl, h, fun bb m' H' q n R' F => ?_⟩
 have k' : EndsOk K m'.np α H' De D := by rw [n]; exact k.ext (.of R' F)
 cases bb with
 | true => rw [if_pos rfl] at q; exact iteT (hb m' H' n R' q k')
 | false => rw [if_neg Bool.false_ne_true] at q; exact iteF (k'.nx α m' σ H' q rfl R' (.of R' (Frm.refl _ _)))
theorem comp_rd {own : List Str} {ps : List Nat} {s : Src} {g : WG} {w : WS} {J : It} {α : Al} {m m1 : MSt} {σ : St} {H H1 : Hp} {l : Addr} {Kc : R → MSt → Prop} {Q : VK} {tb : TS} (Rl : Rel K α m σ H) (n1 : m1.np = m.np) (Rl1 : Rel K α m1 σ H1) (F1 : Frm α H H1) (hJ : SrcOk K α H1 s J) (hl : H1 l = none)
  (h : wLoop s g w { nx := fun m' => Kc (.new (m'.os.getD m1.os.length [])) { m1 with os := m'.os.take m1.os.length }, rt := fun _ _ => False } (compM own ps m1))
  (fin : ∀ r m' v H', Kc r m' → m'.np = m.np → Rel K α m' σ H' → RelR K α H H' r v → Frm α H H' → Q v H')
  (hb : ∀ α' m' σ' H' De' D', α'[m1.os.length]? = some (.L l) → m1.os.length < m'.np → Rel K α' m' σ' H' → w De' m' → EndsOk K m'.np α' H' De' D' → tb D' σ' H') :
  tLoop J (tMG K g) tb { nx := fun _ H' => Q (.ref l) H', rt := fun _ _ => False } (compSt own ps σ) (upd H1 l (.lst [])) := by
 have pα : l ∉ ads α := Rl1.out hl
 have pe : Pers H1 (upd H1 l (.lst [])) := pers_upd (.inl hl)
 have hlen : α.length = m1.os.length := Rl1.len
 have at0 : (α ++ [.L l])[m1.os.length]? = some (.L l) := by rw [List.getElem?_append_right (by omega), ← hlen]; simp
 have Rl1' : Rel K α m1 σ (upd H1 l (.lst [])) := Rl1.lay hl
 obtain ⟨Rm, extm⟩ := rel_more (ao := .L l) (ds := []) Rl1' ⟨m1, σ, Rl1⟩ (frm_upd hl) (by simp [Ao.ads]) (fun b hb => by cases List.mem_singleton.mp hb; exact hl) ⟨[], upd_same, DenAll.nil⟩
 have R0 : Rel K (α ++ [.L l]) (compM own ps m1) (compSt own ps σ) (upd H1 l (.lst [])) := by
  refine ⟨Rm.nd, by simp [compM, hlen], Rm.own, by simp [compSt, compM, compV], fun i r z => ?_, by simp [compM, hlen], by have := Rl1.ebl; have := Rl1.npl; show K.eb.np ≤ m1.os.length + 1; omega, Rm.ebx⟩
  have z' : (compV own ps m1.vs)[i]? = some (some r) := z
  unfold compV at z'
  by_cases hi : i < own.length
  ·rw [List.getElem?_append_left (by simpa using hi), List.getElem?_map] at z'
   cases q : own[i]? with
   | none => rw [q] at z'; cases z'
   | some y => rw [q] at z'; cases z'
  ·rw [List.getElem?_append_right (by simpa using hi), List.length_map, List.getElem?_map] at z'
   cases q : ps[i - own.length]? with
   | none => rw [q] at z'; cases z'
   | some p =>
    rw [q] at z'
    have z2 : (m1.vs[p]?).join = some r := Option.some.inj z'
    have hv : m1.vs[p]? = some (some r) := by
     cases y : m1.vs[p]? with
     | none => rw [y] at z2; cases z2
     | some y' => rw [y] at z2; cases y' with
      | none => cases z2
      | some y' => cases z2; rfl
    obtain ⟨v, ev, rv⟩ := Rm.var p r hv
    refine ⟨v, ?_, rv⟩
    unfold compSt
    rw [List.getElem?_append_right (by simpa using hi), List.length_map, List.getElem?_map, q]
    show some ((σ[p]?).join) = some (some v)
    rw [ev]; rfl
 have hJ' : SrcOk K (α ++ [.L l]) (upd H1 l (.lst [])) s J := by
  unfold SrcOk at hJ ⊢
  cases e : s.own with
  | none =>
   rw [e] at hJ
   obtain ⟨C, wk, c0, cm⟩ := hJ
   exact ⟨C, wk, cm _ _ c0 pe, cm⟩
  | some j =>
   rw [e] at hJ
   obtain ⟨a, ea, wk⟩ := hJ
   exact ⟨a, by rw [List.getElem?_append_left (List.getElem?_eq_some_iff.mp ea).1]; exact ea, wk⟩
 have npq : m1.os.length < s.np (compM own ps m1) := by
  unfold Src.np
  split
  ·exact Nat.lt_succ_self _
  ·exact Nat.lt_of_lt_of_le (Nat.lt_succ_self _) (Nat.le_max_left _ _)
 refine loop_rd R0 hJ' h ⟨fun α' m' σ' H' q n R' x => ?_, fun _ _ _ _ _ _ z => z.elim, fun _ _ _ _ z => z.elim, fun _ _ _ _ z => z.elim⟩ fun α' m' σ' H' De' D' hp hnp R' h' k' => hb α' m' σ' H' De' D' ?_ (by rw [hnp]; exact npq) R' h' k'
 ·
  have n' : m'.np = m1.os.length + 1 := n
  have x' : Ext (m1.os.length + 1) (α ++ [.L l]) (upd H1 l (.lst [])) α' H' := x
  have F' : Frm α H1 H' := fun b o e nb => by
   have hbl : b ≠ l := ne_of_none e hl
   refine x'.frm b o (by rw [upd_ne hbl]; exact e) fun z => ?_
   rw [ads_append] at z
   rcases List.mem_append.mp z with z | z
   ·exact nb z
   ·exact hbl (by simpa [ads, Ao.ads] using z)
  have pe' : Pers H1 H' := Rl1.pers F'
  have same : ∀ k, k < m1.os.length + 1 → α'[k]? = (α ++ [.L l])[k]? := fun k hk => by
   have := congrArg (fun z => z[k]?) x'.pre
   simp only [List.getElem?_take, if_pos hk] at this
   exact this
  have hlen' : m1.os.length + 1 ≤ m'.os.length := by
   have := R'.npl
   rw [n', R'.len] at this
   exact this
  have hq : m1.os.length < m'.os.length := by omega
  have eq1 : m'.os[m1.os.length]? = some (m'.os.getD m1.os.length []) := by
   rw [List.getD_eq_getElem?_getD, List.getElem?_eq_getElem hq]; rfl
  obtain ⟨xs, y1, y2⟩ := R'.own m1.os.length (.L l) _ (by rw [same _ (Nat.lt_succ_self _)]; exact at0) eq1
  have own' : ∀ (k : Nat) (a : Ao) (es : List PyData), α[k]? = some a → (m'.os.take m1.os.length)[k]? = some es → OwnAt K H' a es := fun k a es z1 z2' => by
   rw [List.getElem?_take] at z2'
   have hk : k < m1.os.length := by rw [← hlen]; exact (List.getElem?_eq_some_iff.mp z1).1
   rw [if_pos hk] at z2'
   exact R'.own k a es (by rw [same k (by omega), List.getElem?_append_left (by omega)]; exact z1) z2'
  have tl : (m'.os.take m1.os.length).length = α.length := by rw [List.length_take]; omega
  have old' : Ext K.eb.np α H1 α H' := ⟨rfl, F', fun _ h => .inl h, fun a ha => by
   obtain ⟨k, ao, e1, hm⟩ := ads_at ha
   have hk : k < (m'.os.take m1.os.length).length := by rw [tl]; exact (List.getElem?_eq_some_iff.mp e1).1
   obtain ⟨o, q, _⟩ := (own' k ao _ e1 (List.getElem?_eq_getElem hk)).mem hm
   exact ⟨o, q⟩⟩
  refine fin _ _ (.ref l) H' q n1 ⟨Rl1.nd, tl.symm, own', Rl1.vlen, fun i r z => ?_, Rl1.npl, Rl1.ebl, Rl1.ebx.trans old'⟩ ?_ (F1.trans F')
  ·obtain ⟨v, ev, rv⟩ := Rl1.var i r z
   refine ⟨v, ev, ?_⟩
   cases r with
   | imm d => exact Den.mono pe' rv
   | obj k => exact rv
   | «at» k p => exact rv
   | new ds => exact rv
   | newT t => exact rv
  ·refine ⟨l, xs, rfl, ?_, y1, y2⟩
   cases z : H l with
   | none => rfl
   | some o =>
    have := F1 l o z pα
    rw [hl] at this; cases this
 ·have := congrArg (fun z => z[m1.os.length]?) hp
  simp only [List.getElem?_take, if_pos npq] at this
  rw [this]; exact at0
end
section
variable {X : Cx} {scope sc : Scope} {own fr : List Str} {ps : List Nat} {elt tg iter tg2 iter2 : Expr} {ifs ifs2 : List Expr} {pos spos py : Pos} {wi wi2 : WI} {g g2 : WG} {tt tt2 : WT} {we : WE}
theorem comp1_rd {σ : St} {H : Hp} {Q : VK} (h : tM X.kx (wComp1 wi own ps g tt we) σ H Q) : tComp (tMI X.kx wi) own ps (tl1 (tMG X.kx g) (tMT X.kx tt) (tM X.kx we)) σ H Q := by
 obtain ⟨α, m, Kc, Rl, hw, fin⟩ := h
 refine ⟨α, m, _, Rl, hw, fun s m1 J H1 k n1 Rl1 F1 hJ l hl => ?_⟩
 exact comp_rd Rl n1 Rl1 F1 hJ hl k fin fun α' m' σ' H' De' D' ha hnp R' h' k' => ift_rd R' h' k' fun m2 H2 n2 R2 h2 k2 => emit_rd ha R2 h2 k2
theorem me_comp1 (S : CompScope own fr scope sc) (hi : MI X tg iter wi) (hg : ∀ cl s H C ex, MG (cxComp X scope cl (own ++ fr) s H C ex) tg g) (ht : ∀ cl s H C ex, PTs (cxComp X scope cl (own ++ fr) s H C ex) ifs (tMT X.kx tt))
  (he : ∀ cl s H C ex, ME (cxComp X scope cl (own ++ fr) s H C ex) elt we) (hsc : X.env.scope = sc := by rfl) (hps : ps.map (fun i => X.N[i]?) = fr.map some := by rfl) (hc : X.calm = true := by rfl) (hs : ∀ x, foldedSetIterable iter X.env x = pure x := by intro _; rfl) :
  ME X (.ListComp elt [⟨tg, iter, ifs, 0⟩] scope pos) (wComp1 wi own ps g tt we) := (pe_comp1 S hi hg ht he hsc hps hc hs).wk fun _ _ _ h => comp1_rd h
theorem mts_nil : PTs X [] (tMT X.kx wNoTest) := fun pins s σ H Q I ⟨α, m, Kc, Rl, hw, fin⟩ => pts_nil pins s σ H Q I (fin true m H hw rfl Rl (Frm.refl _ _))
theorem ms_setc1 {i : Nat} {y : Str} (S : CompScope own fr scope sc) (hN : X.N.Nodup) (hy : X.N[i]? = some y) (hlc : X.env.scope.names.lookup y = some .local) (hi : MI X tg iter wi) (hg : ∀ cl s H C ex, MG (cxComp X scope cl (own ++ fr) s H C ex) tg g) (ht : ∀ cl s H C ex, PTs (cxComp X scope cl (own ++ fr) s H C ex) ifs (tMT X.kx tt))
  (he : ∀ cl s H C ex, ME (cxComp X scope cl (own ++ fr) s H C ex) elt we) (hsw : swapsWith (.ListComp elt [⟨tg, iter, ifs, 0⟩] scope pos) (some (.Name y py)) spos.line X.env = pure true := by rfl)
  (hsc : X.env.scope = sc := by rfl) (hps : ps.map (fun i => X.N[i]?) = fr.map some := by rfl) (hc : X.calm = true := by rfl) (hs : ∀ x, foldedSetIterable iter X.env x = pure x := by intro _; rfl) :
  MS X (.Assign [.Name y py] (.ListComp elt [⟨tg, iter, ifs, 0⟩] scope pos) spos) (wSet i (wComp1 wi own ps g tt we)) := (ps_setc1 S hN hy hlc hi hg ht he hsw hsc hps hc hs).wk fun D σ H ⟨α, m, De, Rl, hw, k⟩ =>
 comp1_rd ⟨α, m, _, Rl, hw, fun r m' v H' q n Rl' rr F => bind_rd (Q := D.nx) Rl' n F rr q k.nx ⟨m, σ, Rl⟩⟩
end
theorem str_of_den {K : Kd} {H : Hp} {i : Str} {v : V} (h : Den K H (.str i) v) : v = .str i := by simpa only [Den] using h
theorem bl_of_den {K : Kd} {H : Hp} {i : Bool} {v : V} (h : Den K H (.bool i) v) : v = .bl i := by simpa only [Den] using h
theorem rr_int {K : Kd} {α : Al} {Hb H : Hp} (i : Int) : RelR K α Hb H (.imm (.int i)) (.int i) := den_int (K := K) (H := H) i
theorem rr_bl {K : Kd} {α : Al} {Hb H : Hp} (i : Bool) : RelR K α Hb H (.imm (.bool i)) (.bl i) := den_bl (K := K) (H := H) i
theorem rr_str {K : Kd} {α : Al} {Hb H : Hp} (i : Str) : RelR K α Hb H (.imm (.str i)) (.str i) := den_str (K := K) (H := H) i
theorem rr_non {K : Kd} {α : Al} {Hb H : Hp} : RelR K α Hb H (.imm .none) .non := den_non (K := K) (H := H)
theorem rr_of {K : Kd} {α : Al} {Hb H : Hp} {d : PyData} {v : V} (h : Den K H d v) : RelR K α Hb H (.imm d) v := h
theorem tup_of_den {K : Kd} {H : Hp} {ds : List PyData} {v : V} (h : Den K H (.tuple ds) v) : ∃ a xs, v = .ref a ∧ SqT K H a xs ∧ DenAll K H ds xs := by simpa only [Den] using h
theorem den_tup {K : Kd} {H : Hp} {ds : List PyData} {a : Addr} {xs : List V} (f : SqT K H a xs) (g : DenAll K H ds xs) : Den K H (.tuple ds) (.ref a) := by simp only [Den]; exact ⟨a, xs, rfl, f, g⟩
section
variable {X : Cx}
def oAdd : WO
 | .imm (.int i), .imm (.int j), _, K => K (.imm (.int (i + j)))
 | .imm (.str x), .imm (.str y), _, K => x.length + y.length ≤ sizeLine ∧ K (.imm (.str (x ++ y)))
 | .imm (.tuple a), .imm (.tuple b), _, K => a.length + b.length ≤ sizeLine ∧ K (.imm (.tuple (a ++ b)))
 | r1, r2, m, K => ∃ xs ys, lsOf m r1 = some xs ∧ lsOf m r2 = some ys ∧ xs.length + ys.length ≤ sizeLine ∧ K (.new (xs ++ ys))
theorem op_addM : OpR X (binaryOp .Add) (rM X.kx oAdd) := by
 rintro pins s σ' H x y v u Q I rx ry ⟨α, m, σ, H0, H1, r1, r2, Kc, Rl, h1, h2, ho, fin⟩
 unfold oAdd at ho
 split at ho
 ·rename_i _ _ i j
  have e1 := int_of_den (show Den X.kx H (.int i) x from h1)
  have e2 := int_of_den (show Den X.kx H (.int j) y from h2)
  subst e1 e2
  exact op_add pins s σ' H _ _ v u Q I rx ry ⟨i, j, rfl, rfl, fin _ _ H ho Rl (rr_int _) (Frm.refl _ _)⟩
 ·rename_i _ _ i j
  have e1 := str_of_den (show Den X.kx H (.str i) x from h1)
  have e2 := str_of_den (show Den X.kx H (.str j) y from h2)
  subst e1 e2
  exact op_add_str pins s σ' H _ _ v u Q I rx ry ⟨i, j, rfl, rfl, ho.1, fin _ _ H ho.2 Rl (rr_str _) (Frm.refl _ _)⟩
 ·rename_i _ _ ds es
  obtain ⟨a, xs, rfl, f1, g1⟩ := tup_of_den (show Den X.kx H (.tuple ds) x from h1)
  obtain ⟨b, ys, rfl, f2, g2⟩ := tup_of_den (show Den X.kx H (.tuple es) y from h2)
  obtain ⟨hz, ho⟩ := ho
  by_cases hx : xs = []
  ·subst hx
   cases rx; cases ry
   obtain ⟨its, rv1, p1, _⟩ := I.tuple f1
   obtain ⟨its2, rv2, p2, _⟩ := I.tuple f2
   cases rv1
   obtain ⟨⟨cls, dd, data, sl⟩, ho1, hc, n, hd⟩ := id p1
   obtain ⟨⟨cls2, dd2, data2, sl2⟩, ho2, hc2, n2, hd2⟩ := id p2
   simp only at hc hd hc2 hd2
   subst hc hd hc2 hd2
   have e0 : ds = [] := by cases ds with | nil => rfl | cons _ _ => have := g1.length; simp at this
   subst e0
   exact concat_meets ⟨_, ho1, rfl⟩ ⟨_, ho2, rfl⟩ noFill_tuple_add seq_tuple_add PySem.F.slot_tuple_add PySem.F.entry_tuple_add (PySem.F.args_tuple_add_2 _ _)
    (tuple_addW0 a b _ its2.toArray n n2 dd dd2 sl sl2 (by simp)) ⟨ho1, ho2, ⟨.ref b, H, I, rfl, fin _ _ H ho Rl (show Den X.kx H (.tuple ([] ++ es)) (.ref b) from h2) (Frm.refl _ _)⟩⟩
  ·refine op_catT pins s σ' H _ _ v u Q I rx ry ⟨a, b, xs, ys, rfl, rfl, f1, f2, hx, by rw [← g1.length, ← g2.length]; exact hz, fun e => ?_, fun e p hp => ?_⟩
   ·subst e
    have e0 : es = [] := by cases es with | nil => rfl | cons _ _ => have := g2.length; simp at this
    subst e0
    exact fin _ _ H (by rw [List.append_nil] at ho; exact ho) Rl (rr_of h1) (Frm.refl _ _)
   ·exact fin _ _ _ ho (Rl.lay hp) (rr_of <| den_tup (SqT.of upd_same) ((g1.append g2).mono (pers_upd (.inl hp)))) (frm_upd hp)
 ·obtain ⟨ds, es, e1, e2, hz, ho⟩ := ho
  obtain ⟨a, xs, rfl, f1, g1⟩ := h1.list Rl e1
  obtain ⟨b, ys, rfl, f2, g2⟩ := h2.list Rl e2
  cases rx; cases ry
  obtain ⟨its, rv1, ⟨⟨cls, dd, data, sl⟩, n, ho1, hc, hdd, hd⟩, _⟩ := I.list f1
  obtain ⟨its2, rv2, ⟨⟨cls2, dd2, data2, sl2⟩, n2, ho2, hc2, hdd2, hd2⟩, _⟩ := I.list f2
  simp only at hc hd hc2 hd2
  subst hc hd hc2 hd2
  have hzz : xs.length + ys.length ≤ sizeLine := by rw [← g1.length, ← g2.length]; exact hz
  refine concat_meets ⟨_, ho1, rfl⟩ ⟨_, ho2, rfl⟩ noFill_list_add seq_list_add PySem.F.slot_list_add PySem.F.entry_list_add (PySem.F.args_list_add_2 _ _) (list_addW a b its.toArray its2.toArray n n2 dd dd2 sl sl2 (by have := rv1.length; have := rv2.length; simp only [List.size_toArray]; omega)) ⟨ho1, ho2, ?_⟩
  have ea : its.toArray ++ its2.toArray = (its ++ its2).toArray := by simp
  rw [ea]
  have hp : H s.heap.objs.size = none := I.fresh
  exact ⟨.ref _, _, I.lnew (t' := s.toks) (rv1.append rv2) (by rw [List.length_append]; omega), rfl, fin _ _ _ ho (Rl.lay hp) ⟨_, xs ++ ys, rfl, hp, upd_same, (g1.append g2).mono (pers_upd (.inl hp))⟩ (frm_upd hp)⟩
def oII (C : Int → Int → Prop) (g : Int → Int → Int) : WO
 | .imm (.int i), .imm (.int j), _, K => C i j ∧ K (.imm (.int (g i j)))
 | _, _, _, _ => False
def oIB (g : Int → Int → Bool) : WO
 | .imm (.int i), .imm (.int j), _, K => K (.imm (.bool (g i j)))
 | _, _, _, _ => False
theorem oII_ok {f : Value → Value → Sem Value} {C : Int → Int → Prop} {g : Int → Int → Int} (h : OpR X f (rI C fun i j => .int (g i j))) : OpR X f (rM X.kx (oII C g)) := by
 rintro pins s σ' H x y v u Q I rx ry ⟨α, m, σ, H0, H1, r1, r2, Kc, Rl, h1, h2, ho, fin⟩
 unfold oII at ho
 split at ho
 ·rename_i _ _ i j
  have e1 := int_of_den (show Den X.kx H (.int i) x from h1)
  have e2 := int_of_den (show Den X.kx H (.int j) y from h2)
  subst e1 e2
  exact h pins s σ' H _ _ v u Q I rx ry ⟨i, j, rfl, rfl, ho.1, fin _ _ H ho.2 Rl (rr_int _) (Frm.refl _ _)⟩
 ·exact ho.elim
theorem oIB_ok {f : Value → Value → Sem Value} {g : Int → Int → Bool} (h : OpR X f (rI0 fun i j => .bl (g i j))) : OpR X f (rM X.kx (oIB g)) := by
 rintro pins s σ' H x y v u Q I rx ry ⟨α, m, σ, H0, H1, r1, r2, Kc, Rl, h1, h2, ho, fin⟩
 unfold oIB at ho
 split at ho
 ·rename_i _ _ i j
  have e1 := int_of_den (show Den X.kx H (.int i) x from h1)
  have e2 := int_of_den (show Den X.kx H (.int j) y from h2)
  subst e1 e2
  exact h pins s σ' H _ _ v u Q I rx ry ⟨i, j, rfl, rfl, fin _ _ H ho Rl (rr_bl _) (Frm.refl _ _)⟩
 ·exact ho.elim
def oSub : WO := oII (fun _ _ => True) fun i j => i - j
theorem op_subM : OpR X (binaryOp .Sub) (rM X.kx oSub) := oII_ok (opI fun _ _ _ _ _ _ _ _ q => sub_int q)
def oMul : WO := oII IntMulOk fun i j => i * j
theorem op_mulM : OpR X (binaryOp .Mult) (rM X.kx oMul) := oII_ok (opI fun _ _ _ _ _ _ _ hc q => mul_int q hc)
def CFd (_ j : Int) : Prop := 0 < j ∧ j.natAbs.log2 < 9000
def oFdiv : WO := oII CFd fun i j => i / j
theorem op_fdivM : OpR X (binaryOp .FloorDiv) (rM X.kx oFdiv) := oII_ok (opI fun i j _ _ _ _ _ hc q => floordiv_int (by have := hc.1; omega) (by rw [Int.fdiv_eq_ediv_of_nonneg _ (by have := hc.1; omega)]; exact q) (.inl (PyProof.noPylong_of_log2 hc.2)))
def oMod : WO := oII (fun _ j => 0 < j) fun i j => i % j
theorem op_modM : OpR X (binaryOp .Mod) (rM X.kx oMod) := oII_ok op_mod
def oPow : WO := oII CPow fun i j => i ^ j.toNat
theorem op_powM : OpR X (binaryOp .Pow) (rM X.kx oPow) := oII_ok op_pow
def oLt : WO := oIB fun i j => decide (i < j)
def oGt : WO := oIB fun i j => decide (j < i)
def oGe : WO := oIB fun i j => decide (j ≤ i)
theorem op_ltM : OpR X (compareOp .Lt) (rM X.kx oLt) := oIB_ok op_lt
theorem op_gtM : OpR X (compareOp .Gt) (rM X.kx oGt) := oIB_ok op_gt
theorem op_geM : OpR X (compareOp .GtE) (rM X.kx oGe) := oIB_ok op_ge
def eqD (f : Bool → Bool) : WO := fun r1 r2 m K => match asD m r1, asD m r2 with
 | some d1, some d2 => SeqAt.shaped d1 = true ∧ SeqAt.shaped d2 = true ∧ K (.imm (.bool (f (PyData.eqv d1 d2))))
 | _, _ => False
def eqS (f : Bool → Bool) : WO := fun r1 r2 m K => ∃ x y : Str, r1 = .imm (.str x) ∧ r2 = .imm (.str y) ∧ K (.imm (.bool (f (decide (x = y)))))
def eqSs (f : Bool → Bool) : WO := fun r1 r2 m K => ∃ xs ys : List Str, lsOf m r1 = some (xs.map .str) ∧ lsOf m r2 = some (ys.map .str) ∧ xs.length = ys.length ∧ K (.imm (.bool (f (decide (xs = ys)))))
def oEq : WO := fun r1 r2 m K => eqD id r1 r2 m K ∨ eqS id r1 r2 m K ∨ eqSs id r1 r2 m K
def oNe : WO := fun r1 r2 m K => eqD (!·) r1 r2 m K ∨ eqS (!·) r1 r2 m K
theorem denAll_strs {K : Kd} {H : Hp} : ∀ {ns : List Str} {xs : List V}, DenAll K H (ns.map .str) xs → xs = ns.map V.str
 | [], _, h => by simpa only [List.map_nil, DenAll] using h
 | n :: ns, _, h => by
  simp only [List.map_cons, DenAll] at h
  obtain ⟨v, vs, rfl, h1, h2⟩ := h
  have e := str_of_den (K := K) (H := H) h1
  rw [e, denAll_strs h2]; rfl
theorem vals_str : ∀ {ns : List Str} {us : List Value} {j : Nat} {u : Value}, Vals (ns.map V.str) us → us[j]? = some u → ∃ x t, ns[j]? = some x ∧ u = .str x t
 | [], _, _, _, .nil, e => by simp at e
 | n :: ns, _, 0, _, .cons r _, e => by
  simp at e; subst e
  obtain ⟨t, h⟩ := r
  exact ⟨n, t, rfl, h⟩
 | n :: ns, _, j + 1, u, .cons _ t, e => by
  obtain ⟨x, tk, h1, h2⟩ := vals_str (j := j) (u := u) t (by simpa using e)
  exact ⟨x, tk, by simpa using h1, h2⟩
theorem all_eq_strs (xs ys : List Str) (h : xs.length = ys.length) : (List.range xs.length).all (fun j => decide (xs.getD j Str.empty = ys.getD j Str.empty)) = decide (xs = ys) := by
 rw [Bool.eq_iff_iff, List.all_eq_true, decide_eq_true_eq]
 constructor
 ·intro q
  apply List.ext_getElem h
  intro i h1 h2
  have := q i (by simpa using h1)
  rw [decide_eq_true_eq, List.getD_eq_getElem?_getD, List.getD_eq_getElem?_getD, List.getElem?_eq_getElem h1, List.getElem?_eq_getElem h2] at this
  exact this
 ·rintro rfl j _
  exact decide_eq_true rfl
theorem eq_strs {pins : List (Addr × Obj)} {s : Shared} {σ' σ : St} {H H0 H1 : Hp} {x y : V} {v u : Value} {α : Al} {m : MSt} {r1 r2 : R} {xs ys : List Str} (I : Inv X pins σ' H s) (Rl : Rel X.kx α m σ H) (h1 : RelR X.kx α H0 H r1 x) (h2 : RelR X.kx α H1 H r2 y) (rx : RelV x v) (ry : RelV y u)
  (e1 : lsOf m r1 = some (xs.map .str)) (e2 : lsOf m r2 = some (ys.map .str)) (hl : xs.length = ys.length) (hu : X.A.units + 64 < cLine) : ∃ l b its its2, v = .ref l ∧ u = .ref b ∧ s.heap.IsList l its ∧ s.heap.IsList b its2 ∧ its.size = xs.length ∧ its2.size = xs.length ∧
   ∀ j (z1 : j < its.size) (z2 : j < its2.size), SeqAt.EqAt X.A.in1 s its[j] its2[j] (decide (xs.getD j Str.empty = ys.getD j Str.empty)) := by
 obtain ⟨a, zs, rfl, f1, g1⟩ := h1.list Rl e1
 obtain ⟨b, ws, rfl, f2, g2⟩ := h2.list Rl e2
 have q1 := denAll_strs g1
 have q2 := denAll_strs g2
 subst q1 q2
 cases rx; cases ry
 obtain ⟨its, rv1, p1, _⟩ := I.list f1
 obtain ⟨its2, rv2, p2, _⟩ := I.list f2
 have l1 := rv1.length
 have l2 := rv2.length
 rw [List.length_map] at l1 l2
 refine ⟨a, b, its.toArray, its2.toArray, rfl, rfl, p1.isList, p2.isList, by simp [l1], by simp [← l2, hl], fun j z1 z2 => ?_⟩
 obtain ⟨x, t, h3, h4⟩ := vals_str rv1 (j := j) (u := its.toArray[j]) (by rw [List.getElem_toArray, List.getElem?_eq_getElem])
 obtain ⟨y, t', h5, h6⟩ := vals_str rv2 (j := j) (u := its2.toArray[j]) (by rw [List.getElem_toArray, List.getElem?_eq_getElem])
 rw [h4, h6, List.getD_eq_getElem?_getD, List.getD_eq_getElem?_getD, h3, h5]
 have := SeqAt.EqAt.str_str (A := X.A.in1) (s := s) x t y t'
 have e : (x == y) = decide (x = y) := by rw [Bool.beq_eq_decide_eq]
 rw [e] at this
 exact this
theorem op_eqM (hu : X.A.units + 64 < cLine) : OpR X (compareOp .Eq) (rM X.kx oEq) := by
 rintro pins s σ' H x y v u Q I rx ry ⟨α, m, σ, H0, H1, r1, r2, Kc, Rl, h1, h2, ho, fin⟩
 rcases ho with ho | ⟨z, t, rfl, rfl, ho⟩ | ⟨xs, ys, e1, e2, hl, ho⟩
 ·unfold eqD at ho
  split at ho
  ·rename_i d1 d2 e1 e2
   obtain ⟨as, q1⟩ := h1.reads I Rl rx e1 (PyData.hasDict_of_canLay _ (SeqAt.canLay_of_shaped ho.1))
   obtain ⟨bs, q2⟩ := h2.reads I Rl ry e2 (PyData.hasDict_of_canLay _ (SeqAt.canLay_of_shaped ho.2.1))
   exact eq_dataH q1 q2 ho.1 ho.2.1 hu ⟨.bl _, H, I, rfl, fin _ _ H ho.2.2 Rl (rr_bl _) (Frm.refl _ _)⟩
  ·exact ho.elim
 ·have e1 := str_of_den (show Den X.kx H (.str z) x from h1)
  have e2 := str_of_den (show Den X.kx H (.str t) y from h2)
  subst e1 e2
  refine op_eq pins s σ' H _ _ v u Q I rx ry ⟨rfl, ?_⟩
  rw [dec_str, Bool.beq_eq_decide_eq]
  exact fin _ _ H ho Rl (rr_bl _) (Frm.refl _ _)
 ·obtain ⟨l, b, its, its2, rfl, rfl, p1, p2, s1, s2, he⟩ := eq_strs I Rl h1 h2 rx ry e1 e2 hl hu
  refine SeqAt.eq_listAt p1 p2 (s1.trans s2.symm) (by omega) he ?_
  rw [s1, all_eq_strs xs ys hl]
  exact ⟨.bl _, H, I, rfl, fin _ _ H ho Rl (rr_bl _) (Frm.refl _ _)⟩
theorem op_neM (hu : X.A.units + 64 < cLine) : OpR X (compareOp .NotEq) (rM X.kx oNe) := by
 rintro pins s σ' H x y v u Q I rx ry ⟨α, m, σ, H0, H1, r1, r2, Kc, Rl, h1, h2, ho, fin⟩
 rcases ho with ho | ⟨z, t, rfl, rfl, ho⟩
 ·unfold eqD at ho
  split at ho
  ·rename_i d1 d2 e1 e2
   obtain ⟨as, q1⟩ := h1.reads I Rl rx e1 (PyData.hasDict_of_canLay _ (SeqAt.canLay_of_shaped ho.1))
   obtain ⟨bs, q2⟩ := h2.reads I Rl ry e2 (PyData.hasDict_of_canLay _ (SeqAt.canLay_of_shaped ho.2.1))
   exact ne_dataH q1 q2 ho.1 ho.2.1 hu ⟨.bl _, H, I, rfl, fin _ _ H ho.2.2 Rl (rr_bl _) (Frm.refl _ _)⟩
  ·exact ho.elim
 ·have e1 := str_of_den (show Den X.kx H (.str z) x from h1)
  have e2 := str_of_den (show Den X.kx H (.str t) y from h2)
  subst e1 e2
  refine op_ne pins s σ' H _ _ v u Q I rx ry ⟨rfl, ?_⟩
  rw [dec_str, Bool.beq_eq_decide_eq]
  exact fin _ _ H ho Rl (rr_bl _) (Frm.refl _ _)
def uNeg : WU
 | .imm (.int i), _, K => K (.imm (.int (-i)))
 | _, _, _ => False
theorem un_negM : UnR X (unaryOp .USub) (uM X.kx uNeg) := by
 rintro pins s σ' H x v Q I rx ⟨α, m, σ, H0, r1, Kc, Rl, h1, ho, fin⟩
 unfold uNeg at ho
 split at ho
 ·rename_i _ i
  have e1 := int_of_den (show Den X.kx H (.int i) x from h1)
  subst e1
  exact un_neg pins s σ' H _ v Q I rx ⟨i, rfl, fin _ _ H ho Rl (rr_int _) (Frm.refl _ _)⟩
 ·exact ho.elim
def itemAt (m : MSt) (K : R → Prop) : R → R → Prop
 | .imm (.tuple ds), .imm (.int i) => ∃ d, atI ds i = some d ∧ K (.imm d)
 | .imm (.str x), .imm (.int i) => ∃ c, x.length ≤ sizeLine ∧ atI x.cps.toList i = some c ∧ K (.imm (.str ⟨#[c]⟩))
 | r, .imm (.int i) => ∃ ds d, lsOf m r = some ds ∧ atI ds i = some d ∧ K (.imm d)
 | _, _ => False
def oItem : WO := fun r1 r2 m K => itemAt m K r1 r2
theorem atI_den {K : Kx} {H : Hp} {ds : List PyData} {xs : List V} {i : Int} {d : PyData} (g : DenAll K H ds xs) (e : atI ds i = some d) : ∃ v, atI xs i = some v ∧ Den K H d v := by
 unfold atI at e ⊢
 rw [← g.length]
 cases q : ixN ds.length i with
 | none => rw [q] at e; cases e
 | some j =>
  rw [q] at e
  obtain ⟨v, h1, h2⟩ := g.get (show ds[j]? = some d from e)
  exact ⟨v, h1, h2⟩
theorem ix_item : IxR X (rM X.kx oItem) := by
 rintro value slice pins s σ' H x y v u Q I rx ry ⟨α, m, σ, H0, H1, r1, r2, Kc, Rl, h1, h2, ho, fin⟩ hsub
 have ho' : itemAt m Kc r1 r2 := ho
 unfold itemAt at ho'
 split at ho'
 ·rename_i ds i
  obtain ⟨d, e, k⟩ := ho'
  obtain ⟨a, xs, rfl, f, g⟩ := tup_of_den (show Den X.kx H (.tuple ds) x from h1)
  have e2 := int_of_den (show Den X.kx H (.int i) y from h2)
  obtain ⟨z, z1, z2⟩ := atI_den g e
  exact ix_tup value slice pins s σ' H _ _ v u Q I rx ry ⟨a, xs, i, z, rfl, e2, f, z1, fin _ _ H k Rl (rr_of z2) (Frm.refl _ _)⟩ hsub
 ·rename_i w i
  obtain ⟨c, hz, e, k⟩ := ho'
  have e1 := str_of_den (show Den X.kx H (.str w) x from h1)
  have e2 := int_of_den (show Den X.kx H (.int i) y from h2)
  exact ix_str value slice pins s σ' H _ _ v u Q I rx ry ⟨w, i, c, e1, e2, hz, e, fin _ _ H k Rl (rr_str _) (Frm.refl _ _)⟩ hsub
 ·rename_i i _ _
  obtain ⟨ds, d, el, e, k⟩ := ho'
  obtain ⟨a, xs, rfl, f, g⟩ := h1.list Rl el
  have e2 := int_of_den (show Den X.kx H (.int i) y from h2)
  obtain ⟨z, z1, z2⟩ := atI_den g e
  exact ix_list value slice pins s σ' H _ _ v u Q I rx ry ⟨a, xs, i, z, rfl, e2, f, z1, fin _ _ H k Rl (rr_of z2) (Frm.refl _ _)⟩ hsub
 ·exact ho'.elim
theorem me_ix {a b : Expr} {wa wb : WE} {pos : Pos} (ha : ME X a wa) (hb : ME X b wb) (hs : PlainIx b := by intro _ _; rfl) : ME X (.Subscript a b pos) (wBin oItem wa wb) := (pe_ix ix_item ha hb hs).wk fun _ _ _ h => bin_rd h
end
def onInt (P : Int → Prop) : R → Prop
 | .imm (.int i) => P i
 | _ => False
def onObj (P : Nat → Prop) : R → Prop
 | .obj k => P k
 | _ => False
def on1 (P : R → Prop) : List R → Prop
 | [r] => P r
 | _ => False
section
variable {K : Kx} {α : Al} {Hb H : Hp} {r : R} {v : V}
theorem on_int {P : Int → Prop} (rr : RelR K α Hb H r v) (h : onInt P r) : ∃ i, r = .imm (.int i) ∧ v = .int i ∧ P i := by
 unfold onInt at h
 split at h
 ·exact ⟨_, rfl, int_of_den (K := K) (H := H) rr, h⟩
 ·exact h.elim
theorem on_obj {P : Nat → Prop} (rr : RelR K α Hb H r v) (h : onObj P r) : ∃ k a, r = .obj k ∧ α[k]? = some (.L a) ∧ v = .ref a ∧ P k := by
 unfold onObj at h
 split at h
 ·obtain ⟨a, e1, e2⟩ := rr
  exact ⟨_, a, rfl, e1, e2, h⟩
 ·exact h.elim
theorem on_one {P : R → Prop} {rs : List R} {xs : List V} (rr : RelRs K α Hb H rs xs) (h : on1 P rs) : ∃ r v, rs = [r] ∧ xs = [v] ∧ RelR K α Hb H r v ∧ P r := by
 cases rr with
 | nil => exact h.elim
 | cons h1 t =>
  cases t with
  | nil => exact ⟨_, _, rfl, rfl, h1, h⟩
  | cons _ _ => exact h.elim
end
section
variable {X : Cx} {o a b c e : Expr} {es : List Expr} {wo wa wb wc we wi : WE} {ws : WA} {pos apos cpos : Pos}
abbrev WM := R → List R → MSt → (R → MSt → Prop) → Prop
def mM (K : Kx) (ob : WM) : V → List V → Hp → VK → Prop := fun x xs H Q => ∃ α m σ H0 H1 r rs Kc, Rel K α m σ H ∧ RelR K α H0 H r x ∧ RelRs K α H1 H rs xs ∧ ob r rs m Kc ∧ ∀ r m' v H', Kc r m' → m'.np = m.np → Rel K α m' σ H' → RelR K α H H' r v → Frm α H H' → Q v H'
def wML (ob : WM) (wo : WE) (ws : WA) : WE := fun m K => wo m fun r m1 => (∃ ds, lsOf m1 r = some ds) ∧ ws m1 fun rs m2 => ob r rs m2 K
theorem ml_rd {ob : WM} {σ : St} {H : Hp} {Q : VK} (h : tM X.kx (wML ob wo ws) σ H Q) : tBM X.K "list" (mM X.kx ob) (tM X.kx wo) (tMA X.kx ws) σ H Q := by
 obtain ⟨α, m, Kc, Rl, hw, fin⟩ := h
 refine ⟨α, m, _, Rl, hw, fun r m1 v H1 k n1 Rl1 rr F1 => ?_⟩
 obtain ⟨⟨ds, el⟩, k⟩ := k
 obtain ⟨a, xs, rfl, f, g⟩ := rr.list Rl1 el
 refine ⟨.inl ⟨rfl, xs, f⟩, α, m1, _, Rl1, k, fun rs m2 vs H2 k2 n2 Rl2 rr2 F2 => ?_⟩
 exact ⟨α, m2, σ, H, H1, r, rs, Kc, Rl2, rr.keep Rl Rl1 F2, rr2, k2, fun r m' v H' k n Rl' rr' F => fin r m' v H' k (n.trans (n2.trans n1)) Rl' (rr'.base Rl2 (F1.trans F2)) ((F1.trans F2).trans F)⟩
theorem me_ml {name : Str} {id : String} {ob : WM} (slot : Slot "list" name id) (hty : typeOf (.builtin id) = pure (.type "method_descriptor")) (hm : MtM X id (mM X.kx ob)) (ho : ME X o wo) (ha : MA X (e :: es) ws)
  (hbase : attributeBase o name X.env (eval o X.env) = eval o X.env := by rfl)
  (hfew : ((backTo cpos (starEach (e :: es) X.env)).all (fun x => !x.1) && (backToKw cpos (keywordEach [] X.env)).all (fun x => x.1.isSome)
   && decide ((e :: es).length + ([] : List Keyword).length + (if ([] : List Keyword).isEmpty then 0 else 1) < 30)) = true := by rfl)
  (hline : (apos.endLine == cpos.line) = true := by rfl) (hs : starEach (e :: es) X.env = (false, eval e X.env) :: starEach es X.env := by first | exact star_cons rfl | rfl) (hplain : (backTo cpos (starEach es X.env)).any (·.1) = false := by rfl) :
  ME X (.Call (.Attribute o name apos) (e :: es) [] cpos) (wML ob wo ws) := (pe_bm PySem.F.plainAttrs_list slot hty hm ho ha hbase hfew hline hs hplain).wk fun _ _ _ h => ml_rd h
def lenR (m : MSt) (K : R → Prop) : R → Prop
 | .imm (.str x) => x.length ≤ sizeLine ∧ K (.imm (.int x.length))
 | .imm (.tuple ds) => K (.imm (.int ds.length))
 | r => ∃ ds, lsOf m r = some ds ∧ K (.imm (.int ds.length))
def oLen : WC := fun rs m K => on1 (lenR m K) rs
theorem call_lenM : CallR X (.builtin "len") (cM X.kx oLen) := by
 rintro pins s σ' H xs us Q I rv ⟨α, m, σ, H0, rs, Kc, Rl, h, ho, fin⟩
 obtain ⟨r, v, rfl, rfl, h1, ho⟩ := on_one h ho
 unfold lenR at ho
 split at ho
 ·rename_i x _
  have e := str_of_den (show Den X.kx H (.str x) _ from h1)
  subst e
  exact call_len_str pins s σ' H _ us Q I rv ⟨x, rfl, ho.1, fin _ _ H ho.2 Rl (rr_int _) (Frm.refl _ _)⟩
 ·rename_i ds _
  obtain ⟨a, ys, rfl, f, g⟩ := tup_of_den (show Den X.kx H (.tuple ds) _ from h1)
  exact call_len_seq pins s σ' H _ us Q I rv ⟨a, ys, rfl, .inr f, by rw [← g.length]; exact fin _ _ H ho Rl (rr_int _) (Frm.refl _ _)⟩
 ·obtain ⟨ds, el, ho⟩ := ho
  obtain ⟨a, ys, rfl, f, g⟩ := h1.list Rl el
  exact call_len_seq pins s σ' H _ us Q I rv ⟨a, ys, rfl, .inl f, by rw [← g.length]; exact fin _ _ H ho Rl (rr_int _) (Frm.refl _ _)⟩
def sqOf (m : MSt) : R → Option (List PyData)
 | .imm (.tuple ds) => some ds
 | r => lsOf m r
theorem RelR.seq {K : Kx} {α : Al} {m : MSt} {σ : St} {H H0 : Hp} {r : R} {v : V} (Rl : Rel K α m σ H) (h : RelR K α H0 H r v) {ds : List PyData} (e : sqOf m r = some ds) : ∃ a xs, v = .ref a ∧ (SqL K H a xs ∨ SqT K H a xs) ∧ DenAll K H ds xs := by
 unfold sqOf at e
 split at e
 ·cases e
  obtain ⟨a, ys, e, f, g⟩ := tup_of_den (show Den K H (.tuple ds) _ from h)
  exact ⟨a, ys, e, .inr f, g⟩
 ·obtain ⟨a, ys, e, f, g⟩ := h.list Rl e
  exact ⟨a, ys, e, .inl f, g⟩
def oTuple : WC := fun rs m K => on1 (fun r => ∃ ds, sqOf m r = some ds ∧ K (.imm (.tuple ds))) rs
theorem call_tupleM : CallR X (.type "tuple") (cM X.kx oTuple) := by
 rintro pins s σ' H xs us Q I rv ⟨α, m, σ, H0, rs, Kc, Rl, h, ho, fin⟩
 obtain ⟨r, v, rfl, rfl, h1, ho⟩ := on_one h ho
 ·obtain ⟨ds, e, ho⟩ := ho
  obtain ⟨a, ys, rfl, f, g⟩ := h1.seq Rl e
  refine call_tuple_of pins s σ' H _ us Q I rv ⟨a, ys, rfl, ?_⟩
  rcases f with f | f
  ·exact .inl ⟨f, fun l hl => fin _ _ _ ho (Rl.lay hl) (rr_of (den_tup (SqT.of upd_same) (g.mono (pers_upd (.inl hl))))) (frm_upd hl)⟩
  ·exact .inr ⟨f, fin _ _ _ ho Rl (rr_of (den_tup f g)) (Frm.refl _ _)⟩
def sM (K : Kx) (o : R → Option Int → Option Int → MSt → (R → Prop) → Prop) : V → Option Int → Option Int → Hp → VK → Prop := fun x lo hi H Q => ∃ α m σ H0 r Kc, Rel K α m σ H ∧ RelR K α H0 H r x ∧ o r lo hi m Kc ∧ ∀ r v H', Kc r → Rel K α m σ H' → RelR K α H H' r v → Frm α H H' → Q v H'
def cutD (xs : List PyData) (lo hi : Option Int) : List PyData := (xs.drop (HT.sIx xs.length 0 lo)).take (HT.sIx xs.length xs.length hi - HT.sIx xs.length 0 lo)
theorem cut_den {K : Kd} {H : Hp} {ds : List PyData} {xs : List V} (g : DenAll K H ds xs) (lo hi : Option Int) : DenAll K H (cutD ds lo hi) (cutV xs lo hi) := by
 unfold cutD cutV
 rw [← g.length]
 exact (g.drop _).take _
def oCutL : R → Option Int → Option Int → MSt → (R → Prop) → Prop := fun r lo hi m K => ∃ ds, lsOf m r = some ds ∧ K (.new (cutD ds lo hi))
theorem sl_listM : SlR X (sM X.kx oCutL) := by
 intro pins s σ' H x v vl vu lo hi sl Q I rx hs pl pu hq
 obtain ⟨α, m, σ, H0, r, Kc, Rl, h, ⟨ds, e, k⟩, fin⟩ := hq
 obtain ⟨a, ys, rfl, f, g⟩ := h.list Rl e
 exact sl_list pins s σ' H _ v vl vu lo hi sl Q I rx hs pl pu ⟨a, ys, rfl, f, fun p hp => fin _ _ _ k (Rl.lay hp) ⟨p, _, rfl, hp, upd_same, (cut_den g lo hi).mono (pers_upd (.inl hp))⟩ (frm_upd hp)⟩
def WO1 := MSt → (Option Int → MSt → Prop) → Prop
def tMO (K : Kx) (w : WO1) : TO := fun σ H Q => ∃ α m Kc, Rel K α m σ H ∧ w m Kc ∧ ∀ r m' H', Kc r m' → m'.np = m.np → Rel K α m' σ H' → Frm α H H' → Q r H'
def wNoPart : WO1 := fun m K => K none m
def wPart (w : WE) : WO1 := fun m K => w m fun r m' => onInt (fun i => K (some i) m') r
theorem PO.wk {X : Cx} {e : Option Expr} {t t' : TO} (h : PO X e t) (k : ∀ σ H Q, t' σ H Q → t σ H Q) : PO X e t' := fun pins s σ H Q I q => h pins s σ H Q I (k _ _ _ q)
abbrev MO (X : Cx) (e : Option Expr) (w : WO1) : Prop := PO X e (tMO X.kx w)
theorem mo_none : MO X none wNoPart := (po_none (X := X)).wk fun σ H Q ⟨α, m, Kc, Rl, hw, fin⟩ => fin none m H hw rfl Rl (Frm.refl _ _)
theorem mo_some (he : ME X e we) : MO X (some e) (wPart we) := (po_some he).wk fun σ H Q ⟨α, m, Kc, Rl, hw, fin⟩ => by
 refine ⟨α, m, _, Rl, hw, fun r m1 v H1 k n1 Rl1 rr F1 => ?_⟩
 obtain ⟨i, rfl, rfl, k⟩ := on_int rr k
 exact ⟨i, rfl, fin _ m1 H1 k n1 Rl1 F1⟩
def wSl (ob : R → Option Int → Option Int → MSt → (R → Prop) → Prop) (we : WE) (wl wh : WO1) : WE := fun m K => we m fun r m1 => wl m1 fun l m2 => wh m2 fun u m3 => ob r l u m3 fun r' => K r' m3
theorem me_slice {lo hi : Option Expr} {wl wh : WO1} {p2 : Pos} {ob : R → Option Int → Option Int → MSt → (R → Prop) → Prop} (hr : SlR X (sM X.kx ob)) (he : ME X e we) (hl : MO X lo wl) (hu : MO X hi wh) : ME X (.Subscript e (.Slice lo hi none p2) pos) (wSl ob we wl wh) := (pe_slice hr he hl hu).wk fun σ H Q ⟨α, m, Kc, Rl, hw, fin⟩ =>
 ⟨α, m, _, Rl, hw, fun r m1 v H1 k n1 Rl1 rr F1 => ⟨α, m1, _, Rl1, k, fun l m2 H2 k2 n2 Rl2 F2 => ⟨α, m2, _, Rl2, k2, fun u m3 H3 k3 n3 Rl3 F3 => ⟨α, m3, σ, H, r, _, Rl3, (rr.keep Rl Rl1 F2).keep Rl Rl2 F3, k3, fun r' v' H' k4 Rl4 rr4 F4 => fin r' m3 v' H' k4 (n3.trans (n2.trans n1)) Rl4 (rr4.base Rl3 ((F1.trans F2).trans F3)) (((F1.trans F2).trans F3).trans F4)⟩⟩⟩⟩
end
def agV : Nat → List Ag → List (Option R)
 | _, [] => []
 | k, .imm d :: as => some (.imm d) :: agV k as
 | k, .own _ :: as => some (.obj k) :: agV (k + 1) as
 | k, .tr _ :: as => some (.at k []) :: agV (k + 1) as
def agO : List Ag → List (List PyData)
 | [] => []
 | .imm _ :: as => agO as
 | .own ds :: as => ds :: agO as
 | .tr t :: as => [t] :: agO as
def mstart (n : Nat) (as : List Ag) : MSt := ⟨agV 0 as ++ List.replicate (n - as.length) none, agO as, (agO as).length⟩
def outR (m : MSt) : R → R
 | .imm d => .imm d
 | .new ds => .new ds
 | .newT t => .newT t
 | .obj k => if k < m.np then .obj k else .new (m.os.getD k [])
 | .at k p => if k < m.np then .at k p else match p, m.os[k]? with
  | [], some [t] => .newT t
  | _, _ => .at k p
theorem agV_length : ∀ (k : Nat) (as : List Ag), (agV k as).length = as.length
 | _, [] => rfl
 | k, .imm d :: as => by simp [agV, agV_length k as]
 | k, .own _ :: as => by simp [agV, agV_length (k + 1) as]
 | k, .tr _ :: as => by simp [agV, agV_length (k + 1) as]
section
variable {K : Kx} {H : Hp}
theorem RelAs.facts {K : Kd} : ∀ {as : List Ag} {vs : List V} {β : Al} {pre : Al}, RelAs K H as vs β →
  (agO as).length = β.length ∧ (∀ (k : Nat) (ao : Ao) (ds : List PyData), β[k]? = some ao → (agO as)[k]? = some ds → OwnAt K H ao ds) ∧
   ∀ (i : Nat) (r : R), (agV pre.length as)[i]? = some (some r) → ∃ v, vs[i]? = some v ∧ RelS K (pre ++ β) H r v
 | _, _, _, _, .nil => ⟨rfl, fun k a ds h => by simp at h, fun i r h => by simp [agV] at h⟩
 | _, _, β, pre, .imm (as := as) hd t => by
  obtain ⟨h1, h2, h3⟩ := t.facts (pre := pre)
  refine ⟨h1, h2, fun i r h => ?_⟩
  cases i with
  | zero => simp [agV] at h; subst h; exact ⟨_, rfl, hd⟩
  | succ i =>
   obtain ⟨v, e, q⟩ := h3 i r (by simpa [agV] using h)
   exact ⟨v, by simpa using e, q⟩
 | _, _, _, pre, .own (a := a) (β := β) ha t => by
  obtain ⟨h1, h2, h3⟩ := t.facts (pre := pre ++ [.L a])
  refine ⟨by simp [agO, h1], fun k b ds z1 z2 => ?_, fun i r h => ?_⟩
  ·cases k with
   | zero => simp [agO] at z1 z2; subst z1; subst z2; exact ha
   | succ k => exact h2 k b ds (by simpa using z1) (by simpa [agO] using z2)
  ·cases i with
   | zero => simp [agV] at h; subst h; exact ⟨_, rfl, a, by simp, rfl⟩
   | succ i =>
    obtain ⟨v, e, q⟩ := h3 i r (by simpa [agV] using h)
    refine ⟨v, by simpa using e, ?_⟩
    rw [List.append_assoc] at q
    exact q
 | _, _, _, pre, .tr (a := a) (τ := τ) (β := β) ha el t => by
  obtain ⟨h1, h2, h3⟩ := t.facts (pre := pre ++ [.T τ])
  refine ⟨by simp [agO, h1], fun k b ds z1 z2 => ?_, fun i r h => ?_⟩
  ·cases k with
   | zero => simp [agO] at z1 z2; subst z1; subst z2; exact ha
   | succ k => exact h2 k b ds (by simpa using z1) (by simpa [agO] using z2)
  ·cases i with
   | zero => simp [agV] at h; subst h; exact ⟨_, rfl, τ, a, by simp, el, rfl⟩
   | succ i =>
    obtain ⟨v, e, q⟩ := h3 i r (by simpa [agV] using h)
    refine ⟨v, by simpa using e, ?_⟩
    rw [List.append_assoc] at q
    exact q
theorem entry_rel {n nN : Nat} {N : List Str} {vs : List V} {as : List Ag} {β : Al} (hN : N.length = nN) (hle : n ≤ nN) (hl : as.length = n) (nd : (ads β).Nodup) (ra : RelAs K H as vs β) (hb : K.eb.np ≤ (agO as).length) (hx : Ext K.eb.np K.eb.be K.eb.H β H) : Rel K β (mstart nN as) (start N vs) H := by
 obtain ⟨h1, h2, h3⟩ := ra.facts (pre := [])
 have hvl : as.length = vs.length := ra.length
 refine ⟨nd, by rw [← h1]; rfl, h2, ?_, fun i r e => ?_, by rw [← h1]; exact Nat.le_refl _, hb, hx⟩
 ·unfold start mstart
  simp only [List.length_append, List.length_map, List.length_replicate, agV_length]
  omega
 ·have e' : (agV 0 as ++ List.replicate (nN - as.length) none)[i]? = some (some r) := e
  by_cases hi : i < as.length
  ·rw [List.getElem?_append_left (by rw [agV_length]; exact hi)] at e'
   obtain ⟨v, ev, q⟩ := h3 i r e'
   refine ⟨v, ?_, by simpa using q⟩
   unfold start
   rw [List.getElem?_append_left (by rw [List.length_map]; omega), List.getElem?_map, ev]; rfl
  ·rw [List.getElem?_append_right (by rw [agV_length]; omega), List.getElem?_replicate] at e'
   split at e' <;> cases e'
theorem end_outs {as : List Ag} {vs : List V} {β α' : Al} {m' : MSt} {σ' : St} {H' : Hp} (ra : RelAs K H as vs β) (hn : m'.np = (agO as).length) (R' : Rel K α' m' σ' H') (x : Ext (agO as).length β H α' H') : OutsAt K H' β (m'.os.take m'.np) ∧ Frm β H H' ∧ β = α'.take (agO as).length := by
 obtain ⟨h1, h2, h3⟩ := ra.facts (pre := [])
 have e1 : α'.take (agO as).length = β := by rw [x.pre, h1, List.take_length]
 refine ⟨⟨?_, fun j a ds z1 z2 => ?_⟩, x.frm, e1.symm⟩
 ·have := R'.npl
  rw [R'.len] at this
  rw [List.length_take, hn, ← h1]
  omega
 ·rw [← e1, List.getElem?_take] at z1
  rw [hn, List.getElem?_take] at z2
  by_cases hj : j < (agO as).length
  ·rw [if_pos hj] at z1 z2
   exact R'.own j a ds z1 z2
  ·rw [if_neg hj] at z1; cases z1
theorem end_res {as : List Ag} {β α' : Al} {m' : MSt} {σ' : St} {H' : Hp} {r : R} {v : V} (hn : m'.np = (agO as).length) (R' : Rel K α' m' σ' H') (x : Ext (agO as).length β H α' H') (eβ : β = α'.take (agO as).length) (rr : RelR K α' H H' r v)
  (ok : ∀ k p, r = .at k p → k < m'.np ∨ (p = [] ∧ ∃ t, m'.os[k]? = some [t])) : RelR K β H H' (outR m' r) v := by
 have out : ∀ {k : Nat} {ao : Ao}, ¬ k < m'.np → α'[k]? = some ao → ∀ b ∈ ao.ads, H b = none := fun {k ao} hk ea b hb => by
  rcases x.new b (ads_in ea hb) with z | z
  ·exfalso
   rw [eβ] at z
   obtain ⟨j, ao', ej, hm⟩ := ads_at z
   rw [List.getElem?_take] at ej
   by_cases hj : j < (agO as).length
   ·rw [if_pos hj] at ej
    exact ads_disj R'.nd ea ej (by omega) hb hm
   ·rw [if_neg hj] at ej; cases ej
  ·exact z
 have inb : ∀ {k : Nat} {ao : Ao}, k < m'.np → α'[k]? = some ao → β[k]? = some ao := fun {k ao} hk ea => by
  rw [eβ, List.getElem?_take, if_pos (by rw [← hn]; exact hk)]
  exact ea
 cases r with
 | imm d => exact rr
 | new ds => exact rr
 | newT t => exact rr
 | obj k =>
  obtain ⟨a, ea, rfl⟩ := rr
  unfold outR
  by_cases hk : k < m'.np
  ·simp only [hk, if_true]
   exact ⟨a, inb hk ea, rfl⟩
  ·simp only [hk, if_false]
   have hk2 : k < m'.os.length := by rw [← R'.len]; exact (List.getElem?_eq_some_iff.mp ea).1
   have e3 : m'.os[k]? = some (m'.os.getD k []) := by rw [List.getD_eq_getElem?_getD, List.getElem?_eq_getElem hk2]; rfl
   obtain ⟨xs, y1, y2⟩ := R'.own k _ _ ea e3
   exact ⟨a, xs, rfl, out hk ea a (List.mem_singleton.mpr rfl), y1, y2⟩
 | «at» k p =>
  obtain ⟨τ, a, ea, el, rfl⟩ := rr
  unfold outR
  by_cases hk : k < m'.np
  ·simp only [hk, if_true]
   exact ⟨τ, a, inb hk ea, el, rfl⟩
  ·simp only [hk, if_false]
   rcases ok k p rfl with z | ⟨rfl, t, et⟩
   ·exact (hk z).elim
   ·rw [et]
    have g := R'.own k _ _ ea et
    exact ⟨τ, a, rfl, el, ((ads_iff α').mp R'.nd).1 _ (List.mem_of_getElem? ea), out hk ea, g⟩
def okR (m : MSt) : R → Prop
 | .at k p => k < m.np ∨ (p = [] ∧ ∃ t, m.os[k]? = some [t])
 | _ => True
theorem okR.at {m : MSt} {r : R} (h : okR m r) : ∀ k p, r = .at k p → k < m.np ∨ (p = [] ∧ ∃ t, m.os[k]? = some [t]) := fun k p e => by subst e; exact h
def retK (Kc : R → List (List PyData) → Prop) (m : MSt) : R → Prop
 | .at k p => okR m (.at k p) ∧ Kc (outR m (.at k p)) (m.os.take m.np)
 | .imm d => Kc (.imm d) (m.os.take m.np)
 | .new ds => Kc (.new ds) (m.os.take m.np)
 | .obj k => Kc (outR m (.obj k)) (m.os.take m.np)
 | .newT t => Kc (.newT t) (m.os.take m.np)
theorem retK.ok {Kc : R → List (List PyData) → Prop} {m : MSt} {r : R} (h : retK Kc m r) : okR m r ∧ Kc (outR m r) (m.os.take m.np) := by
 cases r with
 | «at» k p => exact h
 | imm d => exact ⟨trivial, h⟩
 | new ds => exact ⟨trivial, h⟩
 | obj k => exact ⟨trivial, h⟩
 | newT t => exact ⟨trivial, h⟩
theorem fn_m {n nN : Nat} {N : List Str} {sp : SpM} {w : WS} {vs : List V} {Q : VK} {E : XK} (he : K.eb = ⟨0, [], fun _ => none⟩) (h : spOf K n sp vs H Q E) (hN : N.length = nN) (hle : n ≤ nN)
  (hw : ∀ as Kc, as.length = n → sp as Kc → w { nx := fun m => Kc (.imm .none) (m.os.take m.np), rt := fun r m => retK Kc m r } (mstart nN as)) : tMS K w { nx := fun _ H' => Q .non H', rt := Q } (start N vs) H := by
 obtain ⟨as, β, Kc, hl, nd, ra, hsp, fin⟩ := h
 have R0 : Rel K β (mstart nN as) (start N vs) H := entry_rel hN hle hl nd ra (by rw [he]; exact Nat.zero_le _) (by rw [he]; exact ⟨rfl, fun _ _ z => (by cases z), fun _ _ => .inr rfl, fun a ha => (by cases ha)⟩)
 refine ⟨β, mstart nN as, _, R0, hw as Kc hl hsp, ⟨fun α' m' σ' H' q hn R' x => ?_, fun r α' m' σ' v H' q hn R' rr x => ?_, fun _ _ _ _ z => z.elim, fun _ _ _ _ z => z.elim⟩⟩
 ·obtain ⟨O, F, _⟩ := end_outs ra hn R' x
  exact fin _ _ .non H' q O rr_non F
 ·obtain ⟨O, F, eβ⟩ := end_outs ra hn R' x
  have q' := retK.ok q
  exact fin _ _ v H' q'.2 O (end_res hn R' x eβ rr q'.1.at) F
end
structure FnM (P : Program) (w : World) (K : PySem.W.Frag) (mg : Str → Option Value) (base : Heap) (x : Str) (k n : Nat) (sp : SpM) : Prop where
 ex : ∃ (f : Addr) (fd : FuncData) (ps : List Str), FnOk P w K mg base CX0 k f fd ps (spOf ⟨K, w⟩ n sp) ∧ mg x = some (.ref f) ∧ PySem.W.keepIn K (.ref f) = true ∧ Binds K fd ps []
 ar : ∀ as Kc, sp as Kc → as.length = n
structure DefM (K : PySem.W.Frag) (mg : Str → Option Value) (x : Str) (st : Stmt) (ps : List Str) : Prop where
 ex : ∃ (f : Addr) (fd : FuncData), Fun K x x st f fd ∧ mg x = some (.ref f) ∧ Binds K fd ps []
theorem mk_fn {P : Program} {w : World} {K : PySem.W.Frag} {mg : Str → Option Value} {base : Heap} {x : Str} {st : Stmt} {N ps : List Str} {n nN k : Nat} {sp : SpM} (D : DefM K mg x st ps) (S : FnScope N ps (defScope st)) (hn : ps.length = n) (hN : N.length = nN) (hle : n ≤ nN) (ar : ∀ as Kc, sp as Kc → as.length = n)
  (hbody : ∀ (cdv : Value) (A : Around) (outer : List Env) (s : Shared) (H : Hp) (E : XK) (f : Addr), Room k (A.deeper (envOfC x (defScope st) s.heap.objs.size f cdv)) →
   ∃ ww, MSs (cxOf CX0 P w K mg base N x (defScope st) f cdv A outer s H E).nox (defBody st) ww ∧ ∀ as Kc, as.length = n → sp as Kc → ww { nx := fun m => Kc (.imm .none) (m.os.take m.np), rt := fun r m => retK Kc m r } (mstart nN as)) :
  FnM P w K mg base x (k + 1) n sp := by
 obtain ⟨f, fd, F, hm, hb⟩ := D.ex
 refine ⟨⟨f, fd, ps, F.ok S (fun vs H Q E h => by rw [hn]; exact h.len) (fun cdv A outer s H vs Q E hr h => ?_), hm, F.kp, hb⟩, ar⟩
 obtain ⟨ww, h1, h2⟩ := hbody cdv A outer s H E f hr
 exact ⟨_, h1, fn_m (K := (cxOf CX0 P w K mg base N x (defScope st) f cdv A outer s H E).nox.kx) rfl h hN hle h2⟩
section
variable {X : Cx} {a : Expr} {es : List Expr} {ws : WA} {pos p : Pos} {k n : Nat} {sp : SpM} {x : Str}
theorem me_callF (F : FnM X.prog X.w X.K X.mg X.base x k n sp) (hr : Room k X.A) (ha : MA X (a :: es) ws) (hg : Gl X x := by rfl) (hdb : (x == ("__debug__" : Str)) = false := by decide) (he : starEach (a :: es) X.env = (false, eval a X.env) :: starEach es X.env := by first | exact star_cons rfl | rfl) (hpl : (backTo pos (starEach es X.env)).any (·.1) = false := by rfl) :
  ME X (.Call (.Name x p) (a :: es) [] pos) (wCall sp ws) := by
 obtain ⟨f, fd, ps, G, hm, hk, hb⟩ := F.ex
 exact me_call (E := E0) G hr hg hm hk hb pass0 F.ar ha hdb he hpl
theorem bt_len : bootBuiltins "len" = some (.builtin "len") := by decide +kernel
theorem bt_sum : bootBuiltins "sum" = some (.builtin "sum") := by decide +kernel
theorem bt_max : bootBuiltins "max" = some (.builtin "max") := by decide +kernel
theorem bt_isinstance : bootBuiltins "isinstance" = some (.builtin "isinstance") := by decide +kernel
theorem bt_tuple : bootBuiltins "tuple" = some (.type "tuple") := by decide +kernel
end
section
variable {m : MSt} {K : R → MSt → Prop} {Kb : Bool → MSt → Prop} {Ka : List R → MSt → Prop} {Kr : R → Prop} {D : MEnds} {wa wb wc we wo wi : WE} {ws : WA} {wt wu : WT} {w u : WS} {o : WO} {d : PyData} {r r1 r2 : R} {i j : Int} {k : Nat}
theorem x_seq (h : w { D with nx := fun m' => u D m' } m) : wSeq w u D m := h
theorem x_next (h : D.nx m) : wNext D m := h
theorem x_bin (h : wa m fun r1 m1 => wb m1 fun r2 m2 => o r1 r2 m2 fun r => K r m2) : wBin o wa wb m K := h
theorem x_var {n : Nat} (e : m.vs[n]? = some (some r)) (h : K r m) : wVar n m K := ⟨r, e, h⟩
theorem x_c (h : K (.imm d) m) : wC d m K := h
theorem x_ret (h : we m fun r m' => D.rt r m') : wRet we D m := h
theorem x_drop (h : we m fun _ m' => D.nx m') : wDrop we D m := h
theorem x_ifS (h : wt m fun c m' => if c = true then w D m' else u D m') : wIfS wt w u D m := h
theorem x_test (h : we m fun r m' => onBl (fun k => Kb k m') r) : wTest we m Kb := h
theorem x_and (h : wt m fun c m1 => if c = true then wu m1 Kb else Kb false m1) : wAnd wt wu m Kb := h
theorem x_or (h : wt m fun c m1 => if c = true then Kb true m1 else wu m1 Kb) : wOr wt wu m Kb := h
theorem x_not (h : wt m fun c m1 => Kb (!c) m1) : wNot wt m Kb := h
theorem x_orV (h : wa m fun r m1 => onBl (fun c => if c = true then K (.imm (.bool true)) m1 else wb m1 K) r) : wOrV wa wb m K := h
theorem x_onBl {P : Bool → Prop} {b : Bool} (h : P b) : onBl P (.imm (.bool b)) := h
theorem x_onInt {P : Int → Prop} (h : P i) : onInt P (.imm (.int i)) := h
theorem x_onImm {P : PyData → Prop} (h : P d) : onImm P (.imm d) := h
theorem x_on1 {P : R → Prop} (h : P r) : on1 P [r] := h
theorem x_iteT {A B : Prop} (h : A) : if true = true then A else B := by rw [if_pos rfl]; exact h
theorem x_iteF {A B : Prop} (h : B) : if false = true then A else B := by rw [if_neg Bool.false_ne_true]; exact h
theorem x_ite {c A B : Prop} [Decidable c] (h1 : c → A) (h2 : ¬ c → B) : if decide c = true then A else B := by
 by_cases h : c
 ·rw [if_pos (decide_eq_true h)]; exact h1 h
 ·rw [if_neg (by rw [decide_eq_false h]; exact Bool.false_ne_true)]; exact h2 h
theorem x_un {ob : WU} (h : wa m fun r1 m1 => ob r1 m1 fun r => K r m1) : wUn ob wa m K := h
theorem x_neg (h : Kr (.imm (.int (-i)))) : uNeg (.imm (.int i)) m Kr := h
theorem x_imm (h : we m fun r m' => match r with | .imm d => K (.imm d) m' | .new ds => K (.imm (.list ds)) m' | _ => False) : wImm we m K := h
theorem x_nil (h : Ka [] m) : wNil m Ka := h
theorem x_cons (h : we m fun r m1 => ws m1 fun rs m2 => Ka (r :: rs) m2) : wCons we ws m Ka := h
theorem x_tup (h : ws m fun rs m' => onAll (fun ds => K (.imm (.tuple ds)) m') (immAll rs)) : wTup ws m K := h
theorem x_lst (h : ws m fun rs m' => onAll (fun ds => K (.new ds) m') (immAll rs)) : wLst ws m K := h
theorem x_all {rs : List R} {ds : List PyData} {P : List PyData → Prop} (e : immAll rs = some ds) (hz : ds.length ≤ sizeLine) (h : P ds) : onAll P (immAll rs) := by rw [e]; exact ⟨hz, h⟩
theorem x_cb {oc : WC} (h : ws m fun rs m1 => oc rs m1 fun r => K r m1) : wCB oc ws m K := h
theorem x_call {sp : SpM} (h : ws m fun rs m1 => match toAgs m1 rs with | some (as, ks) => ks.Nodup ∧ sp as fun r outs => K (mapR ks r) { m1 with os := setAll m1.os ks outs } | none => False) : wCall sp ws m K := h
theorem x_ags {rs : List R} {as : List Ag} {ks : List Nat} {P : List Ag → List Nat → Prop} (e : toAgs m rs = some (as, ks)) (hn : ks.Nodup) (h : P as ks) : match toAgs m rs with | some (as, ks) => ks.Nodup ∧ P as ks | none => False := by rw [e]; exact ⟨hn, h⟩
theorem x_set {n : Nat} (h : we m fun r m' => bindR n D.nx m' r) : wSet n we D m := h
theorem x_bindI {n : Nat} {P : MSt → Prop} (h : P (m.setV n (.imm d))) : bindR n P m (.imm d) := .inl h
theorem x_bindN {n : Nat} {P : MSt → Prop} {ds : List PyData} (h : P { vs := m.vs.set n (some (.obj m.os.length)), os := m.os ++ [ds], np := m.np }) : bindR n P m (.new ds) := .inl (.inl h)
theorem x_par {n n' : Nat} (h : ws m fun rs m' => match rs with | [.imm d1, .imm d2] => D.nx ((m'.setV n (.imm d1)).setV n' (.imm d2)) | _ => False) : wPar n n' ws D m := h
theorem x_ml {ob : WM} (h : wo m fun r m1 => (∃ ds, lsOf m1 r = some ds) ∧ ws m1 fun rs m2 => ob r rs m2 K) : wML ob wo ws m K := h
theorem x_ls {ds : List PyData} {P : Prop} (e : lsOf m r = some ds) (h : P) : (∃ ds, lsOf m r = some ds) ∧ P := ⟨⟨ds, e⟩, h⟩
theorem x_addI (h : Kr (.imm (.int (i + j)))) : oAdd (.imm (.int i)) (.imm (.int j)) m Kr := h
theorem x_addT {a b : List PyData} (hz : a.length + b.length ≤ sizeLine) (h : Kr (.imm (.tuple (a ++ b)))) : oAdd (.imm (.tuple a)) (.imm (.tuple b)) m Kr := ⟨hz, h⟩
theorem x_subI (h : Kr (.imm (.int (i - j)))) : oSub (.imm (.int i)) (.imm (.int j)) m Kr := ⟨trivial, h⟩
theorem x_fdiv (hc : CFd i j) (h : Kr (.imm (.int (i / j)))) : oFdiv (.imm (.int i)) (.imm (.int j)) m Kr := ⟨hc, h⟩
theorem x_mod (hc : 0 < j) (h : Kr (.imm (.int (i % j)))) : oMod (.imm (.int i)) (.imm (.int j)) m Kr := ⟨hc, h⟩
theorem x_pow (hc : CPow i j) (h : Kr (.imm (.int (i ^ j.toNat)))) : oPow (.imm (.int i)) (.imm (.int j)) m Kr := ⟨hc, h⟩
theorem x_lt (h : Kr (.imm (.bool (decide (i < j))))) : oLt (.imm (.int i)) (.imm (.int j)) m Kr := h
theorem x_gt (h : Kr (.imm (.bool (decide (j < i))))) : oGt (.imm (.int i)) (.imm (.int j)) m Kr := h
theorem x_ge (h : Kr (.imm (.bool (decide (j ≤ i))))) : oGe (.imm (.int i)) (.imm (.int j)) m Kr := h
theorem x_eq {d1 d2 : PyData} (e1 : asD m r1 = some d1) (e2 : asD m r2 = some d2) (s1 : SeqAt.shaped d1 = true) (s2 : SeqAt.shaped d2 = true) (h : Kr (.imm (.bool (PyData.eqv d1 d2)))) : oEq r1 r2 m Kr := by refine Or.inl ?_; unfold eqD; rw [e1, e2]; exact ⟨s1, s2, h⟩
theorem x_ne {d1 d2 : PyData} (e1 : asD m r1 = some d1) (e2 : asD m r2 = some d2) (s1 : SeqAt.shaped d1 = true) (s2 : SeqAt.shaped d2 = true) (h : Kr (.imm (.bool (!PyData.eqv d1 d2)))) : oNe r1 r2 m Kr := by refine Or.inl ?_; unfold eqD; rw [e1, e2]; exact ⟨s1, s2, h⟩
theorem x_eqI (h : Kr (.imm (.bool (decide (i = j))))) : oEq (.imm (.int i)) (.imm (.int j)) m Kr := x_eq rfl rfl rfl rfl (by simp only [PyData.eqv]; rw [Bool.beq_eq_decide_eq]; exact h)
theorem x_eqS {x y : Str} (h : Kr (.imm (.bool (decide (x = y))))) : oEq (.imm (.str x)) (.imm (.str y)) m Kr := Or.inr (Or.inl ⟨x, y, rfl, rfl, h⟩)
theorem x_itemT {ds : List PyData} (e : atI ds i = some d) (h : Kr (.imm d)) : oItem (.imm (.tuple ds)) (.imm (.int i)) m Kr := ⟨d, e, h⟩
theorem x_itemL {ds : List PyData} (e : atI ds i = some d) (h : Kr (.imm d)) : oItem (.imm (.list ds)) (.imm (.int i)) m Kr := ⟨ds, d, rfl, e, h⟩
theorem x_itemO {ds : List PyData} (e1 : m.os[k]? = some ds) (e : atI ds i = some d) (h : Kr (.imm d)) : oItem (.obj k) (.imm (.int i)) m Kr := ⟨ds, d, e1, e, h⟩
theorem x_itemN {ds : List PyData} (e : atI ds i = some d) (h : Kr (.imm d)) : oItem (.new ds) (.imm (.int i)) m Kr := ⟨ds, d, rfl, e, h⟩
theorem x_len {rs : List R} (h : on1 (lenR m Kr) rs) : oLen rs m Kr := h
theorem x_lenT {ds : List PyData} (h : Kr (.imm (.int ds.length))) : lenR m Kr (.imm (.tuple ds)) := h
theorem x_lenL {ds : List PyData} (h : Kr (.imm (.int ds.length))) : lenR m Kr (.imm (.list ds)) := ⟨ds, rfl, h⟩
theorem x_lenN {ds : List PyData} (h : Kr (.imm (.int ds.length))) : lenR m Kr (.new ds) := ⟨ds, rfl, h⟩
theorem x_tuple {ds : List PyData} (e : sqOf m r = some ds) (h : Kr (.imm (.tuple ds))) : oTuple [r] m Kr := ⟨ds, e, h⟩
theorem x_sl {ob : R → Option Int → Option Int → MSt → (R → Prop) → Prop} {wl wh : WO1} (h : we m fun r m1 => wl m1 fun l m2 => wh m2 fun u m3 => ob r l u m3 fun r' => K r' m3) : wSl ob we wl wh m K := h
theorem x_noPart {Ko : Option Int → MSt → Prop} (h : Ko none m) : wNoPart m Ko := h
theorem x_part {Ko : Option Int → MSt → Prop} (h : we m fun r m' => onInt (fun i => Ko (some i) m') r) : wPart we m Ko := h
theorem x_gM {n : Nat} {P : MSt → Prop} (h : P (m.setV n (.imm d))) : gM n d m P := h
theorem x_gNil {P : MSt → Prop} (h : P m) : gMNil [] m P := ⟨rfl, h⟩
theorem x_gCons {g : WG} {gs : WGs} {ds : List PyData} {P : MSt → Prop} (h : g d m fun m' => gs ds m' P) : gMCons g gs (d :: ds) m P := h
theorem x_gTup {n : Nat} {gs : WGs} {ds : List PyData} {P : MSt → Prop} (e : ds.length = n) (h : gs ds m P) : gMTup n gs (.tuple ds) m P := ⟨e, h⟩
theorem x_for {wi : WI} {g : WG} (h : wi m fun s m1 => wLoop s g w D m1) : wFor wi g w D m := h
theorem x_iseq {Ks : Src → MSt → Prop} (h : we m fun r m' => srcR m' Ks r) : wiSeq we m Ks := h
theorem x_srcL {Ks : Src → MSt → Prop} {ds : List PyData} (h : Ks ⟨ds, none⟩ m) : srcR m Ks (.imm (.list ds)) := h
theorem x_srcT {Ks : Src → MSt → Prop} {ds : List PyData} (h : Ks ⟨ds, none⟩ m) : srcR m Ks (.imm (.tuple ds)) := h
theorem x_srcO {Ks : Src → MSt → Prop} {ds : List PyData} (e : m.os[k]? = some ds) (h : Ks ⟨ds, some k⟩ m) : srcR m Ks (.obj k) := ⟨ds, e, h⟩
theorem x_rng1 {Ks : Src → MSt → Prop} (h : ws m fun rs m' => match rs with | [.imm (.int j)] => -(2 ^ 62) ≤ j ∧ j < 2 ^ 62 ∧ Ks ⟨rangeD 0 j.toNat, none⟩ m' | _ => False) : wiRng1 ws m Ks := h
theorem x_ifT (h : wt m fun b m' => if b = true then w D m' else D.nx m') : wIfT wt w D m := h
theorem x_noTest (h : Kb true m) : wNoTest m Kb := h
theorem x_emit {q : Nat} (h : we m fun r m' => onImm (fun d => ∃ ds, m'.os[q]? = some ds ∧ ds.length < sizeLine ∧ D.nx { m' with os := m'.os.set q (ds ++ [d]) }) r) : wEmit q we D m := h
end
theorem x_start {w : WS} {D : MEnds} {m : MSt} (m' : MSt) (e : m = m') (h : w D m') : w D m := e ▸ h
theorem mulok {i j : Int} (h : (-18446744073709551616 < i ∧ i < 18446744073709551616) ∨ (-18446744073709551616 < j ∧ j < 18446744073709551616)) : IntMulOk i j := CMul.ok (by unfold CMul; exact h)
theorem cfd {i j : Int} (h0 : 0 < j) (h1 : j < 1152921504606846976) : CFd i j := ⟨h0, by
 have : j.natAbs < 2 ^ 60 := by omega
 have := (Nat.log2_lt (by omega)).mpr this
 omega⟩
theorem canLay_ints : ∀ ns : List Int, PyData.canLayAll0 (ns.map .int) = true
 | [] => rfl
 | n :: ns => by simp only [List.map_cons, PyData.canLayAll0, PyData.canLay0, canLay_ints ns, Bool.and_self]
theorem depth_ints : ∀ ns : List Int, PyData.depthAll (ns.map .int) ≤ 1
 | [] => Nat.zero_le 1
 | n :: ns => by
  have := depth_ints ns
  rw [List.map_cons]
  simp only [PyData.depthAll, PyData.depth]
  omega
theorem shaped_ints (ns : List Int) : SeqAt.shaped (.list (ns.map .int)) = true := by
 have h := depth_ints ns
 have h2 : (PyData.list (ns.map .int)).depth ≤ 64 := by simp only [PyData.depth]; omega
 have h3 : (PyData.list (ns.map .int)).canLay0 = true := by simp only [PyData.canLay0, canLay_ints]
 unfold SeqAt.shaped
 rw [h3, decide_eq_true h2]; rfl
theorem atI_lt {α : Type} {xs : List α} {i : Int} (h0 : 0 ≤ i) (h1 : i < xs.length) : ∃ d, xs[i.toNat]? = some d ∧ atI xs i = some d := by
 have hl : i.toNat < xs.length := by omega
 refine ⟨xs[i.toNat], List.getElem?_eq_getElem hl, ?_⟩
 unfold atI ixN
 rw [if_pos h0, if_pos h1]
 exact List.getElem?_eq_getElem hl
theorem atI_ints {ns : List Int} {i : Int} (h0 : 0 ≤ i) (h1 : i < ns.length) : ∃ x : Int, atI (ns.map PyData.int) i = some (.int x) := by
 obtain ⟨d, e, h⟩ := atI_lt (xs := ns.map PyData.int) h0 (by rw [List.length_map]; exact h1)
 rw [List.getElem?_map] at e
 cases q : ns[i.toNat]? with
 | none => rw [q] at e; cases e
 | some x => rw [q] at e; cases e; exact ⟨x, h⟩
section
variable {X : Cx} {tg a b c e : Expr} {es : List Expr} {wo wa wb wc we wi : WE} {ws : WA} {pos p p2 : Pos}
def intsOf : List PyData → Option (List Int)
 | [] => some []
 | .int i :: ds => (intsOf ds).map (i :: ·)
 | _ :: _ => none
theorem intsOf_map {ds : List PyData} {ns : List Int} (h : intsOf ds = some ns) : ds = ns.map .int := by
 induction ds generalizing ns with
 | nil => cases h; rfl
 | cons d ds ih =>
  cases d with
  | int i =>
   simp only [intsOf] at h
   cases q : intsOf ds with
   | none => rw [q] at h; cases h
   | some ms => rw [q] at h; cases h; rw [ih q]; rfl
  | none => cases h
  | bool _ => cases h
  | str _ => cases h
  | list _ => cases h
  | tuple _ => cases h
  | dict _ => cases h
theorem intsOf_ints : ∀ ns : List Int, intsOf (ns.map .int) = some ns
 | [] => rfl
 | n :: ns => by simp only [List.map_cons, intsOf, intsOf_ints ns, Option.map_some]
theorem denAll_ints {K : Kd} {H : Hp} : ∀ {ns : List Int} {xs : List V}, DenAll K H (ns.map .int) xs → xs = ns.map V.int
 | [], _, h => by simpa only [List.map_nil, DenAll] using h
 | n :: ns, _, h => by
  simp only [List.map_cons, DenAll] at h
  obtain ⟨v, vs, rfl, h1, h2⟩ := h
  have e := int_of_den (K := K) (H := H) h1
  rw [e, denAll_ints h2]; rfl
def oSum : WC := fun rs m K => on1 (fun r => ∃ ds ns, lsOf m r = some ds ∧ intsOf ds = some ns ∧ K (.imm (.int ns.sum))) rs
theorem call_sumM (hc : X.calm = true) : CallR X (.builtin "sum") (cM X.kx oSum) := by
 rintro pins s σ' H xs us Q I rv ⟨α, m, σ, H0, rs, Kc, Rl, h, ho, fin⟩
 obtain ⟨r, v, rfl, rfl, h1, ds, ns, el, ei, ho⟩ := on_one h ho
 obtain ⟨a, ys, rfl, f, g⟩ := h1.list Rl el
 rw [intsOf_map ei] at g
 have ey := denAll_ints g
 subst ey
 obtain ⟨u, rfl, ru⟩ := rv.one
 cases ru
 obtain ⟨its, rv1, pl, _⟩ := I.list f
 have hi := intsAre_of rv1
 have hall : AllInts its.toArray := hi.allInts
 obtain ⟨xs, ex⟩ := hall.items
 have hl : s.heap.IsList a (intItems xs) := by rw [← ex]; exact pl.isList
 refine sum_intListG (I.ok.hd hc) hl fun h' tk t' hk => ?_
 have e1 : preSum (numAt xs) xs.size = ns.sum := by
  have e2 : (numsOf its).sum = ns.sum := by rw [hi.numsOf]
  rw [← e2]
  have e3 := congrArg Array.toList ex
  have e4 : its = (intItems xs).toList := by simpa using e3
  rw [e4, nums_intItems, preSum_eq, List.take_of_length_le (by simp)]
 rw [e1]
 exact ⟨.int ns.sum, H, I.kept (t' := tk) hk, ⟨_, rfl⟩, fin _ _ H ho Rl (rr_int _) (Frm.refl _ _)⟩
end
theorem x_loop0 {ds : List PyData} {g : WG} {w : WS} {D : MEnds} {m1 : MSt} (P : Nat → MSt → Prop) (p0 : P 0 m1)
  (step : ∀ (i : Nat) (d : PyData) (m : MSt), ds[i]? = some d → m.np = m1.np → P i m → g d m fun m2 => w { nx := P (i + 1), ct := P (i + 1), bk := fun m' => D.nx (m'.setN m1.np), rt := fun r m' => D.rt r (m'.setN m1.np) } m2)
  (fin : ∀ m, m.np = m1.np → P ds.length m → D.nx m) : wLoop ⟨ds, none⟩ g w D m1 := by
 refine ⟨P, p0, fun i d m e n p => ⟨trivial, step i d m e n p⟩, fun m n p => ⟨trivial, ?_⟩⟩
 have e : m.setN m1.np = m := by
  obtain ⟨a, b, c⟩ := m
  have n' : c = m1.np := n
  subst n'
  rfl
 rw [e]
 exact fin m n p
theorem x_loopO {k : Nat} {ds : List PyData} {g : WG} {w : WS} {D : MEnds} {m1 : MSt} (P : Nat → MSt → Prop) (p0 : P 0 (m1.setN (max m1.np (k + 1))))
  (ok : ∀ i m, P i m → m.os[k]? = some ds)
  (step : ∀ (i : Nat) (d : PyData) (m : MSt), ds[i]? = some d → m.np = max m1.np (k + 1) → P i m → g d m fun m2 => w { nx := P (i + 1), ct := P (i + 1), bk := fun m' => D.nx (m'.setN m1.np), rt := fun r m' => D.rt r (m'.setN m1.np) } m2)
  (fin : ∀ m, m.np = max m1.np (k + 1) → P ds.length m → D.nx (m.setN m1.np)) : wLoop ⟨ds, some k⟩ g w D m1 :=
 ⟨P, p0, fun i d m e n p => ⟨ok i m p, step i d m e n p⟩, fun m n p => ⟨ok _ m p, fin m n p⟩⟩
theorem x_while {t : WT} {w : WS} {D : MEnds} {m0 : MSt} (P : Nat → MSt → Prop) (n0 : Nat) (p0 : P n0 m0)
  (step : ∀ n m, m.np = m0.np → P n m → t m fun c m' => if c = true then w { D with nx := fun m2 => ∃ n', n' < n ∧ P n' m2, ct := fun m2 => ∃ n', n' < n ∧ P n' m2, bk := D.nx } m' else D.nx m') : wWhile t w D m0 := ⟨P, ⟨n0, p0⟩, step⟩
theorem cutD_all {ds : List PyData} {n : Nat} (h : ds.length ≤ n) : cutD ds none (some (n : Int)) = ds := by
 unfold cutD
 rw [HT.sIx_none, HT.sIx_nat, Nat.min_eq_right h, Nat.sub_zero, List.drop_zero, List.take_length]
theorem x_comp1 {m : MSt} {K : R → MSt → Prop} {wi : WI} {own : List Str} {ps : List Nat} {g : WG} {tt : WT} {we : WE} (h : wi m fun s m1 => wLoop s g (wIfT tt (wEmit m1.os.length we)) { nx := fun m' => K (.new (m'.os.getD m1.os.length [])) { m1 with os := m'.os.take m1.os.length }, rt := fun _ _ => False } (compM own ps m1)) : wComp1 wi own ps g tt we m K := h
theorem x_bindSame {n k : Nat} {P : MSt → Prop} {m : MSt} {ds : List PyData} (h1 : m.vs[n]? = some (some (.obj k))) (h2 : m.np ≤ k) (h3 : ∀ j : Nat, j ≠ n → m.vs[j]? ≠ some (some (.obj k))) (h : P { m with os := m.os.set k ds }) : bindR n P m (.new ds) := .inr ⟨k, h1, h2, h3, h⟩
theorem getD_of {α : Type} {xs : List α} {k : Nat} {d x : α} (h : xs[k]? = some x) : xs.getD k d = x := by
 rw [List.getD_eq_getElem?_getD, h]; rfl
theorem x_JS {w : WS} {m : MSt} {D : MEnds} (Φ : MSt → Prop) (h : ∀ N : MSt → Prop, (∀ m', Φ m' → N m') → w { D with nx := N } m) (J : ∀ m', Φ m' → D.nx m') : w D m := h D.nx J
structure Shp (k : Nat) (d : PyData) : Prop where
 cl : d.canLay0 = true
 dp : d.depth ≤ k
theorem Shp.mono {k k' : Nat} {d : PyData} (h : Shp k d) (hk : k ≤ k') : Shp k' d := ⟨h.cl, Nat.le_trans h.dp hk⟩
theorem Shp.ok {k : Nat} {d : PyData} (h : Shp k d) (hk : k ≤ 64) : SeqAt.shaped d = true := by
 unfold SeqAt.shaped
 rw [h.cl, decide_eq_true (Nat.le_trans h.dp hk)]; rfl
theorem shp_int (i : Int) : Shp 0 (.int i) := ⟨rfl, Nat.le_refl _⟩
theorem shp_all {k : Nat} : ∀ {ds : List PyData}, (∀ d ∈ ds, Shp k d) → PyData.canLayAll0 ds = true ∧ PyData.depthAll ds ≤ k
 | [], _ => ⟨rfl, by simp [PyData.depthAll]⟩
 | d :: ds, h => by
  obtain ⟨h1, h2⟩ := shp_all fun d' h' => h d' (List.mem_cons_of_mem _ h')
  have h0 := h d List.mem_cons_self
  refine ⟨?_, ?_⟩
  ·simp only [PyData.canLayAll0]; rw [h0.cl, h1]; rfl
  ·show max d.depth (PyData.depthAll ds) ≤ k
   have := h0.dp
   omega
theorem shp_tuple {k : Nat} {ds : List PyData} (h : ∀ d ∈ ds, Shp k d) : Shp (k + 1) (.tuple ds) := by
 obtain ⟨h1, h2⟩ := shp_all h
 exact ⟨by simp only [PyData.canLay0]; exact h1, by show PyData.depthAll ds + 1 ≤ _; omega⟩
theorem shp_list {k : Nat} {ds : List PyData} (h : ∀ d ∈ ds, Shp k d) : Shp (k + 1) (.list ds) := by
 obtain ⟨h1, h2⟩ := shp_all h
 exact ⟨by simp only [PyData.canLay0]; exact h1, by show PyData.depthAll ds + 1 ≤ _; omega⟩
theorem script_den {K : Kd} {H : Hp} {a : Addr} {ns : List Int} (hO : Only H) (h : SqL K H a (ns.map V.int)) : Den K H (.list (ns.map .int)) (.ref a) := by
 simp only [Den]
 refine ⟨a, _, rfl, ?_, DenAll.ints _⟩
 rcases h with (h | ⟨o, h⟩) | h
 ·rcases hO a with z | ⟨o, xs, z⟩
  ·rw [h] at z; cases z
  ·rw [h] at z; cases z
 ·exact .inl ⟨o, h⟩
 ·exact .inr h
theorem mk_fnE {P : Program} {w : World} {K : PySem.W.Frag} {mg : Str → Option Value} {base : Heap} {x : Str} {st : Stmt} {N ps : List Str} {n nN k : Nat} {sp : SpM} {f : Addr} {fd : FuncData} (F : Fun K x x st f fd) (S : FnScope N ps (defScope st)) (hn : ps.length = n) (hN : N.length = nN) (hle : n ≤ nN)
  (hbody : ∀ (cdv : Value) (A : Around) (outer : List Env) (s : Shared) (H : Hp) (E : XK) (f : Addr), Room k (A.deeper (envOfC x (defScope st) s.heap.objs.size f cdv)) →
   ∃ ww, MSs (cxOf CX0 P w K mg base N x (defScope st) f cdv A outer s H E).nox (defBody st) ww ∧ ∀ as Kc, as.length = n → sp as Kc → ww { nx := fun m => Kc (.imm .none) (m.os.take m.np), rt := fun r m => retK Kc m r } (mstart nN as)) :
  FnOk P w K mg base CX0 (k + 1) f fd ps (spOf ⟨K, w⟩ n sp) := by
 refine F.ok S (fun vs H Q E h => by rw [hn]; exact h.len) (fun cdv A outer s H vs Q E hr h => ?_)
 obtain ⟨ww, h1, h2⟩ := hbody cdv A outer s H E f hr
 exact ⟨_, h1, fn_m (K := (cxOf CX0 P w K mg base N x (defScope st) f cdv A outer s H E).nox.kx) rfl h hN hle h2⟩
structure DefK (K : PySem.W.Frag) (x : Str) (st : Stmt) : Prop where
 ex : ∃ (f : Addr) (fd : FuncData), PySem.W.nsIn K mainGlobals x = some (some (.ref f)) ∧ Fun K x x st f fd
theorem DefK.of {K : PySem.W.Frag} {x : Str} {st : Stmt} {f : Addr} {oc kV doc pm cdv ct : Value} {od an : Option Addr} {sl : Array (Option Value)} (a : PySem.W.nsIn K mainGlobals x = some (some (.ref f)))
  (l : K.lookup f = some ⟨oc, od, .func (PySem.W.fnOf x x (defArgs st) (defBody st) (defScope st) .none kV doc pm an cdv ct), sl⟩) (c : PySem.W.codeIn K cdv x = true) (k : PySem.W.keepIn K (.ref f) = true) : DefK K x st := ⟨f, _, a, fun_mk l c k⟩
theorem DefK.m {K : PySem.W.Frag} {mg : Str → Option Value} {h : Heap} {x : Str} {st : Stmt} {ps : List Str} (D : DefK K x st) (X : K.In h) (G : h.Ns mainGlobals mg) (b : ∀ (f : Addr) (fd : FuncData), Fun K x x st f fd → Binds K fd ps []) : DefM K mg x st ps := by
 obtain ⟨f, fd, a, F⟩ := D.ex
 exact ⟨f, fd, F, PySem.W.mg_of X G a, b f fd F⟩
structure EE (X : Cx) (e : Expr) (w : WE) : Prop where
 h : ME X e w
structure ET (X : Cx) (e : Expr) (w : WT) : Prop where
 h : MT X e w
structure EW (X : Cx) (e : Expr) (w : WT) : Prop where
 h : MW X e w
structure EA (X : Cx) (es : List Expr) (w : WA) : Prop where
 h : MA X es w
structure ES (X : Cx) (st : Stmt) (w : WS) : Prop where
 h : MS X st w
structure ESs (X : Cx) (st : List Stmt) (w : WS) : Prop where
 h : MSs X st w
structure EI (X : Cx) (tg e : Expr) (w : WI) : Prop where
 h : MI X tg e w
structure EG (X : Cx) (t : Expr) (w : WG) : Prop where
 h : MG X t w
structure EGs (X : Cx) (ts : List Expr) (w : WGs) : Prop where
 h : MGs X ts w
structure EO (X : Cx) (e : Option Expr) (w : WO1) : Prop where
 h : MO X e w
structure ETs (X : Cx) (ifs : List Expr) (w : WT) : Prop where
 h : PTs X ifs (tMT X.kx w)
theorem EW.pt {X : Cx} {e : Expr} {w : WT} (h : EW X e w) : ET X e w := ⟨h.h.pt⟩
section
variable {X : Cx} {a b c : Expr} {es : List Expr} {wa wb wc : WE} {pos : Pos}
theorem mh' {i j pos} : EE X (.Constant (.int i) j pos) (wC (.int i)) := ⟨me_int⟩
theorem me_bl' {i j pos} : EE X (.Constant (.bool i) j pos) (wC (.bool i)) := ⟨me_bl⟩
theorem me_str' {i j pos} : EE X (.Constant (.str i) j pos) (wC (.str i)) := ⟨me_str⟩
theorem me_non' {j pos} : EE X (.Constant .none j pos) (wC .none) := ⟨me_non⟩
theorem mv' (i : Nat) {x : Str} {pos : Pos} (hN : X.N[i]? = some x := by rfl) (hv : Vis X.env.scope x := by first | exact Or.inl rfl | exact Or.inr (Or.inl rfl) | exact Or.inr (Or.inr rfl)) (hd : (x == ("__debug__" : Str)) = false := by decide) (hcd : (x == ("__classdict__" : Str)) = false := by decide) : EE X (.Name x pos) (wVar i) := ⟨mv i hN hv hd hcd⟩
theorem me_bin' {op : Operator} {o : WO} (ho : OpR X (binaryOp op) (rM X.kx o)) (ha : EE X a wa) (hb : EE X b wb) : EE X (.BinOp a op b pos) (wBin o wa wb) := ⟨me_bin ho ha.h hb.h⟩
theorem me_cmp' {op : CmpOp} {o : WO} (ho : OpR X (compareOp op) (rM X.kx o)) (ha : EE X a wa) (hb : EE X b wb) (hm : behindInMarks op b = false) : EE X (.Compare a [op] [b] pos) (wBin o wa wb) := ⟨me_cmp ho ha.h hb.h hm⟩
theorem mt_cmp' {op : CmpOp} {o : WO} (ho : OpR X (compareOp op) (rM X.kx o)) (ha : EE X a wa) (hb : EE X b wb) (hm : behindInMarks op b = false) : ET X (.Compare a [op] [b] pos) (wTest (wBin o wa wb)) := ⟨mt_cmp ho ha.h hb.h hm⟩
theorem mt_val' (ha : EE X a wa) (he : ∀ whole, isTrue a X.env whole = (do let v ← whole; standAt a.pos; holding [v] (truthy v)) := by intro _; rfl) : ET X a (wTest wa) := ⟨mt_val ha.h he⟩
end
section
variable {X : Cx} {a b c : Expr} {es : List Expr} {wa wb wc : WE} {pos : Pos}
variable {wt wu : WT} {rest : List Expr}
theorem mw_and1' (ha : ET X a wt) : EW X (.BoolOp .And [a] pos) wt := ⟨mw_and1 ha.h⟩
theorem mw_or1' (ha : ET X a wt) : EW X (.BoolOp .Or [a] pos) wt := ⟨mw_or1 ha.h⟩
theorem mw_and' (ha : ET X a wt) (hb : EW X (.BoolOp .And (b :: rest) pos) wu) : EW X (.BoolOp .And (a :: b :: rest) pos) (wAnd wt wu) := ⟨mw_and ha.h hb.h⟩
theorem mw_or' (ha : ET X a wt) (hb : EW X (.BoolOp .Or (b :: rest) pos) wu) : EW X (.BoolOp .Or (a :: b :: rest) pos) (wOr wt wu) := ⟨mw_or ha.h hb.h⟩
theorem mt_not' (ha : ET X a wt) : ET X (.UnaryOp .Not a pos) (wNot wt) := ⟨mt_not ha.h⟩
theorem me_one' {op} (h : EE X a wa) : EE X (.BoolOp op [a] pos) wa := ⟨me_one h.h⟩
theorem me_or' (ha : EE X a wa) (hb : EE X (.BoolOp .Or (b :: rest) pos) wb) : EE X (.BoolOp .Or (a :: b :: rest) pos) (wOrV wa wb) := ⟨me_or ha.h hb.h⟩
theorem me_un' {op : UnaryOp} {o : WU} (ho : UnR X (unaryOp op) (uM X.kx o)) (ha : EE X a wa) : EE X (.UnaryOp op a pos) (wUn o wa) := ⟨me_un ho ha.h⟩
theorem me_imm' (ha : EE X a wa) : EE X a (wImm wa) := ⟨me_imm ha.h⟩
end
section
variable {X : Cx} {a b c : Expr} {es : List Expr} {wa wb wc : WE} {pos : Pos}
variable {wt wu : WT} {rest : List Expr}
variable {ws : WA}
theorem mn'  : EA X [] wNil := ⟨ma_nil⟩
theorem mc' (ha : EE X a wa) (hr : EA X es ws) (hs : starEach (a :: es) X.env = (false, eval a X.env) :: starEach es X.env := by first | exact star_cons rfl | rfl) : EA X (a :: es) (wCons wa ws) := ⟨ma_cons ha.h hr.h hs⟩
theorem me_tup' {x1} (h : EA X es ws) : EE X (.Tuple es x1 pos) (wTup ws) := ⟨me_tup h.h⟩
theorem me_lst' (h : EA X es ws) : EE X (.List es pos) (wLst ws) := ⟨me_lst h.h⟩
theorem me_callB' {id : String} {x : Str} {p : Pos} {o : WC} (hc : CallR X (.builtin id) (cM X.kx o)) (hg : Gl X x) (hm : X.mg x = none) (hv : bootBuiltins x = some (.builtin id)) (ha : EA X (a :: es) ws) (hn : x ≠ "__name__" := by decide) (hdb : (x == ("__debug__" : Str)) = false := by decide) (he : starEach (a :: es) X.env = (false, eval a X.env) :: starEach es X.env := by first | exact star_cons rfl | rfl) (hpl : (backTo pos (starEach es X.env)).any (·.1) = false := by rfl) : EE X (.Call (.Name x p) (a :: es) [] pos) (wCB o ws) := ⟨me_callB hc hg hm hv ha.h hn hdb he hpl⟩
theorem me_callTy' {T : String} {x : Str} {p : Pos} {o : WC} (hc : CallR X (.type T) (cM X.kx o)) (hg : Gl X x) (hm : X.mg x = none) (hv : bootBuiltins x = some (.type T)) (ha : EA X (a :: es) ws) (hn : x ≠ "__name__" := by decide) (hdb : (x == ("__debug__" : Str)) = false := by decide) (he : starEach (a :: es) X.env = (false, eval a X.env) :: starEach es X.env := by first | exact star_cons rfl | rfl) (hpl : (backTo pos (starEach es X.env)).any (·.1) = false := by rfl) : EE X (.Call (.Name x p) (a :: es) [] pos) (wCB o ws) := ⟨me_callTy hc hg hm hv ha.h hn hdb he hpl⟩
end
section
variable {X : Cx} {a b c e : Expr} {es : List Expr} {wa wb wc we : WE} {pos : Pos} {st : Stmt} {rest : List Stmt} {w u : WS}
theorem mss_nil'  : ESs X [] wNext := ⟨mss_nil⟩
theorem mz' (h1 : ES X st w) (h2 : ESs X rest u) : ESs X (st :: rest) (wSeq w u) := ⟨mss_cons h1.h h2.h⟩
theorem mss_one' (h1 : ES X st w) : ESs X [st] w := ⟨mss_one h1.h⟩
end
section
variable {X : Cx} {a b c e : Expr} {es : List Expr} {wa wb wc we : WE} {ws : WA} {wt : WT} {pos : Pos} {st : Stmt} {rest body body2 : List Stmt} {w u : WS}
theorem ms_ret' (he : EE X e we) : ES X (.Return (some e) pos) (wRet we) := ⟨ms_ret he.h⟩
theorem ms_expr' (he : EE X e we) (hs : swapsWith e none pos.line X.env = pure false := by rfl) : ES X (.Expr e pos) (wDrop we) := ⟨ms_expr he.h hs⟩
theorem ms_if' {t : Expr} (ht : ET X t wt) (h1 : ESs X body w) (h2 : ESs X body2 u) : ES X (.If t body body2 pos) (wIfS wt w u) := ⟨ms_if ht.h h1.h h2.h⟩
theorem ms_never'  : ES X st wNever := ⟨ms_never⟩
theorem ms_set' {i : Nat} {x : Str} {pos' : Pos} (hN : X.N.Nodup) (hi : X.N[i]? = some x) (hx : Loc X.env.scope x) (he : EE X e we) (hs : swapsWith e (some (.Name x pos')) pos.line X.env = pure false := by rfl) (hf : X.fn x = true ∨ X.env.scope.names.lookup x = some .local := by first | exact .inl rfl | exact .inr rfl | assumption) : ES X (.Assign [.Name x pos'] e pos) (wSet i we) := ⟨ms_set hN hi hx he.h hs hf⟩
theorem mg_name' {i : Nat} {x : Str} (hN : X.N.Nodup) (hi : X.N[i]? = some x) (hx : Loc X.env.scope x) (hf : X.fn x = true ∨ X.env.scope.names.lookup x = some .local := by first | exact .inl rfl | exact .inr rfl | assumption) : EG X (.Name x pos) (gM i) := ⟨mg_name hN hi hx hf⟩
theorem mgs_nil'  : EGs X [] gMNil := ⟨mgs_nil⟩
theorem mgs_cons' {e : Expr} {es : List Expr} {g : WG} {gs : WGs} (h1 : EG X e g) (h2 : EGs X es gs) (hs : (assignEach (e :: es) X.env).map (·.2) = assign e X.env :: (assignEach es X.env).map (·.2) := by rfl) : EGs X (e :: es) (gMCons g gs) := ⟨mgs_cons h1.h h2.h hs⟩
theorem mg_tup' {es : List Expr} {k : Nat} {gs : WGs} {n : Nat} (h : EGs X es gs) (hc : X.calm = true := by rfl) (hn : (assignEach es X.env).length = n := by rfl) (hst : (assignEach es X.env).findIdx? (·.1) = none := by rfl) : EG X (.Tuple es k pos) (gMTup n gs) := ⟨mg_tup h.h hc hn hst⟩
theorem ms_par' {i j : Nat} {x y : Str} {px py pt : Pos} {kt k2 pt2} (hN : X.N.Nodup) (hi : X.N[i]? = some x) (hj : X.N[j]? = some y) (hij : i ≠ j) (hx : X.env.scope.names.lookup x = some .local) (hy : X.env.scope.names.lookup y = some .local) (ha : EA X [a, b] ws) (hw : swappedStores [.Tuple [.Name x px, .Name y py] kt pt] (.Tuple [a, b] k2 pt2) X.env = pure (some [x, y])) (hc : X.calm = true := by rfl) (hs : swapsWithSole [.Tuple [.Name x px, .Name y py] kt pt] (.Tuple [a, b] k2 pt2) pos.line X.env = pure false := by rfl) : ES X (.Assign [.Tuple [.Name x px, .Name y py] kt pt] (.Tuple [a, b] k2 pt2) pos) (wPar i j ws) := ⟨ms_par hN hi hj hij hx hy ha.h hw hc hs⟩
end
section
variable {X : Cx} {tg a b c e iter : Expr} {es : List Expr} {wa wb wc we : WE} {ws : WA} {wt : WT} {pos : Pos} {st : Stmt} {rest body body2 : List Stmt} {w u : WS}
theorem mi_seq' (he : EE X e we) : EI X tg e (wiSeq we) := ⟨mi_seq he.h⟩
theorem mi_range1' {p : Pos} (hg : Gl X "range") (hm : X.mg "range" = none) (ha : EA X [a] ws) (hs : starEach [a] X.env = [(false, eval a X.env)] := by first | exact star_one rfl | rfl) : EI X tg (.Call (.Name "range" p) [a] [] pos) (wiRng1 ws) := ⟨mi_range1 hg hm ha.h hs⟩
theorem ms_for' {wi : WI} {g : WG} (hi : EI X tg iter wi) (hg : EG X tg g) (hb : ESs X body w) (hp : PassesOwn (model X.prog X.w) X.A X.env X.xe) (hc : X.calm = true := by rfl) (hs : ∀ x, foldedSetIterable iter X.env x = pure x := by intro _; rfl) : ES X (.For tg iter body [] pos) (wFor wi g w) := ⟨ms_for hi.h hg.h hb.h hp hc hs⟩
theorem ms_while' {t : Expr} (ht : ET X t wt) (hb : ESs X body w) (hp : PassesOwn (model X.prog X.w) X.A X.env X.xe) : ES X (.While t body [] pos) (wWhile wt w) := ⟨ms_while ht.h hb.h hp⟩
end
section
variable {X : Cx} {scope sc : Scope} {own fr : List Str} {ps : List Nat} {elt tg iter tg2 iter2 : Expr} {ifs ifs2 : List Expr} {pos spos py : Pos} {wi wi2 : WI} {g g2 : WG} {tt tt2 : WT} {we : WE}
theorem me_comp1' (S : CompScope own fr scope sc) (hi : EI X tg iter wi) (hg : ∀ cl s H C ex, EG (cxComp X scope cl (own ++ fr) s H C ex) tg g) (ht : ∀ cl s H C ex, ETs (cxComp X scope cl (own ++ fr) s H C ex) ifs tt) (he : ∀ cl s H C ex, EE (cxComp X scope cl (own ++ fr) s H C ex) elt we) (hsc : X.env.scope = sc := by rfl) (hps : ps.map (fun i => X.N[i]?) = fr.map some := by rfl) (hc : X.calm = true := by rfl) (hs : ∀ x, foldedSetIterable iter X.env x = pure x := by intro _; rfl) : EE X (.ListComp elt [⟨tg, iter, ifs, 0⟩] scope pos) (wComp1 wi own ps g tt we) := ⟨me_comp1 S hi.h (fun cl s H C ex => (hg cl s H C ex).h) (fun cl s H C ex => (ht cl s H C ex).h) (fun cl s H C ex => (he cl s H C ex).h) hsc hps hc hs⟩
theorem mts_nil'  : ETs X [] wNoTest := ⟨mts_nil⟩
theorem ms_setc1' {i : Nat} {y : Str} (S : CompScope own fr scope sc) (hN : X.N.Nodup) (hy : X.N[i]? = some y) (hlc : X.env.scope.names.lookup y = some .local) (hi : EI X tg iter wi) (hg : ∀ cl s H C ex, EG (cxComp X scope cl (own ++ fr) s H C ex) tg g) (ht : ∀ cl s H C ex, ETs (cxComp X scope cl (own ++ fr) s H C ex) ifs tt) (he : ∀ cl s H C ex, EE (cxComp X scope cl (own ++ fr) s H C ex) elt we) (hsw : swapsWith (.ListComp elt [⟨tg, iter, ifs, 0⟩] scope pos) (some (.Name y py)) spos.line X.env = pure true := by rfl) (hsc : X.env.scope = sc := by rfl) (hps : ps.map (fun i => X.N[i]?) = fr.map some := by rfl) (hc : X.calm = true := by rfl) (hs : ∀ x, foldedSetIterable iter X.env x = pure x := by intro _; rfl) : ES X (.Assign [.Name y py] (.ListComp elt [⟨tg, iter, ifs, 0⟩] scope pos) spos) (wSet i (wComp1 wi own ps g tt we)) := ⟨ms_setc1 S hN hy hlc hi.h (fun cl s H C ex => (hg cl s H C ex).h) (fun cl s H C ex => (ht cl s H C ex).h) (fun cl s H C ex => (he cl s H C ex).h) hsw hsc hps hc hs⟩
end
section
variable {X : Cx}
theorem me_ix' {a b : Expr} {wa wb : WE} {pos : Pos} (ha : EE X a wa) (hb : EE X b wb) (hs : PlainIx b := by intro _ _; rfl) : EE X (.Subscript a b pos) (wBin oItem wa wb) := ⟨me_ix ha.h hb.h hs⟩
end
section
variable {X : Cx} {o a b c e : Expr} {es : List Expr} {wo wa wb wc we wi : WE} {ws : WA} {pos apos cpos : Pos}
theorem me_ml' {name : Str} {id : String} {ob : WM} (slot : Slot "list" name id) (hty : typeOf (.builtin id) = pure (.type "method_descriptor")) (hm : MtM X id (mM X.kx ob)) (ho : EE X o wo) (ha : EA X (e :: es) ws) (hbase : attributeBase o name X.env (eval o X.env) = eval o X.env := by rfl) (hfew : ((backTo cpos (starEach (e :: es) X.env)).all (fun x => !x.1) && (backToKw cpos (keywordEach [] X.env)).all (fun x => x.1.isSome)
   && decide ((e :: es).length + ([] : List Keyword).length + (if ([] : List Keyword).isEmpty then 0 else 1) < 30)) = true := by rfl) (hline : (apos.endLine == cpos.line) = true := by rfl) (hs : starEach (e :: es) X.env = (false, eval e X.env) :: starEach es X.env := by first | exact star_cons rfl | rfl) (hplain : (backTo cpos (starEach es X.env)).any (·.1) = false := by rfl) : EE X (.Call (.Attribute o name apos) (e :: es) [] cpos) (wML ob wo ws) := ⟨me_ml slot hty hm ho.h ha.h hbase hfew hline hs hplain⟩
theorem mo_none'  : EO X none wNoPart := ⟨mo_none⟩
theorem mo_some' (he : EE X e we) : EO X (some e) (wPart we) := ⟨mo_some he.h⟩
theorem me_slice' {lo hi : Option Expr} {wl wh : WO1} {p2 : Pos} {ob : R → Option Int → Option Int → MSt → (R → Prop) → Prop} (hr : SlR X (sM X.kx ob)) (he : EE X e we) (hl : EO X lo wl) (hu : EO X hi wh) : EE X (.Subscript e (.Slice lo hi none p2) pos) (wSl ob we wl wh) := ⟨me_slice hr he.h hl.h hu.h⟩
end
section
variable {X : Cx} {a : Expr} {es : List Expr} {ws : WA} {pos p : Pos} {k n : Nat} {sp : SpM} {x : Str}
theorem mf' (F : FnM X.prog X.w X.K X.mg X.base x k n sp) (hr : Room k X.A) (ha : EA X (a :: es) ws) (hg : Gl X x := by rfl) (hdb : (x == ("__debug__" : Str)) = false := by decide) (he : starEach (a :: es) X.env = (false, eval a X.env) :: starEach es X.env := by first | exact star_cons rfl | rfl) (hpl : (backTo pos (starEach es X.env)).any (·.1) = false := by rfl) : EE X (.Call (.Name x p) (a :: es) [] pos) (wCall sp ws) := ⟨me_callF F hr ha.h hg hdb he hpl⟩
end
theorem mk_fn' {P : Program} {w : World} {K : PySem.W.Frag} {mg : Str → Option Value} {base : Heap} {x : Str} {st : Stmt} {N ps : List Str} {n nN k : Nat} {sp : SpM} (D : DefM K mg x st ps) (S : FnScope N ps (defScope st)) (hn : ps.length = n) (hN : N.length = nN) (hle : n ≤ nN) (ar : ∀ as Kc, sp as Kc → as.length = n)
  (hbody : ∀ (cdv : Value) (A : Around) (outer : List Env) (s : Shared) (H : Hp) (E : XK) (f : Addr), Room k (A.deeper (envOfC x (defScope st) s.heap.objs.size f cdv)) →
   ∃ ww, ESs (cxOf CX0 P w K mg base N x (defScope st) f cdv A outer s H E).nox (defBody st) ww ∧ ∀ as Kc, as.length = n → sp as Kc → ww { nx := fun m => Kc (.imm .none) (m.os.take m.np), rt := fun r m => retK Kc m r } (mstart nN as)) :
  FnM P w K mg base x (k + 1) n sp := mk_fn D S hn hN hle ar fun cdv A outer s H E f hr => let ⟨ww, h1, h2⟩ := hbody cdv A outer s H E f hr; ⟨ww, h1.h, h2⟩
theorem mk_fnE' {P : Program} {w : World} {K : PySem.W.Frag} {mg : Str → Option Value} {base : Heap} {x : Str} {st : Stmt} {N ps : List Str} {n nN k : Nat} {sp : SpM} {f : Addr} {fd : FuncData} (F : Fun K x x st f fd) (S : FnScope N ps (defScope st)) (hn : ps.length = n) (hN : N.length = nN) (hle : n ≤ nN)
  (hbody : ∀ (cdv : Value) (A : Around) (outer : List Env) (s : Shared) (H : Hp) (E : XK) (f : Addr), Room k (A.deeper (envOfC x (defScope st) s.heap.objs.size f cdv)) →
   ∃ ww, ESs (cxOf CX0 P w K mg base N x (defScope st) f cdv A outer s H E).nox (defBody st) ww ∧ ∀ as Kc, as.length = n → sp as Kc → ww { nx := fun m => Kc (.imm .none) (m.os.take m.np), rt := fun r m => retK Kc m r } (mstart nN as)) :
  FnOk P w K mg base CX0 (k + 1) f fd ps (spOf ⟨K, w⟩ n sp) := mk_fnE F S hn hN hle fun cdv A outer s H E f hr => let ⟨ww, h1, h2⟩ := hbody cdv A outer s H E f hr; ⟨ww, h1.h, h2⟩
end L2
namespace HT
open PySem PySem.Spec PyProof.Rows
section
variable {prog : Program} {w : World} {A : Around} {E : Value → Shared → Prop} {s : Shared}
theorem cut_whole {t sl : Addr} {items : Array Value} {vl vu : Value} {lo hi : Option Int} {Q : Value → Shared → Prop} (ht : IsTup s.heap t items) (hs : s.heap.IsSliceOf sl vl vu .none) (pl : IsPart vl lo) (pu : IsPart vu hi)
  (hw : sIx items.size 0 lo = 0 ∧ sIx items.size items.size hi = items.size) (h : Q (.ref t) s) : wpAny (model prog w) A (getItem (.ref t) (.ref sl)) Q E s := by
 obtain ⟨os, hos, hcs, hds⟩ := id hs
 have hTs : s.TypeIs (.ref sl) "slice" := ⟨os, hos, hcs⟩
 unfold getItem
 try with_reducible refine wpAny_holding ?_
 first | (refine wpAny_bind (wpAny_pure ?_)) | skip
 refine wpAny_bind (wpAny_sequenceKey ht.typeIs (by decide) (wpAny_bind (wpAny_callSpecial?_slot (name := Str.ofString "__getitem__") ht.typeIs PyProof.Rows.slot_tuple_getitem (wpAny_call_entry PyProof.Rows.slot_tuple_getitem ht.typeIs entry_tuple_getitem ?_ (args_tuple_getitem _ _)))))
 show wpAny _ _ (Builtin.Tuple.tupleItemsOf (.ref t) >>= _) _ _ s
 refine wpAny_bind (tupleItemsOf_ ht (wpAny_bind (wpAny_typeOf hTs ?_)))
 rw [if_pos (by decide)]
 refine wpAny_bind (sliceApplied_gen hs pl pu ?_)
 have hyes : (((sIx items.size 0 lo : Nat) : Int) == 0 && (1 : Int) == 1 && (sIx items.size items.size hi - sIx items.size 0 lo) == items.size) = true := by
  rw [hw.1, hw.2]; simp
 show wpAny _ _ (if (((sIx items.size 0 lo : Nat) : Int) == 0 && (1 : Int) == 1 && (sIx items.size items.size hi - sIx items.size 0 lo) == items.size) = true then _ else _) _ _ s
 rw [if_pos hyes]
 refine wpAny_bind ?_
 unfold Builtin.Tuple.tupleIsExact
 refine wpAny_bind (wpAny_typeOf ht.typeIs (wpAny_pure ?_))
 rw [if_pos (by rfl)]
 exact wpAny_bind (wpAny_rule (wpAny_pure ⟨_, rfl, wpAny_pure h⟩))
end
end HT
namespace L2
open PySem PySem.Spec PyProof.Rows
section
variable {X : Cx}
def oCut : R → Option Int → Option Int → MSt → (R → Prop) → Prop := fun r lo hi m K => (∃ ds, lsOf m r = some ds ∧ K (.new (cutD ds lo hi))) ∨ ∃ ds, r = .imm (.tuple ds) ∧ K (.imm (.tuple (cutD ds lo hi)))
theorem sl_cutM : SlR X (sM X.kx oCut) := by
 intro pins s σ' H x v vl vu lo hi sl Q I rx hs pl pu hq
 obtain ⟨α, m, σ, H0, r, Kc, Rl, h, k | ⟨ds, rfl, k⟩, fin⟩ := hq
 ·exact sl_listM pins s σ' H x v vl vu lo hi sl Q I rx hs pl pu ⟨α, m, σ, H0, r, Kc, Rl, h, k, fin⟩
 ·obtain ⟨a, xs, rfl, f, g⟩ := tup_of_den (show Den X.kx H (.tuple ds) x from h)
  by_cases hw : HT.sIx xs.length 0 lo = 0 ∧ HT.sIx xs.length xs.length hi = xs.length
  ·cases rx
   obtain ⟨its, rv, ht, hz⟩ := I.tuple f
   have hlen : its.toArray.size = xs.length := by rw [List.size_toArray]; exact rv.length.symm
   refine ⟨"tuple", _, PyProof.Rows.slot_tuple_getitem.lookup, ht.typeIs, ?_⟩
   refine HT.cut_whole ht hs pl pu (by rw [hlen]; exact hw) ⟨.ref a, H, I, rfl, fin _ _ H k Rl (rr_of (den_tup f ?_)) (Frm.refl _ _)⟩
   have e : cutD ds lo hi = ds := by
    unfold cutD
    rw [g.length, hw.1, hw.2, List.drop_zero, Nat.sub_zero, ← g.length, List.take_length]
   rw [e]; exact g
  ·exact sl_tup pins s σ' H _ v vl vu lo hi sl Q I rx hs pl pu ⟨a, xs, rfl, f, hw, fun p hp => fin _ _ _ k (Rl.lay hp) (rr_of (den_tup (SqT.of upd_same) ((cut_den g lo hi).mono (pers_upd (.inl hp))))) (frm_upd hp)⟩
theorem x_cutL' {m : MSt} {r : R} {lo hi : Option Int} {Kr : R → Prop} {ds : List PyData} (e : lsOf m r = some ds) (h : Kr (.new (cutD ds lo hi))) : oCut r lo hi m Kr := .inl ⟨ds, e, h⟩
def oMax : WC := fun rs _ K => match rs with | [.imm (.int i), .imm (.int j)] => K (.imm (.int (if j > i then j else i))) | _ => False
theorem call_maxM (hc : X.calm = true) : CallR X (.builtin "max") (cM X.kx oMax) := by
 rintro pins s σ' H xs us Q I rv ⟨α, m, σ, H0, rs, Kc, Rl, h, ho, fin⟩
 match rs, h, ho with
 | [.imm (.int i), .imm (.int j)], .cons h1 (.cons h2 .nil), ho =>
  have e1 := int_of_den (show Den X.kx H (.int i) _ from h1)
  have e2 := int_of_den (show Den X.kx H (.int j) _ from h2)
  subst e1 e2
  exact call_max2 hc pins s σ' H _ us Q I rv ⟨i, j, rfl, fin _ _ H ho Rl (rr_int _) (Frm.refl _ _)⟩
theorem x_max {m : MSt} {i j : Int} {Kr : R → Prop} (h : Kr (.imm (.int (if j > i then j else i)))) : oMax [.imm (.int i), .imm (.int j)] m Kr := h
def onNew (P : List PyData → Prop) : R → Prop
 | .new ds => P ds
 | _ => False
def oExtend : WM := fun r rs m K => onObj (fun k => on1 (onNew fun es => ∃ ds, m.os[k]? = some ds ∧ ds.length + es.length ≤ sizeLine ∧ K (.imm .none) { m with os := m.os.set k (ds ++ es) }) rs) r
theorem mt_extendM : MtM X "list.extend" (mM X.kx oExtend) := by
 rintro pins s σ' H x xs v us Q I rx rv ⟨α, m, σ, H0, H1, r, rs, Kc, Rl, h1, h2, ho, fin⟩
 obtain ⟨k, a, rfl, ea, rfl, ho⟩ := on_obj h1 ho
 obtain ⟨r2, v2, rfl, rfl, h2, ho⟩ := on_one h2 ho
 cases r2 with
 | imm _ => exact ho.elim
 | obj _ => exact ho.elim
 | «at» _ _ => exact ho.elim
 | newT _ => exact ho.elim
 | new es =>
  obtain ⟨ds, e1, hz, ho⟩ := ho
  obtain ⟨b, zs, rfl, hb0, hb, gb⟩ := h2
  obtain ⟨ys, q, g⟩ := Rl.own _ _ ds ea e1
  obtain ⟨R2, F2⟩ := Rl.setO ea q (g.append gb)
  exact mt_extend pins s σ' H _ _ v us Q I rx rv ⟨a, b, ys, zs, rfl, rfl, q, hb, by rw [← g.length, ← gb.length]; exact hz, fin _ _ _ _ ho rfl R2 rr_non F2⟩
theorem x_extend {m : MSt} {k : Nat} {K : R → MSt → Prop} {ds es : List PyData} (e : m.os[k]? = some ds) (hz : ds.length + es.length ≤ sizeLine) (h : K (.imm .none) { m with os := m.os.set k (ds ++ es) }) : oExtend (.obj k) [.new es] m K := ⟨ds, e, hz, h⟩
end
def SubI (t : Bool) (h : Heap) (i l : Addr) (k : Nat) : Prop := if t then h.IsTupleIter i l k else h.IsListIter i l k
def SubS (t : Bool) (h : Heap) (l : Addr) (its : Array Value) : Prop := if t then h.IsTuple l its else h.IsList l its
theorem SubS.keep {t : Bool} {h h' : Heap} {l : Addr} {its : Array Value} (x : SubS t h l its) (e : ∀ o, h.get? l = some o → h'.get? l = some o) : SubS t h' l its := by
 cases t
 ·obtain ⟨o, q, r⟩ := (show h.IsList l its from x); exact ⟨o, e o q, r⟩
 ·obtain ⟨o, q, r⟩ := (show h.IsTuple l its from x); exact ⟨o, e o q, r⟩
def zit (t : Bool) : String := if t then "tuple_iterator" else "list_iterator"
abbrev itO (t : Bool) (l : Addr) : Obj := { cls := .type (zit t), data := .fields #[.ref l, .int 0 0] }
theorem pyIter_sub {prog : Program} {w : World} {A : Around} {E : Value → Shared → Prop} {s : Shared} {t : Bool} {l : Addr} {its : Array Value} {Q : Value → Shared → Prop} (h : SubS t s.heap l its)
  (hQ : Q (.ref s.heap.objs.size) { s with heap := s.heap.push (itO t l) }) : wpAny (model prog w) A (pyIter (.ref l)) Q E s := by
 cases t
 ·exact wpAny_pyIter_list (show s.heap.IsList l its from h) hQ
 ·exact wpAny_pyIter_tuple (show s.heap.IsTuple l its from h) hQ
def SqB (t : Bool) (K : PySem.W.Frag) (H : Hp) (a : Addr) (xs : List V) : Prop := if t then SqT K H a xs else SqL K H a xs
theorem Inv.sqb {X : Cx} {pins : List (Addr × Obj)} {σ : St} {H : Hp} {s : Shared} {t : Bool} {a : Addr} {xs : List V} (I : Inv X pins σ H s) (h : SqB t X.kx H a xs) : ∃ its : List Value, Vals xs its ∧ SubS t s.heap a its.toArray ∧ xs.length ≤ sizeLine := by
 cases t
 ·obtain ⟨its, r, p, z⟩ := I.list (show SqL X.kx H a xs from h); exact ⟨its, r, p.isList, z⟩
 ·obtain ⟨its, r, p, z⟩ := I.tuple (show SqT X.kx H a xs from h); exact ⟨its, r, p, z⟩
theorem map_take_succ {α β : Type} {xs : List α} {i : Nat} {x : α} (f : α → β) (h : xs[i]? = some x) : (xs.take (i + 1)).map f = (xs.take i).map f ++ [f x] := by
 rw [List.take_add_one, h, List.map_append]; rfl
theorem gmap {α β : Type} {xs : List α} {i : Nat} {y : β} {f : α → β} (h : (xs.map f)[i]? = some y) : ∃ x, xs[i]? = some x ∧ y = f x ∧ i < xs.length := by
 rw [List.getElem?_map] at h
 cases q : xs[i]? with
 | none => rw [q] at h; cases h
 | some x => rw [q] at h; exact ⟨x, rfl, (Option.some.inj h).symm, (List.getElem?_eq_some_iff.mp q).1⟩
theorem get_range {lo : Int} {n i : Nat} {d : PyData} (h : (rangeD lo n)[i]? = some d) : i < n ∧ d = .int (lo + (i : Int)) := by
 have hi : i < n := by
  have := (List.getElem?_eq_some_iff.mp h).1
  rwa [rangeD_length] at this
 rw [rangeD_get hi] at h
 exact ⟨hi, (Option.some.inj h).symm⟩
theorem x_bindRen {n k : Nat} {P : MSt → Prop} {m : MSt} (ρ : List Nat) (m2 : MSt) (N : Ren ρ (m.setV n (.obj k)) m2) (h : P m2) : bindR n P m (.obj k) := .inr ⟨ρ, m2, N, h⟩
def RenO (ρ : List Nat) (o : Option R) : Option R → Prop
 | none => True
 | some r => RenR ρ (some o) r
def RenVs (ρ : List Nat) : List (Option R) → List (Option R) → Prop
 | o :: os, q :: qs => RenO ρ o q ∧ RenVs ρ os qs
 | [], [] => True
 | _, _ => False
theorem RenVs.len {ρ : List Nat} : ∀ {os qs : List (Option R)}, RenVs ρ os qs → qs.length = os.length
 | [], [], _ => rfl
 | _ :: _, _ :: _, h => congrArg (· + 1) (RenVs.len h.2)
 | [], _ :: _, h => h.elim
 | _ :: _, [], h => h.elim
theorem RenVs.get {ρ : List Nat} : ∀ {os qs : List (Option R)}, RenVs ρ os qs → ∀ (j : Nat) (r : R), qs[j]? = some (some r) → RenR ρ os[j]? r
 | o :: os, q :: qs, h, 0, r, e => by
  have e' : q = some r := by simpa using e
  subst e'
  exact h.1
 | o :: os, q :: qs, h, j + 1, r, e => by simpa using RenVs.get h.2 j r (by simpa using e)
 | [], [], _, _, _, e => by simp at e
 | [], _ :: _, h, _, _, _ => h.elim
 | _ :: _, [], h, _, _, _ => h.elim
theorem ren_of {ρ : List Nat} {m m2 : MSt} (nd : decide ρ.Nodup = true) (lt : (ρ.all fun k => Nat.blt k m.os.length) = true) (pre : ρ.take m.np = List.range m.np) (npl : Nat.ble m.np ρ.length = true) (os : m2.os = ρ.map fun k => m.os.getD k []) (np : m2.np = m.np) (vs : RenVs ρ m.vs m2.vs) : Ren ρ m m2 :=
 ⟨of_decide_eq_true nd, fun k hk => Nat.blt_eq.mp (List.all_eq_true.mp lt k hk), pre, Nat.le_of_ble_eq_true npl, os, np, vs.len, fun j r e => vs.get j r e⟩
end L2
namespace M3
def stepL (xs : List (List Nat)) (r : Nat) : List (List Nat) := xs.flatMap fun a => (List.range (r + 1)).map fun k => a ++ [k]
def allL (rs : List Nat) : List (List Nat) := rs.foldl stepL [[]]
def allR : List Nat → List (List Nat)
 | [] => [[]]
 | r :: rs => (List.range (r + 1)).flatMap fun k => (allR rs).map (k :: ·)
theorem fold_step : ∀ (rs : List Nat) (xs : List (List Nat)), rs.foldl stepL xs = xs.flatMap fun a => (allR rs).map (a ++ ·)
 | [], xs => by
  simp [allR]
 | r :: rs, xs => by
  rw [List.foldl_cons, fold_step rs]
  simp only [stepL, allR, List.flatMap_assoc, List.map_flatMap, List.flatMap_map, List.map_map]
  congr 1
  funext a
  congr 1
  funext k
  congr 1
  funext l
  simp
theorem allL_eq (rs : List Nat) : allL rs = allR rs := by
 unfold allL
 rw [fold_step]
 simp
theorem allR_len : ∀ {rs l : List Nat}, l ∈ allR rs → l.length = rs.length
 | [], l, h => by simp [allR] at h; subst h; rfl
 | r :: rs, l, h => by
  simp only [allR, List.mem_flatMap, List.mem_map] at h
  obtain ⟨k, _, l', h, rfl⟩ := h
  simp [allR_len h]
theorem stepL_length (xs : List (List Nat)) (r : Nat) : (stepL xs r).length = xs.length * (r + 1) := by
 unfold stepL
 induction xs with
 | nil => simp
 | cons a xs ih =>
  rw [List.flatMap_cons, List.length_append, ih, List.length_map, List.length_range, List.length_cons, Nat.succ_mul]
  omega
theorem fold_len : ∀ {rs : List Nat} {xs : List (List Nat)}, (∀ r ∈ rs, r ≤ 6) → (rs.foldl stepL xs).length ≤ xs.length * 7 ^ rs.length
 | [], xs, _ => by simp
 | r :: rs, xs, h => by
  rw [List.foldl_cons]
  refine Nat.le_trans (fold_len fun r' h' => h r' (List.mem_cons_of_mem _ h')) ?_
  rw [stepL_length, List.length_cons, Nat.pow_succ, Nat.mul_assoc, Nat.mul_comm (7 ^ rs.length)]
  refine Nat.mul_le_mul_left _ (Nat.mul_le_mul_right _ ?_)
  have := h r List.mem_cons_self
  omega
theorem fold_small {rs : List Nat} (h4 : rs.length ≤ 4) (h : ∀ r ∈ rs, r ≤ 6) : (rs.foldl stepL [[]]).length ≤ 2401 := by
 refine Nat.le_trans (fold_len h) ?_
 have : 7 ^ rs.length ≤ 7 ^ 4 := Nat.pow_le_pow_right (by decide) h4
 simpa using this
theorem stepL_take {xs : List (List Nat)} {r j : Nat} {l : List Nat} (h : xs[j]? = some l) : stepL (xs.take (j + 1)) r = stepL (xs.take j) r ++ (List.range (r + 1)).map fun y => l ++ [y] := by
 unfold stepL
 rw [List.take_add_one, h, List.flatMap_append]
 simp
end M3
set_option maxHeartbeats 4100000
namespace K
open PySem L2
def spLaw : SpM := fun as K => ∃ ns : List Int, as = [.imm (.list (ns.map .int))] ∧ ns.length ≤ 63 ∧ K (.imm (.bool true)) []
def frD (a b : Int) : PyData := .tuple [.int a, .int b]
def spCut : SpM := fun as K => ∃ a b : Nat, as = [.imm (.int a), .imm (.int b)] ∧ a < 1000000000 ∧ 0 < b ∧ b < 1000000000 ∧ K (.imm (frD (a / a.gcd b : Nat) (b / a.gcd b : Nat))) []
structure Srv where
 a : Nat
 b : Nat
 r : Nat
def Srv.d (s : Srv) : PyData := .tuple [.tuple [.int s.a, .int s.b], .int s.r]
structure Srv.Ok (s : Srv) : Prop where
 a1 : 1 ≤ s.a
 a2 : s.a < 1000000
 b1 : 1 ≤ s.b
 b2 : s.b < 1000000
 r1 : 1 ≤ s.r
 r6 : s.r ≤ 6
structure Hall where
 a : Nat
 b : Nat
 ss : List Srv
 mv : Bool
def Hall.d (h : Hall) : PyData := .tuple [.tuple [.int h.a, .int h.b], .tuple (h.ss.map Srv.d), .bool h.mv]
structure Hall.Ok (h : Hall) : Prop where
 a1 : 1 ≤ h.a
 a2 : h.a < 1000000
 b1 : 1 ≤ h.b
 b2 : h.b < 1000000
 n1 : 1 ≤ h.ss.length
 n4 : h.ss.length ≤ 4
 ok : ∀ s ∈ h.ss, s.Ok
def Hall.rs (h : Hall) : List Nat := h.ss.map Srv.r
theorem Hall.rsl (h : Hall) : h.rs.length = h.ss.length := by simp [Hall.rs]
theorem Hall.Ok.r6 {h : Hall} (o : h.Ok) : ∀ r ∈ h.rs, r ≤ 6 := fun r hr => by
 obtain ⟨s, hs, rfl⟩ := List.mem_map.mp hr
 exact (o.ok s hs).r6
theorem Hall.rs_get {h : Hall} {i : Nat} {s : Srv} (e : h.ss[i]? = some s) : h.rs[i]? = some s.r := by simp [Hall.rs, e]
def prD (p : Nat × Nat) : PyData := .tuple [.int (p.1 : Int), .int (p.2 : Int)]
def natD (l : List Nat) : List PyData := l.map fun (k : Nat) => .int (k : Int)
def lnD (l : List Nat) : PyData := .tuple (natD l)
theorem natD_length (l : List Nat) : (natD l).length = l.length := by simp [natD]
theorem allR_small {rs : List Nat} (h4 : rs.length ≤ 4) (h : ∀ r ∈ rs, r ≤ 6) : (M3.allR rs).length ≤ 2401 := by
 rw [← M3.allL_eq]; exact M3.fold_small h4 h
end K
namespace M7
open M3
def cnt : List Nat → Nat
 | [] => 1
 | r :: rs => (r + 1) * cnt rs
theorem allR_cnt : ∀ rs : List Nat, (allR rs).length = cnt rs
 | [] => rfl
 | r :: rs => by
  have ih := allR_cnt rs
  have : ∀ n : Nat, ((List.range n).flatMap fun k => (allR rs).map (k :: ·)).length = n * cnt rs := by
   intro n
   induction n with
   | zero => simp
   | succ n ihn => rw [List.range_succ, List.flatMap_append, List.length_append, ihn]; simp [ih, Nat.succ_mul]
  exact this (r + 1)
end M7
namespace L2
open PySem PySem.Spec PyProof.Rows
theorem walks_sub {prog : Program} {w : World} {A : Around} (t : Bool) (hh : A.handled = none) (I ax : Addr) (hne : ax ≠ I) (items : Array Value) : Walks prog w A I [I, ax] [I] items.size (fun i v => items[i]? = some v) (fun i h => SubI t h I ax i ∧ SubS t h ax items) := by
 cases t
 ·exact Walks.list hh I ax hne items
 ·exact Walks.tuple hh I ax hne items
section
variable {prog : Program} {w : World} {A : Around} {E : Value → Shared → Prop} {s : Shared}
theorem iter_sub {t : Bool} {l : Addr} {items : Array Value} {Q : Value → Shared → Prop} (hl : SubS t s.heap l items)
  (h : ∀ s2 : Shared, s2 = { s with heap := s.heap.push (itO t l) } → (SubI t s2.heap s.heap.objs.size l 0 ∧ SubS t s2.heap l items) → (∀ b ∈ [s.heap.objs.size, l], b < s2.heap.objs.size) → l ≠ s.heap.objs.size → Q (.ref s.heap.objs.size) s2) : wpAny (model prog w) A (pyIter (.ref l)) Q E s := by
 have hlt : l < s.heap.objs.size := by
  cases t
  ·obtain ⟨_, e, _⟩ := (show s.heap.IsList l items from hl); exact Heap.lt_size e
  ·obtain ⟨_, e, _⟩ := (show s.heap.IsTuple l items from hl); exact Heap.lt_size e
 refine pyIter_sub hl (h _ rfl ⟨?_, hl.keep fun o e => Heap.get?_push_of_some _ e⟩ (fun b hb => ?_) (Nat.ne_of_lt hlt))
 ·cases t
  ·exact ⟨_, Heap.get?_push_size _ rfl, rfl, rfl⟩
  ·exact ⟨_, Heap.get?_push_size _ rfl, rfl, rfl⟩
 ·show b < (s.heap.push _).objs.size
  rw [Heap.size_push]
  simp only [List.not_mem_nil, or_false, List.mem_cons] at hb
  rcases hb with rfl | rfl
  ·exact Nat.lt_succ_self _
  ·exact Nat.lt_succ_of_lt hlt
theorem sub_kept {t : Bool} {l : Addr} {h' : Heap} (hk : ∀ b o, b ∉ [s.heap.objs.size] → (s.heap.push (itO t l)).get? b = some o → h'.get? b = some o) : ∀ b o, s.heap.get? b = some o → h'.get? b = some o := fun b o e =>
 hk b o (fun hm => absurd (Heap.lt_size e) (by rw [List.mem_singleton.mp hm]; exact Nat.lt_irrefl _)) (Heap.get?_push_of_some _ e)
theorem ints_at {items : Array Value} {ns : List Int} (hi : IntsAre items.toList ns) : ∀ (i : Nat) (v : Value), items[i]? = some v → ∃ t, v = .int (ns.getD i 0) t := fun i v e => hi.int_at i v (by simpa using e)
end
section
variable {X : Cx}
def rMax (K : PySem.W.Frag) : List V → Hp → VK → Prop := fun xs H Q => ∃ t l ns, xs = [.ref l] ∧ SqB t K H l (ns.map V.int) ∧ ns ≠ [] ∧ ∀ x, x ∈ ns → (∀ y ∈ ns, y ≤ x) → Q (.int x) H
theorem best_mem {ns : List Int} {b : Nat} (hb : b ≤ ns.length - 1) (hne : ns ≠ []) : ns.getD b 0 ∈ ns := by
 have hl : b < ns.length := by
  have : ns.length ≠ 0 := fun z => hne (List.eq_nil_of_length_eq_zero z)
  omega
 rw [getD_of (List.getElem?_eq_getElem hl)]
 exact List.getElem_mem hl
theorem call_max1 (hc : X.calm = true) : CallR X (.builtin "max") (rMax X.K) := by
 rintro pins s σ H xs us Q I rv ⟨t, l, ns, ex, hq, hne, q⟩
 subst ex
 obtain ⟨u, rfl, ru⟩ := rv.one
 cases ru
 obtain ⟨its, rvv, pl, _⟩ := I.sqb hq
 have hi : IntsAre its.toArray.toList ns := intsAre_of rvv
 have hl : its.length = ns.length := by have := rvv.length; rw [List.length_map] at this; omega
 refine call_max_walk (iter_sub pl fun s2 e st hfp hlI => ?_)
 subst e
 refine ⟨s.heap.objs.size, [s.heap.objs.size, l], [s.heap.objs.size], its.toArray.size, fun i v => its.toArray[i]? = some v, fun i h => SubI t h s.heap.objs.size l i ∧ SubS t h l its.toArray, _, rfl, walks_sub (A := X.A.in1) t (I.ok.hd hc) _ l hlI its.toArray, st, hfp, ?_, CmpOf.ints_gt (fun i => ns.getD i 0) (ints_at hi), fun v h' tk hP hk => ?_⟩
 ·have : ns.length ≠ 0 := fun z => hne (List.eq_nil_of_length_eq_zero z)
  rw [List.size_toArray]; omega
 ·obtain ⟨tt, rfl⟩ := ints_at hi _ v hP
  rw [List.size_toArray, hl] at *
  obtain ⟨b1, b2⟩ := PySem.argBest_gt (fun i => ns.getD i 0) (ns.length - 1)
  refine ⟨.int _, H, I.kept (t' := tk) (sub_kept hk), ⟨_, rfl⟩, q _ (best_mem b1 hne) fun y hy => ?_⟩
  obtain ⟨j, hj, rfl⟩ := List.mem_iff_getElem.mp hy
  have := b2 j (by omega)
  rwa [getD_of (List.getElem?_eq_getElem hj)] at this
end
section
variable {X : Cx}
def oMax1 : WC := fun rs m K => on1 (fun r => ∃ ds ns, sqOf m r = some ds ∧ intsOf ds = some ns ∧ ns ≠ [] ∧ ∀ x, x ∈ ns → (∀ y ∈ ns, y ≤ x) → K (.imm (.int x))) rs
theorem call_max1M (hc : X.calm = true) : CallR X (.builtin "max") (cM X.kx oMax1) := by
 rintro pins s σ' H xs us Q I rv ⟨α, m, σ, H0, rs, Kc, Rl, h, ho, fin⟩
 obtain ⟨r, v, rfl, rfl, h1, ds, ns, e1, e2, hne, ho⟩ := on_one h ho
 obtain ⟨a, ys, rfl, f, g⟩ := h1.seq Rl e1
 rw [intsOf_map e2] at g
 have ey := denAll_ints g
 subst ey
 have go : ∀ x, x ∈ ns → (∀ y ∈ ns, y ≤ x) → Q (.int x) H := fun x h1 h2 => fin _ _ H (ho x h1 h2) Rl (rr_int _) (Frm.refl _ _)
 rcases f with f | f
 ·exact call_max1 hc pins s σ' H _ us Q I rv ⟨false, a, ns, rfl, f, hne, go⟩
 ·exact call_max1 hc pins s σ' H _ us Q I rv ⟨true, a, ns, rfl, f, hne, go⟩
theorem x_max1 {m : MSt} {r : R} {Kr : R → Prop} {ds : List PyData} {ns : List Int} (e1 : sqOf m r = some ds) (e2 : intsOf ds = some ns) (hne : ns ≠ []) (h : ∀ x, x ∈ ns → (∀ y ∈ ns, y ≤ x) → Kr (.imm (.int x))) : oMax1 [r] m Kr := ⟨ds, ns, e1, e2, hne, h⟩
end
theorem noFill_tup : fillsNumberSlot (.type "tuple") "mul" = pure false :=
 PySem.fillsNumberSlot_seq (id := "tuple.__mul__") (r := some (.builtin "tuple.__rmul__")) PySem.F.slot_tuple_mul.lookup (by decide +kernel) PySem.F.slot_tuple_rmul.lookup (by decide +kernel)
theorem rep_tup : seqRepeat? (.type "tuple") = pure (some (.builtin "tuple.__mul__")) := by
 unfold seqRepeat?
 rw [PySem.seqSlot_of (T := "tuple") (name := "__mul__") (id := "tuple.__mul__") PySem.F.slot_tuple_mul.lookup (by decide +kernel), PySem.seqSlot_of (T := "tuple") (name := "__rmul__") (id := "tuple.__rmul__") PySem.F.slot_tuple_rmul.lookup (by decide +kernel)]
 rfl
theorem rmul_tup (a : Int) (t : Tok) (l : Addr) (items : Array Value) (n : Nat) (dd : Option Addr) (sl : Array (Option Value)) :
  Meets (Builtin.«int.__rmul__» ⟨[.int a t, .ref l], []⟩) (fun _ R s => s.heap.get? l = some { cls := .type "tuple", dict := dd, data := .seq items n, slots := sl } ∧ R (.ok (.ret Value.notImplemented)) s) :=
 .of_wp fun prog w A R s h => by
  rcases s with ⟨hp, g, d, tk, os⟩
  rcases h with ⟨hl, h⟩
  wp_walk
  exact ⟨_, rfl, h⟩
open AutoSeq1 (wpAny_loadPart') in
theorem mul_tup (l : Addr) (items : Array Value) (n : Nat) (dd : Option Addr) (sl : Array (Option Value)) (k : Int) (t : Tok) (h1 : 0 ≤ k) (h2 : k < 2 ^ 20) (hz : items.size * k.toNat ≤ 1000000) :
  Meets (Builtin.«tuple.__mul__» ⟨[.ref l, .int k t], []⟩) (fun _ R s => s.heap.get? l = some { cls := .type "tuple", dict := dd, data := .seq items n, slots := sl } ∧
   if (items.isEmpty || k == 1) = true then R (.ok (.ret (.ref l))) s else R (.ok (.ret (.ref s.heap.objs.size))) { s with heap := s.heap.push { cls := .type "tuple", data := .seq ((List.replicate k.toNat items).foldl (fun x1 x2 => x1 ++ x2) #[]) } }) :=
 .of_wp fun prog w A R s h => by
  rcases s with ⟨hp, g, d, tk, os⟩
  rcases h with ⟨hl, h⟩
  (wp_walk using wpAny_loadPart' hl)
  have hT : (⟨hp, g, d, tk, os⟩ : Shared).TypeIs (.ref l) "tuple" := (⟨_, hl, rfl⟩)
  have hIs : IsTup (⟨hp, g, d, tk, os⟩ : Shared).heap l items := ⟨_, hl, rfl, n, rfl⟩
  have hsz : ((items.size : Nat) : Int) * k ≤ 1000000 := by
   have ek : k = ((k.toNat : Nat) : Int) := by omega
   rw [ek, ← Int.natCast_mul]; omega
  rw [if_neg (show ¬ _ by simp only [decide_eq_true_eq, Bool.or_eq_true]; omega)]
  refine wpAny_bind (tupleItemsOf_ hIs ?_)
  by_cases hc : (items.isEmpty || k == 1) = true
  ·rw [if_pos hc] at h ⊢
   refine wpAny_bind ?_
   unfold Builtin.Tuple.tupleIsExact
   refine wpAny_bind (wpAny_typeOf hT (wpAny_pure ?_))
   rw [if_pos (by rfl)]
   exact wpAny_bind (wpAny_rule (wpAny_pure ⟨_, rfl, h⟩))
  ·rw [if_neg hc] at h ⊢
   have he : items.isEmpty = false := by
    cases q : items.isEmpty with
    | false => rfl
    | true => rw [q] at hc; exact (hc rfl).elim
   by_cases hk0 : k = 0
   ·subst hk0
    show wpAny _ _ (if (decide ((0 : Int) ≤ 0) || items.isEmpty) = true then _ else _) _ _ _
    rw [if_pos (by rfl)]
    exact wpAny_bind (m := Builtin.Tuple.tupleExact #[]) (wpAny_newObj_type (wpAny_pure ⟨_, rfl, h⟩) (by show (0 : Nat) ≤ sizeLine; exact Nat.zero_le _))
   have e1 : (decide (k ≤ 0) || items.isEmpty) = false := by rw [he, decide_eq_false (by omega)]; rfl
   have hlen : ∀ (m : Nat) (acc : Array Value), (List.foldl (fun x1 x2 => x1 ++ x2) acc (List.replicate m items)).size = acc.size + m * items.size := by
    intro m
    induction m with
    | zero => intro acc; simp
    | succ m ih => intro acc; rw [List.replicate_succ, List.foldl_cons, ih, Array.size_append, Nat.succ_mul]; omega
   have hbig : ((List.replicate k.toNat items).foldl (fun x1 x2 => x1 ++ x2) #[]).size ≤ sizeLine := by
    rw [hlen, sizeLine_eq, Nat.mul_comm]; simp; omega
   show wpAny _ _ (if (decide (k ≤ 0) || items.isEmpty) = true then _ else _) _ _ _
   rw [if_neg (by rw [e1]; exact Bool.false_ne_true)]
   show wpAny _ _ (if ((items.size : Nat) : Int) * k > (2 ^ 63 - 1) / 8 then _ else _) _ _ _
   rw [if_neg (by omega)]
   show wpAny _ _ (if Builtin.Tuple.tupleTooMany (((items.size : Nat) : Int) * k) = true then _ else _) _ _ _
   rw [if_neg (by unfold Builtin.Tuple.tupleTooMany; rw [decide_eq_true_eq, sizeLine_eq]; omega)]
   exact wpAny_bind (m := Builtin.Tuple.tupleExact _) (wpAny_newObj_type (wpAny_pure ⟨_, rfl, h⟩) hbig)
section
variable {X : Cx}
def rRepT (K : PySem.W.Frag) : R2 := fun x y H Q => ∃ a xs k, x = .ref a ∧ y = .int k ∧ SqT K H a xs ∧ 0 ≤ k ∧ k < 2 ^ 20 ∧ xs.length * k.toNat ≤ 1000000 ∧
 if (xs.isEmpty || k == 1) = true then Q (.ref a) H else ∀ p, H p = none → Q (.ref p) (upd H p (.tup (List.replicate k.toNat xs).flatten))
theorem op_repT : OpR X (binaryOp .Mult) (rRepT X.K) := by
 intro pins s σ H x y v u Q I rx ry h
 obtain ⟨a, xs, k, rfl, rfl, hq, h1, h2, hz, q⟩ := h
 cases rx
 obtain ⟨t, rfl⟩ := ry
 obtain ⟨its, r, ⟨o, ho, hc, hd, n, hdt⟩, hsz⟩ := I.tupleP hq
 obtain ⟨cls, dd, data, sl⟩ := o
 dsimp only at hc hdt
 subst hc hdt
 have hl : xs.length = its.length := r.length
 have hem : its.toArray.isEmpty = xs.isEmpty := by
  cases its with
  | nil => have : xs = [] := List.eq_nil_of_length_eq_zero (by simpa using hl); subst this; rfl
  | cons _ _ => cases xs with
   | nil => simp at hl
   | cons _ _ => rfl
 have hnew : List.foldl (fun x1 x2 => x1 ++ x2) #[] (List.replicate k.toNat its.toArray) = (List.replicate k.toNat its).flatten.toArray := by
  have := foldl_rep its k.toNat []
  rw [List.nil_append] at this
  exact this
 refine wpAny_binaryOp_repeat_ref (T := "tuple") (U := "int") (by decide) ⟨_, ho, rfl⟩ (fun s' => typeIs_int s' k t) noFill_tup PySem.F.fills_int_mul PySem.F.slot_int_rmul rep_tup PySem.F.slot_int_index.lookup
  (call_meets PySem.F.slot_int_rmul (typeIs_int s k t) PySem.F.entry_int_rmul (PySem.F.args_int_rmul_2 _ _) (rmul_tup k t a its.toArray n dd sl)
   ⟨ho, rfl, ⟨_, ho, rfl⟩, call_meets PySem.F.slot_tuple_mul ⟨_, ho, rfl⟩ PySem.F.entry_tuple_mul (PySem.F.args_tuple_mul_2 _ _) (mul_tup a its.toArray n dd sl k t h1 h2 (by rw [List.size_toArray, ← hl]; exact hz)) ⟨ho, ?_⟩⟩)
 rw [hem, hnew]
 by_cases hc : (xs.isEmpty || k == 1) = true
 ·rw [if_pos hc] at q ⊢
  exact ⟨.ref a, H, I, rfl, q⟩
 ·rw [if_neg hc] at q ⊢
  have hp : H s.heap.objs.size = none := I.hok.fresh (Nat.le_refl _)
  refine ⟨.ref s.heap.objs.size, _, I.laid (t' := s.toks) (o := .tup (List.replicate k.toNat xs).flatten) (fun b ob e => Heap.get?_push_of_some _ e) (Nat.le_refl _) ⟨?_, _, r.rep k.toNat, PlainT.new _ _⟩, rfl, q _ hp⟩
  rw [len_rep, Nat.mul_comm, sizeLine_eq]; omega
def oMulS : WO
 | .imm (.int i), .imm (.int j), _, K => IntMulOk i j ∧ K (.imm (.int (i * j)))
 | .imm (.tuple ds), .imm (.int k), _, K => 0 ≤ k ∧ k < 2 ^ 20 ∧ ds.length * k.toNat ≤ 1000000 ∧ K (.imm (.tuple (List.replicate k.toNat ds).flatten))
 | .new ds, .imm (.int k), _, K => 0 ≤ k ∧ k < 2 ^ 20 ∧ ds.length * k.toNat ≤ 1000000 ∧ K (.new (List.replicate k.toNat ds).flatten)
 | _, _, _, _ => False
theorem denAll_rep {K : Kd} {H : Hp} {ds : List PyData} {xs : List V} (g : DenAll K H ds xs) : ∀ k : Nat, DenAll K H (List.replicate k ds).flatten (List.replicate k xs).flatten
 | 0 => by simp only [List.replicate_zero, List.flatten_nil, DenAll]
 | k + 1 => by rw [List.replicate_succ, List.replicate_succ, List.flatten_cons, List.flatten_cons]; exact g.append (denAll_rep g k)
theorem op_mulSM : OpR X (binaryOp .Mult) (rM X.kx oMulS) := by
 rintro pins s σ' H x y v u Q I rx ry ⟨α, m, σ, H0, H1, r1, r2, Kc, Rl, h1, h2, ho, fin⟩
 unfold oMulS at ho
 split at ho
 ·rename_i i j
  exact op_mulM pins s σ' H x y v u Q I rx ry ⟨α, m, σ, H0, H1, .imm (.int i), .imm (.int j), Kc, Rl, h1, h2, ho, fin⟩
 ·rename_i ds k
  obtain ⟨k1, k2, k3, ho⟩ := ho
  obtain ⟨a, xs, rfl, f, g⟩ := tup_of_den (show Den X.kx H (.tuple ds) x from h1)
  have e2 := int_of_den (show Den X.kx H (.int k) y from h2)
  subst e2
  refine op_repT pins s σ' H _ _ v u Q I rx ry ⟨a, xs, k, rfl, rfl, f, k1, k2, by rw [← g.length]; exact k3, ?_⟩
  by_cases hc : (xs.isEmpty || k == 1) = true
  ·rw [if_pos hc]
   refine fin _ _ H ho Rl (rr_of (den_tup f ?_)) (Frm.refl _ _)
   have e : (List.replicate k.toNat ds).flatten = ds := by
    rw [Bool.or_eq_true] at hc
    rcases hc with hc | hc
    ·have hx : xs = [] := List.isEmpty_iff.mp hc
     have hd : ds = [] := List.eq_nil_of_length_eq_zero (by rw [g.length, hx]; rfl)
     subst hd; simp
    ·have : k = 1 := by simpa using hc
     subst this; simp
   rw [e]; exact g
  ·rw [if_neg hc]
   exact fun p hp => fin _ _ _ ho (Rl.lay hp) (rr_of (den_tup (SqT.of upd_same) ((denAll_rep g k.toNat).mono (pers_upd (.inl hp))))) (frm_upd hp)
 ·rename_i ds k
  obtain ⟨k1, k2, k3, ho⟩ := ho
  obtain ⟨a, xs, rfl, hb, hH, g⟩ := h1
  have e2 := int_of_den (show Den X.kx H (.int k) y from h2)
  subst e2
  refine op_rep pins s σ' H _ _ v u Q I rx ry ⟨a, k, xs, rfl, rfl, hH, by omega, by omega, by rw [← g.length, sizeLine_eq]; omega, fun p hp => ?_⟩
  exact fin _ _ _ ho (Rl.lay hp) ⟨p, _, rfl, hp, upd_same, (denAll_rep g k.toNat).mono (pers_upd (.inl hp))⟩ (frm_upd hp)
 ·exact ho.elim
theorem x_mulI' {m : MSt} {i j : Int} {Kr : R → Prop} (hc : IntMulOk i j) (h : Kr (.imm (.int (i * j)))) : oMulS (.imm (.int i)) (.imm (.int j)) m Kr := ⟨hc, h⟩
theorem x_mulT {m : MSt} {ds : List PyData} {k : Int} {Kr : R → Prop} (h1 : 0 ≤ k) (h2 : k < 2 ^ 20) (h3 : ds.length * k.toNat ≤ 1000000) (h : Kr (.imm (.tuple (List.replicate k.toNat ds).flatten))) : oMulS (.imm (.tuple ds)) (.imm (.int k)) m Kr := ⟨h1, h2, h3, h⟩
theorem x_mulL {m : MSt} {ds : List PyData} {k : Int} {Kr : R → Prop} (h1 : 0 ≤ k) (h2 : k < 2 ^ 20) (h3 : ds.length * k.toNat ≤ 1000000) (h : Kr (.new (List.replicate k.toNat ds).flatten)) : oMulS (.new ds) (.imm (.int k)) m Kr := ⟨h1, h2, h3, h⟩
end
end L2
namespace M8
end M8
namespace L2
open PySem PySem.Spec PyProof.Rows
section
variable {κ : Type} [DecidableEq κ]
def valV (kvs : List (κ × V)) (k : κ) : Option V := (kvs.find? fun kv => decide (kv.1 = k)).map (·.2)
def putK (kvs : List (κ × V)) (k : κ) (v : V) : List (κ × V) :=
 if (kvs.any fun kv => decide (kv.1 = k)) = true then kvs.map (fun kv => if kv.1 = k then (kv.1, v) else kv) else kvs ++ [(k, v)]
theorem valV_pos {p : κ × V} {r : List (κ × V)} {k : κ} (e : p.1 = k) : valV (p :: r) k = some p.2 := by simp [valV, List.find?_cons, e]
theorem valV_neg {p : κ × V} {r : List (κ × V)} {k : κ} (e : ¬ p.1 = k) : valV (p :: r) k = valV r k := by simp [valV, List.find?_cons, e]
theorem valV_any (k : κ) : ∀ kvs : List (κ × V), (kvs.any fun kv => decide (kv.1 = k)) = (valV kvs k).isSome
 | [] => rfl
 | p :: r => by
  rw [List.any_cons]
  by_cases e : p.1 = k
  ·simp only [valV_pos e, decide_eq_true e, Bool.true_or, Option.isSome_some]
  ·rw [valV_neg e, decide_eq_false e, Bool.false_or]; exact valV_any k r
theorem valV_snoc (k j : κ) (y : V) : ∀ kvs : List (κ × V), valV kvs k = none → valV (kvs ++ [(k, y)]) j = if j = k then some y else valV kvs j
 | [], _ => by
  by_cases e : k = j
  ·rw [if_pos e.symm]; exact valV_pos (p := (k, y)) e
  ·rw [if_neg (fun z => e z.symm)]; exact valV_neg (p := (k, y)) e
 | p :: r, hn => by
  rw [List.cons_append]
  have hk : ¬ p.1 = k := fun z => by rw [valV_pos z] at hn; cases hn
  rw [valV_neg hk] at hn
  have ih := valV_snoc k j y r hn
  by_cases e : p.1 = j
  ·rw [valV_pos e, valV_pos e, if_neg (fun z => hk (e.trans z))]
  ·rw [valV_neg e, valV_neg e, ih]
theorem length_putK (kvs : List (κ × V)) (k : κ) (v : V) : (putK kvs k v).length ≤ kvs.length + 1 := by
 unfold putK
 split
 ·rw [List.length_map]; omega
 ·rw [List.length_append, List.length_cons, List.length_nil]; omega
theorem putK_new {kvs : List (κ × V)} {k : κ} (v : V) (h : valV kvs k = none) : putK kvs k v = kvs ++ [(k, v)] := by
 unfold putK
 rw [valV_any, h]
 exact if_neg (by decide)
theorem RelO.isSome_eq {o : Option V} {u : Option Value} (r : RelO o u) : o.isSome = u.isSome := by
 cases o with
 | none => cases u with
  | none => rfl
  | some _ => exact (show False from r).elim
 | some _ => cases u with
  | none => exact (show False from r).elim
  | some _ => rfl
theorem KV.val {kvs : List (κ × V)} {vs : List (κ × Value)} (r : KV kvs vs) (k : κ) : RelO (valV kvs k) (valueAt vs k) := by
 unfold KV at r
 induction r with
 | nil => exact True.intro
 | @cons p q ps qs h t ih =>
  obtain ⟨h1, h2⟩ := h
  by_cases e : p.1 = k
  ·have e' : q.1 = k := h1.symm.trans e
   have b : valueAt (q :: qs) k = some q.2 := by simp [valueAt, List.find?_cons, e']
   rw [valV_pos e, b]; exact h2
  ·have e' : ¬ q.1 = k := fun z => e (h1.trans z)
   have b : valueAt (q :: qs) k = valueAt qs k := by simp [valueAt, List.find?_cons, e']
   rw [valV_neg e, b]; exact ih
theorem KV.any {kvs : List (κ × V)} {vs : List (κ × Value)} (r : KV kvs vs) (k : κ) : (kvs.any fun kv => decide (kv.1 = k)) = vs.any fun kv => decide (kv.1 = k) := by
 unfold KV at r
 induction r with
 | nil => rfl
 | cons h t ih => rw [List.any_cons, List.any_cons, ih, h.1]
theorem KV.repl {kvs : List (κ × V)} {vs : List (κ × Value)} (r : KV kvs vs) (k : κ) {y : V} {u : Value} (ry : RelV y u) :
  KV (kvs.map fun kv => if kv.1 = k then (kv.1, y) else kv) (vs.map fun kv => if kv.1 = k then (kv.1, u) else kv) := by
 unfold KV at r ⊢
 induction r with
 | nil => exact .nil
 | @cons p q ps qs h t ih =>
  rw [List.map_cons, List.map_cons]
  refine .cons ?_ ih
  obtain ⟨h1, h2⟩ := h
  by_cases e : p.1 = k
  ·rw [if_pos e, if_pos (h1.symm.trans e)]; exact ⟨h1, ry⟩
  ·rw [if_neg e, if_neg (fun z => e (h1.trans z))]; exact ⟨h1, h2⟩
theorem KV.put {kvs : List (κ × V)} {vs : List (κ × Value)} (r : KV kvs vs) (k : κ) {y : V} {u : Value} (ry : RelV y u) : KV (putK kvs k y) (stored vs k u) := by
 unfold putK stored
 rw [r.any k]
 by_cases e : (vs.any fun kv => decide (kv.1 = k)) = true
 ·rw [if_pos e, if_pos e]; exact r.repl k ry
 ·rw [if_neg e, if_neg e]; exact Paired.snoc r ⟨rfl, ry⟩
theorem KV.length {kvs : List (κ × V)} {vs : List (κ × Value)} (r : KV kvs vs) : kvs.length = vs.length := Paired.length r
end
theorem kV_is {P : Program} {w : World} {k : Key} {u : Value} (r : RelV (kV k) u) : (mixKind P w).is k u = true := by
 cases k with
 | inl i => obtain ⟨t, e⟩ := (show ∃ t, u = Value.int i t from r); subst e; exact mixKind_int P w i t
 | inr x => obtain ⟨t, e⟩ := (show ∃ t, u = Value.str x t from r); subst e; exact mixKind_str P w x t
theorem items_are {P : Program} {w : World} : ∀ {ks : List Key} {us : List Value}, Vals (ks.map kV) us → ItemsAre (mixKind P w) ks us
 | [], _, r => by rw [List.map_nil] at r; cases r; exact .nil
 | k :: ks, _, r => by
  rw [List.map_cons] at r
  cases r with
  | cons h t => exact .cons (kV_is h) (items_are t)
abbrev KT (H : Hp) : List (List Key × V) → List (List Key × Addr × Value) → Prop := Paired fun p q => p.1 = q.1 ∧ H q.2.1 = some (.tup (p.1.map kV)) ∧ RelV p.2 q.2.2
theorem KT.val {H : Hp} {kvs : List (List Key × V)} {xs : List (List Key × Addr × Value)} (r : KT H kvs xs) (k : List Key) : RelO (valV kvs k) ((atKey xs k).map (·.2)) := by
 induction r with
 | nil => exact True.intro
 | @cons p q ps qs h t ih =>
  obtain ⟨h1, _, h2⟩ := h
  by_cases e : p.1 = k
  ·have e' : q.1 = k := h1.symm.trans e
   have b : atKey (q :: qs) k = some q.2 := by simp [atKey, List.find?_cons, e']
   rw [valV_pos e, b]; exact h2
  ·have e' : ¬ q.1 = k := fun z => e (h1.trans z)
   have b : atKey (q :: qs) k = atKey qs k := by simp [atKey, List.find?_cons, e']
   rw [valV_neg e, b]; exact ih
theorem KT.repl {H : Hp} {kvs : List (List Key × V)} {xs : List (List Key × Addr × Value)} (r : KT H kvs xs) (k : List Key) {y : V} {u : Value} (ry : RelV y u) :
  KT H (kvs.map fun kv => if kv.1 = k then (kv.1, y) else kv) (xs.map (putAt k u)) := by
 induction r with
 | nil => exact .nil
 | @cons p q ps qs h t ih =>
  rw [List.map_cons, List.map_cons]
  refine .cons ?_ ih
  obtain ⟨h1, h2, h3⟩ := h
  unfold putAt
  by_cases e : p.1 = k
  ·rw [if_pos e, if_pos (h1.symm.trans e)]; exact ⟨h1, h2, ry⟩
  ·rw [if_neg e, if_neg (fun z => e (h1.trans z))]; exact ⟨h1, h2, h3⟩
theorem KT.put {H : Hp} {kvs : List (List Key × V)} {xs : List (List Key × Addr × Value)} (r : KT H kvs xs) (k : List Key) {b : Addr} {y : V} {u : Value} (hb : H b = some (.tup (k.map kV))) (ry : RelV y u) :
  KT H (putK kvs k y) (storedH xs k b u) := by
 have e : (kvs.any fun kv => decide (kv.1 = k)) = (atKey xs k).isSome := by
  rw [valV_any, (r.val k).isSome_eq, Option.isSome_map]
 unfold putK storedH
 rw [e]
 by_cases q : (atKey xs k).isSome = true
 ·rw [if_pos q, if_pos q]; exact r.repl k ry
 ·rw [if_neg q, if_neg q]; exact Paired.snoc r ⟨rfl, hb, ry⟩
theorem KT.keeps {H H' : Hp} {kvs : List (List Key × V)} {xs : List (List Key × Addr × Value)} (r : KT H kvs xs) (ht : ∀ b ys, H b = some (.tup ys) → H' b = some (.tup ys)) : KT H' kvs xs :=
 Paired.mapP r fun _ _ z => ⟨z.1, ht _ _ z.2.1, z.2.2⟩
section
variable {P : Program} {w : World} {H : Hp} {h : Heap} {a : Addr}
theorem rd_of {u : HO} (ok : HOk P w H h) (e : Rd H a u) : ObjOk P w H h a u := e.ok ok
theorem dk_rd {kvs : List (Key × V)} (ok : HOk P w H h) (e : Rd H a (.dK kvs)) : kvs.length ≤ sizeLine ∧ (a == sysModules) = false ∧ ∃ vs, KV kvs vs ∧ h.DictOf (mixKind P w) a vs :=
 show ObjOk P w H h a (.dK kvs) from rd_of ok e
theorem dk_of {kvs : List (Key × V)} (ok : HOk P w H h) (e : H a = some (.dK kvs)) : kvs.length ≤ sizeLine ∧ (a == sysModules) = false ∧ ∃ vs, KV kvs vs ∧ h.DictOf (mixKind P w) a vs := dk_rd ok (.inl e)
theorem key_of {ks : List Key} (ok : HOk P w H h) (e : H a = some (.tup (ks.map kV))) : (tupleKind (mixKind P w)).is h ks a := by
 obtain ⟨_, its, r, o, h1, h2, hd, n, h3⟩ := (show ObjOk P w H h a (.tup (ks.map kV)) from ok a _ e)
 exact ⟨o, its.toArray, n, h1, h2, h3, by simpa using items_are r⟩
theorem dt_rd {kvs : List (List Key × V)} (ok : HOk P w H h) (e : Rd H a (.dT kvs)) : kvs.length ≤ sizeLine ∧ (a == sysModules) = false ∧
  ∃ xs, KT H kvs xs ∧ h.DictOfH (tupleKind (mixKind P w)) a xs := by
 obtain ⟨z, y, xs, r, o, es, ep, h1, h2, h3, h4, h5⟩ := (show ObjOk P w H h a (.dT kvs) from rd_of ok e)
 refine ⟨z, y, xs, r, o, es, ep, h1, h2, h3, h4, fun x hx => ?_, h5⟩
 have all : ∀ {l : List (List Key × V)} {m : List (List Key × Addr × Value)}, KT H l m → ∀ x ∈ m, (tupleKind (mixKind P w)).is h x.1 x.2.1 := by
  intro l m q
  induction q with
  | nil => intro x hx; exact nomatch hx
  | @cons p q ps qs hq t ih =>
   intro x hx
   rcases List.mem_cons.mp hx with e | hx
   ·subst e
    exact key_of ok (by rw [← hq.1]; exact hq.2.1)
   ·exact ih x hx
 exact all r x hx
theorem dt_of {kvs : List (List Key × V)} (ok : HOk P w H h) (e : H a = some (.dT kvs)) : kvs.length ≤ sizeLine ∧ (a == sysModules) = false ∧
  ∃ xs, KT H kvs xs ∧ h.DictOfH (tupleKind (mixKind P w)) a xs := dt_rd ok (.inl e)
end
def DGet (H : Hp) (a : Addr) (y : V) (r : Option V) : Prop :=
 (∃ kvs k, Rd H a (.dK kvs) ∧ y = kV k ∧ r = valV kvs k) ∨ ∃ kvs k b, Rd H a (.dT kvs) ∧ y = .ref b ∧ H b = some (.tup (k.map kV)) ∧ r = valV kvs k
def DPut (H : Hp) (a : Addr) (y v : V) (H' : Hp) : Prop :=
 (∃ kvs k, H a = some (.dK kvs) ∧ y = kV k ∧ kvs.length < sizeLine ∧ H' = upd H a (.dK (putK kvs k v))) ∨
 ∃ kvs k b, H a = some (.dT kvs) ∧ y = .ref b ∧ H b = some (.tup (k.map kV)) ∧ kvs.length < sizeLine ∧ H' = upd H a (.dT (putK kvs k v))
theorem DGet.k {H : Hp} {a : Addr} {kvs : List (Key × V)} {k : Key} (e : H a = some (.dK kvs)) : DGet H a (kV k) (valV kvs k) := .inl ⟨kvs, k, .inl e, rfl, rfl⟩
theorem DPut.k {H : Hp} {a : Addr} {kvs : List (Key × V)} {k : Key} {v : V} (e : H a = some (.dK kvs)) (hl : kvs.length < sizeLine) : DPut H a (kV k) v (upd H a (.dK (putK kvs k v))) := .inl ⟨kvs, k, e, rfl, hl, rfl⟩
section
variable {X : Cx} {pins : List (Addr × Obj)} {σ : St} {H : Hp} {s : Shared} {a : Addr} {y v : V} {u r : Value} {o : Option V} {A : Around} {E : Value → Shared → Prop}
theorem Inv.big (I : Inv X pins σ H s) : sysModules < s.heap.objs.size := by
 have h : mainGlobals < s.heap.objs.size := (I.mod.glob.keeps I.bk).lt
 exact Nat.lt_trans (by decide) h
theorem d_getItem {Q : Value → Shared → Prop} (hu : A.units + 1 < cLine) (I : Inv X pins σ H s) (g : DGet H a y (some v)) (ry : RelV y u) (h : ∀ w' s', Inv X pins σ H s' → RelV v w' → Q w' s') :
  wpAny (model X.prog X.w) A (getItem (.ref a) u) Q E s := by
 rcases g with ⟨kvs, k, e, ey, l⟩ | ⟨kvs, k, b, e, ey, eb, l⟩
 ·subst ey
  obtain ⟨z, hd, vs, rel, dd⟩ := dk_rd I.hok e
  obtain ⟨w', hw, rw'⟩ := RelO.some_of (v := v) (o := valueAt vs k) (by rw [l]; exact rel.val k)
  exact wpAny_getItem_of (kV_is ry) dd.mapOf hw (h w' _ (I.tok _) rw')
 ·subst ey
  cases (show u = Value.ref b from ry)
  obtain ⟨z, hd, xs, rel, dd⟩ := dt_rd I.hok e
  obtain ⟨w', hw, rw'⟩ := RelO.some_of (v := v) (o := (atKey xs k).map (·.2)) (by rw [l]; exact rel.val k)
  obtain ⟨p, hp, hp2⟩ := Option.map_eq_some_iff.mp hw
  refine wpAny_getItem_heap (tupleKind_room_in1 hu) (key_of I.hok eb) dd hp ?_
  rw [hp2]
  exact h w' _ (I.tok _) rw'
theorem d_write {h' : Heap} {t' : Nat} {ob : HO} (I : Inv X pins σ H s) (mu : Mut (H a)) (hs : Heap.SameBut a s.heap h') (he : ∃ q, h'.get? a = some q) (new : ObjOk X.prog X.w (upd H a ob) h' a ob) :
  Inv X pins σ (upd H a ob) { s with heap := h', toks := t' } :=
 I.write (x := a) (e := a) mu (.inl rfl) (fun b q hb z => (hs.2 b hb).trans z) he new
theorem dk_new {P : Program} {w : World} {H' : Hp} {h' : Heap} {kvs : List (Key × V)} {vs : List (Key × Value)} (z : kvs.length ≤ sizeLine) (hd : (a == sysModules) = false) (rel : KV kvs vs) (dd : h'.DictOf (mixKind P w) a vs) :
  ObjOk P w H' h' a (.dK kvs) := ⟨z, hd, vs, rel, dd⟩
theorem d_setItem {H' : Hp} {Q : Unit → Shared → Prop} (hu : A.units + 1 < cLine) (I : Inv X pins σ H s) (g : DPut H a y v H') (ry : RelV y u) (rv : RelV v r) (h : ∀ s', Inv X pins σ H' s' → Q () s') :
  wpAny (model X.prog X.w) A (setItem (.ref a) u r) Q E s := by
 rcases g with ⟨kvs, k, e, ey, l, eH⟩ | ⟨kvs, k, b, e, ey, eb, l, eH⟩
 ·subst ey eH
  obtain ⟨z, hd, vs, rel, dd⟩ := dk_of I.hok e
  have hz : vs.length ≤ sizeLine := by rw [← rel.length]; exact z
  have hl : (putK kvs k v).length ≤ sizeLine := by have := length_putK kvs k v; omega
  refine wpAny_setItem_pairs (hsz := hz) (kV_is ry) dd fun h' dd' hs => h _ ?_
  have he : ∃ q, h'.get? a = some q := let ⟨q, _, _, hq, _⟩ := dd'; ⟨q, hq⟩
  exact d_write I (by rw [e]; exact True.intro) hs he (dk_new hl hd (rel.put k rv) dd')
 ·subst ey eH
  cases (show u = Value.ref b from ry)
  obtain ⟨z, hd, xs, rel, dd⟩ := dt_of I.hok e
  have hz : xs.length ≤ sizeLine := by rw [← Paired.length rel]; exact z
  have hl : (putK kvs k v).length ≤ sizeLine := by have := length_putK kvs k v; omega
  refine wpAny_setItem_heap (hsz := hz) (tupleKind_room_in1 hu) (key_of I.hok eb) dd fun h' dd' hs => h _ ?_
  obtain ⟨q, es, ep, hq, h2, h3, h4, _, h5⟩ := dd'
  refine d_write I (by rw [e]; exact True.intro) hs ⟨q, hq⟩ ⟨hl, hd, _, (rel.put k eb rv).keeps fun c ys ec => ?_, q, es, ep, hq, h2, h3, h4, h5⟩
  rw [upd_ne (ne_of ec e (fun z => nomatch z))]
  exact ec
end
def NoSl (i : Expr) : Prop := ∀ ov iv, subscripted i false ov iv = operate [ov, iv] (getItem ov iv)
theorem subD_of {prog : Program} {w : World} {A : Around} {E : Value → Shared → Prop} {s : Shared} {env : Env} {value slice : Expr} {pos : Pos} {T id : String} {Q : Value → Shared → Prop}
  (hl : typeLookup (.type T) "__getitem__" = pure (some (.builtin id))) (hs : NoSl slice)
  (h : wpAny (model prog w) A (eval value env) (fun o s₁ => wpAny (model prog w) A (eval slice env) (fun i s₂ => s₂.TypeIs o T ∧ wpAny (model prog w) A (getItem o i) Q E s₂) E s₁) E s) :
  wpAny (model prog w) A (eval (.Subscript value slice pos) env) Q E s := by
 refine Subscript_ (wpAny_mono h (fun o s₁ h₁ => wpAny_mono h₁ (fun i s₂ h₂ => ?_) fun _ _ x => x) fun _ _ x => x)
 obtain ⟨hT, h₂⟩ := h₂
 unfold subscriptTail
 refine wpAny_bind ?_
 rw [getitemInPython_of_ne hT.not_modules]
 refine wpAny_bind (wpAny_specialOf hT hl ?_)
 have fin : wpAny (model prog w) A (subscripted slice false o i) (fun r s₃ => wpAny (model prog w) A (letTemporaryGo value o r >>= fun _ => pure r) Q E s₃) E s₂ := by
  rw [hs o i]
  exact wpAny_operating (wpAny_mono h₂ (fun r s₃ h₃ => wpAny_bind (wpAny_letTemporaryGo (wpAny_pure h₃))) fun _ _ x => x)
 first
  | exact wpAny_pure (wpAny_bind fin)
  | exact wpAny_bind (wpAny_pure (wpAny_bind fin))
  | exact wpAny_bind fin
theorem dict_typeIs {X : Cx} {pins : List (Addr × Obj)} {σ : St} {H : Hp} {s : Shared} {a : Addr} {y : V} {o : Option V} (I : Inv X pins σ H s) (g : DGet H a y o) : s.TypeIs (.ref a) "dict" := by
 rcases g with ⟨kvs, k, e, _, _⟩ | ⟨kvs, k, b, e, _, _, _⟩
 ·obtain ⟨_, _, vs, _, dd⟩ := dk_rd I.hok e
  exact dd.typeIs
 ·obtain ⟨_, _, xs, _, dd⟩ := dt_rd I.hok e
  exact dd.typeIs
def tDGet (td ty : TE) : TE := fun σ H Q => td σ H fun x H1 => ty σ H1 fun y H2 => ∃ a v, x = .ref a ∧ DGet H2 a y (some v) ∧ Q v H2
def sDPut (td ty tv : TE) : TS := fun D σ H => tv σ H fun v H1 => td σ H1 fun x H2 => ty σ H2 fun y H3 => ∃ a H4, x = .ref a ∧ DPut H3 a y v H4 ∧ D.nx σ H4
section
variable {X : Cx} {o i e value : Expr} {pos pos' tpos : Pos} {td ty tv : TE}
theorem pe_dget (hu : X.A.units + 1 < cLine) (ho : PE X o td) (hi : PE X i ty) (hs : NoSl i) : PE X (.Subscript o i pos) (tDGet td ty) := by
 intro pins s σ H Q I h
 refine subD_of PySem.F.slot_dict_getitem.lookup hs (thn (ho pins s σ H _ I h) fun u s1 ⟨x, H1, I1, rx, q1⟩ => thn (hi pins s1 σ H1 _ I1 q1) fun iv s2 ⟨y, H2, I2, ry, a, v, ex, g, q2⟩ => ?_)
 subst ex
 obtain rfl : u = Value.ref a := rx
 exact ⟨dict_typeIs I2 g, d_getItem hu I2 g ry fun w' s3 I3 rw' => ⟨v, H2, I3, rw', q2⟩⟩
theorem ps_dput (hu : X.A.units + 1 < cLine) (ho : PE X o td) (hi : PE X i ty) (hv : PE X value tv) (hs : swapsWith value (some (.Subscript o i pos')) pos.line X.env = pure false) :
  PS X (.Assign [.Subscript o i pos'] value pos) (sDPut td ty tv) := by
 intro pins s σ H D I h
 refine wpAny_Assign_Subscript (thn (hv pins s σ H _ I h) fun r s1 ⟨v, H1, I1, rv, q1⟩ => thn (ho pins s1 σ H1 _ I1 q1) fun u s2 ⟨x, H2, I2, rx, q2⟩ => thn (hi pins s2 σ H2 _ I2 q2) fun iv s3 ⟨y, H3, I3, ry, a, H4, ex, g, q3⟩ => ?_) hs
 subst ex
 obtain rfl : u = Value.ref a := rx
 exact d_setItem hu I3 g ry rv fun s4 I4 => ⟨σ, H4, I4, q3⟩
end
theorem dk_empty {P : Program} {w : World} {H : Hp} (h : Heap) (hb : sysModules < h.objs.size) : ObjOk P w H (h.push { cls := .type "dict", data := .dict #[] }) h.objs.size (.dK []) :=
 ⟨Nat.zero_le _, beq_eq_false_iff_ne.mpr (Ne.symm (Nat.ne_of_lt hb)), [], .nil, Heap.DictOf.new h⟩
def tPairs : List (TE × TE) → St → Hp → (List (V × V) → Hp → Prop) → Prop
 | [], _, H, Q => Q [] H
 | (tk, tv) :: r, σ, H, Q => tk σ H fun x H1 => tv σ H1 fun y H2 => tPairs r σ H2 fun ps H3 => Q ((x, y) :: ps) H3
abbrev VV : List (V × V) → List (Value × Value) → Prop := Paired fun p q => RelV p.1 q.1 ∧ RelV p.2 q.2
def PPs (X : Cx) (pos : Pos) (keys : List (Option Expr)) (values : List Expr) (trs : List (TE × TE)) : Prop :=
 ∀ (pins : List (Addr × Obj)) (s : Shared) (σ : St) (H : Hp) (Q : List (V × V) → Hp → Prop), Inv X pins σ H s → tPairs trs σ H Q →
  wpAny (model X.prog X.w) X.A (evalPairs (pairTrees keys values X.env pos)) (fun vs s' => ∃ ps H', Inv X pins σ H' s' ∧ VV ps vs ∧ Q ps H') X.xe s
theorem pps_nil {X : Cx} {pos : Pos} : PPs X pos [] [] [] := fun pins s σ H Q I h => pairTrees_nil_walk ⟨[], H, I, .nil, h⟩
theorem pps_cons {X : Cx} {pos : Pos} {k v : Expr} {ks : List (Option Expr)} {vs : List Expr} {tk tv : TE} {trs : List (TE × TE)} (hk : PE X k tk) (hv : PE X v tv) (hr : PPs X pos ks vs trs) :
  PPs X pos (some k :: ks) (v :: vs) ((tk, tv) :: trs) := fun pins s σ H Q I h =>
 pairTrees_cons_walk (thn (hk pins s σ H _ I h) fun u s1 ⟨x, H1, I1, rx, q1⟩ => thn (hv pins s1 σ H1 _ I1 q1) fun w2 s2 ⟨y, H2, I2, ry, q2⟩ =>
  thn (hr pins s2 σ H2 _ I2 q2) fun ws s3 ⟨ps, H3, I3, rel, q3⟩ => ⟨(x, y) :: ps, H3, I3, .cons ⟨rx, ry⟩ rel, q3⟩)
def mergeK (kvs more : List (Key × V)) : List (Key × V) := more.foldl (fun acc kv => putK acc kv.1 kv.2) kvs
theorem KV.merge : ∀ {more : List (Key × V)} {rs : List (Key × Value)} {kvs : List (Key × V)} {vs : List (Key × Value)}, KV more rs → KV kvs vs → KV (mergeK kvs more) (merged vs rs) := by
 intro more rs kvs vs r
 unfold KV at r
 induction r generalizing kvs vs with
 | nil => intro q; exact q
 | @cons p q ps qs h t ih =>
  intro r0
  have e : KV (putK kvs p.1 p.2) (stored vs q.1 q.2) := by
   have := r0.put p.1 h.2
   rw [← h.1]; exact this
  exact ih e
theorem length_mergeK : ∀ (more kvs : List (Key × V)), (mergeK kvs more).length ≤ kvs.length + more.length
 | [], kvs => by show kvs.length ≤ kvs.length + 0; omega
 | p :: r, kvs => by
  have h1 := length_mergeK r (putK kvs p.1 p.2)
  have h2 := length_putK kvs p.1 p.2
  show (mergeK (putK kvs p.1 p.2) r).length ≤ _
  rw [List.length_cons]; omega
theorem carries_of {P : Program} {w : World} : ∀ {kvs : List (Key × V)} {ws : List (Value × Value)}, VV (kvs.map fun kv => (kV kv.1, kv.2)) ws → ∃ rs, Carries (mixKind P w) ws rs ∧ KV kvs rs
 | [], _, r => by rw [List.map_nil] at r; cases r; exact ⟨[], True.intro, .nil⟩
 | p :: kvs, _, r => by
  rw [List.map_cons] at r
  cases r with
  | @cons a b as bs h t =>
   obtain ⟨rs, c, q⟩ := carries_of (P := P) (w := w) t
   obtain ⟨b1, b2⟩ := b
   exact ⟨(p.1, b2) :: rs, ⟨kV_is h.1, rfl, c⟩, .cons ⟨rfl, h.2⟩ q⟩
def tDisp (trs : List (TE × TE)) : TE := fun σ H Q => ∀ p, H p = none → tPairs trs σ (upd H p (.dK [])) fun ps H2 => H2 p = some (.dK []) ∧ ∃ kvs : List (Key × V), ps = kvs.map (fun kv => (kV kv.1, kv.2)) ∧ kvs.length ≤ 15 ∧ Q (.ref p) (upd H2 p (.dK (mergeK [] kvs)))
theorem pe_disp {X : Cx} {pos : Pos} {keys : List (Option Expr)} {values : List Expr} {trs : List (TE × TE)} (h : PPs X pos keys values trs) (hall : keys.all (·.isSome) = true) (hl : keys.length = values.length) (h0 : keys ≠ [])
  (h15 : keys.length ≤ 15) : PE X (.Dict keys values pos) (tDisp trs) := by
 intro pins s σ H Q I q
 have hn := I.hok.fresh (Nat.le_refl s.heap.objs.size)
 have I1 := I.laid (a := s.heap.objs.size) (o := .dK []) (h' := s.heap.push { cls := .type "dict", data := .dict #[] }) (t' := s.toks) (fun _ _ q => Heap.get?_push_of_some _ q) (Nat.le_refl _) (dk_empty s.heap I.big)
 refine wpAny_Dict_walk (knd := mixKind X.prog X.w) hall hl h0 h15 (thn (h pins _ σ _ _ I1 (q _ hn)) fun ws s2 ⟨ps, H2, I2, rel, e, kvs, ep, lk, q2⟩ => ?_)
 subst ep
 obtain ⟨rs, c, rk⟩ := carries_of (P := X.prog) (w := X.w) rel
 obtain ⟨z, hd, vs0, r0, dd⟩ := dk_of I2.hok e
 cases r0
 refine ⟨rs, c, dd, fun h' dd' hs => ⟨.ref s.heap.objs.size, _, ?_, rfl, q2⟩⟩
 have hz : (mergeK [] kvs).length ≤ sizeLine := by
  have h1 := length_mergeK kvs []
  rw [List.length_nil] at h1
  rw [sizeLine_eq]; omega
 have he : ∃ q, h'.get? s.heap.objs.size = some q := let ⟨q, _, _, hq, _⟩ := dd'; ⟨q, hq⟩
 exact d_write I2 (by rw [e]; exact True.intro) hs he (dk_new hz hd (rk.merge .nil) dd')
section
variable {K : Kd} {H H' : Hp} {τ : List (List Nat × Addr)}
mutual
theorem TAt.monoP (pe : Pers H H') : ∀ {d : PyData} {p : List Nat} {v : V}, (∀ q a, τ.lookup (p ++ q) = some a → H' a = H a) → TAt K H τ p d v → TAt K H' τ p d v
 | .none, _, _, _, h => by simp only [TAt] at h ⊢; exact h.mono pe
 | .bool _, _, _, _, h => by simp only [TAt] at h ⊢; exact h.mono pe
 | .int _, _, _, _, h => by simp only [TAt] at h ⊢; exact h.mono pe
 | .str _, _, _, _, h => by simp only [TAt] at h ⊢; exact h.mono pe
 | .tuple _, _, _, _, h => by simp only [TAt] at h ⊢; exact h.mono pe
 | .list ts, p, _, e, h => by
  simp only [TAt] at h ⊢
  obtain ⟨a, xs, e1, e2, e3, g⟩ := h
  exact ⟨a, xs, e1, e2, (e [] a (by rw [List.append_nil]; exact e1)).trans e3, TAtL.monoP pe (fun i q a z => e (i :: q) a z) g⟩
 | .dict kvs, p, _, e, h => by
  simp only [TAt] at h ⊢
  rcases h with ⟨d, e1, h⟩ | ⟨z1, z2, a, es, e1, e2, e3, k, g⟩ | ⟨z1, z2, a, es, e1, e2, e3, g⟩ | ⟨c, a, dx, C, xs, e0, e1, e2, e3, k, g⟩
  ·exact .inl ⟨d, e1, h.mono pe⟩
  ·exact .inr (.inl ⟨z1, z2, a, es, e1, e2, (e [] a (by rw [List.append_nil]; exact e1)).trans e3, k, TAtD.monoP pe (fun i q a z => e (i :: q) a z) g⟩)
  ·exact .inr (.inr (.inl ⟨z1, z2, a, es, e1, e2, (e [] a (by rw [List.append_nil]; exact e1)).trans e3, TAtK.monoP pe (fun i q a z => e (i :: q) a z) g⟩))
  ·exact .inr (.inr (.inr ⟨c, a, dx, C, xs, e0, e1, e2, (e [] a (by rw [List.append_nil]; exact e1)).trans e3, k, TAtF.monoP pe (fun i q a z => e (i :: q) a z) g⟩))
theorem TAtL.monoP (pe : Pers H H') : ∀ {ds : List PyData} {p : List Nat} {i : Nat} {xs : List V}, (∀ i q a, τ.lookup (p ++ i :: q) = some a → H' a = H a) → TAtL K H τ p i ds xs → TAtL K H' τ p i ds xs
 | [], _, _, _, _, h => by simpa only [TAtL] using h
 | t :: ts, p, i, _, e, h => by
  simp only [TAtL] at h ⊢
  obtain ⟨v, vs, e1, g1, g2⟩ := h
  exact ⟨v, vs, e1, TAt.monoP pe (fun q a z => e i q a (by simpa using z)) g1, TAtL.monoP pe e g2⟩
theorem TAtD.monoP (pe : Pers H H') : ∀ {ds : List (PyData × PyData)} {p : List Nat} {i : Nat} {xs : List (Int × V × V)}, (∀ i q a, τ.lookup (p ++ i :: q) = some a → H' a = H a) → TAtD K H τ p i ds xs → TAtD K H' τ p i ds xs
 | [], _, _, _, _, h => by simpa only [TAtD] using h
 | (k, t) :: r, p, i, _, e, h => by
  simp only [TAtD] at h ⊢
  obtain ⟨u, v, vs, e1, g0, g1, g2⟩ := h
  exact ⟨u, v, vs, e1, g0.mono pe, TAt.monoP pe (fun q a z => e i q a (by simpa using z)) g1, TAtD.monoP pe e g2⟩
theorem TAtK.monoP (pe : Pers H H') : ∀ {ds : List (PyData × PyData)} {p : List Nat} {i : Nat} {xs : List (Key × V)}, (∀ i q a, τ.lookup (p ++ i :: q) = some a → H' a = H a) → TAtK K H τ p i ds xs → TAtK K H' τ p i ds xs
 | [], _, _, _, _, h => by simpa only [TAtK] using h
 | (k, t) :: r, p, i, _, e, h => by
  simp only [TAtK] at h ⊢
  obtain ⟨u, v, vs, e1, g0, g1, g2⟩ := h
  exact ⟨u, v, vs, e1, g0, TAt.monoP pe (fun q a z => e i q a (by simpa using z)) g1, TAtK.monoP pe e g2⟩
theorem TAtF.monoP (pe : Pers H H') : ∀ {ds : List (PyData × PyData)} {p : List Nat} {i : Nat} {xs : List (Str × V)}, (∀ i q a, τ.lookup (p ++ i :: q) = some a → H' a = H a) → TAtF K H τ p i ds xs → TAtF K H' τ p i ds xs
 | [], _, _, _, _, h => by simpa only [TAtF] using h
 | (.str f, t) :: r, p, i, _, e, h => by
  simp only [TAtF] at h ⊢
  obtain ⟨v, vs, e1, g1, g2⟩ := h
  exact ⟨v, vs, e1, TAt.monoP pe (fun q a z => e i q a (by simpa using z)) g1, TAtF.monoP pe e g2⟩
 | (.none, d) :: r, _, _, _, e, h => by simp only [TAtF] at h ⊢; exact TAtF.monoP pe e h
 | (.bool _, d) :: r, _, _, _, _, h => by simp only [TAtF] at h
 | (.int _, d) :: r, _, _, _, _, h => by simp only [TAtF] at h
 | (.list _, d) :: r, _, _, _, _, h => by simp only [TAtF] at h
 | (.tuple _, d) :: r, _, _, _, _, h => by simp only [TAtF] at h
 | (.dict _, d) :: r, _, _, _, _, h => by simp only [TAtF] at h
end
end
def setT : PyData → List Nat → PyData → PyData
 | _, [], n => n
 | .list ts, i :: p, n => .list (ts.set i (setT (ts.getD i .none) p n))
 | .dict kvs, i :: p, n => .dict (kvs.set i ((kvs.getD i (.none, .none)).1, setT (kvs.getD i (.none, .none)).2 p n))
 | t, _ :: _, _ => t
section
variable {K : Kd} {H H' : Hp} {τ : List (List Nat × Addr)} {p q : List Nat} {P : List Nat}
theorem TAtL.setL (pe : Pers H H') {t' : PyData} : ∀ {ts : List PyData} {i j : Nat} {xs : List V}, TAtL K H τ p i ts xs → (∀ v, xs[j]? = some v → TAt K H' τ (p ++ [i + j]) t' v) → (∀ l, l ≠ i + j → ∀ q a, τ.lookup (p ++ l :: q) = some a → H' a = H a) → TAtL K H' τ p i (ts.set j t') xs
 | [], _, _, _, h, _, _ => by simpa only [List.set_nil, TAtL] using h
 | t :: ts, i, 0, xs, h, c, e => by
  simp only [TAtL] at h
  obtain ⟨v, vs, rfl, _, g2⟩ := h
  simp only [List.set_cons_zero, TAtL]
  refine ⟨v, vs, rfl, c v rfl, ?_⟩
  clear c
  have : ∀ {ts : List PyData} {i' : Nat} {vs : List V}, i < i' → TAtL K H τ p i' ts vs → TAtL K H' τ p i' ts vs := by
   intro ts
   induction ts with
   | nil => intro i' vs _ h; simpa only [TAtL] using h
   | cons t ts ih =>
    intro i' vs hl h
    simp only [TAtL] at h ⊢
    obtain ⟨v, vs, rfl, g1, g2⟩ := h
    exact ⟨v, vs, rfl, TAt.monoP pe (fun q a z => e i' (by omega) q a (by simpa using z)) g1, ih (by omega) g2⟩
  exact this (Nat.lt_succ_self i) g2
 | t :: ts, i, j + 1, xs, h, c, e => by
  simp only [TAtL] at h
  obtain ⟨v, vs, rfl, g1, g2⟩ := h
  simp only [List.set_cons_succ, TAtL]
  exact ⟨v, vs, rfl, TAt.monoP pe (fun q a z => e i (by omega) q a (by simpa using z)) g1, TAtL.setL pe g2 (fun v' z => by rw [show i + 1 + j = i + (j + 1) by omega]; exact c v' (by simpa using z)) fun l hl => e l (by omega)⟩
theorem TAtK.rest (pe : Pers H H') {i : Nat} (e : ∀ l, l ≠ i → ∀ q a, τ.lookup (p ++ l :: q) = some a → H' a = H a) : ∀ {ts : List (PyData × PyData)} {i' : Nat} {vs : List (Key × V)}, i < i' → TAtK K H τ p i' ts vs → TAtK K H' τ p i' ts vs
 | [], _, _, _, h => by simpa only [TAtK] using h
 | (k, t) :: ts, i', vs, hl, h => by
  simp only [TAtK] at h ⊢
  obtain ⟨kk, v, vs, rfl, g0, g1, g2⟩ := h
  exact ⟨kk, v, vs, rfl, g0, TAt.monoP pe (fun q a z => e i' (by omega) q a (by simpa using z)) g1, TAtK.rest pe e (by omega) g2⟩
theorem TAtK.setK (pe : Pers H H') {t' : PyData} : ∀ {ts : List (PyData × PyData)} {i j : Nat} {xs : List (Key × V)} {k0 t0 : PyData}, TAtK K H τ p i ts xs → ts[j]? = some (k0, t0) → (∀ v, (∃ kk, xs[j]? = some (kk, v)) → TAt K H' τ (p ++ [i + j]) t' v) → (∀ l, l ≠ i + j → ∀ q a, τ.lookup (p ++ l :: q) = some a → H' a = H a) → TAtK K H' τ p i (ts.set j (k0, t')) xs
 | [], _, _, _, _, _, _, z, _, _ => by simp at z
 | (k, t) :: ts, i, 0, xs, k0, t0, h, z, c, e => by
  simp at z
  obtain ⟨rfl, rfl⟩ := z
  simp only [TAtK] at h
  obtain ⟨kk, v, vs, rfl, g0, _, g2⟩ := h
  simp only [List.set_cons_zero, TAtK]
  exact ⟨kk, v, vs, rfl, g0, c v ⟨kk, rfl⟩, TAtK.rest pe e (Nat.lt_succ_self i) g2⟩
 | (k, t) :: ts, i, j + 1, xs, k0, t0, h, z, c, e => by
  simp only [TAtK] at h
  obtain ⟨kk, v, vs, rfl, g0, g1, g2⟩ := h
  simp only [List.set_cons_succ, TAtK]
  exact ⟨kk, v, vs, rfl, g0, TAt.monoP pe (fun q a z => e i (by omega) q a (by simpa using z)) g1, TAtK.setK pe g2 (by simpa using z) (fun v' ⟨kk', z⟩ => by rw [show i + 1 + j = i + (j + 1) by omega]; exact c v' ⟨kk', by simpa using z⟩) fun l hl => e l (by omega)⟩
end
theorem look_inj {τ : List (List Nat × Addr)} (nd : (τ.map (·.2)).Nodup) {p q : List Nat} {a : Addr} (h1 : τ.lookup p = some a) (h2 : τ.lookup q = some a) : p = q := by
 induction τ with
 | nil => cases h1
 | cons x τ ih =>
  obtain ⟨r, b⟩ := x
  rw [List.map_cons, List.nodup_cons] at nd
  rw [List.lookup_cons] at h1 h2
  by_cases e1 : p == r
  ·rw [e1] at h1
   cases h1
   by_cases e2 : q == r
   ·rw [eq_of_beq e1, eq_of_beq e2]
   ·simp only [Bool.not_eq_true] at e2
    rw [e2] at h2
    exact (nd.1 (mem_of_look h2)).elim
  ·simp only [Bool.not_eq_true] at e1
   rw [e1] at h1
   by_cases e2 : q == r
   ·rw [e2] at h2
    cases h2
    exact (nd.1 (mem_of_look h1)).elim
   ·simp only [Bool.not_eq_true] at e2
    rw [e2] at h2
    exact ih nd.2 h1 h2
def keyEq : PyData → PyData → Bool
 | .int a, .int b => decide (a = b)
 | .str a, .str b => decide (a = b)
 | _, _ => false
theorem keyEq_iff (a b : Key) : keyEq (keyD a) (keyD b) = decide (a = b) := by
 cases a <;> cases b <;> simp [keyD, keyEq]
def lookD (k : PyData) : Nat → List (PyData × PyData) → Option (Nat × PyData)
 | _, [] => none
 | i, (k', t) :: r => if keyEq k' k = true then some (i, t) else lookD k (i + 1) r
def putD (k t : PyData) : List (PyData × PyData) → List (PyData × PyData)
 | [] => [(k, t)]
 | (k', t') :: r => if keyEq k' k = true then (k', t) :: r else (k', t') :: putD k t r
def lfD : PyData → PyData
 | .list ds => .dict [(.none, .list ds)]
 | .dict ds => .dict [(.none, .dict ds)]
 | d => d
theorem kd_none {kvs : List (PyData × PyData)} (h : isKd kvs = true) : fzOf kvs = none ∧ excC kvs = none := by
 cases kvs with
 | nil => exact ⟨rfl, rfl⟩
 | cons x r =>
  obtain ⟨k, d⟩ := x
  cases k with
  | int _ => exact ⟨rfl, rfl⟩
  | str _ => exact ⟨rfl, rfl⟩
  | none => simp [isKd] at h
  | bool _ => simp [isKd] at h
  | list _ => simp [isKd] at h
  | tuple _ => simp [isKd] at h
  | dict _ => simp [isKd] at h
section
variable {K : Kd} {H : Hp} {τ : List (List Nat × Addr)} {p : List Nat}
theorem TAtK.get' : ∀ {ts : List (PyData × PyData)} {i j : Nat} {xs : List (Key × V)} {k t : PyData}, TAtK K H τ p i ts xs → ts[j]? = some (k, t) → ∃ kk v, xs[j]? = some (kk, v) ∧ k = keyD kk ∧ TAt K H τ (p ++ [i + j]) t v
 | [], _, _, _, _, _, _, e => by simp at e
 | (k, t) :: ts, i, 0, xs, k', t', h, e => by
  simp only [TAtK] at h
  obtain ⟨u, v, vs, rfl, g0, g1, _⟩ := h
  simp at e; obtain ⟨rfl, rfl⟩ := e
  exact ⟨u, v, rfl, g0.1, g1⟩
 | (k, t) :: ts, i, j + 1, xs, k', t', h, e => by
  simp only [TAtK] at h
  obtain ⟨u, v, vs, rfl, _, _, g2⟩ := h
  obtain ⟨kk, v', e1, e0, e2⟩ := TAtK.get' (j := j) g2 (by simpa using e)
  exact ⟨kk, v', by simpa using e1, e0, by rw [show i + (j + 1) = i + 1 + j by omega]; exact e2⟩
theorem TAtK.kd : ∀ {ts : List (PyData × PyData)} {i : Nat} {xs : List (Key × V)}, TAtK K H τ p i ts xs → isKd ts = true
 | [], _, _, _ => rfl
 | (k, t) :: ts, i, xs, h => by
  simp only [TAtK] at h
  obtain ⟨u, v, vs, rfl, g0, _, g2⟩ := h
  have := g2.kd
  unfold isKd at this ⊢
  rw [List.all_cons, this, g0.1]
  cases u <;> rfl
theorem TAtK.len : ∀ {ts : List (PyData × PyData)} {i : Nat} {xs : List (Key × V)}, TAtK K H τ p i ts xs → ts.length = xs.length
 | [], _, _, h => by simp only [TAtK] at h; subst h; rfl
 | (k, t) :: ts, i, xs, h => by
  simp only [TAtK] at h
  obtain ⟨u, v, vs, rfl, g0, _, g2⟩ := h
  simp [g2.len]
theorem TAtK.look {kk : Key} : ∀ {ts : List (PyData × PyData)} {i j : Nat} {xs : List (Key × V)} {t : PyData}, TAtK K H τ p i ts xs → lookD (keyD kk) i ts = some (j, t) → ∃ v, valV xs kk = some v ∧ TAt K H τ (p ++ [j]) t v
 | [], _, _, _, _, _, e => by cases e
 | (k, t) :: ts, i, j, xs, t', h, e => by
  simp only [TAtK] at h
  obtain ⟨u, v, vs, rfl, g0, g1, g2⟩ := h
  obtain ⟨rfl, _⟩ := g0
  simp only [lookD, keyEq_iff] at e
  by_cases c : u = kk
  ·rw [if_pos (decide_eq_true c)] at e
   cases e
   exact ⟨v, valV_pos (p := (u, v)) c, g1⟩
  ·rw [if_neg (by simpa using c)] at e
   obtain ⟨v', e1, e2⟩ := TAtK.look g2 e
   exact ⟨v', by rw [valV_neg (p := (u, v)) c]; exact e1, e2⟩
theorem putK_cons_ne {u kk : Key} {v w : V} {vs : List (Key × V)} (c : u ≠ kk) : putK ((u, w) :: vs) kk v = (u, w) :: putK vs kk v := by
 unfold putK
 rw [List.any_cons, decide_eq_false (show ¬ ((u, w) : Key × V).1 = kk from c), Bool.false_or]
 by_cases e : (vs.any fun kv => decide (kv.1 = kk)) = true
 ·rw [if_pos e, if_pos e, List.map_cons, if_neg (show ¬ ((u, w) : Key × V).1 = kk from c)]
 ·rw [if_neg e, if_neg e]; rfl
theorem putK_cons_eq {kk : Key} {v w : V} {vs : List (Key × V)} (h : ∀ x ∈ vs, x.1 ≠ kk) : putK ((kk, w) :: vs) kk v = (kk, v) :: vs := by
 unfold putK
 rw [List.any_cons, decide_eq_true (show ((kk, w) : Key × V).1 = kk from rfl), Bool.true_or, if_pos rfl, List.map_cons, if_pos rfl]
 congr 1
 exact (List.map_congr_left (g := id) fun x hx => if_neg (h x hx)).trans (List.map_id _)
theorem putK_mem {kk : Key} {v : V} {vs : List (Key × V)} {x : Key × V} (h : x ∈ putK vs kk v) : x.1 = kk ∨ ∃ y ∈ vs, y.1 = x.1 := by
 unfold putK at h
 split at h
 ·obtain ⟨y, h1, h2⟩ := List.mem_map.mp h
  subst h2
  refine .inr ⟨y, h1, ?_⟩
  split <;> rfl
 ·obtain h | h := List.mem_append.mp h
  ·exact .inr ⟨x, h, rfl⟩
  ·cases List.mem_singleton.mp h
   exact .inl rfl
theorem TAtK.put {kk : Key} {t' : PyData} {v' : V} (c : ∀ j, TAt K H τ (p ++ [j]) t' v') : ∀ {ts : List (PyData × PyData)} {i : Nat} {xs : List (Key × V)}, TAtK K H τ p i ts xs → TAtK K H τ p i (putD (keyD kk) t' ts) (putK xs kk v')
 | [], i, xs, h => by
  simp only [TAtK] at h
  subst h
  simp only [putD, TAtK]
  exact ⟨kk, v', [], rfl, ⟨rfl, fun x hx => by cases hx⟩, c i, rfl⟩
 | (k, t) :: ts, i, xs, h => by
  simp only [TAtK] at h
  obtain ⟨u, v, vs, rfl, g0, g1, g2⟩ := h
  obtain ⟨rfl, g0⟩ := g0
  simp only [putD, keyEq_iff]
  by_cases e : u = kk
  ·subst e
   rw [if_pos (decide_eq_true rfl), putK_cons_eq g0]
   simp only [TAtK]
   exact ⟨u, v', vs, rfl, ⟨rfl, g0⟩, c i, g2⟩
  ·rw [if_neg (by simpa using e), putK_cons_ne e]
   simp only [TAtK]
   refine ⟨u, v, _, rfl, ⟨rfl, fun x hx => ?_⟩, g1, g2.put c⟩
   rcases putK_mem hx with z | ⟨y, hy, z⟩
   ·rw [z]; exact fun w => e w.symm
   ·rw [← z]; exact g0 y hy
theorem leaf_at {d : PyData} {v : V} (h : Den K H d v) : TAt K H τ p (lfD d) v := by
 cases d with
 | list ds => simp only [lfD, TAt]; exact .inl ⟨_, rfl, h⟩
 | dict ds => simp only [lfD, TAt]; exact .inl ⟨_, rfl, h⟩
 | none => simpa only [lfD, TAt] using h
 | bool _ => simpa only [lfD, TAt] using h
 | int _ => simpa only [lfD, TAt] using h
 | str _ => simpa only [lfD, TAt] using h
 | tuple _ => simpa only [lfD, TAt] using h
theorem TAt.kd {kvs : List (PyData × PyData)} {v : V} (h : TAt K H τ p (.dict kvs) v) (e : isKd kvs = true) : ∃ a es, τ.lookup p = some a ∧ v = .ref a ∧ H a = some (.dK es) ∧ TAtK K H τ p 0 kvs es := by
 obtain ⟨n1, n2⟩ := kd_none e
 simp only [TAt] at h
 rcases h with ⟨d, e1, _⟩ | ⟨_, _, b, es, e1, e2, e3, kk, g⟩ | ⟨_, _, b, es, e1, e2, e3, g⟩ | ⟨c, b, dx, C, xs, e0, e1, e2, e3, kk, g⟩
 ·rw [n1] at e1; cases e1
 ·rw [kk.1] at e; cases e
 ·exact ⟨b, es, e1, e2, e3, g⟩
 ·rw [n2] at e0; cases e0
theorem TAt.node {t : PyData} {v : V} (h : TAt K H τ p t v) (e : leafD t = none) : ∃ a, τ.lookup p = some a ∧ v = .ref a := by
 cases t with
 | list ts =>
  simp only [TAt] at h
  obtain ⟨a, xs, e1, e2, _⟩ := h
  exact ⟨a, e1, e2⟩
 | dict kvs =>
  have e' : fzOf kvs = none := e
  simp only [TAt] at h
  rcases h with ⟨d, e1, _⟩ | ⟨_, _, b, es, e1, e2, e3, kk, g⟩ | ⟨_, _, b, es, e1, e2, e3, g⟩ | ⟨c, b, dx, C, xs, e0, e1, e2, e3, kk, g⟩
  ·rw [e'] at e1; cases e1
  ·exact ⟨b, e1, e2⟩
  ·exact ⟨b, e1, e2⟩
  ·exact ⟨b, e1, e2⟩
 | none => cases e
 | bool _ => cases e
 | int _ => cases e
 | str _ => cases e
 | tuple _ => cases e
end
def okW : PyData → List Nat → Bool
 | _, [] => true
 | .list ts, i :: q => okW (ts.getD i .none) q
 | .dict kvs, i :: q => (isKd kvs || (excC kvs).isSome) && okW (kvs.getD i (.none, .none)).2 q
 | _, _ :: _ => false
theorem isKd_set {kvs : List (PyData × PyData)} {i : Nat} {k t t' : PyData} (h : isKd kvs = true) (e : kvs[i]? = some (k, t)) : isKd (kvs.set i (k, t')) = true := by
 unfold isKd at h ⊢
 rw [List.all_eq_true] at h ⊢
 intro x hx
 rcases List.mem_or_eq_of_mem_set hx with z | z
 ·exact h x z
 ·subst z; exact h (k, t) (List.mem_of_getElem? e)
theorem TAtF.restF {K : Kd} {H H' : Hp} {τ : List (List Nat × Addr)} {p : List Nat} (pe : Pers H H') {i : Nat} (e : ∀ l, l ≠ i → ∀ q a, τ.lookup (p ++ l :: q) = some a → H' a = H a) : ∀ {ts : List (PyData × PyData)} {i' : Nat} {vs : List (Str × V)}, i < i' → TAtF K H τ p i' ts vs → TAtF K H' τ p i' ts vs
 | [], _, _, _, h => by simpa only [TAtF] using h
 | (.str f, t) :: ts, i', vs, hl, h => by
  simp only [TAtF] at h ⊢
  obtain ⟨v, vs, rfl, g1, g2⟩ := h
  exact ⟨v, vs, rfl, TAt.monoP pe (fun q a z => e i' (by omega) q a (by simpa using z)) g1, TAtF.restF pe e (by omega) g2⟩
 | (.none, d) :: r, _, _, hl, h => by simp only [TAtF] at h ⊢; exact TAtF.restF pe e (by omega) h
 | (.bool _, d) :: r, _, _, _, h => by simp only [TAtF] at h
 | (.int _, d) :: r, _, _, _, h => by simp only [TAtF] at h
 | (.list _, d) :: r, _, _, _, h => by simp only [TAtF] at h
 | (.tuple _, d) :: r, _, _, _, h => by simp only [TAtF] at h
 | (.dict _, d) :: r, _, _, _, h => by simp only [TAtF] at h
theorem TAtF.setF {K : Kd} {H H' : Hp} {τ : List (List Nat × Addr)} {p : List Nat} (pe : Pers H H') {t' t0 : PyData} {f0 : Str} : ∀ {ts : List (PyData × PyData)} {i j : Nat} {xs : List (Str × V)}, TAtF K H τ p i ts xs → ts[j]? = some (.str f0, t0) → (∀ v, TAt K H τ (p ++ [i + j]) t0 v → TAt K H' τ (p ++ [i + j]) t' v) → (∀ l, l ≠ i + j → ∀ q a, τ.lookup (p ++ l :: q) = some a → H' a = H a) → TAtF K H' τ p i (ts.set j (.str f0, t')) xs
 | [], _, _, _, _, z, _, _ => by simp at z
 | (k, t) :: ts, i, 0, xs, h, z, c, e => by
  simp at z
  obtain ⟨rfl, rfl⟩ := z
  simp only [TAtF] at h
  obtain ⟨v, vs, rfl, g1, g2⟩ := h
  simp only [List.set_cons_zero, TAtF]
  exact ⟨v, vs, rfl, c v g1, TAtF.restF pe e (Nat.lt_succ_self i) g2⟩
 | (.str f, t) :: ts, i, j + 1, xs, h, z, c, e => by
  simp only [TAtF] at h
  obtain ⟨v, vs, rfl, g1, g2⟩ := h
  simp only [List.set_cons_succ, TAtF]
  exact ⟨v, vs, rfl, TAt.monoP pe (fun q a z => e i (by omega) q a (by simpa using z)) g1, TAtF.setF pe g2 (by simpa using z) (fun v' zv => by rw [show i + 1 + j = i + (j + 1) by omega] at zv ⊢; exact c v' zv) fun l hl => e l (by omega)⟩
 | (.none, d) :: ts, i, j + 1, xs, h, z, c, e => by
  simp only [TAtF] at h
  simp only [List.set_cons_succ, TAtF]
  exact TAtF.setF pe h (by simpa using z) (fun v' zv => by rw [show i + 1 + j = i + (j + 1) by omega] at zv ⊢; exact c v' zv) fun l hl => e l (by omega)
 | (.bool _, d) :: r, _, _ + 1, _, h, _, _, _ => by simp only [TAtF] at h
 | (.int _, d) :: r, _, _ + 1, _, h, _, _, _ => by simp only [TAtF] at h
 | (.list _, d) :: r, _, _ + 1, _, h, _, _, _ => by simp only [TAtF] at h
 | (.tuple _, d) :: r, _, _ + 1, _, h, _, _, _ => by simp only [TAtF] at h
 | (.dict _, d) :: r, _, _ + 1, _, h, _, _, _ => by simp only [TAtF] at h
theorem TAt.ins {K : Kd} {H : Hp} {τ : List (List Nat × Addr)} {p : List Nat} {kvs : List (PyData × PyData)} {v : V} {c : Str} (h : TAt K H τ p (.dict kvs) v) (e : excC kvs = some c) : ∃ a dx C xs, τ.lookup p = some a ∧ v = .ref a ∧ H a = some (.ins C dx xs) ∧ ClsN K c C ∧ TAtF K H τ p 0 kvs xs := by
 have hf : fzOf kvs = none := by
  unfold excC at e
  split at e
  ·unfold fzOf
   split
   ·rename_i z; simp at z
   ·rename_i z; simp at z
   ·rfl
  ·cases e
 simp only [TAt] at h
 rcases h with ⟨d, e1, _⟩ | ⟨_, z2, _⟩ | ⟨_, z2, _⟩ | ⟨c', a, dx, C, xs, e0, e1, e2, e3, k, g⟩
 ·rw [hf] at e1; cases e1
 ·rw [e] at z2; cases z2
 ·rw [e] at z2; cases z2
 ·rw [e] at e0; cases e0
  exact ⟨a, dx, C, xs, e1, e2, e3, k, g⟩
theorem excC_set {kvs : List (PyData × PyData)} {i : Nat} {x : PyData × PyData} {c : Str} {k t : PyData} (h : excC kvs = some c) (e : kvs[i]? = some (k, t)) (kn : k ≠ .none) : excC (kvs.set i x) = some c := by
 cases kvs with
 | nil => cases h
 | cons y r =>
  cases i with
  | zero =>
   simp at e
   subst e
   unfold excC at h
   split at h
   ·rename_i z; simp at z; exact (kn z.1.1).elim
   ·cases h
  | succ i =>
   rw [List.set_cons_succ]
   unfold excC at h ⊢
   split at h
   ·rename_i z
    simp at z
    obtain ⟨rfl, rfl⟩ := z
    exact h
   ·cases h
theorem TAt.set {K : Kd} {H : Hp} {τ : List (List Nat × Addr)} (nd : (τ.map (·.2)).Nodup) {a : Addr} {o : HO} {n : PyData} (pe : Pers H (upd H a o)) : ∀ {q p : List Nat} {t t0 : PyData} {v : V}, TAt K H τ p t v → getT t q = some t0 → okW t q = true → τ.lookup (p ++ q) = some a → TAt K (upd H a o) τ (p ++ q) n (.ref a) → (∀ u, TAt K H τ (p ++ q) t0 u → u = .ref a) → TAt K (upd H a o) τ p (setT t q n) v
 | [], p, t, t0, v, h, e, _, _, hn, hu => by
  cases e
  rw [List.append_nil] at hn hu
  rw [hu v h]
  unfold setT
  exact hn
 | i :: q, p, t, t0, v, h, e, ok, ea, hn, hu => by
  have other : ∀ (r : List Nat) (b : Addr), τ.lookup r = some b → r ≠ p ++ i :: q → (upd H a o) b = H b := fun r b z ne => upd_ne fun eb => by
   subst eb
   exact ne (look_inj nd z ea)
  have ea' : τ.lookup ((p ++ [i]) ++ q) = some a := by simpa using ea
  have hn' : TAt K (upd H a o) τ ((p ++ [i]) ++ q) n (.ref a) := by simpa using hn
  have hu' : ∀ u, TAt K H τ ((p ++ [i]) ++ q) t0 u → u = .ref a := fun u z => hu u (by simpa using z)
  simp only [getT] at e
  cases z : chD t i with
  | none => rw [z] at e; cases e
  | some t1 =>
   rw [z] at e
   have e' : getT t1 q = some t0 := e
   have sib : ∀ l, l ≠ 0 + i → ∀ r b, τ.lookup (p ++ l :: r) = some b → (upd H a o) b = H b := fun l hl r b zz => other _ _ zz fun y => by
    have := List.append_cancel_left y
    injection this with h1 _
    omega
   have self : ∀ b, τ.lookup p = some b → (upd H a o) b = H b := fun b zz => other _ _ zz fun y => by
    have := congrArg List.length y
    simp at this
   cases t with
   | list ts =>
    have zi : ts[i]? = some t1 := z
    have hg : ts.getD i .none = t1 := by rw [List.getD_eq_getElem?_getD, zi]; rfl
    simp only [TAt] at h
    obtain ⟨b, xs, e1, e2, e3, g⟩ := h
    simp only [setT, hg, TAt]
    refine ⟨b, xs, e1, e2, (self b e1).trans e3, TAtL.setL pe g (fun v1 zv => ?_) sib⟩
    obtain ⟨v2, ev2, g2⟩ := g.get (j := i) zi
    rw [zv] at ev2; cases ev2
    rw [Nat.zero_add] at g2 ⊢
    exact TAt.set nd pe g2 e' (by simp only [okW, hg] at ok; exact ok) ea' hn' hu'
   | dict kvs =>
    simp only [chD] at z
    cases zi : kvs[i]? with
    | none => rw [zi] at z; cases z
    | some kt =>
     obtain ⟨k, t2⟩ := kt
     rw [zi] at z
     have kn : k ≠ .none := fun w => by subst w; cases z
     have e2 : t2 = t1 := by split at z <;> simp_all
     subst e2
     have hg : kvs.getD i (.none, .none) = (k, t2) := by rw [List.getD_eq_getElem?_getD, zi]; rfl
     simp only [okW, hg, Bool.and_eq_true, Bool.or_eq_true] at ok
     rcases ok.1 with ok1 | ok1
     ·obtain ⟨b, es, e1, e2, e3, g⟩ := h.kd ok1
      have kd' : isKd (kvs.set i (k, setT t2 q n)) = true := isKd_set ok1 zi
      obtain ⟨n1, n2⟩ := kd_none kd'
      simp only [setT, hg, TAt]
      refine .inr (.inr (.inl ⟨n1, n2, b, es, e1, e2, (self b e1).trans e3, TAtK.setK pe g zi (fun v1 ⟨kk, zv⟩ => ?_) sib⟩))
      obtain ⟨kk2, v2, ev2, _, g2⟩ := g.get' (j := i) zi
      rw [zv] at ev2; cases ev2
      rw [Nat.zero_add] at g2 ⊢
      exact TAt.set nd pe g2 e' ok.2 ea' hn' hu'
     ·obtain ⟨c, ec⟩ := Option.isSome_iff_exists.mp ok1
      obtain ⟨b, dx, C, xs, e1, e2, e3, kc, g⟩ := h.ins ec
      obtain ⟨f0, rfl⟩ := g.key (List.mem_of_getElem? zi) kn
      have ec' : excC (kvs.set i (.str f0, setT t2 q n)) = some c := excC_set ec zi kn
      simp only [setT, hg, TAt]
      refine .inr (.inr (.inr ⟨c, b, dx, C, xs, ec', e1, e2, (self b e1).trans e3, kc, TAtF.setF pe g zi (fun v1 g2 => ?_) sib⟩))
      rw [Nat.zero_add] at g2 ⊢
      exact TAt.set nd pe g2 e' ok.2 ea' hn' hu'
   | none => cases z
   | bool _ => cases z
   | int _ => cases z
   | str _ => cases z
   | tuple _ => cases z
def onAt (P : Nat → List Nat → Prop) : R → Prop
 | .at k p => P k p
 | _ => False
def onKey (P : PyData → Prop) : R → Prop
 | .imm (.int i) => P (.int i)
 | .imm (.str x) => P (.str x)
 | _ => False
def childR (k : Nat) (p : List Nat) (j : Nat) (t : PyData) : R := match leafD t with
 | some d => .imm d
 | none => .at k (p ++ [j])
section
variable {K : Kx} {α : Al} {Hb H : Hp} {r : R} {v : V} {m : MSt} {σ : St}
theorem on_at {P : Nat → List Nat → Prop} (rr : RelR K α Hb H r v) (h : onAt P r) : ∃ k p τ a, r = .at k p ∧ α[k]? = some (.T τ) ∧ τ.lookup p = some a ∧ v = .ref a ∧ P k p := by
 unfold onAt at h
 split at h
 ·obtain ⟨τ, a, e1, e2, e3⟩ := rr
  exact ⟨_, _, τ, a, rfl, e1, e2, e3, h⟩
 ·exact h.elim
theorem on_key {P : PyData → Prop} (rr : RelR K α Hb H r v) (h : onKey P r) : ∃ kk : Key, r = .imm (keyD kk) ∧ v = kV kk ∧ P (keyD kk) := by
 unfold onKey at h
 split at h
 ·rename_i i
  exact ⟨.inl i, rfl, int_of_den (show Den K H (.int i) v from rr), h⟩
 ·rename_i x
  exact ⟨.inr x, rfl, str_of_den (show Den K H (.str x) v from rr), h⟩
 ·exact h.elim
theorem Rel.dict (Rl : Rel K α m σ H) {k : Nat} {p : List Nat} {τ : List (List Nat × Addr)} {a : Addr} {t : PyData} {kvs : List (PyData × PyData)} (e1 : α[k]? = some (.T τ)) (e2 : τ.lookup p = some a) (e3 : m.os[k]? = some [t]) (e4 : getT t p = some (.dict kvs)) (e5 : isKd kvs = true) :
  ∃ es, H a = some (.dK es) ∧ TAtK K H τ p 0 kvs es := by
 obtain ⟨⟨t1, v0, z, g, _⟩, _⟩ := Rl.own k (.T τ) _ e1 e3
 cases z
 obtain ⟨v', g'⟩ := g.get e4
 rw [List.nil_append] at g'
 obtain ⟨a', es, ea, _, ed, gk⟩ := g'.kd e5
 rw [e2] at ea; cases ea
 exact ⟨es, ed, gk⟩
theorem childR_rel (Rl : Rel K α m σ H) {k : Nat} {p : List Nat} {j : Nat} {τ : List (List Nat × Addr)} {t : PyData} (e1 : α[k]? = some (.T τ)) (h : TAt K H τ (p ++ [j]) t v) : RelR K α Hb H (childR k p j t) v := by
 unfold childR
 cases e : leafD t with
 | some d => exact leaf_den h e
 | none =>
  obtain ⟨a, e2, e3⟩ := h.node e
  exact ⟨τ, a, e1, e2, e3⟩
end
section
variable {X : Cx} {o i e : Expr} {wo wi we : WE} {pos pos' : Pos}
def dGot (m : MSt) (k : Nat) (p : List Nat) (y : PyData) (K : R → Prop) : Prop := ∃ t kvs j t', m.os[k]? = some [t] ∧ getT t p = some (.dict kvs) ∧ isKd kvs = true ∧ lookD y 0 kvs = some (j, t') ∧ K (childR k p j t')
def dPuts (m : MSt) (k : Nat) (p : List Nat) (y d : PyData) (P : PyData → Prop) : Prop := ∃ t kvs, m.os[k]? = some [t] ∧ getT t p = some (.dict kvs) ∧ isKd kvs = true ∧ okW t p = true ∧ kvs.length < sizeLine ∧ P (setT t p (.dict (putD y (lfD d) kvs)))
def wDIx (wo wi : WE) : WE := fun m K => wo m fun ro m1 => wi m1 fun ri m2 => onAt (fun k p => onKey (fun y => dGot m2 k p y fun r => K r m2) ri) ro
theorem me_dix (hu : X.A.units + 64 < cLine) (ho : ME X o wo) (hi : ME X i wi) (hs : NoSl i := by intro _ _; rfl) : ME X (.Subscript o i pos) (wDIx wo wi) := (pe_dget (by omega) ho hi hs).wk fun σ H Q ⟨α, m, Kc, Rl, hw, fin⟩ => by
 refine ⟨α, m, _, Rl, hw, fun ro m1 v1 H1 k1 n1 Rl1 rr1 F1 => ⟨α, m1, _, Rl1, k1, fun ri m2 v2 H2 k2 n2 Rl2 rr2 F2 => ?_⟩⟩
 obtain ⟨k, p, τ, a, rfl, e1, e2, rfl, k2⟩ := on_at rr1 k2
 obtain ⟨kk, rfl, rfl, t, kvs, j, t', e3, e4, e5, e6, k2⟩ := on_key rr2 k2
 obtain ⟨es, ed, gk⟩ := Rl2.dict e1 e2 e3 e4 e5
 obtain ⟨v, ev, hv⟩ := gk.look e6
 refine ⟨a, v, rfl, by rw [← ev]; exact DGet.k ed, fin _ m2 v H2 k2 (n2.trans n1) Rl2 ?_ (F1.trans F2)⟩
 exact childR_rel Rl2 e1 hv
def wDPut (we wo wi : WE) : WS := fun D m => we m fun rv m1 => onImm (fun d => wo m1 fun ro m2 => wi m2 fun ri m3 => onAt (fun k p => onKey (fun y => dPuts m3 k p y d fun t => D.nx { m3 with os := m3.os.set k [t] }) ri) ro) rv
theorem ms_dput (hu : X.A.units + 64 < cLine) (he : ME X e we) (ho : ME X o wo) (hi : ME X i wi) (hs : swapsWith e (some (.Subscript o i pos')) pos.line X.env = pure false := by rfl) : MS X (.Assign [.Subscript o i pos'] e pos) (wDPut we wo wi) := (ps_dput (by omega) ho hi he hs).wk fun D σ H ⟨α, m, De, Rl, hw, k⟩ => by
 refine ⟨α, m, _, Rl, hw, fun r m1 v H1 q n1 Rl1 rr F1 => ?_⟩
 obtain ⟨d, er, hd, q⟩ := on_imm rr q
 refine ⟨α, m1, _, Rl1, q, fun ro m2 ov H2 q2 n2 Rl2 rr2 F2 => ⟨α, m2, _, Rl2, q2, fun ri m3 iv H3 q3 n3 Rl3 rr3 F3 => ?_⟩⟩
 obtain ⟨kk, p, τ, a, rfl, e1, e2, rfl, q3⟩ := on_at rr2 q3
 obtain ⟨y, rfl, rfl, t, kvs, e3, e4, e5, e6, e7, q3⟩ := on_key rr3 q3
 obtain ⟨es, ed, gk⟩ := Rl3.dict e1 e2 e3 e4 e5
 have hd3 : Den X.kx H3 d v := (hd.mono (Rl1.pers F2)).mono (Rl2.pers F3)
 obtain ⟨⟨t1, v0, z, g, a0, ea0, ev0⟩, mu⟩ := Rl3.own kk (.T τ) _ e1 e3
 cases z
 have pe : Pers H3 (upd H3 a (.dK (putK es y v))) := pers_upd (.inr ⟨_, ed, rfl⟩)
 have nd : (τ.map (·.2)).Nodup := ((ads_iff α).mp Rl3.nd).1 (.T τ) (List.mem_of_getElem? e1)
 have gk' : TAtK X.kx (upd H3 a (.dK (putK es y v))) τ p 0 kvs es := TAtK.monoP pe (fun i q b zb => upd_ne fun eb => by
  subst eb
  have := congrArg List.length (look_inj nd zb e2)
  simp at this) gk
 have new : TAt X.kx (upd H3 a (.dK (putK es y v))) τ p (.dict (putD (keyD y) (lfD d) kvs)) (.ref a) := by
  have gp := gk'.put (kk := y) (t' := lfD d) (v' := v) fun j => leaf_at (hd3.mono pe)
  obtain ⟨z1, z2⟩ := kd_none gp.kd
  simp only [TAt]
  exact .inr (.inr (.inl ⟨z1, z2, a, _, e2, rfl, upd_same, gp⟩))
 have all : TAt X.kx (upd H3 a (.dK (putK es y v))) τ [] (setT t p (.dict (putD (keyD y) (lfD d) kvs))) v0 := TAt.set nd pe g e4 e6 (by rw [List.nil_append]; exact e2) (by rw [List.nil_append]; exact new) fun u hu' => by
  rw [List.nil_append] at hu'
  obtain ⟨a', es', ea', eu, _⟩ := hu'.kd e5
  rw [e2] at ea'; cases ea'
  exact eu
 obtain ⟨R4, F4⟩ := Rl3.setW e1 pe (ds' := [setT t p (.dict (putD (keyD y) (lfD d) kvs))]) (fun b hb => upd_ne fun eb => hb (eb ▸ mem_of_look e2)) ⟨⟨_, v0, rfl, all, a0, ea0, ev0⟩, fun b hb => by
  by_cases eb : b = a
  ·subst eb; exact ⟨_, upd_same, rfl⟩
  ·rw [upd_ne eb]; exact mu b hb⟩
 exact ⟨a, _, rfl, DPut.k ed (by rw [← gk.len]; exact e7), k.nx α _ σ _ q3 (n3.trans (n2.trans n1)) R4 (.of R4 (((F1.trans F2).trans F3).trans F4))⟩
def wPairs : List (WE × WE) → MSt → (List (R × R) → MSt → Prop) → Prop
 | [], m, K => K [] m
 | (wk, wv) :: r, m, K => wk m fun rk m1 => wv m1 fun rv m2 => wPairs r m2 fun ps m3 => K ((rk, rv) :: ps) m3
inductive RelPs (K : Kd) (α : Al) (Hb H : Hp) : List (R × R) → List (V × V) → Prop where
 | nil : RelPs K α Hb H [] []
 | cons {r1 r2 : R} {rs : List (R × R)} {v1 v2 : V} {vs : List (V × V)} : RelR K α Hb H r1 v1 → RelR K α Hb H r2 v2 → RelPs K α Hb H rs vs → RelPs K α Hb H ((r1, r2) :: rs) ((v1, v2) :: vs)
theorem RelPs.base {K : Kx} {α : Al} {m : MSt} {σ : St} {H0 H H' : Hp} (Rl : Rel K α m σ H) (F : Frm α H0 H) : ∀ {rs : List (R × R)} {vs : List (V × V)}, RelPs K α H H' rs vs → RelPs K α H0 H' rs vs
 | _, _, .nil => .nil
 | _, _, .cons h1 h2 t => .cons (h1.base Rl F) (h2.base Rl F) (t.base Rl F)
theorem pairs_rd {K : Kx} : ∀ {ws : List (WE × WE)} {α : Al} {m : MSt} {σ : St} {H : Hp} {Kc : List (R × R) → MSt → Prop} {Q : List (V × V) → Hp → Prop}, Rel K α m σ H → wPairs ws m Kc →
  (∀ ps m' vs H', Kc ps m' → m'.np = m.np → Rel K α m' σ H' → RelPs K α H H' ps vs → Frm α H H' → Q vs H') → tPairs (ws.map fun w => (tM K w.1, tM K w.2)) σ H Q
 | [], α, m, σ, H, Kc, Q, Rl, h, fin => fin _ m _ H h rfl Rl .nil (Frm.refl _ _)
 | (wk, wv) :: r, α, m, σ, H, Kc, Q, Rl, h, fin =>
  ⟨α, m, _, Rl, h, fun r1 m1 v1 H1 k1 n1 Rl1 rr1 F1 => ⟨α, m1, _, Rl1, k1, fun r2 m2 v2 H2 k2 n2 Rl2 rr2 F2 =>
   pairs_rd Rl2 k2 fun ps m3 vs H3 k3 n3 Rl3 rs F3 => fin _ m3 _ H3 k3 (n3.trans (n2.trans n1)) Rl3
    (.cons ((rr1.keep Rl Rl1 F2).keep Rl Rl2 F3) ((rr2.keep Rl1 Rl2 F3).base Rl1 F1) (rs.base Rl2 (F1.trans F2))) ((F1.trans F2).trans F3)⟩⟩
def pairsD : List (R × R) → Option (List (PyData × PyData))
 | [] => some []
 | (.imm (.int i), .imm d) :: r => (pairsD r).map ((.int i, d) :: ·)
 | (.imm (.str x), .imm d) :: r => (pairsD r).map ((.str x, d) :: ·)
 | _ :: _ => none
def lfKV (kvs : List (PyData × PyData)) : List (PyData × PyData) := kvs.map fun kv => (kv.1, lfD kv.2)
def nodupK : List (PyData × PyData) → Bool
 | [] => true
 | (k, _) :: r => r.all (fun kv => !keyEq kv.1 k) && nodupK r
theorem pairs_den {K : Kx} {α : Al} {H0 H : Hp} {τ : List (List Nat × Addr)} {p : List Nat} {ps : List (R × R)} {vs : List (V × V)} (h : RelPs K α H0 H ps vs) : ∀ {kvs : List (PyData × PyData)} {i : Nat}, pairsD ps = some kvs → nodupK kvs = true → ∃ es : List (Key × V), vs = es.map (fun kv => (kV kv.1, kv.2)) ∧ TAtK K H τ p i (lfKV kvs) es ∧ ∀ kk, (kvs.all fun kv => !keyEq kv.1 (keyD kk)) = true → ∀ x ∈ es, x.1 ≠ kk := by
 induction h with
 | nil => intro kvs i e _; cases e; exact ⟨[], rfl, by simp [lfKV, TAtK], fun _ _ _ h => by cases h⟩
 | @cons r1 r2 rs v1 v2 vs h1 h2 t ih =>
  intro kvs i e nk
  have go : ∀ (kk : Key) (d : PyData), r1 = .imm (keyD kk) → r2 = .imm d → (pairsD rs).map ((keyD kk, d) :: ·) = some kvs → ∃ es : List (Key × V), (v1, v2) :: vs = es.map (fun kv => (kV kv.1, kv.2)) ∧ TAtK K H τ p i (lfKV kvs) es ∧ ∀ kk, (kvs.all fun kv => !keyEq kv.1 (keyD kk)) = true → ∀ x ∈ es, x.1 ≠ kk := by
   clear e
   intro kk d z1 z2 e
   subst z1 z2
   cases q : pairsD rs with
   | none => rw [q] at e; cases e
   | some kvs' =>
    rw [q] at e; cases e
    simp only [nodupK, Bool.and_eq_true] at nk
    obtain ⟨es, ee, g, un⟩ := ih (i := i + 1) q nk.2
    have e1 : v1 = kV kk := by
     cases kk with
     | inl i => exact int_of_den (show Den K H (.int i) v1 from h1)
     | inr x => exact str_of_den (show Den K H (.str x) v1 from h1)
    subst e1
    refine ⟨(kk, v2) :: es, by rw [List.map_cons, ← ee], ?_, fun k' hk x hx => ?_⟩
    ·simp only [lfKV, List.map_cons, TAtK]
     exact ⟨kk, v2, es, rfl, ⟨rfl, un kk nk.1⟩, leaf_at h2, g⟩
    ·rw [List.all_cons, Bool.and_eq_true, keyEq_iff] at hk
     rcases List.mem_cons.mp hx with z | z
     ·subst z; simpa using hk.1
     ·exact un k' hk.2 x z
  unfold pairsD at e
  split at e
  ·rename_i z; cases z
  ·rename_i i' d r z; cases z; exact go (.inl i') d rfl rfl e
  ·rename_i x d r z; cases z; exact go (.inr x) d rfl rfl e
  ·cases e
theorem merge_new : ∀ {more kvs : List (Key × V)}, (more.map (·.1)).Nodup → (∀ x ∈ more, valV kvs x.1 = none) → mergeK kvs more = kvs ++ more
 | [], kvs, _, _ => (List.append_nil _).symm
 | (k, v) :: more, kvs, nd, h => by
  show mergeK (putK kvs k v) more = _
  rw [List.map_cons, List.nodup_cons] at nd
  rw [putK_new v (h (k, v) List.mem_cons_self), merge_new nd.2 fun x hx => ?_, List.append_assoc]
  ·rfl
  ·rw [valV_snoc _ _ _ _ (h (k, v) List.mem_cons_self), if_neg]
   ·exact h x (List.mem_cons_of_mem _ hx)
   ·exact fun z => nd.1 (z ▸ List.mem_map_of_mem hx)
theorem TAtK.nodup {K : Kd} {H : Hp} {τ : List (List Nat × Addr)} {p : List Nat} : ∀ {ts : List (PyData × PyData)} {i : Nat} {xs : List (Key × V)}, TAtK K H τ p i ts xs → (xs.map (·.1)).Nodup
 | [], _, _, h => by simp only [TAtK] at h; subst h; exact List.nodup_nil
 | (k, t) :: ts, i, xs, h => by
  simp only [TAtK] at h
  obtain ⟨u, v, vs, rfl, g0, _, g2⟩ := h
  rw [List.map_cons]
  rw [List.nodup_cons]
  refine ⟨fun z => ?_, g2.nodup⟩
  obtain ⟨x, h1, h2⟩ := List.mem_map.mp z
  exact g0.2 x h1 h2
def onPairs (P : List (PyData × PyData) → Prop) : Option (List (PyData × PyData)) → Prop
 | some kvs => nodupK kvs = true ∧ kvs.length ≤ 15 ∧ P (lfKV kvs)
 | none => False
def wDisp (ws : List (WE × WE)) : WE := fun m K => wPairs ws m fun ps m' => onPairs (fun kvs => K (.newT (.dict kvs)) m') (pairsD ps)
def MPs (X : Cx) (pos : Pos) (keys : List (Option Expr)) (values : List Expr) (ws : List (WE × WE)) : Prop := PPs X pos keys values (ws.map fun w => (tM X.kx w.1, tM X.kx w.2))
theorem mps_nil : MPs X pos [] [] [] := pps_nil
theorem mps_cons {k v : Expr} {ks : List (Option Expr)} {vs : List Expr} {wk wv : WE} {ws : List (WE × WE)} (hk : ME X k wk) (hv : ME X v wv) (hr : MPs X pos ks vs ws) : MPs X pos (some k :: ks) (v :: vs) ((wk, wv) :: ws) := pps_cons hk hv hr
theorem me_disp {keys : List (Option Expr)} {values : List Expr} {ws : List (WE × WE)} (h : MPs X pos keys values ws) (hall : keys.all (·.isSome) = true := by rfl) (hl : keys.length = values.length := by rfl) (h0 : keys ≠ [] := by exact fun z => by cases z) (h15 : keys.length ≤ 15 := by decide) : ME X (.Dict keys values pos) (wDisp ws) :=
 (pe_disp h hall hl h0 h15).wk fun σ H Q ⟨α, m, Kc, Rl, hw, fin⟩ => by
 intro p hp
 refine pairs_rd (Rl.lay hp) hw fun ps m1 vs H1 k1 n1 Rl1 rp F1 => ?_
 cases e : pairsD ps with
 | none => rw [e] at k1; exact k1.elim
 | some kvs =>
  rw [e] at k1
  obtain ⟨nk, hl, k1⟩ := k1
  have hpα : p ∉ ads α := Rl.out hp
  have e1 : H1 p = some (.dK []) := F1 p _ upd_same hpα
  obtain ⟨es, ee, g, _⟩ := pairs_den (τ := [([], p)]) (p := []) (i := 0) rp e nk
  refine ⟨e1, es, ee, by rw [← g.len]; simpa [lfKV] using hl, ?_⟩
  have em : mergeK [] es = es := by
   have := merge_new (more := es) (kvs := []) g.nodup fun x _ => rfl
   rwa [List.nil_append] at this
  rw [em]
  have pe : Pers H1 (upd H1 p (.dK es)) := pers_upd (.inr ⟨_, e1, rfl⟩)
  have fr : Frm α H (upd H1 p (.dK es)) := fun b ob eb nb => by
   have ne : b ≠ p := ne_of_none eb hp
   rw [upd_ne ne]
   exact F1 b ob (by rw [upd_ne ne]; exact eb) nb
  have old : Ext X.kx.eb.np α H α (upd H1 p (.dK es)) := ⟨rfl, fr, fun _ h => .inl h, fun b hb => by
   have hbp : b ≠ p := fun e => hpα (e ▸ hb)
   rw [upd_ne hbp]
   obtain ⟨o', e', _⟩ := Rl1.mem hb
   exact ⟨o', e'⟩⟩
  refine fin _ m1 _ _ k1 n1 (Rl1.at' pe (fun b hb => upd_ne fun e => hpα (e ▸ hb)) (Rl.ebx.trans old)) ⟨[([], p)], p, rfl, rfl, by simp, fun b hb => by simp at hb; subst hb; exact hp, ⟨⟨_, .ref p, rfl, ?_, p, rfl, rfl⟩, fun b hb => by simp at hb; subst hb; exact ⟨_, upd_same, rfl⟩⟩⟩ fr
  obtain ⟨z1, z2⟩ := kd_none g.kd
  simp only [TAt]
  refine .inr (.inr (.inl ⟨z1, z2, p, es, rfl, rfl, upd_same, TAtK.monoP pe (fun i q b zb => ?_) g⟩))
  simp [List.lookup] at zb
end
section
variable {m : MSt} {Q : R → MSt → Prop} {wo wi we : WE} {D : MEnds}
theorem x_dix (h : wo m fun ro m1 => wi m1 fun ri m2 => onAt (fun k p => onKey (fun y => dGot m2 k p y fun r => Q r m2) ri) ro) : wDIx wo wi m Q := h
theorem x_onAt {P : Nat → List Nat → Prop} {k : Nat} {p : List Nat} (h : P k p) : onAt P (.at k p) := h
theorem x_onKeyS {P : PyData → Prop} {x : Str} (h : P (.str x)) : onKey P (.imm (.str x)) := h
theorem x_dgot {k : Nat} {p : List Nat} {y t t' d : PyData} {kvs : List (PyData × PyData)} {j : Nat} {K : R → Prop} (e1 : m.os[k]? = some [t]) (e2 : getT t p = some (.dict kvs)) (e3 : isKd kvs = true) (e4 : lookD y 0 kvs = some (j, t')) (e5 : leafD t' = some d) (h : K (.imm d)) :
  dGot m k p y K := ⟨t, kvs, j, t', e1, e2, e3, e4, by unfold childR; rw [e5]; exact h⟩
theorem x_dput (h : we m fun rv m1 => onImm (fun d => wo m1 fun ro m2 => wi m2 fun ri m3 => onAt (fun k p => onKey (fun y => dPuts m3 k p y d fun t => D.nx { m3 with os := m3.os.set k [t] }) ri) ro) rv) : wDPut we wo wi D m := h
theorem putD_set {y t t' : PyData} : ∀ {kvs : List (PyData × PyData)} {i j : Nat}, lookD y i kvs = some (i + j, t') → ∃ k', keyEq k' y = true ∧ putD y t kvs = kvs.set j (k', t)
 | [], _, _, e => by cases e
 | (k', t0) :: r, i, j, e => by
  simp only [lookD] at e
  by_cases c : keyEq k' y = true
  ·rw [if_pos c] at e
   have : i = i + j := by simpa using congrArg (Option.map (·.1)) e
   obtain rfl : j = 0 := by omega
   exact ⟨k', c, by simp only [putD, if_pos c, List.set_cons_zero]⟩
  ·rw [if_neg c] at e
   cases j with
   | zero =>
    exfalso
    have ge : ∀ {kvs : List (PyData × PyData)} {i j : Nat} {t'' : PyData}, lookD y i kvs = some (j, t'') → i ≤ j := by
     intro kvs
     induction kvs with
     | nil => intro i j t'' e; cases e
     | cons x r ih =>
      intro i j t'' e
      obtain ⟨k1, t1⟩ := x
      simp only [lookD] at e
      split at e
      ·cases e; exact Nat.le_refl _
      ·have := ih e; omega
    have := ge e
    omega
   | succ j =>
    obtain ⟨k2, h1, h2⟩ := putD_set (t := t) (i := i + 1) (j := j) (by rw [e]; congr 2; omega)
    exact ⟨k2, h1, by simp only [putD, if_neg c, List.set_cons_succ, h2]⟩
theorem keyEq_eq {a b : PyData} (h : keyEq a b = true) : a = b := by
 unfold keyEq at h
 split at h
 ·rw [of_decide_eq_true h]
 ·rw [of_decide_eq_true h]
 ·cases h
theorem x_dputs {k : Nat} {p : List Nat} {y d t t' : PyData} {kvs : List (PyData × PyData)} {j : Nat} {P : PyData → Prop} (e1 : m.os[k]? = some [t]) (e2 : getT t p = some (.dict kvs)) (e3 : isKd kvs = true) (e4 : okW t p = true) (e5 : kvs.length < sizeLine) (e6 : lookD y 0 kvs = some (j, t')) (h : P (setT t p (.dict (kvs.set j (y, lfD d))))) :
  dPuts m k p y d P := by
 obtain ⟨k', h1, h2⟩ := putD_set (t := lfD d) (i := 0) (j := j) (by rw [e6, Nat.zero_add])
 rw [keyEq_eq h1] at h2
 exact ⟨t, kvs, e1, e2, e3, e4, e5, by rw [h2]; exact h⟩
theorem x_disp {ws : List (WE × WE)} (h : wPairs ws m fun ps m' => onPairs (fun kvs => Q (.newT (.dict kvs)) m') (pairsD ps)) : wDisp ws m Q := h
theorem x_pNil {K : List (R × R) → MSt → Prop} (h : K [] m) : wPairs [] m K := h
theorem x_pCons {wk wv : WE} {r : List (WE × WE)} {K : List (R × R) → MSt → Prop} (h : wk m fun rk m1 => wv m1 fun rv m2 => wPairs r m2 fun ps m3 => K ((rk, rv) :: ps) m3) : wPairs ((wk, wv) :: r) m K := h
theorem x_onPairs {P : List (PyData × PyData) → Prop} {o : Option (List (PyData × PyData))} {kvs kvs2 : List (PyData × PyData)} (e : o = some kvs) (e1 : nodupK kvs = true) (e2 : kvs.length ≤ 15) (e3 : lfKV kvs = kvs2) (h : P kvs2) : onPairs P o := by subst e; subst e3; exact ⟨e1, e2, h⟩
theorem x_bindNT {n : Nat} {t : PyData} {P : MSt → Prop} (h : P { vs := m.vs.set n (some (.at m.os.length [])), os := m.os ++ [[t]], np := m.np }) : bindR n P m (.newT t) := .inl h
end
section
variable {X : Cx} {o i e : Expr} {wo wi we : WE} {pos pos' : Pos}
theorem me_dix' (hu : X.A.units + 64 < cLine) (ho : EE X o wo) (hi : EE X i wi) (hs : NoSl i := by intro _ _; rfl) : EE X (.Subscript o i pos) (wDIx wo wi) := ⟨me_dix hu ho.h hi.h hs⟩
theorem ms_dput' (hu : X.A.units + 64 < cLine) (he : EE X e we) (ho : EE X o wo) (hi : EE X i wi) (hs : swapsWith e (some (.Subscript o i pos')) pos.line X.env = pure false := by rfl) : ES X (.Assign [.Subscript o i pos'] e pos) (wDPut we wo wi) := ⟨ms_dput hu he.h ho.h hi.h hs⟩
structure EPs (X : Cx) (pos : Pos) (keys : List (Option Expr)) (values : List Expr) (ws : List (WE × WE)) : Prop where
 h : MPs X pos keys values ws
theorem mps_nil' : EPs X pos [] [] [] := ⟨mps_nil⟩
theorem mps_cons' {k v : Expr} {ks : List (Option Expr)} {vs : List Expr} {wk wv : WE} {ws : List (WE × WE)} (hk : EE X k wk) (hv : EE X v wv) (hr : EPs X pos ks vs ws) : EPs X pos (some k :: ks) (v :: vs) ((wk, wv) :: ws) := ⟨mps_cons hk.h hv.h hr.h⟩
theorem me_disp' {keys : List (Option Expr)} {values : List Expr} {ws : List (WE × WE)} (h : EPs X pos keys values ws) (hall : keys.all (·.isSome) = true := by rfl) (hl : keys.length = values.length := by rfl) (h0 : keys ≠ [] := by exact fun z => by cases z) (h15 : keys.length ≤ 15 := by decide) : EE X (.Dict keys values pos) (wDisp ws) := ⟨me_disp h.h hall hl h0 h15⟩
end
end L2
namespace K
open PySem L2 M7
def tapeK (ns : List Int) (p q : Int) : PyData := .dict [(.str "script", .dict [(.none, .list (ns.map .int))]), (.str "turn", .int p), (.str "left", .int q)]
def TapeK (c : Nat) (t : PyData) : Prop := ∃ (ns : List Int) (p q : Int), t = tapeK ns p q ∧ ns.length ≤ 63 ∧ 0 ≤ p ∧ p ≤ c ∧ 0 ≤ q
theorem TapeK.mono {c c' : Nat} {t : PyData} (h : TapeK c t) (hc : c ≤ c') : TapeK c' t := by
 obtain ⟨ns, p, q, e, h1, h2, h3, h4⟩ := h
 exact ⟨ns, p, q, e, h1, h2, by omega, h4⟩
def spTapeK : SpM := fun as K => ∃ ns : List Int, as = [.imm (.list (ns.map .int))] ∧ ns.length ≤ 63 ∧ ∀ t, TapeK 0 t → K (.newT t) []
def spDrawK : SpM := fun as K => ∃ (t : PyData) (m : Int) (c : Nat), as = [.tr t, .imm (.int m)] ∧ TapeK c t ∧ c < 1000000000 ∧ 0 < m ∧ m < 1099511627776 ∧ ∀ (r : Int) (t' : PyData), 0 ≤ r → r < m → TapeK (c + 1) t' → K (.imm (.int r)) [[t']]
def spLinesK : SpM := fun as K => ∃ rs : List Nat, as = [.imm (.list (rs.map fun (r : Nat) => .int (r : Int)))] ∧ rs.length ≤ 4 ∧ (∀ r ∈ rs, r ≤ 6) ∧ K (.new ((M3.allR rs).map lnD)) []
def spHallK : SpM := fun as K => ∃ (t : PyData) (c : Nat), as = [.tr t, .imm (.int 400)] ∧ TapeK c t ∧ c < 800000000 ∧ ∀ (h : Hall) (t' : PyData), h.Ok → TapeK (c + 20) t' → K (.imm h.d) [[t']]
def SvK (ps : List (Nat × Nat)) : Prop := 1 ≤ ps.length ∧ ps.length ≤ 4 ∧ ∀ p ∈ ps, 1 ≤ p.1 ∧ p.1 ≤ 3 ∧ 1 ≤ p.2 ∧ p.2 ≤ 4
def roomsK (ps : List (Nat × Nat)) : List Nat := ps.map fun p => p.2
def lessK (ps : List (Nat × Nat)) : List (Nat × Nat) := ps.map fun p => (p.1, max 1 (p.2 - 1))
theorem lessK_ok {ps : List (Nat × Nat)} (h : SvK ps) : SvK (lessK ps) := by
 refine ⟨by simpa [lessK] using h.1, by simpa [lessK] using h.2.1, fun p hp => ?_⟩
 obtain ⟨q, hq, rfl⟩ := List.mem_map.mp hp
 have := h.2.2 q hq
 exact ⟨this.1, this.2.1, by show 1 ≤ max 1 (q.2 - 1); omega, by show max 1 (q.2 - 1) ≤ 4; omega⟩
theorem cnt_two : ∀ {rs : List Nat}, (∀ r ∈ rs, r ≤ 1) → M7.cnt rs ≤ 2 ^ rs.length
 | [], _ => Nat.le_refl _
 | r :: rs, h => by
  have h1 := h r List.mem_cons_self
  have h2 := cnt_two (rs := rs) fun x hx => h x (List.mem_cons_of_mem _ hx)
  show (r + 1) * M7.cnt rs ≤ 2 ^ (rs.length + 1)
  rw [Nat.pow_succ, Nat.mul_comm]
  exact Nat.mul_le_mul h2 (by omega)
theorem lessK_sum : ∀ {ps : List (Nat × Nat)}, (∀ p ∈ ps, 1 ≤ p.2) → (roomsK (lessK ps)).sum ≤ (roomsK ps).sum ∧ ((∃ p ∈ ps, 2 ≤ p.2) → (roomsK (lessK ps)).sum < (roomsK ps).sum)
 | [], _ => ⟨Nat.le_refl _, fun ⟨p, hp, _⟩ => by cases hp⟩
 | p :: ps, h => by
  have ih := lessK_sum (ps := ps) fun x hx => h x (List.mem_cons_of_mem _ hx)
  have hp := h p List.mem_cons_self
  have e1 : (roomsK (lessK (p :: ps))).sum = max 1 (p.2 - 1) + (roomsK (lessK ps)).sum := by simp [roomsK, lessK]
  have e2 : (roomsK (p :: ps)).sum = p.2 + (roomsK ps).sum := by simp [roomsK]
  rw [e1, e2]
  refine ⟨by have := ih.1; omega, fun ⟨q, hq, h2⟩ => ?_⟩
  obtain rfl | hq := List.mem_cons.mp hq
  ·have := ih.1; omega
  ·have := ih.2 ⟨q, hq, h2⟩; omega
theorem big_two {ps : List (Nat × Nat)} (h : SvK ps) (hb : 400 < (M3.allR (roomsK ps)).length) : ∃ p ∈ ps, 2 ≤ p.2 := Classical.byContradiction fun hn => by
 have h1 : ∀ r ∈ roomsK ps, r ≤ 1 := fun r hr => by
  obtain ⟨p, hp, rfl⟩ := List.mem_map.mp hr
  exact Nat.le_of_not_lt fun z => hn ⟨p, hp, z⟩
 rw [M7.allR_cnt] at hb
 have h2 := cnt_two h1
 have h3 : (roomsK ps).length ≤ 4 := by simpa [roomsK] using h.2.1
 have h4 : 2 ^ (roomsK ps).length ≤ 2 ^ 4 := Nat.pow_le_pow_right (by decide) h3
 omega
theorem SvK.six {ps : List (Nat × Nat)} (h : SvK ps) : (roomsK ps).length ≤ 4 ∧ ∀ r ∈ roomsK ps, r ≤ 6 := by
 refine ⟨by simpa [roomsK] using h.2.1, fun r hr => ?_⟩
 obtain ⟨p, hp, rfl⟩ := List.mem_map.mp hr
 have := (h.2.2 p hp).2.2.2
 omega
theorem SvK.rep {ps : List (Nat × Nat)} (h : SvK ps) {p : Nat × Nat} (hp : p ∈ ps) {n : Nat} (h1 : 1 ≤ n) (h4 : n ≤ 4) : SvK (List.replicate n p) :=
 ⟨by rw [List.length_replicate]; exact h1, by rw [List.length_replicate]; exact h4, fun q hq => by rw [List.eq_of_mem_replicate hq]; exact h.2.2 p hp⟩
theorem rep_flatK {α : Type} (n : Nat) (x : α) : (List.replicate n [x]).flatten = List.replicate n x := by
 induction n with
 | zero => rfl
 | succ n ih => rw [List.replicate_succ, List.flatten_cons, ih, List.replicate_succ]; rfl
def roomD (p : Nat × Nat) : PyData := .int (p.2 : Int)
def topD (p : Nat × Nat) : PyData := .int (p.1 : Int)
def lessD (p : Nat × Nat) : PyData := prD (p.1, max 1 (p.2 - 1))
theorem roomD_all (ps : List (Nat × Nat)) : ps.map roomD = (roomsK ps).map fun (r : Nat) => .int (r : Int) := by rw [roomsK, List.map_map]; rfl
theorem lessD_all (ps : List (Nat × Nat)) : ps.map lessD = (lessK ps).map prD := by rw [lessK, List.map_map]; rfl
def srvK (wh : Nat) (p : Nat × Nat) : Srv := ⟨p.1 / p.1.gcd wh, wh / p.1.gcd wh, p.2⟩
theorem frac_in {p wh : Nat} (h1 : 1 ≤ p) (h2 : p < 1000000) (h3 : 1 ≤ wh) (h4 : wh < 1000000) : 1 ≤ p / p.gcd wh ∧ p / p.gcd wh < 1000000 ∧ 1 ≤ wh / p.gcd wh ∧ wh / p.gcd wh < 1000000 := by
 have g1 : 0 < p.gcd wh := Nat.gcd_pos_of_pos_right _ h3
 have g2 : p.gcd wh ≤ wh := Nat.gcd_le_right _ h3
 have g3 : p.gcd wh ≤ p := Nat.gcd_le_left _ h1
 have d1 := Nat.div_le_self p (p.gcd wh)
 have d2 := Nat.div_le_self wh (p.gcd wh)
 exact ⟨Nat.div_pos g3 g1, by omega, Nat.div_pos g2 g1, by omega⟩
def topsK (ps : List (Nat × Nat)) : List Nat := ps.map fun p => p.1
theorem topD_all (ps : List (Nat × Nat)) : ps.map topD = natD (topsK ps) := by rw [topsK, natD, List.map_map]; rfl
theorem tops_sum : ∀ {ps : List (Nat × Nat)}, (∀ p ∈ ps, p.1 ≤ 3) → (topsK ps).sum ≤ 3 * ps.length
 | [], _ => Nat.le_refl _
 | p :: ps, h => by
  have ih := tops_sum (ps := ps) fun x hx => h x (List.mem_cons_of_mem _ hx)
  have := h p List.mem_cons_self
  simp only [topsK, List.map_cons, List.sum_cons, List.length_cons] at ih ⊢
  omega
theorem sumK : ∀ l : List Nat, (l.map fun (x : Nat) => (x : Int)).sum = ((l.sum : Nat) : Int)
 | [] => rfl
 | x :: l => by rw [List.map_cons, List.sum_cons, List.sum_cons, sumK l, Int.natCast_add]
theorem natD_iK (l : List Nat) : intsOf (natD l) = some (l.map fun (k : Nat) => (k : Int)) := by unfold natD; rw [show (l.map fun (k : Nat) => PyData.int (k : Int)) = (l.map fun (k : Nat) => (k : Int)).map .int by rw [List.map_map]; rfl, intsOf_ints]
end K
namespace HT
open PySem PySem.Spec PyProof.Rows
end HT
namespace L2
open PySem PySem.Spec PyProof.Rows
structure Stp (S : List Addr) (e : Addr) (To : Option Addr) (h h' : Heap) : Prop where
 same : ∀ b o, h.get? b = some o → b ≠ e → some b ≠ To → b ∉ S → h'.get? b = some o
 slot : ∀ b o, h.get? b = some o → b ≠ e → some b ≠ To → ∃ sl, h'.get? b = some { o with slots := sl }
 there : ∀ b o, h.get? b = some o → ∃ o', h'.get? b = some o'
structure XF (F : Addr → Prop) (H : Hp) (h : Heap) (e : Addr) (C : Value) (dct : Option Addr) : Prop where
 new : F e
 un : H e = none
 obj : ∃ oe vs, h.get? e = some oe ∧ oe.cls = C ∧ oe.dict = dct ∧ oe.data = .fields vs ∧
  (vs[1]? = some .none ∨ ∃ T oT ts, vs[1]? = some (.ref T) ∧ F T ∧ T ≠ e ∧ H T = none ∧ h.get? T = some oT ∧ oT.data = .fields ts ∧ ts[3]? = some .none)
theorem dict_mapF (o : Obj) (f) : (o.mapFields f).dict = o.dict := by
 obtain ⟨c, d, dt, sl⟩ := o
 cases dt <;> rfl
section
variable {M : Model} {A : Around} {E : Value → Shared → Prop} {s : Shared} {base : Heap} {env : Env} {outer : List Env} {L e : Addr}
theorem entry_eff {oe : Obj} {vs : Array Value} {head : Value} {hadNext : Bool} {Q : Unit → Shared → Prop} (hfr : A.frames = some (env :: outer)) (hl : s.heap.FunFrames base (env :: outer)) (hf : env.frame = some L)
  (he : s.heap.get? e = some oe) (hd : oe.data = .fields vs) (hsz : 1 < vs.size)
  (h : ∀ (h' : Heap) (T : Addr) (oT : Obj) (ts : Array Value), Stp (frs (env :: outer)) e none s.heap h' → h'.get? e = some (oe.mapFields (·.setIfInBounds 1 (.ref T))) → s.heap.objs.size ≤ T → h'.get? T = some oT → oT.data = .fields ts → ts[3]? = some .none → T ≠ e → Q () { s with heap := h' }) :
  wpAny M A (do let fr ← frameOf env; let pl ← entryPlaceOf L hadNext; let ne ← EntryCells.newEntry head fr .none (rawInt L) .none pl; setField (.ref e) 1 ne) (fun _ s' => wpAny M A (setFlight (.ref e) none) Q E s') E s := by
 have eS : e ∉ frs (env :: outer) := fun hm => by
  rcases hl.mem hm with ⟨_, o, ho, hnf⟩
  rw [he] at ho
  cases ho
  exact hnf vs hd
 refine wpAny_bind (wpAny_frameOf_fun hfr hl hf fun h1 s1 => wpAny_bind (wpAny_entryPlaceOf fun pl hpl => ?_))
 refine wpAny_bind (m := EntryCells.newEntry _ _ _ _ _ _) (wpAny_newObj_type ?_ (hpl.sizeOk5 _ _ _ _ _))
 have z1 : h1.get? e = some oe := (s1.2.1 e eS).trans he
 generalize hnew : ({ cls := .type "traceback", dict := none, data := .fields ([head, .ref L, .none, rawInt L, .none] ++ (if pl.isEmpty then List.replicate 6 Value.none else pl)).toArray } : Obj) = nw
 have dnw : nw.data = .fields ([head, .ref L, .none, rawInt L, .none] ++ (if pl.isEmpty then List.replicate 6 Value.none else pl)).toArray := by rw [← hnew]
 have z2 : (h1.push nw).get? e = some oe := Heap.get?_push_of_some _ z1
 refine wpAny_setField z2 hd hsz ?_
 have ne : h1.objs.size ≠ e := Nat.ne_of_gt (Heap.lt_size z1)
 have d3 := Obj.data_mapFields hd (·.setIfInBounds 1 (Value.ref h1.objs.size))
 have z3 := Heap.get?_update_self (Obj.mapFields (·.setIfInBounds 1 (Value.ref h1.objs.size))) z2 (Obj.isFreed_of_fields d3)
 have t3 : ((h1.push nw).update e (Obj.mapFields (·.setIfInBounds 1 (Value.ref h1.objs.size)))).get? h1.objs.size = some nw := by
  rw [Heap.get?_update_other _ _ (Ne.symm ne)]
  exact Heap.get?_push_size h1 (by rw [← hnew]; rfl)
 unfold setFlight
 refine wpAny_bind (wpAny_field z3 d3 (x := .ref h1.objs.size) (by simp [hsz]) ?_)
 rw [if_pos (show (Value.ref h1.objs.size != Value.none) = true by simp)]
 have sz3 : 3 < ([head, .ref L, .none, rawInt L, .none] ++ (if pl.isEmpty then List.replicate 6 Value.none else pl)).toArray.size := by
  rw [List.size_toArray, List.length_append]
  simp only [List.length_cons] <;> omega
 refine wpAny_setField t3 dnw sz3 (h _ h1.objs.size _ _ ?_ ?_ ?_ (Heap.get?_update_self _ t3 (Obj.isFreed_of_fields (Obj.data_mapFields dnw _))) (Obj.data_mapFields dnw _) (by simp [sz3]) ne)
 ·have go : ∀ b o, b ≠ e → h1.get? b = some o → (((h1.push nw).update e (Obj.mapFields (·.setIfInBounds 1 (Value.ref h1.objs.size)))).update h1.objs.size (Obj.mapFields (·.setIfInBounds 3 ((none : Option Addr).elim Value.none fun f => rawInt f)))).get? b = some o := fun b o ne' hb => by
   rw [Heap.get?_update_other _ _ (Nat.ne_of_gt (Heap.lt_size hb)), Heap.get?_update_other _ _ (Ne.symm ne')]
   exact Heap.get?_push_of_some nw hb
  refine ⟨fun b o hb ne' _ nS => go b o ne' ((s1.2.1 b nS).trans hb), fun b o hb ne' _ => ?_, fun b o hb => ?_⟩
  ·obtain ⟨sl, hs⟩ := s1.2.2 b o hb
   exact ⟨sl, go b _ ne' hs⟩
  ·by_cases ne' : b = e
   ·subst ne'
    exact ⟨_, by rw [Heap.get?_update_other _ _ ne]; exact z3⟩
   ·obtain ⟨sl, hs⟩ := s1.2.2 b o hb
    exact ⟨_, go b _ ne' hs⟩
 ·rw [Heap.get?_update_other _ _ ne]; exact z3
 ·rw [s1.1]; exact Nat.le_refl _
theorem note_eff {F : Addr → Prop} {H : Hp} {C : Value} {dct : Option Addr} {Q : Unit → Shared → Prop} (hfr : A.frames = some (env :: outer)) (hl : s.heap.FunFrames base (env :: outer)) (hf : env.frame = some L)
  (x : XF F H s.heap e C dct) (hok : ∀ T, s.heap.objs.size ≤ T → H T = none ∧ F T)
  (h : ∀ h' To, (∀ T, To = some T → F T ∧ H T = none) → Stp (frs (env :: outer)) e To s.heap h' → XF F H h' e C dct → Q () { s with heap := h' }) :
  wpAny M A (noteFrame (.ref e) env) (fun _ s' => wpAny M A (setFlight (.ref e) none) Q E s') E s := by
 obtain ⟨new, un, oe, vs, he, hc, hdc, hd, hT⟩ := x
 have eS : e ∉ frs (env :: outer) := fun hm => by
  rcases hl.mem hm with ⟨_, o, ho, hnf⟩
  rw [he] at ho
  cases ho
  exact hnf vs hd
 have fin : ∀ {oe' : Obj} {vs' : Array Value} {h' : Heap} {T : Addr} {oT : Obj} {ts : Array Value}, oe'.cls = C → oe'.dict = dct → oe'.data = .fields vs' → 1 < vs'.size → h'.get? e = some (oe'.mapFields (·.setIfInBounds 1 (.ref T))) → s.heap.objs.size ≤ T → h'.get? T = some oT → oT.data = .fields ts → ts[3]? = some .none → T ≠ e → XF F H h' e C dct :=
  fun {oe' vs' h' T oT ts} c1 c2 c3 c4 a1 a2 a3 a4 a5 a6 => ⟨new, un, _, _, a1, by rw [Obj.cls_mapFields]; exact c1, by rw [dict_mapF]; exact c2, Obj.data_mapFields c3 _, .inr ⟨T, oT, ts, by simp [c4], (hok T a2).2, a6, (hok T a2).1, a3, a4, a5⟩⟩
 unfold noteFrame
 simp only [hf]
 rcases hT with h1 | ⟨T, oT, ts, h1, nT, Te, hTu, gT, dT, t3⟩
 ·refine wpAny_bind (wpAny_field he hd h1 ?_)
  rw [if_neg (by decide)]
  refine entry_eff hfr hl hf he hd (Array.getElem?_eq_some_iff.mp h1).1 fun h' T oT ts st a1 a2 a3 a4 a5 a6 => ?_
  exact h h' none (fun _ z => by cases z) st (fin hc hdc hd (Array.getElem?_eq_some_iff.mp h1).1 a1 a2 a3 a4 a5 a6)
 ·refine wpAny_bind (wpAny_field he hd h1 ?_)
  rw [if_pos (show (Value.ref T != Value.none) = true by simp)]
  refine wpAny_bind (wpAny_field gT dT t3 ?_)
  rw [if_neg (show ¬ ((Value.none == rawInt L) = true) by simp [rawInt])]
  refine wpAny_bind (wpAny_setField gT dT (Array.getElem?_eq_some_iff.mp t3).1 ?_)
  have oth : ∀ b, b ≠ T → (s.heap.update T (Obj.mapFields (·.setIfInBounds 3 Value.none))).get? b = s.heap.get? b := fun b hb => Heap.get?_update_other _ _ (Ne.symm hb)
  have TS : T ∉ frs (env :: outer) := fun hm => by
   rcases hl.mem hm with ⟨_, o, ho, hnf⟩
   rw [gT] at ho
   cases ho
   exact hnf ts dT
  have hl' : (s.heap.update T (Obj.mapFields (·.setIfInBounds 3 Value.none))).FunFrames base (env :: outer) := hl.of_keeps fun b o hb hnf => ⟨o, (oth b fun z => by subst z; rw [gT] at hb; cases hb; exact hnf ts dT).trans hb, rfl⟩
  refine entry_eff (s := { s with heap := s.heap.update T (Obj.mapFields (·.setIfInBounds 3 Value.none)) }) hfr hl' hf ((oth e (Ne.symm Te)).trans he) hd (Array.getElem?_eq_some_iff.mp h1).1 fun h' T' oT' ts' st a1 a2 a3 a4 a5 a6 => ?_
  have a2' : s.heap.objs.size ≤ T' := Nat.le_trans (Nat.le_of_eq (Heap.size_update ..).symm) a2
  refine h h' (some T) (fun T0 z => by cases z; exact ⟨nT, hTu⟩) ⟨fun b o hb ne nT' nS => ?_, fun b o hb ne nT' => ?_, fun b o hb => ?_⟩ (fin hc hdc hd (Array.getElem?_eq_some_iff.mp h1).1 a1 a2' a3 a4 a5 a6)
  ·exact st.same b o ((oth b fun z => nT' (by rw [z])).trans hb) ne (fun z => by cases z) nS
  ·exact st.slot b o ((oth b fun z => nT' (by rw [z])).trans hb) ne (fun z => by cases z)
  ·by_cases bT : b = T
   ·subst bT
    exact st.there b _ (Heap.get?_update_self _ gT (Obj.isFreed_of_fields (Obj.data_mapFields dT _)))
   ·exact st.there b o ((oth b bT).trans hb)
end
theorem Inv.stepN {X : Cx} {pins : List (Addr × Obj)} {σ : St} {H H' : Hp} {s : Shared} {h' : Heap} {g' : Array GenState} {t' : Nat} {d' : Drawn} {ch : List Addr} (I : Inv X pins σ H s)
  (hch : ∀ b ∈ ch, (b ∈ X.ex ∨ X.s₀.heap.get? b = none) ∧ b ≠ X.env.locals ∧ (∀ x c, X.env.cells.lookup x = some c → c ≠ b) ∧ ∀ p ∈ X.pn ++ pins, p.1 ≠ b)
  (keep : ∀ b o, b ≠ X.env.locals → b ∉ X.fs → b ∉ ch → s.heap.get? b = some o → H b = none → h'.get? b = some o)
  (slot : ∀ b o, b ≠ X.env.locals → b ∈ X.fs → b ∉ ch → s.heap.get? b = some o → H b = none → ∃ sl, h'.get? b = some { o with slots := sl }) (free : ∀ b o, b ∉ ch → s.heap.get? b = some o → H b = none → H' b = none)
  (there : ∀ b o, b ∉ ch → s.heap.get? b = some o → ∃ o', h'.get? b = some o')
  (tups : ∀ b xs, H b = some (.tup xs) → H' b = some (.tup xs)) (frzs : ∀ b o u, H b = some (.frz o u) → H' b = some (.frz o u)) (tbls : ∀ b ps, H b = some (.tbl ps) → ∃ more, H' b = some (.tbl (ps ++ more)))
  (ns : ∀ m, s.heap.Ns X.env.locals m → h'.Ns X.env.locals m) (hok : HOk X.prog X.w H' h') (hg : AllBare g') :
  Inv X pins σ H' { s with heap := h', gens := g', drawn := d', toks := t' } := by
 have neL : ∀ b o, X.s₀.heap.get? b = some o → b ≠ X.env.locals := fun b o e => Nat.ne_of_lt (Nat.lt_of_lt_of_le (Heap.lt_size e) I.ok.above)
 have neC : ∀ b o, X.s₀.heap.get? b = some o → b ∉ X.ex → b ∉ ch := fun b o e hx hb => by
  rcases (hch b hb).1 with z | z
  ·exact hx z
  ·rw [z] at e; cases e
 have cellK : ∀ x c, X.env.cells.lookup x = some c → ∀ v, s.heap.IsCell c v → h'.IsCell c v := fun x c e v ⟨o, ho, hd⟩ => by
  have nch : c ∉ ch := fun z => (hch c z).2.2.1 x c e rfl
  by_cases hc : c ∈ X.fs
  ·obtain ⟨sl, q⟩ := slot c o (I.cne x c e) hc nch ho (I.freeC x c e)
   exact ⟨_, q, hd⟩
  ·exact ⟨o, keep c o (I.cne x c e) hc nch ho (I.freeC x c e), hd⟩
 refine ⟨I.ok, I.os, hg, ⟨fun b o e n hb hx => ?_, fun b o e n hb hx => ?_, fun b o e n hx => ?_, fun b o e hx => ?_, fun b xs e => tups b xs (I.base.tups b xs e), fun b o xs e => frzs b o xs (I.base.frzs b o xs e), fun b ps e => ?_⟩, ?_, fun x c e => ?_, ?_, fun x c e => ?_, fun p hp => ?_, hok, I.len⟩
 ·exact keep b o (neL b o e) hb (neC b o e hx) (I.base.keep b o e n hb hx) (I.base.free b o e n hx)
 ·obtain ⟨sl, e1⟩ := I.base.slot b o e n hb hx
  obtain ⟨sl', e2⟩ := slot b _ (neL b o e) hb (neC b o e hx) e1 (I.base.free b o e n hx)
  exact ⟨sl', e2⟩
 ·obtain ⟨o', e1⟩ := I.base.there b o e hx
  exact free b o' (neC b o e hx) e1 (I.base.free b o e n hx)
 ·obtain ⟨o', e1⟩ := I.base.there b o e hx
  exact there b o' (neC b o e hx) e1
 ·obtain ⟨m1, e1⟩ := I.base.tbls b ps e
  obtain ⟨m2, e2⟩ := tbls b _ e1
  exact ⟨m1 ++ m2, by rw [e2, Array.append_assoc]⟩
 ·obtain ⟨m, hn, hl⟩ := I.loc
  refine ⟨m, ns m hn, fun i x v e1 e2 e3 => ?_⟩
  obtain ⟨u, r, l⟩ := hl i x v e1 e2 e3
  refine ⟨u, r, ?_⟩
  rcases l with l | ⟨k, c, e, z⟩
  ·exact .inl l
  ·exact .inr ⟨k, c, e, cellK x c e _ z⟩
 ·obtain ⟨v, z⟩ := I.cell x c e
  exact ⟨v, cellK x c e v z⟩
 ·obtain ⟨m, ⟨o, _, _, ho, _⟩, _⟩ := I.loc
  exact free _ o (fun z => (hch _ z).2.1 rfl) ho I.free
 ·obtain ⟨v, o, ho, hd⟩ := I.cell x c e
  exact free c o (fun z => (hch c z).2.2.1 x c e rfl) ho (I.freeC x c e)
 ·obtain ⟨e, n, ne, nf, d⟩ := I.pin p hp
  have nch : p.1 ∉ ch := fun z => (hch p.1 z).2.2.2 p hp rfl
  exact ⟨keep p.1 p.2 ne nf nch e n, free p.1 p.2 nch e n, ne, nf, d⟩
def Yg (X : Cx) (pins : List (Addr × Obj)) (b : Addr) : Prop := X.s₀.heap.get? b = none ∧ b ≠ X.env.locals ∧ (∀ x c, X.env.cells.lookup x = some c → c ≠ b) ∧ ∀ p ∈ X.pn ++ pins, p.1 ≠ b
theorem Inv.yg {X : Cx} {pins : List (Addr × Obj)} {σ : St} {H : Hp} {s : Shared} {b : Addr} (I : Inv X pins σ H s) (hx : X.ex = []) (hb : s.heap.get? b = none) : Yg X pins b := by
 refine ⟨?_, fun z => ?_, fun x c e z => ?_, fun p hp z => ?_⟩
 ·cases q : X.s₀.heap.get? b with
  | none => rfl
  | some o =>
   obtain ⟨o', e⟩ := I.base.there b o q (by rw [hx]; simp)
   rw [hb] at e; cases e
 ·subst z
  obtain ⟨m, ⟨o, es, ep, ho, _⟩, _⟩ := I.loc
  rw [hb] at ho; cases ho
 ·subst z
  obtain ⟨v, o, ho, _⟩ := I.cell x c e
  rw [hb] at ho; cases ho
 ·subst z
  have := (I.pin p hp).1
  rw [hb] at this; cases this
theorem Inv.noted {X : Cx} {pins : List (Addr × Obj)} {σ : St} {H : Hp} {s : Shared} {h' : Heap} {e : Addr} {To : Option Addr} (I : Inv X pins σ H s) (hS : X.stack = X.env :: X.outer) (he : Yg X pins e) (hu : H e = none) (hT : ∀ T, To = some T → Yg X pins T ∧ H T = none)
  (st : Stp (frs (X.env :: X.outer)) e To s.heap h') : Inv X pins σ H { s with heap := h' } := by
 have ch : ∀ b, b ∉ e :: To.toList → b ≠ e ∧ some b ≠ To := fun b hb => ⟨fun z => hb (by rw [z]; exact List.mem_cons_self), fun z => hb (by rw [← z]; simp)⟩
 have un : Un (frs X.stack) (e :: To.toList) H H s.heap h' := ⟨fun b o q n nf nc => st.same b o q (ch b nc).1 (ch b nc).2 (by rw [← hS]; exact nf), fun b o q n nf nc => st.slot b o q (ch b nc).1 (ch b nc).2, fun b o q n nc => n, fun b o q nc => st.there b o q, fun _ _ q => q, fun _ _ _ q => q, fun b ps q => ⟨#[], by rw [q]; simp⟩⟩
 have hch : ∀ b ∈ e :: To.toList, (b ∈ X.ex ∨ X.s₀.heap.get? b = none) ∧ b ≠ X.env.locals ∧ (∀ x c, X.env.cells.lookup x = some c → c ≠ b) ∧ ∀ p ∈ X.pn ++ pins, p.1 ≠ b := fun b hb => by
  rcases List.mem_cons.mp hb with z | z
  ·subst z
   exact ⟨.inr he.1, he.2.1, he.2.2.1, he.2.2.2⟩
  ·have := (hT b (by simpa using z)).1
   exact ⟨.inr this.1, this.2.1, this.2.2.1, this.2.2.2⟩
 have hok : HOk X.prog X.w H h' := fun b u q => by
  have out : ∀ c v, H c = some v → c ≠ e ∧ some c ≠ To ∧ c ∉ frs (X.env :: X.outer) := fun c v z => by
   refine ⟨fun y => (by rw [y, hu] at z; cases z), fun y => ?_, fun y => ?_⟩
   ·rw [(hT c y.symm).2] at z; cases z
   ·rw [← hS] at y; rw [I.stkFree c y] at z; cases z
  refine (I.hok b u q).stay (fun c v hc y => ?_) (fun _ y => y) fun _ _ y => y
  rcases hc with z | z
  ·subst z
   obtain ⟨o1, o2, o3⟩ := out c u q
   exact st.same c v y o1 o2 o3
  ·obtain ⟨o1, o2, o3⟩ := out c _ z
   exact st.same c v y o1 o2 o3
 obtain ⟨m, ⟨o, es, ep, ho, r⟩, _⟩ := id I.loc
 obtain ⟨sl, hL⟩ := un.any ho I.free fun z => (hch _ z).2.1 rfl
 exact I.stepN (g' := s.gens) (d' := s.drawn) (t' := s.toks) (ch := e :: To.toList) hch (fun b o hL hb hc q n => un.keep b o q n (fun z => (List.mem_cons.mp (I.stkSub b z)).elim hL hb) hc) (fun b o _ _ hc q n => un.any q n hc) (fun b o hc q n => un.free b o q n hc) (fun b o hc q => un.there b o q hc) un.tups un.frzs un.tbls (fun m' hm => by
  obtain ⟨o', es', ep', ho', r'⟩ := hm
  rw [ho] at ho'; cases ho'
  exact ⟨_, es', ep', hL, r'⟩) hok I.bare
def CXE (P : Program) (w : World) : CXT := fun outer H s E e s' => ∃ ea C dct H', e = .ref ea ∧ s'.os = s.os ∧ AllBare s'.gens ∧ Un (frs outer) [] H H' s.heap s'.heap ∧ HOk P w H' s'.heap ∧ XF (fun b => s.heap.get? b = none) H' s'.heap ea C dct ∧ E C dct H'
theorem XF.imp {F F' : Addr → Prop} {H : Hp} {h : Heap} {e : Addr} {C : Value} {dct : Option Addr} (x : XF F H h e C dct) (k : ∀ b, F b → F' b) : XF F' H h e C dct := by
 obtain ⟨n, u, oe, vs, he, hc, hd, hf, t⟩ := x
 refine ⟨k _ n, u, oe, vs, he, hc, hd, hf, ?_⟩
 rcases t with t | ⟨T, oT, ts, a, b, c⟩
 ·exact .inl t
 ·exact .inr ⟨T, oT, ts, a, k _ b, c⟩
section
variable {P : Program} {w : World} {K : PySem.W.Frag} {mg : Str → Option Value} {base : Heap} {N : List Str} {qual : Str} {scope : Scope} {f : Addr} {cd : Value} {A : Around} {outer : List Env} {s0 : Shared} {H0 : Hp} {E : XK}
theorem xe_leave {pins : List (Addr × Obj)} {σ : St} {H : Hp} {s : Shared} {e : Addr} {C : Value} {dct : Option Addr} (I : Inv (cxOf (CXE P w) P w K mg base N qual scope f cd A outer s0 H0 E) pins σ H s) (x : XF (Yg (cxOf (CXE P w) P w K mg base N qual scope f cd A outer s0 H0 E) pins) H s.heap e C dct) (hE : E C dct H) :
  (cxOf (CXE P w) P w K mg base N qual scope f cd A outer s0 H0 E).xe (.ref e) s := by
 show wpAny (model P w) _ (leaving _ (.ref e)) _ _ s
 unfold leaving
 refine wpAny_bind (note_eff (base := base) (L := s0.heap.objs.size) I.ok.frames I.stack rfl x (fun T hT => ⟨I.hok.fresh hT, I.yg rfl (Heap.get?_none_of_le hT)⟩) fun h' To hTo st x' => ?_)
 have I' := I.noted rfl x.new x.un hTo st
 exact ⟨e, C, dct, H, rfl, I'.os, I'.bare, I'.base, I'.hok, x'.imp fun b z => z.1, hE⟩
end
theorem Inv.raised {X : Cx} {pins : List (Addr × Obj)} {σ : St} {H : Hp} {s s' : Shared} {E : XK} {e : Value} (I : Inv X pins σ H s) (hx : X.ex = []) (h : CXE X.prog X.w X.stack H s E e s') : ∃ ea C dct H', e = .ref ea ∧ Inv X pins σ H' s' ∧ XF (Yg X pins) H' s'.heap ea C dct ∧ E C dct H' ∧ Un (frs X.stack) [] H H' s.heap s'.heap := by
 obtain ⟨ea, C, dct, H', rfl, ho, hg, un, hok, x, hE⟩ := h
 exact ⟨ea, C, dct, H', rfl, I.call' (ch := []) ho un hok hg (fun b z => by cases z), x.imp fun b hb => I.yg hx hb, hE, un⟩
def ExcD (K : Kd) (H H' : Hp) (C : Value) (dct : Option Addr) (d : PyData) : Prop := ∃ c Ca kvs, d = .dict ((.none, .str c) :: kvs) ∧ C = .ref Ca ∧ ClsN K c Ca ∧ ((dct = none ∧ kvs = []) ∨ ∃ dx xs, dct = some dx ∧ H' dx = some (.xd xs) ∧ H dx = none ∧ DenXF K H' kvs xs)
theorem ExcD.back {K : Kd} {n : Nat} {be α : Al} {H0 H H' : Hp} {C : Value} {dct : Option Addr} {d : PyData} (h : ExcD K H H' C dct d) (x : Ext n be H0 α H) : ExcD K H0 H' C dct d := by
 obtain ⟨c, Ca, kvs, e1, e2, e3, z⟩ := h
 refine ⟨c, Ca, kvs, e1, e2, e3, ?_⟩
 rcases z with z | ⟨dx, xs, z1, z2, z3, z4⟩
 ·exact .inl z
 ·refine .inr ⟨dx, xs, z1, z2, ?_, z4⟩
  cases q : H0 dx with
  | none => rfl
  | some o =>
   by_cases hb : dx ∈ ads be
   ·obtain ⟨o', e⟩ := x.old dx hb
    rw [z3] at e; cases e
   ·have := x.frm dx o q hb
    rw [z3] at this; cases this
structure XL (X : Cx) (Ex : PyData → MSt → Prop) : Prop where
 go : ∀ (pins : List (Addr × Obj)) (σ : St) (H H' : Hp) (α : Al) (m : MSt) (d : PyData) (s' : Shared) (e : Addr) (C : Value) (dct : Option Addr), Rel X.kx α m σ H → Ex d m → Pers H H' → Ext 0 α H [] H' → Inv X pins σ H' s' → XF (Yg X pins) H' s'.heap e C dct → ExcD X.kd H H' C dct d → X.xe (.ref e) s'
 ex : X.ex = []
theorem RelAs.mem {K : Kd} {H : Hp} : ∀ {as : List Ag} {vs : List V} {β : Al}, RelAs K H as vs β → ∀ {a : Addr}, a ∈ ads β → ∃ o, H a = some o
 | _, _, _, .nil, _, h => by cases h
 | _, _, _, .imm _ t, _, h => t.mem h
 | _, _, _, .own g t, a, h => by
  rcases List.mem_append.mp (show a ∈ Ao.ads _ ++ ads _ from h) with z | z
  ·obtain ⟨o, e, _⟩ := g.mem z; exact ⟨o, e⟩
  ·exact t.mem z
 | _, _, _, .tr g _ t, a, h => by
  rcases List.mem_append.mp (show a ∈ Ao.ads _ ++ ads _ from h) with z | z
  ·obtain ⟨o, e, _⟩ := g.mem z; exact ⟨o, e⟩
  ·exact t.mem z
abbrev SpX := List Ag → (R → List (List PyData) → Prop) → (PyData → Prop) → Prop
def spOfX (K : Kd) (n : Nat) (sp : SpX) : Sp := fun vs H Q E => ∃ as β Kc Ke, as.length = n ∧ (ads β).Nodup ∧ RelAs K H as vs β ∧ sp as Kc Ke ∧ (∀ r outs v H', Kc r outs → OutsAt K H' β outs → RelR K β H H' r v → Frm β H H' → Q v H') ∧ ∀ d C dct H', Ke d → ExcD K H H' C dct d → Ext 0 β H [] H' → E C dct H'
theorem spOfX.len {K : Kd} {n : Nat} {sp : SpX} {vs : List V} {H : Hp} {Q : VK} {E : XK} (h : spOfX K n sp vs H Q E) : vs.length = n := by
 obtain ⟨as, β, Kc, Ke, hl, _, r, _⟩ := h
 rw [← r.length]; exact hl
structure FnX (P : Program) (w : World) (K : PySem.W.Frag) (mg : Str → Option Value) (base : Heap) (x : Str) (k n : Nat) (sp : SpX) : Prop where
 ex : ∃ (f : Addr) (fd : FuncData) (ps : List Str), FnOk P w K mg base (CXE P w) k f fd ps (spOfX ⟨K, w⟩ n sp) ∧ mg x = some (.ref f) ∧ PySem.W.keepIn K (.ref f) = true ∧ Binds K fd ps []
 ar : ∀ as Kc Ke, sp as Kc Ke → as.length = n
abbrev Cx.wEb (X : Cx) (b : EB) : Cx := { X with eb := b }
section
variable {X : Cx} {pins : List (Addr × Obj)} {σ : St} {H : Hp} {s : Shared} {b : EB}
theorem Cx.Ok.wEb (ok : X.Ok) (b : EB) : (X.wEb b).Ok := ⟨ok.mod, ok.kind, ok.glob, ok.blt, ok.above, ok.inj, ok.has, ok.cab, ok.hd, ok.frames, ok.stk, ok.exf, ok.bs, ok.bsz, ok.noex, ok.exfs, ok.funs, ok.frf⟩
theorem Cx.Ok.unEb (ok : (X.wEb b).Ok) : X.Ok := ⟨ok.mod, ok.kind, ok.glob, ok.blt, ok.above, ok.inj, ok.has, ok.cab, ok.hd, ok.frames, ok.stk, ok.exf, ok.bs, ok.bsz, ok.noex, ok.exfs, ok.funs, ok.frf⟩
theorem Inv.wEb (I : Inv X pins σ H s) (b : EB) : Inv (X.wEb b) pins σ H s := ⟨I.ok.wEb b, I.os, I.bare, I.base, I.loc, I.cell, I.free, I.freeC, I.pin, I.hok, I.len⟩
theorem Inv.unEb (I : Inv (X.wEb b) pins σ H s) : Inv X pins σ H s := ⟨I.ok.unEb, I.os, I.bare, I.base, I.loc, I.cell, I.free, I.freeC, I.pin, I.hok, I.len⟩
theorem SP.unEb {D : Ends} {f : Flow} {s' : Shared} (h : SP (X.wEb b) pins D f s') : SP X pins D f s' := by
 cases f with
 | next => obtain ⟨σ', H', I, q⟩ := h; exact ⟨σ', H', I.unEb, q⟩
 | brk => obtain ⟨σ', H', I, q⟩ := h; exact ⟨σ', H', I.unEb, q⟩
 | cont => obtain ⟨σ', H', I, q⟩ := h; exact ⟨σ', H', I.unEb, q⟩
 | ret u => obtain ⟨v, σ', H', I, r, q⟩ := h; exact ⟨v, σ', H', I.unEb, r, q⟩
theorem PSs.unEb {st : List Stmt} {t : TS} (h : PSs (X.wEb b) st t) : PSs X st t := fun pins s σ H D I hw => wpAny_mono (h pins s σ H D (I.wEb b) hw) (fun _ _ q => q.unEb) fun _ _ z => z
end
theorem xl_def {P : Program} {w : World} {K : PySem.W.Frag} {mg : Str → Option Value} {base : Heap} {N : List Str} {qual : Str} {scope : Scope} {f : Addr} {cd : Value} {A : Around} {outer : List Env} {s : Shared} {H : Hp} {E : XK} {np : Nat} {β : Al} {Ke : PyData → Prop} (h : ∀ d C dct H', Ke d → ExcD ⟨K, w⟩ H H' C dct d → Ext 0 β H [] H' → E C dct H') :
  XL ((cxOf (CXE P w) P w K mg base N qual scope f cd A outer s H E).wEb ⟨np, β, H⟩) fun d _ => Ke d :=
 ⟨fun pins σ H1 H' α m d s' e C dct Rl k _ xt I x xd => xe_leave I.unEb x (h d C dct H' k (xd.back Rl.ebx) ((Rl.ebx.less (Nat.zero_le _)).trans xt)), rfl⟩
theorem fn_mX {K : Kx} {H : Hp} {n nN : Nat} {N : List Str} {w : WS} {as : List Ag} {vs : List V} {β : Al} {Kc : R → List (List PyData) → Prop} {Q : VK} (he : K.eb = ⟨(agO as).length, β, H⟩) (hl : as.length = n) (nd : (ads β).Nodup) (ra : RelAs K H as vs β) (fin : ∀ r outs v H', Kc r outs → OutsAt K H' β outs → RelR K β H H' r v → Frm β H H' → Q v H') (hN : N.length = nN) (hle : n ≤ nN)
  (hw : w { nx := fun m => Kc (.imm .none) (m.os.take m.np), rt := fun r m => retK Kc m r } (mstart nN as)) : tMS K w { nx := fun _ H' => Q .non H', rt := Q } (start N vs) H := by
 have R0 : Rel K β (mstart nN as) (start N vs) H := entry_rel hN hle hl nd ra (by rw [he]; exact Nat.le_refl _) (by rw [he]; exact ⟨rfl, Frm.refl _ _, fun _ h => .inl h, fun a ha => RelAs.mem ra ha⟩)
 refine ⟨β, mstart nN as, _, R0, hw, ⟨fun α' m' σ' H' q hn R' x => ?_, fun r α' m' σ' v H' q hn R' rr x => ?_, fun _ _ _ _ z => z.elim, fun _ _ _ _ z => z.elim⟩⟩
 ·obtain ⟨O, F, _⟩ := end_outs ra hn R' x
  exact fin _ _ .non H' q O rr_non F
 ·obtain ⟨O, F, eβ⟩ := end_outs ra hn R' x
  have q' := retK.ok q
  exact fin _ _ v H' q'.2 O (end_res hn R' x eβ rr q'.1.at) F
theorem Fun.okX {P : Program} {w : World} {K : PySem.W.Frag} {mg : Str → Option Value} {base : Heap} {x qual : Str} {st : Stmt} {f : Addr} {fd : FuncData} {N ps : List Str} {k : Nat} {sp : Sp} {CX : CXT} (F : Fun K x qual st f fd) (S : FnScope N ps (defScope st)) (len : ∀ vs H Q E, sp vs H Q E → vs.length = ps.length)
  (hbody : ∀ (cdv : Value) (A : Around) (outer : List Env) (s : Shared) (H : Hp) (vs : List V) (Q : VK) (E : XK), Room k (A.deeper (envOfC qual (defScope st) s.heap.objs.size f cdv)) → sp vs H Q E →
   ∃ t, PSs (cxOf CX P w K mg base N qual (defScope st) f cdv A outer s H E) (defBody st) t ∧ t { nx := fun _ H' => Q .non H', rt := Q } (start N vs) H) : FnOk P w K mg base CX (k + 1) f fd ps sp := by
 obtain ⟨oc, od, kV, doc, pm, an, cdv, ct, osl, rfl, lk, hcd⟩ := F.ex
 exact fn_of lk hcd S len fun A outer s H vs Q E hr hsp => hbody cdv A outer s H vs Q E hr hsp
theorem mk_fnX {P : Program} {w : World} {K : PySem.W.Frag} {mg : Str → Option Value} {base : Heap} {x : Str} {st : Stmt} {N ps : List Str} {n nN k : Nat} {sp : SpX} (D : DefM K mg x st ps) (S : FnScope N ps (defScope st)) (hn : ps.length = n) (hN : N.length = nN) (hle : n ≤ nN) (ar : ∀ as Kc Ke, sp as Kc Ke → as.length = n)
  (hbody : ∀ (cdv : Value) (A : Around) (outer : List Env) (s : Shared) (H : Hp) (E : XK) (f : Addr) (b : EB) (Ke : PyData → Prop), Room k (A.deeper (envOfC x (defScope st) s.heap.objs.size f cdv)) → XL ((cxOf (CXE P w) P w K mg base N x (defScope st) f cdv A outer s H E).wEb b) (fun d _ => Ke d) →
   ∃ ww, MSs ((cxOf (CXE P w) P w K mg base N x (defScope st) f cdv A outer s H E).wEb b) (defBody st) ww ∧ ∀ as Kc, as.length = n → sp as Kc Ke → ww { nx := fun m => Kc (.imm .none) (m.os.take m.np), rt := fun r m => retK Kc m r } (mstart nN as)) :
  FnX P w K mg base x (k + 1) n sp := by
 obtain ⟨f, fd, F, hm, hb⟩ := D.ex
 refine ⟨⟨f, fd, ps, F.okX S (fun vs H Q E h => by rw [hn]; exact h.len) (fun cdv A outer s H vs Q E hr h => ?_), hm, F.kp, hb⟩, ar⟩
 obtain ⟨as, β, Kc, Ke, hl, nd, ra, hsp, fin, hE⟩ := h
 obtain ⟨ww, h1, h2⟩ := hbody cdv A outer s H E f ⟨(agO as).length, β, H⟩ Ke hr (xl_def hE)
 exact ⟨_, PSs.unEb h1, fn_mX rfl hl nd ra fin hN hle (h2 as Kc hl hsp)⟩
section
variable {X : Cx} {a : Expr} {es : List Expr} {ws : WA} {pos p : Pos} {k n : Nat} {sp : SpX} {x : Str} {Ex : PyData → MSt → Prop}
def wCallX (sp : SpX) (Ex : PyData → MSt → Prop) (ws : WA) : WE := fun m K => ws m fun rs m1 => match toAgs m1 rs with
 | some (as, ks) => ks.Nodup ∧ sp as (fun r outs => K (mapR ks r) { m1 with os := setAll m1.os ks outs }) fun d => Ex d m1
 | none => False
theorem me_callX (F : FnX X.prog X.w X.K X.mg X.base x k n sp) (hx : XL X Ex) (hr : Room k X.A) (ha : MA X (a :: es) ws) (hg : Gl X x := by rfl) (hdb : (x == ("__debug__" : Str)) = false := by decide) (he : starEach (a :: es) X.env = (false, eval a X.env) :: starEach es X.env := by first | exact star_cons rfl | rfl) (hpl : (backTo pos (starEach es X.env)).any (·.1) = false := by rfl) :
  ME X (.Call (.Name x p) (a :: es) [] pos) (wCallX sp Ex ws) := by
 obtain ⟨f, fd, ps, G, hm, hk, hb⟩ := F.ex
 intro pins s σ H Q I h
 obtain ⟨α, m, Kc, Rl, hw, fin⟩ := h
 refine wpAny_Call_Name_kw (ld_glob I hg hm ?_ hdb)
 refine PySem.W.callWith_K (h₀ := X.base) I.ok.mod.kin hk (thn (ha pos pins s σ H _ I ⟨α, m, _, Rl, hw, fun rs m1 vs H1 kk n1 Rl1 rr F1 => (⟨m1, rs, kk, n1, Rl1, rr, F1⟩ : ∃ m1 rs, (match toAgs m1 rs with | some (as, ks) => ks.Nodup ∧ sp as (fun r outs => Kc (mapR ks r) { m1 with os := setAll m1.os ks outs }) (fun d => Ex d m1) | none => False) ∧ m1.np = m.np ∧ Rel X.kx α m1 σ H1 ∧ RelRs X.kx α H H1 rs vs ∧ Frm α H H1)⟩) fun us s1 ⟨vs, H1, I1, r, q⟩ => ⟨I1.kIn, ?_⟩) he hpl
 obtain ⟨m1, rs, kk, n1, Rl1, rr, F1⟩ := q
 cases e : toAgs m1 rs with
 | none => rw [e] at kk; exact kk.elim
 | some q =>
  obtain ⟨as, ks⟩ := q
  rw [e] at kk
  obtain ⟨nd, hsp⟩ := kk
  obtain ⟨β, ra, pa⟩ := toAgs_rel Rl1 rr e
  have hQ : spOfX X.kd n sp vs H1 (fun v H' => Q v H') fun C dct H' => ∃ d, Ex d m1 ∧ ExcD X.kd H1 H' C dct d ∧ Ext 0 β H1 [] H' :=
   ⟨as, β, _, _, F.ar _ _ _ hsp, paired_nodup Rl1.nd nd pa, ra, hsp, fun r outs v H' kk2 O rr2 F => by
    obtain ⟨Rl2, F2⟩ := call_rel Rl1 nd pa O F
    exact fin _ _ v H' kk2 n1 Rl2 ((call_res pa rr2).base Rl1 F1) (F1.trans F2), fun d C dct H' k xd xt => ⟨d, k, xd, xt⟩⟩
  have hl : us.length = ps.length := by rw [← r.length]; exact G.len _ _ _ _ hQ
  refine wpAny_call (codeAny_mono (G.run X.A X.stack s1 H1 ⟨us, []⟩ us vs _ _ hr I1.env0 (by have := hb s1 us I1.kIn (by rw [List.append_nil]; exact hl); rwa [List.append_nil] at this) r hQ) fun r s' hq => ?_)
  cases r with
  | error e =>
   obtain ⟨ea, C, dct, H', rfl, I', x, ⟨d, k, xd, xt⟩, un⟩ := I1.raised hx.ex hq
   have sub : ∀ a ∈ ads β, a ∈ ads α := fun a ha => by
    obtain ⟨j, ao, ej, hm⟩ := ads_at ha
    obtain ⟨k', _, e2⟩ := Paired.get2 pa ej
    exact ads_in e2 hm
   refine hx.go pins σ H1 H' α m1 d s' ea C dct Rl1 k ⟨un.tups, un.frzs⟩ ⟨rfl, fun b o eb nb => xt.frm b o eb fun z => nb (sub b z), fun a ha => (by cases ha), fun a ha => ?_⟩ I' x xd
   by_cases hb' : a ∈ ads β
   ·exact xt.old a hb'
   ·obtain ⟨o, eo, _⟩ := Rl1.mem ha
    exact ⟨o, xt.frm a o eo hb'⟩
  | ok fl =>
   cases fl with
   | ret u => exact I1.after hq
   | next => exact False.elim hq
   | brk => exact False.elim hq
   | cont => exact False.elim hq
end
theorem ObjOk.there {P : Program} {w : World} {H : Hp} {h : Heap} {a : Addr} {o : HO} (x : ObjOk P w H h a o) : ∃ ob, h.get? a = some ob := by
 cases o with
 | lst xs => obtain ⟨_, _, _, _, e⟩ := x; exact ⟨_, e⟩
 | tup xs => obtain ⟨_, _, _, o, e, _⟩ := x; exact ⟨_, e⟩
 | dK kvs => obtain ⟨_, _, _, _, o, _, _, e, _⟩ := x; exact ⟨_, e⟩
 | dT kvs => obtain ⟨_, _, _, _, o, _, _, e, _⟩ := x; exact ⟨_, e⟩
 | set S n => obtain ⟨o, _, _, _, e, _⟩ := x; exact ⟨_, e⟩
 | ins C dx fs => obtain ⟨_, _, _, e, _⟩ := x; exact ⟨_, e⟩
 | own y => obtain ⟨_, e⟩ := x; exact ⟨_, e⟩
 | xd fs => obtain ⟨_, ⟨_, _, _, e, _⟩, _⟩ := x; exact ⟨_, e⟩
 | rng lo hi => obtain ⟨_, _, _, e⟩ := x; exact ⟨_, e⟩
 | frz ob u => obtain ⟨e, _⟩ := x; exact ⟨_, e⟩
 | tbl ps => exact ⟨_, (show h.get? a = some _ from x)⟩
 | met f y => exact ⟨_, (show h.get? a = some _ from x)⟩
 | ext φ => obtain ⟨_, ⟨_, e⟩, _⟩ := x; exact ⟨_, e⟩
theorem HOk.nil {P : Program} {w : World} {H : Hp} {h : Heap} {a : Addr} (x : HOk P w H h) (e : h.get? a = none) : H a = none := by
 cases q : H a with
 | none => rfl
 | some u =>
  obtain ⟨ob, z⟩ := (x a u q).there
  rw [e] at z; cases z
structure ClsX (K : PySem.W.Frag) (mg : Str → Option Value) (x : Str) (C : Addr) : Prop where
 mg : mg x = some (.ref C)
 ns : PySem.W.nsIn K mainGlobals x = some (some (.ref C))
 ok : PySem.W.excIn K C [.type "ValueError", .type "Exception", .type "BaseException", .type "object"] "ValueError.__new__" = true
section
variable {X : Cx} {pins : List (Addr × Obj)} {σ : St} {H : Hp} {s : Shared}
theorem Inv.track {e : Addr} {oe : Obj} (I : Inv X pins σ H s) (y : Yg X pins e) (hu : H e = none) (he : s.heap.get? e = some oe) : Inv X pins σ (upd H e (.frz oe (.own 0))) s := by
 have ne : ∀ b u, H b = some u → b ≠ e := fun b u q z => by rw [z, hu] at q; cases q
 have hok : HOk X.prog X.w (upd H e (.frz oe (.own 0))) s.heap := fun b u q => by
  by_cases hb : b = e
  ·subst hb
   rw [upd_same] at q; cases q
   exact ⟨he, oe, he⟩
  ·rw [upd_ne hb] at q
   exact (I.hok b u q).stay (fun _ _ _ z => z) (fun c z => by rw [upd_ne (ne c _ z)]; exact z) fun c ys z => by rw [upd_ne (ne c _ z)]; exact z
 refine I.stepN (h' := s.heap) (g' := s.gens) (d' := s.drawn) (t' := s.toks) (ch := [e]) (fun b hb => ?_) (fun b o _ _ _ q _ => q) (fun b o _ _ _ q _ => ⟨o.slots, q⟩) (fun b o hc q n => ?_) (fun b o _ q => ⟨o, q⟩) (fun b xs q => ?_) (fun b o u q => ?_) (fun b ps q => ⟨#[], ?_⟩) (fun m hm => hm) hok I.bare
 ·cases List.mem_singleton.mp hb
  exact ⟨.inr y.1, y.2.1, y.2.2.1, y.2.2.2⟩
 ·rw [upd_ne fun z => hc (by rw [z]; exact List.mem_singleton.mpr rfl)]; exact n
 ·rw [upd_ne (ne b _ q)]; exact q
 ·rw [upd_ne (ne b _ q)]; exact q
 ·rw [upd_ne (ne b _ q), q]; simp
theorem Inv.frzX {a : Addr} {xs : List (Str × V)} (I : Inv X pins σ H s) (h : H a = some (.xd xs)) : ∃ o, Inv X pins σ (upd H a (.frz o (.xd xs))) s := by
 obtain ⟨ob, e⟩ := (I.hok a _ h).there
 refine ⟨ob, I.un (h' := s.heap) (t' := s.toks) ⟨fun b ob q _ _ _ => q, fun b ob q _ _ _ => ⟨ob.slots, q⟩, fun b ob q z _ => ?_, fun b ob q _ => ⟨ob, q⟩, fun b ys q => ?_, fun b ob u q => ?_, fun b ps q => ⟨#[], ?_⟩⟩ fun b u q => ?_⟩
 ·rw [upd_ne (Ne.symm (ne_of_none h z))]; exact z
 ·rw [upd_ne (ne_of q h (by intro z; cases z))]; exact q
 ·rw [upd_ne (ne_of q h (by intro z; cases z))]; exact q
 ·rw [upd_ne (ne_of q h (by intro z; cases z)), q]; simp
 ·by_cases hb : b = a
  ·subst hb
   rw [upd_same] at q; cases q
   exact ⟨e, (I.hok b _ h).stay (fun _ _ _ z => z) (fun c z => by rw [upd_ne (ne_of z h (by intro z; cases z))]; exact z) fun c ys z => by rw [upd_ne (ne_of z h (by intro z; cases z))]; exact z⟩
  ·rw [upd_ne hb] at q
   exact (I.hok b u q).stay (fun _ _ _ z => z) (fun c z => by rw [upd_ne (ne_of z h (by intro z; cases z))]; exact z) fun c ys z => by rw [upd_ne (ne_of z h (by intro z; cases z))]; exact z
theorem unbind_ok {M : Model} {A : Around} {E : Value → Shared → Prop} {i : Nat} {x : Str} {pos : Pos} {Q : Unit → Shared → Prop} (I : Inv X pins σ H s) (hN : X.N.Nodup) (hi : X.N[i]? = some x) (hk : X.env.scope.names.lookup x = some .local)
  (h : ∀ s', Inv X pins (σ.set i none) H s' → Q () s') : wpAny M A (do bindName X.env x .none; unbindBehindTheSuite X.env x pos) Q E s := by
 obtain ⟨m, hn, hl⟩ := id I.loc
 have hcls : (X.env.scope.kind == .class || (X.env.scope.kind == .module && X.env.locals != X.env.globals)) = false := by rw [I.ok.kind]; rfl
 have lt0 : ∀ b o, X.s₀.heap.get? b = some o → b ≠ X.env.locals := fun b o e => Nat.ne_of_lt (Nat.lt_of_lt_of_le (Heap.lt_size e) I.ok.above)
 refine wpAny_nameGoes_keeps hk hn hcls fun h' v hn' hs => h _ ⟨I.ok, I.os, I.bare, ⟨fun b o e n hb hx => ?_, fun b o e n hb hx => ?_, I.base.free, fun b o e hx => ?_, I.base.tups, I.base.frzs, I.base.tbls⟩, ⟨_, hn', fun j y v' e1 e2 e3 => ?_⟩, fun y c e => ?_, I.free, I.freeC, fun p hp => ?_, fun b u q => ?_, by simpa using I.len⟩
 ·exact (hs.2 b (lt0 b o e)).trans (I.base.keep b o e n hb hx)
 ·obtain ⟨sl, e1⟩ := I.base.slot b o e n hb hx
  exact ⟨sl, (hs.2 b (lt0 b o e)).trans e1⟩
 ·obtain ⟨o', e1⟩ := I.base.there b o e hx
  exact ⟨o', (hs.2 b (lt0 b o e)).trans e1⟩
 ·by_cases hj : j = i
  ·subst hj
   rw [List.getElem?_set_self (show j < σ.length by rw [I.len]; exact (List.getElem?_eq_some_iff.mp e1).1)] at e2
   cases e2
  ·rw [List.getElem?_set_ne (Ne.symm hj)] at e2
   obtain ⟨u', r', q⟩ := hl j y v' e1 e2 e3
   refine ⟨u', r', ?_⟩
   rcases q with ⟨k, e⟩ | ⟨k, c, e, z⟩
   ·refine .inl ⟨k, ?_⟩
    have : y ≠ x := fun e => hj (nodup_ix hN e1 (e ▸ hi))
    simp [this, e]
   ·exact .inr ⟨k, c, e, z.sameBut hs (I.cne y c e)⟩
 ·obtain ⟨w', z⟩ := I.cell y c e
  exact ⟨w', z.sameBut hs (I.cne y c e)⟩
 ·obtain ⟨e, n, ne, nf, d⟩ := I.pin p hp
  exact ⟨(hs.2 p.1 ne).trans e, n, ne, nf, d⟩
 ·refine (I.hok b u q).stay (fun c w' hc z => (hs.2 c ?_).trans z) (fun _ z => z) fun _ _ z => z
  rintro rfl
  rcases hc with rfl | hc
  ·rw [I.free] at q; cases q
  ·rw [I.free] at hc; cases hc
end
abbrev Cx.tr (X : Cx) (xe : Value → Shared → Prop) (pn : List (Addr × Obj)) (b : EB) : Cx := { X with xe := xe, pn := pn, eb := b }
abbrev Cx.sui (X : Cx) (e : Addr) (xe : Value → Shared → Prop) : Cx := { X with A := X.A.mark (some (.ref e)), calm := false, xe := xe }
section
variable {X : Cx} {pins pins' : List (Addr × Obj)} {σ : St} {H : Hp} {s : Shared} {xe : Value → Shared → Prop} {b : EB} {e : Addr}
theorem Inv.tr (I : Inv X pins σ H s) : Inv (X.tr xe (X.pn ++ pins) b) [] σ H s :=
 ⟨⟨I.ok.mod, I.ok.kind, I.ok.glob, I.ok.blt, I.ok.above, I.ok.inj, I.ok.has, I.ok.cab, I.ok.hd, I.ok.frames, I.ok.stk, I.ok.exf, I.ok.bs, I.ok.bsz, I.ok.noex, I.ok.exfs, I.ok.funs, I.ok.frf⟩, I.os, I.bare, I.base, I.loc, I.cell, I.free, I.freeC, fun p hp => I.pin p (by rwa [List.append_nil] at hp), I.hok, I.len⟩
theorem Inv.untr (I : Inv (X.tr xe (X.pn ++ pins) b) pins' σ H s) : Inv X pins σ H s :=
 ⟨⟨I.ok.mod, I.ok.kind, I.ok.glob, I.ok.blt, I.ok.above, I.ok.inj, I.ok.has, I.ok.cab, I.ok.hd, I.ok.frames, I.ok.stk, I.ok.exf, I.ok.bs, I.ok.bsz, I.ok.noex, I.ok.exfs, I.ok.funs, I.ok.frf⟩, I.os, I.bare, I.base, I.loc, I.cell, I.free, I.freeC, fun p hp => I.pin p (List.mem_append_left _ hp), I.hok, I.len⟩
theorem Yg.untr {a : Addr} (y : Yg (X.tr xe (X.pn ++ pins) b) pins' a) : Yg X pins a := ⟨y.1, y.2.1, y.2.2.1, fun p hp => y.2.2.2 p (List.mem_append_left _ hp)⟩
theorem SP.untr {D : Ends} {f : Flow} {s' : Shared} (h : SP (X.tr xe (X.pn ++ pins) b) [] D f s') : SP X pins D f s' := by
 cases f with
 | next => obtain ⟨σ', H', I, q⟩ := h; exact ⟨σ', H', I.untr, q⟩
 | brk => obtain ⟨σ', H', I, q⟩ := h; exact ⟨σ', H', I.untr, q⟩
 | cont => obtain ⟨σ', H', I, q⟩ := h; exact ⟨σ', H', I.untr, q⟩
 | ret u => obtain ⟨v, σ', H', I, r, q⟩ := h; exact ⟨v, σ', H', I.untr, r, q⟩
theorem Inv.sui (I : Inv X pins σ H s) : Inv (X.sui e xe) pins σ H s :=
 ⟨⟨I.ok.mod, I.ok.kind, I.ok.glob, I.ok.blt, I.ok.above, I.ok.inj, I.ok.has, I.ok.cab, fun z => (by cases z), I.ok.frames, I.ok.stk, I.ok.exf, I.ok.bs, I.ok.bsz, I.ok.noex, I.ok.exfs, I.ok.funs, I.ok.frf⟩, I.os, I.bare, I.base, I.loc, I.cell, I.free, I.freeC, I.pin, I.hok, I.len⟩
theorem Inv.unsui (I : Inv (X.sui e xe) pins σ H s) (ok : X.Ok) : Inv X pins σ H s := ⟨ok, I.os, I.bare, I.base, I.loc, I.cell, I.free, I.freeC, I.pin, I.hok, I.len⟩
end
def keepI : Option R → Option R
 | some (.imm d) => some (.imm d)
 | _ => none
def MSt.dropO (m : MSt) : MSt := ⟨m.vs.map keepI, [], 0⟩
def MSt.unV (m : MSt) (i : Nat) : MSt := { m with vs := m.vs.set i none }
section
variable {K : Kx} {α : Al} {m : MSt} {σ : St} {H H' : Hp}
theorem Rel.drop (R : Rel K α m σ H) (pe : Pers H H') (h0 : K.eb.np = 0) (x : Ext 0 K.eb.be K.eb.H [] H') : Rel K [] m.dropO σ H' := by
 refine ⟨List.nodup_nil, rfl, fun k ao ds z => by simp at z, by show σ.length = (m.vs.map keepI).length; rw [List.length_map]; exact R.vlen, fun i r z => ?_, Nat.le_refl _, by rw [h0]; exact Nat.le_refl _, by rw [h0]; exact x⟩
 have z' : (m.vs.map keepI)[i]? = some (some r) := z
 rw [List.getElem?_map] at z'
 cases q : m.vs[i]? with
 | none => rw [q] at z'; cases z'
 | some o =>
  rw [q] at z'
  have z2 : keepI o = some r := Option.some.inj z'
  cases o with
  | none => cases z2
  | some r0 =>
   cases r0 with
   | imm d =>
    cases z2
    obtain ⟨v, ev, rv⟩ := R.var i _ q
    exact ⟨v, ev, Den.mono pe rv⟩
   | obj _ => cases z2
   | «at» _ _ => cases z2
   | new _ => cases z2
   | newT _ => cases z2
theorem Rel.unV (R : Rel K α m σ H) (i : Nat) : Rel K α (m.unV i) (σ.set i none) H := by
 refine ⟨R.nd, R.len, R.own, ?_, fun j r e => ?_, R.npl, R.ebl, R.ebx⟩
 ·show (σ.set i none).length = (m.vs.set i none).length
  rw [List.length_set, List.length_set]; exact R.vlen
 ·have e' : (m.vs.set i none)[j]? = some (some r) := e
  by_cases hj : i = j
  ·subst hj
   by_cases hi : i < m.vs.length
   ·rw [List.getElem?_set_self hi] at e'; cases e'
   ·rw [List.getElem?_eq_none (by rw [List.length_set]; omega)] at e'; cases e'
  ·rw [List.getElem?_set_ne hj] at e' ⊢
   exact R.var j r e'
theorem Rel.reEb {K' : Kx} (R : Rel K α m σ H) (e1 : K'.toKd = K.toKd) (e2 : K'.eb.np ≤ m.np) (e3 : Ext K'.eb.np K'.eb.be K'.eb.H α H) : Rel K' α m σ H :=
 ⟨R.nd, R.len, fun k ao ds z1 z2 => by rw [e1]; exact R.own k ao ds z1 z2, R.vlen, fun i r z => by rw [e1]; exact R.var i r z, R.npl, e2, e3⟩
end
theorem Stp.mono {S S' : List Addr} {e : Addr} {To : Option Addr} {h h' : Heap} (x : Stp S e To h h') (k : ∀ b ∈ S, b ∈ S') : Stp S' e To h h' := ⟨fun b o q n1 n2 n3 => x.same b o q n1 n2 fun z => n3 (k b z), x.slot, x.there⟩
theorem land_eff {M : Model} {A : Around} {E : Value → Shared → Prop} {s : Shared} {F : Addr → Prop} {H : Hp} {e : Addr} {C : Value} {dct : Option Addr} {Q : Unit → Shared → Prop} (x : XF F H s.heap e C dct)
  (h : ∀ h' To, (∀ T, To = some T → F T ∧ H T = none) → Stp [] e To s.heap h' → XF F H h' e C dct → Q () { s with heap := h' }) : wpAny M A (setFlight (.ref e) none) Q E s := by
 obtain ⟨new, un, oe, vs, he, hc, hdc, hd, hT⟩ := x
 unfold setFlight
 rcases hT with h1 | ⟨T, oT, ts, h1, nT, Te, hTu, gT, dT, t3⟩
 ·refine wpAny_bind (wpAny_field he hd h1 ?_)
  rw [if_neg (by decide)]
  exact wpAny_pure (h s.heap none (fun _ z => by cases z) ⟨fun _ _ q _ _ _ => q, fun _ o q _ _ => ⟨o.slots, q⟩, fun _ o q => ⟨o, q⟩⟩ ⟨new, un, oe, vs, he, hc, hdc, hd, .inl h1⟩)
 ·refine wpAny_bind (wpAny_field he hd h1 ?_)
  rw [if_pos (show (Value.ref T != Value.none) = true by simp)]
  have sz : 3 < ts.size := (Array.getElem?_eq_some_iff.mp t3).1
  refine wpAny_setField gT dT sz ?_
  have oth : ∀ b, b ≠ T → (s.heap.update T (Obj.mapFields (·.setIfInBounds 3 ((none : Option Addr).elim Value.none fun f => rawInt f)))).get? b = s.heap.get? b := fun b hb => Heap.get?_update_other _ _ (Ne.symm hb)
  have new' := Heap.get?_update_self (Obj.mapFields (·.setIfInBounds 3 ((none : Option Addr).elim Value.none fun f => rawInt f))) gT (Obj.isFreed_of_fields (Obj.data_mapFields dT _))
  refine h _ (some T) (fun T0 z => by cases z; exact ⟨nT, hTu⟩) ⟨fun b o q _ n2 _ => (oth b fun z => n2 (by rw [z])).trans q, fun b o q _ n2 => ⟨o.slots, (oth b fun z => n2 (by rw [z])).trans q⟩, fun b o q => ?_⟩ ⟨new, un, oe, vs, (oth e (Ne.symm Te)).trans he, hc, hdc, hd, .inr ⟨T, _, _, h1, nT, Te, hTu, new', Obj.data_mapFields dT _, by simp [sz]⟩⟩
  by_cases bT : b = T
  ·subst bT; exact ⟨_, new'⟩
  ·exact ⟨o, (oth b bT).trans q⟩
def SubX (K : PySem.W.Frag) (c' c : Str) : Prop := ∃ C' C : Addr, PySem.W.nsIn K mainGlobals c' = some (some (.ref C')) ∧ PySem.W.nsIn K mainGlobals c = some (some (.ref C)) ∧ PySem.W.exmOne K (.ref C') (.ref C) = some true
def wTry (K : PySem.W.Frag) (i : Nat) (c : Str) (wb : (PyData → MSt → Prop) → WS) (ws : WS) : WS := fun D m => m.np = 0 ∧
 wb (fun d m' => ∃ c' kvs, d = .dict ((.none, .str c') :: kvs) ∧ SubX K c' c ∧ ws { nx := fun m2 => D.nx (m2.unV i), rt := D.rt, bk := fun m2 => D.bk (m2.unV i), ct := fun m2 => D.ct (m2.unV i) } (m'.dropO.setV i (.imm d))) D m
theorem ms_try {X : Cx} {body suite : List Stmt} {b₀ : Stmt} {i : Nat} {n c : Str} {cp hp pos : Pos} {Cc : Addr} {wb : (PyData → MSt → Prop) → WS} {ws : WS} (hm : X.mg c = some (.ref Cc)) (hns : PySem.W.nsIn X.K mainGlobals c = some (some (.ref Cc))) (hN : X.N.Nodup) (hi : X.N[i]? = some n) (hk : X.env.scope.names.lookup n = some .local)
  (hb : ∀ (xe' : Value → Shared → Prop) (pn : List (Addr × Obj)) (b : EB) (Ex' : PyData → MSt → Prop), XL (X.tr xe' pn b) Ex' → MSs (X.tr xe' pn b) body (wb Ex')) (hs : ∀ (e : Addr) (xe' : Value → Shared → Prop), MSs (X.sui e xe') (b₀ :: suite) ws)
  (hg : Gl X c := by rfl) (hdb : (c == ("__debug__" : Str)) = false := by decide) (hex : X.ex = [] := by rfl) (hS : X.stack = X.env :: X.outer := by rfl) (hL : X.env.frame = some X.env.locals := by rfl) :
  MS X (.Try body [.ExceptHandler (some (.Name c cp)) (some n) (b₀ :: suite) hp] [] [] pos) (wTry X.K i c wb ws) := by
 intro pins s σ H D I h
 obtain ⟨α, m, De, Rl, ⟨np0, hw⟩, k⟩ := h
 have eb0 : X.kx.eb.np = 0 := by have := Rl.ebl; omega
 refine wpAny_Try_except ?_
 generalize hxe : (fun (e : Value) (s₁ : Shared) => wpAny (model X.prog X.w) X.A (noteFrame e X.env) (fun _ s₂ => wpAny (model X.prog X.w) X.A (setFlight e none) (fun _ s₃ => wpAny (model X.prog X.w) X.A (handleBy e X.env [.ExceptHandler (some (.Name c cp)) (some n) (b₀ :: suite) hp]) (SP X pins D) X.xe s₃) X.xe s₂) X.xe s₁) = xe'
 have refl0 : Ext 0 α H α H := ⟨rfl, Frm.refl _ _, fun _ h => .inl h, fun a ha => (let ⟨o, eo, _⟩ := Rl.mem ha; ⟨o, eo⟩)⟩
 have back : ∀ {α' : Al} {m' : MSt} {σ' : St} {H' : Hp}, Rel (X.tr xe' (X.pn ++ pins) ⟨0, α, H⟩).kx α' m' σ' H' → Rel X.kx α' m' σ' H' := fun {α' m' σ' H'} R => R.reEb rfl (by rw [eb0]; exact Nat.zero_le _) (by
  have e1 := Rl.ebx
  rw [eb0] at e1 ⊢
  exact e1.trans R.ebx)
 have k' : EndsOk (X.tr xe' (X.pn ++ pins) ⟨0, α, H⟩).kx m.np α H De D := ⟨fun α' m' σ' H' q n R x => k.nx α' m' σ' H' q n (back R) x, fun r α' m' σ' v H' q n R rr x => k.rt r α' m' σ' v H' q n (back R) rr x, fun α' m' σ' H' q n R x => k.bk α' m' σ' H' q n (back R) x, fun α' m' σ' H' q n R x => k.ct α' m' σ' H' q n (back R) x⟩
 have Rl' : Rel (X.tr xe' (X.pn ++ pins) ⟨0, α, H⟩).kx α m σ H := Rl.reEb rfl (Nat.zero_le _) refl0
 have xl : XL (X.tr xe' (X.pn ++ pins) ⟨0, α, H⟩) (fun d m' => ∃ c' kvs, d = .dict ((.none, .str c') :: kvs) ∧ SubX X.K c' c ∧ ws { nx := fun m2 => De.nx (m2.unV i), rt := De.rt, bk := fun m2 => De.bk (m2.unV i), ct := fun m2 => De.ct (m2.unV i) } (m'.dropO.setV i (.imm d))) := by
  refine ⟨fun pins' σ1 H1 H2 α1 m1 d s2 e C dct R1 hE pe xt I2 xf xd => ?_, hex⟩
  show xe' (.ref e) s2
  rw [← hxe]
  have I3 : Inv X pins σ1 H2 s2 := I2.untr
  have xf3 : XF (Yg X pins) H2 s2.heap e C dct := xf.imp fun b y => y.untr
  obtain ⟨c', kvs, rfl, ⟨C', Cc', hn', hnc, hexm⟩, hws⟩ := hE
  obtain ⟨c2, Ca, kvs2, ed, rfl, hcl, hdct⟩ := xd
  cases ed
  obtain rfl : Cc' = Cc := by rw [hns] at hnc; cases hnc; rfl
  obtain rfl : Ca = C' := by
   have : PySem.W.nsIn X.K mainGlobals c' = some (some (.ref Ca)) := hcl
   rw [hn'] at this; cases this; rfl
  refine note_eff (base := X.base) (by rw [← hS]; exact I3.ok.frames) (by rw [← hS]; exact I3.stack) hL xf3 (fun T hT => ⟨I3.hok.fresh hT, I3.yg hex (Heap.get?_none_of_le hT)⟩) fun h4 To hTo st xf4 => ?_
  have I4 : Inv X pins σ1 H2 { s2 with heap := h4 } := I3.noted hS xf3.new xf3.un hTo st
  have LT : PySem.W.Looks (model X.prog X.w) h4 (typeOf (.ref e)) (.ref Ca) := by
   obtain ⟨oe, vs, he, hc, _⟩ := xf4.obj
   exact hc ▸ (PySem.W.Looks.ld he).andThen .now
  refine wpAny_handleBy_cons (codeAny_handlers_test (ld_glob (X := X.sui e X.xe) (I4.sui) hg hm ?_ hdb)) (by intro z; cases z)
  refine (PySem.W.exm_one (M := model X.prog X.w) I4.kIn LT hexm).here ?_
  show codeAny _ _ _ _ _
  refine codeAny_handlers_suite_as (land_eff xf4 fun h5 To5 hTo5 st5 xf5 => ?_)
  have I5 : Inv X pins σ1 H2 { s2 with heap := h5 } := I4.noted (s := { s2 with heap := h4 }) hS xf4.new xf4.un hTo5 (st5.mono fun b z => by cases z)
  obtain ⟨oe, vs, he, hc, hdc, hdd, _⟩ := xf5.obj
  obtain ⟨H3, I5', un3, pf3, keep3, fld3⟩ : ∃ H3, Inv X pins σ1 H3 { s2 with heap := h5 } ∧ H3 e = none ∧ Pers H2 H3 ∧ (∀ b o, H1 b = some o → H2 b = some o → H3 b = some o) ∧ ∃ xs, ((dct = none ∧ xs = []) ∨ ∃ dx od, dct = some dx ∧ H3 dx = some (.frz od (.xd xs))) ∧ DenXF X.kd H2 ((.none, .str c') :: kvs) xs ∧ ∀ b o, H2 b = some o → ∃ o', H3 b = some o' := by
   rcases hdct with ⟨rfl, rfl⟩ | ⟨dx, xs, rfl, hdx, hn1, hf⟩
   ·exact ⟨H2, I5, xf5.un, Pers.refl _, fun b o _ q => q, [], .inl ⟨rfl, rfl⟩, by simp only [DenXF], fun b o q => ⟨o, q⟩⟩
   ·obtain ⟨od, I6⟩ := I5.frzX hdx
    have ned : e ≠ dx := fun z => by rw [← z, xf5.un] at hdx; cases hdx
    refine ⟨_, I6, by rw [upd_ne ned]; exact xf5.un, ⟨fun b xs q => ?_, fun b o u q => ?_⟩, fun b o q1 q2 => ?_, xs, .inr ⟨dx, od, rfl, upd_same⟩, by simp only [DenXF]; exact hf, fun b o q => ?_⟩
    ·rw [upd_ne fun z => (by rw [z, hdx] at q; cases q)]; exact q
    ·rw [upd_ne fun z => (by rw [z, hdx] at q; cases q)]; exact q
    ·rw [upd_ne fun z => (by rw [z, hn1] at q1; cases q1)]; exact q2
    ·by_cases hb : b = dx
     ·exact ⟨_, by rw [hb]; exact upd_same⟩
     ·exact ⟨o, by rw [upd_ne hb]; exact q⟩
  obtain ⟨xs, hdict, hfl, hall⟩ := fld3
  have I6 := I5'.track xf5.new un3 he
  have ne3 : ∀ b o, H3 b = some o → (upd H3 e (.frz oe (.own 0))) b = some o := fun b o q => by
   rw [upd_ne fun z => by rw [z, un3] at q; cases q]; exact q
  have pf : Pers H2 (upd H3 e (.frz oe (.own 0))) := pf3.trans (pers_upd (.inl un3))
  have xtf : Ext 0 α1 H1 [] (upd H3 e (.frz oe (.own 0))) := ⟨rfl, fun b o q nb => ne3 b o (keep3 b o q (xt.frm b o q nb)), fun a ha => (by cases ha), fun a ha => (let ⟨o, q⟩ := xt.old a ha; let ⟨o', q'⟩ := hall a o q; ⟨o', ne3 a o' q'⟩)⟩
  have x0 : Ext 0 α H [] (upd H3 e (.frz oe (.own 0))) := R1.ebx.trans xtf
  have Rd : Rel X.kx [] m1.dropO σ1 (upd H3 e (.frz oe (.own 0))) := (back R1).drop (pe.trans pf) eb0 (by
   have e1 := Rl.ebx
   rw [eb0] at e1
   exact e1.trans x0)
  have dn : Den X.kd (upd H3 e (.frz oe (.own 0))) (.dict ((.none, .str c') :: kvs)) (.ref e) := by
   simp only [Den]
   refine ⟨e, rfl, .inr (.inr ⟨c', xs, rfl, ⟨oe, .own 0, Ca, upd_same, hc, ⟨vs, hdd⟩, hn', ?_⟩, DenXF.mono pf hfl⟩)⟩
   rcases hdict with ⟨z1, z2⟩ | ⟨dx, od, z1, z2⟩
   ·exact .inl ⟨hdc.trans z1, z2⟩
   ·exact .inr ⟨dx, od, hdc.trans z1, ne3 dx _ z2⟩
  refine store_ok I6 hN hi (.inl hk) (v := .ref e) (u := .ref e) rfl (fun s7 I7 => ?_) (.inr hk)
  refine wpAny_mono (hs e _ pins s7 _ _ { nx := fun σ H => D.nx (σ.set i none) H, rt := D.rt, bk := fun σ H => D.bk (σ.set i none) H, ct := fun σ H => D.ct (σ.set i none) H } I7.sui ⟨[], _, _, rel_setV (i := i) (r := .imm (.dict ((.none, .str c') :: kvs))) Rd dn, hws, ?_⟩) (fun f s8 q => ?_) fun x s8 q => q
  ·have zr : m.np = 0 := np0
   refine ⟨fun α' m' σ' H' q n R x => ?_, fun r α' m' σ' v H' q n R rr x => ?_, fun α' m' σ' H' q n R x => ?_, fun α' m' σ' H' q n R x => ?_⟩
   ·exact k.nx α' (m'.unV i) (σ'.set i none) H' q (n.trans zr.symm) (R.unV i) (by rw [zr]; exact x0.trans x)
   ·exact k.rt r α' m' σ' v H' q (n.trans zr.symm) R (rr.ext x0) (by rw [zr]; exact x0.trans x)
   ·exact k.bk α' (m'.unV i) (σ'.set i none) H' q (n.trans zr.symm) (R.unV i) (by rw [zr]; exact x0.trans x)
   ·exact k.ct α' (m'.unV i) (σ'.set i none) H' q (n.trans zr.symm) (R.unV i) (by rw [zr]; exact x0.trans x)
  ·cases f with
   | next =>
    obtain ⟨σ', H', I8, q⟩ := q
    exact unbind_ok (I8.unsui I.ok) hN hi hk fun s9 I9 => ⟨σ'.set i none, H', I9, q⟩
   | brk =>
    obtain ⟨σ', H', I8, q⟩ := q
    exact unbind_ok (I8.unsui I.ok) hN hi hk fun s9 I9 => ⟨σ'.set i none, H', I9, q⟩
   | cont =>
    obtain ⟨σ', H', I8, q⟩ := q
    exact unbind_ok (I8.unsui I.ok) hN hi hk fun s9 I9 => ⟨σ'.set i none, H', I9, q⟩
   | ret u =>
    obtain ⟨v, σ', H', I8, r, q⟩ := q
    exact unbind_ok (I8.unsui I.ok) hN hi hk fun s9 I9 => ⟨v, σ'.set i none, H', I9, r, q⟩
 have run := hb xe' (X.pn ++ pins) ⟨0, α, H⟩ _ xl [] s σ H D I.tr ⟨α, m, De, Rl', hw, k'⟩
 refine wpAny_mono run (fun f s1 q => ?_) (fun e s1 q => ?_)
 ·have q' := SP.untr q
  cases f with
  | next => exact wpAny_execs_nil q'
  | brk => exact q'
  | cont => exact q'
  | ret u => exact q'
 ·exact q
end L2
namespace L2
open PySem PySem.Spec PyProof.Rows PySem.W
section
variable {prog : Program} {w : World} {A : Around} {E : Value → Shared → Prop} {s : Shared} {K : Frag} {x D : Addr} {ox : Obj} {odo : Option Obj}
theorem exc_class {Q : Option Value → Shared → Prop} (X : K.In s.heap) (I : InstAt s.heap x ox D odo) (hga : findIn K (.ref D) "__getattribute__" = some (some (.builtin "BaseException.__getattribute__"))) (hk : findIn K (.ref D) "__getattr__" = some none)
  (hf : findObj K D odo "__class__" = some (.bind (.builtin "getset_descriptor.__get__") (.builtin "object.__class__"))) (hB : mroIn K D (.type "BaseException") = some true) (hm : mroIn K D (.type "object") = some true)
  (h : Q (some (.ref D)) { s with toks := s.toks + 1 }) : wpAny (model prog w) A (getAttr? (.ref x) "__class__") Q E s := by
 obtain ⟨hh, g, d, t, os⟩ := s
 have La := I.type (M := model prog w)
 have Lb := looks_findIn (M := model prog w) X hga
 have Lc := looks_findIn (M := model prog w) X hk
 unfold getAttr? getAttrBy?
 unfold getAttrBy
 refine wpAny_bind (wpAny_mkText (wpAny_bind (wpAny_attempt (wpAny_holding (wpAny_bind (La.at (wpAny_bind (Lb.at ?_))))))))
 have f3 := PySem.F.attr_ValueError.ga.bind (.ref x)
 have other : (Value.builtin "BaseException.__getattribute__" == Value.builtin "object.__getattribute__") = false := by decide +kernel
 have hx1 : (onTheHeap (Value.ref D) && Value.builtin "BaseException.__getattribute__" == Value.builtin "object.__getattribute__") = false := by rw [other]; cases onTheHeap (Value.ref D) <;> rfl
 dsimp only at La Lb Lc h ⊢
 rw [if_neg (by rw [hx1]; exact Bool.false_ne_true)]
 unfold getAttrByItsOwn
 repeat (any_goals (first | assumption | with_reducible refine wpAny_bind (La.at ?_) | with_reducible refine wpAny_bind (Lc.at ?_) | wp_step))
 have Ld := looks_mroIn (M := model prog w) X hB
 have Le := looks_find (M := model prog w) X I hf
 dsimp only at Ld Le
 have hkd : builtinKind "BaseException.__getattribute__" = some .slot := by decide +kernel
 have hsp : splitId "BaseException.__getattribute__" = some ("BaseException", "__getattribute__") := by decide +kernel
 have har := PySem.F.args_bexc_ga (.ref x) (.str "__class__" t)
 refine codeAny_call_builtin PySem.F.attr_ValueError.ga.plain PySem.F.entry_bexc_ga ?_
 simp only [checkBuiltinCall, hkd, hsp]
 refine wpAny_bind ?_
 unfold isInstance
 repeat (first | assumption | with_reducible refine wpAny_bind (La.at ?_) | with_reducible refine Ld.at ?_ | with_reducible refine wpAny_bind (Ld.at ?_) | with_reducible refine Le.at ?_ | with_reducible refine wpAny_bind (Le.at ?_) | wp_step)
 refine class_get (ox := ox) (od := odo) X I hm ?_
 repeat (first | assumption | wp_step)
end
end L2
namespace L2
open PySem PySem.Spec PyProof.Rows
structure XCls (K : PySem.W.Frag) (c : Str) (C : Addr) : Prop where
 ns : PySem.W.nsIn K mainGlobals c = some (some (.ref C))
 ga : PySem.W.findIn K (.ref C) "__getattribute__" = some (some (.builtin "BaseException.__getattribute__"))
 nk : PySem.W.findIn K (.ref C) "__getattr__" = some none
 hd : PySem.W.hasDictIn K C = true
 fd : PySem.W.findIn K (.ref C) "__class__" = some (some (.builtin "object.__class__"))
 sp : PySem.W.specialIn K (.builtin "object.__class__") "__get__" = some (some (.builtin "getset_descriptor.__get__"))
 tk : PySem.W.takesIn K (.builtin "object.__class__") = some true
 mr : PySem.W.mroIn K C (.type "object") = some true
 mb : PySem.W.mroIn K C (.type "BaseException") = some true
theorem XCls.cls {K : PySem.W.Frag} {c : Str} {C : Addr} (h : XCls K c C) : (PySem.W.clsIn K C).isSome = true := by
 obtain ⟨cd, hc, _⟩ := PySem.W.any_some h.hd
 rw [hc]; rfl
theorem kitx_exc {K : PySem.W.Frag} {x D : Addr} {ox : Obj} {c : Str} {odo : Option Obj} (h : XCls K c D) : PySem.W.KitX K (.ref x) (.ref D) (fun h => PySem.W.InstAt h x ox D odo) where
 ty := fun _ _ _ I => I.type
 it := fun _ _ X _ => by
  obtain ⟨cdD, hcD⟩ := Option.isSome_iff_exists.mp h.cls
  unfold PySem.W.clsIn at hcD
  split at hcD
  ·rename_i c' d' cd' sl' ho
   intro A' Q' E' s' k q
   unfold isType loadHead
   exact wpAny_bind (m := loadPart _ _) (wpAny_loadPart (k _ _ (X _ _ ho)) (wpAny_pure q))
  ·cases hcD
 ne := fun h' tp dd its n sl X htp => by
  obtain ⟨cdD, hcD⟩ := Option.isSome_iff_exists.mp h.cls
  refine Bool.eq_false_iff.mpr fun same => ?_
  obtain rfl : D = tp := Value.ref.inj (beq_iff_eq.mp same)
  unfold PySem.W.clsIn at hcD
  split at hcD
  ·rename_i c' d' cd' sl' ho
   cases (X _ _ ho).symm.trans htp
  ·cases hcD
 ca := fun {prog w A E Q s} X I k => by
  have hf : PySem.W.findObj K D odo "__class__" = some (.bind (.builtin "getset_descriptor.__get__") (.builtin "object.__class__")) := by
   obtain ⟨cd, hc⟩ := Option.isSome_iff_exists.mp h.cls
   cases odo with
   | some od => exact PySem.W.findObj_data h.cls h.fd h.sp h.tk
   | none =>
   unfold PySem.W.findObj
   rw [hc, Option.bind_some, h.fd, Option.bind_some]
   simp [h.sp, h.tk]
  exact exc_class X I h.ga h.nk hf h.mb h.mr k
theorem exc_inst {X : Cx} {pins : List (Addr × Obj)} {σ : St} {H : Hp} {s : Shared} {v : V} {u : Value} {c : Str} {kvs : List (PyData × PyData)} (I : Inv X pins σ H s) (h : Den X.kd H (.dict ((.none, .str c) :: kvs)) v) (r : RelV v u) :
  ∃ e ox C odo, u = .ref e ∧ PySem.W.nsIn X.K mainGlobals c = some (some (.ref C)) ∧ PySem.W.InstAt s.heap e ox C odo := by
 simp only [Den] at h
 obtain ⟨e, rfl, h⟩ := h
 cases (show u = Value.ref e from r)
 rcases h with ⟨es, _, ⟨_, _, hk⟩, _⟩ | ⟨es, o, _, hk⟩ | ⟨c', xs, ec, ⟨o, w, C, f1, f2, ⟨vs, f0⟩, f3, f4⟩, _⟩
 ·have := hk .none (by simp)
  cases this
 ·simp only [DenKK] at hk
  obtain ⟨kk, _, _, _, ⟨z, _⟩, _⟩ := hk
  cases kk <;> cases z
 ·obtain rfl : c' = c := by cases ec; rfl
  obtain ⟨ho, _⟩ := (show ObjOk X.prog X.w H s.heap e (.frz o w) from I.hok e _ f1)
  have no : PySem.W.notCls o = true := by unfold PySem.W.notCls; rw [f0]
  rcases f4 with ⟨d0, _⟩ | ⟨dx, od, d0, d1⟩
  ·exact ⟨e, o, C, none, rfl, f3, ⟨ho, f2, no, by rw [d0]; trivial⟩⟩
  ·obtain ⟨hd, _⟩ := (show ObjOk X.prog X.w H s.heap dx (.frz od (.xd xs)) from I.hok dx _ d1)
   exact ⟨e, o, C, some od, rfl, f3, ⟨ho, f2, no, by rw [d0]; exact hd⟩⟩
def IsIn (K : PySem.W.Frag) (c : Str) (cu : Value) (b : Bool) : Prop := ∃ C, XCls K c C ∧ PySem.W.kitOne K (.ref C) cu = some b
def rIsX (K : Kx) (cv : V) (cu : Value) : List V → Hp → VK → Prop := fun xs H Q => ∃ v c kvs b, xs = [v, cv] ∧ Den K H (.dict ((.none, .str c) :: kvs)) v ∧ IsIn K.K c cu b ∧ Q (.bl b) H
theorem call_isX {X : Cx} {cv : V} {cu : Value} (hc : ∀ u, RelV cv u → u = cu) : CallR X (.builtin "isinstance") (rIsX X.kx cv cu) := by
 rintro pins s σ H xs us Q I rv ⟨v, c, kvs, b, rfl, hd, ⟨C, hX, hk⟩, q⟩
 cases rv with
 | cons r1 r2 =>
  cases r2 with
  | cons r2 r3 =>
   cases r3
   rename_i u1 u2
   obtain rfl := hc _ r2
   obtain ⟨e, ox, C', odo, rfl, hn, J⟩ := exc_inst I hd r1
   obtain rfl : C' = C := by rw [hX.ns] at hn; cases hn; rfl
   exact PySem.W.kia_one (kitx_exc hX) I.kIn J hk (fun z => nomatch z) fun tk => ⟨.bl b, H, I.tok tk, rfl, q⟩
def wIsX (K : PySem.W.Frag) (cu : Value) (we : WE) : WE := fun m Kc => we m fun r m' => ∃ c kvs b, r = .imm (.dict ((.none, .str c) :: kvs)) ∧ IsIn K c cu b ∧ Kc (.imm (.bool b)) m'
section
variable {X : Cx} {e : Expr} {we : WE} {p p2 pos : Pos} {x : Str}
theorem isX_rd {cv : V} {cu : Value} {tn : TE} (hn : ∀ σ H Q, Q cv H → tn σ H Q) {σ : St} {H : Hp} {Q : VK} (h : tM X.kx (wIsX X.K cu we) σ H Q) : tCB (rIsX X.kx cv cu) (tCons (tM X.kx we) (tCons tn tNil)) σ H Q := by
 obtain ⟨α, m, Kc, Rl, hw, fin⟩ := h
 refine ⟨α, m, _, Rl, hw, fun r m' v H' k n Rl' rr F => hn _ _ _ ?_⟩
 obtain ⟨c, kvs, b, rfl, hi, k⟩ := k
 exact ⟨v, c, kvs, b, rfl, rr, hi, fin _ m' _ H' k n Rl' (rr_bl _) F⟩
theorem me_isX {C : Addr} (he : ME X e we) (hmi : X.mg "isinstance" = none) (hm : X.mg x = some (.ref C)) (hgi : Gl X "isinstance" := by rfl) (hg : Gl X x := by rfl) (hd : (x == ("__debug__" : Str)) = false := by decide)
  (he1 : starEach [e, .Name x p2] X.env = (false, eval e X.env) :: starEach [.Name x p2] X.env := by rfl) (he2 : starEach [.Name x p2] X.env = (false, eval (.Name x p2) X.env) :: starEach [] X.env := by rfl) (hpl : (backTo pos (starEach [.Name x p2] X.env)).any (·.1) = false := by rfl) :
  ME X (.Call (.Name "isinstance" p) [e, .Name x p2] [] pos) (wIsX X.K (.ref C) we) :=
 (pe_callB (call_isX (cv := .ref C) fun u r => r) hgi hmi bt_isinstance (pa_cons he (pa_cons (show PE X (.Name x p2) (fun _ H Q => Q (.ref C) H) from fun pins s σ H Q I q => ld_glob I hg hm ⟨.ref C, H, I, rfl, q⟩ hd) pa_nil he2) he1) (by decide) (by decide) he1 hpl).wk fun _ _ _ h => isX_rd (fun _ _ _ q => q) h
theorem me_isXT {T : String} (he : ME X e we) (hmi : X.mg "isinstance" = none) (hm : X.mg x = none) (hv : bootBuiltins x = some (.type T)) (hgi : Gl X "isinstance" := by rfl) (hg : Gl X x := by rfl) (hn : x ≠ "__name__" := by decide) (hd : (x == ("__debug__" : Str)) = false := by decide)
  (he1 : starEach [e, .Name x p2] X.env = (false, eval e X.env) :: starEach [.Name x p2] X.env := by rfl) (he2 : starEach [.Name x p2] X.env = (false, eval (.Name x p2) X.env) :: starEach [] X.env := by rfl) (hpl : (backTo pos (starEach [.Name x p2] X.env)).any (·.1) = false := by rfl) :
  ME X (.Call (.Name "isinstance" p) [e, .Name x p2] [] pos) (wIsX X.K (.type T) we) :=
 (pe_callB (call_isX (cv := .ty T) fun u r => r) hgi hmi bt_isinstance (pa_cons he (pa_cons (pe_bltn hg hm hv (v := .ty T) rfl hn hd) pa_nil he2) he1) (by decide) (by decide) he1 hpl).wk fun _ _ _ h => isX_rd (fun _ _ _ q => q) h
end
def IsIns (K : PySem.W.Frag) (c : Str) (Cs : List Addr) (b : Bool) : Prop := ∃ C, XCls K c C ∧ PySem.W.kitAny K (.ref C) (Cs.map Value.ref) = some b
def tNms (Cs : List Addr) : TA := fun _ H Q => Q (Cs.map V.ref) H
section
variable {X : Cx} {e : Expr} {we : WE} {p pos tpos : Pos}
theorem nm_nil : PA X [] (tNms []) := pa_nil
theorem nm_cons {x : Str} {C : Addr} {Cs : List Addr} {es : List Expr} {p2 : Pos} (hm : X.mg x = some (.ref C)) (hr : PA X es (tNms Cs)) (hg : Gl X x := by rfl) (hd : (x == ("__debug__" : Str)) = false := by decide) (hs : starEach (.Name x p2 :: es) X.env = (false, eval (.Name x p2) X.env) :: starEach es X.env := by rfl) : PA X (.Name x p2 :: es) (tNms (C :: Cs)) :=
 (pa_cons (show PE X (.Name x p2) (fun _ H Q => Q (.ref C) H) from fun pins s σ H Q I q => ld_glob I hg hm ⟨.ref C, H, I, rfl, q⟩ hd) hr hs).wk fun _ _ _ h => h
theorem refs_rel : ∀ {Cs : List Addr} {us : List Value}, Vals (Cs.map V.ref) us → us = Cs.map Value.ref
 | [], _, h => by cases h; rfl
 | C :: Cs, _, h => by
  cases h with
  | cons r t => rw [show _ = Value.ref C from r, refs_rel t]; rfl
def rIsXs (K : Kx) (Cs : List Addr) : List V → Hp → VK → Prop := fun xs H Q => ∃ v t c kvs b, xs = [v, .ref t] ∧ H t = some (.tup (Cs.map V.ref)) ∧ Den K H (.dict ((.none, .str c) :: kvs)) v ∧ IsIns K.K c Cs b ∧ Q (.bl b) H
theorem call_isXs {Cs : List Addr} : CallR X (.builtin "isinstance") (rIsXs X.kx Cs) := by
 rintro pins s σ H xs us Q I rv ⟨v, t, c, kvs, b, rfl, ht, hd, ⟨C, hX, hk⟩, q⟩
 cases rv with
 | cons r1 r2 =>
  cases r2 with
  | cons r2 r3 =>
   cases r3
   rename_i u1 u2
   cases (show u2 = Value.ref t from r2)
   obtain ⟨e, ox, C', odo, rfl, hn, J⟩ := exc_inst I hd r1
   obtain rfl : C' = C := by rw [hX.ns] at hn; cases hn; rfl
   obtain ⟨_, its, rt, o, h1, h2, h3, n, h4⟩ := (show ObjOk X.prog X.w H s.heap t (.tup (Cs.map V.ref)) from I.hok t _ ht)
   have ei := refs_rel rt
   subst ei
   obtain ⟨c0, d0, dt, sl⟩ := o
   dsimp only at h2 h4
   subst h2 h4
   exact PySem.W.kia_tup (kitx_exc hX) I.kIn J (by simpa using h1) hk (fun z => nomatch z) fun tk => ⟨.bl b, H, I.tok tk, rfl, q⟩
def wIsXs (K : PySem.W.Frag) (Cs : List Addr) (we : WE) : WE := fun m Kc => we m fun r m' => ∃ c kvs b, r = .imm (.dict ((.none, .str c) :: kvs)) ∧ IsIns K c Cs b ∧ Kc (.imm (.bool b)) m'
theorem me_isXs {Cs : List Addr} {es : List Expr} {x1} (he : ME X e we) (hn : PA X es (tNms Cs)) (hl : Cs.length ≤ sizeLine) (hmi : X.mg "isinstance" = none) (hgi : Gl X "isinstance" := by rfl)
  (he1 : starEach [e, .Tuple es x1 tpos] X.env = (false, eval e X.env) :: starEach [.Tuple es x1 tpos] X.env := by rfl) (he2 : starEach [.Tuple es x1 tpos] X.env = (false, eval (.Tuple es x1 tpos) X.env) :: starEach [] X.env := by rfl) (hpl : (backTo pos (starEach [.Tuple es x1 tpos] X.env)).any (·.1) = false := by rfl) :
  ME X (.Call (.Name "isinstance" p) [e, .Tuple es x1 tpos] [] pos) (wIsXs X.K Cs we) :=
 (pe_callB (call_isXs (Cs := Cs)) hgi hmi bt_isinstance (pa_cons he (pa_cons (pe_tup hn) pa_nil he2) he1) (by decide) (by decide) he1 hpl).wk fun σ H Q ⟨α, m, Kc, Rl, hw, fin⟩ => by
 refine ⟨α, m, _, Rl, hw, fun r m' v H' k n Rl' rr F => ⟨by rw [List.length_map]; exact hl, fun t ht => ?_⟩⟩
 obtain ⟨c, kvs, b, rfl, hi, k⟩ := k
 have pe : Pers H' (upd H' t (.tup (Cs.map V.ref))) := pers_upd (.inl ht)
 exact ⟨v, t, c, kvs, b, rfl, upd_same, Den.mono pe rr, hi, fin _ m' _ _ k n (Rl'.lay ht) (rr_bl _) (F.trans (frm_upd ht))⟩
end
section
variable {prog : Program} {w : World} {A : Around} {E : Value → Shared → Prop} {s : Shared} {K : PySem.W.Frag} {x D : Addr} {ox : Obj} {odo : Option Obj} {v : Value} {f : Str}
theorem exc_field {expr : Bool} {Q : Value → Shared → Prop} (X : K.In s.heap) (I : PySem.W.InstAt s.heap x ox D odo) (hga : PySem.W.findIn K (.ref D) "__getattribute__" = some (some (.builtin "BaseException.__getattribute__"))) (hk : PySem.W.findIn K (.ref D) "__getattr__" = some none)
  (hf : PySem.W.findObj K D odo f = some (.value v)) (hB : PySem.W.mroIn K D (.type "BaseException") = some true) (hv : PySem.W.handedIn v = true)
  (h : Q v { s with toks := s.toks + 1 }) : wpAny (model prog w) A (getAttr (.ref x) f expr) Q E s := by
 obtain ⟨hh, g, d, t, os⟩ := s
 have La := I.type (M := model prog w)
 have Lb := PySem.W.looks_findIn (M := model prog w) X hga
 have Lc := PySem.W.looks_findIn (M := model prog w) X hk
 unfold getAttr getAttrBy
 refine wpAny_bind (wpAny_mkText (wpAny_holding (wpAny_bind (La.at (wpAny_bind (Lb.at ?_))))))
 have f3 := PySem.F.attr_ValueError.ga.bind (.ref x)
 have other : (Value.builtin "BaseException.__getattribute__" == Value.builtin "object.__getattribute__") = false := by decide +kernel
 have hx1 : (onTheHeap (Value.ref D) && Value.builtin "BaseException.__getattribute__" == Value.builtin "object.__getattribute__") = false := by rw [other]; cases onTheHeap (Value.ref D) <;> rfl
 dsimp only at La Lb Lc h ⊢
 rw [if_neg (by rw [hx1]; exact Bool.false_ne_true)]
 unfold getAttrByItsOwn
 repeat (any_goals (first | assumption | with_reducible refine wpAny_bind (La.at ?_) | with_reducible refine wpAny_bind (Lc.at ?_) | wp_step))
 have ho : (expr && onTheHeap (Value.builtin "BaseException.__getattribute__")) = false := by cases expr <;> rfl
 rw [if_neg (by rw [ho]; exact Bool.false_ne_true)]
 repeat (any_goals (first | wp_step | assumption))
 have Ld := PySem.W.looks_mroIn (M := model prog w) X hB
 have Le := PySem.W.looks_find (M := model prog w) X I hf
 dsimp only at Ld Le
 have hkd : builtinKind "BaseException.__getattribute__" = some .slot := by decide +kernel
 have hsp : splitId "BaseException.__getattribute__" = some ("BaseException", "__getattribute__") := by decide +kernel
 have har := PySem.F.args_bexc_ga (.ref x) (.str f t)
 refine codeAny_call_builtin PySem.F.attr_ValueError.ga.plain PySem.F.entry_bexc_ga ?_
 simp only [checkBuiltinCall, hkd, hsp]
 refine wpAny_bind ?_
 unfold isInstance
 repeat (first | assumption | with_reducible refine wpAny_bind (La.at ?_) | with_reducible refine Ld.at ?_ | with_reducible refine wpAny_bind (Ld.at ?_) | with_reducible refine Le.at ?_ | with_reducible refine wpAny_bind (Le.at ?_) | wp_step)
 exact (show wpAny _ _ (handedOut v) _ _ _ by rw [PySem.W.handedOut_of hv]; exact wpAny_pure h)
end
def fldD (f : Str) : List (PyData × PyData) → Option PyData
 | [] => none
 | (k, d) :: r => match k with
  | .str g => if g = f then some d else fldD f r
  | _ => fldD f r
theorem DenXF.get {K : Kd} {H : Hp} {f : Str} {d : PyData} : ∀ {kvs : List (PyData × PyData)} {xs : List (Str × V)}, DenXF K H kvs xs → fldD f kvs = some d → ∃ v, xs.lookup f = some v ∧ Den K H d v
 | [], _, _, e => by cases e
 | (.str g, d0) :: r, _, h, e => by
  simp only [DenXF] at h
  obtain ⟨v, vs, rfl, h1, h2⟩ := h
  simp only [fldD] at e
  split at e
  ·rename_i q
   cases e
   exact ⟨v, by rw [q]; simp [List.lookup], h1⟩
  ·rename_i q
   obtain ⟨v', e1, e2⟩ := DenXF.get h2 e
   have : (f == g) = false := by simp; exact fun z => q z.symm
   exact ⟨v', by simp only [List.lookup, this]; exact e1, e2⟩
 | (.none, _) :: r, _, h, e => by simp only [DenXF] at h; exact DenXF.get h e
 | (.bool _, _) :: r, _, h, e => by simp only [DenXF] at h; exact DenXF.get h e
 | (.int _, _) :: r, _, h, e => by simp only [DenXF] at h; exact DenXF.get h e
 | (.list _, _) :: r, _, h, e => by simp only [DenXF] at h; exact DenXF.get h e
 | (.tuple _, _) :: r, _, h, e => by simp only [DenXF] at h; exact DenXF.get h e
 | (.dict _, _) :: r, _, h, e => by simp only [DenXF] at h; exact DenXF.get h e
structure XAt (K : PySem.W.Frag) (c f : Str) : Prop where
 ex : ∃ C, XCls K c C ∧ PySem.W.findIn K (.ref C) f = some none
def wXf (K : PySem.W.Frag) (f : Str) (we : WE) : WE := fun m Kc => we m fun r m' => ∃ c kvs d, r = .imm (.dict ((.none, .str c) :: kvs)) ∧ fldD f kvs = some d ∧ XAt K c f ∧ Kc (.imm d) m'
theorem me_xf {X : Cx} {e : Expr} {we : WE} {f : Str} {pos : Pos} (he : ME X e we) (hb : attributeBase e f X.env (eval e X.env) = eval e X.env := by rfl) : ME X (.Attribute e f pos) (wXf X.K f we) := by
 rintro pins s σ H Q I ⟨α, m, Kc, Rl, hw, fin⟩
 refine attr_of hb (thn (he pins s σ H _ I ⟨α, m, _, Rl, hw, fun r m' v H' k n Rl' rr F => (⟨r, m', k, n, Rl', rr, F⟩ : ∃ r m', (∃ c kvs d, r = .imm (.dict ((.none, .str c) :: kvs)) ∧ fldD f kvs = some d ∧ XAt X.K c f ∧ Kc (.imm d) m') ∧ m'.np = m.np ∧ Rel X.kx α m' σ H' ∧ RelR X.kx α H H' r v ∧ Frm α H H')⟩) fun u s1 ⟨v, H1, I1, rv, r, m', ⟨c, kvs, d, hr, hf, ⟨C, hX, hno⟩, k⟩, n, Rl', rr, F⟩ => ?_)
 subst hr
 have h : Den X.kd H1 (.dict ((.none, .str c) :: kvs)) v := rr
 simp only [Den] at h
 obtain ⟨e, rfl, h⟩ := h
 cases (show u = Value.ref e from rv)
 rcases h with ⟨es, _, ⟨_, _, hk⟩, _⟩ | ⟨es, o, _, hk⟩ | ⟨c', xs, ec, ⟨o, w, C', f1, f2, ⟨vs, f0⟩, f3, f4⟩, hx⟩
 ·have := hk .none (by simp)
  cases this
 ·simp only [DenKK] at hk
  obtain ⟨kk, _, _, _, ⟨z, _⟩, _⟩ := hk
  cases kk <;> cases z
 ·obtain rfl : c' = c := by cases ec; rfl
  obtain rfl : C' = C := by
   have := hX.ns
   rw [show PySem.W.nsIn X.K mainGlobals c' = _ from f3] at this; cases this; rfl
  simp only [DenXF] at hx
  obtain ⟨v1, hl, hd1⟩ := hx.get hf
  obtain ⟨ho, _⟩ := (show ObjOk X.prog X.w H1 s1.heap e (.frz o w) from I1.hok e _ f1)
  have no : PySem.W.notCls o = true := by unfold PySem.W.notCls; rw [f0]
  rcases f4 with ⟨d0, rfl⟩ | ⟨dx, od, d0, d1⟩
  ·cases hl
  ·obtain ⟨hd, mA, hn, hr⟩ := (show ObjOk X.prog X.w H1 s1.heap dx (.frz od (.xd xs)) from I1.hok dx _ d1)
   obtain ⟨od', hd', hlk⟩ := lookIn_ns hn
   rw [hd] at hd'; cases hd'
   obtain ⟨u1, hu, ru⟩ := RelO.some_of (v := v1) (o := mA f) (by rw [← hl]; exact hr f)
   refine exc_field I1.kIn ⟨ho, f2, no, by rw [d0]; exact hd⟩ hX.ga hX.nk (PySem.W.findObj_own hX.hd hno rfl (by rw [hlk, hu])) hX.mb (handed_of ru) ?_
   exact ⟨v1, H1, I1.tok _, ru, fin _ m' v1 H1 k n Rl' hd1 F⟩
end L2
namespace L2
open PySem PySem.Spec PyProof.Rows
open Sem (wp)
def initIn (K : PySem.W.Frag) (C : Addr) (bmB : List Value) (newId : String) (fI : Addr) : Bool := match K.lookup C with
 | some ⟨.type "type", _, .cls ci, si⟩ => (match ci.mro, si.toList with
  | .ref C0 :: tl, [_, _, _, _, some (.builtin nq), _] => C0 == C && (nq == newId && (!ci.hasDel && (ci.hasDict && (PySem.W.tailIn K bmB tl && (PySem.W.nsOkIn K ci.ns && (PySem.W.nsIn K ci.ns "__init__" == some (some (.ref fI))))))))
  | _, _ => false)
 | _ => false
theorem init_of_K {K : PySem.W.Frag} {h : Heap} {C fI : Addr} {bmB : List Value} {newId : String} (X : K.In h) (q : initIn K C bmB newId fI = true) :
  ∃ bm N nm q bs sn sub ab col dd k0 k1 k2 k3 k5 mN, h.get? C = some (excClassObj nm q C N bs bm true sn sub ab col dd k0 k1 k2 k3 k5 newId) ∧ h.Ns N mN ∧ mN "__init__" = some (.ref fI) ∧ OwnTail h bmB bm := by
 unfold initIn at q
 split at q
 ·rename_i dd cd sl ho
  split at q
  ·rename_i C0 bm k0 k1 k2 k3 nq k5 hm hs
   simp only [beq_iff_eq, Bool.not_eq_true', Bool.and_eq_true] at q
   obtain ⟨rfl, rfl, hdel, hdi, ht, hok, hni⟩ := q
   rcases cd with ⟨nm, bs, mro, ns, qn, hd, sn, sub, ab, col, del⟩
   dsimp only at hm hdel hdi hok hni
   subst hm hdel hdi
   have hsl : sl = #[k0, k1, k2, k3, some (.builtin nq), k5] := by
    obtain ⟨l⟩ := sl
    simp only at hs
    rw [hs]
   subst hsl
   have hN : h.Ns ns (h.nsMap ns) := .of_isNs (PySem.W.isNs_of_in X hok)
   exact ⟨bm, ns, nm, qn, bs, sn, sub, ab, col, dd, k0, k1, k2, k3, k5, _, X _ _ ho, hN, by
    obtain ⟨o, es, ep, e1, e2, _, hf⟩ := hN
    unfold PySem.W.nsIn at hni
    split at hni
    ·rename_i c d es' n' sl' lk
     have := X _ _ lk
     rw [e1] at this; cases this
     cases e2
     split at hni
     ·rename_i en he
      rw [← hf]
      unfold nsFind findBy
      rw [← Array.find?_toList, he]
      exact Option.some.inj hni
     ·split at hni <;> cases hni
    ·exact absurd hni (by simp), PySem.W.tail_of_in X ht⟩
  ·cases q
 ·cases q
section
variable {w : World} {prog : Program} {E : Value → Shared → Prop} {A : Around} {h : Heap} {g : Array GenState} {d : Drawn} {t : Nat} {os : OsState}
variable {q nm : Str} {N C : Addr} {bs bm bmB : List Value} {hdct : Bool} {sn : List Str} {sub : List Value} {ab : Bool} {col : Option Bool} {dd : Option Addr} {k0 k1 k2 k3 k5 : Option Value} {B newId initId : String}
theorem xmake_type (F : ExcBaseFacts B newId initId bmB) (T : OwnTail h bmB bm) {mN : Str → Option Value} {rest : List Value} {fI : Addr} {oI : Obj} {Q : Fin → Shared → Prop}
  (hC : h.get? C = some (excClassObj nm q C N bs bm hdct sn sub ab col dd k0 k1 k2 k3 k5 newId)) (hn : h.Ns N mN) (hi : mN "__init__" = some (.ref fI)) (hfI : h.get? fI = some oI) (hfc : oI.cls = .type "function")
  (hq : ∀ h' e, Heap.MadeExcOf h h' e (.ref C) rest → wpAny (model prog w) A (call (.ref fI) (.ref e :: rest)) (fun r s' => r = .none ∧ Q (.done (.ret (.ref e))) s') E ⟨h', g, d, t, os⟩) (hrest : rest.length ≤ sizeLine) : wpAny (model prog w) A (Builtin.«type.__call__» ⟨.ref C :: rest, []⟩) Q E ⟨h, g, d, t, os⟩ := by
 repeat (first | with_reducible refine wpAny_madeBy_exc hC ?_ | with_reducible refine wpAny_loadPart_at hC ?_ | wp_step)
 refine codeAny_call_builtin_code (Code.quiet_builtin _ F.quiet) (wpAny_check_new_subT F T hC (codeAny_exc_new_subT F T hC ?_ hrest))
 show wpAny _ _ _ _ _ _
 generalize hp1 : h.push { cls := .type "tuple", data := .seq rest.toArray } = h1
 have s1 : h1.objs.size = h.objs.size + 1 := by rw [← hp1, Heap.size_push]
 have K1 : ∀ b o, h.get? b = some o → h1.get? b = some o := fun b o e => by rw [← hp1]; exact Heap.get?_push_of_some _ e
 have t1 : h1.get? h.objs.size = some { cls := .type "tuple", data := .seq rest.toArray } := by rw [← hp1]; exact Heap.get?_push_at rfl rfl
 generalize hp2 : h1.push { cls := .ref C, data := .fields #[.ref h.objs.size, .none, .none, .none, .bool false, .none] } = h2
 have K2 : ∀ b o, h1.get? b = some o → h2.get? b = some o := fun b o e => by rw [← hp2]; exact Heap.get?_push_of_some _ e
 have e2 : h2.get? (h.objs.size + 1) = some { cls := .ref C, data := .fields #[.ref h.objs.size, .none, .none, .none, .bool false, .none] } := by rw [← hp2]; exact Heap.get?_push_at s1.symm rfl
 have KK : ∀ b o, h.get? b = some o → h2.get? b = some o := fun b o e => K2 b o (K1 b o e)
 have hC2 := KK _ _ hC
 have hn2 : h2.Ns N mN := hn.keeps KK
 have own : (Value.ref C :: bm).contains (.ref C) = true := by simp
 unfold isInstance
 repeat (first | with_reducible refine wpAny_loadPart_at e2 ?_ | (with_reducible refine wpAny_isSubtype_exc hC2 ?_; rw [own]) | wp_step)
 refine (show wpAny _ _ (typeLookup (.ref C) _) _ _ _ from ?_)
 refine wpAny_typeLookup_tail hC2 hn2 (T.keeps KK) F.mroIs F.init.lookup ?_
 rw [hi]
 refine wpAny_holding (wpAny_bind (m := bindSpecial _ _) ?_)
 refine wpAny_bind (m := typeOf _) (wpAny_typeOf (T := "function") ⟨_, KK _ _ hfI, hfc⟩ ?_)
 rw [if_pos (by decide)]
 have mk : Heap.MadeExcOf h h2 (h.objs.size + 1) (.ref C) rest := ⟨KK, Heap.get?_none_of_le (Nat.le_succ _), h.objs.size, e2, Heap.get?_none_of_le (Nat.le_refl _), K2 _ _ t1⟩
 refine wpAny_pure (wpAny_bind (wpAny_mono (hq h2 _ mk) (fun r s' hr => ?_) fun _ _ x => x))
 obtain ⟨rfl, hQ⟩ := hr
 wp_walk
 exact hQ
theorem xmake (F : ExcBaseFacts B newId initId bmB) (T : OwnTail h bmB bm) {mN : Str → Option Value} {rest : List Value} {fI : Addr} {oI : Obj} {Q : Value → Shared → Prop}
  (hC : h.get? C = some (excClassObj nm q C N bs bm hdct sn sub ab col dd k0 k1 k2 k3 k5 newId)) (hn : h.Ns N mN) (hi : mN "__init__" = some (.ref fI)) (hfI : h.get? fI = some oI) (hfc : oI.cls = .type "function")
  (hq : ∀ h' e, Heap.MadeExcOf h h' e (.ref C) rest → wpAny (model prog w) (A.under (.builtin "type.__call__" ⟨.ref C :: rest, []⟩)) (call (.ref fI) (.ref e :: rest)) (fun r s' => r = .none ∧ Q (.ref e) s') E ⟨h', g, d, t, os⟩) (hrest : rest.length ≤ sizeLine) : wpAny (model prog w) A (call (.ref C) rest) Q E ⟨h, g, d, t, os⟩ := by
 have f1 := tc_lookup
 have f2 := tc_bind (.ref C)
 have ty : (⟨h, g, d, t, os⟩ : Shared).TypeIs (.ref C) "type" := ⟨_, hC, rfl⟩
 refine wpAny_call (codeAny_of_tree (show wpAny _ _ (callAny (.ref C) _) _ _ _ from ?_))
 repeat (any_goals (first | with_reducible refine wpAny_loadPart_at hC ?_ | assumption | wp_step))
 exact ⟨rfl, codeAny_call_builtin_at (Code.quiet_builtin _ (by decide +kernel)) entry_typeCall (wpAny_check_type_call_sub hC (xmake_type F T hC hn hi hfI hfc hq hrest))⟩
end
def vErr : List Value := [.type "ValueError", .type "Exception", .type "BaseException", .type "object"]
def isRf : Value → Bool
 | .ref _ => true
 | _ => false
def overVE : List Value → Bool
 | [] => false
 | v :: r => if isRf v then overVE r else (v :: r) == vErr
theorem overVE.pass (self : Value) : ∀ {l : List Value}, overVE l = true → refuseLoop self "__setattr__" l = pure ()
 | [], e => by cases e
 | v :: r, e => by
  unfold overVE at e
  split at e
  ·rename_i hv
   cases v <;> first | cases hv | skip
   rw [refuseLoop_ref]; exact overVE.pass self (l := r) e
  ·rw [beq_iff_eq.mp e]; exact PySem.F.store_ValueError.passes self
def setIn (K : PySem.W.Frag) (C : Addr) : Bool := (PySem.W.clsIn K C).any fun cd => overVE cd.mro && cd.hasDict
structure StoK (K : PySem.W.Frag) (C : Addr) (f : Str) : Prop where
 set : setIn K C = true
 sa : PySem.W.findIn K (.ref C) "__setattr__" = some (some (.builtin "object.__setattr__"))
 no : PySem.W.findIn K (.ref C) f = some none
 ob : PySem.W.mroIn K C (.type "object") = some true
section
variable {prog : Program} {w : World} {A : Around} {E : Value → Shared → Prop} {s : Shared} {K : PySem.W.Frag} {x C : Addr} {ox : Obj} {f : Str} {v : Value}
theorem store_open {od : Option Obj} {Q : Unit → Shared → Prop} (X : K.In s.heap) (I : PySem.W.InstAt s.heap x ox C od) (S : StoK K C f)
  (h : wpAny (model prog w) A.in1 (Builtin.ObjectAttr.storeInOwnDict (.ref x) (.ref C) (.str f s.toks) f v false) (fun fin s' => match fin with | .done (.ret _) => Q () s' | _ => False) E { s with toks := s.toks + 1 }) :
  wpAny (model prog w) A (setAttr (.ref x) f v) Q E s := by
 obtain ⟨cd, hc, hov⟩ := PySem.W.any_some S.set
 obtain ⟨ho, _⟩ := Bool.and_eq_true_iff.mp hov
 obtain SF := PySem.F.store_object
 refine PySem.W.set_plain X I S.sa ?_
 have sub : PySem.W.Looks (model prog w) s.heap (isInstance (.ref x) (.type "object")) true := I.type.andThen (PySem.W.looks_mroIn X S.ob)
 refine codeAny_call_builtin SF.slot.plain SF.entry (@PySem.W.check_slot (model prog w) _ _ { s with toks := s.toks + 1 } "object.__setattr__" "object" "__setattr__" (.ref x) [.str f s.toks, v] [] _ SF.kind SF.split sub (SF.args (.ref x) (.str f s.toks) v) ?_)
 have hm : PySem.W.Looks (model prog w) s.heap (mroOf (.ref C)) cd.mro := (PySem.W.looks_clsIn X hc).andThen .now
 have L3 : PySem.W.Looks (model prog w) s.heap (Builtin.ObjectAttr.storeTaker? none) none := .now
 rw [PySem.W.osa_eq, refuse_eq]
 have I1 : PySem.W.InstAt ({ s with toks := s.toks + 1 } : Shared).heap x ox C od := I
 have X1 : K.In ({ s with toks := s.toks + 1 } : Shared).heap := X
 refine wpAny_bind (wpAny_bind (I1.type.here (wpAny_bind (PySem.W.Looks.here (s := { s with toks := s.toks + 1 }) hm ?_))))
 rw [overVE.pass _ ho]
 refine wpAny_pure (wpAny_bind (I1.type.here (wpAny_bind ((PySem.W.looks_findIn X1 S.no).here (wpAny_bind (PySem.W.Looks.here (s := { s with toks := s.toks + 1 }) L3 ?_))))))
 refine wpAny_mono h (fun fin s' z => ?_) fun _ _ z => z
 cases fin with
 | done r =>
  cases r with
  | ret u => exact z
  | next => exact z.elim
  | brk => exact z.elim
  | cont => exact z.elim
 | again c => exact z.elim
theorem store_new {Q : Unit → Shared → Prop} (X : K.In s.heap) (S : StoK K C f) (hx : s.heap.get? x = some ox) (hc : ox.cls = .ref C) (hno : PySem.W.notCls ox = true) (hd : ox.dict = none) (hfl : ∃ vs, ox.data = .fields vs)
  (h : ∀ h' dx tk, s.heap.get? dx = none → dx ≠ x → h'.Ns1 dx (fun y => if y = f then some v else none) → h'.get? x = some { ox with dict := some dx } → (∀ b o, b ≠ x → s.heap.get? b = some o → h'.get? b = some o) → Q () { s with heap := h', toks := tk }) :
  wpAny (model prog w) A (setAttr (.ref x) f v) Q E s := by
 have I : PySem.W.InstAt s.heap x ox C none := ⟨hx, hc, hno, by rw [hd]; trivial⟩
 obtain ⟨cd, hcl, hov⟩ := PySem.W.any_some S.set
 obtain ⟨_, hdi⟩ := Bool.and_eq_true_iff.mp hov
 refine store_open X I S ?_
 rcases ox with ⟨oc, odi, oda, osl⟩
 obtain ⟨vs, hfl⟩ := hfl
 dsimp only at hc hd hfl
 subst hc hd hfl
 have X1 : K.In ({ s with toks := s.toks + 1 } : Shared).heap := X
 refine wpAny_bind (wpAny_pure (wpAny_bind (wpAny_bind (wpAny_loadPart (s := { s with toks := s.toks + 1 }) hx (wpAny_bind ((PySem.W.looks_clsIn X1 hcl).here ?_))))))
 rw [hdi]
 show wpAny (model prog w) A.in1 (alloc { cls := .type "dict", data := .dict #[] } >>= fun d => update x (fun o => { o with dict := some d }) >>= fun _ => dictMade (.ref C) x d) _ _ _
 generalize hp : s.heap.push { cls := .type "dict", data := .dict #[] } = h1
 have x1 : h1.get? x = some { cls := .ref C, data := .fields vs, slots := osl } := by rw [← hp]; exact Heap.get?_push_of_some _ hx
 have ns : x ≠ s.heap.objs.size := Nat.ne_of_lt (Heap.lt_size hx)
 refine wpAny_bind (m := alloc _) (wpAny_alloc' ?_)
 show wpAny _ _ _ _ _ { s with heap := s.heap.push _, toks := s.toks + 1 }
 rw [hp]
 refine wpAny_bind (wpAny_update' x1 ?_)
 generalize hq : h1.update x (fun o => { o with dict := some s.heap.objs.size }) = h2
 have d1 : h1.get? s.heap.objs.size = some { cls := .type "dict", data := .dict #[] } := by rw [← hp]; exact Heap.get?_push_at rfl rfl
 have d2 : h2.get? s.heap.objs.size = some { cls := .type "dict", data := .dict #[] } := by rw [← hq]; exact (Heap.get?_update_ne _ _ _ _ ns.symm).trans d1
 have x2 : h2.get? x = some { cls := .ref C, dict := some s.heap.objs.size, data := .fields vs, slots := osl } := by rw [← hq]; exact Heap.get?_update_self _ x1 rfl
 have k2 : ∀ b o, b ≠ x → s.heap.get? b = some o → h2.get? b = some o := fun b o hb e => by rw [← hq, Heap.get?_update_ne _ _ _ _ hb, ← hp]; exact Heap.get?_push_of_some _ e
 have n2 : h2.Ns s.heap.objs.size (fun _ => none) := ⟨_, #[], _, d2, rfl, fun e he => absurd he (by simp), fun _ => rfl⟩
 refine wpAny_pure ?_
 show wpAny _ _ (Builtin.ObjectAttr.storeInDict s.heap.objs.size (.str f s.toks) f v) _ _ _
 unfold Builtin.ObjectAttr.storeInDict Builtin.ObjectAttr.newKeyGuard
 refine wpAny_bind (wpAny_pure (wpAny_bind (wpAny_nsSet1 (Heap.Ns1.of_empty n2) fun h3 n3 sb => ?_)))
 obtain ⟨oD, esD, epD, hoD, hdD, hcD⟩ := n3.count (Within.cons f v Within.nil)
 have small : esD.size ≤ sizeLine + 1 := Nat.le_trans hcD (by simp only [List.length_cons, List.length_nil, sizeLine_eq]; omega)
 refine wpAny_bind (wpAny_lookBehind hoD (by rw [hdD]; exact pastItsLine_dict small) ?_)
 refine wpAny_pure (h h3 s.heap.objs.size _ (Heap.get?_none_of_le (Nat.le_refl _)) ns.symm n3 ((sb.2 x ns).trans x2) fun b o hb e => (sb.2 b (Nat.ne_of_lt (Heap.lt_size e))).trans (k2 b o hb e))
theorem store_old {Q : Unit → Shared → Prop} {dx : Addr} {mA : Str → Option Value} {ns : List Str} (X : K.In s.heap) (S : StoK K C f) (hx : s.heap.get? x = some ox) (hc : ox.cls = .ref C) (hno : PySem.W.notCls ox = true) (hd : ox.dict = some dx) (hn : s.heap.Ns1 dx mA) (hw : Within mA ns) (hz : ns.length < 1000)
  (h : ∀ h' tk, h'.Ns1 dx (fun y => if y = f then some v else mA y) → (∀ b, b ≠ dx → h'.get? b = s.heap.get? b) → Q () { s with heap := h', toks := tk }) :
  wpAny (model prog w) A (setAttr (.ref x) f v) Q E s := by
 obtain ⟨od, es0, ep0, e0, r0⟩ := id hn
 have I : PySem.W.InstAt s.heap x ox C (some od) := ⟨hx, hc, hno, by rw [hd]; exact e0⟩
 obtain ⟨cd, hcl, hov⟩ := PySem.W.any_some S.set
 obtain ⟨_, hdi⟩ := Bool.and_eq_true_iff.mp hov
 refine store_open X I S ?_
 rcases ox with ⟨oc, odi, oda, osl⟩
 dsimp only at hc hd
 subst hc hd
 have X1 : K.In ({ s with toks := s.toks + 1 } : Shared).heap := X
 refine wpAny_bind (wpAny_pure (wpAny_bind (wpAny_bind (wpAny_loadPart (s := { s with toks := s.toks + 1 }) hx (wpAny_bind ((PySem.W.looks_clsIn X1 hcl).here ?_))))))
 rw [hdi]
 apply wpAny_pure (a := some dx)
 show wpAny _ _ (Builtin.ObjectAttr.storeInDict dx (.str f s.toks) f v) _ _ _
 unfold Builtin.ObjectAttr.storeInDict Builtin.ObjectAttr.newKeyGuard
 refine wpAny_bind (wpAny_pure (wpAny_bind (wpAny_nsSet1 (s := { s with toks := s.toks + 1 }) hn fun h3 n3 sb => ?_)))
 obtain ⟨oD, esD, epD, hoD, hdD, hcD⟩ := n3.count (Within.cons f v hw)
 have small : esD.size ≤ sizeLine + 1 := Nat.le_trans hcD (by simp only [List.length_cons, sizeLine_eq]; omega)
 refine wpAny_bind (wpAny_lookBehind hoD (by rw [hdD]; exact pastItsLine_dict small) ?_)
 refine wpAny_pure (h h3 _ n3 sb.2)
end
def xo (e C : Addr) (d : Option Addr) : HO := .ext fun h => ∃ vs sl, h.get? e = some { cls := .ref C, dict := d, data := .fields vs, slots := sl } ∧ vs[1]? = some .none
section
variable {X : Cx} {pins : List (Addr × Obj)} {σ : St} {H : Hp} {s : Shared} {h' : Heap} {e C dx : Addr} {A : Around} {E : Value → Shared → Prop}
theorem xo_ok {P : Program} {w : World} {H' : Hp} {d : Option Addr} {vs : Array Value} {sl : Array (Option Value)} (x : h'.get? e = some { cls := .ref C, dict := d, data := .fields vs, slots := sl }) (hv : vs[1]? = some .none) : ObjOk P w H' h' e (xo e C d) :=
 ⟨⟨vs, sl, x, hv⟩, ⟨_, x⟩, fun h1 h2 ⟨vs, sl, z, q⟩ k => ⟨vs, sl, k _ z, q⟩⟩
theorem xo_at {P : Program} {w : World} {d : Option Addr} (k : HOk P w H s.heap) (x : H e = some (xo e C d)) : ∃ vs sl, s.heap.get? e = some { cls := .ref C, dict := d, data := .fields vs, slots := sl } ∧ vs[1]? = some .none := (k e _ x).1
theorem Inv.twoX {o1 o2 : HO} {t' : Nat} (I : Inv X pins σ H s) (he : ∃ φ, H e = some (.ext φ)) (nd : s.heap.get? dx = none) (ne : dx ≠ e) (k : ∀ b u, b ≠ e → s.heap.get? b = some u → h'.get? b = some u) (n1 : ObjOk X.prog X.w (upd (upd H dx o2) e o1) h' e o1) (n2 : ObjOk X.prog X.w (upd (upd H dx o2) e o1) h' dx o2) :
  Inv X pins σ (upd (upd H dx o2) e o1) { s with heap := h', toks := t' } := by
 obtain ⟨φ, he⟩ := he
 have hd : H dx = none := I.hok.nil nd
 have out : ∀ b u, H b = some u → b ≠ e → (upd (upd H dx o2) e o1) b = some u := fun b u q hb => by
  rw [upd_ne hb, upd_ne fun z => by rw [z, hd] at q; cases q]; exact q
 have nb : ∀ b, H b = none → b ≠ e := fun b q z => by rw [z, he] at q; cases q
 refine I.un ⟨fun b o q n _ _ => k b o (nb b n) q, fun b o q n _ _ => ⟨o.slots, k b o (nb b n) q⟩, fun b o q n _ => ?_, fun b o q _ => ?_, fun b xs q => out b _ q fun z => (by rw [z, he] at q; cases q), fun b o u q => out b _ q fun z => (by rw [z, he] at q; cases q), fun b ps q => ⟨#[], ?_⟩⟩ fun b u q => ?_
 ·rw [upd_ne (nb b n), upd_ne fun z => by rw [z, nd] at q; cases q]; exact n
 ·by_cases hb : b = e
  ·rw [hb]; exact n1.there
  ·exact ⟨o, k b o hb q⟩
 ·rw [out b _ q fun z => (by rw [z, he] at q; cases q)]; simp
 ·by_cases hb : b = e
  ·rw [hb] at q ⊢
   rw [upd_same] at q; cases q; exact n1
  ·by_cases hb2 : b = dx
   ·rw [hb2] at q ⊢
    rw [upd_ne ne, upd_same] at q; cases q; exact n2
   ·rw [upd_ne hb, upd_ne hb2] at q
    refine (I.hok b u q).stay (fun c v hc z => k c v ?_ z) (fun c z => out c _ z fun y => (by rw [y, he] at z; cases z)) fun c ys z => out c _ z fun y => (by rw [y, he] at z; cases z)
    rcases hc with rfl | hc
    ·exact hb
    ·intro y; rw [y, he] at hc; cases hc
theorem Inv.oneX {a : Addr} {xs : List (Str × V)} {o1 : HO} {t' : Nat} (I : Inv X pins σ H s) (he : H a = some (.xd xs)) (k : ∀ b u, b ≠ a → s.heap.get? b = some u → h'.get? b = some u) (n1 : ObjOk X.prog X.w (upd H a o1) h' a o1) :
  Inv X pins σ (upd H a o1) { s with heap := h', toks := t' } := by
 have nb : ∀ b, H b = none → b ≠ a := fun b q z => by rw [z, he] at q; cases q
 refine I.un ⟨fun b o q n _ _ => k b o (nb b n) q, fun b o q n _ _ => ⟨o.slots, k b o (nb b n) q⟩, fun b o q n _ => by rw [upd_ne (nb b n)]; exact n, fun b o q _ => ?_, fun b xs q => by rw [upd_ne fun z => (by rw [z, he] at q; cases q)]; exact q, fun b o u q => by rw [upd_ne fun z => (by rw [z, he] at q; cases q)]; exact q, fun b ps q => ⟨#[], by rw [upd_ne fun z => (by rw [z, he] at q; cases q), q]; simp⟩⟩ fun b u q => ?_
 ·by_cases hb : b = a
  ·rw [hb]; exact n1.there
  ·exact ⟨o, k b o hb q⟩
 ·by_cases hb : b = a
  ·rw [hb] at q ⊢
   rw [upd_same] at q; cases q; exact n1
  ·rw [upd_ne hb] at q
   refine (I.hok b u q).stay (fun c v hc z => k c v ?_ z) (fun c z => by rw [upd_ne fun y => (by rw [y, he] at z; cases z)]; exact z) fun c ys z => by rw [upd_ne fun y => (by rw [y, he] at z; cases z)]; exact z
   rcases hc with rfl | hc
   ·exact hb
   ·intro y; rw [y, he] at hc; cases hc
theorem xd_get {P : Program} {w : World} {xs : List (Str × V)} (k : HOk P w H s.heap) (x : H dx = some (.xd xs)) : ∃ mA, s.heap.Ns1 dx mA ∧ (∀ f, RelO (xs.lookup f) (mA f)) ∧ Within mA (xs.map (·.1)) := by
 obtain ⟨mA, n, r⟩ := k dx _ x
 refine ⟨mA, n, r, fun y hy => ?_⟩
 have := r y
 cases q : xs.lookup y with
 | none =>
  rw [q] at this
  cases e : mA y with
  | none => exact absurd e hy
  | some v => rw [e] at this; exact this.elim
 | some v => exact List.mem_map.mpr ⟨(y, v), PySem.mem_of_lookup q, rfl⟩
theorem setx_new {f : Str} {y : V} {u : Value} {Q : Unit → Shared → Prop} (I : Inv X pins σ H s) (he : H e = some (xo e C none)) (S : StoK X.K C f) (ry : RelV y u)
  (h : ∀ dx s', H dx = none → dx ≠ e → Inv X pins σ (upd (upd H dx (.xd [(f, y)])) e (xo e C (some dx))) s' → Q () s') : wpAny (model X.prog X.w) A (setAttr (.ref e) f u) Q E s := by
 obtain ⟨vs, sl, hx, hv⟩ := xo_at I.hok he
 refine store_new I.kIn S hx rfl rfl rfl ⟨vs, rfl⟩ fun h' dx tk nd ne nn hx' k => h dx _ (I.hok.nil nd) ne ?_
 refine I.twoX ⟨_, he⟩ nd ne k (xo_ok hx' hv) ⟨_, nn, fun g => ?_⟩
 show RelO (List.lookup g [(f, y)]) (if g = f then some u else none)
 by_cases q : g = f
 ·rw [if_pos q, q]; simp only [List.lookup, BEq.rfl]; exact ry
 ·rw [if_neg q]
  have : (g == f) = false := by simp [q]
  simp only [List.lookup, this]; trivial
theorem setx_old {f : Str} {y : V} {u : Value} {xs : List (Str × V)} {Q : Unit → Shared → Prop} (I : Inv X pins σ H s) (he : H e = some (xo e C (some dx))) (hd : H dx = some (.xd xs)) (S : StoK X.K C f) (hz : xs.length < 1000) (ry : RelV y u)
  (h : ∀ s', Inv X pins σ (upd H dx (.xd (putF f y xs))) s' → Q () s') : wpAny (model X.prog X.w) A (setAttr (.ref e) f u) Q E s := by
 obtain ⟨vs, sl, hx, hv⟩ := xo_at I.hok he
 obtain ⟨mA, n, r, wi⟩ := xd_get I.hok hd
 refine store_old I.kIn S hx rfl rfl rfl n wi (by rw [List.length_map]; exact hz) fun h' tk nn k => h _ ?_
 refine I.oneX hd (fun b q hb z => (k b hb).trans z) ⟨_, nn, fun g => ?_⟩
 show RelO ((putF f y xs).lookup g) (if g = f then some u else mA g)
 rw [lookup_putF]
 by_cases q : g = f
 ·rw [if_pos q, if_pos q]; exact ry
 ·rw [if_neg q, if_neg q]; exact r g
end
def sXf (K : PySem.W.Frag) (ta tv : TE) (f : Str) : TS := fun D σ H => tv σ H fun y H1 => ta σ H1 fun x H2 => ∃ e C, x = .ref e ∧ StoK K C f ∧
 ((H2 e = some (xo e C none) ∧ ∀ dx, H2 dx = none → dx ≠ e → D.nx σ (upd (upd H2 dx (.xd [(f, y)])) e (xo e C (some dx)))) ∨
  ∃ dx xs, H2 e = some (xo e C (some dx)) ∧ H2 dx = some (.xd xs) ∧ xs.length < 1000 ∧ D.nx σ (upd H2 dx (.xd (putF f y xs))))
section
variable {X : Cx} {o value : Expr} {f : Str} {pos pos' : Pos} {ta tv : TE}
theorem ps_xf (ha : PE X o ta) (hv : PE X value tv) (hs : swapsWith value (some (.Attribute o f pos')) pos.line X.env = pure false) : PS X (.Assign [.Attribute o f pos'] value pos) (sXf X.K ta tv f) := by
 intro pins s σ H D I h
 refine plainObj_wpAny_Assign_Attribute (thn (hv pins s σ H _ I h) fun u s1 ⟨y, H1, I1, ry, q⟩ => thn (ha pins s1 σ H1 _ I1 q) fun ov s2 ⟨x, H2, I2, rx, e, C, ex, S, q2⟩ => ?_) hs
 subst ex
 obtain rfl : ov = Value.ref e := rx
 rcases q2 with ⟨he, q2⟩ | ⟨dx, xs, he, hd, hz, q2⟩
 ·exact setx_new I2 he S ry fun dx s3 nd ne I3 => ⟨σ, _, I3, q2 dx nd ne⟩
 ·exact setx_old I2 he hd S hz ry fun s3 I3 => ⟨σ, _, I3, q2⟩
end
def clsBody (s : Stmt) : List Stmt := match s with
 | .ClassDef _ _ _ b _ _ _ _ _ _ _ => b
 | _ => []
def spIni (K : PySem.W.Frag) (fs : List Str) : Sp := fun vs H Q _ => ∃ e C vals, vs = .ref e :: vals ∧ vals.length = fs.length ∧ H e = some (xo e C none) ∧ (∀ f ∈ fs, StoK K C f) ∧
 ∀ dx H', H dx = none → dx ≠ e → H' dx = some (.xd (fs.zip vals)) → H' e = some (xo e C (some dx)) → (∀ b, b ≠ e → b ≠ dx → H' b = H b) → Q .non H'
theorem spIni.len {K : PySem.W.Frag} {fs : List Str} {vs : List V} {H : Hp} {Q : VK} {E : XK} (h : spIni K fs vs H Q E) : vs.length = ("self" :: fs : List Str).length := by
 obtain ⟨e, C, vals, rfl, hl, _⟩ := h
 simp [hl]
theorem FnScope.vis {N ps : List Str} {sc : Scope} (S : FnScope N ps sc) {x : Str} (h : x ∈ ps) : Vis sc x := (S.par x h).elim .inl fun z => .inr (.inl z)
section
variable {P : Program} {w : World} {K : PySem.W.Frag} {mg : Str → Option Value} {base : Heap} {qual : Str} {st : Stmt} {fI : Addr} {fd : FuncData} {f g : Str} {p1 p2 p3 p4 q1 q2 q3 q4 : Pos}
theorem ini2 (F : Fun K "__init__" qual st fI fd) (S : FnScope ["self", f, g] ["self", f, g] (defScope st)) (hb : defBody st = [.Assign [.Attribute (.Name "self" p1) f p2] (.Name f p3) p4, .Assign [.Attribute (.Name "self" q1) g q2] (.Name g q3) q4]) (hd : (f == ("__debug__" : Str)) = false) (hc : (f == ("__classdict__" : Str)) = false) (hd2 : (g == ("__debug__" : Str)) = false) (hc2 : (g == ("__classdict__" : Str)) = false) (ne : f ≠ g) :
  FnOk P w K mg base CX0 1 fI fd ["self", f, g] (spIni K [f, g]) := by
 refine F.okX S (fun vs H Q E h => h.len) fun cdv A outer s H vs Q E hr h => ?_
 refine ⟨_, by rw [hb]; exact pss_cons (ps_xf (pe_var (i := 0) rfl (S.vis (by simp))) (pe_var (i := 1) rfl (S.vis (by simp)) hd hc) rfl) (pss_one (ps_xf (pe_var (i := 0) rfl (S.vis (by simp))) (pe_var (i := 2) rfl (S.vis (by simp)) hd2 hc2) rfl)), ?_⟩
 obtain ⟨e, C, vals, rfl, hl, he, hs, q⟩ := h
 match vals, hl with
 | [y, z], _ =>
  refine ⟨y, rfl, .ref e, rfl, e, C, rfl, hs f (by simp), .inl ⟨he, fun dx nd nx => ?_⟩⟩
  refine ⟨z, rfl, .ref e, rfl, e, C, rfl, hs g (by simp), .inr ⟨dx, [(f, y)], upd_same, by rw [upd_ne nx, upd_same], by show 1 < 1000; decide, ?_⟩⟩
  refine q dx _ nd nx (by rw [upd_same]; simp [putF, ne]) (by rw [upd_ne (Ne.symm nx), upd_same]) fun b h1 h2 => by rw [upd_ne h2, upd_ne h1, upd_ne h2]
end
structure IniX (P : Program) (w : World) (K : PySem.W.Frag) (mg : Str → Option Value) (base : Heap) (x : Str) (fs : List Str) : Prop where
 ex : ∃ (C fI : Addr) (fd : FuncData) (oI : Obj), mg x = some (.ref C) ∧ PySem.W.nsIn K mainGlobals x = some (some (.ref C)) ∧ initIn K C vErr "ValueError.__new__" fI = true ∧ PySem.W.keepIn K (.ref C) = true ∧ K.lookup fI = some oI ∧ oI.cls = .type "function" ∧
  FnOk P w K mg base CX0 1 fI fd ("self" :: fs) (spIni K fs) ∧ Binds K fd ("self" :: fs) [] ∧ ∀ f ∈ fs, StoK K C f
def delH (H : Hp) (e : Addr) : Hp := fun b => if b = e then none else H b
section
variable {X : Cx} {pins : List (Addr × Obj)} {σ : St} {H : Hp} {s : Shared} {e : Addr}
theorem Inv.trackO {o : HO} (I : Inv X pins σ H s) (y : Yg X pins e) (hu : H e = none) (new : ObjOk X.prog X.w (upd H e o) s.heap e o) : Inv X pins σ (upd H e o) s := by
 have ne : ∀ b u, H b = some u → b ≠ e := fun b u q z => by rw [z, hu] at q; cases q
 have hok : HOk X.prog X.w (upd H e o) s.heap := fun b u q => by
  by_cases hb : b = e
  ·subst hb
   rw [upd_same] at q; cases q; exact new
  ·rw [upd_ne hb] at q
   exact (I.hok b u q).stay (fun _ _ _ z => z) (fun c z => by rw [upd_ne (ne c _ z)]; exact z) fun c ys z => by rw [upd_ne (ne c _ z)]; exact z
 refine I.stepN (h' := s.heap) (g' := s.gens) (d' := s.drawn) (t' := s.toks) (ch := [e]) (fun b hb => ?_) (fun b o _ _ _ q _ => q) (fun b o _ _ _ q _ => ⟨o.slots, q⟩) (fun b o hc q n => ?_) (fun b o _ q => ⟨o, q⟩) (fun b xs q => ?_) (fun b o u q => ?_) (fun b ps q => ⟨#[], ?_⟩) (fun m hm => hm) hok I.bare
 ·cases List.mem_singleton.mp hb
  exact ⟨.inr y.1, y.2.1, y.2.2.1, y.2.2.2⟩
 ·rw [upd_ne fun z => hc (by rw [z]; exact List.mem_singleton.mpr rfl)]; exact n
 ·rw [upd_ne (ne b _ q)]; exact q
 ·rw [upd_ne (ne b _ q)]; exact q
 ·rw [upd_ne (ne b _ q), q]; simp
theorem Inv.untrack {φ : Heap → Prop} (I : Inv X pins σ H s) (y : Yg X pins e) (he : H e = some (.ext φ)) : Inv X pins σ (delH H e) s := by
 have out : ∀ b u, H b = some u → (∀ φ, u ≠ .ext φ) → delH H e b = some u := fun b u q n => by
  unfold delH
  rw [if_neg fun z => by rw [z, he] at q; cases q; exact n _ rfl]; exact q
 have hok : HOk X.prog X.w (delH H e) s.heap := fun b u q => by
  unfold delH at q
  split at q
  ·cases q
  ·exact (I.hok b u q).stay (fun _ _ _ z => z) (fun c z => out c _ z fun _ => by intro y; cases y) fun c ys z => out c _ z fun _ => by intro y; cases y
 refine I.stepN (h' := s.heap) (g' := s.gens) (d' := s.drawn) (t' := s.toks) (ch := [e]) (fun b hb => ?_) (fun b o _ _ _ q _ => q) (fun b o _ _ _ q _ => ⟨o.slots, q⟩) (fun b o hc q n => ?_) (fun b o _ q => ⟨o, q⟩) (fun b xs q => out b _ q fun _ => by intro y; cases y) (fun b o u q => out b _ q fun _ => by intro y; cases y) (fun b ps q => ⟨#[], ?_⟩) (fun m hm => hm) hok I.bare
 ·cases List.mem_singleton.mp hb
  exact ⟨.inr y.1, y.2.1, y.2.2.1, y.2.2.2⟩
 ·unfold delH; split
  ·rfl
  ·exact n
 ·rw [out b _ q fun _ => by intro y; cases y]; simp
structure MadeX (X : Cx) (pins : List (Addr × Obj)) (σ : St) (H : Hp) (s' : Shared) (e C dx : Addr) (xs : List (Str × V)) (H' : Hp) : Prop where
 inv : Inv X pins σ H' s'
 xf : XF (Yg X pins) H' s'.heap e (.ref C) (some dx)
 raw : ∃ oe vs, s'.heap.get? e = some oe ∧ oe.cls = .ref C ∧ oe.data = .fields vs ∧ vs[1]? = some .none
 fld : H' dx = some (.xd xs)
 new : H dx = none
 old : ∀ b o, H b = some o → H' b = some o
 cls : ∃ nm q N bs bm sn sub ab col dd k0 k1 k2 k3 k5, s'.heap.get? C = some (excClassObj nm q C N bs bm true sn sub ab col dd k0 k1 k2 k3 k5 "ValueError.__new__") ∧ OwnTail s'.heap vErr bm
theorem make_ok {x : Str} {fs : List Str} {C : Addr} {us : List Value} {vs : List V} {Q : Value → Shared → Prop} {E : Value → Shared → Prop} (M : IniX X.prog X.w X.K X.mg X.base x fs) (hns : PySem.W.nsIn X.K mainGlobals x = some (some (.ref C))) (hx : X.ex = []) (hr : Room 2 X.A) (I : Inv X pins σ H s) (r : Vals vs us) (hl : vs.length = fs.length) (hz : us.length ≤ sizeLine)
  (h : ∀ e dx H' s', MadeX X pins σ H s' e C dx (fs.zip vs) H' → Q (.ref e) s') : wpAny (model X.prog X.w) X.A (call (.ref C) us) Q E s := by
 obtain ⟨C0, fI, fd, oI, hm, hns0, hi, _, hlk, hfc, F, hb, hst⟩ := M.ex
 rw [hns] at hns0; cases hns0
 obtain ⟨bm, N, nm, q, bs, sn, sub, ab, col, dd, k0, k1, k2, k3, k5, mN, hO, hN, hini, T⟩ := init_of_K I.kIn hi
 obtain ⟨hp, g, d, t, os⟩ := s
 refine xmake PySem.F.excBase_ValueError T hO hN hini (I.kIn _ _ hlk) hfc (fun h1 e mk => ?_) hz
 have I1 : Inv X pins σ H ⟨h1, g, d, t, os⟩ := I.kept (h' := h1) (t' := t) mk.keeps
 have y : Yg X pins e := I.yg hx mk.new
 have hu : H e = none := I.hok.nil mk.new
 obtain ⟨tt, he, _, _⟩ := mk.there
 have I2 := I1.trackO (o := xo e C none) y hu (xo_ok he rfl)
 have sp : spIni X.K fs (.ref e :: vs) (upd H e (xo e C none)) (fun v H' => v = .non ∧ ∃ dx, H' dx = some (.xd (fs.zip vs)) ∧ H' e = some (xo e C (some dx)) ∧ H dx = none ∧ ∀ b, b ≠ e → b ≠ dx → H' b = H b) (fun _ _ _ => False) :=
  ⟨e, C, vs, rfl, hl, upd_same, hst, fun dx H' nd ne a1 a2 a3 => ⟨rfl, dx, a1, a2, by rw [upd_ne ne] at nd; exact nd, fun b h1 h2 => by rw [a3 b h1 h2, upd_ne h1]⟩⟩
 have r2 : Vals (V.ref e :: vs) (Value.ref e :: us) := .cons rfl r
 have hl2 : ((Value.ref e :: us) ++ []).length = ("self" :: fs : List Str).length := by rw [List.append_nil, ← r2.length]; exact F.len _ _ _ _ sp
 have bd := hb _ (Value.ref e :: us) I2.kIn hl2
 rw [List.append_nil] at bd
 refine wpAny_call (codeAny_mono (F.run _ X.stack _ _ ⟨Value.ref e :: us, []⟩ (Value.ref e :: us) _ _ _ (hr.make C us []) (I2.env0.make C us []) bd r2 sp) fun r s' hq => ?_)
 cases r with
 | error _ => exact False.elim hq
 | ok fl =>
  cases fl with
  | next => exact False.elim hq
  | brk => exact False.elim hq
  | cont => exact False.elim hq
  | ret u =>
   obtain ⟨v, H', I3, rv, rfl, dx, a1, a2, a3, a4⟩ := I2.after hq
   obtain ⟨vs', sl, e1, e2⟩ := xo_at I3.hok a2
   have ned : dx ≠ e := fun z => by rw [z, a2] at a1; cases a1
   refine ⟨rv, h e dx (delH H' e) s' ⟨I3.untrack y a2, ⟨y, if_pos rfl, _, _, e1, rfl, rfl, rfl, .inl e2⟩, ⟨_, _, e1, rfl, rfl, e2⟩, ?_, a3, fun b o ho => ?_, ?_⟩⟩
   ·unfold delH; rw [if_neg ned]; exact a1
   ·have b1 : b ≠ e := fun z => by rw [z, hu] at ho; cases ho
    have b2 : b ≠ dx := fun z => by rw [z, a3] at ho; cases ho
    unfold delH; rw [if_neg b1, a4 b b1 b2]; exact ho
   ·obtain ⟨bm, N, nm, q, bs, sn, sub, ab, col, dd, k0, k1, k2, k3, k5, mN, hO, hN, hini, T⟩ := init_of_K I3.kIn hi
    exact ⟨nm, q, N, bs, bm, sn, sub, ab, col, dd, k0, k1, k2, k3, k5, hO, T⟩
end
section
variable {A : Around} {M : Model} {E : Value → Shared → Prop} {env : Env} {s : Shared}
theorem raise_val {x : Sem Value} {Q : Flow → Shared → Prop} (hh : A.handled = none)
  (h : wpAny M A x (fun v s₁ => ∃ e oe vs C nm q N bs bm hdct sn sub ab col dd k0 k1 k2 k3 k5 newId, v = .ref e ∧ s₁.heap.get? e = some oe ∧ oe.cls = .ref C ∧ oe.data = .fields vs ∧ vs[1]? = some .none ∧ s₁.heap.get? C = some (excClassObj nm q C N bs bm hdct sn sub ab col dd k0 k1 k2 k3 k5 newId) ∧ bm.contains (.type "BaseException") = true ∧ E (.ref e) s₁) E s) : wpAny M A (raiseStmt env (some x) none) Q E s := by
 unfold raiseStmt
 refine wpAny_bind (wpAny_mono h (fun v s1 h1 => ?_) fun _ _ x => x)
 obtain ⟨e, oe, vs, C, nm, q, N, bs, bm, hdct, sn, sub, ab, col, dd, k0, k1, k2, k3, k5, newId, rfl, he, hc, hda, hv, hC, hbase, hE⟩ := h1
 obtain ⟨hp, g, d, tk, os⟩ := s1
 obtain ⟨oc, od, oda, osl⟩ := oe
 dsimp only at hc hda
 subst hc hda
 have below : (Value.ref C :: bm).contains (.type "BaseException") = true := by rw [List.contains_cons, hbase, Bool.or_true]
 repeat (first | with_reducible refine wpAny_loadPart_at he ?_ | with_reducible refine wpAny_loadPart_at hC ?_ | (with_reducible refine wpAny_isSubtype_exc hC ?_; rw [below]) | with_reducible refine wpAny_bind (wpAny_field he rfl hv ?_) | wp_step)
 apply wpAny_raiseNew_none hh hE
end
def zipF : List Str → List PyData → List (PyData × PyData)
 | f :: fs, d :: ds => (.str f, d) :: zipF fs ds
 | _, _ => []
def DenAs (K : Kd) (H : Hp) : List PyData → List V → Prop
 | [], [] => True
 | d :: ds, v :: vs => Den K H d v ∧ DenAs K H ds vs
 | _, _ => False
theorem DenAs.len {K : Kd} {H : Hp} : ∀ {ds : List PyData} {vs : List V}, DenAs K H ds vs → ds.length = vs.length
 | [], [], _ => rfl
 | _ :: _, _ :: _, h => by simp [DenAs.len h.2]
 | [], _ :: _, h => h.elim
 | _ :: _, [], h => h.elim
theorem DenAs.mono {K : Kd} {H H' : Hp} (p : Pers H H') : ∀ {ds : List PyData} {vs : List V}, DenAs K H ds vs → DenAs K H' ds vs
 | [], [], _ => trivial
 | _ :: _, _ :: _, h => ⟨Den.mono p h.1, DenAs.mono p h.2⟩
 | [], _ :: _, h => h.elim
 | _ :: _, [], h => h.elim
theorem DenAs.fields {K : Kd} {H : Hp} : ∀ {fs : List Str} {ds : List PyData} {vs : List V}, DenAs K H ds vs → DenXF K H (zipF fs ds) (fs.zip vs)
 | [], _, _, _ => by simp only [zipF, List.zip_nil_left, DenXF]
 | _ :: _, [], [], _ => by simp only [zipF, List.zip_nil_right, DenXF]
 | f :: fs, d :: ds, v :: vs, h => by
  simp only [zipF, List.zip_cons_cons, DenXF]
  exact ⟨v, _, rfl, h.1, DenAs.fields h.2⟩
 | _ :: _, [], _ :: _, h => h.elim
 | _ :: _, _ :: _, [], h => h.elim
theorem rs_den {K : Kx} {α : Al} {H0 H : Hp} : ∀ {ds : List PyData} {vs : List V}, RelRs K α H0 H (ds.map .imm) vs → DenAs K.toKd H ds vs
 | [], _, h => by cases h; trivial
 | d :: ds, _, h => by
  cases h with
  | cons a t => exact ⟨a, rs_den t⟩
section
variable {X : Cx} {a : Expr} {es : List Expr} {ws : WA} {pos cpos np : Pos} {x : Str} {fs : List Str} {Ex : PyData → MSt → Prop}
def wRaiseI (x : Str) (fs : List Str) (Ex : PyData → MSt → Prop) (ws : WA) : WS := fun D m => ws m fun rs m1 => ∃ ds : List PyData, rs = ds.map .imm ∧ ds.length = fs.length ∧ fs.length ≤ 1000 ∧ Ex (.dict ((.none, .str x) :: zipF fs ds)) m1
theorem MadeX.pers {pins : List (Addr × Obj)} {σ : St} {H H' : Hp} {s' : Shared} {e C dx : Addr} {xs : List (Str × V)} (M : MadeX X pins σ H s' e C dx xs H') : Pers H H' := ⟨fun b xs q => M.old b _ q, fun b o u q => M.old b _ q⟩
theorem ms_raiseI (hC : IniX X.prog X.w X.K X.mg X.base x fs) (hx : XL X Ex) (hr : Room 2 X.A) (hc : X.calm = true) (ha : MA X (a :: es) ws) (hg : Gl X x := by rfl) (hdb : (x == ("__debug__" : Str)) = false := by decide)
  (he : starEach (a :: es) X.env = (false, eval a X.env) :: starEach es X.env := by first | exact star_cons rfl | rfl) (hpl : (backTo cpos (starEach es X.env)).any (·.1) = false := by rfl) :
  MS X (.Raise (some (.Call (.Name x np) (a :: es) [] cpos)) none pos) (wRaiseI x fs Ex ws) := by
 intro pins s σ H D I h
 obtain ⟨α, m, De, Rl, hw, k⟩ := h
 obtain ⟨C, fI, fd, oI, hm, hns, hi, hkp, hlk, hfc, F, hb, hst⟩ := id hC.ex
 rw [arm_exec_Raise]
 simp only [evalOpt, Option.map]
 refine wpAny_bind (wpAny_standAt (raise_val (I.ok.hd hc) (wpAny_bind ?_)))
 have arg := ha cpos pins s σ H (fun vs H1 => ∃ m1 rs, (∃ ds : List PyData, rs = ds.map R.imm ∧ ds.length = fs.length ∧ fs.length ≤ 1000 ∧ Ex (.dict ((.none, .str x) :: zipF fs ds)) m1) ∧ Rel X.kx α m1 σ H1 ∧ RelRs X.kx α H H1 rs vs) I ⟨α, m, _, Rl, hw, fun rs m1 vs H1 kk n1 Rl1 rr F1 => ⟨m1, rs, kk, Rl1, rr⟩⟩
 refine wpAny_Call_Name_kw (ld_glob I hg hm ?_ hdb)
 refine PySem.W.callWith_K (h₀ := X.base) I.ok.mod.kin hkp (thn arg fun us s1 ⟨vs, H1, I1, r, m1, rs, ⟨ds, hrs, hl, hz, hE⟩, Rl1, rr⟩ => ⟨I1.kIn, ?_⟩) he hpl
 subst hrs
 have da := rs_den rr
 have lv : vs.length = fs.length := by rw [← da.len]; exact hl
 have lu : us.length ≤ sizeLine := by rw [← r.length, lv, sizeLine_eq]; omega
 refine make_ok hC hns hx.ex hr I1 r lv lu fun e dx H' s' Mk => wpAny_bind (wpAny_standAt (wpAny_pure ?_))
 obtain ⟨oe, os, z1, z2, z3, z4⟩ := Mk.raw
 obtain ⟨nm, q, N, bs, bm, sn, sub, ab, col, dd, k0, k1, k2, k3, k5, hO, T⟩ := Mk.cls
 refine ⟨e, oe, os, C, nm, q, N, bs, bm, true, sn, sub, ab, col, dd, k0, k1, k2, k3, k5, _, rfl, z1, z2, z3, z4, hO, T.hasType (by decide), ?_⟩
 exact hx.go pins σ H1 H' α m1 _ s' e (.ref C) (some dx) Rl1 hE Mk.pers ⟨rfl, fun b o q _ => Mk.old b o q, fun a ha => (by cases ha), fun a ha => (let ⟨o, eo, _⟩ := Rl1.mem ha; ⟨o, Mk.old a o eo⟩)⟩ Mk.inv Mk.xf ⟨x, C, _, rfl, rfl, hns, .inr ⟨dx, _, rfl, Mk.fld, Mk.new, (da.mono Mk.pers).fields⟩⟩
end
structure IniK (K : PySem.W.Frag) (x : Str) (fs : List Str) : Prop where
 ex : ∃ (C fI : Addr) (fd : FuncData) (oI : Obj), PySem.W.nsIn K mainGlobals x = some (some (.ref C)) ∧ initIn K C vErr "ValueError.__new__" fI = true ∧ PySem.W.keepIn K (.ref C) = true ∧ K.lookup fI = some oI ∧ oI.cls = .type "function" ∧
  (∀ P w mg base, FnOk P w K mg base CX0 1 fI fd ("self" :: fs) (spIni K fs)) ∧ Binds K fd ("self" :: fs) [] ∧ ∀ f ∈ fs, StoK K C f
structure IniM (K : PySem.W.Frag) (mg : Str → Option Value) (x : Str) (fs : List Str) : Prop where
 x : ∀ {P : Program} {w : World} {base : Heap}, IniX P w K mg base x fs
theorem IniK.m {K : PySem.W.Frag} {h : Heap} {mg : Str → Option Value} {x : Str} {fs : List Str} (k : IniK K x fs) (X : K.In h) (G : h.Ns mainGlobals mg) : IniM K mg x fs := ⟨by
 obtain ⟨C, fI, fd, oI, a, b, c, d, e, f, g, i⟩ := k.ex
 exact ⟨C, fI, fd, oI, PySem.W.mg_of X G a, a, b, c, d, e, f _ _ _ _, g, i⟩⟩
section
variable {K : PySem.W.Frag} {x qual : Str} {C fI : Addr} {st : Stmt} {oc kV doc pm cdv ct : Value} {od od' an : Option Addr} {cd : ClassData} {sl sl' : Array (Option Value)} {f g : Str} {p1 p2 p3 p4 q1 q2 q3 q4 : Pos}
theorem IniK.of2 (S : FnScope ["self", f, g] ["self", f, g] (defScope st)) (hb : defBody st = [.Assign [.Attribute (.Name "self" p1) f p2] (.Name f p3) p4, .Assign [.Attribute (.Name "self" q1) g q2] (.Name g q3) q4]) (hd : (f == ("__debug__" : Str)) = false) (hc : (f == ("__classdict__" : Str)) = false) (hd2 : (g == ("__debug__" : Str)) = false) (hc2 : (g == ("__classdict__" : Str)) = false) (ne : f ≠ g)
  (bd : ∀ (kV doc pm : Value) (an : Option Addr) (cdv ct : Value) (us : List Value), us.length = (["self", f, g] : List Str).length → bindArgs (PySem.W.fnOf "__init__" qual (defArgs st) (defBody st) (defScope st) .none kV doc pm an cdv ct) ⟨us, []⟩ = pure ((["self", f, g] : List Str).zip us))
  (a : PySem.W.nsIn K mainGlobals x = some (some (.ref C))) (l0 : K.lookup C = some ⟨oc, od, .cls cd, sl⟩) (n : PySem.W.nsIn K cd.ns "__init__" = some (some (.ref fI)))
  (l : K.lookup fI = some ⟨.type "function", od', .func (PySem.W.fnOf "__init__" qual (defArgs st) (defBody st) (defScope st) .none kV doc pm an cdv ct), sl'⟩) (c : PySem.W.codeIn K cdv qual = true) (k : PySem.W.keepIn K (.ref fI) = true) (kc : PySem.W.keepIn K (.ref C) = true)
  (i : initIn K C vErr "ValueError.__new__" fI = true) (s : setIn K C = true) (sa : PySem.W.findIn K (.ref C) "__setattr__" = some (some (.builtin "object.__setattr__"))) (ob : PySem.W.mroIn K C (.type "object") = some true) (no1 : PySem.W.findIn K (.ref C) f = some none) (no2 : PySem.W.findIn K (.ref C) g = some none) : IniK K x [f, g] :=
 ⟨C, fI, _, _, a, i, kc, l, rfl, fun P w mg base => ini2 (fun_mk l c k) S hb hd hc hd2 hc2 ne, (fun_mk l c k).binds bd, fun y hy => by
  obtain rfl | hy := List.mem_cons.mp hy
  ·exact ⟨s, sa, no1, ob⟩
  ·rw [List.mem_singleton.mp hy]; exact ⟨s, sa, no2, ob⟩⟩
end
def clsA (K : PySem.W.Frag) (c : Str) : Addr := match PySem.W.nsIn K mainGlobals c with | some (some (.ref C)) => C | _ => 0
section
variable {X : Cx} {a e : Expr} {es : List Expr} {ws : WA} {we : WE} {pos p p2 cpos np tpos : Pos} {k n : Nat} {x : Str} {Ex : PyData → MSt → Prop}
theorem me_callX' {sp : SpX} (F : FnX X.prog X.w X.K X.mg X.base x k n sp) (hx : XL X Ex) (hr : Room k X.A) (ha : EA X (a :: es) ws) (hg : Gl X x := by rfl) (hdb : (x == ("__debug__" : Str)) = false := by decide) (he : starEach (a :: es) X.env = (false, eval a X.env) :: starEach es X.env := by first | exact star_cons rfl | rfl) (hpl : (backTo pos (starEach es X.env)).any (·.1) = false := by rfl) :
  EE X (.Call (.Name x p) (a :: es) [] pos) (wCallX sp Ex ws) := ⟨me_callX F hx hr ha.h hg hdb he hpl⟩
theorem ms_try' {body suite : List Stmt} {b₀ : Stmt} {i : Nat} {y c : Str} {cp hp : Pos} {Cc : Addr} {wb : (PyData → MSt → Prop) → WS} {wS : WS} (hC : ClsX X.K X.mg c Cc) (hN : X.N.Nodup) (hi : X.N[i]? = some y) (hk : X.env.scope.names.lookup y = some .local)
  (hb : ∀ (xe' : Value → Shared → Prop) (pn : List (Addr × Obj)) (b : EB) (Ex' : PyData → MSt → Prop), XL (X.tr xe' pn b) Ex' → ESs (X.tr xe' pn b) body (wb Ex')) (hs : ∀ (e : Addr) (xe' : Value → Shared → Prop), ESs (X.sui e xe') (b₀ :: suite) wS)
  (hg : Gl X c := by rfl) (hdb : (c == ("__debug__" : Str)) = false := by decide) (hex : X.ex = [] := by rfl) (hS : X.stack = X.env :: X.outer := by rfl) (hL : X.env.frame = some X.env.locals := by rfl) :
  ES X (.Try body [.ExceptHandler (some (.Name c cp)) (some y) (b₀ :: suite) hp] [] [] pos) (wTry X.K i c wb wS) := ⟨ms_try hC.mg hC.ns hN hi hk (fun xe' pn b Ex' h => (hb xe' pn b Ex' h).h) (fun e xe' => (hs e xe').h) hg hdb hex hS hL⟩
theorem me_isX' {K : PySem.W.Frag} {C : Addr} (he : EE X e we) (hmi : X.mg "isinstance" = none) (hm : X.mg x = some (.ref C)) (hgi : Gl X "isinstance" := by rfl) (hg : Gl X x := by rfl) (hd : (x == ("__debug__" : Str)) = false := by decide)
  (hK : X.K = K := by rfl) (he1 : starEach [e, .Name x p2] X.env = (false, eval e X.env) :: starEach [.Name x p2] X.env := by rfl) (he2 : starEach [.Name x p2] X.env = (false, eval (.Name x p2) X.env) :: starEach [] X.env := by rfl) (hpl : (backTo pos (starEach [.Name x p2] X.env)).any (·.1) = false := by rfl) :
  EE X (.Call (.Name "isinstance" p) [e, .Name x p2] [] pos) (wIsX K (.ref C) we) := by subst hK; exact ⟨me_isX he.h hmi hm hgi hg hd he1 he2 hpl⟩
theorem me_isXT' {K : PySem.W.Frag} {T : String} (he : EE X e we) (hmi : X.mg "isinstance" = none) (hm : X.mg x = none) (hv : bootBuiltins x = some (.type T)) (hgi : Gl X "isinstance" := by rfl) (hg : Gl X x := by rfl) (hn : x ≠ "__name__" := by decide) (hd : (x == ("__debug__" : Str)) = false := by decide)
  (hK : X.K = K := by rfl) (he1 : starEach [e, .Name x p2] X.env = (false, eval e X.env) :: starEach [.Name x p2] X.env := by rfl) (he2 : starEach [.Name x p2] X.env = (false, eval (.Name x p2) X.env) :: starEach [] X.env := by rfl) (hpl : (backTo pos (starEach [.Name x p2] X.env)).any (·.1) = false := by rfl) :
  EE X (.Call (.Name "isinstance" p) [e, .Name x p2] [] pos) (wIsX K (.type T) we) := by subst hK; exact ⟨me_isXT he.h hmi hm hv hgi hg hn hd he1 he2 hpl⟩
theorem me_isXs' {K : PySem.W.Frag} {Cs : List Addr} {x1} (he : EE X e we) (hn : PA X es (tNms Cs)) (hl : Cs.length ≤ sizeLine) (hmi : X.mg "isinstance" = none) (hgi : Gl X "isinstance" := by rfl)
  (hK : X.K = K := by rfl) (he1 : starEach [e, .Tuple es x1 tpos] X.env = (false, eval e X.env) :: starEach [.Tuple es x1 tpos] X.env := by rfl) (he2 : starEach [.Tuple es x1 tpos] X.env = (false, eval (.Tuple es x1 tpos) X.env) :: starEach [] X.env := by rfl) (hpl : (backTo pos (starEach [.Tuple es x1 tpos] X.env)).any (·.1) = false := by rfl) :
  EE X (.Call (.Name "isinstance" p) [e, .Tuple es x1 tpos] [] pos) (wIsXs K Cs we) := by subst hK; exact ⟨me_isXs he.h hn hl hmi hgi he1 he2 hpl⟩
theorem ms_raiseI' {fs : List Str} (hC : IniX X.prog X.w X.K X.mg X.base x fs) (hx : XL X Ex) (hr : Room 2 X.A) (hc : X.calm = true) (ha : EA X (a :: es) ws) (hg : Gl X x := by rfl) (hdb : (x == ("__debug__" : Str)) = false := by decide)
  (he : starEach (a :: es) X.env = (false, eval a X.env) :: starEach es X.env := by first | exact star_cons rfl | rfl) (hpl : (backTo cpos (starEach es X.env)).any (·.1) = false := by rfl) :
  ES X (.Raise (some (.Call (.Name x np) (a :: es) [] cpos)) none pos) (wRaiseI x fs Ex ws) := ⟨ms_raiseI hC hx hr hc ha.h hg hdb he hpl⟩
theorem me_xf' {K : PySem.W.Frag} {f : Str} (he : EE X e we) (hK : X.K = K := by rfl) (hb : attributeBase e f X.env (eval e X.env) = eval e X.env := by rfl) : EE X (.Attribute e f pos) (wXf K f we) := by subst hK; exact ⟨me_xf he.h hb⟩
end
theorem mk_fnX' {P : Program} {w : World} {K : PySem.W.Frag} {mg : Str → Option Value} {base : Heap} {x : Str} {st : Stmt} {N ps : List Str} {n nN k : Nat} {sp : SpX} (D : DefM K mg x st ps) (S : FnScope N ps (defScope st)) (hn : ps.length = n) (hN : N.length = nN) (hle : n ≤ nN) (ar : ∀ as Kc Ke, sp as Kc Ke → as.length = n)
  (hbody : ∀ (cdv : Value) (A : Around) (outer : List Env) (s : Shared) (H : Hp) (E : XK) (f : Addr) (b : EB) (Ke : PyData → Prop), Room k (A.deeper (envOfC x (defScope st) s.heap.objs.size f cdv)) → XL ((cxOf (CXE P w) P w K mg base N x (defScope st) f cdv A outer s H E).wEb b) (fun d _ => Ke d) →
   ∃ ww, ESs ((cxOf (CXE P w) P w K mg base N x (defScope st) f cdv A outer s H E).wEb b) (defBody st) ww ∧ ∀ as Kc, as.length = n → sp as Kc Ke → ww { nx := fun m => Kc (.imm .none) (m.os.take m.np), rt := fun r m => retK Kc m r } (mstart nN as)) :
  FnX P w K mg base x (k + 1) n sp := mk_fnX D S hn hN hle ar fun cdv A outer s H E f b Ke hr hx => let ⟨ww, h1, h2⟩ := hbody cdv A outer s H E f b Ke hr hx; ⟨ww, h1.h, h2⟩
section
variable {m : MSt} {Q : R → MSt → Prop} {ws : WA} {D : MEnds} {Ex : PyData → MSt → Prop} {we : WE}
theorem x_callX {sp : SpX} (h : ws m fun rs m1 => match toAgs m1 rs with | some (as, ks) => ks.Nodup ∧ sp as (fun r outs => Q (mapR ks r) { m1 with os := setAll m1.os ks outs }) (fun d => Ex d m1) | none => False) : wCallX sp Ex ws m Q := h
theorem x_agsX {m1 : MSt} {rs : List R} {as : List Ag} {ks : List Nat} {P : List Ag → List Nat → Prop} (e : toAgs m1 rs = some (as, ks)) (nd : ks.Nodup) (h : P as ks) : (match toAgs m1 rs with | some (as, ks) => ks.Nodup ∧ P as ks | none => False) := by rw [e]; exact ⟨nd, h⟩
theorem x_try {K : PySem.W.Frag} {i : Nat} {c : Str} {wb : (PyData → MSt → Prop) → WS} {wS : WS} (e : m.np = 0) (h : wb (fun d m' => ∃ c' kvs, d = .dict ((.none, .str c') :: kvs) ∧ SubX K c' c ∧ wS { nx := fun m2 => D.nx (m2.unV i), rt := D.rt, bk := fun m2 => D.bk (m2.unV i), ct := fun m2 => D.ct (m2.unV i) } (m'.dropO.setV i (.imm d))) D m) : wTry K i c wb wS D m := ⟨e, h⟩
theorem x_isX {K : PySem.W.Frag} {cu : Value} (h : we m fun r m' => ∃ c kvs b, r = .imm (.dict ((.none, .str c) :: kvs)) ∧ IsIn K c cu b ∧ Q (.imm (.bool b)) m') : wIsX K cu we m Q := h
theorem x_isXs {K : PySem.W.Frag} {Cs : List Addr} (h : we m fun r m' => ∃ c kvs b, r = .imm (.dict ((.none, .str c) :: kvs)) ∧ IsIns K c Cs b ∧ Q (.imm (.bool b)) m') : wIsXs K Cs we m Q := h
theorem x_raiseI {x : Str} {fs : List Str} (h : ws m fun rs m1 => ∃ ds : List PyData, rs = ds.map .imm ∧ ds.length = fs.length ∧ fs.length ≤ 1000 ∧ Ex (.dict ((.none, .str x) :: zipF fs ds)) m1) : wRaiseI x fs Ex ws D m := h
theorem x_flds {rs : List R} {fs : List Str} {P : List PyData → Prop} (ds : List PyData) (e : rs = ds.map .imm) (l : ds.length = fs.length) (z : fs.length ≤ 1000) (h : P ds) : ∃ ds : List PyData, rs = ds.map .imm ∧ ds.length = fs.length ∧ fs.length ≤ 1000 ∧ P ds := ⟨ds, e, l, z, h⟩
theorem x_xf {K : PySem.W.Frag} {f : Str} (h : we m fun r m' => ∃ c kvs d, r = .imm (.dict ((.none, .str c) :: kvs)) ∧ fldD f kvs = some d ∧ XAt K c f ∧ Q (.imm d) m') : wXf K f we m Q := h
theorem x_fld {K : PySem.W.Frag} {f c : Str} {kvs : List (PyData × PyData)} {d : PyData} {P : PyData → Prop} (e : fldD f kvs = some d) (a : XAt K c f) (h : P d) : ∃ c0 kv0 d0, R.imm (.dict ((.none, .str c) :: kvs)) = .imm (.dict ((.none, .str c0) :: kv0)) ∧ fldD f kv0 = some d0 ∧ XAt K c0 f ∧ P d0 := ⟨c, kvs, d, rfl, e, a, h⟩
end
theorem clsA_of {K : PySem.W.Frag} {c : Str} {C : Addr} (h : PySem.W.nsIn K mainGlobals c = some (some (.ref C))) : clsA K c = C := by unfold clsA; rw [h]
structure ClsK (K : PySem.W.Frag) (c : Str) : Prop where
 ns : PySem.W.nsIn K mainGlobals c = some (some (.ref (clsA K c)))
theorem ClsK.of {K : PySem.W.Frag} {c : Str} {C : Addr} (a : PySem.W.nsIn K mainGlobals c = some (some (.ref C))) : ClsK K c := ⟨by rw [clsA_of a]; exact a⟩
theorem ClsK.m {K : PySem.W.Frag} {c : Str} {h : Heap} {mg : Str → Option Value} (k : ClsK K c) (X : K.In h) (G : h.Ns mainGlobals mg) : mg c = some (.ref (clsA K c)) := PySem.W.mg_of X G k.ns
structure ExcK (K : PySem.W.Frag) (c : Str) : Prop where
 ns : PySem.W.nsIn K mainGlobals c = some (some (.ref (clsA K c)))
 ok : PySem.W.excIn K (clsA K c) [.type "ValueError", .type "Exception", .type "BaseException", .type "object"] "ValueError.__new__" = true
theorem ExcK.of {K : PySem.W.Frag} {c : Str} {C : Addr} (a : PySem.W.nsIn K mainGlobals c = some (some (.ref C))) (b : PySem.W.excIn K C [.type "ValueError", .type "Exception", .type "BaseException", .type "object"] "ValueError.__new__" = true) : ExcK K c := ⟨by rw [clsA_of a]; exact a, by rw [clsA_of a]; exact b⟩
theorem ExcK.x {K : PySem.W.Frag} {c : Str} {h : Heap} {mg : Str → Option Value} (k : ExcK K c) (X : K.In h) (G : h.Ns mainGlobals mg) : ClsX K mg c (clsA K c) := ⟨PySem.W.mg_of X G k.ns, k.ns, k.ok⟩
theorem SubX.of {K : PySem.W.Frag} {c c' : Str} {C C' : Addr} (a : PySem.W.nsIn K mainGlobals c' = some (some (.ref C'))) (b : PySem.W.nsIn K mainGlobals c = some (some (.ref C))) (e : PySem.W.exmOne K (.ref C') (.ref C) = some true) : SubX K c' c := ⟨C', C, a, b, e⟩
theorem XCls.of {K : PySem.W.Frag} {c : Str} {C : Addr} (a : PySem.W.nsIn K mainGlobals c = some (some (.ref C))) (b : PySem.W.findIn K (.ref C) "__getattribute__" = some (some (.builtin "BaseException.__getattribute__"))) (b2 : PySem.W.findIn K (.ref C) "__getattr__" = some none) (d : PySem.W.hasDictIn K C = true) (e : PySem.W.findIn K (.ref C) "__class__" = some (some (.builtin "object.__class__")))
  (f : PySem.W.specialIn K (.builtin "object.__class__") "__get__" = some (some (.builtin "getset_descriptor.__get__"))) (g : PySem.W.takesIn K (.builtin "object.__class__") = some true) (h : PySem.W.mroIn K C (.type "object") = some true) (i : PySem.W.mroIn K C (.type "BaseException") = some true) : XCls K c (clsA K c) := by
 rw [clsA_of a]; exact ⟨a, b, b2, d, e, f, g, h, i⟩
theorem IsIn.own {K : PySem.W.Frag} {c c2 : Str} {C C2 : Addr} {b : Bool} (x : XCls K c (clsA K c)) (a : PySem.W.nsIn K mainGlobals c = some (some (.ref C))) (a2 : PySem.W.nsIn K mainGlobals c2 = some (some (.ref C2))) (e : PySem.W.kitOne K (.ref C) (.ref C2) = some b) : IsIn K c (.ref (clsA K c2)) b := ⟨_, x, by rw [clsA_of a, clsA_of a2]; exact e⟩
theorem IsIn.ty {K : PySem.W.Frag} {c : Str} {C : Addr} {T : String} {b : Bool} (x : XCls K c (clsA K c)) (a : PySem.W.nsIn K mainGlobals c = some (some (.ref C))) (e : PySem.W.kitOne K (.ref C) (.type T) = some b) : IsIn K c (.type T) b := ⟨_, x, by rw [clsA_of a]; exact e⟩
inductive Nms (K : PySem.W.Frag) : List Str → List Addr → List Value → Prop where
 | nil : Nms K [] [] []
 | cons {c : Str} {C : Addr} {cs : List Str} {Cs : List Addr} {vs : List Value} : PySem.W.nsIn K mainGlobals c = some (some (.ref C)) → Nms K cs Cs vs → Nms K (c :: cs) (C :: Cs) (.ref C :: vs)
theorem Nms.eq {K : PySem.W.Frag} : ∀ {cs : List Str} {Cs : List Addr} {vs : List Value}, Nms K cs Cs vs → cs.map (clsA K) = Cs ∧ vs = Cs.map Value.ref
 | _, _, _, .nil => ⟨rfl, rfl⟩
 | _, _, _, .cons a t => by
  obtain ⟨e1, e2⟩ := t.eq
  rw [List.map_cons, clsA_of a, e1, e2]; exact ⟨rfl, rfl⟩
theorem IsIns.of {K : PySem.W.Frag} {c : Str} {C : Addr} {cs : List Str} {Cs : List Addr} {vs : List Value} {b : Bool} (x : XCls K c (clsA K c)) (a : PySem.W.nsIn K mainGlobals c = some (some (.ref C))) (n : Nms K cs Cs vs) (e : PySem.W.kitAny K (.ref C) vs = some b) : IsIns K c (cs.map (clsA K)) b := by
 obtain ⟨e1, e2⟩ := n.eq
 exact ⟨_, x, by rw [clsA_of a, e1, ← e2]; exact e⟩
theorem XAt.of {K : PySem.W.Frag} {c f : Str} {C : Addr} (x : XCls K c (clsA K c)) (a : PySem.W.nsIn K mainGlobals c = some (some (.ref C))) (b : PySem.W.findIn K (.ref C) f = some none) : XAt K c f := ⟨_, x, by rw [clsA_of a]; exact b⟩
end L2
namespace K
open PySem L2 M7
theorem bt_ValueError : bootBuiltins "ValueError" = some (.type "ValueError") := rfl
end K
namespace K
open PySem L2
local macro_rules | `(tactic| walk_at "x1") => `(tactic| first
 | with_reducible apply x_seq | with_reducible apply x_bin | ((with_reducible refine' x_var ?xe ?_); (case xe => rfl)) | with_reducible apply x_c
 | with_reducible apply x_test | with_reducible apply x_onBl | with_reducible apply x_onInt | with_reducible apply x_onObj | with_reducible apply x_onImm | with_reducible apply x_on1
 | with_reducible apply x_addI | with_reducible apply x_subI | with_reducible apply x_lt | with_reducible apply x_le | with_reducible apply x_gt | with_reducible apply x_ge | with_reducible apply x_eqI | with_reducible apply x_neI | with_reducible apply x_eqS | with_reducible apply x_neS | with_reducible apply x_isT | ((with_reducible refine' x_nd ?xe ?_); (case xe => first | rfl | assumption)) | with_reducible apply x_rev | with_reducible apply x_min | with_reducible apply x_max | ((with_reducible refine' x_zip ?_)) | with_reducible apply x_enum | with_reducible apply x_mt | with_reducible apply x_ts
 | ((with_reducible refine' x_itemT ?xe ?_); (case xe => rfl)) | ((with_reducible refine' x_itemO ?xf ?xe ?_); (case xf => rfl); (case xe => rfl)) | ((with_reducible refine' x_itemL ?xe ?_); (case xe => rfl)) | ((with_reducible refine' x_itemN ?xe ?_); (case xe => rfl))
 | ((with_reducible refine' x_mod ?xe ?_); (case xe => omega)) | ((with_reducible refine' x_fdiv ?xe ?_); (case xe => exact cfd (by omega) (by omega))) | ((with_reducible refine' x_mulI' ?xe ?_); (case xe => exact mulok (by omega))) | ((with_reducible refine' x_pow ?xe ?_); (case xe => exact ⟨by decide, by decide, by decide⟩))
 | with_reducible apply x_set | with_reducible apply x_bindI | with_reducible apply x_bindO | with_reducible apply x_ret | with_reducible apply x_ifS | with_reducible apply x_next
 | with_reducible apply x_setI | ((with_reducible refine' x_put ?xe ?xf ?_); (case xe => rfl); (case xf => rfl))
 | with_reducible apply x_and | with_reducible apply x_or | with_reducible apply x_not | with_reducible apply x_andV | with_reducible apply x_orV | with_reducible apply x_notV
 | with_reducible apply x_cons | with_reducible apply x_nil | with_reducible apply x_cb | with_reducible apply x_call | ((with_reducible refine' x_ags ?xe ?xf ?_); (case xe => rfl); (case xf => decide))
 | with_reducible apply x_tup | with_reducible apply x_lst | ((with_reducible refine' x_all ?xe ?xf ?_); (case xe => rfl); (case xf => exact of_decide_eq_true rfl)) | with_reducible apply x_imm
 | with_reducible apply x_dix | with_reducible apply x_onAt | with_reducible apply x_onKeyS | with_reducible apply x_dput | with_reducible apply x_disp | with_reducible apply x_pNil | with_reducible apply x_pCons | with_reducible apply x_bindNT | with_reducible apply x_bindA | ((with_reducible refine' x_dgot ?xa ?xb ?xc ?xd ?xe ?_); (case xa => rfl); (case xb => rfl); (case xc => rfl); (case xd => rfl); (case xe => rfl)) | ((with_reducible refine' x_dgotN ?xa ?xb ?xc ?xd ?xe ?_); (case xa => rfl); (case xb => rfl); (case xc => rfl); (case xd => rfl); (case xe => rfl)) | ((with_reducible refine' x_dputs ?xa ?xb ?xc ?xd ?xe ?xf ?_); (case xa => rfl); (case xb => rfl); (case xc => rfl); (case xd => rfl); (case xe => exact of_decide_eq_true rfl); (case xf => rfl)) | ((with_reducible refine' x_onPairs ?xa ?xb ?xc ?xd ?_); (case xa => rfl); (case xb => rfl); (case xc => exact of_decide_eq_true rfl); (case xd => rfl))
 | with_reducible apply x_callX | ((with_reducible refine' x_agsX ?xe ?xf ?_); (case xe => rfl); (case xf => decide)) | with_reducible apply x_raise | with_reducible apply x_raiseI | with_reducible apply x_excI | with_reducible apply x_excP | with_reducible apply x_xf | with_reducible apply x_isX | with_reducible apply x_isXs | ((with_reducible refine' x_rz ?xe ?_); (case xe => exact of_decide_eq_true rfl))
 | ((with_reducible refine' x_onAgs ?xa ?xb ?_); (case xa => rfl); (case xb => decide)) | with_reducible apply x_tupR | with_reducible apply x_dixD | with_reducible apply x_immT | with_reducible apply x_fsC | with_reducible apply x_fsN | with_reducible apply x_trI | with_reducible apply x_trN | with_reducible apply x_trT | with_reducible apply x_fldI | ((with_reducible refine' x_fgot ?xa ?xb ?xc ?xd ?xe ?_); (case xa => rfl); (case xb => rfl); (case xc => rfl); (case xd => rfl); (case xe => rfl)) | ((with_reducible refine' x_fgotN ?xa ?xb ?xc ?xd ?xe ?_); (case xa => rfl); (case xb => rfl); (case xc => rfl); (case xd => rfl); (case xe => rfl)) | with_reducible apply x_meth | ((with_reducible refine' x_insR ?xa ?xb ?xc ?_); (case xa => rfl); (case xb => rfl); (case xc => rfl)) | with_reducible apply x_make | ((with_reducible refine' x_onImms ?xa ?_); (case xa => rfl)) | with_reducible apply x_reps | with_reducible apply x_dputT | with_reducible apply x_empt | with_reducible apply x_dispT | with_reducible apply x_ml0 | ((with_reducible refine' x_onPairsT ?xa ?xb ?xc ?_); (case xa => rfl); (case xb => rfl); (case xc => exact of_decide_eq_true rfl))
 | with_reducible apply x_un | with_reducible apply x_neg | with_reducible apply x_abs | with_reducible apply x_intI | with_reducible apply x_intB
 | with_reducible apply x_len | with_reducible apply x_lenT | with_reducible apply x_lenL | ((with_reducible refine' x_lenO ?xe ?_); (case xe => rfl)) | with_reducible apply x_lenN
 | with_reducible apply x_asg | with_reducible apply x_par | with_reducible apply x_drop | with_reducible apply x_retN | with_reducible apply x_chain
 | with_reducible apply x_ml | ((with_reducible refine' x_ls ?xe ?_); (case xe => rfl))
 | with_reducible apply x_isN | with_reducible apply x_isB | with_reducible apply x_isNotN
 | with_reducible apply x_gM | with_reducible apply x_gNil | with_reducible apply x_gCons | with_reducible apply x_gTup
 | ((with_reducible refine' x_cutL' ?xe ?_); (case xe => rfl)) | with_reducible apply x_cutT | ((with_reducible refine' x_list ?xe ?_); (case xe => rfl)) | ((with_reducible refine' x_tuple ?xe ?_); (case xe => rfl)) | with_reducible apply x_listR
 | with_reducible apply x_sl | with_reducible apply x_noPart | with_reducible apply x_part
 | with_reducible apply x_for | with_reducible apply x_iseq | with_reducible apply x_srcL | with_reducible apply x_srcT | ((with_reducible refine' x_srcO ?xe ?_); (case xe => rfl)) | with_reducible apply x_rng1 | with_reducible apply x_rng2
 | with_reducible apply x_comp1 | with_reducible apply x_comp2 | with_reducible apply x_ifT | with_reducible apply x_noTest | with_reducible apply x_emit | with_reducible apply x_iteT | with_reducible apply x_iteF)
local macro_rules | `(tactic| walk_at "xs") => `(tactic| repeat walk_at "x1")
local macro_rules | `(tactic| walk_at "xn") => `(tactic| first | dsimp only [mapR, setAll, List.set, MSt.setV, MSt.setN, List.take, List.length, List.append, compM, compV, Nat.reduceAdd, List.getD_cons_succ, List.getD_cons_zero, List.nil_append, List.cons_append, setT, lfD] | dsimp only [mapR, setAll, List.set, MSt.setV, MSt.setN, List.take, List.length, List.append, compM, compV, Nat.reduceAdd, List.getD_cons_succ, List.getD_cons_zero, List.nil_append, List.cons_append] | skip)
local macro_rules | `(tactic| walk_at "sc") => `(tactic| exact ⟨rfl, rfl, rfl, by decide +kernel, rfl, by decide +kernel, by decide +kernel⟩)
local macro_rules | `(tactic| walk_at "xx") => `(tactic| (walk_at "xn"; walk_at "xs"))
def top (i : Nat) : Stmt := PySem.Challenge.pw_shorterline_k55_rules_by_turns_refused.main.body.getD i (.Pass ⟨0, 0, 0, 0⟩)
abbrev srefuse_turns : Stmt := top 44
abbrev slets_never : Stmt := top 51
abbrev snever_worse : Stmt := top 54
abbrev s_law_tape : Stmt := top 56
abbrev s_law_draw : Stmt := top 57
abbrev s_law_frac : Stmt := top 58
abbrev s_law_all_lines : Stmt := top 60
abbrev s_law_hall : Stmt := top 59
abbrev s_law_rule : Stmt := top 61
abbrev s_law_told : Stmt := top 62
abbrev slaw : Stmt := top 63
structure Bl (K : PySem.W.Frag) (mg : Str → Option Value) : Prop where
 len : mg "len" = none
 range : mg "range" = none
 list : mg "list" = none
 tuple : mg "tuple" = none
 int : mg "int" = none
 sum : mg "sum" = none
 max : mg "max" = none
 isinstance : mg "isinstance" = none
 repr : mg "repr" = none
 ValueError : mg "ValueError" = none
 m_LineError : mg "LineError" = some (.ref (clsA K "LineError"))
 x_LineError : ClsX K mg "LineError" (clsA K "LineError")
 m_NoNever : mg "NoNever" = some (.ref (clsA K "NoNever"))
 m_NoAlike : mg "NoAlike" = some (.ref (clsA K "NoAlike"))
 m_NoBack : mg "NoBack" = some (.ref (clsA K "NoBack"))
 m_NoBest : mg "NoBest" = some (.ref (clsA K "NoBest"))
 m_NoFraction : mg "NoFraction" = some (.ref (clsA K "NoFraction"))
 m_NoHall : mg "NoHall" = some (.ref (clsA K "NoHall"))
 m_NoRow : mg "NoRow" = some (.ref (clsA K "NoRow"))
 m_NoShares : mg "NoShares" = some (.ref (clsA K "NoShares"))
 m_NoText : mg "NoText" = some (.ref (clsA K "NoText"))
 m_TooMany : mg "TooMany" = some (.ref (clsA K "TooMany"))
 i_NoNever : IniM K mg "NoNever" ["word", "number"]
 sub : SubX K "NoNever" "LineError"
 i1 : IsIn K "NoNever" (.ref (clsA K "NoNever")) true
 i2 : IsIn K "NoNever" (.type "ValueError") true
 i3 : IsIns K "NoNever" ((["NoAlike", "NoBack", "NoBest", "NoFraction", "NoHall"] : List Str).map (clsA K)) false
 i4 : IsIns K "NoNever" ((["NoRow", "NoShares", "NoText", "TooMany"] : List Str).map (clsA K)) false
 a1 : XAt K "NoNever" "word"
 a2 : XAt K "NoNever" "number"
theorem screfuse_turns : FnScope ["one", "other"] ["one", "other"] (defScope srefuse_turns) := by walk_at "sc"
theorem sclets_never : FnScope ["hall", "one", "other", "thing", "leads", "number", "triple"] ["hall", "one", "other", "thing"] (defScope slets_never) := by walk_at "sc"
theorem scnever_worse : FnScope ["hall", "one", "other", "search", "run"] ["hall", "one", "other"] (defScope snever_worse) := by walk_at "sc"
theorem sc_law_tape : FnScope ["_law_script"] ["_law_script"] (defScope s_law_tape) := by walk_at "sc"
theorem sc_law_draw : FnScope ["_law_tape_here", "_law_many", "_law_found", "_law_turn", "_law_cell", "_law_mixed"] ["_law_tape_here", "_law_many"] (defScope s_law_draw) := by walk_at "sc"
theorem sc_law_frac : FnScope ["_law_top", "_law_bottom", "_law_one", "_law_other"] ["_law_top", "_law_bottom"] (defScope s_law_frac) := by walk_at "sc"
theorem sc_law_all_lines : FnScope ["_law_rooms", "_law_found", "_law_room", "_law_longer", "_law_lines"] ["_law_rooms"] (defScope s_law_all_lines) := by walk_at "sc"
theorem sc_law_hall : FnScope ["_law_tape_here", "_law_most", "_law_many", "_law_servers", "_law_come", "_law_whole", "_law_speeds"] ["_law_tape_here", "_law_most"] (defScope s_law_hall) := by walk_at "sc"
theorem sc_law_rule : FnScope ["_law_tape_here", "_law_hall_here", "_law_way", "_law_count"] ["_law_tape_here", "_law_hall_here"] (defScope s_law_rule) := by walk_at "sc"
theorem sc_law_told : FnScope ["_law_hall_here", "_law_one", "_law_other", "_law_things", "_law_found", "e", "_law_others"] ["_law_hall_here", "_law_one", "_law_other", "_law_things"] (defScope s_law_told) := by walk_at "sc"
theorem sclaw : FnScope ["_law_script", "_law_tape_here", "_law_k", "_law_hall_here", "_law_rule_here", "_law_void", "_law_one", "_law_other", "_law_thing", "_law_is_small"] ["_law_script"] (defScope slaw) := by walk_at "sc"
abbrev siNoNever : Stmt := (clsBody (top 7)).getD 0 (.Pass ⟨0, 0, 0, 0⟩)
theorem sciNoNever : FnScope ["self", "word", "number"] ["self", "word", "number"] (defScope siNoNever) := ⟨rfl, rfl, rfl, by decide +kernel, rfl, by decide +kernel, by decide +kernel⟩
theorem biNoNever : ∀ (kV doc pm : Value) (an : Option Addr) (cdv ct : Value) (us : List Value), us.length = (["self", "word", "number"] : List Str).length → bindArgs (PySem.W.fnOf "__init__" "NoNever.__init__" (defArgs siNoNever) (defBody siNoNever) (defScope siNoNever) .none kV doc pm an cdv ct) ⟨us, []⟩ = pure ((["self", "word", "number"] : List Str).zip us) := fun _ _ _ _ _ _ us hl => match us, hl with | [_, _, _], _ => rfl
def spNone : SpM := fun _ _ => False
def noNever : PyData := .dict [(.none, .str "NoNever"), (.str "word", .str "rule"), (.str "number", .int (-1))]
def wdR (w : Str) (ds : List PyData) : PyData := .tuple (.str w :: ds)
def spRefX : SpX := fun as K E => ∃ (w1 w2 : Str) (d1 d2 : List PyData), as = [.imm (wdR w1 d1), .imm (wdR w2 d2)] ∧ (w1 = "turns" ∨ w2 = "turns") ∧ E noNever
def spLetsX : SpX := fun as K E => ∃ (h : Hall) (w1 w2 : Str) (d1 d2 : List PyData) (d : PyData), as = [.imm h.d, .imm (wdR w1 d1), .imm (wdR w2 d2), .imm d] ∧ (w1 = "turns" ∨ w2 = "turns") ∧ E noNever
def spNevX : SpX := fun as K E => ∃ (h : Hall) (w1 w2 : Str) (d1 d2 : List PyData), as = [.imm h.d, .imm (wdR w1 d1), .imm (wdR w2 d2)] ∧ (w1 = "turns" ∨ w2 = "turns") ∧ E noNever
def spToldT : SpM := fun as K => ∃ (h : Hall) (w1 w2 : Str) (d1 d2 ds : List PyData), as = [.imm h.d, .imm (wdR w1 d1), .imm (wdR w2 d2), .imm (.list ds)] ∧ (w1 = "turns" ∨ w2 = "turns") ∧ (ds = [] ∨ ∃ d, ds = [d] ∧ Shp 9 d) ∧ K (.imm (.tuple [.str "rule", .int (-1)])) []
def spRuleT : SpM := fun as K => ∃ (t : PyData) (c : Nat) (h : Hall), as = [.tr t, .imm h.d] ∧ TapeK c t ∧ c < 800000000 ∧ h.Ok ∧ ∀ (w : Str) (ds : List PyData) (t' : PyData), TapeK (c + 3000) t' → K (.imm (wdR w ds)) [[t']]
section
variable {P : Program} {w : World} {K : PySem.W.Frag} {mg : Str → Option Value} {base : Heap}
theorem okrefuse_turns (T : Bl K mg) (D : DefM K mg "refuse_turns" srefuse_turns ["one", "other"]) : FnM P w K mg base "refuse_turns" 1 2 spNone := by
 refine mk_fn' D screfuse_turns rfl (nN := 2) rfl (by decide) ?ar fun cdv A outer s H E f hr => ⟨_, (mss_one' (ms_if' (EW.pt (mw_or' (mt_cmp' (op_eqM hr.units) (me_ix' (mv' 0) mh') me_str' (nomark _)) (mw_or1' (mt_cmp' (op_eqM hr.units) (me_ix' (mv' 1) mh') me_str' (nomark _))))) (mss_one' ms_never') mss_nil')), ?_⟩
 case ar => rintro as Kc h; exact h.elim
 rintro as Kc hl h; exact h.elim
theorem okrefuse_turns_vX (T : Bl K mg) (D : DefM K mg "refuse_turns" srefuse_turns ["one", "other"]) : FnX P w K mg base "refuse_turns" 3 2 spRefX := by
 refine mk_fnX' D screfuse_turns rfl (nN := 2) rfl (by decide) ?ar fun cdv A outer s H E f b Ke hr hx => ⟨_, (mss_one' (ms_if' (EW.pt (mw_or' (mt_cmp' (op_eqM hr.units) (me_ix' (mv' 0) mh') me_str' (nomark _)) (mw_or1' (mt_cmp' (op_eqM hr.units) (me_ix' (mv' 1) mh') me_str' (nomark _))))) (mss_one' (ms_raiseI' T.i_NoNever.x hx (hr.mono (by decide)) rfl (mc' me_str' (mc' (me_un' un_negM mh') mn')))) mss_nil')), ?_⟩
 case ar => rintro as Kc Ke ⟨w1, w2, d1, d2, rfl, _⟩; rfl
 rintro as Kc hl ⟨w1, w2, d1, d2, rfl, hw, k⟩
 refine x_start (MSt.mk [some (.imm (wdR w1 d1)), some (.imm (wdR w2 d2))] [] 0) rfl ?_
 unfold wdR
 walk_at "xs"
 refine x_itemT (atI_nat (j := 0) (xs := .str w1 :: d1) rfl) ?_
 walk_at "xs"
 by_cases h1 : w1 = "turns"
 ·rw [decide_eq_true h1]
  walk_at "xs"
  refine x_flds [.str "rule", .int (-1)] rfl rfl (by decide) ?_
  exact k
 ·have h2 := hw.resolve_left h1
  rw [decide_eq_false h1]
  walk_at "xs"
  refine x_itemT (atI_nat (j := 0) (xs := .str w2 :: d2) rfl) ?_
  walk_at "xs"
  rw [decide_eq_true h2]
  walk_at "xs"
  refine x_flds [.str "rule", .int (-1)] rfl rfl (by decide) ?_
  exact k
theorem oklets_never (T : Bl K mg) (D : DefM K mg "lets_never" slets_never ["hall", "one", "other", "thing"]) (Grefuse_turns : FnM P w K mg base "refuse_turns" 1 2 spNone) : FnM P w K mg base "lets_never" 2 4 spNone := by
 refine mk_fn' D sclets_never rfl (nN := 7) rfl (by decide) ?ar fun cdv A outer s H E f hr => ⟨_, (mz' (ms_expr' (mf' Grefuse_turns (hr.mono (by decide)) (mc' (mv' 1) (mc' (mv' 2) mn'))))
   (mz' ms_never'
   (mz' ms_never'
   (mz' ms_never'
   (mz' ms_never'
   (mss_one' ms_never')))))), ?_⟩
 case ar => rintro as Kc h; exact h.elim
 rintro as Kc hl h; exact h.elim
theorem oklets_never_vX (T : Bl K mg) (D : DefM K mg "lets_never" slets_never ["hall", "one", "other", "thing"]) (Grefuse_turns_vX : FnX P w K mg base "refuse_turns" 3 2 spRefX) : FnX P w K mg base "lets_never" 4 4 spLetsX := by
 refine mk_fnX' D sclets_never rfl (nN := 7) rfl (by decide) ?ar fun cdv A outer s H E f b Ke hr hx => ⟨_, (mz' (ms_expr' (me_callX' Grefuse_turns_vX hx (hr.mono (by decide)) (mc' (mv' 1) (mc' (mv' 2) mn'))))
   (mz' ms_never'
   (mz' ms_never'
   (mz' ms_never'
   (mz' ms_never'
   (mss_one' ms_never')))))), ?_⟩
 case ar => rintro as Kc Ke ⟨h, w1, w2, d1, d2, d, rfl, _⟩; rfl
 rintro as Kc hl ⟨h, w1, w2, d1, d2, d, rfl, hw, k⟩
 refine x_start (MSt.mk [some (.imm h.d), some (.imm (wdR w1 d1)), some (.imm (wdR w2 d2)), some (.imm d), none, none, none] [] 0) rfl ?_
 walk_at "xs"
 exact ⟨w1, w2, d1, d2, rfl, hw, k⟩
theorem oknever_worse (T : Bl K mg) (D : DefM K mg "never_worse" snever_worse ["hall", "one", "other"]) (Grefuse_turns : FnM P w K mg base "refuse_turns" 1 2 spNone) : FnM P w K mg base "never_worse" 2 3 spNone := by
 refine mk_fn' D scnever_worse rfl (nN := 5) rfl (by decide) ?ar fun cdv A outer s H E f hr => ⟨_, (mz' (ms_expr' (mf' Grefuse_turns (hr.mono (by decide)) (mc' (mv' 1) (mc' (mv' 2) mn'))))
   (mz' ms_never'
   (mz' ms_never'
   (mz' ms_never'
   (mss_one' ms_never'))))), ?_⟩
 case ar => rintro as Kc h; exact h.elim
 rintro as Kc hl h; exact h.elim
theorem oknever_worse_vX (T : Bl K mg) (D : DefM K mg "never_worse" snever_worse ["hall", "one", "other"]) (Grefuse_turns_vX : FnX P w K mg base "refuse_turns" 3 2 spRefX) : FnX P w K mg base "never_worse" 4 3 spNevX := by
 refine mk_fnX' D scnever_worse rfl (nN := 5) rfl (by decide) ?ar fun cdv A outer s H E f b Ke hr hx => ⟨_, (mz' (ms_expr' (me_callX' Grefuse_turns_vX hx (hr.mono (by decide)) (mc' (mv' 1) (mc' (mv' 2) mn'))))
   (mz' ms_never'
   (mz' ms_never'
   (mz' ms_never'
   (mss_one' ms_never'))))), ?_⟩
 case ar => rintro as Kc Ke ⟨h, w1, w2, d1, d2, rfl, _⟩; rfl
 rintro as Kc hl ⟨h, w1, w2, d1, d2, rfl, hw, k⟩
 refine x_start (MSt.mk [some (.imm h.d), some (.imm (wdR w1 d1)), some (.imm (wdR w2 d2)), none, none] [] 0) rfl ?_
 walk_at "xs"
 exact ⟨w1, w2, d1, d2, rfl, hw, k⟩
theorem ok_law_tape (T : Bl K mg) (D : DefM K mg "_law_tape" s_law_tape ["_law_script"]) : FnM P w K mg base "_law_tape" 1 1 spTapeK := by
 refine mk_fn' D sc_law_tape rfl (nN := 1) rfl (by decide) ?ar fun cdv A outer s H E f hr => ⟨_, (mss_one' (ms_ret' (me_disp' (mps_cons' me_str' (me_imm' (me_slice' sl_cutM (mv' 0) mo_none' (mo_some' mh'))) (mps_cons' me_str' mh' (mps_cons' me_str' mh' mps_nil')))))), ?_⟩
 case ar => rintro as Kc ⟨ns, rfl, _⟩; rfl
 rintro as Kc hl ⟨ns, rfl, hn, k⟩
 refine x_start (MSt.mk [some (.imm (.list (ns.map .int)))] [] 0) rfl ?_
 walk_at "xs"
 have e : cutD (ns.map PyData.int) none (some 63) = ns.map .int := cutD_all (n := 63) (by rw [List.length_map]; exact hn)
 rw [e]
 exact k _ ⟨ns, 0, 0, rfl, hn, by omega, by omega, by omega⟩
theorem ok_law_draw (T : Bl K mg) (D : DefM K mg "_law_draw" s_law_draw ["_law_tape_here", "_law_many"]) : FnM P w K mg base "_law_draw" 1 2 spDrawK := by
 refine mk_fn' D sc_law_draw rfl (nN := 6) rfl (by decide) ?ar fun cdv A outer s H E f hr => ⟨_, (mz' (ms_if' (mt_cmp' op_gtM (me_dix' hr.units (mv' 0) me_str') mh' (nomark _)) (mz' (ms_set' (i := 2) sc_law_draw.nd rfl (Or.inl rfl) (me_bin' op_modM (me_dix' hr.units (mv' 0) me_str') (mv' 1)))
   (mz' (ms_dput' hr.units (me_bin' op_fdivM (me_dix' hr.units (mv' 0) me_str') (mv' 1)) (mv' 0) me_str')
   (mss_one' (ms_ret' (mv' 2))))) mss_nil')
   (mz' (ms_set' (i := 3) sc_law_draw.nd rfl (Or.inl rfl) (me_dix' hr.units (mv' 0) me_str'))
   (mz' (ms_dput' hr.units (me_bin' op_addM (mv' 3) mh') (mv' 0) me_str')
   (mz' (ms_set' (i := 4) sc_law_draw.nd rfl (Or.inl rfl) (me_bin' op_mulSM mh' (mv' 3)))
   (mz' (ms_if' (mt_cmp' (op_neM hr.units) (me_dix' hr.units (mv' 0) me_str') (me_lst' mn') (nomark _)) (mss_one' (ms_set' (i := 4) sc_law_draw.nd rfl (Or.inl rfl) (me_ix' (me_dix' hr.units (mv' 0) me_str') (me_bin' op_modM (mv' 3) (me_callB' call_lenM (by rfl) T.len bt_len (mc' (me_dix' hr.units (mv' 0) me_str') mn')))))) mss_nil')
   (mz' (ms_if' (EW.pt (mw_and' (mt_cmp' op_geM (mv' 4) (me_bin' op_powM mh' mh') (nomark _)) (mw_and1' (mt_cmp' op_ltM (mv' 3) (me_callB' call_lenM (by rfl) T.len bt_len (mc' (me_dix' hr.units (mv' 0) me_str') mn')) (nomark _))))) (mz' (ms_dput' hr.units (me_bin' op_fdivM (mv' 4) (mv' 1)) (mv' 0) me_str')
   (mss_one' (ms_ret' (me_bin' op_modM (mv' 4) (mv' 1))))) mss_nil')
   (mz' (ms_set' (i := 5) sc_law_draw.nd rfl (Or.inl rfl) (me_bin' op_modM (me_bin' op_mulSM (me_bin' op_addM (me_bin' op_addM (me_bin' op_modM (mv' 4) mh') (me_bin' op_mulSM mh' (mv' 3))) mh') mh') mh'))
   (mz' (ms_set' (i := 5) sc_law_draw.nd rfl (Or.inl rfl) (me_bin' op_modM (me_bin' op_mulSM (me_bin' op_addM (me_bin' op_addM (me_bin' op_fdivM (mv' 5) mh') (me_bin' op_mulSM mh' (mv' 3))) mh') mh') mh'))
   (mss_one' (ms_ret' (me_bin' op_modM (me_bin' op_fdivM (mv' 5) mh') (mv' 1)))))))))))), ?_⟩
 case ar => rintro as Kc ⟨ds, m, c, rfl, _⟩; rfl
 rintro as Kc hl ⟨ds, m, c, rfl, ⟨ns, p, q, rfl, hn, hp0, hp, hq⟩, hc, hm0, hm1, k⟩
 refine x_start (MSt.mk [some (.at 0 []), some (.imm (.int m)), none, none, none, none] [[tapeK ns p q]] 1) rfl ?_
 walk_at "xs"
 refine x_ite (fun h => ?_) (fun h => ?_)
 ·walk_at "xs"
  exact k _ _ (Int.emod_nonneg _ (by omega)) (Int.emod_lt_of_pos _ hm0) ⟨ns, p, q / m, rfl, hn, hp0, by omega, Int.ediv_nonneg hq (by omega)⟩
 ·walk_at "xs"
  have fin : ∀ x : Int, 0 ≤ x → x < m → ∀ q' : Int, 0 ≤ q' → Kc (.imm (.int x)) [[tapeK ns (p + 1) q']] := fun x h1 h2 q' h3 => k _ _ h1 h2 ⟨ns, p + 1, q', rfl, hn, by omega, by omega, h3⟩
  have mixed : ∀ y : Int, 0 ≤ y / 64 % m ∧ y / 64 % m < m := fun y => ⟨Int.emod_nonneg _ (by omega), Int.emod_lt_of_pos _ hm0⟩
  cases ns with
  | nil =>
   refine x_ne rfl rfl rfl rfl ?_
   walk_at "xs"
   refine x_iteF ?_
   walk_at "xs"
   refine x_ite (fun h1 => ?_) (fun h1 => ?_)
   ·walk_at "xs"
    refine x_ite (fun h2 => ?_) (fun h2 => ?_)
    ·walk_at "xs"
     exact fin _ (Int.emod_nonneg _ (by omega)) (Int.emod_lt_of_pos _ hm0) _ (Int.ediv_nonneg (Int.le_trans (by decide) h1) (by omega))
    ·walk_at "xs"
     exact fin _ (mixed _).1 (mixed _).2 _ hq
   ·walk_at "xs"
    exact fin _ (mixed _).1 (mixed _).2 _ hq
  | cons n0 ns =>
   refine x_ne rfl rfl (shaped_ints _) rfl ?_
   walk_at "xs"
   refine x_iteT ?_
   walk_at "xs"
   have hl0 : (0 : Int) < ((List.map PyData.int (n0 :: ns)).length : Int) := by simp only [List.length_map, List.length_cons]; omega
   refine x_mod hl0 ?_
   obtain ⟨x, hx⟩ := atI_ints (ns := n0 :: ns) (i := p % ((List.map PyData.int (n0 :: ns)).length : Int)) (Int.emod_nonneg _ (by omega)) (by have := Int.emod_lt_of_pos p hl0; simp only [List.length_map] at this ⊢; exact this)
   refine x_itemL hx ?_
   walk_at "xs"
   refine x_ite (fun h1 => ?_) (fun h1 => ?_)
   ·walk_at "xs"
    refine x_ite (fun h2 => ?_) (fun h2 => ?_)
    ·walk_at "xs"
     exact fin _ (Int.emod_nonneg _ (by omega)) (Int.emod_lt_of_pos _ hm0) _ (Int.ediv_nonneg (Int.le_trans (by decide) h1) (by omega))
    ·walk_at "xs"
     exact fin _ (mixed _).1 (mixed _).2 _ hq
   ·walk_at "xs"
    exact fin _ (mixed _).1 (mixed _).2 _ hq
theorem ok_law_frac (T : Bl K mg) (D : DefM K mg "_law_frac" s_law_frac ["_law_top", "_law_bottom"]) : FnM P w K mg base "_law_frac" 1 2 spCut := by
 refine mk_fn' D sc_law_frac rfl (nN := 4) rfl (by decide) ?ar fun cdv A outer s H E f hr => ⟨_, (mz' (ms_par' (i := 2) (j := 3) sc_law_frac.nd rfl rfl (by decide) rfl rfl (mc' (mv' 0) (mc' (mv' 1) mn')) rfl)
   (mz' (ms_while' (mt_cmp' op_gtM (mv' 3) mh' (nomark _)) (mss_one' (ms_par' (i := 2) (j := 3) sc_law_frac.nd rfl rfl (by decide) rfl rfl (mc' (mv' 3) (mc' (me_bin' op_modM (mv' 2) (mv' 3)) mn')) rfl)) PassesOwn.never)
   (mss_one' (ms_ret' (me_tup' (mc' (me_bin' op_fdivM (mv' 0) (mv' 2)) (mc' (me_bin' op_fdivM (mv' 1) (mv' 2)) mn'))))))), ?_⟩
 case ar => rintro as Kc ⟨a, b, rfl, _⟩; rfl
 rintro as Kc hl ⟨a, b, rfl, ha, hb0, hb, k⟩
 refine x_start (MSt.mk [some (.imm (.int a)), some (.imm (.int b)), none, none] [] 0) rfl ?_
 walk_at "xs"
 refine x_while (fun n m => ∃ x y : Nat, m = MSt.mk [some (.imm (.int a)), some (.imm (.int b)), some (.imm (.int x)), some (.imm (.int y))] [] 0 ∧ x.gcd y = a.gcd b ∧ x < 1000000000 ∧ y < 1000000000 ∧ n = y) b ⟨a, b, rfl, rfl, ha, hb, rfl⟩ ?_
 rintro n m hn ⟨x, y, rfl, hg, hx1, hy1, rfl⟩
 walk_at "xs"
 refine x_ite (fun hpos => ?_) (fun hz => ?_)
 ·walk_at "xs"
  have hy : 0 < n := by omega
  have h2 := Nat.mod_lt x hy
  exact ⟨x % n, h2, n, x % n, rfl, by rw [Nat.gcd_comm, ← Nat.gcd_rec, Nat.gcd_comm, hg], hy1, by omega, rfl⟩
 ·have hy0 : n = 0 := by omega
  subst hy0
  rw [Nat.gcd_zero_right] at hg
  have hx0 : 0 < x := by rw [hg]; exact Nat.gcd_pos_of_pos_right _ hb0
  walk_at "xs"
  walk_at "xs"
  rw [hg]
  exact k
theorem ok_law_all_lines (T : Bl K mg) (D : DefM K mg "_law_all_lines" s_law_all_lines ["_law_rooms"]) : FnM P w K mg base "_law_all_lines" 1 1 spLinesK := by
 refine mk_fn' D sc_law_all_lines rfl (nN := 5) rfl (by decide) ?ar fun cdv A outer s H E f hr => ⟨_, (mz' (ms_set' (i := 1) sc_law_all_lines.nd rfl (Or.inl rfl) (me_lst' (mc' (me_tup' mn') mn')))
   (mz' (ms_for' (mi_seq' (mv' 0)) (mg_name' (i := 2) sc_law_all_lines.nd rfl (Or.inl rfl)) (mz' (ms_set' (i := 3) sc_law_all_lines.nd rfl (Or.inl rfl) (me_lst' mn'))
   (mz' (ms_for' (mi_seq' (mv' 1)) (mg_name' (i := 4) sc_law_all_lines.nd rfl (Or.inr rfl)) (mss_one' (ms_expr' (me_ml' PySem.F.slot_list_extend PySem.F.type_list_extend mt_extendM (mv' 3) (mc' (me_comp1' (own := ["_law_k"]) (fr := ["_law_lines"]) (ps := [4]) (sc := (defScope s_law_all_lines)) (by exact ⟨rfl, by decide +kernel, by decide +kernel, by decide +kernel, by decide +kernel⟩) (mi_range1' (by rfl) T.range (mc' (me_bin' op_addM (mv' 2) mh') mn')) (fun _ _ _ _ _ => (mg_name' (i := 0) (show List.Nodup ((["_law_k"] : List Str) ++ (["_law_lines"] : List Str)) from by decide +kernel) rfl (Or.inl rfl))) (fun _ _ _ _ _ => mts_nil') (fun _ _ _ _ _ => (me_bin' op_addM (mv' 1) (me_tup' (mc' (mv' 0) mn'))))) mn')))) PassesOwn.never)
   (mss_one' (ms_set' (i := 1) sc_law_all_lines.nd rfl (Or.inl rfl) (mv' 3))))) PassesOwn.never)
   (mss_one' (ms_ret' (mv' 1))))), ?_⟩
 case ar => rintro as Kc ⟨rs, rfl, _⟩; rfl
 rintro as Kc hl ⟨rs, rfl, h4, h6, k⟩
 refine x_start (MSt.mk [some (.imm (.list (rs.map fun (r : Nat) => .int (r : Int)))), none, none, none, none] [] 0) rfl ?_
 walk_at "xs"
 refine x_bindN ?_
 walk_at "xx"
 refine x_loop0 (fun i m => ∃ a c, m = MSt.mk [some (.imm (.list (rs.map fun (r : Nat) => .int (r : Int)))), some (.obj 0), a, none, c] [(((rs.take i).foldl M3.stepL [[]]).map lnD)] 0) ⟨none, none, rfl⟩ ?_ ?_
 ·rintro i d m e n ⟨a, c, rfl⟩
  obtain ⟨r, es, rfl, hi⟩ := gmap e
  have r6 := h6 r (List.mem_of_getElem? es)
  generalize hprev : (rs.take i).foldl M3.stepL [[]] = prev
  have hpl : ∀ a ∈ prev, a.length ≤ 4 := by
   intro a ha
   rw [← hprev] at ha
   have := M3.allR_len (by rw [← M3.allL_eq]; exact ha)
   rw [this, List.length_take]
   omega
  have hpn : prev.length ≤ 2401 := by
   rw [← hprev]
   exact M3.fold_small (by rw [List.length_take]; omega) (fun r hr => h6 r (List.mem_of_mem_take hr))
  have hfold : ((rs.take (i + 1)).foldl M3.stepL [[]]) = M3.stepL prev r := by
   rw [List.take_add_one, es, List.foldl_append, hprev]; rfl
  rw [hfold]
  walk_at "xs"
  refine x_bindN ?_
  walk_at "xx"
  refine x_loopO (fun i m => ∃ a, m = MSt.mk [some (.imm (.list (rs.map fun (r : Nat) => .int (r : Int)))), some (.obj 0), some (.imm (.int r)), some (.obj 1), a] [prev.map lnD, (M3.stepL (prev.take i) r).map lnD] 1) ⟨c, rfl⟩ ?_ ?_ ?_
  ·rintro j m ⟨a, rfl⟩; rfl
  ·rintro j d m ej nj ⟨a, rfl⟩
   obtain ⟨l, el, rfl, hj⟩ := gmap ej
   have hl4 := hpl l (List.mem_of_getElem? el)
   walk_at "xs"
   refine ⟨by omega, by omega, ?_⟩
   have en : ((r : Int) + 1).toNat = r + 1 := by omega
   rw [en]
   walk_at "xn"
   refine x_loop0 (fun z m => ∃ b, m = MSt.mk [b, some (.imm (lnD l))] [prev.map lnD, (M3.stepL (prev.take j) r).map lnD, ((List.range z).map fun y => l ++ [y]).map lnD] 3) ⟨none, rfl⟩ ?_ ?_
   ·rintro z dz m ez nz ⟨b, rfl⟩
    obtain ⟨hz, rfl⟩ := get_range ez
    walk_at "xs"
    refine x_addT (by rw [sizeLine_eq, natD_length]; simp; omega) ?_
    walk_at "xs"
    refine ⟨_, rfl, by rw [sizeLine_eq]; simp; omega, some (.imm (.int (0 + (z : Int)))), ?_⟩
    have ee : ((List.range (z + 1)).map fun y => l ++ [y]).map lnD = ((List.range z).map fun y => l ++ [y]).map lnD ++ [.tuple (natD l ++ [.int (0 + (z : Int))])] := by
     rw [List.range_succ]; simp [lnD, natD]
    rw [ee]
    rfl
   ·rintro m n ⟨b, rfl⟩
    rw [rangeD_length]
    walk_at "xs"
    have hz : ((M3.stepL (prev.take j) r).map lnD).length + (((List.range (r + 1)).map fun y => l ++ [y]).map lnD).length ≤ sizeLine := by
     rw [sizeLine_eq, List.length_map, List.length_map, List.length_map, List.length_range, M3.stepL_length, List.length_take]
     have : min j prev.length * (r + 1) ≤ 2401 * 7 := Nat.mul_le_mul (by omega) (by omega)
     omega
    refine' x_extend (ds := (M3.stepL (prev.take j) r).map lnD) ?eb hz ?_
    case eb => rfl
    have ee : (M3.stepL (prev.take (j + 1)) r).map lnD = (M3.stepL (prev.take j) r).map lnD ++ ((List.range (r + 1)).map fun y => l ++ [y]).map lnD := by
     rw [M3.stepL_take el, List.map_append]
    rw [ee]
    exact ⟨_, rfl⟩
  ·rintro m n ⟨a, rfl⟩
   rw [List.length_map, List.take_length]
   walk_at "xn"
   refine x_set ?_
   refine x_var rfl ?_
   refine x_bindRen [1] (MSt.mk [some (.imm (.list (rs.map fun (r : Nat) => .int (r : Int)))), some (.obj 0), some (.imm (.int r)), none, none] [(M3.stepL prev r).map lnD] 0) (ren_of rfl rfl rfl rfl rfl rfl ⟨rfl, ⟨1, rfl, rfl⟩, rfl, trivial, trivial, trivial⟩) ⟨_, _, rfl⟩
 ·rintro m n ⟨a, c, rfl⟩
  rw [List.length_map, List.take_length, show rs.foldl M3.stepL [[]] = M3.allL rs from rfl, M3.allL_eq]
  walk_at "xs"
  exact k
theorem ok_law_hall (T : Bl K mg) (D : DefM K mg "_law_hall" s_law_hall ["_law_tape_here", "_law_most"]) (G_law_draw : FnM P w K mg base "_law_draw" 1 2 spDrawK) (G_law_frac : FnM P w K mg base "_law_frac" 1 2 spCut) (G_law_all_lines : FnM P w K mg base "_law_all_lines" 1 1 spLinesK) : FnM P w K mg base "_law_hall" 3 2 spHallK := by
 refine mk_fn' D sc_law_hall rfl (nN := 7) rfl (by decide) ?ar fun cdv A outer s H E f hr => ⟨_, (mz' (ms_set' (i := 2) sc_law_hall.nd rfl (Or.inl rfl) (me_ix' (me_lst' (mc' mh' (mc' mh' (mc' mh' (mc' mh' (mc' mh' (mc' mh' (mc' mh' (mc' mh' mn'))))))))) (mf' G_law_draw (hr.mono (by decide)) (mc' (mv' 0) (mc' mh' mn')))))
   (mz' (ms_setc1' (i := 3) (own := ["_law_k"]) (fr := ["_law_tape_here"]) (ps := [0]) (sc := (defScope s_law_hall)) (by exact ⟨rfl, by decide +kernel, by decide +kernel, by decide +kernel, by decide +kernel⟩) sc_law_hall.nd rfl rfl (mi_range1' (by rfl) T.range (mc' (mv' 2) mn')) (fun _ _ _ _ _ => (mg_name' (i := 0) (show List.Nodup ((["_law_k"] : List Str) ++ (["_law_tape_here"] : List Str)) from by decide +kernel) rfl (Or.inl rfl))) (fun _ _ _ _ _ => mts_nil') (fun _ _ _ _ _ => (me_tup' (mc' (me_bin' op_addM mh' (mf' G_law_draw (hr.mono (by decide)) (mc' (mv' 1) (mc' mh' mn')))) (mc' (me_bin' op_addM mh' (mf' G_law_draw (hr.mono (by decide)) (mc' (mv' 1) (mc' mh' mn')))) mn')))))
   (mz' (ms_if' (mt_cmp' (op_eqM hr.units) (mf' G_law_draw (hr.mono (by decide)) (mc' (mv' 0) (mc' mh' mn'))) mh' (nomark _)) (mss_one' (ms_set' (i := 3) sc_law_hall.nd rfl (Or.inl rfl) (me_bin' op_mulSM (me_lst' (mc' (me_ix' (mv' 3) mh') mn')) (mv' 2)))) mss_nil')
   (mz' (ms_while' (mt_cmp' op_gtM (me_callB' call_lenM (by rfl) T.len bt_len (mc' (mf' G_law_all_lines (hr.mono (by decide)) (mc' (me_imm' (me_comp1' (own := ["_law_top", "_law_room"]) (fr := []) (ps := []) (sc := (defScope s_law_hall)) (by exact ⟨rfl, by decide +kernel, by decide +kernel, by decide +kernel, by decide +kernel⟩) (mi_seq' (mv' 3)) (fun _ _ _ _ _ => (mg_tup' (n := 2) (mgs_cons' (mg_name' (i := 0) (show List.Nodup ((["_law_top", "_law_room"] : List Str) ++ ([] : List Str)) from by decide +kernel) rfl (Or.inl rfl)) (mgs_cons' (mg_name' (i := 1) (show List.Nodup ((["_law_top", "_law_room"] : List Str) ++ ([] : List Str)) from by decide +kernel) rfl (Or.inl rfl)) mgs_nil')))) (fun _ _ _ _ _ => mts_nil') (fun _ _ _ _ _ => (mv' 1)))) mn')) mn')) (mv' 1) (nomark _)) (mz' (ms_if' (mt_cmp' (op_eqM hr.units) (me_callB' (call_max1M rfl) (by rfl) T.max bt_max (mc' (me_comp1' (own := ["_law_top", "_law_room"]) (fr := []) (ps := []) (sc := (defScope s_law_hall)) (by exact ⟨rfl, by decide +kernel, by decide +kernel, by decide +kernel, by decide +kernel⟩) (mi_seq' (mv' 3)) (fun _ _ _ _ _ => (mg_tup' (n := 2) (mgs_cons' (mg_name' (i := 0) (show List.Nodup ((["_law_top", "_law_room"] : List Str) ++ ([] : List Str)) from by decide +kernel) rfl (Or.inl rfl)) (mgs_cons' (mg_name' (i := 1) (show List.Nodup ((["_law_top", "_law_room"] : List Str) ++ ([] : List Str)) from by decide +kernel) rfl (Or.inl rfl)) mgs_nil')))) (fun _ _ _ _ _ => mts_nil') (fun _ _ _ _ _ => (mv' 1))) mn')) mh' (nomark _)) (mss_one' (ms_set' (i := 3) sc_law_hall.nd rfl (Or.inl rfl) (me_slice' sl_cutM (mv' 3) (mo_some' mh') mo_none'))) mss_nil')
   (mss_one' (ms_setc1' (i := 3) (own := ["_law_top", "_law_room"]) (fr := []) (ps := []) (sc := (defScope s_law_hall)) (by exact ⟨rfl, by decide +kernel, by decide +kernel, by decide +kernel, by decide +kernel⟩) sc_law_hall.nd rfl rfl (mi_seq' (mv' 3)) (fun _ _ _ _ _ => (mg_tup' (n := 2) (mgs_cons' (mg_name' (i := 0) (show List.Nodup ((["_law_top", "_law_room"] : List Str) ++ ([] : List Str)) from by decide +kernel) rfl (Or.inl rfl)) (mgs_cons' (mg_name' (i := 1) (show List.Nodup ((["_law_top", "_law_room"] : List Str) ++ ([] : List Str)) from by decide +kernel) rfl (Or.inl rfl)) mgs_nil')))) (fun _ _ _ _ _ => mts_nil') (fun _ _ _ _ _ => (me_tup' (mc' (mv' 0) (mc' (me_callB' (call_maxM rfl) (by rfl) T.max bt_max (mc' mh' (mc' (me_bin' op_subM (mv' 1) mh') mn'))) mn'))))))) PassesOwn.never)
   (mz' (ms_set' (i := 4) sc_law_hall.nd rfl (Or.inl rfl) (me_bin' op_addM mh' (mf' G_law_draw (hr.mono (by decide)) (mc' (mv' 0) (mc' mh' mn')))))
   (mz' (ms_set' (i := 5) sc_law_hall.nd rfl (Or.inr rfl) (me_bin' op_addM (me_bin' op_addM (mv' 4) (me_callB' (call_sumM rfl) (by rfl) T.sum bt_sum (mc' (me_comp1' (own := ["_law_top", "_law_room"]) (fr := []) (ps := []) (sc := (defScope s_law_hall)) (by exact ⟨rfl, by decide +kernel, by decide +kernel, by decide +kernel, by decide +kernel⟩) (mi_seq' (mv' 3)) (fun _ _ _ _ _ => (mg_tup' (n := 2) (mgs_cons' (mg_name' (i := 0) (show List.Nodup ((["_law_top", "_law_room"] : List Str) ++ ([] : List Str)) from by decide +kernel) rfl (Or.inl rfl)) (mgs_cons' (mg_name' (i := 1) (show List.Nodup ((["_law_top", "_law_room"] : List Str) ++ ([] : List Str)) from by decide +kernel) rfl (Or.inl rfl)) mgs_nil')))) (fun _ _ _ _ _ => mts_nil') (fun _ _ _ _ _ => (mv' 0))) mn'))) (me_ix' (me_lst' (mc' mh' (mc' mh' (mc' mh' (mc' mh' (mc' mh' mn')))))) (mf' G_law_draw (hr.mono (by decide)) (mc' (mv' 0) (mc' mh' mn'))))))
   (mz' (ms_set' (i := 6) sc_law_hall.nd rfl (Or.inl rfl) (me_callTy' call_tupleM (by rfl) T.tuple bt_tuple (mc' (me_comp1' (own := ["_law_top", "_law_room"]) (fr := ["_law_whole"]) (ps := [5]) (sc := (defScope s_law_hall)) (by exact ⟨rfl, by decide +kernel, by decide +kernel, by decide +kernel, by decide +kernel⟩) (mi_seq' (mv' 3)) (fun _ _ _ _ _ => (mg_tup' (n := 2) (mgs_cons' (mg_name' (i := 0) (show List.Nodup ((["_law_top", "_law_room"] : List Str) ++ (["_law_whole"] : List Str)) from by decide +kernel) rfl (Or.inl rfl)) (mgs_cons' (mg_name' (i := 1) (show List.Nodup ((["_law_top", "_law_room"] : List Str) ++ (["_law_whole"] : List Str)) from by decide +kernel) rfl (Or.inl rfl)) mgs_nil')))) (fun _ _ _ _ _ => mts_nil') (fun _ _ _ _ _ => (me_tup' (mc' (mf' G_law_frac (hr.mono (by decide)) (mc' (mv' 0) (mc' (mv' 2) mn'))) (mc' (mv' 1) mn'))))) mn')))
   (mss_one' (ms_ret' (me_tup' (mc' (mf' G_law_frac (hr.mono (by decide)) (mc' (mv' 4) (mc' (mv' 5) mn'))) (mc' (mv' 6) (mc' (me_cmp' (op_eqM hr.units) (mf' G_law_draw (hr.mono (by decide)) (mc' (mv' 0) (mc' mh' mn'))) mh' (nomark _)) mn'))))))))))))), ?_⟩
 case ar => rintro as Kc ⟨t, c, rfl, _⟩; rfl
 rintro as Kc hl ⟨t, c, rfl, ht, hc, k⟩
 refine x_start (MSt.mk [some (.at 0 []), some (.imm (.int 400)), none, none, none, none, none] [[t]] 1) rfl ?_
 walk_at "xs"
 refine ⟨t, _, _, rfl, ht, by omega, by omega, by omega, fun q t hq0 hq1 ht => ?_⟩
 obtain ⟨n, hn1, hn4, en⟩ : ∃ n : Nat, 1 ≤ n ∧ n ≤ 4 ∧ atI [PyData.int 2, .int 2, .int 3, .int 1, .int 2, .int 3, .int 2, .int 4] q = some (.int (n : Int)) := by
  have : q = 0 ∨ q = 1 ∨ q = 2 ∨ q = 3 ∨ q = 4 ∨ q = 5 ∨ q = 6 ∨ q = 7 := by omega
  rcases this with rfl | rfl | rfl | rfl | rfl | rfl | rfl | rfl
  ·exact ⟨2, by decide, by decide, rfl⟩
  ·exact ⟨2, by decide, by decide, rfl⟩
  ·exact ⟨3, by decide, by decide, rfl⟩
  ·exact ⟨1, by decide, by decide, rfl⟩
  ·exact ⟨2, by decide, by decide, rfl⟩
  ·exact ⟨3, by decide, by decide, rfl⟩
  ·exact ⟨2, by decide, by decide, rfl⟩
  ·exact ⟨4, by decide, by decide, rfl⟩
 walk_at "xn"
 refine x_itemN en ?_
 walk_at "xs"
 refine ⟨by omega, by omega, ?_⟩
 rw [Int.toNat_natCast]
 walk_at "xn"
 refine x_loop0 (fun i m => ∃ a t ps, m = MSt.mk [a, some (.at 0 [])] [[t], ps.map prD] 2 ∧ TapeK (c + 1 + 2 * i) t ∧ ps.length = i ∧ ∀ p ∈ ps, 1 ≤ p.1 ∧ p.1 ≤ 3 ∧ 1 ≤ p.2 ∧ p.2 ≤ 4) ⟨none, t, [], rfl, ht, rfl, fun _ h => by cases h⟩ ?_ ?_
 ·rintro i d m e hnp ⟨a, t, ps, rfl, ht, hpl, hps⟩
  obtain ⟨hi, rfl⟩ := get_range e
  walk_at "xs"
  refine ⟨t, _, c + 1 + 2 * i, rfl, ht, by omega, by omega, by omega, fun q1 t hq0 hq1 ht => ?_⟩
  walk_at "xx"
  refine ⟨t, _, c + 1 + 2 * i + 1, rfl, ht, by omega, by omega, by omega, fun q2 t hq2 hq3 ht => ?_⟩
  walk_at "xx"
  obtain ⟨q1, rfl⟩ := Int.eq_ofNat_of_zero_le hq0
  obtain ⟨q2, rfl⟩ := Int.eq_ofNat_of_zero_le hq2
  refine ⟨_, rfl, by rw [sizeLine_eq, List.length_map]; omega, some (.imm (.int (0 + (i : Int)))), t, ps ++ [(1 + q1, 1 + q2)], ?_, ht.mono (by omega), by simp [hpl], fun p hp => ?_⟩
  ·rw [List.map_append]; rfl
  ·obtain h | h := List.mem_append.mp hp
   ·exact hps p h
   ·cases List.mem_singleton.mp h
    exact ⟨by show 1 ≤ 1 + q1; omega, by show 1 + q1 ≤ 3; omega, by show 1 ≤ 1 + q2; omega, by show 1 + q2 ≤ 4; omega⟩
 rintro m hnp ⟨a, t, ps, rfl, ht, hpl, hps⟩
 rw [rangeD_length] at hpl
 have ht := ht.mono (c' := c + 9) (by rw [rangeD_length]; omega)
 have hsv : SvK ps := ⟨by omega, by omega, hps⟩
 walk_at "xn"
 refine x_bindN ?_
 walk_at "xn"
 refine x_seq ?_
 refine x_JS (fun m => ∃ ps t, m = MSt.mk [some (.at 0 []), some (.imm (.int 400)), some (.imm (.int (n : Int))), some (.obj 1), none, none, none] [[t], ps.map prD] 1 ∧ TapeK (c + 10) t ∧ SvK ps) (fun N J => ?_) ?_
 ·walk_at "xs"
  refine ⟨t, _, _, rfl, ht, by omega, by omega, by omega, fun q1 t hq0 hq1 ht => ?_⟩
  walk_at "xx"
  refine x_ite (fun z => ?_) (fun z => ?_)
  ·obtain ⟨p0, ps', rfl⟩ : ∃ p0 ps', ps = p0 :: ps' := by
    cases ps with
    | nil => simp at hpl; omega
    | cons p0 sp => exact ⟨p0, sp, rfl⟩
   walk_at "xs"
   refine x_itemO (d := prD p0) rfl (show atI ((p0 :: ps').map prD) 0 = some (prD p0) from atI_nat (j := 0) (xs := (p0 :: ps').map prD) rfl) ?_
   walk_at "xs"
   refine x_mulL (by omega) (by omega) (by simp; omega) ?_
   rw [Int.toNat_natCast, rep_flatK]
   refine x_bindSame (k := 1) rfl (show 1 ≤ 1 by decide) (fun j hj => ?_) (J _ ⟨List.replicate n p0, t, by rw [List.map_replicate]; rfl, ht, hsv.rep List.mem_cons_self hn1 hn4⟩)
   match j with
   | 0 | 1 | 2 | 4 | 5 | 6 => exact fun z => by cases z
   | 3 => exact (hj rfl).elim
   | n + 7 => exact fun z => by cases z
  ·walk_at "xs"
   exact J _ ⟨ps, t, rfl, ht, hsv⟩
 clear hsv hpl hps ht
 rintro _ ⟨ps, t, rfl, ht, hsv⟩
 refine x_seq ?_
 refine x_while (fun z m => ∃ ps, m = MSt.mk [some (.at 0 []), some (.imm (.int 400)), some (.imm (.int (n : Int))), some (.obj 1), none, none, none] [[t], ps.map prD] 1 ∧ SvK ps ∧ z = (roomsK ps).sum) _ ⟨ps, rfl, hsv, rfl⟩ ?_
 clear hsv
 rintro z m hnp ⟨ps, rfl, hsv, rfl⟩
 walk_at "xs"
 obtain ⟨s1, s4, _⟩ := id hsv
 refine x_loopO (fun i m => ∃ a b, m = MSt.mk [a, b] [[t], ps.map prD, (ps.take i).map roomD] 3) ⟨none, none, rfl⟩ ?_ ?_ ?_
 ·rintro i m ⟨a, b, rfl⟩; rfl
 ·rintro i d m e hnp2 ⟨a, b, rfl⟩
  obtain ⟨p, ep, rfl, hi⟩ := gmap e
  have hp := hsv.2.2 p (List.mem_of_getElem? ep)
  rw [map_take_succ _ ep]
  dsimp only [prD]
  walk_at "xs"
  ·rfl
  walk_at "xs"
  exact ⟨_, rfl, by rw [sizeLine_eq, List.length_map, List.length_take]; omega, some (.imm (.int (p.1 : Int))), some (.imm (.int (p.2 : Int))), rfl⟩
 rintro m hm ⟨a, b, rfl⟩
 rw [List.length_map, List.take_length, roomD_all]
 walk_at "xx"
 refine ⟨roomsK ps, rfl, hsv.six.1, hsv.six.2, ?_⟩
 walk_at "xx"
 rw [List.length_map]
 refine x_ite (fun hb => ?_) (fun hb => ?_)
 ·have hb' : 400 < (M3.allR (roomsK ps)).length := by omega
  obtain ⟨p2, hp2, hr2⟩ := big_two hsv hb'
  have hdec := (lessK_sum (ps := ps) fun p hp => (hsv.2.2 p hp).2.2.1).2 ⟨p2, hp2, hr2⟩
  walk_at "xs"
  refine x_loopO (fun i m => ∃ a b, m = MSt.mk [a, b] [[t], ps.map prD, (ps.take i).map roomD] 3) ⟨none, none, rfl⟩ ?_ ?_ ?_
  ·rintro i m ⟨a, b, rfl⟩; rfl
  ·rintro i d m e hnp2 ⟨a, b, rfl⟩
   obtain ⟨p, ep, rfl, hi⟩ := gmap e
   have hp := hsv.2.2 p (List.mem_of_getElem? ep)
   rw [map_take_succ _ ep]
   dsimp only [prD]
   walk_at "xs"
   ·rfl
   walk_at "xs"
   exact ⟨_, rfl, by rw [sizeLine_eq, List.length_map, List.length_take]; omega, some (.imm (.int (p.1 : Int))), some (.imm (.int (p.2 : Int))), rfl⟩
  rintro m hm ⟨a, b, rfl⟩
  rw [List.length_map, List.take_length, roomD_all]
  walk_at "xx"
  refine x_max1 rfl (natD_iK (roomsK ps)) (fun z => ?_) fun x hx hx2 => ?_
  ·have := congrArg List.length z
   rw [List.length_map, roomsK, List.length_map, List.length_nil] at this
   omega
  have hx3 := hx2 (p2.2 : Int) (List.mem_map.mpr ⟨p2.2, List.mem_map.mpr ⟨p2, hp2, rfl⟩, rfl⟩)
  walk_at "xs"
  refine x_ite (fun z => absurd z (by omega)) (fun z => ?_)
  walk_at "xs"
  refine x_loopO (fun i m => ∃ a b, m = MSt.mk [a, b] [[t], ps.map prD, (ps.take i).map lessD] 3) ⟨none, none, rfl⟩ ?_ ?_ ?_
  ·rintro i m ⟨a, b, rfl⟩; rfl
  ·rintro i d m e hnp2 ⟨a, b, rfl⟩
   obtain ⟨p, ep, rfl, hi⟩ := gmap e
   have hp := hsv.2.2 p (List.mem_of_getElem? ep)
   rw [map_take_succ _ ep]
   dsimp only [prD]
   walk_at "xs"
   ·rfl
   walk_at "xs"
   have em : (if (p.2 : Int) - 1 > 1 then (p.2 : Int) - 1 else 1) = ((max 1 (p.2 - 1) : Nat) : Int) := by
    split <;> omega
   rw [em]
   exact ⟨_, rfl, by rw [sizeLine_eq, List.length_map, List.length_take]; omega, some (.imm (.int (p.1 : Int))), some (.imm (.int (p.2 : Int))), rfl⟩
  rintro m hm ⟨a, b, rfl⟩
  rw [List.length_map, List.take_length, lessD_all]
  walk_at "xn"
  refine x_bindSame (k := 1) rfl (show 1 ≤ 1 by decide) (fun j hj => ?_) ⟨_, hdec, lessK ps, rfl, lessK_ok hsv, rfl⟩
  match j with
  | 0 | 1 | 2 | 4 | 5 | 6 => exact fun z => by cases z
  | 3 => exact (hj rfl).elim
  | n + 7 => exact fun z => by cases z
 ·walk_at "xs"
  refine ⟨t, _, _, rfl, ht, by omega, by omega, by omega, fun cm t hc0 hc1 ht => ?_⟩
  obtain ⟨cm, rfl⟩ := Int.eq_ofNat_of_zero_le hc0
  walk_at "xx"
  refine x_loopO (fun i m => ∃ a b, m = MSt.mk [a, b] [[t], ps.map prD, (ps.take i).map topD] 3) ⟨none, none, rfl⟩ ?_ ?_ ?_
  ·rintro i m ⟨a, b, rfl⟩; rfl
  ·rintro i d m e hnp2 ⟨a, b, rfl⟩
   obtain ⟨p, ep, rfl, hi⟩ := gmap e
   have hp := hsv.2.2 p (List.mem_of_getElem? ep)
   rw [map_take_succ _ ep]
   dsimp only [prD]
   walk_at "xs"
   ·rfl
   walk_at "xs"
   exact ⟨_, rfl, by rw [sizeLine_eq, List.length_map, List.length_take]; omega, some (.imm (.int (p.1 : Int))), some (.imm (.int (p.2 : Int))), rfl⟩
  rintro m hm ⟨a, b, rfl⟩
  rw [List.length_map, List.take_length, topD_all]
  walk_at "xx"
  refine ⟨_, _, rfl, natD_iK (topsK ps), ?_⟩
  rw [sumK]
  have hsum : (topsK ps).sum ≤ 12 := by
   have := tops_sum (ps := ps) fun p hp => (hsv.2.2 p hp).2.1
   omega
  generalize (topsK ps).sum = S at hsum
  walk_at "xs"
  refine ⟨t, _, _, rfl, ht, by omega, by omega, by omega, fun q t hq0 hq1 ht => ?_⟩
  obtain ⟨mr, hmr, emr⟩ : ∃ mr : Nat, mr ≤ 40 ∧ atI [PyData.int 0, .int 0, .int 1, .int 7, .int 40] q = some (.int (mr : Int)) := by
   have : q = 0 ∨ q = 1 ∨ q = 2 ∨ q = 3 ∨ q = 4 := by omega
   rcases this with rfl | rfl | rfl | rfl | rfl
   ·exact ⟨0, by decide, rfl⟩
   ·exact ⟨0, by decide, rfl⟩
   ·exact ⟨1, by decide, rfl⟩
   ·exact ⟨7, by decide, rfl⟩
   ·exact ⟨40, by decide, rfl⟩
  walk_at "xn"
  refine x_itemN emr ?_
  walk_at "xs"
  obtain ⟨wh, ewh, hw1, hw2⟩ : ∃ wh : Nat, (1 + (cm : Int) + (S : Int) + (mr : Int)) = (wh : Int) ∧ 1 ≤ wh ∧ wh < 1000 := ⟨1 + cm + S + mr, by omega, by omega, by omega⟩
  rw [ewh]
  walk_at "xx"
  refine x_loopO (fun i m => ∃ a b, m = MSt.mk [a, b, some (.imm (.int (wh : Int)))] [[t], ps.map prD, (ps.take i).map fun p => (srvK wh p).d] 3) ⟨none, none, rfl⟩ ?_ ?_ ?_
  ·rintro i m ⟨a, b, rfl⟩; rfl
  ·rintro i d m e hnp2 ⟨a, b, rfl⟩
   obtain ⟨p, ep, rfl, hi⟩ := gmap e
   have hp := hsv.2.2 p (List.mem_of_getElem? ep)
   rw [map_take_succ _ ep]
   dsimp only [prD]
   walk_at "xs"
   ·rfl
   walk_at "xs"
   refine ⟨p.1, wh, rfl, by omega, by omega, by omega, ?_⟩
   walk_at "xx"
   exact ⟨_, rfl, by rw [sizeLine_eq, List.length_map, List.length_take]; omega, some (.imm (.int (p.1 : Int))), some (.imm (.int (p.2 : Int))), rfl⟩
  rintro m hm ⟨a, b, rfl⟩
  rw [List.length_map, List.take_length]
  walk_at "xx"
  refine ⟨1 + cm, wh, rfl, by omega, by omega, by omega, ?_⟩
  walk_at "xx"
  refine ⟨t, _, _, rfl, ht, by omega, by omega, by omega, fun q t hq0 hq1 ht => ?_⟩
  walk_at "xx"
  have f1 := frac_in (p := 1 + cm) (wh := wh) (by omega) (by omega) hw1 (by omega)
  have hk := k ⟨(1 + cm) / (1 + cm).gcd wh, wh / (1 + cm).gcd wh, ps.map (srvK wh), decide (q = 0)⟩ t ⟨f1.1, f1.2.1, f1.2.2.1, f1.2.2.2, by rw [List.length_map]; exact s1, by rw [List.length_map]; exact s4, fun s hs => ?_⟩ (ht.mono (by omega))
  ·unfold Hall.d at hk
   rw [List.map_map] at hk
   exact hk
  ·obtain ⟨p, hp, rfl⟩ := List.mem_map.mp hs
   have h := hsv.2.2 p hp
   have f2 := frac_in (p := p.1) (wh := wh) (by omega) (by omega) hw1 (by omega)
   exact ⟨f2.1, f2.2.1, f2.2.2.1, f2.2.2.2, h.2.2.1, by show p.2 ≤ 6; omega⟩
theorem ok_law_rule (T : Bl K mg) (D : DefM K mg "_law_rule" s_law_rule ["_law_tape_here", "_law_hall_here"]) (G_law_draw : FnM P w K mg base "_law_draw" 1 2 spDrawK) (G_law_all_lines : FnM P w K mg base "_law_all_lines" 1 1 spLinesK) : FnM P w K mg base "_law_rule" 2 2 spRuleT := by
 refine mk_fn' D sc_law_rule rfl (nN := 4) rfl (by decide) ?ar fun cdv A outer s H E f hr => ⟨_, (mz' (ms_set' (i := 2) sc_law_rule.nd rfl (Or.inl rfl) (mf' G_law_draw (hr.mono (by decide)) (mc' (mv' 0) (mc' mh' mn'))))
   (mz' (ms_if' (mt_cmp' op_ltM (mv' 2) mh' (nomark _)) (mss_one' (ms_ret' (me_tup' (mc' (me_ix' (me_lst' (mc' me_str' (mc' me_str' (mc' me_str' (mc' me_str' mn'))))) (mv' 2)) mn')))) mss_nil')
   (mz' (ms_set' (i := 3) sc_law_rule.nd rfl (Or.inl rfl) (me_callB' call_lenM (by rfl) T.len bt_len (mc' (mf' G_law_all_lines (hr.mono (by decide)) (mc' (me_imm' (me_comp1' (own := ["_law_speed", "_law_room"]) (fr := []) (ps := []) (sc := (defScope s_law_rule)) (by exact ⟨rfl, by decide +kernel, by decide +kernel, by decide +kernel, by decide +kernel⟩) (mi_seq' (me_ix' (mv' 1) mh')) (fun _ _ _ _ _ => (mg_tup' (n := 2) (mgs_cons' (mg_name' (i := 0) (show List.Nodup ((["_law_speed", "_law_room"] : List Str) ++ ([] : List Str)) from by decide +kernel) rfl (Or.inl rfl)) (mgs_cons' (mg_name' (i := 1) (show List.Nodup ((["_law_speed", "_law_room"] : List Str) ++ ([] : List Str)) from by decide +kernel) rfl (Or.inl rfl)) mgs_nil')))) (fun _ _ _ _ _ => mts_nil') (fun _ _ _ _ _ => (mv' 1)))) mn')) mn')))
   (mss_one' (ms_ret' (me_tup' (mc' me_str' (mc' (me_callTy' call_tupleM (by rfl) T.tuple bt_tuple (mc' (me_comp1' (own := ["_law_k"]) (fr := ["_law_tape_here", "_law_hall_here"]) (ps := [0, 1]) (sc := (defScope s_law_rule)) (by exact ⟨rfl, by decide +kernel, by decide +kernel, by decide +kernel, by decide +kernel⟩) (mi_range1' (by rfl) T.range (mc' (mv' 3) mn')) (fun _ _ _ _ _ => (mg_name' (i := 0) (show List.Nodup ((["_law_k"] : List Str) ++ (["_law_tape_here", "_law_hall_here"] : List Str)) from by decide +kernel) rfl (Or.inl rfl))) (fun _ _ _ _ _ => mts_nil') (fun _ _ _ _ _ => (mf' G_law_draw (hr.mono (by decide)) (mc' (mv' 1) (mc' (me_callB' call_lenM (by rfl) T.len bt_len (mc' (me_ix' (mv' 2) mh') mn')) mn'))))) mn')) mn')))))))), ?_⟩
 case ar => rintro as Kc ⟨t, c, h, rfl, _⟩; rfl
 rintro as Kc hl ⟨t, c, h, rfl, ht, hc, ho, k⟩
 have n1 := ho.n1
 have n4 := ho.n4
 refine x_start (MSt.mk [some (.at 0 []), some (.imm (.tuple [.tuple [.int h.a, .int h.b], .tuple (h.ss.map Srv.d), .bool h.mv])), none, none] [[t]] 1) rfl ?_
 walk_at "xs"
 refine ⟨t, _, c, rfl, ht, by omega, by decide, by decide, fun r t hr0 hr1 ht => ?_⟩
 walk_at "xx"
 refine x_ite (fun z => ?_) (fun z => ?_)
 ·walk_at "xs"
  obtain ⟨x, ex⟩ : ∃ x : Str, atI [PyData.str "random", .str "two", .str "least", .str "quick"] r = some (.str x) := by
   rcases (show r = 0 ∨ r = 1 ∨ r = 2 ∨ r = 3 by omega) with rfl | rfl | rfl | rfl <;> exact ⟨_, rfl⟩
  refine x_itemN ex ?_
  walk_at "xs"
  exact k x [] t (ht.mono (by omega))
 ·walk_at "xs"
  refine x_loop0 (fun i m => ∃ a b, m = MSt.mk [a, b] [[t], (h.rs.take i).map fun (r : Nat) => .int (r : Int)] 2) ⟨none, none, rfl⟩ ?_ ?_
  ·rintro i d m e n ⟨a, b, rfl⟩
   obtain ⟨s, es, rfl, hi⟩ := gmap e
   dsimp only [Srv.d]
   walk_at "xs"
   ·rfl
   walk_at "xs"
   refine ⟨_, rfl, by rw [sizeLine_eq, List.length_map, List.length_take]; omega, some (.imm (.tuple [.int s.a, .int s.b])), some (.imm (.int s.r)), ?_⟩
   rw [List.take_add_one, Hall.rs_get es, List.map_append]
   rfl
  rintro m n ⟨a, b, rfl⟩
  have hrl := h.rsl
  rw [List.length_map, ← hrl, List.take_length]
  walk_at "xs"
  have hsm : (M3.allR h.rs).length ≤ 2401 := allR_small (by rw [h.rsl]; exact n4) ho.r6
  refine ⟨h.rs, rfl, by omega, ho.r6, ?_⟩
  walk_at "xx"
  rw [List.length_map]
  refine ⟨by omega, by omega, ?_⟩
  rw [Int.toNat_natCast]
  walk_at "xn"
  refine x_loop0 (fun i m => ∃ a t' ps, m = MSt.mk [a, some (.at 0 []), some (.imm (.tuple [.tuple [.int h.a, .int h.b], .tuple (h.ss.map Srv.d), .bool h.mv]))] [[t'], ps] 2 ∧ TapeK (c + 1 + i) t' ∧ ps.length = i) ⟨none, t, [], rfl, ht, rfl⟩ ?_ ?_
  ·rintro i d m e n ⟨a, t, ps, rfl, ht, hpl⟩
   obtain ⟨hi, rfl⟩ := get_range e
   walk_at "xs"
   refine ⟨t, _, _, rfl, ht, by omega, by rw [List.length_map]; omega, by rw [List.length_map]; omega, fun p t hp0 hp1 ht => ?_⟩
   walk_at "xx"
   exact ⟨_, rfl, by rw [sizeLine_eq]; omega, _, t, ps ++ [.int p], rfl, ht, by simp; omega⟩
  ·rintro m n ⟨a, t, ps, rfl, ht, hpl⟩
   rw [rangeD_length] at ht hpl
   walk_at "xx"
   exact k "told" [.tuple ps] t (ht.mono (by omega))
theorem ok_law_told (T : Bl K mg) (D : DefM K mg "_law_told" s_law_told ["_law_hall_here", "_law_one", "_law_other", "_law_things"]) (Glets_never_vX : FnX P w K mg base "lets_never" 4 4 spLetsX) (Gnever_worse_vX : FnX P w K mg base "never_worse" 4 3 spNevX) : FnM P w K mg base "_law_told" 6 4 spToldT := by
 refine mk_fn' D sc_law_told rfl (nN := 7) rfl (by decide) ?ar fun cdv A outer s H E f hr => ⟨_, (mz' (ms_set' (i := 4) sc_law_told.nd rfl (Or.inl rfl) me_str')
   (mz' (ms_try' (i := 5) T.x_LineError sc_law_told.nd rfl rfl (fun xe' pn b Ex' hx => (mss_one' (ms_if' (mt_cmp' (op_eqM hr.units) (mv' 3) (me_lst' mn') (nomark _)) (mss_one' (ms_expr' (me_callX' Gnever_worse_vX hx (hr.mono (by decide)) (mc' (mv' 0) (mc' (mv' 1) (mc' (mv' 2) mn')))))) (mss_one' (ms_expr' (me_callX' Glets_never_vX hx (hr.mono (by decide)) (mc' (mv' 0) (mc' (mv' 1) (mc' (mv' 2) (mc' (me_ix' (mv' 3) mh') mn')))))))))) (fun e xe' => (mz' (ms_set' (i := 6) sc_law_told.nd rfl (Or.inl rfl) (me_isXs' (K := K) (mv' 5) (nm_cons T.m_NoAlike (nm_cons T.m_NoBack (nm_cons T.m_NoBest (nm_cons T.m_NoFraction (nm_cons T.m_NoHall nm_nil))))) (of_decide_eq_true rfl) T.isinstance))
   (mz' (ms_set' (i := 6) sc_law_told.nd rfl (Or.inl rfl) (me_or' (mv' 6) (me_one' (me_isXs' (K := K) (mv' 5) (nm_cons T.m_NoRow (nm_cons T.m_NoShares (nm_cons T.m_NoText (nm_cons T.m_TooMany nm_nil)))) (of_decide_eq_true rfl) T.isinstance))))
   (mss_one' (ms_if' (EW.pt (mw_and' (mt_val' (me_isX' (K := K) (mv' 5) T.isinstance T.m_NoNever)) (mw_and' (mt_val' (me_isXT' (K := K) (mv' 5) T.isinstance T.ValueError bt_ValueError)) (mw_and1' (mt_not' (mt_val' (mv' 6))))))) (mss_one' (ms_set' (i := 4) sc_law_told.nd rfl (Or.inl rfl) (me_tup' (mc' (me_xf' (K := K) (mv' 5)) (mc' (me_xf' (K := K) (mv' 5)) mn'))))) mss_nil'))))))
   (mss_one' (ms_ret' (mv' 4))))), ?_⟩
 case ar => rintro as Kc ⟨h, w1, w2, d1, d2, ds, rfl, _⟩; rfl
 rintro as Kc hl ⟨h, w1, w2, d1, d2, ds, rfl, hw, hd, k⟩
 refine x_start (MSt.mk [some (.imm h.d), some (.imm (wdR w1 d1)), some (.imm (wdR w2 d2)), some (.imm (.list ds)), none, none, none] [] 0) rfl ?_
 walk_at "xs"
 refine x_try rfl ?_
 rcases hd with rfl | ⟨d, rfl, hd⟩
 ·walk_at "xs"
  refine x_eq rfl rfl rfl rfl ?_
  walk_at "xs"
  refine x_iteT ?_
  walk_at "xs"
  refine ⟨h, w1, w2, d1, d2, rfl, hw, ?_⟩
  refine ⟨"NoNever", _, rfl, T.sub, ?_⟩
  walk_at "xs"
  refine ⟨"NoNever", _, false, rfl, T.i3, ?_⟩
  walk_at "xs"
  refine ⟨"NoNever", _, false, rfl, T.i4, ?_⟩
  walk_at "xs"
  refine ⟨"NoNever", _, true, rfl, T.i1, ?_⟩
  walk_at "xs"
  refine ⟨"NoNever", _, true, rfl, T.i2, ?_⟩
  walk_at "xs"
  rw [if_pos (c := (!false) = true) rfl]
  walk_at "xs"
  refine x_fld (d := .str "rule") rfl T.a1 ?_
  walk_at "xs"
  refine x_fld (d := .int (-1)) rfl T.a2 ?_
  walk_at "xs"
  exact k
 ·walk_at "xs"
  refine x_eq rfl rfl ((shp_list (k := 9) (fun x hx => by rw [List.mem_singleton.mp hx]; exact hd)).ok (by decide)) rfl ?_
  walk_at "xs"
  refine x_iteF ?_
  walk_at "xs"
  refine ⟨h, w1, w2, d1, d2, d, rfl, hw, ?_⟩
  refine ⟨"NoNever", _, rfl, T.sub, ?_⟩
  walk_at "xs"
  refine ⟨"NoNever", _, false, rfl, T.i3, ?_⟩
  walk_at "xs"
  refine ⟨"NoNever", _, false, rfl, T.i4, ?_⟩
  walk_at "xs"
  refine ⟨"NoNever", _, true, rfl, T.i1, ?_⟩
  walk_at "xs"
  refine ⟨"NoNever", _, true, rfl, T.i2, ?_⟩
  walk_at "xs"
  rw [if_pos (c := (!false) = true) rfl]
  walk_at "xs"
  refine x_fld (d := .str "rule") rfl T.a1 ?_
  walk_at "xs"
  refine x_fld (d := .int (-1)) rfl T.a2 ?_
  walk_at "xs"
  exact k
theorem oklaw (T : Bl K mg) {ff : Addr} {fd : FuncData} (F : Fun K "law" "law" slaw ff fd) (G_law_tape : FnM P w K mg base "_law_tape" 1 1 spTapeK) (G_law_hall : FnM P w K mg base "_law_hall" 3 2 spHallK) (G_law_rule : FnM P w K mg base "_law_rule" 2 2 spRuleT) (G_law_told : FnM P w K mg base "_law_told" 6 4 spToldT) (G_law_all_lines : FnM P w K mg base "_law_all_lines" 1 1 spLinesK) : FnOk P w K mg base CX0 8 ff fd ["_law_script"] (spOf ⟨K, w⟩ 1 spLaw) := by
 refine mk_fnE' F sclaw rfl (nN := 10) rfl (by decide) fun cdv A outer s H E f hr => ⟨_, (mz' (ms_set' (i := 1) sclaw.nd rfl (Or.inl rfl) (mf' G_law_tape (hr.mono (by decide)) (mc' (mv' 0) mn')))
   (mz' (ms_for' (mi_range1' (by rfl) T.range (mc' mh' mn')) (mg_name' (i := 2) sclaw.nd rfl (Or.inl rfl)) (mz' (ms_set' (i := 3) sclaw.nd rfl (Or.inl rfl) (mf' G_law_hall (hr.mono (by decide)) (mc' (mv' 1) (mc' mh' mn'))))
   (mz' (ms_set' (i := 4) sclaw.nd rfl (Or.inl rfl) (mf' G_law_rule (hr.mono (by decide)) (mc' (mv' 1) (mc' (mv' 3) mn'))))
   (mz' (ms_set' (i := 5) sclaw.nd rfl (Or.inl rfl) (me_bin' op_mulSM (me_tup' (mc' mh' mn')) (me_callB' call_lenM (by rfl) T.len bt_len (mc' (me_ix' (mv' 3) mh') mn'))))
   (mss_one' (ms_for' (mi_seq' (me_imm' (me_lst' (mc' (me_tup' (mc' (me_tup' (mc' me_str' mn')) (mc' (mv' 4) mn'))) (mc' (me_tup' (mc' (mv' 4) (mc' (me_tup' (mc' me_str' mn')) mn'))) (mc' (me_tup' (mc' (me_tup' (mc' me_str' mn')) (mc' (me_tup' (mc' me_str' mn')) mn'))) mn')))))) (mg_tup' (n := 2) (mgs_cons' (mg_name' (i := 6) sclaw.nd rfl (Or.inl rfl)) (mgs_cons' (mg_name' (i := 7) sclaw.nd rfl (Or.inl rfl)) mgs_nil'))) (mz' (ms_for' (mi_seq' (me_imm' (me_lst' (mc' (me_tup' (mc' (me_tup' (mc' (mv' 5) (mc' (mv' 5) (mc' mh' mn')))) mn')) (mc' (me_tup' mn') (mc' me_non' (mc' (me_imm' (me_lst' (mc' (me_tup' (mc' (mv' 5) (mc' (mv' 5) (mc' mh' mn')))) mn'))) (mc' me_str' mn')))))))) (mg_name' (i := 8) sclaw.nd rfl (Or.inl rfl)) (mss_one' (ms_if' (mt_cmp' (op_neM hr.units) (mf' G_law_told (hr.mono (by decide)) (mc' (mv' 3) (mc' (mv' 6) (mc' (mv' 7) (mc' (me_imm' (me_lst' (mc' (mv' 8) mn'))) mn'))))) (me_tup' (mc' me_str' (mc' (me_un' un_negM mh') mn'))) (nomark _)) (mss_one' (ms_ret' me_bl')) mss_nil')) PassesOwn.never)
   (mz' (ms_set' (i := 9) sclaw.nd rfl (Or.inl rfl) (me_cmp' op_ltM (me_callB' call_lenM (by rfl) T.len bt_len (mc' (mf' G_law_all_lines (hr.mono (by decide)) (mc' (me_imm' (me_comp1' (own := ["_law_speed", "_law_room"]) (fr := []) (ps := []) (sc := (defScope slaw)) (by exact ⟨rfl, by decide +kernel, by decide +kernel, by decide +kernel, by decide +kernel⟩) (mi_seq' (me_ix' (mv' 3) mh')) (fun _ _ _ _ _ => (mg_tup' (n := 2) (mgs_cons' (mg_name' (i := 0) (show List.Nodup ((["_law_speed", "_law_room"] : List Str) ++ ([] : List Str)) from by decide +kernel) rfl (Or.inl rfl)) (mgs_cons' (mg_name' (i := 1) (show List.Nodup ((["_law_speed", "_law_room"] : List Str) ++ ([] : List Str)) from by decide +kernel) rfl (Or.inl rfl)) mgs_nil')))) (fun _ _ _ _ _ => mts_nil') (fun _ _ _ _ _ => (mv' 1)))) mn')) mn')) mh' (nomark _)))
   (mss_one' (ms_if' (EW.pt (mw_and' (mt_val' (mv' 9)) (mw_and1' (mt_cmp' (op_neM hr.units) (mf' G_law_told (hr.mono (by decide)) (mc' (mv' 3) (mc' (mv' 6) (mc' (mv' 7) (mc' (me_imm' (me_lst' mn')) mn'))))) (me_tup' (mc' me_str' (mc' (me_un' un_negM mh') mn'))) (nomark _))))) (mss_one' (ms_ret' me_bl')) mss_nil')))) PassesOwn.never))))) PassesOwn.never)
   (mss_one' (ms_ret' me_bl')))), ?_⟩
 rintro as Kc hl ⟨ns, rfl, hn, k⟩
 refine x_start (MSt.mk [some (.imm (.list (ns.map .int))), none, none, none, none, none, none, none, none, none] [] 0) rfl ?_
 walk_at "xs"
 refine ⟨ns, rfl, hn, fun t ht => ?_⟩
 walk_at "xn"
 refine x_bindNT ?_
 walk_at "xx"
 refine ⟨by decide, by decide, ?_⟩
 refine x_loop0 (fun i m => ∃ a2 a3 a4 a5 a6 a7 a8 a9 t', m = MSt.mk [some (.imm (.list (ns.map .int))), some (.at 0 []), a2, a3, a4, a5, a6, a7, a8, a9] [[t']] 0 ∧ TapeK (3020 * i) t') ⟨none, none, none, none, none, none, none, none, t, rfl, ht⟩ ?_ ?_
 ·rintro i d m e n ⟨a2, a3, a4, a5, a6, a7, a8, a9, t, rfl, ht⟩
  obtain ⟨hi, rfl⟩ := get_range e
  have hi8 : i < 8 := hi
  walk_at "xs"
  refine ⟨t, _, rfl, ht, by omega, fun h t ho ht => ?_⟩
  walk_at "xn"
  refine x_bindI ?_
  walk_at "xx"
  refine ⟨t, _, h, rfl, ht, by omega, ho, fun w ds t ht => ?_⟩
  walk_at "xn"
  refine x_bindI ?_
  walk_at "xn"
  refine x_start (MSt.mk [some (.imm (.list (ns.map .int))), some (.at 0 []), some (.imm (.int (0 + (i : Int)))), some (.imm (.tuple [.tuple [.int h.a, .int h.b], .tuple (h.ss.map Srv.d), .bool h.mv])), some (.imm (wdR w ds)), a5, a6, a7, a8, a9] [[t]] 0) rfl ?_
  have n1 := ho.n1
  have n4 := ho.n4
  walk_at "xs"
  rw [List.length_map]
  refine x_mulT (by omega) (by omega) (by simp; omega) ?_
  rw [Int.toNat_natCast]
  obtain ⟨V, hV⟩ : ∃ V, PyData.tuple (List.replicate h.ss.length [PyData.int 0]).flatten = V := ⟨_, rfl⟩
  have sV : Shp 1 V := by
   rw [← hV]
   refine shp_tuple fun x hx => ?_
   obtain ⟨lz, hlz, hxz⟩ := List.mem_flatten.mp hx
   rw [List.eq_of_mem_replicate hlz] at hxz
   rw [List.mem_singleton.mp hxz]
   exact shp_int 0
  rw [hV]
  walk_at "xs"
  refine x_loop0 (fun j m => ∃ a6 a7 a8 a9, m = MSt.mk [some (.imm (.list (ns.map .int))), some (.at 0 []), some (.imm (.int (0 + (i : Int)))), some (.imm (.tuple [.tuple [.int h.a, .int h.b], .tuple (h.ss.map Srv.d), .bool h.mv])), some (.imm (wdR w ds)), some (.imm V), a6, a7, a8, a9] [[t]] 0) ⟨_, _, _, _, rfl⟩ ?_ ?_
  ·rintro j d m ej nj ⟨b6, b7, b8, b9, rfl⟩
   obtain ⟨w1, w2, d1, d2, rfl, hw⟩ : ∃ (w1 w2 : Str) (d1 d2 : List PyData), d = .tuple [wdR w1 d1, wdR w2 d2] ∧ (w1 = "turns" ∨ w2 = "turns") := by
    match j, ej with
    | 0, ej => exact ⟨"turns", w, [], ds, (Option.some.inj ej).symm, .inl rfl⟩
    | 1, ej => exact ⟨w, "turns", ds, [], (Option.some.inj ej).symm, .inr rfl⟩
    | 2, ej => exact ⟨"turns", "turns", [], [], (Option.some.inj ej).symm, .inl rfl⟩
   walk_at "xs"
   ·rfl
   walk_at "xs"
   walk_at "xn"
   refine x_loop0 (fun _ m => ∃ a8, m = MSt.mk [some (.imm (.list (ns.map .int))), some (.at 0 []), some (.imm (.int (0 + (i : Int)))), some (.imm (.tuple [.tuple [.int h.a, .int h.b], .tuple (h.ss.map Srv.d), .bool h.mv])), some (.imm (wdR w ds)), some (.imm V), some (.imm (wdR w1 d1)), some (.imm (wdR w2 d2)), a8, b9] [[t]] 0) ⟨_, rfl⟩ ?_ ?_
   ·rintro z d m ez nz ⟨b8, rfl⟩
    have s3 : Shp 2 (.tuple [V, V, .int 0]) := shp_tuple fun x hx => by
     rcases List.mem_cons.mp hx with rfl | hx2
     ·exact sV
     rcases List.mem_cons.mp hx2 with rfl | hx3
     ·exact sV
     rw [List.mem_singleton.mp hx3]
     exact (shp_int 0).mono (by decide)
    have sd : Shp 9 d := by
     match z, ez with
     | 0, ez =>
      rw [← Option.some.inj ez]
      exact (shp_tuple (k := 2) fun x hx => by rw [List.mem_singleton.mp hx]; exact s3).mono (by decide)
     | 1, ez => rw [← Option.some.inj ez]; exact ⟨rfl, by decide⟩
     | 2, ez => rw [← Option.some.inj ez]; exact ⟨rfl, by decide⟩
     | 3, ez =>
      rw [← Option.some.inj ez]
      exact (shp_list (k := 2) fun x hx => by rw [List.mem_singleton.mp hx]; exact s3).mono (by decide)
     | 4, ez => rw [← Option.some.inj ez]; exact ⟨by decide +kernel, by decide⟩
    walk_at "xs"
    refine ⟨h, w1, w2, d1, d2, [d], rfl, hw, .inr ⟨d, rfl, sd⟩, ?_⟩
    walk_at "xx"
    refine x_ne (d1 := .tuple [.str "rule", .int (-1)]) (d2 := .tuple [.str "rule", .int (-1)]) rfl rfl (by decide +kernel) (by decide +kernel) ?_
    rw [show PyData.eqv (.tuple [.str "rule", .int (-1)]) (.tuple [.str "rule", .int (-1)]) = true by decide +kernel]
    walk_at "xs"
    refine x_iteF ?_
    walk_at "xs"
    exact ⟨_, rfl⟩
   rintro m nz ⟨b8, rfl⟩
   walk_at "xs"
   refine x_loop0 (fun i m => ∃ a b, m = MSt.mk [a, b] [[t], (h.rs.take i).map fun (r : Nat) => .int (r : Int)] 2) ⟨none, none, rfl⟩ ?_ ?_
   ·rintro i d m e n ⟨a, b, rfl⟩
    obtain ⟨s, es, rfl, hi⟩ := gmap e
    dsimp only [Srv.d]
    walk_at "xs"
    ·rfl
    walk_at "xs"
    refine ⟨_, rfl, by rw [sizeLine_eq, List.length_map, List.length_take]; omega, some (.imm (.tuple [.int s.a, .int s.b])), some (.imm (.int s.r)), ?_⟩
    rw [List.take_add_one, Hall.rs_get es, List.map_append]
    rfl
   rintro m n ⟨a, b, rfl⟩
   have hrl := h.rsl
   rw [List.length_map, ← hrl, List.take_length]
   walk_at "xs"
   refine ⟨h.rs, rfl, by omega, ho.r6, ?_⟩
   walk_at "xx"
   rw [List.length_map]
   by_cases hs : ((M3.allR h.rs).length : Int) < 25
   ·rw [if_pos (decide_eq_true hs)]
    walk_at "xs"
    refine ⟨h, w1, w2, d1, d2, [], rfl, hw, .inl rfl, ?_⟩
    walk_at "xx"
    refine x_ne (d1 := .tuple [.str "rule", .int (-1)]) (d2 := .tuple [.str "rule", .int (-1)]) rfl rfl (by decide +kernel) (by decide +kernel) ?_
    rw [show PyData.eqv (.tuple [.str "rule", .int (-1)]) (.tuple [.str "rule", .int (-1)]) = true by decide +kernel]
    walk_at "xs"
    refine x_iteF ?_
    walk_at "xs"
    exact ⟨_, _, _, _, rfl⟩
   ·rw [if_neg (by rw [decide_eq_false hs]; decide)]
    walk_at "xs"
    exact ⟨_, _, _, _, rfl⟩
  ·rintro m nj ⟨b6, b7, b8, b9, rfl⟩
   exact ⟨_, _, _, _, _, _, _, _, t, rfl, ht.mono (by omega)⟩
 ·rintro m n ⟨a2, a3, a4, a5, a6, a7, a8, a9, t, rfl, ht⟩
  walk_at "xs"
  exact k
end
theorem all_mk {l : PySem.W.OpenLaw} {w : World} {K : PySem.W.Frag} {h : Heap} {mg : Str → Option Value} {fa : Addr} (X : K.In h) (G : h.Ns mainGlobals mg) (hfa : mg "law" = some (.ref fa)) (drefuse_turns : DefK K "refuse_turns" srefuse_turns) (dlets_never : DefK K "lets_never" slets_never) (dnever_worse : DefK K "never_worse" snever_worse) (d_law_tape : DefK K "_law_tape" s_law_tape) (d_law_draw : DefK K "_law_draw" s_law_draw) (d_law_frac : DefK K "_law_frac" s_law_frac) (d_law_all_lines : DefK K "_law_all_lines" s_law_all_lines) (d_law_hall : DefK K "_law_hall" s_law_hall) (d_law_rule : DefK K "_law_rule" s_law_rule) (d_law_told : DefK K "_law_told" s_law_told) (dlaw : DefK K "law" slaw) (zlen : PySem.W.nsIn K mainGlobals "len" = some none) (zrange : PySem.W.nsIn K mainGlobals "range" = some none) (zlist : PySem.W.nsIn K mainGlobals "list" = some none) (ztuple : PySem.W.nsIn K mainGlobals "tuple" = some none) (zint : PySem.W.nsIn K mainGlobals "int" = some none) (zsum : PySem.W.nsIn K mainGlobals "sum" = some none) (zmax : PySem.W.nsIn K mainGlobals "max" = some none) (zisinstance : PySem.W.nsIn K mainGlobals "isinstance" = some none) (zrepr : PySem.W.nsIn K mainGlobals "repr" = some none) (zValueError : PySem.W.nsIn K mainGlobals "ValueError" = some none)  (eLineError : ExcK K "LineError") (eNoNever : ClsK K "NoNever") (eNoAlike : ClsK K "NoAlike") (eNoBack : ClsK K "NoBack") (eNoBest : ClsK K "NoBest") (eNoFraction : ClsK K "NoFraction") (eNoHall : ClsK K "NoHall") (eNoRow : ClsK K "NoRow") (eNoShares : ClsK K "NoShares") (eNoText : ClsK K "NoText") (eTooMany : ClsK K "TooMany") (iNoNever : IniK K "NoNever" ["word", "number"]) (fsub : SubX K "NoNever" "LineError") (fi1 : IsIn K "NoNever" (.ref (clsA K "NoNever")) true) (fi2 : IsIn K "NoNever" (.type "ValueError") true) (fi3 : IsIns K "NoNever" ((["NoAlike", "NoBack", "NoBest", "NoFraction", "NoHall"] : List Str).map (clsA K)) false) (fi4 : IsIns K "NoNever" ((["NoRow", "NoShares", "NoText", "TooMany"] : List Str).map (clsA K)) false) (fa1 : XAt K "NoNever" "word") (fa2 : XAt K "NoNever" "number") :
  ∃ fd : FuncData, (∀ (s : Shared) (v : Value), BindsTo s fd ⟨[v], []⟩ [("_law_script", v)]) ∧ ∀ base : Heap, K.In base → base.Ns mainGlobals mg → FnOk l.prog w K mg base CX0 8 fa fd ["_law_script"] (spOf ⟨K, w⟩ 1 spLaw) := by
 obtain ⟨f, fd, a, F⟩ := dlaw.ex
 have e := hfa.symm.trans (PySem.W.mg_of X G a)
 cases e
 have T : Bl K mg := ⟨PySem.W.mg_none_of X G zlen, PySem.W.mg_none_of X G zrange, PySem.W.mg_none_of X G zlist, PySem.W.mg_none_of X G ztuple, PySem.W.mg_none_of X G zint, PySem.W.mg_none_of X G zsum, PySem.W.mg_none_of X G zmax, PySem.W.mg_none_of X G zisinstance, PySem.W.mg_none_of X G zrepr, PySem.W.mg_none_of X G zValueError, (eLineError.x X G).mg, eLineError.x X G, eNoNever.m X G, eNoAlike.m X G, eNoBack.m X G, eNoBest.m X G, eNoFraction.m X G, eNoHall.m X G, eNoRow.m X G, eNoShares.m X G, eNoText.m X G, eTooMany.m X G, iNoNever.m X G, fsub, fi1, fi2, fi3, fi4, fa1, fa2⟩
 have Drefuse_turns := drefuse_turns.m (ps := ["one", "other"]) X G fun f fd F => F.binds fun _ _ _ _ _ _ us hl => match us, hl with | [_, _], _ => rfl
 have Dlets_never := dlets_never.m (ps := ["hall", "one", "other", "thing"]) X G fun f fd F => F.binds fun _ _ _ _ _ _ us hl => match us, hl with | [_, _, _, _], _ => rfl
 have Dnever_worse := dnever_worse.m (ps := ["hall", "one", "other"]) X G fun f fd F => F.binds fun _ _ _ _ _ _ us hl => match us, hl with | [_, _, _], _ => rfl
 have D_law_tape := d_law_tape.m (ps := ["_law_script"]) X G fun f fd F => F.binds fun _ _ _ _ _ _ us hl => match us, hl with | [_], _ => rfl
 have D_law_draw := d_law_draw.m (ps := ["_law_tape_here", "_law_many"]) X G fun f fd F => F.binds fun _ _ _ _ _ _ us hl => match us, hl with | [_, _], _ => rfl
 have D_law_frac := d_law_frac.m (ps := ["_law_top", "_law_bottom"]) X G fun f fd F => F.binds fun _ _ _ _ _ _ us hl => match us, hl with | [_, _], _ => rfl
 have D_law_all_lines := d_law_all_lines.m (ps := ["_law_rooms"]) X G fun f fd F => F.binds fun _ _ _ _ _ _ us hl => match us, hl with | [_], _ => rfl
 have D_law_hall := d_law_hall.m (ps := ["_law_tape_here", "_law_most"]) X G fun f fd F => F.binds fun _ _ _ _ _ _ us hl => match us, hl with | [_, _], _ => rfl
 have D_law_rule := d_law_rule.m (ps := ["_law_tape_here", "_law_hall_here"]) X G fun f fd F => F.binds fun _ _ _ _ _ _ us hl => match us, hl with | [_, _], _ => rfl
 have D_law_told := d_law_told.m (ps := ["_law_hall_here", "_law_one", "_law_other", "_law_things"]) X G fun f fd F => F.binds fun _ _ _ _ _ _ us hl => match us, hl with | [_, _, _, _], _ => rfl
 refine ⟨fd, fun s v => ?_, fun base _ _ => ?_⟩
 ·obtain ⟨oc, od, kV, doc, pm, an, cdv, ct, osl, rfl, lk, hcd⟩ := F.ex
  exact .of_eq rfl
 ·have Grefuse_turns := okrefuse_turns (P := l.prog) (w := w) (base := base) T Drefuse_turns
  have Grefuse_turns_vX := okrefuse_turns_vX (P := l.prog) (w := w) (base := base) T Drefuse_turns
  have Glets_never := oklets_never (P := l.prog) (w := w) (base := base) T Dlets_never Grefuse_turns
  have Glets_never_vX := oklets_never_vX (P := l.prog) (w := w) (base := base) T Dlets_never Grefuse_turns_vX
  have Gnever_worse := oknever_worse (P := l.prog) (w := w) (base := base) T Dnever_worse Grefuse_turns
  have Gnever_worse_vX := oknever_worse_vX (P := l.prog) (w := w) (base := base) T Dnever_worse Grefuse_turns_vX
  have G_law_tape := ok_law_tape (P := l.prog) (w := w) (base := base) T D_law_tape
  have G_law_draw := ok_law_draw (P := l.prog) (w := w) (base := base) T D_law_draw
  have G_law_frac := ok_law_frac (P := l.prog) (w := w) (base := base) T D_law_frac
  have G_law_all_lines := ok_law_all_lines (P := l.prog) (w := w) (base := base) T D_law_all_lines
  have G_law_hall := ok_law_hall (P := l.prog) (w := w) (base := base) T D_law_hall G_law_draw G_law_frac G_law_all_lines
  have G_law_rule := ok_law_rule (P := l.prog) (w := w) (base := base) T D_law_rule G_law_draw G_law_all_lines
  have G_law_told := ok_law_told (P := l.prog) (w := w) (base := base) T D_law_told Glets_never_vX Gnever_worse_vX
  exact oklaw T F G_law_tape G_law_hall G_law_rule G_law_told G_law_all_lines
theorem walk {l : PySem.W.OpenLaw} {q : Program} {loose : List Str} {XP : (Str → Option Value) → Heap → Prop} {YP : World → Heap → Prop} {d : DefRec} {K : Params → PySem.W.Frag} (hq : PyProof.Rows.importsNone q = true) (hn : l.most = some 63) (hdf : d.params.defaults = [])
  (hY : ∀ (w : World) (h : Heap), YP w h → (K w.params).In h)
  (F : ∀ (w : World) (mg : Str → Option Value) (fa : Addr) (h : Heap), (K w.params).In h → h.Ns mainGlobals mg → mg d.name = some (.ref fa) →
   ∃ fd : FuncData, (∀ (s : Shared) (u : Value), BindsTo s fd ⟨[u], []⟩ [("_law_script", u)]) ∧ ∀ base : Heap, (K w.params).In base → base.Ns mainGlobals mg → FnOk l.prog w (K w.params) mg base CX0 8 fa fd ["_law_script"] (spOf ⟨K w.params, w⟩ 1 spLaw)) :
  PySem.W.WalkO q loose XP YP l.row.toRowW d [] (fun f vs => PySem.call f vs) :=
 L2.walk_of (n := 63) (k := 8) (x := "_law_script") (CX := fun _ => CX0) (sp := fun w => spOf ⟨K w.params, w⟩ 1 spLaw) hq hn (by decide) hdf ⟨rfl, by decide, by decide, rfl⟩ hY F
  (fun w H a ns hl hO hS => ⟨[.imm (.list (ns.map .int))], [], fun r _ => r = .imm (.bool true), rfl, List.nodup_nil, .imm (script_den hO hS) .nil, ⟨ns, rfl, hl, rfl⟩, fun r outs v H' k _ rr _ => by cases k; exact bl_of_den (show Den ⟨K w.params, w⟩ H' (.bool true) v from rr)⟩) fun _ _ _ _ _ z => z
end K
namespace PySem.W.Fast
def tw10605576820637645103:=0
def tw1288066347639442919:=0
def tw6849631594135106072:=0
def tw14632688827478836758:=0
def tw12588092725771895848:=0
def tw12119202513516187992:=0
def tw10678497378896793089:=0
def tw13166792322313581622:=0
def tw2346281120635122852:=0
def tw8293047991306300842:=0
def tw7438575283040312409:=0
def tw15234250754614715738:=0
def tw11480513729092109061:=0
def tw2155554836527088973:=0
def tw11109170922455535158:=0
def tw732298506491465594:=0
def tw83657204002180244:=0
def tw18026413977735295661:=0
def tw17694473685891080715:=0
def tw15673771811028966679:=0
def tw12873783315087252950:=0
def tw658745456686745395:=0
def tw8567797895031656186:=0
def tw9120552674892128055:=0
def tw15250657383808380000:=0
def tw7705220000153938634:=0
def tw12676405874832176310:=0
def tw1124578567064021710:=0
def tw7219534671248187670:=0
def tw12291447837713680931:=0
def tw16617884166307649137:=0
def tw501946432595146509:=0
def tw8494533220364665728:=0
def tw5973988044100055233:=0
def tw4676580528840003753:=0
def tw12339136112748592865:=0
def tw17079434380709772641:=0
def tw6576236831605237109:=0
def tw15943150118370027462:=0
def tw355596047468851548:=0
def tw2532566719110241358:=0
def tw13993342529599483849:=0
def tw3098487357378076116:=0
def tw2826245284292010938:=0
def tw3460726538255000557:=0
def tw12578073550256586119:=0
def tw6424908431027379534:=0
def tw6163672566795569664:=0
def tw11500409990118328233:=0
def tw6339488882729509469:=0
def tw11978680636817506976:=0
def tw10936757211043271583:=0
def tw14337445833655163666:=0
def tw14070415899614958083:=0
def tw116595167286670414:=0
def tw12750408772971032793:=0
def tw17948144624615769153:=0
def tw16947528567559693480:=0
def tw112641475661230075:=0
def tw9842964910520123904:=0
def tw10119461183830206517:=0
def tw8531527013809383261:=0
def tw17792151324076346162:=0
def tw10780881924232171329:=0
def tw10332375960106886897:=0
def tw7874434088837980247:=0
def tw11376089582918104002:=0
def tw15829136096025258274:=0
def tw14913221222721331429:=0
def tw5592916406713940696:=0
def tw243563826524444328:=0
def tw1817054936045788708:=0
def tw16846221016923659573:=0
def tw8705462536985026236:=0
def tw4272686523389787250:=0
def tw7279608446016454879:=0
def tw18170391728009804566:=0
def tw11097692650779649288:=0
def tw6484754934407811235:=0
def tw6410770959194941770:=0
def tw775218250035019648:=0
def tw2680953246162486381:=0
def tw4921922174042218166:=0
def tw8770556860529013342:=0
def tw5649291499731110498:=0
def tw5316034768575207815:=0
def tw14631531917929466329:=0
def tw5219383243005900804:=0
def tw8648964020070674019:=0
def tw1521543370094846306:=0
def tw9192793127393133349:=0
def tw2523855600032587266:=0
def tw16547238180416858838:=0
def tw12384983382642352985:=0
def tw17499887444032317905:=0
def tw3271512592229451083:=0
def tw6953381440874032195:=0
def tw15117260201559098296:=0
def tw7831387780218785741:=0
def tw17543289465370163410:=0
def tw4887417597175374174:=0
def tw18087700566789989803:=0
def tw8476807914020121334:=0
def tw15481956019487664904:=0
def tw12787886331663015758:=0
def tw12211553602710086650:=0
def tw10220829333450907388:=0
def tw16099455560319756859:=0
def tw17344353216459518032:=0
def tw14554072655295338076:=0
def tw15729305478364141504:=0
def tw16951163549005819092:=0
def tw2728021944421783394:=0
def tw8463206117928202540:=0
def tw10308928006326148491:=0
def tw18336004835574101312:=0
def tw12253643570235663260:=0
def tw9320599907328427835:=0
def tw3236650647738265059:=0
def tw6490463885281517079:=0
def tw15894855315058384619:=0
def tw16681192191243872605:=0
def tw15903046676276727331:=0
def tw10175602625107880026:=0
def tw13132259357415966771:=0
def tw3135117531429021942:=0
def tw5313959284824350359:=0
def tw12859757344586544616:=0
def tw11539990481244225587:=0
def tw8823943738025183195:=0
def tw10620420458644371377:=0
def tw1701431663149694363:=0
def tw17620041295467115974:=0
def tw11431944654846802186:=0
def tw10461466156800951106:=0
def tw16634442183903644731:=0
def tw2703794996152942493:=0
def tw10247235149331370644:=0
def tw15711799167181978917:=0
def tw6916547488829387443:=0
def tw11336295812372819042:=0
def tw16521954758901754603:=0
def tw8324181341687452312:=0
def tw17093758684557751325:=0
def tw3661361598250872231:=0
def tw2006730868543407206:=0
def tw8687397222584826666:=0
def tw16749777454781204457:=0
def tw15579905343004482383:=0
def tw12334353099591356777:=0
def tw5174234080074697261:=0
def tw13108132156315856151:=0
def tw4517439998231581362:=0
def tw16223861061552142485:=0
def tw7750272442539070268:=0
def tw16278305530853887457:=0
def tw794062486766031645:=0
def tw159190261457126884:=0
def tw8106397170167701987:=0
def tw5225249585730006980:=0
def tw691558161889851743:=0
def tw3574869645249867110:=0
def tw5555460476229525278:=0
def tw1561968493552320406:=0
def tw4158045781747372793:=0
def tw7834155756057953803:=0
def tw16926605807559308813:=0
def tw4615608447840567381:=0
def tw11405784669208838356:=0
def tw10680859881965537413:=0
def tw5686551112001201272:=0
def tw3495755701154202597:=0
def tw8634009666707324458:=0
def tw2695402569000334658:=0
def tw12196780505015906178:=0
def tw17153680956129094423:=0
def tw17255426418370353458:=0
def tw11113053209054873940:=0
def tw7867968091308863142:=0
def tw4376210667583179947:=0
def tw13694564428448550922:=0
def tw3005342494047819364:=0
def tw5605962380244746921:=0
end PySem.W.Fast
open PySem PySem.W PyProof.Rows
local macro_rules | `(tactic| walk_at "dk") => `(tactic| (refine' L2.DefK.of ?a ?l ?c ?k; (case a => k_is); (case l => k_is); (case c => k_is); (case k => k_is)))
set_option maxRecDepth 100000 in
set_option maxHeartbeats 0 in
theorem PySem.Challenge.cw_shorterline_k55_rules_by_turns_refused_holds : PySem.Challenge.rw_shorterline_k55_rules_by_turns_refused.Holds := by
 w_on; o_law; k_head; (case hw => w_witness2)
 k_fill
 refine K.walk (l := PySem.Challenge.rw_shorterline_k55_rules_by_turns_refused) ?hq rfl rfl (fun w h Y => PySem.W.kIn_of Y) ?F
 case hq => kernel_rfl
 case F =>
  intro w mg fa h KX G hmg
  refine' K.all_mk KX G hmg ?drefuse_turns ?dlets_never ?dnever_worse ?d_law_tape ?d_law_draw ?d_law_frac ?d_law_all_lines ?d_law_hall ?d_law_rule ?d_law_told ?dlaw ?zlen ?zrange ?zlist ?ztuple ?zint ?zsum ?zmax ?zisinstance ?zrepr ?zValueError  ?eLineError ?eNoNever ?eNoAlike ?eNoBack ?eNoBest ?eNoFraction ?eNoHall ?eNoRow ?eNoShares ?eNoText ?eTooMany ?iNoNever ?fsub ?fi1 ?fi2 ?fi3 ?fi4 ?fa1 ?fa2
  (case drefuse_turns => walk_at "dk")
  (case dlets_never => walk_at "dk")
  (case dnever_worse => walk_at "dk")
  (case d_law_tape => walk_at "dk")
  (case d_law_draw => walk_at "dk")
  (case d_law_frac => walk_at "dk")
  (case d_law_all_lines => walk_at "dk")
  (case d_law_hall => walk_at "dk")
  (case d_law_rule => walk_at "dk")
  (case d_law_told => walk_at "dk")
  (case dlaw => walk_at "dk")
  (case zlen => k_is)
  (case zrange => k_is)
  (case zlist => k_is)
  (case ztuple => k_is)
  (case zint => k_is)
  (case zsum => k_is)
  (case zmax => k_is)
  (case zisinstance => k_is)
  (case zrepr => k_is)
  (case zValueError => k_is)
  (case eLineError => (refine' L2.ExcK.of ?a ?b; (case a => k_is); (case b => k_exc)))
  (case eNoNever => (refine' L2.ClsK.of ?a; (case a => k_is)))
  (case eNoAlike => (refine' L2.ClsK.of ?a; (case a => k_is)))
  (case eNoBack => (refine' L2.ClsK.of ?a; (case a => k_is)))
  (case eNoBest => (refine' L2.ClsK.of ?a; (case a => k_is)))
  (case eNoFraction => (refine' L2.ClsK.of ?a; (case a => k_is)))
  (case eNoHall => (refine' L2.ClsK.of ?a; (case a => k_is)))
  (case eNoRow => (refine' L2.ClsK.of ?a; (case a => k_is)))
  (case eNoShares => (refine' L2.ClsK.of ?a; (case a => k_is)))
  (case eNoText => (refine' L2.ClsK.of ?a; (case a => k_is)))
  (case eTooMany => (refine' L2.ClsK.of ?a; (case a => k_is)))
  (case iNoNever => (refine' L2.IniK.of2 (qual := "NoNever.__init__") (st := K.siNoNever) K.sciNoNever rfl (by decide) (by decide) (by decide) (by decide) (by decide) K.biNoNever ?xa ?xb ?xc ?xl ?xe ?xk ?xd ?xi ?xs ?xt ?xo ?xn ?xm; (case xa => k_is); (case xb => k_is); (case xc => k_is); (case xl => k_is); (case xe => k_is); (case xk => k_is); (case xd => k_is); (case xi => kernel_rfl); (case xs => kernel_rfl); (case xt => k_is); (case xo => k_is); (case xn => k_is); (case xm => k_is)))
  (case fsub => (refine' L2.SubX.of ?a ?b ?c; (case a => k_is); (case b => k_is); (case c => kts_exm)))
  (case fi1 => (refine' L2.IsIn.own (L2.XCls.of ?xa ?xb ?xc ?xd ?xe ?xf ?xg ?xh ?xi) ?xp ?xq ?xr; (case xa => k_is); (case xb => k_is); (case xc => k_is); (case xd => k_is); (case xe => k_is); (case xf => k_is); (case xg => k_is); (case xh => k_is); (case xi => k_is); (case xp => k_is); (case xq => k_is); (case xr => kit_is)))
  (case fi2 => (refine' L2.IsIn.ty (L2.XCls.of ?xa ?xb ?xc ?xd ?xe ?xf ?xg ?xh ?xi) ?xp ?xr; (case xa => k_is); (case xb => k_is); (case xc => k_is); (case xd => k_is); (case xe => k_is); (case xf => k_is); (case xg => k_is); (case xh => k_is); (case xi => k_is); (case xp => k_is); (case xr => kit_is)))
  (case fi3 => (refine' L2.IsIns.of (L2.XCls.of ?xa ?xb ?xc ?xd ?xe ?xf ?xg ?xh ?xi) ?xp (.cons ?xq1 (.cons ?xq2 (.cons ?xq3 (.cons ?xq4 (.cons ?xq5 .nil))))) ?xr; (case xa => k_is); (case xb => k_is); (case xc => k_is); (case xd => k_is); (case xe => k_is); (case xf => k_is); (case xg => k_is); (case xh => k_is); (case xi => k_is); (case xp => k_is); (case xq1 => k_is); (case xq2 => k_is); (case xq3 => k_is); (case xq4 => k_is); (case xq5 => k_is); (case xr => kit_is)))
  (case fi4 => (refine' L2.IsIns.of (L2.XCls.of ?xa ?xb ?xc ?xd ?xe ?xf ?xg ?xh ?xi) ?xp (.cons ?xq1 (.cons ?xq2 (.cons ?xq3 (.cons ?xq4 .nil)))) ?xr; (case xa => k_is); (case xb => k_is); (case xc => k_is); (case xd => k_is); (case xe => k_is); (case xf => k_is); (case xg => k_is); (case xh => k_is); (case xi => k_is); (case xp => k_is); (case xq1 => k_is); (case xq2 => k_is); (case xq3 => k_is); (case xq4 => k_is); (case xr => kit_is)))
  (case fa1 => (refine' L2.XAt.of (L2.XCls.of ?xa ?xb ?xc ?xd ?xe ?xf ?xg ?xh ?xi) ?xp ?xq; (case xa => k_is); (case xb => k_is); (case xc => k_is); (case xd => k_is); (case xe => k_is); (case xf => k_is); (case xg => k_is); (case xh => k_is); (case xi => k_is); (case xp => k_is); (case xq => k_is)))
  (case fa2 => (refine' L2.XAt.of (L2.XCls.of ?xa ?xb ?xc ?xd ?xe ?xf ?xg ?xh ?xi) ?xp ?xq; (case xa => k_is); (case xb => k_is); (case xc => k_is); (case xd => k_is); (case xe => k_is); (case xf => k_is); (case xg => k_is); (case xh => k_is); (case xi => k_is); (case xp => k_is); (case xq => k_is)))