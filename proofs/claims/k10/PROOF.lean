import PyProof.Rows.All
import Wide.All
import OpenK.AllK
import Wide.FinOn
import Lean
import PyProof.EqAt
import PyProof.EqKinds
import PyProof.TupleCall
import KE.KRevIter
import PyProof.FactsAll.range
import PyProof.P3In
import PyProof.ZipIter
import PyProof.TupleIter
import PyProof.WalkInts
import PyProof.SeqI3
import PyProof.EnumFor
import PyProof.EnumMake
import PyProof.ListMulRoad
import PyProof.Rows.SortRev
import PyProof.SumWalkG
import PyProof.StrWalks
import PyProof.StrCalls2
import PyProof.StrLawsTight
import KE.KIntText
import PyProof.StrBlockG
import PyProof.Rows.StrItems
import PyProof.StrLawsRepr
import PyProof.SliceStr2
import PyProof.StrBlockI
import PyProof.Rows.IntBool
import PyProof.Rows.FStr
import PyProof.FString
import PyProof.FactsAll.tuple
import KE.KSortTup
import PySem.Challenge.RW_shorterline_k10_stands_moves_and_runs_by
set_option Elab.async false
set_option linter.all false
set_option maxRecDepth 100000
namespace L2
open PySem PySem.Spec PyProof.Rows
abbrev Key := Sum Int Str
def keyIs : Key → Value → Bool
 | .inl k, v => Value.isInt k v
 | .inr x, v => Value.isStrOf x v
def keyH (w : World) : Key → Int
 | .inl k => hashInt k
 | .inr x => hashStr w x
theorem keyIs_shape : ∀ {k : Key} {v : Value}, keyIs k v = true → (∃ i t, k = Sum.inl i ∧ v = Value.int i t) ∨ (∃ x t, k = Sum.inr x ∧ v = Value.str x t)
 | .inl i, v, h => by
  obtain ⟨t, e⟩ := Value.isInt_shape (k := i) (v := v) h
  exact .inl ⟨i, t, rfl, e⟩
 | .inr x, v, h => by
  obtain ⟨t, e⟩ := Value.isStrOf_shape (x := x) (v := v) h
  exact .inr ⟨x, t, rfl, e⟩
theorem key_ll (a b : Int) : decide ((Sum.inl a : Key) = Sum.inl b) = (a == b) := by
 by_cases e : a = b
 ·subst e; simp
 ·have h : ¬ (Sum.inl a : Key) = Sum.inl b := fun q => e (Sum.inl.inj q)
  rw [decide_eq_false h]
  exact (beq_eq_false_iff_ne.mpr e).symm
theorem key_rr (a b : Str) : decide ((Sum.inr a : Key) = Sum.inr b) = decide (a = b) := by
 by_cases e : a = b
 ·subst e; simp
 ·have h : ¬ (Sum.inr a : Key) = Sum.inr b := fun q => e (Sum.inr.inj q)
  rw [decide_eq_false h, decide_eq_false e]
theorem key_lr (a : Int) (b : Str) : decide ((Sum.inl a : Key) = Sum.inr b) = false := decide_eq_false (fun q => nomatch q)
theorem key_rl (a : Str) (b : Int) : decide ((Sum.inr a : Key) = Sum.inl b) = false := decide_eq_false (fun q => nomatch q)
def mixKind (prog : Program) (w : World) : PySem.KeyKind prog w Key where
 is := keyIs
 hash := keyH w
 inj := fun v a b ha hb => by
  rcases keyIs_shape ha with ⟨i, t, rfl, rfl⟩ | ⟨x, t, rfl, rfl⟩
  ·rcases keyIs_shape hb with ⟨j, u, rfl, e⟩ | ⟨y, u, rfl, e⟩
   ·injection e with e1 _; rw [e1]
   ·exact nomatch e
  ·rcases keyIs_shape hb with ⟨j, u, rfl, e⟩ | ⟨y, u, rfl, e⟩
   ·exact nomatch e
   ·injection e with e1 _; rw [e1]
 byValue := fun k v h => by
  rcases keyIs_shape h with ⟨i, t, rfl, rfl⟩ | ⟨x, t, rfl, rfl⟩ <;> rfl
 pyHash := fun hv h => by
  rcases keyIs_shape hv with ⟨i, t, rfl, rfl⟩ | ⟨x, t, rfl, rfl⟩
  ·exact wpAny_pyHash_int h
  ·exact wpAny_pyHash_str h
 eqBool := fun hu hv h => by
  rcases keyIs_shape hu with ⟨i, t, rfl, rfl⟩ | ⟨x, t, rfl, rfl⟩
  ·rcases keyIs_shape hv with ⟨j, u, rfl, rfl⟩ | ⟨y, u, rfl, rfl⟩
   ·rw [key_ll] at h; exact wpAny_eqBool_int h
   ·rw [key_lr] at h; exact SeqAt.EqAt.int_str i t y u _ _ _ _ h
  ·rcases keyIs_shape hv with ⟨j, u, rfl, rfl⟩ | ⟨y, u, rfl, rfl⟩
   ·rw [key_rl] at h; exact SeqAt.EqAt.str_int x t j u _ _ _ _ h
   ·rw [key_rr] at h; exact wpAny_eqBool_str h
 «strs» := fun k x t v h => by
  rcases keyIs_shape h with ⟨i, u, rfl, e⟩ | ⟨y, u, rfl, e⟩
  ·exact nomatch e
  ·injection e with e1 _
   subst e1
   cases v <;> rfl
inductive V where
 | non | bl (b : Bool) | int (i : Int) | str (x : Str) | byt (b : Array UInt8) | flt (b : UInt64) | ref (a : Addr) | ty (n : String)
 deriving DecidableEq
def RelV : V → Value → Prop
 | .non, u => u = Value.none
 | .bl b, u => u = Value.bool b
 | .int i, u => ∃ t, u = Value.int i t
 | .str x, u => ∃ t, u = Value.str x t
 | .byt b, u => ∃ t, u = Value.bytes b t
 | .flt b, u => ∃ t, u = Value.float b t
 | .ref a, u => u = Value.ref a
 | .ty n, u => u = Value.type n
abbrev Vals : List V → List Value → Prop := Paired RelV
theorem Vals.length {xs : List V} {us : List Value} (r : Vals xs us) : xs.length = us.length := Paired.length r
theorem Vals.get : ∀ {xs : List V} {us : List Value} {i : Nat} {x : V}, Vals xs us → xs[i]? = some x → ∃ u, us[i]? = some u ∧ RelV x u
 | _, _, _, _, .nil, e => by simp at e
 | _, _, 0, _, .cons r _, e => by simp at e; subst e; exact ⟨_, rfl, r⟩
 | _, _, i + 1, x, .cons _ t, e => by
  obtain ⟨u, h1, h2⟩ := Vals.get (i := i) (x := x) t (by simpa using e)
  exact ⟨u, by simpa using h1, h2⟩
theorem Vals.set {x : V} {u : Value} (r : RelV x u) : ∀ {xs : List V} {us : List Value} (i : Nat), Vals xs us → Vals (xs.set i x) (us.set i u)
 | _, _, _, .nil => .nil
 | _, _, 0, .cons _ t => .cons r t
 | _, _, i + 1, .cons q t => .cons q (Vals.set r i t)
theorem Vals.append : ∀ {xs ys : List V} {us ws : List Value}, Vals xs us → Vals ys ws → Vals (xs ++ ys) (us ++ ws)
 | _, _, _, _, .nil, s => s
 | _, _, _, _, .cons r t, s => .cons r (Vals.append t s)
theorem Vals.take : ∀ {xs : List V} {us : List Value} (n : Nat), Vals xs us → Vals (xs.take n) (us.take n)
 | _, _, 0, _ => .nil
 | _, _, _ + 1, .nil => .nil
 | _, _, n + 1, .cons r t => .cons r (Vals.take n t)
theorem Vals.drop : ∀ {xs : List V} {us : List Value} (n : Nat), Vals xs us → Vals (xs.drop n) (us.drop n)
 | _, _, 0, r => r
 | _, _, _ + 1, .nil => .nil
 | _, _, n + 1, .cons _ t => Vals.drop n t
theorem Vals.none_of : ∀ {xs : List V} {us : List Value} {i : Nat}, Vals xs us → xs[i]? = none → us[i]? = none := fun {xs us i} r e => by
 have h1 := r.length
 have h2 : xs.length ≤ i := List.getElem?_eq_none_iff.mp e
 exact List.getElem?_eq_none_iff.mpr (by omega)
def RelO : Option V → Option Value → Prop
 | some v, some u => RelV v u
 | none, none => True
 | _, _ => False
def KV {κ : Type} : List (κ × V) → List (κ × Value) → Prop := Paired fun (p : κ × V) (q : κ × Value) => p.1 = q.1 ∧ RelV p.2 q.2
def kV : Key → V
 | .inl i => .int i
 | .inr x => .str x
inductive HO where
 | lst (xs : List V)
 | tup (xs : List V)
 | dK (kvs : List (Key × V)) | dT (kvs : List (List Key × V))
 | set (S : Int → Bool) (n : Nat)
 | ins (C dx : Addr) (fs : List (Str × V))
 | own (x : Addr)
 | xd (fs : List (Str × V))
 | met (f x : Addr)
 | rng (lo hi : Int)
 | frz (o : Obj) (u : HO)
 | tbl (ps : Array Value)
 | ext (φ : Heap → Prop)
abbrev Hp := Addr → Option HO
def upd (H : Hp) (a : Addr) (o : HO) : Hp := fun b => if b = a then some o else H b
theorem upd_same {H : Hp} {a : Addr} {o : HO} : upd H a o a = some o := by unfold upd; rw [if_pos rfl]
theorem upd_ne {H : Hp} {a b : Addr} {o : HO} (h : b ≠ a) : upd H a o b = H b := by unfold upd; rw [if_neg h]
theorem ne_of {H : Hp} {a b : Addr} {o u : HO} (h : H a = some o) (h' : H b = some u) (d : o ≠ u) : a ≠ b := by
 intro e; subst e; rw [h] at h'; exact d (Option.some.inj h')
theorem ne_of_none {H : Hp} {a b : Addr} {o : HO} (h : H a = some o) (h' : H b = none) : a ≠ b := by
 intro e; subst e; rw [h] at h'; cases h'
def PlainT (h : Heap) (a : Addr) (items : Array Value) : Prop := ∃ o, h.get? a = some o ∧ o.cls = .type "tuple" ∧ o.dict = none ∧ ∃ n, o.data = .seq items n
theorem PlainT.tup {h : Heap} {a : Addr} {items : Array Value} (x : PlainT h a items) : IsTup h a items := let ⟨o, e, c, _, d⟩ := x; ⟨o, e, c, d⟩
theorem PlainT.new (h : Heap) (items : Array Value) : PlainT (h.push { cls := .type "tuple", data := .seq items }) h.objs.size items := ⟨_, Heap.get?_push_size _ rfl, rfl, rfl, _, rfl⟩
section
variable (P : Program) (w : World)
def ObjOk (H : Hp) (h : Heap) (a : Addr) : HO → Prop
 | .lst xs => xs.length ≤ sizeLine ∧ ∃ (its : List Value) (n : Nat), Vals xs its ∧ h.get? a = some { cls := .type "list", data := .seq its.toArray n }
 | .tup xs => xs.length ≤ sizeLine ∧ ∃ its : List Value, Vals xs its ∧ PlainT h a its.toArray
 | .dK kvs => kvs.length ≤ sizeLine ∧ (a == sysModules) = false ∧ ∃ vs, KV kvs vs ∧ h.DictOf (mixKind P w) a vs
 | .dT kvs => kvs.length ≤ sizeLine ∧ (a == sysModules) = false ∧ ∃ xs : List (List Key × Addr × Value),
   Paired (fun (p : List Key × V) (q : List Key × Addr × Value) => p.1 = q.1 ∧ H q.2.1 = some (.tup (p.1.map kV)) ∧ RelV p.2 q.2.2) kvs xs ∧
   ∃ o es ep, h.get? a = some o ∧ o.ExactDict ∧ o.data = .dict es ep ∧ es.toList = xs.map (entryOfKey (tupleKind (mixKind P w))) ∧ (xs.map (·.1)).Nodup
 | .set S n => h.SetOf (intKind P w) a S n
 | .ins C dx fs => H dx = some (.own a) ∧ fs.length ≤ 1000 ∧ dx ≠ a ∧ h.get? a = some (PySem.W.instObj C dx) ∧
   ∃ mA, h.Ns1 dx mA ∧ (∀ f, RelO (fs.lookup f) (mA f)) ∧ PySem.Within mA (fs.map (·.1))
 | .own _ => ∃ o, h.get? a = some o
 | .xd fs => ∃ mA, h.Ns1 a mA ∧ ∀ f, RelO (fs.lookup f) (mA f)
 | .rng lo hi => ∃ t u v, h.get? a = some { cls := .type "range", data := .fields #[.int lo t, .int hi u, .int 1 v] }
 | .frz o u => h.get? a = some o ∧ ObjOk H h a u
 | .tbl ps => h.get? a = some { cls := .none, data := .fields ps }
 | .met f x => h.get? a = some (PySem.W.methodObj (.ref f) (.ref x))
 | .ext φ => φ h ∧ (∃ o, h.get? a = some o) ∧ ∀ h1 h2 : Heap, φ h1 → (∀ o, h1.get? a = some o → h2.get? a = some o) → φ h2
def HOk (H : Hp) (h : Heap) : Prop := ∀ a o, H a = some o → ObjOk P w H h a o
end
section
variable {P : Program} {w : World} {H H' : Hp} {h h' : Heap} {a : Addr} {o : HO}
theorem ObjOk.lt (x : ObjOk P w H h a o) : a < h.objs.size := by
 cases o with
 | lst xs => obtain ⟨_, _, _, _, e⟩ := x; exact Heap.lt_size e
 | tup xs => obtain ⟨_, _, _, p⟩ := x; exact p.tup.lt
 | dK kvs => obtain ⟨_, _, _, _, o, _, _, e, _⟩ := x; exact Heap.lt_size e
 | dT kvs => obtain ⟨_, _, _, _, o, _, _, e, _⟩ := x; exact Heap.lt_size e
 | set S n => obtain ⟨o, _, _, _, e, _⟩ := x; exact Heap.lt_size e
 | ins C dx fs => obtain ⟨_, _, _, e, _⟩ := x; exact Heap.lt_size e
 | own y => obtain ⟨_, e⟩ := x; exact Heap.lt_size e
 | xd fs => obtain ⟨_, ⟨_, _, _, e, _⟩, _⟩ := x; exact Heap.lt_size e
 | rng lo hi => obtain ⟨_, _, _, e⟩ := x; exact Heap.lt_size e
 | frz ob u => obtain ⟨e, _⟩ := x; exact Heap.lt_size e
 | tbl ps => exact Heap.lt_size (show h.get? a = some _ from x)
 | met f y => exact Heap.lt_size (show h.get? a = some _ from x)
 | ext φ => obtain ⟨_, ⟨_, e⟩, _⟩ := x; exact Heap.lt_size e
theorem Paired.mapP {α β : Type} {F G : α → β → Prop} : ∀ {l₁ : List α} {l₂ : List β}, Paired F l₁ l₂ → (∀ a b, F a b → G a b) → Paired G l₁ l₂
 | _, _, .nil, _ => .nil
 | _, _, .cons r t, f => .cons (f _ _ r) (Paired.mapP t f)
theorem ObjOk.stay (x : ObjOk P w H h a o) (k : ∀ b u, (b = a ∨ H b = some (.own a)) → h.get? b = some u → h'.get? b = some u)
  (ho : ∀ b, H b = some (.own a) → H' b = some (.own a)) (ht : ∀ b xs, H b = some (.tup xs) → H' b = some (.tup xs)) : ObjOk P w H' h' a o := by
 induction o with
 | lst xs => obtain ⟨z, its, n, r, e⟩ := x; exact ⟨z, its, n, r, k _ _ (.inl rfl) e⟩
 | tup xs => obtain ⟨z, its, r, ob, e, c⟩ := x; exact ⟨z, its, r, ob, k _ _ (.inl rfl) e, c⟩
 | dK kvs => obtain ⟨z, y, vs, r, ob, es, ep, e, c⟩ := x; exact ⟨z, y, vs, r, ob, es, ep, k _ _ (.inl rfl) e, c⟩
 | dT kvs =>
  obtain ⟨z, y, xs, r, ob, es, ep, e, c⟩ := x
  exact ⟨z, y, xs, Paired.mapP r fun p q z => ⟨z.1, ht _ _ z.2.1, z.2.2⟩, ob, es, ep, k _ _ (.inl rfl) e, c⟩
 | set S n => obtain ⟨ob, es, ep, t, e, c⟩ := x; exact ⟨ob, es, ep, t, k _ _ (.inl rfl) e, c⟩
 | ins C dx fs =>
  obtain ⟨d, z, ne, e, mA, ⟨od, es, ep, e2, c⟩, r⟩ := x
  exact ⟨ho _ d, z, ne, k _ _ (.inl rfl) e, mA, ⟨od, es, ep, k _ _ (.inr d) e2, c⟩, r⟩
 | own y => obtain ⟨ob, e⟩ := x; exact ⟨ob, k _ _ (.inl rfl) e⟩
 | xd fs => obtain ⟨mA, ⟨od, es, ep, e, c⟩, r⟩ := x; exact ⟨mA, ⟨od, es, ep, k _ _ (.inl rfl) e, c⟩, r⟩
 | rng lo hi => obtain ⟨t, u, v, e⟩ := x; exact ⟨t, u, v, k _ _ (.inl rfl) e⟩
 | frz ob u ih => obtain ⟨e, q⟩ := x; exact ⟨k _ _ (.inl rfl) e, ih q⟩
 | tbl ps =>
  have e : h.get? a = some { cls := .none, data := .fields ps } := x
  show h'.get? a = some { cls := .none, data := .fields ps }
  exact k a _ (.inl rfl) e
 | met f y =>
  have e : h.get? a = some (PySem.W.methodObj (.ref f) (.ref y)) := x
  show h'.get? a = some (PySem.W.methodObj (.ref f) (.ref y))
  exact k a _ (.inl rfl) e
 | ext φ => obtain ⟨p, ⟨o, e⟩, st⟩ := x; exact ⟨st _ _ p fun o q => k _ _ (.inl rfl) q, ⟨o, k _ _ (.inl rfl) e⟩, st⟩
theorem HOk.lt (x : HOk P w H h) (e : H a = some o) : a < h.objs.size := (x a o e).lt
theorem HOk.fresh (x : HOk P w H h) (e : h.objs.size ≤ a) : H a = none := by
 cases q : H a with
 | none => rfl
 | some u => exact absurd (Nat.lt_of_lt_of_le (x.lt q) e) (Nat.lt_irrefl _)
theorem HOk.kept (x : HOk P w H h) (k : ∀ b u, h.get? b = some u → h'.get? b = some u) : HOk P w H h' := fun a o e =>
 (x a o e).stay (fun b u _ q => k b u q) (fun _ q => q) fun _ _ q => q
theorem HOk.laid (x : HOk P w H h) (k : ∀ b u, h.get? b = some u → h'.get? b = some u) (hp : h.objs.size ≤ a) (new : ObjOk P w (upd H a o) h' a o) : HOk P w (upd H a o) h' := fun b u e => by
 have hn := x.fresh hp
 by_cases hb : b = a
 ·subst hb; rw [upd_same] at e; cases e; exact new
 ·rw [upd_ne hb] at e
  exact (x b u e).stay (fun c v _ q => k c v q) (fun c q => by rw [upd_ne (ne_of_none q hn)]; exact q) fun c xs q => by rw [upd_ne (ne_of_none q hn)]; exact q
end
def Rd (H : Hp) (a : Addr) (u : HO) : Prop := H a = some u ∨ ∃ o, H a = some (.frz o u)
theorem Rd.ok {P : Program} {w : World} {H : Hp} {h : Heap} {a : Addr} {u : HO} (r : Rd H a u) (x : HOk P w H h) : ObjOk P w H h a u := by
 rcases r with r | ⟨o, r⟩
 ·exact x a u r
 ·obtain ⟨_, q⟩ := x a _ r
  exact q
def Mut : Option HO → Prop
 | some (.lst _) => True
 | some (.dK _) => True
 | some (.dT _) => True
 | some (.set _ _) => True
 | some (.ins _ _ _) => True
 | some (.ext _) => True
 | _ => False
section
variable {P : Program} {w : World} {H : Hp} {h h' : Heap} {x e : Addr} {o' : HO}
theorem HOk.write (ok : HOk P w H h) (mu : Mut (H x)) (he : e = x ∨ H e = some (.own x)) (k : ∀ b u, b ≠ e → h.get? b = some u → h'.get? b = some u) (heo : ∃ u, h'.get? e = some u)
  (new : ObjOk P w (upd H x o') h' x o') : HOk P w (upd H x o') h' := fun b u q => by
 have nown : ∀ c y, H c = some (.own y) → c ≠ x := fun c y r z => by subst z; rw [r] at mu; exact mu
 have ntup : ∀ c xs, H c = some (.tup xs) → c ≠ x := fun c xs r z => by subst z; rw [r] at mu; exact mu
 by_cases hb : b = x
 ·subst hb; rw [upd_same] at q; cases q; exact new
 ·rw [upd_ne hb] at q
  by_cases hbe : b = e
  ·have q' : H b = some (.own x) := by
    rcases he with z | z
    ·exact absurd (hbe.trans z) hb
    ·rw [hbe]; exact z
   rw [q] at q'; cases q'
   obtain ⟨v, hv⟩ := heo
   exact ⟨v, by rw [hbe]; exact hv⟩
  ·refine (ok b u q).stay (fun c v hc r => k c v ?_ r) (fun c r => by rw [upd_ne (nown c b r)]; exact r) fun c xs r => by rw [upd_ne (ntup c xs r)]; exact r
   rcases hc with rfl | hc
   ·exact hbe
   ·rintro rfl
    rcases he with z | z
    ·exact nown c b hc z
    ·rw [hc] at z; cases z; exact hb rfl
end
structure Un (fs ex : List Addr) (H H' : Hp) (h h' : Heap) : Prop where
 keep : ∀ b o, h.get? b = some o → H b = none → b ∉ fs → b ∉ ex → h'.get? b = some o
 slot : ∀ b o, h.get? b = some o → H b = none → b ∈ fs → b ∉ ex → ∃ sl, h'.get? b = some { o with slots := sl }
 free : ∀ b o, h.get? b = some o → H b = none → b ∉ ex → H' b = none
 there : ∀ b o, h.get? b = some o → b ∉ ex → ∃ o', h'.get? b = some o'
 tups : ∀ b xs, H b = some (.tup xs) → H' b = some (.tup xs)
 frzs : ∀ b o u, H b = some (.frz o u) → H' b = some (.frz o u)
 tbls : ∀ b ps, H b = some (.tbl ps) → ∃ more, H' b = some (.tbl (ps ++ more))
section
variable {fs fs' ex ex' : List Addr} {H H1 H2 : Hp} {h h1 h2 h' : Heap} {a x e : Addr} {o : HO}
theorem Un.any (u : Un fs ex H H1 h h1) {b : Addr} {ob : Obj} (q : h.get? b = some ob) (n : H b = none) (hx : b ∉ ex) : ∃ sl, h1.get? b = some { ob with slots := sl } := by
 by_cases hb : b ∈ fs
 ·exact u.slot b ob q n hb hx
 ·exact ⟨ob.slots, u.keep b ob q n hb hx⟩
theorem Un.kept (k : ∀ b u, h.get? b = some u → h'.get? b = some u) : Un fs ex H H h h' :=
 ⟨fun b ob q _ _ _ => k b ob q, fun b ob q _ _ _ => ⟨ob.slots, k b ob q⟩, fun _ _ _ n _ => n, fun b ob q _ => ⟨ob, k b ob q⟩, fun _ _ q => q, fun _ _ _ q => q, fun _ ps q => ⟨#[], by rw [q]; simp⟩⟩
theorem Un.refl : Un fs ex H H h h := Un.kept fun _ _ q => q
theorem Un.laid (k : ∀ b u, h.get? b = some u → h'.get? b = some u) (hp : h.objs.size ≤ a) (hn : H a = none) : Un fs ex H (upd H a o) h h' where
 keep := fun b u q _ _ _ => k b u q
 slot := fun b u q _ _ _ => ⟨u.slots, k b u q⟩
 free := fun b u q n _ => by rw [upd_ne (Nat.ne_of_lt (Nat.lt_of_lt_of_le (Heap.lt_size q) hp))]; exact n
 there := fun b u q _ => ⟨u, k b u q⟩
 tups := fun b xs q => by rw [upd_ne (ne_of_none q hn)]; exact q
 frzs := fun b u xs q => by rw [upd_ne (ne_of_none q hn)]; exact q
 tbls := fun b ps q => ⟨#[], by rw [upd_ne (ne_of_none q hn), q]; simp⟩
theorem Un.write (mu : Mut (H x)) (he : e = x ∨ H e = some (.own x)) (k : ∀ b u, b ≠ e → h.get? b = some u → h'.get? b = some u) (heo : ∃ u, h'.get? e = some u) : Un fs ex H (upd H x o) h h' := by
 have hx : ∀ b, H b = none → b ≠ x := fun b n z => by subst z; rw [n] at mu; exact mu
 have hb : ∀ b, H b = none → b ≠ e := fun b n z => by
  subst z
  rcases he with r | r
  ·exact hx b n r
  ·rw [n] at r; cases r
 have hm : ∀ b u, H b = some u → ¬ Mut (some u) → b ≠ x := fun b u q nm z => by subst z; rw [q] at mu; exact nm mu
 refine ⟨fun b u q n _ _ => k b u (hb b n) q, fun b u q n _ _ => ⟨u.slots, k b u (hb b n) q⟩, fun b u q n _ => by rw [upd_ne (hx b n)]; exact n, fun b u q _ => ?_,
  fun b xs q => by rw [upd_ne (hm b _ q fun z => z)]; exact q, fun b u xs q => by rw [upd_ne (hm b _ q fun z => z)]; exact q, fun b ps q => ⟨#[], by rw [upd_ne (hm b _ q fun z => z), q]; simp⟩⟩
 by_cases hbe : b = e
 ·subst hbe; exact heo
 ·exact ⟨u, k b u hbe q⟩
end
def trk (h : Heap) (H : Hp) : List Addr := (List.range h.objs.size).filter fun a => (H a).isSome
def hidT (h : Heap) (H : Hp) : Heap := PySem.W.hideAll h (trk h H)
theorem hidT_size (h : Heap) (H : Hp) : (hidT h H).objs.size = h.objs.size := PySem.W.hideAll_size _ _
theorem hidT_get {h : Heap} {H : Hp} {b : Addr} {o : Obj} (e : h.get? b = some o) (n : H b = none) : (hidT h H).get? b = some o :=
 PySem.W.hideAll_get _ e fun hm => by
  have q : (H b).isSome = true := (List.mem_filter.mp hm).2
  rw [n] at q; simp at q
theorem of_hidT {h : Heap} {H : Hp} {b : Addr} {o : Obj} (e : (hidT h H).get? b = some o) : h.get? b = some o ∧ H b = none := by
 have e' : h.get? b = some o := PySem.W.of_hideAll (trk h H) e
 refine ⟨e', ?_⟩
 cases q : H b with
 | none => rfl
 | some x =>
  have hm : b ∈ trk h H := List.mem_filter.mpr ⟨List.mem_range.mpr (Heap.lt_size e'), by simp [q]⟩
  have z : (hidT h H).get? b = none := PySem.W.hideAll_none (trk h H) hm
  rw [z] at e; cases e
structure Mod (K : PySem.W.Frag) (mg : Str → Option Value) (base : Heap) : Prop where
 kin : K.In base
 glob : base.Ns mainGlobals mg
 blt : ∃ mb, base.Ns builtinsNs mb ∧ ∀ x : Str, x ≠ "__name__" → mb x = bootBuiltins x
 nolimit : base.NoLimit
 sys : ∃ m, base.Ns sysModules m
inductive Ao where
 | L (a : Addr) | T (t : List (List Nat × Addr))
structure EB where
 np : Nat
 be : List Ao
 H : Hp
structure Cx where
 prog : Program
 w : World
 K : PySem.W.Frag
 mg : Str → Option Value
 base : Heap
 A : Around
 N : List Str
 s₀ : Shared
 H₀ : Hp
 env : Env
 outer : List Env
 stack : List Env
 ex : List Addr
 fn : Str → Bool
 calm : Bool
 pn : List (Addr × Obj)
 xe : Value → Shared → Prop
 eb : EB := ⟨0, [], fun _ => none⟩
def frs (l : List Env) : List Addr := l.filterMap (·.frame)
abbrev Cx.fs (X : Cx) : List Addr := frs X.outer
def Vis (sc : Scope) (x : Str) : Prop := sc.names.lookup x = some .local ∨ sc.names.lookup x = some .cell ∨ sc.names.lookup x = some .free
def Loc (sc : Scope) (x : Str) : Prop := sc.names.lookup x = some .local ∨ sc.names.lookup x = some .cell
def Look (env : Env) (h : Heap) (m : Str → Option Value) (x : Str) (u : Value) : Prop :=
 (env.kindOf x = some .local ∧ m x = some u) ∨ ((env.kindOf x = some .cell ∨ env.kindOf x = some .free) ∧ ∃ c, env.cells.lookup x = some c ∧ h.IsCell c (some u))
structure Cx.Ok (X : Cx) : Prop where
 mod : Mod X.K X.mg X.base
 kind : X.env.scope.kind = .function
 glob : X.env.globals = mainGlobals
 blt : X.env.builtins = builtinsNs
 above : X.s₀.heap.objs.size ≤ X.env.locals
 inj : ∀ x y c, X.env.cells.lookup x = some c → X.env.cells.lookup y = some c → x = y
 has : ∀ x, (X.env.kindOf x = some .cell ∨ X.env.kindOf x = some .free) → ∃ c, X.env.cells.lookup x = some c
 cab : ∀ x c, X.fn x = true → X.env.cells.lookup x = some c → X.s₀.heap.objs.size ≤ c
 hd : X.calm = true → X.A.handled = none
 frames : X.A.frames = some X.stack
 stk : X.stack = X.outer ∨ (X.stack = X.env :: X.outer ∧ X.env.frame = some X.env.locals)
 exf : ∀ b ∈ X.ex, b ≠ X.env.locals ∧ ∀ x c, X.env.cells.lookup x = some c → c ≠ b
 bs : ∀ b o, X.base.get? b = some o → X.s₀.heap.get? b = some o ∧ X.H₀ b = none
 bsz : X.base.objs.size ≤ X.s₀.heap.objs.size
 noex : ∀ b o, X.base.get? b = some o → b ∉ X.ex
 exfs : ∀ b ∈ X.ex, b ∉ X.fs
 funs : X.s₀.heap.FunFrames X.base X.outer
 frf : ∀ b ∈ X.fs, X.H₀ b = none
structure Inv (X : Cx) (pins : List (Addr × Obj)) (σ : List (Option V)) (H : Hp) (s : Shared) : Prop where
 ok : X.Ok
 os : s.os = X.s₀.os
 bare : AllBare s.gens
 base : Un X.fs X.ex X.H₀ H X.s₀.heap s.heap
 loc : ∃ m, s.heap.Ns X.env.locals m ∧ ∀ (i : Nat) (x : Str) (v : V), X.N[i]? = some x → σ[i]? = some (some v) → Vis X.env.scope x → ∃ u, RelV v u ∧ Look X.env s.heap m x u
 cell : ∀ x c, X.env.cells.lookup x = some c → ∃ v, s.heap.IsCell c v
 free : H X.env.locals = none
 freeC : ∀ x c, X.env.cells.lookup x = some c → H c = none
 pin : ∀ p ∈ X.pn ++ pins, s.heap.get? p.1 = some p.2 ∧ H p.1 = none ∧ p.1 ≠ X.env.locals ∧ p.1 ∉ X.fs ∧ ∀ v, p.2.data ≠ .cell v
 hok : HOk X.prog X.w H s.heap
 len : σ.length = X.N.length
section
variable {X : Cx} {pins : List (Addr × Obj)} {σ : List (Option V)} {H H' : Hp} {s : Shared} {h' : Heap}
theorem Cx.Ok.nofr (ok : X.Ok) {b : Addr} {o : Obj} (e : X.base.get? b = some o) : b ∉ X.fs := fun hb => by
 have := (ok.funs.mem hb).1
 rw [e] at this; cases this
theorem Inv.bs (I : Inv X pins σ H s) : ∀ b o, X.base.get? b = some o → s.heap.get? b = some o ∧ H b = none := fun b o e =>
 ⟨I.base.keep b o (I.ok.bs b o e).1 (I.ok.bs b o e).2 (I.ok.nofr e) (I.ok.noex b o e), I.base.free b o (I.ok.bs b o e).1 (I.ok.bs b o e).2 (I.ok.noex b o e)⟩
theorem Inv.bk (I : Inv X pins σ H s) : ∀ b o, X.base.get? b = some o → s.heap.get? b = some o := fun b o e => (I.bs b o e).1
theorem Inv.mod (I : Inv X pins σ H s) : Mod X.K X.mg X.base := I.ok.mod
theorem Inv.kIn (I : Inv X pins σ H s) : X.K.In s.heap := I.ok.mod.kin.keeps I.bk
theorem Inv.lt (I : Inv X pins σ H s) : X.env.locals < s.heap.objs.size := let ⟨_, hn, _⟩ := I.loc; hn.lt
theorem Inv.sz (I : Inv X pins σ H s) : X.s₀.heap.objs.size ≤ s.heap.objs.size := Nat.le_trans I.ok.above (Nat.le_of_lt I.lt)
theorem Inv.nofs (I : Inv X pins σ H s) {a : Addr} (h : s.heap.objs.size ≤ a) : a ∉ X.fs := fun hb => by
 obtain ⟨_, o, ho, _⟩ := I.ok.funs.mem hb
 exact absurd (Nat.lt_of_lt_of_le (Heap.lt_size ho) (Nat.le_trans I.sz h)) (Nat.lt_irrefl _)
theorem Inv.cne (I : Inv X pins σ H s) : ∀ x c, X.env.cells.lookup x = some c → c ≠ X.env.locals := fun x c e z => by
 obtain ⟨v, o, ho, hd⟩ := I.cell x c e
 obtain ⟨m, ⟨o', es, ep, ho', hd', _⟩, _⟩ := I.loc
 rw [z, ho'] at ho; cases ho; rw [hd'] at hd; cases hd
theorem Inv.funs (I : Inv X pins σ H s) : s.heap.FunFrames X.base X.outer := by
 have all : ∀ (l : List Env), (∀ b ∈ frs l, b ∈ X.fs) → X.s₀.heap.FunFrames X.base l → s.heap.FunFrames X.base l := by
  intro l
  induction l with
  | nil => intro _ _; trivial
  | cons env r ih =>
   intro hs hl
   obtain ⟨hk, ⟨L, o, hf, hn, ho, hd⟩, hr⟩ := hl
   have hL : L ∈ X.fs := hs L (by unfold frs; rw [List.filterMap_cons, hf]; exact List.mem_cons_self)
   obtain ⟨sl, e⟩ := I.base.slot L o ho (I.ok.frf L hL) hL fun z => I.ok.exfs L z hL
   exact ⟨hk, ⟨L, _, hf, hn, e, hd⟩, ih (fun b hb => hs b (by unfold frs; rw [List.filterMap_cons, hf]; exact List.mem_cons_of_mem _ hb)) hr⟩
 exact all X.outer (fun _ hb => hb) I.ok.funs
theorem Inv.stack (I : Inv X pins σ H s) : s.heap.FunFrames X.base X.stack := by
 rcases I.ok.stk with e | ⟨e, hf⟩
 ·rw [e]; exact I.funs
 ·rw [e]
  obtain ⟨m, hn, _⟩ := I.loc
  refine .cons (by rw [I.ok.kind]; decide) hf hn ?_ I.funs
  exact Heap.get?_none_of_le (Nat.le_trans I.ok.bsz I.ok.above)
theorem Inv.stkSub (I : Inv X pins σ H s) : ∀ b ∈ frs X.stack, b ∈ X.env.locals :: X.fs := fun b hb => by
 rcases I.ok.stk with e | ⟨e, hf⟩
 ·rw [e] at hb; exact List.mem_cons_of_mem _ hb
 ·rw [e] at hb
  unfold frs at hb
  rw [List.filterMap_cons, hf] at hb
  exact hb
theorem Inv.stkFree (I : Inv X pins σ H s) : ∀ b ∈ frs X.stack, H b = none := fun b hb => by
 rcases List.mem_cons.mp (I.stkSub b hb) with e | hb
 ·rw [e]; exact I.free
 ·obtain ⟨_, o, ho, _⟩ := I.ok.funs.mem hb
  exact I.base.free b o ho (I.ok.frf b hb) fun z => I.ok.exfs b z hb
theorem Inv.step {g' : Array GenState} {t' : Nat} {d' : Drawn} {ch : List Addr} (I : Inv X pins σ H s)
  (hch : ∀ b ∈ ch, (b ∈ X.ex ∨ X.s₀.heap.objs.size ≤ b) ∧ b ≠ X.env.locals ∧ (∀ x c, X.env.cells.lookup x = some c → c ≠ b) ∧ ∀ p ∈ X.pn ++ pins, p.1 ≠ b)
  (keep : ∀ b o, b ≠ X.env.locals → b ∉ X.fs → b ∉ ch → s.heap.get? b = some o → H b = none → h'.get? b = some o)
  (slot : ∀ b o, b ≠ X.env.locals → b ∈ X.fs → b ∉ ch → s.heap.get? b = some o → H b = none → ∃ sl, h'.get? b = some { o with slots := sl }) (free : ∀ b o, b ∉ ch → s.heap.get? b = some o → H b = none → H' b = none)
  (there : ∀ b o, b ∉ ch → s.heap.get? b = some o → ∃ o', h'.get? b = some o')
  (tups : ∀ b xs, H b = some (.tup xs) → H' b = some (.tup xs)) (frzs : ∀ b o u, H b = some (.frz o u) → H' b = some (.frz o u)) (tbls : ∀ b ps, H b = some (.tbl ps) → ∃ more, H' b = some (.tbl (ps ++ more)))
  (ns : ∀ m, s.heap.Ns X.env.locals m → h'.Ns X.env.locals m) (hok : HOk X.prog X.w H' h') (hg : AllBare g') :
  Inv X pins σ H' { s with heap := h', gens := g', drawn := d', toks := t' } := by
 have neL : ∀ b o, X.s₀.heap.get? b = some o → b ≠ X.env.locals := fun b o e => Nat.ne_of_lt (Nat.lt_of_lt_of_le (Heap.lt_size e) I.ok.above)
 have neC : ∀ b o, X.s₀.heap.get? b = some o → b ∉ X.ex → b ∉ ch := fun b o e hx hb => by
  rcases (hch b hb).1 with z | z
  ·exact hx z
  ·exact absurd (Nat.lt_of_lt_of_le (Heap.lt_size e) z) (Nat.lt_irrefl _)
 have cellK : ∀ x c, X.env.cells.lookup x = some c → ∀ v, s.heap.IsCell c v → h'.IsCell c v := fun x c e v ⟨o, ho, hd⟩ => by
  have nch : c ∉ ch := fun z => (hch c z).2.2.1 x c e rfl
  by_cases hc : c ∈ X.fs
  ·obtain ⟨sl, q⟩ := slot c o (I.cne x c e) hc nch ho (I.freeC x c e)
   exact ⟨_, q, hd⟩
  ·exact ⟨o, keep c o (I.cne x c e) hc nch ho (I.freeC x c e), hd⟩
 refine ⟨I.ok, I.os, hg, ⟨fun b o e n hb hx => ?_, fun b o e n hb hx => ?_, fun b o e n hx => ?_, fun b o e hx => ?_, fun b xs e => tups b xs (I.base.tups b xs e), fun b o xs e => frzs b o xs (I.base.frzs b o xs e), fun b ps e => ?_⟩, ?_, fun x c e => ?_, ?_, fun x c e => ?_, fun p hp => ?_, hok, I.len⟩
 ·exact keep b o (neL b o e) hb (neC b o e hx) (I.base.keep b o e n hb hx) (I.base.free b o e n hx)
 ·obtain ⟨sl, e1⟩ := I.base.slot b o e n hb hx
  obtain ⟨sl', e2⟩ := slot b _ (neL b o e) hb (neC b o e hx) e1 (I.base.free b o e n hx)
  exact ⟨sl', e2⟩
 ·obtain ⟨o', e1⟩ := I.base.there b o e hx
  exact free b o' (neC b o e hx) e1 (I.base.free b o e n hx)
 ·obtain ⟨o', e1⟩ := I.base.there b o e hx
  exact there b o' (neC b o e hx) e1
 ·obtain ⟨m1, e1⟩ := I.base.tbls b ps e
  obtain ⟨m2, e2⟩ := tbls b _ e1
  exact ⟨m1 ++ m2, by rw [e2, Array.append_assoc]⟩
 ·obtain ⟨m, hn, hl⟩ := I.loc
  refine ⟨m, ns m hn, fun i x v e1 e2 e3 => ?_⟩
  obtain ⟨u, r, l⟩ := hl i x v e1 e2 e3
  refine ⟨u, r, ?_⟩
  rcases l with l | ⟨k, c, e, z⟩
  ·exact .inl l
  ·exact .inr ⟨k, c, e, cellK x c e _ z⟩
 ·obtain ⟨v, z⟩ := I.cell x c e
  exact ⟨v, cellK x c e v z⟩
 ·obtain ⟨m, ⟨o, _, _, ho, _⟩, _⟩ := I.loc
  exact free _ o (fun z => (hch _ z).2.1 rfl) ho I.free
 ·obtain ⟨v, o, ho, hd⟩ := I.cell x c e
  exact free c o (fun z => (hch c z).2.2.1 x c e rfl) ho (I.freeC x c e)
 ·obtain ⟨e, n, ne, nf, d⟩ := I.pin p hp
  have nch : p.1 ∉ ch := fun z => (hch p.1 z).2.2.2 p hp rfl
  exact ⟨keep p.1 p.2 ne nf nch e n, free p.1 p.2 nch e n, ne, nf, d⟩
theorem Inv.un {t' : Nat} (I : Inv X pins σ H s) (u : Un X.fs [] H H' s.heap h') (hok : HOk X.prog X.w H' h') : Inv X pins σ H' { s with heap := h', toks := t' } := by
 obtain ⟨m, ⟨o, es, ep, ho, r⟩, _⟩ := id I.loc
 obtain ⟨sl, hL⟩ := u.any ho I.free (by simp)
 exact I.step (g' := s.gens) (d' := s.drawn) (ch := []) (fun _ z => nomatch z) (fun b o _ hb _ e n => u.keep b o e n hb (by simp)) (fun b o _ hb _ e n => u.slot b o e n hb (by simp)) (fun b o _ e n => u.free b o e n (by simp)) (fun b o _ e => u.there b o e (by simp)) u.tups u.frzs u.tbls (fun m' hm => by
  obtain ⟨o', es', ep', ho', r'⟩ := hm
  rw [ho] at ho'; cases ho'
  exact ⟨_, es', ep', hL, r'⟩) hok I.bare
theorem Inv.call {g' : Array GenState} {t' : Nat} {d' : Drawn} {ch : List Addr} (I : Inv X pins σ H s) (u : Un (frs X.stack) ch H H' s.heap h') (hok : HOk X.prog X.w H' h') (hg : AllBare g')
  (hch : ∀ b ∈ ch, (b ∈ X.ex ∨ X.s₀.heap.objs.size ≤ b) ∧ b ≠ X.env.locals ∧ (∀ x c, X.env.cells.lookup x = some c → c ≠ b) ∧ ∀ p ∈ X.pn ++ pins, p.1 ≠ b) :
  Inv X pins σ H' { s with heap := h', gens := g', drawn := d', toks := t' } := by
 obtain ⟨m, ⟨o, es, ep, ho, r⟩, _⟩ := id I.loc
 obtain ⟨sl, hL⟩ := u.any ho I.free fun z => (hch _ z).2.1 rfl
 exact I.step (ch := ch) hch (fun b o hL hb hc e n => u.keep b o e n (fun z => (List.mem_cons.mp (I.stkSub b z)).elim hL hb) hc) (fun b o _ _ hc e n => u.any e n hc) (fun b o hc e n => u.free b o e n hc) (fun b o hc e => u.there b o e hc) u.tups u.frzs u.tbls (fun m' hm => by
  obtain ⟨o', es', ep', ho', r'⟩ := hm
  rw [ho] at ho'; cases ho'
  exact ⟨_, es', ep', hL, r'⟩) hok hg
theorem Inv.turned {t' : Nat} {it : Addr} (I : Inv X pins σ H s) (k : ∀ b o, b ≠ it → s.heap.get? b = some o → h'.get? b = some o) (hn : H it = none) (hL : it ≠ X.env.locals)
  (h1 : it ∈ X.ex ∨ X.s₀.heap.objs.size ≤ it) (h2 : ∀ x c, X.env.cells.lookup x = some c → c ≠ it) (h3 : ∀ p ∈ X.pn ++ pins, p.1 ≠ it) : Inv X pins σ H { s with heap := h', toks := t' } := by
 have nit : ∀ b u, H b = some u → b ≠ it := fun b u e z => by rw [z, hn] at e; cases e
 refine I.step (g' := s.gens) (d' := s.drawn) (ch := [it]) (fun b hb => ?_) (fun b o _ _ hc e _ => k b o (fun z => hc (by simp [z])) e) (fun b o _ _ hc e _ => ⟨o.slots, k b o (fun z => hc (by simp [z])) e⟩) (fun _ _ _ _ n => n)
  (fun b o hc e => ⟨o, k b o (fun z => hc (by simp [z])) e⟩) (fun _ _ e => e) (fun _ _ _ e => e) (fun b ps e => ⟨#[], by rw [e]; simp⟩) (fun m hm => ?_) (fun b u e => ?_) I.bare
 ·have e : b = it := by simpa using hb
  subst e
  exact ⟨h1, hL, h2, h3⟩
 ·obtain ⟨o, es, ep, ho, r⟩ := hm
  exact ⟨o, es, ep, k _ o (Ne.symm hL) ho, r⟩
 ·refine (I.hok b u e).stay (fun c v hc q => k c v ?_ q) (fun _ q => q) fun _ _ q => q
  rcases hc with z | z
  ·rw [z]; exact nit b u e
  ·exact nit c _ z
theorem Inv.tok (I : Inv X pins σ H s) (t : Nat) : Inv X pins σ H { s with toks := t } := I.un (h' := s.heap) (t' := t) Un.refl I.hok
theorem Inv.kept {t' : Nat} (I : Inv X pins σ H s) (k : ∀ b u, s.heap.get? b = some u → h'.get? b = some u) : Inv X pins σ H { s with heap := h', toks := t' } := I.un (Un.kept k) (I.hok.kept k)
theorem Inv.laid {a : Addr} {o : HO} {t' : Nat} (I : Inv X pins σ H s) (k : ∀ b u, s.heap.get? b = some u → h'.get? b = some u) (hp : s.heap.objs.size ≤ a) (new : ObjOk X.prog X.w (upd H a o) h' a o) :
  Inv X pins σ (upd H a o) { s with heap := h', toks := t' } := I.un (Un.laid k hp (I.hok.fresh hp)) (I.hok.laid k hp new)
theorem Inv.write {x e : Addr} {o : HO} {t' : Nat} (I : Inv X pins σ H s) (mu : Mut (H x)) (he : e = x ∨ H e = some (.own x)) (k : ∀ b u, b ≠ e → s.heap.get? b = some u → h'.get? b = some u) (heo : ∃ u, h'.get? e = some u)
  (new : ObjOk X.prog X.w (upd H x o) h' x o) : Inv X pins σ (upd H x o) { s with heap := h', toks := t' } := I.un (Un.write mu he k heo) (I.hok.write mu he k heo new)
theorem Inv.pins_of {pins' : List (Addr × Obj)} (I : Inv X pins σ H s) (h : ∀ p ∈ pins', s.heap.get? p.1 = some p.2 ∧ H p.1 = none ∧ p.1 ≠ X.env.locals ∧ p.1 ∉ X.fs ∧ ∀ v, p.2.data ≠ .cell v) : Inv X pins' σ H s :=
 ⟨I.ok, I.os, I.bare, I.base, I.loc, I.cell, I.free, I.freeC, fun p hp => (List.mem_append.mp hp).elim (fun z => I.pin p (List.mem_append_left _ z)) (h p), I.hok, I.len⟩
theorem nodup_ix {N : List Str} (hN : N.Nodup) {i j : Nat} {x : Str} (a : N[i]? = some x) (b : N[j]? = some x) : i = j := by
 obtain ⟨h1, e1⟩ := List.getElem?_eq_some_iff.mp a
 obtain ⟨h2, e2⟩ := List.getElem?_eq_some_iff.mp b
 exact (List.getElem_inj hN).mp (e1.trans e2.symm)
theorem store_ok2 {M : Model} {A : Around} {E : Value → Shared → Prop} {i : Nat} {x : Str} {v : V} {u : Value} {Q : Unit → Shared → Prop} (I : Inv X pins σ H s) (hN : X.N.Nodup) (hi : X.N[i]? = some x) (hx : Loc X.env.scope x) (r : RelV v u)
  (h : ∀ s', Inv X pins (σ.set i (some v)) H s' → (∃ a, Heap.SameBut a s.heap s'.heap ∧ (a = X.env.locals ∨ X.env.cells.lookup x = some a)) → Q () s') (hf : X.fn x = true ∨ X.env.scope.names.lookup x = some .local := by first | exact .inl rfl | exact .inr rfl | assumption) : wpAny M A (storeName X.env x u) Q E s := by
 obtain ⟨m, hn, hl⟩ := id I.loc
 have hcls : (X.env.scope.kind == .class || (X.env.scope.kind == .module && X.env.locals != X.env.globals)) = false := by rw [I.ok.kind]; rfl
 have hiσ : i < σ.length := by rw [I.len]; exact (List.getElem?_eq_some_iff.mp hi).1
 have cne := I.cne
 have tracked : ∀ {a : Addr} {h' : Heap}, (∃ o, s.heap.get? a = some o ∧ H a = none) → Heap.SameBut a s.heap h' → HOk X.prog X.w H h' := fun {a h'} ha hs b ob e => by
  obtain ⟨_, _, hfree⟩ := ha
  refine (I.hok b ob e).stay (fun c w' hc q => (hs.2 c ?_).trans q) (fun _ q => q) fun _ _ q => q
  rintro rfl
  rcases hc with rfl | hc
  ·rw [hfree] at e; cases e
  ·rw [hfree] at hc; cases hc
 rcases hx with hk | hk
 ·refine wpAny_storeName_local hk hn (fun h' hn' hs => ?_) hcls
  obtain ⟨oL, _, _, hoL, _⟩ := id hn
  refine h _ ⟨I.ok, I.os, I.bare, ⟨fun b o e n hb hx => ?_, fun b o e n hb hx => ?_, I.base.free, fun b o e hx => ?_, I.base.tups, I.base.frzs, I.base.tbls⟩, ⟨_, hn', fun j y v' e1 e2 e3 => ?_⟩, fun y c e => ?_, I.free, I.freeC, fun p hp => ?_, tracked ⟨oL, hoL, I.free⟩ hs, by simpa using I.len⟩ ⟨_, hs, .inl rfl⟩
  ·exact (hs.2 b (Nat.ne_of_lt (Nat.lt_of_lt_of_le (Heap.lt_size e) I.ok.above))).trans (I.base.keep b o e n hb hx)
  ·obtain ⟨sl, e1⟩ := I.base.slot b o e n hb hx
   exact ⟨sl, (hs.2 b (Nat.ne_of_lt (Nat.lt_of_lt_of_le (Heap.lt_size e) I.ok.above))).trans e1⟩
  ·obtain ⟨o', e1⟩ := I.base.there b o e hx
   exact ⟨o', (hs.2 b (Nat.ne_of_lt (Nat.lt_of_lt_of_le (Heap.lt_size e) I.ok.above))).trans e1⟩
  ·by_cases hj : j = i
   ·subst hj
    rw [hi] at e1; cases e1
    rw [List.getElem?_set_self hiσ] at e2
    cases e2
    exact ⟨u, r, .inl ⟨hk, by simp⟩⟩
   ·rw [List.getElem?_set_ne (Ne.symm hj)] at e2
    obtain ⟨u', r', q⟩ := hl j y v' e1 e2 e3
    refine ⟨u', r', ?_⟩
    rcases q with ⟨k, e⟩ | ⟨k, c, e, z⟩
    ·refine .inl ⟨k, ?_⟩
     have : y ≠ x := fun e => hj (nodup_ix hN e1 (e ▸ hi))
     simp [this, e]
    ·exact .inr ⟨k, c, e, z.sameBut hs (cne y c e)⟩
  ·obtain ⟨w', z⟩ := I.cell y c e
   exact ⟨w', z.sameBut hs (cne y c e)⟩
  ·obtain ⟨e, n, ne, nf, d⟩ := I.pin p hp
   exact ⟨(hs.2 p.1 ne).trans e, n, ne, nf, d⟩
 ·have hfn : X.fn x = true := by
   rcases hf with z | z
   ·exact z
   ·rw [z] at hk; cases hk
  obtain ⟨c, hc⟩ := I.ok.has x (.inl hk)
  obtain ⟨w', z⟩ := I.cell x c hc
  refine wpAny_storeName_cell I.ok.kind hk hc z (fun h' hc' hs => ?_)
  obtain ⟨oc, hoc, hocd⟩ := id z
  refine h { s with heap := h' } ⟨I.ok, I.os, I.bare, ⟨fun b o e n hb hx => ?_, fun b o e n hb hx => ?_, I.base.free, fun b o e hx => ?_, I.base.tups, I.base.frzs, I.base.tbls⟩, ⟨m, hn.sameBut hs (Ne.symm (cne x c hc)), fun j y v' e1 e2 e3 => ?_⟩, fun y c' e => ?_, I.free, I.freeC, fun p hp => ?_, tracked ⟨oc, hoc, I.freeC x c hc⟩ hs, by simpa using I.len⟩ ⟨c, hs, .inr hc⟩
  ·exact (hs.2 b (Nat.ne_of_lt (Nat.lt_of_lt_of_le (Heap.lt_size e) (I.ok.cab x c hfn hc)))).trans (I.base.keep b o e n hb hx)
  ·obtain ⟨sl, e1⟩ := I.base.slot b o e n hb hx
   exact ⟨sl, (hs.2 b (Nat.ne_of_lt (Nat.lt_of_lt_of_le (Heap.lt_size e) (I.ok.cab x c hfn hc)))).trans e1⟩
  ·obtain ⟨o', e1⟩ := I.base.there b o e hx
   exact ⟨o', (hs.2 b (Nat.ne_of_lt (Nat.lt_of_lt_of_le (Heap.lt_size e) (I.ok.cab x c hfn hc)))).trans e1⟩
  ·by_cases hj : j = i
   ·subst hj
    rw [hi] at e1; cases e1
    rw [List.getElem?_set_self hiσ] at e2
    cases e2
    exact ⟨u, r, .inr ⟨.inl hk, c, hc, hc'⟩⟩
   ·rw [List.getElem?_set_ne (Ne.symm hj)] at e2
    obtain ⟨u', r', q⟩ := hl j y v' e1 e2 e3
    refine ⟨u', r', ?_⟩
    rcases q with q | ⟨k, c', e, z'⟩
    ·exact .inl q
    ·refine .inr ⟨k, c', e, z'.sameBut hs ?_⟩
     rintro rfl
     exact hj (nodup_ix hN e1 (I.ok.inj _ _ _ e hc ▸ hi))
  ·by_cases hcc : c' = c
   ·subst hcc; exact ⟨_, hc'⟩
   ·obtain ⟨w2, z2⟩ := I.cell y c' e
    exact ⟨w2, z2.sameBut hs hcc⟩
  ·obtain ⟨e, n, ne, nf, d⟩ := I.pin p hp
   refine ⟨(hs.2 p.1 ?_).trans e, n, ne, nf, d⟩
   intro q
   rw [q, hoc] at e
   have q' : oc = p.2 := Option.some.inj e
   exact d w' (by rw [← q']; exact hocd)
theorem store_ok {M : Model} {A : Around} {E : Value → Shared → Prop} {i : Nat} {x : Str} {v : V} {u : Value} {Q : Unit → Shared → Prop} (I : Inv X pins σ H s) (hN : X.N.Nodup) (hi : X.N[i]? = some x) (hx : Loc X.env.scope x) (r : RelV v u)
  (h : ∀ s', Inv X pins (σ.set i (some v)) H s' → Q () s') (hf : X.fn x = true ∨ X.env.scope.names.lookup x = some .local := by first | exact .inl rfl | exact .inr rfl | assumption) : wpAny M A (storeName X.env x u) Q E s :=
 store_ok2 I hN hi hx r (fun s' I' _ => h s' I') hf
theorem Inv.call' {s' : Shared} {ch : List Addr} (I : Inv X pins σ H s) (ho : s'.os = s.os) (u : Un (frs X.stack) ch H H' s.heap s'.heap) (hok : HOk X.prog X.w H' s'.heap) (hg : AllBare s'.gens)
  (hch : ∀ b ∈ ch, (b ∈ X.ex ∨ X.s₀.heap.objs.size ≤ b) ∧ b ≠ X.env.locals ∧ (∀ x c, X.env.cells.lookup x = some c → c ≠ b) ∧ ∀ p ∈ X.pn ++ pins, p.1 ≠ b) : Inv X pins σ H' s' := by
 obtain ⟨h', g', d', t', o'⟩ := s'
 have e : o' = s.os := ho
 subst e
 exact I.call (g' := g') (t' := t') (d' := d') u hok hg hch
end
abbrev XK := Value → Option Addr → Hp → Prop
abbrev St := List (Option V)
abbrev VK := V → Hp → Prop
abbrev TE := St → Hp → VK → Prop
abbrev TT := St → Hp → (Bool → Hp → Prop) → Prop
abbrev TA := St → Hp → (List V → Hp → Prop) → Prop
structure Ends where
 nx : St → Hp → Prop
 rt : VK
 bk : St → Hp → Prop := fun _ _ => False
 ct : St → Hp → Prop := fun _ _ => False
abbrev TS := Ends → St → Hp → Prop
def EP (X : Cx) (pins : List (Addr × Obj)) (σ : St) (Q : VK) (u : Value) (s' : Shared) : Prop := ∃ v H', Inv X pins σ H' s' ∧ RelV v u ∧ Q v H'
def TP (X : Cx) (pins : List (Addr × Obj)) (σ : St) (Q : Bool → Hp → Prop) (b : Bool) (s' : Shared) : Prop := ∃ H', Inv X pins σ H' s' ∧ Q b H'
def AP (X : Cx) (pins : List (Addr × Obj)) (σ : St) (Q : List V → Hp → Prop) (us : List Value) (s' : Shared) : Prop := ∃ vs H', Inv X pins σ H' s' ∧ Vals vs us ∧ Q vs H'
def SP (X : Cx) (pins : List (Addr × Obj)) (D : Ends) (f : Flow) (s' : Shared) : Prop :=
 match f with
 | .next => ∃ σ' H', Inv X pins σ' H' s' ∧ D.nx σ' H'
 | .brk => ∃ σ' H', Inv X pins σ' H' s' ∧ D.bk σ' H'
 | .cont => ∃ σ' H', Inv X pins σ' H' s' ∧ D.ct σ' H'
 | .ret u => ∃ v σ' H', Inv X pins σ' H' s' ∧ RelV v u ∧ D.rt v H'
def PE (X : Cx) (e : Expr) (t : TE) : Prop :=
 ∀ (pins : List (Addr × Obj)) (s : Shared) (σ : St) (H : Hp) (Q : VK), Inv X pins σ H s → t σ H Q → wpAny (model X.prog X.w) X.A (eval e X.env) (EP X pins σ Q) X.xe s
def PT (X : Cx) (e : Expr) (t : TT) : Prop :=
 ∀ (pins : List (Addr × Obj)) (s : Shared) (σ : St) (H : Hp) (Q : Bool → Hp → Prop), Inv X pins σ H s → t σ H Q → wpAny (model X.prog X.w) X.A (isTrue e X.env (eval e X.env)) (TP X pins σ Q) X.xe s
def PW (X : Cx) (e : Expr) (t : TT) : Prop :=
 ∀ (whole : Sem Value) (pins : List (Addr × Obj)) (s : Shared) (σ : St) (H : Hp) (Q : Bool → Hp → Prop), Inv X pins σ H s → t σ H Q → wpAny (model X.prog X.w) X.A (isTrue e X.env whole) (TP X pins σ Q) X.xe s
theorem PW.pt {X : Cx} {e : Expr} {t : TT} (h : PW X e t) : PT X e t := h _
def PA (X : Cx) (es : List Expr) (t : TA) : Prop :=
 ∀ (pos : Pos) (pins : List (Addr × Obj)) (s : Shared) (σ : St) (H : Hp) (Q : List V → Hp → Prop), Inv X pins σ H s → t σ H Q → wpAny (model X.prog X.w) X.A (spliced (backTo pos (starEach es X.env))) (AP X pins σ Q) X.xe s
def PS (X : Cx) (st : Stmt) (t : TS) : Prop :=
 ∀ (pins : List (Addr × Obj)) (s : Shared) (σ : St) (H : Hp) (D : Ends), Inv X pins σ H s → t D σ H → wpAny (model X.prog X.w) X.A (exec st X.env) (SP X pins D) X.xe s
def PSs (X : Cx) (st : List Stmt) (t : TS) : Prop :=
 ∀ (pins : List (Addr × Obj)) (s : Shared) (σ : St) (H : Hp) (D : Ends), Inv X pins σ H s → t D σ H → wpAny (model X.prog X.w) X.A (execs st X.env) (SP X pins D) X.xe s
theorem thn {α : Type} {t : Sem α} {Q Q' : α → Shared → Prop} {M : Model} {A : Around} {E : Value → Shared → Prop} {s : Shared} (h : wpAny M A t Q E s) (hQ : ∀ a s, Q a s → Q' a s) : wpAny M A t Q' E s := wpAny_mono h hQ fun _ _ x => x
section
variable {X : Cx}
def tVar (i : Nat) : TE := fun σ H Q => ∃ v, σ[i]? = some (some v) ∧ Q v H
def tC (v : V) : TE := fun _ H Q => Q v H
theorem pe_var {i : Nat} {x : Str} {pos : Pos} (hN : X.N[i]? = some x) (hv : Vis X.env.scope x) (hd : (x == ("__debug__" : Str)) = false := by decide) (hcd : (x == ("__classdict__" : Str)) = false := by decide) : PE X (.Name x pos) (tVar i) := by
 intro pins s σ H Q I h
 obtain ⟨v, e, h⟩ := h
 obtain ⟨m, hn, hl⟩ := I.loc
 obtain ⟨u, r, l⟩ := hl i x v hN e hv
 have fin : EP X pins σ Q u s := ⟨v, H, I, r, h⟩
 rcases l with ⟨hk, hm⟩ | ⟨hk, c, hc, hcell⟩
 ·exact wpAny_Name (wpAny_loadName_local I.ok.kind hk hn hm fin) hd
 ·rcases hk with hk | hk
  ·exact wpAny_Name (wpAny_loadName_cell I.ok.kind hk hc hcell fin) hd
  ·exact wpAny_Name (wpAny_loadName_free I.ok.kind hk hc hcell fin hcd) hd
theorem pe_int {i j pos} : PE X (.Constant (.int i) j pos) (tC (.int i)) := fun _ _ _ H _ I h => wpAny_Constant_int ⟨.int i, H, I.tok _, ⟨_, rfl⟩, h⟩
theorem pe_bl {b j pos} : PE X (.Constant (.bool b) j pos) (tC (.bl b)) := fun _ _ _ H _ I h => Constant_bool ⟨.bl b, H, I, rfl, h⟩
theorem pe_non {j pos} : PE X (.Constant .none j pos) (tC .non) := fun _ _ _ H _ I h => Constant_none ⟨.non, H, I, rfl, h⟩
theorem pe_str {x j pos} : PE X (.Constant (.str x) j pos) (tC (.str x)) := fun _ _ _ H _ I h => Calls.Constant_str ⟨.str x, H, I.tok _, ⟨_, rfl⟩, h⟩
def Gl (X : Cx) (x : Str) : Prop := X.env.kindOf x = some .globalImplicit
theorem ld_glob {E : Value → Shared → Prop} {pins : List (Addr × Obj)} {s : Shared} {σ : St} {H : Hp} {x : Str} {u : Value} {pos : Pos} {Q : Value → Shared → Prop} (I : Inv X pins σ H s) (hg : Gl X x) (hm : X.mg x = some u) (h : Q u s)
  (hd : (x == ("__debug__" : Str)) = false := by decide) : wpAny (model X.prog X.w) X.A (eval (.Name x pos) X.env) Q E s :=
 Calls.Name_function_global I.ok.kind hg (Calls.loadGlobal_global (by rw [I.ok.glob]; exact I.mod.glob.keeps I.bk) hm h) hd
theorem ld_blt {E : Value → Shared → Prop} {pins : List (Addr × Obj)} {s : Shared} {σ : St} {H : Hp} {x : Str} {u : Value} {pos : Pos} {Q : Value → Shared → Prop} (I : Inv X pins σ H s) (hg : Gl X x) (hm : X.mg x = none) (hv : bootBuiltins x = some u) (h : Q u s)
  (hn : x ≠ "__name__" := by decide) (hd : (x == ("__debug__" : Str)) = false := by decide) : wpAny (model X.prog X.w) X.A (eval (.Name x pos) X.env) Q E s := by
 obtain ⟨mb, h1, h2⟩ := I.mod.blt
 exact Calls.Name_function_global I.ok.kind hg (Calls.loadGlobal_builtin (by rw [I.ok.glob]; exact I.mod.glob.keeps I.bk) hm (by rw [I.ok.blt]; exact h1.keeps I.bk) ((h2 x hn).trans hv) h) hd
theorem pe_bltn {x : Str} {v : V} {u : Value} {pos : Pos} (hg : Gl X x) (hm : X.mg x = none) (hv : bootBuiltins x = some u) (r : RelV v u) (hn : x ≠ "__name__" := by decide) (hd : (x == ("__debug__" : Str)) = false := by decide) : PE X (.Name x pos) (tC v) :=
 fun _ _ _ H _ I h => ld_blt I hg hm hv ⟨v, H, I, r, h⟩ hn hd
variable {a b : Expr} {ta tb : TE} {pos : Pos}
def tB (t : TE) : TT := fun σ H Q => t σ H fun x H1 => ∃ c, x = .bl c ∧ Q c H1
theorem pt_val {e : Expr} {t : TE} (h : PE X e t) (he : ∀ whole, isTrue e X.env whole = (do let v ← whole; standAt e.pos; holding [v] (truthy v)) := by intro _; rfl) : PT X e (tB t) := by
 intro pins s σ H Q I hw
 refine isTrue_plain (thn (h pins s σ H _ I hw) fun v s1 ⟨x, H1, I1, r1, q1⟩ => ?_) (he _)
 obtain ⟨d, rfl, q⟩ := q1
 cases r1
 exact wpAny_truthy_bool ⟨H1, I1, q⟩
variable {tA tB' : TT} {rest : List Expr}
def tAnd (t u : TT) : TT := fun σ H Q => t σ H fun c H1 => if c = true then u σ H1 Q else Q false H1
def tOr (t u : TT) : TT := fun σ H Q => t σ H fun c H1 => if c = true then Q true H1 else u σ H1 Q
def tNot (t : TT) : TT := fun σ H Q => t σ H fun c H1 => Q (!c) H1
theorem pw_and1 (ha : PT X a tA) : PW X (.BoolOp .And [a] pos) tA := by
 intro wh pins s σ H Q I h
 refine isTrue_and (thn (ha pins s σ H Q I h) fun c s1 e => ?_)
 cases c with
 | true => exact isTrue_and_nil e
 | false => exact e
theorem pw_or1 (ha : PT X a tA) : PW X (.BoolOp .Or [a] pos) tA := by
 intro wh pins s σ H Q I h
 refine isTrue_or (thn (ha pins s σ H Q I h) fun c s1 e => ?_)
 cases c with
 | false => exact isTrue_or_nil e
 | true => exact e
theorem pw_and (ha : PT X a tA) (hb : PW X (.BoolOp .And (b :: rest) pos) tB') : PW X (.BoolOp .And (a :: b :: rest) pos) (tAnd tA tB') := by
 intro wh pins s σ H Q I h
 refine isTrue_and (thn (ha pins s σ H _ I h) fun c s1 ⟨H1, I1, q1⟩ => ?_)
 cases c with
 | true => exact hb wh pins s1 σ H1 Q I1 q1
 | false => exact ⟨H1, I1, q1⟩
theorem pw_or (ha : PT X a tA) (hb : PW X (.BoolOp .Or (b :: rest) pos) tB') : PW X (.BoolOp .Or (a :: b :: rest) pos) (tOr tA tB') := by
 intro wh pins s σ H Q I h
 refine isTrue_or (thn (ha pins s σ H _ I h) fun c s1 ⟨H1, I1, q1⟩ => ?_)
 cases c with
 | true => exact ⟨H1, I1, q1⟩
 | false => exact hb wh pins s1 σ H1 Q I1 q1
theorem pt_not (ha : PT X a tA) : PT X (.UnaryOp .Not a pos) (tNot tA) := by
 intro pins s σ H Q I h
 exact isTrue_not (ha pins s σ H (fun c H1 => Q (!c) H1) I h)
def tAndV (ta tb : TE) : TE := fun σ H Q => ta σ H fun x H1 => ∃ c, x = .bl c ∧ if c = true then tb σ H1 Q else Q (.bl false) H1
def tNotV (ta : TE) : TE := fun σ H Q => ta σ H fun x H1 => ∃ c, x = .bl c ∧ Q (.bl (!c)) H1
theorem pe_one {op} {t : TE} (h : PE X a t) : PE X (.BoolOp op [a] pos) t := fun pins s σ H Q I hw => BoolOp_one (h pins s σ H Q I hw)
theorem pe_and (ha : PE X a ta) (hb : PE X (.BoolOp .And (b :: rest) pos) tb) : PE X (.BoolOp .And (a :: b :: rest) pos) (tAndV ta tb) := by
 intro pins s σ H Q I h
 refine BoolOp_and (thn (ha pins s σ H _ I h) fun v s1 ⟨x, H1, I1, r1, q1⟩ => ?_)
 obtain ⟨c, rfl, q1⟩ := q1
 cases r1
 refine wpAny_truthy_bool ?_
 cases c with
 | true => exact hb pins s1 σ H1 Q I1 q1
 | false => exact ⟨.bl false, H1, I1, rfl, q1⟩
theorem pe_not (ha : PE X a ta) : PE X (.UnaryOp .Not a pos) (tNotV ta) := by
 intro pins s σ H Q I h
 refine UnaryOp_ (thn (ha pins s σ H _ I h) fun v s1 ⟨x, H1, I1, r1, q1⟩ => ?_)
 obtain ⟨c, rfl, q1⟩ := q1
 cases r1
 exact not_of (wpAny_truthy_bool ⟨.bl (!c), H1, I1, rfl, q1⟩)
def tIf (t : TT) (ta tb : TE) : TE := fun σ H Q => t σ H fun c H1 => if c = true then ta σ H1 Q else tb σ H1 Q
theorem pe_ifExp {c : Expr} (hc : PT X c tA) (ha : PE X a ta) (hb : PE X b tb) : PE X (.IfExp c a b pos) (tIf tA ta tb) := by
 intro pins s σ H Q I h
 refine wpAny_IfExp (thn (hc pins s σ H _ I h) fun d s1 ⟨H1, I1, q1⟩ => ?_)
 cases d with
 | true => exact ha pins s1 σ H1 Q I1 q1
 | false => exact hb pins s1 σ H1 Q I1 q1
end
def SqL (K : PySem.W.Frag) (H : Hp) (a : Addr) (xs : List V) : Prop :=
 Rd H a (.lst xs) ∨
  ∃ (o : Obj) (its : Array Value) (n : Nat), K.lookup a = some o ∧ o.cls = .type "list" ∧ o.dict = none ∧ o.data = .seq its n ∧ its.size ≤ sizeLine ∧ Vals xs its.toList
def SqT (K : PySem.W.Frag) (H : Hp) (a : Addr) (xs : List V) : Prop :=
 Rd H a (.tup xs) ∨
  ∃ (o : Obj) (its : Array Value) (n : Nat), K.lookup a = some o ∧ o.cls = .type "tuple" ∧ o.dict = none ∧ o.data = .seq its n ∧ its.size ≤ sizeLine ∧ Vals xs its.toList
def absV : Value → Option V
 | .none => some .non
 | .bool b => some (.bl b)
 | .int i _ => some (.int i)
 | .str x _ => some (.str x)
 | .bytes b _ => some (.byt b)
 | .float b _ => some (.flt b)
 | .ref a => some (.ref a)
 | .type n => some (.ty n)
 | _ => none
theorem RelV.abs {x : V} {u : Value} (r : RelV x u) : absV u = some x := by
 cases x with
 | non => cases r; rfl
 | bl _ => cases r; rfl
 | int _ => obtain ⟨t, rfl⟩ := r; rfl
 | str _ => obtain ⟨t, rfl⟩ := r; rfl
 | byt _ => obtain ⟨t, rfl⟩ := r; rfl
 | flt _ => obtain ⟨t, rfl⟩ := r; rfl
 | ref _ => cases r; rfl
 | ty _ => cases r; rfl
theorem RelV.inj {x y : V} {u : Value} (r : RelV x u) (q : RelV y u) : x = y := Option.some.inj (r.abs.symm.trans q.abs)
theorem Vals.inj : ∀ {xs ys : List V} {us : List Value}, Vals xs us → Vals ys us → xs = ys
 | _, _, _, .nil, .nil => rfl
 | _, _, _, .cons r t, .cons r' t' => by rw [r.inj r', Vals.inj t t']
section
variable {X : Cx} {pins : List (Addr × Obj)} {σ : St} {H : Hp} {s : Shared} {a : Addr} {xs ys : List V}
theorem SqL.of {K : PySem.W.Frag} (h : H a = some (.lst xs)) : SqL K H a xs := .inl (.inl h)
theorem SqT.of {K : PySem.W.Frag} (h : H a = some (.tup xs)) : SqT K H a xs := .inl (.inl h)
theorem Inv.list (I : Inv X pins σ H s) (h : SqL X.K H a xs) : ∃ its : List Value, Vals xs its ∧ PlainL s.heap a its.toArray ∧ xs.length ≤ sizeLine := by
 rcases h with h | ⟨o, its, n, hk, hc, hd, hs, hz, r⟩
 ·obtain ⟨z, its, n, r, e⟩ := h.ok I.hok
  exact ⟨its, r, ⟨_, n, e, rfl, rfl, rfl⟩, z⟩
 ·refine ⟨its.toList, r, ⟨o, n, I.kIn a o hk, hc, hd, by simpa using hs⟩, ?_⟩
  have e := r.length
  simp only [Array.length_toList] at e
  omega
theorem Inv.tuple (I : Inv X pins σ H s) (h : SqT X.K H a xs) : ∃ its : List Value, Vals xs its ∧ IsTup s.heap a its.toArray ∧ xs.length ≤ sizeLine := by
 rcases h with h | ⟨o, its, n, hk, hc, hd, hs, hz, r⟩
 ·obtain ⟨z, its, r, p⟩ := h.ok I.hok
  exact ⟨its, r, p.tup, z⟩
 ·refine ⟨its.toList, r, ⟨o, I.kIn a o hk, hc, n, by simpa using hs⟩, ?_⟩
  have e := r.length
  simp only [Array.length_toList] at e
  omega
theorem Inv.tupleP (I : Inv X pins σ H s) (h : SqT X.K H a xs) : ∃ its : List Value, Vals xs its ∧ PlainT s.heap a its.toArray ∧ xs.length ≤ sizeLine := by
 rcases h with h | ⟨o, its, n, hk, hc, hd, hs, hz, r⟩
 ·obtain ⟨z, its, r, p⟩ := h.ok I.hok
  exact ⟨its, r, p, z⟩
 ·refine ⟨its.toList, r, ⟨o, I.kIn a o hk, hc, hd, n, by simpa using hs⟩, ?_⟩
  have e := r.length
  simp only [Array.length_toList] at e
  omega
theorem Inv.list_inj (I : Inv X pins σ H s) (h : SqL X.K H a xs) (h' : SqL X.K H a ys) : xs = ys := by
 obtain ⟨its, r, ⟨o, n, e, _, _, d⟩, _⟩ := I.list h
 obtain ⟨its', r', ⟨o', n', e', _, _, d'⟩, _⟩ := I.list h'
 rw [e] at e'; cases e'
 rw [d] at d'
 injection d' with d1 _
 have : its = its' := by simpa using congrArg Array.toList d1
 subst this
 exact r.inj r'
theorem Inv.tuple_inj (I : Inv X pins σ H s) (h : SqT X.K H a xs) (h' : SqT X.K H a ys) : xs = ys := by
 obtain ⟨its, r, ⟨o, e, _, n, d⟩, _⟩ := I.tuple h
 obtain ⟨its', r', ⟨o', e', _, n', d'⟩, _⟩ := I.tuple h'
 rw [e] at e'; cases e'
 rw [d] at d'
 injection d' with d1 _
 have : its = its' := by simpa using congrArg Array.toList d1
 subst this
 exact r.inj r'
end
abbrev Cx.wish (X : Cx) (E : Value → Shared → Prop) : Cx := { X with xe := E }
abbrev Cx.nox (X : Cx) : Cx := X.wish fun _ _ => False
theorem Cx.Ok.wish {X : Cx} (ok : X.Ok) (E : Value → Shared → Prop) : (X.wish E).Ok :=
 ⟨ok.mod, ok.kind, ok.glob, ok.blt, ok.above, ok.inj, ok.has, ok.cab, ok.hd, ok.frames, ok.stk, ok.exf, ok.bs, ok.bsz, ok.noex, ok.exfs, ok.funs, ok.frf⟩
theorem Cx.Ok.unwish {X : Cx} {E : Value → Shared → Prop} (ok : (X.wish E).Ok) : X.Ok :=
 ⟨ok.mod, ok.kind, ok.glob, ok.blt, ok.above, ok.inj, ok.has, ok.cab, ok.hd, ok.frames, ok.stk, ok.exf, ok.bs, ok.bsz, ok.noex, ok.exfs, ok.funs, ok.frf⟩
section
variable {X : Cx} {pins : List (Addr × Obj)} {σ : St} {H : Hp} {s : Shared} {E : Value → Shared → Prop}
theorem Inv.wish (I : Inv X pins σ H s) (E : Value → Shared → Prop) : Inv (X.wish E) pins σ H s := ⟨I.ok.wish E, I.os, I.bare, I.base, I.loc, I.cell, I.free, I.freeC, I.pin, I.hok, I.len⟩
theorem Inv.unwish (I : Inv (X.wish E) pins σ H s) : Inv X pins σ H s := ⟨I.ok.unwish, I.os, I.bare, I.base, I.loc, I.cell, I.free, I.freeC, I.pin, I.hok, I.len⟩
theorem SP.unwish {D : Ends} {f : Flow} {s' : Shared} (h : SP (X.wish E) pins D f s') : SP X pins D f s' := by
 cases f with
 | next => obtain ⟨σ', H', I, q⟩ := h; exact ⟨σ', H', I.unwish, q⟩
 | brk => obtain ⟨σ', H', I, q⟩ := h; exact ⟨σ', H', I.unwish, q⟩
 | cont => obtain ⟨σ', H', I, q⟩ := h; exact ⟨σ', H', I.unwish, q⟩
 | ret u => obtain ⟨v, σ', H', I, r, q⟩ := h; exact ⟨v, σ', H', I.unwish, r, q⟩
theorem PSs.nox {st : List Stmt} {t : TS} (h : PSs X.nox st t) : PSs X st t := fun pins s σ H D I hw =>
 wpAny_mono (h pins s σ H D (I.wish _) hw) (fun _ _ q => q.unwish) fun _ _ z => False.elim z
end
section
variable {X : Cx} {st : Stmt} {rest : List Stmt} {t u : TS} {e : Expr} {te : TE} {pos : Pos}
def tNext : TS := fun D σ H => D.nx σ H
def tSeq (t u : TS) : TS := fun D σ H => t { D with nx := u D } σ H
theorem pss_nil : PSs X [] tNext := fun _ _ σ H _ I h => wpAny_execs_nil ⟨σ, H, I, h⟩
theorem pss_cons (h1 : PS X st t) (h2 : PSs X rest u) : PSs X (st :: rest) (tSeq t u) := by
 intro pins s σ H D I h
 refine wpAny_execs_cons (thn (h1 pins s σ H { D with nx := u D } I h) fun f s1 q => ?_)
 cases f with
 | next =>
  obtain ⟨σ', H', I', q⟩ := q
  exact h2 pins s1 σ' H' D I' q
 | ret v => exact q
 | brk => exact q
 | cont => exact q
theorem pss_one (h1 : PS X st t) : PSs X [st] t := by
 intro pins s σ H D I h
 refine wpAny_execs_cons (thn (h1 pins s σ H D I h) fun f s1 q => ?_)
 cases f with
 | next => exact wpAny_execs_nil q
 | ret v => exact q
 | brk => exact q
 | cont => exact q
theorem Inv.quiet {pins : List (Addr × Obj)} {σ : St} {H : Hp} {s : Shared} (I : Inv X pins σ H s) : interactive X.env = false := by simp [interactive, I.ok.kind]
def tDrop (te : TE) : TS := fun D σ H => te σ H fun _ H1 => D.nx σ H1
theorem ps_expr (he : PE X e te) (hs : swapsWith e none pos.line X.env = pure false := by rfl) : PS X (.Expr e pos) (tDrop te) := by
 intro pins s σ H D I h
 exact wpAny_Expr_any (thn (he pins s σ H _ I h) fun v s1 ⟨x, H1, I1, r1, q1⟩ => ⟨σ, H1, I1, q1⟩) I.quiet hs
def tRet (te : TE) : TS := fun D σ H => te σ H D.rt
theorem ps_ret (he : PE X e te) : PS X (.Return (some e) pos) (tRet te) := by
 intro pins s σ H D I h
 exact wpAny_Return_some (thn (he pins s σ H _ I h) fun v s1 ⟨x, H1, I1, r1, q1⟩ => ⟨x, σ, H1, I1, r1, q1⟩)
def tIfS (c : TT) (t u : TS) : TS := fun D σ H => c σ H fun b H1 => if b = true then t D σ H1 else u D σ H1
theorem ps_if {c : Expr} {a b : List Stmt} {tc : TT} (hc : PT X c tc) (ha : PSs X a t) (hb : PSs X b u) : PS X (.If c a b pos) (tIfS tc t u) := by
 intro pins s σ H D I h
 refine wpAny_If (thn (hc pins s σ H _ I h) fun d s1 ⟨H1, I1, q1⟩ => ?_)
 cases d with
 | true => exact ha pins s1 σ H1 D I1 q1
 | false => exact hb pins s1 σ H1 D I1 q1
def tNever : TS := fun _ _ _ => False
theorem ps_never : PS X st tNever := fun _ _ _ _ _ _ h => h.elim
end
abbrev TG := V → St → Hp → (St → Hp → Prop) → Prop
abbrev TGs := List V → St → Hp → (St → Hp → Prop) → Prop
def PG (X : Cx) (target : Expr) (t : TG) : Prop :=
 ∀ (pins : List (Addr × Obj)) (s : Shared) (σ : St) (H : Hp) (v : V) (u : Value) (Q : St → Hp → Prop), Inv X pins σ H s → RelV v u → t v σ H Q →
  wpAny (model X.prog X.w) X.A (assign target X.env u) (fun _ s' => ∃ σ' H', Inv X pins σ' H' s' ∧ Q σ' H') X.xe s
def PGs (X : Cx) (ts : List Expr) (t : TGs) : Prop :=
 ∀ (pins : List (Addr × Obj)) (s : Shared) (σ : St) (H : Hp) (vs : List V) (us : List Value) (Q : St → Hp → Prop), Inv X pins σ H s → Vals vs us → t vs σ H Q →
  wpAny (model X.prog X.w) X.A (assignInOrder ((assignEach ts X.env).map (·.2)) us) (fun _ s' => ∃ σ' H', Inv X pins σ' H' s' ∧ Q σ' H') X.xe s
abbrev TSet := V → V → V → Hp → (Hp → Prop) → Prop
def PSet (X : Cx) (t : TSet) : Prop :=
 ∀ (pins : List (Addr × Obj)) (s : Shared) (σ : St) (H : Hp) (o i v : V) (ov iv u : Value) (Q : Hp → Prop), Inv X pins σ H s → RelV o ov → RelV i iv → RelV v u → t o i v H Q →
  wpAny (model X.prog X.w) X.A (setItem ov iv u) (fun _ s' => ∃ H', Inv X pins σ H' s' ∧ Q H') X.xe s
section
variable {X : Cx} {pos : Pos}
def gName (i : Nat) : TG := fun v σ H Q => Q (σ.set i (some v)) H
theorem pg_name {i : Nat} {x : Str} (hN : X.N.Nodup) (hi : X.N[i]? = some x) (hx : Loc X.env.scope x) (hf : X.fn x = true ∨ X.env.scope.names.lookup x = some .local := by first | exact .inl rfl | exact .inr rfl | assumption) : PG X (.Name x pos) (gName i) := by
 intro pins s σ H v u Q I r h
 exact wpAny_assign_Name (store_ok I hN hi hx r (fun s' I' => ⟨_, H, I', h⟩) hf)
def gNil : TGs := fun vs σ H Q => vs = [] ∧ Q σ H
def gCons (t : TG) (u : TGs) : TGs := fun vs σ H Q => ∃ v r, vs = v :: r ∧ t v σ H fun σ' H' => u r σ' H' Q
theorem pgs_nil : PGs X [] gNil := by
 intro pins s σ H vs us Q I r h
 obtain ⟨e, h⟩ := h
 subst e
 cases r
 exact assignInOrder_nil ⟨σ, H, I, h⟩
theorem pgs_cons {e : Expr} {es : List Expr} {t : TG} {u : TGs} (h1 : PG X e t) (h2 : PGs X es u)
  (hs : (assignEach (e :: es) X.env).map (·.2) = assign e X.env :: (assignEach es X.env).map (·.2) := by rfl) : PGs X (e :: es) (gCons t u) := by
 intro pins s σ H vs us Q I r h
 obtain ⟨v, vr, e1, h⟩ := h
 subst e1
 cases r with
 | cons r rr =>
  rw [hs]
  refine assignInOrder_cons (thn (h1 pins s σ H _ _ _ I r h) fun _ s1 ⟨σ1, H1, I1, q1⟩ => ?_)
  exact h2 pins s1 σ1 H1 _ _ Q I1 rr q1
def gTup (K : PySem.W.Frag) (n : Nat) (t : TGs) : TG := fun v σ H Q => ∃ a xs, v = .ref a ∧ SqT K H a xs ∧ xs.length = n ∧ t xs σ H Q
theorem pg_tup {es : List Expr} {k : Nat} {t : TGs} {n : Nat} (hc : X.calm = true) (h : PGs X es t)
  (hn : (assignEach es X.env).length = n := by rfl) (hst : (assignEach es X.env).findIdx? (·.1) = none := by rfl) : PG X (.Tuple es k pos) (gTup X.K n t) := by
 intro pins s σ H v u Q I r hw
 obtain ⟨a, xs, e1, hq, hl, hw⟩ := hw
 subst e1
 cases r
 obtain ⟨its, rv, ht, hz⟩ := I.tuple hq
 refine assign_Tuple_tuple (I.ok.hd hc) ht (by simp [hn, ← hl, rv.length]) hst fun h' hx => ?_
 have I1 : Inv X pins σ H { s with heap := h' } := I.kept (t' := s.toks) fun b o e => hx b o (Nat.ne_of_lt (Heap.lt_size e)) e
 exact h pins _ σ H xs _ Q I1 (by simpa using rv) hw
def gSub (to ti : TE) (t : TSet) : TG := fun v σ H Q => to σ H fun o H1 => ti σ H1 fun i H2 => t o i v H2 fun H3 => Q σ H3
theorem pg_sub {o i : Expr} {to ti : TE} {t : TSet} (ho : PE X o to) (hi : PE X i ti) (hs : PSet X t)
  (ha : ∀ v, assign (.Subscript o i pos) X.env v = (do
   let ov ← holding [v] (eval o X.env)
   let iv ← holding [v, ov] (eval i X.env)
   standAt pos
   holding [v, ov, iv] (setItem ov iv v)
   release [v, ov, iv] []) := by intro _; rfl) : PG X (.Subscript o i pos) (gSub to ti t) := by
 intro pins s σ H v u Q I r h
 rw [ha]
 refine wpAny_bind (wpAny_holding (thn (ho pins s σ H _ I h) fun ov s1 ⟨x, H1, I1, r1, q1⟩ => ?_))
 refine wpAny_bind (wpAny_holding (thn (hi pins s1 σ H1 _ I1 q1) fun iv s2 ⟨y, H2, I2, r2, q2⟩ => ?_))
 refine wpAny_bind (wpAny_standAt (wpAny_bind (wpAny_holding (thn (hs pins s2 σ H2 x y v ov iv u _ I2 r1 r2 r q2) fun _ s3 ⟨H3, I3, q3⟩ => ?_))))
 exact wpAny_release ⟨σ, H3, I3, q3⟩
def tAsg (te : TE) (g : TG) : TS := fun D σ H => te σ H fun x H1 => g x σ H1 D.nx
theorem ps_asg {tg e : Expr} {te : TE} {g : TG} (he : PE X e te) (hg : PG X tg g) (hs : swapsWithSole [tg] e pos.line X.env = pure false := by rfl) (hw : swappedStores [tg] e X.env = pure none := by rfl)
  (h1 : (assignEach [tg] X.env).map (·.2) = [assign tg X.env] := by rfl) : PS X (.Assign [tg] e pos) (tAsg te g) := by
 intro pins s σ H D I h
 refine wpAny_Assign_stores (thn (he pins s σ H _ I h) fun v s1 ⟨x, H1, I1, r1, q1⟩ => ?_) hs hw
 rw [h1]
 exact thn (hg pins s1 σ H1 x v _ I1 r1 q1) fun _ s2 q => q
theorem ps_set {i : Nat} {x : Str} {e : Expr} {te : TE} {pos' : Pos} (hN : X.N.Nodup) (hi : X.N[i]? = some x) (hx : Loc X.env.scope x) (he : PE X e te) (hs : swapsWith e (some (.Name x pos')) pos.line X.env = pure false := by rfl) (hf : X.fn x = true ∨ X.env.scope.names.lookup x = some .local := by first | exact .inl rfl | exact .inr rfl | assumption) :
  PS X (.Assign [.Name x pos'] e pos) (tAsg te (gName i)) := by
 intro pins s σ H D I h
 refine wpAny_Assign_Name (thn (he pins s σ H _ I h) fun v s1 ⟨y, H1, I1, r1, q1⟩ => ?_) hs
 exact store_ok I1 hN hi hx r1 (fun s2 I2 => ⟨_, H1, I2, q1⟩) hf
def tPar (i j : Nat) (ta : TA) : TS := fun D σ H => ta σ H fun vs H1 => ∃ v w, vs = [v, w] ∧ D.nx ((σ.set i (some v)).set j (some w)) H1
theorem ps_par {i j : Nat} {x y : Str} {a b : Expr} {ta : TA} {px py pt : Pos} {kt k2 pt2} (hc : X.calm = true) (hN : X.N.Nodup) (hi : X.N[i]? = some x) (hj : X.N[j]? = some y) (hij : i ≠ j)
  (hx : X.env.scope.names.lookup x = some .local) (hy : X.env.scope.names.lookup y = some .local) (ha : PA X [a, b] ta)
  (hw : swappedStores [.Tuple [.Name x px, .Name y py] kt pt] (.Tuple [a, b] k2 pt2) X.env = pure (some [x, y]))
  (hs : swapsWithSole [.Tuple [.Name x px, .Name y py] kt pt] (.Tuple [a, b] k2 pt2) pos.line X.env = pure false := by rfl) :
  PS X (.Assign [.Tuple [.Name x px, .Name y py] kt pt] (.Tuple [a, b] k2 pt2) pos) (tPar i j ta) := by
 intro pins s σ H D I h
 rw [exec_Assign_arm]
 refine wpAny_bind (wpAny_standAt ?_)
 rw [hs]
 refine wpAny_bind (wpAny_pure ?_)
 rw [if_neg (by decide)]
 refine wpAny_bind (Tuple_ (thn (ha _ pins s σ H _ I h) fun us s1 ⟨vs, H1, I1, r1, q1⟩ => ?_))
 obtain ⟨v, w, e1, q1⟩ := q1
 subst e1
 obtain ⟨u1, u2, rfl, rv, rw'⟩ : ∃ u1 u2, us = [u1, u2] ∧ RelV v u1 ∧ RelV w u2 := by
  cases r1 with
  | cons p q =>
   cases q with
   | cons p' q' =>
    cases q'
    exact ⟨_, _, rfl, p, p'⟩
 refine wpAny_newObj_type ?_ (by show 2 ≤ sizeLine; decide)
 have I2 : Inv X pins σ H1 { s1 with heap := s1.heap.push { cls := .type "tuple", data := .seq [u1, u2].toArray } } := I1.kept (t' := s1.toks) fun b o e => Heap.get?_push_of_some _ e
 rw [hw]
 refine wpAny_bind (wpAny_pure ?_)
 show wpAny (model X.prog X.w) X.A (do rule "assign.swapped-stores"; let items ← unpackItems (.ref s1.heap.objs.size) 2 none; assignInOrder [fun v => bindName X.env y v, fun v => bindName X.env x v] items.reverse; pure Flow.next) _ _ _
 refine wpAny_bind (wpAny_rule (wpAny_bind (unpackItems_tuple (items := #[u1, u2]) (I.ok.hd hc) (IsTup.new s1.heap _) fun h' hx' => ?_)))
 have I3 := I2.kept (h' := h') (t' := s1.toks) fun b o e => hx' b o (Nat.ne_of_lt (Heap.lt_size e)) e
 show wpAny _ _ (assignInOrder [fun v => bindName X.env y v, fun v => bindName X.env x v] [u2, u1] >>= fun _ => pure Flow.next) _ _ _
 refine wpAny_bind (assignInOrder_cons (wpAny_bindName (store_ok I3 hN hj (.inl hy) rw' (fun s2 I4 => ?_) (.inr hy))))
 refine assignInOrder_cons (wpAny_bindName (store_ok I4 hN hi (.inl hx) rv (fun s3 I5 => assignInOrder_nil (wpAny_pure ?_)) (.inr hx)))
 rw [List.set_comm _ _ (Ne.symm hij)] at I5
 exact ⟨_, H1, I5, q1⟩
end
section
variable {X : Cx} {pos : Pos}
def tWhile (c : TT) (tb : TS) : TS := fun D σ H => ∃ W : Nat → St → Hp → Prop, (∃ m, W m σ H) ∧ ∀ m σ H, W m σ H →
 c σ H fun b H1 => if b = true then ∃ N : St → Hp → Prop, (∀ σ' H', N σ' H' → ∃ m', m' < m ∧ W m' σ' H') ∧ tb { D with nx := N, ct := N, bk := D.nx } σ H1 else D.nx σ H1
theorem ps_while {c : Expr} {body : List Stmt} {tc : TT} {tb : TS} (hp : PassesOwn (model X.prog X.w) X.A X.env X.xe) (hc : PT X c tc) (hb : PSs X body tb) : PS X (.While c body [] pos) (tWhile tc tb) := by
 intro pins s σ H D I h
 obtain ⟨W, ⟨m0, w0⟩, turn⟩ := h
 refine wpAny_While (codeAny_whileLoop (fun n s' => ∃ σ' H', Inv X pins σ' H' s' ∧ W n σ' H') ?_ m0 ⟨σ, H, I, w0⟩)
 rintro n s1 ⟨σ1, H1, I1, w1⟩
 refine wpAny_passesOwn hp (thn (hc pins s1 σ1 H1 _ I1 (turn n σ1 H1 w1)) fun b s2 ⟨H2, I2, q2⟩ => ?_)
 cases b with
 | true =>
  obtain ⟨N, hN, q2⟩ := q2
  rw [if_pos rfl]
  refine wpAny_passesOwn hp (thn (hb pins s2 σ1 H2 _ I2 q2) fun f s3 q3 => ?_)
  cases f with
  | next =>
   obtain ⟨σ3, H3, I3, n3⟩ := q3
   obtain ⟨m', hm, w3⟩ := hN σ3 H3 n3
   exact ⟨m', hm, σ3, H3, I3, w3⟩
  | cont =>
   obtain ⟨σ3, H3, I3, n3⟩ := q3
   obtain ⟨m', hm, w3⟩ := hN σ3 H3 n3
   exact ⟨m', hm, σ3, H3, I3, w3⟩
  | brk => exact q3
  | ret v => exact q3
 | false =>
  rw [if_neg Bool.false_ne_true]
  exact wpAny_execs_nil ⟨σ1, H2, I2, q2⟩
end
structure It where
 go : Nat → Hp → Prop
 yld : Nat → Hp → V → Hp → Prop
 stop : Nat → Hp → Prop
def FpOk (X : Cx) (pins : List (Addr × Obj)) (H : Hp) (b : Addr) : Prop :=
 H b = none ∧ b ≠ X.env.locals ∧ b ∉ X.fs ∧ (b ∈ X.ex ∨ X.s₀.heap.objs.size ≤ b) ∧ (∀ x c, X.env.cells.lookup x = some c → c ≠ b) ∧ ∀ p ∈ X.pn ++ pins, p.1 ≠ b
theorem Inv.fpOk {X : Cx} {pins : List (Addr × Obj)} {σ : St} {H H' : Hp} {s : Shared} {b : Addr} (I : Inv X pins σ H s) (hb : s.heap.objs.size ≤ b) (hn : H' b = none) : FpOk X pins H' b := by
 refine ⟨hn, Nat.ne_of_gt (Nat.lt_of_lt_of_le I.lt hb), I.nofs hb, .inr (Nat.le_trans I.sz hb), fun x c e z => ?_, fun p hp z => ?_⟩
 ·obtain ⟨v, q⟩ := I.cell x c e
  exact absurd (Nat.lt_of_lt_of_le q.lt (by rw [z]; exact hb)) (Nat.lt_irrefl _)
 ·exact absurd (Nat.lt_of_lt_of_le (Heap.lt_size (I.pin p hp).1) (by rw [z]; exact hb)) (Nat.lt_irrefl _)
structure Turn (P : Program) (w : World) (K : PySem.W.Frag) (tg : Expr) (J : It) (fp : List Addr) (it : Addr) (tn : Nat → Heap → Prop) : Prop where
 mem : it ∈ fp
 obj : ∀ i h, tn i h → ∀ b ∈ fp, ∃ o, h.get? b = some o ∧ ∀ v, o.data ≠ .cell v
 keep : ∀ i h h', tn i h → (∀ b ∈ fp, ∀ o, h.get? b = some o → h'.get? b = some o) → tn i h'
 item : ∀ (X : Cx), X.prog = P → X.w = w → X.K = K → X.calm = true → ∀ (i : Nat) (pins : List (Addr × Obj)) (s : Shared) (σ : St) (H : Hp) (E : Value → Shared → Prop), Inv X pins σ H s → (∀ b ∈ fp, FpOk X pins H b) → tn i s.heap → J.go i H →
  wpAny (model P w) X.A (pyNext (.ref it)) (fun r s1 => ∃ u, r = some u ∧
   wpAny (model P w) X.A (letOwnedTupleGo tg (.ref it) u) (fun _ s2 => ∃ x H', Inv X pins σ H' s2 ∧ RelV x u ∧ J.yld i H x H' ∧ tn (i + 1) s2.heap ∧ ∀ b ∈ fp, H' b = none) E s1) E s
 done : ∀ (X : Cx), X.prog = P → X.w = w → X.K = K → X.calm = true → ∀ (i : Nat) (pins : List (Addr × Obj)) (s : Shared) (σ : St) (H : Hp) (E : Value → Shared → Prop), Inv X pins σ H s → (∀ b ∈ fp, FpOk X pins H b) → tn i s.heap → J.stop i H →
  wpAny (model P w) X.A (pyNext (.ref it)) (fun r s1 => r = none ∧ Inv X pins σ H s1) E s
 self : ∀ (A : Around) (i : Nat) (s : Shared) (Q : Value → Shared → Prop) (E : Value → Shared → Prop), tn i s.heap → Q (.ref it) s → wpAny (model P w) A (pyIter (.ref it)) Q E s
abbrev TI := St → Hp → (It → Hp → Prop) → Prop
def PIE (X : Cx) (pins : List (Addr × Obj)) (σ : St) (tg : Expr) (R : It → Hp → Prop) (itv : Value) (s2 : Shared) : Prop :=
 ∃ (it : Addr) (fp : List Addr) (tn : Nat → Heap → Prop) (J : It) (H' : Hp), itv = .ref it ∧ Inv X pins σ H' s2 ∧ Turn X.prog X.w X.K tg J fp it tn ∧ tn 0 s2.heap ∧ (∀ b ∈ fp, FpOk X pins H' b) ∧ R J H'
def PI (X : Cx) (tg iter : Expr) (wi : TI) : Prop :=
 ∀ (pins : List (Addr × Obj)) (s : Shared) (σ : St) (H : Hp) (R : It → Hp → Prop), Inv X pins σ H s → wi σ H R →
  wpAny (model X.prog X.w) X.A (eval iter X.env) (fun v s1 => wpAny (model X.prog X.w) X.A (pyIter v) (PIE X pins σ tg R) X.xe s1) X.xe s
theorem go_of {M : Model} {A : Around} {E : Value → Shared → Prop} {s : Shared} {tg : Expr} {it : Addr} {u : Value} {o : Obj} {n : String} {vs : Array Value} {Q : Unit → Shared → Prop} (ho : s.heap.get? it = some o) (hc : o.cls = .type n) (hd : o.data = .fields vs)
  (hn : ["enumerate", "zip", "dict_itemiterator", "dict_reverseitemiterator", "odict_iterator", "itertools.zip_longest", "itertools.pairwise"].contains n = false) (hQ : Q () s) : wpAny M A (letOwnedTupleGo tg (.ref it) u) Q E s := by
 unfold letOwnedTupleGo
 cases tg <;> first
  | exact wpAny_pure hQ
  | (cases u <;> first
    | exact wpAny_pure hQ
    | (refine wpAny_bind (wpAny_load ho ?_)
       rw [hc, hd]
       show wpAny M A (if (["enumerate", "zip", "dict_itemiterator", "dict_reverseitemiterator", "odict_iterator", "itertools.zip_longest", "itertools.pairwise"].contains n && vs[0]? == some (rawInt _)) = true then _ else _) Q E s
       rw [if_neg (by intro h; rw [hn, Bool.false_and] at h; cases h)]
       exact wpAny_pure hQ))
def Itl (K : PySem.W.Frag) (a : Addr) : It :=
 ⟨fun i H => ∃ xs x, SqL K H a xs ∧ xs[i]? = some x, fun i H x H' => H' = H ∧ ∀ xs, SqL K H a xs → xs[i]? = some x, fun i H => ∃ xs, SqL K H a xs ∧ xs.length ≤ i⟩
def Itt (K : PySem.W.Frag) (a : Addr) : It :=
 ⟨fun i H => ∃ xs x, SqT K H a xs ∧ xs[i]? = some x, fun i H x H' => H' = H ∧ ∀ xs, SqT K H a xs → xs[i]? = some x, fun i H => ∃ xs, SqT K H a xs ∧ xs.length ≤ i⟩
def Itr (lo : Int) (n : Nat) : It := ⟨fun i _ => i < n, fun i H x H' => H' = H ∧ x = .int (lo + i), fun i _ => n ≤ i⟩
theorem turn_list {P : Program} {w : World} {K : PySem.W.Frag} {tg : Expr} (a it : Addr) : Turn P w K tg (Itl K a) [it] it (fun i h => h.IsListIter it a i) where
 mem := by simp
 obj := fun i h st b hb => by
  have e : b = it := by simpa using hb
  subst e
  obtain ⟨o, e, c, d⟩ := st
  exact ⟨o, e, fun v z => by rw [d] at z; cases z⟩
 keep := fun i h h' st k => st.at fun o e => k it (by simp) o e
 item := by
  intro X hP hw hK hc i pins s σ H E I hf st hg
  subst hP hw hK
  obtain ⟨xs, x, hq, hx⟩ := hg
  obtain ⟨its, rv, p, hz⟩ := I.list hq
  obtain ⟨u, hu, ru⟩ := rv.get hx
  obtain ⟨f0, f1, f2, f3, f4, f5⟩ := hf it (by simp)
  refine wpAny_pyNext_list_item st p.isList (x := u) (by simpa using hu) fun h' st' sb => ?_
  have I1 : Inv X pins σ H { s with heap := h' } := I.turned (t' := s.toks) (fun b o hb e => (sb.2 b hb).trans e) f0 f1 f3 f4 f5
  obtain ⟨o, e, c, d⟩ := id st'
  exact ⟨u, rfl, go_of (s := { s with heap := h' }) e c d (by decide) ⟨x, H, I1, ru, ⟨rfl, fun ys hy => by rw [I.list_inj hy hq]; exact hx⟩, st', fun b hb => (hf b hb).1⟩⟩
 done := by
  intro X hP hw hK hc i pins s σ H E I hf st hg
  subst hP hw hK
  obtain ⟨xs, hq, hx⟩ := hg
  obtain ⟨its, rv, p, hz⟩ := I.list hq
  obtain ⟨f0, f1, f2, f3, f4, f5⟩ := hf it (by simp)
  have hl := rv.length
  exact wpAny_pyNext_list_end (I.ok.hd hc) st p.isList (by simp; omega) fun h' eb => ⟨rfl, I.turned (t' := s.toks) (fun b o hb e => eb b o hb e) f0 f1 f3 f4 f5⟩
 self := fun _ _ _ _ _ st h => wpAny_pyIter_listiter st h
theorem turn_tuple {P : Program} {w : World} {K : PySem.W.Frag} {tg : Expr} (a it : Addr) : Turn P w K tg (Itt K a) [it] it (fun i h => h.IsTupleIter it a i) where
 mem := by simp
 obj := fun i h st b hb => by
  have e : b = it := by simpa using hb
  subst e
  obtain ⟨o, e, c, d⟩ := st
  exact ⟨o, e, fun v z => by rw [d] at z; cases z⟩
 keep := fun i h h' st k => st.at fun o e => k it (by simp) o e
 item := by
  intro X hP hw hK hc i pins s σ H E I hf st hg
  subst hP hw hK
  obtain ⟨xs, x, hq, hx⟩ := hg
  obtain ⟨its, rv, p, hz⟩ := I.tuple hq
  obtain ⟨u, hu, ru⟩ := rv.get hx
  obtain ⟨f0, f1, f2, f3, f4, f5⟩ := hf it (by simp)
  refine wpAny_pyNext_tuple_item st (show s.heap.IsTuple a its.toArray from p) (x := u) (by simpa using hu) fun h' st' sb => ?_
  have I1 : Inv X pins σ H { s with heap := h' } := I.turned (t' := s.toks) (fun b o hb e => (sb.2 b hb).trans e) f0 f1 f3 f4 f5
  obtain ⟨o, e, c, d⟩ := id st'
  exact ⟨u, rfl, go_of (s := { s with heap := h' }) e c d (by decide) ⟨x, H, I1, ru, ⟨rfl, fun ys hy => by rw [I.tuple_inj hy hq]; exact hx⟩, st', fun b hb => (hf b hb).1⟩⟩
 done := by
  intro X hP hw hK hc i pins s σ H E I hf st hg
  subst hP hw hK
  obtain ⟨xs, hq, hx⟩ := hg
  obtain ⟨its, rv, p, hz⟩ := I.tuple hq
  obtain ⟨f0, f1, f2, f3, f4, f5⟩ := hf it (by simp)
  have hl := rv.length
  exact wpAny_pyNext_tuple_end (I.ok.hd hc) st (show s.heap.IsTuple a its.toArray from p) (by simp; omega) fun h' eb => ⟨rfl, I.turned (t' := s.toks) (fun b o hb e => eb b o hb e) f0 f1 f3 f4 f5⟩
 self := fun _ _ _ _ _ st h => wpAny_pyIter_tupleiter st h
theorem turn_range {P : Program} {w : World} {K : PySem.W.Frag} {tg : Expr} (it : Addr) (lo : Int) (n : Nat) : Turn P w K tg (Itr lo n) [it] it (fun i h => IsRangeIter h it (lo + (i : Nat) * 1) ((n : Int) - (i : Nat)) 1) where
 mem := by simp
 obj := fun i h st b hb => by
  have e : b = it := by simpa using hb
  subst e
  exact ⟨_, st, fun v z => by
   have z' : Data.fields _ = Data.cell v := z
   cases z'⟩
 keep := fun i h h' st k => k it (by simp) _ st
 item := by
  intro X hP hw hK hc i pins s σ H E I hf st hg
  subst hP hw hK
  obtain ⟨f0, f1, f2, f3, f4, f5⟩ := hf it (by simp)
  have W := Walks.range (prog := X.prog) (w := X.w) (I.ok.hd hc) it lo 1 n
  refine W.item i s _ _ hg st fun v h' tk hv st' kk => ?_
  obtain ⟨t, rfl⟩ := hv
  have I1 : Inv X pins σ H { s with heap := h', toks := tk } := I.turned (fun b o hb e => kk b o (by simpa using hb) e) f0 f1 f3 f4 f5
  refine ⟨_, rfl, go_of (s := { s with heap := h', toks := tk }) (n := "range_iterator") st' rfl rfl (by decide) ⟨.int (lo + i), H, I1, ⟨t, ?_⟩, ⟨rfl, rfl⟩, st', fun b hb => (hf b hb).1⟩⟩
  rw [Int.mul_one]
 done := by
  intro X hP hw hK hc i pins s σ H E I hf st hg
  subst hP hw hK
  obtain ⟨f0, f1, f2, f3, f4, f5⟩ := hf it (by simp)
  exact wpAny_pyNext_range_end (I.ok.hd hc) st (by have : n ≤ i := hg; omega) fun h' eb => ⟨rfl, I.turned (t' := s.toks) (fun b o hb e => eb b o hb e) f0 f1 f3 f4 f5⟩
 self := fun _ _ _ _ _ st h => wpAny_pyIter_rangeiter st h
section
variable {X : Cx} {tg : Expr}
theorem range_it {pins : List (Addr × Obj)} {σ : St} {H : Hp} {s : Shared} {R : It → Hp → Prop} {E : Value → Shared → Prop} {lo hi : Int} {t u v : Tok} {tk : Nat} (I : Inv X pins σ H s) (h1 : -(2 ^ 62) ≤ lo) (h2 : lo < 2 ^ 62) (h3 : -(2 ^ 62) ≤ hi) (h4 : hi < 2 ^ 62)
  (q : R (Itr lo (hi - lo).toNat) H) : wpAny (model X.prog X.w) X.A (pyIter (.ref s.heap.objs.size)) (PIE X pins σ tg R) E { s with heap := s.heap.push { cls := .type "range", data := .fields #[.int lo t, .int hi u, .int 1 v] }, toks := tk } := by
 refine wpAny_pyIter_range (IsRange.new ..) (small_one h1 h2 h3 h4) ?_
 have I1 : Inv X pins σ H { s with heap := s.heap.push { cls := .type "range", data := .fields #[.int lo t, .int hi u, .int 1 v] }, toks := tk } := I.kept fun b o e => Heap.get?_push_of_some _ e
 refine ⟨(s.heap.push { cls := .type "range", data := .fields #[.int lo t, .int hi u, .int 1 v] }).objs.size, [(s.heap.push { cls := .type "range", data := .fields #[.int lo t, .int hi u, .int 1 v] }).objs.size], _, _, H, rfl,
  I1.kept (t' := tk) fun b o e => Heap.get?_push_of_some _ e, turn_range _ lo (hi - lo).toNat, ?_, fun b hb => ?_, q⟩
 ·have e1 : lo + ((0 : Nat) : Int) * 1 = lo := by simp
  have e2 : (((hi - lo).toNat : Nat) : Int) - ((0 : Nat) : Int) = Builtin.Range.rangeSize lo hi 1 := by rw [rangeSize_one]; split <;> omega
  show IsRangeIter _ _ (lo + ((0 : Nat) : Int) * 1) ((((hi - lo).toNat : Nat) : Int) - ((0 : Nat) : Int)) 1
  rw [e1, e2]
  exact Heap.get?_push_size _ rfl
 ·have e : b = (s.heap.push { cls := .type "range", data := .fields #[.int lo t, .int hi u, .int 1 v] }).objs.size := by simpa using hb
  subst e
  exact I1.fpOk (Nat.le_refl _) (I1.hok.fresh (Nat.le_refl _))
def iRng1 (ta : TA) : TI := fun σ H R => ta σ H fun vs H1 => ∃ j : Int, vs = [.int j] ∧ -(2 ^ 62) ≤ j ∧ j < 2 ^ 62 ∧ R (Itr 0 j.toNat) H1
theorem pi_range1 {a : Expr} {ta : TA} {p pos : Pos} (hg : Gl X "range") (hm : X.mg "range" = none) (ha : PA X [a] ta) (hs : starEach [a] X.env = [(false, eval a X.env)] := by rfl) : PI X tg (.Call (.Name "range" p) [a] [] pos) (iRng1 ta) := by
 intro pins s σ H R I h
 refine Call_ (ld_blt I hg hm boot_range (PyProof.Rows.callWith_type1 (thn (ha pos pins s σ H _ I h) fun us s1 ⟨vs, H1, I1, r1, q1⟩ => ?_) hs rfl))
 obtain ⟨j, e, q1, q2, q⟩ := q1
 subst e
 cases r1 with
 | cons r rr =>
  cases rr
  obtain ⟨t, rfl⟩ := r
  exact call_range_1 (range_it I1 (by omega) (by omega) q1 q2 (by simpa using q))
def tFor (wi : TI) (g : TG) (tb : TS) : TS := fun D σ H => wi σ H fun J H1 => ∃ W : Nat → Nat → St → Hp → Prop, (∃ m, W 0 m σ H1) ∧ ∀ i m σ H, W i m σ H →
 (J.stop i H ∧ D.nx σ H) ∨ (J.go i H ∧ ∃ N : St → Hp → Prop, (∀ σ' H', N σ' H' → ∃ m', m' < m ∧ W (i + 1) m' σ' H') ∧ ∀ x H', J.yld i H x H' → g x σ H' fun σ2 H2 => tb { D with nx := N, ct := N, bk := D.nx } σ2 H2)
def pinsAt (fp : List Addr) (h : Heap) : List (Addr × Obj) := fp.filterMap fun b => (h.get? b).map fun o => (b, o)
theorem mem_pinsAt {fp : List Addr} {h : Heap} {b : Addr} {o : Obj} (hb : b ∈ fp) (e : h.get? b = some o) : (b, o) ∈ pinsAt fp h := List.mem_filterMap.mpr ⟨b, hb, by rw [e]; rfl⟩
theorem of_pinsAt {fp : List Addr} {h : Heap} {p : Addr × Obj} (hp : p ∈ pinsAt fp h) : p.1 ∈ fp ∧ h.get? p.1 = some p.2 := by
 obtain ⟨b, hb, e⟩ := List.mem_filterMap.mp hp
 cases q : h.get? b with
 | none => rw [q] at e; cases e
 | some o =>
  rw [q] at e
  have e' : (b, o) = p := Option.some.inj e
  subst e'
  exact ⟨hb, q⟩
theorem Inv.pinned {pins : List (Addr × Obj)} {σ : St} {H : Hp} {s : Shared} {fp : List Addr} (I : Inv X pins σ H s) (hf : ∀ b ∈ fp, FpOk X pins H b) (ho : ∀ b ∈ fp, ∃ o, s.heap.get? b = some o ∧ ∀ v, o.data ≠ .cell v) : Inv X (pins ++ pinsAt fp s.heap) σ H s :=
 I.pins_of fun p hp => (List.mem_append.mp hp).elim (fun z => I.pin p (List.mem_append_right _ z)) fun z => by
  obtain ⟨hb, e⟩ := of_pinsAt z
  obtain ⟨f0, f1, f2, _⟩ := hf p.1 hb
  obtain ⟨o, e', d⟩ := ho p.1 hb
  rw [e] at e'; cases e'
  exact ⟨e, f0, f1, f2, d⟩
theorem Inv.unpinned {pins pl : List (Addr × Obj)} {σ : St} {H : Hp} {s : Shared} (I : Inv X (pins ++ pl) σ H s) : Inv X pins σ H s := I.pins_of fun p hp => I.pin p (List.mem_append_right _ (List.mem_append_left _ hp))
theorem ps_for {iter : Expr} {body : List Stmt} {wi : TI} {g : TG} {tb : TS} {pos : Pos} (hp : PassesOwn (model X.prog X.w) X.A X.env X.xe) (hc : X.calm = true) (hi : PI X tg iter wi) (hg : PG X tg g) (hb : PSs X body tb)
  (hs : ∀ x, foldedSetIterable iter X.env x = pure x := by intro _; rfl) : PS X (.For tg iter body [] pos) (tFor wi g tb) := by
 intro pins s σ H D I h
 refine wpAny_For (thn (hi pins s σ H _ I h) fun v s1 h1 => thn h1 fun itv s2 h2 => ?_) hs
 obtain ⟨it, fp, tn, J, H2, e, I2, T, st2, f2, W, ⟨m0, w0⟩, turn⟩ := h2
 subst e
 have stat : ∀ {H' : Hp}, (∀ b ∈ fp, H' b = none) → ∀ b ∈ fp, FpOk X pins H' b := fun hn b hb => ⟨hn b hb, (f2 b hb).2⟩
 refine codeAny_forLoop_any (fun n s' => ∃ i σ' H', Inv X pins σ' H' s' ∧ tn i s'.heap ∧ (∀ b ∈ fp, H' b = none) ∧ W i n σ' H') ?_ m0 ⟨0, σ, H2, I2, st2, fun b hb => (f2 b hb).1, w0⟩
 rintro n s3 ⟨i, σ3, H3, I3, st3, fr3, w3⟩
 rcases turn i n σ3 H3 w3 with ⟨stop, qn⟩ | ⟨go, N, hN, step⟩
 ·refine wpAny_passesOwn hp (thn (T.done X rfl rfl rfl hc i pins s3 σ3 H3 X.xe I3 (stat fr3) st3 stop) fun r s4 ⟨hr, I4⟩ => ?_)
  subst hr
  exact wpAny_execs_nil ⟨σ3, H3, I4, qn⟩
 ·refine wpAny_passesOwn hp (thn (T.item X rfl rfl rfl hc i pins s3 σ3 H3 X.xe I3 (stat fr3) st3 go) fun r s4 ⟨u, hr, h4⟩ => ?_)
  subst hr
  refine wpAny_passesOwn hp (thn h4 fun _ s5 ⟨x, H5, I5, r5, y5, st5, fr5⟩ => ?_)
  have I5' := I5.pinned (stat fr5) (T.obj _ _ st5)
  refine wpAny_passesOwn hp (thn (hg _ s5 σ3 H5 x u _ I5' r5 (step x H5 y5)) fun _ s6 ⟨σ6, H6, I6, q6⟩ => ?_)
  refine wpAny_passesOwn hp (thn (hb _ s6 σ6 H6 _ I6 q6) fun f s7 q7 => ?_)
  have again : ∀ {σ7 : St} {H7 : Hp}, Inv X (pins ++ pinsAt fp s5.heap) σ7 H7 s7 → N σ7 H7 → ∃ m, m < n ∧ ∃ i σ' H', Inv X pins σ' H' s7 ∧ tn i s7.heap ∧ (∀ b ∈ fp, H' b = none) ∧ W i m σ' H' := fun {σ7 H7} I7 n7 => by
   obtain ⟨m', hm, w7⟩ := hN σ7 H7 n7
   refine ⟨m', hm, i + 1, σ7, H7, I7.unpinned, T.keep _ _ _ st5 fun b hb o e => (I7.pin (b, o) (List.mem_append_right _ (List.mem_append_right _ (mem_pinsAt hb e)))).1, fun b hb => ?_, w7⟩
   obtain ⟨o, e, d⟩ := T.obj _ _ st5 b hb
   exact (I7.pin (b, o) (List.mem_append_right _ (List.mem_append_right _ (mem_pinsAt hb e)))).2.1
  cases f with
  | next => obtain ⟨σ7, H7, I7, n7⟩ := q7; exact again I7 n7
  | cont => obtain ⟨σ7, H7, I7, n7⟩ := q7; exact again I7 n7
  | brk => obtain ⟨σ7, H7, I7, q7⟩ := q7; exact ⟨σ7, H7, I7.unpinned, q7⟩
  | ret v => obtain ⟨x7, σ7, H7, I7, r7, q7⟩ := q7; exact ⟨x7, σ7, H7, I7.unpinned, r7, q7⟩
end
abbrev R2 := V → V → Hp → VK → Prop
def OpR (X : Cx) (f : Value → Value → Sem Value) (r : R2) : Prop :=
 ∀ (pins : List (Addr × Obj)) (s : Shared) (σ : St) (H : Hp) (x y : V) (v u : Value) (Q : VK), Inv X pins σ H s → RelV x v → RelV y u → r x y H Q →
  wpAny (model X.prog X.w) X.A (f v u) (EP X pins σ Q) X.xe s
def UnR (X : Cx) (f : Value → Sem Value) (r : V → Hp → VK → Prop) : Prop :=
 ∀ (pins : List (Addr × Obj)) (s : Shared) (σ : St) (H : Hp) (x : V) (v : Value) (Q : VK), Inv X pins σ H s → RelV x v → r x H Q →
  wpAny (model X.prog X.w) X.A (f v) (EP X pins σ Q) X.xe s
def CallR (X : Cx) (f : Value) (r : List V → Hp → VK → Prop) : Prop :=
 ∀ (pins : List (Addr × Obj)) (s : Shared) (σ : St) (H : Hp) (xs : List V) (us : List Value) (Q : VK), Inv X pins σ H s → Vals xs us → r xs H Q →
  wpAny (model X.prog X.w) X.A (call f us) (EP X pins σ Q) X.xe s
def tOp (r : R2) (ta tb : TE) : TE := fun σ H Q => ta σ H fun x H1 => tb σ H1 fun y H2 => r x y H2 Q
def tUn (r : V → Hp → VK → Prop) (ta : TE) : TE := fun σ H Q => ta σ H fun x H1 => r x H1 Q
def rI (C : Int → Int → Prop) (g : Int → Int → V) : R2 := fun x y H Q => ∃ i j, x = .int i ∧ y = .int j ∧ C i j ∧ Q (g i j) H
def rI0 (g : Int → Int → V) : R2 := fun x y H Q => ∃ i j, x = .int i ∧ y = .int j ∧ Q (g i j) H
def rU (g : Int → V) : V → Hp → VK → Prop := fun x H Q => ∃ i, x = .int i ∧ Q (g i) H
section
variable {X : Cx} {a b c : Expr} {ta tb tc : TE} {pos : Pos}
theorem binT (ha : PE X a ta) (hb : PE X b tb) {pins : List (Addr × Obj)} {s : Shared} {σ : St} {H : Hp} {R : V → V → Hp → Prop} (I : Inv X pins σ H s)
  (h : ta σ H fun x H1 => tb σ H1 fun y H2 => R x y H2) {Q : Value → Shared → Prop} {f : Value → Value → Sem Value}
  (hf : ∀ v u s2 x y H2, Inv X pins σ H2 s2 → RelV x v → RelV y u → R x y H2 → wpAny (model X.prog X.w) X.A (f v u) Q X.xe s2) :
  wpAny (model X.prog X.w) X.A (eval a X.env) (fun v s₁ => wpAny (model X.prog X.w) X.A (eval b X.env) (fun u s₂ => wpAny (model X.prog X.w) X.A (f v u) Q X.xe s₂) X.xe s₁) X.xe s := by
 refine thn (ha pins s σ H _ I h) fun v s1 ⟨x, H1, I1, r1, q1⟩ => ?_
 refine thn (hb pins s1 σ H1 _ I1 q1) fun u s2 ⟨y, H2, I2, r2, q2⟩ => ?_
 exact hf v u s2 x y H2 I2 r1 r2 q2
theorem pe_op {op : Operator} {r : R2} (ho : OpR X (binaryOp op) r) (ha : PE X a ta) (hb : PE X b tb) : PE X (.BinOp a op b pos) (tOp r ta tb) := by
 intro pins s σ H Q I h
 exact wpAny_BinOp (binT ha hb I h fun v u s2 x y H2 I2 rx ry q => ho pins s2 σ H2 x y v u Q I2 rx ry q)
theorem pe_un {op : UnaryOp} {r : V → Hp → VK → Prop} (ho : UnR X (unaryOp op) r) (ha : PE X a ta) : PE X (.UnaryOp op a pos) (tUn r ta) := by
 intro pins s σ H Q I h
 exact UnaryOp_ (thn (ha pins s σ H _ I h) fun v s1 ⟨x, H1, I1, r1, q1⟩ => ho pins s1 σ H1 x v Q I1 r1 q1)
theorem opI {f : Value → Value → Sem Value} {C : Int → Int → Prop} {g : Int → Int → Int}
  (rule : ∀ (i j : Int) (t u : Tok) (s : Shared) (Q : Value → Shared → Prop) (E : Value → Shared → Prop), C i j → Q (.int (g i j) s.toks) { s with toks := s.toks + 1 } → wpAny (model X.prog X.w) X.A (f (.int i t) (.int j u)) Q E s) :
  OpR X f (rI C fun i j => .int (g i j)) := by
 intro pins s σ H x y v u Q I rx ry h
 obtain ⟨i, j, rfl, rfl, hc, q⟩ := h
 obtain ⟨t, rfl⟩ := rx
 obtain ⟨t', rfl⟩ := ry
 exact rule i j t t' s _ _ hc ⟨.int (g i j), H, I.tok _, ⟨_, rfl⟩, q⟩
theorem opI0 {f : Value → Value → Sem Value} {g : Int → Int → Int}
  (rule : ∀ (i j : Int) (t u : Tok) (s : Shared) (Q : Value → Shared → Prop) (E : Value → Shared → Prop), Q (.int (g i j) s.toks) { s with toks := s.toks + 1 } → wpAny (model X.prog X.w) X.A (f (.int i t) (.int j u)) Q E s) :
  OpR X f (rI0 fun i j => .int (g i j)) := by
 intro pins s σ H x y v u Q I rx ry h
 obtain ⟨i, j, rfl, rfl, q⟩ := h
 obtain ⟨t, rfl⟩ := rx
 obtain ⟨t', rfl⟩ := ry
 exact rule i j t t' s _ _ ⟨.int (g i j), H, I.tok _, ⟨_, rfl⟩, q⟩
theorem opB0 {f : Value → Value → Sem Value} {g : Int → Int → Bool}
  (rule : ∀ (i j : Int) (t u : Tok) (s : Shared) (Q : Value → Shared → Prop) (E : Value → Shared → Prop), Q (.bool (g i j)) s → wpAny (model X.prog X.w) X.A (f (.int i t) (.int j u)) Q E s) :
  OpR X f (rI0 fun i j => .bl (g i j)) := by
 intro pins s σ H x y v u Q I rx ry h
 obtain ⟨i, j, rfl, rfl, q⟩ := h
 obtain ⟨t, rfl⟩ := rx
 obtain ⟨t', rfl⟩ := ry
 exact rule i j t t' s _ _ ⟨.bl (g i j), H, I, rfl, q⟩
def CPow (i j : Int) : Prop := 0 ≤ j ∧ j ≤ 1000000 ∧ i.natAbs < 2 ^ 64
def CMul (i j : Int) : Prop := (-(2 ^ 64) < i ∧ i < 2 ^ 64) ∨ (-(2 ^ 64) < j ∧ j < 2 ^ 64)
theorem CMul.ok {i j : Int} (h : CMul i j) : IntMulOk i j := by
 rcases h with ⟨h1, h2⟩ | ⟨h1, h2⟩
 ·exact .of_left (intBits_le_64 h1 h2)
 ·exact .of_right (intBits_le_64 h1 h2)
theorem op_add : OpR X (binaryOp .Add) (rI0 fun i j => .int (i + j)) := opI0 fun _ _ _ _ _ _ _ q => add_int q
theorem op_mod : OpR X (binaryOp .Mod) (rI (fun _ j => 0 < j) fun i j => .int (i % j)) := opI fun i j _ _ _ _ _ hc q => by
 have h1 : (0 : Int) < j := hc
 exact mod_int' (by omega) (by rw [Int.fmod_eq_emod_of_nonneg i (by omega)]; exact q)
theorem op_pow : OpR X (binaryOp .Pow) (rI CPow fun i j => .int (i ^ j.toNat)) := opI fun _ _ _ _ _ _ _ hc q => pow_int_small hc.1 hc.2.1 hc.2.2 q
theorem unI {f : Value → Sem Value} {g : Int → Int}
  (rule : ∀ (i : Int) (t : Tok) (s : Shared) (Q : Value → Shared → Prop) (E : Value → Shared → Prop), Q (.int (g i) s.toks) { s with toks := s.toks + 1 } → wpAny (model X.prog X.w) X.A (f (.int i t)) Q E s) :
  UnR X f (rU fun i => .int (g i)) := by
 intro pins s σ H x v Q I rx h
 obtain ⟨i, rfl, q⟩ := h
 obtain ⟨t, rfl⟩ := rx
 exact rule i t s _ _ ⟨.int (g i), H, I.tok _, ⟨_, rfl⟩, q⟩
theorem un_neg : UnR X (unaryOp .USub) (rU fun i => .int (-i)) := unI fun _ _ _ _ _ q => neg_int q
end
def scal : V → V → Bool
 | .non, .non => true | .non, .int _ => true | .int _, .non => true | .non, .bl _ => true | .bl _, .non => true | .non, .str _ => true | .str _, .non => true
 | .int _, .int _ => true | .bl _, .bl _ => true | .str _, .str _ => true | .byt _, .byt _ => true
 | .int _, .str _ => true | .str _, .int _ => true | .bl _, .str _ => true | .str _, .bl _ => true
 | _, _ => false
def rEq : R2 := fun x y H Q => scal x y = true ∧ Q (.bl (decide (x = y))) H
def rNe : R2 := fun x y H Q => scal x y = true ∧ Q (.bl (!decide (x = y))) H
theorem dec_int {i j : Int} : decide (V.int i = V.int j) = (i == j) := by
 rw [Bool.eq_iff_iff]
 simp
theorem dec_bl {i j : Bool} : decide (V.bl i = V.bl j) = (i == j) := by
 rw [Bool.eq_iff_iff]
 simp
theorem dec_str {i j : Str} : decide (V.str i = V.str j) = (i == j) := by
 rw [Bool.eq_iff_iff]
 simp
theorem dec_byt {i j : Array UInt8} : decide (V.byt i = V.byt j) = (i.toList == j.toList) := by
 rw [Bool.eq_iff_iff]
 cases i
 cases j
 simp
section
variable {X : Cx} {a b c : Expr} {ta tb tc : TE} {pos : Pos}
theorem fin_bl {pins : List (Addr × Obj)} {σ : St} {H : Hp} {s : Shared} {Q : VK} {k k' : Bool} (I : Inv X pins σ H s) (q : Q (.bl k) H) (e : k = k') : EP X pins σ Q (.bool k') s := by
 subst e
 exact ⟨.bl k, H, I, rfl, q⟩
theorem op_eq : OpR X (compareOp .Eq) rEq := by
 intro pins s σ H x y v u Q I rx ry h
 obtain ⟨hs, q⟩ := h
 cases x with
 | non =>
  cases rx
  cases y with
  | non => cases ry; exact PySem.EqNone.eq_none_none (fin_bl I q (by simp))
  | bl j => cases ry; exact PySem.EqNone.eq_none_bool (fin_bl I q (by simp))
  | int j => obtain ⟨t', rfl⟩ := ry; exact PySem.EqNone.eq_none_int (fin_bl I q (by simp))
  | str j => obtain ⟨t', rfl⟩ := ry; exact PySem.EqNone.eq_none_str (fin_bl I q (by simp))
  | _ => exact absurd (show false = true from hs) Bool.false_ne_true
 | bl i =>
  cases rx
  cases y with
  | non => cases ry; exact PySem.EqNone.eq_bool_none (fin_bl I q (by simp))
  | bl j => cases ry; exact eq_bool (fin_bl I q dec_bl)
  | str j => obtain ⟨t', rfl⟩ := ry; exact PySem.EqMixed.eq_bool_str (fin_bl I q (by simp))
  | _ => exact absurd (show false = true from hs) Bool.false_ne_true
 | int i =>
  obtain ⟨t, rfl⟩ := rx
  cases y with
  | non => cases ry; exact PySem.EqNone.eq_int_none (fin_bl I q (by simp))
  | int j => obtain ⟨t', rfl⟩ := ry; exact eq_int (fin_bl I q dec_int)
  | str j => obtain ⟨t', rfl⟩ := ry; exact PySem.EqMixed.eq_int_str (fin_bl I q (by simp))
  | _ => exact absurd (show false = true from hs) Bool.false_ne_true
 | str i =>
  obtain ⟨t, rfl⟩ := rx
  cases y with
  | non => cases ry; exact PySem.EqNone.eq_str_none (fin_bl I q (by simp))
  | bl j => cases ry; exact PySem.EqMixed.eq_str_bool (fin_bl I q (by simp))
  | int j => obtain ⟨t', rfl⟩ := ry; exact PySem.EqMixed.eq_str_int (fin_bl I q (by simp))
  | str j => obtain ⟨t', rfl⟩ := ry; exact eq_str (fin_bl I q dec_str)
  | _ => exact absurd (show false = true from hs) Bool.false_ne_true
 | byt i =>
  obtain ⟨t, rfl⟩ := rx
  cases y with
  | byt j => obtain ⟨t', rfl⟩ := ry; exact PySem.W.eq_bytes (fin_bl I q dec_byt)
  | _ => exact absurd (show false = true from hs) Bool.false_ne_true
 | _ => cases y <;> exact absurd (show false = true from hs) Bool.false_ne_true
theorem op_ne : OpR X (compareOp .NotEq) rNe := by
 intro pins s σ H x y v u Q I rx ry h
 obtain ⟨hs, q⟩ := h
 cases x with
 | non =>
  cases rx
  cases y with
  | non => cases ry; exact PySem.EqNone.ne_none_none (fin_bl I q (by simp))
  | bl j => cases ry; exact PySem.EqNone.ne_none_bool (fin_bl I q (by simp))
  | int j => obtain ⟨t', rfl⟩ := ry; exact PySem.EqNone.ne_none_int (fin_bl I q (by simp))
  | str j => obtain ⟨t', rfl⟩ := ry; exact PySem.EqNone.ne_none_str (fin_bl I q (by simp))
  | _ => exact absurd (show false = true from hs) Bool.false_ne_true
 | bl i =>
  cases rx
  cases y with
  | non => cases ry; exact PySem.EqNone.ne_bool_none (fin_bl I q (by simp))
  | bl j => cases ry; exact ne_bool (fin_bl I q (congrArg not dec_bl))
  | str j => obtain ⟨t', rfl⟩ := ry; exact PySem.EqMixed.ne_bool_str (fin_bl I q (by simp))
  | _ => exact absurd (show false = true from hs) Bool.false_ne_true
 | int i =>
  obtain ⟨t, rfl⟩ := rx
  cases y with
  | non => cases ry; exact PySem.EqNone.ne_int_none (fin_bl I q (by simp))
  | int j => obtain ⟨t', rfl⟩ := ry; exact ne_int (fin_bl I q (congrArg not dec_int))
  | str j => obtain ⟨t', rfl⟩ := ry; exact PySem.EqMixed.ne_int_str (fin_bl I q (by simp))
  | _ => exact absurd (show false = true from hs) Bool.false_ne_true
 | str i =>
  obtain ⟨t, rfl⟩ := rx
  cases y with
  | non => cases ry; exact PySem.EqNone.ne_str_none (fin_bl I q (by simp))
  | bl j => cases ry; exact PySem.EqMixed.ne_str_bool (fin_bl I q (by simp))
  | int j => obtain ⟨t', rfl⟩ := ry; exact PySem.EqMixed.ne_str_int (fin_bl I q (by simp))
  | str j => obtain ⟨t', rfl⟩ := ry; exact ne_str (fin_bl I q (congrArg not dec_str))
  | _ => exact absurd (show false = true from hs) Bool.false_ne_true
 | byt i =>
  obtain ⟨t, rfl⟩ := rx
  cases y with
  | byt j => obtain ⟨t', rfl⟩ := ry; exact PySem.W.ne_bytes (fin_bl I q (congrArg not dec_byt))
  | _ => exact absurd (show false = true from hs) Bool.false_ne_true
 | _ => cases y <;> exact absurd (show false = true from hs) Bool.false_ne_true
theorem op_lt : OpR X (compareOp .Lt) (rI0 fun i j => .bl (decide (i < j))) := opB0 fun _ _ _ _ _ _ _ q => lt_int q
theorem op_le : OpR X (compareOp .LtE) (rI0 fun i j => .bl (decide (i ≤ j))) := opB0 fun _ _ _ _ _ _ _ q => le_int q
theorem op_gt : OpR X (compareOp .Gt) (rI0 fun i j => .bl (decide (j < i))) := opB0 fun _ _ _ _ _ _ _ q => gt_int q
theorem op_ge : OpR X (compareOp .GtE) (rI0 fun i j => .bl (decide (j ≤ i))) := opB0 fun _ _ _ _ _ _ _ q => ge_int q
theorem nomark (b : Expr) {op : CmpOp} (h : op ≠ .In := by decide) (h2 : op ≠ .NotIn := by decide) : behindInMarks op b = false := by
 have e1 : (op == CmpOp.In) = false := by cases op <;> first | rfl | exact absurd rfl h
 have e2 : (op == CmpOp.NotIn) = false := by cases op <;> first | rfl | exact absurd rfl h2
 cases b <;> simp [behindInMarks, e1, e2]
theorem pe_cmpR {op : CmpOp} {r : R2} (ho : OpR X (compareOp op) r) (ha : PE X a ta) (hb : PE X b tb) (hm : behindInMarks op b = false) : PE X (.Compare a [op] [b] pos) (tOp r ta tb) := by
 intro pins s σ H Q I h
 exact wpAny_Compare1 (binT ha hb I h fun v u s2 x y H2 I2 rx ry q => ho pins s2 σ H2 x y v u Q I2 rx ry q) hm
def tTest (t : TE) : TT := fun σ H Q => t σ H fun x H' => ∃ k, x = .bl k ∧ Q k H'
theorem pt_cmpR {op : CmpOp} {r : R2} (ho : OpR X (compareOp op) r) (ha : PE X a ta) (hb : PE X b tb) (hm : behindInMarks op b = false) : PT X (.Compare a [op] [b] pos) (tTest (tOp r ta tb)) := by
 intro pins s σ H Q I h
 refine wpAny_isTrue_Compare1 (thn (ha pins s σ H _ I h) fun v s1 ⟨x, H1, I1, r1, q1⟩ => thn (hb pins s1 σ H1 _ I1 q1) fun u s2 ⟨y, H2, I2, r2, q2⟩ =>
  thn (ho pins s2 σ H2 x y v u _ I2 r1 r2 q2) fun c s3 ⟨z, H3, I3, r3, k, e, q3⟩ => ?_) hm
 subst e
 cases r3
 exact wpAny_truthy_bool ⟨H3, I3, q3⟩
def tChain (r r' : R2) (ta tb tc : TE) : TE := fun σ H Q => ta σ H fun x H1 => tb σ H1 fun y H2 => r x y H2 fun z H3 => ∃ k, z = .bl k ∧
 (if k = true then tc σ H3 fun w' H4 => r' y w' H4 Q else Q (.bl false) H3)
theorem pe_chain {op op' : CmpOp} {r r' : R2} (ho : OpR X (compareOp op) r) (ho' : OpR X (compareOp op') r') (ha : PE X a ta) (hb : PE X b tb) (hc : PE X c tc)
  (hm : lastMarks [op, op'] [b, c] = false := by with_unfolding_all rfl) : PE X (.Compare a [op, op'] [b, c] pos) (tChain r r' ta tb tc) := by
 intro pins s σ H Q I h
 refine Compare_chain (thn (ha pins s σ H _ I h) fun v s1 ⟨x, H1, I1, r1, q1⟩ => chain_link (thn (hb pins s1 σ H1 _ I1 q1) fun u s2 ⟨y, H2, I2, r2, q2⟩ =>
  thn (ho pins s2 σ H2 x y v u _ I2 r1 r2 q2) fun d s3 ⟨z, H3, I3, r3, k, e, q3⟩ => ?_)) hm
 subst e
 cases r3
 refine wpAny_truthy_bool ?_
 cases k with
 | false => exact ite_ff ⟨.bl false, H3, I3, rfl, q3⟩
 | true => exact ite_tt (chain_last (thn (hc pins s3 σ H3 _ I3 q3) fun w' s4 ⟨z', H4, I4, r4, q4⟩ => ho' pins s4 σ H4 y z' u w' Q I4 r2 r4 q4))
theorem pt_chain {op op' : CmpOp} {r r' : R2} (ho : OpR X (compareOp op) r) (ho' : OpR X (compareOp op') r') (ha : PE X a ta) (hb : PE X b tb) (hc : PE X c tc)
  (hm : lastMarks [op, op'] [b, c] = false := by with_unfolding_all rfl) : PT X (.Compare a [op, op'] [b, c] pos) (tTest (tChain r r' ta tb tc)) := by
 intro pins s σ H Q I h
 refine isTrue_chain (thn (ha pins s σ H _ I h) fun v s1 ⟨x, H1, I1, r1, q1⟩ => test_link (thn (hb pins s1 σ H1 _ I1 q1) fun u s2 ⟨y, H2, I2, r2, q2⟩ =>
  thn (ho pins s2 σ H2 x y v u _ I2 r1 r2 q2) fun d s3 ⟨z, H3, I3, r3, k, e, q3⟩ => ?_)) hm
 subst e
 cases r3
 refine wpAny_truthy_bool ?_
 cases k with
 | false =>
  obtain ⟨k', e', q'⟩ := q3
  cases e'
  exact ite_ff ⟨H3, I3, q'⟩
 | true =>
  refine ite_tt (test_last (thn (hc pins s3 σ H3 _ I3 q3) fun w' s4 ⟨z', H4, I4, r4, q4⟩ => thn (ho' pins s4 σ H4 y z' u w' _ I4 r2 r4 q4) fun d' s5 ⟨z2, H5, I5, r5, k2, e2, q5⟩ => ?_))
  subst e2
  cases r5
  exact wpAny_truthy_bool ⟨H5, I5, q5⟩
theorem line63 : (sizeLine : Nat) < 2 ^ 63 := by rw [sizeLine_eq]; decide
theorem op_add_str : OpR X (binaryOp .Add) (fun x y H Q => ∃ i j, x = .str i ∧ y = .str j ∧ i.length + j.length ≤ sizeLine ∧ Q (.str (i ++ j)) H) := by
 intro pins s σ H x y v u Q I rx ry h
 obtain ⟨i, j, rfl, rfl, hz, q⟩ := h
 obtain ⟨t, rfl⟩ := rx
 obtain ⟨t', rfl⟩ := ry
 exact add_str (fun t' tk => ⟨.str (i ++ j), H, I.tok _, ⟨_, rfl⟩, q⟩) hz
theorem vals1 {x : V} {us : List Value} (r : Vals [x] us) : ∃ u, us = [u] ∧ RelV x u := by
 cases r with
 | cons r1 r2 => cases r2; exact ⟨_, rfl, r1⟩
theorem call_abs : CallR X (.builtin "abs") (fun xs H Q => ∃ i, xs = [.int i] ∧ Q (.int (if i < 0 then -i else i)) H) := by
 intro pins s σ H xs us Q I r h
 obtain ⟨i, rfl, q⟩ := h
 obtain ⟨u, rfl, t, rfl⟩ := vals1 r
 exact call_abs_int fun u tk => ⟨.int (if i < 0 then -i else i), H, I.tok _, ⟨_, rfl⟩, q⟩
theorem call_int1 : CallR X (.type "int") (fun xs H Q => (∃ i, xs = [.int i] ∧ Q (.int i) H) ∨ ∃ k, xs = [.bl k] ∧ Q (.int (if k then 1 else 0)) H) := by
 intro pins s σ H xs us Q I r h
 rcases h with ⟨i, rfl, q⟩ | ⟨k, rfl, q⟩
 ·obtain ⟨u, rfl, t, rfl⟩ := vals1 r
  exact call_int_int ⟨.int i, H, I, ⟨_, rfl⟩, q⟩
 ·obtain ⟨u, rfl, r1⟩ := vals1 r
  cases r1
  exact call_int_bool ⟨.int (if k then 1 else 0), H, I.tok _, ⟨_, rfl⟩, q⟩
end
structure Room (k : Nat) (A : Around) : Prop where
 hd : A.handled = none
 dp : A.depth + 3 * k + 5 < recursionLimit
 un : A.units + 16 * k + 200 < cLine
 gd : A.guards = some []
theorem Room.mono {j k : Nat} {A : Around} (r : Room k A) (h : j ≤ k) : Room j A := ⟨r.hd, by have := r.dp; omega, by have := r.un; omega, r.gd⟩
theorem Room.deeper {k : Nat} {A : Around} (r : Room (k + 1) A) (env : Env) : Room k (A.deeper env) :=
 ⟨r.hd, by have := r.dp; show A.depth + 1 + 3 * k + 5 < _; omega, by have := r.un; show A.units + 3 + 16 * k + 200 < _; omega, r.gd⟩
theorem Room.depth {k : Nat} {A : Around} (r : Room k A) : A.depth < recursionLimit := by have := r.dp; omega
theorem Room.units {k : Nat} {A : Around} (r : Room k A) : A.units + 64 < cLine := by have := r.un; omega
def tNil : TA := fun _ H Q => Q [] H
def tCons (ta : TE) (tr : TA) : TA := fun σ H Q => ta σ H fun x H1 => tr σ H1 fun xs H2 => Q (x :: xs) H2
section
variable {X : Cx} {e : Expr} {es : List Expr} {te : TE} {t : TA} {pos : Pos}
theorem pa_nil : PA X [] tNil := fun _ _ _ _ H Q I h => Calls.spliced_nil ⟨[], H, I, .nil, h⟩
theorem pa_cons (ha : PE X e te) (hr : PA X es t) (hs : starEach (e :: es) X.env = (false, eval e X.env) :: starEach es X.env := by rfl) : PA X (e :: es) (tCons te t) := by
 intro pos pins s σ H Q I h
 rw [hs]
 show wpAny _ _ (spliced ((false, eval e X.env) :: backTo pos (starEach es X.env))) _ _ s
 refine Calls.spliced_cons (thn (ha pins s σ H _ I h) fun u s1 ⟨x, H1, I1, r1, q1⟩ => ?_)
 exact thn (hr pos pins s1 σ H1 _ I1 q1) fun us s2 ⟨xs, H2, I2, r2, q2⟩ => ⟨x :: xs, H2, I2, .cons r1 r2, q2⟩
def tTup (t : TA) : TE := fun σ H Q => t σ H fun xs H1 => xs.length ≤ sizeLine ∧ ∀ p, H1 p = none → Q (.ref p) (upd H1 p (.tup xs))
def tLst (t : TA) : TE := fun σ H Q => t σ H fun xs H1 => xs.length ≤ sizeLine ∧ ∀ p, H1 p = none → Q (.ref p) (upd H1 p (.lst xs))
theorem pe_tup {x1} (h : PA X es t) : PE X (.Tuple es x1 pos) (tTup t) := by
 intro pins s σ H Q I hq
 refine wpAny_Tuple_spliced (thn (h pos pins s σ H _ I hq) fun us s1 ⟨xs, H1, I1, r, z, q⟩ => ⟨by rw [← r.length]; exact z, ?_⟩)
 have hf : H1 s1.heap.objs.size = none := I1.hok.fresh (Nat.le_refl _)
 refine ⟨.ref s1.heap.objs.size, upd H1 s1.heap.objs.size (.tup xs), I1.laid (t' := s1.toks) (fun b u e => Heap.get?_push_of_some _ e) (Nat.le_refl _) ?_, rfl, q _ hf⟩
 exact ⟨z, us, r, ⟨_, Heap.get?_push_size _ rfl, rfl, rfl, _, rfl⟩⟩
theorem pe_lst (h : PA X es t) : PE X (.List es pos) (tLst t) := by
 intro pins s σ H Q I hq
 refine wpAny_List_spliced (thn (h pos pins s σ H _ I hq) fun us s1 ⟨xs, H1, I1, r, z, q⟩ => ⟨by rw [← r.length]; exact z, ?_⟩)
 have hf : H1 s1.heap.objs.size = none := I1.hok.fresh (Nat.le_refl _)
 refine ⟨.ref s1.heap.objs.size, upd H1 s1.heap.objs.size (.lst xs), I1.laid (t' := s1.toks) (fun b u e => Heap.get?_push_of_some _ e) (Nat.le_refl _) ?_, rfl, q _ hf⟩
 exact ⟨z, us, 0, r, Heap.get?_push_size _ rfl⟩
end
abbrev Sp := List V → Hp → VK → XK → Prop
abbrev CXT := List Env → Hp → Shared → XK → Value → Shared → Prop
structure Env0 (P : Program) (w : World) (K : PySem.W.Frag) (mg : Str → Option Value) (base : Heap) (A : Around) (outer : List Env) (s : Shared) (H : Hp) : Prop where
 frames : A.frames = some outer
 mod : Mod K mg base
 bs : ∀ b o, base.get? b = some o → s.heap.get? b = some o ∧ H b = none
 bsz : base.objs.size ≤ s.heap.objs.size
 funs : s.heap.FunFrames base outer
 frf : ∀ b ∈ frs outer, H b = none
 hok : HOk P w H s.heap
 bare : AllBare s.gens
def CE (outer : List Env) (P : Program) (w : World) (H : Hp) (s : Shared) (Q : VK) (u : Value) (s' : Shared) : Prop :=
 ∃ v H', s'.os = s.os ∧ AllBare s'.gens ∧ Un (frs outer) [] H H' s.heap s'.heap ∧ HOk P w H' s'.heap ∧ RelV v u ∧ Q v H'
def CR (CX : CXT) (outer : List Env) (P : Program) (w : World) (H : Hp) (s : Shared) (Q : VK) (E : XK) (r : Result) (s' : Shared) : Prop :=
 match r with
 | .ok (.ret u) => CE outer P w H s Q u s'
 | .ok _ => False
 | .error e => CX outer H s E e s'
structure FnOk (P : Program) (w : World) (K : PySem.W.Frag) (mg : Str → Option Value) (base : Heap) (CX : CXT) (k : Nat) (f : Addr) (fd : FuncData) (ps : List Str) (sp : Sp) : Prop where
 len : ∀ vs H Q E, sp vs H Q E → vs.length = ps.length
 run : ∀ (A : Around) (outer : List Env) (s : Shared) (H : Hp) (args : Args) (us : List Value) (vs : List V) (Q : VK) (E : XK), Room k A → Env0 P w K mg base A outer s H → BindsTo s fd args (ps.zip us) → Vals vs us → sp vs H Q E →
  codeAny (model P w) A (.call (.ref f) args) (CR CX outer P w H s Q E) s
section
variable {X : Cx} {pins : List (Addr × Obj)} {σ : St} {H : Hp} {s s' : Shared}
theorem Inv.env0 (I : Inv X pins σ H s) : Env0 X.prog X.w X.K X.mg X.base X.A X.stack s H :=
 ⟨I.ok.frames, I.ok.mod, I.bs, Nat.le_trans I.ok.bsz I.sz, I.stack, I.stkFree, I.hok, I.bare⟩
theorem Inv.after {Q : VK} {u : Value} (I : Inv X pins σ H s) (h : CE X.stack X.prog X.w H s Q u s') : EP X pins σ Q u s' := by
 obtain ⟨v, H', os, bare, un, hok, r, q⟩ := h
 obtain ⟨hh, g, d, t, os'⟩ := s'
 obtain rfl : os' = s.os := os
 exact ⟨v, H', I.call (h' := hh) (g' := g) (d' := d) (t' := t) (ch := []) un hok bare (fun b z => absurd z (by simp)), r, q⟩
end
def tCall (sp : Sp) (dvs : List V) (E : XK) (t : TA) : TE := fun σ H Q => t σ H fun vs H1 => sp (vs ++ dvs) H1 Q E
def Binds (K : PySem.W.Frag) (fd : FuncData) (ps : List Str) (ds : List Value) : Prop :=
 ∀ (s : Shared) (us : List Value), K.In s.heap → (us ++ ds).length = ps.length → BindsTo s fd ⟨us, []⟩ (ps.zip (us ++ ds))
theorem Binds.all {K : PySem.W.Frag} {fd : FuncData} {ps : List Str} (h : ∀ us : List Value, us.length = ps.length → bindArgs fd ⟨us, []⟩ = pure (ps.zip us)) : Binds K fd ps [] := fun s us _ hl => by
 rw [List.append_nil] at hl ⊢
 exact .of_eq (h us hl)
def Passes (CX : CXT) (X : Cx) (E : XK) : Prop := ∀ (pins : List (Addr × Obj)) (σ : St) (H : Hp) (s : Shared) (e : Value) (s' : Shared), Inv X pins σ H s → CX X.stack H s E e s' → X.xe e s'
section
variable {X : Cx} {CX : CXT} {k : Nat} {f C : Addr} {fd : FuncData} {ps : List Str} {sp : Sp} {dvs : List V} {ds : List Value} {E : XK} {x m : Str} {p pos apos : Pos} {e o : Expr} {es : List Expr} {ta : TE} {t : TA}
theorem run_fn {pins : List (Addr × Obj)} {σ : St} {H : Hp} {s : Shared} {Q : VK} {us : List Value} {vs : List V} (F : FnOk X.prog X.w X.K X.mg X.base CX k f fd ps sp) (hr : Room k X.A) (hb : Binds X.K fd ps ds) (hd : Vals dvs ds) (hx : Passes CX X E)
  (I : Inv X pins σ H s) (r : Vals vs us) (h : sp (vs ++ dvs) H Q E) : wpAny (model X.prog X.w) X.A (call (.ref f) us) (EP X pins σ Q) X.xe s := by
 have r2 : Vals (vs ++ dvs) (us ++ ds) := r.append hd
 have hl : (us ++ ds).length = ps.length := by rw [← r2.length]; exact F.len _ _ _ _ h
 refine wpAny_call (codeAny_mono (F.run X.A X.stack s H ⟨us, []⟩ (us ++ ds) (vs ++ dvs) Q E hr I.env0 (hb s us I.kIn hl) r2 h) fun r s' hq => ?_)
 cases r with
 | error e => exact hx pins σ H s e s' I hq
 | ok fl =>
  cases fl with
  | ret u => exact I.after hq
  | next => exact False.elim hq
  | brk => exact False.elim hq
  | cont => exact False.elim hq
theorem pe_call (F : FnOk X.prog X.w X.K X.mg X.base CX k f fd ps sp) (hr : Room k X.A) (hg : Gl X x) (hm : X.mg x = some (.ref f)) (hk : PySem.W.keepIn X.K (.ref f) = true) (hb : Binds X.K fd ps ds) (hd : Vals dvs ds) (hx : Passes CX X E)
  (ha : PA X (e :: es) t) (hdb : (x == ("__debug__" : Str)) = false := by decide) (he : starEach (e :: es) X.env = (false, eval e X.env) :: starEach es X.env := by rfl) (hpl : (backTo pos (starEach es X.env)).any (·.1) = false := by rfl) :
  PE X (.Call (.Name x p) (e :: es) [] pos) (tCall sp dvs E t) := by
 intro pins s σ H Q I h
 refine wpAny_Call_Name_kw (ld_glob I hg hm ?_ hdb)
 refine PySem.W.callWith_K (h₀ := X.base) I.ok.mod.kin hk (thn (ha pos pins s σ H _ I h) fun us s1 ⟨vs, H1, I1, r, q⟩ => ⟨I1.kIn, ?_⟩) he hpl
 exact run_fn F hr hb hd hx I1 r q
end
structure FnScope (N P : List Str) (sc : Scope) : Prop where
 kind : sc.kind = .function
 co : sc.isCoroutine = false
 gen : sc.isGenerator = false
 nd : N.Nodup
 pre : N.take P.length = P
 par : ∀ x ∈ P, sc.names.lookup x = some .local ∨ sc.names.lookup x = some .cell
 nofree : ∀ y ∈ sc.names, y.2 ≠ .free
theorem bindL_out {kindOf : Str → Option NameKind} {x : Str} : ∀ {binds : List (Str × Value)} {m : Str → Option Value}, (∀ v, (x, v) ∉ binds) → bindL kindOf binds m x = m x
 | [], _, _ => rfl
 | (n, v) :: r, m, h => by
  unfold bindL
  rw [bindL_out fun w hw => h w (List.mem_cons_of_mem _ hw)]
  split
  ·have : x ≠ n := by rintro rfl; exact h v List.mem_cons_self
   simp [this]
  ·rfl
theorem bindC_out {kindOf : Str → Option NameKind} {x : Str} : ∀ {binds : List (Str × Value)} {m : Str → Option Value}, (∀ v, (x, v) ∉ binds) → bindC kindOf binds m x = m x
 | [], _, _ => rfl
 | (n, v) :: r, m, h => by
  unfold bindC
  rw [bindC_out fun w hw => h w (List.mem_cons_of_mem _ hw)]
  split
  ·rfl
  ·have : x ≠ n := by rintro rfl; exact h v List.mem_cons_self
   simp [this]
theorem bindL_get {kindOf : Str → Option NameKind} {x : Str} {v : Value} : ∀ {P : List Str} {vs : List Value} {i : Nat} {m : Str → Option Value}, P.Nodup → P[i]? = some x → vs[i]? = some v → kindOf x = some .local →
  bindL kindOf (P.zip vs) m x = some v
 | [], _, _, _, _, h, _, _ => by simp at h
 | _ :: _, [], _, _, _, _, h, _ => by simp at h
 | p :: P, w :: vs, 0, m, nd, h1, h2, hk => by
  simp at h1 h2; subst h1; subst h2
  show bindL kindOf ((p, w) :: P.zip vs) m p = _
  unfold bindL
  rw [bindL_out fun v hv => (List.nodup_cons.mp nd).1 (List.of_mem_zip hv).1, if_pos hk]
  simp
 | p :: P, w :: vs, i + 1, m, nd, h1, h2, hk => by
  show bindL kindOf ((p, w) :: P.zip vs) m x = _
  unfold bindL
  exact bindL_get (i := i) (List.nodup_cons.mp nd).2 (by simpa using h1) (by simpa using h2) hk
theorem bindC_get {kindOf : Str → Option NameKind} {x : Str} {v : Value} : ∀ {P : List Str} {vs : List Value} {i : Nat} {m : Str → Option Value}, P.Nodup → P[i]? = some x → vs[i]? = some v → kindOf x ≠ some .local →
  bindC kindOf (P.zip vs) m x = some v
 | [], _, _, _, _, h, _, _ => by simp at h
 | _ :: _, [], _, _, _, _, h, _ => by simp at h
 | p :: P, w :: vs, 0, m, nd, h1, h2, hk => by
  simp at h1 h2; subst h1; subst h2
  show bindC kindOf ((p, w) :: P.zip vs) m p = _
  unfold bindC
  rw [bindC_out fun v hv => (List.nodup_cons.mp nd).1 (List.of_mem_zip hv).1, if_neg hk]
  simp
 | p :: P, w :: vs, i + 1, m, nd, h1, h2, hk => by
  show bindC kindOf ((p, w) :: P.zip vs) m x = _
  unfold bindC
  exact bindC_get (i := i) (List.nodup_cons.mp nd).2 (by simpa using h1) (by simpa using h2) hk
def start (N : List Str) (vs : List V) : St := vs.map some ++ List.replicate (N.length - vs.length) none
def cxOf (CX : CXT) (P : Program) (w : World) (K : PySem.W.Frag) (mg : Str → Option Value) (base : Heap) (N : List Str) (qual : Str) (scope : Scope) (f : Addr) (cd : Value) (A : Around) (outer : List Env) (s : Shared) (H : Hp) (E : XK) : Cx where
 prog := P
 w := w
 K := K
 mg := mg
 base := base
 A := A.deeper (envOfC qual scope s.heap.objs.size f cd)
 N := N
 s₀ := s
 H₀ := H
 env := envOfC qual scope s.heap.objs.size f cd
 outer := outer
 stack := envOfC qual scope s.heap.objs.size f cd :: outer
 ex := []
 calm := true
 fn := fun _ => true
 pn := []
 xe := fun e s' => wpAny (model P w) (A.deeper (envOfC qual scope s.heap.objs.size f cd)) (leaving (envOfC qual scope s.heap.objs.size f cd) e) (fun _ s'' => CX outer H s E e s'') (fun e' s'' => CX outer H s E e' s'') s'
theorem cell_has {sc : Scope} {n : Nat} {x : Str} (h : sc.names.lookup x = some .cell) : ∃ c, (cellsFrom n sc.names []).lookup x = some c := by
 have q := PySem.W.cellsFrom_some sc.names n [] (.inl h)
 exact Option.isSome_iff_exists.mp q
theorem inv_start {CX : CXT} {P : Program} {w : World} {K : PySem.W.Frag} {mg : Str → Option Value} {base : Heap} {N ps : List Str} {qual : Str} {scope : Scope} {f : Addr} {cd : Value} {A : Around} {outer : List Env} {s s1 : Shared} {H : Hp} {E : XK} {us : List Value} {vs : List V}
  (S : FnScope N ps scope) (hd : A.handled = none) (e0 : Env0 P w K mg base A outer s H) (hl : vs.length = ps.length) (r : Vals vs us)
  (x : InCallC s s.heap.objs.size (bindL (envOfC qual scope s.heap.objs.size f cd).kindOf (ps.zip us) fun _ => none) (cellsFrom (s.heap.objs.size + 1) scope.names []) (bindC (envOfC qual scope s.heap.objs.size f cd).kindOf (ps.zip us) fun _ => none) s1) :
  Inv (cxOf CX P w K mg base N qual scope f cd A outer s H E) [] (start N vs) H s1 := by
 have hpl : ps.length ≤ N.length := by have := congrArg List.length S.pre; rw [List.length_take] at this; omega
 obtain ⟨h1, tk, rfl, hk⟩ := x.done
 have noA : ∀ b : Addr, b ∉ (cxOf CX P w K mg base N qual scope f cd A outer s H E).ex := fun b z => absurd (show b ∈ ([] : List Addr) from z) (by simp)
 refine ⟨⟨e0.mod, S.kind, rfl, rfl, Nat.le_refl _, fun y z c h1 h2 => ?_, fun y hy => ?_, fun y c _ h => ?_, fun _ => hd, Around.frames_deeper e0.frames, .inr ⟨rfl, rfl⟩, fun b z => absurd z (noA b), e0.bs, e0.bsz, fun b _ _ => noA b, fun b z => absurd z (noA b), e0.funs, e0.frf⟩,
  rfl, e0.bare, Un.kept hk, ⟨_, x.toInCall.ns, fun i y v h1 h2 h3 => ?_⟩, fun y c h => ⟨_, x.cell y c h⟩, e0.hok.fresh (Nat.le_refl _), fun y c h => ?_, fun p hp => absurd (show p ∈ ([] : List (Addr × Obj)) from hp) (by simp), e0.hok.kept hk, ?_⟩
 ·exact name_of_addr x.apart (PySem.mem_of_lookup h1) (PySem.mem_of_lookup h2)
 ·have hy : scope.names.lookup y = some .cell ∨ scope.names.lookup y = some .free := hy
  rcases hy with hy | hy
  ·exact cell_has hy
  ·exact absurd rfl (S.nofree _ (PySem.mem_of_lookup hy))
 ·exact Nat.le_of_lt (x.above y c (PySem.mem_of_lookup h))
 ·have hi : i < vs.length := by
   unfold start at h2
   by_cases hi : i < vs.length
   ·exact hi
   ·rw [List.getElem?_append_right (by simpa using hi)] at h2
    rw [List.getElem?_replicate] at h2
    split at h2 <;> cases h2
  have ha : vs[i]? = some v := by
   unfold start at h2
   rw [List.getElem?_append_left (by simpa using hi), List.getElem?_map] at h2
   cases e : vs[i]? with
   | none => rw [e] at h2; cases h2
   | some a => rw [e] at h2; cases h2; rfl
  obtain ⟨u, hu, rv⟩ := r.get ha
  have hp : ps[i]? = some y := by
   rw [← S.pre, List.getElem?_take_of_lt (by omega)]; exact h1
  have ndP : ps.Nodup := by rw [← S.pre]; exact S.nd.sublist (List.take_sublist _ _)
  refine ⟨u, rv, ?_⟩
  rcases S.par y (List.mem_of_getElem? hp) with k | k
  ·exact .inl ⟨k, bindL_get ndP hp hu k⟩
  ·obtain ⟨c, e⟩ := cell_has (n := s.heap.objs.size + 1) k
   refine .inr ⟨.inl k, c, e, ?_⟩
   have q := x.cell y c e
   rw [bindC_get ndP hp hu (by show scope.names.lookup y ≠ _; rw [k]; decide)] at q
   exact q
 ·exact e0.hok.fresh (Nat.le_of_lt (x.above y c (PySem.mem_of_lookup h)))
 ·unfold start
  show _ = N.length
  rw [List.length_append, List.length_map, List.length_replicate]
  omega
theorem fn_of {CX : CXT} {P : Program} {w : World} {K : PySem.W.Frag} {mg : Str → Option Value} {base : Heap} {k : Nat} {f : Addr} {name qual : Str} {params : Arguments} {body : List Stmt} {scope : Scope} {dV kV doc pm cdv ct oc : Value} {an od : Option Addr}
  {osl : Array (Option Value)} {N ps : List Str} {sp : Sp} (lk : K.lookup f = some ⟨oc, od, .func (PySem.W.fnOf name qual params body scope dV kV doc pm an cdv ct), osl⟩) (hcd : PySem.W.codeIn K cdv qual = true) (S : FnScope N ps scope)
  (len : ∀ vs H Q E, sp vs H Q E → vs.length = ps.length)
  (hbody : ∀ (A : Around) (outer : List Env) (s : Shared) (H : Hp) (vs : List V) (Q : VK) (E : XK), Room k (A.deeper (envOfC qual scope s.heap.objs.size f cdv)) → sp vs H Q E →
   ∃ t, PSs (cxOf CX P w K mg base N qual scope f cdv A outer s H E) body t ∧ t { nx := fun _ H' => Q .non H', rt := Q } (start N vs) H) :
  FnOk P w K mg base CX (k + 1) f (PySem.W.fnOf name qual params body scope dV kV doc pm an cdv ct) ps sp := by
 refine ⟨len, fun A outer s H args us vs Q E hr e0 hb r hsp => ?_⟩
 have hl := len _ _ _ _ hsp
 have KX : K.In s.heap := e0.mod.kin.keeps fun b o e => (e0.bs b o e).1
 have lim : s.heap.NoLimit := e0.mod.nolimit.keeps fun b o e => (e0.bs b o e).1
 have hkind : ∀ y ∈ ps.zip us, scope.names.lookup y.1 = some .local ∨ (scope.names.lookup y.1 = some .cell ∧ ((cellsFrom (s.heap.objs.size + 1) scope.names []).lookup y.1).isSome = true) := fun ⟨n, v⟩ hy => by
  rcases S.par n (List.of_mem_zip hy).1 with q | q
  ·exact .inl q
  ·exact .inr ⟨q, PySem.W.cellsFrom_some _ _ _ (.inl q)⟩
 refine codeAny_call_function hr.depth (KX _ _ lk) rfl S.co S.gen rfl (PySem.W.codeRec_of KX hcd) (hb _ _ _ _ ?_)
 refine wpAny_newFunctionEnv_cells S.kind hkind fun env he s1 x => ?_
 subst he
 refine ⟨lim.keeps x.toInCall.keep, codeAny_func ?_⟩
 obtain ⟨t, ht, hq⟩ := hbody A outer s H vs Q E (hr.deeper _) hsp
 have I : Inv (cxOf CX P w K mg base N qual scope f cdv A outer s H E) [] (start N vs) H s1 := inv_start S hr.hd e0 hl r x
 refine wpAny_mono (ht [] s1 (start N vs) H _ I hq) (fun fl s' hs => ?_) fun e s' hs => hs
 have fin : ∀ {σ' : St} {H' : Hp} {v : V} {u : Value}, Inv (cxOf CX P w K mg base N qual scope f cdv A outer s H E) [] σ' H' s' → RelV v u → Q v H' → CE outer P w H s Q u s' :=
  fun {σ' H' v u} J rv q => ⟨v, H', J.os, J.bare, J.base, J.hok, rv, q⟩
 cases fl with
 | ret u =>
  obtain ⟨v, σ', H', J, rv, q⟩ := hs
  exact fin J rv q
 | next =>
  obtain ⟨σ', H', J, q⟩ := hs
  exact fin (v := V.non) (u := Value.none) J rfl q
 | brk =>
  obtain ⟨_, _, _, q⟩ := hs
  exact False.elim q
 | cont =>
  obtain ⟨_, _, _, q⟩ := hs
  exact False.elim q
section
variable {X : Cx} {x : Str} {p pos : Pos} {e : Expr} {es : List Expr} {t : TA} {id T : String} {r : List V → Hp → VK → Prop}
def tCB (r : List V → Hp → VK → Prop) (t : TA) : TE := fun σ H Q => t σ H fun vs H1 => r vs H1 Q
theorem pe_callB (hc : CallR X (.builtin id) r) (hg : Gl X x) (hm : X.mg x = none) (hv : bootBuiltins x = some (.builtin id)) (ha : PA X (e :: es) t) (hn : x ≠ "__name__" := by decide) (hdb : (x == ("__debug__" : Str)) = false := by decide)
  (he : starEach (e :: es) X.env = (false, eval e X.env) :: starEach es X.env := by rfl) (hpl : (backTo pos (starEach es X.env)).any (·.1) = false := by rfl) : PE X (.Call (.Name x p) (e :: es) [] pos) (tCB r t) := by
 intro pins s σ H Q I h
 refine wpAny_Call_Name_kw (ld_blt I hg hm hv ?_ hn hdb)
 exact PyProof.Rows.callWith_builtin1 (thn (ha pos pins s σ H _ I h) fun us s1 ⟨vs, H1, I1, r1, q1⟩ => hc pins s1 σ H1 vs us Q I1 r1 q1) he hpl
theorem pe_callTy (hc : CallR X (.type T) r) (hg : Gl X x) (hm : X.mg x = none) (hv : bootBuiltins x = some (.type T)) (ha : PA X (e :: es) t) (hn : x ≠ "__name__" := by decide) (hdb : (x == ("__debug__" : Str)) = false := by decide)
  (he : starEach (e :: es) X.env = (false, eval e X.env) :: starEach es X.env := by rfl) (hpl : (backTo pos (starEach es X.env)).any (·.1) = false := by rfl) : PE X (.Call (.Name x p) (e :: es) [] pos) (tCB r t) := by
 intro pins s σ H Q I h
 refine wpAny_Call_Name_kw (ld_blt I hg hm hv ?_ hn hdb)
 exact PyProof.Rows.callWith_type1 (thn (ha pos pins s σ H _ I h) fun us s1 ⟨vs, H1, I1, r1, q1⟩ => hc pins s1 σ H1 vs us Q I1 r1 q1) he hpl
end
end L2
namespace HT
open PySem PyProof.Rows
section
variable {prog : Program} {w : World} {A : Around} {E : Value → Shared → Prop} {s : Shared}
theorem cat_tup {t b : Addr} {vs ws : List Value} {Q : Value → Shared → Prop} (ht : IsTup s.heap t vs.toArray) (hb : IsTup s.heap b ws.toArray) (hv : vs ≠ [])
  (h1 : ws = [] → Q (.ref t) s) (h2 : ws ≠ [] → Q (.ref s.heap.objs.size) { s with heap := s.heap.push { cls := .type "tuple", data := .seq (vs ++ ws).toArray } })
  (hsz : vs.length + ws.length ≤ sizeLine) : wpAny (model prog w) A (binaryOp .Add (.ref t) (.ref b)) Q E s := by
 obtain ⟨⟨cls, dd, data, sl⟩, ho, hc, n, hd⟩ := id ht
 obtain ⟨⟨cls2, dd2, data2, sl2⟩, ho2, hc2, n2, hd2⟩ := id hb
 simp only at hc hd hc2 hd2
 subst hc hd hc2 hd2
 have e : vs.toArray ++ ws.toArray = (vs ++ ws).toArray := by simp
 by_cases hw : ws = []
 ·exact concat_meets ⟨_, ho, rfl⟩ ⟨_, ho2, rfl⟩ noFill_tuple_add seq_tuple_add PySem.F.slot_tuple_add PySem.F.entry_tuple_add (PySem.F.args_tuple_add_2 _ _)
   (tuple_addW1 t b vs.toArray ws.toArray n n2 dd dd2 sl sl2 (by simpa using hv) (by simp [hw])) ⟨ho, ho2, h1 hw⟩
 ·refine concat_meets ⟨_, ho, rfl⟩ ⟨_, ho2, rfl⟩ noFill_tuple_add seq_tuple_add PySem.F.slot_tuple_add PySem.F.entry_tuple_add (PySem.F.args_tuple_add_2 _ _)
   (tuple_addW2 t b vs.toArray ws.toArray n n2 dd dd2 sl sl2 (by simpa using hv) (by simpa using hw) (by rw [List.size_toArray, List.size_toArray]; exact hsz)) ⟨ho, ho2, ?_⟩
  rw [e]
  exact h2 hw
def sIx (n d : Nat) : Option Int → Nat
 | none => d
 | some v => if v < 0 then (v + (n : Int)).toNat else min v.toNat n
theorem sIx_none (n d : Nat) : sIx n d none = d := rfl
theorem sIx_nat (n d k : Nat) : sIx n d (some (k : Int)) = min k n := by
 show (if (k : Int) < 0 then ((k : Int) + (n : Int)).toNat else min (k : Int).toNat n) = min k n
 rw [if_neg (by omega), Int.toNat_natCast]
theorem sIx_le (n d : Nat) (hd : d ≤ n) (o : Option Int) : sIx n d o ≤ n := by
 cases o with
 | none => exact hd
 | some v =>
  show (if v < 0 then (v + (n : Int)).toNat else min v.toNat n) ≤ n
  by_cases hv : v < 0
  ·rw [if_pos hv]; omega
  ·rw [if_neg hv]; exact Nat.min_le_right _ _
theorem clip_eq (v : Int) (n d : Nat) : (if v < 0 then max (v + (n : Int)) 0 else min v (n : Int)) = ((sIx n d (some v) : Nat) : Int) := by
 show (if v < 0 then max (v + (n : Int)) 0 else min v (n : Int)) = (((if v < 0 then (v + (n : Int)).toNat else min v.toNat n) : Nat) : Int)
 by_cases hv : v < 0
 ·simp only [if_pos hv]; omega
 ·simp only [if_neg hv]; omega
theorem adjust_gen (lo hi : Option Int) (n : Nat) : Builtin.Slice.sliceAdjust lo hi 1 (n : Int) = (((sIx n 0 lo : Nat) : Int), ((sIx n n hi : Nat) : Int)) := by
 have h1 : ¬ ((1 : Int) < 0) := by omega
 unfold Builtin.Slice.sliceAdjust
 simp only [h1, if_false]
 refine Prod.ext ?_ ?_
 ·cases lo with
  | none => rfl
  | some v => exact clip_eq v n 0
 ·cases hi with
  | none => rfl
  | some v => exact clip_eq v n n
theorem places_gen (i j : Nat) : Builtin.Slice.slicePlaces (i : Int) (j : Int) 1 = j - i := by
 unfold Builtin.Slice.slicePlaces
 have h1 : (1 : Int) > 0 := by omega
 simp only [h1, if_true, Int.ediv_one]
 split <;> omega
theorem slicePart_ {v : Value} {o : Option Int} {Q : Option Int → Shared → Prop} (p : IsPart v o) (h : Q o s) : wpAny (model prog w) A (Builtin.Slice.slicePartIndex v) Q E s := by
 cases p with
 | none => exact slicePart_none h
 | int i t => exact slicePart_int h
theorem sliceApplied_gen {sl : Addr} {vl vu : Value} {lo hi : Option Int} {n : Nat} {Q : Int × Int × Nat → Shared → Prop} (hs : s.heap.IsSliceOf sl vl vu .none) (pl : IsPart vl lo) (pu : IsPart vu hi)
  (h : Q (((sIx n 0 lo : Nat) : Int), 1, sIx n n hi - sIx n 0 lo) s) : wpAny (model prog w) A (Builtin.Slice.sliceApplied (.ref sl) (pure (n : Int))) Q E s := by
 obtain ⟨os, hos, hcs, hds⟩ := id hs
 unfold Builtin.Slice.sliceApplied Builtin.Slice.sliceFields
 refine wpAny_bind (wpAny_bind (wpAny_field hos hds (x := vl) rfl (wpAny_bind (wpAny_field hos hds (x := vu) rfl (wpAny_bind (wpAny_field hos hds (x := .none) rfl (wpAny_pure ?_)))))))
 refine wpAny_bind (slicePart_none ?_)
 show wpAny _ _ (if ((1 : Int) == 0) = true then _ else _) _ _ s
 rw [if_neg (by decide)]
 refine wpAny_bind (slicePart_ pl (wpAny_bind (slicePart_ pu (wpAny_bind (wpAny_pure ?_)))))
 show wpAny _ _ (match Builtin.Slice.sliceAdjust lo hi 1 (n : Int) with | (lo, hi) => pure (lo, (1 : Int), Builtin.Slice.slicePlaces lo hi 1)) _ _ s
 rw [adjust_gen lo hi n]
 show wpAny _ _ (pure (((sIx n 0 lo : Nat) : Int), (1 : Int), Builtin.Slice.slicePlaces ((sIx n 0 lo : Nat) : Int) ((sIx n n hi : Nat) : Int) 1)) _ _ s
 rw [places_gen]
 exact wpAny_pure h
theorem pick_gen (xs : Array Value) (i k : Nat) : ((List.range k).filterMap fun (m : Nat) => xs[((i : Int) + (m : Int) * 1).toNat]?).toArray = ((xs.toList.drop i).take k).toArray := by
 have e : (fun (m : Nat) => xs[((i : Int) + (m : Int) * 1).toNat]?) = fun m => xs[i + m]? := by
  funext m
  have : ((i : Int) + (m : Int) * 1).toNat = i + m := by omega
  rw [this]
 rw [e]
 have := pick_run xs i k
 rw [List.filterMap_map] at this
 have e2 : ((fun x => xs[x]?) ∘ fun x => i + x) = fun m => xs[i + m]? := rfl
 rw [e2] at this
 rw [this]
theorem getItem_tuple_cut {t sl : Addr} {items : Array Value} {vl vu : Value} {lo hi : Option Int} {Q : Value → Shared → Prop} (ht : IsTup s.heap t items) (hs : s.heap.IsSliceOf sl vl vu .none) (pl : IsPart vl lo) (pu : IsPart vu hi)
  (hw : ¬ (sIx items.size 0 lo = 0 ∧ sIx items.size items.size hi = items.size))
  (h : Q (.ref s.heap.objs.size) { s with heap := s.heap.push { cls := .type "tuple", data := .seq ((items.toList.drop (sIx items.size 0 lo)).take (sIx items.size items.size hi - sIx items.size 0 lo)).toArray } })
  (hsz : items.size ≤ sizeLine) : wpAny (model prog w) A (getItem (.ref t) (.ref sl)) Q E s := by
 have htake : sizeOk (.seq ((items.toList.drop (sIx items.size 0 lo)).take (sIx items.size items.size hi - sIx items.size 0 lo)).toArray) := by
  show ((items.toList.drop (sIx items.size 0 lo)).take (sIx items.size items.size hi - sIx items.size 0 lo)).toArray.size ≤ sizeLine
  rw [List.size_toArray, List.length_take, List.length_drop, Array.length_toList]
  omega
 have hj : sIx items.size items.size hi ≤ items.size := sIx_le _ _ (Nat.le_refl _) hi
 obtain ⟨os, hos, hcs, hds⟩ := id hs
 have hTs : s.TypeIs (.ref sl) "slice" := ⟨os, hos, hcs⟩
 unfold getItem
 try with_reducible refine wpAny_holding ?_
 first | refine wpAny_bind (wpAny_pure ?_) | skip
 refine wpAny_bind (wpAny_sequenceKey ht.typeIs (by decide) ?_)
 refine wpAny_bind (wpAny_callSpecial?_slot (name := Str.ofString "__getitem__") ht.typeIs PyProof.Rows.slot_tuple_getitem
  (wpAny_call_entry PyProof.Rows.slot_tuple_getitem ht.typeIs entry_tuple_getitem ?_ (args_tuple_getitem _ _)))
 show wpAny _ _ (Builtin.Tuple.tupleItemsOf (.ref t) >>= _) _ _ s
 refine wpAny_bind (tupleItemsOf_ ht ?_)
 refine wpAny_bind (wpAny_typeOf hTs ?_)
 rw [if_pos (by decide)]
 refine wpAny_bind (sliceApplied_gen hs pl pu ?_)
 have hno : ¬ ((((sIx items.size 0 lo : Nat) : Int) == 0 && (1 : Int) == 1 && (sIx items.size items.size hi - sIx items.size 0 lo) == items.size) = true) := by
  intro q
  rw [Bool.and_eq_true, Bool.and_eq_true] at q
  have q1 : ((sIx items.size 0 lo : Nat) : Int) = 0 := eq_of_beq q.1.1
  have q2 : sIx items.size items.size hi - sIx items.size 0 lo = items.size := eq_of_beq q.2
  exact hw ⟨by omega, by omega⟩
 show wpAny _ _ (if (((sIx items.size 0 lo : Nat) : Int) == 0 && (1 : Int) == 1 && (sIx items.size items.size hi - sIx items.size 0 lo) == items.size) = true then _ else _) _ _ s
 rw [if_neg hno, pick_gen]
 first
  | exact wpAny_bind (m := Builtin.Tuple.tupleExact _) (wpAny_newObj_type (wpAny_pure ⟨_, rfl, wpAny_pure h⟩) htake)
  | exact wpAny_bind (m := Builtin.Tuple.tupleExact _) (wpAny_newObj_type (wpAny_bind (wpAny_pure (wpAny_pure ⟨_, rfl, wpAny_pure h⟩))) htake)
  | exact wpAny_bind (wpAny_bind (m := Builtin.Tuple.tupleExact _) (wpAny_newObj_type (wpAny_pure (wpAny_pure ⟨_, rfl, wpAny_pure h⟩)) htake))
  | exact wpAny_bind (wpAny_bind (m := Builtin.Tuple.tupleExact _) (wpAny_newObj_type (wpAny_pure ⟨_, rfl, wpAny_pure h⟩) htake))
end
end HT
namespace L2
open PySem PySem.Spec PyProof.Rows
abbrev TO := St → Hp → (Option Int → Hp → Prop) → Prop
def PO (X : Cx) (e : Option Expr) (t : TO) : Prop :=
 ∀ (pins : List (Addr × Obj)) (s : Shared) (σ : St) (H : Hp) (Q : Option Int → Hp → Prop), Inv X pins σ H s → t σ H Q →
  wpAny (model X.prog X.w) X.A (evalPart e X.env) (fun u s' => ∃ o H', Inv X pins σ H' s' ∧ IsPart u o ∧ Q o H') X.xe s
def tNoPart : TO := fun _ H Q => Q none H
def tPart (t : TE) : TO := fun σ H Q => t σ H fun x H1 => ∃ i, x = .int i ∧ Q (some i) H1
theorem intsAre_of {ns : List Int} : ∀ {us : List Value}, Vals (ns.map V.int) us → IntsAre us ns := by
 induction ns with
 | nil => intro us r; rw [List.map_nil] at r; cases r; exact .nil
 | cons n ns ih =>
  intro us r
  rw [List.map_cons] at r
  cases r with
  | cons r1 r2 =>
   obtain ⟨t, e⟩ := r1
   subst e
   exact .cons n t (ih r2)
section
variable {X : Cx} {e : Expr} {te : TE} {lo hi : Option Expr} {tl th : TO} {pos p2 : Pos}
theorem po_none : PO X none tNoPart := by
 intro pins s σ H Q I h
 rw [evalPart_none]
 exact wpAny_pure ⟨none, H, I, .none, h⟩
theorem po_some (h : PE X e te) : PO X (some e) (tPart te) := by
 intro pins s σ H Q I hw
 rw [evalPart_some]
 refine thn (h pins s σ H _ I hw) fun u s1 ⟨x, H1, I1, r1, q1⟩ => ?_
 obtain ⟨i, rfl, q⟩ := q1
 obtain ⟨t, rfl⟩ := r1
 exact ⟨some i, H1, I1, .int i t, q⟩
def SlR (X : Cx) (r : V → Option Int → Option Int → Hp → VK → Prop) : Prop :=
 ∀ (pins : List (Addr × Obj)) (s : Shared) (σ : St) (H : Hp) (x : V) (v vl vu : Value) (lo hi : Option Int) (sl : Addr) (Q : VK), Inv X pins σ H s → RelV x v → s.heap.IsSliceOf sl vl vu .none → IsPart vl lo → IsPart vu hi → r x lo hi H Q →
  ∃ T id, typeLookup (.type T) "__getitem__" = pure (some (.builtin id)) ∧ s.TypeIs v T ∧ wpAny (model X.prog X.w) X.A (getItem v (.ref sl)) (EP X pins σ Q) X.xe s
def tSl (r : V → Option Int → Option Int → Hp → VK → Prop) (te : TE) (tl th : TO) : TE := fun σ H Q => te σ H fun x H1 => tl σ H1 fun l H2 => th σ H2 fun u H3 => r x l u H3 Q
theorem pe_slice {r : V → Option Int → Option Int → Hp → VK → Prop} (hr : SlR X r) (he : PE X e te) (hl : PO X lo tl) (hu : PO X hi th) : PE X (.Subscript e (.Slice lo hi none p2) pos) (tSl r te tl th) := by
 intro pins s σ H Q I h
 refine Subscript_ (thn (he pins s σ H _ I h) fun v s1 ⟨x, H1, I1, r1, q1⟩ => ?_)
 refine wpAny_Slice (thn (hl pins s1 σ H1 _ I1 q1) fun vl s2 ⟨l, H2, I2, pl, q2⟩ => thn (hu pins s2 σ H2 _ I2 q2) fun vu s3 ⟨u, H3, I3, pu, q3⟩ => ?_)
 rw [evalPart_none]
 refine wpAny_pure ?_
 have I4 : Inv X pins σ H3 { s3 with heap := s3.heap.push { cls := .type "slice", data := .fields #[vl, vu, .none] } } := I3.kept (t' := s3.toks) fun b ob q => Heap.get?_push_of_some _ q
 obtain ⟨T, id, hT, ht, hg⟩ := hr pins { s3 with heap := s3.heap.push { cls := .type "slice", data := .fields #[vl, vu, .none] } } σ H3 x v vl vu l u s3.heap.objs.size Q I4 r1 (Heap.IsSliceOf.new ..) pl pu q3
 show wpAny (model X.prog X.w) X.A (subscriptTail e (.Slice lo hi none p2) v (.ref s3.heap.objs.size)) (EP X pins σ Q) X.xe { s3 with heap := s3.heap.push { cls := .type "slice", data := .fields #[vl, vu, .none] } }
 exact tail_any (ops := [.ref s3.heap.objs.size, v]) ht hT hg (by with_unfolding_all rfl)
def cutV (xs : List V) (lo hi : Option Int) : List V := (xs.drop (HT.sIx xs.length 0 lo)).take (HT.sIx xs.length xs.length hi - HT.sIx xs.length 0 lo)
theorem cutV_length (xs : List V) (lo hi : Option Int) : (cutV xs lo hi).length ≤ xs.length := by
 unfold cutV
 rw [List.length_take, List.length_drop]
 omega
def rSlT (K : PySem.W.Frag) : V → Option Int → Option Int → Hp → VK → Prop := fun x lo hi H Q => ∃ a xs, x = .ref a ∧ SqT K H a xs ∧
 ¬ (HT.sIx xs.length 0 lo = 0 ∧ HT.sIx xs.length xs.length hi = xs.length) ∧ ∀ p, H p = none → Q (.ref p) (upd H p (.tup (cutV xs lo hi)))
theorem sl_tup : SlR X (rSlT X.K) := by
 intro pins s σ H x v vl vu lo hi sl Q I rx hs pl pu h
 obtain ⟨a, xs, rfl, hx, hw, q⟩ := h
 cases rx
 obtain ⟨its, r, ht, hz⟩ := I.tuple hx
 have hlen : its.toArray.size = xs.length := by rw [List.size_toArray]; exact r.length.symm
 refine ⟨"tuple", _, PyProof.Rows.slot_tuple_getitem.lookup, ht.typeIs, ?_⟩
 refine HT.getItem_tuple_cut ht hs pl pu (by rw [hlen]; exact hw) ?_ (by rw [hlen]; exact hz)
 rw [hlen]
 refine ⟨.ref s.heap.objs.size, _, I.laid (t' := s.toks) (o := .tup (cutV xs lo hi)) (fun b ob q => Heap.get?_push_of_some _ q) (Nat.le_refl _) ?_, rfl, q _ (I.hok.fresh (Nat.le_refl _))⟩
 exact ⟨Nat.le_trans (cutV_length xs lo hi) hz, _, (r.drop (HT.sIx xs.length 0 lo)).take (HT.sIx xs.length xs.length hi - HT.sIx xs.length 0 lo), PlainT.new _ _⟩
def rCatT (K : PySem.W.Frag) : R2 := fun x y H Q => ∃ a b xs ys, x = .ref a ∧ y = .ref b ∧ SqT K H a xs ∧ SqT K H b ys ∧ xs ≠ [] ∧ xs.length + ys.length ≤ sizeLine ∧
 (ys = [] → Q (.ref a) H) ∧ (ys ≠ [] → ∀ p, H p = none → Q (.ref p) (upd H p (.tup (xs ++ ys))))
theorem Vals.nil_iff {xs : List V} {us : List Value} (r : Vals xs us) : us = [] ↔ xs = [] := by
 cases r with
 | nil => simp
 | cons _ _ => simp
theorem op_catT : OpR X (binaryOp .Add) (rCatT X.K) := by
 intro pins s σ H x y v u Q I rx ry h
 obtain ⟨a, b, xs, ys, rfl, rfl, ha, hb, hx, hz, q1, q2⟩ := h
 cases rx
 cases ry
 obtain ⟨its, r1, p1, _⟩ := I.tuple ha
 obtain ⟨its2, r2, p2, _⟩ := I.tuple hb
 refine HT.cat_tup p1 p2 (fun z => hx (r1.nil_iff.mp z)) (fun z => ⟨.ref a, H, I, rfl, q1 (r2.nil_iff.mp z)⟩) (fun z => ?_) (by rw [← r1.length, ← r2.length]; exact hz)
 refine ⟨.ref s.heap.objs.size, _, I.laid (t' := s.toks) (o := .tup (xs ++ ys)) (fun b ob q => Heap.get?_push_of_some _ q) (Nat.le_refl _) ?_, rfl, q2 (fun w => z (r2.nil_iff.mpr w)) _ (I.hok.fresh (Nat.le_refl _))⟩
 exact ⟨by rw [List.length_append]; exact hz, _, r1.append r2, PlainT.new _ _⟩
end
def ixN (n : Nat) (i : Int) : Option Nat := if 0 ≤ i then (if i < n then some i.toNat else none) else if -(n : Int) ≤ i then some (i + n).toNat else none
def atI {α : Type} (xs : List α) (i : Int) : Option α := (ixN xs.length i).bind fun j => xs[j]?
theorem ixN_seq {n : Nat} {i : Int} {j : Nat} (h : ixN n i = some j) : seqIndex? i n = some j ∧ j < n ∧ -(n : Int) ≤ i ∧ i < n := by
 unfold ixN at h
 by_cases h0 : 0 ≤ i
 ·rw [if_pos h0] at h
  by_cases h1 : i < n
  ·rw [if_pos h1] at h
   have e : i.toNat = j := Option.some.inj h
   exact ⟨by rw [seqIndex_of h0 h1, e], by omega, by omega, h1⟩
  ·rw [if_neg h1] at h; cases h
 ·rw [if_neg h0] at h
  by_cases h1 : -(n : Int) ≤ i
  ·rw [if_pos h1] at h
   have e : (i + n).toNat = j := Option.some.inj h
   exact ⟨by rw [seqIndex_neg (by omega) h1, e], by omega, h1, by omega⟩
  ·rw [if_neg h1] at h; cases h
theorem atI_get {α : Type} {xs : List α} {i : Int} {v : α} (h : atI xs i = some v) : ∃ j, seqIndex? i xs.length = some j ∧ xs[j]? = some v ∧ j < xs.length ∧ -(xs.length : Int) ≤ i ∧ i < xs.length := by
 unfold atI at h
 cases e : ixN xs.length i with
 | none => rw [e] at h; cases h
 | some j =>
  rw [e] at h
  obtain ⟨h1, h2, h3, h4⟩ := ixN_seq e
  exact ⟨j, h1, h, h2, h3, h4⟩
theorem atI_nat {α : Type} {xs : List α} {j : Nat} {v : α} (h : xs[j]? = some v) : atI xs (j : Int) = some v := by
 have hj : j < xs.length := (List.getElem?_eq_some_iff.mp h).1
 have e : ixN xs.length (j : Int) = some j := by
  unfold ixN
  rw [if_pos (by omega), if_pos (by omega)]; simp
 unfold atI; rw [e]; exact h
def PlainIx (b : Expr) : Prop := ∀ o i, subscripted b false o i = operate [o, i] (getItem o i)
def IxR (X : Cx) (r : R2) : Prop :=
 ∀ (value slice : Expr) (pins : List (Addr × Obj)) (s : Shared) (σ : St) (H : Hp) (x y : V) (v u : Value) (Q : VK), Inv X pins σ H s → RelV x v → RelV y u → r x y H Q →
  subscripted slice false v u = operate [v, u] (getItem v u) → wpAny (model X.prog X.w) X.A (subscriptTail value slice v u) (EP X pins σ Q) X.xe s
def MtR (X : Cx) (id : String) (r : V → List V → Hp → VK → Prop) : Prop :=
 ∀ (pins : List (Addr × Obj)) (s : Shared) (σ : St) (H : Hp) (x : V) (xs : List V) (v : Value) (us : List Value) (Q : VK), Inv X pins σ H s → RelV x v → Vals xs us → r x xs H Q →
  wpAny (model X.prog X.w) X.A (call (.builtin id) (v :: us)) (EP X pins σ Q) X.xe s
section
variable {X : Cx} {a b : Expr} {ta tb : TE} {pos : Pos}
theorem pe_ix {r : R2} (hr : IxR X r) (ha : PE X a ta) (hb : PE X b tb) (hs : PlainIx b) : PE X (.Subscript a b pos) (tOp r ta tb) := by
 intro pins s σ H Q I h
 exact Subscript_ (binT ha hb I h fun v u s2 x y H2 I2 rx ry q => hr a b pins s2 σ H2 x y v u Q I2 rx ry q (hs _ _))
def rIxL (K : PySem.W.Frag) : R2 := fun x y H Q => ∃ p xs i v, x = .ref p ∧ y = .int i ∧ SqL K H p xs ∧ atI xs i = some v ∧ Q v H
def rIxT (K : PySem.W.Frag) : R2 := fun x y H Q => ∃ p xs i v, x = .ref p ∧ y = .int i ∧ SqT K H p xs ∧ atI xs i = some v ∧ Q v H
def rIxS : R2 := fun x y H Q => ∃ z i c, x = .str z ∧ y = .int i ∧ z.length ≤ sizeLine ∧ atI z.cps.toList i = some c ∧ Q (.str ⟨#[c]⟩) H
theorem ix_list : IxR X (rIxL X.K) := by
 intro value slice pins s σ H x y v u Q I rx ry h hs
 obtain ⟨p, xs, i, z, rfl, rfl, hq, he, q⟩ := h
 cases rx
 obtain ⟨t, rfl⟩ := ry
 obtain ⟨its, r, pl, hz⟩ := I.list hq
 obtain ⟨j, h1, h2, h3, h4, h5⟩ := atI_get he
 obtain ⟨w, ew, rw'⟩ := r.get h2
 have hl := r.length
 have hn := line63
 have fin : EP X pins σ Q w s := ⟨z, H, I, rw', q⟩
 by_cases h0 : 0 ≤ i
 ·have hj : i.toNat = j := by
   rw [seqIndex_of h0 h5] at h1
   exact Option.some.inj h1
  exact item_listR pl.isList h0 (by omega) (by rw [hj]; simpa using ew) fin hs
 ·have hj : (i + (its.toArray.size : Int)).toNat = j := by
   rw [seqIndex_neg (by omega) h4] at h1
   rw [List.size_toArray, ← hl]
   exact Option.some.inj h1
  exact subscriptTail_builtinR (x := w) pl.isList.typeIs slot_list_getitem.lookup
   (wpAny_getItem_list_neg (Q := fun r s' => r = w ∧ EP X pins σ Q r s') pl.isList (by omega) (by rw [List.size_toArray] <;> omega) (by omega) (by rw [hj]; simpa using ew) ⟨rfl, fin⟩) hs
theorem ix_tup : IxR X (rIxT X.K) := by
 intro value slice pins s σ H x y v u Q I rx ry h hs
 obtain ⟨p, xs, i, z, rfl, rfl, hq, he, q⟩ := h
 cases rx
 obtain ⟨t, rfl⟩ := ry
 obtain ⟨its, r, pl, hz⟩ := I.tuple hq
 obtain ⟨j, h1, h2, h3, h4, h5⟩ := atI_get he
 obtain ⟨w, ew, rw'⟩ := r.get h2
 have hl := r.length
 have hn := line63
 have fin : EP X pins σ Q w s := ⟨z, H, I, rw', q⟩
 exact subscriptTail_builtinR (x := w) pl.typeIs slot_tuple_getitem.lookup
  (getItem_tuple (j := j) (Q := fun r s' => r = w ∧ EP X pins σ Q r s') pl (by omega) (by omega) (by rw [List.size_toArray, ← hl]; exact h1) (by simpa using ew) ⟨rfl, fin⟩) hs
theorem ix_str : IxR X rIxS := by
 intro value slice pins s σ H x y v u Q I rx ry h hs
 obtain ⟨z, i, c, rfl, rfl, hz, he, q⟩ := h
 obtain ⟨t, rfl⟩ := rx
 obtain ⟨t', rfl⟩ := ry
 obtain ⟨j, h1, h2, h3, h4, h5⟩ := atI_get he
 have hl : z.cps.toList.length = z.length := by simp [Str.length]
 rw [hl] at h1 h4 h5
 have hn := line63
 exact tail_any (typeIs_str s z t) slot_str_getitem.lookup (getItem_str (c := c) (by
  have e1 : decide (i < -(2 ^ 63 : Int)) = false := decide_eq_false (by omega)
  have e2 : decide (i ≥ 2 ^ 63) = false := decide_eq_false (by omega)
  rw [e1, e2, Bool.or_false]) (by rw [h1]; simpa using h2) ⟨.str ⟨#[c]⟩, H, I.tok _, ⟨_, rfl⟩, q⟩) hs
theorem mapSeq_set (its : List Value) (n j : Nat) (u : Value) : Obj.mapSeq (·.setIfInBounds j u) { cls := .type "list", data := .seq its.toArray n } = { cls := .type "list", data := .seq (its.set j u).toArray n } := by
 simp [Obj.mapSeq]
theorem Inv.lst {pins : List (Addr × Obj)} {σ : St} {H : Hp} {s : Shared} {p : Addr} {xs : List V} (I : Inv X pins σ H s) (h : H p = some (.lst xs)) :
  ∃ (its : List Value) (n : Nat), Vals xs its ∧ s.heap.get? p = some { cls := .type "list", data := .seq its.toArray n } ∧ xs.length ≤ sizeLine := by
 obtain ⟨z, its, n, r, e⟩ := I.hok p _ h
 exact ⟨its, n, r, e, z⟩
theorem Inv.lstUpd {pins : List (Addr × Obj)} {σ : St} {H : Hp} {s : Shared} {p : Addr} {xs ys : List V} {its its' : List Value} {n n' : Nat} {f : Obj → Obj} (I : Inv X pins σ H s) (h : H p = some (.lst xs))
  (ho : s.heap.get? p = some { cls := .type "list", data := .seq its.toArray n }) (hf : f { cls := .type "list", data := .seq its.toArray n } = { cls := .type "list", data := .seq its'.toArray n' }) (r : Vals ys its') (hz : ys.length ≤ sizeLine) (t : Nat) :
  Inv X pins σ (upd H p (.lst ys)) { s with heap := s.heap.update p f, toks := t } := by
 have e : (s.heap.update p f).get? p = some { cls := .type "list", data := .seq its'.toArray n' } := by
  rw [Heap.get?_update_self f ho (by rw [hf] <;> rfl), hf]
 refine I.write (x := p) (e := p) (by rw [h]; trivial) (.inl rfl) (fun b u hb q => (Heap.get?_update_other _ _ (Ne.symm hb)).trans q) ⟨_, e⟩ ?_
 exact ⟨hz, its', n', r, e⟩
def rSetL : V → V → V → Hp → (Hp → Prop) → Prop := fun o i v H Q => ∃ p xs k j, o = .ref p ∧ i = .int k ∧ H p = some (.lst xs) ∧ ixN xs.length k = some j ∧ Q (upd H p (.lst (xs.set j v)))
theorem set_list : PSet X rSetL := by
 intro pins s σ H o i v ov iv u Q I ro ri rv h
 obtain ⟨p, xs, k, j, rfl, rfl, hp, hj, q⟩ := h
 cases ro
 obtain ⟨t, rfl⟩ := ri
 obtain ⟨its, n, r, ho, hz⟩ := I.lst hp
 obtain ⟨h1, h2, h3, h4⟩ := ixN_seq hj
 have hl := r.length
 have hn := line63
 have I' : Inv X pins σ (upd H p (.lst (xs.set j v))) { s with heap := s.heap.update p (Obj.mapSeq (·.setIfInBounds j u)) } :=
  I.lstUpd hp ho (mapSeq_set its n j u) (r.set rv j) (by rw [List.length_set]; exact hz) s.toks
 by_cases h0 : 0 ≤ k
 ·have hk : k.toNat = j := by
   rw [seqIndex_of h0 h4] at h1
   exact Option.some.inj h1
  exact PySem.W.ki_setAt ho h0 (by omega) (by rw [List.size_toArray, ← hl]; exact h4) (by rw [hk]; exact ⟨_, I', q⟩)
 ·have hk : (k + (its.toArray.size : Int)).toNat = j := by
   rw [seqIndex_neg (by omega) h3] at h1
   rw [List.size_toArray, ← hl]
   exact Option.some.inj h1
  exact PySem.W.ki_setBack ho (by omega) (by rw [List.size_toArray, ← hl]; exact h3) (by omega) (by rw [hk]; exact ⟨_, I', q⟩)
theorem slice_bounds (lo hi : Option Int) (n : Nat) : (sliceBounds lo hi none n).1 = ((HT.sIx n 0 lo : Nat) : Int) ∧ (sliceBounds lo hi none n).2.1 = ((HT.sIx n n hi : Nat) : Int) ∧ (sliceBounds lo hi none n).2.2 = 1 := by
 refine ⟨?_, ?_, rfl⟩
 ·cases lo with
  | none => simp [sliceBounds, HT.sIx]
  | some i =>
   simp only [sliceBounds, HT.sIx, Option.getD_none, show (1 : Int) > 0 by decide, if_true]
   by_cases h : i < 0
   ·simp only [h, if_true] <;> omega
   ·simp only [h, if_false] <;> omega
 ·cases hi with
  | none => simp [sliceBounds, HT.sIx]
  | some i =>
   simp only [sliceBounds, HT.sIx, Option.getD_none, show (1 : Int) > 0 by decide, if_true]
   by_cases h : i < 0
   ·simp only [h, if_true] <;> omega
   ·simp only [h, if_false] <;> omega
theorem slicePick_cut (its : List Value) (lo hi : Option Int) : slicePick its.toArray lo hi none = ((its.drop (HT.sIx its.length 0 lo)).take (HT.sIx its.length its.length hi - HT.sIx its.length 0 lo)).toArray := by
 obtain ⟨h1, h2, h3⟩ := slice_bounds lo hi its.toArray.size
 unfold slicePick
 rw [h1, h2, h3]
 simp only [sliceRange_one, pick_run, List.size_toArray] <;> rfl
def rSlL (K : PySem.W.Frag) : V → Option Int → Option Int → Hp → VK → Prop := fun x lo hi H Q => ∃ a xs, x = .ref a ∧ SqL K H a xs ∧ ∀ p, H p = none → Q (.ref p) (upd H p (.lst (cutV xs lo hi)))
theorem sl_list : SlR X (rSlL X.K) := by
 intro pins s σ H x v vl vu lo hi sl Q I rx hs pl pu h
 obtain ⟨a, xs, rfl, hx, q⟩ := h
 cases rx
 obtain ⟨its, r, ht, hz⟩ := I.list hx
 have hlen := r.length
 refine ⟨"list", _, slot_list_getitem.lookup, ht.isList.typeIs, ?_⟩
 refine wpAny_getItem_list_slice ht.isList hs pl pu .none (by simp) ?_ (by rw [List.size_toArray] <;> omega)
 rw [slicePick_cut, ← hlen]
 refine ⟨.ref s.heap.objs.size, _, I.laid (t' := s.toks) (o := .lst (cutV xs lo hi)) (fun b ob q => Heap.get?_push_of_some _ q) (Nat.le_refl _) ?_, rfl, q _ (I.hok.fresh (Nat.le_refl _))⟩
 exact ⟨Nat.le_trans (cutV_length xs lo hi) hz, _, 0, (r.drop (HT.sIx xs.length 0 lo)).take (HT.sIx xs.length xs.length hi - HT.sIx xs.length 0 lo), Heap.get?_push_size _ rfl⟩
theorem call_len_seq : CallR X (.builtin "len") (fun xs H Q => ∃ p ys, xs = [.ref p] ∧ (SqL X.K H p ys ∨ SqT X.K H p ys) ∧ Q (.int ys.length) H) := by
 intro pins s σ H xs us Q I r h
 obtain ⟨p, ys, rfl, hq, q⟩ := h
 obtain ⟨u, rfl, rx⟩ := vals1 r
 cases rx
 have hn := line63
 rcases hq with hq | hq
 ·obtain ⟨its, r', pl, hz⟩ := I.list hq
  have hlen := r'.length
  exact Calls.call_len_list pl.isList (by simp only [List.size_toArray] <;> omega) ⟨.int ys.length, H, I.tok _, ⟨s.toks + 1, by rw [List.size_toArray, hlen]⟩, q⟩
 ·obtain ⟨its, r', pl, hz⟩ := I.tuple hq
  have hlen := r'.length
  exact len_tuple pl (by simp only [List.size_toArray] <;> omega) ⟨.int ys.length, H, I.tok _, ⟨s.toks + 1, by rw [List.size_toArray, hlen]⟩, q⟩
theorem call_len_str : CallR X (.builtin "len") (fun xs H Q => ∃ z, xs = [.str z] ∧ z.length ≤ sizeLine ∧ Q (.int z.length) H) := by
 intro pins s σ H xs us Q I r h
 obtain ⟨z, rfl, hz, q⟩ := h
 obtain ⟨u, rfl, t, rfl⟩ := vals1 r
 have hn := line63
 exact len_str (by omega) ⟨.int z.length, H, I.tok _, ⟨_, rfl⟩, q⟩
theorem call_list_of : CallR X (.type "list") (fun xs H Q => ∃ p ys, xs = [.ref p] ∧ (SqL X.K H p ys ∨ SqT X.K H p ys) ∧ ∀ l, H l = none → Q (.ref l) (upd H l (.lst ys))) := by
 intro pins s σ H xs us Q I r h
 obtain ⟨p, ys, rfl, hq, q⟩ := h
 obtain ⟨u, rfl, rx⟩ := vals1 r
 cases rx
 have fin : ∀ (its : List Value), Vals ys its → ys.length ≤ sizeLine → ∀ (h' : Heap) (c' : Nat), (∀ b o', s.heap.get? b = some o' → h'.get? b = some o') →
   h'.get? s.heap.objs.size = some { cls := .type "list", dict := none, data := .seq its.toArray c', slots := #[] } → EP X pins σ Q (.ref s.heap.objs.size) { s with heap := h' } := fun its r' hz h' c' kp e =>
  ⟨.ref s.heap.objs.size, _, I.laid (t' := s.toks) kp (Nat.le_refl _) (show ObjOk X.prog X.w _ h' _ (.lst ys) from ⟨hz, its, c', r', e⟩), rfl, q _ (I.hok.fresh (Nat.le_refl _))⟩
 rcases hq with hq | hq
 ·obtain ⟨its, r', pl, hz⟩ := I.list hq
  have hlen := r'.length
  obtain ⟨o, ho, hc, n, hd⟩ := pl.isList
  exact call_list_seq p (.inl rfl) ho hc hd (fun h' c' kp e => fin its r' hz h' c' kp e) (by simp only [List.size_toArray] <;> omega)
 ·obtain ⟨its, r', pl, hz⟩ := I.tuple hq
  have hlen := r'.length
  obtain ⟨o, ho, hc, n, hd⟩ := pl
  exact call_list_seq p (.inr rfl) ho hc hd (fun h' c' kp e => fin its r' hz h' c' kp e) (by simp only [List.size_toArray] <;> omega)
theorem call_tuple_of : CallR X (.type "tuple") (fun xs H Q => ∃ p ys, xs = [.ref p] ∧ ((SqL X.K H p ys ∧ ∀ l, H l = none → Q (.ref l) (upd H l (.tup ys))) ∨ (SqT X.K H p ys ∧ Q (.ref p) H))) := by
 intro pins s σ H xs us Q I r h
 obtain ⟨p, ys, rfl, h⟩ := h
 obtain ⟨u, rfl, rx⟩ := vals1 r
 cases rx
 rcases h with ⟨hq, q⟩ | ⟨hq, q⟩
 ·obtain ⟨its, r', pl, hz⟩ := I.list hq
  have hlen := r'.length
  refine call_tuple_list pl.isList (fun h' kp => ?_) (by simp only [List.size_toArray] <;> omega)
  have I1 : Inv X pins σ H { s with heap := h' } := I.kept (t' := s.toks) kp
  have I2 : Inv X pins σ (upd H h'.objs.size (.tup ys)) { s with heap := h'.push { cls := .type "tuple", data := .seq its.toArray } } :=
   I1.laid (t' := s.toks) (fun b o e => Heap.get?_push_of_some _ e) (Nat.le_refl _) (show ObjOk X.prog X.w _ _ _ (.tup ys) from ⟨hz, its, r', PlainT.new _ _⟩)
  exact ⟨.ref h'.objs.size, _, I2, rfl, q _ (I1.hok.fresh (Nat.le_refl _))⟩
 ·obtain ⟨its, r', pl, hz⟩ := I.tuple hq
  exact call_tuple_same pl ⟨.ref p, H, I, rfl, q⟩
def tyV (K : PySem.W.Frag) (T : String) (x : V) (H : Hp) : Prop := match x with
 | .str _ => T = "str"
 | .int _ => T = "int"
 | .ref p => (T = "list" ∧ ∃ xs, SqL K H p xs) ∨ (T = "tuple" ∧ ∃ xs, SqT K H p xs) ∨
   (T = "dict" ∧ ((∃ kvs, H p = some (.dK kvs)) ∨ ∃ kvs, H p = some (.dT kvs))) ∨ (T = "set" ∧ ∃ S n, H p = some (.set S n))
 | _ => False
theorem tyV_is {pins : List (Addr × Obj)} {σ : St} {H : Hp} {s : Shared} {T : String} {x : V} {v : Value} (I : Inv X pins σ H s) (r : RelV x v) (ty : tyV X.K T x H) :
  s.TypeIs v T ∧ ∀ a, v = .ref a → ∃ ob, s.heap.get? a = some ob ∧ ob.dict = none := by
 cases x with
 | str z =>
  obtain ⟨t, rfl⟩ := r
  cases (show T = "str" from ty)
  exact ⟨typeIs_str s z t, fun _ e => nomatch e⟩
 | int i =>
  obtain ⟨t, rfl⟩ := r
  cases (show T = "int" from ty)
  exact ⟨typeIs_int s i t, fun _ e => nomatch e⟩
 | ref p =>
  cases r
  rcases ty with ⟨rfl, xs, hq⟩ | ⟨rfl, xs, hq⟩ | ⟨rfl, hk⟩ | ⟨rfl, S, n, hk⟩
  ·obtain ⟨its, _, pl, _⟩ := I.list hq
   refine ⟨pl.isList.typeIs, fun a e => ?_⟩
   cases e
   obtain ⟨o, n, e, c, hd, _⟩ := pl
   exact ⟨o, e, hd⟩
  ·obtain ⟨its, _, ⟨o, e0, hc, hd, _⟩, _⟩ := I.tupleP hq
   refine ⟨⟨o, e0, hc⟩, fun a e => ?_⟩
   cases e
   exact ⟨o, e0, hd⟩
  ·have z : ∃ o, s.heap.get? p = some o ∧ o.ExactDict := by
    rcases hk with ⟨kvs, hk⟩ | ⟨kvs, hk⟩
    ·obtain ⟨_, _, _, _, o, _, _, e, ex, _⟩ := I.hok p _ hk
     exact ⟨o, e, ex⟩
    ·obtain ⟨_, _, _, _, o, _, _, e, ex, _⟩ := I.hok p _ hk
     exact ⟨o, e, ex⟩
   obtain ⟨o, e, ex⟩ := z
   refine ⟨⟨o, e, ex.1⟩, fun a e2 => ?_⟩
   cases e2
   exact ⟨o, e, ex.2.1⟩
  ·obtain ⟨o, _, _, _, e, ex, _⟩ := I.hok p _ hk
   refine ⟨⟨o, e, ex.1⟩, fun a e2 => ?_⟩
   cases e2
   exact ⟨o, e, ex.2.1⟩
 | _ => exact False.elim ty
def tBM (K : PySem.W.Frag) (T : String) (r : V → List V → Hp → VK → Prop) (to : TE) (t : TA) : TE := fun σ H Q => to σ H fun x H1 => tyV K T x H1 ∧ t σ H1 fun xs H2 => r x xs H2 Q
variable {o e : Expr} {es : List Expr} {to : TE} {t : TA} {name : Str} {apos cpos : Pos} {T id : String} {r : V → List V → Hp → VK → Prop}
theorem pe_bm (pa : PlainAttrs T) (slot : Slot T name id) (hty : typeOf (.builtin id) = pure (.type "method_descriptor")) (hm : MtR X id r) (ho : PE X o to) (ha : PA X (e :: es) t)
  (hbase : attributeBase o name X.env (eval o X.env) = eval o X.env := by rfl)
  (hfew : ((backTo cpos (starEach (e :: es) X.env)).all (fun x => !x.1) && (backToKw cpos (keywordEach [] X.env)).all (fun x => x.1.isSome)
   && decide ((e :: es).length + ([] : List Keyword).length + (if ([] : List Keyword).isEmpty then 0 else 1) < 30)) = true := by rfl)
  (hline : (apos.endLine == cpos.line) = true := by rfl) (hs : starEach (e :: es) X.env = (false, eval e X.env) :: starEach es X.env := by rfl) (hplain : (backTo cpos (starEach es X.env)).any (·.1) = false := by rfl) :
  PE X (.Call (.Attribute o name apos) (e :: es) [] cpos) (tBM X.K T r to t) := by
 intro pins s σ H Q I h
 refine wpAny_Call_method_late hbase hfew hline rfl (thn (ho pins s σ H _ I h) fun v s1 ⟨x, H1, I1, r1, ty, q1⟩ => ?_)
 obtain ⟨h1, h2⟩ := tyV_is I1 r1 ty
 refine ⟨T, id, pa, slot, hty, h1, h2, ?_⟩
 have hA := ha cpos pins s1 σ H1 _ I1 q1
 rw [hs] at hA ⊢
 refine Calls.callWith_builtin (by show (false || (backTo cpos (starEach es X.env)).any (·.1)) = false; rw [hplain] <;> rfl) (Calls.evalArgs_plain ?_)
 exact thn hA fun us s2 ⟨vs, H2, I2, r2, q2⟩ => hm pins s2 σ H2 x vs v us Q I2 r1 r2 q2
end
def MtM (X : Cx) (id : String) (r : V → List V → Hp → VK → Prop) : Prop :=
 ∀ (pins : List (Addr × Obj)) (s : Shared) (σ : St) (H : Hp) (x : V) (xs : List V) (v : Value) (us : List Value) (Q : VK), Inv X pins σ H s → RelV x v → Vals xs us → r x xs H Q →
  wpAny (model X.prog X.w) X.A (call (.builtin id) (v :: us)) (EP X pins σ Q) X.xe s
theorem Vals.one : ∀ {x : V} {us : List Value}, Vals [x] us → ∃ u, us = [u] ∧ RelV x u
 | _, _, .cons r .nil => ⟨_, rfl, r⟩
theorem Vals.two : ∀ {x y : V} {us : List Value}, Vals [x, y] us → ∃ u v, us = [u, v] ∧ RelV x u ∧ RelV y v
 | _, _, _, .cons r (.cons q .nil) => ⟨_, _, rfl, r, q⟩
theorem Vals.eraseIdx : ∀ {xs : List V} {us : List Value} (i : Nat), Vals xs us → Vals (xs.eraseIdx i) (us.eraseIdx i)
 | _, _, _, .nil => .nil
 | _, _, 0, .cons _ t => t
 | _, _, i + 1, .cons r t => .cons r (Vals.eraseIdx i t)
theorem Vals.rep {xs : List V} {us : List Value} (h : Vals xs us) : ∀ k : Nat, Vals (List.replicate k xs).flatten (List.replicate k us).flatten
 | 0 => .nil
 | k + 1 => by
  rw [List.replicate_succ, List.replicate_succ, List.flatten_cons, List.flatten_cons]
  exact Vals.append h (Vals.rep h k)
theorem len_erase {α : Type} : ∀ (l : List α) (i : Nat), (l.eraseIdx i).length ≤ l.length
 | [], _ => Nat.le_refl _
 | _ :: _, 0 => Nat.le_succ _
 | _ :: r, i + 1 => Nat.succ_le_succ (len_erase r i)
theorem foldl_rep (its : List Value) : ∀ (k : Nat) (acc : List Value),
  List.foldl (fun x1 x2 => x1 ++ x2) acc.toArray (List.replicate k its.toArray) = (acc ++ (List.replicate k its).flatten).toArray
 | 0, acc => by simp
 | k + 1, acc => by
  have e : acc.toArray ++ its.toArray = (acc ++ its).toArray := by simp
  have e2 : (acc ++ its) ++ (List.replicate k its).flatten = acc ++ (List.replicate (k + 1) its).flatten := by
   rw [List.replicate_succ, List.flatten_cons, List.append_assoc]
  rw [← e2, ← foldl_rep its k (acc ++ its), ← e, List.replicate_succ, List.foldl_cons]
section
variable {X : Cx} {pins : List (Addr × Obj)} {σ : St} {H : Hp} {s : Shared} {l b : Addr} {xs ys zs : List V}
theorem Inv.lset {its its' : List Value} {n : Nat} {f : Array Value → Array Value} {t' : Nat} (I : Inv X pins σ H s) (hH : H l = some (.lst xs))
  (e : s.heap.get? l = some { cls := .type "list", data := .seq its.toArray n }) (hf : f its.toArray = its'.toArray) (hv : Vals ys its') (hz : ys.length ≤ sizeLine) :
  Inv X pins σ (upd H l (.lst ys)) { s with heap := s.heap.update l (Obj.mapSeq f), toks := t' } := by
 have q := PySem.IsL.update e f
 rw [hf] at q
 refine I.write (x := l) (e := l) (by rw [hH]; exact trivial) (.inl rfl) (fun b' u hb hu => (Heap.get?_update_other s.heap (Obj.mapSeq f) (Ne.symm hb)).trans hu) ⟨_, q⟩ ?_
 exact ⟨hz, its', _, hv, q⟩
theorem Inv.lnew {its : List Value} {t' : Nat} (I : Inv X pins σ H s) (hv : Vals ys its) (hz : ys.length ≤ sizeLine) :
  Inv X pins σ (upd H s.heap.objs.size (.lst ys)) { s with heap := s.heap.push { cls := .type "list", data := .seq its.toArray }, toks := t' } :=
 I.laid (fun _ _ q => Heap.get?_push_of_some _ q) (Nat.le_refl _) ⟨hz, its, 0, hv, Heap.get?_push_size _ rfl⟩
theorem Inv.fresh (I : Inv X pins σ H s) : H s.heap.objs.size = none := I.hok.fresh (Nat.le_refl _)
theorem Inv.lstM (I : Inv X pins σ H s) (hH : H l = some (.lst xs)) : xs.length ≤ sizeLine ∧ ∃ (its : List Value) (n : Nat), Vals xs its ∧ xs.length = its.length ∧ s.heap.get? l = some { cls := .type "list", data := .seq its.toArray n } := by
 obtain ⟨z, its, n, r, e⟩ := I.hok l _ hH
 exact ⟨z, its, n, r, r.length, e⟩
theorem notLongL {n : Nat} (h : n ≤ sizeLine) : Builtin.List.listTooLong n = false := by
 unfold Builtin.List.listTooLong
 exact decide_eq_false (by omega)
end
section
variable {X : Cx}
def rAppend : V → List V → Hp → VK → Prop := fun x vs H Q => ∃ l xs y, x = .ref l ∧ vs = [y] ∧ H l = some (.lst xs) ∧ xs.length < sizeLine ∧ Q .non (upd H l (.lst (xs ++ [y])))
theorem mt_append : MtM X "list.append" rAppend := by
 intro pins s σ H x vs v us Q I rx rv h
 obtain ⟨l, xs, y, rfl, rfl, hH, hz, q⟩ := h
 cases rx
 obtain ⟨u, rfl, ru⟩ := rv.one
 obtain ⟨z, its, n, r, hl, e⟩ := I.lstM hH
 refine call_meets F.slot_list_append ⟨_, e, rfl⟩ F.entry_list_append (F.args_list_append_2 _ _) (PySem.list_append l its.toArray n u (by rw [List.size_toArray]; omega)) ⟨e, ?_⟩
 refine ⟨.non, _, I.lset (its' := its ++ [u]) hH e (by simp) (r.append (.cons ru .nil)) ?_, rfl, q⟩
 rw [List.length_append, List.length_singleton]
 omega
def rExtend : V → List V → Hp → VK → Prop := fun x vs H Q => ∃ l b xs zs, x = .ref l ∧ vs = [.ref b] ∧ H l = some (.lst xs) ∧ H b = some (.lst zs) ∧ xs.length + zs.length ≤ sizeLine ∧ Q .non (upd H l (.lst (xs ++ zs)))
theorem mt_extend : MtM X "list.extend" rExtend := by
 intro pins s σ H x vs v us Q I rx rv h
 obtain ⟨l, b, xs, zs, rfl, rfl, hH, hB, hz, q⟩ := h
 cases rx
 obtain ⟨u, rfl, ru⟩ := rv.one
 cases ru
 obtain ⟨z, its, n, r, hl, e⟩ := I.lstM hH
 obtain ⟨z2, its2, n2, r2, hl2, e2⟩ := I.lstM hB
 have hsz : its.toArray.size + its2.toArray.size ≤ sizeLine := by rw [List.size_toArray, List.size_toArray]; omega
 have hlong : ¬ (!its.toArray.isEmpty && Builtin.List.listTooLong (its.toArray.size + its2.toArray.size)) = true := by
  rw [notLongL hsz, Bool.and_false]
  exact Bool.false_ne_true
 refine call_meets F.slot_list_extend ⟨_, e, rfl⟩ F.entry_list_extend (F.args_list_extend_2 _ _)
  (AutoSeq1.list_extend_list_list_0 l its.toArray n b its2.toArray n2 hlong (by rw [List.size_toArray]; omega) (by omega)) ⟨e, e2, ?_⟩
 refine ⟨.non, _, I.lset (its' := its ++ its2) hH e (by simp) (r.append r2) ?_, rfl, q⟩
 rw [List.length_append]
 omega
def rPopAt : V → List V → Hp → VK → Prop := fun x vs H Q => ∃ l xs i k y, x = .ref l ∧ vs = [.int i] ∧ H l = some (.lst xs) ∧ -(2 ^ 63) ≤ i ∧ i < 2 ^ 63 ∧ seqIndex? i xs.length = some k ∧ xs[k]? = some y ∧ Q y (upd H l (.lst (xs.eraseIdx k)))
theorem mt_popAt : MtM X "list.pop" rPopAt := by
 intro pins s σ H x vs v us Q I rx rv h
 obtain ⟨l, xs, i, k, y, rfl, rfl, hH, h1, h2, hk, hy, q⟩ := h
 cases rx
 obtain ⟨u, rfl, ru⟩ := rv.one
 obtain ⟨t, rfl⟩ := ru
 obtain ⟨z, its, n, r, hl, e⟩ := I.lstM hH
 obtain ⟨w, hw, rw'⟩ := r.get hy
 refine call_meets F.slot_list_pop ⟨_, e, rfl⟩ F.entry_list_pop (F.args_list_pop_2 _ _)
  (MeetsSeq.list_pop_at l its.toArray n i t k w (fitsIndex_both h1 h2) (by rw [List.size_toArray, ← hl]; exact hk) (by rw [← Array.getElem?_toList]; exact hw) (by rw [List.size_toArray]; omega)) ⟨e, ?_⟩
 refine ⟨y, _, I.lset (its' := its.eraseIdx k) hH e ?_ (r.eraseIdx k) ?_, rw', q⟩
 ·show its.toArray.eraseIdxIfInBounds k = (its.eraseIdx k).toArray
  rw [List.eraseIdxIfInBounds_toArray]
 ·have := len_erase xs k
  omega
def rRep : R2 := fun x y H Q => ∃ l k xs, x = .ref l ∧ y = .int k ∧ H l = some (.lst xs) ∧ -(2 ^ 63) ≤ k ∧ k < 2 ^ 63 ∧ xs.length * k.toNat ≤ sizeLine ∧
 ∀ p, H p = none → Q (.ref p) (upd H p (.lst (List.replicate k.toNat xs).flatten))
theorem len_rep {α : Type} (xs : List α) (k : Nat) : (List.replicate k xs).flatten.length = k * xs.length := by
 induction k with
 | zero => simp
 | succ k ih => rw [List.replicate_succ, List.flatten_cons, List.length_append, ih, Nat.succ_mul, Nat.add_comm]
theorem op_rep : OpR X (binaryOp .Mult) rRep := by
 intro pins s σ H x y v u Q I rx ry h
 obtain ⟨l, k, xs, rfl, rfl, hH, h1, h2, hz, q⟩ := h
 cases rx
 obtain ⟨t, rfl⟩ := ry
 obtain ⟨z, its, n, r, hl, e⟩ := I.lstM hH
 have hlen : its.toArray.size * k.toNat ≤ sizeLine := by rw [List.size_toArray, ← hl]; exact hz
 have hcap : ¬ its.toArray.size * k.toNat > (2 ^ 63 - 1) / 8 := by
  have : (sizeLine : Nat) ≤ (2 ^ 63 - 1) / 8 := by decide
  omega
 have hfit : ¬ (!Builtin.List.listFitsIndex k) = true := by
  rw [fitsIndex_both h1 h2]
  exact Bool.false_ne_true
 have hlong : ¬ Builtin.List.listTooLong (its.toArray.size * k.toNat) = true := by
  rw [notLongL hlen]
  exact Bool.false_ne_true
 have hnew : List.foldl (fun x1 x2 => x1 ++ x2) #[] (List.replicate (if its.toArray.isEmpty = true then 0 else k.toNat) its.toArray) = (List.replicate k.toNat its).flatten.toArray := by
  have f0 : ∀ m : Nat, List.foldl (fun x1 x2 => x1 ++ x2) #[] (List.replicate m its.toArray) = (List.replicate m its).flatten.toArray := fun m => by
   have := foldl_rep its m []
   rw [List.nil_append] at this
   exact this
  rw [f0]
  cases its with
  | nil => simp
  | cons a r' => rw [if_neg (by simp)]
 refine wpAny_binaryOp_repeat_ref (T := "list") (U := "int") (by decide) ⟨_, e, rfl⟩ (fun s' => typeIs_int s' k t) noFill_list_mul F.fills_int_mul F.slot_int_rmul repeat_list F.slot_int_index.lookup
  (call_meets F.slot_int_rmul (typeIs_int s k t) F.entry_int_rmul (F.args_int_rmul_2 _ _) (int___rmul___int_list k t l its.toArray n)
   ⟨e, rfl, ⟨_, e, rfl⟩, call_meets F.slot_list_mul ⟨_, e, rfl⟩ F.entry_list_mul (F.args_list_mul_2 _ _) (AutoListH.list___mul___list_int_3 l its.toArray n k t hfit hcap hlong) ⟨e, ?_⟩⟩)
 rw [hnew]
 exact ⟨.ref _, _, I.lnew (t' := s.toks) (r.rep k.toNat) (by rw [len_rep, Nat.mul_comm]; exact hz), rfl, q _ I.fresh⟩
end
end L2
namespace Att
open PySem PySem.W PySem.Calls PyProof.Rows
theorem ints_of_wellAll {P : Params} {h : Heap} : ∀ (ns : List Int) (vs : List Value), WellAll P h vs (ns.map WData.int) → IntsAre vs ns := by
 intro ns
 induction ns with
 | nil =>
  intro vs w
  rw [List.map_nil] at w
  cases w
  exact .nil
 | cons n ns ih =>
  intro vs w
  rw [List.map_cons] at w
  cases w with
  | cons a b =>
   cases a
   exact .cons _ _ (ih _ b)
theorem script_of {l : OpenLaw} {n : Nat} (hn : l.most = some n) {P : Params} {h : Heap} {args : List WData} {vals : List Value}
  (hpre : l.row.toRowW.claim.pre args = true) (hwl : WellAll P h vals args) :
  ∃ a vs ns, vals = [Value.ref a] ∧ args = [WData.list (ns.map WData.int)] ∧ h.get? a = some { cls := .type "list", data := .seq vs.toArray } ∧ IntsAre vs ns ∧ ns.length ≤ n := by
 have hsh : WShape.hasAll [] args [.list .int] = true := (pre_splitW hpre).1
 have hc : l.pre.holds [] { args := args } = true := (pre_splitW hpre).2
 obtain ⟨d, r, rfl, h1, h2⟩ := hasAllW_cons hsh
 obtain rfl := hasAllW_nil h2
 obtain ⟨xs, rfl, h3⟩ := hasW_list h1
 obtain ⟨ns, rfl⟩ := items_int h3
 have hlen : ns.length ≤ n := by
  unfold OpenLaw.pre at hc
  have h4 : (WTm.not (.lt (.lit (.int (n : Int))) (.len (.arg 0)))).holds [] { args := [.list (ns.map .int)] } = true := by
   have h4 := (holds_andW hc).1
   rw [hn] at h4
   exact h4
  have h5 := condW_of h4 (w_not (w_lt w_lit (w_len_list (w_arg rfl))))
  rw [List.length_map] at h5
  refine Nat.le_of_not_lt fun q => ?_
  have q' : (n : Int) < ((ns.length : Nat) : Int) := by omega
  first
   | (rw [decide_eq_true q'] at h5; exact absurd h5 (by decide))
   | (simp at h5; omega)
 cases hwl with
 | cons w1 w2 =>
  cases w2
  cases w1 with
  | list ho hall => exact ⟨_, _, ns, rfl, rfl, ho, ints_of_wellAll ns _ hall, hlen⟩
theorem post_true (l : OpenLaw) (args : List WData) : l.row.toRowW.claim.post args (.bool true) args = true :=
 postW_of (r := l.row.toRowW) (X := (true == true))
  (show WShape.has [] (.bool true) .bool = true by first | rfl | decide | simp [WShape.has, WShape.arms, WShape.armsAll])
  (show (WTm.eq .res (.lit (.bool true))).value [] { args := args, res := some (.bool true), after := args } = some (.bool (true == true)) from w_eq_bool (w_res rfl) w_lit) rfl
theorem attach_call {l : OpenLaw} {n : Nat} {q : Program} {loose : List Str} {XP : (Str → Option Value) → Heap → Prop} {YP : World → Heap → Prop} {d : DefRec}
  (hn : l.most = some n) (hdf : d.params.defaults = [])
  (call : ∀ (w : World) (s₀ s₁ : Shared) (mg mb : Str → Option Value) (fa : Addr) (o : Obj) (pm cd doc : Value) (a : Addr) (vs : List Value) (ns : List Int),
   Ground q loose [] XP w s₀ mg mb s₁.heap → YP w s₁.heap →
   s₁.heap.get? fa = some o → o.data = .func (docDef d.name d.params d.body d.scope pm cd doc) → s₁.heap.CodeRec cd d.name → mg d.name = some (.ref fa) →
   s₁.heap.get? a = some { cls := .type "list", data := .seq vs.toArray } → IntsAre vs ns → ns.length ≤ n → s₁.gens = #[] →
   codeAny (model l.prog w) callerA (.call (.ref fa) ⟨[.ref a], []⟩) (fun r s' => r = .ok (.ret (.bool true)) ∧ OldK s₁.heap s'.heap ∧ s'.os = s₁.os ∧ AllBare s'.gens) s₁) :
  WalkO q loose XP YP l.row.toRowW d [] (fun f vs => PySem.call f vs) := by
 intro w s₀ s₁ mg mb G Y fa o pm cd doc dV kV ho hd hcd hD hmg hg args vals as hpre hlay hrd hwl hlo
 obtain rfl : dV = .none := Dflts.none hD hdf
 obtain rfl : kV = .none := Dflts.noKw hD
 obtain ⟨a, vs, ns, rfl, rfl, hobj, hints, hlen⟩ := script_of hn hpre hwl
 refine enter_call (codeAny_mono (call w s₀ s₁ mg mb fa o pm cd doc a vs ns G Y ho (fd_plain hd) hcd hmg hobj hints hlen hg) fun r s' hq => ?_)
 obtain ⟨rfl, h2, h3, h4⟩ := hq
 exact ⟨.inl ⟨.bool true, .bool true, [], rfl, fun _ => rfl, .bool true, post_true l _, fun _ => ⟨List.Pairwise.nil, fun _ hm => (nomatch hm)⟩⟩, h2, h3, h4⟩
end Att
namespace L2
open PySem PySem.Spec PyProof.Rows
theorem vals_ints : ∀ {vs : List Value} {ns : List Int}, IntsAre vs ns → Vals (ns.map V.int) vs
 | _, _, .nil => .nil
 | _, _, .cons n t h => .cons ⟨t, rfl⟩ (vals_ints h)
def Only (H : Hp) : Prop := ∀ b, H b = none ∨ ∃ o xs, H b = some (.frz o (.lst xs))
theorem law_call {P : Program} {w : World} {K : PySem.W.Frag} {mg mb : Str → Option Value} {CX : CXT} {k : Nat} {fa a : Addr} {fd : FuncData} {x : Str} {sp : Sp} {s₁ : Shared} {vs : List Value} {ns : List Int}
  (KX : K.In s₁.heap) (hns : s₁.heap.Ns mainGlobals mg) (hb : s₁.heap.Ns builtinsNs mb) (hbb : ∀ x : Str, x ≠ "__name__" → mb x = bootBuiltins x) (hlim : s₁.heap.NoLimit) (hsy : ∃ m, s₁.heap.Ns sysModules m) (hg : s₁.gens = #[])
  (ha : s₁.heap.get? a = some { cls := .type "list", data := .seq vs.toArray }) (hi : IntsAre vs ns) (hl : ns.length ≤ sizeLine) (hr : Room k callerA)
  (F : ∀ base : Heap, K.In base → base.Ns mainGlobals mg → FnOk P w K mg base CX k fa fd [x] sp) (hbind : ∀ (s : Shared) (u : Value), BindsTo s fd ⟨[u], []⟩ [(x, u)])
  (hsp : ∀ H : Hp, Only H → SqL K H a (ns.map V.int) → sp [.ref a] H (fun v _ => v = .bl true) fun _ _ _ => False)
  (hCX : ∀ H e s', CX [] H s₁ (fun _ _ _ => False) e s' → False) :
  codeAny (model P w) callerA (.call (.ref fa) ⟨[.ref a], []⟩) (fun r s' => r = .ok (.ret (.bool true)) ∧ OldK s₁.heap s'.heap ∧ s'.os = s₁.os ∧ AllBare s'.gens) s₁ := by
 have rv := vals_ints hi
 have lenV := hi.length
 have core : ∀ H : Hp, Only H → SqL K H a (ns.map V.int) → HOk P w H s₁.heap → (∀ b, H b ≠ none → b = a) → (H a ≠ none → K.lookup a = none) →
   codeAny (model P w) callerA (.call (.ref fa) ⟨[.ref a], []⟩) (fun r s' => r = .ok (.ret (.bool true)) ∧ OldK s₁.heap s'.heap ∧ s'.os = s₁.os ∧ AllBare s'.gens) s₁ := by
  intro H hO hS hok hA hK
  have base_of : ∀ {b : Addr} {o : Obj}, s₁.heap.get? b = some o → H b = none → (hidT s₁.heap H).get? b = some o := fun e n => hidT_get e n
  have noA : ∀ {b : Addr} {o : Obj} {es : Array DictEntry} {ep : Nat}, s₁.heap.get? b = some o → o.data = .dict es ep → H b = none := fun {b o es ep} e d => by
   cases q : H b with
   | none => rfl
   | some u =>
    have e' : b = a := hA b (by rw [q]; simp)
    subst e'
    rw [ha] at e; cases e
    have d' : Data.seq vs.toArray _ = Data.dict es ep := d
    cases d'
  have nsK : ∀ {b : Addr} {m : Str → Option Value}, s₁.heap.Ns b m → (hidT s₁.heap H).Ns b m := fun {b m} ⟨o, es, ep, e, d, r⟩ => ⟨o, es, ep, base_of e (noA e d), d, r⟩
  have hKb : K.In (hidT s₁.heap H) := fun b o e => base_of (KX b o e) (by
   cases q : H b with
   | none => rfl
   | some u =>
    have e' : b = a := hA b (by rw [q]; simp)
    subst e'
    rw [hK (by rw [q]; simp)] at e; cases e)
  have hM : Mod K mg (hidT s₁.heap H) := ⟨hKb, nsK hns, ⟨mb, nsK hb, hbb⟩, let ⟨mc, h1, h2⟩ := hlim; ⟨mc, nsK h1, h2⟩, let ⟨m, h⟩ := hsy; ⟨m, nsK h⟩⟩
  have e0 : Env0 P w K mg (hidT s₁.heap H) callerA [] s₁ H := ⟨rfl, hM, fun b o e => of_hidT e, Nat.le_of_eq (hidT_size _ _), trivial, fun b hb => absurd (show b ∈ ([] : List Addr) from hb) (by simp), hok, .of_eq hg⟩
  refine codeAny_mono ((F _ hKb (nsK hns)).run callerA [] s₁ H ⟨[.ref a], []⟩ [.ref a] [.ref a] _ _ hr e0 (hbind s₁ (.ref a)) (.cons rfl .nil) (hsp H hO hS)) fun r s' h => ?_
  cases r with
  | error e => exact (hCX H e s' h).elim
  | ok fl =>
   cases fl with
   | next => exact False.elim h
   | brk => exact False.elim h
   | cont => exact False.elim h
   | ret u =>
    obtain ⟨v, H', os, bare, un, hok', r', q⟩ := h
    have q' : v = .bl true := q
    subst q'
    obtain rfl : u = Value.bool true := r'
    refine ⟨rfl, OldK.of_keep fun b o e => ?_, os, bare⟩
    cases q : H b with
    | none => exact un.keep b o e q (by intro z; exact absurd (show b ∈ ([] : List Addr) from z) (by simp)) (by simp)
    | some u =>
     rcases hO b with z | ⟨ob, xs, z⟩
     ·rw [q] at z; cases z
     ·have z2 := un.frzs b ob _ z
      obtain ⟨e1, _⟩ := hok b _ z
      obtain ⟨e2, _⟩ := hok' b _ z2
      rw [e] at e1; cases e1
      exact e2
 cases hk : K.lookup a with
 | some o =>
  have e := KX a o hk
  rw [ha] at e
  cases e
  refine core (fun _ => none) (fun _ => .inl rfl) (.inr ⟨_, vs.toArray, _, hk, rfl, rfl, rfl, by rw [List.size_toArray, lenV]; exact hl, by simpa using rv⟩) (fun b u z => by have z' : (none : Option HO) = some u := z; cases z') (fun b z => absurd rfl z) fun z => absurd rfl z
 | none =>
  refine core (fun b => if b = a then some (.frz { cls := .type "list", data := .seq vs.toArray } (.lst (ns.map V.int))) else none) (fun b => ?_) (.inl (.inr ⟨{ cls := .type "list", data := .seq vs.toArray }, if_pos rfl⟩)) (fun b u z => ?_) (fun b z => ?_) fun _ => hk
  ·by_cases hb : b = a
   ·exact .inr ⟨_, _, if_pos hb⟩
   ·exact .inl (if_neg hb)
  ·by_cases hb : b = a
   ·have z' := (if_pos hb).symm.trans z
    cases z'
    subst hb
    exact ⟨ha, by rw [List.length_map]; exact hl, vs, _, rv, ha⟩
   ·have z' := (if_neg hb).symm.trans z
    cases z'
  ·by_cases hb : b = a
   ·exact hb
   ·exact absurd (if_neg hb) z
theorem walk_of {l : PySem.W.OpenLaw} {n k : Nat} {q : Program} {loose : List Str} {XP : (Str → Option Value) → Heap → Prop} {YP : World → Heap → Prop} {d : DefRec} {K : Params → PySem.W.Frag} {CX : World → CXT} {sp : World → Sp} {x : Str}
  (hq : importsNone q = true) (hn : l.most = some n) (hn2 : n ≤ sizeLine) (hdf : d.params.defaults = []) (hr : Room k callerA)
  (hY : ∀ (w : World) (h : Heap), YP w h → (K w.params).In h)
  (F : ∀ (w : World) (mg : Str → Option Value) (fa : Addr) (h : Heap), (K w.params).In h → h.Ns mainGlobals mg → mg d.name = some (.ref fa) →
   ∃ fd : FuncData, (∀ (s : Shared) (u : Value), BindsTo s fd ⟨[u], []⟩ [(x, u)]) ∧
    ∀ base : Heap, (K w.params).In base → base.Ns mainGlobals mg → FnOk l.prog w (K w.params) mg base (CX w) k fa fd [x] (sp w))
  (hsp : ∀ (w : World) (H : Hp) (a : Addr) (ns : List Int), ns.length ≤ n → Only H → SqL (K w.params) H a (ns.map V.int) → sp w [.ref a] H (fun v _ => v = .bl true) fun _ _ _ => False)
  (hCX : ∀ (w : World) (H : Hp) (s : Shared) (e : Value) (s' : Shared), CX w [] H s (fun _ _ _ => False) e s' → False) :
  PySem.W.WalkO q loose XP YP l.row.toRowW d [] (fun f vs => PySem.call f vs) := by
 refine Att.attach_call hn hdf fun w s₀ s₁ mg mb fa o pm cd doc a vs ns G Y ho hd hcd hmg hobj hints hlen hg => ?_
 have KX := hY w _ Y
 obtain ⟨fd, hb, hF⟩ := F w mg fa _ KX G.T.g hmg
 exact law_call KX G.T.g G.T.b G.T.builtins G.T.nolimit (let ⟨m, h, _⟩ := (G.T.seer hq).mods; ⟨m, h⟩) hg hobj hints (Nat.le_trans hlen hn2) hr hF hb (fun H hO hS => hsp w H a ns hlen hO hS) fun H e s' => hCX w H s₁ e s'
def defArgs (s : Stmt) : Arguments := match s with
 | .FunctionDef _ a _ _ _ _ _ _ _ _ => a
 | _ => { posonlyargs := [], args := [], vararg := none, kwonlyargs := [], kw_defaults := [], kwarg := none, defaults := [] }
def defBody (s : Stmt) : List Stmt := match s with
 | .FunctionDef _ _ b _ _ _ _ _ _ _ => b
 | _ => []
def defScope (s : Stmt) : Scope := match s with
 | .FunctionDef _ _ _ _ _ _ sc _ _ _ => sc
 | _ => { kind := .function, names := [], isGenerator := false, isCoroutine := false }
abbrev CX0 : CXT := fun _ _ _ _ _ _ => False
abbrev E0 : XK := fun _ _ _ => False
theorem pass0 {X : Cx} : Passes CX0 X E0 := fun _ _ _ _ _ _ _ h => h.elim
structure Fun (K : PySem.W.Frag) (x qual : Str) (st : Stmt) (f : Addr) (fd : FuncData) : Prop where
 ex : ∃ (oc : Value) (od : Option Addr) (kV doc pm : Value) (an : Option Addr) (cdv ct : Value) (osl : Array (Option Value)),
  fd = PySem.W.fnOf x qual (defArgs st) (defBody st) (defScope st) .none kV doc pm an cdv ct ∧ K.lookup f = some ⟨oc, od, .func fd, osl⟩ ∧ PySem.W.codeIn K cdv qual = true
 kp : PySem.W.keepIn K (.ref f) = true
section
variable {P : Program} {w : World} {K : PySem.W.Frag} {mg : Str → Option Value} {base : Heap}
theorem Fun.ok {x qual : Str} {st : Stmt} {f : Addr} {fd : FuncData} {N ps : List Str} {k : Nat} {sp : Sp} (F : Fun K x qual st f fd) (S : FnScope N ps (defScope st)) (len : ∀ vs H Q E, sp vs H Q E → vs.length = ps.length)
  (hbody : ∀ (cdv : Value) (A : Around) (outer : List Env) (s : Shared) (H : Hp) (vs : List V) (Q : VK) (E : XK), Room k (A.deeper (envOfC qual (defScope st) s.heap.objs.size f cdv)) → sp vs H Q E →
   ∃ t, PSs (cxOf CX0 P w K mg base N qual (defScope st) f cdv A outer s H E).nox (defBody st) t ∧ t { nx := fun _ H' => Q .non H', rt := Q } (start N vs) H) : FnOk P w K mg base CX0 (k + 1) f fd ps sp := by
 obtain ⟨oc, od, kV, doc, pm, an, cdv, ct, osl, rfl, lk, hcd⟩ := F.ex
 refine fn_of lk hcd S len fun A outer s H vs Q E hr hsp => ?_
 obtain ⟨t, h, q⟩ := hbody cdv A outer s H vs Q E hr hsp
 exact ⟨t, h.nox, q⟩
theorem Fun.binds {x qual : Str} {st : Stmt} {f : Addr} {fd : FuncData} {ps : List Str} (F : Fun K x qual st f fd)
  (h : ∀ (kV doc pm : Value) (an : Option Addr) (cdv ct : Value) (us : List Value), us.length = ps.length → bindArgs (PySem.W.fnOf x qual (defArgs st) (defBody st) (defScope st) .none kV doc pm an cdv ct) ⟨us, []⟩ = pure (ps.zip us)) : Binds K fd ps [] := by
 obtain ⟨oc, od, kV, doc, pm, an, cdv, ct, osl, rfl, lk, hcd⟩ := F.ex
 exact .all (h kV doc pm an cdv ct)
theorem fun_mk {x qual : Str} {st : Stmt} {f : Addr} {oc : Value} {od an : Option Addr} {osl : Array (Option Value)} {kV doc pm cdv ct : Value} (l : K.lookup f = some ⟨oc, od, .func (PySem.W.fnOf x qual (defArgs st) (defBody st) (defScope st) .none kV doc pm an cdv ct), osl⟩)
  (c : PySem.W.codeIn K cdv qual = true) (k : PySem.W.keepIn K (.ref f) = true) : Fun K x qual st f (PySem.W.fnOf x qual (defArgs st) (defBody st) (defScope st) .none kV doc pm an cdv ct) := ⟨⟨oc, od, kV, doc, pm, an, cdv, ct, osl, rfl, l, c⟩, k⟩
end
theorem iteF {A B : Prop} (h : B) : if false = true then A else B := by
 rw [if_neg Bool.false_ne_true]
 exact h
theorem iteT {A B : Prop} (h : A) : if true = true then A else B := by
 rw [if_pos rfl]
 exact h
def cxComp (X : Cx) (scope : Scope) (cl : List (Str × Addr)) (N : List Str) (s : Shared) (H : Hp) (C : Addr) (ex : List Addr) : Cx where
 prog := X.prog
 w := X.w
 K := X.K
 mg := X.mg
 base := X.base
 A := X.A
 N := N
 s₀ := s
 H₀ := H
 env := compEnvC scope cl C X.env
 outer := X.stack
 stack := X.stack
 ex := ex
 fn := fun _ => false
 calm := X.calm
 eb := X.eb
 pn := []
 xe := fun _ _ => False
theorem closure_ok {env : Env} : ∀ {names : List (Str × NameKind)} {acc : List (Str × Addr)}, (∀ y ∈ names, y.2 = .free → ∃ c, env.cells.lookup y.1 = some c) → (∀ x c, acc.lookup x = some c → env.cells.lookup x = some c) →
  ∃ cl, (forIn names acc fun (x : Str × NameKind) (cs : List (Str × Addr)) => if (x.2 == NameKind.free) = true then do let c ← cellOf env x.1; pure (ForInStep.yield ((x.1, c) :: cs)) else pure (ForInStep.yield cs) : Sem (List (Str × Addr))) = pure cl ∧
   (∀ x c, cl.lookup x = some c → env.cells.lookup x = some c) ∧ (∀ y ∈ names, y.2 = .free → ∃ c, cl.lookup y.1 = some c) ∧ (∀ x, (∃ c, acc.lookup x = some c) → ∃ c, cl.lookup x = some c)
 | [], acc, _, ha => ⟨acc, rfl, ha, fun y hy => absurd hy (by simp), fun _ h => h⟩
 | (n, k) :: r, acc, h, ha => by
  rw [List.forIn_cons]
  by_cases hk : k = .free
  ·subst hk
   obtain ⟨c, hc⟩ := h (n, .free) List.mem_cons_self rfl
   have hc' : env.cells.lookup n = some c := hc
   have e1 : cellOf env n = pure c := by unfold cellOf; rw [hc']
   obtain ⟨cl, e2, h2, h3, h4⟩ := closure_ok (env := env) (names := r) (acc := (n, c) :: acc) (fun y hy => h y (List.mem_cons_of_mem _ hy)) (fun x d hx => by
    rw [List.lookup_cons] at hx
    cases hb : x == n with
    | true => rw [hb] at hx; cases hx; rw [eq_of_beq hb]; exact hc'
    | false => rw [hb] at hx; exact ha x d hx)
   refine ⟨cl, ?_, h2, fun y hy hyk => ?_, fun x hx => h4 x ?_⟩
   ·simp only [beq_self_eq_true, if_true, e1, pure_bind]
    exact e2
   ·obtain rfl | hy := List.mem_cons.mp hy
    ·exact h4 n ⟨c, by rw [List.lookup_cons]; simp⟩
    ·exact h3 y hy hyk
   ·obtain ⟨d, hd⟩ := hx
    rw [List.lookup_cons]
    cases hb : x == n with
    | true => exact ⟨c, rfl⟩
    | false => exact ⟨d, hd⟩
  ·have hb : (k == NameKind.free) = false := by simpa using hk
   obtain ⟨cl, e2, h2, h3, h4⟩ := closure_ok (env := env) (names := r) (acc := acc) (fun y hy => h y (List.mem_cons_of_mem _ hy)) ha
   refine ⟨cl, ?_, h2, fun y hy hyk => ?_, h4⟩
   ·simp only [hb, Bool.false_eq_true, if_false, pure_bind]
    exact e2
   ·obtain rfl | hy := List.mem_cons.mp hy
    ·exact absurd hyk hk
    ·exact h3 y hy hyk
theorem closureFor_ok {env : Env} {scope : Scope} (h : ∀ y ∈ scope.names, y.2 = .free → ∃ c, env.cells.lookup y.1 = some c) :
  ∃ cl, closureFor scope env = pure cl ∧ (∀ x c, cl.lookup x = some c → env.cells.lookup x = some c) ∧ ∀ y ∈ scope.names, y.2 = .free → ∃ c, cl.lookup y.1 = some c := by
 obtain ⟨cl, e, h1, h2, _⟩ := closure_ok (env := env) (names := scope.names) (acc := []) h (fun x c hx => by cases hx)
 refine ⟨cl, ?_, h1, h2⟩
 simp only [closureFor]
 have e' := congrArg (fun (t : Sem (List (Str × Addr))) => t >>= fun cs => pure cs) e
 simp only [pure_bind, bind_pure] at e' ⊢
 exact e'
def PTs (X : Cx) (ifs : List Expr) (t : TT) : Prop :=
 ∀ (pins : List (Addr × Obj)) (s : Shared) (σ : St) (H : Hp) (Q : Bool → Hp → Prop), Inv X pins σ H s → t σ H Q →
  wpAny (model X.prog X.w) X.A (forIn ifs true fun c r => if r = true then do let ok ← isTrue c X.env (eval c X.env); pure (ForInStep.yield ok) else pure (ForInStep.yield r)) (TP X pins σ Q) X.xe s
def tNoTest : TT := fun _ H Q => Q true H
theorem pts_nil {X : Cx} : PTs X [] tNoTest := fun _ _ _ H _ I h => wpAny_tests_nil ⟨H, I, h⟩
theorem pts_one {X : Cx} {c : Expr} {t : TT} (hc : PT X c t) : PTs X [c] t := fun pins s σ H Q I h => wpAny_tests_one (hc pins s σ H Q I h)
def PB (X : Cx) (bd : Sem PUnit) (t : TS) : Prop :=
 ∀ (pins : List (Addr × Obj)) (s : Shared) (σ : St) (H : Hp) (D : Ends), Inv X pins σ H s → t D σ H → wpAny (model X.prog X.w) X.A bd (fun _ s' => ∃ σ' H', Inv X pins σ' H' s' ∧ D.nx σ' H') X.xe s
def tLoop (J : It) (g : TG) (tb : TS) : TS := fun D σ H => ∃ W : Nat → Nat → St → Hp → Prop, (∃ m, W 0 m σ H) ∧ ∀ i m σ H, W i m σ H →
 (J.stop i H ∧ D.nx σ H) ∨ (J.go i H ∧ ∃ N : St → Hp → Prop, (∀ σ' H', N σ' H' → ∃ m', m' < m ∧ W (i + 1) m' σ' H') ∧ ∀ x H', J.yld i H x H' → g x σ H' fun σ2 H2 => tb { D with nx := N, ct := N, bk := D.nx } σ2 H2)
def tIfT (tt : TT) (tb : TS) : TS := fun D σ H => tt σ H fun b H1 => if b = true then tb D σ H1 else D.nx σ H1
def tEmit (l : Addr) (te : TE) : TS := fun D σ H => te σ H fun x H1 => ∃ xs, H1 l = some (.lst xs) ∧ xs.length < sizeLine ∧ D.nx σ (upd H1 l (.lst (xs ++ [x])))
theorem comp_loop {X : Cx} {elt : Expr} {gens : List Comprehension} {scope : Scope} {pos : Pos} {d : Nat} {it : Addr} {acc : Value} {tg : Expr} {ipos : Pos} {ifs : List Expr} {bd : Sem PUnit} {g : TG} {tt : TT} {tb : TS} {J : It} {fp : List Addr} {tn : Nat → Heap → Prop}
  (hturn : compTurn (.ListComp elt gens scope pos) d (.ref it) acc X.env = (do
   standAt ipos
   match ← pyNext (.ref it) with
   | none => pure (.done .next)
   | some v =>
    letOwnedTupleGo tg (.ref it) v
    assign tg X.env v
    let mut ok := true
    for c in ifs do
     if ok then ok ← isTrue c X.env (eval c X.env)
    if ok then bd
    again (.compLoop (.ListComp elt gens scope pos) d (.ref it) acc X.env)))
  (hx : X.xe = fun _ _ => False) (hc : X.calm = true) (T : Turn X.prog X.w X.K tg J fp it tn) (hg : PG X tg g) (ht : PTs X ifs tt) (hb : PB X bd tb)
  {pins : List (Addr × Obj)} {s : Shared} {σ : St} {H : Hp} {D : Ends} (I : Inv X pins σ H s) (st : tn 0 s.heap) (f : ∀ b ∈ fp, FpOk X pins H b) (h : tLoop J g (tIfT tt tb) D σ H) :
  codeAny (model X.prog X.w) X.A (.compLoop (.ListComp elt gens scope pos) d (.ref it) acc X.env) (fun r s' => r = .ok .next ∧ ∃ σ' H', Inv X pins σ' H' s' ∧ D.nx σ' H') s := by
 obtain ⟨W, ⟨m0, w0⟩, turn⟩ := h
 have stat : ∀ {H' : Hp}, (∀ b ∈ fp, H' b = none) → ∀ b ∈ fp, FpOk X pins H' b := fun hn b hb => ⟨hn b hb, (f b hb).2⟩
 have nox : ∀ {α : Type} {t : Sem α} {Q : α → Shared → Prop} {E : Value → Shared → Prop} {s : Shared}, wpAny (model X.prog X.w) X.A t Q X.xe s → wpAny (model X.prog X.w) X.A t Q E s := fun h => wpAny_mono h (fun _ _ q => q) fun _ _ z => by
  rw [hx] at z; exact z.elim
 refine codeAny_loop rfl (fun n s' => ∃ i σ' H', Inv X pins σ' H' s' ∧ tn i s'.heap ∧ (∀ b ∈ fp, H' b = none) ∧ W i n σ' H') ?_ m0 ⟨0, σ, H, I, st, fun b hb => (f b hb).1, w0⟩
 rintro n s3 ⟨i, σ3, H3, I3, st3, fr3, w3⟩
 show wpAny _ X.A ((compTurn (.ListComp elt gens scope pos) d (.ref it) acc X.env).onRaise (fun x => do noteFrame x X.env; theTreesLotGoes x)) _ _ s3
 refine wpAny_noted ?_
 rw [hturn]
 refine wpAny_bind (m := standAt _) (wpAny_standAt (wpAny_bind ?_))
 rcases turn i n σ3 H3 w3 with ⟨stop, qn⟩ | ⟨go, N, hN, step⟩
 ·refine thn (T.done X rfl rfl rfl hc i pins s3 σ3 H3 _ I3 (stat fr3) st3 stop) fun r s4 ⟨hr, I4⟩ => ?_
  subst hr
  exact wpAny_pure ⟨rfl, σ3, H3, I4, qn⟩
 ·refine thn (T.item X rfl rfl rfl hc i pins s3 σ3 H3 _ I3 (stat fr3) st3 go) fun r s4 ⟨u, hr, h4⟩ => ?_
  subst hr
  refine wpAny_bind (thn h4 fun _ s5 ⟨x, H5, I5, r5, y5, st5, fr5⟩ => ?_)
  have I5' := I5.pinned (stat fr5) (T.obj _ _ st5)
  refine wpAny_bind (nox (thn (hg _ s5 σ3 H5 x u _ I5' r5 (step x H5 y5)) fun _ s6 ⟨σ6, H6, I6, q6⟩ => ?_))
  refine wpAny_bind (nox (thn (ht _ s6 σ6 H6 _ I6 q6) fun ok s7 ⟨H7, I7, q7⟩ => ?_))
  have fin : ∀ {σ8 : St} {H8 : Hp} {s8 : Shared}, Inv X (pins ++ pinsAt fp s5.heap) σ8 H8 s8 → N σ8 H8 → ∃ m, m < n ∧ ∃ i σ' H', Inv X pins σ' H' s8 ∧ tn i s8.heap ∧ (∀ b ∈ fp, H' b = none) ∧ W i m σ' H' := fun {σ8 H8 s8} I8 n8 => by
   obtain ⟨m', hm, w8⟩ := hN σ8 H8 n8
   refine ⟨m', hm, i + 1, σ8, H8, I8.unpinned, T.keep _ _ _ st5 fun b hb o e => (I8.pin (b, o) (List.mem_append_right _ (List.mem_append_right _ (mem_pinsAt hb e)))).1, fun b hb => ?_, w8⟩
   obtain ⟨o, e, _⟩ := T.obj _ _ st5 b hb
   exact (I8.pin (b, o) (List.mem_append_right _ (List.mem_append_right _ (mem_pinsAt hb e)))).2.1
  cases ok with
  | false =>
   rw [if_neg Bool.false_ne_true] at q7
   exact wpAny_pure ⟨rfl, fin I7 q7⟩
  | true =>
   rw [if_pos rfl] at q7
   exact wpAny_bind (nox (thn (hb _ s7 σ6 H7 _ I7 q7) fun _ s8 ⟨σ8, H8, I8, q8⟩ => wpAny_pure ⟨rfl, fin I8 q8⟩))
theorem pb_emit {X : Cx} {elt : Expr} {te : TE} {l : Addr} (he : PE X elt te) : PB X (do let _ ← call (.builtin "list.append") [.ref l, ← eval elt X.env]) (tEmit l te) := by
 intro pins s σ H D I h
 refine wpAny_bind (thn (he pins s σ H _ I h) fun u s1 ⟨x, H1, I1, r1, xs, hl, hz, q⟩ => ?_)
 obtain ⟨hz1, its, n, rv, hv, ho⟩ := I1.lstM hl
 have hsl : s1.heap.IsList l its.toArray := ⟨_, ho, rfl, _, rfl⟩
 refine wpAny_bind (thn (Q := fun _ s' => ∃ σ' H', Inv X pins σ' H' s' ∧ D.nx σ' H') ?_ fun _ s' hq => wpAny_pure hq)
 exact thn (mt_append (X := X) pins s1 σ H1 (.ref l) [x] (.ref l) [u] (fun v H' => v = .non ∧ D.nx σ H') I1 rfl (.cons r1 .nil) ⟨l, xs, x, rfl, rfl, hl, hz, rfl, q⟩) fun v s' ⟨_, H', I', _, _, q'⟩ => ⟨σ, H', I', q'⟩
theorem lookup_relabel (env : Env) (x : Str) : ∀ names : List (Str × NameKind), (names.map fun (n, k) => if (k == NameKind.free && env.scope.kind == .function && env.kindOf n == some .cell) then (n, NameKind.cell) else (n, k)).lookup x =
  (names.lookup x).map fun k => if (k == NameKind.free && env.scope.kind == .function && env.kindOf x == some .cell) then NameKind.cell else k
 | [] => rfl
 | (n, k) :: r => by
  have ih := lookup_relabel env x r
  rw [List.map_cons]
  dsimp only
  cases hx : x == n with
  | true =>
   have e := eq_of_beq hx
   subst e
   by_cases hc : (k == NameKind.free && env.scope.kind == .function && env.kindOf x == some .cell) = true
   ·rw [if_pos hc]; simp only [List.lookup_cons, hx, Option.map_some, if_pos hc]
   ·rw [if_neg hc]; simp only [List.lookup_cons, hx, Option.map_some, if_neg hc]
  | false =>
   split
   ·simp only [List.lookup_cons, hx]; exact ih
   ·simp only [List.lookup_cons, hx]; exact ih
theorem lookup_mem {x : Str} {k : NameKind} : ∀ {names : List (Str × NameKind)}, names.lookup x = some k → (x, k) ∈ names := fun h => PySem.mem_of_lookup h
theorem of_relabel_free {env : Env} {scope : Scope} {x : Str} (hcell : ∀ y ∈ scope.names, y.2 ≠ .cell) (h : (relabel scope env).names.lookup x = some .cell ∨ (relabel scope env).names.lookup x = some .free) : scope.names.lookup x = some .free := by
 unfold relabel at h
 simp only [lookup_relabel] at h
 cases e : scope.names.lookup x with
 | none => rw [e] at h; rcases h with h | h <;> cases h
 | some k =>
  rw [e] at h
  simp only [Option.map_some, Option.some.injEq] at h
  have hk : k ≠ .cell := hcell (x, k) (lookup_mem e)
  by_cases hf : k = .free
  ·rw [hf]
  ·have hb : (k == NameKind.free) = false := by simpa using hf
   rw [hb] at h
   simp only [Bool.false_and, Bool.false_eq_true, if_false] at h
   rcases h with h | h
   ·exact absurd h hk
   ·rw [h]
theorem relabel_free {env : Env} {scope : Scope} {x : Str} (h : scope.names.lookup x = some .free) : (relabel scope env).names.lookup x = some .cell ∨ (relabel scope env).names.lookup x = some .free := by
 unfold relabel
 simp only [lookup_relabel, h, Option.map_some]
 split
 ·exact .inl rfl
 ·exact .inr rfl
def compSt (own : List Str) (ps : List Nat) (σ : St) : St := own.map (fun _ => none) ++ ps.map fun i => (σ[i]?).join
structure CompScope (own fr : List Str) (scope sc : Scope) : Prop where
 kind : scope.kind = .function
 nocell : ∀ y ∈ scope.names, y.2 ≠ .cell
 names : ∀ y ∈ scope.names, y.2 = .local → scope.names.lookup y.1 = some .local
 there : ∀ y ∈ scope.names, y.2 = .free → sc.names.lookup y.1 = some .cell ∨ sc.names.lookup y.1 = some .free
 fr : ∀ x ∈ fr, scope.names.lookup x = some .free
section
variable {X : Cx} {scope sc : Scope} {own fr : List Str} {ps : List Nat}
theorem comp_core {elt tg iter : Expr} {ifs : List Expr} {rest : List Comprehension} {pos : Pos} {bdy : Env → Value → Sem PUnit} {g : TG} {tt : TT} {tb : Addr → TS} {cl : List (Str × Addr)} {R : Value → Addr → Result → Shared → Prop} {E : Value → Shared → Prop}
  (S : CompScope own fr scope sc) (hsc : X.env.scope = sc) (hps : ps.map (fun i => X.N[i]?) = fr.map some) (hc : X.calm = true) (hcl1 : ∀ x c, cl.lookup x = some c → X.env.cells.lookup x = some c) (hcl2 : ∀ y ∈ scope.names, y.2 = .free → ∃ c, cl.lookup y.1 = some c)
  (hturn : ∀ env it acc, compTurn (.ListComp elt (⟨tg, iter, ifs, 0⟩ :: rest) scope pos) 0 it acc env = (do
   standAt iter.pos
   match ← pyNext it with
   | none => pure (.done .next)
   | some v =>
    letOwnedTupleGo tg it v
    assign tg env v
    let mut ok := true
    for c in ifs do
     if ok = true then ok ← isTrue c env (eval c env)
    if ok then bdy env acc
    again (.compLoop (.ListComp elt (⟨tg, iter, ifs, 0⟩ :: rest) scope pos) 0 it acc env)))
  (hg : ∀ s H C ex, PG (cxComp X scope cl (own ++ fr) s H C ex) tg g) (ht : ∀ s H C ex, PTs (cxComp X scope cl (own ++ fr) s H C ex) ifs tt)
  (hb : ∀ s H C ex l, PB (cxComp X scope cl (own ++ fr) s H C ex) (bdy (compEnvC scope cl C X.env) (.ref l)) (tb l))
  {pins : List (Addr × Obj)} {s : Shared} {σ : St} {H : Hp} {Q : VK} {it : Addr} {fp : List Addr} {tn : Nat → Heap → Prop} {J : It} (I : Inv X pins σ H s) (T : Turn X.prog X.w X.K tg J fp it tn) (st : tn 0 s.heap) (f : ∀ b ∈ fp, FpOk X pins H b)
  (h : ∀ l, H l = none → tLoop J g (tIfT tt (tb l)) { nx := fun _ H' => Q (.ref l) H', rt := fun _ _ => False } (compSt own ps σ) (upd H l (.lst [])))
  (hR : ∀ l C H' s', (∃ m, s'.heap.Ns C m) → Inv X pins σ H' s' → FpOk X pins H' C → Q (.ref l) H' → R (.ref l) C (.ok .next) s') :
  wpAny (model X.prog X.w) X.A (newList []) (fun acc s₃ => wpAny (model X.prog X.w) X.A (newFunctionEnv scope X.env.globals cl [] X.env.qual none .none (some X.env)) (fun cenv s₄ =>
   codeAny (model X.prog X.w) X.A (.compStart (.ListComp elt (⟨tg, iter, ifs, 0⟩ :: rest) scope pos) 0 (.ref it) acc { cenv with scope := relabel scope X.env }) (R acc cenv.locals) s₄) E s₃) E s := by
 refine wpAny_newObj_type (wpAny_newFunctionEnv S.nocell (by intro y hy; simp at hy) (fun h₁ hns₁ hsb₁ => ?_) S.kind)
 have I3 : Inv X pins σ (upd H s.heap.objs.size (.lst [])) { s with heap := s.heap.push { cls := .type "list", data := .seq ([] : List Value).toArray } } := I.lnew (t' := s.toks) (ys := []) .nil (Nat.zero_le _)
 generalize hS3 : ({ s with heap := s.heap.push { cls := .type "list", data := .seq ([] : List Value).toArray } } : Shared) = s3 at I3 hns₁ hsb₁ ⊢
 have hsz : s3.heap.objs.size = s.heap.objs.size + 1 := by rw [← hS3]; exact Heap.size_push _ _
 have hl : H s.heap.objs.size = none := I.hok.fresh (Nat.le_refl _)
 have kept0 : ∀ b o, s.heap.get? b = some o → s3.heap.get? b = some o := fun b o e => by rw [← hS3]; exact Heap.get?_push_of_some _ e
 have kept1 : ∀ b o, s3.heap.get? b = some o → h₁.get? b = some o := fun b o e => hsb₁.extBut b o (Nat.ne_of_lt (Heap.lt_size e)) (Heap.get?_push_of_some _ e)
 have fpl : ∀ b ∈ fp, b < s.heap.objs.size := fun b hb => by obtain ⟨o, e, _⟩ := T.obj _ _ st b hb; exact Heap.lt_size e
 have fpH : ∀ b ∈ fp, (upd H s.heap.objs.size (.lst [])) b = none := fun b hb => by rw [upd_ne (Nat.ne_of_lt (fpl b hb))]; exact (f b hb).1
 have fpS : ∀ b ∈ fp, b ∉ frs X.stack := fun b hb z => by
  rcases List.mem_cons.mp (I.stkSub b z) with e | e
  ·exact (f b hb).2.1 e
  ·exact (f b hb).2.2.1 e
 have ok' : (cxComp X scope cl (own ++ fr) s3 (upd H s.heap.objs.size (.lst [])) s3.heap.objs.size fp).Ok := by
  refine ⟨I.ok.mod, S.kind, I.ok.glob, I.ok.blt, Nat.le_refl _, fun x y c h1 h2 => I.ok.inj x y c (hcl1 x c h1) (hcl1 y c h2), fun x hx => ?_, fun x c hf => (by cases hf), I.ok.hd, I.ok.frames, .inl rfl, fun b hb => ⟨?_, fun x c hx => (f b hb).2.2.2.2.1 x c (hcl1 x c hx)⟩,
   fun b o e => I3.bs b o e, Nat.le_trans I3.ok.bsz I3.sz, fun b o e hb => ?_, fun b hb => fpS b hb, I3.stack, I3.stkFree⟩
  ·exact hcl2 (x, .free) (lookup_mem (of_relabel_free S.nocell hx)) rfl
  ·exact Nat.ne_of_lt (Nat.lt_of_lt_of_le (fpl b hb) (by rw [hsz]; exact Nat.le_succ _))
  ·rcases (f b hb).2.2.2.1 with z | z
   ·exact I.ok.noex b o e z
   ·exact absurd (Nat.lt_of_lt_of_le (Heap.lt_size (I.ok.bs b o e).1) z) (Nat.lt_irrefl _)
 have I4 : Inv (cxComp X scope cl (own ++ fr) s3 (upd H s.heap.objs.size (.lst [])) s3.heap.objs.size fp) [] (compSt own ps σ) (upd H s.heap.objs.size (.lst [])) { s3 with heap := h₁, toks := s3.toks + ([] : List (Str × Value)).length } := by
  refine ⟨ok', rfl, I3.bare, Un.kept kept1, ⟨_, hns₁, fun i x v e1 e2 e3 => ?_⟩, fun x c e => ?_, I3.hok.fresh (Nat.le_refl _), fun x c e => I3.freeC x c (hcl1 x c e), fun p hp => absurd (show p ∈ ([] : List (Addr × Obj)) from hp) (by simp), I3.hok.kept kept1, ?_⟩
  ·have e1' : (own ++ fr)[i]? = some x := e1
   unfold compSt at e2
   by_cases hi : i < own.length
   ·rw [List.getElem?_append_left (by simpa using hi), List.getElem?_map] at e2
    cases q : own[i]? with
    | none => rw [q] at e2; cases e2
    | some z => rw [q] at e2; cases e2
   ·rw [List.getElem?_append_right (by simpa using hi), List.length_map, List.getElem?_map] at e2
    rw [List.getElem?_append_right (by simpa using hi)] at e1'
    cases q : ps[i - own.length]? with
    | none => rw [q] at e2; cases e2
    | some p =>
     rw [q] at e2
     have e2' : (σ[p]?).join = some v := Option.some.inj e2
     have hσ : σ[p]? = some (some v) := by
      cases z : σ[p]? with
      | none => rw [z] at e2'; cases e2'
      | some w => rw [z] at e2'; cases w with
       | none => cases e2'
       | some w => cases e2'; rfl
     have hN : X.N[p]? = some x := by
      have z := congrArg (fun l => l[i - own.length]?) hps
      simp only [List.getElem?_map, q, e1', Option.map_some, Option.some.injEq] at z
      exact z
     have hx : x ∈ fr := List.mem_of_getElem? e1'
     have hfr := S.fr x hx
     have hsee := S.there (x, .free) (lookup_mem hfr) rfl
     obtain ⟨m, hn, hlk⟩ := I3.loc
     obtain ⟨u, ru, lk⟩ := hlk p x v hN hσ (by rw [hsc]; exact .inr hsee)
     refine ⟨u, ru, .inr ⟨relabel_free hfr, ?_⟩⟩
     rcases lk with ⟨k, _⟩ | ⟨_, c, ec, z⟩
     ·have k' : X.env.scope.names.lookup x = some .local := k
      rw [hsc] at k'
      rcases hsee with q2 | q2 <;> (rw [k'] at q2; cases q2)
     ·obtain ⟨c', ec'⟩ := hcl2 (x, .free) (lookup_mem hfr) rfl
      have := hcl1 x c' ec'
      rw [ec] at this
      cases this
      obtain ⟨o, ho, hd⟩ := z
      exact ⟨c, ec', o, kept1 _ _ ho, hd⟩
  ·obtain ⟨v, o, ho, hd⟩ := I3.cell x c (hcl1 x c e)
   exact ⟨v, o, kept1 _ _ ho, hd⟩
  ·show (compSt own ps σ).length = (own ++ fr).length
   have := congrArg List.length hps
   rw [List.length_map, List.length_map] at this
   unfold compSt
   rw [List.length_append, List.length_append, List.length_map, List.length_map, this]
 have f4 : ∀ b ∈ fp, FpOk (cxComp X scope cl (own ++ fr) s3 (upd H s.heap.objs.size (.lst [])) s3.heap.objs.size fp) [] (upd H s.heap.objs.size (.lst [])) b := fun b hb =>
  ⟨fpH b hb, (ok'.exf b hb).1, fpS b hb, .inl hb, (ok'.exf b hb).2, fun p hp => absurd (show p ∈ ([] : List (Addr × Obj)) from hp) (by simp)⟩
 have st4 : tn 0 h₁ := T.keep 0 _ _ st fun b hb o e => kept1 b o (kept0 b o e)
 have loop : codeAny (model X.prog X.w) X.A (.compLoop (.ListComp elt (⟨tg, iter, ifs, 0⟩ :: rest) scope pos) 0 (.ref it) (.ref s.heap.objs.size) (compEnvC scope cl s3.heap.objs.size X.env)) (R (.ref s.heap.objs.size) s3.heap.objs.size) { s3 with heap := h₁, toks := s3.toks + ([] : List (Str × Value)).length } := by
  refine codeAny_mono (comp_loop (X := cxComp X scope cl (own ++ fr) s3 (upd H s.heap.objs.size (.lst [])) s3.heap.objs.size fp) (hturn _ _ _) rfl hc T (hg _ _ _ _) (ht _ _ _ _) (hb _ _ _ _ _) I4 st4 f4 (h _ hl)) fun r s' ⟨er, σ5, H5, I5, q5⟩ => ?_
  subst er
  have I6 : Inv X pins σ H5 s' := I3.call' (s' := s') I5.os I5.base I5.hok I5.bare fun b hb => ⟨(f b hb).2.2.2.1, (f b hb).2.1, (f b hb).2.2.2.2.1, (f b hb).2.2.2.2.2⟩
  have hm : ∃ m, s'.heap.Ns s3.heap.objs.size m := let ⟨m, hn, _⟩ := I5.loc; ⟨m, hn⟩
  exact hR _ _ H5 s' hm I6 (I3.fpOk (Nat.le_refl _) I5.free) q5
 exact codeAny_compStart_list loop (T.self _ 0 _ _ _ st4 loop)
def tComp (wi : TI) (own : List Str) (ps : List Nat) (tl : Addr → It → TS) : TE := fun σ H Q => wi σ H fun J H1 => ∀ l, H1 l = none → tl l J { nx := fun _ H' => Q (.ref l) H', rt := fun _ _ => False } (compSt own ps σ) (upd H1 l (.lst []))
def tl1 (g : TG) (tt : TT) (te : TE) : Addr → It → TS := fun l J => tLoop J g (tIfT tt (tEmit l te))
def tl2 (g : TG) (tt : TT) (wi2 : TI) (g2 : TG) (tt2 : TT) (te : TE) : Addr → It → TS := fun l J => tLoop J g (tIfT tt fun D σ H => wi2 σ H fun J2 H1 => tLoop J2 g2 (tIfT tt2 (tEmit l te)) D σ H1)
theorem pb_inner {Y : Cx} {elt tg1 iter1 tg2 iter2 : Expr} {ifs1 ifs2 : List Expr} {pos : Pos} {l : Addr} {wi2 : TI} {g2 : TG} {tt2 : TT} {te : TE} (hx : Y.xe = fun _ _ => False) (hc : Y.calm = true) (hi : PI Y tg2 iter2 wi2) (hg : PG Y tg2 g2) (ht : PTs Y ifs2 tt2) (he : PE Y elt te)
  (hs : ∀ x, foldedSetIterable iter2 Y.env x = pure x) :
  PB Y (do
   let x ← eval iter2 Y.env
   standAt iter2.pos
   let x ← foldedSetIterable iter2 Y.env x
   let _ ← runOwn (.compStart (.ListComp elt [⟨tg1, iter1, ifs1, 0⟩, ⟨tg2, iter2, ifs2, 0⟩] scope pos) 1 (← holding [x] (pyIter x)) (.ref l) Y.env) Y.env) (fun D σ H => wi2 σ H fun J2 H1 => tLoop J2 g2 (tIfT tt2 (tEmit l te)) D σ H1) := by
 intro pins s σ H D I h
 refine wpAny_bind (thn (hi pins s σ H _ I h) fun v s1 h1 => ?_)
 refine wpAny_bind (wpAny_standAt (wpAny_bind (wpAny_of_eq (hs v) (wpAny_bind (wpAny_holding (thn h1 fun itv s2 h2 => ?_))))))
 obtain ⟨it, fp, tn, J, H2, e, I2, T, st2, f2, q⟩ := h2
 subst e
 have loop : ∀ s3, s3 = s2 → codeAny (model Y.prog Y.w) Y.A (.compLoop (.ListComp elt [⟨tg1, iter1, ifs1, 0⟩, ⟨tg2, iter2, ifs2, 0⟩] scope pos) 1 (.ref it) (.ref l) Y.env) (fun r s' => match r with | .ok f => wpAny (model Y.prog Y.w) Y.A (pure PUnit.unit) (fun _ s' => ∃ σ' H', Inv Y pins σ' H' s' ∧ D.nx σ' H') Y.xe s' | .error e => cameBackBy (model Y.prog Y.w) Y.A Y.env Y.xe e s') s3 := by
  rintro s3 rfl
  refine codeAny_mono (comp_loop (X := Y) (elt := elt) (gens := [⟨tg1, iter1, ifs1, 0⟩, ⟨tg2, iter2, ifs2, 0⟩]) (scope := scope) (pos := pos) (d := 1) (acc := .ref l) (ipos := iter2.pos) (ifs := ifs2)
   (bd := do let _ ← call (.builtin "list.append") [.ref l, ← eval elt Y.env]) rfl hx hc T hg ht (pb_emit he) I2 st2 f2 q) fun r s' ⟨er, hq⟩ => ?_
  subst er
  exact wpAny_pure hq
 refine wpAny_bind (wpAny_runOwn ?_)
 show codeAny (model Y.prog Y.w) Y.A _ _ s2
 refine codeAny_of_tree ?_
 show wpAny _ _ ((compStart (.ListComp elt [⟨tg1, iter1, ifs1, 0⟩, ⟨tg2, iter2, ifs2, 0⟩] scope pos) 1 (.ref it) (.ref l) Y.env).onRaise (fun x => do noteFrame x Y.env; standAt theWindowsPlace)) _ _ s2
 refine wpAny_notedAt ?_
 unfold compStart
 show wpAny _ _ (ask >>= _) _ _ s2
 refine wpAny_bind (m := ask) (wpAny_askSetting (wpAny_ite ?_))
 split
 ·first
   | exact wpAny_bind (wpAny_pure (wpAny_pure (And.intro rfl (loop _ rfl))))
   | exact wpAny_pure (And.intro rfl (loop _ rfl))
 ·first
   | exact wpAny_bind (wpAny_rule (wpAny_bind (wpAny_standAt (wpAny_bind (T.self _ 0 _ _ _ st2 (wpAny_pure (And.intro rfl (loop _ rfl))))))))
   | (refine wpAny_bind (wpAny_rule ?_); show wpAny _ _ (standAt iter2.pos >>= _) _ _ s2; exact wpAny_bind (wpAny_standAt (wpAny_bind (T.self _ 0 _ _ _ st2 (wpAny_pure (And.intro rfl (loop _ rfl)))))))
theorem Inv.junk {pins : List (Addr × Obj)} {σ : St} {H : Hp} {s : Shared} {C : Addr} (I : Inv X pins σ H s) (f : FpOk X pins H C) {h' : Heap} (hs : Heap.SameBut C s.heap h') : Inv X pins σ H { s with heap := h' } :=
 I.turned (t' := s.toks) (it := C) (fun b o ne e => (hs.2 b ne).trans e) f.1 f.2.1 f.2.2.2.1 f.2.2.2.2.1 f.2.2.2.2.2
variable {elt tg iter : Expr} {ifs : List Expr} {pos spos py : Pos} {wi : TI} {g : TG} {tt : TT} {te : TE}
theorem comp_has {pins : List (Addr × Obj)} {σ : St} {H : Hp} {s : Shared} (S : CompScope own fr scope sc) (hsc : X.env.scope = sc) (I : Inv X pins σ H s) : ∀ y ∈ scope.names, y.2 = .free → ∃ c, X.env.cells.lookup y.1 = some c := fun y hy hk =>
 I.ok.has y.1 (by show X.env.scope.names.lookup y.1 = _ ∨ X.env.scope.names.lookup y.1 = _; rw [hsc]; exact S.there y hy hk)
theorem pe_comp1 (S : CompScope own fr scope sc) (hi : PI X tg iter wi) (hg : ∀ cl s H C ex, PG (cxComp X scope cl (own ++ fr) s H C ex) tg g) (ht : ∀ cl s H C ex, PTs (cxComp X scope cl (own ++ fr) s H C ex) ifs tt)
  (he : ∀ cl s H C ex, PE (cxComp X scope cl (own ++ fr) s H C ex) elt te) (hsc : X.env.scope = sc := by rfl) (hps : ps.map (fun i => X.N[i]?) = fr.map some := by rfl) (hc : X.calm = true := by rfl) (hs : ∀ x, foldedSetIterable iter X.env x = pure x := by intro _; rfl) :
  PE X (.ListComp elt [⟨tg, iter, ifs, 0⟩] scope pos) (tComp wi own ps (tl1 g tt te)) := by
 intro pins s σ H Q I h
 obtain ⟨cl, ec, h1, h2⟩ := closureFor_ok (comp_has S hsc I)
 rw [eval_ListComp]
 refine wpAny_comprehension_free (use := none) rfl hs ec S.kind S.names (thn (hi pins s σ H _ I h) fun v s1 q1 => thn q1 fun itv s2 q2 => ?_)
 obtain ⟨it, fp, tn, J, H2, e, I2, T, st2, f2, q⟩ := q2
 subst e
 exact comp_core (R := fun acc C => compPost (model X.prog X.w) X.A X.xe none (EP X pins σ Q) acc C) (bdy := fun env acc => do let _ ← call (.builtin "list.append") [acc, ← eval elt env]) (tb := fun l => tEmit l te) S hsc hps hc h1 h2 (fun env it acc => compTurn_list elt tg iter ifs scope pos it acc env)
  (hg cl) (ht cl) (fun s H C ex l => pb_emit (he cl s H C ex)) I2 T st2 f2 q fun l C H' s' hm I' fk q' => by
   obtain ⟨m, hn⟩ := hm
   exact ⟨m, hn, fun h' hs' => ⟨.ref l, H', I'.junk fk hs', rfl, q'⟩⟩
theorem store_use {pins : List (Addr × Obj)} {σ : St} {H' : Hp} {s' : Shared} {i : Nat} {y : Str} {l C : Addr} {Q : St → Hp → Prop} {E : Value → Shared → Prop} (hN : X.N.Nodup) (hy : X.N[i]? = some y) (hlc : X.env.scope.names.lookup y = some .local) (hm : ∃ m, s'.heap.Ns C m) (I : Inv X pins σ H' s') (fk : FpOk X pins H' C) (q : Q (σ.set i (some (.ref l))) H') :
  wpAny (model X.prog X.w) X.A (assign (.Name y py) X.env (.ref l)) (fun _ s'' => ∃ m, s''.heap.Ns C m ∧ ∀ h', Heap.SameBut C s''.heap h' → ∃ σ' H'', Inv X pins σ' H'' { s'' with heap := h' } ∧ Q σ' H'') E s' := by
 obtain ⟨m, hn⟩ := hm
 refine wpAny_assign_Name (store_ok2 I hN hy (.inl hlc) (v := .ref l) rfl (fun s'' I'' ⟨a, hs, ha⟩ => ?_) (.inr hlc))
 have hCa : C ≠ a := by
  rcases ha with ha | ha
  ·rw [ha]; exact fk.2.1
  ·exact fun z => fk.2.2.2.2.1 _ _ ha z.symm
 exact ⟨m, hn.sameBut hs hCa, fun h' hs' => ⟨_, H', I''.junk fk hs', q⟩⟩
variable {tg2 iter2 : Expr} {ifs2 : List Expr} {wi2 : TI} {g2 : TG} {tt2 : TT}
theorem compTurn_list2 (elt target iter : Expr) (ifs : List Expr) (tg2 iter2 : Expr) (ifs2 : List Expr) (scope : Scope) (pos : Pos) (it acc : Value) (env : Env) :
  compTurn (.ListComp elt [⟨target, iter, ifs, 0⟩, ⟨tg2, iter2, ifs2, 0⟩] scope pos) 0 it acc env = (do
   standAt iter.pos
   match ← pyNext it with
   | none => pure (.done .next)
   | some v =>
    letOwnedTupleGo target it v
    assign target env v
    let mut ok := true
    for c in ifs do
     if ok = true then ok ← isTrue c env (eval c env)
    if ok then
     (do
      let x ← eval iter2 env
      standAt iter2.pos
      let x ← foldedSetIterable iter2 env x
      let _ ← runOwn (.compStart (.ListComp elt [⟨target, iter, ifs, 0⟩, ⟨tg2, iter2, ifs2, 0⟩] scope pos) 1 (← holding [x] (pyIter x)) acc env) env)
    again (.compLoop (.ListComp elt [⟨target, iter, ifs, 0⟩, ⟨tg2, iter2, ifs2, 0⟩] scope pos) 0 it acc env)) := by
 unfold compTurn
 simp only [List.getElem?_cons_zero, List.getElem?_cons_succ, Nat.zero_add, bind_assoc, pure_bind, bne_self_eq_false, Bool.false_eq_true, if_false]
 rfl
theorem ps_setc2 {i : Nat} {y : Str} (S : CompScope own fr scope sc) (hN : X.N.Nodup) (hy : X.N[i]? = some y) (hlc : X.env.scope.names.lookup y = some .local) (hi : PI X tg iter wi) (hg : ∀ cl s H C ex, PG (cxComp X scope cl (own ++ fr) s H C ex) tg g) (ht : ∀ cl s H C ex, PTs (cxComp X scope cl (own ++ fr) s H C ex) ifs tt)
  (hi2 : ∀ cl s H C ex, PI (cxComp X scope cl (own ++ fr) s H C ex) tg2 iter2 wi2) (hg2 : ∀ cl s H C ex, PG (cxComp X scope cl (own ++ fr) s H C ex) tg2 g2) (ht2 : ∀ cl s H C ex, PTs (cxComp X scope cl (own ++ fr) s H C ex) ifs2 tt2)
  (he : ∀ cl s H C ex, PE (cxComp X scope cl (own ++ fr) s H C ex) elt te) (hsw : swapsWith (.ListComp elt [⟨tg, iter, ifs, 0⟩, ⟨tg2, iter2, ifs2, 0⟩] scope pos) (some (.Name y py)) spos.line X.env = pure true := by rfl)
  (hsc : X.env.scope = sc := by rfl) (hps : ps.map (fun i => X.N[i]?) = fr.map some := by rfl) (hc : X.calm = true := by rfl) (hs : ∀ x, foldedSetIterable iter X.env x = pure x := by intro _; rfl)
  (hs2 : ∀ cl C x, foldedSetIterable iter2 (compEnvC scope cl C X.env) x = pure x := by intro _ _ _; rfl) :
  PS X (.Assign [.Name y py] (.ListComp elt [⟨tg, iter, ifs, 0⟩, ⟨tg2, iter2, ifs2, 0⟩] scope pos) spos) (tAsg (tComp wi own ps (tl2 g tt wi2 g2 tt2 te)) (gName i)) := by
 intro pins s σ H D I h
 obtain ⟨cl, ec, h1, h2⟩ := closureFor_ok (comp_has S hsc I)
 rw [show exec _ X.env = _ from exec_Assign_Name_used _ _ _ _ hsw]
 refine wpAny_bind (m := standAt _) (wpAny_standAt (wpAny_bind ?_))
 show wpAny _ X.A (do let _ ← comprehension (.ListComp elt [⟨tg, iter, ifs, 0⟩, ⟨tg2, iter2, ifs2, 0⟩] scope pos) scope X.env _ (newList []) false (eval iter X.env) (some (assign (.Name y py) X.env))) _ _ s
 refine wpAny_bind (wpAny_mono (wpAny_comprehension_free (use := some (assign (.Name y py) X.env)) (Q := fun _ s' => SP X pins D .next s') rfl hs ec S.kind S.names (thn (hi pins s σ H _ I h) fun v s1 q1 => thn q1 fun itv s2 q2 => ?_)) (fun _ s' hq => wpAny_pure (wpAny_pure hq)) fun _ _ e => e)
 obtain ⟨it, fp, tn, J, H2, e, I2, T, st2, f2, q⟩ := q2
 subst e
 exact comp_core (Q := fun v H' => D.nx (σ.set i (some v)) H') (R := fun acc C => compPost (model X.prog X.w) X.A X.xe (some (assign (.Name y py) X.env)) (fun _ s' => SP X pins D .next s') acc C) (tb := fun l D σ H => wi2 σ H fun J2 H1 => tLoop J2 g2 (tIfT tt2 (tEmit l te)) D σ H1) S hsc hps hc h1 h2 (fun env it acc => compTurn_list2 elt tg iter ifs tg2 iter2 ifs2 scope pos it acc env)
  (hg cl) (ht cl) (fun s H C ex l => pb_inner (Y := cxComp X scope cl (own ++ fr) s H C ex) rfl hc (hi2 cl s H C ex) (hg2 cl s H C ex) (ht2 cl s H C ex) (he cl s H C ex) (hs2 cl C)) I2 T st2 f2 q fun l C H' s' hm I' fk q' => store_use hN hy hlc hm I' fk q'
end
def FzL (K : PySem.W.Frag) (H : Hp) (a : Addr) (xs : List V) : Prop :=
 (∃ o, H a = some (.frz o (.lst xs))) ∨
  ∃ (o : Obj) (its : Array Value) (n : Nat), K.lookup a = some o ∧ o.cls = .type "list" ∧ o.dict = none ∧ o.data = .seq its n ∧ its.size ≤ sizeLine ∧ Vals xs its.toList
theorem FzL.sq {K : PySem.W.Frag} {H : Hp} {a : Addr} {xs : List V} (h : FzL K H a xs) : SqL K H a xs := by
 rcases h with ⟨o, h⟩ | h
 ·exact .inl (.inr ⟨o, h⟩)
 ·exact .inr h
structure Kd where
 K : PySem.W.Frag
 w : World
instance : Coe Kd PySem.W.Frag := ⟨Kd.K⟩
mutual
def hashD (w : World) : PyData → Int
 | .int i => hashInt i
 | .str x => hashStr w x
 | .tuple ds => reduceHash (Builtin.Tuple.tupleHashOf (hashA w ds))
 | _ => 0
def hashA (w : World) : List PyData → List Int
 | [] => []
 | d :: ds => hashD w d :: hashA w ds
end
mutual
def hkD : PyData → Bool
 | .int _ => true
 | .str _ => true
 | .tuple ds => hkA ds
 | _ => false
def hkA : List PyData → Bool
 | [] => true
 | d :: ds => hkD d && hkA ds
end
def isKd (kvs : List (PyData × PyData)) : Bool := kvs.all fun kv => match kv.1 with | .int _ => true | .str _ => true | _ => false
def KeysOk (kvs : List (PyData × PyData)) : Prop := isKd kvs = false ∧ (kvs.map (·.1)).Nodup ∧ ∀ k ∈ kvs.map (·.1), hkD k = true
def dXp (a : Addr) (es : List (Int × V × V)) (h : Heap) : Prop :=
 (a == sysModules) = false ∧ es.length ≤ sizeLine ∧ ∃ (o : Obj) (ents : Array DictEntry) (ep : Nat), h.get? a = some o ∧ o.ExactDict ∧ o.data = .dict ents ep ∧
  Paired (fun (e : Int × V × V) (d : DictEntry) => d.hash = e.1 ∧ RelV e.2.1 d.key ∧ RelV e.2.2 d.val) es ents.toList
abbrev dX (a : Addr) (es : List (Int × V × V)) : HO := .ext (dXp a es)
def FzD (H : Hp) (a : Addr) (es : List (Int × V × V)) : Prop := ∃ o, H a = some (.frz o (dX a es))
def ClsN (K : Kd) (c : Str) (C : Addr) : Prop := PySem.W.nsIn K.K mainGlobals c = some (some (.ref C))
def ExcAt (K : Kd) (H : Hp) (a : Addr) (c : Str) (xs : List (Str × V)) : Prop :=
 ∃ (o : Obj) (u : HO) (C : Addr), H a = some (.frz o u) ∧ o.cls = .ref C ∧ (∃ vs, o.data = .fields vs) ∧ ClsN K c C ∧ ((o.dict = none ∧ xs = []) ∨ ∃ (dx : Addr) (od : Obj), o.dict = some dx ∧ H dx = some (.frz od (.xd xs)))
def keyD : Key → PyData
 | .inl i => .int i
 | .inr x => .str x
def excC : List (PyData × PyData) → Option Str
 | (.none, .str c) :: _ => some c
 | _ => none
mutual
def Den (K : Kd) (H : Hp) : PyData → V → Prop
 | .none, v => v = .non
 | .bool b, v => v = .bl b
 | .int i, v => v = .int i
 | .str x, v => v = .str x
 | .list ds, v => ∃ a xs, v = .ref a ∧ FzL K H a xs ∧ DenAll K H ds xs
 | .tuple ds, v => ∃ a xs, v = .ref a ∧ SqT K H a xs ∧ DenAll K H ds xs
 | .dict kvs, v => ∃ a, v = .ref a ∧ ((∃ es, FzD H a es ∧ KeysOk kvs ∧ DenKV K H kvs es) ∨ (∃ es o, H a = some (.frz o (.dK es)) ∧ DenKK K H kvs es) ∨ ∃ c xs, excC kvs = some c ∧ ExcAt K H a c xs ∧ DenXF K H kvs xs)
def DenAll (K : Kd) (H : Hp) : List PyData → List V → Prop
 | [], xs => xs = []
 | d :: ds, xs => ∃ v vs, xs = v :: vs ∧ Den K H d v ∧ DenAll K H ds vs
def DenKV (K : Kd) (H : Hp) : List (PyData × PyData) → List (Int × V × V) → Prop
 | [], es => es = []
 | (k, d) :: r, es => ∃ u v vs, es = (hashD K.w k, u, v) :: vs ∧ Den K H k u ∧ Den K H d v ∧ DenKV K H r vs
def DenKK (K : Kd) (H : Hp) : List (PyData × PyData) → List (Key × V) → Prop
 | [], es => es = []
 | (k, d) :: r, es => ∃ kk v vs, es = (kk, v) :: vs ∧ (k = keyD kk ∧ ∀ x ∈ vs, x.1 ≠ kk) ∧ Den K H d v ∧ DenKK K H r vs
def DenXF (K : Kd) (H : Hp) : List (PyData × PyData) → List (Str × V) → Prop
 | [], xs => xs = []
 | (k, d) :: r, xs => match k with
  | .str f => ∃ v vs, xs = (f, v) :: vs ∧ Den K H d v ∧ DenXF K H r vs
  | _ => DenXF K H r xs
end
structure Pers (H H' : Hp) : Prop where
 tups : ∀ b xs, H b = some (.tup xs) → H' b = some (.tup xs)
 frzs : ∀ b o u, H b = some (.frz o u) → H' b = some (.frz o u)
theorem Pers.trans {H H1 H2 : Hp} (a : Pers H H1) (b : Pers H1 H2) : Pers H H2 := ⟨fun c xs e => b.tups c xs (a.tups c xs e), fun c o u e => b.frzs c o u (a.frzs c o u e)⟩
section
variable {K : Kd} {H H' : Hp}
theorem FzL.mono {a : Addr} {xs : List V} (p : Pers H H') (h : FzL K H a xs) : FzL K H' a xs := by
 rcases h with ⟨o, h⟩ | h
 ·exact .inl ⟨o, p.frzs _ _ _ h⟩
 ·exact .inr h
theorem SqT.mono {a : Addr} {xs : List V} (p : Pers H H') (h : SqT K H a xs) : SqT K H' a xs := by
 rcases h with (h | ⟨o, h⟩) | h
 ·exact .inl (.inl (p.tups _ _ h))
 ·exact .inl (.inr ⟨o, p.frzs _ _ _ h⟩)
 ·exact .inr h
mutual
theorem Den.mono (p : Pers H H') : ∀ {d : PyData} {v : V}, Den K H d v → Den K H' d v
 | .none, _, h => h
 | .bool _, _, h => h
 | .int _, _, h => h
 | .str _, _, h => h
 | .list ds, _, h => by
  simp only [Den] at h ⊢
  obtain ⟨a, xs, e, f, g⟩ := h
  exact ⟨a, xs, e, f.mono p, DenAll.mono p g⟩
 | .tuple ds, _, h => by
  simp only [Den] at h ⊢
  obtain ⟨a, xs, e, f, g⟩ := h
  exact ⟨a, xs, e, f.mono p, DenAll.mono p g⟩
 | .dict kvs, _, h => by
  simp only [Den] at h ⊢
  obtain ⟨a, e, h⟩ := h
  refine ⟨a, e, ?_⟩
  rcases h with ⟨es, ⟨o, f⟩, kk, g⟩ | ⟨es, o, f, g⟩ | ⟨c, xs, ec, ⟨o, u, C, f1, f2, f0, f3, f4⟩, g⟩
  ·exact .inl ⟨es, ⟨o, p.frzs _ _ _ f⟩, kk, DenKV.mono p g⟩
  ·exact .inr (.inl ⟨es, o, p.frzs _ _ _ f, DenKK.mono p g⟩)
  ·refine .inr <| .inr ⟨c, xs, ec, ⟨o, u, C, p.frzs _ _ _ f1, f2, f0, f3, ?_⟩, DenXF.mono p g⟩
   rcases f4 with f4 | ⟨dx, od, f5, f6⟩
   ·exact .inl f4
   ·exact .inr ⟨dx, od, f5, p.frzs _ _ _ f6⟩
theorem DenAll.mono (p : Pers H H') : ∀ {ds : List PyData} {xs : List V}, DenAll K H ds xs → DenAll K H' ds xs
 | [], _, h => h
 | d :: ds, _, h => by
  simp only [DenAll] at h ⊢
  obtain ⟨v, vs, e, f, g⟩ := h
  exact ⟨v, vs, e, Den.mono p f, DenAll.mono p g⟩
theorem DenKV.mono (p : Pers H H') : ∀ {ds : List (PyData × PyData)} {xs : List (Int × V × V)}, DenKV K H ds xs → DenKV K H' ds xs
 | [], _, h => by simpa only [DenKV] using h
 | (k, d) :: r, _, h => by
  simp only [DenKV] at h ⊢
  obtain ⟨u, v, vs, e, f1, f2, g⟩ := h
  exact ⟨u, v, vs, e, Den.mono p f1, Den.mono p f2, DenKV.mono p g⟩
theorem DenKK.mono (p : Pers H H') : ∀ {ds : List (PyData × PyData)} {xs : List (Key × V)}, DenKK K H ds xs → DenKK K H' ds xs
 | [], _, h => by simpa only [DenKK] using h
 | (k, d) :: r, _, h => by
  simp only [DenKK] at h ⊢
  obtain ⟨u, v, vs, e, f1, f2, g⟩ := h
  exact ⟨u, v, vs, e, f1, Den.mono p f2, DenKK.mono p g⟩
theorem DenXF.mono (p : Pers H H') : ∀ {ds : List (PyData × PyData)} {xs : List (Str × V)}, DenXF K H ds xs → DenXF K H' ds xs
 | [], _, h => by simpa only [DenXF] using h
 | (.str f, d) :: r, _, h => by
  simp only [DenXF] at h ⊢
  obtain ⟨v, vs, e, f1, g⟩ := h
  exact ⟨v, vs, e, Den.mono p f1, DenXF.mono p g⟩
 | (.none, d) :: r, _, h => by simp only [DenXF] at h ⊢; exact DenXF.mono p h
 | (.bool _, d) :: r, _, h => by simp only [DenXF] at h ⊢; exact DenXF.mono p h
 | (.int _, d) :: r, _, h => by simp only [DenXF] at h ⊢; exact DenXF.mono p h
 | (.list _, d) :: r, _, h => by simp only [DenXF] at h ⊢; exact DenXF.mono p h
 | (.tuple _, d) :: r, _, h => by simp only [DenXF] at h ⊢; exact DenXF.mono p h
 | (.dict _, d) :: r, _, h => by simp only [DenXF] at h ⊢; exact DenXF.mono p h
end
theorem DenAll.nil : DenAll K H [] [] := by simp only [DenAll]
theorem DenAll.cons {d : PyData} {ds : List PyData} {v : V} {vs : List V} (h : Den K H d v) (t : DenAll K H ds vs) : DenAll K H (d :: ds) (v :: vs) := by
 simp only [DenAll]; exact ⟨v, vs, rfl, h, t⟩
theorem DenAll.paired : ∀ {ds : List PyData} {xs : List V}, DenAll K H ds xs → Paired (Den K H) ds xs
 | [], _, h => by simp only [DenAll] at h; subst h; exact .nil
 | d :: ds, _, h => by
  simp only [DenAll] at h
  obtain ⟨v, vs, e, f, g⟩ := h
  subst e
  exact .cons f g.paired
theorem denAll_of : ∀ {ds : List PyData} {xs : List V}, Paired (Den K H) ds xs → DenAll K H ds xs
 | _, _, .nil => DenAll.nil
 | _, _, .cons f t => DenAll.cons f (denAll_of t)
theorem DenAll.length {ds : List PyData} {xs : List V} (h : DenAll K H ds xs) : ds.length = xs.length := h.paired.length
theorem Paired.get' {α β : Type} {F : α → β → Prop} : ∀ {l₁ : List α} {l₂ : List β} {i : Nat} {a : α}, Paired F l₁ l₂ → l₁[i]? = some a → ∃ b, l₂[i]? = some b ∧ F a b
 | _, _, _, _, .nil, e => by simp at e
 | _, _, 0, _, .cons f _, e => by simp at e; subst e; exact ⟨_, rfl, f⟩
 | _, _, i + 1, a, .cons _ t, e => by
  obtain ⟨b, h1, h2⟩ := Paired.get' (i := i) (a := a) t (by simpa using e)
  exact ⟨b, by simpa using h1, h2⟩
theorem DenAll.get {ds : List PyData} {xs : List V} {i : Nat} {d : PyData} (h : DenAll K H ds xs) (e : ds[i]? = some d) : ∃ v, xs[i]? = some v ∧ Den K H d v := Paired.get' h.paired e
theorem Paired.get2 {α β : Type} {F : α → β → Prop} : ∀ {l₁ : List α} {l₂ : List β} {i : Nat} {b : β}, Paired F l₁ l₂ → l₂[i]? = some b → ∃ a, l₁[i]? = some a ∧ F a b
 | _, _, _, _, .nil, e => by simp at e
 | _, _, 0, _, .cons f _, e => by simp at e; subst e; exact ⟨_, rfl, f⟩
 | _, _, i + 1, b, .cons _ t, e => by
  obtain ⟨a, h1, h2⟩ := Paired.get2 (i := i) (b := b) t (by simpa using e)
  exact ⟨a, by simpa using h1, h2⟩
theorem DenAll.get2 {ds : List PyData} {xs : List V} {i : Nat} {v : V} (h : DenAll K H ds xs) (e : xs[i]? = some v) : ∃ d, ds[i]? = some d ∧ Den K H d v := Paired.get2 h.paired e
theorem Paired.append' {α β : Type} {F : α → β → Prop} : ∀ {a b : List α} {c d : List β}, Paired F a c → Paired F b d → Paired F (a ++ b) (c ++ d)
 | _, _, _, _, .nil, s => s
 | _, _, _, _, .cons r t, s => .cons r (Paired.append' t s)
theorem DenAll.append {ds es : List PyData} {xs ys : List V} (h : DenAll K H ds xs) (g : DenAll K H es ys) : DenAll K H (ds ++ es) (xs ++ ys) := denAll_of (Paired.append' h.paired g.paired)
theorem Paired.set' {α β : Type} {F : α → β → Prop} {a : α} {b : β} (f : F a b) : ∀ {l₁ : List α} {l₂ : List β} (i : Nat), Paired F l₁ l₂ → Paired F (l₁.set i a) (l₂.set i b)
 | _, _, _, .nil => .nil
 | _, _, 0, .cons _ t => .cons f t
 | _, _, i + 1, .cons q t => .cons q (Paired.set' f i t)
theorem DenAll.set {ds : List PyData} {xs : List V} {d : PyData} {v : V} (h : DenAll K H ds xs) (f : Den K H d v) (i : Nat) : DenAll K H (ds.set i d) (xs.set i v) := denAll_of (Paired.set' f i h.paired)
theorem Paired.take' {α β : Type} {F : α → β → Prop} : ∀ {l₁ : List α} {l₂ : List β} (n : Nat), Paired F l₁ l₂ → Paired F (l₁.take n) (l₂.take n)
 | _, _, 0, _ => .nil
 | _, _, _ + 1, .nil => .nil
 | _, _, n + 1, .cons r t => .cons r (Paired.take' n t)
theorem Paired.drop' {α β : Type} {F : α → β → Prop} : ∀ {l₁ : List α} {l₂ : List β} (n : Nat), Paired F l₁ l₂ → Paired F (l₁.drop n) (l₂.drop n)
 | _, _, 0, h => h
 | _, _, _ + 1, .nil => .nil
 | _, _, n + 1, .cons _ t => Paired.drop' n t
theorem DenAll.take {ds : List PyData} {xs : List V} (h : DenAll K H ds xs) (n : Nat) : DenAll K H (ds.take n) (xs.take n) := denAll_of (Paired.take' n h.paired)
theorem DenAll.drop {ds : List PyData} {xs : List V} (h : DenAll K H ds xs) (n : Nat) : DenAll K H (ds.drop n) (xs.drop n) := denAll_of (Paired.drop' n h.paired)
theorem Paired.erase' {α β : Type} {F : α → β → Prop} : ∀ {l₁ : List α} {l₂ : List β} (n : Nat), Paired F l₁ l₂ → Paired F (l₁.eraseIdx n) (l₂.eraseIdx n)
 | _, _, _, .nil => by simp; exact .nil
 | _, _, 0, .cons _ t => t
 | _, _, n + 1, .cons r t => .cons r (Paired.erase' n t)
theorem DenAll.eraseIdx {ds : List PyData} {xs : List V} (h : DenAll K H ds xs) (n : Nat) : DenAll K H (ds.eraseIdx n) (xs.eraseIdx n) := denAll_of (Paired.erase' n h.paired)
theorem DenAll.ints : ∀ ns : List Int, DenAll K H (ns.map .int) (ns.map V.int)
 | [] => DenAll.nil
 | n :: ns => DenAll.cons (by simp only [Den]) (DenAll.ints ns)
end
def fzOf : List (PyData × PyData) → Option PyData
 | [(.none, .list ds)] => some (.list ds)
 | [(.none, .dict es)] => some (.dict es)
 | _ => none
mutual
def TAt (K : Kd) (H : Hp) (τ : List (List Nat × Addr)) (p : List Nat) : PyData → V → Prop
 | .list ts, v => ∃ a xs, τ.lookup p = some a ∧ v = .ref a ∧ H a = some (.lst xs) ∧ TAtL K H τ p 0 ts xs
 | .dict kvs, v => (∃ d, fzOf kvs = some d ∧ Den K H d v) ∨
   (fzOf kvs = none ∧ excC kvs = none ∧ ∃ a es, τ.lookup p = some a ∧ v = .ref a ∧ H a = some (dX a es) ∧ KeysOk kvs ∧ TAtD K H τ p 0 kvs es) ∨
   (fzOf kvs = none ∧ excC kvs = none ∧ ∃ a es, τ.lookup p = some a ∧ v = .ref a ∧ H a = some (.dK es) ∧ TAtK K H τ p 0 kvs es) ∨
   ∃ c a dx C xs, excC kvs = some c ∧ τ.lookup p = some a ∧ v = .ref a ∧ H a = some (.ins C dx xs) ∧ ClsN K c C ∧ TAtF K H τ p 0 kvs xs
 | .none, v => Den K H .none v
 | .bool b, v => Den K H (.bool b) v
 | .int i, v => Den K H (.int i) v
 | .str x, v => Den K H (.str x) v
 | .tuple ds, v => Den K H (.tuple ds) v
def TAtL (K : Kd) (H : Hp) (τ : List (List Nat × Addr)) (p : List Nat) (i : Nat) : List PyData → List V → Prop
 | [], xs => xs = []
 | t :: ts, xs => ∃ v vs, xs = v :: vs ∧ TAt K H τ (p ++ [i]) t v ∧ TAtL K H τ p (i + 1) ts vs
def TAtD (K : Kd) (H : Hp) (τ : List (List Nat × Addr)) (p : List Nat) (i : Nat) : List (PyData × PyData) → List (Int × V × V) → Prop
 | [], es => es = []
 | (k, t) :: r, es => ∃ u v vs, es = (hashD K.w k, u, v) :: vs ∧ Den K H k u ∧ TAt K H τ (p ++ [i]) t v ∧ TAtD K H τ p (i + 1) r vs
def TAtK (K : Kd) (H : Hp) (τ : List (List Nat × Addr)) (p : List Nat) (i : Nat) : List (PyData × PyData) → List (Key × V) → Prop
 | [], es => es = []
 | (k, t) :: r, es => ∃ kk v vs, es = (kk, v) :: vs ∧ (k = keyD kk ∧ ∀ x ∈ vs, x.1 ≠ kk) ∧ TAt K H τ (p ++ [i]) t v ∧ TAtK K H τ p (i + 1) r vs
def TAtF (K : Kd) (H : Hp) (τ : List (List Nat × Addr)) (p : List Nat) (i : Nat) : List (PyData × PyData) → List (Str × V) → Prop
 | [], xs => xs = []
 | (k, t) :: r, xs => match k with
  | .str f => ∃ v vs, xs = (f, v) :: vs ∧ TAt K H τ (p ++ [i]) t v ∧ TAtF K H τ p (i + 1) r vs
  | .none => TAtF K H τ p (i + 1) r xs
  | _ => False
end
theorem mem_of_look {β γ : Type} [BEq β] [LawfulBEq β] {l : List (β × γ)} {p : β} {a : γ} (h : l.lookup p = some a) : a ∈ l.map (·.2) := by
 induction l with
 | nil => cases h
 | cons x l ih =>
  rw [List.lookup_cons] at h
  split at h
  ·cases h; simp
  ·exact List.mem_map.mpr (let ⟨y, h1, h2⟩ := List.mem_map.mp (ih h); ⟨y, List.mem_cons_of_mem _ h1, h2⟩)
section
variable {K : Kd} {H H' : Hp} {τ : List (List Nat × Addr)}
mutual
theorem TAt.mono (pe : Pers H H') (e : ∀ a ∈ τ.map (·.2), H' a = H a) : ∀ {d : PyData} {p : List Nat} {v : V}, TAt K H τ p d v → TAt K H' τ p d v
 | .none, _, _, h => by simp only [TAt] at h ⊢; exact h.mono pe
 | .bool _, _, _, h => by simp only [TAt] at h ⊢; exact h.mono pe
 | .int _, _, _, h => by simp only [TAt] at h ⊢; exact h.mono pe
 | .str _, _, _, h => by simp only [TAt] at h ⊢; exact h.mono pe
 | .tuple _, _, _, h => by simp only [TAt] at h ⊢; exact h.mono pe
 | .list ts, _, _, h => by
  simp only [TAt] at h ⊢
  obtain ⟨a, xs, e1, e2, e3, g⟩ := h
  exact ⟨a, xs, e1, e2, (e a (mem_of_look e1)).trans e3, TAtL.mono pe e g⟩
 | .dict kvs, _, _, h => by
  simp only [TAt] at h ⊢
  rcases h with ⟨d, e1, h⟩ | ⟨z1, z2, a, es, e1, e2, e3, k, g⟩ | ⟨z1, z2, a, es, e1, e2, e3, g⟩ | ⟨c, a, dx, C, xs, e0, e1, e2, e3, k, g⟩
  ·exact .inl ⟨d, e1, h.mono pe⟩
  ·exact .inr (.inl ⟨z1, z2, a, es, e1, e2, (e a (mem_of_look e1)).trans e3, k, TAtD.mono pe e g⟩)
  ·exact .inr (.inr (.inl ⟨z1, z2, a, es, e1, e2, (e a (mem_of_look e1)).trans e3, TAtK.mono pe e g⟩))
  ·exact .inr (.inr <| .inr ⟨c, a, dx, C, xs, e0, e1, e2, (e a (mem_of_look e1)).trans e3, k, TAtF.mono pe e g⟩)
theorem TAtL.mono (pe : Pers H H') (e : ∀ a ∈ τ.map (·.2), H' a = H a) : ∀ {ds : List PyData} {p : List Nat} {i : Nat} {xs : List V}, TAtL K H τ p i ds xs → TAtL K H' τ p i ds xs
 | [], _, _, _, h => by simpa only [TAtL] using h
 | t :: ts, _, _, _, h => by
  simp only [TAtL] at h ⊢
  obtain ⟨v, vs, e1, g1, g2⟩ := h
  exact ⟨v, vs, e1, TAt.mono pe e g1, TAtL.mono pe e g2⟩
theorem TAtD.mono (pe : Pers H H') (e : ∀ a ∈ τ.map (·.2), H' a = H a) : ∀ {ds : List (PyData × PyData)} {p : List Nat} {i : Nat} {xs : List (Int × V × V)}, TAtD K H τ p i ds xs → TAtD K H' τ p i ds xs
 | [], _, _, _, h => by simpa only [TAtD] using h
 | (k, t) :: r, _, _, _, h => by
  simp only [TAtD] at h ⊢
  obtain ⟨u, v, vs, e1, g0, g1, g2⟩ := h
  exact ⟨u, v, vs, e1, g0.mono pe, TAt.mono pe e g1, TAtD.mono pe e g2⟩
theorem TAtK.mono (pe : Pers H H') (e : ∀ a ∈ τ.map (·.2), H' a = H a) : ∀ {ds : List (PyData × PyData)} {p : List Nat} {i : Nat} {xs : List (Key × V)}, TAtK K H τ p i ds xs → TAtK K H' τ p i ds xs
 | [], _, _, _, h => by simpa only [TAtK] using h
 | (k, t) :: r, _, _, _, h => by
  simp only [TAtK] at h ⊢
  obtain ⟨u, v, vs, e1, g0, g1, g2⟩ := h
  exact ⟨u, v, vs, e1, g0, TAt.mono pe e g1, TAtK.mono pe e g2⟩
theorem TAtF.mono (pe : Pers H H') (e : ∀ a ∈ τ.map (·.2), H' a = H a) : ∀ {ds : List (PyData × PyData)} {p : List Nat} {i : Nat} {xs : List (Str × V)}, TAtF K H τ p i ds xs → TAtF K H' τ p i ds xs
 | [], _, _, _, h => by simpa only [TAtF] using h
 | (.str f, t) :: r, _, _, _, h => by
  simp only [TAtF] at h ⊢
  obtain ⟨v, vs, e1, g1, g2⟩ := h
  exact ⟨v, vs, e1, TAt.mono pe e g1, TAtF.mono pe e g2⟩
 | (.none, d) :: r, _, _, _, h => by simp only [TAtF] at h ⊢; exact TAtF.mono pe e h
 | (.bool _, d) :: r, _, _, _, h => by simp only [TAtF] at h
 | (.int _, d) :: r, _, _, _, h => by simp only [TAtF] at h
 | (.list _, d) :: r, _, _, _, h => by simp only [TAtF] at h
 | (.tuple _, d) :: r, _, _, _, h => by simp only [TAtF] at h
 | (.dict _, d) :: r, _, _, _, h => by simp only [TAtF] at h
end
end
abbrev Cx.kd (X : Cx) : Kd := ⟨X.K, X.w⟩
section
variable {X : Cx} {pins : List (Addr × Obj)} {σ : St} {H : Hp} {s : Shared}
mutual
theorem Den.reads (I : Inv X pins σ H s) : ∀ {d : PyData} {v : V} {u : Value}, d.hasDict = false → Den X.kd H d v → RelV v u → ∃ as, Reads s.heap u d as
 | .none, v, u, _, h, r => by simp only [Den] at h; subst h; cases r; exact ⟨_, .none⟩
 | .bool b, v, u, nd, h, r => by simp only [Den] at h; subst h; cases r; exact ⟨_, .bool b⟩
 | .int i, v, u, nd, h, r => by simp only [Den] at h; subst h; obtain ⟨t, rfl⟩ := r; exact ⟨_, .int i t⟩
 | .str x, v, u, nd, h, r => by simp only [Den] at h; subst h; obtain ⟨t, rfl⟩ := r; exact ⟨_, .str x t⟩
 | .list ds, v, u, nd, h, r => by
  simp only [Den] at h
  obtain ⟨a, xs, rfl, f, g⟩ := h
  cases r
  obtain ⟨its, rv, ⟨o, n, e, c, _, dd⟩, _⟩ := I.list f.sq
  obtain ⟨as, h2⟩ := DenAll.reads I (by simpa only [PyData.hasDict] using nd) g rv
  exact ⟨_, .list e c dd (by simpa using h2)⟩
 | .tuple ds, v, u, nd, h, r => by
  simp only [Den] at h
  obtain ⟨a, xs, rfl, f, g⟩ := h
  cases r
  obtain ⟨its, rv, ⟨o, e, c, n, dd⟩, _⟩ := I.tuple f
  obtain ⟨as, h2⟩ := DenAll.reads I (by simpa only [PyData.hasDict] using nd) g rv
  exact ⟨_, .tuple e c dd (by simpa using h2)⟩
 | .dict _, v, u, nd, h, r => by simp [PyData.hasDict] at nd
theorem DenAll.reads (I : Inv X pins σ H s) : ∀ {ds : List PyData} {xs : List V} {us : List Value}, PyData.hasDictAll ds = false → DenAll X.kd H ds xs → Vals xs us → ∃ as, ReadsAll s.heap us ds as
 | [], xs, us, _, h, r => by simp only [DenAll] at h; subst h; cases r; exact ⟨_, .nil⟩
 | d :: ds, xs, us, nd, h, r => by
  simp only [PyData.hasDictAll, Bool.or_eq_false_iff] at nd
  simp only [DenAll] at h
  obtain ⟨v, vs, rfl, f, g⟩ := h
  cases r with
  | cons r1 r2 =>
   obtain ⟨a1, h1⟩ := Den.reads I nd.1 f r1
   obtain ⟨a2, h2⟩ := DenAll.reads I nd.2 g r2
   exact ⟨_, .cons h1 h2⟩
end
theorem Inv.freeze {a : Addr} {xs : List V} (I : Inv X pins σ H s) (h : H a = some (.lst xs)) : ∃ o, Inv X pins σ (upd H a (.frz o (.lst xs))) s := by
 obtain ⟨hz, its, n, rv, e⟩ := I.hok a _ h
 refine ⟨{ cls := .type "list", data := .seq its.toArray n }, I.un (h' := s.heap) (t' := s.toks) ⟨fun b ob q _ _ _ => q, fun b ob q _ _ _ => ⟨ob.slots, q⟩, fun b ob q z _ => ?_, fun b ob q _ => ⟨ob, q⟩, fun b ys q => ?_, fun b ob u q => ?_, fun b ps q => ⟨#[], ?_⟩⟩ fun b ob q => ?_⟩
 ·rw [upd_ne (Ne.symm (ne_of_none h z))]; exact z
 ·rw [upd_ne (ne_of q h (by intro z; cases z))]; exact q
 ·rw [upd_ne (ne_of q h (by intro z; cases z))]; exact q
 ·rw [upd_ne (ne_of q h (by intro z; cases z)), q]; simp
 ·by_cases hb : b = a
  ·subst hb
   rw [upd_same] at q
   cases q
   exact ⟨e, hz, its, n, rv, e⟩
  ·rw [upd_ne hb] at q
   exact (I.hok b ob q).stay (fun _ _ _ z => z) (fun c z => by rw [upd_ne (ne_of z h (by intro z; cases z))]; exact z) fun c ys z => by rw [upd_ne (ne_of z h (by intro z; cases z))]; exact z
end
def isStar : Expr → Bool
 | .Starred .. => true
 | _ => false
theorem star_cons {e : Expr} {es : List Expr} {env : Env} (h : isStar e = false) : starEach (e :: es) env = (false, eval e env) :: starEach es env := by
 cases e <;> first | rfl | cases h
theorem star_one {e : Expr} {env : Env} (h : isStar e = false) : starEach [e] env = [(false, eval e env)] := star_cons h
inductive R where
 | imm (d : PyData) | obj (k : Nat) | new (ds : List PyData) | at (k : Nat) (p : List Nat) | newT (t : PyData)
structure MSt where
 vs : List (Option R)
 os : List (List PyData)
 np : Nat
structure Kx extends Kd where
 eb : EB
instance : Coe Kx Kd := ⟨Kx.toKd⟩
abbrev Cx.kx (X : Cx) : Kx := ⟨X.kd, X.eb⟩
abbrev Al := List Ao
def Ao.ads : Ao → List Addr
 | .L a => [a]
 | .T t => t.map (·.2)
def ads (α : Al) : List Addr := α.flatMap Ao.ads
theorem ads_append (α β : Al) : ads (α ++ β) = ads α ++ ads β := by unfold ads; rw [List.flatMap_append]
def Mu : HO → Bool
 | .tup _ => false
 | .frz _ _ => false
 | _ => true
def OwnAt (K : Kd) (H : Hp) : Ao → List PyData → Prop
 | .L a, ds => ∃ xs, H a = some (.lst xs) ∧ DenAll K H ds xs
 | .T τ, ds => (∃ t v, ds = [t] ∧ TAt K H τ [] t v ∧ ∃ a, τ.lookup [] = some a ∧ v = .ref a) ∧ ∀ a ∈ τ.map (·.2), ∃ o, H a = some o ∧ Mu o = true
theorem OwnAt.mem {K : Kd} {H : Hp} {ao : Ao} {ds : List PyData} (h : OwnAt K H ao ds) {a : Addr} (ha : a ∈ ao.ads) : ∃ o, H a = some o ∧ Mu o = true := by
 cases ao with
 | L b => cases List.mem_singleton.mp ha; obtain ⟨xs, e, _⟩ := h; exact ⟨_, e, rfl⟩
 | T τ => exact h.2 a ha
theorem OwnAt.mono {K : Kd} {H H' : Hp} {ao : Ao} {ds : List PyData} (h : OwnAt K H ao ds) (pe : Pers H H') (e : ∀ a ∈ ao.ads, H' a = H a) : OwnAt K H' ao ds := by
 cases ao with
 | L b =>
  obtain ⟨xs, q, g⟩ := h
  exact ⟨xs, (e b (List.mem_singleton.mpr rfl)).trans q, g.mono pe⟩
 | T τ =>
  obtain ⟨⟨t, v, e1, g, r⟩, m⟩ := h
  exact ⟨⟨t, v, e1, g.mono pe e, r⟩, fun a ha => by rw [e a ha]; exact m a ha⟩
def RelS (K : Kd) (α : Al) (H : Hp) : R → V → Prop
 | .imm d, v => Den K H d v
 | .obj k, v => ∃ a, α[k]? = some (.L a) ∧ v = .ref a
 | .at k p, v => ∃ τ a, α[k]? = some (.T τ) ∧ τ.lookup p = some a ∧ v = .ref a
 | .new _, _ => False
 | .newT _, _ => False
def RelR (K : Kd) (α : Al) (Hb H : Hp) : R → V → Prop
 | .imm d, v => Den K H d v
 | .obj k, v => ∃ a, α[k]? = some (.L a) ∧ v = .ref a
 | .at k p, v => ∃ τ a, α[k]? = some (.T τ) ∧ τ.lookup p = some a ∧ v = .ref a
 | .new ds, v => ∃ a xs, v = .ref a ∧ Hb a = none ∧ H a = some (.lst xs) ∧ DenAll K H ds xs
 | .newT t, v => ∃ τ a, v = .ref a ∧ τ.lookup [] = some a ∧ (τ.map (·.2)).Nodup ∧ (∀ b ∈ τ.map (·.2), Hb b = none) ∧ OwnAt K H (.T τ) [t]
def Frm (α : Al) (H H' : Hp) : Prop := ∀ b o, H b = some o → b ∉ ads α → H' b = some o
theorem Frm.refl (α : Al) (H : Hp) : Frm α H H := fun _ _ e _ => e
theorem Frm.trans {α : Al} {H H1 H2 : Hp} (a : Frm α H H1) (b : Frm α H1 H2) : Frm α H H2 := fun c o e n => b c o (a c o e n) n
structure Ext (np : Nat) (α : Al) (H : Hp) (α' : Al) (H' : Hp) : Prop where
 pre : α'.take np = α.take np
 frm : Frm α H H'
 new : ∀ a ∈ ads α', a ∈ ads α ∨ H a = none
 old : ∀ a ∈ ads α, ∃ o, H' a = some o
theorem Ext.trans {np : Nat} {α α1 α2 : Al} {H H1 H2 : Hp} (x : Ext np α H α1 H1) (y : Ext np α1 H1 α2 H2) : Ext np α H α2 H2 := by
 have out : ∀ b o, H b = some o → b ∉ ads α → b ∉ ads α1 := fun b o e n hb => by
  rcases x.new b hb with z | z
  ·exact n z
  ·rw [e] at z; cases z
 refine ⟨y.pre.trans x.pre, fun b o e n => y.frm b o (x.frm b o e n) (out b o e n), fun a ha => ?_, fun a ha => ?_⟩
 ·rcases y.new a ha with z | z
  ·exact x.new a z
  ·cases q : H a with
   | none => exact .inr rfl
   | some o =>
    by_cases hm : a ∈ ads α
    ·exact .inl hm
    ·have := x.frm a o q hm
     rw [z] at this; cases this
 ·obtain ⟨o, e⟩ := x.old a ha
  by_cases hm : a ∈ ads α1
  ·exact y.old a hm
  ·exact ⟨o, y.frm a o e hm⟩
theorem Ext.nil {np : Nat} {α α1 : Al} {H H1 : Hp} (x : Ext np α H α1 H1) {a : Addr} (h : H1 a = none) : H a = none := by
 cases q : H a with
 | none => rfl
 | some o =>
  by_cases hm : a ∈ ads α
  ·obtain ⟨o', e⟩ := x.old a hm
   rw [h] at e; cases e
  ·have := x.frm a o q hm
   rw [h] at this; cases this
theorem Ext.less {np n1 : Nat} {α α' : Al} {H H' : Hp} (x : Ext n1 α H α' H') (h : np ≤ n1) : Ext np α H α' H' := by
 refine ⟨?_, x.frm, x.new, x.old⟩
 have := congrArg (List.take np) x.pre
 rw [List.take_take, List.take_take, Nat.min_eq_left h] at this
 exact this
structure Rel (K : Kx) (α : Al) (m : MSt) (σ : St) (H : Hp) : Prop where
 nd : (ads α).Nodup
 len : α.length = m.os.length
 own : ∀ (k : Nat) (ao : Ao) (ds : List PyData), α[k]? = some ao → m.os[k]? = some ds → OwnAt K H ao ds
 vlen : σ.length = m.vs.length
 var : ∀ (i : Nat) (r : R), m.vs[i]? = some (some r) → ∃ v, σ[i]? = some (some v) ∧ RelS K α H r v
 npl : m.np ≤ α.length
 ebl : K.eb.np ≤ m.np
 ebx : Ext K.eb.np K.eb.be K.eb.H α H
section
variable {K : Kx} {α : Al} {m m' : MSt} {σ : St} {H H0 H1 H' : Hp} {r : R} {v : V}
theorem RelS.rr {K : Kd} {Hb : Hp} (h : RelS K α H r v) : RelR K α Hb H r v := by
 cases r with
 | imm d => exact h
 | obj k => exact h
 | «at» k p => exact h
 | new ds => exact h.elim
 | newT t => exact h.elim
theorem Rel.mem (R : Rel K α m σ H) {a : Addr} (ha : a ∈ ads α) : ∃ o, H a = some o ∧ Mu o = true := by
 obtain ⟨ao, h1, h2⟩ := List.mem_flatMap.mp ha
 obtain ⟨k, hk, e⟩ := List.mem_iff_getElem.mp h1
 have h1 : α[k]? = some ao := by rw [List.getElem?_eq_getElem hk, e]
 have h2' : m.os[k]? = some (m.os[k]'(by rw [← R.len]; exact hk)) := List.getElem?_eq_getElem _
 exact (R.own k ao _ h1 h2').mem h2
theorem Rel.out (R : Rel K α m σ H) {a : Addr} (h : H a = none) : a ∉ ads α := fun ha => by
 obtain ⟨xs, q, _⟩ := R.mem ha
 rw [h] at q; cases q
theorem Rel.pers (R : Rel K α m σ H) (F : Frm α H H') : Pers H H' where
 tups := fun b xs e => F b _ e fun ha => by obtain ⟨ys, q, z⟩ := R.mem ha; rw [e] at q; cases q; cases z
 frzs := fun b o u e => F b _ e fun ha => by obtain ⟨ys, q, z⟩ := R.mem ha; rw [e] at q; cases q; cases z
theorem Ext.of {np : Nat} (R : Rel K α m σ H') (F : Frm α H H') : Ext np α H α H' :=
 ⟨rfl, F, fun _ h => .inl h, fun a ha => let ⟨xs, q, _⟩ := R.mem ha; ⟨_, q⟩⟩
theorem OwnAt.keep {K : Kd} {ao : Ao} {ds : List PyData} (h : OwnAt K H1 ao ds) (pe : Pers H1 H) (F : Frm α H1 H) (n : ∀ b ∈ ao.ads, b ∉ ads α) : OwnAt K H ao ds :=
 h.mono pe fun a ha => by
  obtain ⟨o, e, _⟩ := h.mem ha
  rw [e]; exact F a o e (n a ha)
theorem RelR.keep (R0 : Rel K α m σ H0) (R1 : Rel K α m' σ H1) (F : Frm α H1 H) (h : RelR K α H0 H1 r v) : RelR K α H0 H r v := by
 cases r with
 | imm d => exact Den.mono (R1.pers F) h
 | obj k => exact h
 | «at» k p => exact h
 | new ds =>
  obtain ⟨a, xs, e, n, q, g⟩ := h
  exact ⟨a, xs, e, n, F a _ q (R0.out n), g.mono (R1.pers F)⟩
 | newT t =>
  obtain ⟨τ, a, e, e1, nd, n, g⟩ := h
  exact ⟨τ, a, e, e1, nd, n, g.keep (R1.pers F) F fun b hb => R0.out (n b hb)⟩
theorem RelR.base (R : Rel K α m σ H) (F : Frm α H0 H) (h : RelR K α H H' r v) : RelR K α H0 H' r v := by
 have old : ∀ a, H a = none → H0 a = none := fun a n => by
  cases z : H0 a with
  | none => rfl
  | some o =>
   have := F a o z (R.out n)
   rw [n] at this; cases this
 cases r with
 | imm d => exact h
 | obj k => exact h
 | «at» k p => exact h
 | new ds =>
  obtain ⟨a, xs, e, n, q, g⟩ := h
  exact ⟨a, xs, e, old a n, q, g⟩
 | newT t =>
  obtain ⟨τ, a, e, e1, nd, n, g⟩ := h
  exact ⟨τ, a, e, e1, nd, fun b hb => old b (n b hb), g⟩
def chD : PyData → Nat → Option PyData
 | .list ts, i => ts[i]?
 | .dict kvs, i => match kvs[i]? with
  | some (.none, _) => none
  | some (_, t) => some t
  | none => none
 | _, _ => none
def getT : PyData → List Nat → Option PyData
 | t, [] => some t
 | t, i :: p => (chD t i).bind fun t' => getT t' p
def leafD : PyData → Option PyData
 | .list _ => none
 | .dict kvs => fzOf kvs
 | d => some d
def leavesD : List PyData → Option (List PyData)
 | [] => some []
 | t :: ts => match leafD t, leavesD ts with | some d, some ds => some (d :: ds) | _, _ => none
def ndL (m : MSt) (k : Nat) (p : List Nat) : Option (List PyData) := match m.os[k]? with
 | some [t] => match getT t p with
  | some (.list ts) => leavesD ts
  | _ => none
 | _ => none
theorem leaf_den {K : Kd} {τ : List (List Nat × Addr)} {p : List Nat} {t d : PyData} (h : TAt K H τ p t v) (e : leafD t = some d) : Den K H d v := by
 cases t with
 | list ts => cases e
 | dict kvs =>
  have e' : fzOf kvs = some d := e
  simp only [TAt] at h
  rcases h with ⟨d', e1, h⟩ | ⟨z, _⟩ | ⟨z, _⟩ | ⟨c, a, dx, C, xs, e0, _⟩
  ·rw [e'] at e1; cases e1; exact h
  ·rw [e'] at z; cases z
  ·rw [e'] at z; cases z
  ·exfalso
   unfold fzOf at e'
   unfold excC at e0
   split at e' <;> simp_all
 | none => cases e; simpa only [TAt] using h
 | bool _ => cases e; simpa only [TAt] using h
 | int _ => cases e; simpa only [TAt] using h
 | str _ => cases e; simpa only [TAt] using h
 | tuple _ => cases e; simpa only [TAt] using h
theorem leaves_den {K : Kd} {τ : List (List Nat × Addr)} {p : List Nat} : ∀ {ts ds : List PyData} {i : Nat} {xs : List V}, TAtL K H τ p i ts xs → leavesD ts = some ds → DenAll K H ds xs
 | [], ds, i, xs, h, e => by
  cases e
  simp only [TAtL] at h
  subst h
  exact DenAll.nil
 | t :: ts, ds, i, xs, h, e => by
  simp only [TAtL] at h
  obtain ⟨v, vs, rfl, g1, g2⟩ := h
  simp only [leavesD] at e
  cases q1 : leafD t with
  | none => rw [q1] at e; cases e
  | some d =>
   cases q2 : leavesD ts with
   | none => rw [q1, q2] at e; cases e
   | some ds' =>
    rw [q1, q2] at e; cases e
    exact DenAll.cons (leaf_den g1 q1) (leaves_den g2 q2)
theorem TAtL.get {K : Kd} {τ : List (List Nat × Addr)} {p : List Nat} : ∀ {ts : List PyData} {i j : Nat} {xs : List V} {t : PyData}, TAtL K H τ p i ts xs → ts[j]? = some t → ∃ v, xs[j]? = some v ∧ TAt K H τ (p ++ [i + j]) t v
 | [], _, _, _, _, _, e => by simp at e
 | t :: ts, i, 0, xs, t', h, e => by
  simp only [TAtL] at h
  obtain ⟨v, vs, rfl, g1, _⟩ := h
  simp at e; subst e
  exact ⟨v, rfl, g1⟩
 | t :: ts, i, j + 1, xs, t', h, e => by
  simp only [TAtL] at h
  obtain ⟨v, vs, rfl, _, g2⟩ := h
  obtain ⟨v', e1, e2⟩ := TAtL.get (j := j) g2 (by simpa using e)
  exact ⟨v', by simpa using e1, by rw [show i + (j + 1) = i + 1 + j by omega]; exact e2⟩
theorem TAtD.get {K : Kd} {τ : List (List Nat × Addr)} {p : List Nat} : ∀ {ts : List (PyData × PyData)} {i j : Nat} {xs : List (Int × V × V)} {k t : PyData}, TAtD K H τ p i ts xs → ts[j]? = some (k, t) → ∃ u v, xs[j]? = some (hashD K.w k, u, v) ∧ Den K H k u ∧ TAt K H τ (p ++ [i + j]) t v
 | [], _, _, _, _, _, _, e => by simp at e
 | (k, t) :: ts, i, 0, xs, k', t', h, e => by
  simp only [TAtD] at h
  obtain ⟨u, v, vs, rfl, g0, g1, _⟩ := h
  simp at e; obtain ⟨rfl, rfl⟩ := e
  exact ⟨u, v, rfl, g0, g1⟩
 | (k, t) :: ts, i, j + 1, xs, k', t', h, e => by
  simp only [TAtD] at h
  obtain ⟨u, v, vs, rfl, _, _, g2⟩ := h
  obtain ⟨u', v', e1, e0, e2⟩ := TAtD.get (j := j) g2 (by simpa using e)
  exact ⟨u', v', by simpa using e1, e0, by rw [show i + (j + 1) = i + 1 + j by omega]; exact e2⟩
theorem TAtK.get {K : Kd} {τ : List (List Nat × Addr)} {p : List Nat} : ∀ {ts : List (PyData × PyData)} {i j : Nat} {xs : List (Key × V)} {k t : PyData}, TAtK K H τ p i ts xs → ts[j]? = some (k, t) → ∃ v, TAt K H τ (p ++ [i + j]) t v
 | [], _, _, _, _, _, _, e => by simp at e
 | (k, t) :: ts, i, 0, xs, k', t', h, e => by
  simp only [TAtK] at h
  obtain ⟨u, v, vs, rfl, g0, g1, _⟩ := h
  simp at e; obtain ⟨rfl, rfl⟩ := e
  exact ⟨v, g1⟩
 | (k, t) :: ts, i, j + 1, xs, k', t', h, e => by
  simp only [TAtK] at h
  obtain ⟨u, v, vs, rfl, _, _, g2⟩ := h
  obtain ⟨v', e2⟩ := TAtK.get (j := j) g2 (by simpa using e)
  exact ⟨v', by rw [show i + (j + 1) = i + 1 + j by omega]; exact e2⟩
theorem TAtF.get {K : Kd} {τ : List (List Nat × Addr)} {p : List Nat} : ∀ {ts : List (PyData × PyData)} {i j : Nat} {xs : List (Str × V)} {f : Str} {t : PyData}, TAtF K H τ p i ts xs → ts[j]? = some (.str f, t) → ∃ v, (f, v) ∈ xs ∧ TAt K H τ (p ++ [i + j]) t v
 | [], _, _, _, _, _, _, e => by simp at e
 | (k, t) :: ts, i, 0, xs, f, t', h, e => by
  simp at e; obtain ⟨rfl, rfl⟩ := e
  simp only [TAtF] at h
  obtain ⟨v, vs, rfl, g1, _⟩ := h
  exact ⟨v, List.mem_cons_self, g1⟩
 | (k, t) :: ts, i, j + 1, xs, f, t', h, e => by
  have go : ∀ {ys : List (Str × V)}, TAtF K H τ p (i + 1) ts ys → ∃ v, (f, v) ∈ ys ∧ TAt K H τ (p ++ [i + (j + 1)]) t' v := fun {ys} g2 => by
   obtain ⟨v', e1, e2⟩ := TAtF.get (j := j) g2 (by simpa using e)
   exact ⟨v', e1, by rw [show i + (j + 1) = i + 1 + j by omega]; exact e2⟩
  cases k with
  | str f' =>
   simp only [TAtF] at h
   obtain ⟨v, vs, rfl, _, g2⟩ := h
   obtain ⟨v', e1, e2⟩ := go g2
   exact ⟨v', List.mem_cons_of_mem _ e1, e2⟩
  | none => simp only [TAtF] at h; exact go h
  | bool _ => simp only [TAtF] at h
  | int _ => simp only [TAtF] at h
  | list _ => simp only [TAtF] at h
  | tuple _ => simp only [TAtF] at h
  | dict _ => simp only [TAtF] at h
theorem TAtF.key {K : Kd} {τ : List (List Nat × Addr)} {p : List Nat} : ∀ {ts : List (PyData × PyData)} {i : Nat} {xs : List (Str × V)} {k t : PyData}, TAtF K H τ p i ts xs → (k, t) ∈ ts → k ≠ .none → ∃ f, k = .str f
 | [], _, _, _, _, _, e, _ => by simp at e
 | (k, t) :: ts, i, xs, k', t', h, e, kn => by
  cases k with
  | str f' =>
   simp only [TAtF] at h
   obtain ⟨v, vs, rfl, _, g2⟩ := h
   rcases List.mem_cons.mp e with e | e
   ·cases e; exact ⟨_, rfl⟩
   ·exact g2.key e kn
  | none =>
   simp only [TAtF] at h
   rcases List.mem_cons.mp e with e | e
   ·cases e; exact (kn rfl).elim
   ·exact h.key e kn
  | bool _ => simp only [TAtF] at h
  | int _ => simp only [TAtF] at h
  | list _ => simp only [TAtF] at h
  | tuple _ => simp only [TAtF] at h
  | dict _ => simp only [TAtF] at h
theorem TAt.get {K : Kd} {τ : List (List Nat × Addr)} : ∀ {q p : List Nat} {t t' : PyData} {v : V}, TAt K H τ p t v → getT t q = some t' → ∃ v', TAt K H τ (p ++ q) t' v'
 | [], p, t, t', v, h, e => by cases e; exact ⟨v, by rw [List.append_nil]; exact h⟩
 | i :: q, p, t, t', v, h, e => by
  simp only [getT] at e
  cases z : chD t i with
  | none => rw [z] at e; cases e
  | some t1 =>
   rw [z] at e
   have e' : getT t1 q = some t' := e
   have step : ∃ v1, TAt K H τ (p ++ [i]) t1 v1 := by
    cases t with
    | list ts =>
     simp only [TAt] at h
     obtain ⟨a, xs, _, _, _, g⟩ := h
     obtain ⟨v1, _, g1⟩ := g.get (j := i) z
     exact ⟨v1, by rw [Nat.zero_add] at g1; exact g1⟩
    | dict kvs =>
     simp only [chD] at z
     cases zi : kvs[i]? with
     | none => rw [zi] at z; cases z
     | some kt =>
      obtain ⟨k, t2⟩ := kt
      rw [zi] at z
      have kn : k ≠ .none := fun q => by subst q; cases z
      have e2 : t2 = t1 := by
       split at z <;> simp_all
      subst e2
      simp only [TAt] at h
      rcases h with ⟨d, e1, _⟩ | ⟨_, _, a, es, _, _, _, _, g⟩ | ⟨_, _, a, es, _, _, _, g⟩ | ⟨c, a, dx, C, xs, e0, _, _, _, _, g⟩
      ·exfalso
       unfold fzOf at e1
       split at e1
       ·cases i <;> simp at zi; exact kn zi.1.symm
       ·cases i <;> simp at zi; exact kn zi.1.symm
       ·cases e1
      ·obtain ⟨u, v1, _, _, g1⟩ := g.get (j := i) zi
       exact ⟨v1, by rw [Nat.zero_add] at g1; exact g1⟩
      ·obtain ⟨v1, g1⟩ := g.get (j := i) zi
       exact ⟨v1, by rw [Nat.zero_add] at g1; exact g1⟩
      ·obtain ⟨f, rfl⟩ := g.key (List.mem_of_getElem? zi) kn
       obtain ⟨v1, _, g1⟩ := g.get (j := i) zi
       exact ⟨v1, by rw [Nat.zero_add] at g1; exact g1⟩
    | none => cases z
    | bool _ => cases z
    | int _ => cases z
    | str _ => cases z
    | tuple _ => cases z
   obtain ⟨v1, h1⟩ := step
   obtain ⟨v', h2⟩ := TAt.get h1 e'
   exact ⟨v', by rw [List.append_assoc] at h2; exact h2⟩
def lsOf (m : MSt) : R → Option (List PyData)
 | .imm (.list ds) => some ds
 | .obj k => m.os[k]?
 | .new ds => some ds
 | .at k p => ndL m k p
 | _ => none
mutual
def eraT : PyData → Option PyData
 | .list ts => (eraL ts).map .list
 | .dict kvs => fzOf kvs
 | .none => some .none
 | .bool b => some (.bool b)
 | .int i => some (.int i)
 | .str x => some (.str x)
 | .tuple ds => some (.tuple ds)
def eraL : List PyData → Option (List PyData)
 | [] => some []
 | t :: ts => match eraT t, eraL ts with | some d, some ds => some (d :: ds) | _, _ => none
end
def ndT (m : MSt) (k : Nat) (p : List Nat) : Option PyData := match m.os[k]? with
 | some [t] => getT t p
 | _ => none
def asD (m : MSt) : R → Option PyData
 | .imm d => some d
 | .obj k => (m.os[k]?).map .list
 | .new ds => some (.list ds)
 | .at k p => match ndT m k p with
  | some (.list ts) => (eraL ts).map .list
  | _ => none
 | .newT _ => none
theorem RelR.node (R : Rel K α m σ H) {k : Nat} {p : List Nat} (h : RelR K α H0 H (.at k p) v) {t : PyData} (e : ndT m k p = some t) : ∃ τ a v', α[k]? = some (.T τ) ∧ τ.lookup p = some a ∧ v = .ref a ∧ TAt K H τ p t v' := by
 obtain ⟨τ, a, e1, e2, e3⟩ := h
 unfold ndT at e
 split at e
 ·rename_i t0 e0
  obtain ⟨⟨t1, v0, e4, g, _⟩, _⟩ := R.own k (.T τ) _ e1 e0
  cases e4
  obtain ⟨v', g'⟩ := g.get e
  exact ⟨τ, a, v', e1, e2, e3, by simpa using g'⟩
 ·cases e
theorem RelR.list (R : Rel K α m σ H) (h : RelR K α H0 H r v) {ds : List PyData} (e : lsOf m r = some ds) : ∃ a xs, v = .ref a ∧ SqL K H a xs ∧ DenAll K H ds xs := by
 cases r with
 | imm d =>
  cases d with
  | list es =>
   cases e
   have h' : Den K H (.list ds) v := h
   simp only [Den] at h'
   obtain ⟨a, xs, e1, f, g⟩ := h'
   exact ⟨a, xs, e1, f.sq, g⟩
  | none => cases e
  | bool _ => cases e
  | int _ => cases e
  | str _ => cases e
  | tuple _ => cases e
  | dict _ => cases e
 | obj k =>
  obtain ⟨a, e1, rfl⟩ := h
  obtain ⟨xs, q, g⟩ := R.own k _ ds e1 e
  exact ⟨a, xs, rfl, SqL.of q, g⟩
 | new es =>
  cases e
  obtain ⟨a, xs, e1, n, q, g⟩ := h
  exact ⟨a, xs, e1, SqL.of q, g⟩
 | «at» k p =>
  have e' : ndL m k p = some ds := e
  obtain ⟨ts, e1, e2⟩ : ∃ ts, ndT m k p = some (.list ts) ∧ leavesD ts = some ds := by
   unfold ndL at e'
   unfold ndT
   split at e'
   ·split at e'
    ·rename_i h0 _ ts h1
     exact ⟨ts, h1, e'⟩
    ·cases e'
   ·cases e'
  obtain ⟨τ, a, v', _, ea, rfl, g⟩ := RelR.node R h e1
  simp only [TAt] at g
  obtain ⟨a', xs, ea', _, q, g⟩ := g
  rw [ea] at ea'; cases ea'
  exact ⟨a, xs, rfl, SqL.of q, leaves_den g e2⟩
 | newT _ => cases e
end
section
variable {X : Cx} {pins : List (Addr × Obj)} {σ : St} {H : Hp} {s : Shared} {τ : List (List Nat × Addr)}
mutual
theorem TAt.reads (I : Inv X pins σ H s) : ∀ {t d : PyData} {p : List Nat} {v : V} {u : Value}, eraT t = some d → d.hasDict = false → TAt X.kd H τ p t v → RelV v u → ∃ as, Reads s.heap u d as
 | .none, d, p, v, u, e, nd, h, r => by simp only [eraT] at e; cases e; simp only [TAt] at h; exact h.reads I nd r
 | .bool b, d, p, v, u, e, nd, h, r => by simp only [eraT] at e; cases e; simp only [TAt] at h; exact h.reads I nd r
 | .int i, d, p, v, u, e, nd, h, r => by simp only [eraT] at e; cases e; simp only [TAt] at h; exact h.reads I nd r
 | .str x, d, p, v, u, e, nd, h, r => by simp only [eraT] at e; cases e; simp only [TAt] at h; exact h.reads I nd r
 | .tuple ds, d, p, v, u, e, nd, h, r => by simp only [eraT] at e; cases e; simp only [TAt] at h; exact h.reads I nd r
 | .dict kvs, d, p, v, u, e, nd, h, r => by
  simp only [eraT] at e
  exact (leaf_den h (show leafD (.dict kvs) = some d from e)).reads I nd r
 | .list ts, d, p, v, u, e, nd, h, r => by
  simp only [eraT] at e
  cases q : eraL ts with
  | none => rw [q] at e; cases e
  | some ds =>
   rw [q] at e
   cases e
   simp only [TAt] at h
   obtain ⟨a, xs, _, rfl, f, g⟩ := h
   cases r
   obtain ⟨its, rv, ⟨o, n, e, c, _, dd⟩, _⟩ := I.list (SqL.of f)
   obtain ⟨as, h2⟩ := TAtL.reads I q (by simpa only [PyData.hasDict] using nd) g rv
   exact ⟨_, .list e c dd (by simpa using h2)⟩
theorem TAtL.reads (I : Inv X pins σ H s) : ∀ {ts ds : List PyData} {p : List Nat} {i : Nat} {xs : List V} {us : List Value}, eraL ts = some ds → PyData.hasDictAll ds = false → TAtL X.kd H τ p i ts xs → Vals xs us → ∃ as, ReadsAll s.heap us ds as
 | [], ds, p, i, xs, us, e, nd, h, r => by
  simp only [eraL] at e; cases e
  simp only [TAtL] at h; subst h
  cases r; exact ⟨_, .nil⟩
 | t :: ts, ds, p, i, xs, us, e, nd, h, r => by
  simp only [eraL] at e
  cases q1 : eraT t with
  | none => rw [q1] at e; cases e
  | some d =>
   cases q2 : eraL ts with
   | none => rw [q1, q2] at e; cases e
   | some ds' =>
    rw [q1, q2] at e; cases e
    simp only [PyData.hasDictAll, Bool.or_eq_false_iff] at nd
    simp only [TAtL] at h
    obtain ⟨v, vs, rfl, g1, g2⟩ := h
    cases r with
    | cons r1 r2 =>
     obtain ⟨a1, h1⟩ := TAt.reads I q1 nd.1 g1 r1
     obtain ⟨a2, h2⟩ := TAtL.reads I q2 nd.2 g2 r2
     exact ⟨_, .cons h1 h2⟩
end
end
theorem RelR.reads {X : Cx} {pins : List (Addr × Obj)} {σ σ' : St} {H H0 : Hp} {s : Shared} {α : Al} {m : MSt} {r : R} {v : V} {u : Value} {d : PyData} (I : Inv X pins σ H s) (R : Rel X.kx α m σ' H) (h : RelR X.kd α H0 H r v) (rv : RelV v u) (e : asD m r = some d) (nd : d.hasDict = false) : ∃ as, Reads s.heap u d as := by
 have li : ∀ {ds : List PyData}, lsOf m r = some ds → PyData.hasDictAll ds = false → ∃ as, Reads s.heap u (.list ds) as := fun {ds} e nd => by
  obtain ⟨a, xs, rfl, f, g⟩ := RelR.list R h e
  cases rv
  obtain ⟨its, rv, ⟨o, n, e, c, _, dd⟩, _⟩ := I.list f
  obtain ⟨as, h2⟩ := DenAll.reads I nd g rv
  exact ⟨_, .list e c dd (by simpa using h2)⟩
 cases r with
 | imm d' => cases e; exact Den.reads I nd h rv
 | obj k =>
  cases q : m.os[k]? with
  | none => simp [asD, q] at e
  | some ds =>
   simp [asD, q] at e
   subst e
   exact li q (by simpa only [PyData.hasDict] using nd)
 | new ds => cases e; exact li rfl (by simpa only [PyData.hasDict] using nd)
 | «at» k p =>
  obtain ⟨ts, ds, q, q2, rfl⟩ : ∃ ts ds, ndT m k p = some (.list ts) ∧ eraL ts = some ds ∧ d = .list ds := by
   unfold asD at e
   simp only at e
   split at e
   ·rename_i ts q
    cases q2 : eraL ts with
    | none => rw [q2] at e; cases e
    | some ds => rw [q2] at e; cases e; exact ⟨ts, ds, q, q2, rfl⟩
   ·cases e
  obtain ⟨τ, a, v', _, ea, rfl, g⟩ := RelR.node R h q
  have g' := g
  simp only [TAt] at g'
  obtain ⟨a', xs, ea', e3, _⟩ := g'
  rw [ea] at ea'; cases ea'
  subst e3
  exact TAt.reads I (by simp only [eraT, q2, Option.map]) nd g rv
 | newT _ => cases e
abbrev WE := MSt → (R → MSt → Prop) → Prop
abbrev WT := MSt → (Bool → MSt → Prop) → Prop
abbrev WA := MSt → (List R → MSt → Prop) → Prop
def tM (K : Kx) (w : WE) : TE := fun σ H Q => ∃ α m Kc, Rel K α m σ H ∧ w m Kc ∧ ∀ r m' v H', Kc r m' → m'.np = m.np → Rel K α m' σ H' → RelR K α H H' r v → Frm α H H' → Q v H'
def tMT (K : Kx) (w : WT) : TT := fun σ H Q => ∃ α m Kc, Rel K α m σ H ∧ w m Kc ∧ ∀ b m' H', Kc b m' → m'.np = m.np → Rel K α m' σ H' → Frm α H H' → Q b H'
inductive RelRs (K : Kd) (α : Al) (Hb H : Hp) : List R → List V → Prop where
 | nil : RelRs K α Hb H [] []
 | cons {r : R} {rs : List R} {v : V} {vs : List V} : RelR K α Hb H r v → RelRs K α Hb H rs vs → RelRs K α Hb H (r :: rs) (v :: vs)
def tMA (K : Kx) (w : WA) : TA := fun σ H Q => ∃ α m Kc, Rel K α m σ H ∧ w m Kc ∧ ∀ rs m' vs H', Kc rs m' → m'.np = m.np → Rel K α m' σ H' → RelRs K α H H' rs vs → Frm α H H' → Q vs H'
theorem PE.wk {X : Cx} {e : Expr} {t t' : TE} (h : PE X e t) (k : ∀ σ H Q, t' σ H Q → t σ H Q) : PE X e t' := fun pins s σ H Q I q => h pins s σ H Q I (k _ _ _ q)
theorem PT.wk {X : Cx} {e : Expr} {t t' : TT} (h : PT X e t) (k : ∀ σ H Q, t' σ H Q → t σ H Q) : PT X e t' := fun pins s σ H Q I q => h pins s σ H Q I (k _ _ _ q)
theorem PW.wk {X : Cx} {e : Expr} {t t' : TT} (h : PW X e t) (k : ∀ σ H Q, t' σ H Q → t σ H Q) : PW X e t' := fun wh pins s σ H Q I q => h wh pins s σ H Q I (k _ _ _ q)
theorem PA.wk {X : Cx} {e : List Expr} {t t' : TA} (h : PA X e t) (k : ∀ σ H Q, t' σ H Q → t σ H Q) : PA X e t' := fun pos pins s σ H Q I q => h pos pins s σ H Q I (k _ _ _ q)
theorem PS.wk {X : Cx} {e : Stmt} {t t' : TS} (h : PS X e t) (k : ∀ D σ H, t' D σ H → t D σ H) : PS X e t' := fun pins s σ H D I q => h pins s σ H D I (k _ _ _ q)
theorem PSs.wk {X : Cx} {e : List Stmt} {t t' : TS} (h : PSs X e t) (k : ∀ D σ H, t' D σ H → t D σ H) : PSs X e t' := fun pins s σ H D I q => h pins s σ H D I (k _ _ _ q)
abbrev ME (X : Cx) (e : Expr) (w : WE) : Prop := PE X e (tM X.kx w)
abbrev MT (X : Cx) (e : Expr) (w : WT) : Prop := PT X e (tMT X.kx w)
abbrev MW (X : Cx) (e : Expr) (w : WT) : Prop := PW X e (tMT X.kx w)
abbrev MA (X : Cx) (es : List Expr) (w : WA) : Prop := PA X es (tMA X.kx w)
section
variable {X : Cx} {a b c : Expr} {es : List Expr} {wa wb wc : WE} {pos : Pos}
def wVar (i : Nat) : WE := fun m K => ∃ r, m.vs[i]? = some (some r) ∧ K r m
def wC (d : PyData) : WE := fun m K => K (.imm d) m
theorem me_of {t : TE} {w : WE} (h : PE X a t) (k : ∀ α m σ H Kc Q, Rel X.kx α m σ H → w m Kc → (∀ r m' v H', Kc r m' → m'.np = m.np → Rel X.kx α m' σ H' → RelR X.kx α H H' r v → Frm α H H' → Q v H') → t σ H Q) : ME X a w :=
 h.wk fun σ H Q ⟨α, m, Kc, Rl, hw, fin⟩ => k α m σ H Kc Q Rl hw fin
theorem me_c {d : PyData} {v : V} (h : PE X a (tC v)) (hd : ∀ (K : Kd) H, Den K H d v) : ME X a (wC d) :=
 me_of h fun α m σ H Kc Q Rl hw fin => fin _ m v H hw rfl Rl (hd _ _) (Frm.refl _ _)
theorem me_int {i j pos} : ME X (.Constant (.int i) j pos) (wC (.int i)) := me_c pe_int fun _ _ => by simp only [Den]
theorem me_bl {i j pos} : ME X (.Constant (.bool i) j pos) (wC (.bool i)) := me_c pe_bl fun _ _ => by simp only [Den]
theorem me_str {i j pos} : ME X (.Constant (.str i) j pos) (wC (.str i)) := me_c pe_str fun _ _ => by simp only [Den]
theorem me_non {j pos} : ME X (.Constant .none j pos) (wC .none) := me_c pe_non fun _ _ => by simp only [Den]
theorem me_var {i : Nat} (h : PE X a (tVar i)) : ME X a (wVar i) :=
 me_of h fun α m σ H Kc Q Rl hw fin => by
  obtain ⟨r, e, k⟩ := hw
  obtain ⟨v, ev, rv⟩ := Rl.var i r e
  exact ⟨v, ev, fin r m v H k rfl Rl rv.rr (Frm.refl _ _)⟩
theorem mv (i : Nat) {x : Str} {pos : Pos} (hN : X.N[i]? = some x := by rfl) (hv : Vis X.env.scope x := by first | exact Or.inl rfl | exact Or.inr (Or.inl rfl) | exact Or.inr (Or.inr rfl)) (hd : (x == ("__debug__" : Str)) = false := by decide) (hcd : (x == ("__classdict__" : Str)) = false := by decide) : ME X (.Name x pos) (wVar i) := me_var (pe_var hN hv hd hcd)
abbrev WO := R → R → MSt → (R → Prop) → Prop
def rM (K : Kx) (o : WO) : R2 := fun x y H Q => ∃ α m σ H0 H1 r1 r2 Kc, Rel K α m σ H ∧ RelR K α H0 H r1 x ∧ RelR K α H1 H r2 y ∧ o r1 r2 m Kc ∧ ∀ r v H', Kc r → Rel K α m σ H' → RelR K α H H' r v → Frm α H H' → Q v H'
def wBin (o : WO) (wa wb : WE) : WE := fun m K => wa m fun r1 m1 => wb m1 fun r2 m2 => o r1 r2 m2 fun r => K r m2
theorem bin_rd {o : WO} {σ : St} {H : Hp} {Q : VK} (h : tM X.kx (wBin o wa wb) σ H Q) : tOp (rM X.kx o) (tM X.kx wa) (tM X.kx wb) σ H Q := by
 obtain ⟨α, m, Kc, Rl, hw, fin⟩ := h
 refine ⟨α, m, _, Rl, hw, fun r1 m1 x H1 k1 n1 Rl1 rr1 F1 => ⟨α, m1, _, Rl1, k1, fun r2 m2 y H2 k2 n2 Rl2 rr2 F2 => ?_⟩⟩
 refine ⟨α, m2, σ, H, H1, r1, r2, _, Rl2, rr1.keep Rl Rl1 F2, rr2, k2, fun r v H' k Rl' rr F => ?_⟩
 exact fin r m2 v H' k (n2.trans n1) Rl' (rr.base Rl2 (F1.trans F2)) ((F1.trans F2).trans F)
theorem me_bin {op : Operator} {o : WO} (ho : OpR X (binaryOp op) (rM X.kx o)) (ha : ME X a wa) (hb : ME X b wb) : ME X (.BinOp a op b pos) (wBin o wa wb) := (pe_op ho ha hb).wk fun _ _ _ h => bin_rd h
theorem me_cmp {op : CmpOp} {o : WO} (ho : OpR X (compareOp op) (rM X.kx o)) (ha : ME X a wa) (hb : ME X b wb) (hm : behindInMarks op b = false) : ME X (.Compare a [op] [b] pos) (wBin o wa wb) := (pe_cmpR ho ha hb hm).wk fun _ _ _ h => bin_rd h
def onBl (P : Bool → Prop) : R → Prop
 | .imm (.bool k) => P k
 | _ => False
theorem rel_bl {K : Kx} {α : Al} {Hb H : Hp} {r : R} {v : V} {P : Bool → Prop} (rr : RelR K α Hb H r v) (h : onBl P r) : ∃ b, r = .imm (.bool b) ∧ v = .bl b ∧ P b := by
 cases r with
 | obj _ => exact h.elim
 | new _ => exact h.elim
 | «at» _ _ => exact h.elim
 | newT _ => exact h.elim
 | imm d =>
  cases d with
  | bool b =>
   have e : Den K H (.bool b) v := rr
   simp only [Den] at e
   exact ⟨b, rfl, e, h⟩
  | none => exact h.elim
  | int _ => exact h.elim
  | str _ => exact h.elim
  | list _ => exact h.elim
  | tuple _ => exact h.elim
  | dict _ => exact h.elim
def wTest (w : WE) : WT := fun m K => w m fun r m' => onBl (fun k => K k m') r
theorem test_rd {t : TE} {σ : St} {H : Hp} {Q : Bool → Hp → Prop} {w : WE} (k : ∀ Q', tM X.kx w σ H Q' → t σ H Q') (h : tMT X.kx (wTest w) σ H Q) : tTest t σ H Q := by
 obtain ⟨α, m, Kc, Rl, hw, fin⟩ := h
 refine k _ ⟨α, m, _, Rl, hw, fun r m' v H' kk n1 Rl' rr F => ?_⟩
 obtain ⟨b, er, ev, kk⟩ := rel_bl rr kk
 exact ⟨b, ev, fin b m' H' kk n1 Rl' F⟩
theorem mt_cmp {op : CmpOp} {o : WO} (ho : OpR X (compareOp op) (rM X.kx o)) (ha : ME X a wa) (hb : ME X b wb) (hm : behindInMarks op b = false) : MT X (.Compare a [op] [b] pos) (wTest (wBin o wa wb)) := (pt_cmpR ho ha hb hm).wk fun _ _ _ h => test_rd (fun _ => bin_rd) h
theorem mt_val (ha : ME X a wa) (he : ∀ whole, isTrue a X.env whole = (do let v ← whole; standAt a.pos; holding [v] (truthy v)) := by intro _; rfl) : MT X a (wTest wa) := (pt_val ha he).wk fun _ _ _ h => test_rd (t := tM X.kx wa) (fun _ h => h) h
def wChain (o o' : WO) (wa wb wc : WE) : WE := fun m K => wa m fun r1 m1 => wb m1 fun r2 m2 => o r1 r2 m2 (onBl fun k => if k = true then wc m2 fun r3 m3 => o' r2 r3 m3 fun r => K r m3 else K (.imm (.bool false)) m2)
end
section
variable {X : Cx} {a b c : Expr} {es : List Expr} {wa wb wc : WE} {pos : Pos}
theorem chain_rd {o o' : WO} {σ : St} {H : Hp} {Q : VK} (h : tM X.kx (wChain o o' wa wb wc) σ H Q) : tChain (rM X.kx o) (rM X.kx o') (tM X.kx wa) (tM X.kx wb) (tM X.kx wc) σ H Q := by
 obtain ⟨α, m, Kc, Rl, hw, fin⟩ := h
 refine ⟨α, m, _, Rl, hw, fun r1 m1 x H1 k1 n1 Rl1 rr1 F1 => ⟨α, m1, _, Rl1, k1, fun r2 m2 y H2 k2 n2 Rl2 rr2 F2 => ?_⟩⟩
 refine ⟨α, m2, σ, H, H1, r1, r2, _, Rl2, rr1.keep Rl Rl1 F2, rr2, k2, fun r v H3 k Rl3 rr F3 => ?_⟩
 obtain ⟨bb, er, ev, kk⟩ := rel_bl rr k
 subst er ev
 refine ⟨bb, rfl, ?_⟩
 have F03 := (F1.trans F2).trans F3
 cases bb with
 | true =>
  rw [if_pos rfl] at kk ⊢
  refine ⟨α, m2, _, Rl3, kk, fun r3 m3 z H4 k3 n3 Rl4 rr4 F4 => ?_⟩
  have rr2' := ((rr2.keep Rl1 Rl2 F3).keep Rl1 Rl3 F4)
  exact ⟨α, m3, σ, H1, H3, r2, r3, _, Rl4, rr2', rr4, k3, fun r v H' k Rl' rr F => fin r m3 v H' k (n3.trans (n2.trans n1)) Rl' (rr.base Rl4 (F03.trans F4)) ((F03.trans F4).trans F)⟩
 | false =>
  rw [if_neg Bool.false_ne_true] at kk ⊢
  exact fin _ m2 _ H3 kk (n2.trans n1) Rl3 (show Den X.kx H3 (.bool false) (.bl false) by simp only [Den]) F03
theorem me_chain {op op' : CmpOp} {o o' : WO} (ho : OpR X (compareOp op) (rM X.kx o)) (ho' : OpR X (compareOp op') (rM X.kx o')) (ha : ME X a wa) (hb : ME X b wb) (hc : ME X c wc)
  (hm : lastMarks [op, op'] [b, c] = false := by with_unfolding_all rfl) : ME X (.Compare a [op, op'] [b, c] pos) (wChain o o' wa wb wc) := (pe_chain ho ho' ha hb hc hm).wk fun _ _ _ h => chain_rd h
theorem mt_chain {op op' : CmpOp} {o o' : WO} (ho : OpR X (compareOp op) (rM X.kx o)) (ho' : OpR X (compareOp op') (rM X.kx o')) (ha : ME X a wa) (hb : ME X b wb) (hc : ME X c wc)
  (hm : lastMarks [op, op'] [b, c] = false := by with_unfolding_all rfl) : MT X (.Compare a [op, op'] [b, c] pos) (wTest (wChain o o' wa wb wc)) := (pt_chain ho ho' ha hb hc hm).wk fun _ _ _ h => test_rd (fun _ => chain_rd) h
variable {wt wu : WT} {rest : List Expr}
def wAnd (t u : WT) : WT := fun m K => t m fun c m1 => if c = true then u m1 K else K false m1
def wOr (t u : WT) : WT := fun m K => t m fun c m1 => if c = true then K true m1 else u m1 K
def wNot (t : WT) : WT := fun m K => t m fun c m1 => K (!c) m1
theorem mw_and1 (ha : MT X a wt) : MW X (.BoolOp .And [a] pos) wt := pw_and1 ha
theorem mw_or1 (ha : MT X a wt) : MW X (.BoolOp .Or [a] pos) wt := pw_or1 ha
theorem mw_and (ha : MT X a wt) (hb : MW X (.BoolOp .And (b :: rest) pos) wu) : MW X (.BoolOp .And (a :: b :: rest) pos) (wAnd wt wu) := (pw_and ha hb).wk fun σ H Q ⟨α, m, Kc, Rl, hw, fin⟩ => by
 refine ⟨α, m, _, Rl, hw, fun bb m1 H1 k n1 Rl1 F1 => ?_⟩
 cases bb with
 | true => rw [if_pos rfl] at k ⊢; exact ⟨α, m1, Kc, Rl1, k, fun b2 m2 H2 k2 n2 Rl2 F2 => fin b2 m2 H2 k2 (n2.trans n1) Rl2 (F1.trans F2)⟩
 | false => rw [if_neg Bool.false_ne_true] at k ⊢; exact fin _ m1 H1 k n1 Rl1 F1
theorem mw_or (ha : MT X a wt) (hb : MW X (.BoolOp .Or (b :: rest) pos) wu) : MW X (.BoolOp .Or (a :: b :: rest) pos) (wOr wt wu) := (pw_or ha hb).wk fun σ H Q ⟨α, m, Kc, Rl, hw, fin⟩ => by
 refine ⟨α, m, _, Rl, hw, fun bb m1 H1 k n1 Rl1 F1 => ?_⟩
 cases bb with
 | true => rw [if_pos rfl] at k ⊢; exact fin _ m1 H1 k n1 Rl1 F1
 | false => rw [if_neg Bool.false_ne_true] at k ⊢; exact ⟨α, m1, Kc, Rl1, k, fun b2 m2 H2 k2 n2 Rl2 F2 => fin b2 m2 H2 k2 (n2.trans n1) Rl2 (F1.trans F2)⟩
theorem mt_not (ha : MT X a wt) : MT X (.UnaryOp .Not a pos) (wNot wt) := (pt_not ha).wk fun σ H Q ⟨α, m, Kc, Rl, hw, fin⟩ =>
 ⟨α, m, _, Rl, hw, fun bb m1 H1 k n1 Rl1 F1 => fin _ m1 H1 k n1 Rl1 F1⟩
def wAndV (wa wb : WE) : WE := fun m K => wa m fun r m1 => onBl (fun c => if c = true then wb m1 K else K (.imm (.bool false)) m1) r
def wNotV (wa : WE) : WE := fun m K => wa m fun r m1 => onBl (fun c => K (.imm (.bool (!c))) m1) r
theorem den_bl {K : Kd} {H : Hp} (b : Bool) : Den K H (.bool b) (.bl b) := by simp only [Den]
theorem den_int {K : Kd} {H : Hp} (b : Int) : Den K H (.int b) (.int b) := by simp only [Den]
theorem den_str {K : Kd} {H : Hp} (b : Str) : Den K H (.str b) (.str b) := by simp only [Den]
theorem den_non {K : Kd} {H : Hp} : Den K H .none .non := by simp only [Den]
theorem me_one {op} (h : ME X a wa) : ME X (.BoolOp op [a] pos) wa := pe_one h
theorem me_and (ha : ME X a wa) (hb : ME X (.BoolOp .And (b :: rest) pos) wb) : ME X (.BoolOp .And (a :: b :: rest) pos) (wAndV wa wb) := (pe_and ha hb).wk fun σ H Q ⟨α, m, Kc, Rl, hw, fin⟩ => by
 refine ⟨α, m, _, Rl, hw, fun r m1 v H1 k n1 Rl1 rr F1 => ?_⟩
 obtain ⟨bb, er, ev, kk⟩ := rel_bl rr k
 subst er ev
 refine ⟨bb, rfl, ?_⟩
 cases bb with
 | true => rw [if_pos rfl] at kk ⊢; exact ⟨α, m1, Kc, Rl1, kk, fun r m2 v H2 k2 n2 Rl2 rr2 F2 => fin r m2 v H2 k2 (n2.trans n1) Rl2 (rr2.base Rl1 F1) (F1.trans F2)⟩
 | false => rw [if_neg Bool.false_ne_true] at kk ⊢; exact fin _ m1 _ H1 kk n1 Rl1 (den_bl (K := X.kx) (H := H1) _) F1
theorem me_not (ha : ME X a wa) : ME X (.UnaryOp .Not a pos) (wNotV wa) := (pe_not ha).wk fun σ H Q ⟨α, m, Kc, Rl, hw, fin⟩ => by
 refine ⟨α, m, _, Rl, hw, fun r m1 v H1 k n1 Rl1 rr F1 => ?_⟩
 obtain ⟨bb, er, ev, kk⟩ := rel_bl rr k
 subst er ev
 exact ⟨bb, rfl, fin _ m1 _ H1 kk n1 Rl1 (den_bl (K := X.kx) (H := H1) _) F1⟩
def wIfE (t : WT) (wa wb : WE) : WE := fun m K => t m fun c m1 => if c = true then wa m1 K else wb m1 K
theorem me_if {t : Expr} (ht : MT X t wt) (ha : ME X a wa) (hb : ME X b wb) : ME X (.IfExp t a b pos) (wIfE wt wa wb) := (pe_ifExp ht ha hb).wk fun σ H Q ⟨α, m, Kc, Rl, hw, fin⟩ => by
 refine ⟨α, m, _, Rl, hw, fun bb m1 H1 k n1 Rl1 F1 => ?_⟩
 cases bb with
 | true => rw [if_pos rfl] at k ⊢; exact ⟨α, m1, Kc, Rl1, k, fun r m2 v H2 k2 n2 Rl2 rr2 F2 => fin r m2 v H2 k2 (n2.trans n1) Rl2 (rr2.base Rl1 F1) (F1.trans F2)⟩
 | false => rw [if_neg Bool.false_ne_true] at k ⊢; exact ⟨α, m1, Kc, Rl1, k, fun r m2 v H2 k2 n2 Rl2 rr2 F2 => fin r m2 v H2 k2 (n2.trans n1) Rl2 (rr2.base Rl1 F1) (F1.trans F2)⟩
abbrev WU := R → MSt → (R → Prop) → Prop
def uM (K : Kx) (o : WU) : V → Hp → VK → Prop := fun x H Q => ∃ α m σ H0 r1 Kc, Rel K α m σ H ∧ RelR K α H0 H r1 x ∧ o r1 m Kc ∧ ∀ r v H', Kc r → Rel K α m σ H' → RelR K α H H' r v → Frm α H H' → Q v H'
def wUn (o : WU) (wa : WE) : WE := fun m K => wa m fun r1 m1 => o r1 m1 fun r => K r m1
theorem me_un {op : UnaryOp} {o : WU} (ho : UnR X (unaryOp op) (uM X.kx o)) (ha : ME X a wa) : ME X (.UnaryOp op a pos) (wUn o wa) := (pe_un ho ha).wk fun σ H Q ⟨α, m, Kc, Rl, hw, fin⟩ =>
 ⟨α, m, _, Rl, hw, fun r1 m1 x H1 k1 n1 Rl1 rr1 F1 => ⟨α, m1, σ, H, r1, _, Rl1, rr1, k1, fun r v H' k Rl' rr F => fin r m1 v H' k n1 Rl' (rr.base Rl1 F1) (F1.trans F)⟩⟩
def tFz (t : TE) : TE := fun σ H Q => t σ H fun v H1 => Q v H1 ∨ ∃ a xs, H1 a = some (.lst xs) ∧ ∀ o, Q v (upd H1 a (.frz o (.lst xs)))
theorem pe_fz {t : TE} (h : PE X a t) : PE X a (tFz t) := by
 intro pins s σ H Q I q
 refine thn (h pins s σ H _ I q) fun u s1 ⟨v, H1, I1, r1, q1⟩ => ?_
 rcases q1 with q1 | ⟨p, xs, e, q1⟩
 ·exact ⟨v, H1, I1, r1, q1⟩
 ·obtain ⟨o, I2⟩ := I1.freeze e
  exact ⟨v, _, I2, r1, q1 o⟩
theorem Rel.at {K : Kx} {α : Al} {m : MSt} {σ : St} {H H' : Hp} (R : Rel K α m σ H) (p : Pers H H') (e : ∀ a ∈ ads α, H' a = H a) (x : Frm α H H') : Rel K α m σ H' := by
 refine ⟨R.nd, R.len, fun k ao ds h1 h2 => ?_, R.vlen, fun i r h => ?_, R.npl, R.ebl, R.ebx.trans ⟨rfl, x, fun _ h => .inl h, fun a ha => ?_⟩⟩
 ·exact (R.own k ao ds h1 h2).mono p fun a ha => e a (List.mem_flatMap.mpr ⟨ao, List.mem_of_getElem? h1, ha⟩)
 ·obtain ⟨v, ev, rv⟩ := R.var i r h
  refine ⟨v, ev, ?_⟩
  cases r with
  | imm d => exact Den.mono p rv
  | obj k => exact rv
  | «at» k p => exact rv
  | new ds => exact rv
  | newT t => exact rv
 ·obtain ⟨o, q, _⟩ := R.mem ha
  exact ⟨o, (e a ha).trans q⟩
theorem Rel.at' {K : Kx} {α : Al} {m : MSt} {σ : St} {H H' : Hp} (R : Rel K α m σ H) (p : Pers H H') (e : ∀ a ∈ ads α, H' a = H a) (x : Ext K.eb.np K.eb.be K.eb.H α H') : Rel K α m σ H' := by
 refine ⟨R.nd, R.len, fun k ao ds h1 h2 => ?_, R.vlen, fun i r h => ?_, R.npl, R.ebl, x⟩
 ·exact (R.own k ao ds h1 h2).mono p fun a ha => e a (List.mem_flatMap.mpr ⟨ao, List.mem_of_getElem? h1, ha⟩)
 ·obtain ⟨v, ev, rv⟩ := R.var i r h
  refine ⟨v, ev, ?_⟩
  cases r with
  | imm d => exact Den.mono p rv
  | obj k => exact rv
  | «at» k p => exact rv
  | new ds => exact rv
  | newT t => exact rv
theorem pers_upd {H : Hp} {a : Addr} {o : HO} (h : H a = none ∨ ∃ u, H a = some u ∧ Mu u = true) : Pers H (upd H a o) where
 tups := fun b xs e => by
  rw [upd_ne]; exact e
  rintro rfl
  rcases h with h | ⟨ys, h, z⟩ <;> (rw [e] at h; cases h)
  cases z
 frzs := fun b o u e => by
  rw [upd_ne]; exact e
  rintro rfl
  rcases h with h | ⟨ys, h, z⟩ <;> (rw [e] at h; cases h)
  cases z
theorem pers_lst {H : Hp} {a : Addr} {o : HO} {xs : List V} (h : H a = some (.lst xs)) : Pers H (upd H a o) := pers_upd (.inr ⟨_, h, rfl⟩)
theorem frm_upd {α : Al} {H : Hp} {a : Addr} {o : HO} (h : H a = none) : Frm α H (upd H a o) := fun b ob e _ => by
 rw [upd_ne (ne_of_none e h)]; exact e
theorem Rel.lay {K : Kx} {α : Al} {m : MSt} {σ : St} {H : Hp} {a : Addr} {o : HO} (R : Rel K α m σ H) (h : H a = none) : Rel K α m σ (upd H a o) :=
 R.at (pers_upd (.inl h)) (fun b hb => upd_ne fun e => R.out h (e ▸ hb)) (frm_upd h)
def wImm (w : WE) : WE := fun m K => w m fun r m' => match r with | .imm d => K (.imm d) m' | .new ds => K (.imm (.list ds)) m' | _ => False
theorem me_imm (ha : ME X a wa) : ME X a (wImm wa) := (pe_fz ha).wk fun σ H Q ⟨α, m, Kc, Rl, hw, fin⟩ => by
 refine ⟨α, m, _, Rl, hw, fun r m1 v H1 k n1 Rl1 rr F1 => ?_⟩
 cases r with
 | imm d => exact .inl (fin _ m1 v H1 k n1 Rl1 rr F1)
 | obj _ => exact k.elim
 | «at» _ _ => exact k.elim
 | newT _ => exact k.elim
 | new ds =>
  obtain ⟨p, xs, ev, n, q, g⟩ := rr
  refine .inr ⟨p, xs, q, fun o => ?_⟩
  have pe : Pers H1 (upd H1 p (.frz o (.lst xs))) := pers_lst q
  have fr : Frm α H (upd H1 p (.frz o (.lst xs))) := fun b ob e nb => by
   rw [upd_ne (ne_of_none e n)]
   exact F1 b ob e nb
  have old : Ext X.kx.eb.np α H α (upd H1 p (.frz o (.lst xs))) := ⟨rfl, fr, fun _ h => .inl h, fun b hb => by
   have hbp : b ≠ p := fun e => Rl.out n (e ▸ hb)
   rw [upd_ne hbp]
   obtain ⟨o', e', _⟩ := Rl1.mem hb
   exact ⟨o', e'⟩⟩
  refine fin _ m1 v _ k n1 (Rl1.at' pe (fun b hb => upd_ne fun e => Rl.out n (e ▸ hb)) (Rl.ebx.trans old)) (show Den X.kx _ (.list ds) v from ?_) fun b ob e nb => ?_
  ·simp only [Den]
   exact ⟨p, xs, ev, .inl ⟨o, upd_same⟩, g.mono pe⟩
  ·rw [upd_ne (ne_of_none e n)]
   exact F1 b ob e nb
def wNil : WA := fun m K => K [] m
def wCons (w : WE) (ws : WA) : WA := fun m K => w m fun r m1 => ws m1 fun rs m2 => K (r :: rs) m2
theorem RelRs.base {K : Kx} {α : Al} {m : MSt} {σ : St} {H0 H H' : Hp} (Rl : Rel K α m σ H) (F : Frm α H0 H) : ∀ {rs : List R} {vs : List V}, RelRs K α H H' rs vs → RelRs K α H0 H' rs vs
 | _, _, .nil => .nil
 | _, _, .cons h t => .cons (h.base Rl F) (t.base Rl F)
variable {ws : WA}
theorem ma_nil : MA X [] wNil := (pa_nil (X := X)).wk fun σ H Q ⟨α, m, Kc, Rl, hw, fin⟩ => fin _ m _ H hw rfl Rl .nil (Frm.refl _ _)
theorem ma_cons (ha : ME X a wa) (hr : MA X es ws) (hs : starEach (a :: es) X.env = (false, eval a X.env) :: starEach es X.env := by first | exact star_cons rfl | rfl) : MA X (a :: es) (wCons wa ws) := (pa_cons ha hr hs).wk fun σ H Q ⟨α, m, Kc, Rl, hw, fin⟩ =>
 ⟨α, m, _, Rl, hw, fun r m1 v H1 k n1 Rl1 rr F1 => ⟨α, m1, _, Rl1, k, fun rs m2 vs H2 k2 n2 Rl2 rr2 F2 => fin _ m2 _ H2 k2 (n2.trans n1) Rl2 (.cons (rr.keep Rl Rl1 F2) (rr2.base Rl1 F1)) (F1.trans F2)⟩⟩
def immAll : List R → Option (List PyData)
 | [] => some []
 | .imm d :: rs => (immAll rs).map (d :: ·)
 | _ :: _ => none
theorem RelRs.imm {K : Kx} {α : Al} {H0 H : Hp} : ∀ {rs : List R} {vs : List V} {ds : List PyData}, RelRs K α H0 H rs vs → immAll rs = some ds → DenAll K H ds vs
 | _, _, _, .nil, e => by cases e; exact DenAll.nil
 | _, _, ds, .cons (r := .imm d) (rs := rs) h t, e => by
  simp only [immAll] at e
  cases q : immAll rs with
  | none => rw [q] at e; cases e
  | some ds' => rw [q] at e; cases e; exact DenAll.cons h (t.imm q)
 | _, _, _, .cons (r := .obj _) h t, e => by cases e
 | _, _, _, .cons (r := .new _) h t, e => by cases e
 | _, _, _, .cons (r := .at _ _) h t, e => by cases e
 | _, _, _, .cons (r := .newT _) h t, e => by cases e
def onAll (P : List PyData → Prop) : Option (List PyData) → Prop
 | some ds => ds.length ≤ sizeLine ∧ P ds
 | none => False
def wTup (ws : WA) : WE := fun m K => ws m fun rs m' => onAll (fun ds => K (.imm (.tuple ds)) m') (immAll rs)
def wLst (ws : WA) : WE := fun m K => ws m fun rs m' => onAll (fun ds => K (.new ds) m') (immAll rs)
theorem me_tup {x1} (h : MA X es ws) : ME X (.Tuple es x1 pos) (wTup ws) := (pe_tup h).wk fun σ H Q ⟨α, m, Kc, Rl, hw, fin⟩ => by
 refine ⟨α, m, _, Rl, hw, fun rs m1 vs H1 k n1 Rl1 rr F1 => ?_⟩
 cases e : immAll rs with
 | none => rw [e] at k; exact k.elim
 | some ds =>
  rw [e] at k
  obtain ⟨hz, k⟩ := k
  have g := rr.imm e
  refine ⟨by rw [← g.length]; exact hz, fun p hp => fin _ m1 _ _ k n1 (Rl1.lay hp) (show Den X.kx _ (.tuple ds) (.ref p) from ?_) (F1.trans (frm_upd hp))⟩
  simp only [Den]
  exact ⟨p, vs, rfl, SqT.of upd_same, g.mono (pers_upd (.inl hp))⟩
theorem me_lst (h : MA X es ws) : ME X (.List es pos) (wLst ws) := (pe_lst h).wk fun σ H Q ⟨α, m, Kc, Rl, hw, fin⟩ => by
 refine ⟨α, m, _, Rl, hw, fun rs m1 vs H1 k n1 Rl1 rr F1 => ?_⟩
 cases e : immAll rs with
 | none => rw [e] at k; exact k.elim
 | some ds =>
  rw [e] at k
  obtain ⟨hz, k⟩ := k
  have g := rr.imm e
  refine ⟨by rw [← g.length]; exact hz, fun p hp => fin _ m1 _ _ k n1 (Rl1.lay hp) ((RelR.base Rl1 F1 (show RelR X.kx α H1 _ (.new ds) (.ref p) from ⟨p, vs, rfl, hp, upd_same, g.mono (pers_upd (.inl hp))⟩))) (F1.trans (frm_upd hp))⟩
abbrev WC := List R → MSt → (R → Prop) → Prop
def cM (K : Kx) (o : WC) : List V → Hp → VK → Prop := fun xs H Q => ∃ α m σ H0 rs Kc, Rel K α m σ H ∧ RelRs K α H0 H rs xs ∧ o rs m Kc ∧ ∀ r v H', Kc r → Rel K α m σ H' → RelR K α H H' r v → Frm α H H' → Q v H'
def wCB (o : WC) (ws : WA) : WE := fun m K => ws m fun rs m1 => o rs m1 fun r => K r m1
theorem cb_rd {o : WC} {σ : St} {H : Hp} {Q : VK} (h : tM X.kx (wCB o ws) σ H Q) : tCB (cM X.kx o) (tMA X.kx ws) σ H Q := by
 obtain ⟨α, m, Kc, Rl, hw, fin⟩ := h
 exact ⟨α, m, _, Rl, hw, fun rs m1 vs H1 k n1 Rl1 rr F1 => ⟨α, m1, σ, H, rs, _, Rl1, rr, k, fun r v H' k Rl' rr' F => fin r m1 v H' k n1 Rl' (rr'.base Rl1 F1) (F1.trans F)⟩⟩
theorem me_callB {id : String} {x : Str} {p : Pos} {o : WC} (hc : CallR X (.builtin id) (cM X.kx o)) (hg : Gl X x) (hm : X.mg x = none) (hv : bootBuiltins x = some (.builtin id)) (ha : MA X (a :: es) ws) (hn : x ≠ "__name__" := by decide) (hdb : (x == ("__debug__" : Str)) = false := by decide)
  (he : starEach (a :: es) X.env = (false, eval a X.env) :: starEach es X.env := by first | exact star_cons rfl | rfl) (hpl : (backTo pos (starEach es X.env)).any (·.1) = false := by rfl) : ME X (.Call (.Name x p) (a :: es) [] pos) (wCB o ws) := (pe_callB hc hg hm hv ha hn hdb he hpl).wk fun _ _ _ h => cb_rd h
theorem me_callTy {T : String} {x : Str} {p : Pos} {o : WC} (hc : CallR X (.type T) (cM X.kx o)) (hg : Gl X x) (hm : X.mg x = none) (hv : bootBuiltins x = some (.type T)) (ha : MA X (a :: es) ws) (hn : x ≠ "__name__" := by decide) (hdb : (x == ("__debug__" : Str)) = false := by decide)
  (he : starEach (a :: es) X.env = (false, eval a X.env) :: starEach es X.env := by first | exact star_cons rfl | rfl) (hpl : (backTo pos (starEach es X.env)).any (·.1) = false := by rfl) : ME X (.Call (.Name x p) (a :: es) [] pos) (wCB o ws) := (pe_callTy hc hg hm hv ha hn hdb he hpl).wk fun _ _ _ h => cb_rd h
end
inductive Ag where
 | imm (d : PyData) | own (ds : List PyData) | tr (t : PyData)
abbrev SpM := List Ag → (R → List (List PyData) → Prop) → Prop
inductive RelAs (K : Kd) (H : Hp) : List Ag → List V → Al → Prop where
 | nil : RelAs K H [] [] []
 | imm {d : PyData} {v : V} {as : List Ag} {vs : List V} {β : Al} : Den K H d v → RelAs K H as vs β → RelAs K H (.imm d :: as) (v :: vs) β
 | own {ds : List PyData} {a : Addr} {as : List Ag} {vs : List V} {β : Al} : OwnAt K H (.L a) ds → RelAs K H as vs β → RelAs K H (.own ds :: as) (.ref a :: vs) (.L a :: β)
 | tr {t : PyData} {a : Addr} {τ : List (List Nat × Addr)} {as : List Ag} {vs : List V} {β : Al} : OwnAt K H (.T τ) [t] → τ.lookup [] = some a → RelAs K H as vs β → RelAs K H (.tr t :: as) (.ref a :: vs) (.T τ :: β)
theorem RelAs.length {K : Kd} {H : Hp} : ∀ {as : List Ag} {vs : List V} {β : Al}, RelAs K H as vs β → as.length = vs.length
 | _, _, _, .nil => rfl
 | _, _, _, .imm _ t => by simp [t.length]
 | _, _, _, .own _ t => by simp [t.length]
 | _, _, _, .tr _ _ t => by simp [t.length]
structure OutsAt (K : Kd) (H : Hp) (β : Al) (outs : List (List PyData)) : Prop where
 len : outs.length = β.length
 at_ : ∀ (j : Nat) (ao : Ao) (ds : List PyData), β[j]? = some ao → outs[j]? = some ds → OwnAt K H ao ds
def spOf (K : Kd) (n : Nat) (sp : SpM) : Sp := fun vs H Q _ => ∃ as β Kc, as.length = n ∧ (ads β).Nodup ∧ RelAs K H as vs β ∧ sp as Kc ∧ ∀ r outs v H', Kc r outs → OutsAt K H' β outs → RelR K β H H' r v → Frm β H H' → Q v H'
theorem spOf.len {K : Kd} {n : Nat} {sp : SpM} {vs : List V} {H : Hp} {Q : VK} {E : XK} (h : spOf K n sp vs H Q E) : vs.length = n := by
 obtain ⟨as, β, Kc, hl, _, r, _⟩ := h
 rw [← r.length]; exact hl
def toAgs (m : MSt) : List R → Option (List Ag × List Nat)
 | [] => some ([], [])
 | .imm d :: rs => match toAgs m rs with | some (as, ks) => some (.imm d :: as, ks) | none => none
 | .obj k :: rs => match m.os[k]?, toAgs m rs with | some ds, some (as, ks) => some (.own ds :: as, k :: ks) | _, _ => none
 | .at k [] :: rs => match m.os[k]?, toAgs m rs with | some [t], some (as, ks) => some (.tr t :: as, k :: ks) | _, _ => none
 | _ :: _ => none
def setAll : List (List PyData) → List Nat → List (List PyData) → List (List PyData)
 | os, k :: ks, o :: outs => setAll (os.set k o) ks outs
 | os, _, _ => os
def mapR (ks : List Nat) : R → R
 | .imm d => .imm d
 | .new ds => .new ds
 | .obj j => .obj (ks.getD j 0)
 | .at j p => .at (ks.getD j 0) p
 | .newT t => .newT t
def wCall (sp : SpM) (ws : WA) : WE := fun m K => ws m fun rs m1 => match toAgs m1 rs with
 | some (as, ks) => ks.Nodup ∧ sp as fun r outs => K (mapR ks r) { m1 with os := setAll m1.os ks outs }
 | none => False
theorem setAll_len : ∀ (ks : List Nat) (os outs : List (List PyData)), (setAll os ks outs).length = os.length
 | [], _, _ => by simp [setAll]
 | _ :: _, _, [] => by simp [setAll]
 | k :: ks, os, o :: outs => by simp [setAll, setAll_len ks]
theorem setAll_out : ∀ (ks : List Nat) (os outs : List (List PyData)) (k : Nat), k ∉ ks → (setAll os ks outs)[k]? = os[k]?
 | [], _, _, _, _ => by simp [setAll]
 | _ :: _, _, [], _, _ => by simp [setAll]
 | k' :: ks, os, o :: outs, k, h => by
  rw [List.mem_cons] at h
  rw [not_or] at h
  show (setAll (os.set k' o) ks outs)[k]? = _
  rw [setAll_out ks _ _ k h.2, List.getElem?_set_ne (Ne.symm h.1)]
theorem setAll_in : ∀ (ks : List Nat) (os outs : List (List PyData)) (j k : Nat) (ds : List PyData), ks.Nodup → ks[j]? = some k → outs[j]? = some ds → k < os.length → (setAll os ks outs)[k]? = some ds
 | [], _, _, _, _, _, _, h, _, _ => by simp at h
 | _ :: _, _, [], _, _, _, _, _, h, _ => by simp at h
 | k' :: ks, os, o :: outs, 0, k, ds, nd, h1, h2, hk => by
  simp at h1 h2; subst h1; subst h2
  show (setAll (os.set k' o) ks outs)[k']? = _
  rw [setAll_out ks _ _ k' (List.nodup_cons.mp nd).1, List.getElem?_set_self hk]
 | k' :: ks, os, o :: outs, j + 1, k, ds, nd, h1, h2, hk => by
  exact setAll_in ks (os.set k' o) outs j k ds (List.nodup_cons.mp nd).2 (by simpa using h1) (by simpa using h2) (by simpa using hk)
theorem ads_iff (α : Al) : (ads α).Nodup ↔ (∀ ao ∈ α, ao.ads.Nodup) ∧ α.Pairwise fun x y => ∀ a ∈ x.ads, ∀ b ∈ y.ads, a ≠ b := List.pairwise_flatMap
theorem ads_disj {α : Al} (nd : (ads α).Nodup) {i j : Nat} {x y : Ao} (hi : α[i]? = some x) (hj : α[j]? = some y) (h : i ≠ j) {a : Addr} (hx : a ∈ x.ads) (hy : a ∈ y.ads) : False := by
 have pw := ((ads_iff α).mp nd).2
 obtain ⟨p1, q1⟩ := List.getElem?_eq_some_iff.mp hi
 obtain ⟨p2, q2⟩ := List.getElem?_eq_some_iff.mp hj
 subst q1 q2
 rcases Nat.lt_or_gt_of_ne h with l | l
 ·exact List.pairwise_iff_getElem.mp pw i j p1 p2 l a hx a hy rfl
 ·exact List.pairwise_iff_getElem.mp pw j i p2 p1 l a hy a hx rfl
theorem ads_in {α : Al} {i : Nat} {x : Ao} (hi : α[i]? = some x) {a : Addr} (h : a ∈ x.ads) : a ∈ ads α := List.mem_flatMap.mpr ⟨x, List.mem_of_getElem? hi, h⟩
theorem ads_at {α : Al} {a : Addr} (h : a ∈ ads α) : ∃ (i : Nat) (x : Ao), α[i]? = some x ∧ a ∈ x.ads := by
 obtain ⟨ao, h1, h2⟩ := List.mem_flatMap.mp h
 obtain ⟨k, hk, e⟩ := List.mem_iff_getElem.mp h1
 exact ⟨k, ao, by rw [List.getElem?_eq_getElem hk, e], h2⟩
section
variable {K : Kx} {α : Al} {m : MSt} {σ : St} {H H0 H' : Hp}
theorem toAgs_rel (Rl : Rel K α m σ H) : ∀ {rs : List R} {vs : List V} {as : List Ag} {ks : List Nat}, RelRs K α H0 H rs vs → toAgs m rs = some (as, ks) → ∃ β, RelAs K H as vs β ∧ Paired (fun (k : Nat) (ao : Ao) => α[k]? = some ao) ks β
 | _, _, _, _, .nil, e => by cases e; exact ⟨[], .nil, .nil⟩
 | _, _, as, ks, .cons (r := .imm d) (rs := rs) h t, e => by
  simp only [toAgs] at e
  cases q : toAgs m rs with
  | none => rw [q] at e; cases e
  | some p =>
   obtain ⟨as', ks'⟩ := p
   rw [q] at e; cases e
   obtain ⟨β, h1, h2⟩ := toAgs_rel Rl t q
   exact ⟨β, .imm h h1, h2⟩
 | _, _, as, ks, .cons (r := .obj k) (rs := rs) h t, e => by
  simp only [toAgs] at e
  cases q1 : m.os[k]? with
  | none => rw [q1] at e; cases e
  | some ds =>
   cases q : toAgs m rs with
   | none => rw [q1, q] at e; cases e
   | some p =>
    obtain ⟨as', ks'⟩ := p
    rw [q1, q] at e; cases e
    obtain ⟨β, h1, h2⟩ := toAgs_rel Rl t q
    obtain ⟨a, ea, rfl⟩ := h
    exact ⟨.L a :: β, .own (Rl.own k _ ds ea q1) h1, .cons ea h2⟩
 | _, _, as, ks, .cons (r := .at k []) (rs := rs) h t, e => by
  simp only [toAgs] at e
  split at e
  ·rename_i t' as' ks' q1 q
   cases e
   obtain ⟨β, h1, h2⟩ := toAgs_rel Rl t q
   obtain ⟨τ, a, ea, el, rfl⟩ := h
   exact ⟨.T τ :: β, .tr (Rl.own k _ _ ea q1) el h1, .cons ea h2⟩
  ·cases e
 | _, _, _, _, .cons (r := .at _ (_ :: _)) h t, e => by cases e
 | _, _, _, _, .cons (r := .new _) h t, e => by cases e
 | _, _, _, _, .cons (r := .newT _) h t, e => by cases e
theorem paired_nodup (nd : (ads α).Nodup) {ks : List Nat} {β : Al} (h : ks.Nodup) (p : Paired (fun (k : Nat) (ao : Ao) => α[k]? = some ao) ks β) : (ads β).Nodup := by
 have one := ((ads_iff α).mp nd).1
 induction p with
 | nil => exact List.nodup_nil
 | @cons k ao ks β e t ih =>
  have ih' := ih (List.nodup_cons.mp h).2
  rw [ads_iff] at ih' ⊢
  refine ⟨fun x hx => ?_, List.pairwise_cons.mpr ⟨fun y hy a ha b hb z => ?_, ih'.2⟩⟩
  ·rcases List.mem_cons.mp hx with rfl | hx
   ·exact one _ (List.mem_of_getElem? e)
   ·exact ih'.1 x hx
  ·subst z
   obtain ⟨j, hj, ej⟩ := List.mem_iff_getElem.mp hy
   obtain ⟨k', e1, e2⟩ := Paired.get2 t (i := j) (b := y) (by rw [List.getElem?_eq_getElem hj, ej])
   have ek : k = k' := Classical.byContradiction fun ne => ads_disj nd e e2 ne ha hb
   exact (List.nodup_cons.mp h).1 (ek ▸ List.mem_of_getElem? e1)
theorem call_rel (Rl : Rel K α m σ H) {ks : List Nat} {β : Al} {outs : List (List PyData)} (nd : ks.Nodup) (p : Paired (fun (k : Nat) (ao : Ao) => α[k]? = some ao) ks β) (O : OutsAt K H' β outs) (F : Frm β H H') :
  Rel K α { m with os := setAll m.os ks outs } σ H' ∧ Frm α H H' := by
 have sub : ∀ a ∈ ads β, ∃ k ao, k ∈ ks ∧ α[k]? = some ao ∧ a ∈ ao.ads := fun a ha => by
  obtain ⟨j, ao, ej, hm⟩ := ads_at ha
  obtain ⟨k', e1, e2⟩ := Paired.get2 p ej
  exact ⟨k', ao, List.mem_of_getElem? e1, e2, hm⟩
 have Fα : Frm α H H' := fun b o e n => F b o e fun z => by
  obtain ⟨k, ao, _, e2, hm⟩ := sub b z
  exact n (ads_in e2 hm)
 have pe := Rl.pers Fα
 have own' : ∀ (k : Nat) (ao : Ao) (ds : List PyData), α[k]? = some ao → (setAll m.os ks outs)[k]? = some ds → OwnAt K H' ao ds := fun k ao ds e1 e2' => by
  have hk : k < m.os.length := by rw [← Rl.len]; exact (List.getElem?_eq_some_iff.mp e1).1
  by_cases hm : k ∈ ks
  ·obtain ⟨j, hj, ej⟩ := List.mem_iff_getElem.mp hm
   have z1 : ks[j]? = some k := by rw [List.getElem?_eq_getElem hj, ej]
   obtain ⟨a', z2, z3⟩ := Paired.get' p z1
   rw [e1] at z3; cases z3
   have hj2 : j < outs.length := by rw [O.len]; exact (List.getElem?_eq_some_iff.mp z2).1
   have z4 : outs[j]? = some outs[j] := List.getElem?_eq_getElem hj2
   rw [setAll_in ks m.os outs j k _ nd z1 z4 hk] at e2'
   cases e2'
   exact O.at_ j _ _ z2 z4
  ·rw [setAll_out ks _ _ k hm] at e2'
   have q := Rl.own k ao ds e1 e2'
   refine q.mono pe fun a ha => ?_
   obtain ⟨o, eo, _⟩ := q.mem ha
   rw [eo]
   refine F a o eo fun z => ?_
   obtain ⟨k2, ao2, hk2, e3, hm2⟩ := sub a z
   exact ads_disj Rl.nd e1 e3 (fun z => hm (z ▸ hk2)) ha hm2
 refine ⟨⟨Rl.nd, by show α.length = (setAll m.os ks outs).length; rw [setAll_len]; exact Rl.len, own', Rl.vlen, fun i r h => ?_, Rl.npl, Rl.ebl, Rl.ebx.trans ⟨rfl, Fα, fun _ h => .inl h, fun a ha => ?_⟩⟩, Fα⟩
 ·obtain ⟨v, ev, rv⟩ := Rl.var i r h
  refine ⟨v, ev, ?_⟩
  cases r with
  | imm d => exact Den.mono pe rv
  | obj k => exact rv
  | «at» k p => exact rv
  | new ds => exact rv
  | newT t => exact rv
 ·obtain ⟨k, ao, e1, hm⟩ := ads_at ha
  have hk : k < (setAll m.os ks outs).length := by rw [setAll_len, ← Rl.len]; exact (List.getElem?_eq_some_iff.mp e1).1
  obtain ⟨o, q, _⟩ := (own' k ao _ e1 (List.getElem?_eq_getElem hk)).mem hm
  exact ⟨o, q⟩
theorem call_res {K : Kd} {ks : List Nat} {β : Al} {r : R} {v : V} (p : Paired (fun (k : Nat) (ao : Ao) => α[k]? = some ao) ks β) (h : RelR K β H H' r v) : RelR K α H H' (mapR ks r) v := by
 have get : ∀ {j : Nat} {ao : Ao}, β[j]? = some ao → α[ks.getD j 0]? = some ao := fun {j ao} ea => by
  obtain ⟨k, z1, z2⟩ := Paired.get2 p ea
  rw [List.getD_eq_getElem?_getD, z1]
  exact z2
 cases r with
 | imm d => exact h
 | new ds => exact h
 | newT t => exact h
 | obj j =>
  obtain ⟨a, ea, e⟩ := h
  exact ⟨a, get ea, e⟩
 | «at» j q =>
  obtain ⟨τ, a, ea, el, e⟩ := h
  exact ⟨τ, a, get ea, el, e⟩
end
section
variable {X : Cx} {a : Expr} {es : List Expr} {ws : WA} {pos p : Pos} {k n : Nat} {f : Addr} {fd : FuncData} {ps : List Str} {sp : SpM} {x : Str} {CX : CXT}
theorem call_rd {E : XK} {σ : St} {H : Hp} {Q : VK} (h : tM X.kx (wCall sp ws) σ H Q) (hn : ∀ as Kc, sp as Kc → as.length = n) : tCall (spOf X.kd n sp) [] E (tMA X.kx ws) σ H Q := by
 obtain ⟨α, m, Kc, Rl, hw, fin⟩ := h
 refine ⟨α, m, _, Rl, hw, fun rs m1 vs H1 kk n1 Rl1 rr F1 => ?_⟩
 cases e : toAgs m1 rs with
 | none => rw [e] at kk; exact kk.elim
 | some q =>
  obtain ⟨as, ks⟩ := q
  rw [e] at kk
  obtain ⟨nd, hsp⟩ := kk
  obtain ⟨β, ra, pa⟩ := toAgs_rel Rl1 rr e
  refine ⟨as, β, _, hn _ _ hsp, paired_nodup Rl1.nd nd pa, by rw [List.append_nil]; exact ra, hsp, fun r outs v H' kk2 O rr2 F => ?_⟩
  obtain ⟨Rl2, F2⟩ := call_rel Rl1 nd pa O F
  exact fin _ _ v H' kk2 n1 Rl2 ((call_res pa rr2).base Rl1 F1) (F1.trans F2)
theorem me_call {E : XK} (F : FnOk X.prog X.w X.K X.mg X.base CX k f fd ps (spOf X.kd n sp)) (hr : Room k X.A) (hg : Gl X x) (hm : X.mg x = some (.ref f)) (hk : PySem.W.keepIn X.K (.ref f) = true) (hb : Binds X.K fd ps []) (hx : Passes CX X E) (hn : ∀ as Kc, sp as Kc → as.length = n)
  (ha : MA X (a :: es) ws) (hdb : (x == ("__debug__" : Str)) = false := by decide) (he : starEach (a :: es) X.env = (false, eval a X.env) :: starEach es X.env := by first | exact star_cons rfl | rfl) (hpl : (backTo pos (starEach es X.env)).any (·.1) = false := by rfl) :
  ME X (.Call (.Name x p) (a :: es) [] pos) (wCall sp ws) := (pe_call (E := E) F hr hg hm hk hb .nil hx ha hdb he hpl).wk fun _ _ _ h => call_rd h hn
end
structure MEnds where
 nx : MSt → Prop
 rt : R → MSt → Prop
 bk : MSt → Prop := fun _ => False
 ct : MSt → Prop := fun _ => False
abbrev WS := MEnds → MSt → Prop
theorem RelR.ext {K : Kd} {np : Nat} {α α1 α2 : Al} {H H1 H2 : Hp} {r : R} {v : V} (x : Ext np α H α1 H1) (h : RelR K α2 H1 H2 r v) : RelR K α2 H H2 r v := by
 cases r with
 | imm d => exact h
 | obj k => exact h
 | «at» k p => exact h
 | new ds =>
  obtain ⟨a, xs, e, n, q, g⟩ := h
  exact ⟨a, xs, e, x.nil n, q, g⟩
 | newT t =>
  obtain ⟨τ, a, e, e1, nd, n, g⟩ := h
  exact ⟨τ, a, e, e1, nd, fun b hb => x.nil (n b hb), g⟩
structure EndsOk (K : Kx) (np : Nat) (α : Al) (H : Hp) (De : MEnds) (D : Ends) : Prop where
 nx : ∀ α' m' σ' H', De.nx m' → m'.np = np → Rel K α' m' σ' H' → Ext np α H α' H' → D.nx σ' H'
 rt : ∀ r α' m' σ' v H', De.rt r m' → m'.np = np → Rel K α' m' σ' H' → RelR K α' H H' r v → Ext np α H α' H' → D.rt v H'
 bk : ∀ α' m' σ' H', De.bk m' → m'.np = np → Rel K α' m' σ' H' → Ext np α H α' H' → D.bk σ' H'
 ct : ∀ α' m' σ' H', De.ct m' → m'.np = np → Rel K α' m' σ' H' → Ext np α H α' H' → D.ct σ' H'
theorem EndsOk.ext {K : Kx} {np : Nat} {α α1 : Al} {H H1 : Hp} {De : MEnds} {D : Ends} (h : EndsOk K np α H De D) (x : Ext np α H α1 H1) : EndsOk K np α1 H1 De D where
 nx := fun α' m' σ' H' k n R y => h.nx α' m' σ' H' k n R (x.trans y)
 rt := fun r α' m' σ' v H' k n R rr y => h.rt r α' m' σ' v H' k n R (rr.ext x) (x.trans y)
 bk := fun α' m' σ' H' k n R y => h.bk α' m' σ' H' k n R (x.trans y)
 ct := fun α' m' σ' H' k n R y => h.ct α' m' σ' H' k n R (x.trans y)
def tMS (K : Kx) (w : WS) : TS := fun D σ H => ∃ α m De, Rel K α m σ H ∧ w De m ∧ EndsOk K m.np α H De D
abbrev MS (X : Cx) (st : Stmt) (w : WS) : Prop := PS X st (tMS X.kx w)
abbrev MSs (X : Cx) (st : List Stmt) (w : WS) : Prop := PSs X st (tMS X.kx w)
section
variable {X : Cx} {a b c e : Expr} {es : List Expr} {wa wb wc we : WE} {pos : Pos} {st : Stmt} {rest : List Stmt} {w u : WS}
def wNext : WS := fun D m => D.nx m
def wSeq (w u : WS) : WS := fun D m => w { D with nx := fun m' => u D m' } m
theorem mss_nil : MSs X [] wNext := (pss_nil (X := X)).wk fun D σ H ⟨α, m, De, Rl, hw, k⟩ => k.nx α m σ H hw rfl Rl (.of Rl (Frm.refl _ _))
theorem mss_cons (h1 : MS X st w) (h2 : MSs X rest u) : MSs X (st :: rest) (wSeq w u) := (pss_cons h1 h2).wk fun D σ H ⟨α, m, De, Rl, hw, k⟩ =>
 ⟨α, m, _, Rl, hw, ⟨fun α' m' σ' H' q n R y => ⟨α', m', De, R, q, by rw [n]; exact k.ext y⟩, k.rt, k.bk, k.ct⟩⟩
theorem mss_one (h1 : MS X st w) : MSs X [st] w := (pss_one h1).wk fun D σ H h => h
end
section
variable {X : Cx} {a b c e : Expr} {es : List Expr} {wa wb wc we : WE} {ws : WA} {wt : WT} {pos : Pos} {st : Stmt} {rest body body2 : List Stmt} {w u : WS}
def wRet (we : WE) : WS := fun D m => we m fun r m' => D.rt r m'
theorem ms_ret (he : ME X e we) : MS X (.Return (some e) pos) (wRet we) := (ps_ret he).wk fun D σ H ⟨α, m, De, Rl, hw, k⟩ =>
 ⟨α, m, _, Rl, hw, fun r m' v H' q n Rl' rr F => k.rt r α m' σ v H' q n Rl' rr (.of Rl' F)⟩
def wDrop (we : WE) : WS := fun D m => we m fun _ m' => D.nx m'
theorem ms_expr (he : ME X e we) (hs : swapsWith e none pos.line X.env = pure false := by rfl) : MS X (.Expr e pos) (wDrop we) := (ps_expr he hs).wk fun D σ H ⟨α, m, De, Rl, hw, k⟩ =>
 ⟨α, m, _, Rl, hw, fun r m' v H' q n Rl' rr F => k.nx α m' σ H' q n Rl' (.of Rl' F)⟩
def wIfS (t : WT) (w u : WS) : WS := fun D m => t m fun c m' => if c = true then w D m' else u D m'
theorem ms_if {t : Expr} (ht : MT X t wt) (h1 : MSs X body w) (h2 : MSs X body2 u) : MS X (.If t body body2 pos) (wIfS wt w u) := (ps_if ht h1 h2).wk fun D σ H ⟨α, m, De, Rl, hw, k⟩ => by
 refine ⟨α, m, _, Rl, hw, fun bb m' H' q n Rl' F => ?_⟩
 have k' : EndsOk X.kx m'.np α H' De D := by rw [n]; exact k.ext (.of Rl' F)
 cases bb with
 | true => rw [if_pos rfl] at q; exact iteT ⟨α, m', De, Rl', q, k'⟩
 | false => rw [if_neg Bool.false_ne_true] at q; exact iteF ⟨α, m', De, Rl', q, k'⟩
def wNever : WS := fun _ _ => False
theorem ms_never : MS X st wNever := (ps_never (X := X)).wk fun D σ H ⟨α, m, De, Rl, hw, k⟩ => hw
def MSt.setV (m : MSt) (i : Nat) (r : R) : MSt := { m with vs := m.vs.set i (some r) }
def RenR (ρ : List Nat) (o : Option (Option R)) : R → Prop
 | .imm d => o = some (some (.imm d))
 | .obj k => ∃ j, ρ[k]? = some j ∧ o = some (some (.obj j))
 | .at k p => ∃ j, ρ[k]? = some j ∧ o = some (some (.at j p))
 | .new _ => False
 | .newT _ => False
structure Ren (ρ : List Nat) (m m2 : MSt) : Prop where
 nd : ρ.Nodup
 lt : ∀ k ∈ ρ, k < m.os.length
 pre : ρ.take m.np = List.range m.np
 npl : m.np ≤ ρ.length
 os : m2.os = ρ.map fun k => m.os.getD k []
 np : m2.np = m.np
 vl : m2.vs.length = m.vs.length
 vs : ∀ (j : Nat) (r : R), m2.vs[j]? = some (some r) → RenR ρ m.vs[j]? r
def upR (D : MSt → Prop) (m : MSt) : Prop := D m ∨ ∃ ρ m2, Ren ρ m m2 ∧ D m2
def bindR (i : Nat) (D : MSt → Prop) (m : MSt) : R → Prop
 | .imm d => upR D (m.setV i (.imm d))
 | .obj k => upR D (m.setV i (.obj k))
 | .at k p => upR D (m.setV i (.at k p))
 | .new ds => upR D { vs := m.vs.set i (some (.obj m.os.length)), os := m.os ++ [ds], np := m.np } ∨
   ∃ k, m.vs[i]? = some (some (.obj k)) ∧ m.np ≤ k ∧ (∀ j : Nat, j ≠ i → m.vs[j]? ≠ some (some (.obj k))) ∧ D { m with os := m.os.set k ds }
 | .newT t => upR D { vs := m.vs.set i (some (.at m.os.length [])), os := m.os ++ [[t]], np := m.np }
theorem paired_ren {α : Al} {n : Nat} (hl : α.length = n) : ∀ {ρ : List Nat}, (∀ k ∈ ρ, k < n) → Paired (fun (k : Nat) (ao : Ao) => α[k]? = some ao) ρ (ρ.map fun k => α.getD k (.L 0))
 | [], _ => .nil
 | k :: ρ, h => .cons (by
   have hk : k < α.length := by rw [hl]; exact h k List.mem_cons_self
   show α[k]? = some (α.getD k (.L 0))
   rw [List.getD_eq_getElem?_getD, List.getElem?_eq_getElem hk]; rfl) (paired_ren hl fun j hj => h j (List.mem_cons_of_mem _ hj))
theorem ren_rel {K : Kx} {α : Al} {m m2 : MSt} {σ : St} {H : Hp} {ρ : List Nat} (Rl : Rel K α m σ H) (N : Ren ρ m m2) : ∃ α2, Rel K α2 m2 σ H ∧ Ext m.np α H α2 H := by
 have pr := paired_ren Rl.len N.lt
 have get : ∀ (k : Nat) (ao : Ao), (ρ.map fun k => α.getD k (.L 0))[k]? = some ao → ∃ j : Nat, ρ[k]? = some j ∧ α[j]? = some ao := fun k ao z => by
  obtain ⟨j, h1, h2⟩ := Paired.get2 pr z
  exact ⟨j, h1, h2⟩
 have fwd : ∀ (k j : Nat) (ao : Ao), ρ[k]? = some j → α[j]? = some ao → (ρ.map fun k => α.getD k (.L 0))[k]? = some ao := fun k j ao z1 z2 => by
  obtain ⟨ao', z3, z4⟩ := Paired.get' pr z1
  rw [z2] at z4; cases z4
  exact z3
 have pre' : (ρ.map fun k => α.getD k (.L 0)).take m.np = α.take m.np := by
  apply List.ext_getElem?
  intro l
  rw [List.getElem?_take, List.getElem?_take]
  by_cases hl : l < m.np
  ·rw [if_pos hl, if_pos hl]
   have : ρ[l]? = some l := by
    have e := congrArg (·[l]?) N.pre
    simp only [List.getElem?_take, if_pos hl] at e
    rw [e, List.getElem?_range hl]
   have hl2 : l < α.length := Nat.lt_of_lt_of_le hl Rl.npl
   rw [fwd l l α[l] this (List.getElem?_eq_getElem hl2), List.getElem?_eq_getElem hl2]
  ·rw [if_neg hl, if_neg hl]
 have ext : Ext m.np α H (ρ.map fun k => α.getD k (.L 0)) H := ⟨pre', Frm.refl _ _, fun a ha => by
  obtain ⟨k, ao, e1, hm⟩ := ads_at ha
  obtain ⟨j, _, e2⟩ := get k ao e1
  exact .inl (ads_in e2 hm), fun a ha => by
  obtain ⟨o, q, _⟩ := Rl.mem ha
  exact ⟨_, q⟩⟩
 refine ⟨ρ.map fun k => α.getD k (.L 0), ⟨paired_nodup Rl.nd N.nd pr, ?_, fun k ao ds z1 z2 => ?_, ?_, fun j r z => ?_, ?_, by rw [N.np]; exact Rl.ebl, Rl.ebx.trans (ext.less Rl.ebl)⟩, ext⟩
 ·rw [N.os, List.length_map, List.length_map]
 ·obtain ⟨j, q, qa⟩ := get k ao z1
  rw [N.os, List.getElem?_map, q] at z2
  have hj : j < m.os.length := N.lt j (List.mem_of_getElem? q)
  have z2' : m.os.getD j [] = ds := Option.some.inj z2
  refine Rl.own j ao ds qa ?_
  rw [← z2', List.getD_eq_getElem?_getD, List.getElem?_eq_getElem hj]; rfl
 ·rw [N.vl]; exact Rl.vlen
 ·have h := N.vs j r z
  cases r with
  | imm d => exact Rl.var j (.imm d) h
  | new _ => exact h.elim
  | newT _ => exact h.elim
  | obj k =>
   obtain ⟨j', q, h⟩ := h
   obtain ⟨v, ev, a, ea, e⟩ := Rl.var j (.obj j') h
   exact ⟨v, ev, a, fwd k j' _ q ea, e⟩
  | «at» k p =>
   obtain ⟨j', q, h⟩ := h
   obtain ⟨v, ev, τ, a, ea, el, e⟩ := Rl.var j (.at j' p) h
   exact ⟨v, ev, τ, a, fwd k j' _ q ea, el, e⟩
 ·rw [N.np, List.length_map]; exact N.npl
def wSet (i : Nat) (we : WE) : WS := fun D m => we m fun r m' => bindR i D.nx m' r
theorem rel_setV {K : Kx} {α : Al} {m : MSt} {σ : St} {H : Hp} {i : Nat} {r : R} {v : V} (Rl : Rel K α m σ H) (h : RelS K α H r v) : Rel K α (m.setV i r) (σ.set i (some v)) H := by
 refine ⟨Rl.nd, Rl.len, Rl.own, ?_, fun j r' e => ?_, Rl.npl, Rl.ebl, Rl.ebx⟩
 ·show (σ.set i (some v)).length = (m.vs.set i (some r)).length
  rw [List.length_set, List.length_set]; exact Rl.vlen
 ·have e' : (m.vs.set i (some r))[j]? = some (some r') := e
  by_cases hj : i = j
  ·subst hj
   by_cases hi : i < m.vs.length
   ·rw [List.getElem?_set_self hi] at e'
    cases e'
    exact ⟨v, List.getElem?_set_self (by rw [Rl.vlen]; exact hi), h⟩
   ·rw [List.getElem?_eq_none (by rw [List.length_set]; omega)] at e'; cases e'
  ·rw [List.getElem?_set_ne hj] at e' ⊢
   exact Rl.var j r' e'
theorem rel_more {K : Kx} {α : Al} {m : MSt} {σ : St} {H0 H : Hp} {ao : Ao} {ds : List PyData} (Rl : Rel K α m σ H) (R0 : ∃ m0 σ0, Rel K α m0 σ0 H0) (F : Frm α H0 H) (nd : ao.ads.Nodup) (hn : ∀ b ∈ ao.ads, H0 b = none) (g : OwnAt K H ao ds) :
  Rel K (α ++ [ao]) { m with os := m.os ++ [ds] } σ H ∧ ∀ np, np ≤ α.length → Ext np α H0 (α ++ [ao]) H := by
 obtain ⟨m0, σ0, Rl0⟩ := R0
 have pα : ∀ b ∈ ao.ads, b ∉ ads α := fun b hb => Rl0.out (hn b hb)
 have one : ads [ao] = ao.ads := by simp [ads]
 have ext : ∀ np, np ≤ α.length → Ext np α H0 (α ++ [ao]) H := fun np hnp => ⟨by rw [List.take_append_of_le_length hnp], F, fun a ha => by
  rw [ads_append, one] at ha
  rcases List.mem_append.mp ha with z | z
  ·exact .inl z
  ·exact .inr (hn a z), fun a ha => by
  obtain ⟨o, q, _⟩ := Rl.mem ha
  exact ⟨_, q⟩⟩
 refine ⟨⟨?_, by simp [Rl.len], fun k a es z1 z2 => ?_, Rl.vlen, fun j r' z => ?_, by have := Rl.npl; show m.np ≤ (α ++ [ao]).length; rw [List.length_append]; omega, Rl.ebl, Rl0.ebx.trans (ext _ ?_)⟩, ext⟩
 ·rw [ads_append, one]
  exact List.nodup_append.mpr ⟨Rl.nd, nd, fun x hx y hy e => pα y hy (e ▸ hx)⟩
 ·have z2' : (m.os ++ [ds])[k]? = some es := z2
  by_cases hk : k < α.length
  ·rw [List.getElem?_append_left hk] at z1
   rw [List.getElem?_append_left (by rw [← Rl.len]; exact hk)] at z2'
   exact Rl.own k a es z1 z2'
  ·rw [List.getElem?_append_right (by omega)] at z1
   rw [List.getElem?_append_right (by rw [← Rl.len]; omega)] at z2'
   have hk0 : k - α.length = 0 := by
    have := (List.getElem?_eq_some_iff.mp z1).1
    simp at this; omega
   rw [hk0] at z1
   rw [← Rl.len, hk0] at z2'
   simp at z1 z2'
   subst z1; subst z2'
   exact g
 ·obtain ⟨v, ev, rv⟩ := Rl.var j r' z
  refine ⟨v, ev, ?_⟩
  cases r' with
  | imm d => exact rv
  | new _ => exact rv
  | newT _ => exact rv
  | obj k =>
   obtain ⟨a, ea, e⟩ := rv
   exact ⟨a, by rw [List.getElem?_append_left (List.getElem?_eq_some_iff.mp ea).1]; exact ea, e⟩
  | «at» k p =>
   obtain ⟨τ, a, ea, e⟩ := rv
   exact ⟨τ, a, by rw [List.getElem?_append_left (List.getElem?_eq_some_iff.mp ea).1]; exact ea, e⟩
 ·exact Nat.le_trans Rl.ebl Rl.npl
theorem bind_rd {K : Kx} {α : Al} {m : MSt} {σ : St} {H0 H : Hp} {i : Nat} {r : R} {v : V} {P : MSt → Prop} {Q : St → Hp → Prop} {np : Nat} (Rl : Rel K α m σ H) (n : m.np = np) (F : Frm α H0 H) (h : RelR K α H0 H r v) (q : bindR i P m r)
  (k : ∀ α' m' σ' H', P m' → m'.np = np → Rel K α' m' σ' H' → Ext np α H0 α' H' → Q σ' H') (R0 : ∃ m0 σ0, Rel K α m0 σ0 H0) : Q (σ.set i (some v)) H := by
 have up : ∀ α' m' σ' H', upR P m' → m'.np = np → Rel K α' m' σ' H' → Ext np α H0 α' H' → Q σ' H' := fun α' m' σ' H' q n R x => by
  rcases q with q | ⟨ρ, m2, N, q⟩
  ·exact k α' m' σ' H' q n R x
  ·obtain ⟨α2, R2, x2⟩ := ren_rel R N
   rw [n] at x2
   exact k α2 m2 σ' H' q (N.np.trans n) R2 (x.trans x2)
 have npα : np ≤ α.length := by rw [← n]; exact Rl.npl
 cases r with
 | imm d => exact up α _ _ H q n (rel_setV Rl (r := .imm d) h) (.of (rel_setV (i := i) Rl (r := .imm d) h) F)
 | obj j => exact up α _ _ H q n (rel_setV Rl (r := .obj j) h) (.of (rel_setV (i := i) Rl (r := .obj j) h) F)
 | «at» j p => exact up α _ _ H q n (rel_setV Rl (r := .at j p) h) (.of (rel_setV (i := i) Rl (r := .at j p) h) F)
 | newT t =>
  obtain ⟨τ, p, rfl, el, nd, hn, g⟩ := h
  obtain ⟨base, ext⟩ := rel_more Rl R0 F (ao := .T τ) nd hn g
  exact up (α ++ [.T τ]) _ _ H q n (rel_setV base (r := .at m.os.length []) ⟨τ, p, by rw [List.getElem?_append_right (by rw [Rl.len]; exact Nat.le_refl _), ← Rl.len]; simp, el, rfl⟩) (ext np npα)
 | new ds =>
  obtain ⟨p, xs, rfl, hn, hp, g⟩ := h
  have R0' := R0
  obtain ⟨m0, σ0, Rl0⟩ := R0'
  have pα : p ∉ ads α := Rl0.out hn
  rcases q with q | ⟨j, e1, e2, e3, q⟩
  ·
   obtain ⟨base, ext⟩ := rel_more Rl R0 F (ao := .L p) (by simp [Ao.ads]) (fun b hb => by cases List.mem_singleton.mp hb; exact hn) ⟨xs, hp, g⟩
   exact up (α ++ [.L p]) _ _ H q n (rel_setV base (r := .obj m.os.length) ⟨p, by rw [List.getElem?_append_right (by rw [Rl.len]; exact Nat.le_refl _), ← Rl.len]; simp, rfl⟩) (ext np npα)
  ·
   obtain ⟨aj, eaj⟩ : ∃ aj, α[j]? = some (.L aj) := by
    obtain ⟨v, _, a, ea, _⟩ := Rl.var i _ e1
    exact ⟨a, ea⟩
   have hj : j < α.length := (List.getElem?_eq_some_iff.mp eaj).1
   have hi : i < m.vs.length := (List.getElem?_eq_some_iff.mp e1).1
   have ndS : (ads (α.set j (.L p))).Nodup := by
    have z := (ads_iff α).mp Rl.nd
    rw [ads_iff]
    refine ⟨fun ao ha => ?_, List.pairwise_iff_getElem.mpr fun i1 i2 h1 h2 hlt a ha b hb e => ?_⟩
    ·rcases List.mem_or_eq_of_mem_set ha with y | y
     ·exact z.1 ao y
     ·subst y; simp [Ao.ads]
    ·subst e
     rw [List.length_set] at h1 h2
     have mem : ∀ (l : Nat) (hl : l < α.length), a ∈ (α[l]).ads → a ∈ ads α := fun l hl h => ads_in (List.getElem?_eq_getElem hl) h
     by_cases c1 : j = i1
     ·subst c1
      rw [List.getElem_set_self] at ha
      rw [List.getElem_set_ne (by omega)] at hb
      cases List.mem_singleton.mp ha
      exact pα (mem i2 h2 hb)
     ·rw [List.getElem_set_ne c1] at ha
      by_cases c2 : j = i2
      ·subst c2
       rw [List.getElem_set_self] at hb
       cases List.mem_singleton.mp hb
       exact pα (mem i1 h1 ha)
      ·rw [List.getElem_set_ne c2] at hb
       exact ads_disj Rl.nd (List.getElem?_eq_getElem h1) (List.getElem?_eq_getElem h2) (Nat.ne_of_lt hlt) ha hb
   have ext : Ext np α H0 (α.set j (.L p)) H := by
    refine ⟨?_, F, fun a ha => ?_, fun a ha => ?_⟩
    ·apply List.ext_getElem?
     intro l
     rw [List.getElem?_take, List.getElem?_take]
     by_cases hl : l < np
     ·rw [if_pos hl, if_pos hl, List.getElem?_set_ne (by omega)]
     ·rw [if_neg hl, if_neg hl]
    ·obtain ⟨l, ao, el, hm⟩ := ads_at ha
     by_cases c1 : j = l
     ·subst c1
      rw [List.getElem?_set_self hj] at el
      cases el
      cases List.mem_singleton.mp hm
      exact .inr hn
     ·rw [List.getElem?_set_ne c1] at el
      exact .inl (ads_in el hm)
    ·obtain ⟨o, q, _⟩ := Rl.mem ha
     exact ⟨_, q⟩
   have Rl' : Rel K (α.set j (.L p)) { m with os := m.os.set j ds } (σ.set i (some (.ref p))) H := by
    refine ⟨ndS, by simp [Rl.len], fun k a es z1 z2 => ?_, by rw [List.length_set]; exact Rl.vlen, fun l r' z => ?_, by rw [List.length_set]; exact Rl.npl, Rl.ebl, Rl0.ebx.trans (ext.less (by have := Rl.ebl; omega))⟩
    ·have z2' : (m.os.set j ds)[k]? = some es := z2
     by_cases c1 : j = k
     ·subst c1
      rw [List.getElem?_set_self hj] at z1
      rw [List.getElem?_set_self (by rw [← Rl.len]; exact hj)] at z2'
      cases z1; cases z2'
      exact ⟨xs, hp, g⟩
     ·rw [List.getElem?_set_ne c1] at z1 z2'
      exact Rl.own k a es z1 z2'
    ·have z' : m.vs[l]? = some (some r') := z
     by_cases hl : i = l
     ·subst hl
      rw [e1] at z'
      cases z'
      exact ⟨.ref p, List.getElem?_set_self (by rw [Rl.vlen]; exact hi), p, List.getElem?_set_self hj, rfl⟩
     ·obtain ⟨v, ev, rv⟩ := Rl.var l r' z'
      refine ⟨v, by rw [List.getElem?_set_ne hl]; exact ev, ?_⟩
      cases r' with
      | imm d => exact rv
      | new _ => exact rv
      | newT _ => exact rv
      | obj k =>
       obtain ⟨a, ea, e⟩ := rv
       refine ⟨a, ?_, e⟩
       rw [List.getElem?_set_ne]
       ·exact ea
       ·rintro rfl
        exact e3 l (Ne.symm hl) z'
      | «at» k p' =>
       obtain ⟨τ, a, ea, e⟩ := rv
       refine ⟨τ, a, ?_, e⟩
       rw [List.getElem?_set_ne]
       ·exact ea
       ·rintro rfl
        rw [eaj] at ea; cases ea
   exact k (α.set j (.L p)) _ _ H q n Rl' ext
theorem ms_set {i : Nat} {x : Str} {pos' : Pos} (hN : X.N.Nodup) (hi : X.N[i]? = some x) (hx : Loc X.env.scope x) (he : ME X e we) (hs : swapsWith e (some (.Name x pos')) pos.line X.env = pure false := by rfl) (hf : X.fn x = true ∨ X.env.scope.names.lookup x = some .local := by first | exact .inl rfl | exact .inr rfl | assumption) :
  MS X (.Assign [.Name x pos'] e pos) (wSet i we) := (ps_set hN hi hx he hs hf).wk fun D σ H ⟨α, m, De, Rl, hw, k⟩ =>
 ⟨α, m, _, Rl, hw, fun r m' v H' q n Rl' rr F => bind_rd (Q := D.nx) Rl' n F rr q k.nx ⟨m, σ, Rl⟩⟩
abbrev WG := PyData → MSt → (MSt → Prop) → Prop
abbrev WGs := List PyData → MSt → (MSt → Prop) → Prop
def tMG (K : Kx) (g : WG) : TG := fun v σ H Q => ∃ α m d Kc, Rel K α m σ H ∧ Den K H d v ∧ g d m Kc ∧ ∀ m' σ', Kc m' → m'.np = m.np → Rel K α m' σ' H → Q σ' H
def tMGs (K : Kx) (g : WGs) : TGs := fun vs σ H Q => ∃ α m ds Kc, Rel K α m σ H ∧ DenAll K H ds vs ∧ g ds m Kc ∧ ∀ m' σ', Kc m' → m'.np = m.np → Rel K α m' σ' H → Q σ' H
theorem PG.wk {X : Cx} {e : Expr} {t t' : TG} (h : PG X e t) (k : ∀ v σ H Q, t' v σ H Q → t v σ H Q) : PG X e t' := fun pins s σ H v u Q I r q => h pins s σ H v u Q I r (k _ _ _ _ q)
theorem PGs.wk {X : Cx} {e : List Expr} {t t' : TGs} (h : PGs X e t) (k : ∀ v σ H Q, t' v σ H Q → t v σ H Q) : PGs X e t' := fun pins s σ H v u Q I r q => h pins s σ H v u Q I r (k _ _ _ _ q)
abbrev MG (X : Cx) (e : Expr) (g : WG) : Prop := PG X e (tMG X.kx g)
abbrev MGs (X : Cx) (es : List Expr) (g : WGs) : Prop := PGs X es (tMGs X.kx g)
def gM (i : Nat) : WG := fun d m K => K (m.setV i (.imm d))
def gMNil : WGs := fun ds m K => ds = [] ∧ K m
def gMCons (g : WG) (gs : WGs) : WGs := fun ds m K => match ds with | d :: r => g d m fun m' => gs r m' K | [] => False
def gMTup (n : Nat) (gs : WGs) : WG := fun d m K => match d with | .tuple ds => ds.length = n ∧ gs ds m K | _ => False
theorem mg_name {i : Nat} {x : Str} (hN : X.N.Nodup) (hi : X.N[i]? = some x) (hx : Loc X.env.scope x) (hf : X.fn x = true ∨ X.env.scope.names.lookup x = some .local := by first | exact .inl rfl | exact .inr rfl | assumption) : MG X (.Name x pos) (gM i) := (pg_name hN hi hx hf).wk fun v σ H Q ⟨α, m, d, Kc, Rl, hd, hw, fin⟩ =>
 fin _ _ hw rfl (rel_setV Rl hd)
theorem mgs_nil : MGs X [] gMNil := (pgs_nil (X := X)).wk fun v σ H Q ⟨α, m, d, Kc, Rl, hd, hw, fin⟩ => by
 obtain ⟨rfl, hw⟩ := hw
 simp only [DenAll] at hd
 exact ⟨hd, fin m σ hw rfl Rl⟩
theorem mgs_cons {e : Expr} {es : List Expr} {g : WG} {gs : WGs} (h1 : MG X e g) (h2 : MGs X es gs)
  (hs : (assignEach (e :: es) X.env).map (·.2) = assign e X.env :: (assignEach es X.env).map (·.2) := by rfl) : MGs X (e :: es) (gMCons g gs) := (pgs_cons h1 h2 hs).wk fun v σ H Q ⟨α, m, ds, Kc, Rl, hd, hw, fin⟩ => by
 cases ds with
 | nil => exact hw.elim
 | cons d r =>
  simp only [DenAll] at hd
  obtain ⟨x, vr, rfl, h3, h4⟩ := hd
  exact ⟨x, vr, rfl, α, m, d, _, Rl, h3, hw, fun m' σ' k n Rl' => ⟨α, m', r, _, Rl', h4, k, fun m2 σ2 k2 n2 Rl2 => fin m2 σ2 k2 (n2.trans n) Rl2⟩⟩
theorem mg_tup {es : List Expr} {k : Nat} {gs : WGs} {n : Nat} (h : MGs X es gs) (hc : X.calm = true := by rfl)
  (hn : (assignEach es X.env).length = n := by rfl) (hst : (assignEach es X.env).findIdx? (·.1) = none := by rfl) : MG X (.Tuple es k pos) (gMTup n gs) := (pg_tup hc h hn hst).wk fun v σ H Q ⟨α, m, d, Kc, Rl, hd, hw, fin⟩ => by
 cases d with
 | tuple ds =>
  simp only [Den] at hd
  obtain ⟨a, xs, e, f, g⟩ := hd
  exact ⟨a, xs, e, f, g.length.symm.trans hw.1, α, m, ds, Kc, Rl, g, hw.2, fin⟩
 | none => exact hw.elim
 | bool _ => exact hw.elim
 | int _ => exact hw.elim
 | str _ => exact hw.elim
 | list _ => exact hw.elim
 | dict _ => exact hw.elim
def onImm (P : PyData → Prop) : R → Prop
 | .imm d => P d
 | _ => False
theorem on_imm {K : Kx} {α : Al} {Hb H : Hp} {r : R} {v : V} {P : PyData → Prop} (rr : RelR K α Hb H r v) (h : onImm P r) : ∃ d, r = .imm d ∧ Den K H d v ∧ P d := by
 cases r with
 | imm d => exact ⟨d, rfl, rr, h⟩
 | obj _ => exact h.elim
 | new _ => exact h.elim
 | «at» _ _ => exact h.elim
 | newT _ => exact h.elim
def wPar (i j : Nat) (ws : WA) : WS := fun D m => ws m fun rs m' => match rs with | [.imm d1, .imm d2] => D.nx ((m'.setV i (.imm d1)).setV j (.imm d2)) | _ => False
theorem ms_par {i j : Nat} {x y : Str} {px py pt : Pos} {kt k2 pt2} (hN : X.N.Nodup) (hi : X.N[i]? = some x) (hj : X.N[j]? = some y) (hij : i ≠ j)
  (hx : X.env.scope.names.lookup x = some .local) (hy : X.env.scope.names.lookup y = some .local) (ha : MA X [a, b] ws)
  (hw : swappedStores [.Tuple [.Name x px, .Name y py] kt pt] (.Tuple [a, b] k2 pt2) X.env = pure (some [x, y])) (hc : X.calm = true := by rfl)
  (hs : swapsWithSole [.Tuple [.Name x px, .Name y py] kt pt] (.Tuple [a, b] k2 pt2) pos.line X.env = pure false := by rfl) :
  MS X (.Assign [.Tuple [.Name x px, .Name y py] kt pt] (.Tuple [a, b] k2 pt2) pos) (wPar i j ws) := (ps_par hc hN hi hj hij hx hy ha hw hs).wk fun D σ H ⟨α, m, De, Rl, hw, k⟩ => by
 refine ⟨α, m, _, Rl, hw, fun rs m' vs H' q n Rl' rr F => ?_⟩
 match rs, rr, q with
 | [.imm d1, .imm d2], .cons h1 (.cons h2 .nil), q => exact ⟨_, _, rfl, k.nx α _ _ H' q n (rel_setV (rel_setV Rl' (r := .imm d1) h1) (r := .imm d2) h2) (.of Rl' F)⟩
end
structure Src where
 ds : List PyData
 own : Option Nat
structure Wks (K : Kd) (J : It) (ds : List PyData) (C : Hp → Prop) : Prop where
 stop : ∀ H, C H → J.stop ds.length H
 go : ∀ i H, i < ds.length → C H → J.go i H
 yld : ∀ i H x H', i < ds.length → C H → J.yld i H x H' → (∀ b o, H b = some o → H' b = some o) ∧ ∃ d, ds[i]? = some d ∧ Den K H' d x
def SrcOk (K : Kd) (α : Al) (H : Hp) (s : Src) (J : It) : Prop :=
 match s.own with
 | none => ∃ C : Hp → Prop, Wks K J s.ds C ∧ C H ∧ ∀ H1 H2, C H1 → Pers H1 H2 → C H2
 | some k => ∃ a, α[k]? = some (.L a) ∧ Wks K J s.ds fun H => ∃ xs, H a = some (.lst xs) ∧ DenAll K H s.ds xs
abbrev WI := MSt → (Src → MSt → Prop) → Prop
def tMI (K : Kx) (w : WI) : TI := fun σ H Rq => ∃ α m Kc, Rel K α m σ H ∧ w m Kc ∧ ∀ s m' J H', Kc s m' → m'.np = m.np → Rel K α m' σ H' → Frm α H H' → SrcOk K α H' s J → Rq J H'
theorem PI.wk {X : Cx} {tg e : Expr} {t t' : TI} (h : PI X tg e t) (k : ∀ σ H Q, t' σ H Q → t σ H Q) : PI X tg e t' := fun pins s σ H Q I q => h pins s σ H Q I (k _ _ _ q)
abbrev MI (X : Cx) (tg e : Expr) (w : WI) : Prop := PI X tg e (tMI X.kx w)
section
variable {X : Cx} {tg a b c e iter : Expr} {es : List Expr} {wa wb wc we : WE} {ws : WA} {wt : WT} {pos : Pos} {st : Stmt} {rest body body2 : List Stmt} {w u : WS}
def iSeq (K : PySem.W.Frag) (tl : TE) : TI := fun σ H Rq => tl σ H fun x H1 => ∃ a, x = .ref a ∧ (((∃ xs, SqL K H1 a xs) ∧ Rq (Itl K a) H1) ∨ ((∃ xs, SqT K H1 a xs) ∧ Rq (Itt K a) H1))
theorem pi_seq {l : Expr} {tl : TE} (hl : PE X l tl) : PI X tg l (iSeq X.K tl) := by
 intro pins s σ H Rq I h
 refine thn (hl pins s σ H _ I h) fun v s1 ⟨x, H1, I1, r1, q1⟩ => ?_
 obtain ⟨a, e, q⟩ := q1
 subst e
 cases r1
 rcases q with ⟨⟨xs, hq⟩, q⟩ | ⟨⟨xs, hq⟩, q⟩
 ·obtain ⟨its, rv, p, hz⟩ := I1.list hq
  refine wpAny_pyIter_list p.isList ?_
  refine ⟨s1.heap.objs.size, [s1.heap.objs.size], _, _, H1, rfl, I1.kept (t' := s1.toks) fun b o e => Heap.get?_push_of_some _ e, turn_list a _, ⟨_, Heap.get?_push_size _ rfl, rfl, rfl⟩, fun b hb => ?_, q⟩
  have e : b = s1.heap.objs.size := by simpa using hb
  subst e
  exact I1.fpOk (Nat.le_refl _) (I1.hok.fresh (Nat.le_refl _))
 ·obtain ⟨its, rv, p, hz⟩ := I1.tuple hq
  refine wpAny_pyIter_tuple (show s1.heap.IsTuple a its.toArray from p) ?_
  refine ⟨s1.heap.objs.size, [s1.heap.objs.size], _, _, H1, rfl, I1.kept (t' := s1.toks) fun b o e => Heap.get?_push_of_some _ e, turn_tuple a _, ⟨_, Heap.get?_push_size _ rfl, rfl, rfl⟩, fun b hb => ?_, q⟩
  have e : b = s1.heap.objs.size := by simpa using hb
  subst e
  exact I1.fpOk (Nat.le_refl _) (I1.hok.fresh (Nat.le_refl _))
def srcR (m : MSt) (K : Src → MSt → Prop) : R → Prop
 | .imm (.list ds) => K ⟨ds, none⟩ m
 | .imm (.tuple ds) => K ⟨ds, none⟩ m
 | .obj k => ∃ ds, m.os[k]? = some ds ∧ K ⟨ds, some k⟩ m
 | _ => False
def wiSeq (we : WE) : WI := fun m K => we m fun r m' => srcR m' K r
theorem wks_list {K : Kd} {a : Addr} {ds : List PyData} : Wks K (Itl K a) ds fun H => ∃ xs, SqL K H a xs ∧ DenAll K H ds xs where
 stop := fun H ⟨xs, q, g⟩ => ⟨xs, q, by rw [g.length]; exact Nat.le_refl _⟩
 go := fun i H hi ⟨xs, q, g⟩ => ⟨xs, xs[i]'(by rw [← g.length]; exact hi), q, List.getElem?_eq_getElem _⟩
 yld := fun i H x H' hi ⟨xs, q, g⟩ y => by
  obtain ⟨e, y⟩ := y
  subst e
  obtain ⟨d, h1, h2⟩ := g.get2 (y xs q)
  exact ⟨fun _ _ z => z, d, h1, h2⟩
theorem wks_tup {K : Kd} {a : Addr} {ds : List PyData} : Wks K (Itt K a) ds fun H => ∃ xs, SqT K H a xs ∧ DenAll K H ds xs where
 stop := fun H ⟨xs, q, g⟩ => ⟨xs, q, by rw [g.length]; exact Nat.le_refl _⟩
 go := fun i H hi ⟨xs, q, g⟩ => ⟨xs, xs[i]'(by rw [← g.length]; exact hi), q, List.getElem?_eq_getElem _⟩
 yld := fun i H x H' hi ⟨xs, q, g⟩ y => by
  obtain ⟨e, y⟩ := y
  subst e
  obtain ⟨d, h1, h2⟩ := g.get2 (y xs q)
  exact ⟨fun _ _ z => z, d, h1, h2⟩
theorem Wks.imp {K : Kd} {J : It} {ds : List PyData} {C C' : Hp → Prop} (h : Wks K J ds C) (k : ∀ H, C' H → C H) : Wks K J ds C' := ⟨fun H c => h.stop H (k H c), fun i H hi c => h.go i H hi (k H c), fun i H x H' hi c => h.yld i H x H' hi (k H c)⟩
theorem mi_seq (he : ME X e we) : MI X tg e (wiSeq we) := (pi_seq (tg := tg) he).wk fun σ H Rq ⟨α, m, Kc, Rl, hw, fin⟩ => by
 refine ⟨α, m, _, Rl, hw, fun r m' v H' k n Rl' rr F => ?_⟩
 cases r with
 | new _ => exact k.elim
 | «at» _ _ => exact k.elim
 | newT _ => exact k.elim
 | obj j =>
  obtain ⟨ds, e1, k⟩ := k
  obtain ⟨p, ep, rfl⟩ := rr
  obtain ⟨xs, q, g⟩ := Rl'.own j _ ds ep e1
  exact ⟨p, rfl, .inl ⟨⟨xs, SqL.of q⟩, fin _ m' _ H' k n Rl' F ⟨p, ep, wks_list.imp fun H ⟨xs, q, g⟩ => ⟨xs, SqL.of q, g⟩⟩⟩⟩
 | imm d =>
  cases d with
  | list ds =>
   have h : Den X.kx H' (.list ds) v := rr
   simp only [Den] at h
   obtain ⟨p, xs, rfl, f, g⟩ := h
   refine ⟨p, rfl, .inl ⟨⟨xs, f.sq⟩, fin _ m' _ H' k n Rl' F ⟨fun H => ∃ xs, FzL X.kx H p xs ∧ DenAll X.kx H ds xs, wks_list.imp fun H ⟨xs, q, g⟩ => ⟨xs, q.sq, g⟩, ⟨xs, f, g⟩, fun H1 H2 ⟨xs, q, g⟩ pe => ⟨xs, q.mono pe, g.mono pe⟩⟩⟩⟩
  | tuple ds =>
   have h : Den X.kx H' (.tuple ds) v := rr
   simp only [Den] at h
   obtain ⟨p, xs, rfl, f, g⟩ := h
   refine ⟨p, rfl, .inr ⟨⟨xs, f⟩, fin _ m' _ H' k n Rl' F ⟨fun H => ∃ xs, SqT X.kx H p xs ∧ DenAll X.kx H ds xs, wks_tup, ⟨xs, f, g⟩, fun H1 H2 ⟨xs, q, g⟩ pe => ⟨xs, q.mono pe, g.mono pe⟩⟩⟩⟩
  | none => exact k.elim
  | bool _ => exact k.elim
  | int _ => exact k.elim
  | str _ => exact k.elim
  | dict _ => exact k.elim
def rangeD (lo : Int) (n : Nat) : List PyData := (List.range n).map fun (i : Nat) => PyData.int (lo + (i : Int))
theorem rangeD_length (lo : Int) (n : Nat) : (rangeD lo n).length = n := by simp [rangeD]
theorem rangeD_get {lo : Int} {n i : Nat} (h : i < n) : (rangeD lo n)[i]? = some (.int (lo + (i : Int))) := by simp [rangeD, h]
theorem wks_range {K : Kd} {lo : Int} {n : Nat} : Wks K (Itr lo n) (rangeD lo n) fun _ => True where
 stop := fun H _ => by rw [rangeD_length]; exact Nat.le_refl _
 go := fun i H hi _ => by rw [rangeD_length] at hi; exact hi
 yld := fun i H x H' hi _ y => by
  rw [rangeD_length] at hi
  obtain ⟨e, y⟩ := y
  subst e y
  exact ⟨fun _ _ z => z, _, rangeD_get hi, den_int _⟩
def wiRng1 (ws : WA) : WI := fun m K => ws m fun rs m' => match rs with | [.imm (.int j)] => -(2 ^ 62) ≤ j ∧ j < 2 ^ 62 ∧ K ⟨rangeD 0 j.toNat, none⟩ m' | _ => False
theorem int_of_den {K : Kd} {H : Hp} {i : Int} {v : V} (h : Den K H (.int i) v) : v = .int i := by simpa only [Den] using h
theorem mi_range1 {p : Pos} (hg : Gl X "range") (hm : X.mg "range" = none) (ha : MA X [a] ws) (hs : starEach [a] X.env = [(false, eval a X.env)] := by first | exact star_one rfl | rfl) : MI X tg (.Call (.Name "range" p) [a] [] pos) (wiRng1 ws) := (pi_range1 (tg := tg) hg hm ha hs).wk fun σ H Rq ⟨α, m, Kc, Rl, hw, fin⟩ => by
 refine ⟨α, m, _, Rl, hw, fun rs m' vs H' k n Rl' rr F => ?_⟩
 match rs, rr, k with
 | [.imm (.int j)], .cons h1 .nil, k =>
  obtain ⟨k1, k2, k⟩ := k
  have e := int_of_den (show Den X.kx H' (.int j) _ from h1)
  subst e
  exact ⟨j, rfl, k1, k2, fin _ m' _ H' k n Rl' F ⟨fun _ => True, wks_range, trivial, fun _ _ _ _ => trivial⟩⟩
def MSt.setN (m : MSt) (n : Nat) : MSt := { m with np := n }
def Src.np (s : Src) (m : MSt) : Nat := match s.own with | none => m.np | some k => max m.np (k + 1)
def Src.ok (s : Src) (m : MSt) : Prop := match s.own with | none => True | some k => m.os[k]? = some s.ds
def wLoop (s : Src) (g : WG) (w : WS) : WS := fun D m1 => ∃ P : Nat → MSt → Prop, P 0 (m1.setN (s.np m1)) ∧
 (∀ (i : Nat) (d : PyData) (m : MSt), s.ds[i]? = some d → m.np = s.np m1 → P i m → s.ok m ∧ g d m fun m2 => w { nx := P (i + 1), ct := P (i + 1), bk := fun m' => D.nx (m'.setN m1.np), rt := fun r m' => D.rt r (m'.setN m1.np) } m2) ∧
 ∀ m, m.np = s.np m1 → P s.ds.length m → s.ok m ∧ D.nx (m.setN m1.np)
def wFor (wi : WI) (g : WG) (w : WS) : WS := fun D m => wi m fun s m1 => wLoop s g w D m1
theorem Rel.setN {K : Kx} {α : Al} {m : MSt} {σ : St} {H : Hp} {n : Nat} (R : Rel K α m σ H) (h : n ≤ α.length) (he : K.eb.np ≤ n) : Rel K α (m.setN n) σ H := ⟨R.nd, R.len, R.own, R.vlen, R.var, h, he, R.ebx⟩
theorem loop_rd {K : Kx} {s : Src} {g : WG} {w : WS} {J : It} {α : Al} {m1 : MSt} {σ : St} {H : Hp} {De : MEnds} {D : Ends} (Rl : Rel K α m1 σ H) (hJ : SrcOk K α H s J) (h : wLoop s g w De m1) (k : EndsOk K m1.np α H De D) {tb : TS}
  (hb : ∀ α' m' σ' H' De' D', α'.take (s.np m1) = α.take (s.np m1) → m'.np = s.np m1 → Rel K α' m' σ' H' → w De' m' → EndsOk K m'.np α' H' De' D' → tb D' σ' H') : tLoop J (tMG K g) tb D σ H := by
 obtain ⟨P, p0, turn, fin⟩ := h
 have npk : s.np m1 ≤ α.length := by
  unfold Src.np
  unfold SrcOk at hJ
  cases e : s.own with
  | none => exact Rl.npl
  | some j =>
   rw [e] at hJ
   obtain ⟨a, ea, _⟩ := hJ
   have := (List.getElem?_eq_some_iff.mp ea).1
   have := Rl.npl
   show max m1.np (j + 1) ≤ α.length
   omega
 have nple : m1.np ≤ s.np m1 := by
  unfold Src.np
  split
  ·exact Nat.le_refl _
  ·exact Nat.le_max_left _ _
 obtain ⟨C, wk, hC⟩ : ∃ C : Hp → Prop, Wks K J s.ds C ∧ ∀ α' m' σ' H', Rel K α' m' σ' H' → Ext (s.np m1) α H α' H' → s.ok m' → C H' := by
  unfold SrcOk at hJ
  cases e : s.own with
  | none =>
   rw [e] at hJ
   obtain ⟨C, wk, c0, cm⟩ := hJ
   exact ⟨C, wk, fun α' m' σ' H' _ x _ => cm H H' c0 (Rl.pers x.frm)⟩
  | some j =>
   rw [e] at hJ
   obtain ⟨a, ea, wk⟩ := hJ
   refine ⟨_, wk, fun α' m' σ' H' R' x ok => ?_⟩
   have hj : j < s.np m1 := by unfold Src.np; rw [e]; show j < max _ _; omega
   have ea' : α'[j]? = some (.L a) := by
    have := congrArg (fun l => l[j]?) x.pre
    simp only [List.getElem?_take, if_pos hj] at this
    rw [this]; exact ea
   unfold Src.ok at ok
   rw [e] at ok
   exact R'.own j _ s.ds ea' ok
 have back : ∀ {α' : Al} {m' : MSt} {σ' : St} {H' : Hp}, Rel K α' m' σ' H' → m'.np = s.np m1 → Ext (s.np m1) α H α' H' → Rel K α' (m'.setN m1.np) σ' H' := fun R' n x => R'.setN (by
  have := R'.npl
  rw [n] at this; omega) Rl.ebl
 refine ⟨fun i n σ' H' => n = s.ds.length - i ∧ i ≤ s.ds.length ∧ ∃ α' m', P i m' ∧ m'.np = s.np m1 ∧ Rel K α' m' σ' H' ∧ Ext (s.np m1) α H α' H', ⟨s.ds.length, by simp, Nat.zero_le _, α, _, p0, rfl, Rl.setN npk (Nat.le_trans Rl.ebl nple), .of Rl (Frm.refl _ _)⟩, ?_⟩
 rintro i n σ' H' ⟨rfl, hi, α', m', p, hn, R', x⟩
 by_cases hlt : i < s.ds.length
 ·have hd : s.ds[i]? = some s.ds[i] := List.getElem?_eq_getElem hlt
  obtain ⟨ok, hg⟩ := turn i _ m' hd hn p
  have c := hC α' m' σ' H' R' x ok
  refine .inr ⟨wk.go i H' hlt c, fun σ2 H2 => ∃ α2 m2, P (i + 1) m2 ∧ m2.np = s.np m1 ∧ Rel K α2 m2 σ2 H2 ∧ Ext (s.np m1) α H α2 H2, fun σ2 H2 h2 => ⟨s.ds.length - (i + 1), by omega, rfl, hlt, h2⟩, fun v H2 y => ?_⟩
  obtain ⟨grow, d, e1, e2⟩ := wk.yld i H' v H2 hlt c y
  rw [hd] at e1; cases e1
  have F2 : Frm α' H' H2 := fun b o z _ => grow b o z
  have R2 : Rel K α' m' σ' H2 := R'.at (R'.pers F2) (fun b hb => by
   obtain ⟨ys, z, _⟩ := R'.mem hb
   rw [z]; exact grow b _ z) F2
  have x2 : Ext (s.np m1) α H α' H2 := x.trans (.of R2 F2)
  refine ⟨α', m', _, _, R2, e2, hg, fun m3 σ3 q3 n3 R3 => hb α' m3 σ3 H2 _ _ x2.pre (n3.trans hn) R3 q3 ?_⟩
  have n3' : m3.np = s.np m1 := n3.trans hn
  have x3 : Ext m3.np α H α' H2 := by rw [n3']; exact x2
  refine ⟨fun α4 m4 σ4 H4 q4 n4 R4 x4 => ⟨α4, m4, q4, n4.trans n3', R4, ?_⟩, fun r α4 m4 σ4 v4 H4 q4 n4 R4 rr x4 => ?_, fun α4 m4 σ4 H4 q4 n4 R4 x4 => ?_, fun α4 m4 σ4 H4 q4 n4 R4 x4 => ⟨α4, m4, q4, n4.trans n3', R4, ?_⟩⟩
  ·rw [← n3']; exact x3.trans x4
  ·have x5 : Ext (s.np m1) α H α4 H4 := by rw [← n3']; exact x3.trans x4
   exact k.rt r α4 (m4.setN m1.np) σ4 v4 H4 q4 rfl (back R4 (n4.trans n3') x5) (rr.ext x3) (x5.less nple)
  ·have x5 : Ext (s.np m1) α H α4 H4 := by rw [← n3']; exact x3.trans x4
   exact k.nx α4 (m4.setN m1.np) σ4 H4 q4 rfl (back R4 (n4.trans n3') x5) (x5.less nple)
  ·rw [← n3']; exact x3.trans x4
 ·have e : i = s.ds.length := by omega
  subst e
  obtain ⟨ok, q⟩ := fin m' hn p
  exact .inl ⟨wk.stop H' (hC α' m' σ' H' R' x ok), k.nx α' (m'.setN m1.np) σ' H' q rfl (back R' hn x) (x.less nple)⟩
theorem ms_for {wi : WI} {g : WG} (hi : MI X tg iter wi) (hg : MG X tg g) (hb : MSs X body w) (hp : PassesOwn (model X.prog X.w) X.A X.env X.xe) (hc : X.calm = true := by rfl)
  (hs : ∀ x, foldedSetIterable iter X.env x = pure x := by intro _; rfl) : MS X (.For tg iter body [] pos) (wFor wi g w) := (ps_for hp hc hi hg hb hs).wk fun D σ H ⟨α, m, De, Rl, hw, k⟩ =>
 ⟨α, m, _, Rl, hw, fun s m' J H' q n Rl' F hJ => loop_rd Rl' hJ q (by rw [n]; exact k.ext (.of Rl' F)) fun α' m' σ' H' De' D' _ _ R' h' k' => ⟨α', m', De', R', h', k'⟩⟩
def wWhile (t : WT) (w : WS) : WS := fun D m0 => ∃ P : Nat → MSt → Prop, (∃ n, P n m0) ∧ ∀ n m, m.np = m0.np → P n m → t m fun c m' => if c = true then w { D with nx := fun m2 => ∃ n', n' < n ∧ P n' m2, ct := fun m2 => ∃ n', n' < n ∧ P n' m2, bk := D.nx } m' else D.nx m'
theorem ms_while {t : Expr} (ht : MT X t wt) (hb : MSs X body w) (hp : PassesOwn (model X.prog X.w) X.A X.env X.xe) : MS X (.While t body [] pos) (wWhile wt w) := (ps_while hp ht hb).wk fun D σ H ⟨α, m, De, Rl, ⟨P, ⟨n0, p0⟩, turn⟩, k⟩ => by
 refine ⟨fun n σ' H' => ∃ α' m', P n m' ∧ m'.np = m.np ∧ Rel X.kx α' m' σ' H' ∧ Ext m.np α H α' H', ⟨n0, α, m, p0, rfl, Rl, .of Rl (Frm.refl _ _)⟩, ?_⟩
 rintro n σ1 H1 ⟨α1, m1, p1, n1, R1, x1⟩
 refine ⟨α1, m1, _, R1, turn n m1 n1 p1, fun bb m2 H2 q n2 R2 F2 => ?_⟩
 have x2 : Ext m.np α H α1 H2 := x1.trans (.of R2 F2)
 have n2' : m2.np = m.np := n2.trans n1
 cases bb with
 | true =>
  rw [if_pos rfl] at q
  refine iteT ⟨fun σ3 H3 => ∃ n', n' < n ∧ ∃ α' m', P n' m' ∧ m'.np = m.np ∧ Rel X.kx α' m' σ3 H3 ∧ Ext m.np α H α' H3, fun σ3 H3 ⟨n', hl, z⟩ => ⟨n', hl, z⟩, α1, m2, _, R2, q, ?_⟩
  rw [n2']
  exact ⟨fun α' m' σ' H' ⟨n', hl, q⟩ nn R' y => ⟨n', hl, α', m', q, nn, R', x2.trans y⟩, fun r α' m' σ' v H' q nn R' rr y => k.rt r α' m' σ' v H' q nn R' (rr.ext x2) (x2.trans y), fun α' m' σ' H' q nn R' y => k.nx α' m' σ' H' q nn R' (x2.trans y), fun α' m' σ' H' ⟨n', hl, q⟩ nn R' y => ⟨n', hl, α', m', q, nn, R', x2.trans y⟩⟩
 | false =>
  rw [if_neg Bool.false_ne_true] at q
  exact iteF (k.nx α1 m2 σ1 H2 q n2' R2 x2)
end
section
variable {K : Kx} {α : Al} {m : MSt} {σ : St} {H : Hp}
theorem Rel.setW {H' : Hp} {q : Nat} {ao : Ao} {ds' : List PyData} (R : Rel K α m σ H) (ha : α[q]? = some ao) (pe : Pers H H') (F : ∀ b, b ∉ ao.ads → H' b = H b) (g : OwnAt K H' ao ds') : Rel K α { m with os := m.os.set q ds' } σ H' ∧ Frm α H H' := by
 have Fα : Frm α H H' := fun b o e nb => by rw [F b fun z => nb (ads_in ha z)]; exact e
 have own' : ∀ (k : Nat) (a : Ao) (es : List PyData), α[k]? = some a → (m.os.set q ds')[k]? = some es → OwnAt K H' a es := fun k a es z1 z2' => by
  by_cases c : q = k
  ·subst c
   rw [ha] at z1; cases z1
   rw [List.getElem?_set_self (by rw [← R.len]; exact (List.getElem?_eq_some_iff.mp ha).1)] at z2'
   cases z2'
   exact g
  ·rw [List.getElem?_set_ne c] at z2'
   exact (R.own k a es z1 z2').mono pe fun b hb => F b fun z => ads_disj R.nd ha z1 c z hb
 refine ⟨⟨R.nd, by simp [R.len], own', R.vlen, fun i r h => ?_, R.npl, R.ebl, R.ebx.trans ⟨rfl, Fα, fun _ h => .inl h, fun a ha => ?_⟩⟩, Fα⟩
 ·obtain ⟨v, ev, rv⟩ := R.var i r h
  refine ⟨v, ev, ?_⟩
  cases r with
  | imm d => exact Den.mono pe rv
  | obj k => exact rv
  | «at» k p => exact rv
  | new ds => exact rv
  | newT t => exact rv
 ·obtain ⟨k, ao, e1, hm⟩ := ads_at ha
  have hk : k < (m.os.set q ds').length := by rw [List.length_set, ← R.len]; exact (List.getElem?_eq_some_iff.mp e1).1
  obtain ⟨o, q, _⟩ := (own' k ao _ e1 (List.getElem?_eq_getElem hk)).mem hm
  exact ⟨o, q⟩
theorem Rel.setO {q : Nat} {l : Addr} {xs xs' : List V} {ds' : List PyData} (R : Rel K α m σ H) (ha : α[q]? = some (.L l)) (hl : H l = some (.lst xs)) (g : DenAll K H ds' xs') : Rel K α { m with os := m.os.set q ds' } σ (upd H l (.lst xs')) ∧ Frm α H (upd H l (.lst xs')) := by
 have pe : Pers H (upd H l (.lst xs')) := pers_lst hl
 exact R.setW ha pe (fun b hb => upd_ne fun e => hb (List.mem_singleton.mpr e)) ⟨xs', upd_same, g.mono pe⟩
end
def compV (own : List Str) (ps : List Nat) (vs : List (Option R)) : List (Option R) := own.map (fun _ => none) ++ ps.map fun i => (vs[i]?).join
def compM (own : List Str) (ps : List Nat) (m : MSt) : MSt := ⟨compV own ps m.vs, m.os ++ [[]], m.os.length + 1⟩
def wIfT (tt : WT) (w : WS) : WS := fun D m => tt m fun b m' => if b = true then w D m' else D.nx m'
def wEmit (q : Nat) (we : WE) : WS := fun D m => we m fun r m' => onImm (fun d => ∃ ds, m'.os[q]? = some ds ∧ ds.length < sizeLine ∧ D.nx { m' with os := m'.os.set q (ds ++ [d]) }) r
def wComp1 (wi : WI) (own : List Str) (ps : List Nat) (g : WG) (tt : WT) (we : WE) : WE := fun m K => wi m fun s m1 =>
 wLoop s g (wIfT tt (wEmit m1.os.length we)) { nx := fun m' => K (.new (m'.os.getD m1.os.length [])) { m1 with os := m'.os.take m1.os.length }, rt := fun _ _ => False } (compM own ps m1)
def wComp2 (wi : WI) (own : List Str) (ps : List Nat) (g : WG) (tt : WT) (wi2 : WI) (g2 : WG) (tt2 : WT) (we : WE) : WE := fun m K => wi m fun s m1 =>
 wLoop s g (wIfT tt fun D m2 => wi2 m2 fun s2 m3 => wLoop s2 g2 (wIfT tt2 (wEmit m1.os.length we)) D m3) { nx := fun m' => K (.new (m'.os.getD m1.os.length [])) { m1 with os := m'.os.take m1.os.length }, rt := fun _ _ => False } (compM own ps m1)
def wNoTest : WT := fun m K => K true m
section
variable {K : Kx}
theorem emit_rd {q : Nat} {we : WE} {α : Al} {m : MSt} {σ : St} {H : Hp} {De : MEnds} {D : Ends} {l : Addr} (ha : α[q]? = some (.L l)) (Rl : Rel K α m σ H) (h : wEmit q we De m) (k : EndsOk K m.np α H De D) : tEmit l (tM K we) D σ H := by
 refine ⟨α, m, _, Rl, h, fun r m' v H' kk n R' rr F => ?_⟩
 obtain ⟨d, er, hd, ds, e1, hz, kk⟩ := on_imm rr kk
 obtain ⟨xs, hx, g⟩ := R'.own q _ ds ha e1
 obtain ⟨R2, F2⟩ := R'.setO ha hx (g.append (DenAll.cons hd DenAll.nil))
 exact ⟨xs, hx, by rw [← g.length]; exact hz, k.nx α _ σ _ kk n R2 (.of R2 (F.trans F2))⟩
theorem ift_rd {tt : WT} {w : WS} {tb : TS} {α : Al} {m : MSt} {σ : St} {H : Hp} {De : MEnds} {D : Ends} (Rl : Rel K α m σ H) (h : wIfT tt w De m) (k : EndsOk K m.np α H De D)
  (hb : ∀ m' H', m'.np = m.np → Rel K α m' σ H' → w De m' → EndsOk K m'.np α H' De D → tb D σ H') : tIfT (tMT K tt) tb D σ H := by
 refine ⟨α, m, _, Rl, h, fun bb m' H' q n R' F => ?_⟩
 have k' : EndsOk K m'.np α H' De D := by rw [n]; exact k.ext (.of R' F)
 cases bb with
 | true => rw [if_pos rfl] at q; exact iteT (hb m' H' n R' q k')
 | false => rw [if_neg Bool.false_ne_true] at q; exact iteF (k'.nx α m' σ H' q rfl R' (.of R' (Frm.refl _ _)))
theorem comp_rd {own : List Str} {ps : List Nat} {s : Src} {g : WG} {w : WS} {J : It} {α : Al} {m m1 : MSt} {σ : St} {H H1 : Hp} {l : Addr} {Kc : R → MSt → Prop} {Q : VK} {tb : TS} (Rl : Rel K α m σ H) (n1 : m1.np = m.np) (Rl1 : Rel K α m1 σ H1) (F1 : Frm α H H1) (hJ : SrcOk K α H1 s J) (hl : H1 l = none)
  (h : wLoop s g w { nx := fun m' => Kc (.new (m'.os.getD m1.os.length [])) { m1 with os := m'.os.take m1.os.length }, rt := fun _ _ => False } (compM own ps m1))
  (fin : ∀ r m' v H', Kc r m' → m'.np = m.np → Rel K α m' σ H' → RelR K α H H' r v → Frm α H H' → Q v H')
  (hb : ∀ α' m' σ' H' De' D', α'[m1.os.length]? = some (.L l) → m1.os.length < m'.np → Rel K α' m' σ' H' → w De' m' → EndsOk K m'.np α' H' De' D' → tb D' σ' H') :
  tLoop J (tMG K g) tb { nx := fun _ H' => Q (.ref l) H', rt := fun _ _ => False } (compSt own ps σ) (upd H1 l (.lst [])) := by
 have pα : l ∉ ads α := Rl1.out hl
 have pe : Pers H1 (upd H1 l (.lst [])) := pers_upd (.inl hl)
 have hlen : α.length = m1.os.length := Rl1.len
 have at0 : (α ++ [.L l])[m1.os.length]? = some (.L l) := by rw [List.getElem?_append_right (by omega), ← hlen]; simp
 have Rl1' : Rel K α m1 σ (upd H1 l (.lst [])) := Rl1.lay hl
 obtain ⟨Rm, extm⟩ := rel_more (ao := .L l) (ds := []) Rl1' ⟨m1, σ, Rl1⟩ (frm_upd hl) (by simp [Ao.ads]) (fun b hb => by cases List.mem_singleton.mp hb; exact hl) ⟨[], upd_same, DenAll.nil⟩
 have R0 : Rel K (α ++ [.L l]) (compM own ps m1) (compSt own ps σ) (upd H1 l (.lst [])) := by
  refine ⟨Rm.nd, by simp [compM, hlen], Rm.own, by simp [compSt, compM, compV], fun i r z => ?_, by simp [compM, hlen], by have := Rl1.ebl; have := Rl1.npl; show K.eb.np ≤ m1.os.length + 1; omega, Rm.ebx⟩
  have z' : (compV own ps m1.vs)[i]? = some (some r) := z
  unfold compV at z'
  by_cases hi : i < own.length
  ·rw [List.getElem?_append_left (by simpa using hi), List.getElem?_map] at z'
   cases q : own[i]? with
   | none => rw [q] at z'; cases z'
   | some y => rw [q] at z'; cases z'
  ·rw [List.getElem?_append_right (by simpa using hi), List.length_map, List.getElem?_map] at z'
   cases q : ps[i - own.length]? with
   | none => rw [q] at z'; cases z'
   | some p =>
    rw [q] at z'
    have z2 : (m1.vs[p]?).join = some r := Option.some.inj z'
    have hv : m1.vs[p]? = some (some r) := by
     cases y : m1.vs[p]? with
     | none => rw [y] at z2; cases z2
     | some y' => rw [y] at z2; cases y' with
      | none => cases z2
      | some y' => cases z2; rfl
    obtain ⟨v, ev, rv⟩ := Rm.var p r hv
    refine ⟨v, ?_, rv⟩
    unfold compSt
    rw [List.getElem?_append_right (by simpa using hi), List.length_map, List.getElem?_map, q]
    show some ((σ[p]?).join) = some (some v)
    rw [ev]; rfl
 have hJ' : SrcOk K (α ++ [.L l]) (upd H1 l (.lst [])) s J := by
  unfold SrcOk at hJ ⊢
  cases e : s.own with
  | none =>
   rw [e] at hJ
   obtain ⟨C, wk, c0, cm⟩ := hJ
   exact ⟨C, wk, cm _ _ c0 pe, cm⟩
  | some j =>
   rw [e] at hJ
   obtain ⟨a, ea, wk⟩ := hJ
   exact ⟨a, by rw [List.getElem?_append_left (List.getElem?_eq_some_iff.mp ea).1]; exact ea, wk⟩
 have npq : m1.os.length < s.np (compM own ps m1) := by
  unfold Src.np
  split
  ·exact Nat.lt_succ_self _
  ·exact Nat.lt_of_lt_of_le (Nat.lt_succ_self _) (Nat.le_max_left _ _)
 refine loop_rd R0 hJ' h ⟨fun α' m' σ' H' q n R' x => ?_, fun _ _ _ _ _ _ z => z.elim, fun _ _ _ _ z => z.elim, fun _ _ _ _ z => z.elim⟩ fun α' m' σ' H' De' D' hp hnp R' h' k' => hb α' m' σ' H' De' D' ?_ (by rw [hnp]; exact npq) R' h' k'
 ·
  have n' : m'.np = m1.os.length + 1 := n
  have x' : Ext (m1.os.length + 1) (α ++ [.L l]) (upd H1 l (.lst [])) α' H' := x
  have F' : Frm α H1 H' := fun b o e nb => by
   have hbl : b ≠ l := ne_of_none e hl
   refine x'.frm b o (by rw [upd_ne hbl]; exact e) fun z => ?_
   rw [ads_append] at z
   rcases List.mem_append.mp z with z | z
   ·exact nb z
   ·exact hbl (by simpa [ads, Ao.ads] using z)
  have pe' : Pers H1 H' := Rl1.pers F'
  have same : ∀ k, k < m1.os.length + 1 → α'[k]? = (α ++ [.L l])[k]? := fun k hk => by
   have := congrArg (fun z => z[k]?) x'.pre
   simp only [List.getElem?_take, if_pos hk] at this
   exact this
  have hlen' : m1.os.length + 1 ≤ m'.os.length := by
   have := R'.npl
   rw [n', R'.len] at this
   exact this
  have hq : m1.os.length < m'.os.length := by omega
  have eq1 : m'.os[m1.os.length]? = some (m'.os.getD m1.os.length []) := by
   rw [List.getD_eq_getElem?_getD, List.getElem?_eq_getElem hq]; rfl
  obtain ⟨xs, y1, y2⟩ := R'.own m1.os.length (.L l) _ (by rw [same _ (Nat.lt_succ_self _)]; exact at0) eq1
  have own' : ∀ (k : Nat) (a : Ao) (es : List PyData), α[k]? = some a → (m'.os.take m1.os.length)[k]? = some es → OwnAt K H' a es := fun k a es z1 z2' => by
   rw [List.getElem?_take] at z2'
   have hk : k < m1.os.length := by rw [← hlen]; exact (List.getElem?_eq_some_iff.mp z1).1
   rw [if_pos hk] at z2'
   exact R'.own k a es (by rw [same k (by omega), List.getElem?_append_left (by omega)]; exact z1) z2'
  have tl : (m'.os.take m1.os.length).length = α.length := by rw [List.length_take]; omega
  have old' : Ext K.eb.np α H1 α H' := ⟨rfl, F', fun _ h => .inl h, fun a ha => by
   obtain ⟨k, ao, e1, hm⟩ := ads_at ha
   have hk : k < (m'.os.take m1.os.length).length := by rw [tl]; exact (List.getElem?_eq_some_iff.mp e1).1
   obtain ⟨o, q, _⟩ := (own' k ao _ e1 (List.getElem?_eq_getElem hk)).mem hm
   exact ⟨o, q⟩⟩
  refine fin _ _ (.ref l) H' q n1 ⟨Rl1.nd, tl.symm, own', Rl1.vlen, fun i r z => ?_, Rl1.npl, Rl1.ebl, Rl1.ebx.trans old'⟩ ?_ (F1.trans F')
  ·obtain ⟨v, ev, rv⟩ := Rl1.var i r z
   refine ⟨v, ev, ?_⟩
   cases r with
   | imm d => exact Den.mono pe' rv
   | obj k => exact rv
   | «at» k p => exact rv
   | new ds => exact rv
   | newT t => exact rv
  ·refine ⟨l, xs, rfl, ?_, y1, y2⟩
   cases z : H l with
   | none => rfl
   | some o =>
    have := F1 l o z pα
    rw [hl] at this; cases this
 ·have := congrArg (fun z => z[m1.os.length]?) hp
  simp only [List.getElem?_take, if_pos npq] at this
  rw [this]; exact at0
end
section
variable {X : Cx} {scope sc : Scope} {own fr : List Str} {ps : List Nat} {elt tg iter tg2 iter2 : Expr} {ifs ifs2 : List Expr} {pos spos py : Pos} {wi wi2 : WI} {g g2 : WG} {tt tt2 : WT} {we : WE}
theorem comp1_rd {σ : St} {H : Hp} {Q : VK} (h : tM X.kx (wComp1 wi own ps g tt we) σ H Q) : tComp (tMI X.kx wi) own ps (tl1 (tMG X.kx g) (tMT X.kx tt) (tM X.kx we)) σ H Q := by
 obtain ⟨α, m, Kc, Rl, hw, fin⟩ := h
 refine ⟨α, m, _, Rl, hw, fun s m1 J H1 k n1 Rl1 F1 hJ l hl => ?_⟩
 exact comp_rd Rl n1 Rl1 F1 hJ hl k fin fun α' m' σ' H' De' D' ha hnp R' h' k' => ift_rd R' h' k' fun m2 H2 n2 R2 h2 k2 => emit_rd ha R2 h2 k2
theorem comp2_rd {σ : St} {H : Hp} {Q : VK} (h : tM X.kx (wComp2 wi own ps g tt wi2 g2 tt2 we) σ H Q) : tComp (tMI X.kx wi) own ps (tl2 (tMG X.kx g) (tMT X.kx tt) (tMI X.kx wi2) (tMG X.kx g2) (tMT X.kx tt2) (tM X.kx we)) σ H Q := by
 obtain ⟨α, m, Kc, Rl, hw, fin⟩ := h
 refine ⟨α, m, _, Rl, hw, fun s m1 J H1 k n1 Rl1 F1 hJ l hl => ?_⟩
 refine comp_rd Rl n1 Rl1 F1 hJ hl k fin fun α' m' σ' H' De' D' ha hnp R' h' k' => ift_rd R' h' k' fun m2 H2 n2 R2 h2 k2 => ?_
 refine ⟨α', m2, _, R2, h2, fun s2 m3 J2 H3 q3 n3 R3 F3 hJ2 => ?_⟩
 have hq : m1.os.length < s2.np m3 := by
  have : m1.os.length < m3.np := by rw [n3, n2]; exact hnp
  unfold Src.np
  split
  ·exact this
  ·exact Nat.lt_of_lt_of_le this (Nat.le_max_left _ _)
 refine loop_rd R3 hJ2 q3 (by rw [n3]; exact k2.ext (.of R3 F3)) fun α4 m4 σ4 H4 De4 D4 hp4 hn4 R4 h4 k4 => ift_rd R4 h4 k4 fun m5 H5 n5 R5 h5 k5 => emit_rd ?_ R5 h5 k5
 have := congrArg (fun z => z[m1.os.length]?) hp4
 simp only [List.getElem?_take, if_pos hq] at this
 rw [this]; exact ha
theorem me_comp1 (S : CompScope own fr scope sc) (hi : MI X tg iter wi) (hg : ∀ cl s H C ex, MG (cxComp X scope cl (own ++ fr) s H C ex) tg g) (ht : ∀ cl s H C ex, PTs (cxComp X scope cl (own ++ fr) s H C ex) ifs (tMT X.kx tt))
  (he : ∀ cl s H C ex, ME (cxComp X scope cl (own ++ fr) s H C ex) elt we) (hsc : X.env.scope = sc := by rfl) (hps : ps.map (fun i => X.N[i]?) = fr.map some := by rfl) (hc : X.calm = true := by rfl) (hs : ∀ x, foldedSetIterable iter X.env x = pure x := by intro _; rfl) :
  ME X (.ListComp elt [⟨tg, iter, ifs, 0⟩] scope pos) (wComp1 wi own ps g tt we) := (pe_comp1 S hi hg ht he hsc hps hc hs).wk fun _ _ _ h => comp1_rd h
theorem mts_nil : PTs X [] (tMT X.kx wNoTest) := fun pins s σ H Q I ⟨α, m, Kc, Rl, hw, fin⟩ => pts_nil pins s σ H Q I (fin true m H hw rfl Rl (Frm.refl _ _))
theorem mts_one {c : Expr} {t : WT} (h : MT X c t) : PTs X [c] (tMT X.kx t) := pts_one h
theorem ms_setc2 {i : Nat} {y : Str} (S : CompScope own fr scope sc) (hN : X.N.Nodup) (hy : X.N[i]? = some y) (hlc : X.env.scope.names.lookup y = some .local) (hi : MI X tg iter wi) (hg : ∀ cl s H C ex, MG (cxComp X scope cl (own ++ fr) s H C ex) tg g) (ht : ∀ cl s H C ex, PTs (cxComp X scope cl (own ++ fr) s H C ex) ifs (tMT X.kx tt))
  (hi2 : ∀ cl s H C ex, MI (cxComp X scope cl (own ++ fr) s H C ex) tg2 iter2 wi2) (hg2 : ∀ cl s H C ex, MG (cxComp X scope cl (own ++ fr) s H C ex) tg2 g2) (ht2 : ∀ cl s H C ex, PTs (cxComp X scope cl (own ++ fr) s H C ex) ifs2 (tMT X.kx tt2))
  (he : ∀ cl s H C ex, ME (cxComp X scope cl (own ++ fr) s H C ex) elt we) (hsw : swapsWith (.ListComp elt [⟨tg, iter, ifs, 0⟩, ⟨tg2, iter2, ifs2, 0⟩] scope pos) (some (.Name y py)) spos.line X.env = pure true := by rfl)
  (hsc : X.env.scope = sc := by rfl) (hps : ps.map (fun i => X.N[i]?) = fr.map some := by rfl) (hc : X.calm = true := by rfl) (hs : ∀ x, foldedSetIterable iter X.env x = pure x := by intro _; rfl)
  (hs2 : ∀ cl C x, foldedSetIterable iter2 (compEnvC scope cl C X.env) x = pure x := by intro _ _ _; rfl) :
  MS X (.Assign [.Name y py] (.ListComp elt [⟨tg, iter, ifs, 0⟩, ⟨tg2, iter2, ifs2, 0⟩] scope pos) spos) (wSet i (wComp2 wi own ps g tt wi2 g2 tt2 we)) := (ps_setc2 S hN hy hlc hi hg ht hi2 hg2 ht2 he hsw hsc hps hc hs hs2).wk fun D σ H ⟨α, m, De, Rl, hw, k⟩ =>
 comp2_rd ⟨α, m, _, Rl, hw, fun r m' v H' q n Rl' rr F => bind_rd (Q := D.nx) Rl' n F rr q k.nx ⟨m, σ, Rl⟩⟩
end
theorem str_of_den {K : Kd} {H : Hp} {i : Str} {v : V} (h : Den K H (.str i) v) : v = .str i := by simpa only [Den] using h
theorem bl_of_den {K : Kd} {H : Hp} {i : Bool} {v : V} (h : Den K H (.bool i) v) : v = .bl i := by simpa only [Den] using h
theorem non_of_den {K : Kd} {H : Hp} {v : V} (h : Den K H .none v) : v = .non := by simpa only [Den] using h
theorem rr_int {K : Kd} {α : Al} {Hb H : Hp} (i : Int) : RelR K α Hb H (.imm (.int i)) (.int i) := den_int (K := K) (H := H) i
theorem rr_bl {K : Kd} {α : Al} {Hb H : Hp} (i : Bool) : RelR K α Hb H (.imm (.bool i)) (.bl i) := den_bl (K := K) (H := H) i
theorem rr_str {K : Kd} {α : Al} {Hb H : Hp} (i : Str) : RelR K α Hb H (.imm (.str i)) (.str i) := den_str (K := K) (H := H) i
theorem rr_non {K : Kd} {α : Al} {Hb H : Hp} : RelR K α Hb H (.imm .none) .non := den_non (K := K) (H := H)
theorem rr_of {K : Kd} {α : Al} {Hb H : Hp} {d : PyData} {v : V} (h : Den K H d v) : RelR K α Hb H (.imm d) v := h
theorem tup_of_den {K : Kd} {H : Hp} {ds : List PyData} {v : V} (h : Den K H (.tuple ds) v) : ∃ a xs, v = .ref a ∧ SqT K H a xs ∧ DenAll K H ds xs := by simpa only [Den] using h
theorem den_tup {K : Kd} {H : Hp} {ds : List PyData} {a : Addr} {xs : List V} (f : SqT K H a xs) (g : DenAll K H ds xs) : Den K H (.tuple ds) (.ref a) := by simp only [Den]; exact ⟨a, xs, rfl, f, g⟩
section
variable {X : Cx}
def oAdd : WO
 | .imm (.int i), .imm (.int j), _, K => K (.imm (.int (i + j)))
 | .imm (.str x), .imm (.str y), _, K => x.length + y.length ≤ sizeLine ∧ K (.imm (.str (x ++ y)))
 | .imm (.tuple a), .imm (.tuple b), _, K => a.length + b.length ≤ sizeLine ∧ K (.imm (.tuple (a ++ b)))
 | r1, r2, m, K => ∃ xs ys, lsOf m r1 = some xs ∧ lsOf m r2 = some ys ∧ xs.length + ys.length ≤ sizeLine ∧ K (.new (xs ++ ys))
theorem op_addM : OpR X (binaryOp .Add) (rM X.kx oAdd) := by
 rintro pins s σ' H x y v u Q I rx ry ⟨α, m, σ, H0, H1, r1, r2, Kc, Rl, h1, h2, ho, fin⟩
 unfold oAdd at ho
 split at ho
 ·rename_i _ _ i j
  have e1 := int_of_den (show Den X.kx H (.int i) x from h1)
  have e2 := int_of_den (show Den X.kx H (.int j) y from h2)
  subst e1 e2
  exact op_add pins s σ' H _ _ v u Q I rx ry ⟨i, j, rfl, rfl, fin _ _ H ho Rl (rr_int _) (Frm.refl _ _)⟩
 ·rename_i _ _ i j
  have e1 := str_of_den (show Den X.kx H (.str i) x from h1)
  have e2 := str_of_den (show Den X.kx H (.str j) y from h2)
  subst e1 e2
  exact op_add_str pins s σ' H _ _ v u Q I rx ry ⟨i, j, rfl, rfl, ho.1, fin _ _ H ho.2 Rl (rr_str _) (Frm.refl _ _)⟩
 ·rename_i _ _ ds es
  obtain ⟨a, xs, rfl, f1, g1⟩ := tup_of_den (show Den X.kx H (.tuple ds) x from h1)
  obtain ⟨b, ys, rfl, f2, g2⟩ := tup_of_den (show Den X.kx H (.tuple es) y from h2)
  obtain ⟨hz, ho⟩ := ho
  by_cases hx : xs = []
  ·subst hx
   cases rx; cases ry
   obtain ⟨its, rv1, p1, _⟩ := I.tuple f1
   obtain ⟨its2, rv2, p2, _⟩ := I.tuple f2
   cases rv1
   obtain ⟨⟨cls, dd, data, sl⟩, ho1, hc, n, hd⟩ := id p1
   obtain ⟨⟨cls2, dd2, data2, sl2⟩, ho2, hc2, n2, hd2⟩ := id p2
   simp only at hc hd hc2 hd2
   subst hc hd hc2 hd2
   have e0 : ds = [] := by cases ds with | nil => rfl | cons _ _ => have := g1.length; simp at this
   subst e0
   exact concat_meets ⟨_, ho1, rfl⟩ ⟨_, ho2, rfl⟩ noFill_tuple_add seq_tuple_add PySem.F.slot_tuple_add PySem.F.entry_tuple_add (PySem.F.args_tuple_add_2 _ _)
    (tuple_addW0 a b _ its2.toArray n n2 dd dd2 sl sl2 (by simp)) ⟨ho1, ho2, ⟨.ref b, H, I, rfl, fin _ _ H ho Rl (show Den X.kx H (.tuple ([] ++ es)) (.ref b) from h2) (Frm.refl _ _)⟩⟩
  ·refine op_catT pins s σ' H _ _ v u Q I rx ry ⟨a, b, xs, ys, rfl, rfl, f1, f2, hx, by rw [← g1.length, ← g2.length]; exact hz, fun e => ?_, fun e p hp => ?_⟩
   ·subst e
    have e0 : es = [] := by cases es with | nil => rfl | cons _ _ => have := g2.length; simp at this
    subst e0
    exact fin _ _ H (by rw [List.append_nil] at ho; exact ho) Rl (rr_of h1) (Frm.refl _ _)
   ·exact fin _ _ _ ho (Rl.lay hp) (rr_of <| den_tup (SqT.of upd_same) ((g1.append g2).mono (pers_upd (.inl hp)))) (frm_upd hp)
 ·obtain ⟨ds, es, e1, e2, hz, ho⟩ := ho
  obtain ⟨a, xs, rfl, f1, g1⟩ := h1.list Rl e1
  obtain ⟨b, ys, rfl, f2, g2⟩ := h2.list Rl e2
  cases rx; cases ry
  obtain ⟨its, rv1, ⟨⟨cls, dd, data, sl⟩, n, ho1, hc, hdd, hd⟩, _⟩ := I.list f1
  obtain ⟨its2, rv2, ⟨⟨cls2, dd2, data2, sl2⟩, n2, ho2, hc2, hdd2, hd2⟩, _⟩ := I.list f2
  simp only at hc hd hc2 hd2
  subst hc hd hc2 hd2
  have hzz : xs.length + ys.length ≤ sizeLine := by rw [← g1.length, ← g2.length]; exact hz
  refine concat_meets ⟨_, ho1, rfl⟩ ⟨_, ho2, rfl⟩ noFill_list_add seq_list_add PySem.F.slot_list_add PySem.F.entry_list_add (PySem.F.args_list_add_2 _ _) (list_addW a b its.toArray its2.toArray n n2 dd dd2 sl sl2 (by have := rv1.length; have := rv2.length; simp only [List.size_toArray]; omega)) ⟨ho1, ho2, ?_⟩
  have ea : its.toArray ++ its2.toArray = (its ++ its2).toArray := by simp
  rw [ea]
  have hp : H s.heap.objs.size = none := I.fresh
  exact ⟨.ref _, _, I.lnew (t' := s.toks) (rv1.append rv2) (by rw [List.length_append]; omega), rfl, fin _ _ _ ho (Rl.lay hp) ⟨_, xs ++ ys, rfl, hp, upd_same, (g1.append g2).mono (pers_upd (.inl hp))⟩ (frm_upd hp)⟩
def oII (C : Int → Int → Prop) (g : Int → Int → Int) : WO
 | .imm (.int i), .imm (.int j), _, K => C i j ∧ K (.imm (.int (g i j)))
 | _, _, _, _ => False
def oIB (g : Int → Int → Bool) : WO
 | .imm (.int i), .imm (.int j), _, K => K (.imm (.bool (g i j)))
 | _, _, _, _ => False
theorem oII_ok {f : Value → Value → Sem Value} {C : Int → Int → Prop} {g : Int → Int → Int} (h : OpR X f (rI C fun i j => .int (g i j))) : OpR X f (rM X.kx (oII C g)) := by
 rintro pins s σ' H x y v u Q I rx ry ⟨α, m, σ, H0, H1, r1, r2, Kc, Rl, h1, h2, ho, fin⟩
 unfold oII at ho
 split at ho
 ·rename_i _ _ i j
  have e1 := int_of_den (show Den X.kx H (.int i) x from h1)
  have e2 := int_of_den (show Den X.kx H (.int j) y from h2)
  subst e1 e2
  exact h pins s σ' H _ _ v u Q I rx ry ⟨i, j, rfl, rfl, ho.1, fin _ _ H ho.2 Rl (rr_int _) (Frm.refl _ _)⟩
 ·exact ho.elim
theorem oIB_ok {f : Value → Value → Sem Value} {g : Int → Int → Bool} (h : OpR X f (rI0 fun i j => .bl (g i j))) : OpR X f (rM X.kx (oIB g)) := by
 rintro pins s σ' H x y v u Q I rx ry ⟨α, m, σ, H0, H1, r1, r2, Kc, Rl, h1, h2, ho, fin⟩
 unfold oIB at ho
 split at ho
 ·rename_i _ _ i j
  have e1 := int_of_den (show Den X.kx H (.int i) x from h1)
  have e2 := int_of_den (show Den X.kx H (.int j) y from h2)
  subst e1 e2
  exact h pins s σ' H _ _ v u Q I rx ry ⟨i, j, rfl, rfl, fin _ _ H ho Rl (rr_bl _) (Frm.refl _ _)⟩
 ·exact ho.elim
def oSub : WO := oII (fun _ _ => True) fun i j => i - j
theorem op_subM : OpR X (binaryOp .Sub) (rM X.kx oSub) := oII_ok (opI fun _ _ _ _ _ _ _ _ q => sub_int q)
def oMul : WO := oII IntMulOk fun i j => i * j
theorem op_mulM : OpR X (binaryOp .Mult) (rM X.kx oMul) := oII_ok (opI fun _ _ _ _ _ _ _ hc q => mul_int q hc)
def CFd (_ j : Int) : Prop := 0 < j ∧ j.natAbs.log2 < 9000
def oFdiv : WO := oII CFd fun i j => i / j
theorem op_fdivM : OpR X (binaryOp .FloorDiv) (rM X.kx oFdiv) := oII_ok (opI fun i j _ _ _ _ _ hc q => floordiv_int (by have := hc.1; omega) (by rw [Int.fdiv_eq_ediv_of_nonneg _ (by have := hc.1; omega)]; exact q) (.inl (PyProof.noPylong_of_log2 hc.2)))
def oMod : WO := oII (fun _ j => 0 < j) fun i j => i % j
theorem op_modM : OpR X (binaryOp .Mod) (rM X.kx oMod) := oII_ok op_mod
def oPow : WO := oII CPow fun i j => i ^ j.toNat
theorem op_powM : OpR X (binaryOp .Pow) (rM X.kx oPow) := oII_ok op_pow
def oLt : WO := oIB fun i j => decide (i < j)
def oLe : WO := oIB fun i j => decide (i ≤ j)
def oGt : WO := oIB fun i j => decide (j < i)
def oGe : WO := oIB fun i j => decide (j ≤ i)
theorem op_ltM : OpR X (compareOp .Lt) (rM X.kx oLt) := oIB_ok op_lt
theorem op_leM : OpR X (compareOp .LtE) (rM X.kx oLe) := oIB_ok op_le
theorem op_gtM : OpR X (compareOp .Gt) (rM X.kx oGt) := oIB_ok op_gt
theorem op_geM : OpR X (compareOp .GtE) (rM X.kx oGe) := oIB_ok op_ge
def eqD (f : Bool → Bool) : WO := fun r1 r2 m K => match asD m r1, asD m r2 with
 | some d1, some d2 => SeqAt.shaped d1 = true ∧ SeqAt.shaped d2 = true ∧ K (.imm (.bool (f (PyData.eqv d1 d2))))
 | _, _ => False
def eqS (f : Bool → Bool) : WO := fun r1 r2 m K => ∃ x y : Str, r1 = .imm (.str x) ∧ r2 = .imm (.str y) ∧ K (.imm (.bool (f (decide (x = y)))))
def eqSs (f : Bool → Bool) : WO := fun r1 r2 m K => ∃ xs ys : List Str, lsOf m r1 = some (xs.map .str) ∧ lsOf m r2 = some (ys.map .str) ∧ xs.length = ys.length ∧ K (.imm (.bool (f (decide (xs = ys)))))
def oEq : WO := fun r1 r2 m K => eqD id r1 r2 m K ∨ eqS id r1 r2 m K ∨ eqSs id r1 r2 m K
def oNe : WO := fun r1 r2 m K => eqD (!·) r1 r2 m K ∨ eqS (!·) r1 r2 m K
theorem denAll_strs {K : Kd} {H : Hp} : ∀ {ns : List Str} {xs : List V}, DenAll K H (ns.map .str) xs → xs = ns.map V.str
 | [], _, h => by simpa only [List.map_nil, DenAll] using h
 | n :: ns, _, h => by
  simp only [List.map_cons, DenAll] at h
  obtain ⟨v, vs, rfl, h1, h2⟩ := h
  have e := str_of_den (K := K) (H := H) h1
  rw [e, denAll_strs h2]; rfl
theorem vals_str : ∀ {ns : List Str} {us : List Value} {j : Nat} {u : Value}, Vals (ns.map V.str) us → us[j]? = some u → ∃ x t, ns[j]? = some x ∧ u = .str x t
 | [], _, _, _, .nil, e => by simp at e
 | n :: ns, _, 0, _, .cons r _, e => by
  simp at e; subst e
  obtain ⟨t, h⟩ := r
  exact ⟨n, t, rfl, h⟩
 | n :: ns, _, j + 1, u, .cons _ t, e => by
  obtain ⟨x, tk, h1, h2⟩ := vals_str (j := j) (u := u) t (by simpa using e)
  exact ⟨x, tk, by simpa using h1, h2⟩
theorem all_eq_strs (xs ys : List Str) (h : xs.length = ys.length) : (List.range xs.length).all (fun j => decide (xs.getD j Str.empty = ys.getD j Str.empty)) = decide (xs = ys) := by
 rw [Bool.eq_iff_iff, List.all_eq_true, decide_eq_true_eq]
 constructor
 ·intro q
  apply List.ext_getElem h
  intro i h1 h2
  have := q i (by simpa using h1)
  rw [decide_eq_true_eq, List.getD_eq_getElem?_getD, List.getD_eq_getElem?_getD, List.getElem?_eq_getElem h1, List.getElem?_eq_getElem h2] at this
  exact this
 ·rintro rfl j _
  exact decide_eq_true rfl
theorem eq_strs {pins : List (Addr × Obj)} {s : Shared} {σ' σ : St} {H H0 H1 : Hp} {x y : V} {v u : Value} {α : Al} {m : MSt} {r1 r2 : R} {xs ys : List Str} (I : Inv X pins σ' H s) (Rl : Rel X.kx α m σ H) (h1 : RelR X.kx α H0 H r1 x) (h2 : RelR X.kx α H1 H r2 y) (rx : RelV x v) (ry : RelV y u)
  (e1 : lsOf m r1 = some (xs.map .str)) (e2 : lsOf m r2 = some (ys.map .str)) (hl : xs.length = ys.length) (hu : X.A.units + 64 < cLine) : ∃ l b its its2, v = .ref l ∧ u = .ref b ∧ s.heap.IsList l its ∧ s.heap.IsList b its2 ∧ its.size = xs.length ∧ its2.size = xs.length ∧
   ∀ j (z1 : j < its.size) (z2 : j < its2.size), SeqAt.EqAt X.A.in1 s its[j] its2[j] (decide (xs.getD j Str.empty = ys.getD j Str.empty)) := by
 obtain ⟨a, zs, rfl, f1, g1⟩ := h1.list Rl e1
 obtain ⟨b, ws, rfl, f2, g2⟩ := h2.list Rl e2
 have q1 := denAll_strs g1
 have q2 := denAll_strs g2
 subst q1 q2
 cases rx; cases ry
 obtain ⟨its, rv1, p1, _⟩ := I.list f1
 obtain ⟨its2, rv2, p2, _⟩ := I.list f2
 have l1 := rv1.length
 have l2 := rv2.length
 rw [List.length_map] at l1 l2
 refine ⟨a, b, its.toArray, its2.toArray, rfl, rfl, p1.isList, p2.isList, by simp [l1], by simp [← l2, hl], fun j z1 z2 => ?_⟩
 obtain ⟨x, t, h3, h4⟩ := vals_str rv1 (j := j) (u := its.toArray[j]) (by rw [List.getElem_toArray, List.getElem?_eq_getElem])
 obtain ⟨y, t', h5, h6⟩ := vals_str rv2 (j := j) (u := its2.toArray[j]) (by rw [List.getElem_toArray, List.getElem?_eq_getElem])
 rw [h4, h6, List.getD_eq_getElem?_getD, List.getD_eq_getElem?_getD, h3, h5]
 have := SeqAt.EqAt.str_str (A := X.A.in1) (s := s) x t y t'
 have e : (x == y) = decide (x = y) := by rw [Bool.beq_eq_decide_eq]
 rw [e] at this
 exact this
theorem op_eqM (hu : X.A.units + 64 < cLine) : OpR X (compareOp .Eq) (rM X.kx oEq) := by
 rintro pins s σ' H x y v u Q I rx ry ⟨α, m, σ, H0, H1, r1, r2, Kc, Rl, h1, h2, ho, fin⟩
 rcases ho with ho | ⟨z, t, rfl, rfl, ho⟩ | ⟨xs, ys, e1, e2, hl, ho⟩
 ·unfold eqD at ho
  split at ho
  ·rename_i d1 d2 e1 e2
   obtain ⟨as, q1⟩ := h1.reads I Rl rx e1 (PyData.hasDict_of_canLay _ (SeqAt.canLay_of_shaped ho.1))
   obtain ⟨bs, q2⟩ := h2.reads I Rl ry e2 (PyData.hasDict_of_canLay _ (SeqAt.canLay_of_shaped ho.2.1))
   exact eq_dataH q1 q2 ho.1 ho.2.1 hu ⟨.bl _, H, I, rfl, fin _ _ H ho.2.2 Rl (rr_bl _) (Frm.refl _ _)⟩
  ·exact ho.elim
 ·have e1 := str_of_den (show Den X.kx H (.str z) x from h1)
  have e2 := str_of_den (show Den X.kx H (.str t) y from h2)
  subst e1 e2
  refine op_eq pins s σ' H _ _ v u Q I rx ry ⟨rfl, ?_⟩
  rw [dec_str, Bool.beq_eq_decide_eq]
  exact fin _ _ H ho Rl (rr_bl _) (Frm.refl _ _)
 ·obtain ⟨l, b, its, its2, rfl, rfl, p1, p2, s1, s2, he⟩ := eq_strs I Rl h1 h2 rx ry e1 e2 hl hu
  refine SeqAt.eq_listAt p1 p2 (s1.trans s2.symm) (by omega) he ?_
  rw [s1, all_eq_strs xs ys hl]
  exact ⟨.bl _, H, I, rfl, fin _ _ H ho Rl (rr_bl _) (Frm.refl _ _)⟩
theorem op_neM (hu : X.A.units + 64 < cLine) : OpR X (compareOp .NotEq) (rM X.kx oNe) := by
 rintro pins s σ' H x y v u Q I rx ry ⟨α, m, σ, H0, H1, r1, r2, Kc, Rl, h1, h2, ho, fin⟩
 rcases ho with ho | ⟨z, t, rfl, rfl, ho⟩
 ·unfold eqD at ho
  split at ho
  ·rename_i d1 d2 e1 e2
   obtain ⟨as, q1⟩ := h1.reads I Rl rx e1 (PyData.hasDict_of_canLay _ (SeqAt.canLay_of_shaped ho.1))
   obtain ⟨bs, q2⟩ := h2.reads I Rl ry e2 (PyData.hasDict_of_canLay _ (SeqAt.canLay_of_shaped ho.2.1))
   exact ne_dataH q1 q2 ho.1 ho.2.1 hu ⟨.bl _, H, I, rfl, fin _ _ H ho.2.2 Rl (rr_bl _) (Frm.refl _ _)⟩
  ·exact ho.elim
 ·have e1 := str_of_den (show Den X.kx H (.str z) x from h1)
  have e2 := str_of_den (show Den X.kx H (.str t) y from h2)
  subst e1 e2
  refine op_ne pins s σ' H _ _ v u Q I rx ry ⟨rfl, ?_⟩
  rw [dec_str, Bool.beq_eq_decide_eq]
  exact fin _ _ H ho Rl (rr_bl _) (Frm.refl _ _)
def uNeg : WU
 | .imm (.int i), _, K => K (.imm (.int (-i)))
 | _, _, _ => False
theorem un_negM : UnR X (unaryOp .USub) (uM X.kx uNeg) := by
 rintro pins s σ' H x v Q I rx ⟨α, m, σ, H0, r1, Kc, Rl, h1, ho, fin⟩
 unfold uNeg at ho
 split at ho
 ·rename_i _ i
  have e1 := int_of_den (show Den X.kx H (.int i) x from h1)
  subst e1
  exact un_neg pins s σ' H _ v Q I rx ⟨i, rfl, fin _ _ H ho Rl (rr_int _) (Frm.refl _ _)⟩
 ·exact ho.elim
def itemAt (m : MSt) (K : R → Prop) : R → R → Prop
 | .imm (.tuple ds), .imm (.int i) => ∃ d, atI ds i = some d ∧ K (.imm d)
 | .imm (.str x), .imm (.int i) => ∃ c, x.length ≤ sizeLine ∧ atI x.cps.toList i = some c ∧ K (.imm (.str ⟨#[c]⟩))
 | r, .imm (.int i) => ∃ ds d, lsOf m r = some ds ∧ atI ds i = some d ∧ K (.imm d)
 | _, _ => False
def oItem : WO := fun r1 r2 m K => itemAt m K r1 r2
theorem atI_den {K : Kx} {H : Hp} {ds : List PyData} {xs : List V} {i : Int} {d : PyData} (g : DenAll K H ds xs) (e : atI ds i = some d) : ∃ v, atI xs i = some v ∧ Den K H d v := by
 unfold atI at e ⊢
 rw [← g.length]
 cases q : ixN ds.length i with
 | none => rw [q] at e; cases e
 | some j =>
  rw [q] at e
  obtain ⟨v, h1, h2⟩ := g.get (show ds[j]? = some d from e)
  exact ⟨v, h1, h2⟩
theorem ix_item : IxR X (rM X.kx oItem) := by
 rintro value slice pins s σ' H x y v u Q I rx ry ⟨α, m, σ, H0, H1, r1, r2, Kc, Rl, h1, h2, ho, fin⟩ hsub
 have ho' : itemAt m Kc r1 r2 := ho
 unfold itemAt at ho'
 split at ho'
 ·rename_i ds i
  obtain ⟨d, e, k⟩ := ho'
  obtain ⟨a, xs, rfl, f, g⟩ := tup_of_den (show Den X.kx H (.tuple ds) x from h1)
  have e2 := int_of_den (show Den X.kx H (.int i) y from h2)
  obtain ⟨z, z1, z2⟩ := atI_den g e
  exact ix_tup value slice pins s σ' H _ _ v u Q I rx ry ⟨a, xs, i, z, rfl, e2, f, z1, fin _ _ H k Rl (rr_of z2) (Frm.refl _ _)⟩ hsub
 ·rename_i w i
  obtain ⟨c, hz, e, k⟩ := ho'
  have e1 := str_of_den (show Den X.kx H (.str w) x from h1)
  have e2 := int_of_den (show Den X.kx H (.int i) y from h2)
  exact ix_str value slice pins s σ' H _ _ v u Q I rx ry ⟨w, i, c, e1, e2, hz, e, fin _ _ H k Rl (rr_str _) (Frm.refl _ _)⟩ hsub
 ·rename_i i _ _
  obtain ⟨ds, d, el, e, k⟩ := ho'
  obtain ⟨a, xs, rfl, f, g⟩ := h1.list Rl el
  have e2 := int_of_den (show Den X.kx H (.int i) y from h2)
  obtain ⟨z, z1, z2⟩ := atI_den g e
  exact ix_list value slice pins s σ' H _ _ v u Q I rx ry ⟨a, xs, i, z, rfl, e2, f, z1, fin _ _ H k Rl (rr_of z2) (Frm.refl _ _)⟩ hsub
 ·exact ho'.elim
theorem me_ix {a b : Expr} {wa wb : WE} {pos : Pos} (ha : ME X a wa) (hb : ME X b wb) (hs : PlainIx b := by intro _ _; rfl) : ME X (.Subscript a b pos) (wBin oItem wa wb) := (pe_ix ix_item ha hb hs).wk fun _ _ _ h => bin_rd h
end
def onInt (P : Int → Prop) : R → Prop
 | .imm (.int i) => P i
 | _ => False
def onObj (P : Nat → Prop) : R → Prop
 | .obj k => P k
 | _ => False
def on1 (P : R → Prop) : List R → Prop
 | [r] => P r
 | _ => False
section
variable {K : Kx} {α : Al} {Hb H : Hp} {r : R} {v : V}
theorem on_int {P : Int → Prop} (rr : RelR K α Hb H r v) (h : onInt P r) : ∃ i, r = .imm (.int i) ∧ v = .int i ∧ P i := by
 unfold onInt at h
 split at h
 ·exact ⟨_, rfl, int_of_den (K := K) (H := H) rr, h⟩
 ·exact h.elim
theorem on_obj {P : Nat → Prop} (rr : RelR K α Hb H r v) (h : onObj P r) : ∃ k a, r = .obj k ∧ α[k]? = some (.L a) ∧ v = .ref a ∧ P k := by
 unfold onObj at h
 split at h
 ·obtain ⟨a, e1, e2⟩ := rr
  exact ⟨_, a, rfl, e1, e2, h⟩
 ·exact h.elim
theorem on_one {P : R → Prop} {rs : List R} {xs : List V} (rr : RelRs K α Hb H rs xs) (h : on1 P rs) : ∃ r v, rs = [r] ∧ xs = [v] ∧ RelR K α Hb H r v ∧ P r := by
 cases rr with
 | nil => exact h.elim
 | cons h1 t =>
  cases t with
  | nil => exact ⟨_, _, rfl, rfl, h1, h⟩
  | cons _ _ => exact h.elim
end
section
variable {X : Cx} {o a b c e : Expr} {es : List Expr} {wo wa wb wc we wi : WE} {ws : WA} {pos apos cpos : Pos}
abbrev WM := R → List R → MSt → (R → MSt → Prop) → Prop
def mM (K : Kx) (ob : WM) : V → List V → Hp → VK → Prop := fun x xs H Q => ∃ α m σ H0 H1 r rs Kc, Rel K α m σ H ∧ RelR K α H0 H r x ∧ RelRs K α H1 H rs xs ∧ ob r rs m Kc ∧ ∀ r m' v H', Kc r m' → m'.np = m.np → Rel K α m' σ H' → RelR K α H H' r v → Frm α H H' → Q v H'
def wML (ob : WM) (wo : WE) (ws : WA) : WE := fun m K => wo m fun r m1 => (∃ ds, lsOf m1 r = some ds) ∧ ws m1 fun rs m2 => ob r rs m2 K
theorem ml_rd {ob : WM} {σ : St} {H : Hp} {Q : VK} (h : tM X.kx (wML ob wo ws) σ H Q) : tBM X.K "list" (mM X.kx ob) (tM X.kx wo) (tMA X.kx ws) σ H Q := by
 obtain ⟨α, m, Kc, Rl, hw, fin⟩ := h
 refine ⟨α, m, _, Rl, hw, fun r m1 v H1 k n1 Rl1 rr F1 => ?_⟩
 obtain ⟨⟨ds, el⟩, k⟩ := k
 obtain ⟨a, xs, rfl, f, g⟩ := rr.list Rl1 el
 refine ⟨.inl ⟨rfl, xs, f⟩, α, m1, _, Rl1, k, fun rs m2 vs H2 k2 n2 Rl2 rr2 F2 => ?_⟩
 exact ⟨α, m2, σ, H, H1, r, rs, Kc, Rl2, rr.keep Rl Rl1 F2, rr2, k2, fun r m' v H' k n Rl' rr' F => fin r m' v H' k (n.trans (n2.trans n1)) Rl' (rr'.base Rl2 (F1.trans F2)) ((F1.trans F2).trans F)⟩
theorem me_ml {name : Str} {id : String} {ob : WM} (slot : Slot "list" name id) (hty : typeOf (.builtin id) = pure (.type "method_descriptor")) (hm : MtM X id (mM X.kx ob)) (ho : ME X o wo) (ha : MA X (e :: es) ws)
  (hbase : attributeBase o name X.env (eval o X.env) = eval o X.env := by rfl)
  (hfew : ((backTo cpos (starEach (e :: es) X.env)).all (fun x => !x.1) && (backToKw cpos (keywordEach [] X.env)).all (fun x => x.1.isSome)
   && decide ((e :: es).length + ([] : List Keyword).length + (if ([] : List Keyword).isEmpty then 0 else 1) < 30)) = true := by rfl)
  (hline : (apos.endLine == cpos.line) = true := by rfl) (hs : starEach (e :: es) X.env = (false, eval e X.env) :: starEach es X.env := by first | exact star_cons rfl | rfl) (hplain : (backTo cpos (starEach es X.env)).any (·.1) = false := by rfl) :
  ME X (.Call (.Attribute o name apos) (e :: es) [] cpos) (wML ob wo ws) := (pe_bm PySem.F.plainAttrs_list slot hty hm ho ha hbase hfew hline hs hplain).wk fun _ _ _ h => ml_rd h
def oAppend : WM := fun r rs m K => onObj (fun k => on1 (onImm fun d => ∃ ds, m.os[k]? = some ds ∧ ds.length < sizeLine ∧ K (.imm .none) { m with os := m.os.set k (ds ++ [d]) }) rs) r
theorem mt_appendM : MtM X "list.append" (mM X.kx oAppend) := by
 rintro pins s σ' H x xs v us Q I rx rv ⟨α, m, σ, H0, H1, r, rs, Kc, Rl, h1, h2, ho, fin⟩
 obtain ⟨k, a, rfl, ea, rfl, ho⟩ := on_obj h1 ho
 obtain ⟨r2, v2, rfl, rfl, h2, ho⟩ := on_one h2 ho
 obtain ⟨d, rfl, hd, ds, e1, hz, ho⟩ := on_imm h2 ho
 obtain ⟨ys, q, g⟩ := Rl.own _ _ ds ea e1
 obtain ⟨R2, F2⟩ := Rl.setO ea q (g.append (DenAll.cons hd DenAll.nil))
 exact mt_append pins s σ' H _ _ v us Q I rx rv ⟨a, ys, _, rfl, rfl, q, by rw [← g.length]; exact hz, fin _ _ _ _ ho rfl R2 rr_non F2⟩
def oPopAt : WM := fun r rs m K => onObj (fun k => on1 (onInt fun i => ∃ ds j d, m.os[k]? = some ds ∧ (-(2 ^ 63) ≤ i ∧ i < 2 ^ 63) ∧ seqIndex? i ds.length = some j ∧ ds[j]? = some d ∧ K (.imm d) { m with os := m.os.set k (ds.eraseIdx j) }) rs) r
theorem mt_popAtM : MtM X "list.pop" (mM X.kx oPopAt) := by
 rintro pins s σ' H x xs v us Q I rx rv ⟨α, m, σ, H0, H1, r, rs, Kc, Rl, h1, h2, ho, fin⟩
 obtain ⟨k, a, rfl, ea, rfl, ho⟩ := on_obj h1 ho
 obtain ⟨r2, v2, rfl, rfl, h2, ho⟩ := on_one h2 ho
 obtain ⟨i, rfl, rfl, ds, j, d, e1, ⟨b1, b2⟩, e2, e3, ho⟩ := on_int h2 ho
 obtain ⟨ys, q, g⟩ := Rl.own _ _ ds ea e1
 obtain ⟨R2, F2⟩ := Rl.setO ea q (g.eraseIdx j)
 obtain ⟨w, z1, z2⟩ := g.get e3
 exact mt_popAt pins s σ' H _ _ v us Q I rx rv ⟨a, ys, i, j, w, rfl, rfl, q, b1, b2, by rw [← g.length]; exact e2, z1, fin _ _ _ _ ho rfl R2 (rr_of (z2.mono (Rl.pers F2))) F2⟩
def wSetI (we wo wi : WE) : WS := fun D m => we m fun rv m1 => onImm (fun d => wo m1 fun ro m2 => wi m2 fun ri m3 => onObj (fun k => onInt (fun z => ∃ ds j, m3.os[k]? = some ds ∧ ixN ds.length z = some j ∧ D.nx { m3 with os := m3.os.set k (ds.set j d) }) ri) ro) rv
theorem ms_setI {b i : Expr} {pos' : Pos} (he : ME X e we) (ho : ME X b wo) (hi : ME X i wi) (hs : swapsWithSole [.Subscript b i pos'] e pos.line X.env = pure false := by rfl) (hw : swappedStores [.Subscript b i pos'] e X.env = pure none := by rfl)
  (h1 : (assignEach [.Subscript b i pos'] X.env).map (·.2) = [assign (.Subscript b i pos') X.env] := by rfl) (ha : ∀ v, assign (.Subscript b i pos') X.env v = (do
   let ov ← holding [v] (eval b X.env)
   let iv ← holding [v, ov] (eval i X.env)
   standAt pos'
   holding [v, ov, iv] (setItem ov iv v)
   release [v, ov, iv] []) := by intro _; rfl) : MS X (.Assign [.Subscript b i pos'] e pos) (wSetI we wo wi) := (ps_asg he (pg_sub ho hi set_list ha) hs hw h1).wk fun D σ H ⟨α, m, De, Rl, hw, k⟩ => by
 refine ⟨α, m, _, Rl, hw, fun r m1 v H1 q n1 Rl1 rr F1 => ?_⟩
 obtain ⟨d, er, hd, q⟩ := on_imm rr q
 refine ⟨α, m1, _, Rl1, q, fun ro m2 ov H2 q2 n2 Rl2 rr2 F2 => ⟨α, m2, _, Rl2, q2, fun ri m3 iv H3 q3 n3 Rl3 rr3 F3 => ?_⟩⟩
 obtain ⟨kk, p, rfl, ea, rfl, q3⟩ := on_obj rr2 q3
 obtain ⟨z, rfl, rfl, ds, j, e1, e2, q3⟩ := on_int rr3 q3
 obtain ⟨ys, q, g⟩ := Rl3.own _ _ ds ea e1
 have hd3 : Den X.kx H3 d v := (hd.mono (Rl1.pers F2)).mono (Rl2.pers F3)
 obtain ⟨R4, F4⟩ := Rl3.setO ea q (g.set hd3 j)
 exact ⟨p, ys, z, j, rfl, rfl, q, by rw [← g.length]; exact e2, k.nx α _ σ _ q3 (n3.trans (n2.trans n1)) R4 (.of R4 (((F1.trans F2).trans F3).trans F4))⟩
def lenR (m : MSt) (K : R → Prop) : R → Prop
 | .imm (.str x) => x.length ≤ sizeLine ∧ K (.imm (.int x.length))
 | .imm (.tuple ds) => K (.imm (.int ds.length))
 | r => ∃ ds, lsOf m r = some ds ∧ K (.imm (.int ds.length))
def oLen : WC := fun rs m K => on1 (lenR m K) rs
theorem call_lenM : CallR X (.builtin "len") (cM X.kx oLen) := by
 rintro pins s σ' H xs us Q I rv ⟨α, m, σ, H0, rs, Kc, Rl, h, ho, fin⟩
 obtain ⟨r, v, rfl, rfl, h1, ho⟩ := on_one h ho
 unfold lenR at ho
 split at ho
 ·rename_i x _
  have e := str_of_den (show Den X.kx H (.str x) _ from h1)
  subst e
  exact call_len_str pins s σ' H _ us Q I rv ⟨x, rfl, ho.1, fin _ _ H ho.2 Rl (rr_int _) (Frm.refl _ _)⟩
 ·rename_i ds _
  obtain ⟨a, ys, rfl, f, g⟩ := tup_of_den (show Den X.kx H (.tuple ds) _ from h1)
  exact call_len_seq pins s σ' H _ us Q I rv ⟨a, ys, rfl, .inr f, by rw [← g.length]; exact fin _ _ H ho Rl (rr_int _) (Frm.refl _ _)⟩
 ·obtain ⟨ds, el, ho⟩ := ho
  obtain ⟨a, ys, rfl, f, g⟩ := h1.list Rl el
  exact call_len_seq pins s σ' H _ us Q I rv ⟨a, ys, rfl, .inl f, by rw [← g.length]; exact fin _ _ H ho Rl (rr_int _) (Frm.refl _ _)⟩
def oAbs : WC := fun rs m K => on1 (onInt fun i => K (.imm (.int (if i < 0 then -i else i)))) rs
theorem call_absM : CallR X (.builtin "abs") (cM X.kx oAbs) := by
 rintro pins s σ' H xs us Q I rv ⟨α, m, σ, H0, rs, Kc, Rl, h, ho, fin⟩
 obtain ⟨r, v, rfl, rfl, h1, ho⟩ := on_one h ho
 obtain ⟨i, rfl, rfl, ho⟩ := on_int h1 ho
 exact call_abs pins s σ' H _ us Q I rv ⟨i, rfl, fin _ _ H ho Rl (rr_int _) (Frm.refl _ _)⟩
def intR (K : R → Prop) : R → Prop
 | .imm (.int i) => K (.imm (.int i))
 | .imm (.bool b) => K (.imm (.int (if b then 1 else 0)))
 | _ => False
def oInt : WC := fun rs m K => on1 (intR K) rs
theorem call_intM : CallR X (.type "int") (cM X.kx oInt) := by
 rintro pins s σ' H xs us Q I rv ⟨α, m, σ, H0, rs, Kc, Rl, h, ho, fin⟩
 obtain ⟨r, v, rfl, rfl, h1, ho⟩ := on_one h ho
 unfold intR at ho
 split at ho
 ·rename_i i _
  have e := int_of_den (show Den X.kx H (.int i) _ from h1)
  subst e
  exact call_int1 pins s σ' H _ us Q I rv (.inl ⟨i, rfl, fin _ _ H ho Rl (rr_int _) (Frm.refl _ _)⟩)
 ·rename_i i _
  have e := bl_of_den (show Den X.kx H (.bool i) _ from h1)
  subst e
  exact call_int1 pins s σ' H _ us Q I rv (.inr ⟨i, rfl, fin _ _ H ho Rl (rr_int _) (Frm.refl _ _)⟩)
 ·exact ho.elim
def sqOf (m : MSt) : R → Option (List PyData)
 | .imm (.tuple ds) => some ds
 | r => lsOf m r
theorem RelR.seq {K : Kx} {α : Al} {m : MSt} {σ : St} {H H0 : Hp} {r : R} {v : V} (Rl : Rel K α m σ H) (h : RelR K α H0 H r v) {ds : List PyData} (e : sqOf m r = some ds) : ∃ a xs, v = .ref a ∧ (SqL K H a xs ∨ SqT K H a xs) ∧ DenAll K H ds xs := by
 unfold sqOf at e
 split at e
 ·cases e
  obtain ⟨a, ys, e, f, g⟩ := tup_of_den (show Den K H (.tuple ds) _ from h)
  exact ⟨a, ys, e, .inr f, g⟩
 ·obtain ⟨a, ys, e, f, g⟩ := h.list Rl e
  exact ⟨a, ys, e, .inl f, g⟩
def oList : WC := fun rs m K => on1 (fun r => ∃ ds, sqOf m r = some ds ∧ K (.new ds)) rs
theorem call_listM : CallR X (.type "list") (cM X.kx oList) := by
 rintro pins s σ' H xs us Q I rv ⟨α, m, σ, H0, rs, Kc, Rl, h, ho, fin⟩
 obtain ⟨r, v, rfl, rfl, h1, ho⟩ := on_one h ho
 ·obtain ⟨ds, e, ho⟩ := ho
  obtain ⟨a, ys, rfl, f, g⟩ := h1.seq Rl e
  exact call_list_of pins s σ' H _ us Q I rv ⟨a, ys, rfl, f, fun l hl => fin _ _ _ ho (Rl.lay hl) ⟨l, ys, rfl, hl, upd_same, g.mono (pers_upd (.inl hl))⟩ (frm_upd hl)⟩
def oTuple : WC := fun rs m K => on1 (fun r => ∃ ds, sqOf m r = some ds ∧ K (.imm (.tuple ds))) rs
theorem call_tupleM : CallR X (.type "tuple") (cM X.kx oTuple) := by
 rintro pins s σ' H xs us Q I rv ⟨α, m, σ, H0, rs, Kc, Rl, h, ho, fin⟩
 obtain ⟨r, v, rfl, rfl, h1, ho⟩ := on_one h ho
 ·obtain ⟨ds, e, ho⟩ := ho
  obtain ⟨a, ys, rfl, f, g⟩ := h1.seq Rl e
  refine call_tuple_of pins s σ' H _ us Q I rv ⟨a, ys, rfl, ?_⟩
  rcases f with f | f
  ·exact .inl ⟨f, fun l hl => fin _ _ _ ho (Rl.lay hl) (rr_of (den_tup (SqT.of upd_same) (g.mono (pers_upd (.inl hl))))) (frm_upd hl)⟩
  ·exact .inr ⟨f, fin _ _ _ ho Rl (rr_of (den_tup f g)) (Frm.refl _ _)⟩
def oRepr : WC := fun rs m K => on1 (fun r => ∃ d, asD m r = some d ∧ d.showable = true ∧ d.hasDict = false ∧ d.shown.length ≤ sizeLine ∧ d.depth ≤ 100 ∧ K (.imm (.str d.shown))) rs
theorem call_reprM (hg : X.A.guards = some []) (hu : X.A.units + 200 < cLine) : CallR X (.builtin "repr") (cM X.kx oRepr) := by
 rintro pins s σ' H xs us Q I rv ⟨α, m, σ, H0, rs, Kc, Rl, h, ho, fin⟩
 obtain ⟨r, v, rfl, rfl, h1, ho⟩ := on_one h ho
 ·obtain ⟨d, e, hs, hnd, hz, hdp, ho⟩ := ho
  obtain ⟨u, rfl, ru⟩ := rv.one
  obtain ⟨as, q⟩ := h1.reads I Rl ru e hnd
  have done : ∀ tk tk2 h', (∀ b o, s.heap.get? b = some o → h'.get? b = some o) → EP X pins σ' Q (.str d.shown tk2) { s with heap := h', toks := tk } := fun tk tk2 h' hk => ⟨.str d.shown, H, I.kept (t' := tk) hk, ⟨_, rfl⟩, fin _ _ H ho Rl (rr_str _) (Frm.refl _ _)⟩
  cases q with
  | none => exact PySem.P.repr_of_none (done _ _ _ fun _ _ z => z)
  | bool b =>
   have := done (s.toks + 1) s.toks s.heap fun _ _ z => z
   simp only [PyData.shown] at this
   exact PySem.P.repr_of_bool (by cases b <;> exact this)
  | int i t =>
   refine PySem.P.repr_of_int (by simpa [PyData.showable] using hs) ?_
   have := done (s.toks + 1) s.toks s.heap fun _ _ z => z
   simp only [PyData.shown] at this
   exact this
  | str x t =>
   have hz' : (reprText x).length ≤ sizeLine := by simpa only [PyData.shown] using hz
   refine PySem.P.repr_of_str ?_ hz'
   have := done (s.toks + 1) s.toks s.heap fun _ _ z => z
   simp only [PyData.shown] at this
   exact this
  | list z1 z2 z3 z4 => exact repr_of_reads' (.list z1 z2 z3 z4) hs (PyData.noDict_hsm hnd) hg (by omega) (fun _ _ z => z) (fun h' u tk hk => done tk u h' hk) hz
  | tuple z1 z2 z3 z4 => exact repr_of_reads' (.tuple z1 z2 z3 z4) hs (PyData.noDict_hsm hnd) hg (by omega) (fun _ _ z => z) (fun h' u tk hk => done tk u h' hk) hz
  | dict z1 z2 z3 z4 z5 => simp [PyData.hasDict] at hnd
def sM (K : Kx) (o : R → Option Int → Option Int → MSt → (R → Prop) → Prop) : V → Option Int → Option Int → Hp → VK → Prop := fun x lo hi H Q => ∃ α m σ H0 r Kc, Rel K α m σ H ∧ RelR K α H0 H r x ∧ o r lo hi m Kc ∧ ∀ r v H', Kc r → Rel K α m σ H' → RelR K α H H' r v → Frm α H H' → Q v H'
def cutD (xs : List PyData) (lo hi : Option Int) : List PyData := (xs.drop (HT.sIx xs.length 0 lo)).take (HT.sIx xs.length xs.length hi - HT.sIx xs.length 0 lo)
theorem cut_den {K : Kd} {H : Hp} {ds : List PyData} {xs : List V} (g : DenAll K H ds xs) (lo hi : Option Int) : DenAll K H (cutD ds lo hi) (cutV xs lo hi) := by
 unfold cutD cutV
 rw [← g.length]
 exact (g.drop _).take _
def oCutL : R → Option Int → Option Int → MSt → (R → Prop) → Prop := fun r lo hi m K => ∃ ds, lsOf m r = some ds ∧ K (.new (cutD ds lo hi))
theorem sl_listM : SlR X (sM X.kx oCutL) := by
 intro pins s σ' H x v vl vu lo hi sl Q I rx hs pl pu hq
 obtain ⟨α, m, σ, H0, r, Kc, Rl, h, ⟨ds, e, k⟩, fin⟩ := hq
 obtain ⟨a, ys, rfl, f, g⟩ := h.list Rl e
 exact sl_list pins s σ' H _ v vl vu lo hi sl Q I rx hs pl pu ⟨a, ys, rfl, f, fun p hp => fin _ _ _ k (Rl.lay hp) ⟨p, _, rfl, hp, upd_same, (cut_den g lo hi).mono (pers_upd (.inl hp))⟩ (frm_upd hp)⟩
def WO1 := MSt → (Option Int → MSt → Prop) → Prop
def tMO (K : Kx) (w : WO1) : TO := fun σ H Q => ∃ α m Kc, Rel K α m σ H ∧ w m Kc ∧ ∀ r m' H', Kc r m' → m'.np = m.np → Rel K α m' σ H' → Frm α H H' → Q r H'
def wNoPart : WO1 := fun m K => K none m
def wPart (w : WE) : WO1 := fun m K => w m fun r m' => onInt (fun i => K (some i) m') r
theorem PO.wk {X : Cx} {e : Option Expr} {t t' : TO} (h : PO X e t) (k : ∀ σ H Q, t' σ H Q → t σ H Q) : PO X e t' := fun pins s σ H Q I q => h pins s σ H Q I (k _ _ _ q)
abbrev MO (X : Cx) (e : Option Expr) (w : WO1) : Prop := PO X e (tMO X.kx w)
theorem mo_none : MO X none wNoPart := (po_none (X := X)).wk fun σ H Q ⟨α, m, Kc, Rl, hw, fin⟩ => fin none m H hw rfl Rl (Frm.refl _ _)
theorem mo_some (he : ME X e we) : MO X (some e) (wPart we) := (po_some he).wk fun σ H Q ⟨α, m, Kc, Rl, hw, fin⟩ => by
 refine ⟨α, m, _, Rl, hw, fun r m1 v H1 k n1 Rl1 rr F1 => ?_⟩
 obtain ⟨i, rfl, rfl, k⟩ := on_int rr k
 exact ⟨i, rfl, fin _ m1 H1 k n1 Rl1 F1⟩
def wSl (ob : R → Option Int → Option Int → MSt → (R → Prop) → Prop) (we : WE) (wl wh : WO1) : WE := fun m K => we m fun r m1 => wl m1 fun l m2 => wh m2 fun u m3 => ob r l u m3 fun r' => K r' m3
theorem me_slice {lo hi : Option Expr} {wl wh : WO1} {p2 : Pos} {ob : R → Option Int → Option Int → MSt → (R → Prop) → Prop} (hr : SlR X (sM X.kx ob)) (he : ME X e we) (hl : MO X lo wl) (hu : MO X hi wh) : ME X (.Subscript e (.Slice lo hi none p2) pos) (wSl ob we wl wh) := (pe_slice hr he hl hu).wk fun σ H Q ⟨α, m, Kc, Rl, hw, fin⟩ =>
 ⟨α, m, _, Rl, hw, fun r m1 v H1 k n1 Rl1 rr F1 => ⟨α, m1, _, Rl1, k, fun l m2 H2 k2 n2 Rl2 F2 => ⟨α, m2, _, Rl2, k2, fun u m3 H3 k3 n3 Rl3 F3 => ⟨α, m3, σ, H, r, _, Rl3, (rr.keep Rl Rl1 F2).keep Rl Rl2 F3, k3, fun r' v' H' k4 Rl4 rr4 F4 => fin r' m3 v' H' k4 (n3.trans (n2.trans n1)) Rl4 (rr4.base Rl3 ((F1.trans F2).trans F3)) (((F1.trans F2).trans F3).trans F4)⟩⟩⟩⟩
end
def agV : Nat → List Ag → List (Option R)
 | _, [] => []
 | k, .imm d :: as => some (.imm d) :: agV k as
 | k, .own _ :: as => some (.obj k) :: agV (k + 1) as
 | k, .tr _ :: as => some (.at k []) :: agV (k + 1) as
def agO : List Ag → List (List PyData)
 | [] => []
 | .imm _ :: as => agO as
 | .own ds :: as => ds :: agO as
 | .tr t :: as => [t] :: agO as
def mstart (n : Nat) (as : List Ag) : MSt := ⟨agV 0 as ++ List.replicate (n - as.length) none, agO as, (agO as).length⟩
def outR (m : MSt) : R → R
 | .imm d => .imm d
 | .new ds => .new ds
 | .newT t => .newT t
 | .obj k => if k < m.np then .obj k else .new (m.os.getD k [])
 | .at k p => if k < m.np then .at k p else match p, m.os[k]? with
  | [], some [t] => .newT t
  | _, _ => .at k p
theorem agV_length : ∀ (k : Nat) (as : List Ag), (agV k as).length = as.length
 | _, [] => rfl
 | k, .imm d :: as => by simp [agV, agV_length k as]
 | k, .own _ :: as => by simp [agV, agV_length (k + 1) as]
 | k, .tr _ :: as => by simp [agV, agV_length (k + 1) as]
section
variable {K : Kx} {H : Hp}
theorem RelAs.facts {K : Kd} : ∀ {as : List Ag} {vs : List V} {β : Al} {pre : Al}, RelAs K H as vs β →
  (agO as).length = β.length ∧ (∀ (k : Nat) (ao : Ao) (ds : List PyData), β[k]? = some ao → (agO as)[k]? = some ds → OwnAt K H ao ds) ∧
   ∀ (i : Nat) (r : R), (agV pre.length as)[i]? = some (some r) → ∃ v, vs[i]? = some v ∧ RelS K (pre ++ β) H r v
 | _, _, _, _, .nil => ⟨rfl, fun k a ds h => by simp at h, fun i r h => by simp [agV] at h⟩
 | _, _, β, pre, .imm (as := as) hd t => by
  obtain ⟨h1, h2, h3⟩ := t.facts (pre := pre)
  refine ⟨h1, h2, fun i r h => ?_⟩
  cases i with
  | zero => simp [agV] at h; subst h; exact ⟨_, rfl, hd⟩
  | succ i =>
   obtain ⟨v, e, q⟩ := h3 i r (by simpa [agV] using h)
   exact ⟨v, by simpa using e, q⟩
 | _, _, _, pre, .own (a := a) (β := β) ha t => by
  obtain ⟨h1, h2, h3⟩ := t.facts (pre := pre ++ [.L a])
  refine ⟨by simp [agO, h1], fun k b ds z1 z2 => ?_, fun i r h => ?_⟩
  ·cases k with
   | zero => simp [agO] at z1 z2; subst z1; subst z2; exact ha
   | succ k => exact h2 k b ds (by simpa using z1) (by simpa [agO] using z2)
  ·cases i with
   | zero => simp [agV] at h; subst h; exact ⟨_, rfl, a, by simp, rfl⟩
   | succ i =>
    obtain ⟨v, e, q⟩ := h3 i r (by simpa [agV] using h)
    refine ⟨v, by simpa using e, ?_⟩
    rw [List.append_assoc] at q
    exact q
 | _, _, _, pre, .tr (a := a) (τ := τ) (β := β) ha el t => by
  obtain ⟨h1, h2, h3⟩ := t.facts (pre := pre ++ [.T τ])
  refine ⟨by simp [agO, h1], fun k b ds z1 z2 => ?_, fun i r h => ?_⟩
  ·cases k with
   | zero => simp [agO] at z1 z2; subst z1; subst z2; exact ha
   | succ k => exact h2 k b ds (by simpa using z1) (by simpa [agO] using z2)
  ·cases i with
   | zero => simp [agV] at h; subst h; exact ⟨_, rfl, τ, a, by simp, el, rfl⟩
   | succ i =>
    obtain ⟨v, e, q⟩ := h3 i r (by simpa [agV] using h)
    refine ⟨v, by simpa using e, ?_⟩
    rw [List.append_assoc] at q
    exact q
theorem entry_rel {n nN : Nat} {N : List Str} {vs : List V} {as : List Ag} {β : Al} (hN : N.length = nN) (hle : n ≤ nN) (hl : as.length = n) (nd : (ads β).Nodup) (ra : RelAs K H as vs β) (hb : K.eb.np ≤ (agO as).length) (hx : Ext K.eb.np K.eb.be K.eb.H β H) : Rel K β (mstart nN as) (start N vs) H := by
 obtain ⟨h1, h2, h3⟩ := ra.facts (pre := [])
 have hvl : as.length = vs.length := ra.length
 refine ⟨nd, by rw [← h1]; rfl, h2, ?_, fun i r e => ?_, by rw [← h1]; exact Nat.le_refl _, hb, hx⟩
 ·unfold start mstart
  simp only [List.length_append, List.length_map, List.length_replicate, agV_length]
  omega
 ·have e' : (agV 0 as ++ List.replicate (nN - as.length) none)[i]? = some (some r) := e
  by_cases hi : i < as.length
  ·rw [List.getElem?_append_left (by rw [agV_length]; exact hi)] at e'
   obtain ⟨v, ev, q⟩ := h3 i r e'
   refine ⟨v, ?_, by simpa using q⟩
   unfold start
   rw [List.getElem?_append_left (by rw [List.length_map]; omega), List.getElem?_map, ev]; rfl
  ·rw [List.getElem?_append_right (by rw [agV_length]; omega), List.getElem?_replicate] at e'
   split at e' <;> cases e'
theorem end_outs {as : List Ag} {vs : List V} {β α' : Al} {m' : MSt} {σ' : St} {H' : Hp} (ra : RelAs K H as vs β) (hn : m'.np = (agO as).length) (R' : Rel K α' m' σ' H') (x : Ext (agO as).length β H α' H') : OutsAt K H' β (m'.os.take m'.np) ∧ Frm β H H' ∧ β = α'.take (agO as).length := by
 obtain ⟨h1, h2, h3⟩ := ra.facts (pre := [])
 have e1 : α'.take (agO as).length = β := by rw [x.pre, h1, List.take_length]
 refine ⟨⟨?_, fun j a ds z1 z2 => ?_⟩, x.frm, e1.symm⟩
 ·have := R'.npl
  rw [R'.len] at this
  rw [List.length_take, hn, ← h1]
  omega
 ·rw [← e1, List.getElem?_take] at z1
  rw [hn, List.getElem?_take] at z2
  by_cases hj : j < (agO as).length
  ·rw [if_pos hj] at z1 z2
   exact R'.own j a ds z1 z2
  ·rw [if_neg hj] at z1; cases z1
theorem end_res {as : List Ag} {β α' : Al} {m' : MSt} {σ' : St} {H' : Hp} {r : R} {v : V} (hn : m'.np = (agO as).length) (R' : Rel K α' m' σ' H') (x : Ext (agO as).length β H α' H') (eβ : β = α'.take (agO as).length) (rr : RelR K α' H H' r v)
  (ok : ∀ k p, r = .at k p → k < m'.np ∨ (p = [] ∧ ∃ t, m'.os[k]? = some [t])) : RelR K β H H' (outR m' r) v := by
 have out : ∀ {k : Nat} {ao : Ao}, ¬ k < m'.np → α'[k]? = some ao → ∀ b ∈ ao.ads, H b = none := fun {k ao} hk ea b hb => by
  rcases x.new b (ads_in ea hb) with z | z
  ·exfalso
   rw [eβ] at z
   obtain ⟨j, ao', ej, hm⟩ := ads_at z
   rw [List.getElem?_take] at ej
   by_cases hj : j < (agO as).length
   ·rw [if_pos hj] at ej
    exact ads_disj R'.nd ea ej (by omega) hb hm
   ·rw [if_neg hj] at ej; cases ej
  ·exact z
 have inb : ∀ {k : Nat} {ao : Ao}, k < m'.np → α'[k]? = some ao → β[k]? = some ao := fun {k ao} hk ea => by
  rw [eβ, List.getElem?_take, if_pos (by rw [← hn]; exact hk)]
  exact ea
 cases r with
 | imm d => exact rr
 | new ds => exact rr
 | newT t => exact rr
 | obj k =>
  obtain ⟨a, ea, rfl⟩ := rr
  unfold outR
  by_cases hk : k < m'.np
  ·simp only [hk, if_true]
   exact ⟨a, inb hk ea, rfl⟩
  ·simp only [hk, if_false]
   have hk2 : k < m'.os.length := by rw [← R'.len]; exact (List.getElem?_eq_some_iff.mp ea).1
   have e3 : m'.os[k]? = some (m'.os.getD k []) := by rw [List.getD_eq_getElem?_getD, List.getElem?_eq_getElem hk2]; rfl
   obtain ⟨xs, y1, y2⟩ := R'.own k _ _ ea e3
   exact ⟨a, xs, rfl, out hk ea a (List.mem_singleton.mpr rfl), y1, y2⟩
 | «at» k p =>
  obtain ⟨τ, a, ea, el, rfl⟩ := rr
  unfold outR
  by_cases hk : k < m'.np
  ·simp only [hk, if_true]
   exact ⟨τ, a, inb hk ea, el, rfl⟩
  ·simp only [hk, if_false]
   rcases ok k p rfl with z | ⟨rfl, t, et⟩
   ·exact (hk z).elim
   ·rw [et]
    have g := R'.own k _ _ ea et
    exact ⟨τ, a, rfl, el, ((ads_iff α').mp R'.nd).1 _ (List.mem_of_getElem? ea), out hk ea, g⟩
def okR (m : MSt) : R → Prop
 | .at k p => k < m.np ∨ (p = [] ∧ ∃ t, m.os[k]? = some [t])
 | _ => True
theorem okR.at {m : MSt} {r : R} (h : okR m r) : ∀ k p, r = .at k p → k < m.np ∨ (p = [] ∧ ∃ t, m.os[k]? = some [t]) := fun k p e => by subst e; exact h
def retK (Kc : R → List (List PyData) → Prop) (m : MSt) : R → Prop
 | .at k p => okR m (.at k p) ∧ Kc (outR m (.at k p)) (m.os.take m.np)
 | .imm d => Kc (.imm d) (m.os.take m.np)
 | .new ds => Kc (.new ds) (m.os.take m.np)
 | .obj k => Kc (outR m (.obj k)) (m.os.take m.np)
 | .newT t => Kc (.newT t) (m.os.take m.np)
theorem retK.ok {Kc : R → List (List PyData) → Prop} {m : MSt} {r : R} (h : retK Kc m r) : okR m r ∧ Kc (outR m r) (m.os.take m.np) := by
 cases r with
 | «at» k p => exact h
 | imm d => exact ⟨trivial, h⟩
 | new ds => exact ⟨trivial, h⟩
 | obj k => exact ⟨trivial, h⟩
 | newT t => exact ⟨trivial, h⟩
theorem fn_m {n nN : Nat} {N : List Str} {sp : SpM} {w : WS} {vs : List V} {Q : VK} {E : XK} (he : K.eb = ⟨0, [], fun _ => none⟩) (h : spOf K n sp vs H Q E) (hN : N.length = nN) (hle : n ≤ nN)
  (hw : ∀ as Kc, as.length = n → sp as Kc → w { nx := fun m => Kc (.imm .none) (m.os.take m.np), rt := fun r m => retK Kc m r } (mstart nN as)) : tMS K w { nx := fun _ H' => Q .non H', rt := Q } (start N vs) H := by
 obtain ⟨as, β, Kc, hl, nd, ra, hsp, fin⟩ := h
 have R0 : Rel K β (mstart nN as) (start N vs) H := entry_rel hN hle hl nd ra (by rw [he]; exact Nat.zero_le _) (by rw [he]; exact ⟨rfl, fun _ _ z => (by cases z), fun _ _ => .inr rfl, fun a ha => (by cases ha)⟩)
 refine ⟨β, mstart nN as, _, R0, hw as Kc hl hsp, ⟨fun α' m' σ' H' q hn R' x => ?_, fun r α' m' σ' v H' q hn R' rr x => ?_, fun _ _ _ _ z => z.elim, fun _ _ _ _ z => z.elim⟩⟩
 ·obtain ⟨O, F, _⟩ := end_outs ra hn R' x
  exact fin _ _ .non H' q O rr_non F
 ·obtain ⟨O, F, eβ⟩ := end_outs ra hn R' x
  have q' := retK.ok q
  exact fin _ _ v H' q'.2 O (end_res hn R' x eβ rr q'.1.at) F
end
structure FnM (P : Program) (w : World) (K : PySem.W.Frag) (mg : Str → Option Value) (base : Heap) (x : Str) (k n : Nat) (sp : SpM) : Prop where
 ex : ∃ (f : Addr) (fd : FuncData) (ps : List Str), FnOk P w K mg base CX0 k f fd ps (spOf ⟨K, w⟩ n sp) ∧ mg x = some (.ref f) ∧ PySem.W.keepIn K (.ref f) = true ∧ Binds K fd ps []
 ar : ∀ as Kc, sp as Kc → as.length = n
structure DefM (K : PySem.W.Frag) (mg : Str → Option Value) (x : Str) (st : Stmt) (ps : List Str) : Prop where
 ex : ∃ (f : Addr) (fd : FuncData), Fun K x x st f fd ∧ mg x = some (.ref f) ∧ Binds K fd ps []
theorem mk_fn {P : Program} {w : World} {K : PySem.W.Frag} {mg : Str → Option Value} {base : Heap} {x : Str} {st : Stmt} {N ps : List Str} {n nN k : Nat} {sp : SpM} (D : DefM K mg x st ps) (S : FnScope N ps (defScope st)) (hn : ps.length = n) (hN : N.length = nN) (hle : n ≤ nN) (ar : ∀ as Kc, sp as Kc → as.length = n)
  (hbody : ∀ (cdv : Value) (A : Around) (outer : List Env) (s : Shared) (H : Hp) (E : XK) (f : Addr), Room k (A.deeper (envOfC x (defScope st) s.heap.objs.size f cdv)) →
   ∃ ww, MSs (cxOf CX0 P w K mg base N x (defScope st) f cdv A outer s H E).nox (defBody st) ww ∧ ∀ as Kc, as.length = n → sp as Kc → ww { nx := fun m => Kc (.imm .none) (m.os.take m.np), rt := fun r m => retK Kc m r } (mstart nN as)) :
  FnM P w K mg base x (k + 1) n sp := by
 obtain ⟨f, fd, F, hm, hb⟩ := D.ex
 refine ⟨⟨f, fd, ps, F.ok S (fun vs H Q E h => by rw [hn]; exact h.len) (fun cdv A outer s H vs Q E hr h => ?_), hm, F.kp, hb⟩, ar⟩
 obtain ⟨ww, h1, h2⟩ := hbody cdv A outer s H E f hr
 exact ⟨_, h1, fn_m (K := (cxOf CX0 P w K mg base N x (defScope st) f cdv A outer s H E).nox.kx) rfl h hN hle h2⟩
section
variable {X : Cx} {a : Expr} {es : List Expr} {ws : WA} {pos p : Pos} {k n : Nat} {sp : SpM} {x : Str}
theorem me_callF (F : FnM X.prog X.w X.K X.mg X.base x k n sp) (hr : Room k X.A) (ha : MA X (a :: es) ws) (hg : Gl X x := by rfl) (hdb : (x == ("__debug__" : Str)) = false := by decide) (he : starEach (a :: es) X.env = (false, eval a X.env) :: starEach es X.env := by first | exact star_cons rfl | rfl) (hpl : (backTo pos (starEach es X.env)).any (·.1) = false := by rfl) :
  ME X (.Call (.Name x p) (a :: es) [] pos) (wCall sp ws) := by
 obtain ⟨f, fd, ps, G, hm, hk, hb⟩ := F.ex
 exact me_call (E := E0) G hr hg hm hk hb pass0 F.ar ha hdb he hpl
theorem Room.u200 {k : Nat} {A : Around} (r : Room k A) : A.units + 200 < cLine := by have := r.un; omega
theorem bt_len : bootBuiltins "len" = some (.builtin "len") := by decide +kernel
theorem bt_abs : bootBuiltins "abs" = some (.builtin "abs") := by decide +kernel
theorem bt_sum : bootBuiltins "sum" = some (.builtin "sum") := by decide +kernel
theorem bt_repr : bootBuiltins "repr" = some (.builtin "repr") := by decide +kernel
theorem bt_isinstance : bootBuiltins "isinstance" = some (.builtin "isinstance") := by decide +kernel
theorem bt_list : bootBuiltins "list" = some (.type "list") := by decide +kernel
theorem bt_tuple : bootBuiltins "tuple" = some (.type "tuple") := by decide +kernel
theorem bt_int : bootBuiltins "int" = some (.type "int") := by decide +kernel
theorem bt_str : bootBuiltins "str" = some (.type "str") := by decide +kernel
theorem bt_bool : bootBuiltins "bool" = some (.type "bool") := by decide +kernel
end
section
variable {m : MSt} {K : R → MSt → Prop} {Kb : Bool → MSt → Prop} {Ka : List R → MSt → Prop} {Kr : R → Prop} {D : MEnds} {wa wb wc we wo wi : WE} {ws : WA} {wt wu : WT} {w u : WS} {o : WO} {d : PyData} {r r1 r2 : R} {i j : Int} {k : Nat}
theorem x_seq (h : w { D with nx := fun m' => u D m' } m) : wSeq w u D m := h
theorem x_next (h : D.nx m) : wNext D m := h
theorem x_bin (h : wa m fun r1 m1 => wb m1 fun r2 m2 => o r1 r2 m2 fun r => K r m2) : wBin o wa wb m K := h
theorem x_var {n : Nat} (e : m.vs[n]? = some (some r)) (h : K r m) : wVar n m K := ⟨r, e, h⟩
theorem x_c (h : K (.imm d) m) : wC d m K := h
theorem x_ret (h : we m fun r m' => D.rt r m') : wRet we D m := h
theorem x_drop (h : we m fun _ m' => D.nx m') : wDrop we D m := h
theorem x_ifS (h : wt m fun c m' => if c = true then w D m' else u D m') : wIfS wt w u D m := h
theorem x_ifE (h : wt m fun c m' => if c = true then wa m' K else wb m' K) : wIfE wt wa wb m K := h
theorem x_test (h : we m fun r m' => onBl (fun k => Kb k m') r) : wTest we m Kb := h
theorem x_and (h : wt m fun c m1 => if c = true then wu m1 Kb else Kb false m1) : wAnd wt wu m Kb := h
theorem x_or (h : wt m fun c m1 => if c = true then Kb true m1 else wu m1 Kb) : wOr wt wu m Kb := h
theorem x_not (h : wt m fun c m1 => Kb (!c) m1) : wNot wt m Kb := h
theorem x_andV (h : wa m fun r m1 => onBl (fun c => if c = true then wb m1 K else K (.imm (.bool false)) m1) r) : wAndV wa wb m K := h
theorem x_notV (h : wa m fun r m1 => onBl (fun c => K (.imm (.bool (!c))) m1) r) : wNotV wa m K := h
theorem x_onBl {P : Bool → Prop} {b : Bool} (h : P b) : onBl P (.imm (.bool b)) := h
theorem x_onInt {P : Int → Prop} (h : P i) : onInt P (.imm (.int i)) := h
theorem x_onObj {P : Nat → Prop} (h : P k) : onObj P (.obj k) := h
theorem x_onImm {P : PyData → Prop} (h : P d) : onImm P (.imm d) := h
theorem x_on1 {P : R → Prop} (h : P r) : on1 P [r] := h
theorem x_iteT {A B : Prop} (h : A) : if true = true then A else B := by rw [if_pos rfl]; exact h
theorem x_iteF {A B : Prop} (h : B) : if false = true then A else B := by rw [if_neg Bool.false_ne_true]; exact h
theorem x_ite {c A B : Prop} [Decidable c] (h1 : c → A) (h2 : ¬ c → B) : if decide c = true then A else B := by
 by_cases h : c
 ·rw [if_pos (decide_eq_true h)]; exact h1 h
 ·rw [if_neg (by rw [decide_eq_false h]; exact Bool.false_ne_true)]; exact h2 h
theorem x_un {ob : WU} (h : wa m fun r1 m1 => ob r1 m1 fun r => K r m1) : wUn ob wa m K := h
theorem x_neg (h : Kr (.imm (.int (-i)))) : uNeg (.imm (.int i)) m Kr := h
theorem x_chain {o' : WO} (h : wa m fun r1 m1 => wb m1 fun r2 m2 => o r1 r2 m2 (onBl fun k => if k = true then wc m2 fun r3 m3 => o' r2 r3 m3 fun r => K r m3 else K (.imm (.bool false)) m2)) : wChain o o' wa wb wc m K := h
theorem x_imm (h : we m fun r m' => match r with | .imm d => K (.imm d) m' | .new ds => K (.imm (.list ds)) m' | _ => False) : wImm we m K := h
theorem x_nil (h : Ka [] m) : wNil m Ka := h
theorem x_cons (h : we m fun r m1 => ws m1 fun rs m2 => Ka (r :: rs) m2) : wCons we ws m Ka := h
theorem x_tup (h : ws m fun rs m' => onAll (fun ds => K (.imm (.tuple ds)) m') (immAll rs)) : wTup ws m K := h
theorem x_lst (h : ws m fun rs m' => onAll (fun ds => K (.new ds) m') (immAll rs)) : wLst ws m K := h
theorem x_all {rs : List R} {ds : List PyData} {P : List PyData → Prop} (e : immAll rs = some ds) (hz : ds.length ≤ sizeLine) (h : P ds) : onAll P (immAll rs) := by rw [e]; exact ⟨hz, h⟩
theorem x_cb {oc : WC} (h : ws m fun rs m1 => oc rs m1 fun r => K r m1) : wCB oc ws m K := h
theorem x_call {sp : SpM} (h : ws m fun rs m1 => match toAgs m1 rs with | some (as, ks) => ks.Nodup ∧ sp as fun r outs => K (mapR ks r) { m1 with os := setAll m1.os ks outs } | none => False) : wCall sp ws m K := h
theorem x_ags {rs : List R} {as : List Ag} {ks : List Nat} {P : List Ag → List Nat → Prop} (e : toAgs m rs = some (as, ks)) (hn : ks.Nodup) (h : P as ks) : match toAgs m rs with | some (as, ks) => ks.Nodup ∧ P as ks | none => False := by rw [e]; exact ⟨hn, h⟩
theorem x_set {n : Nat} (h : we m fun r m' => bindR n D.nx m' r) : wSet n we D m := h
theorem x_bindI {n : Nat} {P : MSt → Prop} (h : P (m.setV n (.imm d))) : bindR n P m (.imm d) := .inl h
theorem x_bindN {n : Nat} {P : MSt → Prop} {ds : List PyData} (h : P { vs := m.vs.set n (some (.obj m.os.length)), os := m.os ++ [ds], np := m.np }) : bindR n P m (.new ds) := .inl (.inl h)
theorem x_par {n n' : Nat} (h : ws m fun rs m' => match rs with | [.imm d1, .imm d2] => D.nx ((m'.setV n (.imm d1)).setV n' (.imm d2)) | _ => False) : wPar n n' ws D m := h
theorem x_setI (h : we m fun rv m1 => onImm (fun d => wo m1 fun ro m2 => wi m2 fun ri m3 => onObj (fun k => onInt (fun z => ∃ ds j, m3.os[k]? = some ds ∧ ixN ds.length z = some j ∧ D.nx { m3 with os := m3.os.set k (ds.set j d) }) ri) ro) rv) : wSetI we wo wi D m := h
theorem x_put {k : Nat} {z : Int} {ds : List PyData} {n : Nat} {P : List PyData → Nat → Prop} (e1 : m.os[k]? = some ds) (e2 : ixN ds.length z = some n) (h : P ds n) : ∃ ds j, m.os[k]? = some ds ∧ ixN ds.length z = some j ∧ P ds j := ⟨ds, n, e1, e2, h⟩
theorem x_ml {ob : WM} (h : wo m fun r m1 => (∃ ds, lsOf m1 r = some ds) ∧ ws m1 fun rs m2 => ob r rs m2 K) : wML ob wo ws m K := h
theorem x_ls {ds : List PyData} {P : Prop} (e : lsOf m r = some ds) (h : P) : (∃ ds, lsOf m r = some ds) ∧ P := ⟨⟨ds, e⟩, h⟩
theorem x_append {ds : List PyData} (e : m.os[k]? = some ds) (hz : ds.length < sizeLine) (h : K (.imm .none) { m with os := m.os.set k (ds ++ [d]) }) : oAppend (.obj k) [.imm d] m K := ⟨ds, e, hz, h⟩
theorem x_popAt {ds : List PyData} {n : Nat} (e : m.os[k]? = some ds) (hn : (n : Int) = i) (e2 : ds[n]? = some d) (hs : ds.length ≤ sizeLine) (h : K (.imm d) { m with os := m.os.set k (ds.eraseIdx n) }) : oPopAt (.obj k) [.imm (.int i)] m K := by
 subst hn
 have hl : n < ds.length := (List.getElem?_eq_some_iff.mp e2).1
 have hs' : ds.length ≤ 16777216 := by rw [sizeLine_eq] at hs; exact hs
 refine ⟨ds, n, d, e, ⟨by omega, by omega⟩, ?_, e2, h⟩
 exact (ixN_seq (n := ds.length) (i := (n : Int)) (j := n) (by unfold ixN; rw [if_pos (by omega), if_pos (by omega)]; simp)).1
theorem x_addI (h : Kr (.imm (.int (i + j)))) : oAdd (.imm (.int i)) (.imm (.int j)) m Kr := h
theorem x_addS {x y : Str} (hz : x.length + y.length ≤ sizeLine) (h : Kr (.imm (.str (x ++ y)))) : oAdd (.imm (.str x)) (.imm (.str y)) m Kr := ⟨hz, h⟩
theorem x_addT {a b : List PyData} (hz : a.length + b.length ≤ sizeLine) (h : Kr (.imm (.tuple (a ++ b)))) : oAdd (.imm (.tuple a)) (.imm (.tuple b)) m Kr := ⟨hz, h⟩
theorem x_addON {a b : List PyData} (e : m.os[k]? = some a) (hz : a.length + b.length ≤ sizeLine) (h : Kr (.new (a ++ b))) : oAdd (.obj k) (.new b) m Kr := ⟨a, b, e, rfl, hz, h⟩
theorem x_subI (h : Kr (.imm (.int (i - j)))) : oSub (.imm (.int i)) (.imm (.int j)) m Kr := ⟨trivial, h⟩
theorem x_fdiv (hc : CFd i j) (h : Kr (.imm (.int (i / j)))) : oFdiv (.imm (.int i)) (.imm (.int j)) m Kr := ⟨hc, h⟩
theorem x_mod (hc : 0 < j) (h : Kr (.imm (.int (i % j)))) : oMod (.imm (.int i)) (.imm (.int j)) m Kr := ⟨hc, h⟩
theorem x_pow (hc : CPow i j) (h : Kr (.imm (.int (i ^ j.toNat)))) : oPow (.imm (.int i)) (.imm (.int j)) m Kr := ⟨hc, h⟩
theorem x_lt (h : Kr (.imm (.bool (decide (i < j))))) : oLt (.imm (.int i)) (.imm (.int j)) m Kr := h
theorem x_le (h : Kr (.imm (.bool (decide (i ≤ j))))) : oLe (.imm (.int i)) (.imm (.int j)) m Kr := h
theorem x_gt (h : Kr (.imm (.bool (decide (j < i))))) : oGt (.imm (.int i)) (.imm (.int j)) m Kr := h
theorem x_ge (h : Kr (.imm (.bool (decide (j ≤ i))))) : oGe (.imm (.int i)) (.imm (.int j)) m Kr := h
theorem x_eq {d1 d2 : PyData} (e1 : asD m r1 = some d1) (e2 : asD m r2 = some d2) (s1 : SeqAt.shaped d1 = true) (s2 : SeqAt.shaped d2 = true) (h : Kr (.imm (.bool (PyData.eqv d1 d2)))) : oEq r1 r2 m Kr := by refine Or.inl ?_; unfold eqD; rw [e1, e2]; exact ⟨s1, s2, h⟩
theorem x_ne {d1 d2 : PyData} (e1 : asD m r1 = some d1) (e2 : asD m r2 = some d2) (s1 : SeqAt.shaped d1 = true) (s2 : SeqAt.shaped d2 = true) (h : Kr (.imm (.bool (!PyData.eqv d1 d2)))) : oNe r1 r2 m Kr := by refine Or.inl ?_; unfold eqD; rw [e1, e2]; exact ⟨s1, s2, h⟩
theorem x_eqI (h : Kr (.imm (.bool (decide (i = j))))) : oEq (.imm (.int i)) (.imm (.int j)) m Kr := x_eq rfl rfl rfl rfl (by simp only [PyData.eqv]; rw [Bool.beq_eq_decide_eq]; exact h)
theorem x_neI (h : Kr (.imm (.bool (decide (i ≠ j))))) : oNe (.imm (.int i)) (.imm (.int j)) m Kr := x_ne rfl rfl rfl rfl (by simp only [PyData.eqv]; rw [Bool.beq_eq_decide_eq, ← decide_not]; exact h)
theorem x_eqS {x y : Str} (h : Kr (.imm (.bool (decide (x = y))))) : oEq (.imm (.str x)) (.imm (.str y)) m Kr := Or.inr (Or.inl ⟨x, y, rfl, rfl, h⟩)
theorem x_neS {x y : Str} (h : Kr (.imm (.bool (!decide (x = y))))) : oNe (.imm (.str x)) (.imm (.str y)) m Kr := Or.inr ⟨x, y, rfl, rfl, h⟩
theorem x_itemT {ds : List PyData} (e : atI ds i = some d) (h : Kr (.imm d)) : oItem (.imm (.tuple ds)) (.imm (.int i)) m Kr := ⟨d, e, h⟩
theorem x_itemL {ds : List PyData} (e : atI ds i = some d) (h : Kr (.imm d)) : oItem (.imm (.list ds)) (.imm (.int i)) m Kr := ⟨ds, d, rfl, e, h⟩
theorem x_itemO {ds : List PyData} (e1 : m.os[k]? = some ds) (e : atI ds i = some d) (h : Kr (.imm d)) : oItem (.obj k) (.imm (.int i)) m Kr := ⟨ds, d, e1, e, h⟩
theorem x_itemN {ds : List PyData} (e : atI ds i = some d) (h : Kr (.imm d)) : oItem (.new ds) (.imm (.int i)) m Kr := ⟨ds, d, rfl, e, h⟩
theorem x_len {rs : List R} (h : on1 (lenR m Kr) rs) : oLen rs m Kr := h
theorem x_lenT {ds : List PyData} (h : Kr (.imm (.int ds.length))) : lenR m Kr (.imm (.tuple ds)) := h
theorem x_lenL {ds : List PyData} (h : Kr (.imm (.int ds.length))) : lenR m Kr (.imm (.list ds)) := ⟨ds, rfl, h⟩
theorem x_lenO {ds : List PyData} (e : m.os[k]? = some ds) (h : Kr (.imm (.int ds.length))) : lenR m Kr (.obj k) := ⟨ds, e, h⟩
theorem x_abs (h : Kr (.imm (.int (if i < 0 then -i else i)))) : oAbs [.imm (.int i)] m Kr := h
theorem x_intB {b : Bool} (h : Kr (.imm (.int (if b then 1 else 0)))) : oInt [.imm (.bool b)] m Kr := h
theorem x_list {ds : List PyData} (e : sqOf m r = some ds) (h : Kr (.new ds)) : oList [r] m Kr := ⟨ds, e, h⟩
theorem x_tuple {ds : List PyData} (e : sqOf m r = some ds) (h : Kr (.imm (.tuple ds))) : oTuple [r] m Kr := ⟨ds, e, h⟩
theorem x_repr (e : asD m r = some d) (h1 : d.showable = true) (h2 : d.hasDict = false) (h3 : d.shown.length ≤ sizeLine) (h4 : d.depth ≤ 100) (h : Kr (.imm (.str d.shown))) : oRepr [r] m Kr := ⟨d, e, h1, h2, h3, h4, h⟩
theorem x_sl {ob : R → Option Int → Option Int → MSt → (R → Prop) → Prop} {wl wh : WO1} (h : we m fun r m1 => wl m1 fun l m2 => wh m2 fun u m3 => ob r l u m3 fun r' => K r' m3) : wSl ob we wl wh m K := h
theorem x_noPart {Ko : Option Int → MSt → Prop} (h : Ko none m) : wNoPart m Ko := h
theorem x_part {Ko : Option Int → MSt → Prop} (h : we m fun r m' => onInt (fun i => Ko (some i) m') r) : wPart we m Ko := h
theorem x_gM {n : Nat} {P : MSt → Prop} (h : P (m.setV n (.imm d))) : gM n d m P := h
theorem x_gNil {P : MSt → Prop} (h : P m) : gMNil [] m P := ⟨rfl, h⟩
theorem x_gCons {g : WG} {gs : WGs} {ds : List PyData} {P : MSt → Prop} (h : g d m fun m' => gs ds m' P) : gMCons g gs (d :: ds) m P := h
theorem x_gTup {n : Nat} {gs : WGs} {ds : List PyData} {P : MSt → Prop} (e : ds.length = n) (h : gs ds m P) : gMTup n gs (.tuple ds) m P := ⟨e, h⟩
theorem x_for {wi : WI} {g : WG} (h : wi m fun s m1 => wLoop s g w D m1) : wFor wi g w D m := h
theorem x_iseq {Ks : Src → MSt → Prop} (h : we m fun r m' => srcR m' Ks r) : wiSeq we m Ks := h
theorem x_srcL {Ks : Src → MSt → Prop} {ds : List PyData} (h : Ks ⟨ds, none⟩ m) : srcR m Ks (.imm (.list ds)) := h
theorem x_srcT {Ks : Src → MSt → Prop} {ds : List PyData} (h : Ks ⟨ds, none⟩ m) : srcR m Ks (.imm (.tuple ds)) := h
theorem x_srcO {Ks : Src → MSt → Prop} {ds : List PyData} (e : m.os[k]? = some ds) (h : Ks ⟨ds, some k⟩ m) : srcR m Ks (.obj k) := ⟨ds, e, h⟩
theorem x_rng1 {Ks : Src → MSt → Prop} (h : ws m fun rs m' => match rs with | [.imm (.int j)] => -(2 ^ 62) ≤ j ∧ j < 2 ^ 62 ∧ Ks ⟨rangeD 0 j.toNat, none⟩ m' | _ => False) : wiRng1 ws m Ks := h
theorem x_ifT (h : wt m fun b m' => if b = true then w D m' else D.nx m') : wIfT wt w D m := h
theorem x_noTest (h : Kb true m) : wNoTest m Kb := h
theorem x_emit {q : Nat} (h : we m fun r m' => onImm (fun d => ∃ ds, m'.os[q]? = some ds ∧ ds.length < sizeLine ∧ D.nx { m' with os := m'.os.set q (ds ++ [d]) }) r) : wEmit q we D m := h
end
theorem x_start {w : WS} {D : MEnds} {m : MSt} (m' : MSt) (e : m = m') (h : w D m') : w D m := e ▸ h
theorem mulok {i j : Int} (h : (-18446744073709551616 < i ∧ i < 18446744073709551616) ∨ (-18446744073709551616 < j ∧ j < 18446744073709551616)) : IntMulOk i j := CMul.ok (by unfold CMul; exact h)
theorem cfd {i j : Int} (h0 : 0 < j) (h1 : j < 1152921504606846976) : CFd i j := ⟨h0, by
 have : j.natAbs < 2 ^ 60 := by omega
 have := (Nat.log2_lt (by omega)).mpr this
 omega⟩
theorem canLay_ints : ∀ ns : List Int, PyData.canLayAll0 (ns.map .int) = true
 | [] => rfl
 | n :: ns => by simp only [List.map_cons, PyData.canLayAll0, PyData.canLay0, canLay_ints ns, Bool.and_self]
theorem depth_ints : ∀ ns : List Int, PyData.depthAll (ns.map .int) ≤ 1
 | [] => Nat.zero_le 1
 | n :: ns => by
  have := depth_ints ns
  rw [List.map_cons]
  simp only [PyData.depthAll, PyData.depth]
  omega
theorem shaped_ints (ns : List Int) : SeqAt.shaped (.list (ns.map .int)) = true := by
 have h := depth_ints ns
 have h2 : (PyData.list (ns.map .int)).depth ≤ 64 := by simp only [PyData.depth]; omega
 have h3 : (PyData.list (ns.map .int)).canLay0 = true := by simp only [PyData.canLay0, canLay_ints]
 unfold SeqAt.shaped
 rw [h3, decide_eq_true h2]; rfl
theorem atI_lt {α : Type} {xs : List α} {i : Int} (h0 : 0 ≤ i) (h1 : i < xs.length) : ∃ d, xs[i.toNat]? = some d ∧ atI xs i = some d := by
 have hl : i.toNat < xs.length := by omega
 refine ⟨xs[i.toNat], List.getElem?_eq_getElem hl, ?_⟩
 unfold atI ixN
 rw [if_pos h0, if_pos h1]
 exact List.getElem?_eq_getElem hl
theorem atI_ints {ns : List Int} {i : Int} (h0 : 0 ≤ i) (h1 : i < ns.length) : ∃ x : Int, atI (ns.map PyData.int) i = some (.int x) := by
 obtain ⟨d, e, h⟩ := atI_lt (xs := ns.map PyData.int) h0 (by rw [List.length_map]; exact h1)
 rw [List.getElem?_map] at e
 cases q : ns[i.toNat]? with
 | none => rw [q] at e; cases e
 | some x => rw [q] at e; cases e; exact ⟨x, h⟩
section
variable {X : Cx} {tg a b c e : Expr} {es : List Expr} {wo wa wb wc we wi : WE} {ws : WA} {pos p p2 : Pos}
def intsOf : List PyData → Option (List Int)
 | [] => some []
 | .int i :: ds => (intsOf ds).map (i :: ·)
 | _ :: _ => none
theorem intsOf_map {ds : List PyData} {ns : List Int} (h : intsOf ds = some ns) : ds = ns.map .int := by
 induction ds generalizing ns with
 | nil => cases h; rfl
 | cons d ds ih =>
  cases d with
  | int i =>
   simp only [intsOf] at h
   cases q : intsOf ds with
   | none => rw [q] at h; cases h
   | some ms => rw [q] at h; cases h; rw [ih q]; rfl
  | none => cases h
  | bool _ => cases h
  | str _ => cases h
  | list _ => cases h
  | tuple _ => cases h
  | dict _ => cases h
theorem intsOf_ints : ∀ ns : List Int, intsOf (ns.map .int) = some ns
 | [] => rfl
 | n :: ns => by simp only [List.map_cons, intsOf, intsOf_ints ns, Option.map_some]
theorem denAll_ints {K : Kd} {H : Hp} : ∀ {ns : List Int} {xs : List V}, DenAll K H (ns.map .int) xs → xs = ns.map V.int
 | [], _, h => by simpa only [List.map_nil, DenAll] using h
 | n :: ns, _, h => by
  simp only [List.map_cons, DenAll] at h
  obtain ⟨v, vs, rfl, h1, h2⟩ := h
  have e := int_of_den (K := K) (H := H) h1
  rw [e, denAll_ints h2]; rfl
def oSum : WC := fun rs m K => on1 (fun r => ∃ ds ns, lsOf m r = some ds ∧ intsOf ds = some ns ∧ K (.imm (.int ns.sum))) rs
theorem call_sumM (hc : X.calm = true) : CallR X (.builtin "sum") (cM X.kx oSum) := by
 rintro pins s σ' H xs us Q I rv ⟨α, m, σ, H0, rs, Kc, Rl, h, ho, fin⟩
 obtain ⟨r, v, rfl, rfl, h1, ds, ns, el, ei, ho⟩ := on_one h ho
 obtain ⟨a, ys, rfl, f, g⟩ := h1.list Rl el
 rw [intsOf_map ei] at g
 have ey := denAll_ints g
 subst ey
 obtain ⟨u, rfl, ru⟩ := rv.one
 cases ru
 obtain ⟨its, rv1, pl, _⟩ := I.list f
 have hi := intsAre_of rv1
 have hall : AllInts its.toArray := hi.allInts
 obtain ⟨xs, ex⟩ := hall.items
 have hl : s.heap.IsList a (intItems xs) := by rw [← ex]; exact pl.isList
 refine sum_intListG (I.ok.hd hc) hl fun h' tk t' hk => ?_
 have e1 : preSum (numAt xs) xs.size = ns.sum := by
  have e2 : (numsOf its).sum = ns.sum := by rw [hi.numsOf]
  rw [← e2]
  have e3 := congrArg Array.toList ex
  have e4 : its = (intItems xs).toList := by simpa using e3
  rw [e4, nums_intItems, preSum_eq, List.take_of_length_le (by simp)]
 rw [e1]
 exact ⟨.int ns.sum, H, I.kept (t' := tk) hk, ⟨_, rfl⟩, fin _ _ H ho Rl (rr_int _) (Frm.refl _ _)⟩
def tyN : PyData → String
 | .none => "NoneType"
 | .bool _ => "bool"
 | .int _ => "int"
 | .str _ => "str"
 | .list _ => "list"
 | .tuple _ => "tuple"
 | .dict _ => "dict"
def tyR : R → String
 | .imm d => tyN d
 | _ => "list"
def ndR : R → Bool
 | .imm (.dict _) => false
 | .at _ _ => false
 | .newT _ => false
 | _ => true
def IsT (T : String) (f : String → Bool) : Prop := ∀ (K : PySem.W.Frag) (n : String), n ∈ ["NoneType", "bool", "int", "str", "list", "tuple"] → PySem.W.kitOne K (.type n) (.type T) = some (f n)
theorem isT_of {T : String} {f : String → Bool} (h : ∀ n ∈ ["NoneType", "bool", "int", "str", "list", "tuple"], (if ((Value.type n) == (Value.type T)) = true then some true else if PySem.W.kitMeta T = true then (fastBuiltinMro n).map (·.contains (.type T)) else none) = some (f n)) : IsT T f := fun K n hn => by
 have := h n hn
 unfold PySem.W.kitOne PySem.W.kitCls PySem.W.subIn
 exact this
def fInt (n : String) : Bool := n == "int" || n == "bool"
theorem isT_int : IsT "int" fInt := isT_of (by decide +kernel)
theorem isT_bool : IsT "bool" (fun n => n == "bool") := isT_of (by decide +kernel)
theorem isT_tuple : IsT "tuple" (fun n => n == "tuple") := isT_of (by decide +kernel)
theorem isT_str : IsT "str" (fun n => n == "str") := isT_of (by decide +kernel)
def rIsI (K : Kx) (T : String) (f : String → Bool) : List V → Hp → VK → Prop := fun xs H Q => ∃ α m σ H0 r v, Rel K α m σ H ∧ RelR K α H0 H r v ∧ ndR r = true ∧ xs = [v, .ty T] ∧ Q (.bl (f (tyR r))) H
theorem call_isT {T : String} {f : String → Bool} (hf : IsT T f) : CallR X (.builtin "isinstance") (rIsI X.kx T f) := by
 rintro pins s σ' H xs us Q I rv ⟨α, m, σ, H0, r, v, Rl, h, hnd, ex, q⟩
 subst ex
 obtain ⟨u, c, rfl, ru, rc⟩ := rv.two
 cases (show c = Value.type T from rc)
 have done : ∀ tk, EP X pins σ' Q (.bool (f (tyR r))) { s with toks := tk } := fun tk => ⟨.bl _, H, I.tok tk, rfl, q⟩
 have lst : ∀ {a : Addr} {ys : List V}, v = .ref a → SqL X.kx H a ys → tyR r = "list" → wpAny (model X.prog X.w) X.A (call (.builtin "isinstance") [u, .type T]) (EP X pins σ' Q) X.xe s := fun {a ys} ev f1 et => by
  subst ev
  cases (show u = Value.ref a from ru)
  obtain ⟨its, _, ⟨o, n, e1, e2, _⟩, _⟩ := I.list f1
  exact PySem.W.kia_one PySem.W.kitx_list I.kIn ⟨o, e1, e2⟩ (by rw [et]; exact hf X.K "list" (by decide)) (fun z => nomatch z) done
 cases r with
 | obj k =>
  have hh := h
  obtain ⟨a, ea, rfl⟩ := hh
  have hk : k < m.os.length := by rw [← Rl.len]; exact (List.getElem?_eq_some_iff.mp ea).1
  obtain ⟨ys, e1, _⟩ := Rl.own k _ _ ea (List.getElem?_eq_getElem hk)
  exact lst rfl (SqL.of e1) rfl
 | new ds => obtain ⟨a, ys, rfl, _, e1, _⟩ := h; exact lst rfl (SqL.of e1) rfl
 | «at» _ _ => cases hnd
 | newT _ => cases hnd
 | imm d =>
  cases d with
  | none => have e := non_of_den (show Den X.kx H .none v from h); subst e; cases (show u = Value.none from ru); exact PySem.W.kia_one PySem.W.kitx_none I.kIn True.intro (hf X.K "NoneType" (by decide)) (fun z => nomatch z) done
  | bool x => have e := bl_of_den (show Den X.kx H (.bool x) v from h); subst e; cases (show u = Value.bool x from ru); exact PySem.W.kia_one PySem.W.kitx_bool I.kIn True.intro (hf X.K "bool" (by decide)) (fun z => nomatch z) done
  | int x => have e := int_of_den (show Den X.kx H (.int x) v from h); subst e; obtain ⟨t, q⟩ := (show ∃ t, u = Value.int x t from ru); cases q; exact PySem.W.kia_one PySem.W.kitx_int I.kIn True.intro (hf X.K "int" (by decide)) (fun z => nomatch z) done
  | str x => have e := str_of_den (show Den X.kx H (.str x) v from h); subst e; obtain ⟨t, q⟩ := (show ∃ t, u = Value.str x t from ru); cases q; exact PySem.W.kia_one PySem.W.kitx_str I.kIn True.intro (hf X.K "str" (by decide)) (fun z => nomatch z) done
  | list ds =>
   have h' : Den X.kx H (.list ds) v := h
   simp only [Den] at h'
   obtain ⟨a, ys, e, f1, _⟩ := h'
   exact lst e f1.sq rfl
  | tuple ds =>
   obtain ⟨a, ys, rfl, f1, _⟩ := tup_of_den (show Den X.kx H (.tuple ds) v from h)
   cases (show u = Value.ref a from ru)
   obtain ⟨its, _, ⟨o, e1, e2, _⟩, _⟩ := I.tuple f1
   exact PySem.W.kia_one PySem.W.kitx_tuple I.kIn ⟨o, e1, e2⟩ (hf X.K "tuple" (by decide)) (fun z => nomatch z) done
  | dict es => cases hnd
def wIsT (f : String → Bool) (we : WE) : WE := fun m K => we m fun r m' => ndR r = true ∧ K (.imm (.bool (f (tyR r)))) m'
theorem me_isT {T : String} {x : Str} {f : String → Bool} (he : ME X e we) (hf : IsT T f) (hmi : X.mg "isinstance" = none) (hm : X.mg x = none) (hv : bootBuiltins x = some (.type T)) (hgi : Gl X "isinstance" := by rfl) (hg : Gl X x := by rfl) (hn : x ≠ "__name__" := by decide) (hd : (x == ("__debug__" : Str)) = false := by decide)
  (he1 : starEach [e, .Name x p2] X.env = (false, eval e X.env) :: starEach [.Name x p2] X.env := by rfl) (he2 : starEach [.Name x p2] X.env = (false, eval (.Name x p2) X.env) :: starEach [] X.env := by rfl) (hpl : (backTo pos (starEach [.Name x p2] X.env)).any (·.1) = false := by rfl) :
  ME X (.Call (.Name "isinstance" p) [e, .Name x p2] [] pos) (wIsT f we) := (pe_callB (call_isT hf) hgi hmi bt_isinstance (pa_cons he (pa_cons (pe_bltn hg hm hv (v := .ty T) rfl hn hd) pa_nil he2) he1) (by decide) (by decide) he1 hpl).wk fun σ H Q ⟨α, m, Kc, Rl, hw, fin⟩ =>
 ⟨α, m, _, Rl, hw, fun r m' v H' k n Rl' rr F => ⟨α, m', σ, H, r, v, Rl', rr, k.1, rfl, fin _ m' _ H' k.2 n Rl' (rr_bl _) F⟩⟩
theorem x_isT {m : MSt} {K : R → MSt → Prop} {f : String → Bool} (h : we m fun r m' => ndR r = true ∧ K (.imm (.bool (f (tyR r)))) m') : wIsT f we m K := h
theorem x_nd {r : R} {P : Prop} (e : ndR r = true) (h : P) : ndR r = true ∧ P := ⟨e, h⟩
end
section
variable {X : Cx} {tg a : Expr} {ws : WA} {p p2 pos pos2 : Pos}
def tListR (ta : TA) : TE := fun σ H Q => ta σ H fun vs H1 => ∃ j : Int, vs = [.int j] ∧ -(2 ^ 62) ≤ j ∧ j ≤ 16777216 ∧ ∀ l, H1 l = none → Q (.ref l) (upd H1 l (.lst ((List.range j.toNat).map fun (i : Nat) => V.int (i : Int))))
theorem pe_listR {ta : TA} (hc : X.calm = true) (hgr : Gl X "list") (hmr : X.mg "list" = none) (hg : Gl X "range") (hm : X.mg "range" = none) (ha : PA X [a] ta) (hs : starEach [a] X.env = [(false, eval a X.env)] := by first | exact star_one rfl | rfl)
  (hs2 : starEach [.Call (.Name "range" p2) [a] [] pos2] X.env = [(false, eval (.Call (.Name "range" p2) [a] [] pos2) X.env)] := by rfl) : PE X (.Call (.Name "list" p) [.Call (.Name "range" p2) [a] [] pos2] [] pos) (tListR ta) := by
 intro pins s σ H Q I h
 refine Call_ (ld_blt I hgr hmr bt_list (PyProof.Rows.callWith_type1 ?_ hs2 rfl))
 rw [hs2]
 refine Calls.spliced_cons ?_
 refine Call_ (ld_blt I hg hm boot_range (PyProof.Rows.callWith_type1 (thn (ha pos2 pins s σ H _ I h) fun us s1 ⟨vs, H1, I1, r1, q1⟩ => ?_) hs rfl))
 obtain ⟨j, e, q1, q2, q⟩ := q1
 subst e
 cases r1 with
 | cons r rr =>
  cases rr
  obtain ⟨t, rfl⟩ := r
  refine call_range_1 ?_
  refine Calls.spliced_nil ?_
  have I2 : Inv X pins σ H1 { s1 with heap := s1.heap.push { cls := .type "range", data := .fields #[.int 0 s1.toks, .int j t, .int 1 (s1.toks + 1)] }, toks := s1.toks + 1 + 1 } := I1.kept fun b o e => Heap.get?_push_of_some _ e
  have hr : IsRange (s1.heap.push { cls := .type "range", data := .fields #[.int 0 s1.toks, .int j t, .int 1 (s1.toks + 1)] }) s1.heap.objs.size 0 j 1 s1.toks t (s1.toks + 1) := IsRange.new ..
  generalize hS : ({ s1 with heap := s1.heap.push { cls := .type "range", data := .fields #[.int 0 s1.toks, .int j t, .int 1 (s1.toks + 1)] }, toks := s1.toks + 1 + 1 } : Shared) = s2 at I2 ⊢
  have hr2 : IsRange s2.heap s1.heap.objs.size 0 j 1 s1.toks t (s1.toks + 1) := by rw [← hS]; exact hr
  refine call_list_range (n := j.toNat) (I.ok.hd hc) hr2 (small_one (by decide) (by decide) (by omega) (by omega)) (by rw [rangeSize_one]; split <;> omega) (by omega) fun h' tk acc' c' hk hS' hacc => ?_
  have hp : H1 s2.heap.objs.size = none := I2.fresh
  have hv : Vals ((List.range j.toNat).map fun (i : Nat) => V.int (i : Int)) acc'.toList := by
   have hl : acc'.toList.length = j.toNat := by simpa using hacc.1
   have : ∀ (n : Nat) (l : List Value), l.length = n → ∀ k : Nat, (∀ i v, l[i]? = some v → ∃ t, v = Value.int (0 + ((k + i : Nat) : Int) * 1) t) → Vals ((List.range' k n).map fun (i : Nat) => V.int (i : Int)) l := by
    intro n
    induction n with
    | zero => intro l h0 k _; cases l with | nil => exact .nil | cons _ _ => simp at h0
    | succ n ih =>
     intro l h0 k hh
     cases l with
     | nil => simp at h0
     | cons v l =>
      rw [List.range'_succ, List.map_cons]
      refine .cons ?_ (ih l (by simpa using h0) (k + 1) fun i v hi => ?_)
      ·obtain ⟨t, e⟩ := hh 0 v rfl
       exact ⟨t, by rw [e]; congr 1; omega⟩
      ·obtain ⟨t, e⟩ := hh (i + 1) v (by simpa using hi)
       exact ⟨t, by rw [e]; congr 1; omega⟩
   have := this j.toNat acc'.toList hl 0 fun i v hi => by
    obtain ⟨t, e⟩ := hacc.2 i v (by simpa using hi)
    exact ⟨t, by rw [e]; congr 1; omega⟩
   rw [List.range_eq_range']
   exact this
  refine ⟨.ref s2.heap.objs.size, _, I2.laid (t' := tk) (o := .lst _) hk (Nat.le_refl _) ⟨?_, acc'.toList, c', hv, by simpa using hS'⟩, rfl, q _ hp⟩
  rw [List.length_map, List.length_range, sizeLine_eq]
  omega
def wListR (ws : WA) : WE := fun m K => ws m fun rs m' => on1 (onInt fun j => (-(2 ^ 62) ≤ j ∧ j ≤ 16777216) ∧ K (.new (rangeD 0 j.toNat)) m') rs
theorem me_listR (hmr : X.mg "list" = none) (hm : X.mg "range" = none) (ha : MA X [a] ws) (hc : X.calm = true := by rfl) (hgr : Gl X "list" := by rfl) (hg : Gl X "range" := by rfl) (hs : starEach [a] X.env = [(false, eval a X.env)] := by first | exact star_one rfl | rfl)
  (hs2 : starEach [.Call (.Name "range" p2) [a] [] pos2] X.env = [(false, eval (.Call (.Name "range" p2) [a] [] pos2) X.env)] := by rfl) : ME X (.Call (.Name "list" p) [.Call (.Name "range" p2) [a] [] pos2] [] pos) (wListR ws) := (pe_listR hc hgr hmr hg hm ha hs hs2).wk fun σ H Q ⟨α, m, Kc, Rl, hw, fin⟩ => by
 refine ⟨α, m, _, Rl, hw, fun rs m' vs H' k n Rl' rr F => ?_⟩
 obtain ⟨r, v, rfl, rfl, h1, k⟩ := on_one rr k
 obtain ⟨j, rfl, rfl, ⟨k1, k2⟩, k⟩ := on_int h1 k
 refine ⟨j, rfl, k1, k2, fun l hl => fin _ m' _ _ k n (Rl'.lay hl) (RelR.base Rl' F (show RelR X.kx α H' _ (.new (rangeD 0 j.toNat)) (.ref l) from ⟨l, _, rfl, hl, upd_same, ?_⟩)) (F.trans (frm_upd hl))⟩
 have e : rangeD 0 j.toNat = ((List.range j.toNat).map fun (i : Nat) => (i : Int)).map PyData.int := by simp [rangeD]
 have e2 : ((List.range j.toNat).map fun (i : Nat) => V.int (i : Int)) = ((List.range j.toNat).map fun (i : Nat) => (i : Int)).map V.int := by simp
 rw [e, e2]
 exact DenAll.ints _
theorem x_listR {m : MSt} {K : R → MSt → Prop} (h : ws m fun rs m' => on1 (onInt fun j => (-(2 ^ 62) ≤ j ∧ j ≤ 16777216) ∧ K (.new (rangeD 0 j.toNat)) m') rs) : wListR ws m K := h
end
theorem x_loop0 {ds : List PyData} {g : WG} {w : WS} {D : MEnds} {m1 : MSt} (P : Nat → MSt → Prop) (p0 : P 0 m1)
  (step : ∀ (i : Nat) (d : PyData) (m : MSt), ds[i]? = some d → m.np = m1.np → P i m → g d m fun m2 => w { nx := P (i + 1), ct := P (i + 1), bk := fun m' => D.nx (m'.setN m1.np), rt := fun r m' => D.rt r (m'.setN m1.np) } m2)
  (fin : ∀ m, m.np = m1.np → P ds.length m → D.nx m) : wLoop ⟨ds, none⟩ g w D m1 := by
 refine ⟨P, p0, fun i d m e n p => ⟨trivial, step i d m e n p⟩, fun m n p => ⟨trivial, ?_⟩⟩
 have e : m.setN m1.np = m := by
  obtain ⟨a, b, c⟩ := m
  have n' : c = m1.np := n
  subst n'
  rfl
 rw [e]
 exact fin m n p
theorem x_loopO {k : Nat} {ds : List PyData} {g : WG} {w : WS} {D : MEnds} {m1 : MSt} (P : Nat → MSt → Prop) (p0 : P 0 (m1.setN (max m1.np (k + 1))))
  (ok : ∀ i m, P i m → m.os[k]? = some ds)
  (step : ∀ (i : Nat) (d : PyData) (m : MSt), ds[i]? = some d → m.np = max m1.np (k + 1) → P i m → g d m fun m2 => w { nx := P (i + 1), ct := P (i + 1), bk := fun m' => D.nx (m'.setN m1.np), rt := fun r m' => D.rt r (m'.setN m1.np) } m2)
  (fin : ∀ m, m.np = max m1.np (k + 1) → P ds.length m → D.nx (m.setN m1.np)) : wLoop ⟨ds, some k⟩ g w D m1 :=
 ⟨P, p0, fun i d m e n p => ⟨ok i m p, step i d m e n p⟩, fun m n p => ⟨ok _ m p, fin m n p⟩⟩
theorem x_while {t : WT} {w : WS} {D : MEnds} {m0 : MSt} (P : Nat → MSt → Prop) (n0 : Nat) (p0 : P n0 m0)
  (step : ∀ n m, m.np = m0.np → P n m → t m fun c m' => if c = true then w { D with nx := fun m2 => ∃ n', n' < n ∧ P n' m2, ct := fun m2 => ∃ n', n' < n ∧ P n' m2, bk := D.nx } m' else D.nx m') : wWhile t w D m0 := ⟨P, ⟨n0, p0⟩, step⟩
theorem cutD_all {ds : List PyData} {n : Nat} (h : ds.length ≤ n) : cutD ds none (some (n : Int)) = ds := by
 unfold cutD
 rw [HT.sIx_none, HT.sIx_nat, Nat.min_eq_right h, Nat.sub_zero, List.drop_zero, List.take_length]
theorem x_comp1 {m : MSt} {K : R → MSt → Prop} {wi : WI} {own : List Str} {ps : List Nat} {g : WG} {tt : WT} {we : WE} (h : wi m fun s m1 => wLoop s g (wIfT tt (wEmit m1.os.length we)) { nx := fun m' => K (.new (m'.os.getD m1.os.length [])) { m1 with os := m'.os.take m1.os.length }, rt := fun _ _ => False } (compM own ps m1)) : wComp1 wi own ps g tt we m K := h
theorem x_comp2 {m : MSt} {K : R → MSt → Prop} {wi wi2 : WI} {own : List Str} {ps : List Nat} {g g2 : WG} {tt tt2 : WT} {we : WE} (h : wi m fun s m1 => wLoop s g (wIfT tt fun D m2 => wi2 m2 fun s2 m3 => wLoop s2 g2 (wIfT tt2 (wEmit m1.os.length we)) D m3) { nx := fun m' => K (.new (m'.os.getD m1.os.length [])) { m1 with os := m'.os.take m1.os.length }, rt := fun _ _ => False } (compM own ps m1)) : wComp2 wi own ps g tt wi2 g2 tt2 we m K := h
theorem x_bindSame {n k : Nat} {P : MSt → Prop} {m : MSt} {ds : List PyData} (h1 : m.vs[n]? = some (some (.obj k))) (h2 : m.np ≤ k) (h3 : ∀ j : Nat, j ≠ n → m.vs[j]? ≠ some (some (.obj k))) (h : P { m with os := m.os.set k ds }) : bindR n P m (.new ds) := .inr ⟨k, h1, h2, h3, h⟩
theorem getD_of {α : Type} {xs : List α} {k : Nat} {d x : α} (h : xs[k]? = some x) : xs.getD k d = x := by
 rw [List.getD_eq_getElem?_getD, h]; rfl
theorem x_J {w : WE} {m : MSt} {K : R → MSt → Prop} (Φ : R → MSt → Prop) (h : ∀ K' : R → MSt → Prop, (∀ r m', Φ r m' → K' r m') → w m K') (J : ∀ r m', Φ r m' → K r m') : w m K := h K J
theorem x_JS {w : WS} {m : MSt} {D : MEnds} (Φ : MSt → Prop) (h : ∀ N : MSt → Prop, (∀ m', Φ m' → N m') → w { D with nx := N } m) (J : ∀ m', Φ m' → D.nx m') : w D m := h D.nx J
structure Fine (n k : Nat) (d : PyData) : Prop where
 sh : d.showable = true
 nd : d.hasDict = false
 ln : d.shown.length ≤ n
 dp : d.depth ≤ k
theorem Fine.mono {n k n' k' : Nat} {d : PyData} (h : Fine n k d) (hn : n ≤ n') (hk : k ≤ k') : Fine n' k' d := ⟨h.sh, h.nd, Nat.le_trans h.ln hn, Nat.le_trans h.dp hk⟩
theorem fine_none : Fine 4 0 .none := ⟨rfl, rfl, by decide, by decide⟩
theorem fine_bool (b : Bool) : Fine 5 0 (.bool b) := ⟨rfl, rfl, by cases b <;> decide, Nat.le_refl _⟩
theorem log2_small {n k : Nat} (h : n < 2 ^ k) (hk : 0 < k) : n.log2 < k := by
 by_cases h0 : n = 0
 ·subst h0; rw [Nat.log2_zero]; exact hk
 ·rw [Nat.log2_lt h0]
  exact h
theorem fine_int {i : Int} (h : i.natAbs < 10 ^ 12) : Fine 13 0 (.int i) := by
 refine ⟨?_, rfl, PyData.shown_int_le h, Nat.le_refl _⟩
 have : i.natAbs.log2 < 40 := log2_small (Nat.lt_of_lt_of_le h (by decide)) (by decide)
 show decide (i.natAbs.log2 < 1920) = true
 apply decide_eq_true
 omega
theorem fine_all {n k : Nat} : ∀ {ds : List PyData}, (∀ d ∈ ds, Fine n k d) → PyData.showableAll ds = true ∧ PyData.hasDictAll ds = false ∧ ((PyData.shownAll ds).map (·.length)).sum ≤ ds.length * n ∧ (PyData.shownAll ds).length = ds.length ∧ PyData.depthAll ds ≤ k
 | [], _ => ⟨rfl, rfl, by simp [PyData.shownAll], rfl, by simp [PyData.depthAll]⟩
 | d :: ds, h => by
  obtain ⟨h1, h2, h3, h4, h5⟩ := fine_all fun d' h' => h d' (List.mem_cons_of_mem _ h')
  have h0 := h d List.mem_cons_self
  refine ⟨?_, ?_, ?_, ?_, ?_⟩
  ·show (d.showable && PyData.showableAll ds) = true; rw [h0.sh, h1]; rfl
  ·show (d.hasDict || PyData.hasDictAll ds) = false; rw [h0.nd, h2]; rfl
  ·show (d.shown.length :: (PyData.shownAll ds).map (·.length)).sum ≤ _
   rw [List.sum_cons, List.length_cons, Nat.succ_mul]
   have := h0.ln
   omega
  ·show (PyData.shownAll ds).length + 1 = _; rw [h4]; rfl
  ·show max d.depth (PyData.depthAll ds) ≤ k
   have := h0.dp
   omega
theorem fine_tuple {n k c : Nat} {ds : List PyData} (h : ∀ d ∈ ds, Fine n k d) (hc : ds.length ≤ c) : Fine (c * (n + 2) + 3) (k + 1) (.tuple ds) := by
 obtain ⟨h1, h2, h3, h4, h5⟩ := fine_all h
 refine ⟨h1, h2, ?_, ?_⟩
 ·show (tupleText (PyData.shownAll ds)).length ≤ _
  have := tupleText_len_le (PyData.shownAll ds)
  have e : ds.length * (n + 2) ≤ c * (n + 2) := Nat.mul_le_mul_right _ hc
  rw [Nat.mul_add] at e
  rw [h4] at this
  omega
 ·show PyData.depthAll ds + 1 ≤ _; omega
theorem fine_list {n k c : Nat} {ds : List PyData} (h : ∀ d ∈ ds, Fine n k d) (hc : ds.length ≤ c) : Fine (c * (n + 2) + 3) (k + 1) (.list ds) := by
 obtain ⟨h1, h2, h3, h4, h5⟩ := fine_all h
 refine ⟨h1, h2, ?_, ?_⟩
 ·show (listText (PyData.shownAll ds)).length ≤ _
  have := listText_len_le (PyData.shownAll ds)
  have e : ds.length * (n + 2) ≤ c * (n + 2) := Nat.mul_le_mul_right _ hc
  rw [Nat.mul_add] at e
  rw [h4] at this
  omega
 ·show PyData.depthAll ds + 1 ≤ _; omega
structure Shp (k : Nat) (d : PyData) : Prop where
 cl : d.canLay0 = true
 dp : d.depth ≤ k
theorem Shp.mono {k k' : Nat} {d : PyData} (h : Shp k d) (hk : k ≤ k') : Shp k' d := ⟨h.cl, Nat.le_trans h.dp hk⟩
theorem Shp.ok {k : Nat} {d : PyData} (h : Shp k d) (hk : k ≤ 64) : SeqAt.shaped d = true := by
 unfold SeqAt.shaped
 rw [h.cl, decide_eq_true (Nat.le_trans h.dp hk)]; rfl
theorem shp_int (i : Int) : Shp 0 (.int i) := ⟨rfl, Nat.le_refl _⟩
theorem shp_all {k : Nat} : ∀ {ds : List PyData}, (∀ d ∈ ds, Shp k d) → PyData.canLayAll0 ds = true ∧ PyData.depthAll ds ≤ k
 | [], _ => ⟨rfl, by simp [PyData.depthAll]⟩
 | d :: ds, h => by
  obtain ⟨h1, h2⟩ := shp_all fun d' h' => h d' (List.mem_cons_of_mem _ h')
  have h0 := h d List.mem_cons_self
  refine ⟨?_, ?_⟩
  ·simp only [PyData.canLayAll0]; rw [h0.cl, h1]; rfl
  ·show max d.depth (PyData.depthAll ds) ≤ k
   have := h0.dp
   omega
theorem shp_list {k : Nat} {ds : List PyData} (h : ∀ d ∈ ds, Shp k d) : Shp (k + 1) (.list ds) := by
 obtain ⟨h1, h2⟩ := shp_all h
 exact ⟨by simp only [PyData.canLay0]; exact h1, by show PyData.depthAll ds + 1 ≤ _; omega⟩
theorem x_reprF {m : MSt} {r : R} {d : PyData} {Kr : R → Prop} {n k : Nat} (h : Fine n k d) (e : asD m r = some d) (hn : n ≤ 16777216) (hk : k ≤ 100) (hK : Kr (.imm (.str d.shown))) : oRepr [r] m Kr := x_repr e h.sh h.nd (by rw [sizeLine_eq]; exact Nat.le_trans h.ln hn) (Nat.le_trans h.dp hk) hK
theorem script_den {K : Kd} {H : Hp} {a : Addr} {ns : List Int} (hO : Only H) (h : SqL K H a (ns.map V.int)) : Den K H (.list (ns.map .int)) (.ref a) := by
 simp only [Den]
 refine ⟨a, _, rfl, ?_, DenAll.ints _⟩
 rcases h with (h | ⟨o, h⟩) | h
 ·rcases hO a with z | ⟨o, xs, z⟩
  ·rw [h] at z; cases z
  ·rw [h] at z; cases z
 ·exact .inl ⟨o, h⟩
 ·exact .inr h
theorem mk_fnE {P : Program} {w : World} {K : PySem.W.Frag} {mg : Str → Option Value} {base : Heap} {x : Str} {st : Stmt} {N ps : List Str} {n nN k : Nat} {sp : SpM} {f : Addr} {fd : FuncData} (F : Fun K x x st f fd) (S : FnScope N ps (defScope st)) (hn : ps.length = n) (hN : N.length = nN) (hle : n ≤ nN)
  (hbody : ∀ (cdv : Value) (A : Around) (outer : List Env) (s : Shared) (H : Hp) (E : XK) (f : Addr), Room k (A.deeper (envOfC x (defScope st) s.heap.objs.size f cdv)) →
   ∃ ww, MSs (cxOf CX0 P w K mg base N x (defScope st) f cdv A outer s H E).nox (defBody st) ww ∧ ∀ as Kc, as.length = n → sp as Kc → ww { nx := fun m => Kc (.imm .none) (m.os.take m.np), rt := fun r m => retK Kc m r } (mstart nN as)) :
  FnOk P w K mg base CX0 (k + 1) f fd ps (spOf ⟨K, w⟩ n sp) := by
 refine F.ok S (fun vs H Q E h => by rw [hn]; exact h.len) (fun cdv A outer s H vs Q E hr h => ?_)
 obtain ⟨ww, h1, h2⟩ := hbody cdv A outer s H E f hr
 exact ⟨_, h1, fn_m (K := (cxOf CX0 P w K mg base N x (defScope st) f cdv A outer s H E).nox.kx) rfl h hN hle h2⟩
structure DefK (K : PySem.W.Frag) (x : Str) (st : Stmt) : Prop where
 ex : ∃ (f : Addr) (fd : FuncData), PySem.W.nsIn K mainGlobals x = some (some (.ref f)) ∧ Fun K x x st f fd
theorem DefK.of {K : PySem.W.Frag} {x : Str} {st : Stmt} {f : Addr} {oc kV doc pm cdv ct : Value} {od an : Option Addr} {sl : Array (Option Value)} (a : PySem.W.nsIn K mainGlobals x = some (some (.ref f)))
  (l : K.lookup f = some ⟨oc, od, .func (PySem.W.fnOf x x (defArgs st) (defBody st) (defScope st) .none kV doc pm an cdv ct), sl⟩) (c : PySem.W.codeIn K cdv x = true) (k : PySem.W.keepIn K (.ref f) = true) : DefK K x st := ⟨f, _, a, fun_mk l c k⟩
theorem DefK.m {K : PySem.W.Frag} {mg : Str → Option Value} {h : Heap} {x : Str} {st : Stmt} {ps : List Str} (D : DefK K x st) (X : K.In h) (G : h.Ns mainGlobals mg) (b : ∀ (f : Addr) (fd : FuncData), Fun K x x st f fd → Binds K fd ps []) : DefM K mg x st ps := by
 obtain ⟨f, fd, a, F⟩ := D.ex
 exact ⟨f, fd, F, PySem.W.mg_of X G a, b f fd F⟩
structure EE (X : Cx) (e : Expr) (w : WE) : Prop where
 h : ME X e w
structure ET (X : Cx) (e : Expr) (w : WT) : Prop where
 h : MT X e w
structure EW (X : Cx) (e : Expr) (w : WT) : Prop where
 h : MW X e w
structure EA (X : Cx) (es : List Expr) (w : WA) : Prop where
 h : MA X es w
structure ES (X : Cx) (st : Stmt) (w : WS) : Prop where
 h : MS X st w
structure ESs (X : Cx) (st : List Stmt) (w : WS) : Prop where
 h : MSs X st w
structure EI (X : Cx) (tg e : Expr) (w : WI) : Prop where
 h : MI X tg e w
structure EG (X : Cx) (t : Expr) (w : WG) : Prop where
 h : MG X t w
structure EGs (X : Cx) (ts : List Expr) (w : WGs) : Prop where
 h : MGs X ts w
structure EO (X : Cx) (e : Option Expr) (w : WO1) : Prop where
 h : MO X e w
structure ETs (X : Cx) (ifs : List Expr) (w : WT) : Prop where
 h : PTs X ifs (tMT X.kx w)
theorem EW.pt {X : Cx} {e : Expr} {w : WT} (h : EW X e w) : ET X e w := ⟨h.h.pt⟩
section
variable {X : Cx} {a b c : Expr} {es : List Expr} {wa wb wc : WE} {pos : Pos}
theorem mh' {i j pos} : EE X (.Constant (.int i) j pos) (wC (.int i)) := ⟨me_int⟩
theorem me_bl' {i j pos} : EE X (.Constant (.bool i) j pos) (wC (.bool i)) := ⟨me_bl⟩
theorem me_str' {i j pos} : EE X (.Constant (.str i) j pos) (wC (.str i)) := ⟨me_str⟩
theorem me_non' {j pos} : EE X (.Constant .none j pos) (wC .none) := ⟨me_non⟩
theorem mv' (i : Nat) {x : Str} {pos : Pos} (hN : X.N[i]? = some x := by rfl) (hv : Vis X.env.scope x := by first | exact Or.inl rfl | exact Or.inr (Or.inl rfl) | exact Or.inr (Or.inr rfl)) (hd : (x == ("__debug__" : Str)) = false := by decide) (hcd : (x == ("__classdict__" : Str)) = false := by decide) : EE X (.Name x pos) (wVar i) := ⟨mv i hN hv hd hcd⟩
theorem me_bin' {op : Operator} {o : WO} (ho : OpR X (binaryOp op) (rM X.kx o)) (ha : EE X a wa) (hb : EE X b wb) : EE X (.BinOp a op b pos) (wBin o wa wb) := ⟨me_bin ho ha.h hb.h⟩
theorem me_cmp' {op : CmpOp} {o : WO} (ho : OpR X (compareOp op) (rM X.kx o)) (ha : EE X a wa) (hb : EE X b wb) (hm : behindInMarks op b = false) : EE X (.Compare a [op] [b] pos) (wBin o wa wb) := ⟨me_cmp ho ha.h hb.h hm⟩
theorem mt_cmp' {op : CmpOp} {o : WO} (ho : OpR X (compareOp op) (rM X.kx o)) (ha : EE X a wa) (hb : EE X b wb) (hm : behindInMarks op b = false) : ET X (.Compare a [op] [b] pos) (wTest (wBin o wa wb)) := ⟨mt_cmp ho ha.h hb.h hm⟩
theorem mt_val' (ha : EE X a wa) (he : ∀ whole, isTrue a X.env whole = (do let v ← whole; standAt a.pos; holding [v] (truthy v)) := by intro _; rfl) : ET X a (wTest wa) := ⟨mt_val ha.h he⟩
end
section
variable {X : Cx} {a b c : Expr} {es : List Expr} {wa wb wc : WE} {pos : Pos}
theorem me_chain' {op op' : CmpOp} {o o' : WO} (ho : OpR X (compareOp op) (rM X.kx o)) (ho' : OpR X (compareOp op') (rM X.kx o')) (ha : EE X a wa) (hb : EE X b wb) (hc : EE X c wc) (hm : lastMarks [op, op'] [b, c] = false := by with_unfolding_all rfl) : EE X (.Compare a [op, op'] [b, c] pos) (wChain o o' wa wb wc) := ⟨me_chain ho ho' ha.h hb.h hc.h hm⟩
theorem mt_chain' {op op' : CmpOp} {o o' : WO} (ho : OpR X (compareOp op) (rM X.kx o)) (ho' : OpR X (compareOp op') (rM X.kx o')) (ha : EE X a wa) (hb : EE X b wb) (hc : EE X c wc) (hm : lastMarks [op, op'] [b, c] = false := by with_unfolding_all rfl) : ET X (.Compare a [op, op'] [b, c] pos) (wTest (wChain o o' wa wb wc)) := ⟨mt_chain ho ho' ha.h hb.h hc.h hm⟩
end
section
variable {X : Cx} {a b c : Expr} {es : List Expr} {wa wb wc : WE} {pos : Pos}
variable {wt wu : WT} {rest : List Expr}
theorem mw_and1' (ha : ET X a wt) : EW X (.BoolOp .And [a] pos) wt := ⟨mw_and1 ha.h⟩
theorem mw_or1' (ha : ET X a wt) : EW X (.BoolOp .Or [a] pos) wt := ⟨mw_or1 ha.h⟩
theorem mw_and' (ha : ET X a wt) (hb : EW X (.BoolOp .And (b :: rest) pos) wu) : EW X (.BoolOp .And (a :: b :: rest) pos) (wAnd wt wu) := ⟨mw_and ha.h hb.h⟩
theorem mw_or' (ha : ET X a wt) (hb : EW X (.BoolOp .Or (b :: rest) pos) wu) : EW X (.BoolOp .Or (a :: b :: rest) pos) (wOr wt wu) := ⟨mw_or ha.h hb.h⟩
theorem mt_not' (ha : ET X a wt) : ET X (.UnaryOp .Not a pos) (wNot wt) := ⟨mt_not ha.h⟩
theorem me_one' {op} (h : EE X a wa) : EE X (.BoolOp op [a] pos) wa := ⟨me_one h.h⟩
theorem me_and' (ha : EE X a wa) (hb : EE X (.BoolOp .And (b :: rest) pos) wb) : EE X (.BoolOp .And (a :: b :: rest) pos) (wAndV wa wb) := ⟨me_and ha.h hb.h⟩
theorem me_not' (ha : EE X a wa) : EE X (.UnaryOp .Not a pos) (wNotV wa) := ⟨me_not ha.h⟩
theorem me_if' {t : Expr} (ht : ET X t wt) (ha : EE X a wa) (hb : EE X b wb) : EE X (.IfExp t a b pos) (wIfE wt wa wb) := ⟨me_if ht.h ha.h hb.h⟩
theorem me_un' {op : UnaryOp} {o : WU} (ho : UnR X (unaryOp op) (uM X.kx o)) (ha : EE X a wa) : EE X (.UnaryOp op a pos) (wUn o wa) := ⟨me_un ho ha.h⟩
theorem me_imm' (ha : EE X a wa) : EE X a (wImm wa) := ⟨me_imm ha.h⟩
end
section
variable {X : Cx} {a b c : Expr} {es : List Expr} {wa wb wc : WE} {pos : Pos}
variable {wt wu : WT} {rest : List Expr}
variable {ws : WA}
theorem mn'  : EA X [] wNil := ⟨ma_nil⟩
theorem mc' (ha : EE X a wa) (hr : EA X es ws) (hs : starEach (a :: es) X.env = (false, eval a X.env) :: starEach es X.env := by first | exact star_cons rfl | rfl) : EA X (a :: es) (wCons wa ws) := ⟨ma_cons ha.h hr.h hs⟩
theorem me_tup' {x1} (h : EA X es ws) : EE X (.Tuple es x1 pos) (wTup ws) := ⟨me_tup h.h⟩
theorem me_lst' (h : EA X es ws) : EE X (.List es pos) (wLst ws) := ⟨me_lst h.h⟩
theorem me_callB' {id : String} {x : Str} {p : Pos} {o : WC} (hc : CallR X (.builtin id) (cM X.kx o)) (hg : Gl X x) (hm : X.mg x = none) (hv : bootBuiltins x = some (.builtin id)) (ha : EA X (a :: es) ws) (hn : x ≠ "__name__" := by decide) (hdb : (x == ("__debug__" : Str)) = false := by decide) (he : starEach (a :: es) X.env = (false, eval a X.env) :: starEach es X.env := by first | exact star_cons rfl | rfl) (hpl : (backTo pos (starEach es X.env)).any (·.1) = false := by rfl) : EE X (.Call (.Name x p) (a :: es) [] pos) (wCB o ws) := ⟨me_callB hc hg hm hv ha.h hn hdb he hpl⟩
theorem me_callTy' {T : String} {x : Str} {p : Pos} {o : WC} (hc : CallR X (.type T) (cM X.kx o)) (hg : Gl X x) (hm : X.mg x = none) (hv : bootBuiltins x = some (.type T)) (ha : EA X (a :: es) ws) (hn : x ≠ "__name__" := by decide) (hdb : (x == ("__debug__" : Str)) = false := by decide) (he : starEach (a :: es) X.env = (false, eval a X.env) :: starEach es X.env := by first | exact star_cons rfl | rfl) (hpl : (backTo pos (starEach es X.env)).any (·.1) = false := by rfl) : EE X (.Call (.Name x p) (a :: es) [] pos) (wCB o ws) := ⟨me_callTy hc hg hm hv ha.h hn hdb he hpl⟩
end
section
variable {X : Cx} {a b c e : Expr} {es : List Expr} {wa wb wc we : WE} {pos : Pos} {st : Stmt} {rest : List Stmt} {w u : WS}
theorem mss_nil'  : ESs X [] wNext := ⟨mss_nil⟩
theorem mz' (h1 : ES X st w) (h2 : ESs X rest u) : ESs X (st :: rest) (wSeq w u) := ⟨mss_cons h1.h h2.h⟩
theorem mss_one' (h1 : ES X st w) : ESs X [st] w := ⟨mss_one h1.h⟩
end
section
variable {X : Cx} {a b c e : Expr} {es : List Expr} {wa wb wc we : WE} {ws : WA} {wt : WT} {pos : Pos} {st : Stmt} {rest body body2 : List Stmt} {w u : WS}
theorem ms_ret' (he : EE X e we) : ES X (.Return (some e) pos) (wRet we) := ⟨ms_ret he.h⟩
theorem ms_expr' (he : EE X e we) (hs : swapsWith e none pos.line X.env = pure false := by rfl) : ES X (.Expr e pos) (wDrop we) := ⟨ms_expr he.h hs⟩
theorem ms_if' {t : Expr} (ht : ET X t wt) (h1 : ESs X body w) (h2 : ESs X body2 u) : ES X (.If t body body2 pos) (wIfS wt w u) := ⟨ms_if ht.h h1.h h2.h⟩
theorem ms_never'  : ES X st wNever := ⟨ms_never⟩
theorem ms_set' {i : Nat} {x : Str} {pos' : Pos} (hN : X.N.Nodup) (hi : X.N[i]? = some x) (hx : Loc X.env.scope x) (he : EE X e we) (hs : swapsWith e (some (.Name x pos')) pos.line X.env = pure false := by rfl) (hf : X.fn x = true ∨ X.env.scope.names.lookup x = some .local := by first | exact .inl rfl | exact .inr rfl | assumption) : ES X (.Assign [.Name x pos'] e pos) (wSet i we) := ⟨ms_set hN hi hx he.h hs hf⟩
theorem mg_name' {i : Nat} {x : Str} (hN : X.N.Nodup) (hi : X.N[i]? = some x) (hx : Loc X.env.scope x) (hf : X.fn x = true ∨ X.env.scope.names.lookup x = some .local := by first | exact .inl rfl | exact .inr rfl | assumption) : EG X (.Name x pos) (gM i) := ⟨mg_name hN hi hx hf⟩
theorem mgs_nil'  : EGs X [] gMNil := ⟨mgs_nil⟩
theorem mgs_cons' {e : Expr} {es : List Expr} {g : WG} {gs : WGs} (h1 : EG X e g) (h2 : EGs X es gs) (hs : (assignEach (e :: es) X.env).map (·.2) = assign e X.env :: (assignEach es X.env).map (·.2) := by rfl) : EGs X (e :: es) (gMCons g gs) := ⟨mgs_cons h1.h h2.h hs⟩
theorem mg_tup' {es : List Expr} {k : Nat} {gs : WGs} {n : Nat} (h : EGs X es gs) (hc : X.calm = true := by rfl) (hn : (assignEach es X.env).length = n := by rfl) (hst : (assignEach es X.env).findIdx? (·.1) = none := by rfl) : EG X (.Tuple es k pos) (gMTup n gs) := ⟨mg_tup h.h hc hn hst⟩
theorem ms_par' {i j : Nat} {x y : Str} {px py pt : Pos} {kt k2 pt2} (hN : X.N.Nodup) (hi : X.N[i]? = some x) (hj : X.N[j]? = some y) (hij : i ≠ j) (hx : X.env.scope.names.lookup x = some .local) (hy : X.env.scope.names.lookup y = some .local) (ha : EA X [a, b] ws) (hw : swappedStores [.Tuple [.Name x px, .Name y py] kt pt] (.Tuple [a, b] k2 pt2) X.env = pure (some [x, y])) (hc : X.calm = true := by rfl) (hs : swapsWithSole [.Tuple [.Name x px, .Name y py] kt pt] (.Tuple [a, b] k2 pt2) pos.line X.env = pure false := by rfl) : ES X (.Assign [.Tuple [.Name x px, .Name y py] kt pt] (.Tuple [a, b] k2 pt2) pos) (wPar i j ws) := ⟨ms_par hN hi hj hij hx hy ha.h hw hc hs⟩
end
section
variable {X : Cx} {tg a b c e iter : Expr} {es : List Expr} {wa wb wc we : WE} {ws : WA} {wt : WT} {pos : Pos} {st : Stmt} {rest body body2 : List Stmt} {w u : WS}
theorem mi_seq' (he : EE X e we) : EI X tg e (wiSeq we) := ⟨mi_seq he.h⟩
theorem mi_range1' {p : Pos} (hg : Gl X "range") (hm : X.mg "range" = none) (ha : EA X [a] ws) (hs : starEach [a] X.env = [(false, eval a X.env)] := by first | exact star_one rfl | rfl) : EI X tg (.Call (.Name "range" p) [a] [] pos) (wiRng1 ws) := ⟨mi_range1 hg hm ha.h hs⟩
theorem ms_for' {wi : WI} {g : WG} (hi : EI X tg iter wi) (hg : EG X tg g) (hb : ESs X body w) (hp : PassesOwn (model X.prog X.w) X.A X.env X.xe) (hc : X.calm = true := by rfl) (hs : ∀ x, foldedSetIterable iter X.env x = pure x := by intro _; rfl) : ES X (.For tg iter body [] pos) (wFor wi g w) := ⟨ms_for hi.h hg.h hb.h hp hc hs⟩
theorem ms_while' {t : Expr} (ht : ET X t wt) (hb : ESs X body w) (hp : PassesOwn (model X.prog X.w) X.A X.env X.xe) : ES X (.While t body [] pos) (wWhile wt w) := ⟨ms_while ht.h hb.h hp⟩
end
section
variable {X : Cx} {scope sc : Scope} {own fr : List Str} {ps : List Nat} {elt tg iter tg2 iter2 : Expr} {ifs ifs2 : List Expr} {pos spos py : Pos} {wi wi2 : WI} {g g2 : WG} {tt tt2 : WT} {we : WE}
theorem me_comp1' (S : CompScope own fr scope sc) (hi : EI X tg iter wi) (hg : ∀ cl s H C ex, EG (cxComp X scope cl (own ++ fr) s H C ex) tg g) (ht : ∀ cl s H C ex, ETs (cxComp X scope cl (own ++ fr) s H C ex) ifs tt) (he : ∀ cl s H C ex, EE (cxComp X scope cl (own ++ fr) s H C ex) elt we) (hsc : X.env.scope = sc := by rfl) (hps : ps.map (fun i => X.N[i]?) = fr.map some := by rfl) (hc : X.calm = true := by rfl) (hs : ∀ x, foldedSetIterable iter X.env x = pure x := by intro _; rfl) : EE X (.ListComp elt [⟨tg, iter, ifs, 0⟩] scope pos) (wComp1 wi own ps g tt we) := ⟨me_comp1 S hi.h (fun cl s H C ex => (hg cl s H C ex).h) (fun cl s H C ex => (ht cl s H C ex).h) (fun cl s H C ex => (he cl s H C ex).h) hsc hps hc hs⟩
theorem mts_nil'  : ETs X [] wNoTest := ⟨mts_nil⟩
theorem mts_one' {c : Expr} {t : WT} (h : ET X c t) : ETs X [c] t := ⟨mts_one h.h⟩
theorem ms_setc2' {i : Nat} {y : Str} (S : CompScope own fr scope sc) (hN : X.N.Nodup) (hy : X.N[i]? = some y) (hlc : X.env.scope.names.lookup y = some .local) (hi : EI X tg iter wi) (hg : ∀ cl s H C ex, EG (cxComp X scope cl (own ++ fr) s H C ex) tg g) (ht : ∀ cl s H C ex, ETs (cxComp X scope cl (own ++ fr) s H C ex) ifs tt) (hi2 : ∀ cl s H C ex, EI (cxComp X scope cl (own ++ fr) s H C ex) tg2 iter2 wi2) (hg2 : ∀ cl s H C ex, EG (cxComp X scope cl (own ++ fr) s H C ex) tg2 g2) (ht2 : ∀ cl s H C ex, ETs (cxComp X scope cl (own ++ fr) s H C ex) ifs2 tt2) (he : ∀ cl s H C ex, EE (cxComp X scope cl (own ++ fr) s H C ex) elt we) (hsw : swapsWith (.ListComp elt [⟨tg, iter, ifs, 0⟩, ⟨tg2, iter2, ifs2, 0⟩] scope pos) (some (.Name y py)) spos.line X.env = pure true := by rfl) (hsc : X.env.scope = sc := by rfl) (hps : ps.map (fun i => X.N[i]?) = fr.map some := by rfl) (hc : X.calm = true := by rfl) (hs : ∀ x, foldedSetIterable iter X.env x = pure x := by intro _; rfl) (hs2 : ∀ cl C x, foldedSetIterable iter2 (compEnvC scope cl C X.env) x = pure x := by intro _ _ _; rfl) : ES X (.Assign [.Name y py] (.ListComp elt [⟨tg, iter, ifs, 0⟩, ⟨tg2, iter2, ifs2, 0⟩] scope pos) spos) (wSet i (wComp2 wi own ps g tt wi2 g2 tt2 we)) := ⟨ms_setc2 S hN hy hlc hi.h (fun cl s H C ex => (hg cl s H C ex).h) (fun cl s H C ex => (ht cl s H C ex).h) (fun cl s H C ex => (hi2 cl s H C ex).h) (fun cl s H C ex => (hg2 cl s H C ex).h) (fun cl s H C ex => (ht2 cl s H C ex).h) (fun cl s H C ex => (he cl s H C ex).h) hsw hsc hps hc hs hs2⟩
end
section
variable {X : Cx}
theorem me_ix' {a b : Expr} {wa wb : WE} {pos : Pos} (ha : EE X a wa) (hb : EE X b wb) (hs : PlainIx b := by intro _ _; rfl) : EE X (.Subscript a b pos) (wBin oItem wa wb) := ⟨me_ix ha.h hb.h hs⟩
end
section
variable {X : Cx} {o a b c e : Expr} {es : List Expr} {wo wa wb wc we wi : WE} {ws : WA} {pos apos cpos : Pos}
theorem me_ml' {name : Str} {id : String} {ob : WM} (slot : Slot "list" name id) (hty : typeOf (.builtin id) = pure (.type "method_descriptor")) (hm : MtM X id (mM X.kx ob)) (ho : EE X o wo) (ha : EA X (e :: es) ws) (hbase : attributeBase o name X.env (eval o X.env) = eval o X.env := by rfl) (hfew : ((backTo cpos (starEach (e :: es) X.env)).all (fun x => !x.1) && (backToKw cpos (keywordEach [] X.env)).all (fun x => x.1.isSome)
   && decide ((e :: es).length + ([] : List Keyword).length + (if ([] : List Keyword).isEmpty then 0 else 1) < 30)) = true := by rfl) (hline : (apos.endLine == cpos.line) = true := by rfl) (hs : starEach (e :: es) X.env = (false, eval e X.env) :: starEach es X.env := by first | exact star_cons rfl | rfl) (hplain : (backTo cpos (starEach es X.env)).any (·.1) = false := by rfl) : EE X (.Call (.Attribute o name apos) (e :: es) [] cpos) (wML ob wo ws) := ⟨me_ml slot hty hm ho.h ha.h hbase hfew hline hs hplain⟩
theorem ms_setI' {b i : Expr} {pos' : Pos} (he : EE X e we) (ho : EE X b wo) (hi : EE X i wi) (hs : swapsWithSole [.Subscript b i pos'] e pos.line X.env = pure false := by rfl) (hw : swappedStores [.Subscript b i pos'] e X.env = pure none := by rfl) (h1 : (assignEach [.Subscript b i pos'] X.env).map (·.2) = [assign (.Subscript b i pos') X.env] := by rfl) (ha : ∀ v, assign (.Subscript b i pos') X.env v = (do
   let ov ← holding [v] (eval b X.env)
   let iv ← holding [v, ov] (eval i X.env)
   standAt pos'
   holding [v, ov, iv] (setItem ov iv v)
   release [v, ov, iv] []) := by intro _; rfl) : ES X (.Assign [.Subscript b i pos'] e pos) (wSetI we wo wi) := ⟨ms_setI he.h ho.h hi.h hs hw h1 ha⟩
theorem mo_none'  : EO X none wNoPart := ⟨mo_none⟩
theorem mo_some' (he : EE X e we) : EO X (some e) (wPart we) := ⟨mo_some he.h⟩
theorem me_slice' {lo hi : Option Expr} {wl wh : WO1} {p2 : Pos} {ob : R → Option Int → Option Int → MSt → (R → Prop) → Prop} (hr : SlR X (sM X.kx ob)) (he : EE X e we) (hl : EO X lo wl) (hu : EO X hi wh) : EE X (.Subscript e (.Slice lo hi none p2) pos) (wSl ob we wl wh) := ⟨me_slice hr he.h hl.h hu.h⟩
end
section
variable {X : Cx} {a : Expr} {es : List Expr} {ws : WA} {pos p : Pos} {k n : Nat} {sp : SpM} {x : Str}
theorem mf' (F : FnM X.prog X.w X.K X.mg X.base x k n sp) (hr : Room k X.A) (ha : EA X (a :: es) ws) (hg : Gl X x := by rfl) (hdb : (x == ("__debug__" : Str)) = false := by decide) (he : starEach (a :: es) X.env = (false, eval a X.env) :: starEach es X.env := by first | exact star_cons rfl | rfl) (hpl : (backTo pos (starEach es X.env)).any (·.1) = false := by rfl) : EE X (.Call (.Name x p) (a :: es) [] pos) (wCall sp ws) := ⟨me_callF F hr ha.h hg hdb he hpl⟩
end
section
variable {X : Cx} {tg a b c e : Expr} {es : List Expr} {wo wa wb wc we wi : WE} {ws : WA} {pos p p2 : Pos}
theorem me_isT' {T : String} {x : Str} {f : String → Bool} (he : EE X e we) (hf : IsT T f) (hmi : X.mg "isinstance" = none) (hm : X.mg x = none) (hv : bootBuiltins x = some (.type T)) (hgi : Gl X "isinstance" := by rfl) (hg : Gl X x := by rfl) (hn : x ≠ "__name__" := by decide) (hd : (x == ("__debug__" : Str)) = false := by decide) (he1 : starEach [e, .Name x p2] X.env = (false, eval e X.env) :: starEach [.Name x p2] X.env := by rfl) (he2 : starEach [.Name x p2] X.env = (false, eval (.Name x p2) X.env) :: starEach [] X.env := by rfl) (hpl : (backTo pos (starEach [.Name x p2] X.env)).any (·.1) = false := by rfl) : EE X (.Call (.Name "isinstance" p) [e, .Name x p2] [] pos) (wIsT f we) := ⟨me_isT he.h hf hmi hm hv hgi hg hn hd he1 he2 hpl⟩
end
section
variable {X : Cx} {tg a : Expr} {ws : WA} {p p2 pos pos2 : Pos}
theorem me_listR' (hmr : X.mg "list" = none) (hm : X.mg "range" = none) (ha : EA X [a] ws) (hc : X.calm = true := by rfl) (hgr : Gl X "list" := by rfl) (hg : Gl X "range" := by rfl) (hs : starEach [a] X.env = [(false, eval a X.env)] := by first | exact star_one rfl | rfl) (hs2 : starEach [.Call (.Name "range" p2) [a] [] pos2] X.env = [(false, eval (.Call (.Name "range" p2) [a] [] pos2) X.env)] := by rfl) : EE X (.Call (.Name "list" p) [.Call (.Name "range" p2) [a] [] pos2] [] pos) (wListR ws) := ⟨me_listR hmr hm ha.h hc hgr hg hs hs2⟩
end
theorem mk_fn' {P : Program} {w : World} {K : PySem.W.Frag} {mg : Str → Option Value} {base : Heap} {x : Str} {st : Stmt} {N ps : List Str} {n nN k : Nat} {sp : SpM} (D : DefM K mg x st ps) (S : FnScope N ps (defScope st)) (hn : ps.length = n) (hN : N.length = nN) (hle : n ≤ nN) (ar : ∀ as Kc, sp as Kc → as.length = n)
  (hbody : ∀ (cdv : Value) (A : Around) (outer : List Env) (s : Shared) (H : Hp) (E : XK) (f : Addr), Room k (A.deeper (envOfC x (defScope st) s.heap.objs.size f cdv)) →
   ∃ ww, ESs (cxOf CX0 P w K mg base N x (defScope st) f cdv A outer s H E).nox (defBody st) ww ∧ ∀ as Kc, as.length = n → sp as Kc → ww { nx := fun m => Kc (.imm .none) (m.os.take m.np), rt := fun r m => retK Kc m r } (mstart nN as)) :
  FnM P w K mg base x (k + 1) n sp := mk_fn D S hn hN hle ar fun cdv A outer s H E f hr => let ⟨ww, h1, h2⟩ := hbody cdv A outer s H E f hr; ⟨ww, h1.h, h2⟩
theorem mk_fnE' {P : Program} {w : World} {K : PySem.W.Frag} {mg : Str → Option Value} {base : Heap} {x : Str} {st : Stmt} {N ps : List Str} {n nN k : Nat} {sp : SpM} {f : Addr} {fd : FuncData} (F : Fun K x x st f fd) (S : FnScope N ps (defScope st)) (hn : ps.length = n) (hN : N.length = nN) (hle : n ≤ nN)
  (hbody : ∀ (cdv : Value) (A : Around) (outer : List Env) (s : Shared) (H : Hp) (E : XK) (f : Addr), Room k (A.deeper (envOfC x (defScope st) s.heap.objs.size f cdv)) →
   ∃ ww, ESs (cxOf CX0 P w K mg base N x (defScope st) f cdv A outer s H E).nox (defBody st) ww ∧ ∀ as Kc, as.length = n → sp as Kc → ww { nx := fun m => Kc (.imm .none) (m.os.take m.np), rt := fun r m => retK Kc m r } (mstart nN as)) :
  FnOk P w K mg base CX0 (k + 1) f fd ps (spOf ⟨K, w⟩ n sp) := mk_fnE F S hn hN hle fun cdv A outer s H E f hr => let ⟨ww, h1, h2⟩ := hbody cdv A outer s H E f hr; ⟨ww, h1.h, h2⟩
end L2
namespace HT
open PySem PySem.Spec PyProof.Rows
section
variable {prog : Program} {w : World} {A : Around} {E : Value → Shared → Prop} {s : Shared}
theorem cut_whole {t sl : Addr} {items : Array Value} {vl vu : Value} {lo hi : Option Int} {Q : Value → Shared → Prop} (ht : IsTup s.heap t items) (hs : s.heap.IsSliceOf sl vl vu .none) (pl : IsPart vl lo) (pu : IsPart vu hi)
  (hw : sIx items.size 0 lo = 0 ∧ sIx items.size items.size hi = items.size) (h : Q (.ref t) s) : wpAny (model prog w) A (getItem (.ref t) (.ref sl)) Q E s := by
 obtain ⟨os, hos, hcs, hds⟩ := id hs
 have hTs : s.TypeIs (.ref sl) "slice" := ⟨os, hos, hcs⟩
 unfold getItem
 try with_reducible refine wpAny_holding ?_
 first | (refine wpAny_bind (wpAny_pure ?_)) | skip
 refine wpAny_bind (wpAny_sequenceKey ht.typeIs (by decide) (wpAny_bind (wpAny_callSpecial?_slot (name := Str.ofString "__getitem__") ht.typeIs PyProof.Rows.slot_tuple_getitem (wpAny_call_entry PyProof.Rows.slot_tuple_getitem ht.typeIs entry_tuple_getitem ?_ (args_tuple_getitem _ _)))))
 show wpAny _ _ (Builtin.Tuple.tupleItemsOf (.ref t) >>= _) _ _ s
 refine wpAny_bind (tupleItemsOf_ ht (wpAny_bind (wpAny_typeOf hTs ?_)))
 rw [if_pos (by decide)]
 refine wpAny_bind (sliceApplied_gen hs pl pu ?_)
 have hyes : (((sIx items.size 0 lo : Nat) : Int) == 0 && (1 : Int) == 1 && (sIx items.size items.size hi - sIx items.size 0 lo) == items.size) = true := by
  rw [hw.1, hw.2]; simp
 show wpAny _ _ (if (((sIx items.size 0 lo : Nat) : Int) == 0 && (1 : Int) == 1 && (sIx items.size items.size hi - sIx items.size 0 lo) == items.size) = true then _ else _) _ _ s
 rw [if_pos hyes]
 refine wpAny_bind ?_
 unfold Builtin.Tuple.tupleIsExact
 refine wpAny_bind (wpAny_typeOf ht.typeIs (wpAny_pure ?_))
 rw [if_pos (by rfl)]
 exact wpAny_bind (wpAny_rule (wpAny_pure ⟨_, rfl, wpAny_pure h⟩))
end
end HT
namespace L2
open PySem PySem.Spec PyProof.Rows
section
variable {X : Cx}
def oCut : R → Option Int → Option Int → MSt → (R → Prop) → Prop := fun r lo hi m K => (∃ ds, lsOf m r = some ds ∧ K (.new (cutD ds lo hi))) ∨ ∃ ds, r = .imm (.tuple ds) ∧ K (.imm (.tuple (cutD ds lo hi)))
theorem sl_cutM : SlR X (sM X.kx oCut) := by
 intro pins s σ' H x v vl vu lo hi sl Q I rx hs pl pu hq
 obtain ⟨α, m, σ, H0, r, Kc, Rl, h, k | ⟨ds, rfl, k⟩, fin⟩ := hq
 ·exact sl_listM pins s σ' H x v vl vu lo hi sl Q I rx hs pl pu ⟨α, m, σ, H0, r, Kc, Rl, h, k, fin⟩
 ·obtain ⟨a, xs, rfl, f, g⟩ := tup_of_den (show Den X.kx H (.tuple ds) x from h)
  by_cases hw : HT.sIx xs.length 0 lo = 0 ∧ HT.sIx xs.length xs.length hi = xs.length
  ·cases rx
   obtain ⟨its, rv, ht, hz⟩ := I.tuple f
   have hlen : its.toArray.size = xs.length := by rw [List.size_toArray]; exact rv.length.symm
   refine ⟨"tuple", _, PyProof.Rows.slot_tuple_getitem.lookup, ht.typeIs, ?_⟩
   refine HT.cut_whole ht hs pl pu (by rw [hlen]; exact hw) ⟨.ref a, H, I, rfl, fin _ _ H k Rl (rr_of (den_tup f ?_)) (Frm.refl _ _)⟩
   have e : cutD ds lo hi = ds := by
    unfold cutD
    rw [g.length, hw.1, hw.2, List.drop_zero, Nat.sub_zero, ← g.length, List.take_length]
   rw [e]; exact g
  ·exact sl_tup pins s σ' H _ v vl vu lo hi sl Q I rx hs pl pu ⟨a, xs, rfl, f, hw, fun p hp => fin _ _ _ k (Rl.lay hp) (rr_of (den_tup (SqT.of upd_same) ((cut_den g lo hi).mono (pers_upd (.inl hp))))) (frm_upd hp)⟩
theorem x_cutL' {m : MSt} {r : R} {lo hi : Option Int} {Kr : R → Prop} {ds : List PyData} (e : lsOf m r = some ds) (h : Kr (.new (cutD ds lo hi))) : oCut r lo hi m Kr := .inl ⟨ds, e, h⟩
theorem x_cutT {m : MSt} {lo hi : Option Int} {Kr : R → Prop} {ds : List PyData} (h : Kr (.imm (.tuple (cutD ds lo hi)))) : oCut (.imm (.tuple ds)) lo hi m Kr := .inr ⟨ds, rfl, h⟩
theorem cutD_to {ds : List PyData} (n : Nat) : cutD ds none (some (n : Int)) = ds.take n := by
 unfold cutD
 rw [HT.sIx_none, HT.sIx_nat, Nat.sub_zero, List.drop_zero]
 by_cases h : n ≤ ds.length
 ·rw [Nat.min_eq_left h]
 ·rw [Nat.min_eq_right (by omega), List.take_length, List.take_of_length_le (by omega)]
theorem cutD_from {ds : List PyData} (n : Nat) : cutD ds (some (n : Int)) none = ds.drop n := by
 unfold cutD
 rw [HT.sIx_none, HT.sIx_nat]
 by_cases h : n ≤ ds.length
 ·rw [Nat.min_eq_left h, List.take_of_length_le (by rw [List.length_drop]; omega)]
 ·rw [Nat.min_eq_right (by omega), List.drop_length, List.drop_eq_nil_of_le (by omega), List.take_nil]
def oIn (neg : Bool) : WO := fun r1 r2 m K => ∃ d ds, asD m r1 = some d ∧ (asD m r2 = some (.list ds) ∨ asD m r2 = some (.tuple ds)) ∧ d.canLay0 = true ∧ PyData.canLayAll0 ds = true ∧ d.depth ≤ 60 ∧ K (.imm (.bool (if neg then !ds.any (fun y => PyData.eqv y d) else ds.any fun y => PyData.eqv y d)))
theorem op_notInM (hu : X.A.units + 64 < cLine) : OpR X (compareOp .NotIn) (rM X.kx (oIn true)) := by
 rintro pins s σ' H x y v u Q I rx ry ⟨α, m, σ, H0, H1, r1, r2, Kc, Rl, h1, h2, ⟨d, ds, e1, e2, c1, c2, dp, ho⟩, fin⟩
 obtain ⟨as, q1⟩ := h1.reads I Rl rx e1 (PyData.hasDict_of_canLay _ c1)
 have fin' : EP X pins σ' Q (.bool (!ds.any fun y => PyData.eqv y d)) s := ⟨.bl _, H, I, rfl, fin _ _ H ho Rl (rr_bl _) (Frm.refl _ _)⟩
 have hm : X.A.units + 1 + min (PyData.depthAll ds) d.depth < cLine := by have := Nat.min_le_right (PyData.depthAll ds) d.depth; omega
 rcases e2 with e2 | e2
 ·obtain ⟨bs, q2⟩ := h2.reads I Rl ry e2 (by simp only [PyData.hasDict]; exact PyData.hasDictAll_of_canLayAll _ c2)
  exact SeqAt.notIn_list_reads q2 q1 c2 c1 hm fin'
 ·obtain ⟨bs, q2⟩ := h2.reads I Rl ry e2 (by simp only [PyData.hasDict]; exact PyData.hasDictAll_of_canLayAll _ c2)
  exact SeqAt.notIn_tuple_reads q2 q1 c2 c1 hm fin'
theorem x_in {m : MSt} {r1 r2 : R} {Kr : R → Prop} {neg : Bool} {d : PyData} {ds : List PyData} {k k' : Nat} (e1 : asD m r1 = some d) (e2 : asD m r2 = some (.list ds) ∨ asD m r2 = some (.tuple ds)) (s1 : Shp k d) (s2 : ∀ y ∈ ds, Shp k' y) (hk : k ≤ 60) (h : Kr (.imm (.bool (if neg then !ds.any (fun y => PyData.eqv y d) else ds.any fun y => PyData.eqv y d)))) : oIn neg r1 r2 m Kr :=
 ⟨d, ds, e1, e2, s1.cl, (shp_all s2).1, Nat.le_trans s1.dp hk, h⟩
def onNew (P : List PyData → Prop) : R → Prop
 | .new ds => P ds
 | _ => False
def oExtend : WM := fun r rs m K => onObj (fun k => on1 (onNew fun es => ∃ ds, m.os[k]? = some ds ∧ ds.length + es.length ≤ sizeLine ∧ K (.imm .none) { m with os := m.os.set k (ds ++ es) }) rs) r
theorem mt_extendM : MtM X "list.extend" (mM X.kx oExtend) := by
 rintro pins s σ' H x xs v us Q I rx rv ⟨α, m, σ, H0, H1, r, rs, Kc, Rl, h1, h2, ho, fin⟩
 obtain ⟨k, a, rfl, ea, rfl, ho⟩ := on_obj h1 ho
 obtain ⟨r2, v2, rfl, rfl, h2, ho⟩ := on_one h2 ho
 cases r2 with
 | imm _ => exact ho.elim
 | obj _ => exact ho.elim
 | «at» _ _ => exact ho.elim
 | newT _ => exact ho.elim
 | new es =>
  obtain ⟨ds, e1, hz, ho⟩ := ho
  obtain ⟨b, zs, rfl, hb0, hb, gb⟩ := h2
  obtain ⟨ys, q, g⟩ := Rl.own _ _ ds ea e1
  obtain ⟨R2, F2⟩ := Rl.setO ea q (g.append gb)
  exact mt_extend pins s σ' H _ _ v us Q I rx rv ⟨a, b, ys, zs, rfl, rfl, q, hb, by rw [← g.length, ← gb.length]; exact hz, fin _ _ _ _ ho rfl R2 rr_non F2⟩
theorem x_extend {m : MSt} {k : Nat} {K : R → MSt → Prop} {ds es : List PyData} (e : m.os[k]? = some ds) (hz : ds.length + es.length ≤ sizeLine) (h : K (.imm .none) { m with os := m.os.set k (ds ++ es) }) : oExtend (.obj k) [.new es] m K := ⟨ds, e, hz, h⟩
end
theorem Inv.turneds {X : Cx} {pins : List (Addr × Obj)} {σ : St} {H : Hp} {s : Shared} {h' : Heap} {t' : Nat} {ch : List Addr} (I : Inv X pins σ H s) (k : ∀ b o, b ∉ ch → s.heap.get? b = some o → h'.get? b = some o) (hf : ∀ b ∈ ch, FpOk X pins H b) : Inv X pins σ H { s with heap := h', toks := t' } := by
 have nit : ∀ b u, H b = some u → b ∉ ch := fun b u e z => by have := (hf b z).1; rw [this] at e; cases e
 have nl : X.env.locals ∉ ch := fun z => (hf _ z).2.1 rfl
 refine I.step (g' := s.gens) (d' := s.drawn) (ch := ch) (fun b hb => ?_) (fun b o _ _ hc e _ => k b o hc e) (fun b o _ _ hc e _ => ⟨o.slots, k b o hc e⟩) (fun _ _ _ _ n => n)
  (fun b o hc e => ⟨o, k b o hc e⟩) (fun _ _ e => e) (fun _ _ _ e => e) (fun b ps e => ⟨#[], by rw [e]; simp⟩) (fun m hm => ?_) (fun b u e => ?_) I.bare
 ·obtain ⟨_, f1, _, f3, f4, f5⟩ := hf b hb
  exact ⟨f3, f1, f4, f5⟩
 ·obtain ⟨o, es, ep, ho, r⟩ := hm
  exact ⟨o, es, ep, k _ o nl ho, r⟩
 ·refine (I.hok b u e).stay (fun c v hc q => k c v ?_ q) (fun _ q => q) fun _ _ q => q
  rcases hc with z | z
  ·rw [z]; exact nit b u e
  ·exact nit c _ z
def SubI (t : Bool) (h : Heap) (i l : Addr) (k : Nat) : Prop := if t then h.IsTupleIter i l k else h.IsListIter i l k
def SubS (t : Bool) (h : Heap) (l : Addr) (its : Array Value) : Prop := if t then h.IsTuple l its else h.IsList l its
theorem SubI.ext {t : Bool} {h h' : Heap} {b i l : Addr} {k : Nat} (x : SubI t h i l k) (e : Heap.ExtBut b h h') (n : i ≠ b) : SubI t h' i l k := by
 cases t
 ·exact Heap.IsListIter.extBut (show h.IsListIter i l k from x) e n
 ·exact Heap.IsTupleIter.extBut (show h.IsTupleIter i l k from x) e n
theorem SubI.obj {t : Bool} {h : Heap} {i l : Addr} {k : Nat} (x : SubI t h i l k) : ∃ o vs, h.get? i = some o ∧ o.data = .fields vs := by
 cases t
 ·obtain ⟨o, e, _, d⟩ := (show h.IsListIter i l k from x); exact ⟨o, _, e, d⟩
 ·obtain ⟨o, e, _, d⟩ := (show h.IsTupleIter i l k from x); exact ⟨o, _, e, d⟩
theorem SubI.keep {t : Bool} {h h' : Heap} {i l : Addr} {k : Nat} (x : SubI t h i l k) (e : ∀ o, h.get? i = some o → h'.get? i = some o) : SubI t h' i l k := by
 cases t
 ·obtain ⟨o, q, r⟩ := (show h.IsListIter i l k from x); exact ⟨o, e o q, r⟩
 ·obtain ⟨o, q, r⟩ := (show h.IsTupleIter i l k from x); exact ⟨o, e o q, r⟩
theorem SubS.keep {t : Bool} {h h' : Heap} {l : Addr} {its : Array Value} (x : SubS t h l its) (e : ∀ o, h.get? l = some o → h'.get? l = some o) : SubS t h' l its := by
 cases t
 ·obtain ⟨o, q, r⟩ := (show h.IsList l its from x); exact ⟨o, e o q, r⟩
 ·obtain ⟨o, q, r⟩ := (show h.IsTuple l its from x); exact ⟨o, e o q, r⟩
theorem SubS.ext {t : Bool} {h h' : Heap} {b l : Addr} {its : Array Value} (x : SubS t h l its) (e : Heap.ExtBut b h h') (n : l ≠ b) : SubS t h' l its := x.keep fun o q => e l o n q
section
variable {prog : Program} {w : World} {A : Around} {E : Value → Shared → Prop} {s : Shared}
theorem stop_now {α : Type} {Q : α → Shared → Prop} (hh : A.handled = none) (h : ∀ h' e, (∀ b o, s.heap.get? b = some o → h'.get? b = some o) → (∃ o, h'.get? e = some o ∧ o.cls = .type "StopIteration") → E (.ref e) { s with heap := h' }) :
  wpAny (model prog w) A (do raiseNew (← newExc (.type "StopIteration") []) : Sem α) Q E s := by
 refine wpAny_bind (m := newExc (.type "StopIteration") []) ?_
 refine wpAny_bind (m := newTuple []) (wpAny_newObj_type ?_ (by size_fits))
 refine wpAny_bind (m := firstArgMember (.type "StopIteration") []) (wpAny_of_eq (a := Value.none) (by rfl) (wpAny_newObj_type ?_ (by size_fits)))
 refine wpAny_bind (m := handled) (wpAny_handled ?_)
 rw [hh]
 refine wpAny_bind (wpAny_pure (wpAny_throw (h _ _ (fun b o q => Heap.get?_push_of_some _ (Heap.get?_push_of_some _ q)) ⟨_, Heap.get?_push_size _ rfl, rfl⟩)))
theorem ti_at {it l : Addr} {i : Nat} {Q : Value → Shared → Prop} (hit : s.heap.IsTupleIter it l i) (h : Q (.ref l) s) : wpAny (model prog w) A (field (.ref it) 0) Q E s := let ⟨_, ho, _, hd⟩ := hit; wpAny_field ho hd (x := .ref l) rfl h
theorem ti_no {it l : Addr} {i : Nat} {Q : Value → Shared → Prop} (hit : s.heap.IsTupleIter it l i) (h : Q (.int i 0) s) : wpAny (model prog w) A (field (.ref it) 1) Q E s := let ⟨_, ho, _, hd⟩ := hit; wpAny_field ho hd (x := .int i 0) rfl h
theorem ti_of {l : Addr} {items : Array Value} {Q : Option (Array Value) → Shared → Prop} (hl : s.heap.IsTuple l items) (h : Q (some items) s) : wpAny (model prog w) A (seqItems? (.ref l)) Q E s := let ⟨_, ho, _, _, hd⟩ := hl; wpAny_seqItems ho hd h
theorem tup_turn {it l : Addr} {i : Nat} {items : Array Value} {Q : Option Value → Shared → Prop} (hit : s.heap.IsTupleIter it l i) (hl : s.heap.IsTuple l items)
  (hs : ∀ x, items[i]? = some x → ∀ h', h'.IsTupleIter it l (i + 1) → Heap.SameBut it s.heap h' → Q (some x) { s with heap := h' })
  (hE : items[i]? = none → A.handled = none ∧ ∀ h' e, Heap.ExtBut it s.heap h' → (∃ o, h'.get? e = some o ∧ o.cls = .type "StopIteration") → E (.ref e) { s with heap := h' }) :
  wpAny (model prog w) A (callSpecial? (.ref it) "__next__" []) Q E s := by
 refine wpAny_callSpecial?_slot (name := Str.ofString "__next__") hit.typeIs F.slot_tuple_iterator_next (wpAny_call_entry F.slot_tuple_iterator_next hit.typeIs F.entry_tuple_iterator_next ?_ (F.args_tuple_iterator_next_1 _))
 wp_walk using ti_at hit, ti_no hit, ti_of hl
 rcases id hit with ⟨o, ho, hc, hd⟩
 rw [Int.toNat_natCast]
 cases q : items[i]? with
 | some x =>
  have new : (s.heap.update it (Obj.mapFields (·.setIfInBounds 1 (rawInt ((i : Int) + 1))))).IsTupleIter it l (i + 1) := by
   refine ⟨_, Heap.get?_update_self _ ho (Obj.isFreed_of_fields (Obj.data_mapFields hd _)), ?_, ?_⟩
   ·exact (Obj.cls_mapFields ..).trans hc
   ·rw [Obj.data_mapFields hd]; simp [rawInt]
  exact wpAny_bind (m := setField (.ref it) 1 _) (wpAny_setField ho hd (by simp) (wpAny_pure ⟨x, rfl, hs x q _ new (Heap.SameBut.update ..)⟩))
 | none =>
  obtain ⟨hh, hE⟩ := hE q
  refine wpAny_bind (m := rule _) (wpAny_rule (wpAny_bind (m := setField (.ref it) 0 _) (wpAny_setField ho hd (by simp) ?_)))
  exact stop_now (A := A.in1) hh fun h' e k x => hE h' e (fun b ob nb z => k b ob ((Heap.SameBut.update ..).extBut b ob nb z)) x
theorem sub_item {t : Bool} {it l : Addr} {i : Nat} {items : Array Value} {x : Value} {Q : Value → Shared → Prop} (hit : SubI t s.heap it l i) (hl : SubS t s.heap l items) (hx : items[i]? = some x)
  (hQ : ∀ h', SubI t h' it l (i + 1) → Heap.SameBut it s.heap h' → Q x { s with heap := h' }) : wpAny (model prog w) A (Builtin.SmallTypes.nextOf (.ref it)) Q E s := by
 cases t with
 | false => exact wpAny_nextOf_list_item (show s.heap.IsListIter it l i from hit) (show s.heap.IsList l items from hl) hx hQ
 | true => exact wpAny_bind (m := callSpecial? (.ref it) "__next__" []) (tup_turn (show s.heap.IsTupleIter it l i from hit) (show s.heap.IsTuple l items from hl) (fun y ey h' a b => by rw [hx] at ey; cases ey; exact wpAny_pure (hQ h' a b)) fun no => by rw [hx] at no; cases no)
theorem sub_end {t : Bool} {it l : Addr} {i : Nat} {items : Array Value} {Q : Value → Shared → Prop} (hh : A.handled = none) (hit : SubI t s.heap it l i) (hl : SubS t s.heap l items) (hx : items[i]? = none)
  (hE : ∀ h' e, Heap.ExtBut it s.heap h' → (∃ o, h'.get? e = some o ∧ o.cls = .type "StopIteration") → E (.ref e) { s with heap := h' }) : wpAny (model prog w) A (Builtin.SmallTypes.nextOf (.ref it)) Q E s := by
 cases t with
 | false => exact wpAny_nextOf_list_end hh (show s.heap.IsListIter it l i from hit) (show s.heap.IsList l items from hl) hx hE
 | true => exact wpAny_bind (m := callSpecial? (.ref it) "__next__" []) (tup_turn (show s.heap.IsTupleIter it l i from hit) (show s.heap.IsTuple l items from hl) (fun y ey => by rw [hx] at ey; cases ey) fun _ => ⟨hh, hE⟩)
structure Apart (z TI TO i1 i2 l1 l2 : Addr) : Prop where
 d : [z, TI, TO, i1, i2].Nodup
 m1 : l1 ∉ [z, TI, TO, i1, i2]
 m2 : l2 ∉ [z, TI, TO, i1, i2]
theorem Apart.old {z TI TO i1 i2 l1 l2 : Addr} (D : Apart z TI TO i1 i2 l1 l2) : ZipApart z TI TO i1 i2 l1 l2 := by
 obtain ⟨d, m1, m2⟩ := D
 simp only [List.nodup_cons, List.mem_cons, List.not_mem_nil, not_or, or_false, List.nodup_nil, and_true, not_false_eq_true] at d m1 m2
 obtain ⟨⟨a1, a2, a3, a4⟩, ⟨b1, b2, b3⟩, ⟨c1, c2⟩, d1⟩ := d
 exact ⟨Ne.symm a1, Ne.symm a2, Ne.symm a3, Ne.symm a4, b1, b2, b3, c1, c2, d1, m1.1, m1.2.2.1, m1.2.2.2.1, m1.2.2.2.2, m2.1, m2.2.2.1, m2.2.2.2.1, m2.2.2.2.2⟩
structure ZipAt (t1 t2 : Bool) (z TI TO i1 i2 l1 l2 : Addr) (k : Nat) (h : Heap) : Prop where
 z : IsZip h z TI TO .none
 ti : IsPair h TI (.ref i1) (.ref i2)
 to : ∃ a b, IsPair h TO a b
 s1 : SubI t1 h i1 l1 k
 s2 : SubI t2 h i2 l2 k
theorem zf0 {z TI TO : Addr} {f : Value} {Q : Value → Shared → Prop} (hz : IsZip s.heap z TI TO f) (h : Q f s) : wpAny (model prog w) A (field (.ref z) 0) Q E s := wpAny_field hz rfl (x := f) rfl h
theorem zf2 {z TI TO : Addr} {f : Value} {Q : Value → Shared → Prop} (hz : IsZip s.heap z TI TO f) (h : Q (.bool false) s) : wpAny (model prog w) A (field (.ref z) 2) Q E s := wpAny_field hz rfl (x := .bool false) rfl h
theorem zf3 {z TI TO : Addr} {f : Value} {Q : Value → Shared → Prop} (hz : IsZip s.heap z TI TO f) (h : Q (.ref TI) s) : wpAny (model prog w) A (field (.ref z) 3) Q E s := wpAny_field hz rfl (x := .ref TI) rfl h
theorem zip_item {t1 t2 : Bool} {z TI TO i1 i2 l1 l2 : Addr} {k : Nat} {xs ys : Array Value} {x y : Value} {Q : Option Value → Shared → Prop} (D0 : Apart z TI TO i1 i2 l1 l2) (Z : ZipAt t1 t2 z TI TO i1 i2 l1 l2 k s.heap)
  (hl1 : SubS t1 s.heap l1 xs) (hl2 : SubS t2 s.heap l2 ys) (hx : xs[k]? = some x) (hy : ys[k]? = some y)
  (hQ : ∀ h', IsZip h' z TI TO (rawInt s.heap.objs.size) → IsPair h' TO x y → SubI t1 h' i1 l1 (k + 1) → SubI t2 h' i2 l2 (k + 1) → IsPair h' s.heap.objs.size x y → h'.objs.size = s.heap.objs.size + 1 →
   (∀ c o, c ∉ [z, TO, i1, i2] → s.heap.get? c = some o → h'.get? c = some o) → Q (some (.ref s.heap.objs.size)) { s with heap := h' }) : wpAny (model prog w) A (pyNext (.ref z)) Q E s := by
 have D := D0.old
 obtain ⟨hz, hTI, ⟨a, b, hTO⟩, h1, h2⟩ := Z
 have hT : s.TypeIs (.ref z) "zip" := (⟨_, hz, rfl⟩)
 unfold pyNext
 refine wpAny_bind (wpAny_attempt (wpAny_callSpecial?_slot (name := Str.ofString "__next__") hT F.slot_zip_next (wpAny_call_entry F.slot_zip_next hT F.entry_zip_next ?_ (F.args_zip_next_1 _))))
 refine wpAny_bind (m := field (.ref z) 2) (zf2 hz (wpAny_bind (m := field (.ref z) 3) (zf3 hz (wpAny_bind (wpAny_seqItems hTI rfl ?_)))))
 refine wpAny_bind (m := Builtin.SmallTypes.ownedTupleIsFree (.ref z)) (wpAny_bind (m := field (.ref z) 0) (zf0 hz (wpAny_pure ?_)))
 simp only [if_true]
 refine wpAny_bind (wpAny_rule (wpAny_bind (wpAny_field hz rfl (x := .ref TO) rfl (wpAny_bind (wpAny_setField_rec hz (by simp) fun g1 hz1 s1 => ?_)))))
 replace hz1 : IsZip g1 z TI TO .ellipsis := hz1
 refine wpAny_bind ?_
 simp only [List.forIn_cons, List.forIn_nil, List.zipIdx_cons, List.zipIdx_nil]
 refine wpAny_bind (wpAny_bind (wpAny_onRaise (wpAny_bind (m := Builtin.SmallTypes.nextOf (.ref i1)) ?_)))
 refine (sub_item (h1.ext s1.extBut D.i1z) (hl1.ext s1.extBut D.l1z) hx fun g2 n1 s2 => wpAny_pure ?_)
 have hTO2 : IsPair g2 TO a b := s2.extBut _ _ D.TOi1 (s1.extBut _ _ D.TOz hTO)
 refine wpAny_bind (wpAny_seqItems hTO2 rfl (wpAny_bind (wpAny_updateSeq_pair hTO2 fun g3 hTO3 s3 => ?_)))
 replace hTO3 : IsPair g3 TO x b := hTO3
 refine wpAny_bind (wpAny_letGo (wpAny_pure (wpAny_bind (wpAny_bind (wpAny_onRaise ?_)))))
 refine wpAny_bind (m := Builtin.SmallTypes.nextOf (.ref i2)) (sub_item (((h2.ext s1.extBut D.i2z).ext s2.extBut D.i12.symm).ext s3.extBut D.TOi2.symm) (((hl2.ext s1.extBut D.l2z).ext s2.extBut D.l2i1).ext s3.extBut D.l2TO) hy fun g4 n2 s4 => wpAny_pure ?_)
 have hTO4 : IsPair g4 TO x b := s4.extBut _ _ D.TOi2 hTO3
 refine wpAny_bind (wpAny_seqItems hTO4 rfl (wpAny_bind (wpAny_updateSeq_pair hTO4 fun g5 hTO5 s5 => ?_)))
 replace hTO5 : IsPair g5 TO x y := hTO5
 refine wpAny_bind (wpAny_letGo (wpAny_pure (wpAny_pure (wpAny_bind (wpAny_seqItems hTO5 rfl (wpAny_bind (wpAny_newTuple ?_)))))))
 have hsz : g5.objs.size = s.heap.objs.size := by rw [s5.1, s4.1, s3.1, s2.1, s1.1]
 have hz5 : IsZip g5 z TI TO .ellipsis := s5.extBut _ _ D.TOz.symm (s4.extBut _ _ D.i2z.symm (s3.extBut _ _ D.TOz.symm (s2.extBut _ _ D.i1z.symm hz1)))
 have k5 : ∀ c o, c ∉ [z, TO, i1, i2] → s.heap.get? c = some o → g5.get? c = some o := fun c o hc e => by
  simp only [List.mem_cons, List.not_mem_nil, not_or, or_false] at hc
  exact s5.extBut _ _ hc.2.1 (s4.extBut _ _ hc.2.2.2 (s3.extBut _ _ hc.2.1 (s2.extBut _ _ hc.2.2.1 (s1.extBut _ _ hc.1 e))))
 have n15 : SubI t1 g5 i1 l1 (k + 1) := ((n1.ext s3.extBut D.TOi1.symm).ext s4.extBut D.i12).ext s5.extBut D.TOi1.symm
 have n25 : SubI t2 g5 i2 l2 (k + 1) := n2.ext s5.extBut D.TOi2.symm
 have zlt : z < g5.objs.size := Heap.lt_size hz5
 refine wpAny_bind (m := Builtin.SmallTypes.ownedTupleHandOut (.ref z) (.ref g5.objs.size)) ?_
 have hz6 : IsZip (g5.push { cls := .type "tuple", data := .seq #[x, y] }) z TI TO .ellipsis := Heap.get?_push_of_some _ hz5
 refine wpAny_bind (m := setField (.ref z) 0 _) (wpAny_setField_rec hz6 (by simp) fun g7 hz7 s7 => ?_)
 replace hz7 : IsZip g7 z TI TO (rawInt g5.objs.size) := hz7
 refine wpAny_setField_rec hz7 (by simp) fun g8 hz8 s8 => ?_
 replace hz8 : IsZip g8 z TI TO (rawInt g5.objs.size) := hz8
 have up : ∀ c o, c ≠ z → g5.get? c = some o → g8.get? c = some o := fun c o c1 e => s8.extBut _ _ c1 (s7.extBut _ _ c1 (Heap.get?_push_of_some _ e))
 have hT8 : IsPair g8 g5.objs.size x y := s8.extBut _ _ (Nat.ne_of_gt zlt) (s7.extBut _ _ (Nat.ne_of_gt zlt) (Heap.get?_push_size _ rfl))
 have z8 : g8.objs.size = g5.objs.size + 1 := by rw [s8.1, s7.1, Heap.size_push]
 rw [hsz] at hz8 hT8 z8
 have fin : wpAny (model prog w) A (pure (some (Value.ref g5.objs.size))) Q E { s with heap := g8 } := by
  rw [hsz]
  exact wpAny_pure (hQ g8 hz8 (up _ _ D.TOz hTO5) (n15.keep fun o e => up _ o D.i1z e) (n25.keep fun o e => up _ o D.i2z e) hT8 z8 fun c o hc e => up c o (fun q => hc (by simp [q])) (k5 c o hc e))
 exact wpAny_pure ⟨_, rfl, fin⟩
theorem zip_end {t1 t2 : Bool} {z TI TO i1 i2 l1 l2 : Addr} {k : Nat} {xs ys : Array Value} {Q : Option Value → Shared → Prop} (hh : A.handled = none) (D0 : Apart z TI TO i1 i2 l1 l2) (Z : ZipAt t1 t2 z TI TO i1 i2 l1 l2 k s.heap)
  (hl1 : SubS t1 s.heap l1 xs) (hl2 : SubS t2 s.heap l2 ys) (hend : xs[k]? = none ∨ ys[k]? = none)
  (hQ : ∀ h', (∀ c o, c ∉ [z, TO, i1, i2] → s.heap.get? c = some o → h'.get? c = some o) → Q none { s with heap := h' }) : wpAny (model prog w) A (pyNext (.ref z)) Q E s := by
 have D := D0.old
 obtain ⟨hz, hTI, ⟨a, b, hTO⟩, h1, h2⟩ := Z
 have hT : s.TypeIs (.ref z) "zip" := (⟨_, hz, rfl⟩)
 have out : ∀ {c : Addr}, c ∉ [z, TO, i1, i2] → c ≠ z ∧ c ≠ TO ∧ c ≠ i1 ∧ c ≠ i2 := fun hc => by simpa only [List.mem_cons, List.not_mem_nil, not_or, or_false] using hc
 have fin : ∀ h' e, (∀ c o, c ∉ [z, TO, i1, i2] → s.heap.get? c = some o → h'.get? c = some o) → (∃ o, h'.get? e = some o ∧ o.cls = .type "StopIteration") →
   wpAny (model prog w) A (do if ← isInstance (.ref e) (.type "StopIteration") then pure none else throw (.ref e) : Sem (Option Value)) Q E { s with heap := h' } := fun h' e hk ⟨o, ho, hc⟩ =>
  wpAny_bind (wpAny_isInstance (T := "StopIteration") (b := true) ⟨o, ho, hc⟩ isSubtype_stop (wpAny_pure (hQ _ hk)))
 unfold pyNext
 refine wpAny_bind (wpAny_attempt (wpAny_callSpecial?_slot (name := Str.ofString "__next__") hT F.slot_zip_next (wpAny_call_entry F.slot_zip_next hT F.entry_zip_next ?_ (F.args_zip_next_1 _))))
 refine wpAny_bind (m := field (.ref z) 2) (zf2 hz (wpAny_bind (m := field (.ref z) 3) (zf3 hz (wpAny_bind (wpAny_seqItems hTI rfl ?_)))))
 refine wpAny_bind (m := Builtin.SmallTypes.ownedTupleIsFree (.ref z)) (wpAny_bind (m := field (.ref z) 0) (zf0 hz (wpAny_pure ?_)))
 simp only [if_true]
 refine wpAny_bind (wpAny_rule (wpAny_bind (wpAny_field hz rfl (x := .ref TO) rfl (wpAny_bind (wpAny_setField_rec hz (by simp) fun g1 hz1 s1 => ?_)))))
 replace hz1 : IsZip g1 z TI TO .ellipsis := hz1
 refine wpAny_bind ?_
 simp only [List.forIn_cons, List.forIn_nil, List.zipIdx_cons, List.zipIdx_nil]
 refine wpAny_bind (wpAny_bind (wpAny_onRaise (wpAny_bind (m := Builtin.SmallTypes.nextOf (.ref i1)) ?_)))
 cases hx : xs[k]? with
 | none =>
  refine (sub_end hh (h1.ext s1.extBut D.i1z) (hl1.ext s1.extBut D.l1z) hx fun g2 e s2 he => ?_)
  obtain ⟨oe, hoe, hce⟩ := he
  have hz2 : IsZip g2 z TI TO .ellipsis := s2 _ _ D.i1z.symm hz1
  have hez : e ≠ z := fun q => by subst q; rw [hz2] at hoe; cases hoe; simp at hce
  refine wpAny_setField_rec hz2 (by simp) fun g3 _ s3 => fin g3 e (fun c o hc q => ?_) ⟨oe, s3.extBut _ _ hez hoe, hce⟩
  obtain ⟨c1, _, c3, _⟩ := out hc
  exact s3.extBut _ _ c1 (s2 _ _ c3 (s1.extBut _ _ c1 q))
 | some x =>
  have hy : ys[k]? = none := by rcases hend with q | q; rw [hx] at q; cases q; exact q
  refine (sub_item (h1.ext s1.extBut D.i1z) (hl1.ext s1.extBut D.l1z) hx fun g2 n1 s2 => wpAny_pure ?_)
  have hTO2 : IsPair g2 TO a b := s2.extBut _ _ D.TOi1 (s1.extBut _ _ D.TOz hTO)
  refine wpAny_bind (wpAny_seqItems hTO2 rfl (wpAny_bind (wpAny_updateSeq_pair hTO2 fun g3 hTO3 s3 => ?_)))
  refine wpAny_bind (wpAny_letGo (wpAny_pure (wpAny_bind (wpAny_bind (wpAny_onRaise ?_)))))
  refine wpAny_bind (m := Builtin.SmallTypes.nextOf (.ref i2)) (sub_end hh (((h2.ext s1.extBut D.i2z).ext s2.extBut D.i12.symm).ext s3.extBut D.TOi2.symm) (((hl2.ext s1.extBut D.l2z).ext s2.extBut D.l2i1).ext s3.extBut D.l2TO) hy fun g4 e s4 he => ?_)
  obtain ⟨oe, hoe, hce⟩ := he
  have hz4 : IsZip g4 z TI TO .ellipsis := s4 _ _ D.i2z.symm (s3.extBut _ _ D.TOz.symm (s2.extBut _ _ D.i1z.symm hz1))
  have hez : e ≠ z := fun q => by subst q; rw [hz4] at hoe; cases hoe; simp at hce
  refine wpAny_setField_rec hz4 (by simp) fun g5 _ s5 => fin g5 e (fun c o hc q => ?_) ⟨oe, s5.extBut _ _ hez hoe, hce⟩
  obtain ⟨c1, c2, c3, c4⟩ := out hc
  exact s5.extBut _ _ c1 (s4 _ _ c4 (s3.extBut _ _ c2 (s2.extBut _ _ c3 (s1.extBut _ _ c1 q))))
end
def zit (t : Bool) : String := if t then "tuple_iterator" else "list_iterator"
abbrev itO (t : Bool) (l : Addr) : Obj := { cls := .type (zit t), data := .fields #[.ref l, .int 0 0] }
abbrev zA (t1 : Bool) (h : Heap) (l1 : Addr) : Heap := h.push (itO t1 l1)
abbrev zB (t1 t2 : Bool) (h : Heap) (l1 l2 : Addr) : Heap := (zA t1 h l1).push (itO t2 l2)
abbrev zC (t1 t2 : Bool) (h : Heap) (l1 l2 : Addr) : Heap := (zB t1 t2 h l1 l2).push { cls := .type "tuple", data := .seq #[.ref h.objs.size, .ref (zA t1 h l1).objs.size] }
abbrev zD (t1 t2 : Bool) (h : Heap) (l1 l2 : Addr) : Heap := (zC t1 t2 h l1 l2).push { cls := .type "tuple", data := .seq #[.none, .none] }
abbrev zE (t1 t2 : Bool) (h : Heap) (l1 l2 : Addr) : Heap := (zD t1 t2 h l1 l2).push { cls := .type "zip", data := .fields #[.none, .bool false, .bool false, .ref (zB t1 t2 h l1 l2).objs.size, .ref (zC t1 t2 h l1 l2).objs.size] }
theorem pyIter_sub {prog : Program} {w : World} {A : Around} {E : Value → Shared → Prop} {s : Shared} {t : Bool} {l : Addr} {its : Array Value} {Q : Value → Shared → Prop} (h : SubS t s.heap l its)
  (hQ : Q (.ref s.heap.objs.size) { s with heap := s.heap.push (itO t l) }) : wpAny (model prog w) A (pyIter (.ref l)) Q E s := by
 cases t
 ·exact wpAny_pyIter_list (show s.heap.IsList l its from h) hQ
 ·exact wpAny_pyIter_tuple (show s.heap.IsTuple l its from h) hQ
theorem zip_new (t1 t2 : Bool) (l1 l2 : Addr) (xs ys : Array Value) :
  Meets (Builtin.«zip.__new__» ⟨[.type "zip", .ref l1, .ref l2], []⟩) (fun _ R s => SubS t1 s.heap l1 xs ∧ SubS t2 s.heap l2 ys ∧ R (.ok (.ret (.ref (zD t1 t2 s.heap l1 l2).objs.size))) { s with heap := zE t1 t2 s.heap l1 l2 }) :=
 .of_wp fun prog w A R s h => by
  rcases s with ⟨hp, g, d, tk, os⟩
  rcases h with ⟨hl1, hl2, h⟩
  have hsub := sub_zip
  have hL1 : SubS t1 (Shared.heap ⟨hp, g, d, tk, os⟩) l1 xs := hl1
  have hL2 : SubS t2 (Shared.heap ⟨hp.push (itO t1 l1), g, d, tk, os⟩) l2 ys := hl2.keep fun o e => Heap.get?_push_of_some _ e
  wp_walk using pyIter_sub hL1, pyIter_sub hL2
  exact ⟨_, rfl, h⟩
section
variable {prog : Program} {w : World} {A : Around} {E : Value → Shared → Prop} {s : Shared}
theorem call_zip {t1 t2 : Bool} {l1 l2 : Addr} {xs ys : Array Value} {Q : Value → Shared → Prop} (hl1 : SubS t1 s.heap l1 xs) (hl2 : SubS t2 s.heap l2 ys)
  (h : ∀ h', ZipAt t1 t2 (s.heap.objs.size + 4) (s.heap.objs.size + 2) (s.heap.objs.size + 3) s.heap.objs.size (s.heap.objs.size + 1) l1 l2 0 h' → (∀ c o, s.heap.get? c = some o → h'.get? c = some o) → Q (.ref (s.heap.objs.size + 4)) { s with heap := h' }) : wpAny (model prog w) A (call (.type "zip") [.ref l1, .ref l2]) Q E s := by
 refine callType_new F.called_zip (by decide) (F.typeCall_zip_2 _ _) (F.newCall_zip_2 _ _) (fun obj => F.args_object_init_3 obj _ _) F.entry_zip_new (zip_new t1 t2 l1 l2 xs ys) ⟨hl1, hl2, ?_⟩
 have z1 : (zA t1 s.heap l1).objs.size = s.heap.objs.size + 1 := Heap.size_push ..
 have z2 : (zB t1 t2 s.heap l1 l2).objs.size = s.heap.objs.size + 2 := by rw [Heap.size_push, z1]
 have z3 : (zC t1 t2 s.heap l1 l2).objs.size = s.heap.objs.size + 3 := by rw [Heap.size_push, z2]
 have z4 : (zD t1 t2 s.heap l1 l2).objs.size = s.heap.objs.size + 4 := by rw [Heap.size_push, z3]
 have up1 : ∀ c o, (zD t1 t2 s.heap l1 l2).get? c = some o → (zE t1 t2 s.heap l1 l2).get? c = some o := fun c o e => Heap.get?_push_of_some _ e
 have up2 : ∀ c o, (zC t1 t2 s.heap l1 l2).get? c = some o → (zE t1 t2 s.heap l1 l2).get? c = some o := fun c o e => up1 c o (Heap.get?_push_of_some _ e)
 have up3 : ∀ c o, (zB t1 t2 s.heap l1 l2).get? c = some o → (zE t1 t2 s.heap l1 l2).get? c = some o := fun c o e => up2 c o (Heap.get?_push_of_some _ e)
 have up4 : ∀ c o, (zA t1 s.heap l1).get? c = some o → (zE t1 t2 s.heap l1 l2).get? c = some o := fun c o e => up3 c o (Heap.get?_push_of_some _ e)
 have g5 : (zE t1 t2 s.heap l1 l2).get? (s.heap.objs.size + 4) = some { cls := .type "zip", data := .fields #[.none, .bool false, .bool false, .ref (s.heap.objs.size + 2), .ref (s.heap.objs.size + 3)] } := by
  rw [← z4, ← z3, ← z2]; exact Heap.get?_push_size _ rfl
 have g4 : (zE t1 t2 s.heap l1 l2).get? (s.heap.objs.size + 3) = some { cls := .type "tuple", data := .seq #[.none, .none] } := by
  rw [← z3]; exact up1 _ _ (Heap.get?_push_size _ rfl)
 have g3 : (zE t1 t2 s.heap l1 l2).get? (s.heap.objs.size + 2) = some { cls := .type "tuple", data := .seq #[.ref s.heap.objs.size, .ref (s.heap.objs.size + 1)] } := by
  rw [← z2, ← z1]; exact up2 _ _ (Heap.get?_push_size _ rfl)
 have g2 : (zE t1 t2 s.heap l1 l2).get? (s.heap.objs.size + 1) = some (itO t2 l2) := by
  rw [← z1]; exact up3 _ _ (Heap.get?_push_size _ rfl)
 have g1 : (zE t1 t2 s.heap l1 l2).get? s.heap.objs.size = some (itO t1 l1) := up4 _ _ (Heap.get?_push_size _ rfl)
 have sub : ∀ {t : Bool} {i l : Addr}, (zE t1 t2 s.heap l1 l2).get? i = some (itO t l) → SubI t (zE t1 t2 s.heap l1 l2) i l 0 := fun {t i l} e => by
  cases t
  ·exact ⟨_, e, rfl, rfl⟩
  ·exact ⟨_, e, rfl, rfl⟩
 show _ ∧ _
 rw [z4]
 exact ⟨⟨_, g5, rfl⟩, h _ ⟨g5, g3, ⟨_, _, g4⟩, sub g1, sub g2⟩ fun c o x => up4 c o (Heap.get?_push_of_some _ x)⟩
end
theorem apart_new {n l1 l2 : Nat} (h1 : l1 < n) (h2 : l2 < n) : Apart (n + 4) (n + 2) (n + 3) n (n + 1) l1 l2 where
 d := by
  show List.Nodup ([n + 4, n + 2, n + 3, n, n + 1] : List Nat)
  simp only [List.nodup_cons, List.mem_cons, List.not_mem_nil, or_false, not_or, List.nodup_nil, and_true, not_false_eq_true]; omega
 m1 := by
  show ¬ (l1 ∈ ([n + 4, n + 2, n + 3, n, n + 1] : List Nat))
  simp only [List.mem_cons, List.not_mem_nil, or_false, not_or]; omega
 m2 := by
  show ¬ (l2 ∈ ([n + 4, n + 2, n + 3, n, n + 1] : List Nat))
  simp only [List.mem_cons, List.not_mem_nil, or_false, not_or]; omega
def SqB (t : Bool) (K : PySem.W.Frag) (H : Hp) (a : Addr) (xs : List V) : Prop := if t then SqT K H a xs else SqL K H a xs
def Itz (t1 t2 : Bool) (K : PySem.W.Frag) (a b : Addr) : It where
 go := fun i H => ∃ xs ys x y, SqB t1 K H a xs ∧ SqB t2 K H b ys ∧ xs[i]? = some x ∧ ys[i]? = some y
 yld := fun i H v H' => ∃ T x y, v = .ref T ∧ H T = none ∧ H' = upd H T (.tup [x, y]) ∧ (∀ xs, SqB t1 K H a xs → xs[i]? = some x) ∧ ∀ ys, SqB t2 K H b ys → ys[i]? = some y
 stop := fun i H => ∃ xs ys, SqB t1 K H a xs ∧ SqB t2 K H b ys ∧ (xs.length ≤ i ∨ ys.length ≤ i)
theorem Inv.sqb {X : Cx} {pins : List (Addr × Obj)} {σ : St} {H : Hp} {s : Shared} {t : Bool} {a : Addr} {xs : List V} (I : Inv X pins σ H s) (h : SqB t X.kx H a xs) : ∃ its : List Value, Vals xs its ∧ SubS t s.heap a its.toArray ∧ xs.length ≤ sizeLine := by
 cases t
 ·obtain ⟨its, r, p, z⟩ := I.list (show SqL X.kx H a xs from h); exact ⟨its, r, p.isList, z⟩
 ·obtain ⟨its, r, p, z⟩ := I.tuple (show SqT X.kx H a xs from h); exact ⟨its, r, p, z⟩
theorem Inv.sqb_inj {X : Cx} {pins : List (Addr × Obj)} {σ : St} {H : Hp} {s : Shared} {t : Bool} {a : Addr} {xs ys : List V} (I : Inv X pins σ H s) (h : SqB t X.kx H a xs) (h' : SqB t X.kx H a ys) : xs = ys := by
 cases t
 ·exact I.list_inj (show SqL X.kx H a xs from h) (show SqL X.kx H a ys from h')
 ·exact I.tuple_inj (show SqT X.kx H a xs from h) (show SqT X.kx H a ys from h')
theorem turn_zip {P : Program} {w : World} {K : PySem.W.Frag} {elts : List Expr} {x1 : Nat} {pos : Pos} {t1 t2 : Bool} {a b z TI TO i1 i2 : Addr} (D : Apart z TI TO i1 i2 a b) : Turn P w K (.Tuple elts x1 pos) (Itz t1 t2 K a b) [z, TI, TO, i1, i2] z (fun i h => ZipAt t1 t2 z TI TO i1 i2 a b i h) where
 mem := by simp
 obj := fun i h st c hc => by
  obtain ⟨hz, hTI, ⟨u, v, hTO⟩, h1, h2⟩ := st
  simp only [List.mem_cons, List.not_mem_nil, or_false] at hc
  rcases hc with rfl | rfl | rfl | rfl | rfl
  ·exact ⟨_, hz, fun v q => by cases q⟩
  ·exact ⟨_, hTI, fun v q => by cases q⟩
  ·exact ⟨_, hTO, fun v q => by cases q⟩
  ·obtain ⟨o, vs, e, d⟩ := h1.obj; exact ⟨o, e, fun v q => by rw [d] at q; cases q⟩
  ·obtain ⟨o, vs, e, d⟩ := h2.obj; exact ⟨o, e, fun v q => by rw [d] at q; cases q⟩
 keep := fun i h h' st k => by
  obtain ⟨hz, hTI, ⟨u, v, hTO⟩, h1, h2⟩ := st
  exact ⟨k z (by simp) _ hz, k TI (by simp) _ hTI, ⟨u, v, k TO (by simp) _ hTO⟩, h1.keep fun o e => k i1 (by simp) o e, h2.keep fun o e => k i2 (by simp) o e⟩
 item := by
  intro X hP hw hK hc i pins s σ H E I hf st hg
  subst hP hw hK
  obtain ⟨xs, ys, x, y, hq1, hq2, hx, hy⟩ := hg
  obtain ⟨its1, rv1, p1, _⟩ := I.sqb hq1
  obtain ⟨its2, rv2, p2, _⟩ := I.sqb hq2
  obtain ⟨u1, e1, ru1⟩ := rv1.get hx
  obtain ⟨u2, e2, ru2⟩ := rv2.get hy
  refine zip_item D st p1 p2 (x := u1) (y := u2) (by simpa using e1) (by simpa using e2) fun h' a1 a2 a3 a4 a5 a6 a7 => ⟨.ref s.heap.objs.size, rfl, ?_⟩
  refine wpAny_letOwnedTupleGo_zip (s := { s with heap := h' }) a1 fun h2 b1 sb => ?_
  have hfT : H s.heap.objs.size = none := I.hok.fresh (Nat.le_refl _)
  have sfp : ∀ c ∈ [z, TI, TO, i1, i2], c < s.heap.objs.size := fun c hc => by
   obtain ⟨hz, hTI, ⟨u, v, hTO⟩, h1, h2⟩ := st
   simp only [List.mem_cons, List.not_mem_nil, or_false] at hc
   rcases hc with rfl | rfl | rfl | rfl | rfl
   ·exact Heap.lt_size hz
   ·exact Heap.lt_size hTI
   ·exact Heap.lt_size hTO
   ·obtain ⟨o, vs, e, d⟩ := h1.obj; exact Heap.lt_size e
   ·obtain ⟨o, vs, e, d⟩ := h2.obj; exact Heap.lt_size e
  have nz : ∀ c ∈ [z, TI, TO, i1, i2], c ≠ s.heap.objs.size := fun c hc => Nat.ne_of_lt (sfp c hc)
  have dd := D.old
  have up : ∀ c o, c ≠ z → h'.get? c = some o → h2.get? c = some o := fun c o n e => sb.extBut c o n e
  have T2 : IsPair h2 s.heap.objs.size u1 u2 := up _ _ (Ne.symm (nz z (by simp))) a5
  have I0 : Inv X pins σ (upd H s.heap.objs.size (.tup [x, y])) { s with heap := s.heap.push { cls := .type "tuple", data := .seq #[u1, u2] }, toks := s.toks } :=
   I.laid (o := .tup [x, y]) (fun c o e => Heap.get?_push_of_some _ e) (Nat.le_refl _) ⟨by show 2 ≤ sizeLine; rw [sizeLine_eq]; decide, [u1, u2], .cons ru1 (.cons ru2 .nil), PlainT.new _ _⟩
  have Il : Inv X pins σ (upd H s.heap.objs.size (.tup [x, y])) { s with heap := h2, toks := s.toks } := by
   refine Inv.turneds (s := { s with heap := s.heap.push { cls := .type "tuple", data := .seq #[u1, u2] }, toks := s.toks }) (h' := h2) (t' := s.toks) (ch := [z, TI, TO, i1, i2]) I0 (fun c o hc e => ?_) fun c hc => ?_
   ·rcases Heap.get?_push_cases e with ⟨rfl, rfl⟩ | e
    ·exact T2
    ·exact up c o (fun q => hc (by simp [q])) (a7 c o (fun q => hc (by simp only [List.mem_cons, List.not_mem_nil, or_false] at q ⊢; rcases q with q | q | q | q <;> simp [q])) e)
   ·obtain ⟨f0, f1⟩ := hf c hc
    exact ⟨by rw [upd_ne (nz c hc)]; exact f0, f1⟩
  refine ⟨.ref s.heap.objs.size, upd H s.heap.objs.size (.tup [x, y]), Il, rfl, ⟨_, x, y, rfl, hfT, rfl, fun zs hz => by rw [I.sqb_inj hz hq1]; exact hx, fun zs hz => by rw [I.sqb_inj hz hq2]; exact hy⟩, ⟨b1, up _ _ dd.TIz (a7 _ _ (by simp only [List.mem_cons, List.not_mem_nil, or_false, not_or]; exact ⟨dd.TIz, dd.TITO, dd.TIi1, dd.TIi2⟩) st.ti), ⟨_, _, up _ _ dd.TOz a2⟩, a3.keep fun o e => up _ o dd.i1z e, a4.keep fun o e => up _ o dd.i2z e⟩, fun c hc => ?_⟩
  rw [upd_ne (nz c hc)]
  exact (hf c hc).1
 done := by
  intro X hP hw hK hc i pins s σ H E I hf st hg
  subst hP hw hK
  obtain ⟨xs, ys, hq1, hq2, he⟩ := hg
  obtain ⟨its1, rv1, p1, _⟩ := I.sqb hq1
  obtain ⟨its2, rv2, p2, _⟩ := I.sqb hq2
  have l1 := rv1.length
  have l2 := rv2.length
  refine zip_end (I.ok.hd hc) D st p1 p2 (by rcases he with q | q; (left; simp; omega); (right; simp; omega)) fun h' hk => ⟨rfl, I.turneds (t' := s.toks) (ch := [z, TI, TO, i1, i2]) (fun c o hc e => hk c o (fun q => hc (by simp only [List.mem_cons, List.not_mem_nil, or_false] at q ⊢; rcases q with q | q | q | q <;> simp [q])) e) hf⟩
 self := fun _ _ _ _ _ st h => wpAny_pyIter_zip st.z h
section
variable {X : Cx} {elts : List Expr} {x1 : Nat} {tpos : Pos} {a b : Expr} {ws : WA} {p pos : Pos}
def iZip (K : PySem.W.Frag) (ta : TA) : TI := fun σ H Rq => ta σ H fun vs H1 => ∃ t1 t2 l1 l2, vs = [.ref l1, .ref l2] ∧ (∃ xs, SqB t1 K H1 l1 xs) ∧ (∃ ys, SqB t2 K H1 l2 ys) ∧ Rq (Itz t1 t2 K l1 l2) H1
theorem bt_zip' : bootBuiltins "zip" = some (.type "zip") := by decide +kernel
theorem pi_zip {ta : TA} (hg : Gl X "zip") (hm : X.mg "zip" = none) (ha : PA X [a, b] ta) (hs : starEach [a, b] X.env = [(false, eval a X.env), (false, eval b X.env)] := by first | exact (star_cons rfl).trans (congrArg _ (star_one rfl)) | rfl) (hs2 : starEach [b] X.env = [(false, eval b X.env)] := by first | exact star_one rfl | rfl) : PI X (.Tuple elts x1 tpos) (.Call (.Name "zip" p) [a, b] [] pos) (iZip X.K ta) := by
 intro pins s σ H Rq I h
 refine Call_ (ld_blt I hg hm bt_zip' (PyProof.Rows.callWith_type1 (thn (ha pos pins s σ H _ I h) fun us s1 ⟨vs, H1, I1, r1, q1⟩ => ?_) (by rw [hs, hs2]) (by rw [hs2]; rfl)))
 obtain ⟨t1, t2, l1, l2, e, ⟨xs, h1⟩, ⟨ys, h2⟩, q⟩ := q1
 subst e
 cases r1 with
 | cons r rr =>
  cases rr with
  | cons r' rr =>
   cases rr
   cases r
   cases r'
   obtain ⟨its1, rv1, p1, _⟩ := I1.sqb h1
   obtain ⟨its2, rv2, p2, _⟩ := I1.sqb h2
   refine call_zip p1 p2 fun h' Z hk => ?_
   refine wpAny_pyIter_zip Z.z ?_
   have lt : ∀ {t : Bool} {l : Addr} {its : Array Value}, SubS t s1.heap l its → l < s1.heap.objs.size := fun {t l its} p => by
    cases t
    ·obtain ⟨o, e, _⟩ := (show s1.heap.IsList l its from p); exact Heap.lt_size e
    ·obtain ⟨o, e, _⟩ := (show s1.heap.IsTuple l its from p); exact Heap.lt_size e
   refine ⟨s1.heap.objs.size + 4, _, _, _, H1, rfl, I1.kept (t' := s1.toks) hk, turn_zip (apart_new (lt p1) (lt p2)), Z, fun c hc => ?_, q⟩
   have hle : s1.heap.objs.size ≤ c := by
    have hc' : c ∈ ([s1.heap.objs.size + 4, s1.heap.objs.size + 2, s1.heap.objs.size + 3, s1.heap.objs.size, s1.heap.objs.size + 1] : List Nat) := hc
    simp only [List.mem_cons, List.not_mem_nil, or_false] at hc'
    rcases hc' with rfl | rfl | rfl | rfl | rfl <;> first | exact Nat.le_add_right _ _ | exact Nat.le_refl _
   exact I1.fpOk hle (I1.hok.fresh hle)
def imS : R → Option (Bool × List PyData)
 | .imm (.tuple ds) => some (true, ds)
 | .imm (.list ds) => some (false, ds)
 | _ => none
def zipD (ds es : List PyData) : List PyData := (ds.zip es).map fun p => .tuple [p.1, p.2]
def wiZip (ws : WA) : WI := fun m K => ws m fun rs m' => match rs with | [r1, r2] => ∃ t1 ds t2 es, imS r1 = some (t1, ds) ∧ imS r2 = some (t2, es) ∧ K ⟨zipD ds es, none⟩ m' | _ => False
theorem sqb_of {K : Kd} {α : Al} {H0 H : Hp} {r : R} {v : V} {t : Bool} {ds : List PyData} (h : RelR K α H0 H r v) (e : imS r = some (t, ds)) : ∃ l xs, v = .ref l ∧ DenAll K H ds xs ∧ (SqB t K H l xs) ∧ ∀ H1, Pers H H1 → SqB t K H1 l xs := by
 unfold imS at e
 split at e
 ·cases e
  obtain ⟨l, xs, e, f, g⟩ := tup_of_den (show Den K H (.tuple ds) v from h)
  exact ⟨l, xs, e, g, f, fun H1 p => f.mono p⟩
 ·cases e
  have h' : Den K H (.list ds) v := h
  simp only [Den] at h'
  obtain ⟨l, xs, e, f, g⟩ := h'
  exact ⟨l, xs, e, g, f.sq, fun H1 p => (f.mono p).sq⟩
 ·cases e
theorem zipD_length (ds es : List PyData) : (zipD ds es).length = min ds.length es.length := by simp [zipD]
theorem zipD_get {ds es : List PyData} {i : Nat} {d e : PyData} (h1 : ds[i]? = some d) (h2 : es[i]? = some e) : (zipD ds es)[i]? = some (.tuple [d, e]) := by
 unfold zipD
 rw [List.getElem?_map, (List.getElem?_zip_eq_some (z := (d, e))).mpr ⟨h1, h2⟩]; rfl
theorem wks_zip {K : Kd} {t1 t2 : Bool} {l1 l2 : Addr} {ds es : List PyData} : Wks K (Itz t1 t2 K l1 l2) (zipD ds es) fun H => ∃ xs ys, SqB t1 K H l1 xs ∧ SqB t2 K H l2 ys ∧ DenAll K H ds xs ∧ DenAll K H es ys where
 stop := fun H ⟨xs, ys, q1, q2, g1, g2⟩ => ⟨xs, ys, q1, q2, by rw [zipD_length, ← g1.length, ← g2.length]; omega⟩
 go := fun i H hi ⟨xs, ys, q1, q2, g1, g2⟩ => by
  rw [zipD_length] at hi
  exact ⟨xs, ys, xs[i]'(by rw [← g1.length]; omega), ys[i]'(by rw [← g2.length]; omega), q1, q2, List.getElem?_eq_getElem _, List.getElem?_eq_getElem _⟩
 yld := fun i H x H' hi ⟨xs, ys, q1, q2, g1, g2⟩ y => by
  obtain ⟨T, u, v, rfl, hT, rfl, e1, e2⟩ := y
  obtain ⟨d, h1, k1⟩ := g1.get2 (e1 xs q1)
  obtain ⟨e, h2, k2⟩ := g2.get2 (e2 ys q2)
  have gr : ∀ b o, H b = some o → upd H T (.tup [u, v]) b = some o := fun b o q => by rw [upd_ne (ne_of_none q hT)]; exact q
  have pe : Pers H (upd H T (.tup [u, v])) := ⟨fun b xs q => gr b _ q, fun b o u q => gr b _ q⟩
  refine ⟨gr, _, zipD_get h1 h2, ?_⟩
  exact den_tup (SqT.of upd_same) (DenAll.cons (k1.mono pe) (DenAll.cons (k2.mono pe) DenAll.nil))
theorem mi_zip (hm : X.mg "zip" = none) (ha : MA X [a, b] ws) (hg : Gl X "zip" := by rfl) (hs : starEach [a, b] X.env = [(false, eval a X.env), (false, eval b X.env)] := by first | exact (star_cons rfl).trans (congrArg _ (star_one rfl)) | rfl) (hs2 : starEach [b] X.env = [(false, eval b X.env)] := by first | exact star_one rfl | rfl) : MI X (.Tuple elts x1 tpos) (.Call (.Name "zip" p) [a, b] [] pos) (wiZip ws) := (pi_zip hg hm ha hs hs2).wk fun σ H Rq ⟨α, m, Kc, Rl, hw, fin⟩ => by
 refine ⟨α, m, _, Rl, hw, fun rs m' vs H' k n Rl' rr F => ?_⟩
 match rs, rr, k with
 | [r1, r2], .cons h1 (.cons h2 .nil), k =>
  obtain ⟨t1, ds, t2, es, e1, e2, k⟩ := k
  obtain ⟨l1, xs, rfl, g1, q1, p1⟩ := sqb_of h1 e1
  obtain ⟨l2, ys, rfl, g2, q2, p2⟩ := sqb_of h2 e2
  refine ⟨t1, t2, l1, l2, rfl, ⟨xs, q1⟩, ⟨ys, q2⟩, fin _ m' _ H' k n Rl' F ⟨fun H => ∃ xs ys, SqB t1 X.kx H l1 xs ∧ SqB t2 X.kx H l2 ys ∧ DenAll X.kx H ds xs ∧ DenAll X.kx H es ys ∧ (∀ H1, Pers H H1 → SqB t1 X.kx H1 l1 xs) ∧ ∀ H1, Pers H H1 → SqB t2 X.kx H1 l2 ys, wks_zip.imp fun H ⟨xs, ys, a, b, c, d, _⟩ => ⟨xs, ys, a, b, c, d⟩, ⟨xs, ys, q1, q2, g1, g2, p1, p2⟩, fun Ha Hb ⟨xs, ys, a, b, c, d, pa, pb⟩ pe => ⟨xs, ys, pa Hb pe, pb Hb pe, c.mono pe, d.mono pe, fun H1 p => pa H1 (pe.trans p), fun H1 p => pb H1 (pe.trans p)⟩⟩⟩
theorem x_zip {m : MSt} {Ks : Src → MSt → Prop} (h : ws m fun rs m' => match rs with | [r1, r2] => ∃ t1 ds t2 es, imS r1 = some (t1, ds) ∧ imS r2 = some (t2, es) ∧ Ks ⟨zipD ds es, none⟩ m' | _ => False) : wiZip ws m Ks := h
end
theorem mi_zip' {X : Cx} {elts : List Expr} {x1 : Nat} {tpos : Pos} {a b : Expr} {ws : WA} {p pos : Pos} (hm : X.mg "zip" = none) (ha : EA X [a, b] ws) (hg : Gl X "zip" := by rfl) (hs : starEach [a, b] X.env = [(false, eval a X.env), (false, eval b X.env)] := by first | exact (star_cons rfl).trans (congrArg _ (star_one rfl)) | rfl) (hs2 : starEach [b] X.env = [(false, eval b X.env)] := by first | exact star_one rfl | rfl) : EI X (.Tuple elts x1 tpos) (.Call (.Name "zip" p) [a, b] [] pos) (wiZip ws) := ⟨mi_zip hm ha.h hg hs hs2⟩
theorem gmap {α β : Type} {xs : List α} {i : Nat} {y : β} {f : α → β} (h : (xs.map f)[i]? = some y) : ∃ x, xs[i]? = some x ∧ y = f x ∧ i < xs.length := by
 rw [List.getElem?_map] at h
 cases q : xs[i]? with
 | none => rw [q] at h; cases h
 | some x => rw [q] at h; exact ⟨x, rfl, (Option.some.inj h).symm, (List.getElem?_eq_some_iff.mp q).1⟩
theorem get_range {lo : Int} {n i : Nat} {d : PyData} (h : (rangeD lo n)[i]? = some d) : i < n ∧ d = .int (lo + (i : Int)) := by
 have hi : i < n := by
  have := (List.getElem?_eq_some_iff.mp h).1
  rwa [rangeD_length] at this
 rw [rangeD_get hi] at h
 exact ⟨hi, (Option.some.inj h).symm⟩
theorem x_bindRen {n k : Nat} {P : MSt → Prop} {m : MSt} (ρ : List Nat) (m2 : MSt) (N : Ren ρ (m.setV n (.obj k)) m2) (h : P m2) : bindR n P m (.obj k) := .inr ⟨ρ, m2, N, h⟩
theorem x_bindIRen {n : Nat} {d : PyData} {P : MSt → Prop} {m : MSt} (ρ : List Nat) (m2 : MSt) (N : Ren ρ (m.setV n (.imm d)) m2) (h : P m2) : bindR n P m (.imm d) := .inr ⟨ρ, m2, N, h⟩
theorem x_bindNRen {n : Nat} {ds : List PyData} {P : MSt → Prop} {m : MSt} (ρ : List Nat) (m2 : MSt) (N : Ren ρ { vs := m.vs.set n (some (.obj m.os.length)), os := m.os ++ [ds], np := m.np } m2) (h : P m2) : bindR n P m (.new ds) := .inl (.inr ⟨ρ, m2, N, h⟩)
def RenO (ρ : List Nat) (o : Option R) : Option R → Prop
 | none => True
 | some r => RenR ρ (some o) r
def RenVs (ρ : List Nat) : List (Option R) → List (Option R) → Prop
 | o :: os, q :: qs => RenO ρ o q ∧ RenVs ρ os qs
 | [], [] => True
 | _, _ => False
theorem RenVs.len {ρ : List Nat} : ∀ {os qs : List (Option R)}, RenVs ρ os qs → qs.length = os.length
 | [], [], _ => rfl
 | _ :: _, _ :: _, h => congrArg (· + 1) (RenVs.len h.2)
 | [], _ :: _, h => h.elim
 | _ :: _, [], h => h.elim
theorem RenVs.get {ρ : List Nat} : ∀ {os qs : List (Option R)}, RenVs ρ os qs → ∀ (j : Nat) (r : R), qs[j]? = some (some r) → RenR ρ os[j]? r
 | o :: os, q :: qs, h, 0, r, e => by
  have e' : q = some r := by simpa using e
  subst e'
  exact h.1
 | o :: os, q :: qs, h, j + 1, r, e => by simpa using RenVs.get h.2 j r (by simpa using e)
 | [], [], _, _, _, e => by simp at e
 | [], _ :: _, h, _, _, _ => h.elim
 | _ :: _, [], h, _, _, _ => h.elim
theorem ren_of {ρ : List Nat} {m m2 : MSt} (nd : decide ρ.Nodup = true) (lt : (ρ.all fun k => Nat.blt k m.os.length) = true) (pre : ρ.take m.np = List.range m.np) (npl : Nat.ble m.np ρ.length = true) (os : m2.os = ρ.map fun k => m.os.getD k []) (np : m2.np = m.np) (vs : RenVs ρ m.vs m2.vs) : Ren ρ m m2 :=
 ⟨of_decide_eq_true nd, fun k hk => Nat.blt_eq.mp (List.all_eq_true.mp lt k hk), pre, Nat.le_of_ble_eq_true npl, os, np, vs.len, fun j r e => vs.get j r e⟩
theorem get_zip {ds es : List PyData} {i : Nat} {d : PyData} (h : (zipD ds es)[i]? = some d) : ∃ a b, ds[i]? = some a ∧ es[i]? = some b ∧ d = .tuple [a, b] := by
 obtain ⟨p, h1, rfl, _⟩ := gmap h
 obtain ⟨h2, h3⟩ := List.getElem?_zip_eq_some.mp h1
 exact ⟨p.1, p.2, h2, h3, rfl⟩
theorem fine_str {x : Str} (h : (PyData.str x).shown.length ≤ 40) : Fine 40 0 (.str x) := ⟨rfl, rfl, h, Nat.le_refl _⟩
end L2
namespace M3
def stepL (xs : List (List Nat)) (r : Nat) : List (List Nat) := xs.flatMap fun a => (List.range (r + 1)).map fun k => a ++ [k]
def allL (rs : List Nat) : List (List Nat) := rs.foldl stepL [[]]
def allR : List Nat → List (List Nat)
 | [] => [[]]
 | r :: rs => (List.range (r + 1)).flatMap fun k => (allR rs).map (k :: ·)
theorem fold_step : ∀ (rs : List Nat) (xs : List (List Nat)), rs.foldl stepL xs = xs.flatMap fun a => (allR rs).map (a ++ ·)
 | [], xs => by
  simp [allR]
 | r :: rs, xs => by
  rw [List.foldl_cons, fold_step rs]
  simp only [stepL, allR, List.flatMap_assoc, List.map_flatMap, List.flatMap_map, List.map_map]
  congr 1
  funext a
  congr 1
  funext k
  congr 1
  funext l
  simp
theorem allL_eq (rs : List Nat) : allL rs = allR rs := by
 unfold allL
 rw [fold_step]
 simp
theorem allR_len : ∀ {rs l : List Nat}, l ∈ allR rs → l.length = rs.length
 | [], l, h => by simp [allR] at h; subst h; rfl
 | r :: rs, l, h => by
  simp only [allR, List.mem_flatMap, List.mem_map] at h
  obtain ⟨k, _, l', h, rfl⟩ := h
  simp [allR_len h]
theorem stepL_length (xs : List (List Nat)) (r : Nat) : (stepL xs r).length = xs.length * (r + 1) := by
 unfold stepL
 induction xs with
 | nil => simp
 | cons a xs ih =>
  rw [List.flatMap_cons, List.length_append, ih, List.length_map, List.length_range, List.length_cons, Nat.succ_mul]
  omega
theorem fold_len : ∀ {rs : List Nat} {xs : List (List Nat)}, (∀ r ∈ rs, r ≤ 6) → (rs.foldl stepL xs).length ≤ xs.length * 7 ^ rs.length
 | [], xs, _ => by simp
 | r :: rs, xs, h => by
  rw [List.foldl_cons]
  refine Nat.le_trans (fold_len fun r' h' => h r' (List.mem_cons_of_mem _ h')) ?_
  rw [stepL_length, List.length_cons, Nat.pow_succ, Nat.mul_assoc, Nat.mul_comm (7 ^ rs.length)]
  refine Nat.mul_le_mul_left _ (Nat.mul_le_mul_right _ ?_)
  have := h r List.mem_cons_self
  omega
theorem fold_small {rs : List Nat} (h4 : rs.length ≤ 4) (h : ∀ r ∈ rs, r ≤ 6) : (rs.foldl stepL [[]]).length ≤ 2401 := by
 refine Nat.le_trans (fold_len h) ?_
 have : 7 ^ rs.length ≤ 7 ^ 4 := Nat.pow_le_pow_right (by decide) h4
 simpa using this
theorem stepL_take {xs : List (List Nat)} {r j : Nat} {l : List Nat} (h : xs[j]? = some l) : stepL (xs.take (j + 1)) r = stepL (xs.take j) r ++ (List.range (r + 1)).map fun y => l ++ [y] := by
 unfold stepL
 rw [List.take_add_one, h, List.flatMap_append]
 simp
end M3
set_option maxHeartbeats 4100000
namespace K
open PySem L2
def FeedD (c : Nat) (ds : List PyData) : Prop := ∃ (ns : List Int) (p q r : Int), ds = [.list (ns.map .int), .int p, .int q, .int r] ∧ ns.length ≤ 63 ∧ 0 ≤ p ∧ p ≤ c ∧ 0 ≤ q ∧ 0 ≤ r ∧ r ≤ c
theorem FeedD.mono {c c' : Nat} {ds : List PyData} (h : FeedD c ds) (hc : c ≤ c') : FeedD c' ds := by
 obtain ⟨ns, p, q, r, e, h1, h2, h3, h4, h5, h6⟩ := h
 exact ⟨ns, p, q, r, e, h1, h2, by omega, h4, h5, by omega⟩
def spFeed : SpM := fun as K => ∃ ns : List Int, as = [.imm (.list (ns.map .int))] ∧ ns.length ≤ 63 ∧ ∀ ds, FeedD 0 ds → K (.new ds) []
def spDraw : SpM := fun as K => ∃ (ds : List PyData) (m : Int) (c : Nat), as = [.own ds, .imm (.int m)] ∧ FeedD c ds ∧ c < 1000000000 ∧ 0 < m ∧ m < 1099511627776 ∧ ∀ (r : Int) (ds' : List PyData), 0 ≤ r → r < m → FeedD (c + 1) ds' → K (.imm (.int r)) [ds']
def spShuf : SpM := fun as K => ∃ (fd ds : List PyData) (c : Nat), as = [.own fd, .imm (.list ds)] ∧ FeedD c fd ∧ c < 900000000 ∧ ds.length ≤ 1000 ∧ ∀ (r fd' : List PyData), FeedD (c + ds.length) fd' → r.length = ds.length → (∀ d ∈ r, d ∈ ds) → K (.new r) [fd']
def spLaw : SpM := fun as K => ∃ ns : List Int, as = [.imm (.list (ns.map .int))] ∧ ns.length ≤ 63 ∧ K (.imm (.bool true)) []
def frD (a b : Int) : PyData := .tuple [.int a, .int b]
def spCut : SpM := fun as K => ∃ a b : Nat, as = [.imm (.int a), .imm (.int b)] ∧ a < 1000000000 ∧ 0 < b ∧ b < 1000000000 ∧ K (.imm (frD (a / a.gcd b : Nat) (b / a.gcd b : Nat))) []
structure Srv where
 a : Nat
 b : Nat
 r : Nat
def Srv.d (s : Srv) : PyData := .tuple [.tuple [.int s.a, .int s.b], .int s.r]
structure Srv.Ok (s : Srv) : Prop where
 a1 : 1 ≤ s.a
 a2 : s.a < 1000000
 b1 : 1 ≤ s.b
 b2 : s.b < 1000000
 r1 : 1 ≤ s.r
 r6 : s.r ≤ 6
structure Hall where
 a : Nat
 b : Nat
 ss : List Srv
 mv : Bool
def Hall.d (h : Hall) : PyData := .tuple [.tuple [.int h.a, .int h.b], .tuple (h.ss.map Srv.d), .bool h.mv]
structure Hall.Ok (h : Hall) : Prop where
 a1 : 1 ≤ h.a
 a2 : h.a < 1000000
 b1 : 1 ≤ h.b
 b2 : h.b < 1000000
 n1 : 1 ≤ h.ss.length
 n4 : h.ss.length ≤ 4
 ok : ∀ s ∈ h.ss, s.Ok
def Hall.rs (h : Hall) : List Nat := h.ss.map Srv.r
theorem Hall.rsl (h : Hall) : h.rs.length = h.ss.length := by simp [Hall.rs]
theorem Hall.Ok.r6 {h : Hall} (o : h.Ok) : ∀ r ∈ h.rs, r ≤ 6 := fun r hr => by
 obtain ⟨s, hs, rfl⟩ := List.mem_map.mp hr
 exact (o.ok s hs).r6
theorem Hall.rs_get {h : Hall} {i : Nat} {s : Srv} (e : h.ss[i]? = some s) : h.rs[i]? = some s.r := by simp [Hall.rs, e]
def PairD (d : PyData) : Prop := ∃ a b : Nat, d = .tuple [.int (a : Int), .int (b : Int)] ∧ 1 ≤ a ∧ a ≤ 5 ∧ 1 ≤ b ∧ b ≤ 6
def prD (p : Nat × Nat) : PyData := .tuple [.int (p.1 : Int), .int (p.2 : Int)]
theorem PairD.all : ∀ {sv : List PyData}, (∀ d ∈ sv, PairD d) → ∃ ps : List (Nat × Nat), sv = ps.map prD ∧ ∀ p ∈ ps, 1 ≤ p.1 ∧ p.1 ≤ 5 ∧ 1 ≤ p.2 ∧ p.2 ≤ 6
 | [], _ => ⟨[], rfl, fun _ h => by cases h⟩
 | d :: sv, h => by
  obtain ⟨a, b, rfl, h1, h2, h3, h4⟩ := h d List.mem_cons_self
  obtain ⟨ps, rfl, hp⟩ := PairD.all fun d' h' => h d' (List.mem_cons_of_mem _ h')
  refine ⟨(a, b) :: ps, rfl, fun p hp' => ?_⟩
  rcases List.mem_cons.mp hp' with rfl | z
  ·exact ⟨h1, h2, h3, h4⟩
  ·exact hp p z
theorem sum_le : ∀ {ps : List (Nat × Nat)}, (∀ p ∈ ps, 1 ≤ p.1 ∧ p.1 ≤ 5 ∧ 1 ≤ p.2 ∧ p.2 ≤ 6) → 0 ≤ (ps.map fun p => (p.1 : Int)).sum ∧ (ps.map fun p => (p.1 : Int)).sum ≤ 5 * (ps.length : Int)
 | [], _ => ⟨by decide, by decide⟩
 | p :: ps, h => by
  have h1 := h p List.mem_cons_self
  have h2 := sum_le fun q hq => h q (List.mem_cons_of_mem _ hq)
  rw [List.map_cons, List.sum_cons, List.length_cons]
  omega
def natD (l : List Nat) : List PyData := l.map fun (k : Nat) => .int (k : Int)
def lnD (l : List Nat) : PyData := .tuple (natD l)
theorem natD_length (l : List Nat) : (natD l).length = l.length := by simp [natD]
theorem natD_app (a b : List Nat) : natD (a ++ b) = natD a ++ natD b := by simp [natD]
def spAll : SpM := fun as K => ∃ h : Hall, as = [.imm h.d] ∧ h.Ok ∧ K (.new ((M3.allR h.rs).map lnD)) []
theorem frD_fine {a b : Nat} (h1 : a < 1000000000) (h2 : b < 1000000000) : Fine 33 1 (frD a b) := by
 refine fine_tuple (n := 13) (k := 0) (c := 2) (fun d hd => ?_) (by simp)
 simp at hd
 rcases hd with rfl | rfl
 ·exact fine_int (by omega)
 ·exact fine_int (by omega)
theorem Srv.Ok.fine {s : Srv} (o : s.Ok) : Fine 73 2 s.d := by
 refine fine_tuple (n := 33) (k := 1) (c := 2) (fun d hd => ?_) (by simp)
 simp at hd
 rcases hd with rfl | rfl
 ·exact frD_fine (by have := o.a2; omega) (by have := o.b2; omega)
 ·have := o.r6
  exact (fine_int (by omega)).mono (by decide) (by decide)
theorem Hall.Ok.fine {h : Hall} (o : h.Ok) : Fine 1000 4 h.d := by
 have h1 : Fine 303 3 (.tuple (h.ss.map Srv.d)) := (fine_tuple (n := 73) (k := 2) (c := 4) (fun d hd => by
  obtain ⟨s, hs, rfl⟩ := List.mem_map.mp hd
  exact (o.ok s hs).fine) (by rw [List.length_map]; exact o.n4)).mono (by decide) (by decide)
 refine (fine_tuple (n := 303) (k := 3) (c := 3) (fun d hd => ?_) (by simp)).mono (by decide) (by decide)
 simp at hd
 rcases hd with rfl | rfl | rfl
 ·exact (frD_fine (by have := o.a2; omega) (by have := o.b2; omega)).mono (by decide) (by decide)
 ·exact h1
 ·exact (fine_bool _).mono (by decide) (by decide)
theorem natD_fine {l : List Nat} {c : Nat} (hl : l.length ≤ c) (h : ∀ x ∈ l, x ≤ 1000) : Fine (c * 15 + 3) 1 (lnD l) := by
 refine fine_tuple (n := 13) (k := 0) (c := c) (fun d hd => ?_) (by simpa [natD] using hl)
 simp [natD] at hd
 obtain ⟨x, hx, rfl⟩ := hd
 have := h x hx
 exact fine_int (by omega)
inductive Rule where
 | random | turns | two | least | quick
 | told (ps : List Nat)
def Rule.word : Rule → Str
 | .random => "random" | .turns => "turns" | .two => "two" | .least => "least" | .quick => "quick" | .told _ => "told"
def Rule.d : Rule → PyData
 | .told ps => .tuple [.str "told", lnD ps]
 | r => .tuple [.str r.word]
def Rule.Ok (h : Hall) : Rule → Prop
 | .told ps => ps.length = (M3.allR h.rs).length ∧ ∀ p ∈ ps, p < h.ss.length
 | _ => True
theorem allR_small {rs : List Nat} (h4 : rs.length ≤ 4) (h : ∀ r ∈ rs, r ≤ 6) : (M3.allR rs).length ≤ 2401 := by
 rw [← M3.allL_eq]; exact M3.fold_small h4 h
theorem Rule.Ok.fine {h : Hall} (o : h.Ok) {r : Rule} (k : r.Ok h) : Fine 80000 2 r.d := by
 have w : ∀ x : Str, (PyData.str x).shown.length ≤ 40 → Fine 80000 2 (.tuple [.str x]) := fun x hx => (fine_tuple (n := 40) (k := 0) (c := 1) (fun d hd => by simp at hd; subst hd; exact fine_str hx) (by simp)).mono (by decide) (by decide)
 cases r with
 | random => exact w _ (by decide +kernel)
 | turns => exact w _ (by decide +kernel)
 | two => exact w _ (by decide +kernel)
 | least => exact w _ (by decide +kernel)
 | quick => exact w _ (by decide +kernel)
 | told ps =>
  obtain ⟨k1, k2⟩ := k
  have hl : ps.length ≤ 2401 := by rw [k1]; exact allR_small (by rw [h.rsl]; exact o.n4) o.r6
  have f1 : Fine 36018 1 (lnD ps) := natD_fine hl fun x hx => by have := k2 x hx; have := o.n4; omega
  refine (fine_tuple (n := 36018) (k := 1) (c := 2) (fun d hd => ?_) (by simp)).mono (by decide) (by decide)
  simp at hd
  rcases hd with rfl | rfl
  ·exact (fine_str (by decide +kernel)).mono (by decide) (by decide)
  ·exact f1
def spRule : SpM := fun as K => ∃ (fd : List PyData) (c : Nat) (h : Hall), as = [.own fd, .imm h.d] ∧ h.Ok ∧ FeedD c fd ∧ c < 900000000 ∧ ∀ (r : Rule) (fd' : List PyData), r.Ok h → FeedD (c + 2410) fd' → K (.imm r.d) [fd']
end K
namespace M7
open M3
end M7
namespace K
open PySem L2 M7
def Hall.an (h : Hall) (k : Nat) : Nat := (h.ss.map Srv.a).getD k 0
def Hall.bn (h : Hall) (k : Nat) : Nat := (h.ss.map Srv.b).getD k 0
structure Ord (n : Nat) (o : List Nat) : Prop where
 ne : o ≠ []
 lt : ∀ k ∈ o, k < n
 le : o.length ≤ 4
theorem Hall.srv {h : Hall} {k : Nat} (hk : k < h.ss.length) : ∃ s, h.ss[k]? = some s ∧ h.an k = s.a ∧ h.bn k = s.b ∧ s ∈ h.ss := by
 refine ⟨h.ss[k], List.getElem?_eq_getElem hk, ?_, ?_, List.getElem_mem hk⟩
 ·exact getD_of (by rw [List.getElem?_map, List.getElem?_eq_getElem hk]; rfl)
 ·exact getD_of (by rw [List.getElem?_map, List.getElem?_eq_getElem hk]; rfl)
def stD (l : List Nat) (t : Nat) : PyData := .tuple [lnD l, .int (t : Int)]
theorem rangeD_mem {n : Nat} {d : PyData} (h : d ∈ rangeD 0 n) : ∃ k : Nat, d = .int (k : Int) ∧ k < n := by
 unfold rangeD at h
 simp at h
 obtain ⟨k, hk, rfl⟩ := h
 exact ⟨k, rfl, hk⟩
theorem nats_of : ∀ {n : Nat} {r : List PyData}, (∀ d ∈ r, d ∈ rangeD 0 n) → ∃ ks : List Nat, r = natD ks ∧ ∀ k ∈ ks, k < n
 | n, [], _ => ⟨[], rfl, fun _ h => by cases h⟩
 | n, d :: r, h => by
  obtain ⟨k, rfl, hk⟩ := rangeD_mem (h d List.mem_cons_self)
  obtain ⟨ks, rfl, hks⟩ := nats_of fun d' h' => h d' (List.mem_cons_of_mem _ h')
  refine ⟨k :: ks, rfl, fun k' h' => ?_⟩
  rcases List.mem_cons.mp h' with rfl | z
  ·exact hk
  ·exact hks _ z
def Rule.tl : Rule → List PyData
 | .told ps => [lnD ps]
 | _ => []
theorem Rule.dc (r : Rule) : r.d = .tuple (.str r.word :: r.tl) := by cases r <;> rfl
theorem x_itemD {m : MSt} {Kr : R → Prop} {d x : PyData} {ds : List PyData} {i : Int} (e : d = .tuple ds) (h : atI ds i = some x) (k : Kr (.imm x)) : oItem (.imm d) (.imm (.int i)) m Kr := by
 subst e; exact x_itemT h k
end K
namespace L2
open PySem PySem.Spec PyProof.Rows
section
variable {X : Cx} {o e : Expr} {es : List Expr} {wo : WE} {ws : WA} {apos cpos : Pos}
def wMT (ob : WM) (wo : WE) (ws : WA) : WE := fun m K => wo m fun r m1 => (∃ ds, r = .imm (.tuple ds)) ∧ ws m1 fun rs m2 => ob r rs m2 K
theorem me_tm {name : Str} {id : String} {ob : WM} (slot : Slot "tuple" name id) (hty : typeOf (.builtin id) = pure (.type "method_descriptor")) (hm : MtM X id (mM X.kx ob)) (ho : ME X o wo) (ha : MA X (e :: es) ws)
  (hbase : attributeBase o name X.env (eval o X.env) = eval o X.env := by rfl)
  (hfew : ((backTo cpos (starEach (e :: es) X.env)).all (fun x => !x.1) && (backToKw cpos (keywordEach [] X.env)).all (fun x => x.1.isSome)
   && decide ((e :: es).length + ([] : List Keyword).length + (if ([] : List Keyword).isEmpty then 0 else 1) < 30)) = true := by rfl)
  (hline : (apos.endLine == cpos.line) = true := by rfl) (hs : starEach (e :: es) X.env = (false, eval e X.env) :: starEach es X.env := by first | exact star_cons rfl | rfl) (hplain : (backTo cpos (starEach es X.env)).any (·.1) = false := by rfl) :
  ME X (.Call (.Attribute o name apos) (e :: es) [] cpos) (wMT ob wo ws) := (pe_bm PySem.F.plainAttrs_tuple slot hty hm ho ha hbase hfew hline hs hplain).wk fun σ H Q ⟨α, m, Kc, Rl, hw, fin⟩ => by
 refine ⟨α, m, _, Rl, hw, fun r m1 v H1 k n1 Rl1 rr F1 => ?_⟩
 obtain ⟨⟨ds, rfl⟩, k⟩ := k
 obtain ⟨a, xs, rfl, f, g⟩ := tup_of_den (show Den X.kx H1 (.tuple ds) v from rr)
 refine ⟨.inr (.inl ⟨rfl, xs, f⟩), α, m1, _, Rl1, k, fun rs m2 vs H2 k2 n2 Rl2 rr2 F2 => ?_⟩
 exact ⟨α, m2, σ, H, H1, .imm (.tuple ds), rs, Kc, Rl2, rr.keep Rl Rl1 F2, rr2, k2, fun r m' v H' k n Rl' rr' F => fin r m' v H' k (n.trans (n2.trans n1)) Rl' (rr'.base Rl2 (F1.trans F2)) ((F1.trans F2).trans F)⟩
theorem me_tm' {name : Str} {id : String} {ob : WM} (slot : Slot "tuple" name id) (hty : typeOf (.builtin id) = pure (.type "method_descriptor")) (hm : MtM X id (mM X.kx ob)) (ho : EE X o wo) (ha : EA X (e :: es) ws)
  (hbase : attributeBase o name X.env (eval o X.env) = eval o X.env := by rfl)
  (hfew : ((backTo cpos (starEach (e :: es) X.env)).all (fun x => !x.1) && (backToKw cpos (keywordEach [] X.env)).all (fun x => x.1.isSome)
   && decide ((e :: es).length + ([] : List Keyword).length + (if ([] : List Keyword).isEmpty then 0 else 1) < 30)) = true := by rfl)
  (hline : (apos.endLine == cpos.line) = true := by rfl) (hs : starEach (e :: es) X.env = (false, eval e X.env) :: starEach es X.env := by first | exact star_cons rfl | rfl) (hplain : (backTo cpos (starEach es X.env)).any (·.1) = false := by rfl) :
  EE X (.Call (.Attribute o name apos) (e :: es) [] cpos) (wMT ob wo ws) := ⟨me_tm slot hty hm ho.h ha.h hbase hfew hline hs hplain⟩
theorem x_mt {m : MSt} {K : R → MSt → Prop} {ob : WM} (h : wo m fun r m1 => (∃ ds, r = .imm (.tuple ds)) ∧ ws m1 fun rs m2 => ob r rs m2 K) : wMT ob wo ws m K := h
theorem x_ts {ds : List PyData} {P : Prop} (h : P) : (∃ es, R.imm (.tuple ds) = .imm (.tuple es)) ∧ P := ⟨⟨ds, rfl⟩, h⟩
end
theorem noFill_tup : fillsNumberSlot (.type "tuple") "mul" = pure false :=
 PySem.fillsNumberSlot_seq (id := "tuple.__mul__") (r := some (.builtin "tuple.__rmul__")) PySem.F.slot_tuple_mul.lookup (by decide +kernel) PySem.F.slot_tuple_rmul.lookup (by decide +kernel)
theorem rep_tup : seqRepeat? (.type "tuple") = pure (some (.builtin "tuple.__mul__")) := by
 unfold seqRepeat?
 rw [PySem.seqSlot_of (T := "tuple") (name := "__mul__") (id := "tuple.__mul__") PySem.F.slot_tuple_mul.lookup (by decide +kernel), PySem.seqSlot_of (T := "tuple") (name := "__rmul__") (id := "tuple.__rmul__") PySem.F.slot_tuple_rmul.lookup (by decide +kernel)]
 rfl
theorem rmul_tup (a : Int) (t : Tok) (l : Addr) (items : Array Value) (n : Nat) (dd : Option Addr) (sl : Array (Option Value)) :
  Meets (Builtin.«int.__rmul__» ⟨[.int a t, .ref l], []⟩) (fun _ R s => s.heap.get? l = some { cls := .type "tuple", dict := dd, data := .seq items n, slots := sl } ∧ R (.ok (.ret Value.notImplemented)) s) :=
 .of_wp fun prog w A R s h => by
  rcases s with ⟨hp, g, d, tk, os⟩
  rcases h with ⟨hl, h⟩
  wp_walk
  exact ⟨_, rfl, h⟩
open AutoSeq1 (wpAny_loadPart') in
theorem mul_tup (l : Addr) (items : Array Value) (n : Nat) (dd : Option Addr) (sl : Array (Option Value)) (k : Int) (t : Tok) (h1 : 0 ≤ k) (h2 : k < 2 ^ 20) (hz : items.size * k.toNat ≤ 1000000) :
  Meets (Builtin.«tuple.__mul__» ⟨[.ref l, .int k t], []⟩) (fun _ R s => s.heap.get? l = some { cls := .type "tuple", dict := dd, data := .seq items n, slots := sl } ∧
   if (items.isEmpty || k == 1) = true then R (.ok (.ret (.ref l))) s else R (.ok (.ret (.ref s.heap.objs.size))) { s with heap := s.heap.push { cls := .type "tuple", data := .seq ((List.replicate k.toNat items).foldl (fun x1 x2 => x1 ++ x2) #[]) } }) :=
 .of_wp fun prog w A R s h => by
  rcases s with ⟨hp, g, d, tk, os⟩
  rcases h with ⟨hl, h⟩
  (wp_walk using wpAny_loadPart' hl)
  have hT : (⟨hp, g, d, tk, os⟩ : Shared).TypeIs (.ref l) "tuple" := (⟨_, hl, rfl⟩)
  have hIs : IsTup (⟨hp, g, d, tk, os⟩ : Shared).heap l items := ⟨_, hl, rfl, n, rfl⟩
  have hsz : ((items.size : Nat) : Int) * k ≤ 1000000 := by
   have ek : k = ((k.toNat : Nat) : Int) := by omega
   rw [ek, ← Int.natCast_mul]; omega
  rw [if_neg (show ¬ _ by simp only [decide_eq_true_eq, Bool.or_eq_true]; omega)]
  refine wpAny_bind (tupleItemsOf_ hIs ?_)
  by_cases hc : (items.isEmpty || k == 1) = true
  ·rw [if_pos hc] at h ⊢
   refine wpAny_bind ?_
   unfold Builtin.Tuple.tupleIsExact
   refine wpAny_bind (wpAny_typeOf hT (wpAny_pure ?_))
   rw [if_pos (by rfl)]
   exact wpAny_bind (wpAny_rule (wpAny_pure ⟨_, rfl, h⟩))
  ·rw [if_neg hc] at h ⊢
   have he : items.isEmpty = false := by
    cases q : items.isEmpty with
    | false => rfl
    | true => rw [q] at hc; exact (hc rfl).elim
   by_cases hk0 : k = 0
   ·subst hk0
    show wpAny _ _ (if (decide ((0 : Int) ≤ 0) || items.isEmpty) = true then _ else _) _ _ _
    rw [if_pos (by rfl)]
    exact wpAny_bind (m := Builtin.Tuple.tupleExact #[]) (wpAny_newObj_type (wpAny_pure ⟨_, rfl, h⟩) (by show (0 : Nat) ≤ sizeLine; exact Nat.zero_le _))
   have e1 : (decide (k ≤ 0) || items.isEmpty) = false := by rw [he, decide_eq_false (by omega)]; rfl
   have hlen : ∀ (m : Nat) (acc : Array Value), (List.foldl (fun x1 x2 => x1 ++ x2) acc (List.replicate m items)).size = acc.size + m * items.size := by
    intro m
    induction m with
    | zero => intro acc; simp
    | succ m ih => intro acc; rw [List.replicate_succ, List.foldl_cons, ih, Array.size_append, Nat.succ_mul]; omega
   have hbig : ((List.replicate k.toNat items).foldl (fun x1 x2 => x1 ++ x2) #[]).size ≤ sizeLine := by
    rw [hlen, sizeLine_eq, Nat.mul_comm]; simp; omega
   show wpAny _ _ (if (decide (k ≤ 0) || items.isEmpty) = true then _ else _) _ _ _
   rw [if_neg (by rw [e1]; exact Bool.false_ne_true)]
   show wpAny _ _ (if ((items.size : Nat) : Int) * k > (2 ^ 63 - 1) / 8 then _ else _) _ _ _
   rw [if_neg (by omega)]
   show wpAny _ _ (if Builtin.Tuple.tupleTooMany (((items.size : Nat) : Int) * k) = true then _ else _) _ _ _
   rw [if_neg (by unfold Builtin.Tuple.tupleTooMany; rw [decide_eq_true_eq, sizeLine_eq]; omega)]
   exact wpAny_bind (m := Builtin.Tuple.tupleExact _) (wpAny_newObj_type (wpAny_pure ⟨_, rfl, h⟩) hbig)
section
variable {X : Cx}
def rRepT (K : PySem.W.Frag) : R2 := fun x y H Q => ∃ a xs k, x = .ref a ∧ y = .int k ∧ SqT K H a xs ∧ 0 ≤ k ∧ k < 2 ^ 20 ∧ xs.length * k.toNat ≤ 1000000 ∧
 if (xs.isEmpty || k == 1) = true then Q (.ref a) H else ∀ p, H p = none → Q (.ref p) (upd H p (.tup (List.replicate k.toNat xs).flatten))
theorem op_repT : OpR X (binaryOp .Mult) (rRepT X.K) := by
 intro pins s σ H x y v u Q I rx ry h
 obtain ⟨a, xs, k, rfl, rfl, hq, h1, h2, hz, q⟩ := h
 cases rx
 obtain ⟨t, rfl⟩ := ry
 obtain ⟨its, r, ⟨o, ho, hc, hd, n, hdt⟩, hsz⟩ := I.tupleP hq
 obtain ⟨cls, dd, data, sl⟩ := o
 dsimp only at hc hdt
 subst hc hdt
 have hl : xs.length = its.length := r.length
 have hem : its.toArray.isEmpty = xs.isEmpty := by
  cases its with
  | nil => have : xs = [] := List.eq_nil_of_length_eq_zero (by simpa using hl); subst this; rfl
  | cons _ _ => cases xs with
   | nil => simp at hl
   | cons _ _ => rfl
 have hnew : List.foldl (fun x1 x2 => x1 ++ x2) #[] (List.replicate k.toNat its.toArray) = (List.replicate k.toNat its).flatten.toArray := by
  have := foldl_rep its k.toNat []
  rw [List.nil_append] at this
  exact this
 refine wpAny_binaryOp_repeat_ref (T := "tuple") (U := "int") (by decide) ⟨_, ho, rfl⟩ (fun s' => typeIs_int s' k t) noFill_tup PySem.F.fills_int_mul PySem.F.slot_int_rmul rep_tup PySem.F.slot_int_index.lookup
  (call_meets PySem.F.slot_int_rmul (typeIs_int s k t) PySem.F.entry_int_rmul (PySem.F.args_int_rmul_2 _ _) (rmul_tup k t a its.toArray n dd sl)
   ⟨ho, rfl, ⟨_, ho, rfl⟩, call_meets PySem.F.slot_tuple_mul ⟨_, ho, rfl⟩ PySem.F.entry_tuple_mul (PySem.F.args_tuple_mul_2 _ _) (mul_tup a its.toArray n dd sl k t h1 h2 (by rw [List.size_toArray, ← hl]; exact hz)) ⟨ho, ?_⟩⟩)
 rw [hem, hnew]
 by_cases hc : (xs.isEmpty || k == 1) = true
 ·rw [if_pos hc] at q ⊢
  exact ⟨.ref a, H, I, rfl, q⟩
 ·rw [if_neg hc] at q ⊢
  have hp : H s.heap.objs.size = none := I.hok.fresh (Nat.le_refl _)
  refine ⟨.ref s.heap.objs.size, _, I.laid (t' := s.toks) (o := .tup (List.replicate k.toNat xs).flatten) (fun b ob e => Heap.get?_push_of_some _ e) (Nat.le_refl _) ⟨?_, _, r.rep k.toNat, PlainT.new _ _⟩, rfl, q _ hp⟩
  rw [len_rep, Nat.mul_comm, sizeLine_eq]; omega
def oMulS : WO
 | .imm (.int i), .imm (.int j), _, K => IntMulOk i j ∧ K (.imm (.int (i * j)))
 | .imm (.tuple ds), .imm (.int k), _, K => 0 ≤ k ∧ k < 2 ^ 20 ∧ ds.length * k.toNat ≤ 1000000 ∧ K (.imm (.tuple (List.replicate k.toNat ds).flatten))
 | .new ds, .imm (.int k), _, K => 0 ≤ k ∧ k < 2 ^ 20 ∧ ds.length * k.toNat ≤ 1000000 ∧ K (.new (List.replicate k.toNat ds).flatten)
 | _, _, _, _ => False
theorem denAll_rep {K : Kd} {H : Hp} {ds : List PyData} {xs : List V} (g : DenAll K H ds xs) : ∀ k : Nat, DenAll K H (List.replicate k ds).flatten (List.replicate k xs).flatten
 | 0 => by simp only [List.replicate_zero, List.flatten_nil, DenAll]
 | k + 1 => by rw [List.replicate_succ, List.replicate_succ, List.flatten_cons, List.flatten_cons]; exact g.append (denAll_rep g k)
theorem op_mulSM : OpR X (binaryOp .Mult) (rM X.kx oMulS) := by
 rintro pins s σ' H x y v u Q I rx ry ⟨α, m, σ, H0, H1, r1, r2, Kc, Rl, h1, h2, ho, fin⟩
 unfold oMulS at ho
 split at ho
 ·rename_i i j
  exact op_mulM pins s σ' H x y v u Q I rx ry ⟨α, m, σ, H0, H1, .imm (.int i), .imm (.int j), Kc, Rl, h1, h2, ho, fin⟩
 ·rename_i ds k
  obtain ⟨k1, k2, k3, ho⟩ := ho
  obtain ⟨a, xs, rfl, f, g⟩ := tup_of_den (show Den X.kx H (.tuple ds) x from h1)
  have e2 := int_of_den (show Den X.kx H (.int k) y from h2)
  subst e2
  refine op_repT pins s σ' H _ _ v u Q I rx ry ⟨a, xs, k, rfl, rfl, f, k1, k2, by rw [← g.length]; exact k3, ?_⟩
  by_cases hc : (xs.isEmpty || k == 1) = true
  ·rw [if_pos hc]
   refine fin _ _ H ho Rl (rr_of (den_tup f ?_)) (Frm.refl _ _)
   have e : (List.replicate k.toNat ds).flatten = ds := by
    rw [Bool.or_eq_true] at hc
    rcases hc with hc | hc
    ·have hx : xs = [] := List.isEmpty_iff.mp hc
     have hd : ds = [] := List.eq_nil_of_length_eq_zero (by rw [g.length, hx]; rfl)
     subst hd; simp
    ·have : k = 1 := by simpa using hc
     subst this; simp
   rw [e]; exact g
  ·rw [if_neg hc]
   exact fun p hp => fin _ _ _ ho (Rl.lay hp) (rr_of (den_tup (SqT.of upd_same) ((denAll_rep g k.toNat).mono (pers_upd (.inl hp))))) (frm_upd hp)
 ·rename_i ds k
  obtain ⟨k1, k2, k3, ho⟩ := ho
  obtain ⟨a, xs, rfl, hb, hH, g⟩ := h1
  have e2 := int_of_den (show Den X.kx H (.int k) y from h2)
  subst e2
  refine op_rep pins s σ' H _ _ v u Q I rx ry ⟨a, k, xs, rfl, rfl, hH, by omega, by omega, by rw [← g.length, sizeLine_eq]; omega, fun p hp => ?_⟩
  exact fin _ _ _ ho (Rl.lay hp) ⟨p, _, rfl, hp, upd_same, (denAll_rep g k.toNat).mono (pers_upd (.inl hp))⟩ (frm_upd hp)
 ·exact ho.elim
theorem x_mulI' {m : MSt} {i j : Int} {Kr : R → Prop} (hc : IntMulOk i j) (h : Kr (.imm (.int (i * j)))) : oMulS (.imm (.int i)) (.imm (.int j)) m Kr := ⟨hc, h⟩
theorem x_mulT {m : MSt} {ds : List PyData} {k : Int} {Kr : R → Prop} (h1 : 0 ≤ k) (h2 : k < 2 ^ 20) (h3 : ds.length * k.toNat ≤ 1000000) (h : Kr (.imm (.tuple (List.replicate k.toNat ds).flatten))) : oMulS (.imm (.tuple ds)) (.imm (.int k)) m Kr := ⟨h1, h2, h3, h⟩
end
end L2
namespace K
open PySem L2 M7
inductive Mv where
 | come (o : List Nat) | done (k : Nat) | still
def Mv.d : Mv → PyData
 | .come o => .tuple [.str "come", lnD o]
 | .done k => .tuple [.str "done", .int (k : Int)]
 | .still => .tuple [.str "still"]
def Mv.Ok (h : Hall) : Mv → Prop
 | .come o => Ord h.ss.length o
 | .done k => k < h.ss.length
 | .still => True
theorem eqv_int (a b : Nat) : PyData.eqv (.int (a : Int)) (.int (b : Int)) = decide (a = b) := by
 simp only [PyData.eqv]
 by_cases h : a = b
 ·subst h; simp
 ·have : ¬ ((a : Int) = (b : Int)) := fun z => h (Int.ofNat.inj z)
  simp [h, this]
theorem natD_shp (l : List Nat) : ∀ y ∈ natD l, Shp 0 y := fun y hy => by
 obtain ⟨x, _, rfl⟩ := List.mem_map.mp hy
 exact shp_int _
def zer (h : Hall) : List Nat := List.replicate h.ss.length 0
def spFirst : SpM := fun as K => ∃ h : Hall, as = [.imm h.d] ∧ h.Ok ∧ K (.imm (stD (zer h) 0)) []
def runD (R : List Mv) : PyData := .tuple (R.map Mv.d)
def spHallM : SpM := fun as K => ∃ (fd : List PyData) (c : Nat) (mo : Int), as = [.own fd, .imm (.int mo)] ∧ FeedD c fd ∧ c < 900000000 ∧ 1 ≤ mo ∧ mo ≤ 4 ∧ ∀ (h : Hall) (fd' : List PyData), h.Ok → FeedD (c + 20) fd' → K (.imm h.d) [fd']
def Mv.Ok2 (h : Hall) (mv : Mv) : Prop := mv.Ok h ∧ ∀ o, mv = .come o → o.length = h.ss.length
def spMove : SpM := fun as K => ∃ (fd : List PyData) (c : Nat) (h : Hall) (way : Nat), as = [.own fd, .imm h.d, .imm (.int (way : Int))] ∧ h.Ok ∧ FeedD c fd ∧ c < 800000000 ∧ way < 1000 ∧ ∀ (mv : Mv) (fd' : List PyData), mv.Ok2 h → FeedD (c + 5) fd' → K (.imm mv.d) [fd']
def spRun : SpM := fun as K => ∃ (fd : List PyData) (c : Nat) (h : Hall) (many : Nat), as = [.own fd, .imm h.d, .imm (.int (many : Int))] ∧ h.Ok ∧ FeedD c fd ∧ c < 700000000 ∧ many ≤ 41 ∧ ∀ (R : List Mv) (fd' : List PyData), R.length = many → (∀ mv ∈ R, mv.Ok2 h) → FeedD (c + 300) fd' → K (.imm (runD R)) [fd']
theorem rep_flat {α : Type} (n : Nat) (x : α) : (List.replicate n [x]).flatten = List.replicate n x := by
 induction n with
 | zero => rfl
 | succ n ih => rw [List.replicate_succ, List.flatten_cons, ih, List.replicate_succ]; rfl
theorem natD_rep (n x : Nat) : List.replicate n (PyData.int (x : Int)) = natD (List.replicate n x) := by unfold natD; rw [List.map_replicate]
end K
namespace L2
open PySem PySem.Spec PyProof.Rows
section
variable {prog : Program} {w : World} {A : Around} {E : Value → Shared → Prop} {s : Shared}
abbrev colH (h : Heap) (vs : List Value) : Heap := (h.push (seqObj "list" #[] 0)).update h.objs.size (Obj.mapSeq (· ++ vs.toArray))
abbrev srtH (h : Heap) (vs : List Value) : Heap := (colH h vs).push (seqObj "list" vs.toArray 0)
theorem colH_size (h : Heap) (vs : List Value) : (colH h vs).objs.size = h.objs.size + 1 := (Heap.size_update ..).trans (size_push' ..)
theorem srtH_at (h : Heap) (vs : List Value) : (srtH h vs).get? (h.objs.size + 1) = some (seqObj "list" vs.toArray 0) := by
 have e : (srtH h vs).get? (colH h vs).objs.size = some (seqObj "list" vs.toArray 0) := Heap.get?_push_size _ rfl
 rwa [colH_size] at e
theorem ext_tup {d l : Addr} {vs : List Value} {ob : Obj} {P : PySem.Fin → Shared → Prop} (hd : s.heap.get? d = some (seqObj "list" #[] 0)) (ho : s.heap.get? l = some ob) (hc : ob.cls = .type "tuple") {n : Nat} (hl : ob.data = .seq vs.toArray n) (hsz : vs.length ≤ sizeLine)
  (h : P (.done (.ret (.ref d))) { s with heap := s.heap.update d (Obj.mapSeq (· ++ vs.toArray)) }) : wpAny (model prog w) A (Builtin.List.listExtendWith (.ref d) (.ref l) (.ref d)) P E s := by
 have fits : (#[] ++ vs.toArray : Array Value).size ≤ sizeLine + 1 := by simp; omega
 refine wpAny_bind (m := typeOf (.ref l)) (wpAny_typeOf (T := "tuple") ⟨ob, ho, hc⟩ ?_)
 rw [if_pos (show (Builtin.List.listSameRef (Value.ref d) (Value.ref l) || _ || Value.type "tuple" == Value.type "tuple") = true from Bool.or_eq_true_iff.mpr (.inr rfl))]
 refine wpAny_bind (listItems_at ho hl (wpAny_bind (listItems_at (xs := #[]) (n := 0) hd rfl ?_)))
 rw [if_neg (show ¬ _ by simp)]
 exact wpAny_bind (listUpdate_at (xs := #[]) (n := 0) hd rfl (wpAny_pure h) (Nat.zero_le _) fits)
theorem collect_tup {l : Addr} {vs : List Value} {Q : List Value → Shared → Prop} (hl : s.heap.IsTuple l vs.toArray)
  (h : Q vs { s with heap := colH s.heap vs }) (hsz : vs.length ≤ sizeLine) : wpAny (model prog w) A (collect (.ref l)) Q E s := by
 obtain ⟨ob, ho, hc, nn, hd⟩ := id hl
 have new : (s.heap.push (seqObj "list" #[] 0)).get? s.heap.objs.size = some (seqObj "list" #[] 0) := Heap.get?_push_size _ rfl
 have held : (colH s.heap vs).get? s.heap.objs.size = some _ := get?_update_seq new (· ++ vs.toArray)
 have all : ((#[] : Array Value) ++ vs.toArray).toList = vs := by simp
 refine wpAny_bind (m := runValue _) (wpAny_runValue (codeAny_builtin entry_proto_collect' (wpAny_bind (m := newList []) (wpAny_newList (wpAny_pure ⟨Code.quiet_builtin _ (by decide +kernel), codeAny_builtin entry_list_iadd' ?_⟩)))))
 refine ext_tup (s := { s with heap := s.heap.push (seqObj "list" #[] 0) }) new (Heap.get?_push_of_some _ ho) hc hd hsz (wpAny_bind (m := load s.heap.objs.size) (wpAny_load held ?_))
 exact wpAny_pure (all.symm ▸ h)
theorem srt_of {l : Addr} {vs : List Value} {kw : List (Str × Value)} {Q : Value → Shared → Prop} (hl : s.heap.IsTuple l vs.toArray ∨ s.heap.IsList l vs.toArray) (hsz : vs.length ≤ sizeLine)
  (h : wpAny (model prog w) A (call (.builtin "list.sort") [.ref (s.heap.objs.size + 1)] kw) (fun _ s' => Q (.ref (s.heap.objs.size + 1)) s') E { s with heap := srtH s.heap vs }) :
  wpAny (model prog w) A (Builtin.«sorted» ⟨[.ref l], kw⟩) (fun fin s' => ∃ v, fin = .done (.ret v) ∧ Q v s') E s := by
 have col : ∀ {P : List Value → Shared → Prop}, P vs { s with heap := colH s.heap vs } → wpAny (model prog w) A (collect (.ref l)) P E s := fun p => hl.elim (fun t => collect_tup t p hsz) fun t => collect_list t p hsz
 refine wpAny_bind (m := checkCount "sorted" 1 1 _) (wpAny_pure (wpAny_bind (col (wpAny_bind (m := newList vs) (wpAny_newList ?_)))))
 have e : (Shared.heap { s with heap := colH s.heap vs }).objs.size = s.heap.objs.size + 1 := colH_size ..
 rw [e]
 exact wpAny_bind (m := holding _ _) (wpAny_holding (wpAny_mono h (fun _ s' q => wpAny_pure ⟨_, rfl, q⟩) fun _ _ z => z))
end
section
variable {X : Cx} {a : Expr} {es : List Expr} {ws : WA} {pos p p2 p3 : Pos}
theorem denAll_of_ints {K : Kd} {H : Hp} : ∀ ns : List Int, DenAll K H (ns.map .int) (ns.map V.int)
 | [] => by simp only [List.map_nil, DenAll]
 | n :: ns => by
  simp only [List.map_cons, DenAll]
  exact ⟨.int n, _, rfl, by simp only [Den], denAll_of_ints ns⟩
end
section
variable {X : Cx} {a : Expr} {es : List Expr} {ws : WA} {pos p p2 p3 : Pos}
theorem bt_sorted : bootBuiltins "sorted" = some (.builtin "sorted") := by decide +kernel
end
section
variable {X : Cx} {a b o e : Expr} {es : List Expr} {wo we : WE} {ws : WA} {apos cpos pos p : Pos} {tg : Expr}
theorem str_of_den' {K : Kd} {H : Hp} {x : Str} {v : V} (h : Den K H (.str x) v) : v = .str x := by simpa only [Den] using h
end
end L2
namespace K
open PySem L2 M7
theorem str_ext {x y : Str} (h : x.cps.toList = y.cps.toList) : x = y := by
 cases x; cases y
 congr 1
 exact Array.ext' h
end K
namespace HT
open PySem PySem.Spec PyProof.Rows
section
variable {prog : Program} {w : World} {A : Around} {E : Value → Shared → Prop} {s : Shared}
theorem sliceApplied_rev {sl : Addr} {t : Tok} {n : Nat} {Q : Int × Int × Nat → Shared → Prop} (hs : ∃ ob, s.heap.get? sl = some ob ∧ ob.cls = .type "slice" ∧ ob.data = .fields #[.none, .none, .int (-1) t])
  (h : Q ((n : Int) - 1, -1, n) s) : wpAny (model prog w) A (Builtin.Slice.sliceApplied (.ref sl) (pure (n : Int))) Q E s := by
 obtain ⟨ob, hos, hcs, hds⟩ := hs
 unfold Builtin.Slice.sliceApplied Builtin.Slice.sliceFields
 refine wpAny_bind (wpAny_bind (wpAny_field hos hds (x := .none) rfl (wpAny_bind (wpAny_field hos hds (x := .none) rfl (wpAny_bind (wpAny_field hos hds (x := .int (-1) t) rfl (wpAny_pure ?_)))))))
 refine wpAny_bind (slicePart_int ?_)
 show wpAny _ _ (if ((-1 : Int) == 0) = true then _ else _) _ _ s
 rw [if_neg (by decide)]
 refine wpAny_bind (slicePart_none (wpAny_bind (slicePart_none (wpAny_bind (wpAny_pure ?_)))))
 have e1 : Builtin.Slice.sliceAdjust none none (-1) (n : Int) = ((n : Int) - 1, -1) := rfl
 show wpAny _ _ (match Builtin.Slice.sliceAdjust none none (-1) (n : Int) with | (lo, hi) => pure (lo, (-1 : Int), Builtin.Slice.slicePlaces lo hi (-1))) _ _ s
 rw [e1]
 have e2 : Builtin.Slice.slicePlaces ((n : Int) - 1) (-1) (-1) = n := by
  unfold Builtin.Slice.slicePlaces
  rw [if_neg (by decide)]
  by_cases hn : (-1 : Int) < (n : Int) - 1
  ·rw [if_pos hn, show (-(-1 : Int)) = 1 from rfl, Int.ediv_one]; omega
  ·rw [if_neg hn]; omega
 show wpAny _ _ (pure ((n : Int) - 1, (-1 : Int), Builtin.Slice.slicePlaces ((n : Int) - 1) (-1) (-1))) _ _ s
 rw [e2]
 exact wpAny_pure h
theorem rev_items (xs : Array Value) : ((List.range xs.size).filterMap fun (m : Nat) => xs[((xs.size : Int) - 1 + (m : Int) * -1).toNat]?) = xs.toList.reverse := by
 apply List.ext_getElem?
 intro i
 have hf : ∀ k, k ≤ xs.size → ((List.range k).filterMap fun (m : Nat) => xs[((xs.size : Int) - 1 + (m : Int) * -1).toNat]?) = (List.range k).map fun m => xs.getD (xs.size - 1 - m) .none := by
  intro k
  induction k with
  | zero => intro _; rfl
  | succ k ih =>
   intro hk
   rw [List.range_succ, List.filterMap_append, List.map_append, ih (by omega)]
   have e : ((xs.size : Int) - 1 + (k : Int) * -1).toNat = xs.size - 1 - k := by omega
   have hl : xs.size - 1 - k < xs.size := by omega
   have e2 : (List.filterMap (fun (m : Nat) => xs[((xs.size : Int) - 1 + (m : Int) * -1).toNat]?) [k]) = [xs.getD (xs.size - 1 - k) .none] := by
    rw [List.filterMap_cons, e, Array.getElem?_eq_getElem hl]
    simp [hl]
   rw [e2]; rfl
 rw [hf xs.size (Nat.le_refl _)]
 by_cases hi : i < xs.size
 ·rw [List.getElem?_map, List.getElem?_range hi, List.getElem?_reverse (by simpa using hi)]
  have hl : xs.size - 1 - i < xs.size := by omega
  simp [hl]
 ·rw [List.getElem?_eq_none (by simp; omega), List.getElem?_eq_none (by simp; omega)]
theorem getItem_tuple_rev {t sl : Addr} {items : Array Value} {tk : Tok} {Q : Value → Shared → Prop} (ht : IsTup s.heap t items) (hs : ∃ ob, s.heap.get? sl = some ob ∧ ob.cls = .type "slice" ∧ ob.data = .fields #[.none, .none, .int (-1) tk])
  (h : Q (.ref s.heap.objs.size) { s with heap := s.heap.push { cls := .type "tuple", data := .seq items.toList.reverse.toArray } }) (hsz : items.size ≤ sizeLine) : wpAny (model prog w) A (getItem (.ref t) (.ref sl)) Q E s := by
 have htake : sizeOk (.seq items.toList.reverse.toArray) := by
  show items.toList.reverse.toArray.size ≤ sizeLine
  rw [List.size_toArray, List.length_reverse, Array.length_toList]
  exact hsz
 obtain ⟨ob, hos, hcs, hds⟩ := id hs
 have hTs : s.TypeIs (.ref sl) "slice" := ⟨ob, hos, hcs⟩
 unfold getItem
 try with_reducible refine wpAny_holding ?_
 first | (refine wpAny_bind (wpAny_pure ?_)) | skip
 refine wpAny_bind (wpAny_sequenceKey ht.typeIs (by decide) (wpAny_bind (wpAny_callSpecial?_slot (name := Str.ofString "__getitem__") ht.typeIs PyProof.Rows.slot_tuple_getitem (wpAny_call_entry PyProof.Rows.slot_tuple_getitem ht.typeIs entry_tuple_getitem ?_ (args_tuple_getitem _ _)))))
 show wpAny _ _ (Builtin.Tuple.tupleItemsOf (.ref t) >>= _) _ _ s
 refine wpAny_bind (tupleItemsOf_ ht (wpAny_bind (wpAny_typeOf hTs ?_)))
 rw [if_pos (by decide)]
 refine wpAny_bind (sliceApplied_rev hs ?_)
 show wpAny _ _ (if (((items.size : Int) - 1) == 0 && (-1 : Int) == 1 && items.size == items.size) = true then _ else _) _ _ s
 rw [if_neg (by rw [show ((-1 : Int) == 1) = false by decide, Bool.and_false, Bool.false_and]; decide), rev_items]
 first
  | exact wpAny_bind (m := Builtin.Tuple.tupleExact _) (wpAny_newObj_type (wpAny_pure ⟨_, rfl, wpAny_pure h⟩) htake)
  | exact wpAny_bind (m := Builtin.Tuple.tupleExact _) (wpAny_newObj_type (wpAny_bind (wpAny_pure (wpAny_pure ⟨_, rfl, wpAny_pure h⟩))) htake)
  | exact wpAny_bind (wpAny_bind (m := Builtin.Tuple.tupleExact _) (wpAny_newObj_type (wpAny_pure (wpAny_pure ⟨_, rfl, wpAny_pure h⟩)) htake))
  | exact wpAny_bind (wpAny_bind (m := Builtin.Tuple.tupleExact _) (wpAny_newObj_type (wpAny_pure ⟨_, rfl, wpAny_pure h⟩) htake))
end
end HT
namespace L2
open PySem PySem.Spec PyProof.Rows
section
variable {X : Cx} {a b e st : Expr} {we wst : WE} {pos p2 : Pos}
def numD : PyData → Option Int
 | .int i => some i
 | .bool b => some (if b = true then 1 else 0)
 | _ => none
theorem num_val {K : Kd} {H : Hp} {d : PyData} {v : V} {u : Value} {i : Int} (h : Den K H d v) (r : RelV v u) (e : numD d = some i) : (∃ t, u = .int i t) ∨ ∃ b : Bool, u = .bool b ∧ i = if b = true then 1 else 0 := by
 cases d with
 | int j =>
  cases e
  have := int_of_den h
  subst this
  obtain ⟨t, rfl⟩ := r
  exact .inl ⟨t, rfl⟩
 | bool b =>
  cases e
  have := bl_of_den h
  subst this
  cases r
  exact .inr ⟨b, rfl, rfl⟩
 | _ => cases e
def oAddX : WO := fun r1 r2 m K => oAdd r1 r2 m K ∨ onImm (fun d1 => onImm (fun d2 => ∃ i j, numD d1 = some i ∧ numD d2 = some j ∧ K (.imm (.int (i + j)))) r2) r1
theorem op_addXM : OpR X (binaryOp .Add) (rM X.kx oAddX) := by
 rintro pins s σ' H x y v u Q I rx ry ⟨α, m, σ, H0, H1, r1, r2, Kc, Rl, h1, h2, ho, fin⟩
 rcases ho with ho | ho
 ·exact op_addM pins s σ' H x y v u Q I rx ry ⟨α, m, σ, H0, H1, r1, r2, Kc, Rl, h1, h2, ho, fin⟩
 obtain ⟨d1, e1, hd1, ho⟩ := on_imm h1 ho
 obtain ⟨d2, e2, hd2, i, j, n1, n2, ho2⟩ := on_imm h2 ho
 have go : ∀ tk t, EP X pins σ' Q (.int (i + j) t) { s with toks := tk } := fun tk t => ⟨.int _, H, I.tok _, ⟨_, rfl⟩, fin _ _ H ho2 Rl (rr_int _) (Frm.refl _ _)⟩
 rcases num_val hd1 rx n1 with ⟨t1, rfl⟩ | ⟨b1, rfl, rfl⟩ <;> rcases num_val hd2 ry n2 with ⟨t2, rfl⟩ | ⟨b2, rfl, rfl⟩
 ·exact add_int (go _ _)
 ·exact add_int_bool (go _ _)
 ·exact IntBool.add_bool_int (go _ _)
 ·exact add_bool (go _ _)
def oSubX : WO := fun r1 r2 m K => onImm (fun d1 => onImm (fun d2 => ∃ i j, numD d1 = some i ∧ numD d2 = some j ∧ K (.imm (.int (i - j)))) r2) r1
theorem op_subXM : OpR X (binaryOp .Sub) (rM X.kx oSubX) := by
 rintro pins s σ' H x y v u Q I rx ry ⟨α, m, σ, H0, H1, r1, r2, Kc, Rl, h1, h2, ho, fin⟩
 obtain ⟨d1, e1, hd1, ho⟩ := on_imm h1 ho
 obtain ⟨d2, e2, hd2, i, j, n1, n2, ho2⟩ := on_imm h2 ho
 have go : ∀ tk t, EP X pins σ' Q (.int (i - j) t) { s with toks := tk } := fun tk t => ⟨.int _, H, I.tok _, ⟨_, rfl⟩, fin _ _ H ho2 Rl (rr_int _) (Frm.refl _ _)⟩
 rcases num_val hd1 rx n1 with ⟨t1, rfl⟩ | ⟨b1, rfl, rfl⟩ <;> rcases num_val hd2 ry n2 with ⟨t2, rfl⟩ | ⟨b2, rfl, rfl⟩
 ·exact sub_int (go _ _)
 ·exact IntBool.sub_int_bool (go _ _)
 ·exact IntBool.sub_bool_int (go _ _)
 ·exact sub_bool (go _ _)
def oCutX : R → Option Int → Option Int → MSt → (R → Prop) → Prop := fun r lo hi m K => oCut r lo hi m K ∨ ∃ x, r = .imm (.str x) ∧ x.length ≤ 1000000 ∧ K (.imm (.str (Txt.slice x lo hi)))
theorem sl_cutXM : SlR X (sM X.kx oCutX) := by
 intro pins s σ' H x v vl vu lo hi sl Q I rx hs pl pu hq
 obtain ⟨α, m, σ, H0, r, Kc, Rl, h, ho, fin⟩ := hq
 rcases ho with ho | ⟨z, rfl, hz, k⟩
 ·exact sl_cutM pins s σ' H x v vl vu lo hi sl Q I rx hs pl pu ⟨α, m, σ, H0, r, Kc, Rl, h, ho, fin⟩
 have ev := str_of_den' (show Den X.kx H (.str z) x from h)
 subst ev
 obtain ⟨t, rfl⟩ := rx
 obtain ⟨ob, hos, hcs, hds⟩ := hs
 have hsz : z.length ≤ sizeLine := by rw [sizeLine_eq]; omega
 have go : ∀ t' tk, EP X pins σ' Q (.str (Txt.slice z lo hi) t') { s with toks := tk } := fun t' tk => ⟨.str _, H, I.tok _, ⟨_, rfl⟩, fin _ _ H k Rl (rr_of (by simp only [Den])) (Frm.refl _ _)⟩
 refine ⟨"str", _, PySem.F.slot_str_getitem.lookup, typeIs_str _ _ _, ?_⟩
 cases pl with
 | none => cases pu with
  | none => exact wpAny_getItem_str_slice (l := none) (u := none) (st := none) ⟨ob, hos, hcs, hds⟩ rfl (post_val_or_str ⟨Nat.le_trans (Txt.slice_le z _ _) hsz, fun t' k => go t' k⟩)
  | int j uj => exact wpAny_getItem_str_slice (l := none) (u := some (j, uj)) (st := none) ⟨ob, hos, hcs, hds⟩ rfl (post_val_or_str ⟨Nat.le_trans (Txt.slice_le z _ _) hsz, fun t' k => go t' k⟩)
 | int i ui => cases pu with
  | none => exact wpAny_getItem_str_slice (l := some (i, ui)) (u := none) (st := none) ⟨ob, hos, hcs, hds⟩ rfl (post_val_or_str ⟨Nat.le_trans (Txt.slice_le z _ _) hsz, fun t' k => go t' k⟩)
  | int j uj => exact wpAny_getItem_str_slice (l := some (i, ui)) (u := some (j, uj)) (st := none) ⟨ob, hos, hcs, hds⟩ rfl (post_val_or_str ⟨Nat.le_trans (Txt.slice_le z _ _) hsz, fun t' k => go t' k⟩)
def tRev (K : PySem.W.Frag) (te ts : TE) : TE := fun σ H Q => te σ H fun x H1 => ts σ H1 fun y H2 => ∃ p xs, x = .ref p ∧ y = .int (-1) ∧ SqT K H2 p xs ∧ ∀ q, H2 q = none → Q (.ref q) (upd H2 q (.tup xs.reverse))
theorem vals_rev : ∀ {xs : List V} {us : List Value}, Vals xs us → Vals xs.reverse us.reverse
 | _, _, .nil => .nil
 | _, _, .cons r rs => by
  rw [List.reverse_cons]
  rw [List.reverse_cons]
  exact (vals_rev rs).append (.cons r .nil)
theorem pe_rev {te ts : TE} {i : Int} {j : Nat} {p3 p4 : Pos} (he : PE X e te) (hst : PE X (.UnaryOp .USub (.Constant (.int i) j p3) p4) ts) : PE X (.Subscript e (.Slice none none (some (.UnaryOp .USub (.Constant (.int i) j p3) p4)) p2) pos) (tRev X.K te ts) := by
 intro pins s σ H Q I h
 refine Subscript_ (thn (he pins s σ H _ I h) fun v s1 ⟨x, H1, I1, r1, q1⟩ => ?_)
 refine wpAny_Slice ?_
 rw [evalPart_none]
 refine wpAny_pure (a := _) (wpAny_pure ?_)
 rw [evalPart_some]
 refine thn (hst pins s1 σ H1 _ I1 q1) fun vs s3 ⟨y, H3, I3, r3, q3⟩ => ?_
 obtain ⟨p, xs, rfl, rfl, hq, q⟩ := q3
 cases r1
 obtain ⟨t, rfl⟩ := r3
 have I4 : Inv X pins σ H3 { s3 with heap := s3.heap.push { cls := .type "slice", data := .fields #[.none, .none, .int (-1) t] } } := I3.kept (t' := s3.toks) fun b ob q => Heap.get?_push_of_some _ q
 obtain ⟨its, rv, ht, hz⟩ := I4.tuple hq
 have hlen := rv.length
 have hfr : H3 { s3 with heap := s3.heap.push { cls := .type "slice", data := .fields #[.none, .none, .int (-1) t] } }.heap.objs.size = none := I4.hok.fresh (Nat.le_refl _)
 have hg := HT.getItem_tuple_rev (prog := X.prog) (w := X.w) (A := X.A) (E := X.xe) (Q := EP X pins σ Q) (tk := t) ht ⟨_, Heap.get?_push_size _ rfl, rfl, rfl⟩
  ⟨.ref _, _, I4.laid (t' := s3.toks) (fun _ _ => Heap.get?_push_of_some _) (Nat.le_refl _) (show ObjOk X.prog X.w _ _ _ (.tup xs.reverse) from ⟨by rw [List.length_reverse]; exact hz, its.reverse, vals_rev rv, PlainT.new _ _⟩), rfl, q _ hfr⟩ (by simp; omega)
 show wpAny (model X.prog X.w) X.A (subscriptTail e (.Slice none none (some (.UnaryOp .USub (.Constant (.int i) j p3) p4)) p2) (.ref p) (.ref s3.heap.objs.size)) (EP X pins σ Q) X.xe { s3 with heap := s3.heap.push { cls := .type "slice", data := .fields #[.none, .none, .int (-1) t] } }
 exact tail_any (ops := [.ref p, .ref s3.heap.objs.size]) ht.typeIs PyProof.Rows.slot_tuple_getitem.lookup hg (by with_unfolding_all rfl)
def wRevT (we wst : WE) : WE := fun m K => we m fun r m1 => wst m1 fun r2 m2 => ∃ ds, r = .imm (.tuple ds) ∧ r2 = .imm (.int (-1)) ∧ K (.imm (.tuple ds.reverse)) m2
theorem den_rev {K : Kd} {H : Hp} : ∀ {ds : List PyData} {xs : List V}, DenAll K H ds xs → DenAll K H ds.reverse xs.reverse
 | [], xs, h => by
  have : xs = [] := by simpa only [DenAll] using h
  subst this
  simp only [List.reverse_nil, DenAll]
 | d :: ds, xs, h => by
  simp only [DenAll] at h
  obtain ⟨v, vs, rfl, h1, h2⟩ := h
  rw [List.reverse_cons]
  rw [List.reverse_cons]
  exact (den_rev h2).append (by simp only [DenAll]; exact ⟨v, [], rfl, h1, rfl⟩)
theorem me_rev {i : Int} {j : Nat} {p3 p4 : Pos} (he : ME X e we) (hst : ME X (.UnaryOp .USub (.Constant (.int i) j p3) p4) wst) : ME X (.Subscript e (.Slice none none (some (.UnaryOp .USub (.Constant (.int i) j p3) p4)) p2) pos) (wRevT we wst) := (pe_rev he hst).wk fun σ H Q ⟨α, m, Kc, Rl, hw, fin⟩ => by
 refine ⟨α, m, _, Rl, hw, fun r m1 v H1 k n1 Rl1 rr F1 => ⟨α, m1, _, Rl1, k, fun r2 m2 v2 H2 k2 n2 Rl2 rr2 F2 => ?_⟩⟩
 obtain ⟨ds, rfl, rfl, k2⟩ := k2
 obtain ⟨a, xs, rfl, f, g⟩ := tup_of_den (show Den X.kx H2 (.tuple ds) v from rr.keep Rl Rl1 F2)
 have e2 := int_of_den (show Den X.kx H2 (.int (-1)) v2 from rr2)
 subst e2
 refine ⟨a, xs, rfl, rfl, f, fun q hq => ?_⟩
 exact fin _ m2 _ _ k2 (n2.trans n1) (Rl2.lay hq) (rr_of (den_tup (SqT.of upd_same) ((den_rev g).mono (pers_upd (.inl hq))))) ((F1.trans F2).trans (frm_upd hq))
theorem me_rev' {i : Int} {j : Nat} {p3 p4 : Pos} (he : EE X e we) (hst : EE X (.UnaryOp .USub (.Constant (.int i) j p3) p4) wst) : EE X (.Subscript e (.Slice none none (some (.UnaryOp .USub (.Constant (.int i) j p3) p4)) p2) pos) (wRevT we wst) := ⟨me_rev he.h hst.h⟩
theorem x_revT {m : MSt} {K : R → MSt → Prop} (h : we m fun r m1 => wst m1 fun r2 m2 => ∃ ds, r = .imm (.tuple ds) ∧ r2 = .imm (.int (-1)) ∧ K (.imm (.tuple ds.reverse)) m2) : wRevT we wst m K := h
theorem x_addX {m : MSt} {r1 r2 : R} {Kr : R → Prop} (h : oAdd r1 r2 m Kr) : oAddX r1 r2 m Kr := .inl h
theorem x_addB {m : MSt} {d1 d2 : PyData} {i j : Int} {Kr : R → Prop} (e1 : numD d1 = some i) (e2 : numD d2 = some j) (h : Kr (.imm (.int (i + j)))) : oAddX (.imm d1) (.imm d2) m Kr := .inr ⟨i, j, e1, e2, h⟩
theorem x_subB {m : MSt} {d1 d2 : PyData} {i j : Int} {Kr : R → Prop} (e1 : numD d1 = some i) (e2 : numD d2 = some j) (h : Kr (.imm (.int (i - j)))) : oSubX (.imm d1) (.imm d2) m Kr := ⟨i, j, e1, e2, h⟩
theorem x_cutX {m : MSt} {r : R} {lo hi : Option Int} {Kr : R → Prop} (h : oCut r lo hi m Kr) : oCutX r lo hi m Kr := .inl h
theorem x_cutS {m : MSt} {x : Str} {lo hi : Option Int} {Kr : R → Prop} (hz : x.length ≤ 1000000) (h : Kr (.imm (.str (Txt.slice x lo hi)))) : oCutX (.imm (.str x)) lo hi m Kr := .inr ⟨x, rfl, hz, h⟩
end
end L2
namespace K
open PySem L2 M7
mutual
def Gd (b : Nat) : PyData → Prop
 | .none => True
 | .bool _ => True
 | .int i => i.natAbs ≤ b
 | .str x => x.length ≤ b ∧ x.cps.all (· < 128) = true
 | .list ds => GdA b ds
 | .tuple ds => GdA b ds
 | .dict _ => False
def GdA (b : Nat) : List PyData → Prop
 | [] => True
 | d :: ds => Gd b d ∧ GdA b ds
end
mutual
def ms : PyData → Nat
 | .none => 4
 | .bool _ => 5
 | .int _ => 13
 | .str x => 10 * x.length + 2
 | .list ds => 3 + msA ds
 | .tuple ds => 3 + msA ds
 | .dict _ => 0
def msA : List PyData → Nat
 | [] => 0
 | d :: ds => ms d + 2 + msA ds
end
theorem gdA_iff {b : Nat} : ∀ {ds : List PyData}, GdA b ds ↔ ∀ d ∈ ds, Gd b d
 | [] => by simp [GdA]
 | d :: ds => by simp [GdA, gdA_iff (ds := ds)]
mutual
theorem Gd.mono {b c : Nat} (h : b ≤ c) : ∀ {d : PyData}, Gd b d → Gd c d
 | .none, _ => trivial
 | .bool _, _ => trivial
 | .int i, g => by simp only [Gd] at g ⊢; omega
 | .str x, g => by simp only [Gd] at g ⊢; exact ⟨by omega, g.2⟩
 | .list ds, g => by simp only [Gd] at g ⊢; exact GdA.mono h g
 | .tuple ds, g => by simp only [Gd] at g ⊢; exact GdA.mono h g
 | .dict _, g => by simp only [Gd] at g
theorem GdA.mono {b c : Nat} (h : b ≤ c) : ∀ {ds : List PyData}, GdA b ds → GdA c ds
 | [], _ => trivial
 | d :: ds, g => by simp only [GdA] at g ⊢; exact ⟨Gd.mono h g.1, GdA.mono h g.2⟩
end
theorem msA_app : ∀ a b : List PyData, msA (a ++ b) = msA a + msA b
 | [], b => by simp [msA]
 | d :: a, b => by simp [msA, msA_app a b]; omega
theorem msA_rev : ∀ a : List PyData, msA a.reverse = msA a
 | [] => rfl
 | d :: a => by rw [List.reverse_cons, msA_app, msA_rev a]; simp [msA]; omega
theorem msA_split (a : List PyData) (n : Nat) : msA (a.take n) + msA (a.drop n) = msA a := by rw [← msA_app, List.take_append_drop]
theorem msA_len : ∀ a : List PyData, 2 * a.length ≤ msA a
 | [] => Nat.le_refl _
 | d :: a => by have := msA_len a; simp [msA]; omega
theorem msA_at {a : List PyData} {n : Nat} {d : PyData} (h : a[n]? = some d) : msA (a.take n) + (ms d + 2) + msA (a.drop (n + 1)) = msA a := by
 have e := List.getElem?_eq_some_iff.mp h
 obtain ⟨hn, rfl⟩ := e
 have h1 := msA_split a n
 rw [List.drop_eq_getElem_cons hn] at h1
 simp [msA] at h1
 omega
theorem depthAll_le {k : Nat} : ∀ {ds : List PyData}, PyData.depthAll ds ≤ k ↔ ∀ d ∈ ds, d.depth ≤ k
 | [] => by simp only [PyData.depthAll]; simp
 | d :: ds => by
  show max d.depth (PyData.depthAll ds) ≤ k ↔ _
  rw [Nat.max_le, depthAll_le (ds := ds)]
  simp
mutual
theorem Gd.fine {b : Nat} (hb : b < 1000000000) : ∀ {d : PyData}, Gd b d → Fine (ms d) d.depth d
 | .none, _ => fine_none
 | .bool _, _ => fine_bool _
 | .int i, g => by simp only [Gd] at g; exact fine_int (by omega)
 | .str x, g => by
  simp only [Gd] at g
  have hc : ∀ c ∈ x.cps.toList, c < 16 ^ 8 := fun c hc => by
   have := g.2
   rw [Array.all_eq_true'] at this
   have := of_decide_eq_true (this c (by simpa using hc))
   omega
  exact ⟨rfl, rfl, StrLaws.reprText_len x hc, Nat.le_refl _⟩
 | .list ds, g => by
  simp only [Gd] at g
  obtain ⟨h1, h2, h3, h4⟩ := GdA.fine hb g
  refine ⟨h1, h2, ?_, Nat.le_refl _⟩
  show (listText (PyData.shownAll ds)).length ≤ 3 + msA ds
  have := listText_len_le (PyData.shownAll ds)
  omega
 | .tuple ds, g => by
  simp only [Gd] at g
  obtain ⟨h1, h2, h3, h4⟩ := GdA.fine hb g
  refine ⟨h1, h2, ?_, Nat.le_refl _⟩
  show (tupleText (PyData.shownAll ds)).length ≤ 3 + msA ds
  have := tupleText_len_le (PyData.shownAll ds)
  omega
 | .dict _, g => by simp only [Gd] at g
theorem GdA.fine {b : Nat} (hb : b < 1000000000) : ∀ {ds : List PyData}, GdA b ds → PyData.showableAll ds = true ∧ PyData.hasDictAll ds = false ∧ ((PyData.shownAll ds).map (·.length)).sum + 2 * (PyData.shownAll ds).length ≤ msA ds ∧ (PyData.shownAll ds).length = ds.length
 | [], _ => ⟨rfl, rfl, by simp [PyData.shownAll, msA], rfl⟩
 | d :: ds, g => by
  simp only [GdA] at g
  obtain ⟨h1, h2, h3, h4⟩ := GdA.fine hb g.2
  have h0 := Gd.fine hb g.1
  refine ⟨?_, ?_, ?_, ?_⟩
  ·show (d.showable && PyData.showableAll ds) = true; rw [h0.sh, h1]; rfl
  ·show (d.hasDict || PyData.hasDictAll ds) = false; rw [h0.nd, h2]; rfl
  ·show (d.shown.length :: (PyData.shownAll ds).map (·.length)).sum + 2 * ((PyData.shownAll ds).length + 1) ≤ ms d + 2 + msA ds
   rw [List.sum_cons]
   have := h0.ln
   omega
  ·show (PyData.shownAll ds).length + 1 = _; rw [h4]; rfl
end
mutual
theorem Gd.lay {b : Nat} : ∀ {d : PyData}, Gd b d → d.canLay0 = true
 | .none, _ => rfl
 | .bool _, _ => rfl
 | .int _, _ => rfl
 | .str x, g => by
  simp only [Gd] at g
  show x.cps.all (· < 0x110000) = true
  have := g.2
  rw [Array.all_eq_true'] at this ⊢
  exact fun c hc => decide_eq_true (by have := of_decide_eq_true (this c hc); omega)
 | .list ds, g => by simp only [Gd] at g; exact GdA.lay g
 | .tuple ds, g => by simp only [Gd] at g; exact GdA.lay g
 | .dict _, g => by simp only [Gd] at g
theorem GdA.lay {b : Nat} : ∀ {ds : List PyData}, GdA b ds → PyData.canLayAll0 ds = true
 | [], _ => rfl
 | d :: ds, g => by
  simp only [GdA] at g
  show (d.canLay0 && PyData.canLayAll0 ds) = true
  rw [Gd.lay g.1, GdA.lay g.2]; rfl
end
theorem Gd.shp {b : Nat} {d : PyData} (g : Gd b d) : Shp d.depth d := ⟨g.lay, Nat.le_refl _⟩
def inW (a b : Int) : PyData → Bool
 | .int i => decide (a ≤ i) && decide (i ≤ b)
 | _ => false
def isWh : PyData → Bool
 | .int _ => true
 | _ => false
def tupN (n : Nat) : PyData → Bool
 | .tuple ds => decide (ds.length = n)
 | _ => false
structure Bent (b : Nat) (d d' : PyData) : Prop where
 g : Gd (2 * b + 1) d'
 p : d'.depth ≤ d.depth + 1
 m : ms d' ≤ 2 * ms d + 300
theorem slice_mem {x : Str} {lo hi : Option Int} {c : Nat} (h : c ∈ (Txt.slice x lo hi).cps.toList) : c ∈ x.cps.toList := by
 unfold Txt.slice at h
 split at h
 ·exact h
 ·have h' : c ∈ ((Builtin.Str.strSliceIndices lo hi 1 x.length).filterMap (x.cps[·]?)) := by simpa using h
  obtain ⟨i, _, e⟩ := List.mem_filterMap.mp h'
  have := Array.mem_of_getElem? e
  simpa using this
def isTup : PyData → Bool
 | .tuple _ => true
 | _ => false
def isStr : PyData → Bool
 | .str _ => true
 | _ => false
def isInt : PyData → Bool
 | .int _ => true
 | .bool _ => true
 | _ => false
theorem ty_tup (d : PyData) : (tyR (.imm d) == "tuple") = isTup d := by cases d <;> rfl
theorem ty_str (d : PyData) : (tyR (.imm d) == "str") = isStr d := by cases d <;> rfl
theorem ty_int (d : PyData) : fInt (tyR (.imm d)) = isInt d := by cases d <;> rfl
theorem not_tup {d : PyData} (h : isTup d = false) (n : Nat) : tupN n d = false := by cases d <;> first | rfl | cases h
theorem msA_drop (a : List PyData) (n : Nat) : msA (a.drop n) ≤ msA a := by have := msA_split a n; omega
theorem msA_take (a : List PyData) (n : Nat) : msA (a.take n) ≤ msA a := by have := msA_split a n; omega
theorem ms_tup (ds : List PyData) : ms (.tuple ds) = 3 + msA ds := by simp only [ms]
theorem ms_list (ds : List PyData) : ms (.list ds) = 3 + msA ds := by simp only [ms]
theorem dp_tup (ds : List PyData) : (PyData.tuple ds).depth = PyData.depthAll ds + 1 := rfl
theorem gd_tup {b : Nat} {ds : List PyData} : Gd b (.tuple ds) ↔ ∀ d ∈ ds, Gd b d := by simp only [Gd]; exact gdA_iff
theorem gd_list {b : Nat} {ds : List PyData} : Gd b (.list ds) ↔ ∀ d ∈ ds, Gd b d := by simp only [Gd]; exact gdA_iff
theorem Bent.within {b n : Nat} {ds : List PyData} {d d' : PyData} (g : Gd b (.tuple ds)) (e : ds[n]? = some d) (B : Bent b d d') : Bent b (.tuple ds) (.tuple (ds.take n ++ [d'] ++ ds.drop (n + 1))) := by
 have hg := gd_tup.mp g
 have hd := List.mem_of_getElem? e
 have hdep := depthAll_le.mp (Nat.le_refl (PyData.depthAll ds))
 refine ⟨gd_tup.mpr fun x hx => ?_, ?_, ?_⟩
 ·rcases List.mem_append.mp hx with hx | hx
  ·rcases List.mem_append.mp hx with hx | hx
   ·exact (hg x (List.mem_of_mem_take hx)).mono (by omega)
   ·rw [List.mem_singleton.mp hx]; exact B.g
  ·exact (hg x (List.mem_of_mem_drop hx)).mono (by omega)
 ·rw [dp_tup, dp_tup]
  refine Nat.succ_le_succ (depthAll_le.mpr fun x hx => ?_)
  obtain hx | hx := List.mem_append.mp hx
  ·rcases List.mem_append.mp hx with hx | hx
   ·have := hdep x (List.mem_of_mem_take hx); omega
   ·rw [List.mem_singleton.mp hx]; have := B.p; have := hdep d hd; omega
  ·have := hdep x (List.mem_of_mem_drop hx); omega
 ·have h1 := msA_at e
  have h2 := B.m
  rw [ms_tup, ms_tup, msA_app, msA_app]
  simp only [msA]
  omega
theorem Bent.parts {b : Nat} {ds es : List PyData} (g : Gd b (.tuple ds)) (hs : ∀ x ∈ es, x ∈ ds) (hm : msA es ≤ 2 * msA ds + 2) : Bent b (.tuple ds) (.tuple es) ∧ Bent b (.tuple ds) (.list es) := by
 have hg := gd_tup.mp g
 have hdep := depthAll_le.mp (Nat.le_refl (PyData.depthAll ds))
 have h1 : PyData.depthAll es + 1 ≤ PyData.depthAll ds + 1 + 1 := Nat.succ_le_succ (depthAll_le.mpr fun x hx => by have := hdep x (hs x hx); omega)
 refine ⟨⟨gd_tup.mpr fun x hx => (hg x (hs x hx)).mono (by omega), h1, ?_⟩, ⟨gd_list.mpr fun x hx => (hg x (hs x hx)).mono (by omega), h1, ?_⟩⟩
 ·rw [ms_tup, ms_tup]; omega
 ·rw [ms_tup, ms_list]; omega
theorem msA_dup (a : List PyData) (n : Nat) : msA (a.take (n + 1) ++ a.drop n) ≤ 2 * msA a + 2 := by
 rw [msA_app]
 have := msA_take a (n + 1)
 have := msA_drop a n
 omega
theorem msA_less (a : List PyData) (n : Nat) : msA (a.take n ++ a.drop (n + 1)) ≤ 2 * msA a + 2 := by
 rw [msA_app]
 have := msA_take a n
 have := msA_drop a (n + 1)
 omega
def bentSome : List PyData := [.none, .bool true, .bool false, .int 0, .int 1, .int 2, .int 3, .int 7, .int (-1), .str "", .str "come", .str "done", .str "still", .str "told", .str "two", .tuple [], .list [], .tuple [.int 1, .int 2], .tuple [.int 0, .int 1]]
theorem gd_str {b : Nat} {x : Str} (h1 : x.length ≤ 7) (h2 : x.cps.all (· < 128) = true) (hb : 7 ≤ b) : Gd b (.str x) := by simp only [Gd]; exact ⟨by omega, h2⟩
theorem bent_some {b : Nat} (hb : 7 ≤ b) (d : PyData) : ∀ x ∈ bentSome, Bent b d x := by
 have key : ∀ x ∈ bentSome, Gd 7 x ∧ x.depth ≤ 1 ∧ ms x ≤ 300 := by
  intro x hx
  unfold bentSome at hx
  simp only [List.not_mem_nil, or_false, List.mem_cons] at hx
  rcases hx with rfl | rfl | rfl | rfl | rfl | rfl | rfl | rfl | rfl | rfl | rfl | rfl | rfl | rfl | rfl | rfl | rfl | rfl | rfl
  ·exact ⟨trivial, by decide, by decide⟩
  ·exact ⟨trivial, by decide, by simp [ms]⟩
  ·exact ⟨trivial, by decide, by simp [ms]⟩
  ·exact ⟨by simp [Gd], by decide, by simp [ms]⟩
  ·exact ⟨by simp [Gd], by decide, by simp [ms]⟩
  ·exact ⟨by simp [Gd], by decide, by simp [ms]⟩
  ·exact ⟨by simp [Gd], by decide, by simp [ms]⟩
  ·exact ⟨by simp [Gd], by decide, by simp [ms]⟩
  ·exact ⟨by simp [Gd], by decide, by simp [ms]⟩
  ·exact ⟨gd_str (by decide +kernel) (by decide +kernel) (by decide), by decide, by simp only [ms]; decide +kernel⟩
  ·exact ⟨gd_str (by decide +kernel) (by decide +kernel) (by decide), by decide, by simp only [ms]; decide +kernel⟩
  ·exact ⟨gd_str (by decide +kernel) (by decide +kernel) (by decide), by decide, by simp only [ms]; decide +kernel⟩
  ·exact ⟨gd_str (by decide +kernel) (by decide +kernel) (by decide), by decide, by simp only [ms]; decide +kernel⟩
  ·exact ⟨gd_str (by decide +kernel) (by decide +kernel) (by decide), by decide, by simp only [ms]; decide +kernel⟩
  ·exact ⟨gd_str (by decide +kernel) (by decide +kernel) (by decide), by decide, by simp only [ms]; decide +kernel⟩
  ·exact ⟨by simp [Gd, GdA], by decide, by simp [ms, msA]⟩
  ·exact ⟨by simp [Gd, GdA], by decide, by simp [ms, msA]⟩
  ·exact ⟨by simp [Gd, GdA], by decide, by simp [ms, msA]⟩
  ·exact ⟨by simp [Gd, GdA], by decide, by simp [ms, msA]⟩
 intro x hx
 obtain ⟨h1, h2, h3⟩ := key x hx
 exact ⟨h1.mono (by omega), by omega, by omega⟩
theorem Bent.num {b : Nat} {d : PyData} {i : Int} (h : i.natAbs ≤ 2 * b + 1) : Bent b d (.int i) := ⟨by simp only [Gd]; exact h, Nat.zero_le _, by simp only [ms]; omega⟩
theorem Bent.truth {b : Nat} {d : PyData} (t : Bool) : Bent b d (.bool t) := ⟨trivial, Nat.zero_le _, by simp only [ms]; omega⟩
theorem Bent.text {b : Nat} {x : Str} {c : Nat} {l1 h1 l2 h2 : Option Int} (g : Gd b (.str x)) (hc : c < 128) : Bent b (.str x) (.str (Txt.slice x l1 h1 ++ ⟨#[c]⟩ ++ Txt.slice x l2 h2)) := by
 simp only [Gd] at g
 have e1 := Txt.slice_le x l1 h1
 have e2 := Txt.slice_le x l2 h2
 have hl : (Txt.slice x l1 h1 ++ (⟨#[c]⟩ : Str) ++ Txt.slice x l2 h2).length = (Txt.slice x l1 h1).length + 1 + (Txt.slice x l2 h2).length := by
  show ((Txt.slice x l1 h1).cps ++ #[c] ++ (Txt.slice x l2 h2).cps).size = (Txt.slice x l1 h1).cps.size + 1 + (Txt.slice x l2 h2).cps.size
  simp
 refine ⟨?_, Nat.zero_le _, ?_⟩
 ·simp only [Gd]
  refine ⟨by rw [hl]; omega, ?_⟩
  have hx := g.2
  rw [Array.all_eq_true'] at hx ⊢
  intro y hy
  have hy' : y ∈ ((Txt.slice x l1 h1).cps ++ #[c] ++ (Txt.slice x l2 h2).cps).toList := hy.val
  rw [Array.toList_append, Array.toList_append] at hy'
  rcases List.mem_append.mp hy' with hy' | hy'
  ·rcases List.mem_append.mp hy' with hy' | hy'
   ·exact hx y (by simpa using slice_mem hy')
   ·have : y = c := by simpa using hy'
    rw [this]; exact decide_eq_true hc
  ·exact hx y (by simpa using slice_mem hy')
 ·simp only [ms]; rw [hl]; omega
theorem x_iteB {c : Bool} {A B : Prop} (h1 : c = true → A) (h2 : c = false → B) : if c = true then A else B := by
 cases c
 ·rw [if_neg Bool.false_ne_true]; exact h2 rfl
 ·rw [if_pos rfl]; exact h1 rfl
theorem eqv_ty_str {x : PyData} {w : Str} (h : PyData.eqv x (.str w) = true) : isStr x = true := by
 cases x <;> first | rfl | simp [PyData.eqv] at h
theorem filter_one_t {p : PyData → Bool} {d : PyData} (h : p d = true) : (some d).toList.filter p = [d] := by simp [List.filter, h]
theorem filter_one_f {p : PyData → Bool} {d : PyData} (h : p d = false) : (some d).toList.filter p = [] := by simp [List.filter, h]
theorem filter_empty (p : PyData → Bool) : ∀ ys : List PyData, (ys.filter fun d => !p d).isEmpty = ys.all p
 | [] => rfl
 | d :: ys => by
  rw [List.filter_cons, List.all_cons]
  cases p d
  ·rfl
  ·exact filter_empty p ys
theorem natD_gd {l : List Nat} (h : ∀ x ∈ l, x ≤ 7) : ∀ d ∈ natD l, Gd 7 d := fun d hd => by
 unfold natD at hd
 obtain ⟨x, hx, rfl⟩ := List.mem_map.mp hd
 simp only [Gd]
 have := h x hx
 omega
theorem natD_ms : ∀ l : List Nat, msA (natD l) = 15 * l.length
 | [] => rfl
 | x :: l => by
  have := natD_ms l
  show ms (.int (x : Int)) + 2 + msA (natD l) = _
  simp only [ms, List.length_cons]
  omega
theorem natD_dp (l : List Nat) : PyData.depthAll (natD l) ≤ 0 := depthAll_le.mpr fun d hd => by
 unfold natD at hd
 obtain ⟨x, _, rfl⟩ := List.mem_map.mp hd
 exact Nat.le_refl _
end K
namespace L2
open PySem PySem.Spec PyProof.Rows
section
variable {prog : Program} {w : World} {A : Around} {E : Value → Shared → Prop} {s : Shared}
theorem sorted_tupI {l : Addr} {vs : List Value} {ns : List Int} {Q : Value → Shared → Prop} (hl : s.heap.IsTuple l vs.toArray) (hI : IntsAre vs ns) (h64 : vs.length < 64)
  (h : ∀ (out : Array Value) (ns' : List Int), IntsAre out.toList ns' → ns'.Perm ns → ns'.Pairwise (· ≤ ·) → Q (.ref (s.heap.objs.size + 1)) { s with heap := sortedAll s.heap vs out }) : wpAny (model prog w) A (call (.builtin "sorted") [.ref l]) Q E s := by
 have at1 := srtH_at s.heap vs
 refine Calls.call_function_entry kind_sorted plain_sorted entry_sorted (args_sorted1 _) (srt_of (A := A.in1) (.inl hl) (by rw [sizeLine_eq]; omega) ?_)
 exact wpAny_call_entry slot_list_sort ⟨_, at1, rfl⟩ entry_list_sort (list_sort_tree at1 hI h64 fun out ns' p q r => ⟨_, rfl, h out ns' p q r⟩) (args_list_sort _)
end
section
variable {X : Cx}
def oSortI : WC := fun rs m K => on1 (fun r => ∃ ds ns, sqOf m r = some ds ∧ intsOf ds = some ns ∧ ns.length < 64 ∧ ∀ ns' : List Int, ns'.Perm ns → ns'.Pairwise (· ≤ ·) → K (.new (ns'.map .int))) rs
theorem call_sortIM : CallR X (.builtin "sorted") (cM X.kx oSortI) := by
 rintro pins s σ' H xs us Q I rv ⟨α, m, σ, H0, rs, Kc, Rl, h, ho, fin⟩
 obtain ⟨r, v, rfl, rfl, h1, ds, ns, e1, e2, h64, ho⟩ := on_one h ho
 obtain ⟨l, ys, rfl, f, g⟩ := h1.seq Rl e1
 rw [intsOf_map e2] at g
 have ey := denAll_ints g
 subst ey
 obtain ⟨u, rfl, ru⟩ := rv.one
 cases ru
 have go : ∀ (its : List Value), Vals (ns.map V.int) its → ∀ (out : Array Value) (ns' : List Int), IntsAre out.toList ns' → ns'.Perm ns → ns'.Pairwise (· ≤ ·) → EP X pins σ' Q (.ref (s.heap.objs.size + 1)) { s with heap := sortedAll s.heap its out } := by
  intro its rvv out ns' a1 a2 a3
  obtain ⟨e, he⟩ := sortedAll_at s.heap its out
  have hfr : H (s.heap.objs.size + 1) = none := I.hok.fresh (Nat.le_succ _)
  have hv : Vals (ns'.map V.int) out.toList := vals_ints a1
  have hz : (ns'.map V.int).length ≤ sizeLine := by rw [List.length_map, a2.length_eq, sizeLine_eq]; omega
  refine ⟨.ref (s.heap.objs.size + 1), _, I.laid (t' := s.toks) (fun _ _ => sortedAll_old) (Nat.le_succ _) (show ObjOk X.prog X.w _ _ _ (.lst (ns'.map V.int)) from ⟨hz, out.toList, e, hv, by rw [he]⟩), rfl, ?_⟩
  exact fin _ _ _ (ho ns' a2 a3) (Rl.lay hfr) ⟨_, _, rfl, hfr, upd_same, denAll_of_ints ns'⟩ (frm_upd hfr)
 rcases f with f | f
 ·obtain ⟨its, rvv, pl, _⟩ := I.list f
  have hl := rvv.length
  rw [List.length_map] at hl
  exact sorted_ints pl.isList (intsAre_of rvv) (by omega) fun out ns' a1 a2 a3 => go its rvv out ns' a1 a2 a3
 ·obtain ⟨its, rvv, pl, _⟩ := I.tuple f
  have hl := rvv.length
  rw [List.length_map] at hl
  exact sorted_tupI pl (intsAre_of rvv) (by omega) fun out ns' a1 a2 a3 => go its rvv out ns' a1 a2 a3
theorem x_sortI {m : MSt} {r : R} {Kr : R → Prop} {ds : List PyData} {ns : List Int} (e1 : sqOf m r = some ds) (e2 : intsOf ds = some ns) (hn : ns.length < 64) (h : ∀ ns' : List Int, ns'.Perm ns → ns'.Pairwise (· ≤ ·) → Kr (.new (ns'.map .int))) : oSortI [r] m Kr := ⟨ds, ns, e1, e2, hn, h⟩
def oCountT : WM := fun r rs m K => on1 (onImm fun d => ∃ ds, r = .imm (.tuple ds) ∧ d.canLay0 = true ∧ PyData.canLayAll0 ds = true ∧ d.depth ≤ 60 ∧ K (.imm (.int ((ds.countP fun y => PyData.eqv y d : Nat) : Int))) m) rs
theorem mt_countTM (hu : X.A.units + 64 < cLine) : MtM X "tuple.count" (mM X.kx oCountT) := by
 rintro pins s σ' H x xs v us Q I rx rv ⟨α, m, σ, H0, H1, r, rs, Kc, Rl, h1, h2, ho, fin⟩
 obtain ⟨r2, v2, rfl, rfl, h2, ho⟩ := on_one h2 ho
 obtain ⟨d, rfl, hd, ds, rfl, c1, c2, dp, ho⟩ := on_imm h2 ho
 obtain ⟨a, zs, rfl, f, g⟩ := tup_of_den (show Den X.kx H (.tuple ds) x from h1)
 cases rx
 obtain ⟨u, rfl, ru⟩ := rv.one
 obtain ⟨bs, qd⟩ := Den.reads I (PyData.hasDict_of_canLay _ c1) hd ru
 obtain ⟨its, rvv, ⟨o, ho1, hc, hdict, n, hdata⟩, hz⟩ := I.tupleP f
 obtain ⟨as, rds⟩ := DenAll.reads I (PyData.hasDictAll_of_canLayAll _ c2) g rvv
 have hm : X.A.units + 1 + min (PyData.depthAll ds) d.depth < cLine := by have := Nat.min_le_right (PyData.depthAll ds) d.depth; omega
 have hmap := SeqAt.readsAll_map ds _ _ c2 rds
 obtain ⟨cls, dd, data, sl⟩ := o
 dsimp only at hc hdata
 subst hc
 subst hdata
 refine call_meets PySem.F.slot_tuple_count ⟨_, ho1, rfl⟩ PySem.F.entry_tuple_count (PySem.F.args_tuple_count_2 _ _)
  (SeqAt.tuple_countAt a its.toArray _ dd sl u (fun y => PyData.eqv (SeqAt.readOf s.heap y) d)) ⟨ho1, SeqAt.items_eqAt (by simpa using rds) qd c2 c1 hm, ?_⟩
 have ec : its.toArray.toList.countP (fun y => PyData.eqv (SeqAt.readOf s.heap y) d) = ds.countP fun y => PyData.eqv y d := by
  rw [← hmap, List.countP_map]; rfl
 rw [ec]
 exact ⟨.int _, H, I.tok _, ⟨_, rfl⟩, fin _ _ _ H ho rfl Rl (rr_int _) (Frm.refl _ _)⟩
theorem x_countT {m : MSt} {d : PyData} {ds : List PyData} {k k' : Nat} {K : R → MSt → Prop} (s1 : Shp k d) (s2 : ∀ y ∈ ds, Shp k' y) (hk : k ≤ 60) (h : K (.imm (.int ((ds.countP fun y => PyData.eqv y d : Nat) : Int))) m) : oCountT (.imm (.tuple ds)) [.imm d] m K :=
 ⟨ds, rfl, s1.cl, (shp_all s2).1, Nat.le_trans s1.dp hk, h⟩
end
end L2
namespace L2
open PySem PySem.Spec PySem.W PyProof.Rows
def runC {α : Type} (n : Nat) (f : Nat → Nat → Bool) : KasT α → Option α
 | .ret a => some a
 | .ask i j k => if i < n ∧ j < n then runC n f (k (f i j)) else none
theorem runC_wp {α : Type} {n : Nat} {f : Nat → Nat → Bool} {cmp : Nat → Nat → (Bool → Shared → Prop) → Shared → Prop} {s : Shared} (hc : ∀ i j C, i < n → j < n → C (f i j) s → cmp i j C s) {Q : α → Shared → Prop} : ∀ (t : KasT α) (a : α), runC n f t = some a → Q a s → t.kasWp cmp Q s
 | .ret b, a, e, q => by
  have e' : b = a := Option.some.inj e
  subst e'; exact q
 | .ask i j k, a, e, q => by
  unfold runC at e
  split at e
  ·rename_i h
   exact hc i j _ h.1 h.2 (runC_wp hc (k (f i j)) a e q)
  ·cases e
def lexF (fin : Bool) : List Int → List Int → Bool
 | x :: xs, y :: ys => if x = y then lexF fin xs ys else decide (x < y)
 | _, _ => fin
def lexI (x y : List Int) : Bool := lexF (decide (x.length < y.length)) x y
def sortC (nss : List (List Int)) : Option (List Nat) := if nss.length < 2 then some (List.range nss.length) else (runC nss.length (fun i j => lexI (nss.getD i []) (nss.getD j [])) (kas_sort nss.length)).map Array.toList
section
variable {prog : Program} {w : World} {A : Around} {E : Value → Shared → Prop} {s : Shared}
theorem katLex_ints {b fin : Bool} {Q : Bool → Shared → Prop} : ∀ {us vs : List Value} {xs ys : List Int} {i : Nat}, IntsAre us xs → IntsAre vs ys → (i = 0 → b = true) → Q (lexF fin xs ys) s → KatLex prog w A b fin Q (us.zip vs) i s
 | _, _, _, _, i, .nil, hv, hb, h => by
  rw [List.zip_nil_left]
  refine kat_nil ?_
  cases hv <;> exact h
 | _, _, _, _, i, .cons _ _ hu, .nil, hb, h => by
  rw [List.zip_nil_right]
  exact kat_nil h
 | _, _, _, _, i, .cons x t hu, .cons y u hv, hb, h => by
  rw [List.zip_cons_cons]
  refine kat_cons (wpAny_eqBool_int ?_)
  unfold lexF at h
  by_cases e : x = y
  ·rw [if_pos e] at h
   rw [show (x == y) = true by simpa using e]
   exact kat_yes (katLex_ints hu hv (fun z => by omega) h)
  ·rw [if_neg e] at h
   rw [show (x == y) = false by simpa using e]
   refine kat_no ?_
   by_cases hi : i = 0
   ·subst hi
    rw [hb rfl]
    exact oneLt_int h
   ·rw [show (b && i == 0) = false by simp [hi]]
    exact kat_one _ _ (lt_int h)
def TupI (h : Heap) (v : Value) (ns : List Int) : Prop := ∃ a o xs n, v = .ref a ∧ h.get? a = some o ∧ o.cls = .type "tuple" ∧ o.data = .seq xs n ∧ IntsAre xs.toList ns
theorem intsAre_len : ∀ {vs : List Value} {ns : List Int}, IntsAre vs ns → vs.length = ns.length
 | _, _, .nil => rfl
 | _, _, .cons _ _ h => by rw [List.length_cons, List.length_cons, intsAre_len h]
theorem tups_lt {u v : Value} {x y : List Int} {Q : Bool → Shared → Prop} (hu : TupI s.heap u x) (hv : TupI s.heap v y) (h : Q (lexI x y) s) : wpAny (model prog w) A (keyLt' (tuples' true) u v) Q E s := by
 obtain ⟨a, o, xs, n, rfl, e1, _, d1, i1⟩ := hu
 obtain ⟨b, o', ys, n', rfl, e2, _, d2, i2⟩ := hv
 refine kat_lt e1 d1 e2 d2 (katLex_ints i1 i2 (fun _ => rfl) ?_)
 have l1 := intsAre_len i1
 have l2 := intsAre_len i2
 rw [Array.length_toList] at l1 l2
 rw [l1, l2]
 exact h
def TupsI (h : Heap) : List Value → List (List Int) → Prop
 | [], [] => True
 | v :: vs, ns :: nss => TupI h v ns ∧ TupsI h vs nss
 | _, _ => False
theorem TupsI.len {h : Heap} : ∀ {vs : List Value} {nss : List (List Int)}, TupsI h vs nss → vs.length = nss.length
 | [], [], _ => rfl
 | v :: vs, ns :: nss, t => by rw [List.length_cons, List.length_cons, TupsI.len t.2]
 | [], _ :: _, t => t.elim
 | _ :: _, [], t => t.elim
theorem TupsI.get {h : Heap} : ∀ {vs : List Value} {nss : List (List Int)} {i : Nat}, TupsI h vs nss → i < vs.length → TupI h (vs.getD i .none) (nss.getD i [])
 | [], [], _, _, z => by simp at z
 | v :: vs, ns :: nss, 0, t, _ => t.1
 | v :: vs, ns :: nss, i + 1, t, z => by
  rw [List.getD_cons_succ, List.getD_cons_succ]
  exact TupsI.get t.2 (by simpa using z)
 | [], _ :: _, _, t, _ => (t.elim)
 | _ :: _, [], _, t, _ => (t.elim)
theorem TupsI.mono {h h' : Heap} (k : ∀ a o, h.get? a = some o → o.cls = .type "tuple" → h'.get? a = some o) : ∀ {vs : List Value} {nss : List (List Int)}, TupsI h vs nss → TupsI h' vs nss
 | [], [], _ => trivial
 | v :: vs, ns :: nss, t => by
  obtain ⟨⟨a, o, xs, n, e, e1, c1, d1, i1⟩, t⟩ := t
  exact ⟨⟨a, o, xs, n, e, k a o e1 c1, c1, d1, i1⟩, TupsI.mono k t⟩
 | [], _ :: _, t => t.elim
 | _ :: _, [], t => t.elim
theorem tups_kind : ∀ {vs : List Value} {nss : List (List Int)}, TupsI s.heap vs nss → (∀ ns ∈ nss, ns ≠ []) → ∃ fs, KatTups s.heap vs fs ∧ fs.length = vs.length ∧ ∀ v ∈ fs, ∃ i t, v = Value.int i t
 | [], [], _, _ => ⟨[], .nil, rfl, fun _ h => by cases h⟩
 | v :: vs, ns :: nss, ⟨h, t⟩, hne => by
  obtain ⟨fs, k1, k2, k3⟩ := tups_kind t fun n hn => hne n (List.mem_cons_of_mem _ hn)
  obtain ⟨a, o, xs, n, rfl, e1, c1, d1, i1⟩ := h
  have hn := hne ns List.mem_cons_self
  obtain ⟨xl⟩ := xs
  cases i1 with
  | nil => exact (hn rfl).elim
  | cons x t hi => exact ⟨.int x t :: fs, .cons e1 c1 d1 rfl k1, by rw [List.length_cons, k2, List.length_cons], fun v hv => by
    obtain rfl | hv := List.mem_cons.mp hv
    ·exact ⟨x, t, rfl⟩
    ·exact k3 v hv⟩
 | [], _ :: _, t, _ => t.elim
 | _ :: _, [], t, _ => t.elim
theorem list_sort_tups {a : Addr} {vs : List Value} {nss : List (List Int)} {p : List Nat} {n : Nat} {P : PySem.Fin → Shared → Prop} (ho : s.heap.get? a = some (seqObj "list" vs.toArray n)) (ht : TupsI s.heap vs nss) (hne : ∀ ns ∈ nss, ns ≠ []) (h64 : vs.length < 64) (hp : sortC nss = some p)
  (h : p.length = vs.length → P (.done (.ret .none)) { s with heap := sortedHeap s.heap a vs (p.map fun i => vs.getD i .none).toArray }) :
  (wpAny (model prog w) A (Builtin.«list.sort» ⟨[.ref a], []⟩) P E s) := by
 have hlen := ht.len
 rw [list_sort_plain]
 have hz1 : (s.heap.update a (Obj.mapSeq fun _ => #[])).get? a = some (seqObj "list" #[] _) := get?_update_seq ho fun _ => #[]
 have hz6 : (((s.heap.update a (Obj.mapSeq fun _ => #[])).push (seqObj "tuple" vs.toArray 0)).push (seqObj "list" #[] 0)).get? a = some (seqObj "list" #[] _) := Heap.get?_push_of_some _ (Heap.get?_push_of_some _ hz1)
 refine wpAny_bind (listItems_at ho rfl (wpAny_bind (listUpdate_at ho rfl (wpAny_bind (seqEpoch_at hz1 rfl (wpAny_bind (m := newTuple _) (wpAny_newTuple (wpAny_bind (m := newList _) (wpAny_newList (wpAny_holding ?_))))))))))
 have ht6 : TupsI (((s.heap.update a (Obj.mapSeq fun _ => #[])).push (seqObj "tuple" vs.toArray 0)).push (seqObj "list" #[] 0)) vs nss := ht.mono fun b o e c => by
  have hb : b ≠ a := fun z => by
   subst z
   rw [ho] at e
   cases e
   have c' : Value.type "list" = Value.type "tuple" := c
   injection c' with c'
   exact absurd c' (by decide)
  refine Heap.get?_push_of_some _ (Heap.get?_push_of_some _ ?_)
  rw [Heap.get?_update_ne _ _ _ _ hb]; exact e
 change wpAny _ A _ P E ({ s with heap := ((s.heap.update a (Obj.mapSeq fun _ => #[])).push (seqObj "tuple" vs.toArray 0)).push (seqObj "list" #[] 0) } : Shared)
 dsimp only
 have hsz : (vs.toArray : Array Value).size = vs.length := by rw [List.size_toArray]
 unfold sortC at hp
 by_cases h2 : (vs.toArray : Array Value).size < 2
 ·rw [if_pos h2, if_pos h2]
  rw [if_pos (by omega)] at hp
  have ep := (Option.some.inj hp).symm
  subst ep
  refine wpAny_bind (wpAny_pure ?_)
  rw [StateT.run_pure]
  refine wpAny_bind (wpAny_pure ?_)
  dsimp only
  refine wpAny_bind (seqEpoch_at hz6 rfl ?_)
  refine wpAny_bind (listUpdate_at hz6 rfl ?_ (hsz2 := by rw [Array.size_map]; show (pairsOf vs).size ≤ _; rw [pairsOf_size, sizeLine_eq]; omega))
  simp only [if_false, Bool.false_eq_true, bne_self_eq_false]
  refine wpAny_pure ?_
  have hh := h (by rw [List.length_range]; omega)
  have eo : ((List.range nss.length).map fun i => vs.getD i .none).toArray = (arrOf (SortSt.mk' general' (vs.toArray.zip vs.toArray) #[] 7 none)).map (·.2) := by
   show _ = (vs.toArray.zip vs.toArray).map (·.2)
   apply Array.toList_inj.mp
   rw [Array.toList_map, Array.toList_zip]
   refine List.ext_getElem? fun i => ?_
   by_cases hi : i < vs.length
   ·simp [List.getElem?_range, hi, ← hlen]
   ·simp [List.getElem?_range, hi, ← hlen]
  rw [eo] at hh
  exact hh
 ·rw [if_neg h2, if_neg h2]
  rw [if_neg (by omega)] at hp
  obtain ⟨q, eq, rfl⟩ := Option.map_eq_some_iff.mp hp
  obtain ⟨fs, k1, k2, k3⟩ := tups_kind (s := { s with heap := ((s.heap.update a (Obj.mapSeq fun _ => #[])).push (seqObj "tuple" vs.toArray 0)).push (seqObj "list" #[] 0) }) ht6 hne
  refine wpAny_bind (kat_kind (T := .type "int") k1 (by omega) (fun v hv => ?_) rfl ?_)
  ·obtain ⟨i, t, rfl⟩ := k3 v hv
   exact .now
  rw [show (Value.type "int" != Value.type "tuple") = true by decide]
  refine wpAny_bind (wpAny_mono (kat_run (ks := vs) (Q := fun st' s' => q.size = vs.length ∧ arrOf st' = q.map (kas_item (vs.toArray.zip vs.toArray)) ∧ failedOf st' = none ∧ s' = { s with heap := ((s.heap.update a (Obj.mapSeq fun _ => #[])).push (seqObj "tuple" vs.toArray 0)).push (seqObj "list" #[] 0) })
   (G := fun p' s' => p' = q ∧ s' = { s with heap := ((s.heap.update a (Obj.mapSeq fun _ => #[])).push (seqObj "tuple" vs.toArray 0)).push (seqObj "list" #[] 0) }) rfl (by omega) h64 (fun p' st' s' z1 z2 z3 z4 => by obtain ⟨rfl, rfl⟩ := z4; exact ⟨z1, z2, z3, rfl⟩) ?_) ?_ fun _ _ e => e)
  rotate_left
  ·rintro ⟨⟨⟩, st'⟩ s' ⟨z1, z2, z3, rfl⟩
   dsimp only
   rw [kat_snds rfl z2]
   refine wpAny_bind (seqEpoch_at hz6 rfl ?_)
   refine wpAny_bind (listUpdate_at hz6 rfl ?_ (hsz2 := by simp; rw [z1, sizeLine_eq]; omega))
   rw [z3]
   simp only [if_false, Bool.false_eq_true, bne_self_eq_false]
   exact wpAny_pure (h (by rw [Array.length_toList]; exact z1))
  ·rw [hlen]
   refine runC_wp (fun i j C hi hj hC => ?_) _ q eq ⟨rfl, rfl⟩
   exact tups_lt (ht6.get (by omega)) (ht6.get (by omega)) hC
theorem sorted_tups {l : Addr} {vs : List Value} {nss : List (List Int)} {p : List Nat} {Q : Value → Shared → Prop} (hl : s.heap.IsList l vs.toArray) (ht : TupsI s.heap vs nss) (hne : ∀ ns ∈ nss, ns ≠ []) (h64 : vs.length < 64) (hp : sortC nss = some p)
  (h : p.length = vs.length → Q (.ref (s.heap.objs.size + 1)) { s with heap := sortedAll s.heap vs (p.map fun i => vs.getD i .none).toArray }) : wpAny (model prog w) A (call (.builtin "sorted") [.ref l]) Q E s := by
 have at1 := srtH_at s.heap vs
 have htZ : TupsI (srtH s.heap vs) vs nss := ht.mono fun b o e c => by
  have hlt : b < s.heap.objs.size := Heap.lt_size e
  refine Heap.get?_push_of_some _ ?_
  rw [Heap.get?_update_ne _ _ _ _ (Nat.ne_of_lt hlt)]
  exact Heap.get?_push_of_some _ e
 refine Calls.call_function_entry kind_sorted plain_sorted entry_sorted (args_sorted1 _) (srt_of (A := A.in1) (.inr hl) (by rw [sizeLine_eq]; omega) ?_)
 exact wpAny_call_entry slot_list_sort ⟨_, at1, rfl⟩ entry_list_sort (list_sort_tups at1 htZ hne h64 hp fun hl => ⟨_, rfl, h hl⟩) (args_list_sort _)
end
section
variable {X : Cx}
def tupI (ns : List Int) : PyData := .tuple (ns.map .int)
def oSortT : WC := fun rs m K => on1 (fun r => ∃ nss p, lsOf m r = some (nss.map tupI) ∧ nss.length < 64 ∧ (∀ ns ∈ nss, ns ≠ []) ∧ sortC nss = some p ∧ K (.new (p.map fun i => (nss.map tupI).getD i .none))) rs
theorem tups_of {pins : List (Addr × Obj)} {s : Shared} {σ : List (Option V)} {H : Hp} (I : Inv X pins σ H s) : ∀ {nss : List (List Int)} {xs : List V} {us : List Value}, DenAll X.kx H (nss.map tupI) xs → Vals xs us → TupsI s.heap us nss
 | [], xs, us, g, r => by
  simp only [List.map_nil, DenAll] at g
  subst g
  cases r
  trivial
 | ns :: nss, xs, us, g, r => by
  simp only [List.map_cons, DenAll] at g
  obtain ⟨x, xs', rfl, g1, g2⟩ := g
  cases r with
  | cons h t =>
   refine ⟨?_, tups_of I g2 t⟩
   obtain ⟨a, zs, rfl, f, g⟩ := tup_of_den (show Den X.kx H (.tuple (ns.map .int)) x from g1)
   have ez := denAll_ints g
   subst ez
   cases h
   obtain ⟨its, rvv, ⟨o, ho1, hc, hdict, n, hdata⟩, hz⟩ := I.tupleP f
   exact ⟨a, o, _, n, rfl, ho1, hc, hdata, by simpa using intsAre_of rvv⟩
theorem den_pick {K : Kd} {H : Hp} {ds : List PyData} {xs : List V} (g : DenAll K H ds xs) : ∀ p : List Nat, DenAll K H (p.map fun i => ds.getD i .none) (p.map fun i => xs.getD i .non)
 | [] => by simp only [List.map_nil, DenAll]
 | i :: p => by
  simp only [List.map_cons, DenAll]
  refine ⟨_, _, rfl, ?_, den_pick g p⟩
  cases e : ds[i]? with
  | some d =>
   obtain ⟨v, e2, hd⟩ := g.get e
   rw [getD_of e, getD_of e2]; exact hd
  | none =>
   have e2 : xs[i]? = none := by rw [List.getElem?_eq_none_iff] at e ⊢; rw [← g.length]; exact e
   rw [List.getD_eq_getElem?_getD, List.getD_eq_getElem?_getD, e, e2]
   simp only [Option.getD_none, Den]
theorem vals_pick {xs : List V} {us : List Value} (r : Vals xs us) : ∀ p : List Nat, Vals (p.map fun i => xs.getD i .non) (p.map fun i => us.getD i .none)
 | [] => .nil
 | i :: p => by
  rw [List.map_cons, List.map_cons]
  refine .cons ?_ (vals_pick r p)
  cases e : xs[i]? with
  | some x =>
   obtain ⟨u, e2, hu⟩ := r.get e
   rw [getD_of e, getD_of e2]; exact hu
  | none =>
   rw [List.getD_eq_getElem?_getD, List.getD_eq_getElem?_getD, e, r.none_of e]
   exact rfl
theorem call_sortTM : CallR X (.builtin "sorted") (cM X.kx oSortT) := by
 rintro pins s σ' H xs us Q I rv ⟨α, m, σ, H0, rs, Kc, Rl, h, ho, fin⟩
 obtain ⟨r, v, rfl, rfl, h1, nss, p, e1, h64, hne, hp, ho⟩ := on_one h ho
 obtain ⟨l, ys, rfl, f, g⟩ := h1.list Rl e1
 obtain ⟨u, rfl, ru⟩ := rv.one
 cases ru
 obtain ⟨its, rvv, pl, hz0⟩ := I.list f
 have hl := rvv.length
 have hl2 := g.length
 rw [List.length_map] at hl2
 refine sorted_tups pl.isList (tups_of I g rvv) hne (by omega) hp fun hpl => ?_
 obtain ⟨e, he⟩ := sortedAll_at s.heap its (p.map fun i => its.getD i .none).toArray
 have hfr : H (s.heap.objs.size + 1) = none := I.hok.fresh (Nat.le_succ _)
 have hv := vals_pick rvv p
 have hz : (p.map fun i => ys.getD i .non).length ≤ sizeLine := by rw [List.length_map, sizeLine_eq]; omega
 refine ⟨.ref (s.heap.objs.size + 1), _, I.laid (t' := s.toks) (fun _ _ => sortedAll_old) (Nat.le_succ _) (show ObjOk X.prog X.w _ _ _ (.lst (p.map fun i => ys.getD i .non)) from ⟨hz, _, e, hv, by rw [he]⟩), rfl, ?_⟩
 exact fin _ _ _ ho (Rl.lay hfr) ⟨_, _, rfl, hfr, upd_same, (den_pick g p).mono (pers_upd (.inl hfr))⟩ (frm_upd hfr)
theorem x_sortT {m : MSt} {r : R} {Kr : R → Prop} {nss : List (List Int)} {p : List Nat} (e1 : lsOf m r = some (nss.map tupI)) (hn : nss.length < 64) (hne : ∀ ns ∈ nss, ns ≠ []) (hp : sortC nss = some p) (h : Kr (.new (p.map fun i => (nss.map tupI).getD i .none))) : oSortT [r] m Kr := ⟨nss, p, e1, hn, hne, hp, h⟩
end
end L2
namespace K
open PySem L2 M7
def fitD : List Nat → List PyData → Bool
 | r :: rs, d :: ds => inW 0 (r : Int) d && fitD rs ds
 | [], [] => true
 | _, _ => false
theorem fitD_len : ∀ {rs : List Nat} {ds : List PyData}, fitD rs ds = true → ds.length = rs.length
 | [], [], _ => rfl
 | r :: rs, d :: ds, h => by
  simp only [fitD, Bool.and_eq_true] at h
  rw [List.length_cons, List.length_cons, fitD_len h.2]
 | [], _ :: _, h => by cases h
 | _ :: _, [], h => by cases h
theorem fitD_at : ∀ {rs : List Nat} {ds : List PyData} {i r : Nat} {d : PyData}, fitD rs ds = true → rs[i]? = some r → ds[i]? = some d → inW 0 (r : Int) d = true
 | r :: rs, d :: ds, 0, r', d', h, e1, e2 => by
  simp only [fitD, Bool.and_eq_true] at h
  cases e1; cases e2; exact h.1
 | r :: rs, d :: ds, i + 1, r', d', h, e1, e2 => by
  simp only [fitD, Bool.and_eq_true] at h
  exact fitD_at h.2 (by simpa using e1) (by simpa using e2)
 | [], _, _, _, _, _, e1, _ => by simp at e1
 | _ :: _, [], _, _, _, h, _, _ => by cases h
theorem fitD_of : ∀ {rs : List Nat} {ds : List PyData}, ds.length = rs.length → (∀ (i r : Nat) (d : PyData), rs[i]? = some r → ds[i]? = some d → inW 0 (r : Int) d = true) → fitD rs ds = true
 | [], [], _, _ => rfl
 | r :: rs, d :: ds, hl, h => by
  simp only [fitD, Bool.and_eq_true]
  exact ⟨h 0 r d rfl rfl, fitD_of (by simpa using hl) fun i r d e1 e2 => h (i + 1) r d (by simpa using e1) (by simpa using e2)⟩
 | [], _ :: _, hl, _ => nomatch hl
 | _ :: _, [], hl, _ => nomatch hl
def isLns (h : Hall) : PyData → Bool
 | .tuple ds => fitD h.rs ds
 | _ => false
def isTn (h : Hall) : Rule → PyData → Bool
 | .turns, d => inW 0 ((h.ss.length : Int) - 1) d
 | _, d => inW 0 0 d
def isSt (h : Hall) (r : Rule) : PyData → Bool
 | .tuple [x, y] => isLns h x && isTn h r y
 | _ => false
def cntD (ds : List PyData) (x : PyData) : Nat := ds.countP fun y => PyData.eqv y x
def isOr (h : Hall) : PyData → Bool
 | .tuple ds => decide (ds.length = h.ss.length) && ds.all fun x => inW 0 ((h.ss.length : Int) - 1) x && decide (cntD ds x = 1)
 | _ => false
def isMv (h : Hall) : PyData → Bool
 | .tuple [x] => PyData.eqv x (.str "still")
 | .tuple [x, y] => if PyData.eqv x (.str "come") then isOr h y else PyData.eqv x (.str "done") && inW 0 ((h.ss.length : Int) - 1) y
 | _ => false
def isRn (h : Hall) : PyData → Bool
 | .tuple ds => ds.all (isMv h)
 | _ => false
theorem isLns_tup (h : Hall) (ds : List PyData) : isLns h (.tuple ds) = fitD h.rs ds := rfl
theorem isOr_tup (h : Hall) (ds : List PyData) : isOr h (.tuple ds) = (decide (ds.length = h.ss.length) && ds.all fun x => inW 0 ((h.ss.length : Int) - 1) x && decide (cntD ds x = 1)) := rfl
theorem isSt_two (h : Hall) (r : Rule) (x y : PyData) : isSt h r (.tuple [x, y]) = (isLns h x && isTn h r y) := rfl
theorem isMv_one (h : Hall) (x : PyData) : isMv h (.tuple [x]) = PyData.eqv x (.str "still") := rfl
theorem isMv_two (h : Hall) (x y : PyData) : isMv h (.tuple [x, y]) = if PyData.eqv x (.str "come") then isOr h y else PyData.eqv x (.str "done") && inW 0 ((h.ss.length : Int) - 1) y := rfl
theorem isSt_not2 (h : Hall) (r : Rule) {d : PyData} (e : tupN 2 d = false) : isSt h r d = false := by
 cases d with
 | tuple ds =>
  match ds, e with
  | [], _ => rfl
  | [_], _ => rfl
  | [_, _], e => simp [tupN] at e
  | _ :: _ :: _ :: _, _ => rfl
 | _ => rfl
theorem isMv_not12 (h : Hall) {d : PyData} (e1 : tupN 1 d = false) (e2 : tupN 2 d = false) : isMv h d = false := by
 cases d with
 | tuple ds =>
  match ds, e1, e2 with
  | [], _, _ => rfl
  | [_], e1, _ => simp [tupN] at e1
  | [_, _], _, e2 => simp [tupN] at e2
  | _ :: _ :: _ :: _, _, _ => rfl
 | _ => rfl
theorem tup_two {d : PyData} (e : tupN 2 d = true) : ∃ x y, d = .tuple [x, y] := by
 cases d with
 | tuple ds =>
  have el : ds.length = 2 := by simpa [tupN] using e
  match ds, el with
  | [x, y], _ => exact ⟨x, y, rfl⟩
 | _ => cases e
theorem tup_one {d : PyData} (e : tupN 1 d = true) : ∃ x, d = .tuple [x] := by
 cases d with
 | tuple ds =>
  have el : ds.length = 1 := by simpa [tupN] using e
  match ds, el with
  | [x], _ => exact ⟨x, rfl⟩
 | _ => cases e
theorem tup_n {n : Nat} {d : PyData} (e : tupN n d = true) : ∃ ds, d = .tuple ds ∧ ds.length = n := by
 cases d with
 | tuple ds => exact ⟨ds, rfl, by simpa [tupN] using e⟩
 | _ => cases e
theorem isLns_not (h : Hall) {d : PyData} (e : tupN h.ss.length d = false) : isLns h d = false := by
 cases d with
 | tuple ds =>
  cases q : isLns h (.tuple ds) with
  | false => rfl
  | true =>
   have := fitD_len q
   rw [h.rsl] at this
   simp [tupN, this] at e
 | _ => rfl
theorem isOr_not (h : Hall) {d : PyData} (e : tupN h.ss.length d = false) : isOr h d = false := by
 cases d with
 | tuple ds =>
  have e' : ¬ ds.length = h.ss.length := by simpa [tupN] using e
  rw [isOr_tup, decide_eq_false e', Bool.false_and]
 | _ => rfl
theorem rise_range : ∀ (l : List Int) (a : Int), l.Pairwise (· < ·) → (∀ x ∈ l, a ≤ x ∧ x < a + l.length) → l = (List.range l.length).map fun i : Nat => a + (i : Int)
 | [], a, _, _ => rfl
 | x :: l, a, hp, h => by
  rcases List.pairwise_cons.mp hp with ⟨h1, h2⟩
  have hx := h x List.mem_cons_self
  rw [List.length_cons] at hx h
  have ih := rise_range l (a + 1) h2 fun y hy => by
   have := h1 y hy
   have := h y (List.mem_cons_of_mem _ hy)
   omega
  have ex : x = a := by
   cases l with
   | nil => simp at hx; omega
   | cons y l =>
    have e : (y :: l)[0]? = some (a + 1) := by rw [ih]; simp
    have hy : y = a + 1 := by simpa using e
    have := h1 y List.mem_cons_self
    omega
  rw [List.length_cons, List.range_succ_eq_map, List.map_cons, List.map_map, ex]
  have e2 : l = (List.range l.length).map ((fun i : Nat => a + (i : Int)) ∘ Nat.succ) := ih.trans (List.map_congr_left fun i _ => by
   show a + 1 + (i : Int) = a + ((i + 1 : Nat) : Int)
   omega)
  rw [← e2]
  simp
def rngI (n : Nat) : List Int := (List.range n).map fun i : Nat => (i : Int)
theorem rngI_rise (n : Nat) : (rngI n).Pairwise (· < ·) := by
 unfold rngI
 rw [List.pairwise_map]
 exact List.pairwise_lt_range.imp fun h => by omega
theorem perm_range {ns ns' : List Int} {n : Nat} (hp : ns'.Perm ns) (hs : ns'.Pairwise (· ≤ ·)) : ns' = rngI n ↔ ns.length = n ∧ ∀ x ∈ ns, (0 ≤ x ∧ x ≤ (n : Int) - 1) ∧ ns.count x = 1 := by
 constructor
 ·intro e
  subst e
  have hl := hp.length_eq
  refine ⟨by rw [← hl]; simp [rngI], fun x hx => ?_⟩
  have hm := hp.mem_iff.mpr hx
  have hnd : (rngI n).Nodup := (rngI_rise n).imp fun h => by omega
  refine ⟨?_, ?_⟩
  ·unfold rngI at hm
   obtain ⟨i, hi, rfl⟩ := List.mem_map.mp hm
   have := List.mem_range.mp hi
   omega
  ·rw [← hp.count_eq]
   have c1 := List.nodup_iff_count.mp hnd x
   have c2 := List.count_pos_iff.mpr hm
   omega
 ·rintro ⟨hl, h⟩
  have hnd : ns.Nodup := List.nodup_iff_count.mpr fun x => by
   by_cases hx : x ∈ ns
   ·rw [(h x hx).2]; exact Nat.le_refl _
   ·rw [List.count_eq_zero_of_not_mem hx]; exact Nat.zero_le _
  have hnd' : ns'.Nodup := hp.nodup_iff.mpr hnd
  have hlt : ns'.Pairwise (· < ·) := by
   refine (hs.and hnd').imp fun ⟨a, b⟩ => by omega
  have hl' : ns'.length = n := by rw [hp.length_eq, hl]
  have := rise_range ns' 0 hlt fun x hx => by
   have := (h x (hp.mem_iff.mp hx)).1
   rw [hl']; omega
  rw [this, hl']
  unfold rngI
  exact List.map_congr_left fun i _ => by omega
theorem cntD_ints (ns : List Int) (x : Int) : cntD (ns.map .int) (.int x) = ns.count x := by
 unfold cntD
 rw [List.countP_map, List.count]
 refine List.countP_congr fun y _ => ?_
 show (decide (y = x)) = true ↔ (y == x) = true
 simp
def stepO (n : Nat) (os : List (List Nat)) : List (List Nat) := os.flatMap fun a => ((List.range n).filter fun l => !a.contains l).map fun l => a ++ [l]
def ordK (n : Nat) : Nat → List (List Nat)
 | 0 => [[]]
 | k + 1 => stepO n (ordK n k)
theorem stepO_take {n : Nat} {os : List (List Nat)} {j : Nat} {a : List Nat} (h : os[j]? = some a) : stepO n (os.take (j + 1)) = stepO n (os.take j) ++ ((List.range n).filter fun l => !a.contains l).map fun l => a ++ [l] := by
 unfold stepO
 rw [List.take_add_one, h, List.flatMap_append]
 simp
theorem ordK_small : ∀ n ≤ 4, ∀ k ≤ 4, (ordK n k).length ≤ 24 ∧ ∀ a ∈ ordK n k, a.length ≤ 4 ∧ ∀ x ∈ a, x ≤ 3 := by decide +kernel
theorem stepO_take_len : ∀ n ≤ 4, ∀ k ≤ 3, ∀ j ≤ 24, (stepO n ((ordK n k).take j)).length ≤ 24 := by decide +kernel
def insO (j : Nat) (o : List Nat) : List (List Nat) := (List.range (j + 1)).map fun k => o.take k ++ [j] ++ o.drop k
def insA (j : Nat) (os : List (List Nat)) : List (List Nat) := os.flatMap (insO j)
def intsL (o : List Nat) : List Int := o.map fun x : Nat => (x : Int)
theorem tupI_ln (o : List Nat) : tupI (intsL o) = lnD o := by
 unfold tupI intsL lnD natD
 rw [List.map_map]; rfl
theorem ord_sorts : ∀ j ≤ 3, ∃ p, sortC ((insA j (ordK j j)).map intsL) = some p ∧ p.map (fun i => (insA j (ordK j j)).getD i []) = ordK (j + 1) (j + 1) ∧ ∀ i ∈ p, i < (insA j (ordK j j)).length := by
 intro j hj
 match j, hj with
 | 0, _ => exact ⟨(sortC ((insA 0 (ordK 0 0)).map intsL)).getD [], by decide +kernel, by decide +kernel, by decide +kernel⟩
 | 1, _ => exact ⟨(sortC ((insA 1 (ordK 1 1)).map intsL)).getD [], by decide +kernel, by decide +kernel, by decide +kernel⟩
 | 2, _ => exact ⟨(sortC ((insA 2 (ordK 2 2)).map intsL)).getD [], by decide +kernel, by decide +kernel, by decide +kernel⟩
 | 3, _ => exact ⟨(sortC ((insA 3 (ordK 3 3)).map intsL)).getD [], by decide +kernel, by decide +kernel, by decide +kernel⟩
theorem pick_ln {os : List (List Nat)} {p : List Nat} (h : ∀ i ∈ p, i < os.length) : p.map (fun i => ((os.map intsL).map tupI).getD i .none) = (p.map fun i => os.getD i []).map lnD := by
 rw [List.map_map (f := fun i => os.getD i [])]
 refine List.map_congr_left fun i hi => ?_
 obtain ⟨o, e⟩ : ∃ o, os[i]? = some o := ⟨_, List.getElem?_eq_getElem (h i hi)⟩
 have e2 : ((os.map intsL).map tupI)[i]? = some (lnD o) := by rw [List.getElem?_map, List.getElem?_map, e]; exact congrArg some (tupI_ln _)
 rw [getD_of e2]
 show _ = lnD (os.getD i [])
 rw [getD_of e]
theorem insA_take {j : Nat} {os : List (List Nat)} {z : Nat} {o : List Nat} (h : os[z]? = some o) : insA j (os.take (z + 1)) = insA j (os.take z) ++ insO j o := by
 unfold insA
 rw [List.take_add_one, h, List.flatMap_append]
 simp
theorem insA_len : ∀ j ≤ 3, ∀ z ≤ 24, (insA j ((ordK j j).take z)).length ≤ 24 := by decide +kernel
theorem insA_ne : ∀ j ≤ 3, ∀ o ∈ insA j (ordK j j), o ≠ [] := by decide +kernel
mutual
def wd : PyData → Nat
 | .list ds => max ds.length (wdA ds)
 | .tuple ds => max ds.length (wdA ds)
 | _ => 0
def wdA : List PyData → Nat
 | [] => 0
 | d :: ds => max (wd d) (wdA ds)
end
theorem wd_tup (ds : List PyData) : wd (.tuple ds) = max ds.length (wdA ds) := by simp only [wd]
theorem wd_list (ds : List PyData) : wd (.list ds) = max ds.length (wdA ds) := by simp only [wd]
theorem wdA_le {k : Nat} : ∀ {ds : List PyData}, wdA ds ≤ k ↔ ∀ d ∈ ds, wd d ≤ k
 | [] => by simp [wdA]
 | d :: ds => by simp only [wdA]; rw [Nat.max_le, wdA_le (ds := ds)]; simp
structure BentW (b : Nat) (d d' : PyData) : Prop extends Bent b d d' where
 w : wd d' ≤ max (wd d) 2 + 1
theorem BentW.within {b n : Nat} {ds : List PyData} {d d' : PyData} (g : Gd b (.tuple ds)) (e : ds[n]? = some d) (B : BentW b d d') : BentW b (.tuple ds) (.tuple (ds.take n ++ [d'] ++ ds.drop (n + 1))) := by
 refine ⟨B.toBent.within g e, ?_⟩
 have hn := (List.getElem?_eq_some_iff.mp e).1
 have hall := wdA_le.mp (Nat.le_refl (wdA ds))
 have hd := hall d (List.mem_of_getElem? e)
 have hw := B.w
 rw [wd_tup, wd_tup]
 have hlen : (ds.take n ++ [d'] ++ ds.drop (n + 1)).length = ds.length := by
  rw [List.length_append, List.length_append, List.length_take, List.length_drop]; simp; omega
 have hA : wdA (ds.take n ++ [d'] ++ ds.drop (n + 1)) ≤ max (max ds.length (wdA ds)) 2 + 1 := wdA_le.mpr fun x hx => by
  obtain hx | hx := List.mem_append.mp hx
  ·rcases List.mem_append.mp hx with hx | hx
   ·have := hall x (List.mem_of_mem_take hx); omega
   ·rw [List.mem_singleton.mp hx]; omega
  ·have := hall x (List.mem_of_mem_drop hx); omega
 rw [hlen]
 omega
theorem BentW.parts {b : Nat} {ds es : List PyData} (g : Gd b (.tuple ds)) (hs : ∀ x ∈ es, x ∈ ds) (hm : msA es ≤ 2 * msA ds + 2) (hl : es.length ≤ ds.length + 1) : BentW b (.tuple ds) (.tuple es) ∧ BentW b (.tuple ds) (.list es) := by
 obtain ⟨h1, h2⟩ := Bent.parts g hs hm
 have hall := wdA_le.mp (Nat.le_refl (wdA ds))
 have hA : wdA es ≤ wdA ds := wdA_le.mpr fun x hx => hall x (hs x hx)
 refine ⟨⟨h1, ?_⟩, ⟨h2, ?_⟩⟩
 ·rw [wd_tup, wd_tup]; omega
 ·rw [wd_tup, wd_list]; omega
theorem BentW.num {b : Nat} {d : PyData} {i : Int} (h : i.natAbs ≤ 2 * b + 1) : BentW b d (.int i) := ⟨Bent.num h, by simp [wd]⟩
theorem BentW.truth {b : Nat} {d : PyData} (t : Bool) : BentW b d (.bool t) := ⟨Bent.truth t, by simp [wd]⟩
theorem BentW.text {b : Nat} {x : Str} {c : Nat} {l1 h1 l2 h2 : Option Int} (g : Gd b (.str x)) (hc : c < 128) : BentW b (.str x) (.str (Txt.slice x l1 h1 ++ ⟨#[c]⟩ ++ Txt.slice x l2 h2)) := ⟨Bent.text g hc, by simp [wd]⟩
theorem bentW_some {b : Nat} (hb : 7 ≤ b) (d : PyData) : ∀ x ∈ bentSome, BentW b d x := fun x hx => by
 refine ⟨bent_some hb d x hx, ?_⟩
 have key : wd x ≤ 2 := by
  unfold bentSome at hx
  simp only [List.not_mem_nil, or_false, List.mem_cons] at hx
  rcases hx with rfl | rfl | rfl | rfl | rfl | rfl | rfl | rfl | rfl | rfl | rfl | rfl | rfl | rfl | rfl | rfl | rfl | rfl | rfl <;> simp [wd, wdA]
 omega
theorem len_less (ds : List PyData) (n : Nat) : (ds.take n ++ ds.drop (n + 1)).length ≤ ds.length + 1 := by
 rw [List.length_append, List.length_take, List.length_drop]; omega
theorem len_dup (ds : List PyData) (n : Nat) : (ds.take (n + 1) ++ ds.drop n).length ≤ ds.length + 1 := by
 rw [List.length_append, List.length_take, List.length_drop]; omega
theorem eqvA_ints : ∀ a b : List Int, PyData.eqvAll (a.map .int) (b.map .int) = decide (a = b)
 | [], [] => by rw [decide_eq_true rfl]; rfl
 | [], y :: b => by simp [PyData.eqvAll]
 | x :: a, [] => by simp [PyData.eqvAll]
 | x :: a, y :: b => by
  have ih := eqvA_ints a b
  simp only [List.map_cons, PyData.eqvAll, PyData.eqv, ih]
  by_cases h : x = y
  ·subst h; simp
  ·simp [h]
theorem eqv_ints (a b : List Int) : PyData.eqv (.list (a.map .int)) (.list (b.map .int)) = decide (a = b) := by
 simp only [PyData.eqv]; exact eqvA_ints a b
theorem range_ints (n : Nat) : rangeD 0 n = (rngI n).map .int := by
 unfold rangeD rngI
 simp
theorem isOr_sort {h : Hall} {ns ns' : List Int} (hp : ns'.Perm ns) (hs : ns'.Pairwise (· ≤ ·)) : isOr h (.tuple (ns.map .int)) = decide (ns' = rngI h.ss.length) := by
 rw [Bool.eq_iff_iff, decide_eq_true_eq, perm_range hp hs, isOr_tup, Bool.and_eq_true, decide_eq_true_eq, List.length_map, List.all_eq_true]
 refine and_congr Iff.rfl ⟨fun q x hx => ?_, fun q d hd => ?_⟩
 ·have := q (.int x) (List.mem_map.mpr ⟨x, hx, rfl⟩)
  rw [Bool.and_eq_true, decide_eq_true_eq, cntD_ints] at this
  refine ⟨?_, this.2⟩
  have h1 : (decide (0 ≤ x) && decide (x ≤ (h.ss.length : Int) - 1)) = true := this.1
  rw [Bool.and_eq_true] at h1
  rw [decide_eq_true_eq, decide_eq_true_eq] at h1
  exact h1
 ·obtain ⟨x, hx, rfl⟩ := List.mem_map.mp hd
  obtain ⟨⟨h1, h2⟩, h3⟩ := q x hx
  rw [Bool.and_eq_true, decide_eq_true_eq, cntD_ints]
  refine ⟨?_, h3⟩
  show (decide (0 ≤ x) && decide (x ≤ (h.ss.length : Int) - 1)) = true
  rw [decide_eq_true h1, decide_eq_true h2]; rfl
theorem ints_of : ∀ {ys : List PyData}, (∀ d ∈ ys, ∃ i : Int, d = .int i) → ∃ ns : List Int, ys = ns.map .int
 | [], _ => ⟨[], rfl⟩
 | d :: ys, h => by
  obtain ⟨i, rfl⟩ := h d List.mem_cons_self
  obtain ⟨ns, rfl⟩ := ints_of fun d hd => h d (List.mem_cons_of_mem _ hd)
  exact ⟨i :: ns, rfl⟩
end K
namespace K
open PySem L2
local macro_rules | `(tactic| walk_at "x1") => `(tactic| first
 | with_reducible apply x_seq | with_reducible apply x_bin | ((with_reducible refine' x_var ?xe ?_); (case xe => rfl)) | with_reducible apply x_c
 | with_reducible apply x_test | with_reducible apply x_onBl | with_reducible apply x_onInt | with_reducible apply x_onObj | with_reducible apply x_onImm | with_reducible apply x_on1
 | with_reducible apply x_addI | with_reducible apply x_subI | with_reducible apply x_lt | with_reducible apply x_le | with_reducible apply x_gt | with_reducible apply x_ge | with_reducible apply x_eqI | with_reducible apply x_neI | with_reducible apply x_eqS | with_reducible apply x_neS | with_reducible apply x_isT | ((with_reducible refine' x_nd ?xe ?_); (case xe => first | rfl | assumption)) | with_reducible apply x_rev | with_reducible apply x_min | with_reducible apply x_max | ((with_reducible refine' x_zip ?_)) | with_reducible apply x_enum | with_reducible apply x_mt | with_reducible apply x_ts
 | ((with_reducible refine' x_itemT ?xe ?_); (case xe => rfl)) | ((with_reducible refine' x_itemO ?xf ?xe ?_); (case xf => rfl); (case xe => rfl)) | ((with_reducible refine' x_itemL ?xe ?_); (case xe => rfl)) | ((with_reducible refine' x_itemN ?xe ?_); (case xe => rfl))
 | ((with_reducible refine' x_mod ?xe ?_); (case xe => omega)) | ((with_reducible refine' x_fdiv ?xe ?_); (case xe => exact cfd (by omega) (by omega))) | ((with_reducible refine' x_mulI' ?xe ?_); (case xe => exact mulok (by omega))) | ((with_reducible refine' x_pow ?xe ?_); (case xe => exact ⟨by decide, by decide, by decide⟩))
 | with_reducible apply x_set | with_reducible apply x_bindI | with_reducible apply x_bindO | with_reducible apply x_ret | with_reducible apply x_ifS | with_reducible apply x_next
 | with_reducible apply x_setI | ((with_reducible refine' x_put ?xe ?xf ?_); (case xe => rfl); (case xf => rfl))
 | with_reducible apply x_and | with_reducible apply x_or | with_reducible apply x_not | with_reducible apply x_andV | with_reducible apply x_orV | with_reducible apply x_notV
 | with_reducible apply x_cons | with_reducible apply x_nil | with_reducible apply x_cb | with_reducible apply x_call | ((with_reducible refine' x_ags ?xe ?xf ?_); (case xe => rfl); (case xf => decide))
 | with_reducible apply x_tup | with_reducible apply x_lst | ((with_reducible refine' x_all ?xe ?xf ?_); (case xe => rfl); (case xf => exact of_decide_eq_true rfl)) | with_reducible apply x_imm
 | with_reducible apply x_dix | with_reducible apply x_onAt | with_reducible apply x_onKeyS | with_reducible apply x_dput | with_reducible apply x_disp | with_reducible apply x_pNil | with_reducible apply x_pCons | with_reducible apply x_bindNT | with_reducible apply x_bindA | ((with_reducible refine' x_dgot ?xa ?xb ?xc ?xd ?xe ?_); (case xa => rfl); (case xb => rfl); (case xc => rfl); (case xd => rfl); (case xe => rfl)) | ((with_reducible refine' x_dgotN ?xa ?xb ?xc ?xd ?xe ?_); (case xa => rfl); (case xb => rfl); (case xc => rfl); (case xd => rfl); (case xe => rfl)) | ((with_reducible refine' x_dputs ?xa ?xb ?xc ?xd ?xe ?xf ?_); (case xa => rfl); (case xb => rfl); (case xc => rfl); (case xd => rfl); (case xe => exact of_decide_eq_true rfl); (case xf => rfl)) | ((with_reducible refine' x_onPairs ?xa ?xb ?xc ?xd ?_); (case xa => rfl); (case xb => rfl); (case xc => exact of_decide_eq_true rfl); (case xd => rfl))
 | with_reducible apply x_callX | ((with_reducible refine' x_agsX ?xe ?xf ?_); (case xe => rfl); (case xf => decide)) | with_reducible apply x_raise | with_reducible apply x_raiseI | with_reducible apply x_excI | with_reducible apply x_excP | with_reducible apply x_xf | with_reducible apply x_isX | with_reducible apply x_isXs | ((with_reducible refine' x_rz ?xe ?_); (case xe => exact of_decide_eq_true rfl))
 | ((with_reducible refine' x_onAgs ?xa ?xb ?_); (case xa => rfl); (case xb => decide)) | with_reducible apply x_tupR | with_reducible apply x_dixD | with_reducible apply x_immT | with_reducible apply x_fsC | with_reducible apply x_fsN | with_reducible apply x_trI | with_reducible apply x_trN | with_reducible apply x_trT | with_reducible apply x_fldI | ((with_reducible refine' x_fgot ?xa ?xb ?xc ?xd ?xe ?_); (case xa => rfl); (case xb => rfl); (case xc => rfl); (case xd => rfl); (case xe => rfl)) | ((with_reducible refine' x_fgotN ?xa ?xb ?xc ?xd ?xe ?_); (case xa => rfl); (case xb => rfl); (case xc => rfl); (case xd => rfl); (case xe => rfl)) | with_reducible apply x_meth | ((with_reducible refine' x_insR ?xa ?xb ?xc ?_); (case xa => rfl); (case xb => rfl); (case xc => rfl)) | with_reducible apply x_make | ((with_reducible refine' x_onImms ?xa ?_); (case xa => rfl)) | with_reducible apply x_reps | with_reducible apply x_dputT | with_reducible apply x_empt | with_reducible apply x_dispT | with_reducible apply x_ml0 | ((with_reducible refine' x_onPairsT ?xa ?xb ?xc ?_); (case xa => rfl); (case xb => rfl); (case xc => exact of_decide_eq_true rfl))
 | with_reducible apply x_un | with_reducible apply x_neg | with_reducible apply x_abs | with_reducible apply x_intI | with_reducible apply x_intB
 | with_reducible apply x_len | with_reducible apply x_lenT | with_reducible apply x_lenL | ((with_reducible refine' x_lenO ?xe ?_); (case xe => rfl)) | with_reducible apply x_lenN
 | with_reducible apply x_asg | with_reducible apply x_par | with_reducible apply x_drop | with_reducible apply x_retN | with_reducible apply x_chain
 | with_reducible apply x_ml | ((with_reducible refine' x_ls ?xe ?_); (case xe => rfl))
 | with_reducible apply x_isN | with_reducible apply x_isB | with_reducible apply x_isNotN
 | with_reducible apply x_gM | with_reducible apply x_gNil | with_reducible apply x_gCons | with_reducible apply x_gTup
 | ((with_reducible refine' x_cutL' ?xe ?_); (case xe => rfl)) | with_reducible apply x_cutT | ((with_reducible refine' x_list ?xe ?_); (case xe => rfl)) | ((with_reducible refine' x_tuple ?xe ?_); (case xe => rfl)) | with_reducible apply x_listR
 | with_reducible apply x_sl | with_reducible apply x_noPart | with_reducible apply x_part
 | with_reducible apply x_for | with_reducible apply x_iseq | with_reducible apply x_srcL | with_reducible apply x_srcT | ((with_reducible refine' x_srcO ?xe ?_); (case xe => rfl)) | with_reducible apply x_rng1 | with_reducible apply x_rng2
 | with_reducible apply x_comp1 | with_reducible apply x_comp2 | with_reducible apply x_ifT | with_reducible apply x_noTest | with_reducible apply x_emit | with_reducible apply x_iteT | with_reducible apply x_iteF)
local macro_rules | `(tactic| walk_at "xs") => `(tactic| repeat walk_at "x1")
local macro_rules | `(tactic| walk_at "xn") => `(tactic| first | dsimp only [mapR, setAll, List.set, MSt.setV, MSt.setN, List.take, List.length, List.append, compM, compV, Nat.reduceAdd, List.getD_cons_succ, List.getD_cons_zero, List.nil_append, List.cons_append, setT, lfD] | dsimp only [mapR, setAll, List.set, MSt.setV, MSt.setN, List.take, List.length, List.append, compM, compV, Nat.reduceAdd, List.getD_cons_succ, List.getD_cons_zero, List.nil_append, List.cons_append] | skip)
local macro_rules | `(tactic| walk_at "sc") => `(tactic| exact ⟨rfl, rfl, rfl, by decide +kernel, rfl, by decide +kernel, by decide +kernel⟩)
local macro_rules | `(tactic| walk_at "xx") => `(tactic| (walk_at "xn"; walk_at "xs"))
def top (i : Nat) : Stmt := PySem.Challenge.pw_shorterline_k10_stands_moves_and_runs_by.main.body.getD i (.Pass ⟨0, 0, 0, 0⟩)
abbrev sis_whole : Stmt := top 1
abbrev sis_whole_within : Stmt := top 2
abbrev sis_tuple_of : Stmt := top 3
abbrev sis_line : Stmt := top 5
abbrev sis_lines : Stmt := top 6
abbrev sfirst_stand : Stmt := top 8
abbrev sis_turn : Stmt := top 9
abbrev sis_stand : Stmt := top 10
abbrev sis_order : Stmt := top 11
abbrev sis_move : Stmt := top 12
abbrev sis_run : Stmt := top 13
abbrev sall_orders : Stmt := top 14
abbrev s_law_feed : Stmt := top 16
abbrev s_law_draw : Stmt := top 17
abbrev s_law_shuffled : Stmt := top 18
abbrev s_law_cut : Stmt := top 19
abbrev s_law_hall : Stmt := top 20
abbrev s_law_all : Stmt := top 21
abbrev s_law_rule : Stmt := top 22
abbrev s_law_move : Stmt := top 23
abbrev s_law_run : Stmt := top 24
abbrev s_law_bent : Stmt := top 25
abbrev s_law_is_whole : Stmt := top 26
abbrev s_law_is_stand : Stmt := top 27
abbrev s_law_is_move : Stmt := top 28
abbrev s_law_is_run : Stmt := top 29
abbrev s_law_right : Stmt := top 30
abbrev s_law_orders : Stmt := top 31
abbrev slaw : Stmt := top 32
structure Bl (mg : Str → Option Value) : Prop where
 len : mg "len" = none
 abs : mg "abs" = none
 range : mg "range" = none
 list : mg "list" = none
 tuple : mg "tuple" = none
 int : mg "int" = none
 sum : mg "sum" = none
 isinstance : mg "isinstance" = none
 bool : mg "bool" = none
 str : mg "str" = none
 repr : mg "repr" = none
 zip : mg "zip" = none
 sorted : mg "sorted" = none
theorem scis_whole : FnScope ["thing"] ["thing"] (defScope sis_whole) := by walk_at "sc"
theorem scis_whole_within : FnScope ["thing", "least", "most"] ["thing", "least", "most"] (defScope sis_whole_within) := by walk_at "sc"
theorem scis_tuple_of : FnScope ["thing", "many"] ["thing", "many"] (defScope sis_tuple_of) := by walk_at "sc"
theorem scis_line : FnScope ["hall", "thing"] ["hall", "thing"] (defScope sis_line) := by walk_at "sc"
theorem scis_lines : FnScope ["hall", "thing", "servers", "many", "server"] ["hall", "thing"] (defScope sis_lines) := by walk_at "sc"
theorem scfirst_stand : FnScope ["hall"] ["hall"] (defScope sfirst_stand) := by walk_at "sc"
theorem scis_turn : FnScope ["hall", "rule", "thing"] ["hall", "rule", "thing"] (defScope sis_turn) := by walk_at "sc"
theorem scis_stand : FnScope ["hall", "rule", "thing"] ["hall", "rule", "thing"] (defScope sis_stand) := by walk_at "sc"
theorem scis_order : FnScope ["hall", "thing", "line"] ["hall", "thing"] (defScope sis_order) := by walk_at "sc"
theorem scis_move : FnScope ["hall", "thing"] ["hall", "thing"] (defScope sis_move) := by walk_at "sc"
theorem scis_run : FnScope ["hall", "thing", "move"] ["hall", "thing"] (defScope sis_run) := by walk_at "sc"
theorem scall_orders : FnScope ["hall", "many", "orders", "place"] ["hall"] (defScope sall_orders) := by walk_at "sc"
theorem sc_law_feed : FnScope ["_law_script"] ["_law_script"] (defScope s_law_feed) := by walk_at "sc"
theorem sc_law_draw : FnScope ["_law_feed_here", "_law_many", "_law_found", "_law_cell", "_law_mixed"] ["_law_feed_here", "_law_many"] (defScope s_law_draw) := by walk_at "sc"
theorem sc_law_shuffled : FnScope ["_law_feed_here", "_law_some", "_law_left", "_law_found", "_law_k"] ["_law_feed_here", "_law_some"] (defScope s_law_shuffled) := by walk_at "sc"
theorem sc_law_cut : FnScope ["_law_top", "_law_bottom", "_law_one", "_law_other"] ["_law_top", "_law_bottom"] (defScope s_law_cut) := by walk_at "sc"
theorem sc_law_hall : FnScope ["_law_feed_here", "_law_most", "_law_many", "_law_way", "_law_first", "_law_heavy", "_law_wide", "_law_servers", "_law_k", "_law_one", "_law_come", "_law_rest", "_law_whole", "_law_told"] ["_law_feed_here", "_law_most"] (defScope s_law_hall) := by walk_at "sc"
theorem sc_law_all : FnScope ["_law_hall_here", "_law_found", "_law_speed", "_law_room", "_law_longer", "_law_lines"] ["_law_hall_here"] (defScope s_law_all) := by walk_at "sc"
theorem sc_law_rule : FnScope ["_law_feed_here", "_law_hall_here", "_law_word"] ["_law_feed_here", "_law_hall_here"] (defScope s_law_rule) := by walk_at "sc"
theorem sc_law_move : FnScope ["_law_feed_here", "_law_hall_here", "_law_way", "_law_many", "_law_kind", "_law_word"] ["_law_feed_here", "_law_hall_here", "_law_way"] (defScope s_law_move) := by walk_at "sc"
theorem sc_law_run : FnScope ["_law_feed_here", "_law_hall_here", "_law_many", "_law_way"] ["_law_feed_here", "_law_hall_here", "_law_many"] (defScope s_law_run) := by walk_at "sc"
theorem sc_law_bent : FnScope ["_law_feed_here", "_law_thing", "_law_at", "_law_way", "_law_some"] ["_law_feed_here", "_law_thing"] (defScope s_law_bent) := by walk_at "sc"
theorem sc_law_is_whole : FnScope ["_law_thing"] ["_law_thing"] (defScope s_law_is_whole) := by walk_at "sc"
theorem sc_law_is_stand : FnScope ["_law_hall_here", "_law_rule_here", "_law_thing", "_law_many"] ["_law_hall_here", "_law_rule_here", "_law_thing"] (defScope s_law_is_stand) := by walk_at "sc"
theorem sc_law_is_move : FnScope ["_law_hall_here", "_law_thing", "_law_many"] ["_law_hall_here", "_law_thing"] (defScope s_law_is_move) := by walk_at "sc"
theorem sc_law_is_run : FnScope ["_law_hall_here", "_law_thing"] ["_law_hall_here", "_law_thing"] (defScope s_law_is_run) := by walk_at "sc"
theorem sc_law_right : FnScope ["_law_hall_here", "_law_rule_here", "_law_thing", "_law_kept", "_law_told", "_law_due"] ["_law_hall_here", "_law_rule_here", "_law_thing"] (defScope s_law_right) := by walk_at "sc"
theorem sc_law_orders : FnScope ["_law_many", "_law_found", "_law_order"] ["_law_many"] (defScope s_law_orders) := by walk_at "sc"
theorem sclaw : FnScope ["_law_script", "_law_feed_here", "_law_k", "_law_hall_here", "_law_rule_here", "_law_many", "_law_told", "_law_things", "_law_j", "_law_lines", "_law_stand", "_law_run_here", "_law_move_here", "_law_thing"] ["_law_script"] (defScope slaw) := by walk_at "sc"
def spIsWh : SpM := fun as K => ∃ (b : Nat) (d : PyData), as = [.imm d] ∧ Gd b d ∧ K (.imm (.bool (isWh d))) []
def spInW : SpM := fun as K => ∃ (z : Nat) (d : PyData) (a b : Int), as = [.imm d, .imm (.int a), .imm (.int b)] ∧ Gd z d ∧ K (.imm (.bool (inW a b d))) []
def spTupN : SpM := fun as K => ∃ (z : Nat) (d : PyData) (n : Nat), as = [.imm d, .imm (.int (n : Int))] ∧ Gd z d ∧ K (.imm (.bool (tupN n d))) []
def spIsLn : SpM := fun as K => ∃ (z : Nat) (h : Hall) (d : PyData), as = [.imm h.d, .imm d] ∧ h.Ok ∧ Gd z d ∧ K (.imm (.bool (inW 0 ((h.ss.length : Int) - 1) d))) []
def spB : Nat → SpM
 | 0 => fun _ _ => False
 | n + 1 => fun as K => ∃ (fd : List PyData) (c b : Nat) (d : PyData), as = [.own fd, .imm d] ∧ FeedD c fd ∧ c + 10 * (n + 1) < 800000000 ∧ Gd b d ∧ 7 ≤ b ∧ b < 1000000 ∧ d.depth ≤ n ∧ d.depth ≤ 50 ∧ ms d ≤ 100000 ∧ ∀ (d' : PyData) (fd' : List PyData), BentW b d d' → FeedD (c + 10 * (n + 1)) fd' → K (.imm d') [fd']
abbrev spB5 : SpM := spB 5
def spIsLns : SpM := fun as K => ∃ (z : Nat) (h : Hall) (d : PyData), as = [.imm h.d, .imm d] ∧ h.Ok ∧ Gd z d ∧ K (.imm (.bool (isLns h d))) []
def spIsTn : SpM := fun as K => ∃ (z : Nat) (h : Hall) (r : Rule) (d : PyData), as = [.imm h.d, .imm r.d, .imm d] ∧ h.Ok ∧ Gd z d ∧ d.depth ≤ 50 ∧ K (.imm (.bool (isTn h r d))) []
def spIsSt : SpM := fun as K => ∃ (z : Nat) (h : Hall) (r : Rule) (d : PyData), as = [.imm h.d, .imm r.d, .imm d] ∧ h.Ok ∧ Gd z d ∧ d.depth ≤ 50 ∧ K (.imm (.bool (isSt h r d))) []
def spIsOr : SpM := fun as K => ∃ (z : Nat) (h : Hall) (d : PyData), as = [.imm h.d, .imm d] ∧ h.Ok ∧ Gd z d ∧ d.depth ≤ 50 ∧ K (.imm (.bool (isOr h d))) []
def spIsMv : SpM := fun as K => ∃ (z : Nat) (h : Hall) (d : PyData), as = [.imm h.d, .imm d] ∧ h.Ok ∧ Gd z d ∧ d.depth ≤ 50 ∧ ms d ≤ 1000000 ∧ wd d ≤ 60 ∧ K (.imm (.bool (isMv h d))) []
def spIsRn : SpM := fun as K => ∃ (z : Nat) (h : Hall) (d : PyData), as = [.imm h.d, .imm d] ∧ h.Ok ∧ Gd z d ∧ d.depth ≤ 50 ∧ ms d ≤ 1000000 ∧ wd d ≤ 60 ∧ K (.imm (.bool (isRn h d))) []
def spAllO : SpM := fun as K => ∃ h : Hall, as = [.imm h.d] ∧ h.Ok ∧ K (.new ((ordK h.ss.length h.ss.length).map lnD)) []
def spOrd : Nat → SpM
 | 0 => fun _ _ => False
 | n + 1 => fun as K => ∃ m : Nat, as = [.imm (.int (m : Int))] ∧ m ≤ n ∧ m ≤ 4 ∧ K (.new ((ordK m m).map lnD)) []
abbrev spOrd5 : SpM := spOrd 5
theorem spOrd5_of {as : List Ag} {K : L2.R → List (List PyData) → Prop} (h : ∃ m : Nat, as = [.imm (.int (m : Int))] ∧ m ≤ 4 ∧ K (.new ((ordK m m).map lnD)) []) : spOrd5 as K := by
 obtain ⟨m, e, h1, h2⟩ := h
 exact ⟨m, e, h1, h1, h2⟩
def spRightK : SpM := fun as K => ∃ (z : Nat) (h : Hall) (r : Rule) (d : PyData), as = [.imm h.d, .imm r.d, .imm d] ∧ h.Ok ∧ r.Ok h ∧ Gd z d ∧ z < 1000000000 ∧ d.depth ≤ 40 ∧ ms d ≤ 1000000 ∧ wd d ≤ 60 ∧ K (.imm (.bool true)) []
theorem spB5_of {as : List Ag} {K : L2.R → List (List PyData) → Prop} (h : ∃ (fd : List PyData) (c b : Nat) (d : PyData), as = [.own fd, .imm d] ∧ FeedD c fd ∧ c + 50 < 800000000 ∧ Gd b d ∧ 7 ≤ b ∧ b < 1000000 ∧ d.depth ≤ 4 ∧ d.depth ≤ 50 ∧ ms d ≤ 100000 ∧ ∀ (d' : PyData) (fd' : List PyData), BentW b d d' → FeedD (c + 50) fd' → K (.imm d') [fd']) : spB5 as K := h
theorem x_neSS {m : MSt} {x : Str} {Kr : L2.R → Prop} (h : Kr (.imm (.bool false))) : oNe (.imm (.str x)) (.imm (.str x)) m Kr := x_neS (by rw [decide_eq_true (rfl : x = x)]; exact h)
structure TH (d : PyData) : Prop where
 g : ∃ z, Gd z d ∧ z < 1000000000
 p : d.depth ≤ 40
 m : ms d ≤ 1000000
 w : wd d ≤ 60
structure BT (d : PyData) : Prop where
 g : Gd 7 d
 p : d.depth ≤ 3
 m : ms d ≤ 3000
 w : wd d ≤ 5
theorem BT.th {d : PyData} (b : BT d) : TH d := ⟨⟨7, b.g, by decide⟩, by have := b.p; omega, by have := b.m; omega, by have := b.w; omega⟩
theorem bt_ln {l : List Nat} (h1 : l.length ≤ 5) (h2 : ∀ x ∈ l, x ≤ 7) : Gd 7 (lnD l) ∧ (lnD l).depth ≤ 1 ∧ ms (lnD l) ≤ 78 ∧ wd (lnD l) ≤ 5 := by
 refine ⟨gd_tup.mpr (natD_gd h2), ?_, ?_, ?_⟩
 ·show PyData.depthAll (natD l) + 1 ≤ 1
  have := natD_dp l; omega
 ·show ms (.tuple (natD l)) ≤ 78
  rw [ms_tup, natD_ms]; omega
 ·show wd (.tuple (natD l)) ≤ 5
  rw [wd_tup, natD_length]
  have : wdA (natD l) ≤ 0 := wdA_le.mpr fun d hd => by
   unfold natD at hd
   obtain ⟨x, _, rfl⟩ := List.mem_map.mp hd
   simp [wd]
  omega
theorem bt_two {w : Str} {d : PyData} (hw : w.length ≤ 7) (h1 : w.cps.all (· < 128) = true) (g : Gd 7 d) (p : d.depth ≤ 1) (m : ms d ≤ 78) (v : wd d ≤ 5) : BT (.tuple [.str w, d]) := by
 refine ⟨gd_tup.mpr fun x hx => ?_, ?_, ?_, ?_⟩
 ·simp at hx
  rcases hx with rfl | rfl
  ·exact gd_str hw h1 (by decide)
  ·exact g
 ·rw [dp_tup]
  have : PyData.depthAll [.str w, d] ≤ 1 := depthAll_le.mpr fun x hx => by
   simp at hx
   rcases hx with rfl | rfl
   ·exact Nat.zero_le _
   ·exact p
  omega
 ·rw [ms_tup]; simp only [msA, ms]; omega
 ·rw [wd_tup]; simp only [wdA, wd, List.length]; omega
theorem bt_one {w : Str} (hw : w.length ≤ 7) (h1 : w.cps.all (· < 128) = true) : BT (.tuple [.str w]) := by
 refine ⟨gd_tup.mpr fun x hx => ?_, ?_, ?_, ?_⟩
 ·simp at hx; subst hx; exact gd_str hw h1 (by decide)
 ·rw [dp_tup]
  have : PyData.depthAll [.str w] ≤ 0 := depthAll_le.mpr fun x hx => by
   simp at hx; subst hx; exact Nat.zero_le _
  omega
 ·rw [ms_tup]; simp only [msA, ms]; omega
 ·rw [wd_tup]; simp only [wdA, wd, List.length]; omega
theorem bt_mv {h : Hall} (ho : h.Ok) {mv : Mv} (k : mv.Ok2 h) : BT mv.d ∧ mv.d.depth ≤ 2 ∧ ms mv.d ≤ 200 := by
 have n4 := ho.n4
 cases mv with
 | come o =>
  obtain ⟨g, p, m, v⟩ := bt_ln (l := o) (by rw [k.2 o rfl]; omega) fun x hx => by have := (show Ord h.ss.length o from k.1).lt x hx; omega
  refine ⟨bt_two (by decide +kernel) (by decide +kernel) g p m v, ?_, ?_⟩
  ·show PyData.depthAll [.str "come", lnD o] + 1 ≤ 2
   have : PyData.depthAll [.str "come", lnD o] ≤ 1 := depthAll_le.mpr fun x hx => by
    simp at hx
    rcases hx with rfl | rfl
    ·exact Nat.zero_le _
    ·exact p
   omega
  ·show ms (.tuple [.str "come", lnD o]) ≤ 200
   rw [ms_tup]; simp only [msA, ms]
   have : (("come" : Str)).length = 4 := by decide +kernel
   omega
 | done q =>
  have hq : q < h.ss.length := k.1
  refine ⟨bt_two (by decide +kernel) (by decide +kernel) (by simp only [Gd]; omega) (Nat.zero_le _) (by simp [ms]) (by simp [wd]), ?_, ?_⟩
  ·show PyData.depthAll [.str "done", .int (q : Int)] + 1 ≤ 2
   have : PyData.depthAll [.str "done", .int (q : Int)] ≤ 1 := depthAll_le.mpr fun x hx => by
    simp at hx
    rcases hx with rfl | rfl <;> exact Nat.zero_le _
   omega
  ·show ms (.tuple [.str "done", .int (q : Int)]) ≤ 200
   rw [ms_tup]; simp only [msA, ms]
   have : (("done" : Str)).length = 4 := by decide +kernel
   omega
 | still =>
  refine ⟨bt_one (by decide +kernel) (by decide +kernel), ?_, ?_⟩
  ·decide
  ·decide +kernel
theorem msA_le {k : Nat} : ∀ {ds : List PyData}, (∀ d ∈ ds, ms d ≤ k) → msA ds ≤ (k + 2) * ds.length
 | [], _ => by simp [msA]
 | d :: ds, h => by
  have := msA_le (ds := ds) fun x hx => h x (List.mem_cons_of_mem _ hx)
  have := h d List.mem_cons_self
  simp only [msA, List.length_cons, Nat.mul_add, Nat.mul_one]; omega
theorem bt_run {h : Hall} (ho : h.Ok) {R : List Mv} (hl : R.length ≤ 5) (k : ∀ mv ∈ R, mv.Ok2 h) : BT (runD R) := by
 have all : ∀ d ∈ R.map Mv.d, BT d ∧ d.depth ≤ 2 ∧ ms d ≤ 200 := fun d hd => by
  obtain ⟨mv, hm, rfl⟩ := List.mem_map.mp hd
  exact bt_mv ho (k mv hm)
 refine ⟨gd_tup.mpr fun d hd => (all d hd).1.g, ?_, ?_, ?_⟩
 ·show PyData.depthAll (R.map Mv.d) + 1 ≤ 3
  have := depthAll_le.mpr fun d hd => (all d hd).2.1
  omega
 ·show ms (.tuple (R.map Mv.d)) ≤ 3000
  rw [ms_tup]
  have := msA_le fun d hd => (all d hd).2.2
  rw [List.length_map] at this
  have : (200 + 2) * R.length ≤ 202 * 5 := Nat.mul_le_mul_left _ hl
  omega
 ·show wd (.tuple (R.map Mv.d)) ≤ 5
  rw [wd_tup, List.length_map]
  have := wdA_le.mpr fun d hd => (all d hd).1.w
  omega
theorem bt_st {l : List Nat} {t : Nat} (h1 : l.length ≤ 4) (h2 : ∀ x ∈ l, x ≤ 6) (ht : t ≤ 6) : BT (stD l t) := by
 obtain ⟨g, p, m, v⟩ := bt_ln (l := l) (by omega) fun x hx => by have := h2 x hx; omega
 refine ⟨gd_tup.mpr fun x hx => ?_, ?_, ?_, ?_⟩
 ·simp at hx
  rcases hx with rfl | rfl
  ·exact g
  ·simp only [Gd]; omega
 ·show PyData.depthAll [lnD l, .int (t : Int)] + 1 ≤ 3
  have : PyData.depthAll [lnD l, .int (t : Int)] ≤ 1 := depthAll_le.mpr fun x hx => by
   simp at hx
   rcases hx with rfl | rfl
   ·exact p
   ·exact Nat.zero_le _
  omega
 ·show ms (.tuple [lnD l, .int (t : Int)]) ≤ 3000
  rw [ms_tup]; simp only [msA, ms]; omega
 ·show wd (.tuple [lnD l, .int (t : Int)]) ≤ 5
  rw [wd_tup]; simp only [wdA, wd, List.length]; omega
def things0 (n : Nat) : List PyData := [.none, .tuple [], .list [], .tuple [.str "still"], .tuple [.str "still", .int 0], .tuple [.str "come"], .tuple [.str "done", .int (n : Int)], .tuple [.str "done", .bool true]]
def things1 (n : Nat) : List PyData := [.tuple [.str "come", lnD (List.replicate n 0)], .int 0, .tuple [.str "come", .list (natD (List.range n))]]
theorem th0 {n : Nat} (hn : n ≤ 4) : ∀ d ∈ things0 n ++ things1 n, TH d := fun d hd => by
 have z : ∀ {d : PyData}, Gd 7 d → d.depth ≤ 3 → ms d ≤ 3000 → wd d ≤ 5 → TH d := fun a b c e => BT.th ⟨a, b, c, e⟩
 simp only [things0, things1, List.cons_append, List.nil_append, List.mem_cons, List.not_mem_nil, or_false] at hd
 rcases hd with rfl | rfl | rfl | rfl | rfl | rfl | rfl | rfl | rfl | rfl | rfl
 ·exact z (by simp [Gd]) (by decide) (by simp [ms]) (by simp [wd])
 ·exact z (by simp [Gd, GdA]) (by decide) (by simp [ms, msA]) (by simp [wd, wdA])
 ·exact z (by simp [Gd, GdA]) (by decide) (by simp [ms, msA]) (by simp [wd, wdA])
 ·exact (bt_one (by decide +kernel) (by decide +kernel)).th
 ·exact (bt_two (by decide +kernel) (by decide +kernel) (by simp [Gd]) (Nat.zero_le _) (by simp [ms]) (by simp [wd])).th
 ·exact (bt_one (by decide +kernel) (by decide +kernel)).th
 ·exact (bt_two (by decide +kernel) (by decide +kernel) (by simp only [Gd]; omega) (Nat.zero_le _) (by simp [ms]) (by simp [wd])).th
 ·exact (bt_two (by decide +kernel) (by decide +kernel) (by simp [Gd]) (Nat.zero_le _) (by simp [ms]) (by simp [wd])).th
 ·obtain ⟨g, p, m, v⟩ := bt_ln (l := List.replicate n 0) (by simp; omega) fun x hx => by rw [List.eq_of_mem_replicate hx]; omega
  exact (bt_two (by decide +kernel) (by decide +kernel) g p m v).th
 ·exact z (by simp [Gd]) (by decide) (by simp [ms]) (by simp [wd])
 ·obtain ⟨g, p, m, v⟩ := bt_ln (l := List.range n) (by simp; omega) fun x hx => by have := List.mem_range.mp hx; omega
  refine (bt_two (w := "come") (by decide +kernel) (by decide +kernel) (d := .list (natD (List.range n))) ?_ ?_ ?_ ?_).th
  ·exact gd_list.mpr (gd_tup.mp g)
  ·exact p
  ·exact m
  ·rw [wd_list]; exact (wd_tup _) ▸ v
theorem rangeD_nat (n : Nat) : rangeD 0 n = natD (List.range n) := by
 rw [range_ints]; unfold rngI natD; rw [List.map_map]; rfl
theorem BentW.th {b : Nat} {d d' : PyData} (B : BentW b d d') (hb : b < 1000000) (hp : d.depth ≤ 30) (hm : ms d ≤ 100000) (hw : wd d ≤ 50) : TH d' := ⟨⟨_, B.g, by omega⟩, by have := B.p; omega, by have := B.m; omega, by have := B.w; omega⟩
theorem gd_nd {z : Nat} {d : PyData} (h : Gd z d) : ndR (.imm d) = true := by cases d <;> first | rfl | (simp only [Gd] at h)
section
variable {P : Program} {w : World} {K : PySem.W.Frag} {mg : Str → Option Value} {base : Heap}
theorem okis_whole (T : Bl mg) (D : DefM K mg "is_whole" sis_whole ["thing"]) : FnM P w K mg base "is_whole" 1 1 spIsWh := by
 refine mk_fn' D scis_whole rfl (nN := 1) rfl (by decide) ?ar fun cdv A outer s H E f hr => ⟨_, (mss_one' (ms_ret' (me_and' (me_isT' (mv' 0) isT_int T.isinstance T.int bt_int) (me_one' (me_not' (me_isT' (mv' 0) isT_bool T.isinstance T.bool bt_bool)))))), ?_⟩
 case ar => rintro as Kc ⟨z, d, rfl, _⟩; rfl
 rintro as Kc hl ⟨z, d, rfl, hd, k⟩
 have hnd := gd_nd hd
 refine x_start (MSt.mk [some (.imm d)] [] 0) rfl ?_
 walk_at "xs"
 cases d with
 | int i => rw [if_pos (show fInt (tyR (L2.R.imm (PyData.int i))) = true from rfl)]; walk_at "xs"; exact k
 | bool i => rw [if_pos (show fInt (tyR (L2.R.imm (PyData.bool i))) = true from rfl)]; walk_at "xs"; exact k
 | none => rw [if_neg (show ¬ fInt (tyR (L2.R.imm PyData.none)) = true by decide +kernel)]; exact k
 | str x => rw [if_neg (show ¬ fInt (tyR (L2.R.imm (PyData.str x))) = true by show ¬ fInt "str" = true; decide +kernel)]; exact k
 | list x => rw [if_neg (show ¬ fInt (tyR (L2.R.imm (PyData.list x))) = true by show ¬ fInt "list" = true; decide +kernel)]; exact k
 | tuple x => rw [if_neg (show ¬ fInt (tyR (L2.R.imm (PyData.tuple x))) = true by show ¬ fInt "tuple" = true; decide +kernel)]; exact k
 | dict x => exact hd.elim
theorem okis_whole_within (T : Bl mg) (D : DefM K mg "is_whole_within" sis_whole_within ["thing", "least", "most"]) (Gis_whole : FnM P w K mg base "is_whole" 1 1 spIsWh) : FnM P w K mg base "is_whole_within" 2 3 spInW := by
 refine mk_fn' D scis_whole_within rfl (nN := 3) rfl (by decide) ?ar fun cdv A outer s H E f hr => ⟨_, (mss_one' (ms_ret' (me_and' (mf' Gis_whole (hr.mono (by decide)) (mc' (mv' 0) mn')) (me_one' (me_chain' op_leM op_leM (mv' 1) (mv' 0) (mv' 2)))))), ?_⟩
 case ar => rintro as Kc ⟨z, d, a, b, rfl, _⟩; rfl
 rintro as Kc hl ⟨z, d, a, b, rfl, hd, k⟩
 refine x_start (MSt.mk [some (.imm d), some (.imm (.int a)), some (.imm (.int b))] [] 0) rfl ?_
 walk_at "xs"
 refine ⟨z, d, rfl, hd, ?_⟩
 walk_at "xx"
 cases d with
 | int i =>
  rw [if_pos (show isWh (PyData.int i) = true from rfl)]
  walk_at "xs"
  refine x_ite (fun h => ?_) (fun h => ?_)
  ·walk_at "xs"
   rw [show inW a b (.int i) = decide (i ≤ b) by simp [inW, h]] at k
   exact k
  ·rw [show inW a b (.int i) = false by simp [inW, h]] at k
   exact k
 | bool i => rw [if_neg (show ¬ isWh (PyData.bool i) = true by simp [isWh])]; exact k
 | none => rw [if_neg (show ¬ isWh PyData.none = true by simp [isWh])]; exact k
 | str x => rw [if_neg (show ¬ isWh (PyData.str x) = true by simp [isWh])]; exact k
 | list x => rw [if_neg (show ¬ isWh (PyData.list x) = true by simp [isWh])]; exact k
 | tuple x => rw [if_neg (show ¬ isWh (PyData.tuple x) = true by simp [isWh])]; exact k
 | dict x => exact hd.elim
theorem okis_tuple_of (T : Bl mg) (D : DefM K mg "is_tuple_of" sis_tuple_of ["thing", "many"]) : FnM P w K mg base "is_tuple_of" 1 2 spTupN := by
 refine mk_fn' D scis_tuple_of rfl (nN := 2) rfl (by decide) ?ar fun cdv A outer s H E f hr => ⟨_, (mss_one' (ms_ret' (me_and' (me_isT' (mv' 0) isT_tuple T.isinstance T.tuple bt_tuple) (me_one' (me_cmp' (op_eqM hr.units) (me_callB' call_lenM (by rfl) T.len bt_len (mc' (mv' 0) mn')) (mv' 1) (nomark _)))))), ?_⟩
 case ar => rintro as Kc ⟨z, d, n, rfl, _⟩; rfl
 rintro as Kc hl ⟨z, d, n, rfl, hd, k⟩
 have hnd := gd_nd hd
 refine x_start (MSt.mk [some (.imm d), some (.imm (.int (n : Int)))] [] 0) rfl ?_
 walk_at "xs"
 rw [ty_tup]
 cases e : isTup d with
 | false =>
  refine x_iteF ?_
  rw [not_tup e] at k
  exact k
 | true =>
  cases d with
  | tuple x =>
   refine x_iteT ?_
   walk_at "xs"
   rw [show tupN n (.tuple x) = decide ((x.length : Int) = (n : Int)) by unfold tupN; exact decide_eq_decide.mpr (by omega)] at k
   exact k
  | _ => cases e
theorem okis_line (T : Bl mg) (D : DefM K mg "is_line" sis_line ["hall", "thing"]) (Gis_whole_within : FnM P w K mg base "is_whole_within" 2 3 spInW) : FnM P w K mg base "is_line" 3 2 spIsLn := by
 refine mk_fn' D scis_line rfl (nN := 2) rfl (by decide) ?ar fun cdv A outer s H E f hr => ⟨_, (mss_one' (ms_ret' (mf' Gis_whole_within (hr.mono (by decide)) (mc' (mv' 1) (mc' mh' (mc' (me_bin' op_subM (me_callB' call_lenM (by rfl) T.len bt_len (mc' (me_ix' (mv' 0) mh') mn')) mh') mn')))))), ?_⟩
 case ar => rintro as Kc ⟨z, h, d, rfl, _⟩; rfl
 rintro as Kc hl ⟨z, h, d, rfl, ho, hd, k⟩
 refine x_start (MSt.mk [some (.imm (.tuple [.tuple [.int h.a, .int h.b], .tuple (h.ss.map Srv.d), .bool h.mv])), some (.imm d)] [] 0) rfl ?_
 walk_at "xs"
 rw [List.length_map]
 refine ⟨z, d, _, _, rfl, hd, ?_⟩
 walk_at "xx"
 exact k
theorem okis_lines (T : Bl mg) (D : DefM K mg "is_lines" sis_lines ["hall", "thing"]) (Gis_tuple_of : FnM P w K mg base "is_tuple_of" 1 2 spTupN) (Gis_whole_within : FnM P w K mg base "is_whole_within" 2 3 spInW) : FnM P w K mg base "is_lines" 3 2 spIsLns := by
 refine mk_fn' D scis_lines rfl (nN := 5) rfl (by decide) ?ar fun cdv A outer s H E f hr => ⟨_, (mz' (ms_set' (i := 2) scis_lines.nd rfl (Or.inl rfl) (me_ix' (mv' 0) mh'))
   (mz' (ms_if' (mt_not' (mt_val' (mf' Gis_tuple_of (hr.mono (by decide)) (mc' (mv' 1) (mc' (me_callB' call_lenM (by rfl) T.len bt_len (mc' (mv' 2) mn')) mn'))))) (mss_one' (ms_ret' me_bl')) mss_nil')
   (mz' (ms_for' (mi_zip' T.zip (mc' (mv' 1) (mc' (mv' 2) mn'))) (mg_tup' (n := 2) (mgs_cons' (mg_name' (i := 3) scis_lines.nd rfl (Or.inl rfl)) (mgs_cons' (mg_name' (i := 4) scis_lines.nd rfl (Or.inl rfl)) mgs_nil'))) (mss_one' (ms_if' (mt_not' (mt_val' (mf' Gis_whole_within (hr.mono (by decide)) (mc' (mv' 3) (mc' mh' (mc' (me_ix' (mv' 4) mh') mn')))))) (mss_one' (ms_ret' me_bl')) mss_nil')) PassesOwn.never)
   (mss_one' (ms_ret' me_bl'))))), ?_⟩
 case ar => rintro as Kc ⟨z, h, d, rfl, _⟩; rfl
 rintro as Kc hl ⟨z, h, d, rfl, ho, hd, k⟩
 refine x_start (MSt.mk [some (.imm (.tuple [.tuple [.int h.a, .int h.b], .tuple (h.ss.map Srv.d), .bool h.mv])), some (.imm d), none, none, none] [] 0) rfl ?_
 walk_at "xs"
 rw [List.length_map]
 refine ⟨z, d, h.ss.length, rfl, hd, ?_⟩
 walk_at "xx"
 cases e : tupN h.ss.length d with
 | false =>
  rw [if_pos (c := (!false) = true) rfl]
  walk_at "xs"
  rw [isLns_not h e] at k
  exact k
 | true =>
  rw [if_neg (show ¬ (!true) = true by decide)]
  obtain ⟨ds, rfl, hdl⟩ := tup_n e
  have hg := gd_tup.mp hd
  walk_at "xs"
  refine ⟨true, _, true, _, rfl, rfl, ?_⟩
  refine x_loop0 (fun i m => ∃ a b, m = MSt.mk [some (.imm (.tuple [.tuple [.int h.a, .int h.b], .tuple (h.ss.map Srv.d), .bool h.mv])), some (.imm (.tuple ds)), some (.imm (.tuple (h.ss.map Srv.d))), a, b] [] 0 ∧ ∀ (j r : Nat) (x : PyData), j < i → h.rs[j]? = some r → ds[j]? = some x → inW 0 (r : Int) x = true) ⟨none, none, rfl, fun j r x hj => by omega⟩ ?_ ?_
  ·rintro i d m e n ⟨a, b, rfl, hall⟩
   obtain ⟨a1, b1, e1, e2, rfl⟩ := get_zip e
   obtain ⟨s, es, rfl, hj⟩ := gmap e2
   dsimp only [Srv.d]
   walk_at "xs"
   ·rfl
   walk_at "xs"
   refine ⟨z, a1, _, _, rfl, hg a1 (List.mem_of_getElem? e1), ?_⟩
   walk_at "xx"
   cases q : inW 0 (s.r : Int) a1 with
   | false =>
    rw [if_pos (c := (!false) = true) rfl]
    walk_at "xs"
    rw [show isLns h (.tuple ds) = false by
     cases qq : isLns h (.tuple ds) with
     | false => rfl
     | true => rw [fitD_at qq (Hall.rs_get es) e1] at q; cases q] at k
    exact k
   | true =>
    rw [if_neg (show ¬ (!true) = true by decide)]
    walk_at "xs"
    refine ⟨_, _, rfl, fun j r x hj' er ex => ?_⟩
    rcases Nat.lt_or_ge j i with hlt | hge
    ·exact hall j r x hlt er ex
    ·have : j = i := by omega
     subst this
     rw [Hall.rs_get es] at er
     rw [e1] at ex
     cases er; cases ex; exact q
  ·rintro m n ⟨a, b, rfl, hall⟩
   walk_at "xs"
   rw [show isLns h (.tuple ds) = true from fitD_of (by rw [h.rsl]; exact hdl) fun i r x er ex => hall i r x (by
    have h1 := (List.getElem?_eq_some_iff.mp er).1
    have h2 := (List.getElem?_eq_some_iff.mp ex).1
    rw [h.rsl] at h1
    rw [zipD_length, List.length_map]; omega) er ex] at k
   exact k
theorem okfirst_stand (T : Bl mg) (D : DefM K mg "first_stand" sfirst_stand ["hall"]) : FnM P w K mg base "first_stand" 1 1 spFirst := by
 refine mk_fn' D scfirst_stand rfl (nN := 1) rfl (by decide) ?ar fun cdv A outer s H E f hr => ⟨_, (mss_one' (ms_ret' (me_tup' (mc' (me_bin' op_mulSM (me_tup' (mc' mh' mn')) (me_callB' call_lenM (by rfl) T.len bt_len (mc' (me_ix' (mv' 0) mh') mn'))) (mc' mh' mn'))))), ?_⟩
 case ar => rintro as Kc ⟨h, rfl, _⟩; rfl
 rintro as Kc hl ⟨h, rfl, ho, k⟩
 have n1 := ho.n1
 have n4 := ho.n4
 refine x_start (MSt.mk [some (.imm (.tuple [.tuple [.int h.a, .int h.b], .tuple (h.ss.map Srv.d), .bool h.mv]))] [] 0) rfl ?_
 walk_at "xs"
 rw [List.length_map]
 refine x_mulT (by omega) (by omega) (by simp; omega) ?_
 walk_at "xs"
 have e : (List.replicate ((h.ss.length : Nat) : Int).toNat [PyData.int 0]).flatten = natD (zer h) := by
  rw [Int.toNat_natCast]; simp [zer, natD]
 rw [e]
 exact k
theorem okis_turn (T : Bl mg) (D : DefM K mg "is_turn" sis_turn ["hall", "rule", "thing"]) (Gis_line : FnM P w K mg base "is_line" 3 2 spIsLn) (Gis_whole : FnM P w K mg base "is_whole" 1 1 spIsWh) : FnM P w K mg base "is_turn" 4 3 spIsTn := by
 refine mk_fn' D scis_turn rfl (nN := 3) rfl (by decide) ?ar fun cdv A outer s H E f hr => ⟨_, (mz' (ms_if' (mt_cmp' (op_eqM hr.units) (me_ix' (mv' 1) mh') me_str' (nomark _)) (mss_one' (ms_ret' (mf' Gis_line (hr.mono (by decide)) (mc' (mv' 0) (mc' (mv' 2) mn'))))) mss_nil')
   (mss_one' (ms_ret' (me_and' (mf' Gis_whole (hr.mono (by decide)) (mc' (mv' 2) mn')) (me_one' (me_cmp' (op_eqM hr.units) (mv' 2) mh' (nomark _))))))), ?_⟩
 case ar => rintro as Kc ⟨z, h, r, d, rfl, _⟩; rfl
 rintro as Kc hl ⟨z, h, r, d, rfl, ho, hd, hdp, k⟩
 refine x_start (MSt.mk [some (.imm h.d), some (.imm r.d), some (.imm d)] [] 0) rfl ?_
 walk_at "xs"
 refine x_itemD r.dc (atI_nat (j := 0) rfl) ?_
 walk_at "xs"
 have hw : r.word = "turns" ↔ r = .turns := by
  cases r <;> first | exact ⟨fun _ => rfl, fun _ => rfl⟩ | exact ⟨fun z => absurd z (by decide +kernel), fun z => by cases z⟩ | exact ⟨fun z => absurd (show (Str.ofString "told") = "turns" from z) (by decide +kernel), fun z => by cases z⟩
 refine x_ite (fun q => ?_) (fun q => ?_)
 ·have hr := hw.mp q
  subst hr
  walk_at "xs"
  refine ⟨z, h, d, rfl, ho, hd, ?_⟩
  walk_at "xx"
  exact k
 ·have hr : isTn h r d = inW 0 0 d := by cases r <;> first | rfl | exact (q rfl).elim
  rw [hr] at k
  walk_at "xs"
  refine ⟨z, d, rfl, hd, ?_⟩
  walk_at "xx"
  cases d with
  | int i =>
   rw [if_pos (show isWh (PyData.int i) = true from rfl)]
   walk_at "xs"
   rw [show inW 0 0 (.int i) = decide (i = 0) by
    show (decide (0 ≤ i) && decide (i ≤ 0)) = decide (i = 0)
    rw [← Bool.decide_and]; exact decide_eq_decide.mpr (by omega)] at k
   exact k
  | bool i => rw [if_neg (show ¬ isWh (PyData.bool i) = true by simp [isWh])]; exact k
  | none => rw [if_neg (show ¬ isWh PyData.none = true by simp [isWh])]; exact k
  | str x => rw [if_neg (show ¬ isWh (PyData.str x) = true by simp [isWh])]; exact k
  | list x => rw [if_neg (show ¬ isWh (PyData.list x) = true by simp [isWh])]; exact k
  | tuple x => rw [if_neg (show ¬ isWh (PyData.tuple x) = true by simp [isWh])]; exact k
  | dict x => exact hd.elim
theorem okis_stand (T : Bl mg) (D : DefM K mg "is_stand" sis_stand ["hall", "rule", "thing"]) (Gis_tuple_of : FnM P w K mg base "is_tuple_of" 1 2 spTupN) (Gis_lines : FnM P w K mg base "is_lines" 3 2 spIsLns) (Gis_turn : FnM P w K mg base "is_turn" 4 3 spIsTn) : FnM P w K mg base "is_stand" 5 3 spIsSt := by
 refine mk_fn' D scis_stand rfl (nN := 3) rfl (by decide) ?ar fun cdv A outer s H E f hr => ⟨_, (mz' (ms_if' (mt_not' (mt_val' (mf' Gis_tuple_of (hr.mono (by decide)) (mc' (mv' 2) (mc' mh' mn'))))) (mss_one' (ms_ret' me_bl')) mss_nil')
   (mss_one' (ms_ret' (me_and' (mf' Gis_lines (hr.mono (by decide)) (mc' (mv' 0) (mc' (me_ix' (mv' 2) mh') mn'))) (me_one' (mf' Gis_turn (hr.mono (by decide)) (mc' (mv' 0) (mc' (mv' 1) (mc' (me_ix' (mv' 2) mh') mn'))))))))), ?_⟩
 case ar => rintro as Kc ⟨z, h, r, d, rfl, _⟩; rfl
 rintro as Kc hl ⟨z, h, r, d, rfl, ho, hd, hdp, k⟩
 refine x_start (MSt.mk [some (.imm h.d), some (.imm r.d), some (.imm d)] [] 0) rfl ?_
 walk_at "xs"
 refine ⟨z, d, 2, rfl, hd, ?_⟩
 walk_at "xx"
 cases e : tupN 2 d with
 | false =>
  rw [if_pos (c := (!false) = true) rfl]
  walk_at "xs"
  rw [isSt_not2 h r e] at k
  exact k
 | true =>
  rw [if_neg (show ¬ (!true) = true by decide)]
  obtain ⟨x, y, rfl⟩ := tup_two e
  have gx : Gd z x := by simp only [Gd, GdA] at hd; exact hd.1
  have gy : Gd z y := by simp only [Gd, GdA] at hd; exact hd.2.1
  have dy : y.depth ≤ 50 := by
   have : max x.depth (max y.depth 0) + 1 ≤ 50 := hdp
   omega
  walk_at "xs"
  refine ⟨z, h, x, rfl, ho, gx, ?_⟩
  walk_at "xx"
  rw [isSt_two] at k
  cases q : isLns h x with
  | false =>
   rw [q] at k
   refine x_iteF ?_
   exact k
  | true =>
   rw [q, Bool.true_and] at k
   refine x_iteT ?_
   walk_at "xs"
   refine ⟨z, h, r, y, rfl, ho, gy, dy, ?_⟩
   walk_at "xx"
   exact k
theorem okis_order (T : Bl mg) (D : DefM K mg "is_order" sis_order ["hall", "thing"]) (Gis_tuple_of : FnM P w K mg base "is_tuple_of" 1 2 spTupN) (Gis_line : FnM P w K mg base "is_line" 3 2 spIsLn) : FnM P w K mg base "is_order" 4 2 spIsOr := by
 refine mk_fn' D scis_order rfl (nN := 3) rfl (by decide) ?ar fun cdv A outer s H E f hr => ⟨_, (mz' (ms_if' (mt_not' (mt_val' (mf' Gis_tuple_of (hr.mono (by decide)) (mc' (mv' 1) (mc' (me_callB' call_lenM (by rfl) T.len bt_len (mc' (me_ix' (mv' 0) mh') mn')) mn'))))) (mss_one' (ms_ret' me_bl')) mss_nil')
   (mz' (ms_for' (mi_seq' (mv' 1)) (mg_name' (i := 2) scis_order.nd rfl (Or.inl rfl)) (mss_one' (ms_if' (EW.pt (mw_or' (mt_not' (mt_val' (mf' Gis_line (hr.mono (by decide)) (mc' (mv' 0) (mc' (mv' 2) mn'))))) (mw_or1' (mt_cmp' (op_neM hr.units) (me_tm' PySem.F.slot_tuple_count PySem.F.type_tuple_count (mt_countTM hr.units) (mv' 1) (mc' (mv' 2) mn')) mh' (nomark _))))) (mss_one' (ms_ret' me_bl')) mss_nil')) PassesOwn.never)
   (mss_one' (ms_ret' me_bl')))), ?_⟩
 case ar => rintro as Kc ⟨z, h, d, rfl, _⟩; rfl
 rintro as Kc hl ⟨z, h, d, rfl, ho, hd, hdp, k⟩
 refine x_start (MSt.mk [some (.imm (.tuple [.tuple [.int h.a, .int h.b], .tuple (h.ss.map Srv.d), .bool h.mv])), some (.imm d), none] [] 0) rfl ?_
 walk_at "xs"
 rw [List.length_map]
 refine ⟨z, d, h.ss.length, rfl, hd, ?_⟩
 walk_at "xx"
 cases e : tupN h.ss.length d with
 | false =>
  rw [if_pos (c := (!false) = true) rfl]
  walk_at "xs"
  rw [isOr_not h e] at k
  exact k
 | true =>
  rw [if_neg (show ¬ (!true) = true by decide)]
  obtain ⟨ds, rfl, hdl⟩ := tup_n e
  have hg := gd_tup.mp hd
  have hdd : PyData.depthAll ds + 1 ≤ 50 := hdp
  have hde := fun x hx => depthAll_le.mp (Nat.le_refl (PyData.depthAll ds)) x hx
  have hall0 : isOr h (.tuple ds) = ds.all fun x => inW 0 ((h.ss.length : Int) - 1) x && decide (cntD ds x = 1) := by rw [isOr_tup, decide_eq_true hdl, Bool.true_and]
  rw [hall0] at k
  walk_at "xs"
  refine x_loop0 (fun i m => ∃ a, m = MSt.mk [some (.imm h.d), some (.imm (.tuple ds)), a] [] 0 ∧ (ds.take i).all (fun x => inW 0 ((h.ss.length : Int) - 1) x && decide (cntD ds x = 1)) = true) ⟨none, rfl, rfl⟩ ?_ ?_
  ·rintro i d m e n ⟨a, rfl, hall⟩
   have hdm := List.mem_of_getElem? e
   have bad : (inW 0 ((h.ss.length : Int) - 1) d && decide (cntD ds d = 1)) = false → Kc (.imm (.bool false)) [] := fun hb => by
    rw [List.all_eq_false.mpr ⟨d, hdm, by rw [hb]; exact Bool.false_ne_true⟩] at k
    exact k
   walk_at "xs"
   refine ⟨z, h, d, rfl, ho, hg d hdm, ?_⟩
   walk_at "xx"
   cases q : inW 0 ((h.ss.length : Int) - 1) d with
   | false =>
    rw [if_pos (c := (!false) = true) rfl]
    walk_at "xs"
    exact bad (by rw [q]; rfl)
   | true =>
    rw [if_neg (show ¬ (!true) = true by decide)]
    walk_at "xs"
    refine x_countT (k := 50) (k' := 50) ((hg d hdm).shp.mono (by have := hde d hdm; omega)) (fun y hy => (hg y hy).shp.mono (by have := hde y hy; omega)) (by decide) ?_
    walk_at "xs"
    refine x_ite (fun hc => ?_) (fun hc => ?_)
    ·walk_at "xs"
     refine bad ?_
     rw [q, Bool.true_and]
     exact decide_eq_false fun z => hc (by show ((cntD ds d : Nat) : Int) = 1; rw [z]; rfl)
    ·walk_at "xs"
     refine ⟨_, rfl, ?_⟩
     have hc1 : cntD ds d = 1 := by
      have : ((cntD ds d : Nat) : Int) = 1 := Classical.not_not.mp hc
      omega
     rw [List.take_add_one, e, List.all_append, hall]
     simp [q, hc1]
  ·rintro m n ⟨a, rfl, hall⟩
   rw [List.take_length] at hall
   rw [hall] at k
   walk_at "xs"
   exact k
theorem okis_move (T : Bl mg) (D : DefM K mg "is_move" sis_move ["hall", "thing"]) (Gis_tuple_of : FnM P w K mg base "is_tuple_of" 1 2 spTupN) (Gis_order : FnM P w K mg base "is_order" 4 2 spIsOr) (Gis_line : FnM P w K mg base "is_line" 3 2 spIsLn) : FnM P w K mg base "is_move" 5 2 spIsMv := by
 refine mk_fn' D scis_move rfl (nN := 2) rfl (by decide) ?ar fun cdv A outer s H E f hr => ⟨_, (mz' (ms_if' (mt_val' (mf' Gis_tuple_of (hr.mono (by decide)) (mc' (mv' 1) (mc' mh' mn')))) (mss_one' (ms_ret' (me_cmp' (op_eqM hr.units) (me_ix' (mv' 1) mh') me_str' (nomark _)))) mss_nil')
   (mz' (ms_if' (mt_not' (mt_val' (mf' Gis_tuple_of (hr.mono (by decide)) (mc' (mv' 1) (mc' mh' mn'))))) (mss_one' (ms_ret' me_bl')) mss_nil')
   (mz' (ms_if' (mt_cmp' (op_eqM hr.units) (me_ix' (mv' 1) mh') me_str' (nomark _)) (mss_one' (ms_ret' (mf' Gis_order (hr.mono (by decide)) (mc' (mv' 0) (mc' (me_ix' (mv' 1) mh') mn'))))) mss_nil')
   (mss_one' (ms_ret' (me_and' (me_cmp' (op_eqM hr.units) (me_ix' (mv' 1) mh') me_str' (nomark _)) (me_one' (mf' Gis_line (hr.mono (by decide)) (mc' (mv' 0) (mc' (me_ix' (mv' 1) mh') mn')))))))))), ?_⟩
 case ar => rintro as Kc ⟨z, h, d, rfl, _⟩; rfl
 rintro as Kc hl ⟨z, h, d, rfl, ho, hd, hdp, hms, hwd, k⟩
 refine x_start (MSt.mk [some (.imm h.d), some (.imm d)] [] 0) rfl ?_
 walk_at "xs"
 refine ⟨z, d, 1, rfl, hd, ?_⟩
 walk_at "xx"
 cases e : tupN 1 d with
 | true =>
  refine x_iteT ?_
  obtain ⟨x, rfl⟩ := tup_one e
  have gx : Gd z x := by simp only [Gd, GdA] at hd; exact hd.1
  have dx : x.depth ≤ 50 := by
   have : max x.depth 0 + 1 ≤ 50 := hdp
   omega
  walk_at "xs"
  refine x_eq rfl rfl ((gx.shp.mono dx).ok (by decide)) (by decide +kernel) ?_
  exact k
 | false =>
  refine x_iteF ?_
  walk_at "xs"
  refine ⟨z, d, 2, rfl, hd, ?_⟩
  walk_at "xx"
  cases e2 : tupN 2 d with
  | false =>
   rw [if_pos (c := (!false) = true) rfl]
   walk_at "xs"
   rw [isMv_not12 h e e2] at k
   exact k
  | true =>
   rw [if_neg (show ¬ (!true) = true by decide)]
   obtain ⟨x, y, rfl⟩ := tup_two e2
   have gx : Gd z x := by simp only [Gd, GdA] at hd; exact hd.1
   have gy : Gd z y := by simp only [Gd, GdA] at hd; exact hd.2.1
   have dx : x.depth ≤ 50 := by
    have : max x.depth (max y.depth 0) + 1 ≤ 50 := hdp
    omega
   have dy : y.depth ≤ 50 := by
    have : max x.depth (max y.depth 0) + 1 ≤ 50 := hdp
    omega
   rw [isMv_two] at k
   walk_at "xs"
   refine x_eq rfl rfl ((gx.shp.mono dx).ok (by decide)) (by decide +kernel) ?_
   walk_at "xs"
   cases q : PyData.eqv x (.str "come") with
   | true =>
    rw [q, if_pos rfl] at k
    refine x_iteT ?_
    walk_at "xs"
    refine ⟨z, h, y, rfl, ho, gy, dy, ?_⟩
    walk_at "xx"
    exact k
   | false =>
    rw [q, if_neg (by decide)] at k
    refine x_iteF ?_
    walk_at "xs"
    refine x_eq rfl rfl ((gx.shp.mono dx).ok (by decide)) (by decide +kernel) ?_
    walk_at "xs"
    cases q2 : PyData.eqv x (.str "done") with
    | false =>
     rw [q2] at k
     refine x_iteF ?_
     exact k
    | true =>
     rw [q2, Bool.true_and] at k
     refine x_iteT ?_
     walk_at "xs"
     refine ⟨z, h, y, rfl, ho, gy, ?_⟩
     walk_at "xx"
     exact k
theorem okis_run (T : Bl mg) (D : DefM K mg "is_run" sis_run ["hall", "thing"]) (Gis_move : FnM P w K mg base "is_move" 5 2 spIsMv) : FnM P w K mg base "is_run" 6 2 spIsRn := by
 refine mk_fn' D scis_run rfl (nN := 3) rfl (by decide) ?ar fun cdv A outer s H E f hr => ⟨_, (mz' (ms_if' (mt_not' (mt_val' (me_isT' (mv' 1) isT_tuple T.isinstance T.tuple bt_tuple))) (mss_one' (ms_ret' me_bl')) mss_nil')
   (mz' (ms_for' (mi_seq' (mv' 1)) (mg_name' (i := 2) scis_run.nd rfl (Or.inl rfl)) (mss_one' (ms_if' (mt_not' (mt_val' (mf' Gis_move (hr.mono (by decide)) (mc' (mv' 0) (mc' (mv' 2) mn'))))) (mss_one' (ms_ret' me_bl')) mss_nil')) PassesOwn.never)
   (mss_one' (ms_ret' me_bl')))), ?_⟩
 case ar => rintro as Kc ⟨z, h, d, rfl, _⟩; rfl
 rintro as Kc hl ⟨z, h, d, rfl, ho, hd, hdp, hms, hwd, k⟩
 have hnd := gd_nd hd
 refine x_start (MSt.mk [some (.imm h.d), some (.imm d), none] [] 0) rfl ?_
 walk_at "xs"
 rw [ty_tup]
 cases e : isTup d with
 | false =>
  rw [if_pos (show (!false) = true by decide)]
  walk_at "xs"
  rw [show isRn h d = false by cases d <;> first | rfl | cases e] at k
  exact k
 | true =>
  rw [if_neg (show ¬ (!true) = true by decide)]
  cases d with
  | tuple ds =>
   have hg := gd_tup.mp hd
   have hdd : PyData.depthAll ds + 1 ≤ 50 := hdp
   have hde := fun x hx => depthAll_le.mp (Nat.le_refl (PyData.depthAll ds)) x hx
   rw [ms_tup] at hms
   rw [wd_tup] at hwd
   have hwa := wdA_le.mp (Nat.le_refl (wdA ds))
   replace k : Kc (.imm (.bool (ds.all (isMv h)))) [] := k
   walk_at "xs"
   refine x_loop0 (fun i m => ∃ a, m = MSt.mk [some (.imm h.d), some (.imm (.tuple ds)), a] [] 0 ∧ (ds.take i).all (isMv h) = true) ⟨none, rfl, rfl⟩ ?_ ?_
   ·rintro i d m e n ⟨a, rfl, hall⟩
    have hdm := List.mem_of_getElem? e
    have hma := msA_at e
    walk_at "xs"
    refine ⟨z, h, d, rfl, ho, hg d hdm, by have := hde d hdm; omega, by omega, by have := hwa d hdm; omega, ?_⟩
    walk_at "xx"
    cases q : isMv h d with
    | false =>
     rw [if_pos (c := (!false) = true) rfl]
     walk_at "xs"
     rw [List.all_eq_false.mpr ⟨d, hdm, by rw [q]; exact Bool.false_ne_true⟩] at k
     exact k
    | true =>
     rw [if_neg (show ¬ (!true) = true by decide)]
     walk_at "xs"
     refine ⟨_, rfl, ?_⟩
     rw [List.take_add_one, e, List.all_append, hall]
     simp [q]
   ·rintro m n ⟨a, rfl, hall⟩
    rw [List.take_length] at hall
    rw [hall] at k
    walk_at "xs"
    exact k
  | _ => cases e
theorem okall_orders (T : Bl mg) (D : DefM K mg "all_orders" sall_orders ["hall"]) : FnM P w K mg base "all_orders" 1 1 spAllO := by
 refine mk_fn' D scall_orders rfl (nN := 4) rfl (by decide) ?ar fun cdv A outer s H E f hr => ⟨_, (mz' (ms_set' (i := 1) scall_orders.nd rfl (Or.inr rfl) (me_callB' call_lenM (by rfl) T.len bt_len (mc' (me_ix' (mv' 0) mh') mn')))
   (mz' (ms_set' (i := 2) scall_orders.nd rfl (Or.inl rfl) (me_lst' (mc' (me_tup' mn') mn')))
   (mz' (ms_for' (mi_range1' (by rfl) T.range (mc' (mv' 1) mn')) (mg_name' (i := 3) scall_orders.nd rfl (Or.inl rfl)) (mss_one' (ms_setc2' (i := 2) (own := ["ahead", "line"]) (fr := ["many"]) (ps := [1]) (sc := (defScope sall_orders)) (by exact ⟨rfl, by decide +kernel, by decide +kernel, by decide +kernel, by decide +kernel⟩) scall_orders.nd rfl rfl (mi_seq' (mv' 2)) (fun _ _ _ _ _ => (mg_name' (i := 0) (show List.Nodup ((["ahead", "line"] : List Str) ++ (["many"] : List Str)) from by decide +kernel) rfl (Or.inl rfl))) (fun _ _ _ _ _ => mts_nil') (fun _ _ _ _ _ => (mi_range1' (by rfl) T.range (mc' (mv' 2) mn'))) (fun _ _ _ _ _ => (mg_name' (i := 1) (show List.Nodup ((["ahead", "line"] : List Str) ++ (["many"] : List Str)) from by decide +kernel) rfl (Or.inl rfl))) (fun _ _ _ _ _ => (mts_one' (mt_cmp' (op_notInM hr.units) (mv' 1) (mv' 0) (by with_unfolding_all rfl)))) (fun _ _ _ _ _ => (me_bin' op_addM (mv' 0) (me_tup' (mc' (mv' 1) mn')))))) PassesOwn.never)
   (mss_one' (ms_ret' (mv' 2)))))), ?_⟩
 case ar => rintro as Kc ⟨h, rfl, _⟩; rfl
 rintro as Kc hl ⟨h, rfl, ho, k⟩
 have n1 := ho.n1
 have n4 := ho.n4
 refine x_start (MSt.mk [some (.imm (.tuple [.tuple [.int h.a, .int h.b], .tuple (h.ss.map Srv.d), .bool h.mv])), none, none, none] [] 0) rfl ?_
 walk_at "xs"
 refine x_bindN ?_
 walk_at "xx"
 rw [List.length_map]
 refine ⟨by omega, by omega, ?_⟩
 rw [Int.toNat_natCast]
 refine x_loop0 (fun i m => ∃ a, m = MSt.mk [some (.imm (.tuple [.tuple [.int h.a, .int h.b], .tuple (h.ss.map Srv.d), .bool h.mv])), some (.imm (.int (h.ss.length : Nat))), some (.obj 0), a] [(ordK h.ss.length i).map lnD] 0) ⟨none, rfl⟩ ?_ ?_
 ·rintro i d m e n ⟨a, rfl⟩
  obtain ⟨hi, rfl⟩ := get_range e
  obtain ⟨hk1, hk2⟩ := ordK_small h.ss.length n4 i (by omega)
  have hk3 := stepO_take_len h.ss.length n4 i (by omega)
  rw [show ordK h.ss.length (i + 1) = stepO h.ss.length (ordK h.ss.length i) from rfl]
  generalize ordK h.ss.length i = os at hk1 hk2 hk3
  walk_at "xs"
  walk_at "xn"
  refine x_loopO (fun z m => ∃ b c, m = MSt.mk [b, c, some (.imm (.int (h.ss.length : Nat)))] [os.map lnD, (stepO h.ss.length (os.take z)).map lnD] 2) ⟨none, none, rfl⟩ ?_ ?_ ?_
  ·rintro z m ⟨b, c, rfl⟩; rfl
  ·rintro z d m ez nz ⟨b, c, rfl⟩
   obtain ⟨l, el, rfl, hz⟩ := gmap ez
   obtain ⟨hl4, hl3⟩ := hk2 l (List.mem_of_getElem? el)
   have hzl := (List.getElem?_eq_some_iff.mp el).1
   have hz24 := hk3 z (by omega)
   walk_at "xs"
   refine ⟨by omega, by omega, ?_⟩
   rw [Int.toNat_natCast]
   obtain ⟨G, hG⟩ : ∃ G : Nat → List (List Nat), G = fun y => stepO h.ss.length (os.take z) ++ ((List.range y).filter fun q => !l.contains q).map fun q => l ++ [q] := ⟨_, rfl⟩
   have hG0 : G 0 = stepO h.ss.length (os.take z) := by rw [hG]; simp
   have hGn : G h.ss.length = stepO h.ss.length (os.take (z + 1)) := by rw [hG, stepO_take el]
   have hGs : ∀ y, G (y + 1) = G y ++ ([y].filter fun q => !l.contains q).map fun q => l ++ [q] := fun y => by
    rw [hG]
    show _ ++ ((List.range (y + 1)).filter _).map _ = _
    rw [List.range_succ, List.filter_append, List.map_append, List.append_assoc]
   have hGl : ∀ y, y ≤ 4 → (G y).length ≤ 28 := fun y hy => by
    rw [hG]
    dsimp only
    rw [List.length_append, List.length_map]
    have := List.length_filter_le (fun q => !l.contains q) (List.range y)
    rw [List.length_range] at this
    omega
   clear hG
   rw [← hG0]
   refine x_loop0 (fun y m => ∃ c, m = MSt.mk [some (.imm (lnD l)), c, some (.imm (.int (h.ss.length : Nat)))] [os.map lnD, (G y).map lnD] 2) ⟨c, rfl⟩ ?_ ?_
   ·rintro y d m ey ny ⟨c, rfl⟩
    obtain ⟨hy, rfl⟩ := get_range ey
    rw [show (0 : Int) + (y : Int) = ((y : Nat) : Int) by omega]
    have hlen := hGl y (by omega)
    have hin : (natD l).any (fun x => PyData.eqv x (.int (y : Int))) = l.contains y := by
     rw [Bool.eq_iff_iff, List.any_eq_true, List.contains_iff_mem]
     constructor
     ·rintro ⟨x, hx, ex⟩
      obtain ⟨w, hw, rfl⟩ := List.mem_map.mp hx
      rw [eqv_int] at ex
      rw [← of_decide_eq_true ex]; exact hw
     ·intro hm
      exact ⟨_, List.mem_map.mpr ⟨y, hm, rfl⟩, by rw [eqv_int]; exact decide_eq_true rfl⟩
    walk_at "xs"
    refine x_in (d := .int (y : Int)) (ds := natD l) rfl (.inr rfl) (shp_int _) (natD_shp l) (by decide) ?_
    walk_at "xs"
    rw [hin]
    cases hc : l.contains y with
    | true =>
     refine x_iteF ?_
     walk_at "xs"
     refine ⟨some (.imm (.int (y : Int))), ?_⟩
     rw [hGs, show ([y].filter fun q => !l.contains q) = [] by rw [List.filter_cons, hc]; rfl, List.map_nil, List.append_nil]
     rfl
    | false =>
     refine x_iteT ?_
     walk_at "xs"
     refine x_addT (by rw [sizeLine_eq, natD_length]; simp; omega) ?_
     walk_at "xs"
     refine ⟨_, rfl, by rw [sizeLine_eq, List.length_map]; omega, some (.imm (.int (y : Int))), ?_⟩
     rw [hGs, show ([y].filter fun q => !l.contains q) = [y] by rw [List.filter_cons, hc]; rfl, List.map_append]
     simp [lnD, natD, MSt.setV]
   ·rintro m ny ⟨c, rfl⟩
    rw [rangeD_length, hGn]
    walk_at "xs"
    exact ⟨_, _, rfl⟩
  ·rintro m nz ⟨b, c, rfl⟩
   rw [List.length_map, List.take_length]
   walk_at "xn"
   refine x_bindSame (k := 0) rfl (Nat.le_refl _) (fun j hj => ?_) ⟨_, rfl⟩
   match j with
   | 0 | 1 | 3 => exact fun z => by cases z
   | 2 => exact (hj rfl).elim
   | n + 4 => exact fun z => by cases z
 ·rintro m n ⟨a, rfl⟩
  rw [rangeD_length]
  walk_at "xs"
  exact k
theorem ok_law_feed (T : Bl mg) (D : DefM K mg "_law_feed" s_law_feed ["_law_script"]) : FnM P w K mg base "_law_feed" 1 1 spFeed := by
 refine mk_fn' D sc_law_feed rfl (nN := 1) rfl (by decide) ?ar fun cdv A outer s H E f hr => ⟨_, (mss_one' (ms_ret' (me_lst' (mc' (me_imm' (me_callTy' call_listM (by rfl) T.list bt_list (mc' (me_slice' sl_cutM (mv' 0) mo_none' (mo_some' mh')) mn'))) (mc' mh' (mc' mh' (mc' mh' mn'))))))), ?_⟩
 case ar => rintro as Kc ⟨ns, rfl, _⟩; rfl
 rintro as Kc hl ⟨ns, rfl, hn, k⟩
 refine x_start (MSt.mk [some (.imm (.list (ns.map .int)))] [] 0) rfl ?_
 walk_at "xs"
 have e : cutD (ns.map PyData.int) none (some 63) = ns.map .int := cutD_all (n := 63) (by rw [List.length_map]; exact hn)
 rw [e]
 exact k _ ⟨ns, 0, 0, 0, rfl, hn, by omega, by omega, by omega, by omega, by omega⟩
theorem ok_law_draw (T : Bl mg) (D : DefM K mg "_law_draw" s_law_draw ["_law_feed_here", "_law_many"]) : FnM P w K mg base "_law_draw" 1 2 spDraw := by
 refine mk_fn' D sc_law_draw rfl (nN := 5) rfl (by decide) ?ar fun cdv A outer s H E f hr => ⟨_, (mz' (ms_setI' (me_bin' op_addM (me_ix' (mv' 0) mh') mh') (mv' 0) mh')
   (mz' (ms_if' (mt_cmp' op_gtM (me_ix' (mv' 0) mh') mh' (nomark _)) (mz' (ms_set' (i := 2) sc_law_draw.nd rfl (Or.inl rfl) (me_bin' op_modM (me_ix' (mv' 0) mh') (mv' 1)))
   (mz' (ms_setI' (me_bin' op_fdivM (me_ix' (mv' 0) mh') (mv' 1)) (mv' 0) mh')
   (mss_one' (ms_ret' (mv' 2))))) mss_nil')
   (mz' (ms_set' (i := 3) sc_law_draw.nd rfl (Or.inl rfl) mh')
   (mz' (ms_if' (mt_cmp' (op_neM hr.units) (me_ix' (mv' 0) mh') (me_lst' mn') (nomark _)) (mss_one' (ms_set' (i := 3) sc_law_draw.nd rfl (Or.inl rfl) (me_ix' (me_ix' (mv' 0) mh') (me_bin' op_modM (me_ix' (mv' 0) mh') (me_callB' call_lenM (by rfl) T.len bt_len (mc' (me_ix' (mv' 0) mh') mn')))))) mss_nil')
   (mz' (ms_setI' (me_bin' op_addM (me_ix' (mv' 0) mh') mh') (mv' 0) mh')
   (mz' (ms_if' (EW.pt (mw_and' (mt_cmp' op_geM (mv' 3) (me_bin' op_powM mh' mh') (nomark _)) (mw_and1' (mt_cmp' op_leM (me_ix' (mv' 0) mh') (me_callB' call_lenM (by rfl) T.len bt_len (mc' (me_ix' (mv' 0) mh') mn')) (nomark _))))) (mz' (ms_setI' (me_bin' op_fdivM (mv' 3) (mv' 1)) (mv' 0) mh')
   (mss_one' (ms_ret' (me_bin' op_modM (mv' 3) (mv' 1))))) mss_nil')
   (mz' (ms_set' (i := 4) sc_law_draw.nd rfl (Or.inl rfl) (me_bin' op_modM (me_bin' op_mulSM (me_bin' op_addM (me_bin' op_modM (mv' 3) mh') (me_bin' op_mulSM mh' (me_ix' (mv' 0) mh'))) mh') mh'))
   (mz' (ms_set' (i := 4) sc_law_draw.nd rfl (Or.inl rfl) (me_bin' op_modM (me_bin' op_mulSM (me_bin' op_addM (me_bin' op_fdivM (mv' 4) mh') (me_bin' op_mulSM (me_bin' op_mulSM mh' (me_ix' (mv' 0) mh')) (me_ix' (mv' 0) mh'))) mh') mh'))
   (mss_one' (ms_ret' (me_bin' op_modM (me_bin' op_fdivM (mv' 4) mh') (mv' 1)))))))))))), ?_⟩
 case ar => rintro as Kc ⟨ds, m, c, rfl, _⟩; rfl
 rintro as Kc hl ⟨ds, m, c, rfl, ⟨ns, p, q, r, rfl, hn, hp0, hp, hq, hr0, hr1⟩, hc, hm0, hm1, k⟩
 refine x_start (MSt.mk [some (.obj 0), some (.imm (.int m)), none, none, none] [[.list (ns.map .int), .int p, .int q, .int r]] 1) rfl ?_
 walk_at "xs"
 refine x_ite (fun h => ?_) (fun h => ?_)
 ·walk_at "xs"
  exact k _ _ (Int.emod_nonneg _ (by omega)) (Int.emod_lt_of_pos _ hm0) ⟨ns, p, q / m, r + 1, rfl, hn, hp0, by omega, Int.ediv_nonneg hq (by omega), by omega, by omega⟩
 ·walk_at "xs"
  have fin : ∀ x : Int, 0 ≤ x → x < m → ∀ q' : Int, 0 ≤ q' → Kc (.imm (.int x)) [[.list (ns.map .int), .int (p + 1), .int q', .int (r + 1)]] := fun x h1 h2 q' h3 => k _ _ h1 h2 ⟨ns, p + 1, q', r + 1, rfl, hn, by omega, by omega, h3, by omega, by omega⟩
  have mixed : ∀ y : Int, 0 ≤ y / 64 % m ∧ y / 64 % m < m := fun y => ⟨Int.emod_nonneg _ (by omega), Int.emod_lt_of_pos _ hm0⟩
  cases ns with
  | nil =>
   refine x_ne rfl rfl rfl rfl ?_
   walk_at "xs"
   refine x_iteF ?_
   walk_at "xs"
   refine x_ite (fun h1 => ?_) (fun h1 => ?_)
   ·walk_at "xs"
    refine x_ite (fun h2 => ?_) (fun h2 => ?_)
    ·walk_at "xs"
     exact fin _ (Int.emod_nonneg _ (by omega)) (Int.emod_lt_of_pos _ hm0) _ (Int.ediv_nonneg (Int.le_trans (by decide) h1) (by omega))
    ·walk_at "xs"
     exact fin _ (mixed _).1 (mixed _).2 _ hq
   ·walk_at "xs"
    exact fin _ (mixed _).1 (mixed _).2 _ hq
  | cons n0 ns =>
   refine x_ne rfl rfl (shaped_ints _) rfl ?_
   walk_at "xs"
   refine x_iteT ?_
   walk_at "xs"
   have hl0 : (0 : Int) < ((List.map PyData.int (n0 :: ns)).length : Int) := by simp only [List.length_map, List.length_cons]; omega
   refine x_mod hl0 ?_
   obtain ⟨x, hx⟩ := atI_ints (ns := n0 :: ns) (i := p % ((List.map PyData.int (n0 :: ns)).length : Int)) (Int.emod_nonneg _ (by omega)) (by have := Int.emod_lt_of_pos p hl0; simp only [List.length_map] at this ⊢; exact this)
   refine x_itemL hx ?_
   walk_at "xs"
   refine x_ite (fun h1 => ?_) (fun h1 => ?_)
   ·walk_at "xs"
    refine x_ite (fun h2 => ?_) (fun h2 => ?_)
    ·walk_at "xs"
     exact fin _ (Int.emod_nonneg _ (by omega)) (Int.emod_lt_of_pos _ hm0) _ (Int.ediv_nonneg (Int.le_trans (by decide) h1) (by omega))
    ·walk_at "xs"
     exact fin _ (mixed _).1 (mixed _).2 _ hq
   ·walk_at "xs"
    exact fin _ (mixed _).1 (mixed _).2 _ hq
theorem ok_law_shuffled (T : Bl mg) (D : DefM K mg "_law_shuffled" s_law_shuffled ["_law_feed_here", "_law_some"]) (G_law_draw : FnM P w K mg base "_law_draw" 1 2 spDraw) : FnM P w K mg base "_law_shuffled" 2 2 spShuf := by
 refine mk_fn' D sc_law_shuffled rfl (nN := 5) rfl (by decide) ?ar fun cdv A outer s H E f hr => ⟨_, (mz' (ms_set' (i := 2) sc_law_shuffled.nd rfl (Or.inl rfl) (me_callTy' call_listM (by rfl) T.list bt_list (mc' (mv' 1) mn')))
   (mz' (ms_set' (i := 3) sc_law_shuffled.nd rfl (Or.inl rfl) (me_lst' mn'))
   (mz' (ms_for' (mi_range1' (by rfl) T.range (mc' (me_callB' call_lenM (by rfl) T.len bt_len (mc' (mv' 2) mn')) mn')) (mg_name' (i := 4) sc_law_shuffled.nd rfl (Or.inl rfl)) (mss_one' (ms_expr' (me_ml' PySem.F.slot_list_append PySem.F.type_list_append mt_appendM (mv' 3) (mc' (me_ml' PySem.F.slot_list_pop PySem.F.type_list_pop mt_popAtM (mv' 2) (mc' (mf' G_law_draw (hr.mono (by decide)) (mc' (mv' 0) (mc' (me_callB' call_lenM (by rfl) T.len bt_len (mc' (mv' 2) mn')) mn'))) mn')) mn')))) PassesOwn.never)
   (mss_one' (ms_ret' (mv' 3)))))), ?_⟩
 case ar => rintro as Kc ⟨fd, ds, c, rfl, _⟩; rfl
 rintro as Kc hl ⟨fd, ds, c, rfl, hf, hc, hd, k⟩
 refine x_start (MSt.mk [some (.obj 0), some (.imm (.list ds)), none, none, none] [fd] 1) rfl ?_
 walk_at "xs"
 refine x_bindN ?_
 walk_at "xs"
 refine x_bindN ?_
 walk_at "xs"
 refine ⟨by omega, by omega, ?_⟩
 refine x_loop0 (fun i m => ∃ fd' lf fnd kk, m = MSt.mk [some (.obj 0), some (.imm (.list ds)), some (.obj 1), some (.obj 2), kk] [fd', lf, fnd] 1 ∧ FeedD (c + i) fd' ∧ lf.length + i = ds.length ∧ fnd.length = i ∧ (∀ d ∈ lf, d ∈ ds) ∧ ∀ d ∈ fnd, d ∈ ds)
  ⟨fd, ds, [], none, rfl, hf, rfl, rfl, fun _ h => h, fun _ h => by cases h⟩ ?_ ?_
 ·rintro i d m e n ⟨fd', lf, fnd, kk, rfl, h1, h2, h3, h4, h5⟩
  have hi : i < ds.length := by
   have := (List.getElem?_eq_some_iff.mp e).1
   rw [rangeD_length] at this
   omega
  walk_at "xs"
  refine ⟨fd', _, c + i, rfl, h1, by omega, by show (0 : Int) < (lf.length : Int); omega, by show (lf.length : Int) < _; omega, fun r fd2 r0 r1 hf2 => ?_⟩
  obtain ⟨x, ex, _⟩ := atI_lt (xs := lf) r0 r1
  have er : (r.toNat : Int) = r := Int.toNat_of_nonneg r0
  have hz : lf.length ≤ sizeLine := by rw [sizeLine_eq]; omega
  walk_at "xs"
  refine' x_popAt (n := r.toNat) (ds := lf) (d := x) ?ea er ex hz ?_
  case ea => rfl
  walk_at "xs"
  have hz2 : fnd.length < sizeLine := by rw [sizeLine_eq]; omega
  refine' x_append (ds := fnd) ?eb hz2 ?_
  case eb => rfl
  have hx : x ∈ lf := List.mem_of_getElem? ex
  refine ⟨fd2, lf.eraseIdx r.toNat, fnd ++ [x], _, rfl, hf2, ?_, ?_, fun d hd' => h4 d (List.mem_of_mem_eraseIdx hd'), fun d hd' => ?_⟩
  ·have hlt := (List.getElem?_eq_some_iff.mp ex).1
   rw [List.length_eraseIdx_of_lt hlt]
   omega
  ·rw [List.length_append, h3]; rfl
  ·rcases List.mem_append.mp hd' with z | z
   ·exact h5 d z
   ·simp at z; subst z; exact h4 _ hx
 ·rintro m n ⟨fd', lf, fnd, kk, rfl, h1, h2, h3, h4, h5⟩
  rw [rangeD_length] at h1 h2 h3
  walk_at "xs"
  exact k _ _ (by simpa using h1) (by simpa using h3) h5
theorem ok_law_cut (T : Bl mg) (D : DefM K mg "_law_cut" s_law_cut ["_law_top", "_law_bottom"]) : FnM P w K mg base "_law_cut" 1 2 spCut := by
 refine mk_fn' D sc_law_cut rfl (nN := 4) rfl (by decide) ?ar fun cdv A outer s H E f hr => ⟨_, (mz' (ms_par' (i := 2) (j := 3) sc_law_cut.nd rfl rfl (by decide) rfl rfl (mc' (me_callB' call_absM (by rfl) T.abs bt_abs (mc' (mv' 0) mn')) (mc' (me_callB' call_absM (by rfl) T.abs bt_abs (mc' (mv' 1) mn')) mn')) rfl)
   (mz' (ms_while' (mt_cmp' op_gtM (mv' 3) mh' (nomark _)) (mss_one' (ms_par' (i := 2) (j := 3) sc_law_cut.nd rfl rfl (by decide) rfl rfl (mc' (mv' 3) (mc' (me_bin' op_modM (mv' 2) (mv' 3)) mn')) rfl)) PassesOwn.never)
   (mz' (ms_if' (mt_cmp' op_ltM (mv' 1) mh' (nomark _)) (mss_one' (ms_set' (i := 2) sc_law_cut.nd rfl (Or.inl rfl) (me_un' un_negM (mv' 2)))) mss_nil')
   (mss_one' (ms_ret' (me_tup' (mc' (me_bin' op_fdivM (mv' 0) (mv' 2)) (mc' (me_bin' op_fdivM (mv' 1) (mv' 2)) mn')))))))), ?_⟩
 case ar => rintro as Kc ⟨a, b, rfl, _⟩; rfl
 rintro as Kc hl ⟨a, b, rfl, ha, hb0, hb, k⟩
 refine x_start (MSt.mk [some (.imm (.int a)), some (.imm (.int b)), none, none] [] 0) rfl ?_
 walk_at "xs"
 rw [if_neg (show ¬ (a : Int) < 0 by omega), if_neg (show ¬ (b : Int) < 0 by omega)]
 refine x_while (fun n m => ∃ x y : Nat, m = MSt.mk [some (.imm (.int a)), some (.imm (.int b)), some (.imm (.int x)), some (.imm (.int y))] [] 0 ∧ x.gcd y = a.gcd b ∧ x < 1000000000 ∧ y < 1000000000 ∧ n = y) b ⟨a, b, rfl, rfl, ha, hb, rfl⟩ ?_
 rintro n m hn ⟨x, y, rfl, hg, hx1, hy1, rfl⟩
 walk_at "xs"
 refine x_ite (fun hpos => ?_) (fun hz => ?_)
 ·walk_at "xs"
  have hy : 0 < n := by omega
  have h2 := Nat.mod_lt x hy
  exact ⟨x % n, h2, n, x % n, rfl, by rw [Nat.gcd_comm, ← Nat.gcd_rec, Nat.gcd_comm, hg], hy1, by omega, rfl⟩
 ·have hy0 : n = 0 := by omega
  subst hy0
  rw [Nat.gcd_zero_right] at hg
  have hx0 : 0 < x := by rw [hg]; exact Nat.gcd_pos_of_pos_right _ hb0
  walk_at "xs"
  refine x_ite (fun hneg => by omega) (fun _ => ?_)
  walk_at "xs"
  rw [hg]
  exact k
theorem ok_law_hall (T : Bl mg) (D : DefM K mg "_law_hall" s_law_hall ["_law_feed_here", "_law_most"]) (G_law_draw : FnM P w K mg base "_law_draw" 1 2 spDraw) (G_law_cut : FnM P w K mg base "_law_cut" 1 2 spCut) : FnM P w K mg base "_law_hall" 2 2 spHallM := by
 refine mk_fn' D sc_law_hall rfl (nN := 14) rfl (by decide) ?ar fun cdv A outer s H E f hr => ⟨_, (mz' (ms_set' (i := 2) sc_law_hall.nd rfl (Or.inl rfl) (me_bin' op_addM mh' (mf' G_law_draw (hr.mono (by decide)) (mc' (mv' 0) (mc' (mv' 1) mn')))))
   (mz' (ms_set' (i := 3) sc_law_hall.nd rfl (Or.inl rfl) (mf' G_law_draw (hr.mono (by decide)) (mc' (mv' 0) (mc' mh' mn'))))
   (mz' (ms_set' (i := 4) sc_law_hall.nd rfl (Or.inl rfl) (me_tup' (mc' (me_bin' op_addM mh' (mf' G_law_draw (hr.mono (by decide)) (mc' (mv' 0) (mc' mh' mn')))) (mc' (me_bin' op_addM mh' (mf' G_law_draw (hr.mono (by decide)) (mc' (mv' 0) (mc' mh' mn')))) mn'))))
   (mz' (ms_set' (i := 5) sc_law_hall.nd rfl (Or.inr rfl) (me_ix' (me_lst' (mc' mh' (mc' mh' (mc' mh' mn')))) (mf' G_law_draw (hr.mono (by decide)) (mc' (mv' 0) (mc' mh' mn')))))
   (mz' (ms_set' (i := 6) sc_law_hall.nd rfl (Or.inl rfl) (me_if' (EW.pt (mw_and' (mt_cmp' op_ltM (mv' 2) mh' (nomark _)) (mw_and1' (mt_cmp' (op_eqM hr.units) (mf' G_law_draw (hr.mono (by decide)) (mc' (mv' 0) (mc' mh' mn'))) mh' (nomark _))))) mh' (me_bin' op_subM mh' (me_callTy' call_intM (by rfl) T.int bt_int (mc' (me_cmp' op_gtM (mv' 2) mh' (nomark _)) mn')))))
   (mz' (ms_set' (i := 7) sc_law_hall.nd rfl (Or.inl rfl) (me_lst' mn'))
   (mz' (ms_for' (mi_range1' (by rfl) T.range (mc' (mv' 2) mn')) (mg_name' (i := 8) sc_law_hall.nd rfl (Or.inl rfl)) (mz' (ms_set' (i := 9) sc_law_hall.nd rfl (Or.inl rfl) (me_tup' (mc' (me_bin' op_addM mh' (mf' G_law_draw (hr.mono (by decide)) (mc' (mv' 0) (mc' mh' mn')))) (mc' (me_bin' op_addM mh' (mf' G_law_draw (hr.mono (by decide)) (mc' (mv' 0) (mc' (mv' 6) mn')))) mn'))))
   (mss_one' (ms_expr' (me_ml' PySem.F.slot_list_append PySem.F.type_list_append mt_appendM (mv' 7) (mc' (me_if' (mt_cmp' (op_eqM hr.units) (mv' 3) mh' (nomark _)) (mv' 4) (me_if' (mt_cmp' (op_eqM hr.units) (mv' 3) mh' (nomark _)) (me_tup' (mc' (me_ix' (mv' 4) mh') (mc' (me_ix' (mv' 9) mh') mn'))) (mv' 9))) mn'))))) PassesOwn.never)
   (mz' (ms_set' (i := 10) sc_law_hall.nd rfl (Or.inl rfl) (me_bin' op_addM mh' (mf' G_law_draw (hr.mono (by decide)) (mc' (mv' 0) (mc' mh' mn')))))
   (mz' (ms_set' (i := 11) sc_law_hall.nd rfl (Or.inl rfl) (me_ix' (me_lst' (mc' mh' (mc' mh' (mc' mh' mn')))) (mf' G_law_draw (hr.mono (by decide)) (mc' (mv' 0) (mc' mh' mn')))))
   (mz' (ms_set' (i := 12) sc_law_hall.nd rfl (Or.inr rfl) (me_bin' op_addM (me_bin' op_mulSM (me_bin' op_addM (mv' 10) (me_callB' (call_sumM rfl) (by rfl) T.sum bt_sum (mc' (me_comp1' (own := ["_law_speed", "_law_room"]) (fr := []) (ps := []) (sc := (defScope s_law_hall)) (by exact ⟨rfl, by decide +kernel, by decide +kernel, by decide +kernel, by decide +kernel⟩) (mi_seq' (mv' 7)) (fun _ _ _ _ _ => (mg_tup' (n := 2) (mgs_cons' (mg_name' (i := 0) (show List.Nodup ((["_law_speed", "_law_room"] : List Str) ++ ([] : List Str)) from by decide +kernel) rfl (Or.inl rfl)) (mgs_cons' (mg_name' (i := 1) (show List.Nodup ((["_law_speed", "_law_room"] : List Str) ++ ([] : List Str)) from by decide +kernel) rfl (Or.inl rfl)) mgs_nil')))) (fun _ _ _ _ _ => mts_nil') (fun _ _ _ _ _ => (mv' 0))) mn'))) (mv' 5)) (mv' 11)))
   (mz' (ms_set' (i := 13) sc_law_hall.nd rfl (Or.inl rfl) (me_callTy' call_tupleM (by rfl) T.tuple bt_tuple (mc' (me_comp1' (own := ["_law_speed", "_law_room"]) (fr := ["_law_heavy", "_law_whole"]) (ps := [5, 12]) (sc := (defScope s_law_hall)) (by exact ⟨rfl, by decide +kernel, by decide +kernel, by decide +kernel, by decide +kernel⟩) (mi_seq' (mv' 7)) (fun _ _ _ _ _ => (mg_tup' (n := 2) (mgs_cons' (mg_name' (i := 0) (show List.Nodup ((["_law_speed", "_law_room"] : List Str) ++ (["_law_heavy", "_law_whole"] : List Str)) from by decide +kernel) rfl (Or.inl rfl)) (mgs_cons' (mg_name' (i := 1) (show List.Nodup ((["_law_speed", "_law_room"] : List Str) ++ (["_law_heavy", "_law_whole"] : List Str)) from by decide +kernel) rfl (Or.inl rfl)) mgs_nil')))) (fun _ _ _ _ _ => mts_nil') (fun _ _ _ _ _ => (me_tup' (mc' (mf' G_law_cut (hr.mono (by decide)) (mc' (me_bin' op_mulSM (mv' 0) (mv' 2)) (mc' (mv' 3) mn'))) (mc' (mv' 1) mn'))))) mn')))
   (mss_one' (ms_ret' (me_tup' (mc' (mf' G_law_cut (hr.mono (by decide)) (mc' (me_bin' op_mulSM (mv' 10) (mv' 5)) (mc' (mv' 12) mn'))) (mc' (mv' 13) (mc' (me_cmp' (op_eqM hr.units) (mf' G_law_draw (hr.mono (by decide)) (mc' (mv' 0) (mc' mh' mn'))) mh' (nomark _)) mn'))))))))))))))))), ?_⟩
 case ar => rintro as Kc ⟨fd, c, mo, rfl, _⟩; rfl
 rintro as Kc hl ⟨fd, c, mo, rfl, hf, hc, mo1, mo4, k⟩
 refine x_start (MSt.mk [some (.obj 0), some (.imm (.int mo)), none, none, none, none, none, none, none, none, none, none, none, none] [fd] 1) rfl ?_
 walk_at "xs"
 refine ⟨fd, _, c, rfl, hf, by omega, by omega, by omega, fun many fd hm0 hm1 hf => ?_⟩
 walk_at "xx"
 refine ⟨fd, _, c + 1, rfl, hf, by omega, by decide, by decide, fun way fd hw0 hw1 hf => ?_⟩
 walk_at "xx"
 refine ⟨fd, _, c + 2, rfl, hf, by omega, by decide, by decide, fun sp0 fd hs0 hs1 hf => ?_⟩
 walk_at "xx"
 refine ⟨fd, _, c + 3, rfl, hf, by omega, by decide, by decide, fun rm0 fd hr0 hr1 hf => ?_⟩
 walk_at "xx"
 refine ⟨fd, _, c + 4, rfl, hf, by omega, by decide, by decide, fun hv fd hv0 hv1 hf => ?_⟩
 walk_at "xx"
 obtain ⟨heavy, eh, hh0, hh1⟩ : ∃ h : Nat, atI [PyData.int 1, PyData.int 1, PyData.int 97] hv = some (.int (h : Int)) ∧ 1 ≤ h ∧ h ≤ 97 := by
  rcases (show hv = 0 ∨ hv = 1 ∨ hv = 2 by omega) with rfl | rfl | rfl
  ·exact ⟨1, rfl, by decide, by decide⟩
  ·exact ⟨1, rfl, by decide, by decide⟩
  ·exact ⟨97, rfl, by decide, by decide⟩
 refine x_itemN eh ?_
 walk_at "xs"
 walk_at "xn"
 refine x_J (fun r m => ∃ (wide : Int) (fd' : List PyData), r = .imm (.int wide) ∧ 1 ≤ wide ∧ wide ≤ 6 ∧ FeedD (c + 6) fd' ∧ m = MSt.mk [some (.obj 0), some (.imm (.int mo)), some (.imm (.int (1 + many))), some (.imm (.int way)), some (.imm (.tuple [.int (1 + sp0), .int (1 + rm0)])), some (.imm (.int heavy)), none, none, none, none, none, none, none, none] [fd'] 1) (fun K' J => ?_) ?_
 ·refine x_ifE ?_
  walk_at "xs"
  refine x_ite (fun h3 => ?_) (fun h3 => ?_)
  ·walk_at "xs"
   refine ⟨fd, _, c + 5, rfl, hf, by omega, by decide, by decide, fun z fd hz0 hz1 hf => ?_⟩
   walk_at "xx"
   refine x_ite (fun hz => ?_) (fun hz => ?_)
   ·walk_at "xs"
    exact J _ _ ⟨6, fd, rfl, by decide, by decide, hf, rfl⟩
   ·walk_at "xs"
    refine J _ _ ⟨_, fd, rfl, ?_, ?_, hf, rfl⟩
    ·split <;> omega
    ·split <;> omega
  ·walk_at "xs"
   refine J _ _ ⟨_, fd, rfl, ?_, ?_, hf.mono (by omega), rfl⟩
   ·split <;> omega
   ·split <;> omega
 rintro _ _ ⟨wide, fd, rfl, hwd0, hwd1, hf, rfl⟩
 walk_at "xs"
 refine x_bindN ?_
 walk_at "xx"
 refine ⟨by omega, by omega, ?_⟩
 refine x_loop0 (fun i m => ∃ fd' a b sv, m = MSt.mk [some (.obj 0), some (.imm (.int mo)), some (.imm (.int (1 + many))), some (.imm (.int way)), some (.imm (.tuple [.int (1 + sp0), .int (1 + rm0)])), some (.imm (.int heavy)), some (.imm (.int wide)), some (.obj 1), a, b, none, none, none, none] [fd', sv] 1 ∧ FeedD (c + 6 + 2 * i) fd' ∧ sv.length = i ∧ ∀ d ∈ sv, PairD d) ⟨fd, none, none, [], rfl, hf, rfl, fun _ h => by cases h⟩ ?_ ?_
 ·rintro i d m e n ⟨fd, a, b, sv, rfl, hf, hsl, hsv⟩
  have hi : i < (1 + many).toNat := by
   have := (List.getElem?_eq_some_iff.mp e).1
   rwa [rangeD_length] at this
  walk_at "xs"
  refine ⟨fd, _, c + 6 + 2 * i, rfl, hf, by omega, by decide, by decide, fun sp fd hsp0 hsp1 hf => ?_⟩
  walk_at "xx"
  refine ⟨fd, _, c + 6 + 2 * i + 1, rfl, hf, by omega, by omega, by omega, fun rm fd hrm0 hrm1 hf => ?_⟩
  walk_at "xx"
  refine x_J (fun r m => ∃ d, r = .imm d ∧ PairD d ∧ ∃ kk, m = MSt.mk [some (.obj 0), some (.imm (.int mo)), some (.imm (.int (1 + many))), some (.imm (.int way)), some (.imm (.tuple [.int (1 + sp0), .int (1 + rm0)])), some (.imm (.int heavy)), some (.imm (.int wide)), some (.obj 1), kk, some (.imm (.tuple [.int (1 + sp), .int (1 + rm)])), none, none, none, none] [fd, sv] 1) (fun K' J => ?_) ?_
  ·have e0 : (0 : Int) + (i : Int) = i := by omega
   refine x_ifE ?_
   walk_at "xs"
   refine x_ite (fun h0 => ?_) (fun h0 => ?_)
   ·walk_at "xs"
    exact J _ _ ⟨_, rfl, ⟨(1 + sp0).toNat, (1 + rm0).toNat, by simp; omega, by omega, by omega, by omega, by omega⟩, _, rfl⟩
   ·refine x_ifE ?_
    walk_at "xs"
    refine x_ite (fun h1 => ?_) (fun h1 => ?_)
    ·walk_at "xs"
     exact J _ _ ⟨_, rfl, ⟨(1 + sp0).toNat, (1 + rm).toNat, by simp; omega, by omega, by omega, by omega, by omega⟩, _, rfl⟩
    ·walk_at "xs"
     exact J _ _ ⟨_, rfl, ⟨(1 + sp).toNat, (1 + rm).toNat, by simp; omega, by omega, by omega, by omega, by omega⟩, _, rfl⟩
  rintro _ _ ⟨d, rfl, hd, kk, rfl⟩
  walk_at "xs"
  refine' x_append (ds := sv) ?eb (by rw [sizeLine_eq]; omega) ?_
  case eb => rfl
  walk_at "xn"
  refine ⟨fd, _, _, _, rfl, hf, by simp; omega, fun d' hd' => ?_⟩
  rcases List.mem_append.mp hd' with z | z
  ·exact hsv d' z
  ·simp at z; subst z; exact hd
 rintro m n ⟨fd, a, b, sv, rfl, hf, hsl, hsv⟩
 rw [rangeD_length] at hf hsl
 walk_at "xs"
 refine ⟨fd, _, _, rfl, hf, by omega, by decide, by decide, fun cm fd hcm0 hcm1 hf => ?_⟩
 walk_at "xx"
 refine ⟨fd, _, _, rfl, hf, by omega, by decide, by decide, fun rs fd hrs0 hrs1 hf => ?_⟩
 walk_at "xx"
 obtain ⟨rest, er, hr0, hr1⟩ : ∃ h : Int, atI [PyData.int 0, PyData.int 1, PyData.int 5] rs = some (.int h) ∧ 0 ≤ h ∧ h ≤ 5 := by
  rcases (show rs = 0 ∨ rs = 1 ∨ rs = 2 by omega) with rfl | rfl | rfl
  ·exact ⟨0, rfl, by decide, by decide⟩
  ·exact ⟨1, rfl, by decide, by decide⟩
  ·exact ⟨5, rfl, by decide, by decide⟩
 refine x_itemN er ?_
 walk_at "xs"
 walk_at "xn"
 obtain ⟨ps, rfl, hps⟩ := PairD.all hsv
 rw [List.length_map] at hsl
 have hsum := sum_le hps
 refine x_loopO (fun i m => ∃ a b, m = MSt.mk [a, b] [fd, ps.map prD, ((ps.take i).map fun p => (p.1 : Int)).map .int] 3) ⟨none, none, rfl⟩ ?_ ?_ ?_
 ·rintro i m ⟨a, b, rfl⟩; rfl
 ·rintro i d m e n ⟨a, b, rfl⟩
  rw [List.getElem?_map] at e
  cases q : ps[i]? with
  | none => rw [q] at e; cases e
  | some p =>
   rw [q] at e; cases e
   have hi : i < ps.length := (List.getElem?_eq_some_iff.mp q).1
   dsimp only [prD]
   walk_at "xs"
   ·rfl
   walk_at "xs"
   refine ⟨_, rfl, by rw [sizeLine_eq]; simp; omega, some (.imm (.int (p.1 : Int))), some (.imm (.int (p.2 : Int))), ?_⟩
   have ee : ((ps.take (i + 1)).map fun p => (p.1 : Int)).map PyData.int = ((ps.take i).map fun p => (p.1 : Int)).map PyData.int ++ [.int (p.1 : Int)] := by
    rw [List.take_add_one, q]; simp
   rw [ee]
   rfl
 rintro m n ⟨a', b', rfl⟩
 rw [List.length_map, List.take_length]
 walk_at "xs"
 refine ⟨_, _, rfl, intsOf_ints _, ?_⟩
 walk_at "xs"
 generalize (ps.map fun p => (p.1 : Int)).sum = S at hsum
 have hS : S ≤ 20 := by omega
 have hw0 : 0 ≤ (1 + cm + S) * (heavy : Int) := Int.mul_nonneg (by omega) (by omega)
 have hw1 : (1 + cm + S) * (heavy : Int) ≤ 28 * 97 := Int.mul_le_mul (by omega) (by omega) (by omega) (by decide)
 have hw2 : 1 ≤ (1 + cm + S) * (heavy : Int) := by
  have := Int.mul_le_mul (show (1 : Int) ≤ 1 + cm + S by omega) (show (1 : Int) ≤ (heavy : Int) by omega) (by decide) (by omega)
  omega
 obtain ⟨whole, hwh⟩ := Int.eq_ofNat_of_zero_le (show 0 ≤ (1 + cm + S) * (heavy : Int) + rest by omega)
 rw [hwh]
 have hwh0 : 0 < whole := by omega
 have hwh1 : whole < 1000000 := by omega
 have cutok : ∀ a : Nat, 0 < a → a ≤ 5000 → 1 ≤ a / a.gcd whole ∧ a / a.gcd whole < 1000000 ∧ 1 ≤ whole / a.gcd whole ∧ whole / a.gcd whole < 1000000 := fun a h1 h2 => by
  have g1 : 0 < a.gcd whole := Nat.gcd_pos_of_pos_left _ h1
  have d1 := Nat.div_pos (Nat.le_of_dvd h1 (Nat.gcd_dvd_left a whole)) g1
  have d2 := Nat.div_pos (Nat.le_of_dvd hwh0 (Nat.gcd_dvd_right a whole)) g1
  have d3 := Nat.div_le_self a (a.gcd whole)
  have d4 := Nat.div_le_self whole (a.gcd whole)
  omega
 walk_at "xs"
 walk_at "xn"
 refine x_loopO (fun i m => ∃ a b acc, m = MSt.mk [a, b, some (.imm (.int (heavy : Int))), some (.imm (.int (whole : Int)))] [fd, ps.map prD, acc.map Srv.d] 3 ∧ acc.length = i ∧ ∀ s ∈ acc, s.Ok) ⟨none, none, [], rfl, rfl, fun _ h => by cases h⟩ ?_ ?_ ?_
 ·rintro i m ⟨a, b, acc, rfl, _⟩; rfl
 ·rintro i d m e n ⟨a, b, acc, rfl, hal, hacc⟩
  obtain ⟨p, q, rfl, hi⟩ := gmap e
  obtain ⟨p1, p2, p3, p4⟩ := hps p (List.mem_of_getElem? q)
  have m0 : 0 < p.1 * heavy := Nat.mul_pos (by omega) (by omega)
  have m1 : p.1 * heavy ≤ 5 * 97 := Nat.mul_le_mul (by omega) hh1
  dsimp only [prD]
  walk_at "xs"
  ·rfl
  walk_at "xs"
  refine ⟨p.1 * heavy, whole, by rw [Int.natCast_mul], by omega, hwh0, by omega, ?_⟩
  walk_at "xx"
  obtain ⟨c1, c2, c3, c4⟩ := cutok (p.1 * heavy) m0 (by omega)
  refine ⟨_, rfl, by rw [sizeLine_eq, List.length_map]; omega, _, _, acc ++ [⟨p.1 * heavy / (p.1 * heavy).gcd whole, whole / (p.1 * heavy).gcd whole, p.2⟩], by rw [List.map_append]; rfl, by simp; omega, fun s hs => ?_⟩
  rcases List.mem_append.mp hs with z | z
  ·exact hacc s z
  ·simp at z; subst z
   exact ⟨c1, c2, c3, c4, p3, p4⟩
 rintro m n ⟨a', b', acc, rfl, hal, hacc⟩
 rw [List.length_map] at hal
 walk_at "xs"
 walk_at "xn"
 obtain ⟨cmn, rfl⟩ := Int.eq_ofNat_of_zero_le hcm0
 have m0 : 0 < (1 + cmn) * heavy := Nat.mul_pos (by omega) (by omega)
 have m1 : (1 + cmn) * heavy ≤ 7 * 97 := Nat.mul_le_mul (by omega) hh1
 refine ⟨(1 + cmn) * heavy, whole, by rw [Int.natCast_mul, Int.natCast_add]; rfl, by omega, hwh0, by omega, ?_⟩
 obtain ⟨c1, c2, c3, c4⟩ := cutok ((1 + cmn) * heavy) m0 (by omega)
 walk_at "xx"
 refine ⟨fd, _, _, rfl, hf, by omega, by decide, by decide, fun mvv fd hmv0 hmv1 hf => ?_⟩
 walk_at "xx"
 exact k ⟨_, _, acc, _⟩ fd ⟨c1, c2, c3, c4, by show 1 ≤ acc.length; omega, by show acc.length ≤ 4; omega, hacc⟩ (hf.mono (by omega))
theorem ok_law_all (T : Bl mg) (D : DefM K mg "_law_all" s_law_all ["_law_hall_here"]) : FnM P w K mg base "_law_all" 1 1 spAll := by
 refine mk_fn' D sc_law_all rfl (nN := 6) rfl (by decide) ?ar fun cdv A outer s H E f hr => ⟨_, (mz' (ms_set' (i := 1) sc_law_all.nd rfl (Or.inl rfl) (me_lst' (mc' (me_tup' mn') mn')))
   (mz' (ms_for' (mi_seq' (me_ix' (mv' 0) mh')) (mg_tup' (n := 2) (mgs_cons' (mg_name' (i := 2) sc_law_all.nd rfl (Or.inl rfl)) (mgs_cons' (mg_name' (i := 3) sc_law_all.nd rfl (Or.inl rfl)) mgs_nil'))) (mz' (ms_set' (i := 4) sc_law_all.nd rfl (Or.inl rfl) (me_lst' mn'))
   (mz' (ms_for' (mi_seq' (mv' 1)) (mg_name' (i := 5) sc_law_all.nd rfl (Or.inr rfl)) (mss_one' (ms_expr' (me_ml' PySem.F.slot_list_extend PySem.F.type_list_extend mt_extendM (mv' 4) (mc' (me_comp1' (own := ["_law_many"]) (fr := ["_law_lines"]) (ps := [5]) (sc := (defScope s_law_all)) (by exact ⟨rfl, by decide +kernel, by decide +kernel, by decide +kernel, by decide +kernel⟩) (mi_range1' (by rfl) T.range (mc' (me_bin' op_addM (mv' 3) mh') mn')) (fun _ _ _ _ _ => (mg_name' (i := 0) (show List.Nodup ((["_law_many"] : List Str) ++ (["_law_lines"] : List Str)) from by decide +kernel) rfl (Or.inl rfl))) (fun _ _ _ _ _ => mts_nil') (fun _ _ _ _ _ => (me_bin' op_addM (mv' 1) (me_tup' (mc' (mv' 0) mn'))))) mn')))) PassesOwn.never)
   (mss_one' (ms_set' (i := 1) sc_law_all.nd rfl (Or.inl rfl) (mv' 4))))) PassesOwn.never)
   (mss_one' (ms_ret' (mv' 1))))), ?_⟩
 case ar => rintro as Kc ⟨h, rfl, _⟩; rfl
 rintro as Kc hl ⟨h, rfl, ho, k⟩
 refine x_start (MSt.mk [some (.imm (.tuple [.tuple [.int h.a, .int h.b], .tuple (h.ss.map Srv.d), .bool h.mv])), none, none, none, none, none] [] 0) rfl ?_
 walk_at "xs"
 refine x_bindN ?_
 walk_at "xx"
 refine x_loop0 (fun i m => ∃ a b c, m = MSt.mk [some (.imm (.tuple [.tuple [.int h.a, .int h.b], .tuple (h.ss.map Srv.d), .bool h.mv])), some (.obj 0), a, b, none, c] [(((h.rs.take i).foldl M3.stepL [[]]).map lnD)] 0) ⟨none, none, none, rfl⟩ ?_ ?_
 ·rintro i d m e n ⟨a, b, c, rfl⟩
  obtain ⟨s, es, rfl, hi⟩ := gmap e
  have r1 := (ho.ok s (List.mem_of_getElem? es)).r1
  have r6 := (ho.ok s (List.mem_of_getElem? es)).r6
  have hrl := h.rsl
  generalize hprev : (h.rs.take i).foldl M3.stepL [[]] = prev
  have hpl : ∀ a ∈ prev, a.length ≤ 4 := by
   intro a ha
   rw [← hprev] at ha
   have := M3.allR_len (by rw [← M3.allL_eq]; exact ha)
   rw [this, List.length_take]
   have := ho.n4
   omega
  have hpn : prev.length ≤ 2401 := by
   rw [← hprev]
   exact M3.fold_small (by rw [List.length_take]; have := ho.n4; omega) (fun r hr => ho.r6 r (List.mem_of_mem_take hr))
  have hfold : ((h.rs.take (i + 1)).foldl M3.stepL [[]]) = M3.stepL prev s.r := by
   rw [List.take_add_one, Hall.rs_get es, List.foldl_append, hprev]; rfl
  rw [hfold]
  dsimp only [Srv.d]
  walk_at "xs"
  ·rfl
  walk_at "xs"
  refine x_bindN ?_
  walk_at "xx"
  refine x_loopO (fun i m => ∃ a, m = MSt.mk [some (.imm (.tuple [.tuple [.int h.a, .int h.b], .tuple (h.ss.map Srv.d), .bool h.mv])), some (.obj 0), some (.imm (.tuple [.int s.a, .int s.b])), some (.imm (.int s.r)), some (.obj 1), a] [prev.map lnD, (M3.stepL (prev.take i) s.r).map lnD] 1) ⟨c, rfl⟩ ?_ ?_ ?_
  ·rintro j m ⟨a, rfl⟩; rfl
  ·rintro j d m ej nj ⟨a, rfl⟩
   obtain ⟨l, el, rfl, hj⟩ := gmap ej
   have hl4 := hpl l (List.mem_of_getElem? el)
   walk_at "xs"
   refine ⟨by omega, by omega, ?_⟩
   have en : ((s.r : Int) + 1).toNat = s.r + 1 := by omega
   rw [en]
   walk_at "xn"
   refine x_loop0 (fun z m => ∃ b, m = MSt.mk [b, some (.imm (lnD l))] [prev.map lnD, (M3.stepL (prev.take j) s.r).map lnD, ((List.range z).map fun y => l ++ [y]).map lnD] 3) ⟨none, rfl⟩ ?_ ?_
   ·rintro z dz m ez nz ⟨b, rfl⟩
    obtain ⟨hz, rfl⟩ := get_range ez
    walk_at "xs"
    refine x_addT (by rw [sizeLine_eq, natD_length]; simp; omega) ?_
    walk_at "xs"
    refine ⟨_, rfl, by rw [sizeLine_eq]; simp; omega, some (.imm (.int (0 + (z : Int)))), ?_⟩
    have ee : ((List.range (z + 1)).map fun y => l ++ [y]).map lnD = ((List.range z).map fun y => l ++ [y]).map lnD ++ [.tuple (natD l ++ [.int (0 + (z : Int))])] := by
     rw [List.range_succ]; simp [lnD, natD]
    rw [ee]
    rfl
   ·rintro m n ⟨b, rfl⟩
    rw [rangeD_length]
    walk_at "xs"
    have hz : ((M3.stepL (prev.take j) s.r).map lnD).length + (((List.range (s.r + 1)).map fun y => l ++ [y]).map lnD).length ≤ sizeLine := by
     rw [sizeLine_eq, List.length_map, List.length_map, List.length_map, List.length_range, M3.stepL_length, List.length_take]
     have : min j prev.length * (s.r + 1) ≤ 2401 * 7 := Nat.mul_le_mul (by omega) (by omega)
     omega
    refine' x_extend (ds := (M3.stepL (prev.take j) s.r).map lnD) ?eb hz ?_
    case eb => rfl
    have ee : (M3.stepL (prev.take (j + 1)) s.r).map lnD = (M3.stepL (prev.take j) s.r).map lnD ++ ((List.range (s.r + 1)).map fun y => l ++ [y]).map lnD := by
     rw [M3.stepL_take el, List.map_append]
    rw [ee]
    exact ⟨_, rfl⟩
  ·rintro m n ⟨a, rfl⟩
   rw [List.length_map, List.take_length]
   walk_at "xn"
   refine x_set ?_
   refine x_var rfl ?_
   refine x_bindRen [1] (MSt.mk [some (.imm (.tuple [.tuple [.int h.a, .int h.b], .tuple (h.ss.map Srv.d), .bool h.mv])), some (.obj 0), some (.imm (.tuple [.int s.a, .int s.b])), some (.imm (.int s.r)), none, none] [(M3.stepL prev s.r).map lnD] 0) (ren_of rfl rfl rfl rfl rfl rfl ⟨rfl, ⟨1, rfl, rfl⟩, rfl, rfl, trivial, trivial, trivial⟩) ⟨_, _, _, rfl⟩
 ·rintro m n ⟨a, b, c, rfl⟩
  rw [List.length_map, ← h.rsl, List.take_length, show h.rs.foldl M3.stepL [[]] = M3.allL h.rs from rfl, M3.allL_eq]
  walk_at "xs"
  exact k
theorem ok_law_rule (T : Bl mg) (D : DefM K mg "_law_rule" s_law_rule ["_law_feed_here", "_law_hall_here"]) (G_law_draw : FnM P w K mg base "_law_draw" 1 2 spDraw) (G_law_all : FnM P w K mg base "_law_all" 1 1 spAll) : FnM P w K mg base "_law_rule" 2 2 spRule := by
 refine mk_fn' D sc_law_rule rfl (nN := 3) rfl (by decide) ?ar fun cdv A outer s H E f hr => ⟨_, (mz' (ms_set' (i := 2) sc_law_rule.nd rfl (Or.inl rfl) (me_ix' (me_lst' (mc' me_str' (mc' me_str' (mc' me_str' (mc' me_str' (mc' me_str' (mc' me_str' mn'))))))) (mf' G_law_draw (hr.mono (by decide)) (mc' (mv' 0) (mc' mh' mn')))))
   (mz' (ms_if' (mt_cmp' (op_neM hr.units) (mv' 2) me_str' (nomark _)) (mss_one' (ms_ret' (me_tup' (mc' (mv' 2) mn')))) mss_nil')
   (mss_one' (ms_ret' (me_tup' (mc' me_str' (mc' (me_callTy' call_tupleM (by rfl) T.tuple bt_tuple (mc' (me_comp1' (own := ["_law_lines"]) (fr := ["_law_feed_here", "_law_hall_here"]) (ps := [0, 1]) (sc := (defScope s_law_rule)) (by exact ⟨rfl, by decide +kernel, by decide +kernel, by decide +kernel, by decide +kernel⟩) (mi_seq' (me_imm' (mf' G_law_all (hr.mono (by decide)) (mc' (mv' 1) mn')))) (fun _ _ _ _ _ => (mg_name' (i := 0) (show List.Nodup ((["_law_lines"] : List Str) ++ (["_law_feed_here", "_law_hall_here"] : List Str)) from by decide +kernel) rfl (Or.inl rfl))) (fun _ _ _ _ _ => mts_nil') (fun _ _ _ _ _ => (mf' G_law_draw (hr.mono (by decide)) (mc' (mv' 1) (mc' (me_callB' call_lenM (by rfl) T.len bt_len (mc' (me_ix' (mv' 2) mh') mn')) mn'))))) mn')) mn'))))))), ?_⟩
 case ar => rintro as Kc ⟨fd, c, h, rfl, _⟩; rfl
 rintro as Kc hl ⟨fd, c, h, rfl, ho, hf, hc, k⟩
 have n1 := ho.n1
 have n4 := ho.n4
 refine x_start (MSt.mk [some (.obj 0), some (.imm (.tuple [.tuple [.int h.a, .int h.b], .tuple (h.ss.map Srv.d), .bool h.mv])), none] [fd] 1) rfl ?_
 walk_at "xs"
 refine ⟨fd, _, c, rfl, hf, by omega, by decide, by decide, fun r fd hr0 hr1 hf => ?_⟩
 walk_at "xx"
 have five : ∀ (q : Rule) (x : Str), atI [PyData.str "random", .str "turns", .str "two", .str "least", .str "quick", .str "told"] r = some (.str x) → q.d = .tuple [.str x] → q.Ok h → x ≠ "told" → ∃ d, atI [PyData.str "random", .str "turns", .str "two", .str "least", .str "quick", .str "told"] r = some d ∧ ((∃ x q, d = .str x ∧ x ≠ "told" ∧ Rule.d q = .tuple [.str x] ∧ q.Ok h) ∨ d = .str "told") := fun q x e1 e2 e3 e4 => ⟨_, e1, .inl ⟨x, q, rfl, e4, e2, e3⟩⟩
 obtain ⟨d, ed, hd⟩ : ∃ d, atI [PyData.str "random", .str "turns", .str "two", .str "least", .str "quick", .str "told"] r = some d ∧ ((∃ x q, d = .str x ∧ x ≠ "told" ∧ Rule.d q = .tuple [.str x] ∧ q.Ok h) ∨ d = .str "told") := by
  rcases (show r = 0 ∨ r = 1 ∨ r = 2 ∨ r = 3 ∨ r = 4 ∨ r = 5 by omega) with rfl | rfl | rfl | rfl | rfl | rfl
  ·exact five .random "random" rfl rfl trivial (by decide +kernel)
  ·exact five .turns "turns" rfl rfl trivial (by decide +kernel)
  ·exact five .two "two" rfl rfl trivial (by decide +kernel)
  ·exact five .least "least" rfl rfl trivial (by decide +kernel)
  ·exact five .quick "quick" rfl rfl trivial (by decide +kernel)
  ·exact ⟨_, rfl, .inr rfl⟩
 refine x_itemN ed ?_
 rcases hd with ⟨x, q, rfl, hx, eq, qo⟩ | rfl
 ·walk_at "xs"
  rw [decide_eq_false hx]
  refine x_iteT ?_
  walk_at "xs"
  rw [← eq]
  exact k q fd qo (hf.mono (by omega))
 ·walk_at "xs"
  rw [decide_eq_true rfl]
  refine x_iteF ?_
  walk_at "xs"
  refine ⟨h, rfl, ho, ?_⟩
  walk_at "xx"
  walk_at "xn"
  have hsm : (M3.allR h.rs).length ≤ 2401 := allR_small (by rw [h.rsl]; exact n4) ho.r6
  refine x_loop0 (fun i m => ∃ a fd' ps, m = MSt.mk [a, some (.obj 0), some (.imm (.tuple [.tuple [.int h.a, .int h.b], .tuple (h.ss.map Srv.d), .bool h.mv]))] [fd', natD ps] 2 ∧ FeedD (c + 1 + i) fd' ∧ ps.length = i ∧ ∀ p ∈ ps, p < h.ss.length) ⟨none, fd, [], rfl, hf, rfl, fun _ h => by cases h⟩ ?_ ?_
  ·rintro i d m e n ⟨a, fd', ps, rfl, hf', hpl, hps⟩
   obtain ⟨l, el, rfl, hi⟩ := gmap e
   walk_at "xs"
   refine ⟨fd', _, _, rfl, hf', by omega, by rw [List.length_map]; omega, by rw [List.length_map]; omega, fun p fd2 hp0 hp1 hf2 => ?_⟩
   rw [List.length_map] at hp1
   walk_at "xx"
   obtain ⟨pn, rfl⟩ := Int.eq_ofNat_of_zero_le hp0
   refine ⟨_, rfl, by rw [sizeLine_eq, natD_length]; omega, _, fd2, ps ++ [pn], by rw [natD_app]; rfl, hf2, by simp; omega, fun p hp => ?_⟩
   obtain z | z := List.mem_append.mp hp
   ·exact hps p z
   ·simp at z; subst z; omega
  ·rintro m n ⟨a, fd', ps, rfl, hf', hpl, hps⟩
   rw [List.length_map] at hf' hpl
   walk_at "xs"
   exact k (.told ps) fd' ⟨hpl, hps⟩ (hf'.mono (by omega))
theorem ok_law_move (T : Bl mg) (D : DefM K mg "_law_move" s_law_move ["_law_feed_here", "_law_hall_here", "_law_way"]) (G_law_draw : FnM P w K mg base "_law_draw" 1 2 spDraw) (G_law_shuffled : FnM P w K mg base "_law_shuffled" 2 2 spShuf) : FnM P w K mg base "_law_move" 3 3 spMove := by
 refine mk_fn' D sc_law_move rfl (nN := 6) rfl (by decide) ?ar fun cdv A outer s H E f hr => ⟨_, (mz' (ms_set' (i := 3) sc_law_move.nd rfl (Or.inl rfl) (me_callB' call_lenM (by rfl) T.len bt_len (mc' (me_ix' (mv' 1) mh') mn')))
   (mz' (ms_set' (i := 4) sc_law_move.nd rfl (Or.inl rfl) (me_ix' (me_lst' (mc' (me_imm' (me_lst' (mc' me_str' (mc' me_str' (mc' me_str' (mc' me_str' mn')))))) (mc' (me_imm' (me_lst' (mc' me_str' (mc' me_str' (mc' me_str' (mc' me_str' mn')))))) (mc' (me_imm' (me_lst' (mc' me_str' (mc' me_str' mn')))) mn')))) (me_bin' op_modM (mv' 2) mh')))
   (mz' (ms_set' (i := 5) sc_law_move.nd rfl (Or.inl rfl) (me_ix' (mv' 4) (mf' G_law_draw (hr.mono (by decide)) (mc' (mv' 0) (mc' (me_callB' call_lenM (by rfl) T.len bt_len (mc' (mv' 4) mn')) mn')))))
   (mz' (ms_if' (mt_cmp' (op_eqM hr.units) (mv' 5) me_str' (nomark _)) (mss_one' (ms_ret' (me_tup' (mc' me_str' (mc' (me_callTy' call_tupleM (by rfl) T.tuple bt_tuple (mc' (mf' G_law_shuffled (hr.mono (by decide)) (mc' (mv' 0) (mc' (me_imm' (me_listR' T.list T.range (mc' (mv' 3) mn'))) mn'))) mn')) mn'))))) mss_nil')
   (mss_one' (ms_ret' (me_if' (mt_cmp' (op_eqM hr.units) (mv' 5) me_str' (nomark _)) (me_tup' (mc' me_str' (mc' (mf' G_law_draw (hr.mono (by decide)) (mc' (mv' 0) (mc' (mv' 3) mn'))) mn'))) (me_tup' (mc' me_str' mn'))))))))), ?_⟩
 case ar => rintro as Kc ⟨fd, c, h, way, rfl, _⟩; rfl
 rintro as Kc hl ⟨fd, c, h, way, rfl, ho, hf, hc, hw, k⟩
 have n1 := ho.n1
 have n4 := ho.n4
 refine x_start (MSt.mk [some (.obj 0), some (.imm (.tuple [.tuple [.int h.a, .int h.b], .tuple (h.ss.map Srv.d), .bool h.mv])), some (.imm (.int (way : Int))), none, none, none] [fd] 1) rfl ?_
 walk_at "xs"
 obtain ⟨kd, ek, hk1, hk4, hkd⟩ : ∃ kd : List PyData, atI [PyData.list [.str "come", .str "come", .str "come", .str "done"], .list [.str "done", .str "done", .str "come", .str "still"], .list [.str "come", .str "done"]] ((way : Int) % 3) = some (.list kd) ∧ 1 ≤ kd.length ∧ kd.length ≤ 4 ∧ ∀ d ∈ kd, d = .str "come" ∨ d = .str "done" ∨ d = .str "still" := by
  rcases (show (way : Int) % 3 = 0 ∨ (way : Int) % 3 = 1 ∨ (way : Int) % 3 = 2 by omega) with z | z | z <;> rw [z]
  ·exact ⟨_, rfl, by decide, by decide, by simp⟩
  ·exact ⟨_, rfl, by decide, by decide, by simp⟩
  ·exact ⟨_, rfl, by decide, by decide, by simp⟩
 refine x_itemN ek ?_
 refine x_bindI ?_
 walk_at "xx"
 refine ⟨fd, _, c, rfl, hf, by omega, by omega, by omega, fun w fd hw0 hw1 hf => ?_⟩
 walk_at "xn"
 obtain ⟨d, ed, ed2⟩ := atI_lt (xs := kd) hw0 hw1
 refine x_itemL ed2 ?_
 walk_at "xs"
 walk_at "xn"
 rcases hkd d (List.mem_of_getElem? ed) with rfl | rfl | rfl
 ·walk_at "xs"
  refine x_ite (fun _ => ?_) (fun z => (z rfl).elim)
  walk_at "xs"
  refine ⟨⟨by rw [List.length_map]; omega, by rw [List.length_map]; omega⟩, ?_⟩
  walk_at "xx"
  refine ⟨fd, _, _, rfl, hf, by omega, by rw [rangeD_length, List.length_map]; omega, fun r fd' hf' hrl' hrm => ?_⟩
  rw [rangeD_length, List.length_map, Int.toNat_natCast] at hf' hrl'
  rw [List.length_map, Int.toNat_natCast] at hrm
  obtain ⟨ks, rfl, hks⟩ := nats_of hrm
  rw [natD_length] at hrl'
  have hO : Ord h.ss.length ks := ⟨fun z => by rw [z] at hrl'; simp at hrl'; omega, hks, by omega⟩
  walk_at "xx"
  exact k (.come ks) _ ⟨hO, fun o z => by cases z; exact hrl'⟩ (hf'.mono (by omega))
 ·walk_at "xs"
  refine x_ite (fun z => absurd z (by decide +kernel)) (fun _ => ?_)
  walk_at "xs"
  refine x_ifE ?_
  walk_at "xs"
  refine x_ite (fun _ => ?_) (fun z => (z rfl).elim)
  walk_at "xs"
  refine ⟨fd, _, _, rfl, hf, by omega, by rw [List.length_map]; omega, by rw [List.length_map]; omega, fun z fd hz0 hz1 hf => ?_⟩
  rw [List.length_map] at hz1
  walk_at "xx"
  have := k (.done z.toNat) fd ⟨by show z.toNat < h.ss.length; omega, fun o z => by cases z⟩ (hf.mono (by omega))
  rw [show (Mv.done z.toNat).d = .tuple [.str "done", .int z] from by show PyData.tuple [.str "done", .int (z.toNat : Int)] = _; rw [Int.toNat_of_nonneg hz0]] at this
  exact this
 ·walk_at "xs"
  refine x_ite (fun z => absurd z (by decide +kernel)) (fun _ => ?_)
  walk_at "xs"
  refine x_ifE ?_
  walk_at "xs"
  refine x_ite (fun z => absurd z (by decide +kernel)) (fun _ => ?_)
  walk_at "xs"
  exact k .still fd ⟨trivial, fun o z => by cases z⟩ (hf.mono (by omega))
theorem ok_law_run (T : Bl mg) (D : DefM K mg "_law_run" s_law_run ["_law_feed_here", "_law_hall_here", "_law_many"]) (G_law_draw : FnM P w K mg base "_law_draw" 1 2 spDraw) (G_law_move : FnM P w K mg base "_law_move" 3 3 spMove) : FnM P w K mg base "_law_run" 4 3 spRun := by
 refine mk_fn' D sc_law_run rfl (nN := 4) rfl (by decide) ?ar fun cdv A outer s H E f hr => ⟨_, (mz' (ms_set' (i := 3) sc_law_run.nd rfl (Or.inr rfl) (mf' G_law_draw (hr.mono (by decide)) (mc' (mv' 0) (mc' mh' mn'))))
   (mss_one' (ms_ret' (me_callTy' call_tupleM (by rfl) T.tuple bt_tuple (mc' (me_comp1' (own := ["_law_k"]) (fr := ["_law_feed_here", "_law_hall_here", "_law_way"]) (ps := [0, 1, 3]) (sc := (defScope s_law_run)) (by exact ⟨rfl, by decide +kernel, by decide +kernel, by decide +kernel, by decide +kernel⟩) (mi_range1' (by rfl) T.range (mc' (mv' 2) mn')) (fun _ _ _ _ _ => (mg_name' (i := 0) (show List.Nodup ((["_law_k"] : List Str) ++ (["_law_feed_here", "_law_hall_here", "_law_way"] : List Str)) from by decide +kernel) rfl (Or.inl rfl))) (fun _ _ _ _ _ => mts_nil') (fun _ _ _ _ _ => (mf' G_law_move (hr.mono (by decide)) (mc' (mv' 1) (mc' (mv' 2) (mc' (me_bin' op_addM (mv' 3) (me_bin' op_mulSM (me_bin' op_fdivM (mv' 0) mh') (mf' G_law_draw (hr.mono (by decide)) (mc' (mv' 1) (mc' mh' mn'))))) mn')))))) mn'))))), ?_⟩
 case ar => rintro as Kc ⟨fd, c, h, many, rfl, _⟩; rfl
 rintro as Kc hl ⟨fd, c, h, many, rfl, ho, hf, hc, hm, k⟩
 refine x_start (MSt.mk [some (.obj 0), some (.imm h.d), some (.imm (.int (many : Int))), none] [fd] 1) rfl ?_
 walk_at "xs"
 refine ⟨fd, _, c, rfl, hf, by omega, by decide, by decide, fun way fd hw0 hw1 hf => ?_⟩
 walk_at "xx"
 walk_at "xn"
 refine ⟨by omega, by omega, ?_⟩
 refine x_loop0 (fun i m => ∃ (a : Option L2.R) (fd' : List PyData) (Q : List Mv), m = MSt.mk [a, some (.obj 0), some (.imm h.d), some (.imm (.int way))] [fd', Q.map Mv.d] 2 ∧ FeedD (c + 1 + 6 * i) fd' ∧ Q.length = i ∧ ∀ mv ∈ Q, mv.Ok2 h) ⟨none, fd, [], rfl, hf, rfl, fun _ h => by cases h⟩ ?_ ?_
 ·rintro i d m e n ⟨a, fd, Q, rfl, hf, hQ, hQ2⟩
  obtain ⟨hi, rfl⟩ := get_range e
  walk_at "xs"
  refine ⟨fd, _, _, rfl, hf, by omega, by decide, by decide, fun z fd hz0 hz1 hf => ?_⟩
  walk_at "xx"
  obtain ⟨wn, ew, hwn⟩ : ∃ wn : Nat, way + (0 + (i : Int)) / 20 * z = (wn : Int) ∧ wn < 1000 := by
   have h20 : 0 ≤ (0 + (i : Int)) / 20 ∧ (0 + (i : Int)) / 20 ≤ 3 := by omega
   rcases (show z = 0 ∨ z = 1 by omega) with rfl | rfl
   ·exact ⟨way.toNat, by rw [Int.mul_zero]; omega, by omega⟩
   ·exact ⟨(way + (0 + (i : Int)) / 20).toNat, by rw [Int.mul_one]; omega, by omega⟩
  rw [ew]
  refine ⟨fd, _, h, wn, rfl, ho, hf, by omega, hwn, fun mv fd hmv hf => ?_⟩
  walk_at "xx"
  refine ⟨_, rfl, by rw [sizeLine_eq, List.length_map]; omega, some (.imm (.int (0 + (i : Int)))), fd, Q ++ [mv], ?_, hf.mono (by omega), by rw [List.length_append, hQ]; rfl, fun x hx => ?_⟩
  ·rw [List.map_append]; rfl
  ·rcases List.mem_append.mp hx with z | z
   ·exact hQ2 x z
   ·rw [List.mem_singleton.mp z]; exact hmv
 rintro m n ⟨a, fd, Q, rfl, hf, hQ, hQ2⟩
 rw [rangeD_length, Int.toNat_natCast] at hQ hf
 walk_at "xx"
 exact k Q _ hQ hQ2 (hf.mono (by omega))
theorem ok_law_bent0 (D : DefM K mg "_law_bent" s_law_bent ["_law_feed_here", "_law_thing"]) : FnM P w K mg base "_law_bent" 2 2 (spB 0) := by
 refine mk_fn' D sc_law_bent rfl (nN := 5) rfl (by decide) ?ar fun cdv A outer s H E f hr => ⟨_, (mz' ms_never' (mz' ms_never' (mz' ms_never' (mz' ms_never' (mz' ms_never' (mz' ms_never' (mss_one' ms_never'))))))), ?_⟩
 case ar => rintro as Kc z; exact z.elim
 rintro as Kc hl z; exact z.elim
theorem ok_law_bentS (T : Bl mg) (D : DefM K mg "_law_bent" s_law_bent ["_law_feed_here", "_law_thing"]) (G_law_draw : FnM P w K mg base "_law_draw" 1 2 spDraw) {n k : Nat} (G_law_bent : FnM P w K mg base "_law_bent" (k + 2) 2 (spB n)) : FnM P w K mg base "_law_bent" (k + 2 + 1) 2 (spB (n + 1)) := by
 refine mk_fn' D sc_law_bent rfl (nN := 5) rfl (by decide) ?ar fun cdv A outer s H E f hr => ⟨_, (mz' (ms_if' (EW.pt (mw_and' (mt_val' (me_isT' (mv' 1) isT_tuple T.isinstance T.tuple bt_tuple)) (mw_and' (mt_cmp' (op_neM hr.units) (mv' 1) (me_tup' mn') (nomark _)) (mw_and1' (mt_cmp' op_gtM (mf' G_law_draw (hr.mono (by omega)) (mc' (mv' 0) (mc' mh' mn'))) mh' (nomark _)))))) (mz' (ms_set' (i := 2) sc_law_bent.nd rfl (Or.inl rfl) (mf' G_law_draw (hr.mono (by omega)) (mc' (mv' 0) (mc' (me_callB' call_lenM (by rfl) T.len bt_len (mc' (mv' 1) mn')) mn'))))
   (mss_one' (ms_ret' (me_bin' op_addXM (me_bin' op_addXM (me_slice' sl_cutXM (mv' 1) mo_none' (mo_some' (mv' 2))) (me_tup' (mc' (mf' G_law_bent (hr.mono (by omega)) (mc' (mv' 0) (mc' (me_ix' (mv' 1) (mv' 2)) mn'))) mn'))) (me_slice' sl_cutXM (mv' 1) (mo_some' (me_bin' op_addXM (mv' 2) mh')) mo_none'))))) mss_nil')
   (mz' (ms_set' (i := 3) sc_law_bent.nd rfl (Or.inl rfl) (mf' G_law_draw (hr.mono (by omega)) (mc' (mv' 0) (mc' mh' mn'))))
   (mz' (ms_if' (EW.pt (mw_and' (mt_val' (me_isT' (mv' 1) isT_tuple T.isinstance T.tuple bt_tuple)) (mw_and1' (mt_cmp' op_gtM (mv' 3) mh' (nomark _))))) (mz' (ms_set' (i := 2) sc_law_bent.nd rfl (Or.inl rfl) (mf' G_law_draw (hr.mono (by omega)) (mc' (mv' 0) (mc' (me_bin' op_addXM (me_callB' call_lenM (by rfl) T.len bt_len (mc' (mv' 1) mn')) mh') mn'))))
   (mss_one' (ms_ret' (me_ix' (me_lst' (mc' (me_imm' (me_callTy' call_listM (by rfl) T.list bt_list (mc' (mv' 1) mn'))) (mc' (me_imm' (me_bin' op_addXM (me_slice' sl_cutXM (mv' 1) mo_none' (mo_some' (mv' 2))) (me_slice' sl_cutXM (mv' 1) (mo_some' (me_bin' op_addXM (mv' 2) mh')) mo_none'))) (mc' (me_imm' (me_bin' op_addXM (me_slice' sl_cutXM (mv' 1) mo_none' (mo_some' (me_bin' op_addXM (mv' 2) mh'))) (me_slice' sl_cutXM (mv' 1) (mo_some' (mv' 2)) mo_none'))) (mc' (me_imm' (me_rev' (mv' 1) (me_un' un_negM mh'))) mn'))))) (me_bin' op_subXM (mv' 3) mh'))))) mss_nil')
   (mz' (ms_if' (EW.pt (mw_and' (mt_val' (me_isT' (mv' 1) isT_int T.isinstance T.int bt_int)) (mw_and1' (mt_cmp' op_gtM (mv' 3) mh' (nomark _))))) (mss_one' (ms_ret' (me_ix' (me_lst' (mc' (me_bin' op_subXM (me_un' un_negM mh') (mv' 1)) (mc' (me_bin' op_addXM (mv' 1) mh') (mc' (me_bin' op_subXM (mv' 1) mh') (mc' (me_cmp' (op_eqM hr.units) (mv' 1) mh' (nomark _)) mn'))))) (me_bin' op_subXM (mv' 3) mh')))) mss_nil')
   (mz' (ms_if' (EW.pt (mw_and' (mt_val' (me_isT' (mv' 1) isT_str T.isinstance T.str bt_str)) (mw_and' (mt_cmp' (op_neM hr.units) (mv' 1) me_str' (nomark _)) (mw_and1' (mt_cmp' op_gtM (mv' 3) mh' (nomark _)))))) (mz' (ms_set' (i := 2) sc_law_bent.nd rfl (Or.inl rfl) (mf' G_law_draw (hr.mono (by omega)) (mc' (mv' 0) (mc' (me_callB' call_lenM (by rfl) T.len bt_len (mc' (mv' 1) mn')) mn'))))
   (mss_one' (ms_ret' (me_bin' op_addXM (me_bin' op_addXM (me_slice' sl_cutXM (mv' 1) mo_none' (mo_some' (mv' 2))) (me_ix' me_str' (mf' G_law_draw (hr.mono (by omega)) (mc' (mv' 0) (mc' mh' mn'))))) (me_slice' sl_cutXM (mv' 1) (mo_some' (me_bin' op_addXM (mv' 2) mh')) mo_none'))))) mss_nil')
   (mz' (ms_set' (i := 4) sc_law_bent.nd rfl (Or.inl rfl) (me_lst' (mc' me_non' (mc' me_bl' (mc' me_bl' (mc' mh' (mc' mh' (mc' mh' (mc' mh' (mc' mh' (mc' (me_un' un_negM mh') (mc' me_str' (mc' me_str' (mc' me_str' (mc' me_str' (mc' me_str' (mc' me_str' (mc' (me_tup' mn') (mc' (me_imm' (me_lst' mn')) (mc' (me_tup' (mc' mh' (mc' mh' mn'))) (mc' (me_tup' (mc' mh' (mc' mh' mn'))) mn')))))))))))))))))))))
   (mss_one' (ms_ret' (me_ix' (mv' 4) (mf' G_law_draw (hr.mono (by omega)) (mc' (mv' 0) (mc' mh' mn')))))))))))), ?_⟩
 case ar => rintro as Kc ⟨fd, c, b, d, rfl, _⟩; rfl
 rintro as Kc hl ⟨fd, c, b, d, rfl, hf, hc, hd, hb7, hb, hdp, hd5, hms, k⟩
 have hnd := gd_nd hd
 have hsh : SeqAt.shaped d = true := (hd.shp.mono (show d.depth ≤ 64 by omega)).ok (Nat.le_refl _)
 refine x_start (MSt.mk [some (.obj 0), some (.imm d), none, none, none] [fd] 1) rfl ?_
 refine x_seq ?_
 refine x_JS (fun m => ∃ fd', FeedD (c + 1) fd' ∧ m = MSt.mk [some (.obj 0), some (.imm d), none, none, none] [fd'] 1) (fun N J => ?_) ?_
 ·walk_at "xs"
  rw [ty_tup]
  cases e : isTup d with
  | false =>
   refine x_iteF ?_
   walk_at "xs"
   exact J _ ⟨fd, hf.mono (by omega), rfl⟩
  | true =>
   refine x_iteT ?_
   cases d with
   | tuple ds =>
    walk_at "xs"
    refine x_ne rfl rfl hsh (by decide +kernel) ?_
    walk_at "xs"
    cases ds with
    | nil =>
     rw [show PyData.eqv (.tuple []) (.tuple []) = true by decide +kernel]
     refine x_iteF ?_
     walk_at "xs"
     exact J _ ⟨fd, hf.mono (by omega), rfl⟩
    | cons d0 ds =>
     rw [show PyData.eqv (.tuple (d0 :: ds)) (.tuple []) = false by simp [PyData.eqv, PyData.eqvAll]]
     refine x_iteT ?_
     walk_at "xs"
     refine ⟨fd, _, c, rfl, hf, by omega, by decide, by decide, fun r fd hr0 hr1 hf => ?_⟩
     walk_at "xx"
     refine x_ite (fun _ => ?_) (fun _ => ?_)
     ·walk_at "xs"
      have hml := msA_len (d0 :: ds)
      rw [ms_tup] at hms
      refine ⟨fd, _, _, rfl, hf, by omega, by simp, by simp at hml ⊢; omega, fun at' fd ha0 ha1 hf => ?_⟩
      obtain ⟨an, rfl⟩ := Int.eq_ofNat_of_zero_le ha0
      have han : an < (d0 :: ds).length := by omega
      obtain ⟨x, ex⟩ : ∃ x, (d0 :: ds)[an]? = some x := ⟨_, List.getElem?_eq_getElem han⟩
      generalize d0 :: ds = es at *
      have gx := gd_tup.mp hd x (List.mem_of_getElem? ex)
      have dxx := depthAll_le.mp (Nat.le_refl (PyData.depthAll es)) x (List.mem_of_getElem? ex)
      rw [dp_tup] at hdp hd5
      obtain ⟨n, rfl⟩ : ∃ m, n = m + 1 := ⟨n - 1, by omega⟩
      have hmx := msA_at ex
      walk_at "xx"
      refine x_cutX ?_
      walk_at "xs"
      refine x_itemT (atI_nat ex) ?_
      walk_at "xs"
      refine ⟨fd, _, b, x, rfl, hf, by omega, gx, hb7, hb, by omega, by omega, by omega, fun d' fd' B hf' => ?_⟩
      walk_at "xx"
      rw [cutD_to]
      refine x_addX (x_addT (by rw [sizeLine_eq, List.length_take]; simp; omega) ?_)
      walk_at "xs"
      refine x_addX ?_
      walk_at "xs"
      refine x_cutX ?_
      walk_at "xs"
      rw [show (an : Int) + 1 = ((an + 1 : Nat) : Int) from rfl, cutD_from]
      refine x_addX (x_addT (by rw [sizeLine_eq, List.length_append, List.length_take, List.length_drop]; simp; omega) ?_)
      walk_at "xs"
      exact k _ fd' (BentW.within hd ex B) (hf'.mono (by omega))
     ·walk_at "xs"
      exact J _ ⟨fd, hf, rfl⟩
   | _ => cases e
 rintro _ ⟨fd, hf, rfl⟩
 walk_at "xs"
 refine ⟨fd, _, _, rfl, hf, by omega, by decide, by decide, fun way fd hw0 hw1 hf => ?_⟩
 refine x_bindI ?_
 walk_at "xn"
 refine x_seq ?_
 refine x_JS (fun m => (way = 0 ∨ isTup d = false) ∧ m = MSt.mk [some (.obj 0), some (.imm d), none, some (.imm (.int way)), none] [fd] 1) (fun N J => ?_) ?_
 ·walk_at "xs"
  rw [ty_tup]
  cases e : isTup d with
  | false =>
   refine x_iteF ?_
   walk_at "xs"
   exact J _ ⟨.inr e, rfl⟩
  | true =>
   refine x_iteT ?_
   cases d with
   | tuple ds =>
    have hml := msA_len ds
    rw [ms_tup] at hms
    walk_at "xs"
    refine x_ite (fun hw => ?_) (fun hw => ?_)
    ·walk_at "xs"
     refine x_addX ?_
     walk_at "xs"
     refine ⟨fd, _, _, rfl, hf, by omega, by omega, by omega, fun at' fd ha0 ha1 hf => ?_⟩
     obtain ⟨an, rfl⟩ := Int.eq_ofNat_of_zero_le ha0
     refine x_bindI ?_
     walk_at "xx"
     refine x_cutX ?_
     walk_at "xs"
     refine x_addX ?_
     walk_at "xs"
     refine x_cutX ?_
     walk_at "xs"
     rw [cutD_to, show (an : Int) + 1 = ((an + 1 : Nat) : Int) from rfl, cutD_from]
     refine x_addX (x_addT (by rw [sizeLine_eq, List.length_take, List.length_drop]; omega) ?_)
     walk_at "xs"
     refine x_addX ?_
     walk_at "xs"
     refine x_cutX ?_
     walk_at "xs"
     refine x_cutX ?_
     walk_at "xs"
     rw [show (an : Int) + 1 = ((an + 1 : Nat) : Int) from rfl, cutD_to, cutD_from]
     refine x_addX (x_addT (by rw [sizeLine_eq, List.length_take, List.length_drop]; omega) ?_)
     walk_at "xs"
     refine x_revT ?_
     walk_at "xs"
     refine ⟨ds, rfl, rfl, ?_⟩
     walk_at "xs"
     refine x_subB rfl rfl ?_
     have q1 := (BentW.parts hd (es := ds) (fun _ h => h) (by omega) (by omega)).2
     have q2 := (BentW.parts hd (es := ds.take an ++ ds.drop (an + 1)) (fun x hx => by
      obtain hx | hx := List.mem_append.mp hx
      ·exact List.mem_of_mem_take hx
      ·exact List.mem_of_mem_drop hx) (msA_less _ _) (len_less _ _)).1
     have q3 := (BentW.parts hd (es := ds.take (an + 1) ++ ds.drop an) (fun x hx => by
      obtain hx | hx := List.mem_append.mp hx
      ·exact List.mem_of_mem_take hx
      ·exact List.mem_of_mem_drop hx) (msA_dup _ _) (len_dup _ _)).1
     have q4 := (BentW.parts hd (es := ds.reverse) (fun x hx => List.mem_reverse.mp hx) (by rw [msA_rev]; omega) (by rw [List.length_reverse]; omega)).1
     have hf' := hf.mono (show _ ≤ c + 10 * (n + 1) by omega)
     rcases (show way = 1 ∨ way = 2 ∨ way = 3 ∨ way = 4 by omega) with rfl | rfl | rfl | rfl
     ·refine x_itemN rfl ?_
      walk_at "xs"
      exact k _ fd q1 hf'
     ·refine x_itemN rfl ?_
      walk_at "xs"
      exact k _ fd q2 hf'
     ·refine x_itemN rfl ?_
      walk_at "xs"
      exact k _ fd q3 hf'
     ·refine x_itemN rfl ?_
      walk_at "xs"
      exact k _ fd q4 hf'
    ·walk_at "xs"
     exact J _ ⟨.inl (by omega), rfl⟩
   | _ => cases e
 rintro _ ⟨hw, rfl⟩
 walk_at "xn"
 refine x_seq ?_
 refine x_JS (fun m => m = MSt.mk [some (.obj 0), some (.imm d), none, some (.imm (.int way)), none] [fd] 1) (fun N J => ?_) ?_
 ·walk_at "xs"
  rw [ty_int]
  cases e : isInt d with
  | false =>
   refine x_iteF ?_
   walk_at "xs"
   exact J _ rfl
  | true =>
   refine x_iteT ?_
   walk_at "xs"
   refine x_ite (fun hw => ?_) (fun hw => ?_)
   ·obtain ⟨i, ei, hi, hev⟩ : ∃ i, numD d = some i ∧ i.natAbs ≤ b ∧ ∃ t, PyData.eqv d (.int 1) = t := by
     cases d with
     | int i => exact ⟨i, rfl, by simpa only [Gd] using hd, _, rfl⟩
     | bool t => exact ⟨_, rfl, by cases t <;> simp <;> omega, _, rfl⟩
     | _ => cases e
    have hf' := hf.mono (show _ ≤ c + 10 * (n + 1) by omega)
    walk_at "xs"
    refine x_subB rfl ei ?_
    walk_at "xs"
    refine x_addB ei rfl ?_
    walk_at "xs"
    refine x_subB ei rfl ?_
    walk_at "xs"
    refine x_eq rfl rfl hsh (by decide +kernel) ?_
    walk_at "xs"
    refine x_subB rfl rfl ?_
    rcases (show way = 1 ∨ way = 2 ∨ way = 3 ∨ way = 4 by omega) with rfl | rfl | rfl | rfl
    ·refine x_itemN rfl ?_
     walk_at "xs"
     exact k _ fd (BentW.num (by omega)) hf'
    ·refine x_itemN rfl ?_
     walk_at "xs"
     exact k _ fd (BentW.num (by omega)) hf'
    ·refine x_itemN rfl ?_
     walk_at "xs"
     exact k _ fd (BentW.num (by omega)) hf'
    ·refine x_itemN rfl ?_
     walk_at "xs"
     exact k _ fd (BentW.truth _) hf'
   ·walk_at "xs"
    exact J _ rfl
 rintro _ rfl
 walk_at "xn"
 refine x_seq ?_
 refine x_JS (fun m => ∃ fd', FeedD (c + 5) fd' ∧ m = MSt.mk [some (.obj 0), some (.imm d), none, some (.imm (.int way)), none] [fd'] 1) (fun N J => ?_) ?_
 ·walk_at "xs"
  rw [ty_str]
  cases e : isStr d with
  | false =>
   refine x_iteF ?_
   walk_at "xs"
   exact J _ ⟨fd, hf.mono (by omega), rfl⟩
  | true =>
   refine x_iteT ?_
   cases d with
   | str x =>
    have hx : x.length ≤ b := by simp only [Gd] at hd; exact hd.1
    walk_at "xs"
    cases ex : decide (x = Str.ofString "") with
    | true =>
     rw [if_neg (show ¬ (!true) = true by decide)]
     walk_at "xs"
     exact J _ ⟨fd, hf.mono (by omega), rfl⟩
    | false =>
     have hxl : 0 < x.length := by
      rcases Nat.eq_zero_or_pos x.length with z | z
      ·have : x = Str.ofString "" := str_ext (by
        have : x.cps.size = 0 := z
        rw [show (Str.ofString "").cps.toList = [] by decide +kernel]
        exact List.eq_nil_of_length_eq_zero (by simpa using this))
       exact absurd this (of_decide_eq_false ex)
      ·exact z
     rw [if_pos (show (!false) = true by decide)]
     walk_at "xs"
     refine x_ite (fun hw => ?_) (fun hw => ?_)
     ·walk_at "xs"
      refine ⟨by rw [sizeLine_eq]; omega, ?_⟩
      walk_at "xs"
      refine ⟨fd, _, _, rfl, hf, by omega, by omega, by omega, fun at' fd ha0 ha1 hf => ?_⟩
      refine x_bindI ?_
      walk_at "xx"
      refine x_cutS (by omega) ?_
      walk_at "xs"
      refine ⟨fd, _, _, rfl, hf, by omega, by decide, by decide, fun q fd hq0 hq1 hf => ?_⟩
      walk_at "xn"
      obtain ⟨cc, ec, ec2⟩ := atI_lt (xs := (Str.ofString "abcdefghijklmnopqrstuvwxyz").cps.toList) hq0 (by rw [show (Str.ofString "abcdefghijklmnopqrstuvwxyz").cps.toList.length = 26 by decide +kernel]; exact hq1)
      have hcc : cc < 128 := by
       have : ∀ y ∈ (Str.ofString "abcdefghijklmnopqrstuvwxyz").cps.toList, y < 128 := by decide +kernel
       exact this cc (List.mem_of_getElem? ec)
      refine ⟨cc, by decide +kernel, ec2, ?_⟩
      have e1 := Txt.slice_le x none (some at')
      have e2 := Txt.slice_le x (some (at' + 1)) none
      have e3 : (Txt.slice x none (some at') ++ (⟨#[cc]⟩ : Str)).length = (Txt.slice x none (some at')).length + 1 := by
       show ((Txt.slice x none (some at')).cps ++ #[cc]).size = (Txt.slice x none (some at')).cps.size + 1
       simp
      refine x_addX (x_addS (by rw [sizeLine_eq, show (⟨#[cc]⟩ : Str).length = 1 from rfl]; omega) ?_)
      walk_at "xs"
      refine x_addX ?_
      walk_at "xs"
      refine x_cutS (by omega) ?_
      walk_at "xs"
      refine x_addX (x_addS (by rw [sizeLine_eq, e3]; omega) ?_)
      walk_at "xs"
      exact k _ fd (BentW.text hd hcc) (hf.mono (by omega))
     ·walk_at "xs"
      exact J _ ⟨fd, hf.mono (by omega), rfl⟩
   | _ => cases e
 rintro _ ⟨fd, hf, rfl⟩
 walk_at "xx"
 refine x_bindN ?_
 walk_at "xx"
 refine ⟨fd, _, _, rfl, hf, by omega, by decide, by decide, fun q fd hq0 hq1 hf => ?_⟩
 walk_at "xn"
 obtain ⟨y, ey, ey2⟩ := atI_lt (xs := bentSome) hq0 (by rw [show bentSome.length = 19 from rfl]; exact hq1)
 refine' x_itemO (ds := bentSome) ?ea ey2 ?_
 case ea => rfl
 walk_at "xs"
 exact k _ fd (bentW_some hb7 d y (List.mem_of_getElem? ey)) (hf.mono (by omega))
theorem ok_law_bent (T : Bl mg) (D : DefM K mg "_law_bent" s_law_bent ["_law_feed_here", "_law_thing"]) (G_law_draw : FnM P w K mg base "_law_draw" 1 2 spDraw) : FnM P w K mg base "_law_bent" 7 2 spB5 := (ok_law_bentS T D G_law_draw (ok_law_bentS T D G_law_draw (ok_law_bentS T D G_law_draw (ok_law_bentS T D G_law_draw (ok_law_bentS T D G_law_draw (ok_law_bent0 D))))))
theorem ok_law_is_whole (T : Bl mg) (D : DefM K mg "_law_is_whole" s_law_is_whole ["_law_thing"]) : FnM P w K mg base "_law_is_whole" 1 1 spIsWh := by
 refine mk_fn' D sc_law_is_whole rfl (nN := 1) rfl (by decide) ?ar fun cdv A outer s H E f hr => ⟨_, (mss_one' (ms_ret' (me_and' (me_isT' (mv' 0) isT_int T.isinstance T.int bt_int) (me_one' (me_not' (me_isT' (mv' 0) isT_bool T.isinstance T.bool bt_bool)))))), ?_⟩
 case ar => rintro as Kc ⟨z, d, rfl, _⟩; rfl
 rintro as Kc hl ⟨z, d, rfl, hd, k⟩
 have hnd := gd_nd hd
 refine x_start (MSt.mk [some (.imm d)] [] 0) rfl ?_
 walk_at "xs"
 cases d with
 | int i => rw [if_pos (show fInt (tyR (L2.R.imm (PyData.int i))) = true from rfl)]; walk_at "xs"; exact k
 | bool i => rw [if_pos (show fInt (tyR (L2.R.imm (PyData.bool i))) = true from rfl)]; walk_at "xs"; exact k
 | none => rw [if_neg (show ¬ fInt (tyR (L2.R.imm PyData.none)) = true by decide +kernel)]; exact k
 | str x => rw [if_neg (show ¬ fInt (tyR (L2.R.imm (PyData.str x))) = true by show ¬ fInt "str" = true; decide +kernel)]; exact k
 | list x => rw [if_neg (show ¬ fInt (tyR (L2.R.imm (PyData.list x))) = true by show ¬ fInt "list" = true; decide +kernel)]; exact k
 | tuple x => rw [if_neg (show ¬ fInt (tyR (L2.R.imm (PyData.tuple x))) = true by show ¬ fInt "tuple" = true; decide +kernel)]; exact k
 | dict x => exact hd.elim
theorem ok_law_is_stand (T : Bl mg) (D : DefM K mg "_law_is_stand" s_law_is_stand ["_law_hall_here", "_law_rule_here", "_law_thing"]) (G_law_is_whole : FnM P w K mg base "_law_is_whole" 1 1 spIsWh) : FnM P w K mg base "_law_is_stand" 2 3 spIsSt := by
 refine mk_fn' D sc_law_is_stand rfl (nN := 4) rfl (by decide) ?ar fun cdv A outer s H E f hr => ⟨_, (mz' (ms_set' (i := 3) sc_law_is_stand.nd rfl (Or.inl rfl) (me_callB' call_lenM (by rfl) T.len bt_len (mc' (me_ix' (mv' 0) mh') mn')))
   (mz' (ms_if' (EW.pt (mw_or' (mt_not' (mt_val' (me_isT' (mv' 2) isT_tuple T.isinstance T.tuple bt_tuple))) (mw_or' (mt_cmp' (op_neM hr.units) (me_callB' call_lenM (by rfl) T.len bt_len (mc' (mv' 2) mn')) mh' (nomark _)) (mw_or' (mt_not' (mt_val' (me_isT' (me_ix' (mv' 2) mh') isT_tuple T.isinstance T.tuple bt_tuple))) (mw_or1' (mt_cmp' (op_neM hr.units) (me_callB' call_lenM (by rfl) T.len bt_len (mc' (me_ix' (mv' 2) mh') mn')) (mv' 3) (nomark _))))))) (mss_one' (ms_ret' me_bl')) mss_nil')
   (mz' (ms_if' (mt_cmp' (op_neM hr.units) (me_comp1' (own := ["_law_one"]) (fr := []) (ps := []) (sc := (defScope s_law_is_stand)) (by exact ⟨rfl, by decide +kernel, by decide +kernel, by decide +kernel, by decide +kernel⟩) (mi_seq' (me_bin' op_addM (me_ix' (mv' 2) mh') (me_tup' (mc' (me_ix' (mv' 2) mh') mn')))) (fun _ _ _ _ _ => (mg_name' (i := 0) (show List.Nodup ((["_law_one"] : List Str) ++ ([] : List Str)) from by decide +kernel) rfl (Or.inl rfl))) (fun _ _ _ _ _ => (mts_one' (mt_not' (mt_val' (mf' G_law_is_whole (hr.mono (by decide)) (mc' (mv' 0) mn')))))) (fun _ _ _ _ _ => (mv' 0))) (me_lst' mn') (nomark _)) (mss_one' (ms_ret' me_bl')) mss_nil')
   (mz' (ms_if' (mt_cmp' (op_neM hr.units) (me_comp1' (own := ["_law_k"]) (fr := ["_law_thing", "_law_hall_here"]) (ps := [2, 0]) (sc := (defScope s_law_is_stand)) (by exact ⟨rfl, by decide +kernel, by decide +kernel, by decide +kernel, by decide +kernel⟩) (mi_range1' (by rfl) T.range (mc' (mv' 3) mn')) (fun _ _ _ _ _ => (mg_name' (i := 0) (show List.Nodup ((["_law_k"] : List Str) ++ (["_law_thing", "_law_hall_here"] : List Str)) from by decide +kernel) rfl (Or.inl rfl))) (fun _ _ _ _ _ => (mts_one' (mt_not' (mt_chain' op_leM op_leM mh' (me_ix' (me_ix' (mv' 1) mh') (mv' 0)) (me_ix' (me_ix' (me_ix' (mv' 2) mh') (mv' 0)) mh'))))) (fun _ _ _ _ _ => (mv' 0))) (me_lst' mn') (nomark _)) (mss_one' (ms_ret' me_bl')) mss_nil')
   (mss_one' (ms_ret' (me_if' (mt_cmp' (op_eqM hr.units) (me_ix' (mv' 1) mh') me_str' (nomark _)) (me_chain' op_leM op_ltM mh' (me_ix' (mv' 2) mh') (mv' 3)) (me_cmp' (op_eqM hr.units) (me_ix' (mv' 2) mh') mh' (nomark _))))))))), ?_⟩
 case ar => rintro as Kc ⟨z, h, r, d, rfl, _⟩; rfl
 rintro as Kc hl ⟨z, h, r, d, rfl, ho, hd, hdp, k⟩
 have hnd := gd_nd hd
 have n1 := ho.n1
 have n4 := ho.n4
 refine x_start (MSt.mk [some (.imm (.tuple [.tuple [.int h.a, .int h.b], .tuple (h.ss.map Srv.d), .bool h.mv])), some (.imm r.d), some (.imm d), none] [] 0) rfl ?_
 walk_at "xs"
 rw [ty_tup]
 cases e : isTup d with
 | false =>
  rw [if_pos (show (!false) = true by decide)]
  walk_at "xs"
  rw [show isSt h r d = false by cases d <;> first | rfl | cases e] at k
  exact k
 | true =>
  rw [if_neg (show ¬ (!true) = true by decide)]
  cases d with
  | tuple ds =>
   walk_at "xs"
   refine x_ite (fun hne => ?_) (fun heq => ?_)
   ·walk_at "xs"
    rw [isSt_not2 h r (by simp [tupN]; intro q; exact hne (by rw [q]; rfl))] at k
    exact k
   ·have h2 : ds.length = 2 := by
     have := Classical.not_not.mp heq
     omega
    obtain ⟨x, y, hxy⟩ := tup_two (d := .tuple ds) (by simp [tupN, h2])
    cases hxy
    have gx : Gd z x := by simp only [Gd, GdA] at hd; exact hd.1
    have hndx := gd_nd gx
    have gy : Gd z y := by simp only [Gd, GdA] at hd; exact hd.2.1
    have dx : x.depth ≤ 49 := by
     have : max x.depth (max y.depth 0) + 1 ≤ 50 := hdp
     omega
    have dy : y.depth ≤ 49 := by
     have : max x.depth (max y.depth 0) + 1 ≤ 50 := hdp
     omega
    rw [isSt_two] at k
    walk_at "xs"
    rw [ty_tup]
    cases ex : isTup x with
    | false =>
     rw [if_pos (show (!false) = true by decide)]
     walk_at "xs"
     rw [show isLns h x = false by cases x <;> first | rfl | cases ex] at k
     exact k
    | true =>
     rw [if_neg (show ¬ (!true) = true by decide)]
     cases x with
     | tuple xs =>
      have hgx := gd_tup.mp gx
      have hdx : PyData.depthAll xs + 1 ≤ 49 := dx
      have hde := fun x hx => depthAll_le.mp (Nat.le_refl (PyData.depthAll xs)) x hx
      rw [isLns_tup] at k
      walk_at "xs"
      rw [List.length_map]
      refine x_ite (fun hne => ?_) (fun heq => ?_)
      ·walk_at "xs"
       rw [show fitD h.rs xs = false by
        cases q : fitD h.rs xs with
        | false => rfl
        | true =>
         have := fitD_len q
         rw [h.rsl] at this
         exact absurd (by rw [this]) hne] at k
       exact k
      ·have hxl : xs.length = h.ss.length := by
        have := Classical.not_not.mp heq
        omega
       walk_at "xs"
       refine x_addT (by rw [sizeLine_eq]; simp; omega) ?_
       walk_at "xs"
       walk_at "xn"
       have hgA : ∀ d ∈ xs ++ [y], Gd z d ∧ d.depth ≤ 49 := fun d hd => by
        rcases List.mem_append.mp hd with hd | hd
        ·exact ⟨hgx d hd, by have := hde d hd; omega⟩
        ·rw [List.mem_singleton.mp hd]; exact ⟨gy, dy⟩
       have hAl : (xs ++ [y]).length ≤ 5 := by rw [List.length_append]; simp; omega
       have hnil : ∀ xs : List PyData, PyData.eqv (.list xs) (.list []) = xs.isEmpty := fun xs => by cases xs <;> rfl
       generalize hA : xs ++ [y] = zs at hgA hAl
       refine x_loop0 (fun i m => ∃ a, m = MSt.mk [a] [(zs.take i).filter fun d => !isWh d] 1) ⟨none, rfl⟩ ?_ ?_
       ·rintro i d m e n ⟨a, rfl⟩
        have hdm := List.mem_of_getElem? e
        have hfl : ((zs.take i).filter fun d => !isWh d).length ≤ zs.length := Nat.le_trans (List.length_filter_le _ _) (by rw [List.length_take]; omega)
        walk_at "xs"
        refine ⟨z, d, rfl, (hgA d hdm).1, ?_⟩
        walk_at "xx"
        rw [List.take_add_one, e, List.filter_append]
        cases q : isWh d with
        | false =>
         rw [if_pos (c := (!false) = true) rfl]
         walk_at "xs"
         refine ⟨_, rfl, by rw [sizeLine_eq]; omega, some (.imm d), ?_⟩
         rw [filter_one_t (p := fun d => !isWh d) (by rw [q]; rfl)]
         try rfl
        | true =>
         rw [if_neg (show ¬ (!true) = true by decide)]
         walk_at "xs"
         refine ⟨some (.imm d), ?_⟩
         rw [filter_one_f (p := fun d => !isWh d) (by rw [q]; rfl), List.append_nil]
         try rfl
       rintro m n ⟨a, rfl⟩
       rw [List.take_length]
       walk_at "xx"
       have hshp : SeqAt.shaped (.list (zs.filter fun d => !isWh d)) = true := (shp_list (k := 50) (fun d hd => (hgA d (List.mem_filter.mp hd).1).1.shp.mono (by have := (hgA d (List.mem_filter.mp hd).1).2; omega))).ok (by decide)
       refine x_ne (d1 := .list (zs.filter fun d => !isWh d)) (d2 := .list []) rfl rfl hshp (by decide +kernel) ?_
       rw [hnil, filter_empty]
       cases qa : zs.all isWh with
       | false =>
        walk_at "xs"
        rw [if_pos (c := (!false) = true) rfl]
        walk_at "xs"
        have hbad : (fitD h.rs xs && isTn h r y) = false := by
         obtain ⟨d, hd, hw⟩ := List.all_eq_false.mp qa
         rw [← hA] at hd
         rcases List.mem_append.mp hd with hd | hd
         ·have : fitD h.rs xs = false := by
           cases q : fitD h.rs xs with
           | false => rfl
           | true =>
            obtain ⟨i, hi⟩ := List.getElem?_of_mem hd
            have hlt := (List.getElem?_eq_some_iff.mp hi).1
            obtain ⟨r', er⟩ : ∃ r', h.rs[i]? = some r' := ⟨_, List.getElem?_eq_getElem (by rw [h.rsl]; omega)⟩
            have := fitD_at q er hi
            cases d <;> first | cases this | exact (hw rfl).elim
          rw [this]; rfl
         ·rw [List.mem_singleton.mp hd] at hw
          have : isTn h r y = false := by
           cases y <;> first | (cases r <;> rfl) | exact (hw rfl).elim
          rw [this, Bool.and_false]
        rw [hbad] at k
        exact k
       | true =>
        walk_at "xs"
        rw [if_neg (show ¬ (!true) = true by decide)]
        have hall : ∀ d ∈ zs, ∃ i : Int, d = .int i := fun d hd => by
         have := List.all_eq_true.mp qa d hd
         cases d <;> first | exact ⟨_, rfl⟩ | cases this
        obtain ⟨t, rfl⟩ := hall y (by rw [← hA]; simp)
        have hxi : ∀ d ∈ xs, ∃ i : Int, d = .int i := fun d hd => hall d (by rw [← hA]; exact List.mem_append_left _ hd)
        walk_at "xs"
        refine ⟨by omega, by omega, ?_⟩
        rw [Int.toNat_natCast]
        obtain ⟨bad, hbd⟩ : ∃ bad : Nat → Bool, bad = fun k => !inW 0 ((h.rs.getD k 0 : Nat) : Int) (xs.getD k .none) := ⟨_, rfl⟩
        walk_at "xn"
        refine x_loop0 (fun i m => ∃ a, m = MSt.mk [a, some (.imm (.tuple [.tuple xs, .int t])), some (.imm (.tuple [.tuple [.int h.a, .int h.b], .tuple (h.ss.map Srv.d), .bool h.mv]))] [natD ((List.range i).filter bad)] 1) ⟨none, rfl⟩ ?_ ?_
        ·rintro i d m e n ⟨a, rfl⟩
         obtain ⟨hi, rfl⟩ := get_range e
         rw [show (0 : Int) + (i : Int) = ((i : Nat) : Int) by omega]
         obtain ⟨x, exi⟩ : ∃ x, xs[i]? = some x := ⟨_, List.getElem?_eq_getElem (by omega)⟩
         obtain ⟨xi, rfl⟩ := hxi x (List.mem_of_getElem? exi)
         obtain ⟨s, es, ea, eb, hs⟩ := h.srv hi
         have ebad : bad i = !(decide (0 ≤ xi) && decide (xi ≤ (s.r : Int))) := by
          rw [hbd]
          show (!inW 0 ((h.rs.getD i 0 : Nat) : Int) (xs.getD i .none)) = _
          rw [getD_of exi, getD_of (Hall.rs_get es)]; rfl
         have hfl : ((List.range i).filter bad).length ≤ 4 := Nat.le_trans (List.length_filter_le _ _) (by rw [List.length_range]; omega)
         have yes : bad i = true → natD ((List.range (i + 1)).filter bad) = natD ((List.range i).filter bad) ++ [.int (i : Int)] := fun hb => by
          rw [List.range_succ, List.filter_append, natD_app, show [i].filter bad = [i] by rw [List.filter_cons, hb]; rfl]; rfl
         have no : bad i = false → natD ((List.range (i + 1)).filter bad) = natD ((List.range i).filter bad) := fun hb => by
          rw [List.range_succ, List.filter_append, show [i].filter bad = [] by rw [List.filter_cons, hb]; rfl, List.append_nil]
         walk_at "xs"
         refine x_itemT (atI_nat exi) ?_
         walk_at "xs"
         refine x_ite (fun h0 => ?_) (fun h0 => ?_)
         ·walk_at "xs"
          refine x_itemT (d := s.d) (atI_nat (by rw [List.getElem?_map, es]; rfl)) ?_
          dsimp only [Srv.d]
          walk_at "xs"
          refine x_iteB (fun hj => ?_) (fun hj => ?_)
          ·walk_at "xs"
           have hj' : ¬ xi ≤ (s.r : Int) := by simpa using hj
           refine ⟨_, rfl, by rw [sizeLine_eq, natD_length]; omega, some (.imm (.int (i : Int))), ?_⟩
           rw [yes (by rw [ebad, decide_eq_false hj', Bool.and_false]; rfl)]
           rfl
          ·walk_at "xs"
           have hj' : xi ≤ (s.r : Int) := by simpa using hj
           refine ⟨some (.imm (.int (i : Int))), ?_⟩
           rw [no (by rw [ebad, decide_eq_true hj', decide_eq_true h0]; rfl)]
           rfl
         ·walk_at "xs"
          rw [if_pos (show (!false) = true by decide)]
          walk_at "xs"
          refine ⟨_, rfl, by rw [sizeLine_eq, natD_length]; omega, some (.imm (.int (i : Int))), ?_⟩
          rw [yes (by rw [ebad, decide_eq_false h0, Bool.false_and]; rfl)]
          rfl
        rintro m n ⟨a, rfl⟩
        rw [rangeD_length]
        walk_at "xx"
        have hshp2 : SeqAt.shaped (.list (natD ((List.range h.ss.length).filter bad))) = true := (shp_list (k := 0) (natD_shp _)).ok (by decide)
        refine x_ne (d1 := .list (natD ((List.range h.ss.length).filter bad))) (d2 := .list []) rfl rfl hshp2 (by decide +kernel) ?_
        rw [hnil]
        have hfit : (natD ((List.range h.ss.length).filter bad)).isEmpty = fitD h.rs xs := by
         cases q : fitD h.rs xs with
         | true =>
          rw [show (List.range h.ss.length).filter bad = [] from List.filter_eq_nil_iff.mpr fun i hi => by
           have hi := List.mem_range.mp hi
           obtain ⟨x, exi⟩ : ∃ x, xs[i]? = some x := ⟨_, List.getElem?_eq_getElem (by omega)⟩
           obtain ⟨r', er⟩ : ∃ r', h.rs[i]? = some r' := ⟨_, List.getElem?_eq_getElem (by rw [h.rsl]; omega)⟩
           rw [hbd]
           show ¬ (!inW 0 ((h.rs.getD i 0 : Nat) : Int) (xs.getD i .none)) = true
           rw [getD_of exi, getD_of er, fitD_at q er exi]
           decide]
          rfl
         | false =>
          cases qe : (natD ((List.range h.ss.length).filter bad)).isEmpty with
          | false => rfl
          | true =>
           have hz : (List.range h.ss.length).filter bad = [] := by
            have := List.isEmpty_iff.mp qe
            exact List.map_eq_nil_iff.mp this
           rw [fitD_of (by rw [h.rsl]; exact hxl) fun i r' x er exi => by
            have hlt := (List.getElem?_eq_some_iff.mp exi).1
            have := List.filter_eq_nil_iff.mp hz i (List.mem_range.mpr (by omega))
            rw [hbd] at this
            replace this : ¬ (!inW 0 ((h.rs.getD i 0 : Nat) : Int) (xs.getD i .none)) = true := this
            rw [getD_of exi, getD_of er] at this
            simpa using this] at q
           cases q
        rw [hfit]
        walk_at "xs"
        cases q : fitD h.rs xs with
        | false =>
         rw [q] at k
         rw [if_pos (c := (!false) = true) rfl]
         walk_at "xs"
         exact k
        | true =>
         rw [q, Bool.true_and] at k
         rw [if_neg (show ¬ (!true) = true by decide)]
         walk_at "xs"
         refine x_ifE ?_
         walk_at "xs"
         refine x_itemD r.dc (atI_nat (j := 0) rfl) ?_
         walk_at "xs"
         have hw : r.word = "turns" ↔ r = .turns := by
          cases r <;> first | exact ⟨fun _ => rfl, fun _ => rfl⟩ | exact ⟨fun z => absurd z (by decide +kernel), fun z => by cases z⟩ | exact ⟨fun z => absurd (show (Str.ofString "told") = "turns" from z) (by decide +kernel), fun z => by cases z⟩
         refine x_ite (fun q => ?_) (fun q => ?_)
         ·have hr := hw.mp q
          subst hr
          replace k : Kc (.imm (.bool (decide (0 ≤ t) && decide (t ≤ (h.ss.length : Int) - 1)))) [] := k
          walk_at "xs"
          refine x_ite (fun h0 => ?_) (fun h0 => ?_)
          ·walk_at "xs"
           rw [decide_eq_true h0, Bool.true_and, show decide (t ≤ (h.ss.length : Int) - 1) = decide (t < (h.ss.length : Int)) from decide_eq_decide.mpr (by omega)] at k
           exact k
          ·rw [decide_eq_false h0, Bool.false_and] at k
           exact k
         ·have hr : isTn h r (.int t) = decide (t = 0) := by
           have e0 : inW 0 0 (.int t) = decide (t = 0) := by
            show (decide (0 ≤ t) && decide (t ≤ 0)) = decide (t = 0)
            rw [← Bool.decide_and]; exact decide_eq_decide.mpr (by omega)
           rw [← e0]
           cases r <;> first | rfl | exact (q rfl).elim
          rw [hr] at k
          walk_at "xs"
          exact k
     | _ => cases ex
  | _ => cases e
theorem ok_law_is_move (T : Bl mg) (D : DefM K mg "_law_is_move" s_law_is_move ["_law_hall_here", "_law_thing"]) (G_law_is_whole : FnM P w K mg base "_law_is_whole" 1 1 spIsWh) : FnM P w K mg base "_law_is_move" 2 2 spIsMv := by
 refine mk_fn' D sc_law_is_move rfl (nN := 3) rfl (by decide) ?ar fun cdv A outer s H E f hr => ⟨_, (mz' (ms_set' (i := 2) sc_law_is_move.nd rfl (Or.inl rfl) (me_callB' call_lenM (by rfl) T.len bt_len (mc' (me_ix' (mv' 0) mh') mn')))
   (mz' (ms_if' (EW.pt (mw_or' (mt_not' (mt_val' (me_isT' (mv' 1) isT_tuple T.isinstance T.tuple bt_tuple))) (mw_or' (mt_cmp' (op_eqM hr.units) (mv' 1) (me_tup' mn') (nomark _)) (mw_or1' (mt_not' (mt_val' (me_isT' (me_ix' (mv' 1) mh') isT_str T.isinstance T.str bt_str))))))) (mss_one' (ms_ret' me_bl')) mss_nil')
   (mz' (ms_if' (mt_cmp' (op_eqM hr.units) (me_ix' (mv' 1) mh') me_str' (nomark _)) (mz' (ms_if' (EW.pt (mw_or' (mt_cmp' (op_neM hr.units) (me_callB' call_lenM (by rfl) T.len bt_len (mc' (mv' 1) mn')) mh' (nomark _)) (mw_or1' (mt_not' (mt_val' (me_isT' (me_ix' (mv' 1) mh') isT_tuple T.isinstance T.tuple bt_tuple)))))) (mss_one' (ms_ret' me_bl')) mss_nil')
   (mz' (ms_if' (mt_cmp' (op_neM hr.units) (me_comp1' (own := ["_law_one"]) (fr := []) (ps := []) (sc := (defScope s_law_is_move)) (by exact ⟨rfl, by decide +kernel, by decide +kernel, by decide +kernel, by decide +kernel⟩) (mi_seq' (me_ix' (mv' 1) mh')) (fun _ _ _ _ _ => (mg_name' (i := 0) (show List.Nodup ((["_law_one"] : List Str) ++ ([] : List Str)) from by decide +kernel) rfl (Or.inl rfl))) (fun _ _ _ _ _ => (mts_one' (mt_not' (mt_val' (mf' G_law_is_whole (hr.mono (by decide)) (mc' (mv' 0) mn')))))) (fun _ _ _ _ _ => (mv' 0))) (me_lst' mn') (nomark _)) (mss_one' (ms_ret' me_bl')) mss_nil')
   (mss_one' (ms_ret' (me_cmp' (op_eqM hr.units) (me_callB' call_sortIM (by rfl) T.sorted bt_sorted (mc' (me_ix' (mv' 1) mh') mn')) (me_listR' T.list T.range (mc' (mv' 2) mn')) (nomark _)))))) mss_nil')
   (mz' (ms_if' (mt_cmp' (op_eqM hr.units) (me_ix' (mv' 1) mh') me_str' (nomark _)) (mss_one' (ms_ret' (me_and' (me_cmp' (op_eqM hr.units) (me_callB' call_lenM (by rfl) T.len bt_len (mc' (mv' 1) mn')) mh' (nomark _)) (me_and' (mf' G_law_is_whole (hr.mono (by decide)) (mc' (me_ix' (mv' 1) mh') mn')) (me_one' (me_chain' op_leM op_ltM mh' (me_ix' (mv' 1) mh') (mv' 2))))))) mss_nil')
   (mss_one' (ms_ret' (me_and' (me_cmp' (op_eqM hr.units) (me_ix' (mv' 1) mh') me_str' (nomark _)) (me_one' (me_cmp' (op_eqM hr.units) (me_callB' call_lenM (by rfl) T.len bt_len (mc' (mv' 1) mn')) mh' (nomark _)))))))))), ?_⟩
 case ar => rintro as Kc ⟨z, h, d, rfl, _⟩; rfl
 rintro as Kc hl ⟨z, h, d, rfl, ho, hd, hdp, hms, hwd, k⟩
 have hnd := gd_nd hd
 have n1 := ho.n1
 have n4 := ho.n4
 have hnil : ∀ xs : List PyData, PyData.eqv (.list xs) (.list []) = xs.isEmpty := fun xs => by cases xs <;> rfl
 refine x_start (MSt.mk [some (.imm (.tuple [.tuple [.int h.a, .int h.b], .tuple (h.ss.map Srv.d), .bool h.mv])), some (.imm d), none] [] 0) rfl ?_
 walk_at "xs"
 rw [ty_tup]
 cases e : isTup d with
 | false =>
  rw [if_pos (show (!false) = true by decide)]
  walk_at "xs"
  rw [show isMv h d = false by cases d <;> first | rfl | cases e] at k
  exact k
 | true =>
  rw [if_neg (show ¬ (!true) = true by decide)]
  cases d with
  | tuple ds =>
   have hg := gd_tup.mp hd
   have hdd : PyData.depthAll ds + 1 ≤ 50 := hdp
   have hde := fun x hx => depthAll_le.mp (Nat.le_refl (PyData.depthAll ds)) x hx
   rw [ms_tup] at hms
   walk_at "xs"
   refine x_eq (d1 := .tuple ds) (d2 := .tuple []) rfl rfl ((hd.shp.mono hdp).ok (by decide)) (by decide +kernel) ?_
   rw [show PyData.eqv (.tuple ds) (.tuple []) = ds.isEmpty by cases ds <;> rfl]
   cases ds with
   | nil =>
    walk_at "xs"
    refine x_iteT ?_
    walk_at "xs"
    exact k
   | cons x r =>
    walk_at "xs"
    refine x_iteF ?_
    have gx := hg x List.mem_cons_self
    have hndx := gd_nd gx
    have dx : x.depth ≤ 49 := by have := hde x List.mem_cons_self; omega
    walk_at "xs"
    refine x_itemT (atI_nat (j := 0) rfl) ?_
    walk_at "xs"
    rw [ty_str]
    have hsx : SeqAt.shaped x = true := (gx.shp.mono (show x.depth ≤ 50 by omega)).ok (by decide)
    have notOne : r.length ≠ 0 → r.length ≠ 1 → isMv h (.tuple (x :: r)) = false := fun h0 h1 => isMv_not12 h (by simp [tupN]; intro q; exact h0 (by rw [q]; rfl)) (by simp [tupN]; omega)
    cases ex : isStr x with
    | false =>
     rw [if_pos (show (!false) = true by decide)]
     walk_at "xs"
     have nost : ∀ w : Str, PyData.eqv x (.str w) = false := fun w => by
      cases q : PyData.eqv x (.str w) with
      | false => rfl
      | true => rw [eqv_ty_str q] at ex; cases ex
     have hf : isMv h (.tuple (x :: r)) = false := by
      match r with
      | [] => rw [isMv_one]; exact nost _
      | [y] => rw [isMv_two, nost, nost]; rfl
      | _ :: _ :: _ => rfl
     rw [hf] at k
     exact k
    | true =>
     rw [if_neg (show ¬ (!true) = true by decide)]
     walk_at "xs"
     refine x_itemT (atI_nat (j := 0) rfl) ?_
     walk_at "xs"
     refine x_eq rfl rfl hsx (by decide +kernel) ?_
     cases qc : PyData.eqv x (.str "come") with
     | true =>
      have nostill : PyData.eqv x (.str "still") = false := by
       cases x with
       | str w =>
        have : w = "come" := by simpa [PyData.eqv] using qc
        subst this
        decide +kernel
       | _ => cases ex
      walk_at "xs"
      refine x_ite (fun hne => ?_) (fun heq => ?_)
      ·walk_at "xs"
       have hf : isMv h (.tuple (x :: r)) = false := by
        match r, hne with
        | [], _ => rw [isMv_one]; exact nostill
        | [y], hne => exact absurd rfl hne
        | _ :: _ :: _, _ => rfl
       rw [hf] at k
       exact k
      ·have h2 : r.length = 1 := by
        have := Classical.not_not.mp heq
        simp at this
        omega
       obtain ⟨y, rfl⟩ := List.length_eq_one_iff.mp h2
       have gy := hg y (by simp)
       have hndy := gd_nd gy
       have dy : y.depth ≤ 49 := by have := hde y (by simp); omega
       rw [isMv_two, qc, if_pos rfl] at k
       walk_at "xs"
       rw [ty_tup]
       cases ey : isTup y with
       | false =>
        rw [if_pos (show (!false) = true by decide)]
        walk_at "xs"
        rw [show isOr h y = false by cases y <;> first | rfl | cases ey] at k
        exact k
       | true =>
        rw [if_neg (show ¬ (!true) = true by decide)]
        cases y with
        | tuple ys =>
         have hgy := gd_tup.mp gy
         have hdy : PyData.depthAll ys + 1 ≤ 49 := dy
         have hdey := fun x hx => depthAll_le.mp (Nat.le_refl (PyData.depthAll ys)) x hx
         have hyl : ys.length ≤ 60 := by
          have h1 : wd (.tuple ys) ≤ 60 := wdA_le.mp (show wdA [x, .tuple ys] ≤ 60 by rw [wd_tup] at hwd; omega) _ (by simp)
          rw [wd_tup] at h1; omega
         walk_at "xs"
         walk_at "xn"
         refine x_loop0 (fun i m => ∃ a, m = MSt.mk [a] [(ys.take i).filter fun d => !isWh d] 1) ⟨none, rfl⟩ ?_ ?_
         ·rintro i d m e n ⟨a, rfl⟩
          have hdm := List.mem_of_getElem? e
          have hfl : ((ys.take i).filter fun d => !isWh d).length ≤ ys.length := Nat.le_trans (List.length_filter_le _ _) (by rw [List.length_take]; omega)
          walk_at "xs"
          refine ⟨z, d, rfl, hgy d hdm, ?_⟩
          walk_at "xx"
          rw [List.take_add_one, e, List.filter_append]
          cases q : isWh d with
          | false =>
           rw [if_pos (c := (!false) = true) rfl]
           walk_at "xs"
           refine ⟨_, rfl, by rw [sizeLine_eq]; omega, some (.imm d), ?_⟩
           rw [filter_one_t (p := fun d => !isWh d) (by rw [q]; rfl)]
           try rfl
          | true =>
           rw [if_neg (show ¬ (!true) = true by decide)]
           walk_at "xs"
           refine ⟨some (.imm d), ?_⟩
           rw [filter_one_f (p := fun d => !isWh d) (by rw [q]; rfl), List.append_nil]
           try rfl
         rintro m n ⟨a, rfl⟩
         rw [List.take_length]
         walk_at "xx"
         have hshp : SeqAt.shaped (.list (ys.filter fun d => !isWh d)) = true := (shp_list (k := 50) (fun d hd => (hgy d (List.mem_filter.mp hd).1).shp.mono (by have := hdey d (List.mem_filter.mp hd).1; omega))).ok (by decide)
         refine x_ne (d1 := .list (ys.filter fun d => !isWh d)) (d2 := .list []) rfl rfl hshp (by decide +kernel) ?_
         rw [hnil, filter_empty]
         cases qa : ys.all isWh with
         | false =>
          walk_at "xs"
          rw [if_pos (c := (!false) = true) rfl]
          walk_at "xs"
          have hbad : isOr h (.tuple ys) = false := by
           obtain ⟨d, hd, hw⟩ := List.all_eq_false.mp qa
           rw [isOr_tup, show (ys.all fun x => inW 0 ((h.ss.length : Int) - 1) x && decide (cntD ys x = 1)) = false from List.all_eq_false.mpr ⟨d, hd, by
            cases d <;> first | exact (hw rfl).elim | (intro q; cases q)⟩, Bool.and_false]
          rw [hbad] at k
          exact k
         | true =>
          walk_at "xs"
          rw [if_neg (show ¬ (!true) = true by decide)]
          obtain ⟨ns, rfl⟩ := ints_of (ys := ys) fun d hd => by
           have := List.all_eq_true.mp qa d hd
           cases d <;> first | exact ⟨_, rfl⟩ | cases this
          rw [List.length_map] at hyl
          walk_at "xs"
          refine x_sortI (ds := ns.map .int) rfl (intsOf_ints ns) (by omega) fun ns' hp hs => ?_
          walk_at "xs"
          rw [List.length_map]
          refine ⟨⟨by omega, by omega⟩, ?_⟩
          rw [Int.toNat_natCast, range_ints]
          have sh1 : ∀ l : List Int, SeqAt.shaped (.list (l.map .int)) = true := fun l => (shp_list (k := 0) (fun d hd => by
           obtain ⟨i, _, rfl⟩ := List.mem_map.mp hd
           exact shp_int i)).ok (by decide)
          refine x_eq (d1 := .list (ns'.map .int)) (d2 := .list ((rngI h.ss.length).map .int)) rfl rfl (sh1 _) (sh1 _) ?_
          rw [eqv_ints]
          rw [isOr_sort hp hs] at k
          exact k
        | _ => cases ey
     | false =>
      walk_at "xs"
      refine x_itemT (atI_nat (j := 0) rfl) ?_
      walk_at "xs"
      refine x_eq rfl rfl hsx (by decide +kernel) ?_
      cases qd : PyData.eqv x (.str "done") with
      | true =>
       have nostill : PyData.eqv x (.str "still") = false := by
        cases x with
        | str w =>
         have : w = "done" := by simpa [PyData.eqv] using qd
         subst this
         decide +kernel
        | _ => cases ex
       walk_at "xs"
       refine x_ite (fun heq => ?_) (fun hne => ?_)
       ·have h2 : r.length = 1 := by simp at heq; omega
        obtain ⟨y, rfl⟩ := List.length_eq_one_iff.mp h2
        have gy := hg y (by simp)
        rw [isMv_two, qc, if_neg (by decide), qd, Bool.true_and] at k
        walk_at "xs"
        refine ⟨z, y, rfl, gy, ?_⟩
        walk_at "xx"
        cases y with
        | int i =>
         rw [if_pos (show isWh (PyData.int i) = true from rfl)]
         walk_at "xs"
         refine x_ite (fun h0 => ?_) (fun h0 => ?_)
         ·walk_at "xs"
          rw [List.length_map]
          rw [show inW 0 ((h.ss.length : Int) - 1) (.int i) = decide (i < (h.ss.length : Int)) by
           show (decide (0 ≤ i) && decide (i ≤ (h.ss.length : Int) - 1)) = _
           rw [decide_eq_true h0, Bool.true_and]; exact decide_eq_decide.mpr (by omega)] at k
          exact k
         ·rw [show inW 0 ((h.ss.length : Int) - 1) (.int i) = false by
           show (decide (0 ≤ i) && decide (i ≤ (h.ss.length : Int) - 1)) = _
           rw [decide_eq_false h0, Bool.false_and]] at k
          exact k
        | bool i => rw [if_neg (show ¬ isWh (PyData.bool i) = true by simp [isWh])]; exact k
        | none => rw [if_neg (show ¬ isWh PyData.none = true by simp [isWh])]; exact k
        | str x => rw [if_neg (show ¬ isWh (PyData.str x) = true by simp [isWh])]; exact k
        | list x => rw [if_neg (show ¬ isWh (PyData.list x) = true by simp [isWh])]; exact k
        | tuple x => rw [if_neg (show ¬ isWh (PyData.tuple x) = true by simp [isWh])]; exact k
        | dict x => exact gy.elim
       ·have hf : isMv h (.tuple (x :: r)) = false := by
         match r, hne with
         | [], _ => rw [isMv_one]; exact nostill
         | [y], hne => exact absurd rfl hne
         | _ :: _ :: _, _ => rfl
        rw [hf] at k
        exact k
      | false =>
       walk_at "xs"
       refine x_itemT (atI_nat (j := 0) rfl) ?_
       walk_at "xs"
       refine x_eq rfl rfl hsx (by decide +kernel) ?_
       cases qs : PyData.eqv x (.str "still") with
       | false =>
        walk_at "xs"
        have hf : isMv h (.tuple (x :: r)) = false := by
         match r with
         | [] => rw [isMv_one]; exact qs
         | [y] => rw [isMv_two, qc, qd]; rfl
         | _ :: _ :: _ => rfl
        rw [hf] at k
        exact k
       | true =>
        walk_at "xs"
        have hf : isMv h (.tuple (x :: r)) = decide ((((x :: r).length : Nat) : Int) = 1) := by
         match r with
         | [] => rw [isMv_one, qs]; rfl
         | [y] => rw [isMv_two, qc, qd]; rfl
         | _ :: _ :: _ =>
          rw [decide_eq_false (by simp; omega)]
          rfl
        rw [hf] at k
        exact k
  | _ => cases e
theorem ok_law_is_run (T : Bl mg) (D : DefM K mg "_law_is_run" s_law_is_run ["_law_hall_here", "_law_thing"]) (G_law_is_move : FnM P w K mg base "_law_is_move" 2 2 spIsMv) : FnM P w K mg base "_law_is_run" 3 2 spIsRn := by
 refine mk_fn' D sc_law_is_run rfl (nN := 2) rfl (by decide) ?ar fun cdv A outer s H E f hr => ⟨_, (mss_one' (ms_ret' (me_and' (me_isT' (mv' 1) isT_tuple T.isinstance T.tuple bt_tuple) (me_one' (me_cmp' (op_eqM hr.units) (me_comp1' (own := ["_law_one"]) (fr := ["_law_hall_here"]) (ps := [0]) (sc := (defScope s_law_is_run)) (by exact ⟨rfl, by decide +kernel, by decide +kernel, by decide +kernel, by decide +kernel⟩) (mi_seq' (mv' 1)) (fun _ _ _ _ _ => (mg_name' (i := 0) (show List.Nodup ((["_law_one"] : List Str) ++ (["_law_hall_here"] : List Str)) from by decide +kernel) rfl (Or.inl rfl))) (fun _ _ _ _ _ => (mts_one' (mt_not' (mt_val' (mf' G_law_is_move (hr.mono (by decide)) (mc' (mv' 1) (mc' (mv' 0) mn'))))))) (fun _ _ _ _ _ => (mv' 0))) (me_lst' mn') (nomark _)))))), ?_⟩
 case ar => rintro as Kc ⟨z, h, d, rfl, _⟩; rfl
 rintro as Kc hl ⟨z, h, d, rfl, ho, hd, hdp, hms, hwd, k⟩
 have hnd := gd_nd hd
 refine x_start (MSt.mk [some (.imm h.d), some (.imm d)] [] 0) rfl ?_
 walk_at "xs"
 rw [ty_tup]
 cases e : isTup d with
 | false =>
  refine x_iteF ?_
  rw [show isRn h d = false by cases d <;> first | rfl | cases e] at k
  exact k
 | true =>
  refine x_iteT ?_
  cases d with
  | tuple ds =>
   have hg := gd_tup.mp hd
   have hdd : PyData.depthAll ds + 1 ≤ 50 := hdp
   have hde := fun x hx => depthAll_le.mp (Nat.le_refl (PyData.depthAll ds)) x hx
   rw [ms_tup] at hms
   rw [wd_tup] at hwd
   have hwa := wdA_le.mp (Nat.le_refl (wdA ds))
   have hml := msA_len ds
   replace k : Kc (.imm (.bool (ds.all (isMv h)))) [] := k
   walk_at "xs"
   walk_at "xn"
   refine x_loop0 (fun i m => ∃ a, m = MSt.mk [a, some (.imm h.d)] [(ds.take i).filter fun d => !isMv h d] 1) ⟨none, rfl⟩ ?_ ?_
   ·rintro i d m e n ⟨a, rfl⟩
    have hdm := List.mem_of_getElem? e
    have hma := msA_at e
    have hfl : ((ds.take i).filter fun d => !isMv h d).length ≤ ds.length := Nat.le_trans (List.length_filter_le _ _) (by rw [List.length_take]; omega)
    walk_at "xs"
    refine ⟨z, h, d, rfl, ho, hg d hdm, by have := hde d hdm; omega, by omega, by have := hwa d hdm; omega, ?_⟩
    walk_at "xx"
    rw [List.take_add_one, e, List.filter_append]
    cases q : isMv h d with
    | false =>
     rw [if_pos (c := (!false) = true) rfl]
     walk_at "xs"
     refine ⟨_, rfl, by rw [sizeLine_eq]; omega, some (.imm d), ?_⟩
     rw [filter_one_t (p := fun d => !isMv h d) (by rw [q]; rfl)]
     try rfl
    | true =>
     rw [if_neg (show ¬ (!true) = true by decide)]
     walk_at "xs"
     refine ⟨some (.imm d), ?_⟩
     rw [filter_one_f (p := fun d => !isMv h d) (by rw [q]; rfl), List.append_nil]
     try rfl
   ·rintro m n ⟨a, rfl⟩
    rw [List.take_length]
    walk_at "xx"
    have hshp : SeqAt.shaped (.list (ds.filter fun d => !isMv h d)) = true := (shp_list (k := 50) (fun d hd => (hg d (List.mem_filter.mp hd).1).shp.mono (by have := hde d (List.mem_filter.mp hd).1; omega))).ok (by decide)
    refine x_eq (d1 := .list (ds.filter fun d => !isMv h d)) (d2 := .list []) rfl rfl hshp (by decide +kernel) ?_
    rw [show PyData.eqv (.list (ds.filter fun d => !isMv h d)) (.list []) = ds.all (isMv h) by rw [← filter_empty]; cases ds.filter (fun d => !isMv h d) <;> rfl]
    exact k
  | _ => cases e
theorem ok_law_right (T : Bl mg) (D : DefM K mg "_law_right" s_law_right ["_law_hall_here", "_law_rule_here", "_law_thing"]) (Gis_stand : FnM P w K mg base "is_stand" 5 3 spIsSt) (Gis_move : FnM P w K mg base "is_move" 5 2 spIsMv) (Gis_run : FnM P w K mg base "is_run" 6 2 spIsRn) (G_law_is_stand : FnM P w K mg base "_law_is_stand" 2 3 spIsSt) (G_law_is_move : FnM P w K mg base "_law_is_move" 2 2 spIsMv) (G_law_is_run : FnM P w K mg base "_law_is_run" 3 2 spIsRn) : FnM P w K mg base "_law_right" 7 3 spRightK := by
 refine mk_fn' D sc_law_right rfl (nN := 6) rfl (by decide) ?ar fun cdv A outer s H E f hr => ⟨_, (mz' (ms_set' (i := 3) sc_law_right.nd rfl (Or.inl rfl) (me_callB' (call_reprM hr.gd hr.u200) (by rfl) T.repr bt_repr (mc' (me_lst' (mc' (mv' 0) (mc' (mv' 1) (mc' (mv' 2) mn')))) mn')))
   (mz' (ms_set' (i := 4) sc_law_right.nd rfl (Or.inl rfl) (me_lst' (mc' (mf' Gis_stand (hr.mono (by decide)) (mc' (mv' 0) (mc' (mv' 1) (mc' (mv' 2) mn')))) (mc' (mf' Gis_move (hr.mono (by decide)) (mc' (mv' 0) (mc' (mv' 2) mn'))) (mc' (mf' Gis_run (hr.mono (by decide)) (mc' (mv' 0) (mc' (mv' 2) mn'))) mn')))))
   (mz' (ms_set' (i := 5) sc_law_right.nd rfl (Or.inl rfl) (me_lst' (mc' (mf' G_law_is_stand (hr.mono (by decide)) (mc' (mv' 0) (mc' (mv' 1) (mc' (mv' 2) mn')))) (mc' (mf' G_law_is_move (hr.mono (by decide)) (mc' (mv' 0) (mc' (mv' 2) mn'))) (mc' (mf' G_law_is_run (hr.mono (by decide)) (mc' (mv' 0) (mc' (mv' 2) mn'))) mn')))))
   (mss_one' (ms_ret' (me_and' (me_cmp' (op_eqM hr.units) (me_callB' (call_reprM hr.gd hr.u200) (by rfl) T.repr bt_repr (mc' (mv' 4) mn')) (me_callB' (call_reprM hr.gd hr.u200) (by rfl) T.repr bt_repr (mc' (mv' 5) mn')) (nomark _)) (me_one' (me_cmp' (op_eqM hr.units) (me_callB' (call_reprM hr.gd hr.u200) (by rfl) T.repr bt_repr (mc' (me_lst' (mc' (mv' 0) (mc' (mv' 1) (mc' (mv' 2) mn')))) mn')) (mv' 3) (nomark _))))))))), ?_⟩
 case ar => rintro as Kc ⟨z, h, r, d, rfl, _⟩; rfl
 rintro as Kc hl ⟨z, h, r, d, rfl, ho, hr, hd, hz, hdp, hms, hwd, k⟩
 refine x_start (MSt.mk [some (.imm h.d), some (.imm r.d), some (.imm d), none, none, none] [] 0) rfl ?_
 have fl : Fine 5000000 50 (.list [h.d, r.d, d]) := by
  refine (fine_list (n := 1000000) (k := 49) (c := 3) (fun x hx => ?_) (by simp)).mono (by decide) (by decide)
  simp at hx
  rcases hx with rfl | rfl | rfl
  ·exact ho.fine.mono (by decide) (by decide)
  ·exact (hr.fine ho).mono (by decide) (by decide)
  ·exact (hd.fine hz).mono hms (by omega)
 have fb : Fine 1000 5 (.list [.bool (isSt h r d), .bool (isMv h d), .bool (isRn h d)]) := by
  refine (fine_list (n := 20) (k := 0) (c := 3) (fun x hx => ?_) (by simp)).mono (by decide) (by decide)
  simp at hx
  rcases hx with rfl | rfl | rfl <;> exact (fine_bool _).mono (by decide) (by decide)
 walk_at "xs"
 refine x_reprF fl rfl (by decide) (by decide) ?_
 walk_at "xs"
 refine ⟨z, h, r, d, rfl, ho, hd, by omega, ?_⟩
 walk_at "xx"
 refine ⟨z, h, d, rfl, ho, hd, by omega, hms, hwd, ?_⟩
 walk_at "xx"
 refine ⟨z, h, d, rfl, ho, hd, by omega, hms, hwd, ?_⟩
 walk_at "xx"
 refine x_bindN ?_
 walk_at "xx"
 refine ⟨z, h, r, d, rfl, ho, hd, by omega, ?_⟩
 walk_at "xx"
 refine ⟨z, h, d, rfl, ho, hd, by omega, hms, hwd, ?_⟩
 walk_at "xx"
 refine ⟨z, h, d, rfl, ho, hd, by omega, hms, hwd, ?_⟩
 walk_at "xx"
 refine x_bindN ?_
 walk_at "xx"
 refine x_reprF fb rfl (by decide) (by decide) ?_
 walk_at "xs"
 refine x_reprF fb rfl (by decide) (by decide) ?_
 walk_at "xs"
 refine x_ite (fun _ => ?_) (fun z => (z rfl).elim)
 walk_at "xs"
 refine x_reprF fl rfl (by decide) (by decide) ?_
 walk_at "xs"
 rw [decide_eq_true (rfl : (PyData.list [h.d, r.d, d]).shown = _)]
 exact k
theorem ok_law_orders0 (D : DefM K mg "_law_orders" s_law_orders ["_law_many"]) : FnM P w K mg base "_law_orders" 1 1 (spOrd 0) := by
 refine mk_fn' D sc_law_orders rfl (nN := 3) rfl (by decide) ?ar fun cdv A outer s H E f hr => ⟨_, (mz' ms_never' (mz' ms_never' (mz' ms_never' (mss_one' ms_never')))), ?_⟩
 case ar => rintro as Kc z; exact z.elim
 rintro as Kc hl z; exact z.elim
theorem ok_law_ordersS (T : Bl mg) (D : DefM K mg "_law_orders" s_law_orders ["_law_many"]) {n k : Nat} (G_law_orders : FnM P w K mg base "_law_orders" (k + 1) 1 (spOrd n)) : FnM P w K mg base "_law_orders" (k + 1 + 1) 1 (spOrd (n + 1)) := by
 refine mk_fn' D sc_law_orders rfl (nN := 3) rfl (by decide) ?ar fun cdv A outer s H E f hr => ⟨_, (mz' (ms_if' (mt_cmp' (op_eqM hr.units) (mv' 0) mh' (nomark _)) (mss_one' (ms_ret' (me_lst' (mc' (me_tup' mn') mn')))) mss_nil')
   (mz' (ms_set' (i := 1) sc_law_orders.nd rfl (Or.inl rfl) (me_lst' mn'))
   (mz' (ms_for' (mi_seq' (me_imm' (mf' G_law_orders (hr.mono (by omega)) (mc' (me_bin' op_subM (mv' 0) mh') mn')))) (mg_name' (i := 2) sc_law_orders.nd rfl (Or.inr rfl)) (mss_one' (ms_expr' (me_ml' PySem.F.slot_list_extend PySem.F.type_list_extend mt_extendM (mv' 1) (mc' (me_comp1' (own := ["_law_k"]) (fr := ["_law_order", "_law_many"]) (ps := [2, 0]) (sc := (defScope s_law_orders)) (by exact ⟨rfl, by decide +kernel, by decide +kernel, by decide +kernel, by decide +kernel⟩) (mi_range1' (by rfl) T.range (mc' (mv' 0) mn')) (fun _ _ _ _ _ => (mg_name' (i := 0) (show List.Nodup ((["_law_k"] : List Str) ++ (["_law_order", "_law_many"] : List Str)) from by decide +kernel) rfl (Or.inl rfl))) (fun _ _ _ _ _ => mts_nil') (fun _ _ _ _ _ => (me_imm' (me_bin' op_addM (me_bin' op_addM (me_slice' sl_cutM (mv' 1) mo_none' (mo_some' (mv' 0))) (me_tup' (mc' (me_bin' op_subM (mv' 2) mh') mn'))) (me_slice' sl_cutM (mv' 1) (mo_some' (mv' 0)) mo_none'))))) mn')))) PassesOwn.never)
   (mss_one' (ms_ret' (me_callB' call_sortTM (by rfl) T.sorted bt_sorted (mc' (mv' 1) mn'))))))), ?_⟩
 case ar => rintro as Kc ⟨m, rfl, _⟩; rfl
 rintro as Kc hl ⟨m, rfl, hmn, hm4, k⟩
 refine x_start (MSt.mk [some (.imm (.int (m : Int))), none, none] [] 0) rfl ?_
 walk_at "xs"
 refine x_ite (fun q => ?_) (fun q => ?_)
 ·have : m = 0 := by omega
  subst this
  walk_at "xs"
  exact k
 ·obtain ⟨j, rfl⟩ : ∃ j, m = j + 1 := ⟨m - 1, by omega⟩
  walk_at "xs"
  refine x_bindN ?_
  walk_at "xx"
  obtain ⟨n', rfl⟩ : ∃ n', n = n' + 1 := ⟨n - 1, by omega⟩
  refine ⟨j, by rw [show ((j + 1 : Nat) : Int) - 1 = (j : Int) by omega], by omega, by omega, ?_⟩
  obtain ⟨hk1, hk2⟩ := ordK_small j (by omega) j (by omega)
  obtain ⟨p, hp1, hp2, hp3⟩ := ord_sorts j (by omega)
  have hil := insA_len j (by omega)
  have hin := insA_ne j (by omega)
  rw [← hp2] at k
  generalize ordK j j = os at hk1 hk2 hp1 hp2 hp3 hil hin k
  walk_at "xx"
  refine x_loop0 (fun z m => ∃ a, m = MSt.mk [some (.imm (.int ((j + 1 : Nat) : Int))), some (.obj 0), a] [(insA j (os.take z)).map lnD] 0) ⟨none, rfl⟩ ?_ ?_
  ·rintro z d m ez nz ⟨a, rfl⟩
   obtain ⟨o, eo, rfl, hz⟩ := gmap ez
   obtain ⟨hl4, hl3⟩ := hk2 o (List.mem_of_getElem? eo)
   have hzl := (List.getElem?_eq_some_iff.mp eo).1
   have hz24 := hil z (by omega)
   walk_at "xs"
   refine ⟨by omega, by omega, ?_⟩
   rw [Int.toNat_natCast]
   walk_at "xn"
   refine x_loop0 (fun y m => ∃ c, m = MSt.mk [c, some (.imm (.tuple (natD o))), some (.imm (.int ((j + 1 : Nat) : Int)))] [(insA j (os.take z)).map lnD, ((List.range y).map fun k => o.take k ++ [j] ++ o.drop k).map lnD] 2) ⟨none, rfl⟩ ?_ ?_
   ·rintro y d m ey ny ⟨c, rfl⟩
    obtain ⟨hy, rfl⟩ := get_range ey
    rw [show (0 : Int) + (y : Int) = ((y : Nat) : Int) by omega]
    walk_at "xs"
    rw [cutD_to, show ((j + 1 : Nat) : Int) - 1 = (j : Int) by omega]
    refine x_addT (by rw [sizeLine_eq, List.length_take, natD_length]; simp; omega) ?_
    walk_at "xs"
    rw [cutD_from]
    refine x_addT (by rw [sizeLine_eq, List.length_append, List.length_take, List.length_drop, natD_length]; simp; omega) ?_
    walk_at "xs"
    refine ⟨_, rfl, by rw [sizeLine_eq, List.length_map, List.length_map, List.length_range]; omega, some (.imm (.int (y : Int))), ?_⟩
    rw [List.range_succ, List.map_append, List.map_append]
    have ee : (PyData.tuple ((natD o).take y ++ [.int (j : Int)] ++ (natD o).drop y)) = lnD (o.take y ++ [j] ++ o.drop y) := by
     simp [lnD, natD, List.map_take, List.map_drop]
    rw [show (PyData.tuple ((natD o).take y ++ (fun x => PyData.int (j : Int) :: x) [] ++ (natD o).drop y)) = lnD (o.take y ++ [j] ++ o.drop y) from ee]
    rfl
   ·rintro m ny ⟨c, rfl⟩
    rw [rangeD_length]
    walk_at "xs"
    have hz : ((insA j (os.take z)).map lnD).length + (((List.range (j + 1)).map fun k => o.take k ++ [j] ++ o.drop k).map lnD).length ≤ sizeLine := by
     rw [sizeLine_eq, List.length_map, List.length_map, List.length_map, List.length_range]; omega
    refine' x_extend (ds := (insA j (os.take z)).map lnD) ?eb hz ?_
    case eb => rfl
    rw [insA_take eo, List.map_append]
    exact ⟨_, rfl⟩
  ·rintro m nz ⟨a, rfl⟩
   rw [List.length_map, List.take_length]
   walk_at "xs"
   have e1 : (insA j os).map lnD = ((insA j os).map intsL).map tupI := by
    rw [List.map_map]; exact List.map_congr_left fun o _ => (tupI_ln o).symm
   have hl24 := hil 24 (by omega)
   rw [List.take_of_length_le hk1] at hl24
   rw [e1]
   refine x_sortT (nss := (insA j os).map intsL) rfl (by rw [List.length_map]; omega) (fun ns hns => ?_) hp1 ?_
   ·obtain ⟨o, ho, rfl⟩ := List.mem_map.mp hns
    exact fun z => hin o ho (List.map_eq_nil_iff.mp z)
   rw [pick_ln hp3]
   exact k
theorem ok_law_orders (T : Bl mg) (D : DefM K mg "_law_orders" s_law_orders ["_law_many"]) : FnM P w K mg base "_law_orders" 6 1 spOrd5 := (ok_law_ordersS T D  (ok_law_ordersS T D  (ok_law_ordersS T D  (ok_law_ordersS T D  (ok_law_ordersS T D  (ok_law_orders0 D))))))
theorem oklaw (T : Bl mg) {ff : Addr} {fd : FuncData} (F : Fun K "law" "law" slaw ff fd) (G_law_feed : FnM P w K mg base "_law_feed" 1 1 spFeed) (G_law_hall : FnM P w K mg base "_law_hall" 2 2 spHallM) (G_law_draw : FnM P w K mg base "_law_draw" 1 2 spDraw) (G_law_rule : FnM P w K mg base "_law_rule" 2 2 spRule) (Gall_orders : FnM P w K mg base "all_orders" 1 1 spAllO) (G_law_orders : FnM P w K mg base "_law_orders" 6 1 spOrd5) (Gfirst_stand : FnM P w K mg base "first_stand" 1 1 spFirst) (G_law_run : FnM P w K mg base "_law_run" 4 3 spRun) (G_law_move : FnM P w K mg base "_law_move" 3 3 spMove) (G_law_bent : FnM P w K mg base "_law_bent" 7 2 spB5) (G_law_right : FnM P w K mg base "_law_right" 7 3 spRightK) : FnOk P w K mg base CX0 9 ff fd ["_law_script"] (spOf ⟨K, w⟩ 1 spLaw) := by
 refine mk_fnE' F sclaw rfl (nN := 14) rfl (by decide) fun cdv A outer s H E f hr => ⟨_, (mz' (ms_set' (i := 1) sclaw.nd rfl (Or.inr rfl) (mf' G_law_feed (hr.mono (by decide)) (mc' (mv' 0) mn')))
   (mz' (ms_for' (mi_range1' (by rfl) T.range (mc' mh' mn')) (mg_name' (i := 2) sclaw.nd rfl (Or.inl rfl)) (mz' (ms_set' (i := 3) sclaw.nd rfl (Or.inr rfl) (mf' G_law_hall (hr.mono (by decide)) (mc' (mv' 1) (mc' mh' mn'))))
   (mz' (ms_set' (i := 4) sclaw.nd rfl (Or.inr rfl) (mf' G_law_rule (hr.mono (by decide)) (mc' (mv' 1) (mc' (mv' 3) mn'))))
   (mz' (ms_set' (i := 5) sclaw.nd rfl (Or.inl rfl) (me_callB' call_lenM (by rfl) T.len bt_len (mc' (me_ix' (mv' 3) mh') mn')))
   (mz' (ms_set' (i := 6) sclaw.nd rfl (Or.inl rfl) (mf' Gall_orders (hr.mono (by decide)) (mc' (mv' 3) mn')))
   (mz' (ms_if' (EW.pt (mw_or' (mt_cmp' (op_neM hr.units) (me_callB' (call_reprM hr.gd hr.u200) (by rfl) T.repr bt_repr (mc' (mv' 6) mn')) (me_callB' (call_reprM hr.gd hr.u200) (by rfl) T.repr bt_repr (mc' (mf' G_law_orders (hr.mono (by decide)) (mc' (mv' 5) mn')) mn')) (nomark _)) (mw_or1' (mt_cmp' (op_neM hr.units) (me_callB' (call_reprM hr.gd hr.u200) (by rfl) T.repr bt_repr (mc' (mf' Gfirst_stand (hr.mono (by decide)) (mc' (mv' 3) mn')) mn')) (me_callB' (call_reprM hr.gd hr.u200) (by rfl) T.repr bt_repr (mc' (me_tup' (mc' (me_bin' op_mulSM (me_tup' (mc' mh' mn')) (mv' 5)) (mc' mh' mn'))) mn')) (nomark _))))) (mss_one' (ms_ret' me_bl')) mss_nil')
   (mz' (ms_expr' (me_ml' PySem.F.slot_list_append PySem.F.type_list_append mt_appendM (mv' 6) (mc' me_non' mn')))
   (mz' (ms_if' (mt_cmp' (op_neM hr.units) (me_callB' (call_reprM hr.gd hr.u200) (by rfl) T.repr bt_repr (mc' (mf' Gall_orders (hr.mono (by decide)) (mc' (mv' 3) mn')) mn')) (me_callB' (call_reprM hr.gd hr.u200) (by rfl) T.repr bt_repr (mc' (mf' G_law_orders (hr.mono (by decide)) (mc' (mv' 5) mn')) mn')) (nomark _)) (mss_one' (ms_ret' me_bl')) mss_nil')
   (mz' (ms_set' (i := 7) sclaw.nd rfl (Or.inl rfl) (me_lst' (mc' me_non' (mc' (me_tup' mn') (mc' (me_imm' (me_lst' mn')) (mc' (me_tup' (mc' me_str' mn')) (mc' (me_tup' (mc' me_str' (mc' mh' mn'))) (mc' (me_tup' (mc' me_str' mn')) (mc' (me_tup' (mc' me_str' (mc' (mv' 5) mn'))) (mc' (me_tup' (mc' me_str' (mc' me_bl' mn'))) mn'))))))))))
   (mz' (ms_set' (i := 7) sclaw.nd rfl (Or.inl rfl) (me_bin' op_addM (mv' 7) (me_lst' (mc' (me_tup' (mc' me_str' (mc' (me_bin' op_mulSM (me_tup' (mc' mh' mn')) (mv' 5)) mn'))) (mc' mh' (mc' (me_tup' (mc' me_str' (mc' (me_imm' (me_listR' T.list T.range (mc' (mv' 5) mn'))) mn'))) mn'))))))
   (mz' (ms_for' (mi_range1' (by rfl) T.range (mc' mh' mn')) (mg_name' (i := 8) sclaw.nd rfl (Or.inl rfl)) (mz' (ms_set' (i := 9) sclaw.nd rfl (Or.inl rfl) (me_callTy' call_tupleM (by rfl) T.tuple bt_tuple (mc' (me_comp1' (own := ["_law_speed", "_law_room"]) (fr := ["_law_feed_here"]) (ps := [1]) (sc := (defScope slaw)) (by exact ⟨rfl, by decide +kernel, by decide +kernel, by decide +kernel, by decide +kernel⟩) (mi_seq' (me_ix' (mv' 3) mh')) (fun _ _ _ _ _ => (mg_tup' (n := 2) (mgs_cons' (mg_name' (i := 0) (show List.Nodup ((["_law_speed", "_law_room"] : List Str) ++ (["_law_feed_here"] : List Str)) from by decide +kernel) rfl (Or.inl rfl)) (mgs_cons' (mg_name' (i := 1) (show List.Nodup ((["_law_speed", "_law_room"] : List Str) ++ (["_law_feed_here"] : List Str)) from by decide +kernel) rfl (Or.inl rfl)) mgs_nil')))) (fun _ _ _ _ _ => mts_nil') (fun _ _ _ _ _ => (mf' G_law_draw (hr.mono (by decide)) (mc' (mv' 2) (mc' (me_bin' op_addM (mv' 1) mh') mn'))))) mn')))
   (mz' (ms_set' (i := 10) sclaw.nd rfl (Or.inl rfl) (me_tup' (mc' (mv' 9) (mc' (me_if' (EW.pt (mw_or' (mt_cmp' (op_eqM hr.units) (me_ix' (mv' 4) mh') me_str' (nomark _)) (mw_or1' (mt_cmp' (op_eqM hr.units) (mf' G_law_draw (hr.mono (by decide)) (mc' (mv' 1) (mc' mh' mn'))) mh' (nomark _))))) (mf' G_law_draw (hr.mono (by decide)) (mc' (mv' 1) (mc' (mv' 5) mn'))) mh') mn'))))
   (mz' (ms_set' (i := 11) sclaw.nd rfl (Or.inl rfl) (mf' G_law_run (hr.mono (by decide)) (mc' (mv' 1) (mc' (mv' 3) (mc' (mf' G_law_draw (hr.mono (by decide)) (mc' (mv' 1) (mc' mh' mn'))) mn')))))
   (mz' (ms_set' (i := 12) sclaw.nd rfl (Or.inl rfl) (mf' G_law_move (hr.mono (by decide)) (mc' (mv' 1) (mc' (mv' 3) (mc' (mf' G_law_draw (hr.mono (by decide)) (mc' (mv' 1) (mc' mh' mn'))) mn')))))
   (mss_one' (ms_for' (mi_seq' (me_imm' (me_lst' (mc' (mv' 10) (mc' (mv' 11) (mc' (mv' 12) mn')))))) (mg_name' (i := 13) sclaw.nd rfl (Or.inl rfl)) (mss_one' (ms_set' (i := 7) sclaw.nd rfl (Or.inl rfl) (me_bin' op_addM (mv' 7) (me_lst' (mc' (mv' 13) (mc' (mf' G_law_bent (hr.mono (by decide)) (mc' (mv' 1) (mc' (mv' 13) mn'))) (mc' (mf' G_law_bent (hr.mono (by decide)) (mc' (mv' 1) (mc' (mf' G_law_bent (hr.mono (by decide)) (mc' (mv' 1) (mc' (mv' 13) mn'))) mn'))) mn'))))))) PassesOwn.never)))))) PassesOwn.never)
   (mss_one' (ms_if' (mt_cmp' (op_neM hr.units) (me_comp1' (own := ["_law_thing"]) (fr := ["_law_hall_here", "_law_rule_here"]) (ps := [3, 4]) (sc := (defScope slaw)) (by exact ⟨rfl, by decide +kernel, by decide +kernel, by decide +kernel, by decide +kernel⟩) (mi_seq' (mv' 7)) (fun _ _ _ _ _ => (mg_name' (i := 0) (show List.Nodup ((["_law_thing"] : List Str) ++ (["_law_hall_here", "_law_rule_here"] : List Str)) from by decide +kernel) rfl (Or.inl rfl))) (fun _ _ _ _ _ => (mts_one' (mt_not' (mt_val' (mf' G_law_right (hr.mono (by decide)) (mc' (mv' 1) (mc' (mv' 2) (mc' (mv' 0) mn')))))))) (fun _ _ _ _ _ => (mv' 0))) (me_lst' mn') (nomark _)) (mss_one' (ms_ret' me_bl')) mss_nil')))))))))))) PassesOwn.never)
   (mss_one' (ms_ret' me_bl')))), ?_⟩
 rintro as Kc hl ⟨ns, rfl, hn, k⟩
 refine x_start (MSt.mk [some (.imm (.list (ns.map .int))), none, none, none, none, none, none, none, none, none, none, none, none, none] [] 0) rfl ?_
 walk_at "xs"
 refine ⟨ns, rfl, hn, fun fd hf => ?_⟩
 walk_at "xn"
 refine x_bindN ?_
 walk_at "xx"
 refine ⟨by decide, by decide, ?_⟩
 refine x_loop0 (fun i m => ∃ a b c d e f g o p q s t fd' L, m = MSt.mk [some (.imm (.list (ns.map .int))), some (.obj 0), a, b, c, d, e, f, g, o, p, q, s, t] (fd' :: L) 0 ∧ FeedD (20000 * i) fd') ⟨none, none, none, none, none, none, none, none, none, none, none, none, fd, [], rfl, hf⟩ ?_ ?_
 ·rintro i d m e n ⟨a0, b0, c0, d0, e0, f0, g0, o0, p0, q0, s0, t0, fd, L, rfl, hf⟩
  obtain ⟨hi, rfl⟩ := get_range e
  walk_at "xs"
  refine ⟨fd, _, 4, rfl, hf, by omega, by decide, by decide, fun h fd ho hf => ?_⟩
  have n1 := ho.n1
  have n4 := ho.n4
  refine x_bindIRen [0] (MSt.mk [some (.imm (.list (ns.map .int))), some (.obj 0), none, some (.imm (.tuple [.tuple [.int h.a, .int h.b], .tuple (h.ss.map Srv.d), .bool h.mv])), none, none, none, none, none, none, none, none, none, none] [fd] 0) (ren_of rfl rfl rfl rfl rfl rfl ⟨rfl, ⟨0, rfl, rfl⟩, trivial, rfl, trivial, trivial, trivial, trivial, trivial, trivial, trivial, trivial, trivial, trivial, trivial⟩) ?_
  walk_at "xs"
  refine ⟨fd, _, h, rfl, ho, hf, by omega, fun r fd hr hf => ?_⟩
  walk_at "xx"
  rw [List.length_map]
  refine ⟨h, rfl, ho, ?_⟩
  obtain ⟨hk1, hk2⟩ := ordK_small h.ss.length n4 h.ss.length n4
  obtain ⟨OS, hOS⟩ : ∃ OS, ordK h.ss.length h.ss.length = OS := ⟨_, rfl⟩
  rw [hOS] at hk1 hk2 ⊢
  walk_at "xn"
  refine x_bindN ?_
  walk_at "xn"
  have fo : Fine 3000 2 (.list (OS.map lnD)) := (fine_list (n := 63) (k := 1) (c := 24) (fun d hd => by
   obtain ⟨l, hl, rfl⟩ := List.mem_map.mp hd
   obtain ⟨q1, q2⟩ := hk2 l hl
   exact (natD_fine (c := 4) q1 fun x hx => by have := q2 x hx; omega).mono (by decide) (by decide)) (by rw [List.length_map]; exact hk1)).mono (by decide) (by decide)
  walk_at "xs"
  obtain ⟨A, hA⟩ : ∃ A, (PyData.list (OS.map lnD)).shown = A := ⟨_, rfl⟩
  refine x_reprF fo rfl (by decide) (by decide) ?_
  rw [hA]
  walk_at "xs"
  refine spOrd5_of ⟨h.ss.length, rfl, n4, ?_⟩
  rw [hOS]
  walk_at "xx"
  refine x_reprF fo rfl (by decide) (by decide) ?_
  rw [hA]
  refine x_neSS ?_
  walk_at "xs"
  refine ⟨h, rfl, ho, ?_⟩
  walk_at "xx"
  have fz : Fine 1000 2 (stD (zer h) 0) := by
   refine (fine_tuple (n := 63) (k := 1) (c := 2) (fun d hd => ?_) (by simp)).mono (by decide) (by decide)
   simp at hd
   rcases hd with rfl | rfl
   ·exact (natD_fine (c := 4) (by simp [zer]; omega) fun x hx => by rw [List.eq_of_mem_replicate (show x ∈ List.replicate h.ss.length 0 from hx)]; omega).mono (by decide) (by decide)
   ·exact (fine_int (by omega)).mono (by decide) (by decide)
  obtain ⟨B, hB⟩ : ∃ B, (stD (zer h) 0).shown = B := ⟨_, rfl⟩
  refine x_reprF fz rfl (by decide) (by decide) ?_
  rw [hB]
  walk_at "xs"
  refine x_mulT (by omega) (by omega) (by simp; omega) ?_
  rw [Int.toNat_natCast, rep_flat]
  walk_at "xs"
  rw [show (PyData.tuple [.tuple (List.replicate h.ss.length (.int 0)), .int 0]) = stD (zer h) 0 by
   unfold stD zer lnD; rw [← natD_rep]; rfl]
  refine x_reprF fz rfl (by decide) (by decide) ?_
  rw [hB]
  refine x_neSS ?_
  walk_at "xs"
  refine' x_append (ds := OS.map lnD) ?ea (by rw [sizeLine_eq, List.length_map]; omega) ?_
  case ea => rfl
  walk_at "xx"
  refine ⟨h, rfl, ho, ?_⟩
  rw [hOS]
  walk_at "xx"
  refine x_reprF fo rfl (by decide) (by decide) ?_
  rw [hA]
  walk_at "xs"
  refine spOrd5_of ⟨h.ss.length, rfl, n4, ?_⟩
  rw [hOS]
  walk_at "xx"
  refine x_reprF fo rfl (by decide) (by decide) ?_
  rw [hA]
  refine x_neSS ?_
  walk_at "xs"
  refine x_bindN ?_
  walk_at "xx"
  dsimp only
  refine x_mulT (by omega) (by omega) (by simp; omega) ?_
  rw [Int.toNat_natCast, rep_flat]
  walk_at "xs"
  refine ⟨by omega, ?_⟩
  walk_at "xs"
  dsimp only
  rw [Int.toNat_natCast, rangeD_nat]
  refine' x_addON (a := things0 h.ss.length) ?eb (by rw [sizeLine_eq]; exact (by decide : 8 + 3 ≤ 16777216)) ?_
  case eb => rfl
  rw [show List.replicate h.ss.length (PyData.int 0) = natD (List.replicate h.ss.length 0) from natD_rep _ 0]
  refine x_bindNRen [0, 3] (MSt.mk [some (.imm (.list (ns.map .int))), some (.obj 0), none, some (.imm (.tuple [.tuple [.int h.a, .int h.b], .tuple (h.ss.map Srv.d), .bool h.mv])), some (.imm r.d), some (.imm (.int (h.ss.length : Nat))), none, some (.obj 1), none, none, none, none, none, none] [fd, things0 h.ss.length ++ things1 h.ss.length] 0) (ren_of rfl rfl rfl rfl rfl rfl ⟨rfl, ⟨0, rfl, rfl⟩, trivial, rfl, rfl, rfl, trivial, ⟨3, rfl, rfl⟩, trivial, trivial, trivial, trivial, trivial, trivial, trivial⟩) ?_
  have hL2 := th0 n4
  have hLl2 : (things0 h.ss.length ++ things1 h.ss.length).length = 11 := rfl
  generalize things0 h.ss.length ++ things1 h.ss.length = L at hL2 hLl2
  walk_at "xs"
  refine ⟨by decide, by decide, ?_⟩
  refine x_loop0 (fun z m => ∃ (a b c d e f : Option L2.R) (L fd' : List PyData), m = MSt.mk [some (.imm (.list (ns.map .int))), some (.obj 0), none, some (.imm (.tuple [.tuple [.int h.a, .int h.b], .tuple (h.ss.map Srv.d), .bool h.mv])), some (.imm r.d), some (.imm (.int (h.ss.length : Nat))), none, some (.obj 1), a, b, c, d, e, f] [fd', L] 0 ∧ (∀ d ∈ L, TH d) ∧ L.length = 11 + 9 * z ∧ FeedD (20000 * i + 3000 + 3000 * z) fd') ⟨none, none, none, none, none, none, L, fd, rfl, hL2, hLl2, hf.mono (by omega)⟩ ?_ ?_
  ·rintro z d m ez nz ⟨a1, b1, c1, d1, e1, f1, L, fd, rfl, hL, hLl, hf⟩
   obtain ⟨hz4, rfl⟩ := get_range ez
   walk_at "xs"
   refine x_loop0 (fun z' m => ∃ (a b : Option L2.R) (fd' : List PyData) (ps : List Nat), m = MSt.mk [a, b, some (.obj 0)] [fd', L, natD ps] 3 ∧ FeedD (20000 * i + 3000 + 3000 * z + z') fd' ∧ ps.length = z' ∧ ∀ p ∈ ps, p ≤ 6) ⟨none, none, fd, [], rfl, hf, rfl, fun _ h => by cases h⟩ ?_ ?_
   ·rintro z' d m ez' nz' ⟨a, b, fd, ps, rfl, hf, hpl, hps⟩
    obtain ⟨s, es, rfl, hz'⟩ := gmap ez'
    have r6 := (ho.ok s (List.mem_of_getElem? es)).r6
    dsimp only [Srv.d]
    walk_at "xs"
    ·rfl
    walk_at "xs"
    refine ⟨fd, _, _, rfl, hf, by omega, by omega, by omega, fun q fd hq0 hq1 hf => ?_⟩
    obtain ⟨qn, rfl⟩ := Int.eq_ofNat_of_zero_le hq0
    walk_at "xx"
    refine ⟨_, rfl, by rw [sizeLine_eq, natD_length]; omega, _, _, fd, ps ++ [qn], by rw [natD_app]; rfl, hf.mono (by omega), by rw [List.length_append, hpl]; rfl, fun p hp => ?_⟩
    obtain hp | hp := List.mem_append.mp hp
    ·exact hps p hp
    ·rw [List.mem_singleton.mp hp]; omega
   rintro m n ⟨a, b, fd, ps, rfl, hf, hpl, hps⟩
   rw [List.length_map] at hf hpl
   walk_at "xx"
   refine x_J (fun q m' => ∃ (t : Nat) (fd' : List PyData), q = .imm (.int (t : Int)) ∧ t ≤ 6 ∧ m' = MSt.mk [some (.imm (.list (ns.map .int))), some (.obj 0), none, some (.imm (.tuple [.tuple [.int h.a, .int h.b], .tuple (h.ss.map Srv.d), .bool h.mv])), some (.imm r.d), some (.imm (.int (h.ss.length : Nat))), none, some (.obj 1), some (.imm (.int (0 + (z : Int)))), some (.imm (.tuple (natD ps))), c1, d1, e1, f1] [fd', L] 0 ∧ FeedD (20000 * i + 3000 + 3000 * z + 10) fd') ?_ ?_
   ·intro K' hK'
    obtain ⟨x, rest, erd, hrest⟩ : ∃ x rest, r.d = .tuple (.str x :: rest) ∧ (rest = [] ∨ ∃ y, rest = [y]) := by
     cases r with
     | told ps => exact ⟨_, _, rfl, .inr ⟨_, rfl⟩⟩
     | random => exact ⟨_, _, rfl, .inl rfl⟩
     | turns => exact ⟨_, _, rfl, .inl rfl⟩
     | two => exact ⟨_, _, rfl, .inl rfl⟩
     | least => exact ⟨_, _, rfl, .inl rfl⟩
     | quick => exact ⟨_, _, rfl, .inl rfl⟩
    rw [erd] at hK' ⊢
    have go : ∀ fd, FeedD (20000 * i + 3000 + 3000 * z + 8) fd → wCall spDraw (wCons (wVar 1) (wCons (wVar 5) wNil)) (MSt.mk [some (.imm (.list (ns.map .int))), some (.obj 0), none, some (.imm (.tuple [.tuple [.int h.a, .int h.b], .tuple (h.ss.map Srv.d), .bool h.mv])), some (.imm (.tuple (.str x :: rest))), some (.imm (.int (h.ss.length : Nat))), none, some (.obj 1), some (.imm (.int (0 + (z : Int)))), some (.imm (.tuple (natD ps))), c1, d1, e1, f1] [fd, L] 0) K' := fun fd hf => by
     walk_at "xs"
     refine ⟨fd, _, _, rfl, hf, by omega, by omega, by omega, fun q fd hq0 hq1 hf => ?_⟩
     obtain ⟨qn, rfl⟩ := Int.eq_ofNat_of_zero_le hq0
     walk_at "xn"
     exact hK' _ _ ⟨qn, fd, rfl, by omega, rfl, hf.mono (by omega)⟩
    have e0 : atI (PyData.str x :: rest) 0 = some (.str x) := by
     rcases hrest with e | ⟨y, e⟩ <;> (rw [e]; rfl)
    refine x_ifE ?_
    walk_at "xs"
    refine x_itemT e0 ?_
    walk_at "xs"
    by_cases hx : x = "turns"
    ·rw [decide_eq_true hx]
     refine x_iteT ?_
     refine x_iteT ?_
     exact go fd (hf.mono (by omega))
    ·rw [decide_eq_false hx]
     refine x_iteF ?_
     walk_at "xs"
     refine ⟨fd, _, _, rfl, hf, by omega, by decide, by decide, fun q fd hq0 hq1 hf => ?_⟩
     walk_at "xx"
     by_cases hq : q = 0
     ·rw [decide_eq_true hq]
      refine x_iteT ?_
      exact go fd (hf.mono (by omega))
     ·rw [decide_eq_false hq]
      refine x_iteF ?_
      walk_at "xs"
      exact hK' _ _ ⟨0, fd, rfl, by omega, rfl, hf.mono (by omega)⟩
   rintro q m' ⟨t, fd, rfl, ht, rfl, hf⟩
   walk_at "xs"
   refine ⟨fd, _, _, rfl, hf, by omega, by decide, by decide, fun q fd hq0 hq1 hf => ?_⟩
   obtain ⟨qn, rfl⟩ := Int.eq_ofNat_of_zero_le hq0
   walk_at "xx"
   refine ⟨fd, _, h, qn, rfl, ho, hf, by omega, by omega, fun R fd hRl hR hf => ?_⟩
   walk_at "xx"
   refine ⟨fd, _, _, rfl, hf, by omega, by decide, by decide, fun w fd hw0 hw1 hf => ?_⟩
   obtain ⟨wn, rfl⟩ := Int.eq_ofNat_of_zero_le hw0
   walk_at "xx"
   refine ⟨fd, _, h, wn, rfl, ho, hf, by omega, by omega, fun mv fd hmv hf => ?_⟩
   walk_at "xx"
   have hb : ∀ d ∈ [stD ps t, runD R, mv.d], BT d := fun d hd => by
    simp only [List.mem_cons, List.not_mem_nil, or_false] at hd
    rcases hd with rfl | rfl | rfl
    ·exact bt_st (by omega) hps ht
    ·exact bt_run ho (by omega) hR
    ·exact (bt_mv ho hmv).1
   refine x_loop0 (fun y m => ∃ (a : Option L2.R) (L fd' : List PyData), m = MSt.mk [some (.imm (.list (ns.map .int))), some (.obj 0), none, some (.imm (.tuple [.tuple [.int h.a, .int h.b], .tuple (h.ss.map Srv.d), .bool h.mv])), some (.imm r.d), some (.imm (.int (h.ss.length : Nat))), none, some (.obj 1), some (.imm (.int (0 + (z : Int)))), some (.imm (.tuple (natD ps))), some (.imm (stD ps t)), some (.imm (runD R)), some (.imm mv.d), a] [fd', L] 0 ∧ (∀ d ∈ L, TH d) ∧ L.length = 11 + 9 * z + 3 * y ∧ FeedD (20000 * i + 3000 + 3000 * z + 400 + 200 * y) fd') ⟨_, L, fd, rfl, hL, hLl, hf.mono (by omega)⟩ ?_ ?_
   ·rintro y d m ey ny ⟨a, L, fd, rfl, hL, hLl, hf⟩
    have hy3 : y < 3 := (List.getElem?_eq_some_iff.mp ey).1
    obtain ⟨g0, p0, m0, w0⟩ := hb d (List.mem_of_getElem? ey)
    walk_at "xs"
    refine spB5_of ⟨fd, _, 7, d, rfl, hf, by omega, g0, by decide, by decide, by omega, by omega, by omega, fun d1 fd B1 hf => ?_⟩
    walk_at "xx"
    refine spB5_of ⟨fd, _, 7, d, rfl, hf, by omega, g0, by decide, by decide, by omega, by omega, by omega, fun d2 fd B2 hf => ?_⟩
    have p2 := B2.p
    have m2 := B2.m
    have w2 := B2.w
    walk_at "xx"
    refine spB5_of ⟨fd, _, 15, d2, rfl, hf, by omega, B2.g, by decide, by decide, by omega, by omega, by omega, fun d3 fd B3 hf => ?_⟩
    walk_at "xx"
    refine' x_addON (a := L) ?ed (by rw [sizeLine_eq]; simp; omega) ?_
    case ed => rfl
    refine x_bindNRen [0, 2] (MSt.mk [some (.imm (.list (ns.map .int))), some (.obj 0), none, some (.imm (.tuple [.tuple [.int h.a, .int h.b], .tuple (h.ss.map Srv.d), .bool h.mv])), some (.imm r.d), some (.imm (.int (h.ss.length : Nat))), none, some (.obj 1), some (.imm (.int (0 + (z : Int)))), some (.imm (.tuple (natD ps))), some (.imm (stD ps t)), some (.imm (runD R)), some (.imm mv.d), some (.imm d)] [fd, L ++ [d, d1, d3]] 0) (ren_of rfl rfl rfl rfl rfl rfl ⟨rfl, ⟨0, rfl, rfl⟩, trivial, rfl, rfl, rfl, trivial, ⟨2, rfl, rfl⟩, rfl, rfl, rfl, rfl, rfl, rfl, trivial⟩) ?_
    refine ⟨_, L ++ [d, d1, d3], fd, rfl, fun x hx => ?_, by rw [List.length_append, hLl]; simp; omega, hf.mono (by omega)⟩
    obtain hx | hx := List.mem_append.mp hx
    ·exact hL x hx
    ·simp only [List.mem_cons, List.not_mem_nil, or_false] at hx
     rcases hx with rfl | rfl | rfl
     ·exact BT.th ⟨g0, p0, m0, w0⟩
     ·exact B1.th (by decide) (by omega) (by omega) (by omega)
     ·exact B3.th (by decide) (by omega) (by omega) (by omega)
   rintro m n ⟨a, L, fd, rfl, hL, hLl, hf⟩
   replace hLl : L.length = 11 + 9 * z + 3 * 3 := hLl
   replace hf : FeedD (20000 * i + 3000 + 3000 * z + 400 + 200 * 3) fd := hf
   exact ⟨_, _, _, _, _, _, L, fd, rfl, hL, by omega, hf.mono (by omega)⟩
  rintro m n ⟨a1, b1, c1, d1, e1, f1, L, fd, rfl, hL, hLl, hf⟩
  replace hLl : L.length = 47 := hLl
  replace hf : FeedD (20000 * i + 3000 + 3000 * 4) fd := hf
  walk_at "xx"
  refine x_loopO (fun z m => ∃ a, m = MSt.mk [a, some (.imm (.tuple [.tuple [.int h.a, .int h.b], .tuple (h.ss.map Srv.d), .bool h.mv])), some (.imm r.d)] [fd, L, []] 3) ⟨none, rfl⟩ ?_ ?_ ?_
  ·rintro z m ⟨a, rfl⟩; rfl
  ·rintro z d m ez nz ⟨a, rfl⟩
   obtain ⟨⟨zb, hg, hzb⟩, hp, hm, hw⟩ := hL d (List.mem_of_getElem? ez)
   walk_at "xs"
   refine ⟨zb, h, r, d, rfl, ho, hr, hg, hzb, hp, hm, hw, ?_⟩
   walk_at "xx"
   rw [if_neg (show ¬ (!true) = true by decide)]
   walk_at "xs"
   exact ⟨_, rfl⟩
  ·rintro m n ⟨a, rfl⟩
   walk_at "xx"
   refine x_ne (d1 := .list []) (d2 := .list []) rfl rfl (by decide +kernel) (by decide +kernel) ?_
   rw [show PyData.eqv (.list []) (.list []) = true by decide +kernel]
   walk_at "xs"
   exact ⟨_, _, _, _, _, _, _, _, _, _, _, _, fd, [L], rfl, hf.mono (by omega)⟩
 ·rintro m n ⟨a0, b0, c0, d0, e0, f0, g0, o0, p0, q0, s0, t0, fd, L, rfl, hf⟩
  walk_at "xs"
  exact k
end
theorem all_mk {l : PySem.W.OpenLaw} {w : World} {K : PySem.W.Frag} {h : Heap} {mg : Str → Option Value} {fa : Addr} (X : K.In h) (G : h.Ns mainGlobals mg) (hfa : mg "law" = some (.ref fa)) (dis_whole : DefK K "is_whole" sis_whole) (dis_whole_within : DefK K "is_whole_within" sis_whole_within) (dis_tuple_of : DefK K "is_tuple_of" sis_tuple_of) (dis_line : DefK K "is_line" sis_line) (dis_lines : DefK K "is_lines" sis_lines) (dfirst_stand : DefK K "first_stand" sfirst_stand) (dis_turn : DefK K "is_turn" sis_turn) (dis_stand : DefK K "is_stand" sis_stand) (dis_order : DefK K "is_order" sis_order) (dis_move : DefK K "is_move" sis_move) (dis_run : DefK K "is_run" sis_run) (dall_orders : DefK K "all_orders" sall_orders) (d_law_feed : DefK K "_law_feed" s_law_feed) (d_law_draw : DefK K "_law_draw" s_law_draw) (d_law_shuffled : DefK K "_law_shuffled" s_law_shuffled) (d_law_cut : DefK K "_law_cut" s_law_cut) (d_law_hall : DefK K "_law_hall" s_law_hall) (d_law_all : DefK K "_law_all" s_law_all) (d_law_rule : DefK K "_law_rule" s_law_rule) (d_law_move : DefK K "_law_move" s_law_move) (d_law_run : DefK K "_law_run" s_law_run) (d_law_bent : DefK K "_law_bent" s_law_bent) (d_law_is_whole : DefK K "_law_is_whole" s_law_is_whole) (d_law_is_stand : DefK K "_law_is_stand" s_law_is_stand) (d_law_is_move : DefK K "_law_is_move" s_law_is_move) (d_law_is_run : DefK K "_law_is_run" s_law_is_run) (d_law_right : DefK K "_law_right" s_law_right) (d_law_orders : DefK K "_law_orders" s_law_orders) (dlaw : DefK K "law" slaw) (zlen : PySem.W.nsIn K mainGlobals "len" = some none) (zabs : PySem.W.nsIn K mainGlobals "abs" = some none) (zrange : PySem.W.nsIn K mainGlobals "range" = some none) (zlist : PySem.W.nsIn K mainGlobals "list" = some none) (ztuple : PySem.W.nsIn K mainGlobals "tuple" = some none) (zint : PySem.W.nsIn K mainGlobals "int" = some none) (zsum : PySem.W.nsIn K mainGlobals "sum" = some none) (zisinstance : PySem.W.nsIn K mainGlobals "isinstance" = some none) (zbool : PySem.W.nsIn K mainGlobals "bool" = some none) (zstr : PySem.W.nsIn K mainGlobals "str" = some none) (zrepr : PySem.W.nsIn K mainGlobals "repr" = some none) (zzip : PySem.W.nsIn K mainGlobals "zip" = some none) (zsorted : PySem.W.nsIn K mainGlobals "sorted" = some none)     :
  ∃ fd : FuncData, (∀ (s : Shared) (v : Value), BindsTo s fd ⟨[v], []⟩ [("_law_script", v)]) ∧ ∀ base : Heap, K.In base → base.Ns mainGlobals mg → FnOk l.prog w K mg base CX0 9 fa fd ["_law_script"] (spOf ⟨K, w⟩ 1 spLaw) := by
 obtain ⟨f, fd, a, F⟩ := dlaw.ex
 have e := hfa.symm.trans (PySem.W.mg_of X G a)
 cases e
 have T : Bl mg := ⟨PySem.W.mg_none_of X G zlen, PySem.W.mg_none_of X G zabs, PySem.W.mg_none_of X G zrange, PySem.W.mg_none_of X G zlist, PySem.W.mg_none_of X G ztuple, PySem.W.mg_none_of X G zint, PySem.W.mg_none_of X G zsum, PySem.W.mg_none_of X G zisinstance, PySem.W.mg_none_of X G zbool, PySem.W.mg_none_of X G zstr, PySem.W.mg_none_of X G zrepr, PySem.W.mg_none_of X G zzip, PySem.W.mg_none_of X G zsorted⟩
 have Dis_whole := dis_whole.m (ps := ["thing"]) X G fun f fd F => F.binds fun _ _ _ _ _ _ us hl => match us, hl with | [_], _ => rfl
 have Dis_whole_within := dis_whole_within.m (ps := ["thing", "least", "most"]) X G fun f fd F => F.binds fun _ _ _ _ _ _ us hl => match us, hl with | [_, _, _], _ => rfl
 have Dis_tuple_of := dis_tuple_of.m (ps := ["thing", "many"]) X G fun f fd F => F.binds fun _ _ _ _ _ _ us hl => match us, hl with | [_, _], _ => rfl
 have Dis_line := dis_line.m (ps := ["hall", "thing"]) X G fun f fd F => F.binds fun _ _ _ _ _ _ us hl => match us, hl with | [_, _], _ => rfl
 have Dis_lines := dis_lines.m (ps := ["hall", "thing"]) X G fun f fd F => F.binds fun _ _ _ _ _ _ us hl => match us, hl with | [_, _], _ => rfl
 have Dfirst_stand := dfirst_stand.m (ps := ["hall"]) X G fun f fd F => F.binds fun _ _ _ _ _ _ us hl => match us, hl with | [_], _ => rfl
 have Dis_turn := dis_turn.m (ps := ["hall", "rule", "thing"]) X G fun f fd F => F.binds fun _ _ _ _ _ _ us hl => match us, hl with | [_, _, _], _ => rfl
 have Dis_stand := dis_stand.m (ps := ["hall", "rule", "thing"]) X G fun f fd F => F.binds fun _ _ _ _ _ _ us hl => match us, hl with | [_, _, _], _ => rfl
 have Dis_order := dis_order.m (ps := ["hall", "thing"]) X G fun f fd F => F.binds fun _ _ _ _ _ _ us hl => match us, hl with | [_, _], _ => rfl
 have Dis_move := dis_move.m (ps := ["hall", "thing"]) X G fun f fd F => F.binds fun _ _ _ _ _ _ us hl => match us, hl with | [_, _], _ => rfl
 have Dis_run := dis_run.m (ps := ["hall", "thing"]) X G fun f fd F => F.binds fun _ _ _ _ _ _ us hl => match us, hl with | [_, _], _ => rfl
 have Dall_orders := dall_orders.m (ps := ["hall"]) X G fun f fd F => F.binds fun _ _ _ _ _ _ us hl => match us, hl with | [_], _ => rfl
 have D_law_feed := d_law_feed.m (ps := ["_law_script"]) X G fun f fd F => F.binds fun _ _ _ _ _ _ us hl => match us, hl with | [_], _ => rfl
 have D_law_draw := d_law_draw.m (ps := ["_law_feed_here", "_law_many"]) X G fun f fd F => F.binds fun _ _ _ _ _ _ us hl => match us, hl with | [_, _], _ => rfl
 have D_law_shuffled := d_law_shuffled.m (ps := ["_law_feed_here", "_law_some"]) X G fun f fd F => F.binds fun _ _ _ _ _ _ us hl => match us, hl with | [_, _], _ => rfl
 have D_law_cut := d_law_cut.m (ps := ["_law_top", "_law_bottom"]) X G fun f fd F => F.binds fun _ _ _ _ _ _ us hl => match us, hl with | [_, _], _ => rfl
 have D_law_hall := d_law_hall.m (ps := ["_law_feed_here", "_law_most"]) X G fun f fd F => F.binds fun _ _ _ _ _ _ us hl => match us, hl with | [_, _], _ => rfl
 have D_law_all := d_law_all.m (ps := ["_law_hall_here"]) X G fun f fd F => F.binds fun _ _ _ _ _ _ us hl => match us, hl with | [_], _ => rfl
 have D_law_rule := d_law_rule.m (ps := ["_law_feed_here", "_law_hall_here"]) X G fun f fd F => F.binds fun _ _ _ _ _ _ us hl => match us, hl with | [_, _], _ => rfl
 have D_law_move := d_law_move.m (ps := ["_law_feed_here", "_law_hall_here", "_law_way"]) X G fun f fd F => F.binds fun _ _ _ _ _ _ us hl => match us, hl with | [_, _, _], _ => rfl
 have D_law_run := d_law_run.m (ps := ["_law_feed_here", "_law_hall_here", "_law_many"]) X G fun f fd F => F.binds fun _ _ _ _ _ _ us hl => match us, hl with | [_, _, _], _ => rfl
 have D_law_bent := d_law_bent.m (ps := ["_law_feed_here", "_law_thing"]) X G fun f fd F => F.binds fun _ _ _ _ _ _ us hl => match us, hl with | [_, _], _ => rfl
 have D_law_is_whole := d_law_is_whole.m (ps := ["_law_thing"]) X G fun f fd F => F.binds fun _ _ _ _ _ _ us hl => match us, hl with | [_], _ => rfl
 have D_law_is_stand := d_law_is_stand.m (ps := ["_law_hall_here", "_law_rule_here", "_law_thing"]) X G fun f fd F => F.binds fun _ _ _ _ _ _ us hl => match us, hl with | [_, _, _], _ => rfl
 have D_law_is_move := d_law_is_move.m (ps := ["_law_hall_here", "_law_thing"]) X G fun f fd F => F.binds fun _ _ _ _ _ _ us hl => match us, hl with | [_, _], _ => rfl
 have D_law_is_run := d_law_is_run.m (ps := ["_law_hall_here", "_law_thing"]) X G fun f fd F => F.binds fun _ _ _ _ _ _ us hl => match us, hl with | [_, _], _ => rfl
 have D_law_right := d_law_right.m (ps := ["_law_hall_here", "_law_rule_here", "_law_thing"]) X G fun f fd F => F.binds fun _ _ _ _ _ _ us hl => match us, hl with | [_, _, _], _ => rfl
 have D_law_orders := d_law_orders.m (ps := ["_law_many"]) X G fun f fd F => F.binds fun _ _ _ _ _ _ us hl => match us, hl with | [_], _ => rfl
 refine ⟨fd, fun s v => ?_, fun base _ _ => ?_⟩
 ·obtain ⟨oc, od, kV, doc, pm, an, cdv, ct, osl, rfl, lk, hcd⟩ := F.ex
  exact .of_eq rfl
 ·have Gis_whole := okis_whole (P := l.prog) (w := w) (base := base) T Dis_whole
  have Gis_whole_within := okis_whole_within (P := l.prog) (w := w) (base := base) T Dis_whole_within Gis_whole
  have Gis_tuple_of := okis_tuple_of (P := l.prog) (w := w) (base := base) T Dis_tuple_of
  have Gis_line := okis_line (P := l.prog) (w := w) (base := base) T Dis_line Gis_whole_within
  have Gis_lines := okis_lines (P := l.prog) (w := w) (base := base) T Dis_lines Gis_tuple_of Gis_whole_within
  have Gfirst_stand := okfirst_stand (P := l.prog) (w := w) (base := base) T Dfirst_stand
  have Gis_turn := okis_turn (P := l.prog) (w := w) (base := base) T Dis_turn Gis_line Gis_whole
  have Gis_stand := okis_stand (P := l.prog) (w := w) (base := base) T Dis_stand Gis_tuple_of Gis_lines Gis_turn
  have Gis_order := okis_order (P := l.prog) (w := w) (base := base) T Dis_order Gis_tuple_of Gis_line
  have Gis_move := okis_move (P := l.prog) (w := w) (base := base) T Dis_move Gis_tuple_of Gis_order Gis_line
  have Gis_run := okis_run (P := l.prog) (w := w) (base := base) T Dis_run Gis_move
  have Gall_orders := okall_orders (P := l.prog) (w := w) (base := base) T Dall_orders
  have G_law_feed := ok_law_feed (P := l.prog) (w := w) (base := base) T D_law_feed
  have G_law_draw := ok_law_draw (P := l.prog) (w := w) (base := base) T D_law_draw
  have G_law_shuffled := ok_law_shuffled (P := l.prog) (w := w) (base := base) T D_law_shuffled G_law_draw
  have G_law_cut := ok_law_cut (P := l.prog) (w := w) (base := base) T D_law_cut
  have G_law_hall := ok_law_hall (P := l.prog) (w := w) (base := base) T D_law_hall G_law_draw G_law_cut
  have G_law_all := ok_law_all (P := l.prog) (w := w) (base := base) T D_law_all
  have G_law_rule := ok_law_rule (P := l.prog) (w := w) (base := base) T D_law_rule G_law_draw G_law_all
  have G_law_move := ok_law_move (P := l.prog) (w := w) (base := base) T D_law_move G_law_draw G_law_shuffled
  have G_law_run := ok_law_run (P := l.prog) (w := w) (base := base) T D_law_run G_law_draw G_law_move
  have G_law_bent := ok_law_bent (P := l.prog) (w := w) (base := base) T D_law_bent G_law_draw
  have G_law_is_whole := ok_law_is_whole (P := l.prog) (w := w) (base := base) T D_law_is_whole
  have G_law_is_stand := ok_law_is_stand (P := l.prog) (w := w) (base := base) T D_law_is_stand G_law_is_whole
  have G_law_is_move := ok_law_is_move (P := l.prog) (w := w) (base := base) T D_law_is_move G_law_is_whole
  have G_law_is_run := ok_law_is_run (P := l.prog) (w := w) (base := base) T D_law_is_run G_law_is_move
  have G_law_right := ok_law_right (P := l.prog) (w := w) (base := base) T D_law_right Gis_stand Gis_move Gis_run G_law_is_stand G_law_is_move G_law_is_run
  have G_law_orders := ok_law_orders (P := l.prog) (w := w) (base := base) T D_law_orders
  exact oklaw T F G_law_feed G_law_hall G_law_draw G_law_rule Gall_orders G_law_orders Gfirst_stand G_law_run G_law_move G_law_bent G_law_right
theorem walk {l : PySem.W.OpenLaw} {q : Program} {loose : List Str} {XP : (Str → Option Value) → Heap → Prop} {YP : World → Heap → Prop} {d : DefRec} {K : Params → PySem.W.Frag} (hq : PyProof.Rows.importsNone q = true) (hn : l.most = some 63) (hdf : d.params.defaults = [])
  (hY : ∀ (w : World) (h : Heap), YP w h → (K w.params).In h)
  (F : ∀ (w : World) (mg : Str → Option Value) (fa : Addr) (h : Heap), (K w.params).In h → h.Ns mainGlobals mg → mg d.name = some (.ref fa) →
   ∃ fd : FuncData, (∀ (s : Shared) (u : Value), BindsTo s fd ⟨[u], []⟩ [("_law_script", u)]) ∧ ∀ base : Heap, (K w.params).In base → base.Ns mainGlobals mg → FnOk l.prog w (K w.params) mg base CX0 9 fa fd ["_law_script"] (spOf ⟨K w.params, w⟩ 1 spLaw)) :
  PySem.W.WalkO q loose XP YP l.row.toRowW d [] (fun f vs => PySem.call f vs) :=
 L2.walk_of (n := 63) (k := 9) (x := "_law_script") (CX := fun _ => CX0) (sp := fun w => spOf ⟨K w.params, w⟩ 1 spLaw) hq hn (by decide) hdf ⟨rfl, by decide, by decide, rfl⟩ hY F
  (fun w H a ns hl hO hS => ⟨[.imm (.list (ns.map .int))], [], fun r _ => r = .imm (.bool true), rfl, List.nodup_nil, .imm (script_den hO hS) .nil, ⟨ns, rfl, hl, rfl⟩, fun r outs v H' k _ rr _ => by cases k; exact bl_of_den (show Den ⟨K w.params, w⟩ H' (.bool true) v from rr)⟩) fun _ _ _ _ _ z => z
end K
namespace PySem.W.Fast
def tw13452991956738020574:=0
def tw5718655886718468610:=0
def tw9644750650291705648:=0
def tw7027822074486949999:=0
def tw14223049699159047389:=0
def tw11809561003483130241:=0
def tw13604206981178671453:=0
def tw7929376587179191143:=0
def tw12478626172489513273:=0
def tw10218755759403513589:=0
def tw4255120334326324109:=0
def tw2102072594484756937:=0
def tw10099407742713839980:=0
def tw9052112587278457514:=0
def tw15356711194506950498:=0
def tw10968268297417364024:=0
def tw16960213219107643804:=0
def tw6203004600910091575:=0
def tw439505400381283757:=0
def tw7730162374430766738:=0
def tw5087502847074888044:=0
def tw203322454240571990:=0
def tw10277819771386074955:=0
def tw679728887328890277:=0
def tw16626857659287546445:=0
def tw13118285417675791834:=0
def tw12738465183798171021:=0
def tw1222267927217694593:=0
def tw1010032835128377331:=0
def tw8974273473185075309:=0
def tw4212154635038663101:=0
def tw7536711247734499929:=0
def tw4055121759361636286:=0
def tw269110161339919958:=0
def tw8435847665916179832:=0
def tw629525559015707057:=0
def tw14862800728422058939:=0
def tw3328791976838477404:=0
def tw2123534375707031347:=0
def tw12408014018909152741:=0
def tw15052579930660957766:=0
def tw72549464479923820:=0
def tw1898806441344903280:=0
def tw17928654951270541717:=0
def tw2396265140432516582:=0
def tw8720867244729046261:=0
def tw8845745649376409638:=0
def tw4810022259807107711:=0
def tw6295223515546309856:=0
def tw2458090677279825203:=0
def tw17643666199984855206:=0
def tw13113988950673501947:=0
def tw17631722702488712725:=0
def tw8740332424322543536:=0
def tw11471888525300120882:=0
def tw10402081350971926300:=0
def tw14615382105935084891:=0
def tw9558273641536177590:=0
def tw533890436278700866:=0
def tw5392307795072133821:=0
def tw4323378765001588163:=0
def tw6404224687150794127:=0
def tw12915194226498629933:=0
def tw298750466322737504:=0
def tw17809344181142877160:=0
def tw11060865381784018342:=0
def tw4529704472725483003:=0
def tw2991607338251514505:=0
def tw14461016727761549455:=0
def tw12485663911177771208:=0
def tw4141855169055750783:=0
end PySem.W.Fast
open PySem PySem.W PyProof.Rows
local macro_rules | `(tactic| walk_at "dk") => `(tactic| (refine' L2.DefK.of ?a ?l ?c ?k; (case a => k_is); (case l => k_is); (case c => k_is); (case k => k_is)))
set_option maxRecDepth 100000 in
set_option maxHeartbeats 0 in
theorem PySem.Challenge.cw_shorterline_k10_stands_moves_and_runs_by_holds : PySem.Challenge.rw_shorterline_k10_stands_moves_and_runs_by.Holds := by
 w_on; o_law; k_head; (case hw => w_witness2)
 k_fill
 refine K.walk (l := PySem.Challenge.rw_shorterline_k10_stands_moves_and_runs_by) ?hq rfl rfl (fun w h Y => PySem.W.kIn_of Y) ?F
 case hq => kernel_rfl
 case F =>
  intro w mg fa h KX G hmg
  refine' K.all_mk KX G hmg ?dis_whole ?dis_whole_within ?dis_tuple_of ?dis_line ?dis_lines ?dfirst_stand ?dis_turn ?dis_stand ?dis_order ?dis_move ?dis_run ?dall_orders ?d_law_feed ?d_law_draw ?d_law_shuffled ?d_law_cut ?d_law_hall ?d_law_all ?d_law_rule ?d_law_move ?d_law_run ?d_law_bent ?d_law_is_whole ?d_law_is_stand ?d_law_is_move ?d_law_is_run ?d_law_right ?d_law_orders ?dlaw ?zlen ?zabs ?zrange ?zlist ?ztuple ?zint ?zsum ?zisinstance ?zbool ?zstr ?zrepr ?zzip ?zsorted
  (case dis_whole => walk_at "dk")
  (case dis_whole_within => walk_at "dk")
  (case dis_tuple_of => walk_at "dk")
  (case dis_line => walk_at "dk")
  (case dis_lines => walk_at "dk")
  (case dfirst_stand => walk_at "dk")
  (case dis_turn => walk_at "dk")
  (case dis_stand => walk_at "dk")
  (case dis_order => walk_at "dk")
  (case dis_move => walk_at "dk")
  (case dis_run => walk_at "dk")
  (case dall_orders => walk_at "dk")
  (case d_law_feed => walk_at "dk")
  (case d_law_draw => walk_at "dk")
  (case d_law_shuffled => walk_at "dk")
  (case d_law_cut => walk_at "dk")
  (case d_law_hall => walk_at "dk")
  (case d_law_all => walk_at "dk")
  (case d_law_rule => walk_at "dk")
  (case d_law_move => walk_at "dk")
  (case d_law_run => walk_at "dk")
  (case d_law_bent => walk_at "dk")
  (case d_law_is_whole => walk_at "dk")
  (case d_law_is_stand => walk_at "dk")
  (case d_law_is_move => walk_at "dk")
  (case d_law_is_run => walk_at "dk")
  (case d_law_right => walk_at "dk")
  (case d_law_orders => walk_at "dk")
  (case dlaw => walk_at "dk")
  (case zlen => k_is)
  (case zabs => k_is)
  (case zrange => k_is)
  (case zlist => k_is)
  (case ztuple => k_is)
  (case zint => k_is)
  (case zsum => k_is)
  (case zisinstance => k_is)
  (case zbool => k_is)
  (case zstr => k_is)
  (case zrepr => k_is)
  (case zzip => k_is)
  (case zsorted => k_is)